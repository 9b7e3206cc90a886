import PyProof.Rows.All
import Wide.All
import OpenK.AllK
import Wide.FinOn
import Lean
import PyProof.EqAt
import PyProof.EqKinds
import PyProof.TupleCall
import PyProof.StationsW
import KE.IntBitsLaws
import PyProof.ExcClass2
import PyProof.ExcInit
import PyProof.InstStoreFacts
import PyProof.ExcArgsOwn
import PyProof.ExcAttrAll.ValueError
import KE.KNestM
import KE.IntTextLaws
import KE.KIsAll
import PyProof.Rows.EqDataRows
import PyProof.StrCalls2
import PyProof.Rows.StrSplitJoin
import KE.KIntText
import PyProof.StrBlockI
import PyProof.StrLawsIn
import PyProof.StrLawsIdx
import KE.KLam
import KE.KSortTup
import KE.KRevIter
import PyProof.Rows.SortWalk
import PyProof.Conv_int_bool
import PyProof.StrLawsChain
import PyProof.StrLawsTight
import PySem.Challenge.RW_weather_k72_reach
set_option Elab.async false
set_option linter.all false
set_option maxRecDepth 100000
namespace L2
open PySem PySem.Spec PyProof.Rows
noncomputable abbrev Key := Sum Int Str
noncomputable def keyIs : Key → Value → Bool
  | .inl k, v => Value.isInt k v
  | .inr x, v => Value.isStrOf x v
noncomputable def keyH (w : World) : Key → Int
  | .inl k => hashInt k
  | .inr x => hashStr w x
theorem keyIs_shape : ∀ {k : Key} {v : Value}, keyIs k v = true → (∃ i t, k = Sum.inl i ∧ v = Value.int i t) ∨ (∃ x t, k = Sum.inr x ∧ v = Value.str x t)
  | .inl i, v, h => by
    obtain ⟨t, e⟩ := Value.isInt_shape (k := i) (v := v) h
    exact .inl ⟨i, t, rfl, e⟩
  | .inr x, v, h => by
    obtain ⟨t, e⟩ := Value.isStrOf_shape (x := x) (v := v) h
    exact .inr ⟨x, t, rfl, e⟩
theorem keyIs_int (i : Int) (t : Tok) : keyIs (.inl i) (.int i t) = true := by simp [keyIs, Value.isInt]
theorem keyIs_str (x : Str) (t : Tok) : keyIs (.inr x) (.str x t) = true := by simp [keyIs, Value.isStrOf]
theorem key_ll (a b : Int) : decide ((Sum.inl a : Key) = Sum.inl b) = (a == b) := by
  by_cases e : a = b
  · subst e; simp
  · have h : ¬ (Sum.inl a : Key) = Sum.inl b := fun q => e (Sum.inl.inj q)
    rw [decide_eq_false h]
    exact (beq_eq_false_iff_ne.mpr e).symm
theorem key_rr (a b : Str) : decide ((Sum.inr a : Key) = Sum.inr b) = decide (a = b) := by
  by_cases e : a = b
  · subst e; simp
  · have h : ¬ (Sum.inr a : Key) = Sum.inr b := fun q => e (Sum.inr.inj q)
    rw [decide_eq_false h, decide_eq_false e]
theorem key_lr (a : Int) (b : Str) : decide ((Sum.inl a : Key) = Sum.inr b) = false := decide_eq_false (fun q => nomatch q)
theorem key_rl (a : Str) (b : Int) : decide ((Sum.inr a : Key) = Sum.inl b) = false := decide_eq_false (fun q => nomatch q)
noncomputable def mixKind (prog : Program) (w : World) : PySem.KeyKind prog w Key where
  is := keyIs
  hash := keyH w
  inj := fun v a b ha hb => by
    rcases keyIs_shape ha with ⟨i, t, rfl, rfl⟩ | ⟨x, t, rfl, rfl⟩
    · rcases keyIs_shape hb with ⟨j, u, rfl, e⟩ | ⟨y, u, rfl, e⟩
      · injection e with e1 _; rw [e1]
      · exact nomatch e
    · rcases keyIs_shape hb with ⟨j, u, rfl, e⟩ | ⟨y, u, rfl, e⟩
      · exact nomatch e
      · injection e with e1 _; rw [e1]
  byValue := fun k v h => by
    rcases keyIs_shape h with ⟨i, t, rfl, rfl⟩ | ⟨x, t, rfl, rfl⟩ <;> rfl
  pyHash := fun hv h => by
    rcases keyIs_shape hv with ⟨i, t, rfl, rfl⟩ | ⟨x, t, rfl, rfl⟩
    · exact wpAny_pyHash_int h
    · exact wpAny_pyHash_str h
  eqBool := fun hu hv h => by
    rcases keyIs_shape hu with ⟨i, t, rfl, rfl⟩ | ⟨x, t, rfl, rfl⟩
    · rcases keyIs_shape hv with ⟨j, u, rfl, rfl⟩ | ⟨y, u, rfl, rfl⟩
      · rw [key_ll] at h; exact wpAny_eqBool_int h
      · rw [key_lr] at h; exact SeqAt.EqAt.int_str i t y u _ _ _ _ h
    · rcases keyIs_shape hv with ⟨j, u, rfl, rfl⟩ | ⟨y, u, rfl, rfl⟩
      · rw [key_rl] at h; exact SeqAt.EqAt.str_int x t j u _ _ _ _ h
      · rw [key_rr] at h; exact wpAny_eqBool_str h
  «strs» := fun k x t v h => by
    rcases keyIs_shape h with ⟨i, u, rfl, e⟩ | ⟨y, u, rfl, e⟩
    · exact nomatch e
    · injection e with e1 _
      subst e1
      cases v <;> rfl
theorem mixKind_int (prog : Program) (w : World) (i : Int) (t : Tok) : (mixKind prog w).is (.inl i) (.int i t) = true := keyIs_int i t
theorem mixKind_str (prog : Program) (w : World) (x : Str) (t : Tok) : (mixKind prog w).is (.inr x) (.str x t) = true := keyIs_str x t
end L2
namespace L2
open PySem PySem.Spec PyProof.Rows
inductive V where
  | non | bl (b : Bool) | int (i : Int) | str (x : Str) | byt (b : Array UInt8) | flt (b : UInt64) | ref (a : Addr) | ty (n : String)
  deriving DecidableEq
noncomputable def RelV : V → Value → Prop
  | .non, u => u = Value.none
  | .bl b, u => u = Value.bool b
  | .int i, u => ∃ t, u = Value.int i t
  | .str x, u => ∃ t, u = Value.str x t
  | .byt b, u => ∃ t, u = Value.bytes b t
  | .flt b, u => ∃ t, u = Value.float b t
  | .ref a, u => u = Value.ref a
  | .ty n, u => u = Value.type n
noncomputable abbrev Vals : List V → List Value → Prop := Paired RelV
theorem Vals.length {xs : List V} {us : List Value} (r : Vals xs us) : xs.length = us.length := Paired.length r
theorem Vals.get : ∀ {xs : List V} {us : List Value} {i : Nat} {x : V}, Vals xs us → xs[i]? = some x → ∃ u, us[i]? = some u ∧ RelV x u
  | _, _, _, _, .nil, e => by simp at e
  | _, _, 0, _, .cons r _, e => by simp at e; subst e; exact ⟨_, rfl, r⟩
  | _, _, i + 1, x, .cons _ t, e => by
    obtain ⟨u, h1, h2⟩ := Vals.get (i := i) (x := x) t (by simpa using e)
    exact ⟨u, by simpa using h1, h2⟩
theorem Vals.set {x : V} {u : Value} (r : RelV x u) : ∀ {xs : List V} {us : List Value} (i : Nat), Vals xs us → Vals (xs.set i x) (us.set i u)
  | _, _, _, .nil => .nil
  | _, _, 0, .cons _ t => .cons r t
  | _, _, i + 1, .cons q t => .cons q (Vals.set r i t)
theorem Vals.append : ∀ {xs ys : List V} {us ws : List Value}, Vals xs us → Vals ys ws → Vals (xs ++ ys) (us ++ ws)
  | _, _, _, _, .nil, s => s
  | _, _, _, _, .cons r t, s => .cons r (Vals.append t s)
theorem Vals.take : ∀ {xs : List V} {us : List Value} (n : Nat), Vals xs us → Vals (xs.take n) (us.take n)
  | _, _, 0, _ => .nil
  | _, _, _ + 1, .nil => .nil
  | _, _, n + 1, .cons r t => .cons r (Vals.take n t)
theorem Vals.drop : ∀ {xs : List V} {us : List Value} (n : Nat), Vals xs us → Vals (xs.drop n) (us.drop n)
  | _, _, 0, r => r
  | _, _, _ + 1, .nil => .nil
  | _, _, n + 1, .cons _ t => Vals.drop n t
noncomputable def RelO : Option V → Option Value → Prop
  | some v, some u => RelV v u
  | none, none => True
  | _, _ => False
noncomputable def KV {κ : Type} : List (κ × V) → List (κ × Value) → Prop := Paired fun (p : κ × V) (q : κ × Value) => p.1 = q.1 ∧ RelV p.2 q.2
noncomputable def kV : Key → V
  | .inl i => .int i
  | .inr x => .str x
inductive HO where
  /-- a list -/
  | lst (xs : List V)
  /-- a tuple (never changes) -/
  | tup (xs : List V)
  /-- a dict whose keys are ints and texts; one whose keys are tuples of ints and texts (the empty one is both) -/
  | dK (kvs : List (Key × V)) | dT (kvs : List (List Key × V))
  /-- a set of ints: its members, its size -/
  | set (S : Int → Bool) (n : Nat)
  /-- an instance of the class at C, its dict at dx, its attributes -/
  | ins (C dx : Addr) (fs : List (Str × V))
  /-- the dict of the instance at x -/
  | own (x : Addr)
  /-- the dict of an exception -/
  | xd (fs : List (Str × V))
  /-- a bound method, f of x -/
  | met (f x : Addr)
  /-- a range object lo, lo + 1, .. below hi -/
  | rng (lo hi : Int)
  /-- a thing that is known to the object (the script; a dict while a loop walks it): read, never written while it is so -/
  | frz (o : Obj) (u : HO)
  /-- a code object's table -/
  | tbl (ps : Array Value)
  /-- any other thing, by what is true of its one object (a def of one's own: SetO a S n := HO.ext fun h => ..) -/
  | ext (φ : Heap → Prop)
noncomputable abbrev Hp := Addr → Option HO
noncomputable def upd (H : Hp) (a : Addr) (o : HO) : Hp := fun b => if b = a then some o else H b
theorem upd_same {H : Hp} {a : Addr} {o : HO} : upd H a o a = some o := by unfold upd; rw [if_pos rfl]
theorem upd_ne {H : Hp} {a b : Addr} {o : HO} (h : b ≠ a) : upd H a o b = H b := by unfold upd; rw [if_neg h]
theorem ne_of_none {H : Hp} {a b : Addr} {o : HO} (h : H a = some o) (h' : H b = none) : a ≠ b := by
  intro e; subst e; rw [h] at h'; cases h'
section
variable (P : Program) (w : World)
noncomputable def ObjOk (H : Hp) (h : Heap) (a : Addr) : HO → Prop
  | .lst xs => xs.length ≤ sizeLine ∧ ∃ (its : List Value) (n : Nat), Vals xs its ∧ h.get? a = some { cls := .type "list", data := .seq its.toArray n }
  | .tup xs => xs.length ≤ sizeLine ∧ ∃ its : List Value, Vals xs its ∧ IsTup h a its.toArray
  | .dK kvs => kvs.length ≤ sizeLine ∧ (a == sysModules) = false ∧ ∃ vs, KV kvs vs ∧ h.DictOf (mixKind P w) a vs
  | .dT kvs => kvs.length ≤ sizeLine ∧ (a == sysModules) = false ∧ ∃ xs : List (List Key × Addr × Value),
      Paired (fun (p : List Key × V) (q : List Key × Addr × Value) => p.1 = q.1 ∧ H q.2.1 = some (.tup (p.1.map kV)) ∧ RelV p.2 q.2.2) kvs xs ∧
      ∃ o es ep, h.get? a = some o ∧ o.ExactDict ∧ o.data = .dict es ep ∧ es.toList = xs.map (entryOfKey (tupleKind (mixKind P w))) ∧ (xs.map (·.1)).Nodup
  | .set S n => h.SetOf (intKind P w) a S n
  | .ins C dx fs => H dx = some (.own a) ∧ fs.length ≤ 1000 ∧ dx ≠ a ∧ h.get? a = some (PySem.W.instObj C dx) ∧
      ∃ mA, h.Ns1 dx mA ∧ (∀ f, RelO (fs.lookup f) (mA f)) ∧ PySem.Within mA (fs.map (·.1))
  | .own _ => ∃ o, h.get? a = some o
  | .xd fs => ∃ mA, h.Ns1 a mA ∧ ∀ f, RelO (fs.lookup f) (mA f)
  | .rng lo hi => ∃ t u v, h.get? a = some { cls := .type "range", data := .fields #[.int lo t, .int hi u, .int 1 v] }
  | .frz o u => h.get? a = some o ∧ ObjOk H h a u
  | .tbl ps => h.get? a = some { cls := .none, data := .fields ps }
  | .met f x => h.get? a = some (PySem.W.methodObj (.ref f) (.ref x))
  | .ext φ => φ h ∧ (∃ o, h.get? a = some o) ∧ ∀ h1 h2 : Heap, φ h1 → (∀ o, h1.get? a = some o → h2.get? a = some o) → φ h2
noncomputable def HOk (H : Hp) (h : Heap) : Prop := ∀ a o, H a = some o → ObjOk P w H h a o
end
section
variable {P : Program} {w : World} {H H' : Hp} {h h' : Heap} {a : Addr} {o : HO}
theorem ObjOk.lt (x : ObjOk P w H h a o) : a < h.objs.size := by
  cases o with
  | lst xs => obtain ⟨_, _, _, _, e⟩ := x; exact Heap.lt_size e
  | tup xs => obtain ⟨_, _, _, p⟩ := x; exact p.lt
  | dK kvs => obtain ⟨_, _, _, _, o, _, _, e, _⟩ := x; exact Heap.lt_size e
  | dT kvs => obtain ⟨_, _, _, _, o, _, _, e, _⟩ := x; exact Heap.lt_size e
  | set S n => obtain ⟨o, _, _, _, e, _⟩ := x; exact Heap.lt_size e
  | ins C dx fs => obtain ⟨_, _, _, e, _⟩ := x; exact Heap.lt_size e
  | own y => obtain ⟨_, e⟩ := x; exact Heap.lt_size e
  | xd fs => obtain ⟨_, ⟨_, _, _, e, _⟩, _⟩ := x; exact Heap.lt_size e
  | rng lo hi => obtain ⟨_, _, _, e⟩ := x; exact Heap.lt_size e
  | frz ob u => obtain ⟨e, _⟩ := x; exact Heap.lt_size e
  | tbl ps => exact Heap.lt_size (show h.get? a = some _ from x)
  | met f y => exact Heap.lt_size (show h.get? a = some _ from x)
  | ext φ => obtain ⟨_, ⟨_, e⟩, _⟩ := x; exact Heap.lt_size e
theorem Paired.mapP {α β : Type} {F G : α → β → Prop} : ∀ {l₁ : List α} {l₂ : List β}, Paired F l₁ l₂ → (∀ a b, F a b → G a b) → Paired G l₁ l₂
  | _, _, .nil, _ => .nil
  | _, _, .cons r t, f => .cons (f _ _ r) (Paired.mapP t f)
theorem ObjOk.stay (x : ObjOk P w H h a o) (k : ∀ b u, (b = a ∨ H b = some (.own a)) → h.get? b = some u → h'.get? b = some u)
    (ho : ∀ b, H b = some (.own a) → H' b = some (.own a)) (ht : ∀ b xs, H b = some (.tup xs) → H' b = some (.tup xs)) : ObjOk P w H' h' a o := by
  induction o with
  | lst xs => obtain ⟨z, its, n, r, e⟩ := x; exact ⟨z, its, n, r, k _ _ (.inl rfl) e⟩
  | tup xs => obtain ⟨z, its, r, ob, e, c⟩ := x; exact ⟨z, its, r, ob, k _ _ (.inl rfl) e, c⟩
  | dK kvs => obtain ⟨z, y, vs, r, ob, es, ep, e, c⟩ := x; exact ⟨z, y, vs, r, ob, es, ep, k _ _ (.inl rfl) e, c⟩
  | dT kvs =>
    obtain ⟨z, y, xs, r, ob, es, ep, e, c⟩ := x
    exact ⟨z, y, xs, Paired.mapP r fun p q z => ⟨z.1, ht _ _ z.2.1, z.2.2⟩, ob, es, ep, k _ _ (.inl rfl) e, c⟩
  | set S n => obtain ⟨ob, es, ep, t, e, c⟩ := x; exact ⟨ob, es, ep, t, k _ _ (.inl rfl) e, c⟩
  | ins C dx fs =>
    obtain ⟨d, z, ne, e, mA, ⟨od, es, ep, e2, c⟩, r⟩ := x
    exact ⟨ho _ d, z, ne, k _ _ (.inl rfl) e, mA, ⟨od, es, ep, k _ _ (.inr d) e2, c⟩, r⟩
  | own y => obtain ⟨ob, e⟩ := x; exact ⟨ob, k _ _ (.inl rfl) e⟩
  | xd fs => obtain ⟨mA, ⟨od, es, ep, e, c⟩, r⟩ := x; exact ⟨mA, ⟨od, es, ep, k _ _ (.inl rfl) e, c⟩, r⟩
  | rng lo hi => obtain ⟨t, u, v, e⟩ := x; exact ⟨t, u, v, k _ _ (.inl rfl) e⟩
  | frz ob u ih => obtain ⟨e, q⟩ := x; exact ⟨k _ _ (.inl rfl) e, ih q⟩
  | tbl ps =>
    have e : h.get? a = some { cls := .none, data := .fields ps } := x
    show h'.get? a = some { cls := .none, data := .fields ps }
    exact k a _ (.inl rfl) e
  | met f y =>
    have e : h.get? a = some (PySem.W.methodObj (.ref f) (.ref y)) := x
    show h'.get? a = some (PySem.W.methodObj (.ref f) (.ref y))
    exact k a _ (.inl rfl) e
  | ext φ => obtain ⟨p, ⟨o, e⟩, st⟩ := x; exact ⟨st _ _ p fun o q => k _ _ (.inl rfl) q, ⟨o, k _ _ (.inl rfl) e⟩, st⟩
theorem HOk.lt (x : HOk P w H h) (e : H a = some o) : a < h.objs.size := (x a o e).lt
theorem HOk.fresh (x : HOk P w H h) (e : h.objs.size ≤ a) : H a = none := by
  cases q : H a with
  | none => rfl
  | some u => exact absurd (Nat.lt_of_lt_of_le (x.lt q) e) (Nat.lt_irrefl _)
theorem HOk.kept (x : HOk P w H h) (k : ∀ b u, h.get? b = some u → h'.get? b = some u) : HOk P w H h' := fun a o e =>
  (x a o e).stay (fun b u _ q => k b u q) (fun _ q => q) fun _ _ q => q
theorem HOk.laid (x : HOk P w H h) (k : ∀ b u, h.get? b = some u → h'.get? b = some u) (hp : h.objs.size ≤ a) (new : ObjOk P w (upd H a o) h' a o) : HOk P w (upd H a o) h' := fun b u e => by
  have hn := x.fresh hp
  by_cases hb : b = a
  · subst hb; rw [upd_same] at e; cases e; exact new
  · rw [upd_ne hb] at e
    exact (x b u e).stay (fun c v _ q => k c v q) (fun c q => by rw [upd_ne (ne_of_none q hn)]; exact q) fun c xs q => by rw [upd_ne (ne_of_none q hn)]; exact q
end
noncomputable def Rd (H : Hp) (a : Addr) (u : HO) : Prop := H a = some u ∨ ∃ o, H a = some (.frz o u)
theorem Rd.of {H : Hp} {a : Addr} {u : HO} (h : H a = some u) : Rd H a u := .inl h
theorem Rd.ok {P : Program} {w : World} {H : Hp} {h : Heap} {a : Addr} {u : HO} (r : Rd H a u) (x : HOk P w H h) : ObjOk P w H h a u := by
  rcases r with r | ⟨o, r⟩
  · exact x a u r
  · obtain ⟨_, q⟩ := x a _ r
    exact q
noncomputable def Mut : Option HO → Prop
  | some (.lst _) => True
  | some (.dK _) => True
  | some (.dT _) => True
  | some (.set _ _) => True
  | some (.ins _ _ _) => True
  | some (.ext _) => True
  | _ => False
section
variable {P : Program} {w : World} {H : Hp} {h h' : Heap} {x e : Addr} {o' : HO}
theorem HOk.write (ok : HOk P w H h) (mu : Mut (H x)) (he : e = x ∨ H e = some (.own x)) (k : ∀ b u, b ≠ e → h.get? b = some u → h'.get? b = some u) (heo : ∃ u, h'.get? e = some u)
    (new : ObjOk P w (upd H x o') h' x o') : HOk P w (upd H x o') h' := fun b u q => by
  have nown : ∀ c y, H c = some (.own y) → c ≠ x := fun c y r z => by subst z; rw [r] at mu; exact mu
  have ntup : ∀ c xs, H c = some (.tup xs) → c ≠ x := fun c xs r z => by subst z; rw [r] at mu; exact mu
  by_cases hb : b = x
  · subst hb; rw [upd_same] at q; cases q; exact new
  · rw [upd_ne hb] at q
    by_cases hbe : b = e
    · have q' : H b = some (.own x) := by
        rcases he with z | z
        · exact absurd (hbe.trans z) hb
        · rw [hbe]; exact z
      rw [q] at q'; cases q'
      obtain ⟨v, hv⟩ := heo
      exact ⟨v, by rw [hbe]; exact hv⟩
    · refine (ok b u q).stay (fun c v hc r => k c v ?_ r) (fun c r => by rw [upd_ne (nown c b r)]; exact r) fun c xs r => by rw [upd_ne (ntup c xs r)]; exact r
      rcases hc with rfl | hc
      · exact hbe
      · rintro rfl
        rcases he with z | z
        · exact nown c b hc z
        · rw [hc] at z; cases z; exact hb rfl
end
structure Un (fs ex : List Addr) (H H' : Hp) (h h' : Heap) : Prop where
  keep : ∀ b o, h.get? b = some o → H b = none → b ∉ fs → b ∉ ex → h'.get? b = some o
  slot : ∀ b o, h.get? b = some o → H b = none → b ∈ fs → b ∉ ex → ∃ sl, h'.get? b = some { o with slots := sl }
  free : ∀ b o, h.get? b = some o → H b = none → b ∉ ex → H' b = none
  there : ∀ b o, h.get? b = some o → b ∉ ex → ∃ o', h'.get? b = some o'
  tups : ∀ b xs, H b = some (.tup xs) → H' b = some (.tup xs)
  frzs : ∀ b o u, H b = some (.frz o u) → H' b = some (.frz o u)
  tbls : ∀ b ps, H b = some (.tbl ps) → ∃ more, H' b = some (.tbl (ps ++ more))
section
variable {fs fs' ex ex' : List Addr} {H H1 H2 : Hp} {h h1 h2 h' : Heap} {a x e : Addr} {o : HO}
theorem Un.any (u : Un fs ex H H1 h h1) {b : Addr} {ob : Obj} (q : h.get? b = some ob) (n : H b = none) (hx : b ∉ ex) : ∃ sl, h1.get? b = some { ob with slots := sl } := by
  by_cases hb : b ∈ fs
  · exact u.slot b ob q n hb hx
  · exact ⟨ob.slots, u.keep b ob q n hb hx⟩
theorem Un.trans (a : Un fs ex H H1 h h1) (b : Un fs ex H1 H2 h1 h2) : Un fs ex H H2 h h2 where
  keep := fun c ob q n hc hx => b.keep c ob (a.keep c ob q n hc hx) (a.free c ob q n hx) hc hx
  slot := fun c ob q n hc hx => by
    obtain ⟨sl, e1⟩ := a.slot c ob q n hc hx
    obtain ⟨sl', e2⟩ := b.slot c _ e1 (a.free c ob q n hx) hc hx
    exact ⟨sl', e2⟩
  free := fun c ob q n hx => by
    obtain ⟨o', e1⟩ := a.there c ob q hx
    exact b.free c o' e1 (a.free c ob q n hx) hx
  there := fun c ob q hx => by
    obtain ⟨o', e1⟩ := a.there c ob q hx
    exact b.there c o' e1 hx
  tups := fun c xs q => b.tups c xs (a.tups c xs q)
  frzs := fun c ob xs q => b.frzs c ob xs (a.frzs c ob xs q)
  tbls := fun c ps q => by
    obtain ⟨m1, e1⟩ := a.tbls c ps q
    obtain ⟨m2, e2⟩ := b.tbls c _ e1
    exact ⟨m1 ++ m2, by rw [e2, Array.append_assoc]⟩
theorem Un.kept (k : ∀ b u, h.get? b = some u → h'.get? b = some u) : Un fs ex H H h h' :=
  ⟨fun b ob q _ _ _ => k b ob q, fun b ob q _ _ _ => ⟨ob.slots, k b ob q⟩, fun _ _ _ n _ => n, fun b ob q _ => ⟨ob, k b ob q⟩, fun _ _ q => q, fun _ _ _ q => q, fun _ ps q => ⟨#[], by rw [q]; simp⟩⟩
theorem Un.refl : Un fs ex H H h h := Un.kept fun _ _ q => q
theorem Un.laid (k : ∀ b u, h.get? b = some u → h'.get? b = some u) (hp : h.objs.size ≤ a) (hn : H a = none) : Un fs ex H (upd H a o) h h' where
  keep := fun b u q _ _ _ => k b u q
  slot := fun b u q _ _ _ => ⟨u.slots, k b u q⟩
  free := fun b u q n _ => by rw [upd_ne (Nat.ne_of_lt (Nat.lt_of_lt_of_le (Heap.lt_size q) hp))]; exact n
  there := fun b u q _ => ⟨u, k b u q⟩
  tups := fun b xs q => by rw [upd_ne (ne_of_none q hn)]; exact q
  frzs := fun b u xs q => by rw [upd_ne (ne_of_none q hn)]; exact q
  tbls := fun b ps q => ⟨#[], by rw [upd_ne (ne_of_none q hn), q]; simp⟩
theorem Un.write (mu : Mut (H x)) (he : e = x ∨ H e = some (.own x)) (k : ∀ b u, b ≠ e → h.get? b = some u → h'.get? b = some u) (heo : ∃ u, h'.get? e = some u) : Un fs ex H (upd H x o) h h' := by
  have hx : ∀ b, H b = none → b ≠ x := fun b n z => by subst z; rw [n] at mu; exact mu
  have hb : ∀ b, H b = none → b ≠ e := fun b n z => by
    subst z
    rcases he with r | r
    · exact hx b n r
    · rw [n] at r; cases r
  have hm : ∀ b u, H b = some u → ¬ Mut (some u) → b ≠ x := fun b u q nm z => by subst z; rw [q] at mu; exact nm mu
  refine ⟨fun b u q n _ _ => k b u (hb b n) q, fun b u q n _ _ => ⟨u.slots, k b u (hb b n) q⟩, fun b u q n _ => by rw [upd_ne (hx b n)]; exact n, fun b u q _ => ?_,
    fun b xs q => by rw [upd_ne (hm b _ q fun z => z)]; exact q, fun b u xs q => by rw [upd_ne (hm b _ q fun z => z)]; exact q, fun b ps q => ⟨#[], by rw [upd_ne (hm b _ q fun z => z), q]; simp⟩⟩
  by_cases hbe : b = e
  · subst hbe; exact heo
  · exact ⟨u, k b u hbe q⟩
theorem Un.mono (u : Un fs ex H H1 h h1) (hs : ∀ b ∈ fs, b ∈ fs') (hx : ∀ b ∈ ex, b ∈ ex') : Un fs' ex' H H1 h h1 :=
  ⟨fun b ob q n hb he => u.keep b ob q n (fun z => hb (hs b z)) fun z => he (hx b z), fun _ _ q n _ he => u.any q n fun z => he (hx _ z), fun b ob q n he => u.free b ob q n fun z => he (hx b z), fun b ob q he => u.there b ob q fun z => he (hx b z), u.tups, u.frzs, u.tbls⟩
end
noncomputable def trk (h : Heap) (H : Hp) : List Addr := (List.range h.objs.size).filter fun a => (H a).isSome
noncomputable def hidT (h : Heap) (H : Hp) : Heap := PySem.W.hideAll h (trk h H)
theorem hidT_size (h : Heap) (H : Hp) : (hidT h H).objs.size = h.objs.size := PySem.W.hideAll_size _ _
theorem hidT_get {h : Heap} {H : Hp} {b : Addr} {o : Obj} (e : h.get? b = some o) (n : H b = none) : (hidT h H).get? b = some o :=
  PySem.W.hideAll_get _ e fun hm => by
    have q : (H b).isSome = true := (List.mem_filter.mp hm).2
    rw [n] at q; simp at q
theorem of_hidT {h : Heap} {H : Hp} {b : Addr} {o : Obj} (e : (hidT h H).get? b = some o) : h.get? b = some o ∧ H b = none := by
  have e' : h.get? b = some o := PySem.W.of_hideAll (trk h H) e
  refine ⟨e', ?_⟩
  cases q : H b with
  | none => rfl
  | some x =>
    have hm : b ∈ trk h H := List.mem_filter.mpr ⟨List.mem_range.mpr (Heap.lt_size e'), by simp [q]⟩
    have z : (hidT h H).get? b = none := PySem.W.hideAll_none (trk h H) hm
    rw [z] at e; cases e
noncomputable def allNews (g h : Heap) (L : Addr) : List (Addr × Obj) := (List.range h.objs.size).filterMap fun a => if a = L ∨ (g.get? a).isSome = true then none else (h.get? a).map fun o => (a, o)
noncomputable def rest (g h : Heap) (L d : Addr) : List (Addr × Obj) := (allNews g h L).filter fun p => decide (p.1 ≠ d)
end L2
namespace L2
open PySem PySem.Spec PyProof.Rows
structure Mod (K : PySem.W.Frag) (mg : Str → Option Value) (base : Heap) : Prop where
  kin : K.In base
  glob : base.Ns mainGlobals mg
  blt : ∃ mb, base.Ns builtinsNs mb ∧ ∀ x : Str, x ≠ "__name__" → mb x = bootBuiltins x
  nolimit : base.NoLimit
structure Cx where
  prog : Program
  w : World
  K : PySem.W.Frag
  mg : Str → Option Value
  base : Heap
  A : Around
  N : List Str
  s₀ : Shared
  H₀ : Hp
  env : Env
  outer : List Env
  stack : List Env
  ex : List Addr
  fn : Str → Bool
  calm : Bool
  pn : List (Addr × Obj)
  xe : Value → Shared → Prop
noncomputable def frs (l : List Env) : List Addr := l.filterMap (·.frame)
noncomputable abbrev Cx.fs (X : Cx) : List Addr := frs X.outer
noncomputable def Vis (sc : Scope) (x : Str) : Prop := sc.names.lookup x = some .local ∨ sc.names.lookup x = some .cell ∨ sc.names.lookup x = some .free
noncomputable def Loc (sc : Scope) (x : Str) : Prop := sc.names.lookup x = some .local ∨ sc.names.lookup x = some .cell
noncomputable def Look (env : Env) (h : Heap) (m : Str → Option Value) (x : Str) (u : Value) : Prop :=
  (env.kindOf x = some .local ∧ m x = some u) ∨ ((env.kindOf x = some .cell ∨ env.kindOf x = some .free) ∧ ∃ c, env.cells.lookup x = some c ∧ h.IsCell c (some u))
structure Cx.Ok (X : Cx) : Prop where
  mod : Mod X.K X.mg X.base
  kind : X.env.scope.kind = .function
  glob : X.env.globals = mainGlobals
  blt : X.env.builtins = builtinsNs
  above : X.s₀.heap.objs.size ≤ X.env.locals
  inj : ∀ x y c, X.env.cells.lookup x = some c → X.env.cells.lookup y = some c → x = y
  has : ∀ x, (X.env.kindOf x = some .cell ∨ X.env.kindOf x = some .free) → ∃ c, X.env.cells.lookup x = some c
  cab : ∀ x c, X.fn x = true → X.env.cells.lookup x = some c → X.s₀.heap.objs.size ≤ c
  hd : X.calm = true → X.A.handled = none
  frames : X.A.frames = some X.stack
  stk : X.stack = X.outer ∨ (X.stack = X.env :: X.outer ∧ X.env.frame = some X.env.locals)
  exf : ∀ b ∈ X.ex, b ≠ X.env.locals ∧ ∀ x c, X.env.cells.lookup x = some c → c ≠ b
  bs : ∀ b o, X.base.get? b = some o → X.s₀.heap.get? b = some o ∧ X.H₀ b = none
  bsz : X.base.objs.size ≤ X.s₀.heap.objs.size
  noex : ∀ b o, X.base.get? b = some o → b ∉ X.ex
  exfs : ∀ b ∈ X.ex, b ∉ X.fs
  funs : X.s₀.heap.FunFrames X.base X.outer
  frf : ∀ b ∈ X.fs, X.H₀ b = none
structure Inv (X : Cx) (pins : List (Addr × Obj)) (σ : List (Option V)) (H : Hp) (s : Shared) : Prop where
  ok : X.Ok
  os : s.os = X.s₀.os
  bare : AllBare s.gens
  base : Un X.fs X.ex X.H₀ H X.s₀.heap s.heap
  loc : ∃ m, s.heap.Ns X.env.locals m ∧ ∀ (i : Nat) (x : Str) (v : V), X.N[i]? = some x → σ[i]? = some (some v) → Vis X.env.scope x → ∃ u, RelV v u ∧ Look X.env s.heap m x u
  cell : ∀ x c, X.env.cells.lookup x = some c → ∃ v, s.heap.IsCell c v
  free : H X.env.locals = none
  freeC : ∀ x c, X.env.cells.lookup x = some c → H c = none
  pin : ∀ p ∈ X.pn ++ pins, s.heap.get? p.1 = some p.2 ∧ H p.1 = none ∧ p.1 ≠ X.env.locals ∧ p.1 ∉ X.fs ∧ ∀ v, p.2.data ≠ .cell v
  hok : HOk X.prog X.w H s.heap
  len : σ.length = X.N.length
section
variable {X : Cx} {pins : List (Addr × Obj)} {σ : List (Option V)} {H H' : Hp} {s : Shared} {h' : Heap}
theorem Cx.Ok.nofr (ok : X.Ok) {b : Addr} {o : Obj} (e : X.base.get? b = some o) : b ∉ X.fs := fun hb => by
  have := (ok.funs.mem hb).1
  rw [e] at this; cases this
theorem Inv.bs (I : Inv X pins σ H s) : ∀ b o, X.base.get? b = some o → s.heap.get? b = some o ∧ H b = none := fun b o e =>
  ⟨I.base.keep b o (I.ok.bs b o e).1 (I.ok.bs b o e).2 (I.ok.nofr e) (I.ok.noex b o e), I.base.free b o (I.ok.bs b o e).1 (I.ok.bs b o e).2 (I.ok.noex b o e)⟩
theorem Inv.bk (I : Inv X pins σ H s) : ∀ b o, X.base.get? b = some o → s.heap.get? b = some o := fun b o e => (I.bs b o e).1
theorem Inv.mod (I : Inv X pins σ H s) : Mod X.K X.mg X.base := I.ok.mod
theorem Inv.kIn (I : Inv X pins σ H s) : X.K.In s.heap := I.ok.mod.kin.keeps I.bk
theorem Inv.nolimit (I : Inv X pins σ H s) : s.heap.NoLimit := I.ok.mod.nolimit.keeps I.bk
theorem Inv.fr (I : Inv X pins σ H s) : ∃ m, Fr X.base X.env.locals s.heap m :=
  let ⟨m, hn, _⟩ := I.loc
  ⟨m, hn, I.bk, Nat.le_trans I.ok.bsz I.ok.above⟩
theorem Inv.lt (I : Inv X pins σ H s) : X.env.locals < s.heap.objs.size := let ⟨_, hn, _⟩ := I.loc; hn.lt
theorem Inv.sz (I : Inv X pins σ H s) : X.s₀.heap.objs.size ≤ s.heap.objs.size := Nat.le_trans I.ok.above (Nat.le_of_lt I.lt)
theorem Inv.nofs (I : Inv X pins σ H s) {a : Addr} (h : s.heap.objs.size ≤ a) : a ∉ X.fs := fun hb => by
  obtain ⟨_, o, ho, _⟩ := I.ok.funs.mem hb
  exact absurd (Nat.lt_of_lt_of_le (Heap.lt_size ho) (Nat.le_trans I.sz h)) (Nat.lt_irrefl _)
theorem Inv.cne (I : Inv X pins σ H s) : ∀ x c, X.env.cells.lookup x = some c → c ≠ X.env.locals := fun x c e z => by
  obtain ⟨v, o, ho, hd⟩ := I.cell x c e
  obtain ⟨m, ⟨o', es, ep, ho', hd', _⟩, _⟩ := I.loc
  rw [z, ho'] at ho; cases ho; rw [hd'] at hd; cases hd
theorem Inv.funs (I : Inv X pins σ H s) : s.heap.FunFrames X.base X.outer := by
  have all : ∀ (l : List Env), (∀ b ∈ frs l, b ∈ X.fs) → X.s₀.heap.FunFrames X.base l → s.heap.FunFrames X.base l := by
    intro l
    induction l with
    | nil => intro _ _; trivial
    | cons env r ih =>
      intro hs hl
      obtain ⟨hk, ⟨L, o, hf, hn, ho, hd⟩, hr⟩ := hl
      have hL : L ∈ X.fs := hs L (by unfold frs; rw [List.filterMap_cons, hf]; exact List.mem_cons_self)
      obtain ⟨sl, e⟩ := I.base.slot L o ho (I.ok.frf L hL) hL fun z => I.ok.exfs L z hL
      exact ⟨hk, ⟨L, _, hf, hn, e, hd⟩, ih (fun b hb => hs b (by unfold frs; rw [List.filterMap_cons, hf]; exact List.mem_cons_of_mem _ hb)) hr⟩
  exact all X.outer (fun _ hb => hb) I.ok.funs
theorem Inv.stack (I : Inv X pins σ H s) : s.heap.FunFrames X.base X.stack := by
  rcases I.ok.stk with e | ⟨e, hf⟩
  · rw [e]; exact I.funs
  · rw [e]
    obtain ⟨m, hn, _⟩ := I.loc
    refine .cons (by rw [I.ok.kind]; decide) hf hn ?_ I.funs
    exact Heap.get?_none_of_le (Nat.le_trans I.ok.bsz I.ok.above)
theorem Inv.stkSub (I : Inv X pins σ H s) : ∀ b ∈ frs X.stack, b ∈ X.env.locals :: X.fs := fun b hb => by
  rcases I.ok.stk with e | ⟨e, hf⟩
  · rw [e] at hb; exact List.mem_cons_of_mem _ hb
  · rw [e] at hb
    unfold frs at hb
    rw [List.filterMap_cons, hf] at hb
    exact hb
theorem Inv.stkFree (I : Inv X pins σ H s) : ∀ b ∈ frs X.stack, H b = none := fun b hb => by
  rcases List.mem_cons.mp (I.stkSub b hb) with e | hb
  · rw [e]; exact I.free
  · obtain ⟨_, o, ho, _⟩ := I.ok.funs.mem hb
    exact I.base.free b o ho (I.ok.frf b hb) fun z => I.ok.exfs b z hb
theorem Inv.step {g' : Array GenState} {t' : Nat} {d' : Drawn} {ch : List Addr} (I : Inv X pins σ H s)
    (hch : ∀ b ∈ ch, (b ∈ X.ex ∨ X.s₀.heap.objs.size ≤ b) ∧ b ≠ X.env.locals ∧ (∀ x c, X.env.cells.lookup x = some c → c ≠ b) ∧ ∀ p ∈ X.pn ++ pins, p.1 ≠ b)
    (keep : ∀ b o, b ≠ X.env.locals → b ∉ X.fs → b ∉ ch → s.heap.get? b = some o → H b = none → h'.get? b = some o)
    (slot : ∀ b o, b ≠ X.env.locals → b ∈ X.fs → b ∉ ch → s.heap.get? b = some o → H b = none → ∃ sl, h'.get? b = some { o with slots := sl }) (free : ∀ b o, b ∉ ch → s.heap.get? b = some o → H b = none → H' b = none)
    (there : ∀ b o, b ∉ ch → s.heap.get? b = some o → ∃ o', h'.get? b = some o')
    (tups : ∀ b xs, H b = some (.tup xs) → H' b = some (.tup xs)) (frzs : ∀ b o u, H b = some (.frz o u) → H' b = some (.frz o u)) (tbls : ∀ b ps, H b = some (.tbl ps) → ∃ more, H' b = some (.tbl (ps ++ more)))
    (ns : ∀ m, s.heap.Ns X.env.locals m → h'.Ns X.env.locals m) (hok : HOk X.prog X.w H' h') (hg : AllBare g') :
    Inv X pins σ H' { s with heap := h', gens := g', drawn := d', toks := t' } := by
  have neL : ∀ b o, X.s₀.heap.get? b = some o → b ≠ X.env.locals := fun b o e => Nat.ne_of_lt (Nat.lt_of_lt_of_le (Heap.lt_size e) I.ok.above)
  have neC : ∀ b o, X.s₀.heap.get? b = some o → b ∉ X.ex → b ∉ ch := fun b o e hx hb => by
    rcases (hch b hb).1 with z | z
    · exact hx z
    · exact absurd (Nat.lt_of_lt_of_le (Heap.lt_size e) z) (Nat.lt_irrefl _)
  have cellK : ∀ x c, X.env.cells.lookup x = some c → ∀ v, s.heap.IsCell c v → h'.IsCell c v := fun x c e v ⟨o, ho, hd⟩ => by
    have nch : c ∉ ch := fun z => (hch c z).2.2.1 x c e rfl
    by_cases hc : c ∈ X.fs
    · obtain ⟨sl, q⟩ := slot c o (I.cne x c e) hc nch ho (I.freeC x c e)
      exact ⟨_, q, hd⟩
    · exact ⟨o, keep c o (I.cne x c e) hc nch ho (I.freeC x c e), hd⟩
  refine ⟨I.ok, I.os, hg, ⟨fun b o e n hb hx => ?_, fun b o e n hb hx => ?_, fun b o e n hx => ?_, fun b o e hx => ?_, fun b xs e => tups b xs (I.base.tups b xs e), fun b o xs e => frzs b o xs (I.base.frzs b o xs e), fun b ps e => ?_⟩, ?_, fun x c e => ?_, ?_, fun x c e => ?_, fun p hp => ?_, hok, I.len⟩
  · exact keep b o (neL b o e) hb (neC b o e hx) (I.base.keep b o e n hb hx) (I.base.free b o e n hx)
  · obtain ⟨sl, e1⟩ := I.base.slot b o e n hb hx
    obtain ⟨sl', e2⟩ := slot b _ (neL b o e) hb (neC b o e hx) e1 (I.base.free b o e n hx)
    exact ⟨sl', e2⟩
  · obtain ⟨o', e1⟩ := I.base.there b o e hx
    exact free b o' (neC b o e hx) e1 (I.base.free b o e n hx)
  · obtain ⟨o', e1⟩ := I.base.there b o e hx
    exact there b o' (neC b o e hx) e1
  · obtain ⟨m1, e1⟩ := I.base.tbls b ps e
    obtain ⟨m2, e2⟩ := tbls b _ e1
    exact ⟨m1 ++ m2, by rw [e2, Array.append_assoc]⟩
  · obtain ⟨m, hn, hl⟩ := I.loc
    refine ⟨m, ns m hn, fun i x v e1 e2 e3 => ?_⟩
    obtain ⟨u, r, l⟩ := hl i x v e1 e2 e3
    refine ⟨u, r, ?_⟩
    rcases l with l | ⟨k, c, e, z⟩
    · exact .inl l
    · exact .inr ⟨k, c, e, cellK x c e _ z⟩
  · obtain ⟨v, z⟩ := I.cell x c e
    exact ⟨v, cellK x c e v z⟩
  · obtain ⟨m, ⟨o, _, _, ho, _⟩, _⟩ := I.loc
    exact free _ o (fun z => (hch _ z).2.1 rfl) ho I.free
  · obtain ⟨v, o, ho, hd⟩ := I.cell x c e
    exact free c o (fun z => (hch c z).2.2.1 x c e rfl) ho (I.freeC x c e)
  · obtain ⟨e, n, ne, nf, d⟩ := I.pin p hp
    have nch : p.1 ∉ ch := fun z => (hch p.1 z).2.2.2 p hp rfl
    exact ⟨keep p.1 p.2 ne nf nch e n, free p.1 p.2 nch e n, ne, nf, d⟩
theorem Inv.un {t' : Nat} (I : Inv X pins σ H s) (u : Un X.fs [] H H' s.heap h') (hok : HOk X.prog X.w H' h') : Inv X pins σ H' { s with heap := h', toks := t' } := by
  obtain ⟨m, ⟨o, es, ep, ho, r⟩, _⟩ := id I.loc
  obtain ⟨sl, hL⟩ := u.any ho I.free (by simp)
  exact I.step (g' := s.gens) (d' := s.drawn) (ch := []) (fun _ z => nomatch z) (fun b o _ hb _ e n => u.keep b o e n hb (by simp)) (fun b o _ hb _ e n => u.slot b o e n hb (by simp)) (fun b o _ e n => u.free b o e n (by simp)) (fun b o _ e => u.there b o e (by simp)) u.tups u.frzs u.tbls (fun m' hm => by
    obtain ⟨o', es', ep', ho', r'⟩ := hm
    rw [ho] at ho'; cases ho'
    exact ⟨_, es', ep', hL, r'⟩) hok I.bare
theorem Inv.call {g' : Array GenState} {t' : Nat} {d' : Drawn} {ch : List Addr} (I : Inv X pins σ H s) (u : Un (frs X.stack) ch H H' s.heap h') (hok : HOk X.prog X.w H' h') (hg : AllBare g')
    (hch : ∀ b ∈ ch, (b ∈ X.ex ∨ X.s₀.heap.objs.size ≤ b) ∧ b ≠ X.env.locals ∧ (∀ x c, X.env.cells.lookup x = some c → c ≠ b) ∧ ∀ p ∈ X.pn ++ pins, p.1 ≠ b) :
    Inv X pins σ H' { s with heap := h', gens := g', drawn := d', toks := t' } := by
  obtain ⟨m, ⟨o, es, ep, ho, r⟩, _⟩ := id I.loc
  obtain ⟨sl, hL⟩ := u.any ho I.free fun z => (hch _ z).2.1 rfl
  exact I.step (ch := ch) hch (fun b o hL hb hc e n => u.keep b o e n (fun z => (List.mem_cons.mp (I.stkSub b z)).elim hL hb) hc) (fun b o _ _ hc e n => u.any e n hc) (fun b o hc e n => u.free b o e n hc) (fun b o hc e => u.there b o e hc) u.tups u.frzs u.tbls (fun m' hm => by
    obtain ⟨o', es', ep', ho', r'⟩ := hm
    rw [ho] at ho'; cases ho'
    exact ⟨_, es', ep', hL, r'⟩) hok hg
theorem Inv.turned {t' : Nat} {it : Addr} (I : Inv X pins σ H s) (k : ∀ b o, b ≠ it → s.heap.get? b = some o → h'.get? b = some o) (hn : H it = none) (hL : it ≠ X.env.locals)
    (h1 : it ∈ X.ex ∨ X.s₀.heap.objs.size ≤ it) (h2 : ∀ x c, X.env.cells.lookup x = some c → c ≠ it) (h3 : ∀ p ∈ X.pn ++ pins, p.1 ≠ it) : Inv X pins σ H { s with heap := h', toks := t' } := by
  have nit : ∀ b u, H b = some u → b ≠ it := fun b u e z => by rw [z, hn] at e; cases e
  refine I.step (g' := s.gens) (d' := s.drawn) (ch := [it]) (fun b hb => ?_) (fun b o _ _ hc e _ => k b o (fun z => hc (by simp [z])) e) (fun b o _ _ hc e _ => ⟨o.slots, k b o (fun z => hc (by simp [z])) e⟩) (fun _ _ _ _ n => n)
    (fun b o hc e => ⟨o, k b o (fun z => hc (by simp [z])) e⟩) (fun _ _ e => e) (fun _ _ _ e => e) (fun b ps e => ⟨#[], by rw [e]; simp⟩) (fun m hm => ?_) (fun b u e => ?_) I.bare
  · have e : b = it := by simpa using hb
    subst e
    exact ⟨h1, hL, h2, h3⟩
  · obtain ⟨o, es, ep, ho, r⟩ := hm
    exact ⟨o, es, ep, k _ o (Ne.symm hL) ho, r⟩
  · refine (I.hok b u e).stay (fun c v hc q => k c v ?_ q) (fun _ q => q) fun _ _ q => q
    rcases hc with z | z
    · rw [z]; exact nit b u e
    · exact nit c _ z
theorem Inv.tok (I : Inv X pins σ H s) (t : Nat) : Inv X pins σ H { s with toks := t } := I.un (h' := s.heap) (t' := t) Un.refl I.hok
theorem Inv.kept {t' : Nat} (I : Inv X pins σ H s) (k : ∀ b u, s.heap.get? b = some u → h'.get? b = some u) : Inv X pins σ H { s with heap := h', toks := t' } := I.un (Un.kept k) (I.hok.kept k)
theorem Inv.laid {a : Addr} {o : HO} {t' : Nat} (I : Inv X pins σ H s) (k : ∀ b u, s.heap.get? b = some u → h'.get? b = some u) (hp : s.heap.objs.size ≤ a) (new : ObjOk X.prog X.w (upd H a o) h' a o) :
    Inv X pins σ (upd H a o) { s with heap := h', toks := t' } := I.un (Un.laid k hp (I.hok.fresh hp)) (I.hok.laid k hp new)
theorem Inv.write {x e : Addr} {o : HO} {t' : Nat} (I : Inv X pins σ H s) (mu : Mut (H x)) (he : e = x ∨ H e = some (.own x)) (k : ∀ b u, b ≠ e → s.heap.get? b = some u → h'.get? b = some u) (heo : ∃ u, h'.get? e = some u)
    (new : ObjOk X.prog X.w (upd H x o) h' x o) : Inv X pins σ (upd H x o) { s with heap := h', toks := t' } := I.un (Un.write mu he k heo) (I.hok.write mu he k heo new)
theorem Inv.weak {σ' : List (Option V)} (I : Inv X pins σ H s) (hl : σ'.length = σ.length) (w : ∀ (i : Nat) v, σ'[i]? = some (some v) → σ[i]? = some (some v)) : Inv X pins σ' H s :=
  ⟨I.ok, I.os, I.bare, I.base, let ⟨m, hn, hl'⟩ := I.loc; ⟨m, hn, fun i x v e1 e2 e3 => hl' i x v e1 (w i v e2) e3⟩, I.cell, I.free, I.freeC, I.pin, I.hok, hl.trans I.len⟩
theorem Inv.pins_of {pins' : List (Addr × Obj)} (I : Inv X pins σ H s) (h : ∀ p ∈ pins', s.heap.get? p.1 = some p.2 ∧ H p.1 = none ∧ p.1 ≠ X.env.locals ∧ p.1 ∉ X.fs ∧ ∀ v, p.2.data ≠ .cell v) : Inv X pins' σ H s :=
  ⟨I.ok, I.os, I.bare, I.base, I.loc, I.cell, I.free, I.freeC, fun p hp => (List.mem_append.mp hp).elim (fun z => I.pin p (List.mem_append_left _ z)) (h p), I.hok, I.len⟩
theorem nodup_ix {N : List Str} (hN : N.Nodup) {i j : Nat} {x : Str} (a : N[i]? = some x) (b : N[j]? = some x) : i = j := by
  obtain ⟨h1, e1⟩ := List.getElem?_eq_some_iff.mp a
  obtain ⟨h2, e2⟩ := List.getElem?_eq_some_iff.mp b
  exact (List.getElem_inj hN).mp (e1.trans e2.symm)
theorem store_ok2 {M : Model} {A : Around} {E : Value → Shared → Prop} {i : Nat} {x : Str} {v : V} {u : Value} {Q : Unit → Shared → Prop} (I : Inv X pins σ H s) (hN : X.N.Nodup) (hi : X.N[i]? = some x) (hx : Loc X.env.scope x) (r : RelV v u)
    (h : ∀ s', Inv X pins (σ.set i (some v)) H s' → (∃ a, Heap.SameBut a s.heap s'.heap ∧ (a = X.env.locals ∨ X.env.cells.lookup x = some a)) → Q () s') (hf : X.fn x = true ∨ X.env.scope.names.lookup x = some .local := by first | exact .inl rfl | exact .inr rfl | assumption) : wpAny M A (storeName X.env x u) Q E s := by
  obtain ⟨m, hn, hl⟩ := id I.loc
  have hcls : (X.env.scope.kind == .class || (X.env.scope.kind == .module && X.env.locals != X.env.globals)) = false := by rw [I.ok.kind]; rfl
  have hiσ : i < σ.length := by rw [I.len]; exact (List.getElem?_eq_some_iff.mp hi).1
  have cne := I.cne
  have tracked : ∀ {a : Addr} {h' : Heap}, (∃ o, s.heap.get? a = some o ∧ H a = none) → Heap.SameBut a s.heap h' → HOk X.prog X.w H h' := fun {a h'} ha hs b ob e => by
    obtain ⟨_, _, hfree⟩ := ha
    refine (I.hok b ob e).stay (fun c w' hc q => (hs.2 c ?_).trans q) (fun _ q => q) fun _ _ q => q
    rintro rfl
    rcases hc with rfl | hc
    · rw [hfree] at e; cases e
    · rw [hfree] at hc; cases hc
  rcases hx with hk | hk
  · refine wpAny_storeName_local hk hn (fun h' hn' hs => ?_) hcls
    obtain ⟨oL, _, _, hoL, _⟩ := id hn
    refine h _ ⟨I.ok, I.os, I.bare, ⟨fun b o e n hb hx => ?_, fun b o e n hb hx => ?_, I.base.free, fun b o e hx => ?_, I.base.tups, I.base.frzs, I.base.tbls⟩, ⟨_, hn', fun j y v' e1 e2 e3 => ?_⟩, fun y c e => ?_, I.free, I.freeC, fun p hp => ?_, tracked ⟨oL, hoL, I.free⟩ hs, by simpa using I.len⟩ ⟨_, hs, .inl rfl⟩
    · exact (hs.2 b (Nat.ne_of_lt (Nat.lt_of_lt_of_le (Heap.lt_size e) I.ok.above))).trans (I.base.keep b o e n hb hx)
    · obtain ⟨sl, e1⟩ := I.base.slot b o e n hb hx
      exact ⟨sl, (hs.2 b (Nat.ne_of_lt (Nat.lt_of_lt_of_le (Heap.lt_size e) I.ok.above))).trans e1⟩
    · obtain ⟨o', e1⟩ := I.base.there b o e hx
      exact ⟨o', (hs.2 b (Nat.ne_of_lt (Nat.lt_of_lt_of_le (Heap.lt_size e) I.ok.above))).trans e1⟩
    · by_cases hj : j = i
      · subst hj
        rw [hi] at e1; cases e1
        rw [List.getElem?_set_self hiσ] at e2
        cases e2
        exact ⟨u, r, .inl ⟨hk, by simp⟩⟩
      · rw [List.getElem?_set_ne (Ne.symm hj)] at e2
        obtain ⟨u', r', q⟩ := hl j y v' e1 e2 e3
        refine ⟨u', r', ?_⟩
        rcases q with ⟨k, e⟩ | ⟨k, c, e, z⟩
        · refine .inl ⟨k, ?_⟩
          have : y ≠ x := fun e => hj (nodup_ix hN e1 (e ▸ hi))
          simp [this, e]
        · exact .inr ⟨k, c, e, z.sameBut hs (cne y c e)⟩
    · obtain ⟨w', z⟩ := I.cell y c e
      exact ⟨w', z.sameBut hs (cne y c e)⟩
    · obtain ⟨e, n, ne, nf, d⟩ := I.pin p hp
      exact ⟨(hs.2 p.1 ne).trans e, n, ne, nf, d⟩
  · have hfn : X.fn x = true := by
      rcases hf with z | z
      · exact z
      · rw [z] at hk; cases hk
    obtain ⟨c, hc⟩ := I.ok.has x (.inl hk)
    obtain ⟨w', z⟩ := I.cell x c hc
    refine wpAny_storeName_cell I.ok.kind hk hc z (fun h' hc' hs => ?_)
    obtain ⟨oc, hoc, hocd⟩ := id z
    refine h { s with heap := h' } ⟨I.ok, I.os, I.bare, ⟨fun b o e n hb hx => ?_, fun b o e n hb hx => ?_, I.base.free, fun b o e hx => ?_, I.base.tups, I.base.frzs, I.base.tbls⟩, ⟨m, hn.sameBut hs (Ne.symm (cne x c hc)), fun j y v' e1 e2 e3 => ?_⟩, fun y c' e => ?_, I.free, I.freeC, fun p hp => ?_, tracked ⟨oc, hoc, I.freeC x c hc⟩ hs, by simpa using I.len⟩ ⟨c, hs, .inr hc⟩
    · exact (hs.2 b (Nat.ne_of_lt (Nat.lt_of_lt_of_le (Heap.lt_size e) (I.ok.cab x c hfn hc)))).trans (I.base.keep b o e n hb hx)
    · obtain ⟨sl, e1⟩ := I.base.slot b o e n hb hx
      exact ⟨sl, (hs.2 b (Nat.ne_of_lt (Nat.lt_of_lt_of_le (Heap.lt_size e) (I.ok.cab x c hfn hc)))).trans e1⟩
    · obtain ⟨o', e1⟩ := I.base.there b o e hx
      exact ⟨o', (hs.2 b (Nat.ne_of_lt (Nat.lt_of_lt_of_le (Heap.lt_size e) (I.ok.cab x c hfn hc)))).trans e1⟩
    · by_cases hj : j = i
      · subst hj
        rw [hi] at e1; cases e1
        rw [List.getElem?_set_self hiσ] at e2
        cases e2
        exact ⟨u, r, .inr ⟨.inl hk, c, hc, hc'⟩⟩
      · rw [List.getElem?_set_ne (Ne.symm hj)] at e2
        obtain ⟨u', r', q⟩ := hl j y v' e1 e2 e3
        refine ⟨u', r', ?_⟩
        rcases q with q | ⟨k, c', e, z'⟩
        · exact .inl q
        · refine .inr ⟨k, c', e, z'.sameBut hs ?_⟩
          rintro rfl
          exact hj (nodup_ix hN e1 (I.ok.inj _ _ _ e hc ▸ hi))
    · by_cases hcc : c' = c
      · subst hcc; exact ⟨_, hc'⟩
      · obtain ⟨w2, z2⟩ := I.cell y c' e
        exact ⟨w2, z2.sameBut hs hcc⟩
    · obtain ⟨e, n, ne, nf, d⟩ := I.pin p hp
      refine ⟨(hs.2 p.1 ?_).trans e, n, ne, nf, d⟩
      intro q
      rw [q, hoc] at e
      have q' : oc = p.2 := Option.some.inj e
      exact d w' (by rw [← q']; exact hocd)
theorem store_ok {M : Model} {A : Around} {E : Value → Shared → Prop} {i : Nat} {x : Str} {v : V} {u : Value} {Q : Unit → Shared → Prop} (I : Inv X pins σ H s) (hN : X.N.Nodup) (hi : X.N[i]? = some x) (hx : Loc X.env.scope x) (r : RelV v u)
    (h : ∀ s', Inv X pins (σ.set i (some v)) H s' → Q () s') (hf : X.fn x = true ∨ X.env.scope.names.lookup x = some .local := by first | exact .inl rfl | exact .inr rfl | assumption) : wpAny M A (storeName X.env x u) Q E s :=
  store_ok2 I hN hi hx r (fun s' I' _ => h s' I') hf
theorem Inv.call' {s' : Shared} {ch : List Addr} (I : Inv X pins σ H s) (ho : s'.os = s.os) (u : Un (frs X.stack) ch H H' s.heap s'.heap) (hok : HOk X.prog X.w H' s'.heap) (hg : AllBare s'.gens)
    (hch : ∀ b ∈ ch, (b ∈ X.ex ∨ X.s₀.heap.objs.size ≤ b) ∧ b ≠ X.env.locals ∧ (∀ x c, X.env.cells.lookup x = some c → c ≠ b) ∧ ∀ p ∈ X.pn ++ pins, p.1 ≠ b) : Inv X pins σ H' s' := by
  obtain ⟨h', g', d', t', o'⟩ := s'
  have e : o' = s.os := ho
  subst e
  exact I.call (g' := g') (t' := t') (d' := d') u hok hg hch
end
noncomputable abbrev XK := Value → Option Addr → Hp → Prop
noncomputable abbrev St := List (Option V)
noncomputable abbrev VK := V → Hp → Prop
noncomputable abbrev TE := St → Hp → VK → Prop
noncomputable abbrev TT := St → Hp → (Bool → Hp → Prop) → Prop
noncomputable abbrev TA := St → Hp → (List V → Hp → Prop) → Prop
structure Ends where
  nx : St → Hp → Prop
  rt : VK
  bk : St → Hp → Prop := fun _ _ => False
  ct : St → Hp → Prop := fun _ _ => False
noncomputable abbrev TS := Ends → St → Hp → Prop
noncomputable def EP (X : Cx) (pins : List (Addr × Obj)) (σ : St) (Q : VK) (u : Value) (s' : Shared) : Prop := ∃ v H', Inv X pins σ H' s' ∧ RelV v u ∧ Q v H'
noncomputable def TP (X : Cx) (pins : List (Addr × Obj)) (σ : St) (Q : Bool → Hp → Prop) (b : Bool) (s' : Shared) : Prop := ∃ H', Inv X pins σ H' s' ∧ Q b H'
noncomputable def AP (X : Cx) (pins : List (Addr × Obj)) (σ : St) (Q : List V → Hp → Prop) (us : List Value) (s' : Shared) : Prop := ∃ vs H', Inv X pins σ H' s' ∧ Vals vs us ∧ Q vs H'
noncomputable def SP (X : Cx) (pins : List (Addr × Obj)) (D : Ends) (f : Flow) (s' : Shared) : Prop :=
  match f with
  | .next => ∃ σ' H', Inv X pins σ' H' s' ∧ D.nx σ' H'
  | .brk => ∃ σ' H', Inv X pins σ' H' s' ∧ D.bk σ' H'
  | .cont => ∃ σ' H', Inv X pins σ' H' s' ∧ D.ct σ' H'
  | .ret u => ∃ v σ' H', Inv X pins σ' H' s' ∧ RelV v u ∧ D.rt v H'
noncomputable def PE (X : Cx) (e : Expr) (t : TE) : Prop :=
  ∀ (pins : List (Addr × Obj)) (s : Shared) (σ : St) (H : Hp) (Q : VK), Inv X pins σ H s → t σ H Q → wpAny (model X.prog X.w) X.A (eval e X.env) (EP X pins σ Q) X.xe s
noncomputable def PT (X : Cx) (e : Expr) (t : TT) : Prop :=
  ∀ (pins : List (Addr × Obj)) (s : Shared) (σ : St) (H : Hp) (Q : Bool → Hp → Prop), Inv X pins σ H s → t σ H Q → wpAny (model X.prog X.w) X.A (isTrue e X.env (eval e X.env)) (TP X pins σ Q) X.xe s
noncomputable def PW (X : Cx) (e : Expr) (t : TT) : Prop :=
  ∀ (whole : Sem Value) (pins : List (Addr × Obj)) (s : Shared) (σ : St) (H : Hp) (Q : Bool → Hp → Prop), Inv X pins σ H s → t σ H Q → wpAny (model X.prog X.w) X.A (isTrue e X.env whole) (TP X pins σ Q) X.xe s
theorem PW.pt {X : Cx} {e : Expr} {t : TT} (h : PW X e t) : PT X e t := h _
noncomputable def PA (X : Cx) (es : List Expr) (t : TA) : Prop :=
  ∀ (pos : Pos) (pins : List (Addr × Obj)) (s : Shared) (σ : St) (H : Hp) (Q : List V → Hp → Prop), Inv X pins σ H s → t σ H Q → wpAny (model X.prog X.w) X.A (spliced (backTo pos (starEach es X.env))) (AP X pins σ Q) X.xe s
noncomputable def PS (X : Cx) (st : Stmt) (t : TS) : Prop :=
  ∀ (pins : List (Addr × Obj)) (s : Shared) (σ : St) (H : Hp) (D : Ends), Inv X pins σ H s → t D σ H → wpAny (model X.prog X.w) X.A (exec st X.env) (SP X pins D) X.xe s
noncomputable def PSs (X : Cx) (st : List Stmt) (t : TS) : Prop :=
  ∀ (pins : List (Addr × Obj)) (s : Shared) (σ : St) (H : Hp) (D : Ends), Inv X pins σ H s → t D σ H → wpAny (model X.prog X.w) X.A (execs st X.env) (SP X pins D) X.xe s
theorem thn {α : Type} {t : Sem α} {Q Q' : α → Shared → Prop} {M : Model} {A : Around} {E : Value → Shared → Prop} {s : Shared} (h : wpAny M A t Q E s) (hQ : ∀ a s, Q a s → Q' a s) : wpAny M A t Q' E s := wpAny_mono h hQ fun _ _ x => x
end L2
namespace L2
open PySem PySem.Spec PyProof.Rows
section
variable {X : Cx}
theorem bin {a b : Expr} {ta tb : TE} (ha : PE X a ta) (hb : PE X b tb) {pins : List (Addr × Obj)} {s : Shared} {σ : St} {H : Hp} {R : V → V → Hp → Prop} (I : Inv X pins σ H s) (h : ta σ H fun x H1 => tb σ H1 fun y H2 => R x y H2)
    {α : Type} {Q : α → Shared → Prop} {f : Value → Value → Sem α}
    (hf : ∀ v u s2 x y H2, Inv X pins σ H2 s2 → RelV x v → RelV y u → R x y H2 → wpAny (model X.prog X.w) X.A (f v u) Q X.xe s2) :
    wpAny (model X.prog X.w) X.A (eval a X.env) (fun v s₁ => wpAny (model X.prog X.w) X.A (eval b X.env) (fun u s₂ => wpAny (model X.prog X.w) X.A (f v u) Q X.xe s₂) X.xe s₁) X.xe s := by
  refine thn (ha pins s σ H _ I h) fun v s1 ⟨x, H1, I1, r1, q1⟩ => ?_
  refine thn (hb pins s1 σ H1 _ I1 q1) fun u s2 ⟨y, H2, I2, r2, q2⟩ => ?_
  exact hf v u s2 x y H2 I2 r1 r2 q2
noncomputable def tVar (i : Nat) : TE := fun σ H Q => ∃ v, σ[i]? = some (some v) ∧ Q v H
noncomputable def tC (v : V) : TE := fun _ H Q => Q v H
theorem pe_var {i : Nat} {x : Str} {pos : Pos} (hN : X.N[i]? = some x) (hv : Vis X.env.scope x) (hd : (x == ("__debug__" : Str)) = false := by decide) (hcd : (x == ("__classdict__" : Str)) = false := by decide) : PE X (.Name x pos) (tVar i) := by
  intro pins s σ H Q I h
  obtain ⟨v, e, h⟩ := h
  obtain ⟨m, hn, hl⟩ := I.loc
  obtain ⟨u, r, l⟩ := hl i x v hN e hv
  have fin : EP X pins σ Q u s := ⟨v, H, I, r, h⟩
  rcases l with ⟨hk, hm⟩ | ⟨hk, c, hc, hcell⟩
  · exact wpAny_Name (wpAny_loadName_local I.ok.kind hk hn hm fin) hd
  · rcases hk with hk | hk
    · exact wpAny_Name (wpAny_loadName_cell I.ok.kind hk hc hcell fin) hd
    · exact wpAny_Name (wpAny_loadName_free I.ok.kind hk hc hcell fin hcd) hd
theorem pe_int {i j pos} : PE X (.Constant (.int i) j pos) (tC (.int i)) := fun _ _ _ H _ I h => wpAny_Constant_int ⟨.int i, H, I.tok _, ⟨_, rfl⟩, h⟩
theorem pe_bl {b j pos} : PE X (.Constant (.bool b) j pos) (tC (.bl b)) := fun _ _ _ H _ I h => Constant_bool ⟨.bl b, H, I, rfl, h⟩
theorem pe_non {j pos} : PE X (.Constant .none j pos) (tC .non) := fun _ _ _ H _ I h => Constant_none ⟨.non, H, I, rfl, h⟩
theorem pe_str {x j pos} : PE X (.Constant (.str x) j pos) (tC (.str x)) := fun _ _ _ H _ I h => Calls.Constant_str ⟨.str x, H, I.tok _, ⟨_, rfl⟩, h⟩
noncomputable def Gl (X : Cx) (x : Str) : Prop := X.env.kindOf x = some .globalImplicit
theorem ld_glob {E : Value → Shared → Prop} {pins : List (Addr × Obj)} {s : Shared} {σ : St} {H : Hp} {x : Str} {u : Value} {pos : Pos} {Q : Value → Shared → Prop} (I : Inv X pins σ H s) (hg : Gl X x) (hm : X.mg x = some u) (h : Q u s)
    (hd : (x == ("__debug__" : Str)) = false := by decide) : wpAny (model X.prog X.w) X.A (eval (.Name x pos) X.env) Q E s :=
  Calls.Name_function_global I.ok.kind hg (Calls.loadGlobal_global (by rw [I.ok.glob]; exact I.mod.glob.keeps I.bk) hm h) hd
theorem ld_blt {E : Value → Shared → Prop} {pins : List (Addr × Obj)} {s : Shared} {σ : St} {H : Hp} {x : Str} {u : Value} {pos : Pos} {Q : Value → Shared → Prop} (I : Inv X pins σ H s) (hg : Gl X x) (hm : X.mg x = none) (hv : bootBuiltins x = some u) (h : Q u s)
    (hn : x ≠ "__name__" := by decide) (hd : (x == ("__debug__" : Str)) = false := by decide) : wpAny (model X.prog X.w) X.A (eval (.Name x pos) X.env) Q E s := by
  obtain ⟨mb, h1, h2⟩ := I.mod.blt
  exact Calls.Name_function_global I.ok.kind hg (Calls.loadGlobal_builtin (by rw [I.ok.glob]; exact I.mod.glob.keeps I.bk) hm (by rw [I.ok.blt]; exact h1.keeps I.bk) ((h2 x hn).trans hv) h) hd
theorem pe_bltn {x : Str} {v : V} {u : Value} {pos : Pos} (hg : Gl X x) (hm : X.mg x = none) (hv : bootBuiltins x = some u) (r : RelV v u) (hn : x ≠ "__name__" := by decide) (hd : (x == ("__debug__" : Str)) = false := by decide) : PE X (.Name x pos) (tC v) :=
  fun _ _ _ H _ I h => ld_blt I hg hm hv ⟨v, H, I, r, h⟩ hn hd
variable {a b : Expr} {ta tb : TE} {pos : Pos}
noncomputable def tB (t : TE) : TT := fun σ H Q => t σ H fun x H1 => ∃ c, x = .bl c ∧ Q c H1
variable {tA tB' : TT} {rest : List Expr}
noncomputable def tAnd (t u : TT) : TT := fun σ H Q => t σ H fun c H1 => if c = true then u σ H1 Q else Q false H1
noncomputable def tOr (t u : TT) : TT := fun σ H Q => t σ H fun c H1 => if c = true then Q true H1 else u σ H1 Q
theorem pw_and1 (ha : PT X a tA) : PW X (.BoolOp .And [a] pos) tA := by
  intro wh pins s σ H Q I h
  refine isTrue_and (thn (ha pins s σ H Q I h) fun c s1 e => ?_)
  cases c with
  | true => exact isTrue_and_nil e
  | false => exact e
theorem pw_or1 (ha : PT X a tA) : PW X (.BoolOp .Or [a] pos) tA := by
  intro wh pins s σ H Q I h
  refine isTrue_or (thn (ha pins s σ H Q I h) fun c s1 e => ?_)
  cases c with
  | false => exact isTrue_or_nil e
  | true => exact e
theorem pw_and (ha : PT X a tA) (hb : PW X (.BoolOp .And (b :: rest) pos) tB') : PW X (.BoolOp .And (a :: b :: rest) pos) (tAnd tA tB') := by
  intro wh pins s σ H Q I h
  refine isTrue_and (thn (ha pins s σ H _ I h) fun c s1 ⟨H1, I1, q1⟩ => ?_)
  cases c with
  | true => exact hb wh pins s1 σ H1 Q I1 q1
  | false => exact ⟨H1, I1, q1⟩
theorem pw_or (ha : PT X a tA) (hb : PW X (.BoolOp .Or (b :: rest) pos) tB') : PW X (.BoolOp .Or (a :: b :: rest) pos) (tOr tA tB') := by
  intro wh pins s σ H Q I h
  refine isTrue_or (thn (ha pins s σ H _ I h) fun c s1 ⟨H1, I1, q1⟩ => ?_)
  cases c with
  | true => exact ⟨H1, I1, q1⟩
  | false => exact hb wh pins s1 σ H1 Q I1 q1
noncomputable def tAndV (ta tb : TE) : TE := fun σ H Q => ta σ H fun x H1 => ∃ c, x = .bl c ∧ if c = true then tb σ H1 Q else Q (.bl false) H1
noncomputable def tNotV (ta : TE) : TE := fun σ H Q => ta σ H fun x H1 => ∃ c, x = .bl c ∧ Q (.bl (!c)) H1
theorem pe_one {op} {t : TE} (h : PE X a t) : PE X (.BoolOp op [a] pos) t := fun pins s σ H Q I hw => BoolOp_one (h pins s σ H Q I hw)
theorem pe_and (ha : PE X a ta) (hb : PE X (.BoolOp .And (b :: rest) pos) tb) : PE X (.BoolOp .And (a :: b :: rest) pos) (tAndV ta tb) := by
  intro pins s σ H Q I h
  refine BoolOp_and (thn (ha pins s σ H _ I h) fun v s1 ⟨x, H1, I1, r1, q1⟩ => ?_)
  obtain ⟨c, rfl, q1⟩ := q1
  cases r1
  refine wpAny_truthy_bool ?_
  cases c with
  | true => exact hb pins s1 σ H1 Q I1 q1
  | false => exact ⟨.bl false, H1, I1, rfl, q1⟩
theorem pe_not (ha : PE X a ta) : PE X (.UnaryOp .Not a pos) (tNotV ta) := by
  intro pins s σ H Q I h
  refine UnaryOp_ (thn (ha pins s σ H _ I h) fun v s1 ⟨x, H1, I1, r1, q1⟩ => ?_)
  obtain ⟨c, rfl, q1⟩ := q1
  cases r1
  exact not_of (wpAny_truthy_bool ⟨.bl (!c), H1, I1, rfl, q1⟩)
end
end L2
namespace L2
open PySem PySem.Spec PyProof.Rows
noncomputable def SqL (K : PySem.W.Frag) (H : Hp) (a : Addr) (xs : List V) : Prop :=
  Rd H a (.lst xs) ∨
    ∃ (o : Obj) (its : Array Value) (n : Nat), K.lookup a = some o ∧ o.cls = .type "list" ∧ o.dict = none ∧ o.data = .seq its n ∧ its.size ≤ sizeLine ∧ Vals xs its.toList
noncomputable def SqT (K : PySem.W.Frag) (H : Hp) (a : Addr) (xs : List V) : Prop :=
  Rd H a (.tup xs) ∨
    ∃ (o : Obj) (its : Array Value) (n : Nat), K.lookup a = some o ∧ o.cls = .type "tuple" ∧ o.data = .seq its n ∧ its.size ≤ sizeLine ∧ Vals xs its.toList
noncomputable def absV : Value → Option V
  | .none => some .non
  | .bool b => some (.bl b)
  | .int i _ => some (.int i)
  | .str x _ => some (.str x)
  | .bytes b _ => some (.byt b)
  | .float b _ => some (.flt b)
  | .ref a => some (.ref a)
  | .type n => some (.ty n)
  | _ => none
theorem RelV.abs {x : V} {u : Value} (r : RelV x u) : absV u = some x := by
  cases x with
  | non => cases r; rfl
  | bl _ => cases r; rfl
  | int _ => obtain ⟨t, rfl⟩ := r; rfl
  | str _ => obtain ⟨t, rfl⟩ := r; rfl
  | byt _ => obtain ⟨t, rfl⟩ := r; rfl
  | flt _ => obtain ⟨t, rfl⟩ := r; rfl
  | ref _ => cases r; rfl
  | ty _ => cases r; rfl
theorem RelV.inj {x y : V} {u : Value} (r : RelV x u) (q : RelV y u) : x = y := Option.some.inj (r.abs.symm.trans q.abs)
theorem Vals.inj : ∀ {xs ys : List V} {us : List Value}, Vals xs us → Vals ys us → xs = ys
  | _, _, _, .nil, .nil => rfl
  | _, _, _, .cons r t, .cons r' t' => by rw [r.inj r', Vals.inj t t']
section
variable {X : Cx} {pins : List (Addr × Obj)} {σ : St} {H : Hp} {s : Shared} {a : Addr} {xs ys : List V}
theorem SqL.of {K : PySem.W.Frag} (h : H a = some (.lst xs)) : SqL K H a xs := .inl (.inl h)
theorem SqT.of {K : PySem.W.Frag} (h : H a = some (.tup xs)) : SqT K H a xs := .inl (.inl h)
theorem Inv.list (I : Inv X pins σ H s) (h : SqL X.K H a xs) : ∃ its : List Value, Vals xs its ∧ PlainL s.heap a its.toArray ∧ xs.length ≤ sizeLine := by
  rcases h with h | ⟨o, its, n, hk, hc, hd, hs, hz, r⟩
  · obtain ⟨z, its, n, r, e⟩ := h.ok I.hok
    exact ⟨its, r, ⟨_, n, e, rfl, rfl, rfl⟩, z⟩
  · refine ⟨its.toList, r, ⟨o, n, I.kIn a o hk, hc, hd, by simpa using hs⟩, ?_⟩
    have e := r.length
    simp only [Array.length_toList] at e
    omega
theorem Inv.tuple (I : Inv X pins σ H s) (h : SqT X.K H a xs) : ∃ its : List Value, Vals xs its ∧ IsTup s.heap a its.toArray ∧ xs.length ≤ sizeLine := by
  rcases h with h | ⟨o, its, n, hk, hc, hs, hz, r⟩
  · obtain ⟨z, its, r, p⟩ := h.ok I.hok
    exact ⟨its, r, p, z⟩
  · refine ⟨its.toList, r, ⟨o, I.kIn a o hk, hc, n, by simpa using hs⟩, ?_⟩
    have e := r.length
    simp only [Array.length_toList] at e
    omega
theorem Inv.list_inj (I : Inv X pins σ H s) (h : SqL X.K H a xs) (h' : SqL X.K H a ys) : xs = ys := by
  obtain ⟨its, r, ⟨o, n, e, _, _, d⟩, _⟩ := I.list h
  obtain ⟨its', r', ⟨o', n', e', _, _, d'⟩, _⟩ := I.list h'
  rw [e] at e'; cases e'
  rw [d] at d'
  injection d' with d1 _
  have : its = its' := by simpa using congrArg Array.toList d1
  subst this
  exact r.inj r'
theorem Inv.tuple_inj (I : Inv X pins σ H s) (h : SqT X.K H a xs) (h' : SqT X.K H a ys) : xs = ys := by
  obtain ⟨its, r, ⟨o, e, _, n, d⟩, _⟩ := I.tuple h
  obtain ⟨its', r', ⟨o', e', _, n', d'⟩, _⟩ := I.tuple h'
  rw [e] at e'; cases e'
  rw [d] at d'
  injection d' with d1 _
  have : its = its' := by simpa using congrArg Array.toList d1
  subst this
  exact r.inj r'
end
noncomputable abbrev Cx.wish (X : Cx) (E : Value → Shared → Prop) : Cx := { X with xe := E }
noncomputable abbrev Cx.nox (X : Cx) : Cx := X.wish fun _ _ => False
theorem Cx.Ok.wish {X : Cx} (ok : X.Ok) (E : Value → Shared → Prop) : (X.wish E).Ok :=
  ⟨ok.mod, ok.kind, ok.glob, ok.blt, ok.above, ok.inj, ok.has, ok.cab, ok.hd, ok.frames, ok.stk, ok.exf, ok.bs, ok.bsz, ok.noex, ok.exfs, ok.funs, ok.frf⟩
theorem Cx.Ok.unwish {X : Cx} {E : Value → Shared → Prop} (ok : (X.wish E).Ok) : X.Ok :=
  ⟨ok.mod, ok.kind, ok.glob, ok.blt, ok.above, ok.inj, ok.has, ok.cab, ok.hd, ok.frames, ok.stk, ok.exf, ok.bs, ok.bsz, ok.noex, ok.exfs, ok.funs, ok.frf⟩
section
variable {X : Cx} {pins : List (Addr × Obj)} {σ : St} {H : Hp} {s : Shared} {E : Value → Shared → Prop}
theorem Inv.wish (I : Inv X pins σ H s) (E : Value → Shared → Prop) : Inv (X.wish E) pins σ H s := ⟨I.ok.wish E, I.os, I.bare, I.base, I.loc, I.cell, I.free, I.freeC, I.pin, I.hok, I.len⟩
theorem Inv.unwish (I : Inv (X.wish E) pins σ H s) : Inv X pins σ H s := ⟨I.ok.unwish, I.os, I.bare, I.base, I.loc, I.cell, I.free, I.freeC, I.pin, I.hok, I.len⟩
theorem SP.unwish {D : Ends} {f : Flow} {s' : Shared} (h : SP (X.wish E) pins D f s') : SP X pins D f s' := by
  cases f with
  | next => obtain ⟨σ', H', I, q⟩ := h; exact ⟨σ', H', I.unwish, q⟩
  | brk => obtain ⟨σ', H', I, q⟩ := h; exact ⟨σ', H', I.unwish, q⟩
  | cont => obtain ⟨σ', H', I, q⟩ := h; exact ⟨σ', H', I.unwish, q⟩
  | ret u => obtain ⟨v, σ', H', I, r, q⟩ := h; exact ⟨v, σ', H', I.unwish, r, q⟩
theorem PE.nox {e : Expr} {t : TE} (h : PE X.nox e t) : PE X e t := fun pins s σ H Q I hw =>
  wpAny_mono (h pins s σ H Q (I.wish _) hw) (fun _ _ ⟨v, H', I', r, q⟩ => ⟨v, H', I'.unwish, r, q⟩) fun _ _ z => False.elim z
theorem PT.nox {e : Expr} {t : TT} (h : PT X.nox e t) : PT X e t := fun pins s σ H Q I hw =>
  wpAny_mono (h pins s σ H Q (I.wish _) hw) (fun _ _ ⟨H', I', q⟩ => ⟨H', I'.unwish, q⟩) fun _ _ z => False.elim z
theorem PSs.nox {st : List Stmt} {t : TS} (h : PSs X.nox st t) : PSs X st t := fun pins s σ H D I hw =>
  wpAny_mono (h pins s σ H D (I.wish _) hw) (fun _ _ q => q.unwish) fun _ _ z => False.elim z
end
section
variable {X : Cx} {st : Stmt} {rest : List Stmt} {t u : TS} {e : Expr} {te : TE} {pos : Pos}
noncomputable def tNext : TS := fun D σ H => D.nx σ H
noncomputable def tSeq (t u : TS) : TS := fun D σ H => t { D with nx := u D } σ H
theorem pss_nil : PSs X [] tNext := fun _ _ σ H _ I h => wpAny_execs_nil ⟨σ, H, I, h⟩
theorem pss_cons (h1 : PS X st t) (h2 : PSs X rest u) : PSs X (st :: rest) (tSeq t u) := by
  intro pins s σ H D I h
  refine wpAny_execs_cons (thn (h1 pins s σ H { D with nx := u D } I h) fun f s1 q => ?_)
  cases f with
  | next =>
    obtain ⟨σ', H', I', q⟩ := q
    exact h2 pins s1 σ' H' D I' q
  | ret v => exact q
  | brk => exact q
  | cont => exact q
theorem pss_one (h1 : PS X st t) : PSs X [st] t := by
  intro pins s σ H D I h
  refine wpAny_execs_cons (thn (h1 pins s σ H D I h) fun f s1 q => ?_)
  cases f with
  | next => exact wpAny_execs_nil q
  | ret v => exact q
  | brk => exact q
  | cont => exact q
theorem Inv.quiet {pins : List (Addr × Obj)} {σ : St} {H : Hp} {s : Shared} (I : Inv X pins σ H s) : interactive X.env = false := by simp [interactive, I.ok.kind]
noncomputable def tDrop (te : TE) : TS := fun D σ H => te σ H fun _ H1 => D.nx σ H1
theorem ps_expr (he : PE X e te) (hs : swapsWith e none pos.line X.env = pure false := by rfl) : PS X (.Expr e pos) (tDrop te) := by
  intro pins s σ H D I h
  exact wpAny_Expr_any (thn (he pins s σ H _ I h) fun v s1 ⟨x, H1, I1, r1, q1⟩ => ⟨σ, H1, I1, q1⟩) I.quiet hs
noncomputable def tRet (te : TE) : TS := fun D σ H => te σ H D.rt
theorem ps_ret (he : PE X e te) : PS X (.Return (some e) pos) (tRet te) := by
  intro pins s σ H D I h
  exact wpAny_Return_some (thn (he pins s σ H _ I h) fun v s1 ⟨x, H1, I1, r1, q1⟩ => ⟨x, σ, H1, I1, r1, q1⟩)
noncomputable def tIfS (c : TT) (t u : TS) : TS := fun D σ H => c σ H fun b H1 => if b = true then t D σ H1 else u D σ H1
theorem ps_if {c : Expr} {a b : List Stmt} {tc : TT} (hc : PT X c tc) (ha : PSs X a t) (hb : PSs X b u) : PS X (.If c a b pos) (tIfS tc t u) := by
  intro pins s σ H D I h
  refine wpAny_If (thn (hc pins s σ H _ I h) fun d s1 ⟨H1, I1, q1⟩ => ?_)
  cases d with
  | true => exact ha pins s1 σ H1 D I1 q1
  | false => exact hb pins s1 σ H1 D I1 q1
end
noncomputable abbrev TG := V → St → Hp → (St → Hp → Prop) → Prop
noncomputable def PG (X : Cx) (target : Expr) (t : TG) : Prop :=
  ∀ (pins : List (Addr × Obj)) (s : Shared) (σ : St) (H : Hp) (v : V) (u : Value) (Q : St → Hp → Prop), Inv X pins σ H s → RelV v u → t v σ H Q →
    wpAny (model X.prog X.w) X.A (assign target X.env u) (fun _ s' => ∃ σ' H', Inv X pins σ' H' s' ∧ Q σ' H') X.xe s
noncomputable abbrev TSet := V → V → V → Hp → (Hp → Prop) → Prop
noncomputable def PSet (X : Cx) (t : TSet) : Prop :=
  ∀ (pins : List (Addr × Obj)) (s : Shared) (σ : St) (H : Hp) (o i v : V) (ov iv u : Value) (Q : Hp → Prop), Inv X pins σ H s → RelV o ov → RelV i iv → RelV v u → t o i v H Q →
    wpAny (model X.prog X.w) X.A (setItem ov iv u) (fun _ s' => ∃ H', Inv X pins σ H' s' ∧ Q H') X.xe s
section
variable {X : Cx} {pos : Pos}
noncomputable def gName (i : Nat) : TG := fun v σ H Q => Q (σ.set i (some v)) H
theorem pg_name {i : Nat} {x : Str} (hN : X.N.Nodup) (hi : X.N[i]? = some x) (hx : Loc X.env.scope x) (hf : X.fn x = true ∨ X.env.scope.names.lookup x = some .local := by first | exact .inl rfl | exact .inr rfl | assumption) : PG X (.Name x pos) (gName i) := by
  intro pins s σ H v u Q I r h
  exact wpAny_assign_Name (store_ok I hN hi hx r (fun s' I' => ⟨_, H, I', h⟩) hf)
noncomputable def gSub (to ti : TE) (t : TSet) : TG := fun v σ H Q => to σ H fun o H1 => ti σ H1 fun i H2 => t o i v H2 fun H3 => Q σ H3
theorem pg_sub {o i : Expr} {to ti : TE} {t : TSet} (ho : PE X o to) (hi : PE X i ti) (hs : PSet X t)
    (ha : ∀ v, assign (.Subscript o i pos) X.env v = (do
      let ov ← holding [v] (eval o X.env)
      let iv ← holding [v, ov] (eval i X.env)
      standAt pos
      holding [v, ov, iv] (setItem ov iv v)
      release [v, ov, iv] []) := by intro _; rfl) : PG X (.Subscript o i pos) (gSub to ti t) := by
  intro pins s σ H v u Q I r h
  rw [ha]
  refine wpAny_bind (wpAny_holding (thn (ho pins s σ H _ I h) fun ov s1 ⟨x, H1, I1, r1, q1⟩ => ?_))
  refine wpAny_bind (wpAny_holding (thn (hi pins s1 σ H1 _ I1 q1) fun iv s2 ⟨y, H2, I2, r2, q2⟩ => ?_))
  refine wpAny_bind (wpAny_standAt (wpAny_bind (wpAny_holding (thn (hs pins s2 σ H2 x y v ov iv u _ I2 r1 r2 r q2) fun _ s3 ⟨H3, I3, q3⟩ => ?_))))
  exact wpAny_release ⟨σ, H3, I3, q3⟩
noncomputable def tAsg (te : TE) (g : TG) : TS := fun D σ H => te σ H fun x H1 => g x σ H1 D.nx
theorem ps_asg {tg e : Expr} {te : TE} {g : TG} (he : PE X e te) (hg : PG X tg g) (hs : swapsWithSole [tg] e pos.line X.env = pure false := by rfl) (hw : swappedStores [tg] e X.env = pure none := by rfl)
    (h1 : (assignEach [tg] X.env).map (·.2) = [assign tg X.env] := by rfl) : PS X (.Assign [tg] e pos) (tAsg te g) := by
  intro pins s σ H D I h
  refine wpAny_Assign_stores (thn (he pins s σ H _ I h) fun v s1 ⟨x, H1, I1, r1, q1⟩ => ?_) hs hw
  rw [h1]
  exact thn (hg pins s1 σ H1 x v _ I1 r1 q1) fun _ s2 q => q
theorem ps_set {i : Nat} {x : Str} {e : Expr} {te : TE} {pos' : Pos} (hN : X.N.Nodup) (hi : X.N[i]? = some x) (hx : Loc X.env.scope x) (he : PE X e te) (hs : swapsWith e (some (.Name x pos')) pos.line X.env = pure false := by rfl) (hf : X.fn x = true ∨ X.env.scope.names.lookup x = some .local := by first | exact .inl rfl | exact .inr rfl | assumption) :
    PS X (.Assign [.Name x pos'] e pos) (tAsg te (gName i)) := by
  intro pins s σ H D I h
  refine wpAny_Assign_Name (thn (he pins s σ H _ I h) fun v s1 ⟨y, H1, I1, r1, q1⟩ => ?_) hs
  exact store_ok I1 hN hi hx r1 (fun s2 I2 => ⟨_, H1, I2, q1⟩) hf
noncomputable def tPar (i j : Nat) (ta : TA) : TS := fun D σ H => ta σ H fun vs H1 => ∃ v w, vs = [v, w] ∧ D.nx ((σ.set i (some v)).set j (some w)) H1
theorem ps_par {i j : Nat} {x y : Str} {a b : Expr} {ta : TA} {px py pt : Pos} {kt k2 pt2} (hc : X.calm = true) (hN : X.N.Nodup) (hi : X.N[i]? = some x) (hj : X.N[j]? = some y) (hij : i ≠ j)
    (hx : X.env.scope.names.lookup x = some .local) (hy : X.env.scope.names.lookup y = some .local) (ha : PA X [a, b] ta)
    (hw : swappedStores [.Tuple [.Name x px, .Name y py] kt pt] (.Tuple [a, b] k2 pt2) X.env = pure (some [x, y]))
    (hs : swapsWithSole [.Tuple [.Name x px, .Name y py] kt pt] (.Tuple [a, b] k2 pt2) pos.line X.env = pure false := by rfl) :
    PS X (.Assign [.Tuple [.Name x px, .Name y py] kt pt] (.Tuple [a, b] k2 pt2) pos) (tPar i j ta) := by
  intro pins s σ H D I h
  rw [exec_Assign_arm]
  refine wpAny_bind (wpAny_standAt ?_)
  rw [hs]
  refine wpAny_bind (wpAny_pure ?_)
  rw [if_neg (by decide)]
  refine wpAny_bind (Tuple_ (thn (ha _ pins s σ H _ I h) fun us s1 ⟨vs, H1, I1, r1, q1⟩ => ?_))
  obtain ⟨v, w, e1, q1⟩ := q1
  subst e1
  obtain ⟨u1, u2, rfl, rv, rw'⟩ : ∃ u1 u2, us = [u1, u2] ∧ RelV v u1 ∧ RelV w u2 := by
    cases r1 with
    | cons p q =>
      cases q with
      | cons p' q' =>
        cases q'
        exact ⟨_, _, rfl, p, p'⟩
  refine wpAny_newObj_type ?_ (by show 2 ≤ sizeLine; decide)
  have I2 : Inv X pins σ H1 { s1 with heap := s1.heap.push { cls := .type "tuple", data := .seq [u1, u2].toArray } } := I1.kept (t' := s1.toks) fun b o e => Heap.get?_push_of_some _ e
  rw [hw]
  refine wpAny_bind (wpAny_pure ?_)
  show wpAny (model X.prog X.w) X.A (do rule "assign.swapped-stores"; let items ← unpackItems (.ref s1.heap.objs.size) 2 none; assignInOrder [fun v => bindName X.env y v, fun v => bindName X.env x v] items.reverse; pure Flow.next) _ _ _
  refine wpAny_bind (wpAny_rule (wpAny_bind (unpackItems_tuple (items := #[u1, u2]) (I.ok.hd hc) (IsTup.new s1.heap _) fun h' hx' => ?_)))
  have I3 := I2.kept (h' := h') (t' := s1.toks) fun b o e => hx' b o (Nat.ne_of_lt (Heap.lt_size e)) e
  show wpAny _ _ (assignInOrder [fun v => bindName X.env y v, fun v => bindName X.env x v] [u2, u1] >>= fun _ => pure Flow.next) _ _ _
  refine wpAny_bind (assignInOrder_cons (wpAny_bindName (store_ok I3 hN hj (.inl hy) rw' (fun s2 I4 => ?_) (.inr hy))))
  refine assignInOrder_cons (wpAny_bindName (store_ok I4 hN hi (.inl hx) rv (fun s3 I5 => assignInOrder_nil (wpAny_pure ?_)) (.inr hx)))
  rw [List.set_comm _ _ (Ne.symm hij)] at I5
  exact ⟨_, H1, I5, q1⟩
end
section
variable {X : Cx} {pos : Pos}
noncomputable def tWhile (c : TT) (tb : TS) : TS := fun D σ H => ∃ W : Nat → St → Hp → Prop, (∃ m, W m σ H) ∧ ∀ m σ H, W m σ H →
  c σ H fun b H1 => if b = true then ∃ N : St → Hp → Prop, (∀ σ' H', N σ' H' → ∃ m', m' < m ∧ W m' σ' H') ∧ tb { D with nx := N, ct := N, bk := D.nx } σ H1 else D.nx σ H1
theorem ps_while {c : Expr} {body : List Stmt} {tc : TT} {tb : TS} (hp : PassesOwn (model X.prog X.w) X.A X.env X.xe) (hc : PT X c tc) (hb : PSs X body tb) : PS X (.While c body [] pos) (tWhile tc tb) := by
  intro pins s σ H D I h
  obtain ⟨W, ⟨m0, w0⟩, turn⟩ := h
  refine wpAny_While (codeAny_whileLoop (fun n s' => ∃ σ' H', Inv X pins σ' H' s' ∧ W n σ' H') ?_ m0 ⟨σ, H, I, w0⟩)
  rintro n s1 ⟨σ1, H1, I1, w1⟩
  refine wpAny_passesOwn hp (thn (hc pins s1 σ1 H1 _ I1 (turn n σ1 H1 w1)) fun b s2 ⟨H2, I2, q2⟩ => ?_)
  cases b with
  | true =>
    obtain ⟨N, hN, q2⟩ := q2
    rw [if_pos rfl]
    refine wpAny_passesOwn hp (thn (hb pins s2 σ1 H2 _ I2 q2) fun f s3 q3 => ?_)
    cases f with
    | next =>
      obtain ⟨σ3, H3, I3, n3⟩ := q3
      obtain ⟨m', hm, w3⟩ := hN σ3 H3 n3
      exact ⟨m', hm, σ3, H3, I3, w3⟩
    | cont =>
      obtain ⟨σ3, H3, I3, n3⟩ := q3
      obtain ⟨m', hm, w3⟩ := hN σ3 H3 n3
      exact ⟨m', hm, σ3, H3, I3, w3⟩
    | brk => exact q3
    | ret v => exact q3
  | false =>
    rw [if_neg Bool.false_ne_true]
    exact wpAny_execs_nil ⟨σ1, H2, I2, q2⟩
end
structure It where
  go : Nat → Hp → Prop
  yld : Nat → Hp → V → Hp → Prop
  stop : Nat → Hp → Prop
noncomputable def FpOk (X : Cx) (pins : List (Addr × Obj)) (H : Hp) (b : Addr) : Prop :=
  H b = none ∧ b ≠ X.env.locals ∧ b ∉ X.fs ∧ (b ∈ X.ex ∨ X.s₀.heap.objs.size ≤ b) ∧ (∀ x c, X.env.cells.lookup x = some c → c ≠ b) ∧ ∀ p ∈ X.pn ++ pins, p.1 ≠ b
theorem Inv.fpOk {X : Cx} {pins : List (Addr × Obj)} {σ : St} {H H' : Hp} {s : Shared} {b : Addr} (I : Inv X pins σ H s) (hb : s.heap.objs.size ≤ b) (hn : H' b = none) : FpOk X pins H' b := by
  refine ⟨hn, Nat.ne_of_gt (Nat.lt_of_lt_of_le I.lt hb), I.nofs hb, .inr (Nat.le_trans I.sz hb), fun x c e z => ?_, fun p hp z => ?_⟩
  · obtain ⟨v, q⟩ := I.cell x c e
    exact absurd (Nat.lt_of_lt_of_le q.lt (by rw [z]; exact hb)) (Nat.lt_irrefl _)
  · exact absurd (Nat.lt_of_lt_of_le (Heap.lt_size (I.pin p hp).1) (by rw [z]; exact hb)) (Nat.lt_irrefl _)
structure Turn (P : Program) (w : World) (K : PySem.W.Frag) (tg : Expr) (J : It) (fp : List Addr) (it : Addr) (tn : Nat → Heap → Prop) : Prop where
  mem : it ∈ fp
  obj : ∀ i h, tn i h → ∀ b ∈ fp, ∃ o, h.get? b = some o ∧ ∀ v, o.data ≠ .cell v
  keep : ∀ i h h', tn i h → (∀ b ∈ fp, ∀ o, h.get? b = some o → h'.get? b = some o) → tn i h'
  item : ∀ (X : Cx), X.prog = P → X.w = w → X.K = K → X.calm = true → ∀ (i : Nat) (pins : List (Addr × Obj)) (s : Shared) (σ : St) (H : Hp) (E : Value → Shared → Prop), Inv X pins σ H s → (∀ b ∈ fp, FpOk X pins H b) → tn i s.heap → J.go i H →
    wpAny (model P w) X.A (pyNext (.ref it)) (fun r s1 => ∃ u, r = some u ∧
      wpAny (model P w) X.A (letOwnedTupleGo tg (.ref it) u) (fun _ s2 => ∃ x H', Inv X pins σ H' s2 ∧ RelV x u ∧ J.yld i H x H' ∧ tn (i + 1) s2.heap ∧ ∀ b ∈ fp, H' b = none) E s1) E s
  done : ∀ (X : Cx), X.prog = P → X.w = w → X.K = K → X.calm = true → ∀ (i : Nat) (pins : List (Addr × Obj)) (s : Shared) (σ : St) (H : Hp) (E : Value → Shared → Prop), Inv X pins σ H s → (∀ b ∈ fp, FpOk X pins H b) → tn i s.heap → J.stop i H →
    wpAny (model P w) X.A (pyNext (.ref it)) (fun r s1 => r = none ∧ Inv X pins σ H s1) E s
  self : ∀ (A : Around) (i : Nat) (s : Shared) (Q : Value → Shared → Prop) (E : Value → Shared → Prop), tn i s.heap → Q (.ref it) s → wpAny (model P w) A (pyIter (.ref it)) Q E s
noncomputable abbrev TI := St → Hp → (It → Hp → Prop) → Prop
noncomputable def PIE (X : Cx) (pins : List (Addr × Obj)) (σ : St) (tg : Expr) (R : It → Hp → Prop) (itv : Value) (s2 : Shared) : Prop :=
  ∃ (it : Addr) (fp : List Addr) (tn : Nat → Heap → Prop) (J : It) (H' : Hp), itv = .ref it ∧ Inv X pins σ H' s2 ∧ Turn X.prog X.w X.K tg J fp it tn ∧ tn 0 s2.heap ∧ (∀ b ∈ fp, FpOk X pins H' b) ∧ R J H'
noncomputable def PI (X : Cx) (tg iter : Expr) (wi : TI) : Prop :=
  ∀ (pins : List (Addr × Obj)) (s : Shared) (σ : St) (H : Hp) (R : It → Hp → Prop), Inv X pins σ H s → wi σ H R →
    wpAny (model X.prog X.w) X.A (eval iter X.env) (fun v s1 => wpAny (model X.prog X.w) X.A (pyIter v) (PIE X pins σ tg R) X.xe s1) X.xe s
theorem go_of {M : Model} {A : Around} {E : Value → Shared → Prop} {s : Shared} {tg : Expr} {it : Addr} {u : Value} {o : Obj} {n : String} {vs : Array Value} {Q : Unit → Shared → Prop} (ho : s.heap.get? it = some o) (hc : o.cls = .type n) (hd : o.data = .fields vs)
    (hn : ["enumerate", "zip", "dict_itemiterator", "dict_reverseitemiterator", "odict_iterator", "itertools.zip_longest", "itertools.pairwise"].contains n = false) (hQ : Q () s) : wpAny M A (letOwnedTupleGo tg (.ref it) u) Q E s := by
  unfold letOwnedTupleGo
  cases tg <;> first
    | exact wpAny_pure hQ
    | (cases u <;> first
        | exact wpAny_pure hQ
        | (refine wpAny_bind (wpAny_load ho ?_)
           rw [hc, hd]
           show wpAny M A (if (["enumerate", "zip", "dict_itemiterator", "dict_reverseitemiterator", "odict_iterator", "itertools.zip_longest", "itertools.pairwise"].contains n && vs[0]? == some (rawInt _)) = true then _ else _) Q E s
           rw [if_neg (by intro h; rw [hn, Bool.false_and] at h; cases h)]
           exact wpAny_pure hQ))
noncomputable def Itl (K : PySem.W.Frag) (a : Addr) : It :=
  ⟨fun i H => ∃ xs x, SqL K H a xs ∧ xs[i]? = some x, fun i H x H' => H' = H ∧ ∀ xs, SqL K H a xs → xs[i]? = some x, fun i H => ∃ xs, SqL K H a xs ∧ xs.length ≤ i⟩
noncomputable def Itt (K : PySem.W.Frag) (a : Addr) : It :=
  ⟨fun i H => ∃ xs x, SqT K H a xs ∧ xs[i]? = some x, fun i H x H' => H' = H ∧ ∀ xs, SqT K H a xs → xs[i]? = some x, fun i H => ∃ xs, SqT K H a xs ∧ xs.length ≤ i⟩
noncomputable def Itr (lo : Int) (n : Nat) : It := ⟨fun i _ => i < n, fun i H x H' => H' = H ∧ x = .int (lo + i), fun i _ => n ≤ i⟩
theorem turn_list {P : Program} {w : World} {K : PySem.W.Frag} {tg : Expr} (a it : Addr) : Turn P w K tg (Itl K a) [it] it (fun i h => h.IsListIter it a i) where
  mem := by simp
  obj := fun i h st b hb => by
    have e : b = it := by simpa using hb
    subst e
    obtain ⟨o, e, c, d⟩ := st
    exact ⟨o, e, fun v z => by rw [d] at z; cases z⟩
  keep := fun i h h' st k => st.at fun o e => k it (by simp) o e
  item := by
    intro X hP hw hK hc i pins s σ H E I hf st hg
    subst hP hw hK
    obtain ⟨xs, x, hq, hx⟩ := hg
    obtain ⟨its, rv, p, hz⟩ := I.list hq
    obtain ⟨u, hu, ru⟩ := rv.get hx
    obtain ⟨f0, f1, f2, f3, f4, f5⟩ := hf it (by simp)
    refine wpAny_pyNext_list_item st p.isList (x := u) (by simpa using hu) fun h' st' sb => ?_
    have I1 : Inv X pins σ H { s with heap := h' } := I.turned (t' := s.toks) (fun b o hb e => (sb.2 b hb).trans e) f0 f1 f3 f4 f5
    obtain ⟨o, e, c, d⟩ := id st'
    exact ⟨u, rfl, go_of (s := { s with heap := h' }) e c d (by decide) ⟨x, H, I1, ru, ⟨rfl, fun ys hy => by rw [I.list_inj hy hq]; exact hx⟩, st', fun b hb => (hf b hb).1⟩⟩
  done := by
    intro X hP hw hK hc i pins s σ H E I hf st hg
    subst hP hw hK
    obtain ⟨xs, hq, hx⟩ := hg
    obtain ⟨its, rv, p, hz⟩ := I.list hq
    obtain ⟨f0, f1, f2, f3, f4, f5⟩ := hf it (by simp)
    have hl := rv.length
    exact wpAny_pyNext_list_end (I.ok.hd hc) st p.isList (by simp; omega) fun h' eb => ⟨rfl, I.turned (t' := s.toks) (fun b o hb e => eb b o hb e) f0 f1 f3 f4 f5⟩
  self := fun _ _ _ _ _ st h => wpAny_pyIter_listiter st h
theorem turn_tuple {P : Program} {w : World} {K : PySem.W.Frag} {tg : Expr} (a it : Addr) : Turn P w K tg (Itt K a) [it] it (fun i h => h.IsTupleIter it a i) where
  mem := by simp
  obj := fun i h st b hb => by
    have e : b = it := by simpa using hb
    subst e
    obtain ⟨o, e, c, d⟩ := st
    exact ⟨o, e, fun v z => by rw [d] at z; cases z⟩
  keep := fun i h h' st k => st.at fun o e => k it (by simp) o e
  item := by
    intro X hP hw hK hc i pins s σ H E I hf st hg
    subst hP hw hK
    obtain ⟨xs, x, hq, hx⟩ := hg
    obtain ⟨its, rv, p, hz⟩ := I.tuple hq
    obtain ⟨u, hu, ru⟩ := rv.get hx
    obtain ⟨f0, f1, f2, f3, f4, f5⟩ := hf it (by simp)
    refine wpAny_pyNext_tuple_item st (show s.heap.IsTuple a its.toArray from p) (x := u) (by simpa using hu) fun h' st' sb => ?_
    have I1 : Inv X pins σ H { s with heap := h' } := I.turned (t' := s.toks) (fun b o hb e => (sb.2 b hb).trans e) f0 f1 f3 f4 f5
    obtain ⟨o, e, c, d⟩ := id st'
    exact ⟨u, rfl, go_of (s := { s with heap := h' }) e c d (by decide) ⟨x, H, I1, ru, ⟨rfl, fun ys hy => by rw [I.tuple_inj hy hq]; exact hx⟩, st', fun b hb => (hf b hb).1⟩⟩
  done := by
    intro X hP hw hK hc i pins s σ H E I hf st hg
    subst hP hw hK
    obtain ⟨xs, hq, hx⟩ := hg
    obtain ⟨its, rv, p, hz⟩ := I.tuple hq
    obtain ⟨f0, f1, f2, f3, f4, f5⟩ := hf it (by simp)
    have hl := rv.length
    exact wpAny_pyNext_tuple_end (I.ok.hd hc) st (show s.heap.IsTuple a its.toArray from p) (by simp; omega) fun h' eb => ⟨rfl, I.turned (t' := s.toks) (fun b o hb e => eb b o hb e) f0 f1 f3 f4 f5⟩
  self := fun _ _ _ _ _ st h => wpAny_pyIter_tupleiter st h
theorem turn_range {P : Program} {w : World} {K : PySem.W.Frag} {tg : Expr} (it : Addr) (lo : Int) (n : Nat) : Turn P w K tg (Itr lo n) [it] it (fun i h => IsRangeIter h it (lo + (i : Nat) * 1) ((n : Int) - (i : Nat)) 1) where
  mem := by simp
  obj := fun i h st b hb => by
    have e : b = it := by simpa using hb
    subst e
    exact ⟨_, st, fun v z => by
      have z' : Data.fields _ = Data.cell v := z
      cases z'⟩
  keep := fun i h h' st k => k it (by simp) _ st
  item := by
    intro X hP hw hK hc i pins s σ H E I hf st hg
    subst hP hw hK
    obtain ⟨f0, f1, f2, f3, f4, f5⟩ := hf it (by simp)
    have W := Walks.range (prog := X.prog) (w := X.w) (I.ok.hd hc) it lo 1 n
    refine W.item i s _ _ hg st fun v h' tk hv st' kk => ?_
    obtain ⟨t, rfl⟩ := hv
    have I1 : Inv X pins σ H { s with heap := h', toks := tk } := I.turned (fun b o hb e => kk b o (by simpa using hb) e) f0 f1 f3 f4 f5
    refine ⟨_, rfl, go_of (s := { s with heap := h', toks := tk }) (n := "range_iterator") st' rfl rfl (by decide) ⟨.int (lo + i), H, I1, ⟨t, ?_⟩, ⟨rfl, rfl⟩, st', fun b hb => (hf b hb).1⟩⟩
    rw [Int.mul_one]
  done := by
    intro X hP hw hK hc i pins s σ H E I hf st hg
    subst hP hw hK
    obtain ⟨f0, f1, f2, f3, f4, f5⟩ := hf it (by simp)
    exact wpAny_pyNext_range_end (I.ok.hd hc) st (by have : n ≤ i := hg; omega) fun h' eb => ⟨rfl, I.turned (t' := s.toks) (fun b o hb e => eb b o hb e) f0 f1 f3 f4 f5⟩
  self := fun _ _ _ _ _ st h => wpAny_pyIter_rangeiter st h
end L2
namespace L2
open PySem PySem.Spec PyProof.Rows
section
variable {X : Cx} {tg : Expr}
noncomputable def iList (K : PySem.W.Frag) (tl : TE) : TI := fun σ H R => tl σ H fun x H1 => ∃ a, x = .ref a ∧ (∃ xs, SqL K H1 a xs) ∧ R (Itl K a) H1
noncomputable def iTup (K : PySem.W.Frag) (tl : TE) : TI := fun σ H R => tl σ H fun x H1 => ∃ a, x = .ref a ∧ (∃ xs, SqT K H1 a xs) ∧ R (Itt K a) H1
theorem pi_list {l : Expr} {tl : TE} (hl : PE X l tl) : PI X tg l (iList X.K tl) := by
  intro pins s σ H R I h
  refine thn (hl pins s σ H _ I h) fun v s1 ⟨x, H1, I1, r1, q1⟩ => ?_
  obtain ⟨a, e, ⟨xs, hq⟩, q⟩ := q1
  subst e
  cases r1
  obtain ⟨its, rv, p, hz⟩ := I1.list hq
  refine wpAny_pyIter_list p.isList ?_
  refine ⟨s1.heap.objs.size, [s1.heap.objs.size], _, _, H1, rfl, I1.kept (t' := s1.toks) fun b o e => Heap.get?_push_of_some _ e, turn_list a _, ⟨_, Heap.get?_push_size _ rfl, rfl, rfl⟩, fun b hb => ?_, q⟩
  have e : b = s1.heap.objs.size := by simpa using hb
  subst e
  exact I1.fpOk (Nat.le_refl _) (I1.hok.fresh (Nat.le_refl _))
theorem pi_tup {l : Expr} {tl : TE} (hl : PE X l tl) : PI X tg l (iTup X.K tl) := by
  intro pins s σ H R I h
  refine thn (hl pins s σ H _ I h) fun v s1 ⟨x, H1, I1, r1, q1⟩ => ?_
  obtain ⟨a, e, ⟨xs, hq⟩, q⟩ := q1
  subst e
  cases r1
  obtain ⟨its, rv, p, hz⟩ := I1.tuple hq
  refine wpAny_pyIter_tuple (show s1.heap.IsTuple a its.toArray from p) ?_
  refine ⟨s1.heap.objs.size, [s1.heap.objs.size], _, _, H1, rfl, I1.kept (t' := s1.toks) fun b o e => Heap.get?_push_of_some _ e, turn_tuple a _, ⟨_, Heap.get?_push_size _ rfl, rfl, rfl⟩, fun b hb => ?_, q⟩
  have e : b = s1.heap.objs.size := by simpa using hb
  subst e
  exact I1.fpOk (Nat.le_refl _) (I1.hok.fresh (Nat.le_refl _))
theorem range_it {pins : List (Addr × Obj)} {σ : St} {H : Hp} {s : Shared} {R : It → Hp → Prop} {E : Value → Shared → Prop} {lo hi : Int} {t u v : Tok} {tk : Nat} (I : Inv X pins σ H s) (h1 : -(2 ^ 62) ≤ lo) (h2 : lo < 2 ^ 62) (h3 : -(2 ^ 62) ≤ hi) (h4 : hi < 2 ^ 62)
    (q : R (Itr lo (hi - lo).toNat) H) : wpAny (model X.prog X.w) X.A (pyIter (.ref s.heap.objs.size)) (PIE X pins σ tg R) E { s with heap := s.heap.push { cls := .type "range", data := .fields #[.int lo t, .int hi u, .int 1 v] }, toks := tk } := by
  refine wpAny_pyIter_range (IsRange.new ..) (small_one h1 h2 h3 h4) ?_
  have I1 : Inv X pins σ H { s with heap := s.heap.push { cls := .type "range", data := .fields #[.int lo t, .int hi u, .int 1 v] }, toks := tk } := I.kept fun b o e => Heap.get?_push_of_some _ e
  refine ⟨(s.heap.push { cls := .type "range", data := .fields #[.int lo t, .int hi u, .int 1 v] }).objs.size, [(s.heap.push { cls := .type "range", data := .fields #[.int lo t, .int hi u, .int 1 v] }).objs.size], _, _, H, rfl,
    I1.kept (t' := tk) fun b o e => Heap.get?_push_of_some _ e, turn_range _ lo (hi - lo).toNat, ?_, fun b hb => ?_, q⟩
  · have e1 : lo + ((0 : Nat) : Int) * 1 = lo := by simp
    have e2 : (((hi - lo).toNat : Nat) : Int) - ((0 : Nat) : Int) = Builtin.Range.rangeSize lo hi 1 := by rw [rangeSize_one]; split <;> omega
    show IsRangeIter _ _ (lo + ((0 : Nat) : Int) * 1) ((((hi - lo).toNat : Nat) : Int) - ((0 : Nat) : Int)) 1
    rw [e1, e2]
    exact Heap.get?_push_size _ rfl
  · have e : b = (s.heap.push { cls := .type "range", data := .fields #[.int lo t, .int hi u, .int 1 v] }).objs.size := by simpa using hb
    subst e
    exact I1.fpOk (Nat.le_refl _) (I1.hok.fresh (Nat.le_refl _))
noncomputable def iRng1 (ta : TA) : TI := fun σ H R => ta σ H fun vs H1 => ∃ j : Int, vs = [.int j] ∧ -(2 ^ 62) ≤ j ∧ j < 2 ^ 62 ∧ R (Itr 0 j.toNat) H1
theorem pi_range1 {a : Expr} {ta : TA} {p pos : Pos} (hg : Gl X "range") (hm : X.mg "range" = none) (ha : PA X [a] ta) (hs : starEach [a] X.env = [(false, eval a X.env)] := by rfl) : PI X tg (.Call (.Name "range" p) [a] [] pos) (iRng1 ta) := by
  intro pins s σ H R I h
  refine Call_ (ld_blt I hg hm boot_range (PyProof.Rows.callWith_type1 (thn (ha pos pins s σ H _ I h) fun us s1 ⟨vs, H1, I1, r1, q1⟩ => ?_) hs rfl))
  obtain ⟨j, e, q1, q2, q⟩ := q1
  subst e
  cases r1 with
  | cons r rr =>
    cases rr
    obtain ⟨t, rfl⟩ := r
    exact call_range_1 (range_it I1 (by omega) (by omega) q1 q2 (by simpa using q))
noncomputable def tFor (wi : TI) (g : TG) (tb : TS) : TS := fun D σ H => wi σ H fun J H1 => ∃ W : Nat → Nat → St → Hp → Prop, (∃ m, W 0 m σ H1) ∧ ∀ i m σ H, W i m σ H →
  (J.stop i H ∧ D.nx σ H) ∨ (J.go i H ∧ ∃ N : St → Hp → Prop, (∀ σ' H', N σ' H' → ∃ m', m' < m ∧ W (i + 1) m' σ' H') ∧ ∀ x H', J.yld i H x H' → g x σ H' fun σ2 H2 => tb { D with nx := N, ct := N, bk := D.nx } σ2 H2)
noncomputable def pinsAt (fp : List Addr) (h : Heap) : List (Addr × Obj) := fp.filterMap fun b => (h.get? b).map fun o => (b, o)
theorem mem_pinsAt {fp : List Addr} {h : Heap} {b : Addr} {o : Obj} (hb : b ∈ fp) (e : h.get? b = some o) : (b, o) ∈ pinsAt fp h := List.mem_filterMap.mpr ⟨b, hb, by rw [e]; rfl⟩
theorem of_pinsAt {fp : List Addr} {h : Heap} {p : Addr × Obj} (hp : p ∈ pinsAt fp h) : p.1 ∈ fp ∧ h.get? p.1 = some p.2 := by
  obtain ⟨b, hb, e⟩ := List.mem_filterMap.mp hp
  cases q : h.get? b with
  | none => rw [q] at e; cases e
  | some o =>
    rw [q] at e
    have e' : (b, o) = p := Option.some.inj e
    subst e'
    exact ⟨hb, q⟩
theorem Inv.pinned {pins : List (Addr × Obj)} {σ : St} {H : Hp} {s : Shared} {fp : List Addr} (I : Inv X pins σ H s) (hf : ∀ b ∈ fp, FpOk X pins H b) (ho : ∀ b ∈ fp, ∃ o, s.heap.get? b = some o ∧ ∀ v, o.data ≠ .cell v) : Inv X (pins ++ pinsAt fp s.heap) σ H s :=
  I.pins_of fun p hp => (List.mem_append.mp hp).elim (fun z => I.pin p (List.mem_append_right _ z)) fun z => by
    obtain ⟨hb, e⟩ := of_pinsAt z
    obtain ⟨f0, f1, f2, _⟩ := hf p.1 hb
    obtain ⟨o, e', d⟩ := ho p.1 hb
    rw [e] at e'; cases e'
    exact ⟨e, f0, f1, f2, d⟩
theorem Inv.unpinned {pins pl : List (Addr × Obj)} {σ : St} {H : Hp} {s : Shared} (I : Inv X (pins ++ pl) σ H s) : Inv X pins σ H s := I.pins_of fun p hp => I.pin p (List.mem_append_right _ (List.mem_append_left _ hp))
theorem ps_for {iter : Expr} {body : List Stmt} {wi : TI} {g : TG} {tb : TS} {pos : Pos} (hp : PassesOwn (model X.prog X.w) X.A X.env X.xe) (hc : X.calm = true) (hi : PI X tg iter wi) (hg : PG X tg g) (hb : PSs X body tb)
    (hs : ∀ x, foldedSetIterable iter X.env x = pure x := by intro _; rfl) : PS X (.For tg iter body [] pos) (tFor wi g tb) := by
  intro pins s σ H D I h
  refine wpAny_For (thn (hi pins s σ H _ I h) fun v s1 h1 => thn h1 fun itv s2 h2 => ?_) hs
  obtain ⟨it, fp, tn, J, H2, e, I2, T, st2, f2, W, ⟨m0, w0⟩, turn⟩ := h2
  subst e
  -- what stays true of the iterator's objects through the loop
  have stat : ∀ {H' : Hp}, (∀ b ∈ fp, H' b = none) → ∀ b ∈ fp, FpOk X pins H' b := fun hn b hb => ⟨hn b hb, (f2 b hb).2⟩
  refine codeAny_forLoop_any (fun n s' => ∃ i σ' H', Inv X pins σ' H' s' ∧ tn i s'.heap ∧ (∀ b ∈ fp, H' b = none) ∧ W i n σ' H') ?_ m0 ⟨0, σ, H2, I2, st2, fun b hb => (f2 b hb).1, w0⟩
  rintro n s3 ⟨i, σ3, H3, I3, st3, fr3, w3⟩
  rcases turn i n σ3 H3 w3 with ⟨stop, qn⟩ | ⟨go, N, hN, step⟩
  · refine wpAny_passesOwn hp (thn (T.done X rfl rfl rfl hc i pins s3 σ3 H3 X.xe I3 (stat fr3) st3 stop) fun r s4 ⟨hr, I4⟩ => ?_)
    subst hr
    exact wpAny_execs_nil ⟨σ3, H3, I4, qn⟩
  · refine wpAny_passesOwn hp (thn (T.item X rfl rfl rfl hc i pins s3 σ3 H3 X.xe I3 (stat fr3) st3 go) fun r s4 ⟨u, hr, h4⟩ => ?_)
    subst hr
    refine wpAny_passesOwn hp (thn h4 fun _ s5 ⟨x, H5, I5, r5, y5, st5, fr5⟩ => ?_)
    have I5' := I5.pinned (stat fr5) (T.obj _ _ st5)
    refine wpAny_passesOwn hp (thn (hg _ s5 σ3 H5 x u _ I5' r5 (step x H5 y5)) fun _ s6 ⟨σ6, H6, I6, q6⟩ => ?_)
    refine wpAny_passesOwn hp (thn (hb _ s6 σ6 H6 _ I6 q6) fun f s7 q7 => ?_)
    have again : ∀ {σ7 : St} {H7 : Hp}, Inv X (pins ++ pinsAt fp s5.heap) σ7 H7 s7 → N σ7 H7 → ∃ m, m < n ∧ ∃ i σ' H', Inv X pins σ' H' s7 ∧ tn i s7.heap ∧ (∀ b ∈ fp, H' b = none) ∧ W i m σ' H' := fun {σ7 H7} I7 n7 => by
      obtain ⟨m', hm, w7⟩ := hN σ7 H7 n7
      refine ⟨m', hm, i + 1, σ7, H7, I7.unpinned, T.keep _ _ _ st5 fun b hb o e => (I7.pin (b, o) (List.mem_append_right _ (List.mem_append_right _ (mem_pinsAt hb e)))).1, fun b hb => ?_, w7⟩
      obtain ⟨o, e, d⟩ := T.obj _ _ st5 b hb
      exact (I7.pin (b, o) (List.mem_append_right _ (List.mem_append_right _ (mem_pinsAt hb e)))).2.1
    cases f with
    | next => obtain ⟨σ7, H7, I7, n7⟩ := q7; exact again I7 n7
    | cont => obtain ⟨σ7, H7, I7, n7⟩ := q7; exact again I7 n7
    | brk => obtain ⟨σ7, H7, I7, q7⟩ := q7; exact ⟨σ7, H7, I7.unpinned, q7⟩
    | ret v => obtain ⟨x7, σ7, H7, I7, r7, q7⟩ := q7; exact ⟨x7, σ7, H7, I7.unpinned, r7, q7⟩
end
end L2
namespace L2
open PySem PySem.Spec PyProof.Rows
noncomputable abbrev R2 := V → V → Hp → VK → Prop
noncomputable def OpR (X : Cx) (f : Value → Value → Sem Value) (r : R2) : Prop :=
  ∀ (pins : List (Addr × Obj)) (s : Shared) (σ : St) (H : Hp) (x y : V) (v u : Value) (Q : VK), Inv X pins σ H s → RelV x v → RelV y u → r x y H Q →
    wpAny (model X.prog X.w) X.A (f v u) (EP X pins σ Q) X.xe s
noncomputable def CallR (X : Cx) (f : Value) (r : List V → Hp → VK → Prop) : Prop :=
  ∀ (pins : List (Addr × Obj)) (s : Shared) (σ : St) (H : Hp) (xs : List V) (us : List Value) (Q : VK), Inv X pins σ H s → Vals xs us → r xs H Q →
    wpAny (model X.prog X.w) X.A (call f us) (EP X pins σ Q) X.xe s
noncomputable def TruR (X : Cx) (r : V → Hp → (Bool → Hp → Prop) → Prop) : Prop :=
  ∀ (pins : List (Addr × Obj)) (s : Shared) (σ : St) (H : Hp) (x : V) (v : Value) (Q : Bool → Hp → Prop), Inv X pins σ H s → RelV x v → r x H Q →
    wpAny (model X.prog X.w) X.A (truthy v) (TP X pins σ Q) X.xe s
noncomputable def tOp (r : R2) (ta tb : TE) : TE := fun σ H Q => ta σ H fun x H1 => tb σ H1 fun y H2 => r x y H2 Q
noncomputable def rI (C : Int → Int → Prop) (g : Int → Int → V) : R2 := fun x y H Q => ∃ i j, x = .int i ∧ y = .int j ∧ C i j ∧ Q (g i j) H
noncomputable def rI0 (g : Int → Int → V) : R2 := fun x y H Q => ∃ i j, x = .int i ∧ y = .int j ∧ Q (g i j) H
section
variable {X : Cx} {a b c : Expr} {ta tb tc : TE} {pos : Pos}
theorem binT (ha : PE X a ta) (hb : PE X b tb) {pins : List (Addr × Obj)} {s : Shared} {σ : St} {H : Hp} {R : V → V → Hp → Prop} (I : Inv X pins σ H s)
    (h : ta σ H fun x H1 => tb σ H1 fun y H2 => R x y H2) {Q : Value → Shared → Prop} {f : Value → Value → Sem Value}
    (hf : ∀ v u s2 x y H2, Inv X pins σ H2 s2 → RelV x v → RelV y u → R x y H2 → wpAny (model X.prog X.w) X.A (f v u) Q X.xe s2) :
    wpAny (model X.prog X.w) X.A (eval a X.env) (fun v s₁ => wpAny (model X.prog X.w) X.A (eval b X.env) (fun u s₂ => wpAny (model X.prog X.w) X.A (f v u) Q X.xe s₂) X.xe s₁) X.xe s := by
  refine thn (ha pins s σ H _ I h) fun v s1 ⟨x, H1, I1, r1, q1⟩ => ?_
  refine thn (hb pins s1 σ H1 _ I1 q1) fun u s2 ⟨y, H2, I2, r2, q2⟩ => ?_
  exact hf v u s2 x y H2 I2 r1 r2 q2
theorem pe_op {op : Operator} {r : R2} (ho : OpR X (binaryOp op) r) (ha : PE X a ta) (hb : PE X b tb) : PE X (.BinOp a op b pos) (tOp r ta tb) := by
  intro pins s σ H Q I h
  exact wpAny_BinOp (binT ha hb I h fun v u s2 x y H2 I2 rx ry q => ho pins s2 σ H2 x y v u Q I2 rx ry q)
theorem opI {f : Value → Value → Sem Value} {C : Int → Int → Prop} {g : Int → Int → Int}
    (rule : ∀ (i j : Int) (t u : Tok) (s : Shared) (Q : Value → Shared → Prop) (E : Value → Shared → Prop), C i j → Q (.int (g i j) s.toks) { s with toks := s.toks + 1 } → wpAny (model X.prog X.w) X.A (f (.int i t) (.int j u)) Q E s) :
    OpR X f (rI C fun i j => .int (g i j)) := by
  intro pins s σ H x y v u Q I rx ry h
  obtain ⟨i, j, rfl, rfl, hc, q⟩ := h
  obtain ⟨t, rfl⟩ := rx
  obtain ⟨t', rfl⟩ := ry
  exact rule i j t t' s _ _ hc ⟨.int (g i j), H, I.tok _, ⟨_, rfl⟩, q⟩
theorem opI0 {f : Value → Value → Sem Value} {g : Int → Int → Int}
    (rule : ∀ (i j : Int) (t u : Tok) (s : Shared) (Q : Value → Shared → Prop) (E : Value → Shared → Prop), Q (.int (g i j) s.toks) { s with toks := s.toks + 1 } → wpAny (model X.prog X.w) X.A (f (.int i t) (.int j u)) Q E s) :
    OpR X f (rI0 fun i j => .int (g i j)) := by
  intro pins s σ H x y v u Q I rx ry h
  obtain ⟨i, j, rfl, rfl, q⟩ := h
  obtain ⟨t, rfl⟩ := rx
  obtain ⟨t', rfl⟩ := ry
  exact rule i j t t' s _ _ ⟨.int (g i j), H, I.tok _, ⟨_, rfl⟩, q⟩
theorem opB0 {f : Value → Value → Sem Value} {g : Int → Int → Bool}
    (rule : ∀ (i j : Int) (t u : Tok) (s : Shared) (Q : Value → Shared → Prop) (E : Value → Shared → Prop), Q (.bool (g i j)) s → wpAny (model X.prog X.w) X.A (f (.int i t) (.int j u)) Q E s) :
    OpR X f (rI0 fun i j => .bl (g i j)) := by
  intro pins s σ H x y v u Q I rx ry h
  obtain ⟨i, j, rfl, rfl, q⟩ := h
  obtain ⟨t, rfl⟩ := rx
  obtain ⟨t', rfl⟩ := ry
  exact rule i j t t' s _ _ ⟨.bl (g i j), H, I, rfl, q⟩
noncomputable def CMul (i j : Int) : Prop := (-(2 ^ 64) < i ∧ i < 2 ^ 64) ∨ (-(2 ^ 64) < j ∧ j < 2 ^ 64)
theorem CMul.ok {i j : Int} (h : CMul i j) : IntMulOk i j := by
  rcases h with ⟨h1, h2⟩ | ⟨h1, h2⟩
  · exact .of_left (intBits_le_64 h1 h2)
  · exact .of_right (intBits_le_64 h1 h2)
theorem op_add : OpR X (binaryOp .Add) (rI0 fun i j => .int (i + j)) := opI0 fun _ _ _ _ _ _ _ q => add_int q
theorem op_sub : OpR X (binaryOp .Sub) (rI0 fun i j => .int (i - j)) := opI0 fun _ _ _ _ _ _ _ q => sub_int q
theorem op_mul : OpR X (binaryOp .Mult) (rI CMul fun i j => .int (i * j)) := opI fun _ _ _ _ _ _ _ hc q => mul_int q hc.ok
theorem op_modN : OpR X (binaryOp .Mod) (rI (fun _ j => j ≠ 0) fun i j => .int (i.fmod j)) := opI fun _ _ _ _ _ _ _ hc q => mod_int' hc q
end
noncomputable def scal : V → V → Bool
  | .non, .non => true | .non, .int _ => true | .int _, .non => true | .non, .bl _ => true | .bl _, .non => true | .non, .str _ => true | .str _, .non => true
  | .int _, .int _ => true | .bl _, .bl _ => true | .str _, .str _ => true | .byt _, .byt _ => true
  | .int _, .str _ => true | .str _, .int _ => true | .bl _, .str _ => true | .str _, .bl _ => true
  | _, _ => false
noncomputable def rEq : R2 := fun x y H Q => scal x y = true ∧ Q (.bl (decide (x = y))) H
noncomputable def rNe : R2 := fun x y H Q => scal x y = true ∧ Q (.bl (!decide (x = y))) H
theorem dec_int {i j : Int} : decide (V.int i = V.int j) = (i == j) := by
  rw [Bool.eq_iff_iff]
  simp
theorem dec_bl {i j : Bool} : decide (V.bl i = V.bl j) = (i == j) := by
  rw [Bool.eq_iff_iff]
  simp
theorem dec_str {i j : Str} : decide (V.str i = V.str j) = (i == j) := by
  rw [Bool.eq_iff_iff]
  simp
theorem dec_byt {i j : Array UInt8} : decide (V.byt i = V.byt j) = (i.toList == j.toList) := by
  rw [Bool.eq_iff_iff]
  cases i
  cases j
  simp
section
variable {X : Cx} {a b c : Expr} {ta tb tc : TE} {pos : Pos}
theorem fin_bl {pins : List (Addr × Obj)} {σ : St} {H : Hp} {s : Shared} {Q : VK} {k k' : Bool} (I : Inv X pins σ H s) (q : Q (.bl k) H) (e : k = k') : EP X pins σ Q (.bool k') s := by
  subst e
  exact ⟨.bl k, H, I, rfl, q⟩
theorem op_eq : OpR X (compareOp .Eq) rEq := by
  intro pins s σ H x y v u Q I rx ry h
  obtain ⟨hs, q⟩ := h
  cases x with
  | non =>
    cases rx
    cases y with
    | non => cases ry; exact PySem.EqNone.eq_none_none (fin_bl I q (by simp))
    | bl j => cases ry; exact PySem.EqNone.eq_none_bool (fin_bl I q (by simp))
    | int j => obtain ⟨t', rfl⟩ := ry; exact PySem.EqNone.eq_none_int (fin_bl I q (by simp))
    | str j => obtain ⟨t', rfl⟩ := ry; exact PySem.EqNone.eq_none_str (fin_bl I q (by simp))
    | _ => exact absurd (show false = true from hs) Bool.false_ne_true
  | bl i =>
    cases rx
    cases y with
    | non => cases ry; exact PySem.EqNone.eq_bool_none (fin_bl I q (by simp))
    | bl j => cases ry; exact eq_bool (fin_bl I q dec_bl)
    | str j => obtain ⟨t', rfl⟩ := ry; exact PySem.EqMixed.eq_bool_str (fin_bl I q (by simp))
    | _ => exact absurd (show false = true from hs) Bool.false_ne_true
  | int i =>
    obtain ⟨t, rfl⟩ := rx
    cases y with
    | non => cases ry; exact PySem.EqNone.eq_int_none (fin_bl I q (by simp))
    | int j => obtain ⟨t', rfl⟩ := ry; exact eq_int (fin_bl I q dec_int)
    | str j => obtain ⟨t', rfl⟩ := ry; exact PySem.EqMixed.eq_int_str (fin_bl I q (by simp))
    | _ => exact absurd (show false = true from hs) Bool.false_ne_true
  | str i =>
    obtain ⟨t, rfl⟩ := rx
    cases y with
    | non => cases ry; exact PySem.EqNone.eq_str_none (fin_bl I q (by simp))
    | bl j => cases ry; exact PySem.EqMixed.eq_str_bool (fin_bl I q (by simp))
    | int j => obtain ⟨t', rfl⟩ := ry; exact PySem.EqMixed.eq_str_int (fin_bl I q (by simp))
    | str j => obtain ⟨t', rfl⟩ := ry; exact eq_str (fin_bl I q dec_str)
    | _ => exact absurd (show false = true from hs) Bool.false_ne_true
  | byt i =>
    obtain ⟨t, rfl⟩ := rx
    cases y with
    | byt j => obtain ⟨t', rfl⟩ := ry; exact PySem.W.eq_bytes (fin_bl I q dec_byt)
    | _ => exact absurd (show false = true from hs) Bool.false_ne_true
  | _ => cases y <;> exact absurd (show false = true from hs) Bool.false_ne_true
theorem op_ne : OpR X (compareOp .NotEq) rNe := by
  intro pins s σ H x y v u Q I rx ry h
  obtain ⟨hs, q⟩ := h
  cases x with
  | non =>
    cases rx
    cases y with
    | non => cases ry; exact PySem.EqNone.ne_none_none (fin_bl I q (by simp))
    | bl j => cases ry; exact PySem.EqNone.ne_none_bool (fin_bl I q (by simp))
    | int j => obtain ⟨t', rfl⟩ := ry; exact PySem.EqNone.ne_none_int (fin_bl I q (by simp))
    | str j => obtain ⟨t', rfl⟩ := ry; exact PySem.EqNone.ne_none_str (fin_bl I q (by simp))
    | _ => exact absurd (show false = true from hs) Bool.false_ne_true
  | bl i =>
    cases rx
    cases y with
    | non => cases ry; exact PySem.EqNone.ne_bool_none (fin_bl I q (by simp))
    | bl j => cases ry; exact ne_bool (fin_bl I q (congrArg not dec_bl))
    | str j => obtain ⟨t', rfl⟩ := ry; exact PySem.EqMixed.ne_bool_str (fin_bl I q (by simp))
    | _ => exact absurd (show false = true from hs) Bool.false_ne_true
  | int i =>
    obtain ⟨t, rfl⟩ := rx
    cases y with
    | non => cases ry; exact PySem.EqNone.ne_int_none (fin_bl I q (by simp))
    | int j => obtain ⟨t', rfl⟩ := ry; exact ne_int (fin_bl I q (congrArg not dec_int))
    | str j => obtain ⟨t', rfl⟩ := ry; exact PySem.EqMixed.ne_int_str (fin_bl I q (by simp))
    | _ => exact absurd (show false = true from hs) Bool.false_ne_true
  | str i =>
    obtain ⟨t, rfl⟩ := rx
    cases y with
    | non => cases ry; exact PySem.EqNone.ne_str_none (fin_bl I q (by simp))
    | bl j => cases ry; exact PySem.EqMixed.ne_str_bool (fin_bl I q (by simp))
    | int j => obtain ⟨t', rfl⟩ := ry; exact PySem.EqMixed.ne_str_int (fin_bl I q (by simp))
    | str j => obtain ⟨t', rfl⟩ := ry; exact ne_str (fin_bl I q (congrArg not dec_str))
    | _ => exact absurd (show false = true from hs) Bool.false_ne_true
  | byt i =>
    obtain ⟨t, rfl⟩ := rx
    cases y with
    | byt j => obtain ⟨t', rfl⟩ := ry; exact PySem.W.ne_bytes (fin_bl I q (congrArg not dec_byt))
    | _ => exact absurd (show false = true from hs) Bool.false_ne_true
  | _ => cases y <;> exact absurd (show false = true from hs) Bool.false_ne_true
theorem op_lt : OpR X (compareOp .Lt) (rI0 fun i j => .bl (decide (i < j))) := opB0 fun _ _ _ _ _ _ _ q => lt_int q
theorem op_gt : OpR X (compareOp .Gt) (rI0 fun i j => .bl (decide (j < i))) := opB0 fun _ _ _ _ _ _ _ q => gt_int q
theorem op_in_str : OpR X (compareOp .In) (fun x y H Q => ∃ i j, x = .str i ∧ y = .str j ∧ Q (.bl (!(Builtin.Str.occurrences j i 0 j.length 1).isEmpty)) H) := by
  intro pins s σ H x y v u Q I rx ry h
  obtain ⟨i, j, rfl, rfl, q⟩ := h
  obtain ⟨t, rfl⟩ := rx
  obtain ⟨t', rfl⟩ := ry
  exact in_str (fin_bl I q rfl)
theorem op_isN : OpR X (compareOp .Is) (fun x y H Q => y = .non ∧ Q (.bl (decide (x = .non))) H) := by
  intro pins s σ H x y v u Q I rx ry h
  obtain ⟨rfl, q⟩ := h
  cases ry
  refine is_none_gen (fin_bl I q ?_)
  cases x <;> first
    | (cases rx; rfl)
    | (obtain ⟨t, rfl⟩ := rx; rfl)
theorem op_notN : OpR X (compareOp .IsNot) (fun x y H Q => y = .non ∧ Q (.bl (!decide (x = .non))) H) := by
  intro pins s σ H x y v u Q I rx ry h
  obtain ⟨rfl, q⟩ := h
  cases ry
  refine isnot_none_gen (fin_bl I q ?_)
  cases x <;> first
    | (cases rx; rfl)
    | (obtain ⟨t, rfl⟩ := rx; rfl)
theorem OpR.or {f : Value → Value → Sem Value} {r r' : R2} (h : OpR X f r) (h' : OpR X f r') : OpR X f (fun x y H Q => r x y H Q ∨ r' x y H Q) := by
  intro pins s σ H x y v u Q I rx ry q
  rcases q with q | q
  · exact h pins s σ H x y v u Q I rx ry q
  · exact h' pins s σ H x y v u Q I rx ry q
theorem nomark (b : Expr) {op : CmpOp} (h : op ≠ .In := by decide) (h2 : op ≠ .NotIn := by decide) : behindInMarks op b = false := by
  have e1 : (op == CmpOp.In) = false := by cases op <;> first | rfl | exact absurd rfl h
  have e2 : (op == CmpOp.NotIn) = false := by cases op <;> first | rfl | exact absurd rfl h2
  cases b <;> simp [behindInMarks, e1, e2]
theorem pe_cmpR {op : CmpOp} {r : R2} (ho : OpR X (compareOp op) r) (ha : PE X a ta) (hb : PE X b tb) (hm : behindInMarks op b = false) : PE X (.Compare a [op] [b] pos) (tOp r ta tb) := by
  intro pins s σ H Q I h
  exact wpAny_Compare1 (binT ha hb I h fun v u s2 x y H2 I2 rx ry q => ho pins s2 σ H2 x y v u Q I2 rx ry q) hm
noncomputable def tTest (t : TE) : TT := fun σ H Q => t σ H fun x H' => ∃ k, x = .bl k ∧ Q k H'
theorem pt_cmpR {op : CmpOp} {r : R2} (ho : OpR X (compareOp op) r) (ha : PE X a ta) (hb : PE X b tb) (hm : behindInMarks op b = false) : PT X (.Compare a [op] [b] pos) (tTest (tOp r ta tb)) := by
  intro pins s σ H Q I h
  refine wpAny_isTrue_Compare1 (thn (ha pins s σ H _ I h) fun v s1 ⟨x, H1, I1, r1, q1⟩ => thn (hb pins s1 σ H1 _ I1 q1) fun u s2 ⟨y, H2, I2, r2, q2⟩ =>
    thn (ho pins s2 σ H2 x y v u _ I2 r1 r2 q2) fun c s3 ⟨z, H3, I3, r3, k, e, q3⟩ => ?_) hm
  subst e
  cases r3
  exact wpAny_truthy_bool ⟨H3, I3, q3⟩
noncomputable def TruV (K : PySem.W.Frag) (x : V) (H : Hp) (k : Bool) : Prop :=
  match x with
  | .non => k = false
  | .bl b => k = b
  | .int i => k = (i != 0)
  | .str y => y.length ≤ sizeLine ∧ k = ((y.length : Int) != 0)
  | .byt y => y.size ≤ sizeLine ∧ k = ((y.size : Int) != 0)
  | .ref p => (∃ xs, SqL K H p xs ∧ k = !xs.isEmpty) ∨ (∃ xs, SqT K H p xs ∧ k = !xs.isEmpty) ∨ ∃ kvs, H p = some (.dK kvs) ∧ k = !kvs.isEmpty
  | _ => False
theorem isEmpty_kv {κ : Type} {kvs : List (κ × V)} {vs : List (κ × Value)} (r : KV kvs vs) : (!vs.isEmpty) = !kvs.isEmpty := by
  cases r <;> rfl
theorem isEmpty_of {xs : List V} {its : List Value} (r : Vals xs its) : (!its.toArray.isEmpty) = !xs.isEmpty := by
  cases r <;> simp
theorem line63 : (sizeLine : Nat) < 2 ^ 63 := by rw [sizeLine_eq]; decide
theorem tru_ok : TruR X (fun x H Q => ∃ k, TruV X.K x H k ∧ Q k H) := by
  intro pins s σ H x v Q I rx h
  obtain ⟨k, e, q⟩ := h
  have hl := line63
  have hs : sizeLine = 16777216 := sizeLine_eq
  cases x with
  | non =>
    cases rx
    have e' : k = false := e
    subst e'
    exact truthy_none ⟨H, I, q⟩
  | bl b =>
    cases rx
    have e' : k = b := e
    subst e'
    exact wpAny_truthy_bool ⟨H, I, q⟩
  | int i =>
    obtain ⟨t, rfl⟩ := rx
    have e' : k = (i != 0) := e
    subst e'
    exact PySem.P.truthy_int ⟨H, I, q⟩
  | str y =>
    obtain ⟨t, rfl⟩ := rx
    obtain ⟨hy, e'⟩ : y.length ≤ sizeLine ∧ k = ((y.length : Int) != 0) := e
    subst e'
    exact PySem.P.truthy_str (by omega) ⟨H, I.tok _, q⟩
  | byt y =>
    obtain ⟨t, rfl⟩ := rx
    obtain ⟨hy, e'⟩ : y.size ≤ sizeLine ∧ k = ((y.size : Int) != 0) := e
    subst e'
    exact PySem.W.truthy_bytes (by omega) ⟨H, I.tok _, q⟩
  | ref p =>
    cases rx
    have e' : (∃ xs, SqL X.K H p xs ∧ k = !xs.isEmpty) ∨ (∃ xs, SqT X.K H p xs ∧ k = !xs.isEmpty) ∨ ∃ kvs, H p = some (.dK kvs) ∧ k = !kvs.isEmpty := e
    rcases e' with ⟨xs, hx, e'⟩ | ⟨xs, hx, e'⟩ | ⟨kvs, hx, e'⟩
    · subst e'
      obtain ⟨its, r, pl, hz⟩ := I.list hx
      have hlen := r.length
      exact wpAny_truthy_list pl.isList (by simp only [List.size_toArray]; omega) ⟨H, I.tok _, by rw [isEmpty_of r]; exact q⟩
    · subst e'
      obtain ⟨its, r, pl, hz⟩ := I.tuple hx
      have hlen := r.length
      exact truthy_tuple pl (by simp only [List.size_toArray]; omega) ⟨H, I.tok _, by rw [isEmpty_of r]; exact q⟩
    · subst e'
      obtain ⟨hz, hS, vs, r, m⟩ : kvs.length ≤ sizeLine ∧ (p == sysModules) = false ∧ ∃ vs, KV kvs vs ∧ s.heap.DictOf (mixKind X.prog X.w) p vs := I.hok p _ hx
      have hlen : kvs.length = vs.length := Paired.length r
      exact wpAny_truthy_dict hS m (by omega) ⟨H, I.tok _, by rw [isEmpty_kv r]; exact q⟩
  | _ => exact (show False from e).elim
theorem pt_truth (ha : PE X a ta) (he : ∀ whole, isTrue a X.env whole = (do let v ← whole; standAt a.pos; holding [v] (truthy v))) :
    PT X a (fun σ H Q => ta σ H fun x H' => ∃ k, TruV X.K x H' k ∧ Q k H') := by
  intro pins s σ H Q I h
  exact isTrue_plain (thn (ha pins s σ H _ I h) fun v s1 ⟨x, H1, I1, r1, q1⟩ => tru_ok pins s1 σ H1 x v Q I1 r1 q1) (he _)
theorem op_add_str : OpR X (binaryOp .Add) (fun x y H Q => ∃ i j, x = .str i ∧ y = .str j ∧ i.length + j.length ≤ sizeLine ∧ Q (.str (i ++ j)) H) := by
  intro pins s σ H x y v u Q I rx ry h
  obtain ⟨i, j, rfl, rfl, hz, q⟩ := h
  obtain ⟨t, rfl⟩ := rx
  obtain ⟨t', rfl⟩ := ry
  exact add_str (fun t' tk => ⟨.str (i ++ j), H, I.tok _, ⟨_, rfl⟩, q⟩) hz
theorem vals1 {x : V} {us : List Value} (r : Vals [x] us) : ∃ u, us = [u] ∧ RelV x u := by
  cases r with
  | cons r1 r2 => cases r2; exact ⟨_, rfl, r1⟩
theorem vals2 {x y : V} {us : List Value} (r : Vals [x, y] us) : ∃ u w', us = [u, w'] ∧ RelV x u ∧ RelV y w' := by
  cases r with
  | cons r1 r2 =>
    cases r2 with
    | cons r3 r4 => cases r4; exact ⟨_, _, rfl, r1, r3⟩
theorem call_abs : CallR X (.builtin "abs") (fun xs H Q => ∃ i, xs = [.int i] ∧ Q (.int (if i < 0 then -i else i)) H) := by
  intro pins s σ H xs us Q I r h
  obtain ⟨i, rfl, q⟩ := h
  obtain ⟨u, rfl, t, rfl⟩ := vals1 r
  exact call_abs_int fun u tk => ⟨.int (if i < 0 then -i else i), H, I.tok _, ⟨_, rfl⟩, q⟩
end
end L2
namespace L2
open PySem PySem.Spec PyProof.Rows
structure ObjM (h : Heap) (x dx C : Addr) (mA : Str → Option Value) : Prop where
  obj : h.get? x = some (PySem.W.instObj C dx)
  ns : h.Ns1 dx mA
  ne : dx ≠ x
theorem lookIn_ns {h : Heap} {dx : Addr} {mA : Str → Option Value} (n : h.Ns1 dx mA) : ∃ od, h.get? dx = some od ∧ ∀ name, PySem.W.lookIn name od = some (mA name) := by
  obtain ⟨o, es, ep, ho, hd, hk, _, hm⟩ := n
  refine ⟨o, ho, fun name => ?_⟩
  have e := hm name
  unfold nsFind findBy at e
  rw [← Array.find?_toList] at e
  unfold PySem.W.lookIn
  rw [hd]
  dsimp only
  split
  · rename_i y q
    rw [q] at e
    exact congrArg some e
  · rename_i q
    rw [q] at e
    have a : es.toList.any (·.refKey) = false := by
      rw [List.any_eq_false]
      intro y hy
      obtain ⟨z, t, hkey⟩ := hk y (Array.mem_toList_iff.mp hy)
      simp [DictEntry.refKey, hkey]
    have a' : ¬ es.toList.any (·.refKey) = true := by rw [a]; exact Bool.false_ne_true
    rw [if_neg a']
    exact congrArg some e
theorem ObjM.look {h : Heap} {x dx C : Addr} {mA : Str → Option Value} (I : ObjM h x dx C mA) : ∃ od, PySem.W.InstAt h x (PySem.W.instObj C dx) C (some od) ∧ ∀ name, PySem.W.lookIn name od = some (mA name) :=
  let ⟨od, ho, hl⟩ := lookIn_ns I.ns
  ⟨od, ⟨I.obj, rfl, rfl, ho⟩, hl⟩
section
variable {prog : Program} {w : World} {A : Around} {E : Value → Shared → Prop} {s : Shared} {K : PySem.W.Frag} {x dx C f : Addr} {mA : Str → Option Value} {name : Str} {v : Value}
end
section
variable {P : Program} {w : World} {H H' : Hp} {h h' : Heap} {a C dx : Addr} {fs fs' : List (Str × V)}
end
structure Cls (K : PySem.W.Frag) (C : Addr) : Prop where
  pg : PySem.W.plainGet K C Str.empty = true
  hd : PySem.W.hasDictIn K C = true
  po : PySem.W.plainOver K C = true
  sa : PySem.W.findIn K (.ref C) "__setattr__" = some (some (.builtin "object.__setattr__"))
theorem Cls.get {K : PySem.W.Frag} {C : Addr} (c : Cls K C) (f : Str) : PySem.W.plainGet K C f = true := c.pg
structure Con (K : PySem.W.Frag) (C : Addr) (f : Str) (v : V) (u : Value) : Prop where
  at_ : PySem.W.findIn K (.ref C) f = some (some u)
  rel : RelV v u
  get : PySem.W.specialIn K u "__get__" = some none
  cp : PySem.W.copiedNames.contains f = false
structure Meth (K : PySem.W.Frag) (C : Addr) (m : Str) (f : Addr) : Prop where
  at_ : PySem.W.findIn K (.ref C) m = some (some (.ref f))
  fn : PySem.W.isFn K (.ref f) = true
  kp : PySem.W.keepIn K (.ref f) = true
section
variable {X : Cx} {pins : List (Addr × Obj)} {σ : St} {H : Hp} {s : Shared} {a C dx : Addr} {fs : List (Str × V)} {f : Str} {v : V} {A : Around} {E : Value → Shared → Prop}
theorem Inv.made (I : Inv X pins σ H s) : Inv X pins σ (upd (upd H s.heap.objs.size (.own (s.heap.objs.size + 1))) (s.heap.objs.size + 1) (.ins C s.heap.objs.size []))
    { s with heap := (s.heap.push PySem.W.emptyDict).push (PySem.W.instObj C s.heap.objs.size) } := by
  have e1 : (s.heap.push PySem.W.emptyDict).get? s.heap.objs.size = some PySem.W.emptyDict := Heap.get?_push_size s.heap rfl
  have e2 : ((s.heap.push PySem.W.emptyDict).push (PySem.W.instObj C s.heap.objs.size)).get? (s.heap.objs.size + 1) = some (PySem.W.instObj C s.heap.objs.size) := by
    have := Heap.get?_push_size (s.heap.push PySem.W.emptyDict) (o := PySem.W.instObj C s.heap.objs.size) rfl
    rwa [Heap.size_push] at this
  have e3 : (s.heap.push PySem.W.emptyDict).Ns s.heap.objs.size (fun _ => none) := ⟨PySem.W.emptyDict, #[], _, e1, rfl, (fun e he => absurd he (by simp)), fun _ => rfl⟩
  have I1 := I.laid (a := s.heap.objs.size) (o := .own (s.heap.objs.size + 1)) (h' := s.heap.push PySem.W.emptyDict) (t' := s.toks) (fun b u q => Heap.get?_push_of_some _ q) (Nat.le_refl _) ⟨_, e1⟩
  refine I1.laid (a := s.heap.objs.size + 1) (o := .ins C s.heap.objs.size []) (t' := s.toks) (fun b u q => Heap.get?_push_of_some _ q) (Nat.le_of_eq (Heap.size_push _ _)) ?_
  have ne : s.heap.objs.size ≠ s.heap.objs.size + 1 := Nat.ne_of_lt (Nat.lt_succ_self _)
  refine ⟨by rw [upd_ne ne, upd_same], Nat.zero_le _, ne, e2, fun _ => none, (Heap.Ns1.of_empty e3).at fun o q => Heap.get?_push_of_some _ q, fun _ => True.intro, fun y hy => absurd rfl hy⟩
end
section
variable {X : Cx} {o e value : Expr} {f : Str} {pos pos' tpos : Pos} {ta tv : TE}
end
section
variable {X : Cx} {pins : List (Addr × Obj)} {σ : St} {H : Hp} {s : Shared} {A : Around} {E : Value → Shared → Prop} {Q : Value → Shared → Prop} {c : Value} {b : Bool}
inductive TyOf (K : PySem.W.Frag) (H : Hp) : V → Value → Prop where
  | non : TyOf K H .non (.type "NoneType")
  | bl (x : Bool) : TyOf K H (.bl x) (.type "bool")
  | int (i : Int) : TyOf K H (.int i) (.type "int")
  | str (x : Str) : TyOf K H (.str x) (.type "str")
  | flt (x : UInt64) : TyOf K H (.flt x) (.type "float")
  | lst {a : Addr} {xs : List V} (e : H a = some (.lst xs)) : TyOf K H (.ref a) (.type "list")
  | frz {a : Addr} {o : Obj} {xs : List V} (e : H a = some (.frz o (.lst xs))) : TyOf K H (.ref a) (.type "list")
  | tup {a : Addr} {xs : List V} (e : H a = some (.tup xs)) : TyOf K H (.ref a) (.type "tuple")
  | dK {a : Addr} {kvs : List (Key × V)} (e : H a = some (.dK kvs)) : TyOf K H (.ref a) (.type "dict")
  | dT {a : Addr} {kvs : List (List Key × V)} (e : H a = some (.dT kvs)) : TyOf K H (.ref a) (.type "dict")
  | ins {a C dx : Addr} {fs : List (Str × V)} (e : H a = some (.ins C dx fs)) (cl : Cls K C) (ha : PySem.W.findIn K (.ref C) "__class__" = some (some (.builtin "object.__class__")))
      (hn : PySem.W.specialIn K (.builtin "object.__class__") "__get__" = some (some (.builtin "getset_descriptor.__get__"))) (htk : PySem.W.takesIn K (.builtin "object.__class__") = some true)
      (hm : PySem.W.mroIn K C (.type "object") = some true) : TyOf K H (.ref a) (.ref C)
end
end L2
namespace L2
open PySem PySem.Spec PyProof.Rows
structure Room (k : Nat) (A : Around) : Prop where
  hd : A.handled = none
  dp : A.depth + 3 * k + 5 < recursionLimit
  un : A.units + 16 * k + 200 < cLine
theorem Room.mono {j k : Nat} {A : Around} (r : Room k A) (h : j ≤ k) : Room j A := ⟨r.hd, by have := r.dp; omega, by have := r.un; omega⟩
theorem Room.deeper {k : Nat} {A : Around} (r : Room (k + 1) A) (env : Env) : Room k (A.deeper env) :=
  ⟨r.hd, by have := r.dp; show A.depth + 1 + 3 * k + 5 < _; omega, by have := r.un; show A.units + 3 + 16 * k + 200 < _; omega⟩
theorem Room.in1 {k : Nat} {A : Around} (r : Room (k + 1) A) : Room k A.in1 :=
  ⟨r.hd, by have := r.dp; show A.depth + 3 * k + 5 < _; omega, by have := r.un; show A.units + 1 + 16 * k + 200 < _; omega⟩
theorem Room.depth {k : Nat} {A : Around} (r : Room k A) : A.depth < recursionLimit := by have := r.dp; omega
theorem Room.units {k : Nat} {A : Around} (r : Room k A) : A.units + 64 < cLine := by have := r.un; omega
noncomputable def tNil : TA := fun _ H Q => Q [] H
noncomputable def tCons (ta : TE) (tr : TA) : TA := fun σ H Q => ta σ H fun x H1 => tr σ H1 fun xs H2 => Q (x :: xs) H2
section
variable {X : Cx} {e : Expr} {es : List Expr} {te : TE} {t : TA} {pos : Pos}
theorem pa_nil : PA X [] tNil := fun _ _ _ _ H Q I h => Calls.spliced_nil ⟨[], H, I, .nil, h⟩
theorem pa_cons (ha : PE X e te) (hr : PA X es t) (hs : starEach (e :: es) X.env = (false, eval e X.env) :: starEach es X.env := by rfl) : PA X (e :: es) (tCons te t) := by
  intro pos pins s σ H Q I h
  rw [hs]
  show wpAny _ _ (spliced ((false, eval e X.env) :: backTo pos (starEach es X.env))) _ _ s
  refine Calls.spliced_cons (thn (ha pins s σ H _ I h) fun u s1 ⟨x, H1, I1, r1, q1⟩ => ?_)
  exact thn (hr pos pins s1 σ H1 _ I1 q1) fun us s2 ⟨xs, H2, I2, r2, q2⟩ => ⟨x :: xs, H2, I2, .cons r1 r2, q2⟩
noncomputable def tTup (t : TA) : TE := fun σ H Q => t σ H fun xs H1 => xs.length ≤ sizeLine ∧ ∀ p, H1 p = none → Q (.ref p) (upd H1 p (.tup xs))
noncomputable def tLst (t : TA) : TE := fun σ H Q => t σ H fun xs H1 => xs.length ≤ sizeLine ∧ ∀ p, H1 p = none → Q (.ref p) (upd H1 p (.lst xs))
theorem pe_tup {x1} (h : PA X es t) : PE X (.Tuple es x1 pos) (tTup t) := by
  intro pins s σ H Q I hq
  refine wpAny_Tuple_spliced (thn (h pos pins s σ H _ I hq) fun us s1 ⟨xs, H1, I1, r, z, q⟩ => ⟨by rw [← r.length]; exact z, ?_⟩)
  have hf : H1 s1.heap.objs.size = none := I1.hok.fresh (Nat.le_refl _)
  refine ⟨.ref s1.heap.objs.size, upd H1 s1.heap.objs.size (.tup xs), I1.laid (t' := s1.toks) (fun b u e => Heap.get?_push_of_some _ e) (Nat.le_refl _) ?_, rfl, q _ hf⟩
  exact ⟨z, us, r, ⟨_, Heap.get?_push_size _ rfl, rfl, _, rfl⟩⟩
theorem pe_lst (h : PA X es t) : PE X (.List es pos) (tLst t) := by
  intro pins s σ H Q I hq
  refine wpAny_List_spliced (thn (h pos pins s σ H _ I hq) fun us s1 ⟨xs, H1, I1, r, z, q⟩ => ⟨by rw [← r.length]; exact z, ?_⟩)
  have hf : H1 s1.heap.objs.size = none := I1.hok.fresh (Nat.le_refl _)
  refine ⟨.ref s1.heap.objs.size, upd H1 s1.heap.objs.size (.lst xs), I1.laid (t' := s1.toks) (fun b u e => Heap.get?_push_of_some _ e) (Nat.le_refl _) ?_, rfl, q _ hf⟩
  exact ⟨z, us, 0, r, Heap.get?_push_size _ rfl⟩
end
noncomputable abbrev Sp := List V → Hp → VK → XK → Prop
noncomputable abbrev CXT := List Env → Hp → Shared → XK → Value → Shared → Prop
structure Env0 (P : Program) (w : World) (K : PySem.W.Frag) (mg : Str → Option Value) (base : Heap) (A : Around) (outer : List Env) (s : Shared) (H : Hp) : Prop where
  frames : A.frames = some outer
  mod : Mod K mg base
  bs : ∀ b o, base.get? b = some o → s.heap.get? b = some o ∧ H b = none
  bsz : base.objs.size ≤ s.heap.objs.size
  funs : s.heap.FunFrames base outer
  frf : ∀ b ∈ frs outer, H b = none
  hok : HOk P w H s.heap
  bare : AllBare s.gens
noncomputable def CE (outer : List Env) (P : Program) (w : World) (H : Hp) (s : Shared) (Q : VK) (u : Value) (s' : Shared) : Prop :=
  ∃ v H', s'.os = s.os ∧ AllBare s'.gens ∧ Un (frs outer) [] H H' s.heap s'.heap ∧ HOk P w H' s'.heap ∧ RelV v u ∧ Q v H'
noncomputable def CR (CX : CXT) (outer : List Env) (P : Program) (w : World) (H : Hp) (s : Shared) (Q : VK) (E : XK) (r : Result) (s' : Shared) : Prop :=
  match r with
  | .ok (.ret u) => CE outer P w H s Q u s'
  | .ok _ => False
  | .error e => CX outer H s E e s'
structure FnOk (P : Program) (w : World) (K : PySem.W.Frag) (mg : Str → Option Value) (base : Heap) (CX : CXT) (k : Nat) (f : Addr) (fd : FuncData) (ps : List Str) (sp : Sp) : Prop where
  len : ∀ vs H Q E, sp vs H Q E → vs.length = ps.length
  run : ∀ (A : Around) (outer : List Env) (s : Shared) (H : Hp) (args : Args) (us : List Value) (vs : List V) (Q : VK) (E : XK), Room k A → Env0 P w K mg base A outer s H → BindsTo s fd args (ps.zip us) → Vals vs us → sp vs H Q E →
    codeAny (model P w) A (.call (.ref f) args) (CR CX outer P w H s Q E) s
theorem FnOk.mono {P : Program} {w : World} {K : PySem.W.Frag} {mg : Str → Option Value} {base : Heap} {CX : CXT} {j k : Nat} {f : Addr} {fd : FuncData} {ps : List Str} {sp : Sp} (F : FnOk P w K mg base CX j f fd ps sp) (h : j ≤ k) :
    FnOk P w K mg base CX k f fd ps sp := ⟨F.len, fun A outer s H args us vs Q E hr => F.run A outer s H args us vs Q E (hr.mono h)⟩
theorem FnOk.imp {P : Program} {w : World} {K : PySem.W.Frag} {mg : Str → Option Value} {base : Heap} {CX : CXT} {k : Nat} {f : Addr} {fd : FuncData} {ps : List Str} {sp sp' : Sp} (F : FnOk P w K mg base CX k f fd ps sp)
    (h : ∀ vs H Q E, sp' vs H Q E → sp vs H Q E) : FnOk P w K mg base CX k f fd ps sp' :=
  ⟨fun vs H Q E q => F.len vs H Q E (h _ _ _ _ q), fun A outer s H args us vs Q E hr he hb hv hs => F.run A outer s H args us vs Q E hr he hb hv (h _ _ _ _ hs)⟩
theorem Env0.in1 {P : Program} {w : World} {K : PySem.W.Frag} {mg : Str → Option Value} {base : Heap} {A : Around} {outer : List Env} {s : Shared} {H : Hp} (e : Env0 P w K mg base A outer s H) :
    Env0 P w K mg base A.in1 outer s H := ⟨e.frames, e.mod, e.bs, e.bsz, e.funs, e.frf, e.hok, e.bare⟩
section
variable {X : Cx} {pins : List (Addr × Obj)} {σ : St} {H : Hp} {s s' : Shared}
theorem Inv.env0 (I : Inv X pins σ H s) : Env0 X.prog X.w X.K X.mg X.base X.A X.stack s H :=
  ⟨I.ok.frames, I.ok.mod, I.bs, Nat.le_trans I.ok.bsz I.sz, I.stack, I.stkFree, I.hok, I.bare⟩
theorem Inv.after {Q : VK} {u : Value} (I : Inv X pins σ H s) (h : CE X.stack X.prog X.w H s Q u s') : EP X pins σ Q u s' := by
  obtain ⟨v, H', os, bare, un, hok, r, q⟩ := h
  obtain ⟨hh, g, d, t, os'⟩ := s'
  obtain rfl : os' = s.os := os
  exact ⟨v, H', I.call (h' := hh) (g' := g) (d' := d) (t' := t) (ch := []) un hok bare (fun b z => absurd z (by simp)), r, q⟩
end
noncomputable def tCall (sp : Sp) (dvs : List V) (E : XK) (t : TA) : TE := fun σ H Q => t σ H fun vs H1 => sp (vs ++ dvs) H1 Q E
noncomputable def Binds (K : PySem.W.Frag) (fd : FuncData) (ps : List Str) (ds : List Value) : Prop :=
  ∀ (s : Shared) (us : List Value), K.In s.heap → (us ++ ds).length = ps.length → BindsTo s fd ⟨us, []⟩ (ps.zip (us ++ ds))
theorem Binds.all {K : PySem.W.Frag} {fd : FuncData} {ps : List Str} (h : ∀ us : List Value, us.length = ps.length → bindArgs fd ⟨us, []⟩ = pure (ps.zip us)) : Binds K fd ps [] := fun s us _ hl => by
  rw [List.append_nil] at hl ⊢
  exact .of_eq (h us hl)
noncomputable def Passes (CX : CXT) (X : Cx) (E : XK) : Prop := ∀ (pins : List (Addr × Obj)) (σ : St) (H : Hp) (s : Shared) (e : Value) (s' : Shared), Inv X pins σ H s → CX X.stack H s E e s' → X.xe e s'
section
variable {X : Cx} {CX : CXT} {k : Nat} {f C : Addr} {fd : FuncData} {ps : List Str} {sp : Sp} {dvs : List V} {ds : List Value} {E : XK} {x m : Str} {p pos apos : Pos} {e o : Expr} {es : List Expr} {ta : TE} {t : TA}
theorem run_fn {pins : List (Addr × Obj)} {σ : St} {H : Hp} {s : Shared} {Q : VK} {us : List Value} {vs : List V} (F : FnOk X.prog X.w X.K X.mg X.base CX k f fd ps sp) (hr : Room k X.A) (hb : Binds X.K fd ps ds) (hd : Vals dvs ds) (hx : Passes CX X E)
    (I : Inv X pins σ H s) (r : Vals vs us) (h : sp (vs ++ dvs) H Q E) : wpAny (model X.prog X.w) X.A (call (.ref f) us) (EP X pins σ Q) X.xe s := by
  have r2 : Vals (vs ++ dvs) (us ++ ds) := r.append hd
  have hl : (us ++ ds).length = ps.length := by rw [← r2.length]; exact F.len _ _ _ _ h
  refine wpAny_call (codeAny_mono (F.run X.A X.stack s H ⟨us, []⟩ (us ++ ds) (vs ++ dvs) Q E hr I.env0 (hb s us I.kIn hl) r2 h) fun r s' hq => ?_)
  cases r with
  | error e => exact hx pins σ H s e s' I hq
  | ok fl =>
    cases fl with
    | ret u => exact I.after hq
    | next => exact False.elim hq
    | brk => exact False.elim hq
    | cont => exact False.elim hq
theorem pe_call (F : FnOk X.prog X.w X.K X.mg X.base CX k f fd ps sp) (hr : Room k X.A) (hg : Gl X x) (hm : X.mg x = some (.ref f)) (hk : PySem.W.keepIn X.K (.ref f) = true) (hb : Binds X.K fd ps ds) (hd : Vals dvs ds) (hx : Passes CX X E)
    (ha : PA X (e :: es) t) (hdb : (x == ("__debug__" : Str)) = false := by decide) (he : starEach (e :: es) X.env = (false, eval e X.env) :: starEach es X.env := by rfl) (hpl : (backTo pos (starEach es X.env)).any (·.1) = false := by rfl) :
    PE X (.Call (.Name x p) (e :: es) [] pos) (tCall sp dvs E t) := by
  intro pins s σ H Q I h
  refine wpAny_Call_Name_kw (ld_glob I hg hm ?_ hdb)
  refine PySem.W.callWith_K (h₀ := X.base) I.ok.mod.kin hk (thn (ha pos pins s σ H _ I h) fun us s1 ⟨vs, H1, I1, r, q⟩ => ⟨I1.kIn, ?_⟩) he hpl
  exact run_fn F hr hb hd hx I1 r q
structure Mk (K : PySem.W.Frag) (C f : Addr) : Prop where
  makes : PySem.W.makesIn K C = true
  init : PySem.W.findIn K (.ref C) "__init__" = some (some (.ref f))
  fn : PySem.W.isFn K (.ref f) = true
  kp : PySem.W.keepIn K (.ref C) = true
end
section
variable {X : Cx} {CX : CXT} {k : Nat} {f C : Addr} {fd : FuncData} {ps ks : List Str} {sp : Sp} {E : XK} {x m : Str} {p pos apos kpos : Pos} {e o : Expr} {es : List Expr} {kws : List Keyword} {te ta : TE} {t tk : TA} {nm : Option Str}
structure KBinds (K : PySem.W.Frag) (fd : FuncData) (ps ks : List Str) (g : List Value → List Value → List Value) (gV : List V → List V → List V) : Prop where
  to : ∀ (s : Shared) (us ws : List Value), K.In s.heap → (g us ws).length = ps.length → BindsTo s fd ⟨us, ks.zip ws⟩ (ps.zip (g us ws))
  rel : ∀ {vs : List V} {us : List Value} {zs : List V} {ws : List Value}, Vals vs us → Vals zs ws → Vals (gV vs zs) (g us ws)
variable {g : List Value → List Value → List Value} {gV : List V → List V → List V}
end
structure FnScope (N P : List Str) (sc : Scope) : Prop where
  kind : sc.kind = .function
  co : sc.isCoroutine = false
  gen : sc.isGenerator = false
  nd : N.Nodup
  pre : N.take P.length = P
  par : ∀ x ∈ P, sc.names.lookup x = some .local ∨ sc.names.lookup x = some .cell
  nofree : ∀ y ∈ sc.names, y.2 ≠ .free
theorem bindL_out {kindOf : Str → Option NameKind} {x : Str} : ∀ {binds : List (Str × Value)} {m : Str → Option Value}, (∀ v, (x, v) ∉ binds) → bindL kindOf binds m x = m x
  | [], _, _ => rfl
  | (n, v) :: r, m, h => by
    unfold bindL
    rw [bindL_out fun w hw => h w (List.mem_cons_of_mem _ hw)]
    split
    · have : x ≠ n := by rintro rfl; exact h v List.mem_cons_self
      simp [this]
    · rfl
theorem bindC_out {kindOf : Str → Option NameKind} {x : Str} : ∀ {binds : List (Str × Value)} {m : Str → Option Value}, (∀ v, (x, v) ∉ binds) → bindC kindOf binds m x = m x
  | [], _, _ => rfl
  | (n, v) :: r, m, h => by
    unfold bindC
    rw [bindC_out fun w hw => h w (List.mem_cons_of_mem _ hw)]
    split
    · rfl
    · have : x ≠ n := by rintro rfl; exact h v List.mem_cons_self
      simp [this]
theorem bindL_get {kindOf : Str → Option NameKind} {x : Str} {v : Value} : ∀ {P : List Str} {vs : List Value} {i : Nat} {m : Str → Option Value}, P.Nodup → P[i]? = some x → vs[i]? = some v → kindOf x = some .local →
    bindL kindOf (P.zip vs) m x = some v
  | [], _, _, _, _, h, _, _ => by simp at h
  | _ :: _, [], _, _, _, _, h, _ => by simp at h
  | p :: P, w :: vs, 0, m, nd, h1, h2, hk => by
    simp at h1 h2; subst h1; subst h2
    show bindL kindOf ((p, w) :: P.zip vs) m p = _
    unfold bindL
    rw [bindL_out fun v hv => (List.nodup_cons.mp nd).1 (List.of_mem_zip hv).1, if_pos hk]
    simp
  | p :: P, w :: vs, i + 1, m, nd, h1, h2, hk => by
    show bindL kindOf ((p, w) :: P.zip vs) m x = _
    unfold bindL
    exact bindL_get (i := i) (List.nodup_cons.mp nd).2 (by simpa using h1) (by simpa using h2) hk
theorem bindC_get {kindOf : Str → Option NameKind} {x : Str} {v : Value} : ∀ {P : List Str} {vs : List Value} {i : Nat} {m : Str → Option Value}, P.Nodup → P[i]? = some x → vs[i]? = some v → kindOf x ≠ some .local →
    bindC kindOf (P.zip vs) m x = some v
  | [], _, _, _, _, h, _, _ => by simp at h
  | _ :: _, [], _, _, _, _, h, _ => by simp at h
  | p :: P, w :: vs, 0, m, nd, h1, h2, hk => by
    simp at h1 h2; subst h1; subst h2
    show bindC kindOf ((p, w) :: P.zip vs) m p = _
    unfold bindC
    rw [bindC_out fun v hv => (List.nodup_cons.mp nd).1 (List.of_mem_zip hv).1, if_neg hk]
    simp
  | p :: P, w :: vs, i + 1, m, nd, h1, h2, hk => by
    show bindC kindOf ((p, w) :: P.zip vs) m x = _
    unfold bindC
    exact bindC_get (i := i) (List.nodup_cons.mp nd).2 (by simpa using h1) (by simpa using h2) hk
noncomputable def start (N : List Str) (vs : List V) : St := vs.map some ++ List.replicate (N.length - vs.length) none
noncomputable def cxOf (CX : CXT) (P : Program) (w : World) (K : PySem.W.Frag) (mg : Str → Option Value) (base : Heap) (N : List Str) (qual : Str) (scope : Scope) (f : Addr) (cd : Value) (A : Around) (outer : List Env) (s : Shared) (H : Hp) (E : XK) : Cx where
  prog := P
  w := w
  K := K
  mg := mg
  base := base
  A := A.deeper (envOfC qual scope s.heap.objs.size f cd)
  N := N
  s₀ := s
  H₀ := H
  env := envOfC qual scope s.heap.objs.size f cd
  outer := outer
  stack := envOfC qual scope s.heap.objs.size f cd :: outer
  ex := []
  calm := true
  fn := fun _ => true
  pn := []
  xe := fun e s' => wpAny (model P w) (A.deeper (envOfC qual scope s.heap.objs.size f cd)) (leaving (envOfC qual scope s.heap.objs.size f cd) e) (fun _ s'' => CX outer H s E e s'') (fun e' s'' => CX outer H s E e' s'') s'
theorem cell_has {sc : Scope} {n : Nat} {x : Str} (h : sc.names.lookup x = some .cell) : ∃ c, (cellsFrom n sc.names []).lookup x = some c := by
  have q := PySem.W.cellsFrom_some sc.names n [] (.inl h)
  exact Option.isSome_iff_exists.mp q
theorem inv_start {CX : CXT} {P : Program} {w : World} {K : PySem.W.Frag} {mg : Str → Option Value} {base : Heap} {N ps : List Str} {qual : Str} {scope : Scope} {f : Addr} {cd : Value} {A : Around} {outer : List Env} {s s1 : Shared} {H : Hp} {E : XK} {us : List Value} {vs : List V}
    (S : FnScope N ps scope) (hd : A.handled = none) (e0 : Env0 P w K mg base A outer s H) (hl : vs.length = ps.length) (r : Vals vs us)
    (x : InCallC s s.heap.objs.size (bindL (envOfC qual scope s.heap.objs.size f cd).kindOf (ps.zip us) fun _ => none) (cellsFrom (s.heap.objs.size + 1) scope.names []) (bindC (envOfC qual scope s.heap.objs.size f cd).kindOf (ps.zip us) fun _ => none) s1) :
    Inv (cxOf CX P w K mg base N qual scope f cd A outer s H E) [] (start N vs) H s1 := by
  have hpl : ps.length ≤ N.length := by have := congrArg List.length S.pre; rw [List.length_take] at this; omega
  obtain ⟨h1, tk, rfl, hk⟩ := x.done
  have noA : ∀ b : Addr, b ∉ (cxOf CX P w K mg base N qual scope f cd A outer s H E).ex := fun b z => absurd (show b ∈ ([] : List Addr) from z) (by simp)
  refine ⟨⟨e0.mod, S.kind, rfl, rfl, Nat.le_refl _, fun y z c h1 h2 => ?_, fun y hy => ?_, fun y c _ h => ?_, fun _ => hd, Around.frames_deeper e0.frames, .inr ⟨rfl, rfl⟩, fun b z => absurd z (noA b), e0.bs, e0.bsz, fun b _ _ => noA b, fun b z => absurd z (noA b), e0.funs, e0.frf⟩,
    rfl, e0.bare, Un.kept hk, ⟨_, x.toInCall.ns, fun i y v h1 h2 h3 => ?_⟩, fun y c h => ⟨_, x.cell y c h⟩, e0.hok.fresh (Nat.le_refl _), fun y c h => ?_, fun p hp => absurd (show p ∈ ([] : List (Addr × Obj)) from hp) (by simp), e0.hok.kept hk, ?_⟩
  · exact name_of_addr x.apart (PySem.mem_of_lookup h1) (PySem.mem_of_lookup h2)
  · have hy : scope.names.lookup y = some .cell ∨ scope.names.lookup y = some .free := hy
    rcases hy with hy | hy
    · exact cell_has hy
    · exact absurd rfl (S.nofree _ (PySem.mem_of_lookup hy))
  · exact Nat.le_of_lt (x.above y c (PySem.mem_of_lookup h))
  · have hi : i < vs.length := by
      unfold start at h2
      by_cases hi : i < vs.length
      · exact hi
      · rw [List.getElem?_append_right (by simpa using hi)] at h2
        rw [List.getElem?_replicate] at h2
        split at h2 <;> cases h2
    have ha : vs[i]? = some v := by
      unfold start at h2
      rw [List.getElem?_append_left (by simpa using hi), List.getElem?_map] at h2
      cases e : vs[i]? with
      | none => rw [e] at h2; cases h2
      | some a => rw [e] at h2; cases h2; rfl
    obtain ⟨u, hu, rv⟩ := r.get ha
    have hp : ps[i]? = some y := by
      rw [← S.pre, List.getElem?_take_of_lt (by omega)]; exact h1
    have ndP : ps.Nodup := by rw [← S.pre]; exact S.nd.sublist (List.take_sublist _ _)
    refine ⟨u, rv, ?_⟩
    rcases S.par y (List.mem_of_getElem? hp) with k | k
    · exact .inl ⟨k, bindL_get ndP hp hu k⟩
    · obtain ⟨c, e⟩ := cell_has (n := s.heap.objs.size + 1) k
      refine .inr ⟨.inl k, c, e, ?_⟩
      have q := x.cell y c e
      rw [bindC_get ndP hp hu (by show scope.names.lookup y ≠ _; rw [k]; decide)] at q
      exact q
  · exact e0.hok.fresh (Nat.le_of_lt (x.above y c (PySem.mem_of_lookup h)))
  · unfold start
    show _ = N.length
    rw [List.length_append, List.length_map, List.length_replicate]
    omega
theorem fn_of {CX : CXT} {P : Program} {w : World} {K : PySem.W.Frag} {mg : Str → Option Value} {base : Heap} {k : Nat} {f : Addr} {name qual : Str} {params : Arguments} {body : List Stmt} {scope : Scope} {dV kV doc pm cdv ct oc : Value} {an od : Option Addr}
    {osl : Array (Option Value)} {N ps : List Str} {sp : Sp} (lk : K.lookup f = some ⟨oc, od, .func (PySem.W.fnOf name qual params body scope dV kV doc pm an cdv ct), osl⟩) (hcd : PySem.W.codeIn K cdv qual = true) (S : FnScope N ps scope)
    (len : ∀ vs H Q E, sp vs H Q E → vs.length = ps.length)
    (hbody : ∀ (A : Around) (outer : List Env) (s : Shared) (H : Hp) (vs : List V) (Q : VK) (E : XK), Room k (A.deeper (envOfC qual scope s.heap.objs.size f cdv)) → sp vs H Q E →
      ∃ t, PSs (cxOf CX P w K mg base N qual scope f cdv A outer s H E) body t ∧ t { nx := fun _ H' => Q .non H', rt := Q } (start N vs) H) :
    FnOk P w K mg base CX (k + 1) f (PySem.W.fnOf name qual params body scope dV kV doc pm an cdv ct) ps sp := by
  refine ⟨len, fun A outer s H args us vs Q E hr e0 hb r hsp => ?_⟩
  have hl := len _ _ _ _ hsp
  have KX : K.In s.heap := e0.mod.kin.keeps fun b o e => (e0.bs b o e).1
  have lim : s.heap.NoLimit := e0.mod.nolimit.keeps fun b o e => (e0.bs b o e).1
  have hkind : ∀ y ∈ ps.zip us, scope.names.lookup y.1 = some .local ∨ (scope.names.lookup y.1 = some .cell ∧ ((cellsFrom (s.heap.objs.size + 1) scope.names []).lookup y.1).isSome = true) := fun ⟨n, v⟩ hy => by
    rcases S.par n (List.of_mem_zip hy).1 with q | q
    · exact .inl q
    · exact .inr ⟨q, PySem.W.cellsFrom_some _ _ _ (.inl q)⟩
  refine codeAny_call_function hr.depth (KX _ _ lk) rfl S.co S.gen rfl (PySem.W.codeRec_of KX hcd) (hb _ _ _ _ ?_)
  refine wpAny_newFunctionEnv_cells S.kind hkind fun env he s1 x => ?_
  subst he
  refine ⟨lim.keeps x.toInCall.keep, codeAny_func ?_⟩
  obtain ⟨t, ht, hq⟩ := hbody A outer s H vs Q E (hr.deeper _) hsp
  have I : Inv (cxOf CX P w K mg base N qual scope f cdv A outer s H E) [] (start N vs) H s1 := inv_start S hr.hd e0 hl r x
  refine wpAny_mono (ht [] s1 (start N vs) H _ I hq) (fun fl s' hs => ?_) fun e s' hs => hs
  have fin : ∀ {σ' : St} {H' : Hp} {v : V} {u : Value}, Inv (cxOf CX P w K mg base N qual scope f cdv A outer s H E) [] σ' H' s' → RelV v u → Q v H' → CE outer P w H s Q u s' :=
    fun {σ' H' v u} J rv q => ⟨v, H', J.os, J.bare, J.base, J.hok, rv, q⟩
  cases fl with
  | ret u =>
    obtain ⟨v, σ', H', J, rv, q⟩ := hs
    exact fin J rv q
  | next =>
    obtain ⟨σ', H', J, q⟩ := hs
    exact fin (v := V.non) (u := Value.none) J rfl q
  | brk =>
    obtain ⟨_, _, _, q⟩ := hs
    exact False.elim q
  | cont =>
    obtain ⟨_, _, _, q⟩ := hs
    exact False.elim q
end L2
namespace L2
open PySem PySem.Spec PyProof.Rows
section
variable {X : Cx} {x : Str} {p pos : Pos} {e : Expr} {es : List Expr} {t : TA} {id T : String} {r : List V → Hp → VK → Prop}
noncomputable def tCB (r : List V → Hp → VK → Prop) (t : TA) : TE := fun σ H Q => t σ H fun vs H1 => r vs H1 Q
theorem pe_callB (hc : CallR X (.builtin id) r) (hg : Gl X x) (hm : X.mg x = none) (hv : bootBuiltins x = some (.builtin id)) (ha : PA X (e :: es) t) (hn : x ≠ "__name__" := by decide) (hdb : (x == ("__debug__" : Str)) = false := by decide)
    (he : starEach (e :: es) X.env = (false, eval e X.env) :: starEach es X.env := by rfl) (hpl : (backTo pos (starEach es X.env)).any (·.1) = false := by rfl) : PE X (.Call (.Name x p) (e :: es) [] pos) (tCB r t) := by
  intro pins s σ H Q I h
  refine wpAny_Call_Name_kw (ld_blt I hg hm hv ?_ hn hdb)
  exact PyProof.Rows.callWith_builtin1 (thn (ha pos pins s σ H _ I h) fun us s1 ⟨vs, H1, I1, r1, q1⟩ => hc pins s1 σ H1 vs us Q I1 r1 q1) he hpl
theorem pe_callTy (hc : CallR X (.type T) r) (hg : Gl X x) (hm : X.mg x = none) (hv : bootBuiltins x = some (.type T)) (ha : PA X (e :: es) t) (hn : x ≠ "__name__" := by decide) (hdb : (x == ("__debug__" : Str)) = false := by decide)
    (he : starEach (e :: es) X.env = (false, eval e X.env) :: starEach es X.env := by rfl) (hpl : (backTo pos (starEach es X.env)).any (·.1) = false := by rfl) : PE X (.Call (.Name x p) (e :: es) [] pos) (tCB r t) := by
  intro pins s σ H Q I h
  refine wpAny_Call_Name_kw (ld_blt I hg hm hv ?_ hn hdb)
  exact PyProof.Rows.callWith_type1 (thn (ha pos pins s σ H _ I h) fun us s1 ⟨vs, H1, I1, r1, q1⟩ => hc pins s1 σ H1 vs us Q I1 r1 q1) he hpl
end
end L2
namespace HT
open PySem PyProof.Rows
section
open PySem.SeqAt
open PySem.AutoSeq1 (wpAny_loadPart')
open PySem.MeetsSeq PySem.MeetsSeq2 PySem.MeetsSeq3
end
section
variable {prog : Program} {w : World} {A : Around} {E : Value → Shared → Prop} {s : Shared}
noncomputable def sIx (n d : Nat) : Option Int → Nat
  | none => d
  | some v => if v < 0 then (v + (n : Int)).toNat else min v.toNat n
theorem sIx_nat (n d k : Nat) : sIx n d (some (k : Int)) = min k n := by
  show (if (k : Int) < 0 then ((k : Int) + (n : Int)).toNat else min (k : Int).toNat n) = min k n
  rw [if_neg (by omega), Int.toNat_natCast]
theorem sIx_le (n d : Nat) (hd : d ≤ n) (o : Option Int) : sIx n d o ≤ n := by
  cases o with
  | none => exact hd
  | some v =>
    show (if v < 0 then (v + (n : Int)).toNat else min v.toNat n) ≤ n
    by_cases hv : v < 0
    · rw [if_pos hv]; omega
    · rw [if_neg hv]; exact Nat.min_le_right _ _
theorem clip_eq (v : Int) (n d : Nat) : (if v < 0 then max (v + (n : Int)) 0 else min v (n : Int)) = ((sIx n d (some v) : Nat) : Int) := by
  show (if v < 0 then max (v + (n : Int)) 0 else min v (n : Int)) = (((if v < 0 then (v + (n : Int)).toNat else min v.toNat n) : Nat) : Int)
  by_cases hv : v < 0
  · simp only [if_pos hv]; omega
  · simp only [if_neg hv]; omega
theorem adjust_gen (lo hi : Option Int) (n : Nat) : Builtin.Slice.sliceAdjust lo hi 1 (n : Int) = (((sIx n 0 lo : Nat) : Int), ((sIx n n hi : Nat) : Int)) := by
  have h1 : ¬ ((1 : Int) < 0) := by omega
  unfold Builtin.Slice.sliceAdjust
  simp only [h1, if_false]
  refine Prod.ext ?_ ?_
  · cases lo with
    | none => rfl
    | some v => exact clip_eq v n 0
  · cases hi with
    | none => rfl
    | some v => exact clip_eq v n n
theorem places_gen (i j : Nat) : Builtin.Slice.slicePlaces (i : Int) (j : Int) 1 = j - i := by
  unfold Builtin.Slice.slicePlaces
  have h1 : (1 : Int) > 0 := by omega
  simp only [h1, if_true, Int.ediv_one]
  split <;> omega
theorem slicePart_ {v : Value} {o : Option Int} {Q : Option Int → Shared → Prop} (p : IsPart v o) (h : Q o s) : wpAny (model prog w) A (Builtin.Slice.slicePartIndex v) Q E s := by
  cases p with
  | none => exact slicePart_none h
  | int i t => exact slicePart_int h
theorem sliceApplied_gen {sl : Addr} {vl vu : Value} {lo hi : Option Int} {n : Nat} {Q : Int × Int × Nat → Shared → Prop} (hs : s.heap.IsSliceOf sl vl vu .none) (pl : IsPart vl lo) (pu : IsPart vu hi)
    (h : Q (((sIx n 0 lo : Nat) : Int), 1, sIx n n hi - sIx n 0 lo) s) : wpAny (model prog w) A (Builtin.Slice.sliceApplied (.ref sl) (pure (n : Int))) Q E s := by
  obtain ⟨os, hos, hcs, hds⟩ := id hs
  unfold Builtin.Slice.sliceApplied Builtin.Slice.sliceFields
  refine wpAny_bind (wpAny_bind (wpAny_field hos hds (x := vl) rfl (wpAny_bind (wpAny_field hos hds (x := vu) rfl (wpAny_bind (wpAny_field hos hds (x := .none) rfl (wpAny_pure ?_)))))))
  refine wpAny_bind (slicePart_none ?_)
  show wpAny _ _ (if ((1 : Int) == 0) = true then _ else _) _ _ s
  rw [if_neg (by decide)]
  refine wpAny_bind (slicePart_ pl (wpAny_bind (slicePart_ pu (wpAny_bind (wpAny_pure ?_)))))
  show wpAny _ _ (match Builtin.Slice.sliceAdjust lo hi 1 (n : Int) with | (lo, hi) => pure (lo, (1 : Int), Builtin.Slice.slicePlaces lo hi 1)) _ _ s
  rw [adjust_gen lo hi n]
  show wpAny _ _ (pure (((sIx n 0 lo : Nat) : Int), (1 : Int), Builtin.Slice.slicePlaces ((sIx n 0 lo : Nat) : Int) ((sIx n n hi : Nat) : Int) 1)) _ _ s
  rw [places_gen]
  exact wpAny_pure h
theorem pick_gen (xs : Array Value) (i k : Nat) : ((List.range k).filterMap fun (m : Nat) => xs[((i : Int) + (m : Int) * 1).toNat]?).toArray = ((xs.toList.drop i).take k).toArray := by
  have e : (fun (m : Nat) => xs[((i : Int) + (m : Int) * 1).toNat]?) = fun m => xs[i + m]? := by
    funext m
    have : ((i : Int) + (m : Int) * 1).toNat = i + m := by omega
    rw [this]
  rw [e]
  have := pick_run xs i k
  rw [List.filterMap_map] at this
  have e2 : ((fun x => xs[x]?) ∘ fun x => i + x) = fun m => xs[i + m]? := rfl
  rw [e2] at this
  rw [this]
theorem getItem_tuple_cut {t sl : Addr} {items : Array Value} {vl vu : Value} {lo hi : Option Int} {Q : Value → Shared → Prop} (ht : IsTup s.heap t items) (hs : s.heap.IsSliceOf sl vl vu .none) (pl : IsPart vl lo) (pu : IsPart vu hi)
    (hw : ¬ (sIx items.size 0 lo = 0 ∧ sIx items.size items.size hi = items.size))
    (h : Q (.ref s.heap.objs.size) { s with heap := s.heap.push { cls := .type "tuple", data := .seq ((items.toList.drop (sIx items.size 0 lo)).take (sIx items.size items.size hi - sIx items.size 0 lo)).toArray } })
    (hsz : items.size ≤ sizeLine) : wpAny (model prog w) A (getItem (.ref t) (.ref sl)) Q E s := by
  have htake : sizeOk (.seq ((items.toList.drop (sIx items.size 0 lo)).take (sIx items.size items.size hi - sIx items.size 0 lo)).toArray) := by
    show ((items.toList.drop (sIx items.size 0 lo)).take (sIx items.size items.size hi - sIx items.size 0 lo)).toArray.size ≤ sizeLine
    rw [List.size_toArray, List.length_take, List.length_drop, Array.length_toList]
    omega
  have hj : sIx items.size items.size hi ≤ items.size := sIx_le _ _ (Nat.le_refl _) hi
  obtain ⟨os, hos, hcs, hds⟩ := id hs
  have hTs : s.TypeIs (.ref sl) "slice" := ⟨os, hos, hcs⟩
  unfold getItem
  try with_reducible refine wpAny_holding ?_
  first | refine wpAny_bind (wpAny_pure ?_) | skip
  refine wpAny_bind (wpAny_sequenceKey ht.typeIs (by decide) ?_)
  refine wpAny_bind (wpAny_callSpecial?_slot (name := Str.ofString "__getitem__") ht.typeIs PyProof.Rows.slot_tuple_getitem
    (wpAny_call_entry PyProof.Rows.slot_tuple_getitem ht.typeIs entry_tuple_getitem ?_ (args_tuple_getitem _ _)))
  show wpAny _ _ (Builtin.Tuple.tupleItemsOf (.ref t) >>= _) _ _ s
  refine wpAny_bind (tupleItemsOf_ ht ?_)
  refine wpAny_bind (wpAny_typeOf hTs ?_)
  rw [if_pos (by decide)]
  refine wpAny_bind (sliceApplied_gen hs pl pu ?_)
  have hno : ¬ ((((sIx items.size 0 lo : Nat) : Int) == 0 && (1 : Int) == 1 && (sIx items.size items.size hi - sIx items.size 0 lo) == items.size) = true) := by
    intro q
    rw [Bool.and_eq_true, Bool.and_eq_true] at q
    have q1 : ((sIx items.size 0 lo : Nat) : Int) = 0 := eq_of_beq q.1.1
    have q2 : sIx items.size items.size hi - sIx items.size 0 lo = items.size := eq_of_beq q.2
    exact hw ⟨by omega, by omega⟩
  show wpAny _ _ (if (((sIx items.size 0 lo : Nat) : Int) == 0 && (1 : Int) == 1 && (sIx items.size items.size hi - sIx items.size 0 lo) == items.size) = true then _ else _) _ _ s
  rw [if_neg hno, pick_gen]
  first
    | exact wpAny_bind (m := Builtin.Tuple.tupleExact _) (wpAny_newObj_type (wpAny_pure ⟨_, rfl, wpAny_pure h⟩) htake)
    | exact wpAny_bind (m := Builtin.Tuple.tupleExact _) (wpAny_newObj_type (wpAny_bind (wpAny_pure (wpAny_pure ⟨_, rfl, wpAny_pure h⟩))) htake)
    | exact wpAny_bind (wpAny_bind (m := Builtin.Tuple.tupleExact _) (wpAny_newObj_type (wpAny_pure (wpAny_pure ⟨_, rfl, wpAny_pure h⟩)) htake))
    | exact wpAny_bind (wpAny_bind (m := Builtin.Tuple.tupleExact _) (wpAny_newObj_type (wpAny_pure ⟨_, rfl, wpAny_pure h⟩) htake))
end
end HT
namespace L2
open PySem PySem.Spec PyProof.Rows
noncomputable abbrev TO := St → Hp → (Option Int → Hp → Prop) → Prop
noncomputable def PO (X : Cx) (e : Option Expr) (t : TO) : Prop :=
  ∀ (pins : List (Addr × Obj)) (s : Shared) (σ : St) (H : Hp) (Q : Option Int → Hp → Prop), Inv X pins σ H s → t σ H Q →
    wpAny (model X.prog X.w) X.A (evalPart e X.env) (fun u s' => ∃ o H', Inv X pins σ H' s' ∧ IsPart u o ∧ Q o H') X.xe s
noncomputable def tNoPart : TO := fun _ H Q => Q none H
noncomputable def tPart (t : TE) : TO := fun σ H Q => t σ H fun x H1 => ∃ i, x = .int i ∧ Q (some i) H1
section
variable {X : Cx} {e : Expr} {te : TE} {lo hi : Option Expr} {tl th : TO} {pos p2 : Pos}
theorem po_none : PO X none tNoPart := by
  intro pins s σ H Q I h
  rw [evalPart_none]
  exact wpAny_pure ⟨none, H, I, .none, h⟩
theorem po_some (h : PE X e te) : PO X (some e) (tPart te) := by
  intro pins s σ H Q I hw
  rw [evalPart_some]
  refine thn (h pins s σ H _ I hw) fun u s1 ⟨x, H1, I1, r1, q1⟩ => ?_
  obtain ⟨i, rfl, q⟩ := q1
  obtain ⟨t, rfl⟩ := r1
  exact ⟨some i, H1, I1, .int i t, q⟩
noncomputable def SlR (X : Cx) (r : V → Option Int → Option Int → Hp → VK → Prop) : Prop :=
  ∀ (pins : List (Addr × Obj)) (s : Shared) (σ : St) (H : Hp) (x : V) (v vl vu : Value) (lo hi : Option Int) (sl : Addr) (Q : VK), Inv X pins σ H s → RelV x v → s.heap.IsSliceOf sl vl vu .none → IsPart vl lo → IsPart vu hi → r x lo hi H Q →
    ∃ T id, typeLookup (.type T) "__getitem__" = pure (some (.builtin id)) ∧ s.TypeIs v T ∧ wpAny (model X.prog X.w) X.A (getItem v (.ref sl)) (EP X pins σ Q) X.xe s
theorem SlR.or {r r' : V → Option Int → Option Int → Hp → VK → Prop} (h : SlR X r) (h' : SlR X r') : SlR X (fun x lo hi H Q => r x lo hi H Q ∨ r' x lo hi H Q) := by
  intro pins s σ H x v vl vu lo hi sl Q I rx hs pl pu q
  rcases q with q | q
  · exact h pins s σ H x v vl vu lo hi sl Q I rx hs pl pu q
  · exact h' pins s σ H x v vl vu lo hi sl Q I rx hs pl pu q
noncomputable def tSl (r : V → Option Int → Option Int → Hp → VK → Prop) (te : TE) (tl th : TO) : TE := fun σ H Q => te σ H fun x H1 => tl σ H1 fun l H2 => th σ H2 fun u H3 => r x l u H3 Q
theorem pe_slice {r : V → Option Int → Option Int → Hp → VK → Prop} (hr : SlR X r) (he : PE X e te) (hl : PO X lo tl) (hu : PO X hi th) : PE X (.Subscript e (.Slice lo hi none p2) pos) (tSl r te tl th) := by
  intro pins s σ H Q I h
  refine Subscript_ (thn (he pins s σ H _ I h) fun v s1 ⟨x, H1, I1, r1, q1⟩ => ?_)
  refine wpAny_Slice (thn (hl pins s1 σ H1 _ I1 q1) fun vl s2 ⟨l, H2, I2, pl, q2⟩ => thn (hu pins s2 σ H2 _ I2 q2) fun vu s3 ⟨u, H3, I3, pu, q3⟩ => ?_)
  rw [evalPart_none]
  refine wpAny_pure ?_
  have I4 : Inv X pins σ H3 { s3 with heap := s3.heap.push { cls := .type "slice", data := .fields #[vl, vu, .none] } } := I3.kept (t' := s3.toks) fun b ob q => Heap.get?_push_of_some _ q
  obtain ⟨T, id, hT, ht, hg⟩ := hr pins { s3 with heap := s3.heap.push { cls := .type "slice", data := .fields #[vl, vu, .none] } } σ H3 x v vl vu l u s3.heap.objs.size Q I4 r1 (Heap.IsSliceOf.new ..) pl pu q3
  show wpAny (model X.prog X.w) X.A (subscriptTail e (.Slice lo hi none p2) v (.ref s3.heap.objs.size)) (EP X pins σ Q) X.xe { s3 with heap := s3.heap.push { cls := .type "slice", data := .fields #[vl, vu, .none] } }
  exact tail_any (ops := [.ref s3.heap.objs.size, v]) ht hT hg (by with_unfolding_all rfl)
noncomputable def cutV (xs : List V) (lo hi : Option Int) : List V := (xs.drop (HT.sIx xs.length 0 lo)).take (HT.sIx xs.length xs.length hi - HT.sIx xs.length 0 lo)
theorem cutV_length (xs : List V) (lo hi : Option Int) : (cutV xs lo hi).length ≤ xs.length := by
  unfold cutV
  rw [List.length_take, List.length_drop]
  omega
noncomputable def rSlT (K : PySem.W.Frag) : V → Option Int → Option Int → Hp → VK → Prop := fun x lo hi H Q => ∃ a xs, x = .ref a ∧ SqT K H a xs ∧
  ¬ (HT.sIx xs.length 0 lo = 0 ∧ HT.sIx xs.length xs.length hi = xs.length) ∧ ∀ p, H p = none → Q (.ref p) (upd H p (.tup (cutV xs lo hi)))
theorem sl_tup : SlR X (rSlT X.K) := by
  intro pins s σ H x v vl vu lo hi sl Q I rx hs pl pu h
  obtain ⟨a, xs, rfl, hx, hw, q⟩ := h
  cases rx
  obtain ⟨its, r, ht, hz⟩ := I.tuple hx
  have hlen : its.toArray.size = xs.length := by rw [List.size_toArray]; exact r.length.symm
  refine ⟨"tuple", _, PyProof.Rows.slot_tuple_getitem.lookup, ht.typeIs, ?_⟩
  refine HT.getItem_tuple_cut ht hs pl pu (by rw [hlen]; exact hw) ?_ (by rw [hlen]; exact hz)
  rw [hlen]
  refine ⟨.ref s.heap.objs.size, _, I.laid (t' := s.toks) (o := .tup (cutV xs lo hi)) (fun b ob q => Heap.get?_push_of_some _ q) (Nat.le_refl _) ?_, rfl, q _ (I.hok.fresh (Nat.le_refl _))⟩
  exact ⟨Nat.le_trans (cutV_length xs lo hi) hz, _, (r.drop (HT.sIx xs.length 0 lo)).take (HT.sIx xs.length xs.length hi - HT.sIx xs.length 0 lo), IsTup.new _ _⟩
end
end L2
namespace L2
open PySem PySem.Spec PyProof.Rows
noncomputable def ixN (n : Nat) (i : Int) : Option Nat := if 0 ≤ i then (if i < n then some i.toNat else none) else if -(n : Int) ≤ i then some (i + n).toNat else none
noncomputable def atI {α : Type} (xs : List α) (i : Int) : Option α := (ixN xs.length i).bind fun j => xs[j]?
theorem ixN_seq {n : Nat} {i : Int} {j : Nat} (h : ixN n i = some j) : seqIndex? i n = some j ∧ j < n ∧ -(n : Int) ≤ i ∧ i < n := by
  unfold ixN at h
  by_cases h0 : 0 ≤ i
  · rw [if_pos h0] at h
    by_cases h1 : i < n
    · rw [if_pos h1] at h
      have e : i.toNat = j := Option.some.inj h
      exact ⟨by rw [seqIndex_of h0 h1, e], by omega, by omega, h1⟩
    · rw [if_neg h1] at h; cases h
  · rw [if_neg h0] at h
    by_cases h1 : -(n : Int) ≤ i
    · rw [if_pos h1] at h
      have e : (i + n).toNat = j := Option.some.inj h
      exact ⟨by rw [seqIndex_neg (by omega) h1, e], by omega, h1, by omega⟩
    · rw [if_neg h1] at h; cases h
theorem atI_get {α : Type} {xs : List α} {i : Int} {v : α} (h : atI xs i = some v) : ∃ j, seqIndex? i xs.length = some j ∧ xs[j]? = some v ∧ j < xs.length ∧ -(xs.length : Int) ≤ i ∧ i < xs.length := by
  unfold atI at h
  cases e : ixN xs.length i with
  | none => rw [e] at h; cases h
  | some j =>
    rw [e] at h
    obtain ⟨h1, h2, h3, h4⟩ := ixN_seq e
    exact ⟨j, h1, h, h2, h3, h4⟩
theorem atI_nat {α : Type} {xs : List α} {j : Nat} {v : α} (h : xs[j]? = some v) : atI xs (j : Int) = some v := by
  have hj : j < xs.length := (List.getElem?_eq_some_iff.mp h).1
  have e : ixN xs.length (j : Int) = some j := by
    unfold ixN
    rw [if_pos (by omega), if_pos (by omega)]; simp
  unfold atI; rw [e]; exact h
noncomputable def PlainIx (b : Expr) : Prop := ∀ o i, subscripted b false o i = operate [o, i] (getItem o i)
noncomputable def IxR (X : Cx) (r : R2) : Prop :=
  ∀ (value slice : Expr) (pins : List (Addr × Obj)) (s : Shared) (σ : St) (H : Hp) (x y : V) (v u : Value) (Q : VK), Inv X pins σ H s → RelV x v → RelV y u → r x y H Q →
    subscripted slice false v u = operate [v, u] (getItem v u) → wpAny (model X.prog X.w) X.A (subscriptTail value slice v u) (EP X pins σ Q) X.xe s
noncomputable def MtR (X : Cx) (id : String) (r : V → List V → Hp → VK → Prop) : Prop :=
  ∀ (pins : List (Addr × Obj)) (s : Shared) (σ : St) (H : Hp) (x : V) (xs : List V) (v : Value) (us : List Value) (Q : VK), Inv X pins σ H s → RelV x v → Vals xs us → r x xs H Q →
    wpAny (model X.prog X.w) X.A (call (.builtin id) (v :: us)) (EP X pins σ Q) X.xe s
section
variable {X : Cx} {a b : Expr} {ta tb : TE} {pos : Pos}
theorem IxR.or {r r' : R2} (h : IxR X r) (h' : IxR X r') : IxR X (fun x y H Q => r x y H Q ∨ r' x y H Q) := by
  intro value slice pins s σ H x y v u Q I rx ry q hs
  rcases q with q | q
  · exact h value slice pins s σ H x y v u Q I rx ry q hs
  · exact h' value slice pins s σ H x y v u Q I rx ry q hs
theorem MtR.or {id : String} {r r' : V → List V → Hp → VK → Prop} (h : MtR X id r) (h' : MtR X id r') : MtR X id (fun x xs H Q => r x xs H Q ∨ r' x xs H Q) := by
  intro pins s σ H x xs v us Q I rx rs q
  rcases q with q | q
  · exact h pins s σ H x xs v us Q I rx rs q
  · exact h' pins s σ H x xs v us Q I rx rs q
theorem pe_ix {r : R2} (hr : IxR X r) (ha : PE X a ta) (hb : PE X b tb) (hs : PlainIx b) : PE X (.Subscript a b pos) (tOp r ta tb) := by
  intro pins s σ H Q I h
  exact Subscript_ (binT ha hb I h fun v u s2 x y H2 I2 rx ry q => hr a b pins s2 σ H2 x y v u Q I2 rx ry q (hs _ _))
noncomputable def rIxL (K : PySem.W.Frag) : R2 := fun x y H Q => ∃ p xs i v, x = .ref p ∧ y = .int i ∧ SqL K H p xs ∧ atI xs i = some v ∧ Q v H
noncomputable def rIxT (K : PySem.W.Frag) : R2 := fun x y H Q => ∃ p xs i v, x = .ref p ∧ y = .int i ∧ SqT K H p xs ∧ atI xs i = some v ∧ Q v H
noncomputable def rIxS : R2 := fun x y H Q => ∃ z i c, x = .str z ∧ y = .int i ∧ z.length ≤ sizeLine ∧ atI z.cps.toList i = some c ∧ Q (.str ⟨#[c]⟩) H
theorem ix_list : IxR X (rIxL X.K) := by
  intro value slice pins s σ H x y v u Q I rx ry h hs
  obtain ⟨p, xs, i, z, rfl, rfl, hq, he, q⟩ := h
  cases rx
  obtain ⟨t, rfl⟩ := ry
  obtain ⟨its, r, pl, hz⟩ := I.list hq
  obtain ⟨j, h1, h2, h3, h4, h5⟩ := atI_get he
  obtain ⟨w, ew, rw'⟩ := r.get h2
  have hl := r.length
  have hn := line63
  have fin : EP X pins σ Q w s := ⟨z, H, I, rw', q⟩
  by_cases h0 : 0 ≤ i
  · have hj : i.toNat = j := by
      rw [seqIndex_of h0 h5] at h1
      exact Option.some.inj h1
    exact item_listR pl.isList h0 (by omega) (by rw [hj]; simpa using ew) fin hs
  · have hj : (i + (its.toArray.size : Int)).toNat = j := by
      rw [seqIndex_neg (by omega) h4] at h1
      rw [List.size_toArray, ← hl]
      exact Option.some.inj h1
    exact subscriptTail_builtinR (x := w) pl.isList.typeIs slot_list_getitem.lookup
      (wpAny_getItem_list_neg (Q := fun r s' => r = w ∧ EP X pins σ Q r s') pl.isList (by omega) (by rw [List.size_toArray] <;> omega) (by omega) (by rw [hj]; simpa using ew) ⟨rfl, fin⟩) hs
theorem ix_tup : IxR X (rIxT X.K) := by
  intro value slice pins s σ H x y v u Q I rx ry h hs
  obtain ⟨p, xs, i, z, rfl, rfl, hq, he, q⟩ := h
  cases rx
  obtain ⟨t, rfl⟩ := ry
  obtain ⟨its, r, pl, hz⟩ := I.tuple hq
  obtain ⟨j, h1, h2, h3, h4, h5⟩ := atI_get he
  obtain ⟨w, ew, rw'⟩ := r.get h2
  have hl := r.length
  have hn := line63
  have fin : EP X pins σ Q w s := ⟨z, H, I, rw', q⟩
  exact subscriptTail_builtinR (x := w) pl.typeIs slot_tuple_getitem.lookup
    (getItem_tuple (j := j) (Q := fun r s' => r = w ∧ EP X pins σ Q r s') pl (by omega) (by omega) (by rw [List.size_toArray, ← hl]; exact h1) (by simpa using ew) ⟨rfl, fin⟩) hs
theorem ix_str : IxR X rIxS := by
  intro value slice pins s σ H x y v u Q I rx ry h hs
  obtain ⟨z, i, c, rfl, rfl, hz, he, q⟩ := h
  obtain ⟨t, rfl⟩ := rx
  obtain ⟨t', rfl⟩ := ry
  obtain ⟨j, h1, h2, h3, h4, h5⟩ := atI_get he
  have hl : z.cps.toList.length = z.length := by simp [Str.length]
  rw [hl] at h1 h4 h5
  have hn := line63
  exact tail_any (typeIs_str s z t) slot_str_getitem.lookup (getItem_str (c := c) (by
    have e1 : decide (i < -(2 ^ 63 : Int)) = false := decide_eq_false (by omega)
    have e2 : decide (i ≥ 2 ^ 63) = false := decide_eq_false (by omega)
    rw [e1, e2, Bool.or_false]) (by rw [h1]; simpa using h2) ⟨.str ⟨#[c]⟩, H, I.tok _, ⟨_, rfl⟩, q⟩) hs
noncomputable def rIx (K : PySem.W.Frag) : R2 := fun x y H Q => rIxL K x y H Q ∨ rIxT K x y H Q ∨ rIxS x y H Q
theorem ix_seq : IxR X (rIx X.K) := ix_list.or (ix_tup.or ix_str)
theorem mapSeq_set (its : List Value) (n j : Nat) (u : Value) : Obj.mapSeq (·.setIfInBounds j u) { cls := .type "list", data := .seq its.toArray n } = { cls := .type "list", data := .seq (its.set j u).toArray n } := by
  simp [Obj.mapSeq]
theorem Inv.lst {pins : List (Addr × Obj)} {σ : St} {H : Hp} {s : Shared} {p : Addr} {xs : List V} (I : Inv X pins σ H s) (h : H p = some (.lst xs)) :
    ∃ (its : List Value) (n : Nat), Vals xs its ∧ s.heap.get? p = some { cls := .type "list", data := .seq its.toArray n } ∧ xs.length ≤ sizeLine := by
  obtain ⟨z, its, n, r, e⟩ := I.hok p _ h
  exact ⟨its, n, r, e, z⟩
theorem Inv.lstUpd {pins : List (Addr × Obj)} {σ : St} {H : Hp} {s : Shared} {p : Addr} {xs ys : List V} {its its' : List Value} {n n' : Nat} {f : Obj → Obj} (I : Inv X pins σ H s) (h : H p = some (.lst xs))
    (ho : s.heap.get? p = some { cls := .type "list", data := .seq its.toArray n }) (hf : f { cls := .type "list", data := .seq its.toArray n } = { cls := .type "list", data := .seq its'.toArray n' }) (r : Vals ys its') (hz : ys.length ≤ sizeLine) (t : Nat) :
    Inv X pins σ (upd H p (.lst ys)) { s with heap := s.heap.update p f, toks := t } := by
  have e : (s.heap.update p f).get? p = some { cls := .type "list", data := .seq its'.toArray n' } := by
    rw [Heap.get?_update_self f ho (by rw [hf] <;> rfl), hf]
  refine I.write (x := p) (e := p) (by rw [h]; trivial) (.inl rfl) (fun b u hb q => (Heap.get?_update_other _ _ (Ne.symm hb)).trans q) ⟨_, e⟩ ?_
  exact ⟨hz, its', n', r, e⟩
noncomputable def rSetL : V → V → V → Hp → (Hp → Prop) → Prop := fun o i v H Q => ∃ p xs k j, o = .ref p ∧ i = .int k ∧ H p = some (.lst xs) ∧ ixN xs.length k = some j ∧ Q (upd H p (.lst (xs.set j v)))
theorem set_list : PSet X rSetL := by
  intro pins s σ H o i v ov iv u Q I ro ri rv h
  obtain ⟨p, xs, k, j, rfl, rfl, hp, hj, q⟩ := h
  cases ro
  obtain ⟨t, rfl⟩ := ri
  obtain ⟨its, n, r, ho, hz⟩ := I.lst hp
  obtain ⟨h1, h2, h3, h4⟩ := ixN_seq hj
  have hl := r.length
  have hn := line63
  have I' : Inv X pins σ (upd H p (.lst (xs.set j v))) { s with heap := s.heap.update p (Obj.mapSeq (·.setIfInBounds j u)) } :=
    I.lstUpd hp ho (mapSeq_set its n j u) (r.set rv j) (by rw [List.length_set]; exact hz) s.toks
  by_cases h0 : 0 ≤ k
  · have hk : k.toNat = j := by
      rw [seqIndex_of h0 h4] at h1
      exact Option.some.inj h1
    exact PySem.W.ki_setAt ho h0 (by omega) (by rw [List.size_toArray, ← hl]; exact h4) (by rw [hk]; exact ⟨_, I', q⟩)
  · have hk : (k + (its.toArray.size : Int)).toNat = j := by
      rw [seqIndex_neg (by omega) h3] at h1
      rw [List.size_toArray, ← hl]
      exact Option.some.inj h1
    exact PySem.W.ki_setBack ho (by omega) (by rw [List.size_toArray, ← hl]; exact h3) (by omega) (by rw [hk]; exact ⟨_, I', q⟩)
theorem slice_bounds (lo hi : Option Int) (n : Nat) : (sliceBounds lo hi none n).1 = ((HT.sIx n 0 lo : Nat) : Int) ∧ (sliceBounds lo hi none n).2.1 = ((HT.sIx n n hi : Nat) : Int) ∧ (sliceBounds lo hi none n).2.2 = 1 := by
  refine ⟨?_, ?_, rfl⟩
  · cases lo with
    | none => simp [sliceBounds, HT.sIx]
    | some i =>
      simp only [sliceBounds, HT.sIx, Option.getD_none, show (1 : Int) > 0 by decide, if_true]
      by_cases h : i < 0
      · simp only [h, if_true] <;> omega
      · simp only [h, if_false] <;> omega
  · cases hi with
    | none => simp [sliceBounds, HT.sIx]
    | some i =>
      simp only [sliceBounds, HT.sIx, Option.getD_none, show (1 : Int) > 0 by decide, if_true]
      by_cases h : i < 0
      · simp only [h, if_true] <;> omega
      · simp only [h, if_false] <;> omega
theorem slicePick_cut (its : List Value) (lo hi : Option Int) : slicePick its.toArray lo hi none = ((its.drop (HT.sIx its.length 0 lo)).take (HT.sIx its.length its.length hi - HT.sIx its.length 0 lo)).toArray := by
  obtain ⟨h1, h2, h3⟩ := slice_bounds lo hi its.toArray.size
  unfold slicePick
  rw [h1, h2, h3]
  simp only [sliceRange_one, pick_run, List.size_toArray] <;> rfl
noncomputable def rSlL (K : PySem.W.Frag) : V → Option Int → Option Int → Hp → VK → Prop := fun x lo hi H Q => ∃ a xs, x = .ref a ∧ SqL K H a xs ∧ ∀ p, H p = none → Q (.ref p) (upd H p (.lst (cutV xs lo hi)))
theorem sl_list : SlR X (rSlL X.K) := by
  intro pins s σ H x v vl vu lo hi sl Q I rx hs pl pu h
  obtain ⟨a, xs, rfl, hx, q⟩ := h
  cases rx
  obtain ⟨its, r, ht, hz⟩ := I.list hx
  have hlen := r.length
  refine ⟨"list", _, slot_list_getitem.lookup, ht.isList.typeIs, ?_⟩
  refine wpAny_getItem_list_slice ht.isList hs pl pu .none (by simp) ?_ (by rw [List.size_toArray] <;> omega)
  rw [slicePick_cut, ← hlen]
  refine ⟨.ref s.heap.objs.size, _, I.laid (t' := s.toks) (o := .lst (cutV xs lo hi)) (fun b ob q => Heap.get?_push_of_some _ q) (Nat.le_refl _) ?_, rfl, q _ (I.hok.fresh (Nat.le_refl _))⟩
  exact ⟨Nat.le_trans (cutV_length xs lo hi) hz, _, 0, (r.drop (HT.sIx xs.length 0 lo)).take (HT.sIx xs.length xs.length hi - HT.sIx xs.length 0 lo), Heap.get?_push_size _ rfl⟩
theorem call_len_seq : CallR X (.builtin "len") (fun xs H Q => ∃ p ys, xs = [.ref p] ∧ (SqL X.K H p ys ∨ SqT X.K H p ys) ∧ Q (.int ys.length) H) := by
  intro pins s σ H xs us Q I r h
  obtain ⟨p, ys, rfl, hq, q⟩ := h
  obtain ⟨u, rfl, rx⟩ := vals1 r
  cases rx
  have hn := line63
  rcases hq with hq | hq
  · obtain ⟨its, r', pl, hz⟩ := I.list hq
    have hlen := r'.length
    exact Calls.call_len_list pl.isList (by simp only [List.size_toArray] <;> omega) ⟨.int ys.length, H, I.tok _, ⟨s.toks + 1, by rw [List.size_toArray, hlen]⟩, q⟩
  · obtain ⟨its, r', pl, hz⟩ := I.tuple hq
    have hlen := r'.length
    exact len_tuple pl (by simp only [List.size_toArray] <;> omega) ⟨.int ys.length, H, I.tok _, ⟨s.toks + 1, by rw [List.size_toArray, hlen]⟩, q⟩
theorem call_len_str : CallR X (.builtin "len") (fun xs H Q => ∃ z, xs = [.str z] ∧ z.length ≤ sizeLine ∧ Q (.int z.length) H) := by
  intro pins s σ H xs us Q I r h
  obtain ⟨z, rfl, hz, q⟩ := h
  obtain ⟨u, rfl, t, rfl⟩ := vals1 r
  have hn := line63
  exact len_str (by omega) ⟨.int z.length, H, I.tok _, ⟨_, rfl⟩, q⟩
theorem CallR.or {f : Value} {r r' : List V → Hp → VK → Prop} (h : CallR X f r) (h' : CallR X f r') : CallR X f (fun xs H Q => r xs H Q ∨ r' xs H Q) := by
  intro pins s σ H xs us Q I rs q
  rcases q with q | q
  · exact h pins s σ H xs us Q I rs q
  · exact h' pins s σ H xs us Q I rs q
theorem call_list_of : CallR X (.type "list") (fun xs H Q => ∃ p ys, xs = [.ref p] ∧ (SqL X.K H p ys ∨ SqT X.K H p ys) ∧ ∀ l, H l = none → Q (.ref l) (upd H l (.lst ys))) := by
  intro pins s σ H xs us Q I r h
  obtain ⟨p, ys, rfl, hq, q⟩ := h
  obtain ⟨u, rfl, rx⟩ := vals1 r
  cases rx
  have fin : ∀ (its : List Value), Vals ys its → ys.length ≤ sizeLine → ∀ (h' : Heap) (c' : Nat), (∀ b o', s.heap.get? b = some o' → h'.get? b = some o') →
      h'.get? s.heap.objs.size = some { cls := .type "list", dict := none, data := .seq its.toArray c', slots := #[] } → EP X pins σ Q (.ref s.heap.objs.size) { s with heap := h' } := fun its r' hz h' c' kp e =>
    ⟨.ref s.heap.objs.size, _, I.laid (t' := s.toks) kp (Nat.le_refl _) (show ObjOk X.prog X.w _ h' _ (.lst ys) from ⟨hz, its, c', r', e⟩), rfl, q _ (I.hok.fresh (Nat.le_refl _))⟩
  rcases hq with hq | hq
  · obtain ⟨its, r', pl, hz⟩ := I.list hq
    have hlen := r'.length
    obtain ⟨o, ho, hc, n, hd⟩ := pl.isList
    exact call_list_seq p (.inl rfl) ho hc hd (fun h' c' kp e => fin its r' hz h' c' kp e) (by simp only [List.size_toArray] <;> omega)
  · obtain ⟨its, r', pl, hz⟩ := I.tuple hq
    have hlen := r'.length
    obtain ⟨o, ho, hc, n, hd⟩ := pl
    exact call_list_seq p (.inr rfl) ho hc hd (fun h' c' kp e => fin its r' hz h' c' kp e) (by simp only [List.size_toArray] <;> omega)
noncomputable def tyV (K : PySem.W.Frag) (T : String) (x : V) (H : Hp) : Prop := match x with
  | .str _ => T = "str"
  | .int _ => T = "int"
  | .ref p => (T = "list" ∧ ∃ xs, SqL K H p xs) ∨ (T = "tuple" ∧ ∃ o, K.lookup p = some o ∧ o.cls = .type "tuple" ∧ o.dict = none) ∨
      (T = "dict" ∧ ((∃ kvs, H p = some (.dK kvs)) ∨ ∃ kvs, H p = some (.dT kvs))) ∨ (T = "set" ∧ ∃ S n, H p = some (.set S n))
  | _ => False
theorem tyV_is {pins : List (Addr × Obj)} {σ : St} {H : Hp} {s : Shared} {T : String} {x : V} {v : Value} (I : Inv X pins σ H s) (r : RelV x v) (ty : tyV X.K T x H) :
    s.TypeIs v T ∧ ∀ a, v = .ref a → ∃ ob, s.heap.get? a = some ob ∧ ob.dict = none := by
  cases x with
  | str z =>
    obtain ⟨t, rfl⟩ := r
    cases (show T = "str" from ty)
    exact ⟨typeIs_str s z t, fun _ e => nomatch e⟩
  | int i =>
    obtain ⟨t, rfl⟩ := r
    cases (show T = "int" from ty)
    exact ⟨typeIs_int s i t, fun _ e => nomatch e⟩
  | ref p =>
    cases r
    rcases ty with ⟨rfl, xs, hq⟩ | ⟨rfl, o, hk, hc, hd⟩ | ⟨rfl, hk⟩ | ⟨rfl, S, n, hk⟩
    · obtain ⟨its, _, pl, _⟩ := I.list hq
      refine ⟨pl.isList.typeIs, fun a e => ?_⟩
      cases e
      obtain ⟨o, n, e, c, hd, _⟩ := pl
      exact ⟨o, e, hd⟩
    · refine ⟨⟨o, I.kIn p o hk, hc⟩, fun a e => ?_⟩
      cases e
      exact ⟨o, I.kIn _ o hk, hd⟩
    · have z : ∃ o, s.heap.get? p = some o ∧ o.ExactDict := by
        rcases hk with ⟨kvs, hk⟩ | ⟨kvs, hk⟩
        · obtain ⟨_, _, _, _, o, _, _, e, ex, _⟩ := I.hok p _ hk
          exact ⟨o, e, ex⟩
        · obtain ⟨_, _, _, _, o, _, _, e, ex, _⟩ := I.hok p _ hk
          exact ⟨o, e, ex⟩
      obtain ⟨o, e, ex⟩ := z
      refine ⟨⟨o, e, ex.1⟩, fun a e2 => ?_⟩
      cases e2
      exact ⟨o, e, ex.2.1⟩
    · obtain ⟨o, _, _, _, e, ex, _⟩ := I.hok p _ hk
      refine ⟨⟨o, e, ex.1⟩, fun a e2 => ?_⟩
      cases e2
      exact ⟨o, e, ex.2.1⟩
  | _ => exact False.elim ty
noncomputable def tBM (K : PySem.W.Frag) (T : String) (r : V → List V → Hp → VK → Prop) (to : TE) (t : TA) : TE := fun σ H Q => to σ H fun x H1 => tyV K T x H1 ∧ t σ H1 fun xs H2 => r x xs H2 Q
variable {o e : Expr} {es : List Expr} {to : TE} {t : TA} {name : Str} {apos cpos : Pos} {T id : String} {r : V → List V → Hp → VK → Prop}
theorem pe_bm (pa : PlainAttrs T) (slot : Slot T name id) (hty : typeOf (.builtin id) = pure (.type "method_descriptor")) (hm : MtR X id r) (ho : PE X o to) (ha : PA X (e :: es) t)
    (hbase : attributeBase o name X.env (eval o X.env) = eval o X.env := by rfl)
    (hfew : ((backTo cpos (starEach (e :: es) X.env)).all (fun x => !x.1) && (backToKw cpos (keywordEach [] X.env)).all (fun x => x.1.isSome)
      && decide ((e :: es).length + ([] : List Keyword).length + (if ([] : List Keyword).isEmpty then 0 else 1) < 30)) = true := by rfl)
    (hline : (apos.endLine == cpos.line) = true := by rfl) (hs : starEach (e :: es) X.env = (false, eval e X.env) :: starEach es X.env := by rfl) (hplain : (backTo cpos (starEach es X.env)).any (·.1) = false := by rfl) :
    PE X (.Call (.Attribute o name apos) (e :: es) [] cpos) (tBM X.K T r to t) := by
  intro pins s σ H Q I h
  refine wpAny_Call_method_late hbase hfew hline rfl (thn (ho pins s σ H _ I h) fun v s1 ⟨x, H1, I1, r1, ty, q1⟩ => ?_)
  obtain ⟨h1, h2⟩ := tyV_is I1 r1 ty
  refine ⟨T, id, pa, slot, hty, h1, h2, ?_⟩
  have hA := ha cpos pins s1 σ H1 _ I1 q1
  rw [hs] at hA ⊢
  refine Calls.callWith_builtin (by show (false || (backTo cpos (starEach es X.env)).any (·.1)) = false; rw [hplain] <;> rfl) (Calls.evalArgs_plain ?_)
  exact thn hA fun us s2 ⟨vs, H2, I2, r2, q2⟩ => hm pins s2 σ H2 x vs v us Q I2 r1 r2 q2
end
end L2
namespace L2
open PySem PySem.Spec PyProof.Rows
noncomputable def MtM (X : Cx) (id : String) (r : V → List V → Hp → VK → Prop) : Prop :=
  ∀ (pins : List (Addr × Obj)) (s : Shared) (σ : St) (H : Hp) (x : V) (xs : List V) (v : Value) (us : List Value) (Q : VK), Inv X pins σ H s → RelV x v → Vals xs us → r x xs H Q →
    wpAny (model X.prog X.w) X.A (call (.builtin id) (v :: us)) (EP X pins σ Q) X.xe s
theorem Vals.one : ∀ {x : V} {us : List Value}, Vals [x] us → ∃ u, us = [u] ∧ RelV x u
  | _, _, .cons r .nil => ⟨_, rfl, r⟩
theorem Vals.two : ∀ {x y : V} {us : List Value}, Vals [x, y] us → ∃ u v, us = [u, v] ∧ RelV x u ∧ RelV y v
  | _, _, _, .cons r (.cons q .nil) => ⟨_, _, rfl, r, q⟩
theorem Vals.zero : ∀ {us : List Value}, Vals [] us → us = []
  | _, .nil => rfl
theorem Vals.dropLast {xs : List V} {us : List Value} (h : Vals xs us) : Vals xs.dropLast us.dropLast := by
  induction h with
  | nil => exact .nil
  | cons r t ih =>
    cases t with
    | nil => exact .nil
    | cons q t' => exact .cons r ih
theorem Vals.eraseIdx : ∀ {xs : List V} {us : List Value} (i : Nat), Vals xs us → Vals (xs.eraseIdx i) (us.eraseIdx i)
  | _, _, _, .nil => .nil
  | _, _, 0, .cons _ t => t
  | _, _, i + 1, .cons r t => .cons r (Vals.eraseIdx i t)
theorem Vals.reverse {xs : List V} {us : List Value} (h : Vals xs us) : Vals xs.reverse us.reverse := by
  induction h with
  | nil => exact .nil
  | cons r t ih => rw [List.reverse_cons, List.reverse_cons]; exact Vals.append ih (.cons r .nil)
section
variable {X : Cx} {pins : List (Addr × Obj)} {σ : St} {H : Hp} {s : Shared} {l b : Addr} {xs ys zs : List V}
theorem Inv.lset {its its' : List Value} {n : Nat} {f : Array Value → Array Value} {t' : Nat} (I : Inv X pins σ H s) (hH : H l = some (.lst xs))
    (e : s.heap.get? l = some { cls := .type "list", data := .seq its.toArray n }) (hf : f its.toArray = its'.toArray) (hv : Vals ys its') (hz : ys.length ≤ sizeLine) :
    Inv X pins σ (upd H l (.lst ys)) { s with heap := s.heap.update l (Obj.mapSeq f), toks := t' } := by
  have q := PySem.IsL.update e f
  rw [hf] at q
  refine I.write (x := l) (e := l) (by rw [hH]; exact trivial) (.inl rfl) (fun b' u hb hu => (Heap.get?_update_other s.heap (Obj.mapSeq f) (Ne.symm hb)).trans hu) ⟨_, q⟩ ?_
  exact ⟨hz, its', _, hv, q⟩
theorem Inv.lnew {its : List Value} {t' : Nat} (I : Inv X pins σ H s) (hv : Vals ys its) (hz : ys.length ≤ sizeLine) :
    Inv X pins σ (upd H s.heap.objs.size (.lst ys)) { s with heap := s.heap.push { cls := .type "list", data := .seq its.toArray }, toks := t' } :=
  I.laid (fun _ _ q => Heap.get?_push_of_some _ q) (Nat.le_refl _) ⟨hz, its, 0, hv, Heap.get?_push_size _ rfl⟩
theorem Inv.fresh (I : Inv X pins σ H s) : H s.heap.objs.size = none := I.hok.fresh (Nat.le_refl _)
theorem Inv.lstM (I : Inv X pins σ H s) (hH : H l = some (.lst xs)) : xs.length ≤ sizeLine ∧ ∃ (its : List Value) (n : Nat), Vals xs its ∧ xs.length = its.length ∧ s.heap.get? l = some { cls := .type "list", data := .seq its.toArray n } := by
  obtain ⟨z, its, n, r, e⟩ := I.hok l _ hH
  exact ⟨z, its, n, r, r.length, e⟩
theorem notLongL {n : Nat} (h : n ≤ sizeLine) : Builtin.List.listTooLong n = false := by
  unfold Builtin.List.listTooLong
  exact decide_eq_false (by omega)
end
section
variable {X : Cx}
noncomputable def rAppend : V → List V → Hp → VK → Prop := fun x vs H Q => ∃ l xs y, x = .ref l ∧ vs = [y] ∧ H l = some (.lst xs) ∧ xs.length < sizeLine ∧ Q .non (upd H l (.lst (xs ++ [y])))
theorem mt_append : MtM X "list.append" rAppend := by
  intro pins s σ H x vs v us Q I rx rv h
  obtain ⟨l, xs, y, rfl, rfl, hH, hz, q⟩ := h
  cases rx
  obtain ⟨u, rfl, ru⟩ := rv.one
  obtain ⟨z, its, n, r, hl, e⟩ := I.lstM hH
  refine call_meets F.slot_list_append ⟨_, e, rfl⟩ F.entry_list_append (F.args_list_append_2 _ _) (PySem.list_append l its.toArray n u (by rw [List.size_toArray]; omega)) ⟨e, ?_⟩
  refine ⟨.non, _, I.lset (its' := its ++ [u]) hH e (by simp) (r.append (.cons ru .nil)) ?_, rfl, q⟩
  rw [List.length_append, List.length_singleton]
  omega
end
section
variable {prog : Program} {w : World} {A : Around} {E : Value → Shared → Prop} {s : Shared}
end
section
variable {X : Cx}
end
end L2
namespace Att
open PySem PySem.W PySem.Calls PyProof.Rows
theorem ints_of_wellAll {P : Params} {h : Heap} : ∀ (ns : List Int) (vs : List Value), WellAll P h vs (ns.map WData.int) → IntsAre vs ns := by
  intro ns
  induction ns with
  | nil =>
    intro vs w
    rw [List.map_nil] at w
    cases w
    exact .nil
  | cons n ns ih =>
    intro vs w
    rw [List.map_cons] at w
    cases w with
    | cons a b =>
      cases a
      exact .cons _ _ (ih _ b)
theorem script_of {l : OpenLaw} {n : Nat} (hn : l.most = some n) {P : Params} {h : Heap} {args : List WData} {vals : List Value}
    (hpre : l.row.toRowW.claim.pre args = true) (hwl : WellAll P h vals args) :
    ∃ a vs ns, vals = [Value.ref a] ∧ args = [WData.list (ns.map WData.int)] ∧ h.get? a = some { cls := .type "list", data := .seq vs.toArray } ∧ IntsAre vs ns ∧ ns.length ≤ n := by
  have hsh : WShape.hasAll [] args [.list .int] = true := (pre_splitW hpre).1
  have hc : l.pre.holds [] { args := args } = true := (pre_splitW hpre).2
  obtain ⟨d, r, rfl, h1, h2⟩ := hasAllW_cons hsh
  obtain rfl := hasAllW_nil h2
  obtain ⟨xs, rfl, h3⟩ := hasW_list h1
  obtain ⟨ns, rfl⟩ := items_int h3
  have hlen : ns.length ≤ n := by
    unfold OpenLaw.pre at hc
    have h4 : (WTm.not (.lt (.lit (.int (n : Int))) (.len (.arg 0)))).holds [] { args := [.list (ns.map .int)] } = true := by
      have h4 := (holds_andW hc).1
      rw [hn] at h4
      exact h4
    have h5 := condW_of h4 (w_not (w_lt w_lit (w_len_list (w_arg rfl))))
    rw [List.length_map] at h5
    refine Nat.le_of_not_lt fun q => ?_
    have q' : (n : Int) < ((ns.length : Nat) : Int) := by omega
    first
      | (rw [decide_eq_true q'] at h5; exact absurd h5 (by decide))
      | (simp at h5; omega)
  cases hwl with
  | cons w1 w2 =>
    cases w2
    cases w1 with
    | list ho hall => exact ⟨_, _, ns, rfl, rfl, ho, ints_of_wellAll ns _ hall, hlen⟩
theorem post_true (l : OpenLaw) (args : List WData) : l.row.toRowW.claim.post args (.bool true) args = true :=
  postW_of (r := l.row.toRowW) (X := (true == true))
    (show WShape.has [] (.bool true) .bool = true by first | rfl | decide | simp [WShape.has, WShape.arms, WShape.armsAll])
    (show (WTm.eq .res (.lit (.bool true))).value [] { args := args, res := some (.bool true), after := args } = some (.bool (true == true)) from w_eq_bool (w_res rfl) w_lit) rfl
theorem attach_call {l : OpenLaw} {n : Nat} {q : Program} {loose : List Str} {XP : (Str → Option Value) → Heap → Prop} {YP : World → Heap → Prop} {d : DefRec}
    (hn : l.most = some n) (hdf : d.params.defaults = [])
    (call : ∀ (w : World) (s₀ s₁ : Shared) (mg mb : Str → Option Value) (fa : Addr) (o : Obj) (pm cd doc : Value) (a : Addr) (vs : List Value) (ns : List Int),
      Ground q loose [] XP w s₀ mg mb s₁.heap → YP w s₁.heap →
      s₁.heap.get? fa = some o → o.data = .func (docDef d.name d.params d.body d.scope pm cd doc) → s₁.heap.CodeRec cd d.name → mg d.name = some (.ref fa) →
      s₁.heap.get? a = some { cls := .type "list", data := .seq vs.toArray } → IntsAre vs ns → ns.length ≤ n → s₁.gens = #[] →
      codeAny (model l.prog w) callerA (.call (.ref fa) ⟨[.ref a], []⟩) (fun r s' => r = .ok (.ret (.bool true)) ∧ OldK s₁.heap s'.heap ∧ s'.os = s₁.os ∧ AllBare s'.gens) s₁) :
    WalkO q loose XP YP l.row.toRowW d [] (fun f vs => PySem.call f vs) := by
  intro w s₀ s₁ mg mb G Y fa o pm cd doc dV kV ho hd hcd hD hmg hg args vals as hpre hlay hrd hwl hlo
  obtain rfl : dV = .none := Dflts.none hD hdf
  obtain rfl : kV = .none := Dflts.noKw hD
  obtain ⟨a, vs, ns, rfl, rfl, hobj, hints, hlen⟩ := script_of hn hpre hwl
  refine enter_call (codeAny_mono (call w s₀ s₁ mg mb fa o pm cd doc a vs ns G Y ho (fd_plain hd) hcd hmg hobj hints hlen hg) fun r s' hq => ?_)
  obtain ⟨rfl, h2, h3, h4⟩ := hq
  exact ⟨.inl ⟨.bool true, .bool true, [], rfl, fun _ => rfl, .bool true, post_true l _, fun _ => ⟨List.Pairwise.nil, fun _ hm => (nomatch hm)⟩⟩, h2, h3, h4⟩
section
variable {prog : Program} {w : World} {A : Around} {E : Value → Shared → Prop} {s : Shared} {K : Frag}
noncomputable def ledger (h : Heap) (L d : Addr) : List (Addr × Obj) := (List.range h.objs.size).filterMap fun a => if a = L ∨ a = d then none else (h.get? a).map fun o => (a, o)
end
end Att
namespace L2
open PySem PySem.Spec PyProof.Rows
theorem vals_ints : ∀ {vs : List Value} {ns : List Int}, IntsAre vs ns → Vals (ns.map V.int) vs
  | _, _, .nil => .nil
  | _, _, .cons n t h => .cons ⟨t, rfl⟩ (vals_ints h)
noncomputable def Only (H : Hp) : Prop := ∀ b, H b = none ∨ ∃ o xs, H b = some (.frz o (.lst xs))
theorem law_call {P : Program} {w : World} {K : PySem.W.Frag} {mg mb : Str → Option Value} {CX : CXT} {k : Nat} {fa a : Addr} {fd : FuncData} {x : Str} {sp : Sp} {s₁ : Shared} {vs : List Value} {ns : List Int}
    (KX : K.In s₁.heap) (hns : s₁.heap.Ns mainGlobals mg) (hb : s₁.heap.Ns builtinsNs mb) (hbb : ∀ x : Str, x ≠ "__name__" → mb x = bootBuiltins x) (hlim : s₁.heap.NoLimit) (hg : s₁.gens = #[])
    (ha : s₁.heap.get? a = some { cls := .type "list", data := .seq vs.toArray }) (hi : IntsAre vs ns) (hl : ns.length ≤ sizeLine) (hr : Room k callerA)
    (F : ∀ base : Heap, K.In base → base.Ns mainGlobals mg → FnOk P w K mg base CX k fa fd [x] sp) (hbind : ∀ (s : Shared) (u : Value), BindsTo s fd ⟨[u], []⟩ [(x, u)])
    (hsp : ∀ H : Hp, Only H → SqL K H a (ns.map V.int) → sp [.ref a] H (fun v _ => v = .bl true) fun _ _ _ => False)
    (hCX : ∀ H e s', CX [] H s₁ (fun _ _ _ => False) e s' → False) :
    codeAny (model P w) callerA (.call (.ref fa) ⟨[.ref a], []⟩) (fun r s' => r = .ok (.ret (.bool true)) ∧ OldK s₁.heap s'.heap ∧ s'.os = s₁.os ∧ AllBare s'.gens) s₁ := by
  have rv := vals_ints hi
  have lenV := hi.length
  -- from an abstract heap in which nothing but the script may be tracked
  have core : ∀ H : Hp, Only H → SqL K H a (ns.map V.int) → HOk P w H s₁.heap → (∀ b, H b ≠ none → b = a) → (H a ≠ none → K.lookup a = none) →
      codeAny (model P w) callerA (.call (.ref fa) ⟨[.ref a], []⟩) (fun r s' => r = .ok (.ret (.bool true)) ∧ OldK s₁.heap s'.heap ∧ s'.os = s₁.os ∧ AllBare s'.gens) s₁ := by
    intro H hO hS hok hA hK
    have base_of : ∀ {b : Addr} {o : Obj}, s₁.heap.get? b = some o → H b = none → (hidT s₁.heap H).get? b = some o := fun e n => hidT_get e n
    have noA : ∀ {b : Addr} {o : Obj} {es : Array DictEntry} {ep : Nat}, s₁.heap.get? b = some o → o.data = .dict es ep → H b = none := fun {b o es ep} e d => by
      cases q : H b with
      | none => rfl
      | some u =>
        have e' : b = a := hA b (by rw [q]; simp)
        subst e'
        rw [ha] at e; cases e
        have d' : Data.seq vs.toArray _ = Data.dict es ep := d
        cases d'
    have nsK : ∀ {b : Addr} {m : Str → Option Value}, s₁.heap.Ns b m → (hidT s₁.heap H).Ns b m := fun {b m} ⟨o, es, ep, e, d, r⟩ => ⟨o, es, ep, base_of e (noA e d), d, r⟩
    have hKb : K.In (hidT s₁.heap H) := fun b o e => base_of (KX b o e) (by
      cases q : H b with
      | none => rfl
      | some u =>
        have e' : b = a := hA b (by rw [q]; simp)
        subst e'
        rw [hK (by rw [q]; simp)] at e; cases e)
    have hM : Mod K mg (hidT s₁.heap H) := ⟨hKb, nsK hns, ⟨mb, nsK hb, hbb⟩, let ⟨mc, h1, h2⟩ := hlim; ⟨mc, nsK h1, h2⟩⟩
    have e0 : Env0 P w K mg (hidT s₁.heap H) callerA [] s₁ H := ⟨rfl, hM, fun b o e => of_hidT e, Nat.le_of_eq (hidT_size _ _), trivial, fun b hb => absurd (show b ∈ ([] : List Addr) from hb) (by simp), hok, .of_eq hg⟩
    refine codeAny_mono ((F _ hKb (nsK hns)).run callerA [] s₁ H ⟨[.ref a], []⟩ [.ref a] [.ref a] _ _ hr e0 (hbind s₁ (.ref a)) (.cons rfl .nil) (hsp H hO hS)) fun r s' h => ?_
    cases r with
    | error e => exact (hCX H e s' h).elim
    | ok fl =>
      cases fl with
      | next => exact False.elim h
      | brk => exact False.elim h
      | cont => exact False.elim h
      | ret u =>
        obtain ⟨v, H', os, bare, un, hok', r', q⟩ := h
        have q' : v = .bl true := q
        subst q'
        obtain rfl : u = Value.bool true := r'
        refine ⟨rfl, OldK.of_keep fun b o e => ?_, os, bare⟩
        cases q : H b with
        | none => exact un.keep b o e q (by intro z; exact absurd (show b ∈ ([] : List Addr) from z) (by simp)) (by simp)
        | some u =>
          rcases hO b with z | ⟨ob, xs, z⟩
          · rw [q] at z; cases z
          · have z2 := un.frzs b ob _ z
            obtain ⟨e1, _⟩ := hok b _ z
            obtain ⟨e2, _⟩ := hok' b _ z2
            rw [e] at e1; cases e1
            exact e2
  cases hk : K.lookup a with
  | some o =>
    -- the script is one of the module's own objects
    have e := KX a o hk
    rw [ha] at e
    cases e
    refine core (fun _ => none) (fun _ => .inl rfl) (.inr ⟨_, vs.toArray, _, hk, rfl, rfl, rfl, by rw [List.size_toArray, lenV]; exact hl, by simpa using rv⟩) (fun b u z => by have z' : (none : Option HO) = some u := z; cases z') (fun b z => absurd rfl z) fun z => absurd rfl z
  | none =>
    refine core (fun b => if b = a then some (.frz { cls := .type "list", data := .seq vs.toArray } (.lst (ns.map V.int))) else none) (fun b => ?_) (.inl (.inr ⟨{ cls := .type "list", data := .seq vs.toArray }, if_pos rfl⟩)) (fun b u z => ?_) (fun b z => ?_) fun _ => hk
    · by_cases hb : b = a
      · exact .inr ⟨_, _, if_pos hb⟩
      · exact .inl (if_neg hb)
    · by_cases hb : b = a
      · have z' := (if_pos hb).symm.trans z
        cases z'
        subst hb
        exact ⟨ha, by rw [List.length_map]; exact hl, vs, _, rv, ha⟩
      · have z' := (if_neg hb).symm.trans z
        cases z'
    · by_cases hb : b = a
      · exact hb
      · exact absurd (if_neg hb) z
end L2
namespace L2
open PySem PySem.Spec PyProof.Rows
noncomputable abbrev KOf {K : PySem.W.Frag} {h : Heap} (_ : K.In h) : PySem.W.Frag := K
theorem walk_of {l : PySem.W.OpenLaw} {n k : Nat} {q : Program} {loose : List Str} {XP : (Str → Option Value) → Heap → Prop} {YP : World → Heap → Prop} {d : DefRec} {K : Params → PySem.W.Frag} {CX : World → CXT} {sp : World → Sp} {x : Str}
    (hn : l.most = some n) (hn2 : n ≤ sizeLine) (hdf : d.params.defaults = []) (hr : Room k callerA)
    (hY : ∀ (w : World) (h : Heap), YP w h → (K w.params).In h)
    (F : ∀ (w : World) (mg : Str → Option Value) (fa : Addr) (h : Heap), (K w.params).In h → h.Ns mainGlobals mg → mg d.name = some (.ref fa) →
      ∃ fd : FuncData, (∀ (s : Shared) (u : Value), BindsTo s fd ⟨[u], []⟩ [(x, u)]) ∧
        ∀ base : Heap, (K w.params).In base → base.Ns mainGlobals mg → FnOk l.prog w (K w.params) mg base (CX w) k fa fd [x] (sp w))
    (hsp : ∀ (w : World) (H : Hp) (a : Addr) (ns : List Int), ns.length ≤ n → Only H → SqL (K w.params) H a (ns.map V.int) → sp w [.ref a] H (fun v _ => v = .bl true) fun _ _ _ => False)
    (hCX : ∀ (w : World) (H : Hp) (s : Shared) (e : Value) (s' : Shared), CX w [] H s (fun _ _ _ => False) e s' → False) :
    PySem.W.WalkO q loose XP YP l.row.toRowW d [] (fun f vs => PySem.call f vs) := by
  refine Att.attach_call hn hdf fun w s₀ s₁ mg mb fa o pm cd doc a vs ns G Y ho hd hcd hmg hobj hints hlen hg => ?_
  have KX := hY w _ Y
  obtain ⟨fd, hb, hF⟩ := F w mg fa _ KX G.T.g hmg
  exact law_call KX G.T.g G.T.b G.T.builtins G.T.nolimit hg hobj hints (Nat.le_trans hlen hn2) hr hF hb (fun H hO hS => hsp w H a ns hlen hO hS) fun H e s' => hCX w H s₁ e s'
end L2
namespace L2
open PySem PySem.Spec PyProof.Rows
noncomputable def defArgs (s : Stmt) : Arguments := match s with
  | .FunctionDef _ a _ _ _ _ _ _ _ _ => a
  | _ => { posonlyargs := [], args := [], vararg := none, kwonlyargs := [], kw_defaults := [], kwarg := none, defaults := [] }
noncomputable def defBody (s : Stmt) : List Stmt := match s with
  | .FunctionDef _ _ b _ _ _ _ _ _ _ => b
  | _ => []
noncomputable def defScope (s : Stmt) : Scope := match s with
  | .FunctionDef _ _ _ _ _ _ sc _ _ _ => sc
  | _ => { kind := .function, names := [], isGenerator := false, isCoroutine := false }
noncomputable abbrev CX0 : CXT := fun _ _ _ _ _ _ => False
noncomputable abbrev E0 : XK := fun _ _ _ => False
structure Fun (K : PySem.W.Frag) (x qual : Str) (st : Stmt) (f : Addr) (fd : FuncData) : Prop where
  ex : ∃ (oc : Value) (od : Option Addr) (kV doc pm : Value) (an : Option Addr) (cdv ct : Value) (osl : Array (Option Value)),
    fd = PySem.W.fnOf x qual (defArgs st) (defBody st) (defScope st) .none kV doc pm an cdv ct ∧ K.lookup f = some ⟨oc, od, .func fd, osl⟩ ∧ PySem.W.codeIn K cdv qual = true
  kp : PySem.W.keepIn K (.ref f) = true
section
variable {P : Program} {w : World} {K : PySem.W.Frag} {mg : Str → Option Value} {base : Heap}
theorem Fun.ok {x qual : Str} {st : Stmt} {f : Addr} {fd : FuncData} {N ps : List Str} {k : Nat} {sp : Sp} (F : Fun K x qual st f fd) (S : FnScope N ps (defScope st)) (len : ∀ vs H Q E, sp vs H Q E → vs.length = ps.length)
    (hbody : ∀ (cdv : Value) (A : Around) (outer : List Env) (s : Shared) (H : Hp) (vs : List V) (Q : VK) (E : XK), Room k (A.deeper (envOfC qual (defScope st) s.heap.objs.size f cdv)) → sp vs H Q E →
      ∃ t, PSs (cxOf CX0 P w K mg base N qual (defScope st) f cdv A outer s H E).nox (defBody st) t ∧ t { nx := fun _ H' => Q .non H', rt := Q } (start N vs) H) : FnOk P w K mg base CX0 (k + 1) f fd ps sp := by
  obtain ⟨oc, od, kV, doc, pm, an, cdv, ct, osl, rfl, lk, hcd⟩ := F.ex
  refine fn_of lk hcd S len fun A outer s H vs Q E hr hsp => ?_
  obtain ⟨t, h, q⟩ := hbody cdv A outer s H vs Q E hr hsp
  exact ⟨t, h.nox, q⟩
theorem Fun.binds {x qual : Str} {st : Stmt} {f : Addr} {fd : FuncData} {ps : List Str} (F : Fun K x qual st f fd)
    (h : ∀ (kV doc pm : Value) (an : Option Addr) (cdv ct : Value) (us : List Value), us.length = ps.length → bindArgs (PySem.W.fnOf x qual (defArgs st) (defBody st) (defScope st) .none kV doc pm an cdv ct) ⟨us, []⟩ = pure (ps.zip us)) : Binds K fd ps [] := by
  obtain ⟨oc, od, kV, doc, pm, an, cdv, ct, osl, rfl, lk, hcd⟩ := F.ex
  exact .all (h kV doc pm an cdv ct)
theorem fun_mk {x qual : Str} {st : Stmt} {f : Addr} {oc : Value} {od an : Option Addr} {osl : Array (Option Value)} {kV doc pm cdv ct : Value} (l : K.lookup f = some ⟨oc, od, .func (PySem.W.fnOf x qual (defArgs st) (defBody st) (defScope st) .none kV doc pm an cdv ct), osl⟩)
    (c : PySem.W.codeIn K cdv qual = true) (k : PySem.W.keepIn K (.ref f) = true) : Fun K x qual st f (PySem.W.fnOf x qual (defArgs st) (defBody st) (defScope st) .none kV doc pm an cdv ct) := ⟨⟨oc, od, kV, doc, pm, an, cdv, ct, osl, rfl, l, c⟩, k⟩
end
section
variable {X : Cx}
end
theorem iteF {A B : Prop} (h : B) : if false = true then A else B := by
  rw [if_neg Bool.false_ne_true]
  exact h
theorem iteT {A B : Prop} (h : A) : if true = true then A else B := by
  rw [if_pos rfl]
  exact h
noncomputable def Same (H H' : Hp) : Prop := ∀ b o, H b = some o → H' b = some o
theorem Same.refl (H : Hp) : Same H H := fun _ _ h => h
theorem Same.trans {H H1 H2 : Hp} (a : Same H H1) (b : Same H1 H2) : Same H H2 := fun c o h => b c o (a c o h)
theorem Same.free {H H' : Hp} (e : Same H H') {l : Addr} (h : H' l = Option.none) : H l = Option.none := by
  cases q : H l with
  | none => rfl
  | some o =>
    rw [e l o q] at h
    cases h
theorem Same.seq {K : PySem.W.Frag} {H H' : Hp} {a : Addr} {xs : List V} (e : Same H H') (h : SqL K H a xs) : SqL K H' a xs := by
  rcases h with (h | ⟨o, h⟩) | h
  · exact .inl (.inl (e _ _ h))
  · exact .inl (.inr ⟨o, e _ _ h⟩)
  · exact .inr h
end L2
namespace Fx
open PySem
theorem dict_mapF (o : Obj) (f : Array Value → Array Value) : (o.mapFields f).dict = o.dict := by
  rcases o with ⟨c, d, dt, sl⟩
  cases dt <;> rfl
noncomputable def Dk (h : Heap) (e : Addr) (d : Option Addr) : Prop := ∀ dx, d = some dx → ∃ oe, h.get? e = some oe ∧ oe.dict = some dx
noncomputable def Fly (B : Heap) (l : List Env) (e : Addr) (cls : Value) (d : Option Addr) (h : Heap) : Prop :=
  (∃ a0, Heap.FlyingW B l e cls a0 h) ∧ Dk h e d
noncomputable def Held (B : Heap) (l : List Env) (e : Addr) (cls : Value) (d : Option Addr) (L : Addr) (h : Heap) : Prop :=
  (∃ a0, Heap.HeldW B l e cls a0 L h) ∧ Dk h e d
theorem dk_upd {h : Heap} {e b : Addr} {d : Option Addr} {f : Array Value → Array Value} {o : Obj} {vs : Array Value} (hb : h.get? b = some o) (hd : o.data = .fields vs) (k : Dk h e d) :
    Dk (h.update b (Obj.mapFields f)) e d := by
  intro dx hx
  obtain ⟨oe, h1, h2⟩ := k dx hx
  by_cases q : b = e
  · subst q
    rw [hb] at h1
    cases h1
    exact ⟨_, Heap.get?_update_self _ hb (Obj.isFreed_of_fields (Obj.data_mapFields hd f)), by rw [dict_mapF]; exact h2⟩
  · exact ⟨oe, by rw [Heap.get?_update_other _ _ q]; exact h1, h2⟩
section
variable {M : Model} {A : Around} {E : Value → Shared → Prop} {s : Shared} {B : Heap} {env : Env} {outer l : List Env} {L e : Addr} {cls : Value} {d : Option Addr} {Q : Unit → Shared → Prop}
theorem entry_held {oe : Obj} {vs : Array Value} {head a0 : Value} {more : Bool} (hfr : A.frames = some (env :: outer)) (ff : s.heap.FunFrames B (env :: outer)) (hf : env.frame = some L)
    (he : s.heap.get? e = some oe) (st : B.StaysIn s.heap) (fe : B.get? e = none) (hd : oe.data = .fields vs) (hz : 1 < vs.size) (h0 : vs[0]? = some a0) (dk : Dk s.heap e d)
    (hQ : ∀ h1, Held B (env :: outer) e oe.cls d L h1 → s.heap.UpToSlots h1 → Q () { s with heap := h1 }) :
    wpAny M A (do
      let fr ← frameOf env
      let at_ ← entryPlaceOf L more
      let tb ← EntryCells.newEntry head fr .none (rawInt L) .none at_
      setField (.ref e) 1 tb) Q E s := by
  have ne : e ∉ (env :: outer).filterMap (·.frame) := fun z => by
    obtain ⟨_, o2, g1, g2⟩ := ff.mem z
    rw [he] at g1; cases g1; exact g2 vs hd
  refine wpAny_bind (wpAny_frameOf_fun hfr ff hf fun h2 so => ?_)
  refine wpAny_bind (wpAny_entryPlaceOf fun places ok => ?_)
  unfold EntryCells.newEntry newFields
  refine wpAny_bind (wpAny_newObj_type ?_ (ok.sizeOk5 _ _ _ _ _))
  have he2 : h2.get? e = some oe := by rw [so.2.1 e ne]; exact he
  have st2 : B.StaysIn h2 := fun b o q => by
    rw [so.2.1 b fun z => by rw [(ff.mem z).1] at q; cases q]
    exact st b o q
  generalize hO : ({ cls := .type "traceback", dict := none, data := .fields ([head, .ref L, .none, rawInt L, .none] ++ (if places.isEmpty then List.replicate 6 Value.none else places)).toArray } : Obj) = tbo
  have he3 : (h2.push tbo).get? e = some oe := Heap.get?_push_of_some _ he2
  refine wpAny_setField he3 hd hz (hQ _ ?_ ?_)
  all_goals
    have nT : h2.objs.size ≠ e := Nat.ne_of_gt (Heap.lt_size he2)
    have keep : ∀ b o, b ≠ e → h2.get? b = some o → ((h2.push tbo).update e (Obj.mapFields (·.setIfInBounds 1 (Value.ref h2.objs.size)))).get? b = some o := fun b o nb hb => by
      rw [Heap.get?_update_other _ _ (Ne.symm nb)]
      exact Heap.get?_push_of_some _ hb
    have nrec : ∀ b o, s.heap.get? b = some o → (∀ ws, o.data ≠ .fields ws) → b ≠ e := fun b o hb nf z => by
      subst z; rw [he] at hb; cases hb; exact nf vs hd
  · have hd4 := Obj.data_mapFields hd (·.setIfInBounds 1 (Value.ref h2.objs.size))
    have he4 := Heap.get?_update_self (Obj.mapFields (·.setIfInBounds 1 (Value.ref h2.objs.size))) he3 (Obj.isFreed_of_fields hd4)
    have hT4 : ((h2.push tbo).update e (Obj.mapFields (·.setIfInBounds 1 (Value.ref h2.objs.size)))).get? h2.objs.size = some tbo := by
      rw [Heap.get?_update_other _ _ (Ne.symm nT)]
      exact Heap.get?_push_size h2 (by rw [← hO]; rfl)
    refine ⟨⟨a0, fun b o q => keep b o (fun z => by rw [z, fe] at q; cases q) (st2 b o q), fe, ff.of_keeps fun b o hb nf => ?_, ?_⟩, fun dx hx => ?_⟩
    · obtain ⟨sl, z⟩ := so.2.2 b o hb
      exact ⟨_, keep b _ (nrec b o hb nf) z, rfl⟩
    · refine ⟨_, _, h2.objs.size, tbo, _, he4, ⟨Obj.cls_mapFields _ _, ?_⟩, hd4, by simp [hz], st2.fresh, nT, hT4, by rw [← hO], ?_⟩
      · rw [Array.getElem?_setIfInBounds_ne (by decide)]; exact h0
      · rcases ok with z | ⟨_, _, _, _, _, _, _, z⟩ <;> (rw [z]; simp)
    · obtain ⟨o1, g1, g2⟩ := dk dx hx
      rw [he] at g1; cases g1
      exact ⟨_, he4, by rw [dict_mapF]; exact g2⟩
  · intro b o hb nf
    obtain ⟨sl, z⟩ := so.2.2 b o hb
    exact ⟨sl, keep b _ (nrec b o hb nf) z⟩
theorem fly_note (hfr : A.frames = some (env :: outer)) (hf : env.frame = some L) (x : Fly B (env :: outer) e cls d s.heap)
    (hQ : ∀ h1, Held B (env :: outer) e cls d L h1 → s.heap.UpToSlots h1 → Q () { s with heap := h1 }) : wpAny M A (noteFrame (.ref e) env) Q E s := by
  obtain ⟨⟨a0, st, fe, ff, oe, vs, T, oT, ts, he, ⟨hc, h0⟩, hd, h1, bT, Te, hT, hdT, h3⟩, dk⟩ := x
  subst hc
  unfold noteFrame
  simp only [hf]
  refine wpAny_bind (wpAny_field he hd h1 ?_)
  rw [if_pos (by simp)]
  refine wpAny_bind (wpAny_field hT hdT h3 ?_)
  rw [if_neg (by simp [rawInt])]
  refine wpAny_bind (wpAny_setField hT hdT (Array.getElem?_eq_some_iff.mp h3).1 ?_)
  have oth : ∀ b, b ≠ T → (s.heap.update T (Obj.mapFields (·.setIfInBounds 3 Value.none))).get? b = s.heap.get? b := fun b z => Heap.get?_update_other _ _ (Ne.symm z)
  have nrec : ∀ b o, s.heap.get? b = some o → (∀ ws, o.data ≠ .fields ws) → b ≠ T := fun b o hb nf z => by
    subst z; rw [hT] at hb; cases hb; exact nf ts hdT
  refine entry_held (s := { s with heap := s.heap.update T (Obj.mapFields (·.setIfInBounds 3 Value.none)) }) hfr (ff.of_keeps fun b o hb nf => ⟨o, by rw [oth b (nrec b o hb nf)]; exact hb, rfl⟩) hf
    (by rw [oth e (Ne.symm Te)]; exact he) (fun b o q => by rw [oth b fun z => by rw [z, bT] at q; cases q]; exact st b o q) fe hd (Array.getElem?_eq_some_iff.mp h1).1 h0 (dk_upd hT hdT dk) fun h5 hl up => ?_
  exact hQ h5 hl fun b o hb nf => up b o (by rw [oth b (nrec b o hb nf)]; exact hb) nf
theorem land_core {fl a0 : Value} (st : B.StaysIn s.heap) (fe : B.get? e = none) (ff : s.heap.FunFrames B l) (tr : s.heap.TracedAtW B e cls a0 fl) (dk : Dk s.heap e d)
    (hQ : ∀ h1, Fly B l e cls d h1 → s.heap.UpToSlots h1 → Q () { s with heap := h1 }) : wpAny M A (setFlight (.ref e) none) Q E s := by
  obtain ⟨oe, vs, T, oT, ts, he, hc, hd, h1, bT, Te, hT, hdT, h3⟩ := tr
  have z3 : 3 < ts.size := (Array.getElem?_eq_some_iff.mp h3).1
  unfold setFlight
  refine wpAny_bind (wpAny_field he hd h1 ?_)
  rw [if_pos (by simp)]
  refine wpAny_setField hT hdT z3 (hQ _ ⟨⟨a0, ?_⟩, dk_upd hT hdT dk⟩ ?_)
  all_goals
    have oth : ∀ b, b ≠ T → (s.heap.update T (Obj.mapFields (·.setIfInBounds 3 ((none : Option Addr).elim Value.none fun f => rawInt f)))).get? b = s.heap.get? b := fun b z => Heap.get?_update_other _ _ (Ne.symm z)
    have nrec : ∀ b o, s.heap.get? b = some o → (∀ ws, o.data ≠ .fields ws) → b ≠ T := fun b o hb nf z => by
      subst z; rw [hT] at hb; cases hb; exact nf ts hdT
  · refine ⟨fun b o q => by rw [oth b fun z => by rw [z, bT] at q; cases q]; exact st b o q, fe, ff.of_keeps fun b o hb nf => ⟨o, by rw [oth b (nrec b o hb nf)]; exact hb, rfl⟩, ?_⟩
    exact ⟨oe, vs, T, _, _, by rw [oth e (Ne.symm Te)]; exact he, hc, hd, h1, bT, Te, Heap.get?_update_self _ hT (Obj.isFreed_of_fields (Obj.data_mapFields hdT _)), Obj.data_mapFields hdT _, by simp [z3]⟩
  · exact fun b o hb nf => ⟨o.slots, by rw [oth b (nrec b o hb nf)]; exact hb⟩
theorem held_land (x : Held B l e cls d L s.heap) (hQ : ∀ h1, Fly B l e cls d h1 → s.heap.UpToSlots h1 → Q () { s with heap := h1 }) : wpAny M A (setFlight (.ref e) none) Q E s := by
  obtain ⟨⟨a0, st, fe, ff, tr⟩, dk⟩ := x
  exact land_core st fe ff tr dk hQ
theorem Fly.less (x : Fly B (env :: outer) e cls d s.heap) : Fly B outer e cls d s.heap := by
  obtain ⟨⟨a0, st, fe, ⟨_, _, ff⟩, tr⟩, dk⟩ := x
  exact ⟨⟨a0, st, fe, ff, tr⟩, dk⟩
theorem fly_leave (hfr : A.frames = some (env :: outer)) (hf : env.frame = some L) (x : Fly B (env :: outer) e cls d s.heap)
    (hQ : ∀ h1, Fly B outer e cls d h1 → s.heap.UpToSlots h1 → Q () { s with heap := h1 }) : wpAny M A (leaving env (.ref e)) Q E s := by
  unfold leaving
  exact wpAny_bind (fly_note hfr hf x fun h1 x1 u1 => held_land (s := { s with heap := h1 }) x1 fun h2 x2 u2 => hQ h2 (Fly.less (s := { s with heap := h2 }) x2) (u1.trans u2))
end
end Fx
set_option maxHeartbeats 4000000
namespace L2
open PySem PySem.Spec PyProof.Rows Fx
noncomputable def CXx (P : Program) (w : World) : CXT := fun outer H s E e s' =>
  ∃ (ea : Addr) (cls : Value) (d : Option Addr) (H1 : Hp) (B : Heap), e = .ref ea ∧ s'.os = s.os ∧ AllBare s'.gens ∧ Fly B outer ea cls d s'.heap ∧
    (∀ h5 : Heap, B.StaysIn h5 → s'.heap.UpToSlots h5 → Un (frs outer) [] H H1 s.heap h5 ∧ HOk P w H1 h5) ∧ H1 ea = none ∧ s.heap.get? ea = none ∧ E cls d H1
structure NewA (X : Cx) (pins : List (Addr × Obj)) (e : Addr) : Prop where
  old : X.s₀.heap.get? e = none
  pin : ∀ p ∈ X.pn ++ pins, p.1 ≠ e
  loc : e ≠ X.env.locals
  cel : ∀ x c, X.env.cells.lookup x = some c → c ≠ e
  frm : e ∉ X.fs
noncomputable def XP (X : Cx) (pins : List (Addr × Obj)) (σ : St) (R : XK) (e : Value) (s' : Shared) : Prop :=
  ∃ (ea : Addr) (cls : Value) (d : Option Addr) (H1 : Hp) (B : Heap), e = .ref ea ∧ Fly B X.stack ea cls d s'.heap ∧
    (∀ h5 : Heap, B.StaysIn h5 → s'.heap.UpToSlots h5 → Inv X pins σ H1 { s' with heap := h5 }) ∧ H1 ea = none ∧ NewA X pins ea ∧ R cls d H1
section
variable {X : Cx} {pins : List (Addr × Obj)} {σ : St} {H : Hp} {s s' : Shared} {e : Value} {E : XK}
theorem Inv.newA {ea : Addr} (I : Inv X pins σ H s) (n : s.heap.get? ea = none) (hex : X.ex = []) : NewA X pins ea := by
  have z : ∀ b o, s.heap.get? b = some o → b ≠ ea := fun b o q w => by rw [w, n] at q; cases q
  refine ⟨?_, fun p hp => z _ _ (I.pin p hp).1, fun w => ?_, fun x c hc => ?_, fun hb => ?_⟩
  · cases q : X.s₀.heap.get? ea with
    | none => rfl
    | some o =>
      obtain ⟨o1, q1⟩ := I.base.there ea o q (by rw [hex]; simp)
      rw [n] at q1; cases q1
  · obtain ⟨m, ⟨o, _, _, ho, _⟩, _⟩ := I.loc
    exact z _ _ ho w.symm
  · obtain ⟨v, o, ho, _⟩ := I.cell x c hc
    exact z _ _ ho
  · obtain ⟨_, o, ho, _⟩ := I.funs.mem hb
    exact z _ _ ho rfl
theorem xp_of (I : Inv X pins σ H s) (h : CXx X.prog X.w X.stack H s E e s') (hex : X.ex = []) : XP X pins σ E e s' := by
  obtain ⟨ea, cls, d, H1, B, rfl, os, bare, fl, cl, en, fr, hE⟩ := h
  refine ⟨ea, cls, d, H1, B, rfl, fl, fun h5 b5 u5 => ?_, en, I.newA fr hex, hE⟩
  obtain ⟨un, hok⟩ := cl h5 b5 u5
  exact I.call' (s' := { s' with heap := h5 }) (ch := []) os un hok bare fun b z => absurd z (by simp)
end
theorem ObjOk.there {P : Program} {w : World} {H : Hp} {h : Heap} {a : Addr} {o : HO} (x : ObjOk P w H h a o) : ∃ ob, h.get? a = some ob := by
  cases o with
  | lst xs => obtain ⟨_, _, _, _, q⟩ := x; exact ⟨_, q⟩
  | tup xs => obtain ⟨_, _, _, ob, q, _⟩ := x; exact ⟨_, q⟩
  | dK kvs => obtain ⟨_, _, _, _, ob, _, _, q, _⟩ := x; exact ⟨_, q⟩
  | dT kvs => obtain ⟨_, _, _, _, ob, _, _, q, _⟩ := x; exact ⟨_, q⟩
  | set S n => obtain ⟨ob, _, _, _, q, _⟩ := x; exact ⟨_, q⟩
  | ins C dx fs => obtain ⟨_, _, _, q, _⟩ := x; exact ⟨_, q⟩
  | own y => exact x
  | xd fs => obtain ⟨_, ⟨_, _, _, q, _⟩, _⟩ := x; exact ⟨_, q⟩
  | rng lo hi => obtain ⟨_, _, _, q⟩ := x; exact ⟨_, q⟩
  | frz ob u => obtain ⟨q, _⟩ := x; exact ⟨_, q⟩
  | tbl ps => exact ⟨_, (show h.get? a = some _ from x)⟩
  | met f y => exact ⟨_, (show h.get? a = some _ from x)⟩
  | ext φ => obtain ⟨_, q, _⟩ := x; exact q
theorem HOk.no {P : Program} {w : World} {H : Hp} {h : Heap} {a : Addr} (x : HOk P w H h) (n : h.get? a = none) : H a = none := by
  cases q : H a with
  | none => rfl
  | some o =>
    obtain ⟨ob, z⟩ := (x a o q).there
    rw [n] at z; cases z
section
variable {P : Program} {w : World} {K : PySem.W.Frag} {mg : Str → Option Value} {base : Heap} {N : List Str} {qual : Str} {scope : Scope} {f : Addr} {cd : Value} {A : Around} {outer : List Env} {s : Shared} {H : Hp} {E : XK}
theorem passX : Passes (CXx P w) (cxOf (CXx P w) P w K mg base N qual scope f cd A outer s H E) E := fun pins σ H1 s1 e s' I h => by
  obtain ⟨ea, cls, d, H2, B, rfl, fl, cl, en, na, hE⟩ := xp_of I h rfl
  have J := fun h5 b5 u5 => cl h5 b5 u5
  obtain ⟨a0, st, _⟩ := fl.1
  have J0 := J s'.heap st (Heap.UpToSlots.refl _)
  show wpAny _ _ (leaving _ (.ref ea)) _ _ s'
  refine fly_leave (outer := outer) (L := s.heap.objs.size) I.ok.frames rfl fl fun h1 fl1 u1 => ?_
  exact ⟨ea, cls, d, H2, B, rfl, J0.os, J0.bare, fl1, fun h5 b5 u5 => ⟨(J h5 b5 (u1.trans u5)).base, (J h5 b5 (u1.trans u5)).hok⟩, en, na.old, hE⟩
end
theorem exc_obj {K : PySem.W.Frag} {h : Heap} {C : Addr} {bmB : List Value} {newId : String} (X : K.In h) (q : PySem.W.excIn K C bmB newId = true) :
    ∃ bm N nm qn bs hdct sn sub ab col dd k0 k1 k2 k3 k5 mN, h.get? C = some (excClassObj nm qn C N bs bm hdct sn sub ab col dd k0 k1 k2 k3 k5 newId) ∧ h.Ns N mN ∧ mN "__init__" = none ∧ OwnTail h bmB bm := by
  unfold PySem.W.excIn at q
  split at q
  next dd cd sl ho =>
    split at q
    next C' bm k0 k1 k2 k3 n k5 hm hs =>
      simp only [Bool.and_eq_true, beq_iff_eq, Bool.not_eq_true'] at q
      obtain ⟨⟨⟨⟨⟨rfl, rfl⟩, hdel⟩, tl⟩, hok⟩, hni⟩ := q
      rcases cd with ⟨nm, bs, mro, ns, qn, hdc, sn, sub, ab, col, del⟩
      dsimp only at hm hdel hok hni
      subst hm hdel
      have es : sl = #[k0, k1, k2, k3, some (.builtin n), k5] := by
        rcases sl with ⟨l⟩
        simp only at hs
        rw [hs]
      subst es
      exact ⟨bm, ns, nm, qn, bs, hdc, sn, sub, ab, col, dd, k0, k1, k2, k3, k5, _, X _ _ ho, .of_isNs (PySem.W.isNs_of_in X hok), PySem.W.nsMap_none_of_in X hok hni, PySem.W.tail_of_in X tl⟩
    next => cases q
  next => cases q
section
variable {P : Program} {w : World} {K : PySem.W.Frag} {mg : Str → Option Value} {base : Heap} {N : List Str} {qual : Str} {scope : Scope} {f : Addr} {cd : Value} {A : Around} {outer : List Env} {s : Shared} {H : Hp} {E : XK}
end
section
variable {P : Program} {w : World} {K : PySem.W.Frag} {mg : Str → Option Value} {base : Heap}
theorem Fun.okX {x qual : Str} {st : Stmt} {f : Addr} {fd : FuncData} {N ps : List Str} {k : Nat} {sp : Sp} (F : Fun K x qual st f fd) (S : FnScope N ps (defScope st)) (len : ∀ vs H Q E, sp vs H Q E → vs.length = ps.length)
    (hbody : ∀ (cdv : Value) (A : Around) (outer : List Env) (s : Shared) (H : Hp) (vs : List V) (Q : VK) (E : XK), Room k (A.deeper (envOfC qual (defScope st) s.heap.objs.size f cdv)) → sp vs H Q E →
      ∃ t, PSs (cxOf (CXx P w) P w K mg base N qual (defScope st) f cdv A outer s H E) (defBody st) t ∧ t { nx := fun _ H' => Q .non H', rt := Q } (start N vs) H) : FnOk P w K mg base (CXx P w) (k + 1) f fd ps sp := by
  obtain ⟨oc, od, kV, doc, pm, an, cdv, ct, osl, rfl, lk, hcd⟩ := F.ex
  exact fn_of lk hcd S len fun A outer s H vs Q E hr hsp => hbody cdv A outer s H vs Q E hr hsp
end
section
variable {X : Cx} {k : Nat} {f : Addr} {fd : FuncData} {ps : List Str} {sp : Sp} {dvs : List V} {ds : List Value} {x : Str} {p pos : Pos} {e : Expr} {es : List Expr} {t : TA}
end
noncomputable abbrev Cx.suite (X : Cx) (ea : Addr) : Cx := { X with A := X.A.mark (some (.ref ea)), calm := false }
section
variable {X : Cx} {pins : List (Addr × Obj)} {σ : St} {H : Hp} {s : Shared} {ea : Addr}
theorem Inv.suite (I : Inv X pins σ H s) (ea : Addr) : Inv (X.suite ea) pins σ H s := by
  obtain ⟨ok, r1, r2, r3, r4, r5, r6, r7, r8, r9, r10⟩ := I
  obtain ⟨m1, m2, m3, m4, m5, m6, m7, m8, m9, m10, m11, m12, m13, m14, m15, m16, m17, m18⟩ := ok
  exact ⟨⟨m1, m2, m3, m4, m5, m6, m7, m8, (fun z => nomatch z), m10, m11, m12, m13, m14, m15, m16, m17, m18⟩, r1, r2, r3, r4, r5, r6, r7, r8, r9, r10⟩
end
section
variable {X : Cx}
end
section
variable {X : Cx}
noncomputable def CMulB (i j : Int) : Prop := Builtin.Int.intBits i ≤ 1048576 ∧ Builtin.Int.intBits j ≤ 1048576
theorem op_mulB : OpR X (binaryOp .Mult) (rI CMulB fun i j => .int (i * j)) := opI fun _ _ _ _ _ _ _ hc q => mul_int q (IntMulOk.of_le hc.1 hc.2 (by decide))
noncomputable def CDivB (_ j : Int) : Prop := j ≠ 0 ∧ Builtin.Int.intBits j ≤ 9000
theorem log2_of_bits {j : Int} (h : Builtin.Int.intBits j ≤ 9000) : j.natAbs.log2 < 9000 := by
  by_cases z : j.natAbs = 0
  · rw [z]; decide +kernel
  · exact (Nat.log2_lt z).mpr (intBits_le_iff.mp h)
theorem op_fdivB : OpR X (binaryOp .FloorDiv) (rI CDivB fun i j => .int (i.fdiv j)) := opI fun _ _ _ _ _ _ _ hc q => floordiv_int hc.1 q (.inl (PyProof.noPylong_of_log2 (log2_of_bits hc.2)))
theorem op_is_bl : OpR X (compareOp .Is) (fun x y H Q => ∃ a b, x = .bl a ∧ y = .bl b ∧ Q (.bl (a == b)) H) := by
  intro pins s σ H x y v u Q I rx ry h
  obtain ⟨a, b, rfl, rfl, q⟩ := h
  cases rx; cases ry
  exact is_bool (fin_bl I q rfl)
theorem op_isnot_bl : OpR X (compareOp .IsNot) (fun x y H Q => ∃ a b, x = .bl a ∧ y = .bl b ∧ Q (.bl (a != b)) H) := by
  intro pins s σ H x y v u Q I rx ry h
  obtain ⟨a, b, rfl, rfl, q⟩ := h
  cases rx; cases ry
  exact isnot_bool (fin_bl I q rfl)
end
end L2
namespace L2
open PySem PySem.Spec PyProof.Rows Fx
noncomputable def Has (P : Program) (w : World) (K : PySem.W.Frag) (mg : Str → Option Value) (base : Heap) (CX : CXT) (k : Nat) (x : Str) (ps : List Str) (sp : Sp) : Prop :=
  ∃ f fd, FnOk P w K mg base CX k f fd ps sp ∧ Binds K fd ps [] ∧ PySem.W.keepIn K (.ref f) = true ∧ mg x = some (.ref f)
theorem passN {P : Program} {w : World} {X : Cx} : Passes (CXx P w) X E0 := fun _ _ _ _ _ _ _ h => by
  obtain ⟨_, _, _, _, _, _, _, _, _, _, _, _, z⟩ := h
  exact z.elim
section
variable {X : Cx} {CX : CXT} {k : Nat} {ps : List Str} {sp : Sp} {E : XK} {x : Str} {p pos : Pos} {e : Expr} {es : List Expr} {t : TA}
theorem pe_has (h : Has X.prog X.w X.K X.mg X.base CX k x ps sp) (hr : Room k X.A) (hg : Gl X x) (hx : Passes CX X E) (ha : PA X (e :: es) t) (hdb : (x == ("__debug__" : Str)) = false := by decide)
    (he : starEach (e :: es) X.env = (false, eval e X.env) :: starEach es X.env := by rfl) (hpl : (backTo pos (starEach es X.env)).any (·.1) = false := by rfl) : PE X (.Call (.Name x p) (e :: es) [] pos) (tCall sp [] E t) := by
  obtain ⟨f, fd, F, b, kp, m⟩ := h
  exact pe_call F hr hg m kp b .nil hx ha hdb he hpl
end
end L2
namespace Fx
open PySem
section
variable {prog : Program} {w : World} {A : Around} {E : Value → Shared → Prop} {h : Heap} {g : Array GenState} {d : Drawn} {t : Nat} {os : OsState}
variable {nm q : Str} {C N : Addr} {bs bm bmB : List Value} {hdct : Bool} {sn : List Str} {sub : List Value} {ab : Bool} {col : Option Bool} {dd : Option Addr} {k0 k1 k2 k3 k5 : Option Value} {B newId initId : String}
noncomputable abbrev Tlk (h : Heap) (C : Addr) (n : Str) (y : Option Value) : Prop := ∀ (M : Model) (A : Around) (E : Value → Shared → Prop) (g : Array GenState) (d : Drawn) (t : Nat) (os : OsState) (Q : Option Value → Shared → Prop),
  Q y ⟨h, g, d, t, os⟩ → wpAny M A (typeLookup (.ref C) n) Q E ⟨h, g, d, t, os⟩
end
end Fx
namespace L2
open PySem PySem.Spec PyProof.Rows Fx
noncomputable def excX (e C : Addr) (d : Option Addr) : HO := .ext fun h => ∃ oe vs, h.get? e = some oe ∧ oe.cls = .ref C ∧ (∀ dx, d = some dx → oe.dict = some dx) ∧ oe.data = .fields vs
section
variable {X : Cx} {pins : List (Addr × Obj)} {σ : St} {H : Hp} {s : Shared} {e : Addr} {o : HO}
noncomputable def drop (H : Hp) (e : Addr) : Hp := fun b => if b = e then none else H b
end
noncomputable def excInI (K : PySem.W.Frag) (C fI : Addr) (bmB : List Value) (newId : String) : Bool := match K.lookup C with
  | some ⟨.type "type", _, .cls cd, sl⟩ => (match cd.mro, sl.toList with
    | .ref C1 :: bm, [_, _, _, _, some (.builtin n), _] => C1 == C && n == newId && !cd.hasDel && cd.hasDict && PySem.W.tailIn K bmB bm && PySem.W.nsOkIn K cd.ns && PySem.W.nsIn K cd.ns "__init__" == some (some (.ref fI))
    | _, _ => false)
  | _ => false
theorem ns_some_of {K : PySem.W.Frag} {h : Heap} {N : Addr} {m : Str → Option Value} {n : Str} {v : Value} (X : K.In h) (G : h.Ns N m) (e : PySem.W.nsIn K N n = some (some v)) : m n = some v := by
  obtain ⟨o, es, ep, ho, hd, _, hf⟩ := G
  unfold PySem.W.nsIn at e
  split at e
  next c d es1 n1 sl q =>
    have z := X _ _ q
    rw [ho] at z
    cases z
    cases hd
    split at e
    next en he =>
      cases e
      rw [← hf]
      unfold nsFind findBy
      rw [← Array.find?_toList, he]
      rfl
    next => split at e <;> cases e
  next => cases e
theorem exc_objI {K : PySem.W.Frag} {C fI : Addr} {bmB : List Value} {newId : String} (q : excInI K C fI bmB newId = true) :
    ∃ bm N nm qn bs sn sub ab col dd k0 k1 k2 k3 k5, ∀ h : Heap, K.In h → h.get? C = some (excClassObj nm qn C N bs bm true sn sub ab col dd k0 k1 k2 k3 k5 newId) ∧ OwnTail h bmB bm ∧ ∃ mN, h.Ns N mN ∧ mN "__init__" = some (.ref fI) := by
  unfold excInI at q
  split at q
  next dd cd sl ho =>
    split at q
    next C1 bm k0 k1 k2 k3 n k5 hm hs =>
      simp only [Bool.and_eq_true, beq_iff_eq, Bool.not_eq_true'] at q
      obtain ⟨⟨⟨⟨⟨⟨rfl, rfl⟩, hdel⟩, hdc⟩, tl⟩, hok⟩, hni⟩ := q
      rcases cd with ⟨nm, bs, mro, ns, qn, hdc1, sn, sub, ab, col, del⟩
      dsimp only at hm hdel hok hni hdc
      subst hm hdel hdc
      have es : sl = #[k0, k1, k2, k3, some (.builtin n), k5] := by
        rcases sl with ⟨l⟩
        simp only at hs
        rw [hs]
      subst es
      refine ⟨bm, ns, nm, qn, bs, sn, sub, ab, col, dd, k0, k1, k2, k3, k5, fun h X => ?_⟩
      have G : h.Ns ns (h.nsMap ns) := .of_isNs (PySem.W.isNs_of_in X hok)
      exact ⟨X _ _ ho, PySem.W.tail_of_in X tl, _, G, ns_some_of X G hni⟩
    next => cases q
  next => cases q
structure XCls (K : PySem.W.Frag) (C fI : Addr) (field : Str) : Prop where
  cls : excInI K C fI [.type "ValueError", .type "Exception", .type "BaseException", .type "object"] "ValueError.__new__" = true
  fn : PySem.W.isFn K (.ref fI) = true
  kp : PySem.W.keepIn K (.ref C) = true
  sa : PySem.W.findIn K (.ref C) "__setattr__" = some (some (.builtin "object.__setattr__"))
  ga : PySem.W.findIn K (.ref C) "__getattribute__" = some (some (.builtin "BaseException.__getattribute__"))
  gn : PySem.W.findIn K (.ref C) "__getattr__" = some none
  fl : PySem.W.findIn K (.ref C) field = some none
theorem tlk_of {K : PySem.W.Frag} {h : Heap} {C : Addr} {n : Str} {y : Option Value} (X : K.In h) (e : PySem.W.findIn K (.ref C) n = some y) : Tlk h C n y := fun M A E g d t os Q hq => (PySem.W.looks_findIn (M := M) X e).here (s := ⟨h, g, d, t, os⟩) hq
section
variable {X : Cx} {o value : Expr} {field : Str} {pos pos' : Pos} {ta tv : TE} {C fI : Addr}
end
section
variable {P : Program} {w : World} {K : PySem.W.Frag} {mg : Str → Option Value} {base : Heap} {N : List Str} {qual : Str} {scope : Scope} {f : Addr} {cd : Value} {A : Around} {outer : List Env} {s : Shared} {H : Hp} {E : XK}
end
section
variable {X : Cx} {pins : List (Addr × Obj)} {σ : St} {H : Hp} {s : Shared}
end
section
variable {X : Cx} {e : Expr} {field : Str} {pos : Pos} {ta : TE} {C fI : Addr}
end
end L2
namespace P2
open PySem L2
inductive D where
  | non | bl (b : Bool) | int (i : Int) | str (x : Str) | ty (n : String) | ref (a : Addr)
  | tup (ds : List D) | lst (ds : List D) | exc (c : Addr) (ns : List Str) (ds : List D)
inductive R (α : Type) where
  | ok (a : α) | ex (c : Addr) (ns : List Str) (ds : List D) | bad
noncomputable def R.bind {α β : Type} : R α → (α → R β) → R β
  | .ok a, f => f a
  | .ex c ns ds, _ => .ex c ns ds
  | .bad, _ => .bad
theorem R.bind_ok {α β : Type} (a : α) (f : α → R β) : (R.ok a).bind f = f a := rfl
theorem bind_ok {α β : Type} {r : R α} {g : α → R β} {y : β} (h : r.bind g = .ok y) : ∃ x, r = .ok x ∧ g x = .ok y := by
  cases r with
  | ok x => exact ⟨x, rfl, h⟩
  | ex c ns ds => cases h
  | bad => cases h
noncomputable def KL (K : PySem.W.Frag) (a : Addr) (vs : List V) : Prop := ∃ (its : List Value) (n : Nat), K.lookup a = some { cls := .type "list", data := .seq its.toArray n } ∧ its.length ≤ sizeLine ∧ Vals vs its
theorem KL.sq {K : PySem.W.Frag} {a : Addr} {vs : List V} {H : Hp} (h : KL K a vs) : SqL K H a vs := let ⟨its, n, h1, h2, h3⟩ := h; .inr ⟨_, its.toArray, n, h1, rfl, rfl, rfl, by simpa using h2, by simpa using h3⟩
noncomputable def KT (K : PySem.W.Frag) (a : Addr) (vs : List V) : Prop := ∃ (o : Obj) (its : Array Value) (n : Nat), K.lookup a = some o ∧ o.cls = .type "tuple" ∧ o.data = .seq its n ∧ its.size ≤ sizeLine ∧ Vals vs its.toList
noncomputable def namesOf (K : PySem.W.Frag) : List Str := match K.lookup mainGlobals with
  | some ⟨_, _, .dict es _, _⟩ => es.toList.filterMap fun e => match e.key with
    | .str x _ => some x
    | _ => none
  | _ => []
noncomputable def plainFn (K : PySem.W.Frag) (x : Str) : Bool := match PySem.W.nsIn K mainGlobals x with
  | some (some (.ref f)) => (match K.lookup f with
    | some ⟨_, _, .func fd, _⟩ => (match fd.defaults, fd.kwdefaults with
      | .none, .none => true
      | _, _ => false)
    | _ => false)
  | _ => false
noncomputable def tabsOf (K : PySem.W.Frag) : List (Str × Addr × Addr) := (namesOf K).filterMap fun x => if plainFn K x then (PySem.W.tabIn K x).map fun q => (x, q.1, q.2) else none
noncomputable def CodeO (c : Addr) (q : Str) : HO := .ext fun h => h.CodeRec (.ref c) q
noncomputable def TbOk (K : PySem.W.Frag) (H : Hp) : Prop := ∀ t ∈ tabsOf K, ∃ ps, H t.2.2 = some (.tbl ps) ∧ TriplesOk ps.toList ∧ ∀ pos cv, codeAmong pos ps.toList = some cv → ∃ c', cv = .ref c' ∧ H c' = some (CodeO c' (t.1 ++ ".<locals>.<lambda>"))
noncomputable def NT (o : HO) : Prop := ∀ ps, o ≠ .tbl ps
theorem nt_lst {l : List V} : NT (.lst l) := fun _ h => nomatch h
theorem nt_tup {l : List V} : NT (.tup l) := fun _ h => nomatch h
theorem nt_frz {o : Obj} {u : HO} : NT (.frz o u) := fun _ h => nomatch h
theorem nt_xd {l : List (Str × V)} : NT (.xd l) := fun _ h => nomatch h
theorem nt_ext {φ : Heap → Prop} : NT (.ext φ) := fun _ h => nomatch h
structure Same (K : PySem.W.Frag) (H H' : Hp) : Prop where
  at' : ∀ b o, NT o → H b = some o → H' b = some o
  fr : ∀ b, H' b = none → H b = none
  tt : TbOk K H → TbOk K H'
theorem Same.refl {K : PySem.W.Frag} (H : Hp) : Same K H H := ⟨fun _ _ _ h => h, fun _ h => h, fun h => h⟩
theorem Same.trans {K : PySem.W.Frag} {H H1 H2 : Hp} (a : Same K H H1) (b : Same K H1 H2) : Same K H H2 := ⟨fun c o n h => b.at' c o n (a.at' c o n h), fun c h => a.fr c (b.fr c h), fun h => b.tt (a.tt h)⟩
theorem Same.free {K : PySem.W.Frag} {H H' : Hp} (e : Same K H H') {l : Addr} (h : H' l = Option.none) : H l = Option.none := e.fr l h
theorem TbOk.off {K : PySem.W.Frag} {H H' : Hp} {p : Addr} (t : TbOk K H) (hp : ∀ ps, H p ≠ some (.tbl ps)) (hc : ∀ q, H p ≠ some (CodeO p q)) (e : ∀ b, b ≠ p → H' b = H b) : TbOk K H' := fun x hx => by
  obtain ⟨ps, h1, h2, h3⟩ := t x hx
  refine ⟨ps, by rw [e _ fun w => hp ps (by rw [← w]; exact h1)]; exact h1, h2, fun pos cv e0 => ?_⟩
  obtain ⟨c', e1, e2⟩ := h3 pos cv e0
  exact ⟨c', e1, by rw [e _ fun w => hc _ (by rw [← w]; exact e2)]; exact e2⟩
theorem lst_tb {H : Hp} {p : Addr} {l : List V} (h : H p = some (.lst l)) : (∀ ps, H p ≠ some (.tbl ps)) ∧ ∀ q, H p ≠ some (CodeO p q) :=
  ⟨fun ps w => (by rw [h] at w; exact nomatch w), fun q w => (by rw [h] at w; unfold CodeO at w; exact nomatch w)⟩
theorem TbOk.upd {K : PySem.W.Frag} {H : Hp} {p : Addr} {o : HO} (t : TbOk K H) (hp : ∀ ps, H p ≠ some (.tbl ps)) (hc : ∀ q, H p ≠ some (CodeO p q)) : TbOk K (upd H p o) := fun x hx => by
  obtain ⟨ps, h1, h2, h3⟩ := t x hx
  refine ⟨ps, by rw [upd_ne fun w => hp ps (by rw [← w]; exact h1)]; exact h1, h2, fun pos cv e => ?_⟩
  obtain ⟨c', e1, e2⟩ := h3 pos cv e
  exact ⟨c', e1, by rw [upd_ne fun w => hc _ (by rw [← w]; exact e2)]; exact e2⟩
mutual
inductive Rep (K : PySem.W.Frag) (al : Addr → Prop) (H : Hp) : V → D → Prop
  | non : Rep K al H .non .non
  | bl (b : Bool) : Rep K al H (.bl b) (.bl b)
  | int (i : Int) : Rep K al H (.int i) (.int i)
  | str (x : Str) : Rep K al H (.str x) (.str x)
  | ty (n : String) : Rep K al H (.ty n) (.ty n)
  | ref (a : Addr) : Rep K al H (.ref a) (.ref a)
  | tup {a : Addr} {vs : List V} {ds : List D} : (al a ∧ Rd H a (.tup vs)) ∨ KT K a vs → Reps K al H vs ds → Rep K al H (.ref a) (.tup ds)
  | lst {a : Addr} {vs : List V} {ds : List D} : (al a ∧ Rd H a (.lst vs)) ∨ KL K a vs → Reps K al H vs ds → Rep K al H (.ref a) (.lst ds)
  | exc {a c dx : Addr} {ns : List Str} {vs : List V} {ds : List D} : al a → H a = some (excX a c (some dx)) → al dx → H dx = some (.xd (ns.zip vs)) → Reps K al H vs ds → Rep K al H (.ref a) (.exc c ns ds)
  | exc0 {a c : Addr} : al a → H a = some (excX a c none) → Rep K al H (.ref a) (.exc c [] [])
inductive Reps (K : PySem.W.Frag) (al : Addr → Prop) (H : Hp) : List V → List D → Prop
  | nil : Reps K al H [] []
  | cons {v : V} {d : D} {vs : List V} {ds : List D} : Rep K al H v d → Reps K al H vs ds → Reps K al H (v :: vs) (d :: ds)
end
noncomputable def Xt (al : Addr → Prop) (H : Hp) (al' : Addr → Prop) (H' : Hp) : Prop := ∀ a o, NT o → al a → H a = some o → al' a ∧ H' a = some o
theorem Xt.refl {al : Addr → Prop} {H : Hp} : Xt al H al H := fun _ _ _ h e => ⟨h, e⟩
theorem Xt.trans {al al1 al2 : Addr → Prop} {H H1 H2 : Hp} (x : Xt al H al1 H1) (y : Xt al1 H1 al2 H2) : Xt al H al2 H2 := fun a o n h e => y a o n (x a o n h e).1 (x a o n h e).2
theorem Xt.of {K : PySem.W.Frag} {al : Addr → Prop} {H H' : Hp} (s : Same K H H') : Xt al H al H' := fun a o n h e => ⟨h, s.at' a o n e⟩
theorem Xt.sub {al al' : Addr → Prop} {H : Hp} (s : ∀ a, al a → al' a) : Xt al H al' H := fun a o _ h e => ⟨s a h, e⟩
theorem rd_mv {al al' : Addr → Prop} {H H' : Hp} {a : Addr} {u : HO} (h : Xt al H al' H') (n : NT u) (z : al a ∧ Rd H a u) : al' a ∧ Rd H' a u := by
  obtain ⟨z1, z2 | ⟨o, z2⟩⟩ := z
  · exact ⟨(h a _ n z1 z2).1, .inl (h a _ n z1 z2).2⟩
  · exact ⟨(h a _ nt_frz z1 z2).1, .inr ⟨o, (h a _ nt_frz z1 z2).2⟩⟩
mutual
theorem Rep.mv {K : PySem.W.Frag} {al al' : Addr → Prop} {H H' : Hp} (h : Xt al H al' H') : ∀ {v : V} {d : D}, Rep K al H v d → Rep K al' H' v d
  | _, _, .non => .non
  | _, _, .bl b => .bl b
  | _, _, .int b => .int b
  | _, _, .str b => .str b
  | _, _, .ty b => .ty b
  | _, _, .ref b => .ref b
  | _, _, .tup p q => .tup (p.elim (fun z => .inl (rd_mv h nt_tup z)) .inr) (q.mv h)
  | _, _, .lst p q => .lst (p.elim (fun z => .inl (rd_mv h nt_lst z)) .inr) (q.mv h)
  | _, _, .exc p1 p2 p3 p4 q => .exc (h _ _ nt_ext p1 p2).1 (h _ _ nt_ext p1 p2).2 (h _ _ nt_xd p3 p4).1 (h _ _ nt_xd p3 p4).2 (q.mv h)
  | _, _, .exc0 p1 p2 => .exc0 (h _ _ nt_ext p1 p2).1 (h _ _ nt_ext p1 p2).2
theorem Reps.mv {K : PySem.W.Frag} {al al' : Addr → Prop} {H H' : Hp} (h : Xt al H al' H') : ∀ {v : List V} {d : List D}, Reps K al H v d → Reps K al' H' v d
  | _, _, .nil => .nil
  | _, _, .cons p q => .cons (p.mv h) (q.mv h)
end
section
variable {K : PySem.W.Frag} {al al' : Addr → Prop} {H H' : Hp} {v : V} {d : D} {vs ws : List V} {ds es : List D}
theorem Rep.up (r : Rep K al H v d) (s : Same K H H') : Rep K al H' v d := r.mv (.of s)
theorem Reps.up (r : Reps K al H vs ds) (s : Same K H H') : Reps K al H' vs ds := r.mv (.of s)
theorem Reps.length (r : Reps K al H vs ds) : vs.length = ds.length := by
  induction ds generalizing vs with
  | nil => cases r; rfl
  | cons d ds ih => cases r with | cons a b => rw [List.length_cons, List.length_cons, ih b]
theorem Reps.append (r : Reps K al H vs ds) (q : Reps K al H ws es) : Reps K al H (vs ++ ws) (ds ++ es) := by
  induction ds generalizing vs with
  | nil => cases r; exact q
  | cons d ds ih => cases r with | cons a b => exact .cons a (ih b)
theorem Reps.get (r : Reps K al H vs ds) {i : Nat} {x : V} (e : vs[i]? = some x) : ∃ y, ds[i]? = some y ∧ Rep K al H x y := by
  induction ds generalizing vs i with
  | nil => cases r; simp at e
  | cons d ds ih =>
    cases r with
    | cons a b =>
      cases i with
      | zero => simp at e; subst e; exact ⟨_, rfl, a⟩
      | succ i => simpa using ih b (by simpa using e)
theorem Reps.getD (r : Reps K al H vs ds) {i : Nat} {y : D} (e : ds[i]? = some y) : ∃ x, vs[i]? = some x ∧ Rep K al H x y := by
  have hl := r.length
  have hi : i < vs.length := by rw [hl]; exact (List.getElem?_eq_some_iff.mp e).1
  obtain ⟨z, e2, q⟩ := r.get (List.getElem?_eq_getElem hi)
  rw [e] at e2; cases e2
  exact ⟨_, List.getElem?_eq_getElem hi, q⟩
theorem Reps.drop (r : Reps K al H vs ds) (n : Nat) : Reps K al H (vs.drop n) (ds.drop n) := by
  induction n generalizing vs ds with
  | zero => exact r
  | succ n ih =>
    cases r with
    | nil => exact .nil
    | cons a b => exact ih b
theorem Reps.take (r : Reps K al H vs ds) (n : Nat) : Reps K al H (vs.take n) (ds.take n) := by
  induction n generalizing vs ds with
  | zero => exact .nil
  | succ n ih =>
    cases r with
    | nil => exact .nil
    | cons a b => exact .cons a (ih b)
theorem Rep.tupIn (r : Rep K al H v (.tup ds)) : ∃ a vs, v = .ref a ∧ SqT K H a vs ∧ Reps K al H vs ds := by
  cases r with
  | tup p q => exact ⟨_, _, rfl, p.elim (fun z => .inl z.2) .inr, q⟩
theorem Rep.lstIn (r : Rep K al H v (.lst ds)) : ∃ a vs, v = .ref a ∧ SqL K H a vs ∧ Reps K al H vs ds := by
  cases r with
  | lst p q => exact ⟨_, _, rfl, p.elim (fun z => .inl z.2) KL.sq, q⟩
theorem Rep.lstRd (r : Rep K al H v (.lst ds)) : ∃ a vs, v = .ref a ∧ (Rd H a (.lst vs) ∨ KL K a vs) ∧ Reps K al H vs ds := by
  cases r with
  | lst p q => exact ⟨_, _, rfl, p.imp (fun z => z.2) id, q⟩
theorem same_upd {p : Addr} {o : HO} (h : H p = none) : Same K H (upd H p o) := ⟨fun b u _ q => by rw [upd_ne (ne_of_none q h)]; exact q, fun b q => by
    by_cases z : b = p
    · rw [z]; exact h
    · rw [upd_ne z] at q; exact q, fun t => t.upd (fun ps w => by rw [h] at w; cases w) fun q w => by rw [h] at w; cases w⟩
theorem Reps.tupNew (r : Reps K al H vs ds) {p : Addr} (h : H p = none) (a : al p) : Rep K al (upd H p (.tup vs)) (.ref p) (.tup ds) := .tup (.inl ⟨a, .inl upd_same⟩) (r.up (same_upd h))
theorem Reps.lstNew (r : Reps K al H vs ds) {p : Addr} (h : H p = none) (a : al p) : Rep K al (upd H p (.lst vs)) (.ref p) (.lst ds) := .lst (.inl ⟨a, .inl upd_same⟩) (r.up (same_upd h))
end
inductive Sl where
  | no | sh (d : D) | ow (ds : List D)
noncomputable abbrev Ev := List Sl
structure RS (K : PySem.W.Frag) (P : Addr → Prop) (H0 : Hp) (al : Addr → Prop) (H : Hp) (σ : St) (ρ : Ev) : Prop where
  same : Same K H0 H
  tt : TbOk K H
  fresh : ∀ a, H a = none → al a
  sub : ∀ a, al a → P a
  pf : ∀ a, H0 a = none → P a
  len : ρ.length = σ.length
  sh : ∀ (i : Nat) (d : D), ρ[i]? = some (.sh d) → ∃ v, σ[i]? = some (some v) ∧ Rep K al H v d
  ow : ∀ (i : Nat) (ds : List D), ρ[i]? = some (.ow ds) → ∃ a vs, σ[i]? = some (some (.ref a)) ∧ H a = some (.lst vs) ∧ Reps K al H vs ds ∧ ¬ al a ∧ H0 a = none
  apart : ∀ (i j : Nat) (ds ds' : List D) (a : Addr), ρ[i]? = some (.ow ds) → ρ[j]? = some (.ow ds') → σ[i]? = some (some (.ref a)) → σ[j]? = some (some (.ref a)) → i = j
section
variable {K : PySem.W.Frag} {P al : Addr → Prop} {H0 H H' : Hp} {σ : St} {ρ : Ev}
theorem RS.grow (r : RS K P H0 al H σ ρ) (s : Same K H H') : RS K P H0 al H' σ ρ where
  same := r.same.trans s
  tt := s.tt r.tt
  fresh := fun a h => r.fresh a (s.free h)
  sub := r.sub
  pf := r.pf
  len := r.len
  sh := fun i d e => let ⟨v, a, b⟩ := r.sh i d e; ⟨v, a, b.up s⟩
  ow := fun i ds e => let ⟨a, vs, h1, h2, h3, h4⟩ := r.ow i ds e; ⟨a, vs, h1, s.at' _ _ nt_lst h2, h3.up s, h4⟩
  apart := r.apart
theorem RS.set (r : RS K P H0 al H σ ρ) {i : Nat} {v : V} {d : D} (hi : i < ρ.length) (q : Rep K al H v d) : RS K P H0 al H (σ.set i (some v)) (ρ.set i (.sh d)) where
  same := r.same
  tt := r.tt
  fresh := r.fresh
  sub := r.sub
  pf := r.pf
  len := by rw [List.length_set, List.length_set]; exact r.len
  sh := fun j e h => by
    by_cases z : i = j
    · subst z
      rw [List.getElem?_set_self hi] at h; cases h
      exact ⟨v, List.getElem?_set_self (by rw [← r.len]; exact hi), q⟩
    · rw [List.getElem?_set_ne z] at h
      obtain ⟨w, a, b⟩ := r.sh j e h
      exact ⟨w, by rw [List.getElem?_set_ne z]; exact a, b⟩
  ow := fun j ds h => by
    by_cases z : i = j
    · subst z
      rw [List.getElem?_set_self hi] at h; cases h
    · rw [List.getElem?_set_ne z] at h
      obtain ⟨a, vs, h1, h2⟩ := r.ow j ds h
      exact ⟨a, vs, by rw [List.getElem?_set_ne z]; exact h1, h2⟩
  apart := fun j k ds ds' a h1 h2 h3 h4 => by
    by_cases z : i = j
    · subst z; rw [List.getElem?_set_self hi] at h1; cases h1
    · by_cases y : i = k
      · subst y; rw [List.getElem?_set_self hi] at h2; cases h2
      · rw [List.getElem?_set_ne z] at h1 h3
        rw [List.getElem?_set_ne y] at h2 h4
        exact r.apart j k ds ds' a h1 h2 h3 h4
theorem RS.drop (r : RS K P H0 al H σ ρ) {i : Nat} {u : Option V} : RS K P H0 al H (σ.set i u) (ρ.set i .no) where
  same := r.same
  tt := r.tt
  fresh := r.fresh
  sub := r.sub
  pf := r.pf
  len := by rw [List.length_set, List.length_set]; exact r.len
  sh := fun j e h => by
    by_cases z : i = j
    · subst z
      by_cases hi : i < ρ.length
      · rw [List.getElem?_set_self hi] at h; cases h
      · rw [List.getElem?_eq_none (by rw [List.length_set]; omega)] at h; cases h
    · rw [List.getElem?_set_ne z] at h
      obtain ⟨w, a, b⟩ := r.sh j e h
      exact ⟨w, by rw [List.getElem?_set_ne z]; exact a, b⟩
  ow := fun j ds h => by
    by_cases z : i = j
    · subst z
      by_cases hi : i < ρ.length
      · rw [List.getElem?_set_self hi] at h; cases h
      · rw [List.getElem?_eq_none (by rw [List.length_set]; omega)] at h; cases h
    · rw [List.getElem?_set_ne z] at h
      obtain ⟨a, vs, h1, h2⟩ := r.ow j ds h
      exact ⟨a, vs, by rw [List.getElem?_set_ne z]; exact h1, h2⟩
  apart := fun j k ds ds' a h1 h2 h3 h4 => by
    by_cases z : i = j
    · subst z
      by_cases hi : i < ρ.length
      · rw [List.getElem?_set_self hi] at h1; cases h1
      · rw [List.getElem?_eq_none (by rw [List.length_set]; omega)] at h1; cases h1
    · by_cases y : i = k
      · subst y
        by_cases hi : i < ρ.length
        · rw [List.getElem?_set_self hi] at h2; cases h2
        · rw [List.getElem?_eq_none (by rw [List.length_set]; omega)] at h2; cases h2
      · rw [List.getElem?_set_ne z] at h1 h3
        rw [List.getElem?_set_ne y] at h2 h4
        exact r.apart j k ds ds' a h1 h2 h3 h4
end
noncomputable def XR (K : PySem.W.Frag) (al : Addr → Prop) (H : Hp) (dx : Option Addr) (ns : List Str) (ds : List D) : Prop :=
  match dx with
  | none => ns = [] ∧ ds = []
  | some d => al d ∧ ∃ vs, H d = some (.xd (ns.zip vs)) ∧ Reps K al H vs ds
theorem XR.mv {K : PySem.W.Frag} {al al' : Addr → Prop} {H H' : Hp} {dx : Option Addr} {ns : List Str} {ds : List D} (h : Xt al H al' H') (r : XR K al H dx ns ds) : XR K al' H' dx ns ds := by
  cases dx with
  | none => exact r
  | some d =>
    obtain ⟨a, vs, e, q⟩ := r
    exact ⟨(h _ _ nt_xd a e).1, vs, (h _ _ nt_xd a e).2, q.mv h⟩
noncomputable def Aft {α : Type} (K : PySem.W.Frag) (al : Addr → Prop) (E : XK) (H : Hp) (r : R α) (k : α → Hp → Prop) : Prop :=
  match r with
  | .ok a => ∀ H', Same K H H' → k a H'
  | .ex c ns ds => ∀ dx H', Same K H H' → XR K al H' dx ns ds → E (.ref c) dx H'
  | .bad => False
section
variable {α β : Type} {K : PySem.W.Frag} {al : Addr → Prop} {E : XK} {H H' : Hp} {r : R α} {k k' : α → Hp → Prop}
theorem Aft.up (a : Aft K al E H r k) (s : Same K H H') : Aft K al E H' r k := by
  cases r with
  | ok x => exact fun H1 s1 => a H1 (s.trans s1)
  | ex c ns ds => exact fun dx H1 s1 => a dx H1 (s.trans s1)
  | bad => exact a
theorem Aft.mono (a : Aft K al E H r k) (m : ∀ x H1, Same K H H1 → k x H1 → k' x H1) : Aft K al E H r k' := by
  cases r with
  | ok x => exact fun H1 s1 => m x H1 s1 (a H1 s1)
  | ex c ns ds => exact a
  | bad => exact a
theorem Aft.split {g : α → R β} {k : β → Hp → Prop} (a : Aft K al E H (r.bind g) k) : Aft K al E H r (fun x H1 => Aft K al E H1 (g x) k) := by
  cases r with
  | ok x => exact fun H1 s1 => Aft.up a s1
  | ex c ns ds => exact a
  | bad => exact a
end
noncomputable def DE (X : Cx) (E : XK) (e : Expr) (f : Ev → R D) : Prop := ∃ t : TE, PE X e t ∧
  ∀ P H0 al H σ ρ (Q : VK), RS X.K P H0 al H σ ρ → Aft X.K al E H (f ρ) (fun d H' => ∀ v, Rep X.K al H' v d → Q v H') → t σ H Q
noncomputable def DT (X : Cx) (E : XK) (e : Expr) (f : Ev → R Bool) : Prop := ∃ t : TT, PT X e t ∧
  ∀ P H0 al H σ ρ (Q : Bool → Hp → Prop), RS X.K P H0 al H σ ρ → Aft X.K al E H (f ρ) Q → t σ H Q
noncomputable def DW (X : Cx) (E : XK) (e : Expr) (f : Ev → R Bool) : Prop := ∃ t : TT, PW X e t ∧
  ∀ P H0 al H σ ρ (Q : Bool → Hp → Prop), RS X.K P H0 al H σ ρ → Aft X.K al E H (f ρ) Q → t σ H Q
noncomputable def DA (X : Cx) (E : XK) (es : List Expr) (f : Ev → R (List D)) : Prop := ∃ t : TA, PA X es t ∧
  (∀ P H0 al H σ ρ (Q : List V → Hp → Prop), RS X.K P H0 al H σ ρ → Aft X.K al E H (f ρ) (fun ds H' => ∀ vs, Reps X.K al H' vs ds → Q vs H') → t σ H Q) ∧ ∀ ρ ds, f ρ = .ok ds → ds.length = es.length
noncomputable def DN (X : Cx) (E : XK) (e : Expr) (f : Ev → R (List D)) : Prop := ∃ t : TE, PE X e t ∧
  ∀ P H0 al H σ ρ (Q : VK), RS X.K P H0 al H σ ρ → Aft X.K al E H (f ρ) (fun ds H' => ∀ p vs, H' p = none → Reps X.K al H' vs ds → Q (.ref p) (upd H' p (.lst vs))) → t σ H Q
noncomputable def OpD (X : Cx) (E : XK) (op : Value → Value → Sem Value) (g : D → D → R D) : Prop := ∃ r : R2, OpR X op r ∧
  ∀ al H x y dx dy (Q : VK), (∀ a, H a = none → al a) → Rep X.K al H x dx → Rep X.K al H y dy → Aft X.K al E H (g dx dy) (fun d H' => ∀ v, Rep X.K al H' v d → Q v H') → r x y H Q
noncomputable def IxD (X : Cx) (E : XK) (g : D → D → R D) : Prop := ∃ r : R2, IxR X r ∧
  ∀ al H x y dx dy (Q : VK), (∀ a, H a = none → al a) → Rep X.K al H x dx → Rep X.K al H y dy → Aft X.K al E H (g dx dy) (fun d H' => ∀ v, Rep X.K al H' v d → Q v H') → r x y H Q
noncomputable def CallD (X : Cx) (E : XK) (f : Value) (g : List D → R D) : Prop := ∃ r : List V → Hp → VK → Prop, CallR X f r ∧
  ∀ al H xs ds (Q : VK), (∀ a, H a = none → al a) → Reps X.K al H xs ds → Aft X.K al E H (g ds) (fun d H' => ∀ v, Rep X.K al H' v d → Q v H') → r xs H Q
noncomputable def dV (i : Nat) : Ev → R D := fun ρ => match ρ[i]? with
  | some (.sh d) => .ok d
  | _ => .bad
noncomputable def dC (d : D) : Ev → R D := fun _ => .ok d
noncomputable def d1 (g : D → R D) (a : Ev → R D) : Ev → R D := fun ρ => (a ρ).bind g
noncomputable def d2 (g : D → D → R D) (a b : Ev → R D) : Ev → R D := fun ρ => (a ρ).bind fun x => (b ρ).bind fun y => g x y
noncomputable def tB (d : D) : R Bool := match d with
  | .bl b => .ok b
  | _ => .bad
noncomputable def tT (d : D) : R Bool := match d with
  | .non => .ok false
  | .bl b => .ok b
  | .int i => .ok (i != 0)
  | .str y => if y.length ≤ sizeLine then .ok ((y.length : Int) != 0) else .bad
  | .lst ds => .ok (!ds.isEmpty)
  | .tup ds => .ok (!ds.isEmpty)
  | _ => .bad
noncomputable def b1 (t : D → R Bool) (a : Ev → R D) : Ev → R Bool := fun ρ => (a ρ).bind t
noncomputable def bAnd (a b : Ev → R Bool) : Ev → R Bool := fun ρ => (a ρ).bind fun c => if c = true then b ρ else .ok false
noncomputable def bOr (a b : Ev → R Bool) : Ev → R Bool := fun ρ => (a ρ).bind fun c => if c = true then .ok true else b ρ
noncomputable def bNot (a : Ev → R Bool) : Ev → R Bool := fun ρ => (a ρ).bind fun c => .ok (!c)
noncomputable def dAnd (a b : Ev → R D) : Ev → R D := fun ρ => ((a ρ).bind tB).bind fun c => if c = true then b ρ else .ok (.bl false)
noncomputable def dOr (a b : Ev → R D) : Ev → R D := fun ρ => ((a ρ).bind tB).bind fun c => if c = true then .ok (.bl true) else b ρ
noncomputable def dNot (a : Ev → R D) : Ev → R D := fun ρ => ((a ρ).bind tB).bind fun c => .ok (.bl (!c))
noncomputable def dIf (c : Ev → R Bool) (a b : Ev → R D) : Ev → R D := fun ρ => (c ρ).bind fun k => if k = true then a ρ else b ρ
noncomputable def aNil : Ev → R (List D) := fun _ => .ok []
noncomputable def aCons (a : Ev → R D) (r : Ev → R (List D)) : Ev → R (List D) := fun ρ => (a ρ).bind fun x => (r ρ).bind fun xs => .ok (x :: xs)
noncomputable def dA (g : List D → R D) (a : Ev → R (List D)) : Ev → R D := fun ρ => (a ρ).bind g
noncomputable def mkT (ds : List D) : R D := if ds.length ≤ sizeLine then .ok (.tup ds) else .bad
noncomputable def fitL (ds : List D) : R (List D) := if ds.length ≤ sizeLine then .ok ds else .bad
noncomputable def asN (g : Ev → R (List D)) : Ev → R D := fun ρ => (g ρ).bind fun ds => .ok (.lst ds)
section
variable {X : Cx} {E : XK} {e a b c : Expr} {f fa fb : Ev → R D} {pos : Pos}
theorem de_var (i : Nat) {x : Str} (hN : X.N[i]? = some x := by rfl) (hv : Vis X.env.scope x := by first | exact Or.inl rfl | exact Or.inr (Or.inl rfl) | exact Or.inr (Or.inr rfl)) (hd : (x == ("__debug__" : Str)) = false := by decide)
    (hcd : (x == ("__classdict__" : Str)) = false := by decide) : DE X E (.Name x pos) (dV i) := by
  refine ⟨_, pe_var hN hv hd hcd, fun P H0 al H σ ρ Q r h => ?_⟩
  unfold dV at h
  cases q : ρ[i]? with
  | none => rw [q] at h; exact h.elim
  | some s =>
    cases s with
    | sh d =>
      rw [q] at h
      obtain ⟨v, e1, e2⟩ := r.sh i d q
      exact ⟨v, e1, h H (.refl H) v e2⟩
    | no => rw [q] at h; exact h.elim
    | ow _ => rw [q] at h; exact h.elim
theorem de_int {i j} : DE X E (.Constant (.int i) j pos) (dC (.int i)) := ⟨_, pe_int, fun _ _ _ H _ _ _ _ h => h H (.refl H) _ (.int i)⟩
theorem de_bl {i j} : DE X E (.Constant (.bool i) j pos) (dC (.bl i)) := ⟨_, pe_bl, fun _ _ _ H _ _ _ _ h => h H (.refl H) _ (.bl i)⟩
theorem de_non {j} : DE X E (.Constant .none j pos) (dC .non) := ⟨_, pe_non, fun _ _ _ H _ _ _ _ h => h H (.refl H) _ .non⟩
theorem de_str {i j} : DE X E (.Constant (.str i) j pos) (dC (.str i)) := ⟨_, pe_str, fun _ _ _ H _ _ _ _ h => h H (.refl H) _ (.str i)⟩
theorem de_ty {x : Str} {n : String} (hg : Gl X x) (hm : X.mg x = none) (hv : bootBuiltins x = some (.type n)) (hn : x ≠ "__name__" := by decide) (hd : (x == ("__debug__" : Str)) = false := by decide) : DE X E (.Name x pos) (dC (.ty n)) :=
  ⟨_, pe_bltn (v := .ty n) hg hm hv rfl hn hd, fun _ _ al H _ _ _ _ h => h H (.refl H) _ (.ty n)⟩
theorem de_op {op : Operator} {g : D → D → R D} (ho : OpD X E (binaryOp op) g) (ha : DE X E a fa) (hb : DE X E b fb) : DE X E (.BinOp a op b pos) (d2 g fa fb) := by
  obtain ⟨r, ro, rr⟩ := ho
  obtain ⟨ta, pa, ra⟩ := ha
  obtain ⟨tb, pb, rb⟩ := hb
  refine ⟨_, pe_op ro pa pb, fun P H0 al H σ ρ Q s h => ra _ _ _ _ _ _ _ s (Aft.mono (Aft.split h) fun x H1 s1 h1 v rv => rb _ _ _ _ _ _ _ (s.grow s1) (Aft.mono (Aft.split h1) fun y H2 s2 h2 u ru => ?_))⟩
  exact rr _ _ _ _ _ _ _ ((s.grow s1).grow s2).fresh (rv.up s2) ru h2
theorem de_cmp {op : CmpOp} {g : D → D → R D} (ho : OpD X E (compareOp op) g) (ha : DE X E a fa) (hb : DE X E b fb) (hm : behindInMarks op b = false := by first | exact nomark _ | with_unfolding_all rfl) : DE X E (.Compare a [op] [b] pos) (d2 g fa fb) := by
  obtain ⟨r, ro, rr⟩ := ho
  obtain ⟨ta, pa, ra⟩ := ha
  obtain ⟨tb, pb, rb⟩ := hb
  refine ⟨_, pe_cmpR ro pa pb hm, fun P H0 al H σ ρ Q s h => ra _ _ _ _ _ _ _ s (Aft.mono (Aft.split h) fun x H1 s1 h1 v rv => rb _ _ _ _ _ _ _ (s.grow s1) (Aft.mono (Aft.split h1) fun y H2 s2 h2 u ru => ?_))⟩
  exact rr _ _ _ _ _ _ _ ((s.grow s1).grow s2).fresh (rv.up s2) ru h2
theorem rep_tB {K : PySem.W.Frag} {al : Addr → Prop} {H : Hp} {E : XK} {v : V} {d : D} {k : Bool → Hp → Prop} (r : Rep K al H v d) (h : Aft K al E H (tB d) k) : ∃ c, v = .bl c ∧ k c H := by
  cases r with
  | bl b => exact ⟨b, rfl, h H (.refl H)⟩
  | _ => exact (h : False).elim
theorem dt_cmp {op : CmpOp} {g : D → D → R D} (ho : OpD X E (compareOp op) g) (ha : DE X E a fa) (hb : DE X E b fb) (hm : behindInMarks op b = false := by first | exact nomark _ | with_unfolding_all rfl) : DT X E (.Compare a [op] [b] pos) (b1 tB (d2 g fa fb)) := by
  obtain ⟨r, ro, rr⟩ := ho
  obtain ⟨ta, pa, ra⟩ := ha
  obtain ⟨tb, pb, rb⟩ := hb
  refine ⟨_, pt_cmpR ro pa pb hm, fun P H0 al H σ ρ Q s h => ra _ _ _ _ _ _ _ s (Aft.mono (Aft.split (Aft.split h)) fun x H1 s1 h1 v rv => ?_)⟩
  refine rb _ _ _ _ _ _ _ (s.grow s1) (Aft.mono (Aft.split (g := fun y => g x y) (k := fun d H2 => Aft X.K al E H2 (tB d) Q) ?_) fun y H2 s2 h2 u ru => ?_)
  · exact h1
  · exact rr _ _ _ _ _ _ _ ((s.grow s1).grow s2).fresh (rv.up s2) ru (Aft.mono h2 fun d H3 s3 h3 w rw' => rep_tB rw' h3)
theorem rep_tT {K : PySem.W.Frag} {al : Addr → Prop} {H : Hp} {E : XK} {v : V} {d : D} {k : Bool → Hp → Prop} (r : Rep K al H v d) (h : Aft K al E H (tT d) k) : ∃ c, TruV K v H c ∧ k c H := by
  cases r with
  | non => exact ⟨_, rfl, h H (.refl H)⟩
  | bl b => exact ⟨_, rfl, h H (.refl H)⟩
  | int b => exact ⟨_, rfl, h H (.refl H)⟩
  | str b =>
    unfold tT at h
    by_cases z : b.length ≤ sizeLine
    · simp only [z, if_true] at h
      exact ⟨_, ⟨z, rfl⟩, h H (.refl H)⟩
    · simp only [z, if_false] at h
      exact h.elim
  | tup p q =>
    refine ⟨_, .inr (.inl ⟨_, p.elim (fun z => .inl z.2) .inr, ?_⟩), h H (.refl H)⟩
    cases q <;> rfl
  | lst p q =>
    refine ⟨_, .inl ⟨_, p.elim (fun z => .inl z.2) KL.sq, ?_⟩, h H (.refl H)⟩
    cases q <;> rfl
  | _ => exact (h : False).elim
theorem dt_truth (ha : DE X E e fa) (he : ∀ whole, isTrue e X.env whole = (do let v ← whole; standAt e.pos; holding [v] (truthy v)) := by intro _; rfl) : DT X E e (b1 tT fa) := by
  obtain ⟨ta, pa, ra⟩ := ha
  exact ⟨_, pt_truth pa he, fun P H0 al H σ ρ Q s h => ra _ _ _ _ _ _ _ s (Aft.mono (Aft.split h) fun x H1 s1 h1 v rv => rep_tT rv h1)⟩
variable {ga gb : Ev → R Bool} {rest : List Expr}
theorem DW.dt (h : DW X E e ga) : DT X E e ga := let ⟨t, p, r⟩ := h; ⟨t, p.pt, r⟩
theorem dw_and1 (h : DT X E a ga) : DW X E (.BoolOp .And [a] pos) ga := let ⟨t, p, r⟩ := h; ⟨t, pw_and1 p, r⟩
theorem dw_or1 (h : DT X E a ga) : DW X E (.BoolOp .Or [a] pos) ga := let ⟨t, p, r⟩ := h; ⟨t, pw_or1 p, r⟩
theorem dw_and (ha : DT X E a ga) (hb : DW X E (.BoolOp .And (b :: rest) pos) gb) : DW X E (.BoolOp .And (a :: b :: rest) pos) (bAnd ga gb) := by
  obtain ⟨ta, pa, ra⟩ := ha
  obtain ⟨tb, pb, rb⟩ := hb
  refine ⟨_, pw_and pa pb, fun P H0 al H σ ρ Q s h => ra _ _ _ _ _ _ _ s (Aft.mono (Aft.split h) fun c H1 s1 h1 => ?_)⟩
  cases c with
  | true => exact iteT (rb _ _ _ _ _ _ _ (s.grow s1) h1)
  | false => exact iteF (h1 H1 (.refl H1))
theorem dw_or (ha : DT X E a ga) (hb : DW X E (.BoolOp .Or (b :: rest) pos) gb) : DW X E (.BoolOp .Or (a :: b :: rest) pos) (bOr ga gb) := by
  obtain ⟨ta, pa, ra⟩ := ha
  obtain ⟨tb, pb, rb⟩ := hb
  refine ⟨_, pw_or pa pb, fun P H0 al H σ ρ Q s h => ra _ _ _ _ _ _ _ s (Aft.mono (Aft.split h) fun c H1 s1 h1 => ?_)⟩
  cases c with
  | true => exact iteT (h1 H1 (.refl H1))
  | false => exact iteF (rb _ _ _ _ _ _ _ (s.grow s1) h1)
theorem de_one {op : BoolOp} (h : DE X E a fa) : DE X E (.BoolOp op [a] pos) fa := let ⟨t, p, r⟩ := h; ⟨t, pe_one p, r⟩
theorem de_and (ha : DE X E a fa) (hb : DE X E (.BoolOp .And (b :: rest) pos) fb) : DE X E (.BoolOp .And (a :: b :: rest) pos) (dAnd fa fb) := by
  obtain ⟨ta, pa, ra⟩ := ha
  obtain ⟨tb, pb, rb⟩ := hb
  refine ⟨_, pe_and pa pb, fun P H0 al H σ ρ Q s h => ra _ _ _ _ _ _ _ s (Aft.mono (Aft.split (Aft.split h)) fun x H1 s1 h1 v rv => ?_)⟩
  obtain ⟨c, e, h2⟩ := rep_tB rv h1
  refine ⟨c, e, ?_⟩
  cases c with
  | true => exact iteT (rb _ _ _ _ _ _ _ (s.grow s1) h2)
  | false => exact iteF (h2 H1 (.refl H1) _ (.bl false))
theorem de_not (ha : DE X E a fa) : DE X E (.UnaryOp .Not a pos) (dNot fa) := by
  obtain ⟨ta, pa, ra⟩ := ha
  refine ⟨_, pe_not pa, fun P H0 al H σ ρ Q s h => ra _ _ _ _ _ _ _ s (Aft.mono (Aft.split (Aft.split h)) fun x H1 s1 h1 v rv => ?_)⟩
  obtain ⟨c, e, h2⟩ := rep_tB rv h1
  exact ⟨c, e, h2 H1 (.refl H1) _ (.bl _)⟩
variable {es : List Expr} {fs : Ev → R (List D)}
theorem da_nil : DA X E [] aNil := ⟨_, pa_nil, fun _ _ _ H _ _ _ _ h => h H (.refl H) _ .nil, fun _ _ h => by cases h; rfl⟩
theorem da_cons (ha : DE X E e fa) (hr : DA X E es fs) (hs : starEach (e :: es) X.env = (false, eval e X.env) :: starEach es X.env := by rfl) : DA X E (e :: es) (aCons fa fs) := by
  obtain ⟨ta, pa, ra⟩ := ha
  obtain ⟨tb, pb, rb, lb⟩ := hr
  refine ⟨_, pa_cons pa pb hs, fun P H0 al H σ ρ Q s h => ra _ _ _ _ _ _ _ s (Aft.mono (Aft.split h) fun x H1 s1 h1 v rv => rb _ _ _ _ _ _ _ (s.grow s1) (Aft.mono (Aft.split h1) fun y H2 s2 h2 u ru => ?_)), fun ρ ds h => ?_⟩
  · exact h2 H2 (.refl H2) _ (.cons (rv.up s2) ru)
  · obtain ⟨x, _, h1⟩ := bind_ok h
    obtain ⟨y, h2, h3⟩ := bind_ok h1
    cases h3
    rw [List.length_cons, List.length_cons, lb ρ y h2]
theorem de_tup {x1} (ha : DA X E es fs) : DE X E (.Tuple es x1 pos) (dA mkT fs) := by
  obtain ⟨ta, pa, ra, _⟩ := ha
  refine ⟨_, pe_tup pa, fun P H0 al H σ ρ Q s h => ra _ _ _ _ _ _ _ s (Aft.mono (Aft.split h) fun x H1 s1 h1 v rv => ?_)⟩
  unfold mkT at h1
  by_cases z : x.length ≤ sizeLine
  · rw [if_pos z] at h1
    exact ⟨by rw [rv.length]; exact z, fun p hp => h1 _ (same_upd hp) _ (rv.tupNew hp ((s.grow s1).fresh p hp))⟩
  · rw [if_neg z] at h1
    exact h1.elim
theorem dn_lst (ha : DA X E es fs) : DN X E (.List es pos) (fun ρ => (fs ρ).bind fitL) := by
  obtain ⟨ta, pa, ra, _⟩ := ha
  refine ⟨_, pe_lst pa, fun P H0 al H σ ρ Q s h => ra _ _ _ _ _ _ _ s (Aft.mono (Aft.split h) fun x H1 s1 h1 v rv => ?_)⟩
  unfold fitL at h1
  by_cases z : x.length ≤ sizeLine
  · rw [if_pos z] at h1
    exact ⟨by rw [rv.length]; exact z, fun p hp => h1 H1 (.refl H1) p v hp rv⟩
  · rw [if_neg z] at h1
    exact h1.elim
theorem DN.de {g : Ev → R (List D)} (h : DN X E e g) : DE X E e (asN g) := by
  obtain ⟨t, p, r⟩ := h
  exact ⟨t, p, fun P H0 al H σ ρ Q s h => r _ _ _ _ _ _ _ s (Aft.mono (Aft.split h) fun x H1 s1 h1 p vs hp rv => h1 _ (same_upd hp) _ (rv.lstNew hp ((s.grow s1).fresh p hp)))⟩
theorem de_ix {g : D → D → R D} (ho : IxD X E g) (ha : DE X E a fa) (hb : DE X E b fb) (hs : PlainIx b := by exact fun _ _ => rfl) : DE X E (.Subscript a b pos) (d2 g fa fb) := by
  obtain ⟨r, ro, rr⟩ := ho
  obtain ⟨ta, pa, ra⟩ := ha
  obtain ⟨tb, pb, rb⟩ := hb
  refine ⟨_, pe_ix ro pa pb hs, fun P H0 al H σ ρ Q s h => ra _ _ _ _ _ _ _ s (Aft.mono (Aft.split h) fun x H1 s1 h1 v rv => rb _ _ _ _ _ _ _ (s.grow s1) (Aft.mono (Aft.split h1) fun y H2 s2 h2 u ru => ?_))⟩
  exact rr _ _ _ _ _ _ _ ((s.grow s1).grow s2).fresh (rv.up s2) ru h2
variable {x : Str} {p : Pos}
theorem de_callB {id : String} {g : List D → R D} (hc : CallD X E (.builtin id) g) (hg : Gl X x) (hm : X.mg x = none) (hv : bootBuiltins x = some (.builtin id)) (ha : DA X E (e :: es) fs) (hn : x ≠ "__name__" := by decide) (hdb : (x == ("__debug__" : Str)) = false := by decide)
    (he : starEach (e :: es) X.env = (false, eval e X.env) :: starEach es X.env := by rfl) (hpl : (backTo pos (starEach es X.env)).any (·.1) = false := by rfl) : DE X E (.Call (.Name x p) (e :: es) [] pos) (dA g fs) := by
  obtain ⟨r, rc, rr⟩ := hc
  obtain ⟨ta, pa, ra, _⟩ := ha
  exact ⟨_, pe_callB rc hg hm hv pa hn hdb he hpl, fun P H0 al H σ ρ Q s h => ra _ _ _ _ _ _ _ s (Aft.mono (Aft.split h) fun x H1 s1 h1 v rv => rr _ _ _ _ _ (s.grow s1).fresh rv h1)⟩
theorem de_callTy {T : String} {g : List D → R D} (hc : CallD X E (.type T) g) (hg : Gl X x) (hm : X.mg x = none) (hv : bootBuiltins x = some (.type T)) (ha : DA X E (e :: es) fs) (hn : x ≠ "__name__" := by decide) (hdb : (x == ("__debug__" : Str)) = false := by decide)
    (he : starEach (e :: es) X.env = (false, eval e X.env) :: starEach es X.env := by rfl) (hpl : (backTo pos (starEach es X.env)).any (·.1) = false := by rfl) : DE X E (.Call (.Name x p) (e :: es) [] pos) (dA g fs) := by
  obtain ⟨r, rc, rr⟩ := hc
  obtain ⟨ta, pa, ra, _⟩ := ha
  exact ⟨_, pe_callTy rc hg hm hv pa hn hdb he hpl, fun P H0 al H σ ρ Q s h => ra _ _ _ _ _ _ _ s (Aft.mono (Aft.split h) fun x H1 s1 h1 v rv => rr _ _ _ _ _ (s.grow s1).fresh rv h1)⟩
end
noncomputable def spD (n : Nat) (K : PySem.W.Frag) (F : List D → R D) : Sp := fun vs H Q E => vs.length = n ∧ TbOk K H ∧ ∃ al ds, (∀ a, H a = none → al a) ∧ Reps K al H vs ds ∧ Aft K al E H (F ds) (fun d H' => ∀ v, Rep K al H' v d → Q v H')
section
variable {X : Cx} {E : XK} {e : Expr} {es : List Expr} {fs : Ev → R (List D)} {x : Str} {p pos : Pos} {k n : Nat} {ps : List Str} {F : List D → R D}
theorem de_call (G : Has X.prog X.w X.K X.mg X.base (CXx X.prog X.w) k x ps (spD n X.K F)) (hr : Room k X.A) (hg : Gl X x) (hx : Passes (CXx X.prog X.w) X E) (hn : (e :: es).length = n) (ha : DA X E (e :: es) fs) (hdb : (x == ("__debug__" : Str)) = false := by decide)
    (he : starEach (e :: es) X.env = (false, eval e X.env) :: starEach es X.env := by rfl) (hpl : (backTo pos (starEach es X.env)).any (·.1) = false := by rfl) : DE X E (.Call (.Name x p) (e :: es) [] pos) (dA F fs) := by
  obtain ⟨ta, pa, ra, lb⟩ := ha
  refine ⟨_, pe_has G hr hg hx pa hdb he hpl, fun P H0 al H σ ρ Q s h => ra _ _ _ _ _ _ _ s ?_⟩
  unfold dA at h
  cases q : fs ρ with
  | ok ds =>
    rw [q] at h
    intro H1 s1 vs rv
    rw [List.append_nil]
    exact ⟨by rw [rv.length, lb ρ ds q]; exact hn, (s.grow s1).tt, al, ds, (s.grow s1).fresh, rv, Aft.up h s1⟩
  | ex c ns ds => rw [q] at h; exact h
  | bad => rw [q] at h; exact h.elim
end
inductive RT where
  | nx (ρ : Ev) | rt (d : D) | bk (ρ : Ev) | ct (ρ : Ev) | ex (c : Addr) (ns : List Str) (ds : List D) | bad
noncomputable def toS {α : Type} (r : R α) (k : α → RT) : RT := match r with
  | .ok a => k a
  | .ex c ns ds => .ex c ns ds
  | .bad => .bad
noncomputable def seqT (r : RT) (k : Ev → RT) : RT := match r with
  | .nx ρ => k ρ
  | r => r
noncomputable def okS (K : PySem.W.Frag) (P : Addr → Prop) (H0 : Hp) (E : XK) (D : Ends) (al : Addr → Prop) (H : Hp) : RT → Prop
  | .nx ρ => ∀ al' H' σ', Xt al H al' H' → RS K P H0 al' H' σ' ρ → D.nx σ' H'
  | .bk ρ => ∀ al' H' σ', Xt al H al' H' → RS K P H0 al' H' σ' ρ → D.bk σ' H'
  | .ct ρ => ∀ al' H' σ', Xt al H al' H' → RS K P H0 al' H' σ' ρ → D.ct σ' H'
  | .rt d => ∀ v H', Same K H0 H' → Rep K P H' v d → D.rt v H'
  | .ex c ns ds => ∀ dx H', Same K H0 H' → XR K P H' dx ns ds → E (.ref c) dx H'
  | .bad => False
section
variable {K : PySem.W.Frag} {P al al' : Addr → Prop} {H0 H H' : Hp} {E : XK} {D : Ends} {s : RT} {σ : St} {ρ : Ev}
theorem okS.ext (h : okS K P H0 E D al H s) (x : Xt al H al' H') : okS K P H0 E D al' H' s := by
  cases s with
  | nx ρ => exact fun a h1 σ1 y r => h a h1 σ1 (x.trans y) r
  | bk ρ => exact fun a h1 σ1 y r => h a h1 σ1 (x.trans y) r
  | ct ρ => exact fun a h1 σ1 y r => h a h1 σ1 (x.trans y) r
  | rt d => exact h
  | ex c ns ds => exact h
  | bad => exact h
theorem okS.ofR {α : Type} {r : R α} {k : α → RT} (h : okS K P H0 E D al H (toS r k)) (s : RS K P H0 al H σ ρ) : Aft K al E H r (fun x H1 => okS K P H0 E D al H1 (k x)) := by
  cases r with
  | ok x => exact fun H1 s1 => okS.ext h (.of s1)
  | ex c ns ds => exact fun dx H1 s1 q => h dx H1 (s.same.trans s1) (q.mv (.sub s.sub))
  | bad => exact h
end
noncomputable def DS (X : Cx) (E : XK) (st : Stmt) (g : Ev → RT) : Prop := ∃ t : TS, PS X st t ∧
  ∀ P H0 al H σ ρ (D : Ends), RS X.K P H0 al H σ ρ → okS X.K P H0 E D al H (g ρ) → t D σ H
noncomputable def DSs (X : Cx) (E : XK) (st : List Stmt) (g : Ev → RT) : Prop := ∃ t : TS, PSs X st t ∧
  ∀ P H0 al H σ ρ (D : Ends), RS X.K P H0 al H σ ρ → okS X.K P H0 E D al H (g ρ) → t D σ H
noncomputable def sNil : Ev → RT := .nx
noncomputable def sSeq (a b : Ev → RT) : Ev → RT := fun ρ => seqT (a ρ) b
noncomputable def sExpr (f : Ev → R D) : Ev → RT := fun ρ => toS (f ρ) fun _ => .nx ρ
noncomputable def sRet (f : Ev → R D) : Ev → RT := fun ρ => toS (f ρ) .rt
noncomputable def sSet (i : Nat) (f : Ev → R D) : Ev → RT := fun ρ => toS (f ρ) fun d => if i < ρ.length then .nx (ρ.set i (.sh d)) else .bad
noncomputable def sIf (c : Ev → R Bool) (a b : Ev → RT) : Ev → RT := fun ρ => toS (c ρ) fun k => if k = true then a ρ else b ρ
section
variable {X : Cx} {E : XK} {st : Stmt} {rest sa sb : List Stmt} {g u ga gb : Ev → RT} {e c : Expr} {f : Ev → R D} {fc : Ev → R Bool} {pos : Pos}
theorem dss_nil : DSs X E [] sNil := ⟨_, pss_nil, fun _ _ al H σ ρ _ s h => h al H σ .refl s⟩
theorem dss_one (h : DS X E st g) : DSs X E [st] g := let ⟨t, p, r⟩ := h; ⟨t, pss_one p, r⟩
theorem dss_cons (h1 : DS X E st g) (h2 : DSs X E rest u) : DSs X E (st :: rest) (sSeq g u) := by
  obtain ⟨t1, p1, r1⟩ := h1
  obtain ⟨t2, p2, r2⟩ := h2
  refine ⟨_, pss_cons p1 p2, fun P H0 al H σ ρ D s h => r1 P H0 al H σ ρ _ s ?_⟩
  unfold sSeq at h
  cases q : g ρ with
  | nx ρ1 =>
    rw [q] at h
    exact fun al' H' σ' x s' => r2 P H0 al' H' σ' ρ1 D s' (okS.ext h x)
  | bk ρ1 => rw [q] at h; exact h
  | ct ρ1 => rw [q] at h; exact h
  | rt d => rw [q] at h; exact h
  | ex c ns ds => rw [q] at h; exact h
  | bad => rw [q] at h; exact h
theorem ds_ret (he : DE X E e f) : DS X E (.Return (some e) pos) (sRet f) := by
  obtain ⟨t, p, r⟩ := he
  exact ⟨_, ps_ret p, fun P H0 al H σ ρ D s h => r _ _ _ _ _ _ _ s (Aft.mono (okS.ofR h s) fun d H1 s1 h1 v rv => h1 v H1 (s.same.trans s1) (rv.mv (.sub s.sub)))⟩
theorem ds_set (i : Nat) {x : Str} {pos' : Pos} (hN : X.N.Nodup) (hi : X.N[i]? = some x) (hx : Loc X.env.scope x) (he : DE X E e f) (hs : swapsWith e (some (.Name x pos')) pos.line X.env = pure false := by rfl) (hf : X.fn x = true ∨ X.env.scope.names.lookup x = some .local := by first | exact .inl rfl | exact .inr rfl | assumption) :
    DS X E (.Assign [.Name x pos'] e pos) (sSet i f) := by
  obtain ⟨t, p, r⟩ := he
  refine ⟨_, ps_set hN hi hx p hs hf, fun P H0 al H σ ρ D s h => r _ _ _ _ _ _ _ s (Aft.mono (okS.ofR h s) fun d H1 s1 h1 v rv => ?_)⟩
  by_cases z : i < ρ.length
  · simp only [z, if_true] at h1
    exact h1 al H1 _ .refl ((s.grow s1).set z rv)
  · simp only [z, if_false] at h1
    exact h1.elim
theorem ds_if (hc : DT X E c fc) (ha : DSs X E sa ga) (hb : DSs X E sb gb) : DS X E (.If c sa sb pos) (sIf fc ga gb) := by
  obtain ⟨tc, pc, rc⟩ := hc
  obtain ⟨ta, pa, ra⟩ := ha
  obtain ⟨tb, pb, rb⟩ := hb
  refine ⟨_, ps_if pc pa pb, fun P H0 al H σ ρ D s h => rc _ _ _ _ _ _ _ s (Aft.mono (okS.ofR h s) fun k H1 s1 h1 => ?_)⟩
  cases k with
  | true => exact iteT (ra _ _ _ _ _ _ _ (s.grow s1) h1)
  | false => exact iteF (rb _ _ _ _ _ _ _ (s.grow s1) h1)
noncomputable def turnT (r : RT) (k : Ev → RT) : RT := match r with
  | .nx ρ => k ρ
  | .ct ρ => k ρ
  | .bk ρ => .nx ρ
  | r => r
noncomputable def whileD (c : Ev → R Bool) (b : Ev → RT) : Nat → Ev → RT
  | 0, _ => .bad
  | n + 1, ρ => toS (c ρ) fun k => if k = true then turnT (b ρ) (whileD c b n) else .nx ρ
theorem turn_ok {K : PySem.W.Frag} {P al : Addr → Prop} {H0 H : Hp} {D : Ends} {r : RT} {k : Ev → RT} {N : St → Hp → Prop} (h : okS K P H0 E D al H (turnT r k))
    (hN : ∀ al' H' σ' ρ', Xt al H al' H' → RS K P H0 al' H' σ' ρ' → okS K P H0 E D al' H' (k ρ') → N σ' H') : okS K P H0 E { D with nx := N, ct := N, bk := D.nx } al H r := by
  cases r with
  | nx ρ => exact fun al' H' σ' x s => hN al' H' σ' ρ x s (okS.ext h x)
  | ct ρ => exact fun al' H' σ' x s => hN al' H' σ' ρ x s (okS.ext h x)
  | bk ρ => exact h
  | rt d => exact h
  | ex c ns ds => exact h
  | bad => exact h
theorem ds_while (n : Nat) (hp : PassesOwn (model X.prog X.w) X.A X.env X.xe) (hc : DT X E c fc) (hb : DSs X E sb gb) : DS X E (.While c sb [] pos) (whileD fc gb n) := by
  obtain ⟨tc, pc, rc⟩ := hc
  obtain ⟨tb, pb, rb⟩ := hb
  refine ⟨_, ps_while hp pc pb, fun P H0 al H σ ρ D s h => ⟨fun m σ1 H1 => ∃ al1 ρ1, RS X.K P H0 al1 H1 σ1 ρ1 ∧ okS X.K P H0 E D al1 H1 (whileD fc gb m ρ1), ⟨n, al, ρ, s, h⟩, ?_⟩⟩
  rintro m σ1 H1 ⟨al1, ρ1, s1, h1⟩
  cases m with
  | zero => exact h1.elim
  | succ m =>
    refine rc _ _ _ _ _ _ _ s1 (Aft.mono (okS.ofR h1 s1) fun k H2 s2 h2 => ?_)
    cases k with
    | true =>
      refine iteT ⟨fun σ' H' => ∃ al1 ρ1, RS X.K P H0 al1 H' σ' ρ1 ∧ okS X.K P H0 E D al1 H' (whileD fc gb m ρ1), fun σ' H' z => ⟨m, Nat.lt_succ_self m, z⟩, rb _ _ _ _ _ _ _ (s1.grow s2) (turn_ok (k := whileD fc gb m) h2 fun al' H' σ' ρ' _ s' h' => ⟨al', ρ', s', h'⟩)⟩
    | false => exact iteF (h2 al1 H2 σ1 .refl (s1.grow s2))
end
noncomputable def Wk (K : PySem.W.Frag) (al : Addr → Prop) (H : Hp) (J : It) (ds : List D) : Prop := ∀ al' H', Xt al H al' H' → (∀ a, H' a = none → al' a) →
  (∀ i d, ds[i]? = some d → J.go i H' ∧ ∀ x H'', J.yld i H' x H'' → H'' = H' ∧ Rep K al' H' x d) ∧ ∀ i, ds.length ≤ i → J.stop i H'
noncomputable def DI (X : Cx) (E : XK) (tg iter : Expr) (f : Ev → R (List D)) : Prop := ∃ wi : TI, PI X tg iter wi ∧
  ∀ P H0 al H σ ρ (R : It → Hp → Prop), RS X.K P H0 al H σ ρ → Aft X.K al E H (f ρ) (fun ds H' => ∀ J, Wk X.K al H' J ds → R J H') → wi σ H R
noncomputable def Kp (l : List Nat) (σ σ' : St) : Prop := σ'.length = σ.length ∧ ∀ j, j ∉ l → σ'[j]? = σ[j]?
noncomputable def DG (X : Cx) (tg : Expr) (l : List Nat) (a : D → Ev → Option Ev) : Prop := ∃ g : TG, PG X tg g ∧
  ∀ P H0 al H σ ρ v d (Q : St → Hp → Prop), RS X.K P H0 al H σ ρ → Rep X.K al H v d → (∃ ρ', a d ρ = some ρ' ∧ ∀ σ', Kp l σ σ' → RS X.K P H0 al H σ' ρ' → Q σ' H) → g v σ H Q
noncomputable def gV (i : Nat) : D → Ev → Option Ev := fun d ρ => if i < ρ.length then some (ρ.set i (.sh d)) else none
noncomputable def toO {α : Type} (r : Option α) (k : α → RT) : RT := match r with
  | some a => k a
  | none => .bad
noncomputable def forD (a : D → Ev → Option Ev) (b : Ev → RT) : List D → Ev → RT
  | [], ρ => .nx ρ
  | d :: r, ρ => toO (a d ρ) fun ρ1 => turnT (b ρ1) (forD a b r)
section
variable {X : Cx} {E : XK} {tg iter : Expr} {body : List Stmt} {fi : Ev → R (List D)} {a : D → Ev → Option Ev} {gb : Ev → RT} {pos : Pos}
noncomputable def sFor (fi : Ev → R (List D)) (a : D → Ev → Option Ev) (gb : Ev → RT) : Ev → RT := fun ρ => toS (fi ρ) fun ds => forD a gb ds ρ
theorem dg_name (i : Nat) {x : Str} (hN : X.N.Nodup) (hi : X.N[i]? = some x) (hx : Loc X.env.scope x) (hf : X.fn x = true ∨ X.env.scope.names.lookup x = some .local := by first | exact .inl rfl | exact .inr rfl | assumption) : DG X (.Name x pos) [i] (gV i) := by
  refine ⟨_, pg_name hN hi hx hf, fun P H0 al H σ ρ v d Q s rv h => ?_⟩
  obtain ⟨ρ', e, q⟩ := h
  unfold gV at e
  by_cases z : i < ρ.length
  · rw [if_pos z] at e; cases e
    exact q _ ⟨List.length_set .., fun j hj => List.getElem?_set_ne (fun w => hj (by simp [w]))⟩ (s.set z rv)
  · rw [if_neg z] at e; cases e
theorem ds_for {l : List Nat} (hp : PassesOwn (model X.prog X.w) X.A X.env X.xe) (hc : X.calm = true) (hi : DI X E tg iter fi) (hg : DG X tg l a) (hb : DSs X E body gb) (hs : ∀ x, foldedSetIterable iter X.env x = pure x := by intro _; rfl) :
    DS X E (.For tg iter body [] pos) (sFor fi a gb) := by
  obtain ⟨wi, pi, ri⟩ := hi
  obtain ⟨g, pg, rg⟩ := hg
  obtain ⟨tb, pb, rb⟩ := hb
  refine ⟨_, ps_for hp hc pi pg pb hs, fun P H0 al H σ ρ D s h => ri _ _ _ _ _ _ _ s (Aft.mono (okS.ofR h s) fun ds H1 s1 h1 J wk => ?_)⟩
  refine ⟨fun i m σ2 H2 => ∃ al2 ρ2, RS X.K P H0 al2 H2 σ2 ρ2 ∧ Wk X.K al2 H2 J ds ∧ okS X.K P H0 E D al2 H2 (forD a gb (ds.drop i) ρ2) ∧ m = ds.length - i, ⟨_, al, ρ, s.grow s1, wk, h1, rfl⟩, ?_⟩
  rintro i m σ2 H2 ⟨al2, ρ2, s2, wk2, h2, rfl⟩
  obtain ⟨w1, w2⟩ := wk2 al2 H2 .refl s2.fresh
  by_cases hi : i < ds.length
  · right
    have ed : ds[i]? = some ds[i] := List.getElem?_eq_getElem hi
    obtain ⟨go, yl⟩ := w1 i _ ed
    rw [List.drop_eq_getElem_cons hi] at h2
    refine ⟨go, fun σ' H' => ∃ al2 ρ2, RS X.K P H0 al2 H' σ' ρ2 ∧ Wk X.K al2 H' J ds ∧ okS X.K P H0 E D al2 H' (forD a gb (ds.drop (i + 1)) ρ2), fun σ' H' ⟨al3, ρ3, z1, z2, z3⟩ => ⟨ds.length - (i + 1), by omega, al3, ρ3, z1, z2, z3, rfl⟩, fun x H3 y => ?_⟩
    obtain ⟨rfl, rx⟩ := yl x H3 y
    unfold forD at h2
    cases q : a ds[i] ρ2 with
    | some ρ3 =>
      rw [q] at h2
      refine rg _ _ _ _ _ _ _ _ _ s2 rx ⟨ρ3, q, fun σ3 _ s3 => rb _ _ _ _ _ _ _ s3 (turn_ok (k := forD a gb (ds.drop (i + 1))) h2 fun al' H' σ' ρ' x' s' h' => ⟨al', ρ', s', fun al4 H4 x4 => wk2 al4 H4 (x'.trans x4), h'⟩)⟩
    | none => rw [q] at h2; exact h2.elim
  · left
    have e : ds.drop i = [] := List.drop_eq_nil_of_le (by omega)
    rw [e] at h2
    exact ⟨w2 i (by omega), h2 al2 H2 σ2 .refl s2⟩
end
end P2
namespace P2
open PySem L2
noncomputable def startD (n : Nat) (ds : List D) : Ev := ds.map .sh ++ List.replicate (n - ds.length) .no
noncomputable def finT : RT → R D
  | .rt d => .ok d
  | .nx _ => .ok .non
  | .ex c ns ds => .ex c ns ds
  | _ => .bad
theorem rs_start {K : PySem.W.Frag} {al : Addr → Prop} {H : Hp} {vs : List V} {ds : List D} {N : List Str} (tt : TbOk K H) (fr : ∀ a, H a = none → al a) (r : Reps K al H vs ds) : RS K al H al H (L2.start N vs) (startD N.length ds) where
  same := .refl H
  tt := tt
  fresh := fr
  sub := fun _ h => h
  pf := fr
  len := by unfold L2.start startD; simp [r.length]
  sh := fun i d h => by
    unfold startD at h
    by_cases hi : i < ds.length
    · rw [List.getElem?_append_left (by simpa using hi), List.getElem?_map] at h
      cases q : ds[i]? with
      | none => rw [q] at h; cases h
      | some y =>
        rw [q] at h; cases h
        obtain ⟨v, e1, e2⟩ := r.getD q
        refine ⟨v, ?_, e2⟩
        unfold L2.start
        rw [List.getElem?_append_left (by simpa [r.length] using hi), List.getElem?_map, e1]; rfl
    · rw [List.getElem?_append_right (by simpa using hi), List.getElem?_replicate] at h
      split at h <;> cases h
  ow := fun i d h => by
    unfold startD at h
    by_cases hi : i < ds.length
    · rw [List.getElem?_append_left (by simpa using hi), List.getElem?_map] at h
      cases q : ds[i]? with
      | none => rw [q] at h; cases h
      | some y => rw [q] at h; cases h
    · rw [List.getElem?_append_right (by simpa using hi), List.getElem?_replicate] at h
      split at h <;> cases h
  apart := fun i j d d' a h _ _ _ => by
    unfold startD at h
    by_cases hi : i < ds.length
    · rw [List.getElem?_append_left (by simpa using hi), List.getElem?_map] at h
      cases q : ds[i]? with
      | none => rw [q] at h; cases h
      | some y => rw [q] at h; cases h
    · rw [List.getElem?_append_right (by simpa using hi), List.getElem?_replicate] at h
      split at h <;> cases h
section
variable {P : Program} {w : World} {K : PySem.W.Frag} {mg : Str → Option Value} {base : Heap}
theorem fn_den {x : Str} {st : Stmt} {f : Addr} {fd : FuncData} {N ps : List Str} {k : Nat} {g : Ev → RT} (F : Fun K x x st f fd) (S : FnScope N ps (defScope st))
    (body : ∀ (cdv : Value) (A : Around) (outer : List Env) (s : Shared) (H : Hp) (E : XK), Room k (cxOf (CXx P w) P w K mg base N x (defScope st) f cdv A outer s H E).A → DSs (cxOf (CXx P w) P w K mg base N x (defScope st) f cdv A outer s H E) E (defBody st) g) :
    FnOk P w K mg base (CXx P w) (k + 1) f fd ps (spD ps.length K fun ds => finT (g (startD N.length ds))) := by
  refine F.okX S (fun vs H Q E h => h.1) (fun cdv A outer s H vs Q E hr h => ?_)
  obtain ⟨hl, tt, al, ds, fr, rv, h⟩ := h
  obtain ⟨t, p, r⟩ := body cdv A outer s H E hr
  dsimp only at h
  refine ⟨t, p, r al H al H (L2.start N vs) (startD N.length ds) _ (rs_start tt fr rv) ?_⟩
  cases q : g (startD N.length ds) with
  | nx ρ => rw [q] at h; exact fun al' H' σ' _ s' => h H' s'.same .non .non
  | rt d => rw [q] at h; exact fun v H' s' rv => h H' s' v rv
  | ex c ns es => rw [q] at h; exact h
  | bk ρ => rw [q] at h; exact h.elim
  | ct ρ => rw [q] at h; exact h.elim
  | bad => rw [q] at h; exact h.elim
theorem Has.den {k n : Nat} {x : Str} {ps : List Str} {F F' : List D → R D} (G : Has P w K mg base (CXx P w) k x ps (spD n K F)) (h : ∀ ds, ds.length = n → F' ds = .bad ∨ F ds = F' ds) : Has P w K mg base (CXx P w) k x ps (spD n K F') := by
  obtain ⟨f, fd, fo, b, kp, m⟩ := G
  refine ⟨f, fd, fo.imp fun vs H Q E q => ?_, b, kp, m⟩
  obtain ⟨hl, tt, al, ds, fr, rv, q⟩ := q
  refine ⟨hl, tt, al, ds, fr, rv, ?_⟩
  rcases h ds (by rw [← rv.length]; exact hl) with z | z
  · rw [z] at q; exact q.elim
  · rw [z]; exact q
theorem Has.up {j k : Nat} {x : Str} {ps : List Str} {sp : Sp} (G : Has P w K mg base (CXx P w) j x ps sp) (h : j ≤ k) : Has P w K mg base (CXx P w) k x ps sp := let ⟨f, fd, fo, r⟩ := G; ⟨f, fd, fo.mono h, r⟩
variable {N : List Str} {qual : Str} {scope : Scope} {f : Addr} {cd : Value} {A : Around} {outer : List Env} {s : Shared} {H : Hp} {E : XK}
end
noncomputable def hasT (T : String) : D → Bool
  | .str _ => T == "str"
  | .int _ => T == "int"
  | .lst _ => T == "list"
  | _ => false
noncomputable def dMt (T : String) (g : D → List D → R D) (o : Ev → R D) (a : Ev → R (List D)) : Ev → R D := fun ρ => (o ρ).bind fun x => if hasT T x = true then (a ρ).bind fun xs => g x xs else .bad
section
variable {X : Cx} {E : XK} {o e : Expr} {es : List Expr} {fo : Ev → R D} {fs : Ev → R (List D)} {name : Str} {apos cpos : Pos} {T id : String} {g : D → List D → R D}
noncomputable def DO (X : Cx) (E : XK) (e : Option Expr) (f : Ev → R (Option Int)) : Prop := ∃ t : TO, PO X e t ∧
  ∀ P H0 al H σ ρ (Q : Option Int → Hp → Prop), RS X.K P H0 al H σ ρ → Aft X.K al E H (f ρ) Q → t σ H Q
noncomputable def SlD (X : Cx) (E : XK) (g : D → Option Int → Option Int → R D) : Prop := ∃ r, SlR X r ∧
  ∀ al H x dx lo hi (Q : VK), (∀ a, H a = none → al a) → Rep X.K al H x dx → Aft X.K al E H (g dx lo hi) (fun d H' => ∀ v, Rep X.K al H' v d → Q v H') → r x lo hi H Q
noncomputable def pI (d : D) : R (Option Int) := match d with
  | .int i => .ok (some i)
  | _ => .bad
theorem do_none : DO X E none (fun _ => .ok none) := ⟨_, po_none, fun _ _ _ H _ _ _ _ h => h H (.refl H)⟩
theorem do_some (h : DE X E e fo) : DO X E (some e) (fun ρ => (fo ρ).bind pI) := by
  obtain ⟨t, p, r⟩ := h
  refine ⟨_, po_some p, fun P H0 al H σ ρ Q s h => r _ _ _ _ _ _ _ s (Aft.mono (Aft.split h) fun x H1 s1 h1 v rv => ?_)⟩
  cases rv with
  | int i => exact ⟨i, rfl, h1 H1 (.refl H1)⟩
  | _ => exact (h1 : False).elim
noncomputable def dSl (g : D → Option Int → Option Int → R D) (a : Ev → R D) (l u : Ev → R (Option Int)) : Ev → R D := fun ρ => (a ρ).bind fun x => (l ρ).bind fun i => (u ρ).bind fun j => g x i j
theorem de_slice {g : D → Option Int → Option Int → R D} {lo hi : Option Expr} {fl fu : Ev → R (Option Int)} {pos p2 : Pos} (hr : SlD X E g) (he : DE X E e fo) (hl : DO X E lo fl) (hu : DO X E hi fu) : DE X E (.Subscript e (.Slice lo hi none p2) pos) (dSl g fo fl fu) := by
  obtain ⟨r, rm, rr⟩ := hr
  obtain ⟨to, po, ro⟩ := he
  obtain ⟨tl, pl, rl⟩ := hl
  obtain ⟨tu, pu, ru⟩ := hu
  refine ⟨_, pe_slice rm po pl pu, fun P H0 al H σ ρ Q s h => ro _ _ _ _ _ _ _ s (Aft.mono (Aft.split h) fun x H1 s1 h1 v rv => ?_)⟩
  refine rl _ _ _ _ _ _ _ (s.grow s1) (Aft.mono (Aft.split h1) fun i H2 s2 h2 => ru _ _ _ _ _ _ _ ((s.grow s1).grow s2) (Aft.mono (Aft.split h2) fun j H3 s3 h3 => ?_))
  exact rr _ _ _ _ _ _ _ (((s.grow s1).grow s2).grow s3).fresh ((rv.up s2).up s3) h3
end
theorem pi_or {X : Cx} {tg iter : Expr} {w1 w2 : TI} (h1 : PI X tg iter w1) (h2 : PI X tg iter w2) : PI X tg iter (fun σ H R => w1 σ H R ∨ w2 σ H R) := fun pins s σ H R I h => h.elim (h1 pins s σ H R I) (h2 pins s σ H R I)
section
variable {X : Cx} {E : XK} {tg e : Expr} {f : Ev → R D}
theorem wk_list {K : PySem.W.Frag} {al : Addr → Prop} {H : Hp} {a : Addr} {ds : List D} (r : Rep K al H (.ref a) (.lst ds)) : Wk K al H (Itl K a) ds := by
  intro al' H' x fr
  obtain ⟨a', vs, e, q, rs⟩ := (r.mv x).lstIn
  cases e
  refine ⟨fun i d h => ?_, fun i h => ⟨vs, q, by rw [rs.length]; exact h⟩⟩
  obtain ⟨v, e1, e2⟩ := rs.getD h
  refine ⟨⟨vs, v, q, e1⟩, fun y H'' z => ⟨z.1, ?_⟩⟩
  have := z.2 vs q
  rw [e1] at this; cases this
  exact e2
theorem wk_tup {K : PySem.W.Frag} {al : Addr → Prop} {H : Hp} {a : Addr} {ds : List D} (r : Rep K al H (.ref a) (.tup ds)) : Wk K al H (Itt K a) ds := by
  intro al' H' x fr
  obtain ⟨a', vs, e, q, rs⟩ := (r.mv x).tupIn
  cases e
  refine ⟨fun i d h => ?_, fun i h => ⟨vs, q, by rw [rs.length]; exact h⟩⟩
  obtain ⟨v, e1, e2⟩ := rs.getD h
  refine ⟨⟨vs, v, q, e1⟩, fun y H'' z => ⟨z.1, ?_⟩⟩
  have := z.2 vs q
  rw [e1] at this; cases this
  exact e2
noncomputable def rangeL (lo : Int) (n : Nat) : List D := (List.range n).map fun (k : Nat) => D.int (lo + (k : Int))
theorem wk_range {K : PySem.W.Frag} {al : Addr → Prop} {H : Hp} {lo : Int} {n : Nat} : Wk K al H (Itr lo n) (rangeL lo n) := by
  intro al' H' x fr
  refine ⟨fun i d h => ?_, fun i h => ?_⟩
  · unfold rangeL at h
    rw [List.getElem?_map] at h
    by_cases hi : i < n
    · rw [List.getElem?_range hi] at h
      cases h
      exact ⟨hi, fun y H'' z => ⟨z.1, by rw [z.2]; exact .int _⟩⟩
    · rw [List.getElem?_eq_none (by simpa using hi)] at h; cases h
  · unfold rangeL at h
    show n ≤ i
    simpa using h
noncomputable def rng1 (ds : List D) : R (List D) := match ds with
  | [.int j] => if -(2 ^ 62) ≤ j ∧ j < 2 ^ 62 then .ok (rangeL 0 j.toNat) else .bad
  | _ => .bad
theorem di_range1 {a : Expr} {fs : Ev → R (List D)} {p pos : Pos} (hg : Gl X "range") (hm : X.mg "range" = none) (ha : DA X E [a] fs) (hs : starEach [a] X.env = [(false, eval a X.env)] := by rfl) : DI X E tg (.Call (.Name "range" p) [a] [] pos) (fun ρ => (fs ρ).bind rng1) := by
  obtain ⟨t, q, r, _⟩ := ha
  refine ⟨_, pi_range1 hg hm q hs, fun P H0 al H σ ρ R s h => r _ _ _ _ _ _ _ s (Aft.mono (Aft.split h) fun ds H1 s1 h1 vs rv => ?_)⟩
  unfold rng1 at h1
  split at h1
  · rename_i j
    cases rv with
    | cons r1 r2 =>
      cases r2; cases r1
      split at h1
      · rename_i z
        exact ⟨j, rfl, z.1, z.2, h1 H1 (.refl H1) _ wk_range⟩
      · exact h1.elim
  · exact h1.elim
end
section
variable {K : PySem.W.Frag} {P al : Addr → Prop} {H0 H : Hp} {σ : St} {ρ : Ev}
theorem RS.own (r : RS K P H0 al H σ ρ) {i : Nat} {p : Addr} {vs : List V} {ds : List D} (hi : i < ρ.length) (hp : H p = none) (q : Reps K al H vs ds) :
    RS K P H0 (fun b => al b ∧ b ≠ p) (upd H p (.lst vs)) (σ.set i (some (.ref p))) (ρ.set i (.ow ds)) ∧ Xt al H (fun b => al b ∧ b ≠ p) (upd H p (.lst vs)) := by
  have x : Xt al H (fun b => al b ∧ b ≠ p) (upd H p (.lst vs)) := fun b o _ hb e => ⟨⟨hb, ne_of_none e hp⟩, by rw [upd_ne (ne_of_none e hp)]; exact e⟩
  have s := same_upd (K := K) (o := HO.lst vs) hp
  have hs : i < σ.length := by rw [← r.len]; exact hi
  refine ⟨⟨r.same.trans s, s.tt r.tt, fun b hb => ?_, fun b hb => r.sub b hb.1, r.pf, by rw [List.length_set, List.length_set]; exact r.len, fun j d h => ?_, fun j ds' h => ?_, fun j k d1 d2 b h1 h2 h3 h4 => ?_⟩, x⟩
  · refine ⟨r.fresh b (s.free hb), fun z => ?_⟩
    rw [z, upd_same] at hb; cases hb
  · by_cases z : i = j
    · subst z; rw [List.getElem?_set_self hi] at h; cases h
    · rw [List.getElem?_set_ne z] at h
      obtain ⟨v, e1, e2⟩ := r.sh j d h
      exact ⟨v, by rw [List.getElem?_set_ne z]; exact e1, e2.mv x⟩
  · by_cases z : i = j
    · subst z
      rw [List.getElem?_set_self hi] at h; cases h
      exact ⟨p, vs, List.getElem?_set_self hs, upd_same, q.mv x, fun w => w.2 rfl, r.same.free hp⟩
    · rw [List.getElem?_set_ne z] at h
      obtain ⟨a, us, e1, e2, e3, e4, e5⟩ := r.ow j ds' h
      exact ⟨a, us, by rw [List.getElem?_set_ne z]; exact e1, s.at' _ _ nt_lst e2, e3.mv x, fun w => e4 w.1, e5⟩
  · have key : ∀ (l : Nat) (d : List D), (ρ.set i (.ow ds))[l]? = some (.ow d) → (σ.set i (some (.ref p)))[l]? = some (some (.ref b)) → (l = i ∧ b = p) ∨ (l ≠ i ∧ b ≠ p ∧ ρ[l]? = some (.ow d) ∧ σ[l]? = some (some (.ref b))) := by
      intro l d z1 z2
      by_cases z : i = l
      · subst z
        rw [List.getElem?_set_self hs] at z2
        left; refine ⟨rfl, ?_⟩
        cases z2; rfl
      · rw [List.getElem?_set_ne z] at z1 z2
        right
        obtain ⟨a, us, e1, e2, _⟩ := r.ow l d z1
        rw [e1] at z2; cases z2
        exact ⟨fun w => z w.symm, ne_of_none e2 hp, z1, e1⟩
    rcases key j d1 h1 h3 with ⟨a1, a2⟩ | ⟨a1, a2, a3, a4⟩
    · rcases key k d2 h2 h4 with ⟨b1, _⟩ | ⟨_, b2, _⟩
      · rw [a1, b1]
      · exact absurd a2 b2
    · rcases key k d2 h2 h4 with ⟨_, b2⟩ | ⟨_, _, b3, b4⟩
      · exact absurd b2 a2
      · exact r.apart j k d1 d2 b a3 b3 a4 b4
theorem RS.write (r : RS K P H0 al H σ ρ) {i : Nat} {a : Addr} {ds0 ds : List D} {vs : List V} (h : ρ[i]? = some (.ow ds0)) (e : σ[i]? = some (some (.ref a))) (q : Reps K al H vs ds) :
    RS K P H0 al (upd H a (.lst vs)) σ (ρ.set i (.ow ds)) ∧ Xt al H al (upd H a (.lst vs)) := by
  obtain ⟨a', us, e1, e2, e3, e4, e5⟩ := r.ow i ds0 h
  rw [e] at e1; cases e1
  have hi : i < ρ.length := (List.getElem?_eq_some_iff.mp h).1
  have ne : ∀ b, al b → b ≠ a := fun b hb z => e4 (z ▸ hb)
  have x : Xt al H al (upd H a (.lst vs)) := fun b o _ hb w => ⟨hb, by rw [upd_ne (ne b hb)]; exact w⟩
  have up : TbOk K H → TbOk K (upd H a (.lst vs)) := fun t => t.upd (fun ps w => by rw [e2] at w; cases w) fun q w => by rw [e2] at w; unfold CodeO at w; cases w
  refine ⟨⟨⟨fun b o n w => ?_, fun b w => ?_, fun t => up (r.same.tt t)⟩, up r.tt, fun b hb => ?_, r.sub, r.pf, by rw [List.length_set]; exact r.len, fun j d z => ?_, fun j d z => ?_, fun j k d1 d2 b z1 z2 z3 z4 => ?_⟩, x⟩
  · rw [upd_ne (ne_of_none w e5)]; exact r.same.at' b o n w
  · by_cases z : b = a
    · rw [z]; exact e5
    · rw [upd_ne z] at w; exact r.same.fr b w
  · by_cases z : b = a
    · rw [z, upd_same] at hb; cases hb
    · rw [upd_ne z] at hb; exact r.fresh b hb
  · by_cases y : i = j
    · subst y; rw [List.getElem?_set_self hi] at z; cases z
    · rw [List.getElem?_set_ne y] at z
      obtain ⟨v, w1, w2⟩ := r.sh j d z
      exact ⟨v, w1, w2.mv x⟩
  · by_cases y : i = j
    · subst y
      rw [List.getElem?_set_self hi] at z; cases z
      exact ⟨a, vs, e, upd_same, q.mv x, e4, e5⟩
    · rw [List.getElem?_set_ne y] at z
      obtain ⟨b, ws, w1, w2, w3, w4, w5⟩ := r.ow j d z
      refine ⟨b, ws, w1, ?_, w3.mv x, w4, w5⟩
      rw [upd_ne]; exact w2
      intro c; subst c
      exact y (r.apart i j ds0 d b h z e w1)
  · have back : ∀ (l : Nat) (d : List D), (ρ.set i (.ow ds))[l]? = some (.ow d) → ∃ d', ρ[l]? = some (.ow d') := fun l d w => by
      by_cases y : i = l
      · subst y; exact ⟨ds0, h⟩
      · rw [List.getElem?_set_ne y] at w; exact ⟨d, w⟩
    obtain ⟨d1', w1⟩ := back j d1 z1
    obtain ⟨d2', w2⟩ := back k d2 z2
    exact r.apart j k d1' d2' b w1 w2 z3 z4
noncomputable def frzS (i : Nat) (ρ : Ev) : Ev := match ρ[i]? with
  | some (.ow ds) => ρ.set i (.sh (.lst ds))
  | _ => ρ
theorem RS.freeze (r : RS K P H0 al H σ ρ) (i : Nat) : ∃ al', RS K P H0 al' H σ (frzS i ρ) ∧ Xt al H al' H := by
  unfold frzS
  split
  · rename_i ds h
    obtain ⟨a, vs, e1, e2, e3, e4, e5⟩ := r.ow i ds h
    have hi : i < ρ.length := (List.getElem?_eq_some_iff.mp h).1
    have x : Xt al H (fun b => al b ∨ b = a) H := .sub fun _ z => .inl z
    refine ⟨fun b => al b ∨ b = a, ⟨r.same, r.tt, fun b hb => .inl (r.fresh b hb), fun b hb => ?_, r.pf, by rw [List.length_set]; exact r.len, fun j d z => ?_, fun j d z => ?_, fun j k d1 d2 b z1 z2 z3 z4 => ?_⟩, x⟩
    · rcases hb with hb | rfl
      · exact r.sub b hb
      · exact r.pf _ e5
    · by_cases y : i = j
      · subst y
        rw [List.getElem?_set_self hi] at z; cases z
        exact ⟨.ref a, e1, .lst (.inl ⟨.inr rfl, .inl e2⟩) (e3.mv x)⟩
      · rw [List.getElem?_set_ne y] at z
        obtain ⟨v, w1, w2⟩ := r.sh j d z
        exact ⟨v, w1, w2.mv x⟩
    · by_cases y : i = j
      · subst y; rw [List.getElem?_set_self hi] at z; cases z
      · rw [List.getElem?_set_ne y] at z
        obtain ⟨b, ws, w1, w2, w3, w4, w5⟩ := r.ow j d z
        refine ⟨b, ws, w1, w2, w3.mv x, fun w => ?_, w5⟩
        rcases w with w | rfl
        · exact w4 w
        · exact y (r.apart i j ds d b h z e1 w1)
    · have back : ∀ (l : Nat) (d : List D), (ρ.set i (.sh (.lst ds)))[l]? = some (.ow d) → ρ[l]? = some (.ow d) := fun l d w => by
        by_cases y : i = l
        · subst y; rw [List.getElem?_set_self hi] at w; cases w
        · rw [List.getElem?_set_ne y] at w; exact w
      exact r.apart j k d1 d2 b (back j d1 z1) (back k d2 z2) z3 z4
  · exact ⟨al, r, .refl⟩
end
section
variable {X : Cx} {E : XK} {e : Expr} {sts : List Stmt} {st : Stmt} {g : Ev → RT} {f : Ev → R D} {fn : Ev → R (List D)} {pos : Pos}
theorem dss_freeze (i : Nat) (h : DSs X E sts g) : DSs X E sts (fun ρ => g (frzS i ρ)) := by
  obtain ⟨t, p, r⟩ := h
  refine ⟨t, p, fun P H0 al H σ ρ D s h => ?_⟩
  obtain ⟨al', s', x⟩ := s.freeze i
  exact r _ _ _ _ _ _ _ s' (okS.ext h x)
noncomputable def flatD : D → Bool
  | .non => true
  | .bl _ => true
  | .int _ => true
  | .str _ => true
  | _ => false
noncomputable def flat1 (d : D) : R D := if flatD d = true then .ok d else .bad
theorem Rep.flat {K : PySem.W.Frag} {al al' : Addr → Prop} {H H' : Hp} {v : V} {d : D} (r : Rep K al H v d) (h : flatD d = true) : Rep K al' H' v d := by
  cases r with
  | non => exact .non
  | bl b => exact .bl b
  | int b => exact .int b
  | str b => exact .str b
  | _ => cases h
noncomputable def noEx {α : Type} (r : R α) : R α := match r with
  | .ok a => .ok a
  | _ => .bad
theorem de_borrow (i : Nat) (h : DE X E e f) : DE X E e (fun ρ => (noEx (f (frzS i ρ))).bind flat1) := by
  obtain ⟨t, p, r⟩ := h
  refine ⟨t, p, fun P H0 al H σ ρ Q s h => ?_⟩
  obtain ⟨al', s', x⟩ := s.freeze i
  refine r _ _ _ _ _ _ _ s' ?_
  dsimp only at h
  cases q : f (frzS i ρ) with
  | bad => rw [q] at h; exact h.elim
  | ex c ns ds => rw [q] at h; exact h.elim
  | ok d =>
    rw [q] at h
    have h' : Aft X.K al E H (flat1 d) (fun d H' => ∀ v, Rep X.K al H' v d → Q v H') := h
    unfold flat1 at h'
    by_cases z : flatD d = true
    · rw [if_pos z] at h'
      exact fun H1 s1 v rv => h' H1 s1 v (rv.flat z)
    · rw [if_neg z] at h'; exact h'.elim
noncomputable def sOwn (i : Nat) (f : Ev → R (List D)) : Ev → RT := fun ρ => toS (f ρ) fun ds => if i < ρ.length then .nx (ρ.set i (.ow ds)) else .bad
theorem ds_own (i : Nat) {x : Str} {pos' : Pos} (hN : X.N.Nodup) (hi : X.N[i]? = some x) (hx : Loc X.env.scope x) (he : DN X E e fn) (hs : swapsWith e (some (.Name x pos')) pos.line X.env = pure false := by rfl) (hf : X.fn x = true ∨ X.env.scope.names.lookup x = some .local := by first | exact .inl rfl | exact .inr rfl | assumption) :
    DS X E (.Assign [.Name x pos'] e pos) (sOwn i fn) := by
  obtain ⟨t, p, r⟩ := he
  refine ⟨_, ps_set hN hi hx p hs hf, fun P H0 al H σ ρ D s h => r _ _ _ _ _ _ _ s (Aft.mono (okS.ofR h s) fun ds H1 s1 h1 q vs hq rv => ?_)⟩
  by_cases z : i < ρ.length
  · simp only [z, if_true] at h1
    obtain ⟨s2, x2⟩ := (s.grow s1).own z hq rv
    exact h1 _ _ _ x2 s2
  · simp only [z, if_false] at h1
    exact h1.elim
noncomputable def sApp (i : Nat) (f : Ev → R D) : Ev → RT := fun ρ => match ρ[i]? with
  | some (.ow ds) => toS (f ρ) fun d => if ds.length < sizeLine then .nx (ρ.set i (.ow (ds ++ [d]))) else .bad
  | _ => .bad
theorem ds_append (i : Nat) {o : Expr} {x : Str} {opos apos cpos : Pos} (pa : PlainAttrs "list") (slot : Slot "list" "append" "list.append") (hty : typeOf (.builtin "list.append") = pure (.type "method_descriptor")) (he : DE X E e f)
    (hN : X.N[i]? = some x := by rfl) (hv : Vis X.env.scope x := by first | exact Or.inl rfl | exact Or.inr (Or.inl rfl) | exact Or.inr (Or.inr rfl)) (hd : (x == ("__debug__" : Str)) = false := by decide)
    (hcd : (x == ("__classdict__" : Str)) = false := by decide)
    (hbase : attributeBase (.Name x opos) "append" X.env (eval (.Name x opos) X.env) = eval (.Name x opos) X.env := by rfl)
    (hfew : ((backTo cpos (starEach [e] X.env)).all (fun x => !x.1) && (backToKw cpos (keywordEach [] X.env)).all (fun x => x.1.isSome)
      && decide ([e].length + ([] : List Keyword).length + (if ([] : List Keyword).isEmpty then 0 else 1) < 30)) = true := by rfl)
    (hline : (apos.endLine == cpos.line) = true := by rfl) (hs : starEach [e] X.env = (false, eval e X.env) :: starEach [] X.env := by rfl) (hplain : (backTo cpos (starEach [] X.env)).any (·.1) = false := by rfl)
    (hsw : swapsWith (.Call (.Attribute (.Name x opos) "append" apos) [e] [] cpos) none pos.line X.env = pure false := by rfl) :
    DS X E (.Expr (.Call (.Attribute (.Name x opos) "append" apos) [e] [] cpos) pos) (sApp i f) := by
  obtain ⟨t, p, r⟩ := he
  refine ⟨_, ps_expr (pe_bm pa slot hty mt_append (pe_var hN hv hd hcd) (pa_cons p pa_nil hs) hbase hfew hline hs hplain) hsw, fun P H0 al H σ ρ D s h => ?_⟩
  unfold sApp at h
  split at h
  · rename_i ds q
    obtain ⟨a, vs, e1, e2, e3, e4, e5⟩ := s.ow i ds q
    refine ⟨_, e1, .inl ⟨rfl, vs, .inl (.inl e2)⟩, r _ _ _ _ _ _ _ s (Aft.mono (okS.ofR h s) fun d H1 s1 h1 v rv => ?_)⟩
    by_cases z : ds.length < sizeLine
    · simp only [z, if_true] at h1
      obtain ⟨s2, x2⟩ := (s.grow s1).write q e1 ((e3.up s1).append (.cons rv .nil))
      exact ⟨a, vs, v, rfl, rfl, s1.at' _ _ nt_lst e2, by rw [e3.length]; exact z, h1 _ _ _ x2 s2⟩
    · simp only [z, if_false] at h1
      exact h1.elim
  · exact h.elim
end
section
variable {P : Program} {w : World} {K : PySem.W.Frag} {mg : Str → Option Value} {base : Heap} {N : List Str} {qual : Str} {scope : Scope} {f : Addr} {cd : Value} {A : Around} {outer : List Env} {s : Shared} {H : Hp} {E : XK}
end
section
variable {X : Cx} {E : XK}
end
end P2
namespace L2
open PySem PySem.Spec PyProof.Rows
section
variable {prog : Program} {w : World} {A : Around} {R : Result → Shared → Prop} {s : Shared}
theorem comp_loop {elt target iter : Expr} {ifs : List Expr} {scope : Scope} {pos : Pos} {it acc : Value} {env : Env} (I : Nat → Shared → Prop)
    (turn : ∀ n s, I n s → wpAny (model prog w) A (pyNext it) (fun r s₁ => match r with
      | none => R (.ok .next) s₁
      | some v => wpAny (model prog w) A (letOwnedTupleGo target it v) (fun _ s₀ => wpAny (model prog w) A (assign target env v) (fun _ s₂ =>
          wpAny (model prog w) A (forIn ifs true fun c r => if r = true then do let ok ← isTrue c env (eval c env); pure (ForInStep.yield ok) else pure (ForInStep.yield r)) (fun ok s₃ =>
            if ok = true then wpAny (model prog w) A (eval elt env) (fun x s₄ =>
              wpAny (model prog w) A (call (.builtin "list.append") [acc, x]) (fun _ s₅ => ∃ m, m < n ∧ I m s₅) (notedBy (model prog w) A env fun e s' => R (.error e) s') s₄) (notedBy (model prog w) A env fun e s' => R (.error e) s') s₃
            else ∃ m, m < n ∧ I m s₃) (notedBy (model prog w) A env fun e s' => R (.error e) s') s₂) (notedBy (model prog w) A env fun e s' => R (.error e) s') s₀) (notedBy (model prog w) A env fun e s' => R (.error e) s') s₁) (notedBy (model prog w) A env fun e s' => R (.error e) s') s)
    (n : Nat) (h : I n s) : codeAny (model prog w) A (.compLoop (.ListComp elt [⟨target, iter, ifs, 0⟩] scope pos) 0 it acc env) R s := by
  refine codeAny_loop rfl I (fun n s hI => ?_) n h
  show wpAny _ A ((compTurn (.ListComp elt [⟨target, iter, ifs, 0⟩] scope pos) 0 it acc env).onRaise (fun x => do noteFrame x env; theTreesLotGoes x)) _ _ s
  refine wpAny_noted ?_
  rw [compTurn_list]
  refine wpAny_bind (wpAny_standAt (wpAny_bind (wpAny_mono (turn n s hI) (fun r s₁ h₁ => ?_) fun _ _ h' => h')))
  cases r with
  | none => exact wpAny_pure h₁
  | some v =>
    refine wpAny_bind (wpAny_mono h₁ (fun _ s₀ h₀ => ?_) fun _ _ h' => h')
    refine wpAny_bind (wpAny_mono h₀ (fun _ s₂ h₂ => wpAny_bind (wpAny_mono h₂ (fun ok s₃ h₃ => ?_) fun _ _ h' => h')) fun _ _ h' => h')
    cases ok with
    | false => exact wpAny_pure ⟨rfl, h₃⟩
    | true =>
      exact wpAny_bind (wpAny_bind (wpAny_mono h₃ (fun x s₄ h₄ => wpAny_bind (wpAny_mono h₄ (fun _ s₅ h₅ => wpAny_pure (wpAny_pure ⟨rfl, h₅⟩)) fun _ _ h' => h')) fun _ _ h' => h'))
end
noncomputable abbrev Cx.comp (X : Cx) (scope : Scope) (N' : List Str) (cl : List (Str × Addr)) (fp : List Addr) (s3 : Shared) (H3 : Hp) (C : Addr) : Cx :=
  { X with N := N', s₀ := s3, H₀ := H3, env := compEnvC scope cl C X.env, outer := X.stack, ex := fp, fn := fun _ => false, pn := [], xe := fun _ _ => False }
inductive Caps (X : Cx) (cl : List (Str × Addr)) : List Str → List Nat → Prop
  | nil : Caps X cl [] []
  | cons {x : Str} {i : Nat} {N : List Str} {ci : List Nat} : X.N[i]? = some x → (X.env.kindOf x = some .cell ∨ X.env.kindOf x = some .free) → cl.lookup x = X.env.cells.lookup x → Caps X cl N ci → Caps X cl (x :: N) (i :: ci)
theorem Caps.length {X : Cx} {cl : List (Str × Addr)} {N : List Str} {ci : List Nat} (h : Caps X cl N ci) : N.length = ci.length := by
  induction h with
  | nil => rfl
  | cons _ _ _ _ ih => rw [List.length_cons, List.length_cons, ih]
theorem Caps.get {X : Cx} {cl : List (Str × Addr)} {N : List Str} {ci : List Nat} (h : Caps X cl N ci) {k : Nat} {x : Str} (e : N[k]? = some x) : ∃ i, ci[k]? = some i ∧ X.N[i]? = some x ∧ (X.env.kindOf x = some .cell ∨ X.env.kindOf x = some .free) ∧ cl.lookup x = X.env.cells.lookup x := by
  induction h generalizing k with
  | nil => simp at e
  | cons h1 h2 h3 _ ih =>
    cases k with
    | zero => simp at e; subst e; exact ⟨_, rfl, h1, h2, h3⟩
    | succ k => simpa using ih (by simpa using e)
noncomputable def capS (tn : Nat) (ci : List Nat) (σ : St) : St := List.replicate tn none ++ ci.map fun i => (σ[i]?).getD none
theorem capS_some {tn : Nat} {ci : List Nat} {σ : St} {j : Nat} {v : V} (h : (capS tn ci σ)[j]? = some (some v)) : ∃ k i, j = tn + k ∧ ci[k]? = some i ∧ σ[i]? = some (some v) := by
  unfold capS at h
  by_cases hj : j < tn
  · rw [List.getElem?_append_left (by simpa using hj), List.getElem?_replicate, if_pos hj] at h; cases h
  · rw [List.getElem?_append_right (by simpa using hj), List.length_replicate, List.getElem?_map] at h
    cases q : ci[j - tn]? with
    | none => rw [q] at h; cases h
    | some i =>
      rw [q] at h
      refine ⟨j - tn, i, by omega, q, ?_⟩
      have h' : (σ[i]?).getD none = some v := Option.some.inj h
      cases z : σ[i]? with
      | none => rw [z] at h'; cases h'
      | some y => rw [z] at h'; exact congrArg some h'
theorem capS_length {tn : Nat} {ci : List Nat} {σ : St} : (capS tn ci σ).length = tn + ci.length := by unfold capS; simp
noncomputable def tComp (wi : TI) (tn : Nat) (ci : List Nat) (g : TG) (tc : TT) (te : TE) : TE := fun σ H Q => wi σ H fun J H1 => ∀ l, H1 l = none → ∃ W : Nat → Nat → Hp → Prop, (∃ m, W 0 m (upd H1 l (.lst []))) ∧ ∀ i m H2, W i m H2 →
  (J.stop i H2 ∧ Q (.ref l) H2) ∨ (J.go i H2 ∧ ∀ x H3, J.yld i H2 x H3 → g x (capS tn ci σ) H3 fun σ2 H4 => (σ2.length = tn + ci.length ∧ ∀ j, tn ≤ j → σ2[j]? = (capS tn ci σ)[j]?) ∧ tc σ2 H4 fun b H5 =>
    if b = true then te σ2 H5 fun v H6 => ∃ acc, H6 l = some (.lst acc) ∧ acc.length < sizeLine ∧ ∃ m', m' < m ∧ W (i + 1) m' (upd H6 l (.lst (acc ++ [v]))) else ∃ m', m' < m ∧ W (i + 1) m' H5)
noncomputable def PF (X : Cx) (ifs : List Expr) (t : TT) : Prop :=
  ∀ (pins : List (Addr × Obj)) (s : Shared) (σ : St) (H : Hp) (Q : Bool → Hp → Prop), Inv X pins σ H s → t σ H Q →
    wpAny (model X.prog X.w) X.A (forIn ifs true fun c r => if r = true then do let ok ← isTrue c X.env (eval c X.env); pure (ForInStep.yield ok) else pure (ForInStep.yield r)) (TP X pins σ Q) X.xe s
theorem pf_nil {X : Cx} : PF X [] (fun _ H Q => Q true H) := fun _ _ _ H _ I h => wpAny_tests_nil ⟨H, I, h⟩
theorem pf_one {X : Cx} {c : Expr} {t : TT} (h : PT X c t) : PF X [c] t := fun pins s σ H Q I hq => wpAny_tests_one (h pins s σ H Q I hq)
section
variable {X : Cx} {tg iter elt : Expr} {ifs : List Expr} {scope : Scope} {pos : Pos} {wi : TI} {g : TG} {tc : TT} {te : TE} {cl : List (Str × Addr)} {tn : Nat} {Nt Nc : List Str} {ci : List Nat}
theorem comp_run {pins : List (Addr × Obj)} {s : Shared} {σ : St} {H : Hp} {Q : VK} {RR : Value → Addr → Result → Shared → Prop} (I : Inv X pins σ H s) (hc : X.calm = true) (hi : PI X tg iter wi)
    (hg : ∀ fp s3 H3 C, PG (X.comp scope (Nt ++ Nc) cl fp s3 H3 C) tg g) (hf : ∀ fp s3 H3 C, PF (X.comp scope (Nt ++ Nc) cl fp s3 H3 C) ifs tc) (he : ∀ fp s3 H3 C, PE (X.comp scope (Nt ++ Nc) cl fp s3 H3 C) elt te)
    (hkind : scope.kind = .function) (hcell : ∀ y ∈ scope.names, y.2 ≠ .cell) (hcap : Caps X cl Nc ci) (hNt : Nt.length = tn)
    (hsub : ∀ x c, cl.lookup x = some c → X.env.cells.lookup x = some c) (hhas : ∀ x, ((relabel scope X.env).names.lookup x = some .cell ∨ (relabel scope X.env).names.lookup x = some .free) → ∃ c, cl.lookup x = some c)
    (hvis : ∀ x ∈ Nc, (relabel scope X.env).names.lookup x = some .cell ∨ (relabel scope X.env).names.lookup x = some .free)
    (h : tComp wi tn ci g tc te σ H Q)
    (fin : ∀ l C H' s' m, s'.heap.Ns C m → Inv X pins σ H' s' → H' C = none → C ≠ X.env.locals → X.s₀.heap.objs.size ≤ C → (∀ x c, X.env.cells.lookup x = some c → c ≠ C) → (∀ p ∈ X.pn ++ pins, p.1 ≠ C) → Q (.ref l) H' → RR (.ref l) C (.ok .next) s') :
    wpAny (model X.prog X.w) X.A (eval iter X.env) (fun x s₁ => wpAny (model X.prog X.w) X.A (pyIter x) (fun it s₂ => wpAny (model X.prog X.w) X.A (newList []) (fun acc s₃ =>
      wpAny (model X.prog X.w) X.A (newFunctionEnv scope X.env.globals cl [] X.env.qual none .none (some X.env)) (fun cenv s₄ =>
        codeAny (model X.prog X.w) X.A (.compStart (.ListComp elt [⟨tg, iter, ifs, 0⟩] scope pos) 0 it acc { cenv with scope := relabel scope X.env }) (RR acc cenv.locals) s₄) X.xe s₃) X.xe s₂) X.xe s₁) X.xe s := by
  refine thn (hi pins s σ H _ I h) fun v s1 h1 => thn h1 fun itv s2 h2 => ?_
  obtain ⟨it, fp, tk, J, H2, rfl, I2, T, st2, f2, hW⟩ := h2
  refine wpAny_newObj_type (wpAny_newFunctionEnv hcell (by intro y hy; simp at hy) (fun h₁ hns₁ hsb₁ => ?_) hkind)
  dsimp only at hns₁ hsb₁ ⊢
  generalize hG : s2.heap.push { cls := .type "list", dict := none, data := .seq ([] : List Value).toArray } = G at hns₁ hsb₁ ⊢
  have hGs : G.objs.size = s2.heap.objs.size + 1 := by rw [← hG, Heap.size_push]
  have hl : H2 s2.heap.objs.size = none := I2.hok.fresh (Nat.le_refl _)
  obtain ⟨W, ⟨m0, w0⟩, turn⟩ := hW _ hl
  have I3 : Inv X pins σ (upd H2 s2.heap.objs.size (.lst [])) { s2 with heap := G } := by
    rw [← hG]
    exact I2.laid (t' := s2.toks) (fun b u e => Heap.get?_push_of_some _ e) (Nat.le_refl _) ⟨Nat.zero_le _, [], 0, .nil, Heap.get?_push_size _ rfl⟩
  generalize hH3 : upd H2 s2.heap.objs.size (.lst []) = H3 at w0 I3
  have keep : ∀ b o, G.get? b = some o → h₁.get? b = some o := fun b o e => hsb₁.extBut b o (Nat.ne_of_lt (Heap.lt_size e)) (Heap.get?_push_of_some _ e)
  have lt2 : ∀ b ∈ fp, b < s2.heap.objs.size := fun b hb => by
    obtain ⟨o, e, _⟩ := T.obj 0 _ st2 b hb
    exact Heap.lt_size e
  have fpC : ∀ b ∈ fp, b ≠ G.objs.size := fun b hb => Nat.ne_of_lt (Nat.lt_of_lt_of_le (lt2 b hb) (by rw [hGs]; exact Nat.le_succ _))
  have fpH : ∀ b ∈ fp, H3 b = none := fun b hb => by
    rw [← hH3, upd_ne (Nat.ne_of_lt (lt2 b hb))]; exact (f2 b hb).1
  let X' := X.comp scope (Nt ++ Nc) cl fp { s2 with heap := G } H3 G.objs.size
  have ok' : X'.Ok := by
    refine ⟨I3.ok.mod, (by show (relabel scope X.env).kind = _; exact hkind), I3.ok.glob, I3.ok.blt, Nat.le_refl _, fun x y c e1 e2 => I3.ok.inj x y c (hsub x c e1) (hsub y c e2), fun x hx => hhas x hx, (fun x c z => nomatch z), I3.ok.hd, I3.ok.frames, .inl rfl, fun b hb => ⟨fpC b hb, fun x c e => (f2 b hb).2.2.2.2.1 x c (hsub x c e)⟩, fun b o e => I3.bs b o e, Nat.le_trans I3.ok.bsz I3.sz, fun b o e hb => ?_, fun b hb z => ?_, I3.stack, I3.stkFree⟩
    · rcases (f2 b hb).2.2.2.1 with z | z
      · exact I3.ok.noex b o e z
      · exact absurd (Nat.lt_of_lt_of_le (Heap.lt_size e) (Nat.le_trans I3.ok.bsz z)) (Nat.lt_irrefl _)
    · rcases List.mem_cons.mp (I3.stkSub b z) with e | e
      · exact (f2 b hb).2.1 e
      · exact (f2 b hb).2.2.1 e
  have J0 : Inv X' [] (capS tn ci σ) H3 { s2 with heap := h₁, toks := s2.toks + 0 } := by
    refine ⟨ok', rfl, I3.bare, Un.kept keep, ⟨_, hns₁, fun i x v e1 e2 e3 => ?_⟩, fun x c e => ?_, I3.hok.fresh (Nat.le_refl _), fun x c e => I3.freeC x c (hsub x c e), fun p hp => absurd (show p ∈ ([] : List (Addr × Obj)) from hp) (by simp), I3.hok.kept keep, ?_⟩
    · obtain ⟨k, j, rfl, q1, q2⟩ := capS_some e2
      have e1' : Nc[k]? = some x := by
        rw [List.getElem?_append_right (by omega)] at e1
        rw [show tn + k - Nt.length = k by omega] at e1; exact e1
      obtain ⟨j', z1, z2, z3, z4⟩ := hcap.get e1'
      rw [q1] at z1; cases z1
      obtain ⟨m, hn, hlk⟩ := I3.loc
      obtain ⟨u, r, lk⟩ := hlk j x v z2 q2 (z3.elim (fun z => .inr (.inl z)) fun z => .inr (.inr z))
      refine ⟨u, r, .inr ⟨hvis x (List.mem_of_getElem? e1'), ?_⟩⟩
      rcases lk with ⟨k1, _⟩ | ⟨_, c, k2, k3⟩
      · rcases z3 with z | z <;> (rw [k1] at z; cases z)
      · refine ⟨c, z4.trans k2, ?_⟩
        obtain ⟨o, ho, hd⟩ := k3
        exact ⟨o, keep _ _ ho, hd⟩
    · obtain ⟨v, o, ho, hd⟩ := I3.cell x c (hsub x c e)
      exact ⟨v, o, keep _ _ ho, hd⟩
    · rw [capS_length]
      show _ = (Nt ++ Nc).length
      rw [List.length_append, hcap.length, hNt]
  have stat : ∀ {pins' : List (Addr × Obj)} {H' : Hp}, (∀ p ∈ pins', p.1 ∉ fp) → (∀ b ∈ fp, H' b = none) → ∀ b ∈ fp, FpOk X' pins' H' b := fun {pins' H'} hp hn b hb =>
    ⟨hn b hb, fpC b hb, fun z => ok'.exfs b hb z, .inl hb, fun x c e => (ok'.exf b hb).2 x c e, fun p hpm z => hp p ((List.mem_append.mp hpm).elim (fun w => absurd (show p ∈ ([] : List (Addr × Obj)) from w) (by simp)) fun w => w) (by rw [z]; exact hb)⟩
  have mk : ∀ (s5 : Shared), (∀ i H5, Inv X' [] (capS tn ci σ) H5 s5 → tk i s5.heap → (∀ b ∈ fp, H5 b = none) → ∀ n, W i n H5 →
      codeAny (model X.prog X.w) X.A (.compLoop (.ListComp elt [⟨tg, iter, ifs, 0⟩] scope pos) 0 (.ref it) (.ref s2.heap.objs.size) (compEnvC scope cl G.objs.size X.env)) (RR (.ref s2.heap.objs.size) G.objs.size) s5) := by
    intro s5 i5 H5 J5 st5 fr5 n5 w5
    refine comp_loop (fun n s' => ∃ i H', Inv X' [] (capS tn ci σ) H' s' ∧ tk i s'.heap ∧ (∀ b ∈ fp, H' b = none) ∧ W i n H') ?_ n5 ⟨i5, H5, J5, st5, fr5, w5⟩
    rintro n s6 ⟨i, H6, J6, st6, fr6, w6⟩
    rcases turn i n H6 w6 with ⟨stop, q⟩ | ⟨go, step⟩
    · refine wpAny_mono (T.done X' rfl rfl rfl hc i [] s6 _ H6 (fun _ _ => False) J6 (stat (by simp) fr6) st6 stop) (fun r s7 ⟨hr, J7⟩ => ?_) fun _ _ z => z.elim
      subst hr
      obtain ⟨m, hn, _⟩ := J7.loc
      have IX : Inv X pins σ H6 s7 := I3.call' (ch := fp) J7.os J7.base J7.hok J7.bare fun b hb => ⟨(f2 b hb).2.2.2.1, (f2 b hb).2.1, (f2 b hb).2.2.2.2.1, (f2 b hb).2.2.2.2.2⟩
      refine fin _ _ H6 s7 m hn IX J7.free (Nat.ne_of_gt I3.lt) (Nat.le_trans I3.sz (Nat.le_refl _)) (fun x c e z => ?_) (fun p hp z => ?_) q
      · obtain ⟨v, o, ho, _⟩ := I3.cell x c e
        exact absurd (Heap.lt_size ho) (by rw [z]; exact Nat.lt_irrefl _)
      · exact absurd (Heap.lt_size (I3.pin p hp).1) (by rw [z]; exact Nat.lt_irrefl _)
    · refine wpAny_mono (T.item X' rfl rfl rfl hc i [] s6 _ H6 (fun _ _ => False) J6 (stat (by simp) fr6) st6 go) (fun r s7 ⟨u, hr, h7⟩ => ?_) fun _ _ z => z.elim
      subst hr
      refine wpAny_mono h7 (fun _ s8 ⟨x, H8, J8, r8, y8, st8, fr8⟩ => ?_) fun _ _ z => z.elim
      have J8' := J8.pinned (stat (by simp) fr8) (T.obj _ _ st8)
      have back : ∀ {σ9 : St} {H9 : Hp} {s9 : Shared}, Inv X' ([] ++ pinsAt fp s8.heap) σ9 H9 s9 → σ9.length = tn + ci.length → (∀ j, tn ≤ j → σ9[j]? = (capS tn ci σ)[j]?) → ∀ m', m' < n → W (i + 1) m' H9 →
          ∃ m, m < n ∧ ∃ i H', Inv X' [] (capS tn ci σ) H' s9 ∧ tk i s9.heap ∧ (∀ b ∈ fp, H' b = none) ∧ W i m H' := fun {σ9 H9 s9} J9 hl9 hk9 m' hm w9 => by
        refine ⟨m', hm, i + 1, H9, J9.unpinned.weak (by rw [capS_length, hl9]) fun j v e => ?_, T.keep _ _ _ st8 fun b hb o e => (J9.pin (b, o) (List.mem_append_right _ (List.mem_append_right _ (mem_pinsAt hb e)))).1, fun b hb => ?_, w9⟩
        · obtain ⟨k, _, rfl, _⟩ := capS_some e
          rw [hk9 _ (by omega)]; exact e
        · obtain ⟨o, e, d⟩ := T.obj _ _ st8 b hb
          exact (J9.pin (b, o) (List.mem_append_right _ (List.mem_append_right _ (mem_pinsAt hb e)))).2.1
      refine wpAny_mono (hg fp _ _ _ _ s8 _ H8 x u _ J8' r8 (step x H8 y8)) (fun _ s9 ⟨σ9, H9, J9, ⟨l9, k9⟩, q9⟩ => ?_) fun _ _ z => z.elim
      refine wpAny_mono (hf fp _ _ _ _ s9 σ9 H9 _ J9 q9) (fun b s10 ⟨H10, J10, q10⟩ => ?_) fun _ _ z => z.elim
      cases b with
      | false =>
        rw [if_neg Bool.false_ne_true] at q10 ⊢
        obtain ⟨m', hm, w10⟩ := q10
        exact back J10 l9 k9 m' hm w10
      | true =>
        rw [if_pos rfl] at q10 ⊢
        refine wpAny_mono (he fp _ _ _ _ s10 σ9 H10 _ J10 q10) (fun y s11 ⟨v, H11, J11, r11, acc, e11, z11, m', hm, w11⟩ => ?_) fun _ _ z => z.elim
        refine wpAny_mono (mt_append (X := X') _ s11 σ9 H11 (.ref _) [v] (.ref _) [y] (fun _ H12 => W (i + 1) m' H12) J11 rfl (.cons r11 .nil) ⟨_, acc, v, rfl, rfl, e11, z11, w11⟩) (fun _ s12 ⟨_, H12, J12, _, w12⟩ => ?_) fun _ _ z => z.elim
        exact back J12 l9 k9 m' hm w12
  have st4 : tk 0 h₁ := T.keep _ _ _ st2 fun b _ o e => keep b o (by rw [← hG]; exact Heap.get?_push_of_some _ e)
  exact codeAny_compStart_list (mk _ 0 H3 J0 st4 fpH m0 w0) (T.self _ 0 _ _ _ st4 (mk _ 0 H3 J0 st4 fpH m0 w0))
theorem pe_comp (hc : X.calm = true) (hi : PI X tg iter wi) (hg : ∀ fp s3 H3 C, PG (X.comp scope (Nt ++ Nc) cl fp s3 H3 C) tg g) (hf : ∀ fp s3 H3 C, PF (X.comp scope (Nt ++ Nc) cl fp s3 H3 C) ifs tc) (he : ∀ fp s3 H3 C, PE (X.comp scope (Nt ++ Nc) cl fp s3 H3 C) elt te)
    (hclos : closureFor scope X.env = pure cl) (hkind : scope.kind = .function) (hcell : ∀ y ∈ scope.names, y.2 ≠ .cell) (hnames : ∀ x ∈ scope.names, x.2 = .local → scope.names.lookup x.1 = some .local) (hcap : Caps X cl Nc ci) (hNt : Nt.length = tn)
    (hsub : ∀ x c, cl.lookup x = some c → X.env.cells.lookup x = some c) (hhas : ∀ x, ((relabel scope X.env).names.lookup x = some .cell ∨ (relabel scope X.env).names.lookup x = some .free) → ∃ c, cl.lookup x = some c)
    (hvis : ∀ x ∈ Nc, (relabel scope X.env).names.lookup x = some .cell ∨ (relabel scope X.env).names.lookup x = some .free)
    (hs : ∀ x, foldedSetIterable iter X.env x = pure x := by intro _; rfl) : PE X (.ListComp elt [⟨tg, iter, ifs, 0⟩] scope pos) (tComp wi tn ci g tc te) := by
  intro pins s σ H Q I h
  rw [eval_ListComp]
  refine wpAny_comprehension_free (use := none) rfl hs hclos hkind hnames (comp_run (Nt := Nt) (Nc := Nc) I hc hi hg hf he hkind hcell hcap hNt hsub hhas hvis h ?_)
  intro l C H' s' m hn I' h1 h2 h3 h4 h5 q
  exact ⟨m, hn, fun h'' hs'' => ⟨.ref l, H', I'.turned (t' := s'.toks) (fun b o hb e => hs''.extBut b o hb e) h1 h2 (.inr h3) h4 h5, rfl, q⟩⟩
noncomputable def PUse (X : Cx) (e : Expr) (t : TE) : Prop :=
  ∀ (i : Nat) (x : Str) (pos' : Pos) (_ : X.N.Nodup) (_ : X.N[i]? = some x) (_ : Loc X.env.scope x) (_ : X.fn x = true ∨ X.env.scope.names.lookup x = some .local) (pins : List (Addr × Obj)) (s : Shared) (σ : St) (H : Hp) (Q : VK), Inv X pins σ H s → t σ H Q →
    wpAny (model X.prog X.w) X.A (evalThenUse e X.env (assign (.Name x pos') X.env)) (fun _ s' => ∃ v H', Inv X pins (σ.set i (some v)) H' s' ∧ Q v H') X.xe s
theorem pu_comp (hc : X.calm = true) (hi : PI X tg iter wi) (hg : ∀ fp s3 H3 C, PG (X.comp scope (Nt ++ Nc) cl fp s3 H3 C) tg g) (hf : ∀ fp s3 H3 C, PF (X.comp scope (Nt ++ Nc) cl fp s3 H3 C) ifs tc) (he : ∀ fp s3 H3 C, PE (X.comp scope (Nt ++ Nc) cl fp s3 H3 C) elt te)
    (hclos : closureFor scope X.env = pure cl) (hkind : scope.kind = .function) (hcell : ∀ y ∈ scope.names, y.2 ≠ .cell) (hnames : ∀ x ∈ scope.names, x.2 = .local → scope.names.lookup x.1 = some .local) (hcap : Caps X cl Nc ci) (hNt : Nt.length = tn)
    (hsub : ∀ x c, cl.lookup x = some c → X.env.cells.lookup x = some c) (hhas : ∀ x, ((relabel scope X.env).names.lookup x = some .cell ∨ (relabel scope X.env).names.lookup x = some .free) → ∃ c, cl.lookup x = some c)
    (hvis : ∀ x ∈ Nc, (relabel scope X.env).names.lookup x = some .cell ∨ (relabel scope X.env).names.lookup x = some .free)
    (hs : ∀ x, foldedSetIterable iter X.env x = pure x := by intro _; rfl) : PUse X (.ListComp elt [⟨tg, iter, ifs, 0⟩] scope pos) (tComp wi tn ci g tc te) := by
  intro i x pos' hN hxi hx hfn pins s σ H Q I h
  unfold evalThenUse
  refine wpAny_bind (wpAny_comprehension_free (use := some (assign (.Name x pos') X.env)) rfl hs hclos hkind hnames (comp_run (Nt := Nt) (Nc := Nc) I hc hi hg hf he hkind hcell hcap hNt hsub hhas hvis h ?_))
  intro l C H' s' m hn I' h1 h2 h3 h4 h5 q
  show wpAny _ _ (assign (.Name x pos') X.env (.ref l)) _ _ _
  refine wpAny_bind (wpAny_standAt (wpAny_bindName (store_ok2 I' hN hxi hx (v := .ref l) rfl (fun s2 I2 ha => ?_) hfn)))
  obtain ⟨a, sb, ha⟩ := ha
  have ne : C ≠ a := by
    rcases ha with rfl | ha
    · exact h2
    · exact fun z => h4 _ _ ha z.symm
  obtain ⟨o, es, ep, e, r⟩ := hn
  refine ⟨m, ⟨o, es, ep, (sb.2 C ne).trans e, r⟩, fun h'' hs'' => wpAny_pure ⟨.ref l, H', I2.turned (t' := s2.toks) (fun b o hb e => hs''.extBut b o hb e) h1 h2 (.inr h3) h4 h5, q⟩⟩
theorem ps_use {i : Nat} {x : Str} {e : Expr} {te : TE} {pos' spos : Pos} (hN : X.N.Nodup) (hi : X.N[i]? = some x) (hx : Loc X.env.scope x) (he : PUse X e te) (hs : swapsWith e (some (.Name x pos')) spos.line X.env = pure true := by rfl) (hf : X.fn x = true ∨ X.env.scope.names.lookup x = some .local := by first | exact .inl rfl | exact .inr rfl | assumption) :
    PS X (.Assign [.Name x pos'] e spos) (tAsg te (gName i)) := by
  intro pins s σ H D I h
  rw [exec_Assign_Name_used _ _ _ _ hs]
  refine wpAny_bind (wpAny_standAt (wpAny_bind (thn (he i x pos' hN hi hx hf pins s σ H _ I h) fun _ s' ⟨v, H', I', q⟩ => wpAny_pure ⟨_, H', I', q⟩)))
end
end L2
namespace P2
open PySem L2 PyProof.Rows
noncomputable abbrev bits (x : Int) : Nat := Builtin.Int.intBits x
theorem opr_or {X : Cx} {f : Value → Value → Sem Value} {r r' : R2} (h : OpR X f r) (h' : OpR X f r') : OpR X f (fun x y H Q => r x y H Q ∨ r' x y H Q) :=
  fun pins s σ H x y v u Q I rx ry q => q.elim (h pins s σ H x y v u Q I rx ry) (h' pins s σ H x y v u Q I rx ry)
noncomputable def iB (C : Int → Int → Bool) (g : Int → Int → D) (x y : D) : R D := match x, y with
  | .int i, .int j => if C i j = true then .ok (g i j) else .bad
  | _, _ => .bad
section
variable {X : Cx} {E : XK}
theorem opd_I {op : Value → Value → Sem Value} {C : Int → Int → Prop} {Cb : Int → Int → Bool} {g : Int → Int → V} {gd : Int → Int → D} (ho : OpR X op (rI C g)) (hC : ∀ i j, Cb i j = true → C i j) (hg : ∀ i j K al H, Rep K al H (g i j) (gd i j)) : OpD X E op (iB Cb gd) := by
  refine ⟨_, ho, fun al H x y dx dy Q fr rx ry h => ?_⟩
  unfold iB at h
  split at h
  · rename_i i j
    cases rx; cases ry
    split at h
    · rename_i z
      exact ⟨i, j, rfl, rfl, hC i j z, h H (.refl H) _ (hg i j _ _ _)⟩
    · exact h.elim
  · exact h.elim
theorem opd_I0 {op : Value → Value → Sem Value} {g : Int → Int → V} {gd : Int → Int → D} (ho : OpR X op (rI0 g)) (hg : ∀ i j K al H, Rep K al H (g i j) (gd i j)) : OpD X E op (iB (fun _ _ => true) gd) := by
  refine ⟨_, ho, fun al H x y dx dy Q fr rx ry h => ?_⟩
  unfold iB at h
  split at h
  · rename_i i j
    cases rx; cases ry
    exact ⟨i, j, rfl, rfl, h H (.refl H) _ (hg i j _ _ _)⟩
  · exact h.elim
noncomputable def subD : D → D → R D := iB (fun _ _ => true) fun i j => .int (i - j)
theorem op_subD : OpD X E (binaryOp .Sub) subD := opd_I0 op_sub fun _ _ _ _ _ => .int _
noncomputable def okMul (i j : Int) : Bool := decide (bits i ≤ 1048576) && decide (bits j ≤ 1048576)
noncomputable def okDiv (_ j : Int) : Bool := decide (j ≠ 0) && decide (bits j ≤ 9000)
noncomputable def fdivD : D → D → R D := iB okDiv fun i j => .int (i.fdiv j)
theorem op_fdivD : OpD X E (binaryOp .FloorDiv) fdivD := opd_I op_fdivB (fun i j h => by unfold okDiv at h; simpa [CDivB] using h) fun _ _ _ _ _ => .int _
noncomputable def modD : D → D → R D := iB (fun _ j => decide (j ≠ 0)) fun i j => .int (i.fmod j)
theorem op_modD : OpD X E (binaryOp .Mod) modD := opd_I op_modN (fun i j h => by simpa using h) fun _ _ _ _ _ => .int _
noncomputable def ltD : D → D → R D := iB (fun _ _ => true) fun i j => .bl (decide (i < j))
noncomputable def leD : D → D → R D := iB (fun _ _ => true) fun i j => .bl (decide (i ≤ j))
noncomputable def gtD : D → D → R D := iB (fun _ _ => true) fun i j => .bl (decide (j < i))
noncomputable def geD : D → D → R D := iB (fun _ _ => true) fun i j => .bl (decide (j ≤ i))
theorem op_ltD : OpD X E (compareOp .Lt) ltD := opd_I0 op_lt fun _ _ _ _ _ => .bl _
theorem op_gtD : OpD X E (compareOp .Gt) gtD := opd_I0 op_gt fun _ _ _ _ _ => .bl _
noncomputable def negD : D → R D
  | .int i => .ok (.int (-i))
  | _ => .bad
noncomputable def SqF (K : PySem.W.Frag) (H : Hp) (a : Addr) (xs : List V) : Prop := Rd H a (.lst xs) ∨ KL K a xs
theorem SqF.is {X : Cx} {pins : List (Addr × Obj)} {s : Shared} {σ : L2.St} {H : Hp} {a : Addr} {xs : List V} (I : Inv X pins σ H s) (h : SqF X.K H a xs) : ∃ its n, Vals xs its ∧ s.heap.get? a = some { cls := .type "list", data := .seq its.toArray n } := by
  rcases h with h | ⟨its, n, h1, h2, h3⟩
  · obtain ⟨z, its, n, r, e⟩ := h.ok I.hok
    exact ⟨its, n, r, e⟩
  · exact ⟨its, n, h3, I.kIn a _ h1⟩
noncomputable def rCatR (K : PySem.W.Frag) : R2 := fun x y H Q => ∃ l b xs zs, x = .ref l ∧ y = .ref b ∧ SqF K H l xs ∧ SqF K H b zs ∧ xs.length + zs.length ≤ sizeLine ∧ ∀ p, H p = none → Q (.ref p) (upd H p (.lst (xs ++ zs)))
theorem op_catR : OpR X (binaryOp .Add) (rCatR X.K) := by
  intro pins s σ H x y v u Q I rx ry h
  obtain ⟨l, b, xs, zs, rfl, rfl, hH, hB, hz, q⟩ := h
  cases rx
  cases ry
  obtain ⟨its, n, r, e⟩ := hH.is I
  obtain ⟨its2, n2, r2, e2⟩ := hB.is I
  have hl := r.length
  have hl2 := r2.length
  refine PySem.P.add_list e e2 ?_ (by rw [List.size_toArray, List.size_toArray]; omega)
  have ea : its.toArray ++ its2.toArray = (its ++ its2).toArray := by simp
  rw [ea]
  exact ⟨.ref _, _, I.lnew (t' := s.toks) (r.append r2) (by rw [List.length_append]; omega), rfl, q _ I.fresh⟩
noncomputable def addD : D → D → R D
  | .int i, .int j => .ok (.int (i + j))
  | .str i, .str j => if i.length + j.length ≤ sizeLine then .ok (.str (i ++ j)) else .bad
  | .lst xs, .lst ys => if xs.length + ys.length ≤ sizeLine then .ok (.lst (xs ++ ys)) else .bad
  | _, _ => .bad
theorem op_addD : OpD X E (binaryOp .Add) addD := by
  refine ⟨_, opr_or op_add (opr_or op_add_str op_catR), fun al H x y dx dy Q fr rx ry h => ?_⟩
  unfold addD at h
  split at h
  · cases rx; cases ry; exact .inl ⟨_, _, rfl, rfl, h H (.refl H) _ (.int _)⟩
  · cases rx; cases ry
    split at h
    · rename_i z; exact .inr (.inl ⟨_, _, rfl, rfl, z, h H (.refl H) _ (.str _)⟩)
    · exact h.elim
  · split at h
    · rename_i z
      obtain ⟨a, vs, rfl, h1, h2⟩ := rx.lstRd
      obtain ⟨b, ws, rfl, h3, h4⟩ := ry.lstRd
      exact .inr (.inr ⟨a, b, vs, ws, rfl, rfl, h1, h3, by rw [h2.length, h4.length]; exact z, fun p hp => h _ (same_upd hp) _ ((h2.append h4).lstNew hp (fr p hp))⟩)
    · exact h.elim
  · exact h.elim
noncomputable def okMulS (x : Str) (n : Int) : Bool := !(decide (n < -(2 ^ 63 : Int)) || decide (n ≥ 2 ^ 63)) && decide (x.length * n.toNat ≤ 1000000) && decide (x.length ≤ 1000000) && decide (n ≤ 1000000)
theorem op_mul_str : OpR X (binaryOp .Mult) (fun x y H Q => ∃ i n, x = .str i ∧ y = .int n ∧ MulOk i n ∧ Q (.str (Txt.mul i n)) H) := by
  intro pins s σ H x y v u Q I rx ry h
  obtain ⟨i, j, rfl, rfl, hz, q⟩ := h
  obtain ⟨t, rfl⟩ := rx
  obtain ⟨t', rfl⟩ := ry
  exact SB.mul hz fun t'' k => ⟨.str _, H, I.tok _, ⟨_, rfl⟩, q⟩
theorem mulOk_of {x : Str} {n : Int} (h : okMulS x n = true) : MulOk x n := by
  unfold okMulS at h
  simp only [Bool.and_eq_true, decide_eq_true_eq, Bool.not_eq_true'] at h
  obtain ⟨⟨⟨h1, h2⟩, h3⟩, h4⟩ := h
  refine ⟨h1, fun h5 _ => ?_, fun _ _ => ?_⟩
  · have h6 : (1 : Int) ≤ n := by omega
    have h7 : (1000000 : Int) ≤ (2 ^ 63 - 1) / n := by
      apply (Int.le_ediv_iff_mul_le (by omega)).mpr
      have : (1000000 : Int) * n ≤ 1000000 * 1000000 := Int.mul_le_mul_of_nonneg_left h4 (by decide)
      omega
    omega
  · have : sizeLine = 16777216 := sizeLine_eq
    unfold Builtin.Str.tooLong
    simp only [decide_eq_false_iff_not]
    omega
noncomputable def flatEq : D → D → Option Bool
  | .non, .non => some true
  | .int i, .int j => some (decide (i = j))
  | .str i, .str j => some (decide (i = j))
  | .bl i, .bl j => some (decide (i = j))
  | .non, .int _ => some false
  | .int _, .non => some false
  | .non, .str _ => some false
  | .str _, .non => some false
  | .non, .bl _ => some false
  | .bl _, .non => some false
  | .int _, .str _ => some false
  | .str _, .int _ => some false
  | _, _ => none
noncomputable def eqSD (x y : D) : R D := match flatEq x y with
  | some b => .ok (.bl b)
  | none => .bad
noncomputable def neSD (x y : D) : R D := match flatEq x y with
  | some b => .ok (.bl (!b))
  | none => .bad
theorem flat_eq {K : PySem.W.Frag} {al : Addr → Prop} {H : Hp} {x y : V} {dx dy : D} {b : Bool} (rx : Rep K al H x dx) (ry : Rep K al H y dy) (h : flatEq dx dy = some b) : scal x y = true ∧ decide (x = y) = b := by
  unfold flatEq at h
  split at h <;> first | (cases h; done) | (cases rx; cases ry; cases h; refine ⟨rfl, ?_⟩; simp)
theorem op_eqSD : OpD X E (compareOp .Eq) eqSD := by
  refine ⟨_, op_eq, fun al H x y dx dy Q fr rx ry h => ?_⟩
  unfold eqSD at h
  cases q : flatEq dx dy with
  | none => rw [q] at h; exact h.elim
  | some b =>
    rw [q] at h
    obtain ⟨h1, h2⟩ := flat_eq rx ry q
    exact ⟨h1, by rw [h2]; exact h H (.refl H) _ (.bl b)⟩
theorem op_neSD : OpD X E (compareOp .NotEq) neSD := by
  refine ⟨_, op_ne, fun al H x y dx dy Q fr rx ry h => ?_⟩
  unfold neSD at h
  cases q : flatEq dx dy with
  | none => rw [q] at h; exact h.elim
  | some b =>
    rw [q] at h
    obtain ⟨h1, h2⟩ := flat_eq rx ry q
    exact ⟨h1, by rw [h2]; exact h H (.refl H) _ (.bl _)⟩
noncomputable def inSD : D → D → R D
  | .str i, .str j => .ok (.bl (Txt.contains j i))
  | _, _ => .bad
theorem op_inSD : OpD X E (compareOp .In) inSD := by
  refine ⟨_, op_in_str, fun al H x y dx dy Q fr rx ry h => ?_⟩
  unfold inSD at h
  split at h
  · cases rx; cases ry; exact ⟨_, _, rfl, rfl, h H (.refl H) _ (.bl _)⟩
  · exact h.elim
theorem Reps.atI {K : PySem.W.Frag} {al : Addr → Prop} {H : Hp} {vs : List V} {ds : List D} (r : Reps K al H vs ds) {i : Int} {d : D} (h : L2.atI ds i = some d) : ∃ v, L2.atI vs i = some v ∧ Rep K al H v d := by
  unfold L2.atI at h ⊢
  rw [r.length]
  cases q : ixN ds.length i with
  | none => rw [q] at h; cases h
  | some j =>
    rw [q] at h
    exact r.getD h
noncomputable def ixD : D → D → R D
  | .lst ds, .int i => match L2.atI ds i with
    | some d => .ok d
    | none => .bad
  | .tup ds, .int i => match L2.atI ds i with
    | some d => .ok d
    | none => .bad
  | .str z, .int i => if z.length ≤ sizeLine then (match L2.atI z.cps.toList i with
    | some c => .ok (.str ⟨#[c]⟩)
    | none => .bad) else .bad
  | _, _ => .bad
theorem ix_D : IxD X E ixD := by
  refine ⟨_, ix_seq, fun al H x y dx dy Q fr rx ry h => ?_⟩
  unfold ixD at h
  split at h
  · rename_i ds i
    cases ry
    cases q : L2.atI ds i with
    | none => rw [q] at h; exact h.elim
    | some d =>
      rw [q] at h
      obtain ⟨a, vs, rfl, h1, h2⟩ := rx.lstIn
      obtain ⟨v, e1, e2⟩ := Reps.atI h2 q
      exact .inl ⟨a, vs, i, v, rfl, rfl, h1, e1, h H (.refl H) _ e2⟩
  · rename_i ds i
    cases ry
    cases q : L2.atI ds i with
    | none => rw [q] at h; exact h.elim
    | some d =>
      rw [q] at h
      obtain ⟨a, vs, rfl, h1, h2⟩ := rx.tupIn
      obtain ⟨v, e1, e2⟩ := Reps.atI h2 q
      exact .inr (.inl ⟨a, vs, i, v, rfl, rfl, h1, e1, h H (.refl H) _ e2⟩)
  · rename_i z i
    cases rx; cases ry
    split at h
    · rename_i hz
      cases q : L2.atI z.cps.toList i with
      | none => rw [q] at h; exact h.elim
      | some c => rw [q] at h; exact .inr (.inr ⟨z, i, c, rfl, rfl, hz, q, h H (.refl H) _ (.str _)⟩)
    · exact h.elim
  · exact h.elim
noncomputable def rSlS : V → Option Int → Option Int → Hp → VK → Prop := fun x lo hi H Q => ∃ z, x = .str z ∧ z.length ≤ sizeLine ∧ Q (.str (Txt.slice z lo hi)) H
theorem sl_str : SlR X rSlS := by
  intro pins s σ H x v vl vu lo hi sl Q I rx hs pl pu h
  obtain ⟨z, rfl, hz, q⟩ := h
  obtain ⟨t, rfl⟩ := rx
  refine ⟨"str", _, PySem.F.slot_str_getitem.lookup, typeIs_str s z t, ?_⟩
  obtain ⟨o, h1, h2, h3⟩ := hs
  cases pl with
  | none =>
    cases pu with
    | none => exact wpAny_getItem_str_slice (l := none) (u := none) (st := none) ⟨o, h1, h2, h3⟩ rfl (post_val_or_str ⟨Nat.le_trans (Txt.slice_le z none none) hz, fun t' k => ⟨.str _, H, I.tok _, ⟨_, rfl⟩, q⟩⟩)
    | int j u => exact wpAny_getItem_str_slice (l := none) (u := some (j, u)) (st := none) ⟨o, h1, h2, h3⟩ rfl (post_val_or_str ⟨Nat.le_trans (Txt.slice_le z none (some j)) hz, fun t' k => ⟨.str _, H, I.tok _, ⟨_, rfl⟩, q⟩⟩)
  | int i ui =>
    cases pu with
    | none => exact wpAny_getItem_str_slice (l := some (i, ui)) (u := none) (st := none) ⟨o, h1, h2, h3⟩ rfl (post_val_or_str ⟨Nat.le_trans (Txt.slice_le z (some i) none) hz, fun t' k => ⟨.str _, H, I.tok _, ⟨_, rfl⟩, q⟩⟩)
    | int j u => exact wpAny_getItem_str_slice (l := some (i, ui)) (u := some (j, u)) (st := none) ⟨o, h1, h2, h3⟩ rfl (post_val_or_str ⟨Nat.le_trans (Txt.slice_le z (some i) (some j)) hz, fun t' k => ⟨.str _, H, I.tok _, ⟨_, rfl⟩, q⟩⟩)
noncomputable def cutD (xs : List D) (lo hi : Option Int) : List D := (xs.drop (HT.sIx xs.length 0 lo)).take (HT.sIx xs.length xs.length hi - HT.sIx xs.length 0 lo)
theorem Reps.cut {K : PySem.W.Frag} {al : Addr → Prop} {H : Hp} {vs : List V} {ds : List D} (r : Reps K al H vs ds) (lo hi : Option Int) : Reps K al H (cutV vs lo hi) (cutD ds lo hi) := by
  unfold cutV cutD
  rw [r.length]
  exact (r.drop _).take _
noncomputable def slD : D → Option Int → Option Int → R D
  | .lst ds, lo, hi => .ok (.lst (cutD ds lo hi))
  | .str z, lo, hi => if z.length ≤ sizeLine then .ok (.str (Txt.slice z lo hi)) else .bad
  | _, _, _ => .bad
theorem sl_D : SlD X E slD := by
  refine ⟨_, sl_list.or sl_str, fun al H x dx lo hi Q fr rx h => ?_⟩
  unfold slD at h
  split at h
  · obtain ⟨a, vs, rfl, h1, h2⟩ := rx.lstIn
    exact .inl ⟨a, vs, rfl, h1, fun p hp => h _ (same_upd hp) _ ((h2.cut lo hi).lstNew hp (fr p hp))⟩
  · cases rx
    split at h
    · rename_i hz; exact .inr ⟨_, rfl, hz, h H (.refl H) _ (.str _)⟩
    · exact h.elim
  · exact h.elim
noncomputable def lenD : List D → R D
  | [.str z] => if z.length ≤ sizeLine then .ok (.int z.length) else .bad
  | [.lst ds] => .ok (.int ds.length)
  | [.tup ds] => .ok (.int ds.length)
  | _ => .bad
theorem Reps.one {K : PySem.W.Frag} {al : Addr → Prop} {H : Hp} {vs : List V} {d : D} (r : Reps K al H vs [d]) : ∃ v, vs = [v] ∧ Rep K al H v d := by
  cases r with
  | cons a b => cases b; exact ⟨_, rfl, a⟩
theorem Reps.two {K : PySem.W.Frag} {al : Addr → Prop} {H : Hp} {vs : List V} {d e : D} (r : Reps K al H vs [d, e]) : ∃ v u, vs = [v, u] ∧ Rep K al H v d ∧ Rep K al H u e := by
  cases r with
  | cons a b => obtain ⟨u, rfl, q⟩ := Reps.one b; exact ⟨_, _, rfl, a, q⟩
theorem call_lenD : CallD X E (.builtin "len") lenD := by
  refine ⟨_, call_len_str.or call_len_seq, fun al H xs ds Q fr r h => ?_⟩
  unfold lenD at h
  split at h
  · obtain ⟨v, rfl, q⟩ := Reps.one r
    cases q
    split at h
    · rename_i hz; exact .inl ⟨_, rfl, hz, h H (.refl H) _ (.int _)⟩
    · exact h.elim
  · obtain ⟨v, rfl, q⟩ := Reps.one r
    obtain ⟨a, vs, rfl, h1, h2⟩ := q.lstIn
    exact .inr ⟨a, vs, rfl, .inl h1, by rw [h2.length]; exact h H (.refl H) _ (.int _)⟩
  · obtain ⟨v, rfl, q⟩ := Reps.one r
    obtain ⟨a, vs, rfl, h1, h2⟩ := q.tupIn
    exact .inr ⟨a, vs, rfl, .inr h1, by rw [h2.length]; exact h H (.refl H) _ (.int _)⟩
  · exact h.elim
noncomputable def absD : List D → R D
  | [.int i] => .ok (.int (if i < 0 then -i else i))
  | _ => .bad
theorem call_absD : CallD X E (.builtin "abs") absD := by
  refine ⟨_, call_abs, fun al H xs ds Q fr r h => ?_⟩
  unfold absD at h
  split at h
  · obtain ⟨v, rfl, q⟩ := Reps.one r
    cases q
    exact ⟨_, rfl, h H (.refl H) _ (.int _)⟩
  · exact h.elim
noncomputable def max2D : List D → R D
  | [.int i, .int j] => .ok (.int (if j > i then j else i))
  | _ => .bad
noncomputable def intD : List D → R D
  | [.str z] => match PySem.intText? z with
    | some n => if z.length ≤ 640 then .ok (.int n) else .bad
    | none => .bad
  | _ => .bad
theorem vals_bools : ∀ {bs : List Bool} {us : List Value}, Vals (bs.map V.bl) us → us = bs.map Value.bool
  | [], _, r => by cases r; rfl
  | b :: bs, _, r => by
    cases r with
    | cons r1 r2 => cases r1; rw [vals_bools r2]; rfl
theorem any_range (bs : List Bool) : (List.range bs.length).any (fun i => bs.getD i false) = bs.any id := by
  rw [Bool.eq_iff_iff]
  simp only [List.any_eq_true, List.mem_range, id]
  constructor
  · rintro ⟨i, hi, h⟩
    rw [List.getD_eq_getElem?_getD, List.getElem?_eq_getElem hi] at h
    exact ⟨_, List.getElem_mem hi, h⟩
  · rintro ⟨b, hb, h⟩
    obtain ⟨i, hi, rfl⟩ := List.getElem_of_mem hb
    exact ⟨i, hi, by rw [List.getD_eq_getElem?_getD, List.getElem?_eq_getElem hi]; exact h⟩
theorem call_any (hc : X.calm = true) : CallR X (.builtin "any") (fun xs H Q => ∃ (a : Addr) (bs : List Bool), xs = [.ref a] ∧ SqL X.K H a (bs.map V.bl) ∧ Q (.bl (bs.any id)) H) := by
  intro pins s σ H xs us Q I r h
  obtain ⟨a, bs, rfl, ha, q⟩ := h
  obtain ⟨u, rfl, ru⟩ := vals1 r
  cases ru
  obtain ⟨its, rv, pl, hz⟩ := I.list ha
  have ei := vals_bools rv
  subst ei
  refine call_any_walk (wpAny_pyIter_list pl.isList ?_)
  have hd : (X.A.in1).handled = none := I.ok.hd hc
  have hne : a ≠ s.heap.objs.size := Nat.ne_of_lt (by obtain ⟨o, e, _⟩ := pl.isList; exact Heap.lt_size e)
  refine ⟨s.heap.objs.size, _, _, _, _, _, fun i => bs.getD i false, rfl, Walks.list hd s.heap.objs.size a hne (bs.map Value.bool).toArray, ⟨⟨_, Heap.get?_push_size _ rfl, rfl, rfl⟩, pl.isList.at fun o e => Heap.get?_push_of_some _ e⟩, ?_, fun h' tk k => ?_⟩
  · intro i v s2 Q2 E2 hv hq
    have : v = Value.bool (bs.getD i false) := by
      simp only [List.getElem?_toArray, List.getElem?_map] at hv
      cases e : bs[i]? with
      | none => rw [e] at hv; cases hv
      | some b => rw [e] at hv; cases hv; rw [List.getD_eq_getElem?_getD, e]; rfl
    subst this
    exact wpAny_truthy_bool hq
  · refine ⟨.bl (bs.any id), H, I.kept (t' := tk) fun b o e => k b o (by simp only [List.mem_singleton]; exact Nat.ne_of_lt (Heap.lt_size e)) (Heap.get?_push_of_some _ e), ?_, q⟩
    show Value.bool _ = Value.bool _
    rw [List.size_toArray, List.length_map, any_range]
noncomputable def boolsD : List D → Option (List Bool)
  | [] => some []
  | .bl b :: r => (boolsD r).map (b :: ·)
  | _ => none
theorem Reps.bools {K : PySem.W.Frag} {al : Addr → Prop} {H : Hp} : ∀ {vs : List V} {ds : List D} {bs : List Bool}, Reps K al H vs ds → boolsD ds = some bs → vs = bs.map V.bl
  | _, [], bs, r, h => by cases r; cases h; rfl
  | _, .bl b :: ds, bs, r, h => by
    unfold boolsD at h
    obtain ⟨bs', h1, h2⟩ := Option.map_eq_some_iff.mp h
    subst h2
    cases r with
    | cons a q => cases a; rw [Reps.bools q h1]; rfl
  | _, .non :: _, _, _, h => by cases h
  | _, .int _ :: _, _, _, h => by cases h
  | _, .str _ :: _, _, _, h => by cases h
  | _, .ty _ :: _, _, _, h => by cases h
  | _, .ref _ :: _, _, _, h => by cases h
  | _, .tup _ :: _, _, _, h => by cases h
  | _, .lst _ :: _, _, _, h => by cases h
  | _, .exc _ _ _ :: _, _, _, h => by cases h
noncomputable def allD : List D → R D
  | [.lst ds] => match boolsD ds with
    | some bs => .ok (.bl (bs.all id))
    | none => .bad
  | _ => .bad
noncomputable def anyD : List D → R D
  | [.lst ds] => match boolsD ds with
    | some bs => .ok (.bl (bs.any id))
    | none => .bad
  | _ => .bad
theorem call_anyD (hc : X.calm = true) : CallD X E (.builtin "any") anyD := by
  refine ⟨_, call_any hc, fun al H xs ds Q fr r h => ?_⟩
  unfold anyD at h
  split at h
  · rename_i ds
    obtain ⟨v, rfl, q⟩ := Reps.one r
    obtain ⟨a, vs, rfl, h1, h2⟩ := q.lstIn
    cases e : boolsD ds with
    | none => rw [e] at h; exact h.elim
    | some bs =>
      rw [e] at h
      have e2 := Reps.bools h2 e
      subst e2
      exact ⟨a, bs, rfl, h1, h H (.refl H) _ (.bl _)⟩
  · exact h.elim
noncomputable def startsD : D → List D → R D
  | .str i, [.str j] => .ok (.bl (Txt.startswith i j))
  | _, _ => .bad
noncomputable def zfillD : D → List D → R D
  | .str z, [.int i] => if PadOk i = true then .ok (.str (Txt.zfill z i)) else .bad
  | _, _ => .bad
noncomputable def fmtD : D → R D
  | .str z => if z.length ≤ sizeLine then .ok (.str z) else .bad
  | .int i => if i.natAbs.log2 < 1920 then .ok (.str (toString i)) else .bad
  | _ => .bad
noncomputable def jNil (out : Str) : Ev → R D := fun _ => if out.length ≤ sizeLine then .ok (.str out) else .bad
noncomputable def jCons (a : Ev → R D) (r : Str → Ev → R D) (out : Str) : Ev → R D := fun ρ => (a ρ).bind fun x => match x with
  | .str y => if (out ++ y).length ≤ sizeLine then r (out ++ y) ρ else .bad
  | _ => .bad
end
end P2
namespace P2
open PySem L2 PyProof.Rows
noncomputable def wE (K : PySem.W.Frag) (E : XK) (f : Ev → R D) : TE := fun σ H Q => ∃ P H0 al ρ, RS K P H0 al H σ ρ ∧ Aft K al E H (f ρ) (fun d H' => ∀ v, Rep K al H' v d → Q v H')
noncomputable def wT (K : PySem.W.Frag) (E : XK) (f : Ev → R Bool) : TT := fun σ H Q => ∃ P H0 al ρ, RS K P H0 al H σ ρ ∧ Aft K al E H (f ρ) Q
noncomputable def wG (K : PySem.W.Frag) (l : List Nat) (a : D → Ev → Option Ev) : TG := fun v σ H Q => ∃ P H0 al ρ d, RS K P H0 al H σ ρ ∧ Rep K al H v d ∧ ∃ ρ', a d ρ = some ρ' ∧ ∀ σ', Kp l σ σ' → RS K P H0 al H σ' ρ' → Q σ' H
theorem DE.w {X : Cx} {E : XK} {e : Expr} {f : Ev → R D} (h : DE X E e f) : PE X e (wE X.K E f) := by
  obtain ⟨t, p, r⟩ := h
  intro pins s σ H Q I hq
  obtain ⟨P, H0, al, ρ, s1, a⟩ := hq
  exact p pins s σ H Q I (r P H0 al H σ ρ Q s1 a)
theorem DT.w {X : Cx} {E : XK} {e : Expr} {f : Ev → R Bool} (h : DT X E e f) : PT X e (wT X.K E f) := by
  obtain ⟨t, p, r⟩ := h
  intro pins s σ H Q I hq
  obtain ⟨P, H0, al, ρ, s1, a⟩ := hq
  exact p pins s σ H Q I (r P H0 al H σ ρ Q s1 a)
theorem DG.w {X : Cx} {tg : Expr} {l : List Nat} {a : D → Ev → Option Ev} (h : DG X tg l a) : PG X tg (wG X.K l a) := by
  obtain ⟨t, p, r⟩ := h
  intro pins s σ H v u Q I rv hq
  obtain ⟨P, H0, al, ρ, d, s1, rd, a⟩ := hq
  exact p pins s σ H v u Q I rv (r P H0 al H σ ρ v d Q s1 rd a)
noncomputable def DFt (X : Cx) (ifs : List Expr) (f : Ev → R Bool) : Prop := PF X ifs (wT X.K (fun _ _ _ => False) f)
theorem df_nil {X : Cx} : DFt X [] (fun _ => .ok true) := fun pins s σ H Q I h => by
  obtain ⟨P, H0, al, ρ, s1, a⟩ := h
  exact pf_nil pins s σ H Q I (a H (.refl H))
theorem df_one {X : Cx} {c : Expr} {f : Ev → R Bool} (h : DT X (fun _ _ _ => False) c f) : DFt X [c] f := pf_one h.w
noncomputable def capD (tn : Nat) (ci : List Nat) (ρ : Ev) : Ev := List.replicate tn .no ++ ci.map fun i => match ρ[i]? with
  | some (.sh d) => .sh d
  | _ => .no
noncomputable def okO {α : Type} : R α → Option α
  | .ok a => some a
  | _ => none
noncomputable def ofO {α : Type} : Option α → R α
  | some a => .ok a
  | none => .bad
noncomputable def compO (a : D → Ev → Option Ev) (c : Ev → R Bool) (e : Ev → R D) (ρ0 : Ev) : List D → Option (List D)
  | [] => some []
  | d :: r => (a d ρ0).bind fun ρ1 => (okO (c ρ1)).bind fun b => if b = true then (okO (e ρ1)).bind fun v => (compO a c e ρ0 r).bind fun vs => some (v :: vs) else compO a c e ρ0 r
noncomputable def dComp (fi : Ev → R (List D)) (tn : Nat) (ci : List Nat) (a : D → Ev → Option Ev) (c : Ev → R Bool) (e : Ev → R D) : Ev → R (List D) := fun ρ => (fi ρ).bind fun ds => if ds.length ≤ sizeLine then ofO (compO a c e (capD tn ci ρ) ds) else .bad
theorem okO_some {α : Type} {r : R α} {a : α} (h : okO r = some a) : r = .ok a := by
  cases r with
  | ok x => cases h; rfl
  | ex _ _ _ => cases h
  | bad => cases h
theorem rs_cap {K : PySem.W.Frag} {P : Addr → Prop} {H0 H2 : Hp} {al al' : Addr → Prop} {σ : L2.St} {ρ : Ev} {H1 : Hp} (s : RS K P H0 al H1 σ ρ) (x : Xt al H1 al' H2) (sm : Same K H1 H2) (fr : ∀ a, H2 a = none → al' a) (sub : ∀ a, al' a → al a) (tn : Nat) (ci : List Nat) :
    RS K al H1 al' H2 (capS tn ci σ) (capD tn ci ρ) where
  same := sm
  tt := sm.tt s.tt
  fresh := fr
  sub := sub
  pf := s.fresh
  len := by unfold capS capD; simp
  sh := fun j d h => by
    unfold capD at h
    by_cases hj : j < tn
    · rw [List.getElem?_append_left (by simpa using hj), List.getElem?_replicate, if_pos hj] at h; cases h
    · rw [List.getElem?_append_right (by simpa using hj), List.length_replicate, List.getElem?_map] at h
      cases q : ci[j - tn]? with
      | none => rw [q] at h; cases h
      | some i =>
        rw [q] at h
        have h' : (match ρ[i]? with | some (.sh d) => Sl.sh d | _ => .no) = .sh d := Option.some.inj h
        cases z : ρ[i]? with
        | none => rw [z] at h'; cases h'
        | some y =>
          rw [z] at h'
          cases y with
          | sh e =>
            cases h'
            obtain ⟨v, e1, e2⟩ := s.sh i d z
            refine ⟨v, ?_, e2.mv x⟩
            unfold capS
            rw [List.getElem?_append_right (by simpa using hj), List.length_replicate, List.getElem?_map, q]
            show some ((σ[i]?).getD none) = _
            rw [e1]; rfl
          | no => cases h'
          | ow _ => cases h'
  ow := fun j d h => by
    unfold capD at h
    by_cases hj : j < tn
    · rw [List.getElem?_append_left (by simpa using hj), List.getElem?_replicate, if_pos hj] at h; cases h
    · rw [List.getElem?_append_right (by simpa using hj), List.length_replicate, List.getElem?_map] at h
      cases q : ci[j - tn]? with
      | none => rw [q] at h; cases h
      | some i =>
        rw [q] at h
        have h' : (match ρ[i]? with | some (.sh d) => Sl.sh d | _ => .no) = .ow d := Option.some.inj h
        split at h' <;> cases h'
  apart := fun j k d d' b h _ _ _ => by
    exfalso
    unfold capD at h
    by_cases hj : j < tn
    · rw [List.getElem?_append_left (by simpa using hj), List.getElem?_replicate, if_pos hj] at h; cases h
    · rw [List.getElem?_append_right (by simpa using hj), List.length_replicate, List.getElem?_map] at h
      cases q : ci[j - tn]? with
      | none => rw [q] at h; cases h
      | some i =>
        rw [q] at h
        have h' : (match ρ[i]? with | some (.sh d) => Sl.sh d | _ => .no) = .ow d := Option.some.inj h
        split at h' <;> cases h'
section
variable {X : Cx} {E : XK} {tg iter elt : Expr} {ifs : List Expr} {scope : Scope} {pos : Pos} {fi : Ev → R (List D)} {a : D → Ev → Option Ev} {fc : Ev → R Bool} {fe : Ev → R D} {cl : List (Str × Addr)} {tn : Nat} {Nt Nc : List Str} {ci l : List Nat}
noncomputable def DNU (X : Cx) (E : XK) (e : Expr) (f : Ev → R (List D)) : Prop := ∃ t : TE, PE X e t ∧ PUse X e t ∧
  ∀ P H0 al H σ ρ (Q : VK), RS X.K P H0 al H σ ρ → Aft X.K al E H (f ρ) (fun ds H' => ∀ p vs, H' p = none → Reps X.K al H' vs ds → Q (.ref p) (upd H' p (.lst vs))) → t σ H Q
theorem DNU.dn {X : Cx} {E : XK} {e : Expr} {f : Ev → R (List D)} (h : DNU X E e f) : DN X E e f := let ⟨t, p, _, r⟩ := h; ⟨t, p, r⟩
theorem dnu_comp (hc : X.calm = true) (hi : DI X E tg iter fi) (hg : ∀ fp s3 H3 C, DG (X.comp scope (Nt ++ Nc) cl fp s3 H3 C) tg l a) (hl : ∀ j ∈ l, j < tn) (hf : ∀ fp s3 H3 C, DFt (X.comp scope (Nt ++ Nc) cl fp s3 H3 C) ifs fc)
    (he : ∀ fp s3 H3 C, DE (X.comp scope (Nt ++ Nc) cl fp s3 H3 C) (fun _ _ _ => False) elt fe)
    (hclos : closureFor scope X.env = pure cl) (hkind : scope.kind = .function) (hcell : ∀ y ∈ scope.names, y.2 ≠ .cell) (hnames : ∀ x ∈ scope.names, x.2 = .local → scope.names.lookup x.1 = some .local) (hcap : Caps X cl Nc ci) (hNt : Nt.length = tn)
    (hsub : ∀ x c, cl.lookup x = some c → X.env.cells.lookup x = some c) (hhas : ∀ x, ((relabel scope X.env).names.lookup x = some .cell ∨ (relabel scope X.env).names.lookup x = some .free) → ∃ c, cl.lookup x = some c)
    (hvis : ∀ x ∈ Nc, (relabel scope X.env).names.lookup x = some .cell ∨ (relabel scope X.env).names.lookup x = some .free)
    (hs : ∀ x, foldedSetIterable iter X.env x = pure x := by intro _; rfl) : DNU X E (.ListComp elt [⟨tg, iter, ifs, 0⟩] scope pos) (dComp fi tn ci a fc fe) := by
  obtain ⟨wi, pi, ri⟩ := hi
  refine ⟨_, pe_comp (te := wE X.K (fun _ _ _ => False) fe) (tc := wT X.K (fun _ _ _ => False) fc) (g := wG X.K l a) hc pi (fun fp s3 H3 C => (hg fp s3 H3 C).w) hf (fun fp s3 H3 C => (he fp s3 H3 C).w) hclos hkind hcell hnames hcap hNt hsub hhas hvis hs, pu_comp (te := wE X.K (fun _ _ _ => False) fe) (tc := wT X.K (fun _ _ _ => False) fc) (g := wG X.K l a) hc pi (fun fp s3 H3 C => (hg fp s3 H3 C).w) hf (fun fp s3 H3 C => (he fp s3 H3 C).w) hclos hkind hcell hnames hcap hNt hsub hhas hvis hs, fun P H0 al H σ ρ Q s h => ri _ _ _ _ _ _ _ s (Aft.mono (Aft.split h) fun ds H1 s1 h1 J wk => ?_)⟩
  intro p hp
  by_cases hz : ds.length ≤ sizeLine
  · rw [if_pos hz] at h1
    cases q : compO a fc fe (capD tn ci ρ) ds with
    | none => rw [q] at h1; exact h1.elim
    | some out =>
      rw [q] at h1
      have s2 := s.grow s1
      let al' : Addr → Prop := fun b => al b ∧ b ≠ p
      refine ⟨fun i m H2 => ∃ done rest accv, out = done ++ rest ∧ compO a fc fe (capD tn ci ρ) (ds.drop i) = some rest ∧ H2 p = some (.lst accv) ∧ Reps X.K al' H2 accv done ∧ Same X.K H1 H2 ∧ (∀ b, H2 b = none → al' b) ∧ m = ds.length - i ∧ i ≤ ds.length ∧ done.length ≤ i, ⟨_, [], out, [], rfl, q, upd_same, .nil, same_upd hp, fun b hb => ?_, rfl, Nat.zero_le _, Nat.le_refl _⟩, ?_⟩
      · have z : b ≠ p := fun w => by rw [w, upd_same] at hb; cases hb
        rw [upd_ne z] at hb
        exact ⟨s2.fresh b hb, z⟩
      · rintro i m H2 ⟨done, rest, accv, e1, e2, e3, e4, e5, e6, rfl, e7, e8⟩
        have x12 : Xt al H1 al' H2 := fun b o n hb w => ⟨⟨hb, ne_of_none w hp⟩, e5.at' _ _ n w⟩
        obtain ⟨w1, w2⟩ := wk al' H2 x12 e6
        by_cases hi : i < ds.length
        · right
          have ed : ds[i]? = some ds[i] := List.getElem?_eq_getElem hi
          obtain ⟨go, yl⟩ := w1 i _ ed
          refine ⟨go, fun x H3 y => ?_⟩
          obtain ⟨rfl, rx⟩ := yl x H3 y
          rw [List.drop_eq_getElem_cons hi] at e2
          unfold compO at e2
          obtain ⟨ρ1, a1, a2⟩ := Option.bind_eq_some_iff.mp e2
          obtain ⟨b, a3, a4⟩ := Option.bind_eq_some_iff.mp a2
          refine ⟨al, H1, al', capD tn ci ρ, ds[i], rs_cap s2 x12 e5 e6 (fun _ z => z.1) tn ci, rx, ρ1, a1, fun σ2 kp s3 => ⟨⟨?_, fun j hj => kp.2 j fun w => absurd (hl j w) (by omega)⟩, al, H1, al', ρ1, s3, ?_⟩⟩
          · rw [kp.1, capS_length]
          · rw [okO_some a3]
            intro H5 s5
            cases b with
            | false =>
              rw [if_neg Bool.false_ne_true] at a4 ⊢
              exact ⟨ds.length - (i + 1), by omega, done, rest, accv, e1, a4, s5.at' _ _ nt_lst e3, e4.up s5, e5.trans s5, fun b hb => e6 b (s5.free hb), rfl, hi, by omega⟩
            | true =>
              rw [if_pos rfl] at a4 ⊢
              obtain ⟨v, a5, a6⟩ := Option.bind_eq_some_iff.mp a4
              obtain ⟨vs, a7, a8⟩ := Option.bind_eq_some_iff.mp a6
              cases a8
              refine ⟨al, H1, al', ρ1, s3.grow s5, ?_⟩
              rw [okO_some a5]
              intro H6 s6 u ru
              have e36 := s6.at' _ _ nt_lst (s5.at' _ _ nt_lst e3)
              have x6 : Xt al' H6 al' (upd H6 p (.lst (accv ++ [u]))) := fun c o _ hc w => ⟨hc, by rw [upd_ne hc.2]; exact w⟩
              refine ⟨accv, e36, by rw [e4.length]; omega, ds.length - (i + 1), by omega, done ++ [v], vs, accv ++ [u], by rw [e1]; simp, a7, upd_same, ((((e4.up s5).up s6).append (.cons ru .nil)).mv x6), ?_, fun c hc => ?_, rfl, hi, by rw [List.length_append]; simp; omega⟩
              · exact ⟨fun c o n w => by
                  rw [upd_ne (ne_of_none w hp)]; exact s6.at' _ _ n (s5.at' _ _ n (e5.at' _ _ n w)), fun c w => by
                  by_cases z : c = p
                  · rw [z]; exact hp
                  · rw [upd_ne z] at w; exact e5.fr c (s5.fr c (s6.fr c w)), fun t => (s6.tt (s5.tt (e5.tt t))).upd (lst_tb e36).1 (lst_tb e36).2⟩
              · have z : c ≠ p := fun w => by rw [w, upd_same] at hc; cases hc
                rw [upd_ne z] at hc
                exact e6 c (s5.free (s6.free hc))
        · left
          have ei : i = ds.length := by omega
          rw [List.drop_eq_nil_of_le (by omega)] at e2
          cases e2
          rw [List.append_nil] at e1
          subst e1
          refine ⟨w2 i (by omega), ?_⟩
          let H' : Hp := fun b => if b = p then none else H2 b
          have hH : upd H' p (.lst accv) = H2 := by
            funext b
            by_cases z : b = p
            · subst z; rw [upd_same, e3]
            · rw [upd_ne z]; show (if b = p then none else H2 b) = _; rw [if_neg z]
          have sm : Same X.K H1 H' := ⟨fun b o n w => by
            show (if b = p then none else H2 b) = _
            rw [if_neg (ne_of_none w hp)]; exact e5.at' _ _ n w, fun b w => by
            by_cases z : b = p
            · rw [z]; exact hp
            · have w' : (if b = p then none else H2 b) = none := w
              rw [if_neg z] at w'; exact e5.fr b w', fun t => (e5.tt t).off (lst_tb e3).1 (lst_tb e3).2 fun b z => by show (if b = p then none else H2 b) = _; rw [if_neg z]⟩
          rw [← hH]
          refine h1 H' sm p accv (by show (if p = p then none else H2 p) = _; rw [if_pos rfl]) (e4.mv fun b o _ hb w => ⟨hb.1, ?_⟩)
          show (if b = p then none else H2 b) = _
          rw [if_neg hb.2]; exact w
  · rw [if_neg hz] at h1
    exact h1.elim
theorem dnu_comp0 (hc : X.calm = true) (hi : DI X E tg iter fi) (hg : ∀ fp s3 H3 C, DG (X.comp scope Nt [] fp s3 H3 C) tg l a) (hl : ∀ j ∈ l, j < tn) (hf : ∀ fp s3 H3 C, DFt (X.comp scope Nt [] fp s3 H3 C) ifs fc)
    (he : ∀ fp s3 H3 C, DE (X.comp scope Nt [] fp s3 H3 C) (fun _ _ _ => False) elt fe)
    (hfree : ∀ y ∈ scope.names, y.2 ≠ .free) (hkind : scope.kind = .function) (hcell : ∀ y ∈ scope.names, y.2 ≠ .cell) (hnames : ∀ x ∈ scope.names, x.2 = .local → scope.names.lookup x.1 = some .local) (hNt : Nt.length = tn)
    (hs : ∀ x, foldedSetIterable iter X.env x = pure x := by intro _; rfl) : DNU X E (.ListComp elt [⟨tg, iter, ifs, 0⟩] scope pos) (dComp fi tn [] a fc fe) := by
  have e : relabel scope X.env = scope := by
    have : scope.names.map (fun (n, k) => if (k == NameKind.free && X.env.scope.kind == .function && X.env.kindOf n == some .cell) then (n, NameKind.cell) else (n, k)) = scope.names := by
      refine map_eq_self fun y hy => ?_
      obtain ⟨n, k⟩ := y
      have : (k == NameKind.free) = false := by simpa using hfree _ hy
      simp [this]
    unfold relabel
    rw [this]
  refine dnu_comp (cl := []) (Nc := []) (ci := []) hc hi (by rw [List.append_nil]; exact hg) hl (by rw [List.append_nil]; exact hf) (by rw [List.append_nil]; exact he) (closureFor_none hfree) hkind hcell hnames .nil hNt (fun x c z => nomatch z) (fun x z => ?_) (fun x z => nomatch z) hs
  rw [e] at z
  rcases z with z | z
  · exact absurd rfl (hcell _ (PySem.mem_of_lookup z))
  · exact absurd rfl (hfree _ (PySem.mem_of_lookup z))
theorem dn_comp0 (hc : X.calm = true) (hi : DI X E tg iter fi) (hg : ∀ fp s3 H3 C, DG (X.comp scope Nt [] fp s3 H3 C) tg l a) (hl : ∀ j ∈ l, j < tn) (hf : ∀ fp s3 H3 C, DFt (X.comp scope Nt [] fp s3 H3 C) ifs fc)
    (he : ∀ fp s3 H3 C, DE (X.comp scope Nt [] fp s3 H3 C) (fun _ _ _ => False) elt fe)
    (hfree : ∀ y ∈ scope.names, y.2 ≠ .free) (hkind : scope.kind = .function) (hcell : ∀ y ∈ scope.names, y.2 ≠ .cell) (hnames : ∀ x ∈ scope.names, x.2 = .local → scope.names.lookup x.1 = some .local) (hNt : Nt.length = tn)
    (hs : ∀ x, foldedSetIterable iter X.env x = pure x := by intro _; rfl) : DN X E (.ListComp elt [⟨tg, iter, ifs, 0⟩] scope pos) (dComp fi tn [] a fc fe) := (dnu_comp0 hc hi hg hl hf he hfree hkind hcell hnames hNt hs).dn
end
noncomputable def Its (x : Str) : It := ⟨fun i _ => i < x.cps.size, fun i H v H' => H' = H ∧ ∃ c, x.cps[i]? = some c ∧ v = .str ⟨#[c]⟩, fun i _ => x.cps.size ≤ i⟩
theorem turn_ascii {P : Program} {w : World} {K : PySem.W.Frag} {tg : Expr} (x : Str) (t : Tok) (it : Addr) : Turn P w K tg (Its x) [it] it (fun i h => h.IsStrIter it "str_ascii_iterator" x t i) where
  mem := by simp
  obj := fun i h st b hb => by
    have e : b = it := by simpa using hb
    subst e
    obtain ⟨o, e, c, d⟩ := st
    exact ⟨o, e, fun v z => by rw [d] at z; cases z⟩
  keep := fun i h h' st k => let ⟨o, ho, r⟩ := st; ⟨o, k it (by simp) o ho, r⟩
  item := by
    intro X hP hw hK hcalm i pins s σ H E I hf st hg
    subst hP hw hK
    obtain ⟨f0, f1, f2, f3, f4, f5⟩ := hf it (by simp)
    have hg' : i < x.cps.size := hg
    refine wpAny_pyNext_ascii_item st (c := x.cps[i]) (by simp [hg']) fun h' st' sb => ?_
    have I1 : Inv X pins σ H { s with heap := h', toks := s.toks + 1 } := I.turned (fun b o hb e => (sb.2 b hb).trans e) f0 f1 f3 f4 f5
    obtain ⟨o, e, c, d⟩ := id st'
    exact ⟨_, rfl, go_of (s := { s with heap := h', toks := s.toks + 1 }) e c d (by decide) ⟨.str ⟨#[x.cps[i]]⟩, H, I1, ⟨_, rfl⟩, ⟨rfl, x.cps[i], by simp [hg'], rfl⟩, st', fun b hb => (hf b hb).1⟩⟩
  done := by
    intro X hP hw hK hcalm i pins s σ H E I hf st hg
    subst hP hw hK
    obtain ⟨f0, f1, f2, f3, f4, f5⟩ := hf it (by simp)
    have hg' : x.cps.size ≤ i := hg
    exact wpAny_pyNext_ascii_end (I.ok.hd hcalm) st (by simp [hg']) fun h' eb => ⟨rfl, I.turned (t' := s.toks) (fun b o hb e => eb b o hb e) f0 f1 f3 f4 f5⟩
  self := fun _ _ _ _ _ st h => wpAny_pyIter_striter_ascii st h
theorem turn_wide {P : Program} {w : World} {K : PySem.W.Frag} {tg : Expr} (x : Str) (t : Tok) (it : Addr) : Turn P w K tg (Its x) [it] it (fun i h => h.IsStrIter it "str_iterator" x t i) where
  mem := by simp
  obj := fun i h st b hb => by
    have e : b = it := by simpa using hb
    subst e
    obtain ⟨o, e, c, d⟩ := st
    exact ⟨o, e, fun v z => by rw [d] at z; cases z⟩
  keep := fun i h h' st k => let ⟨o, ho, r⟩ := st; ⟨o, k it (by simp) o ho, r⟩
  item := by
    intro X hP hw hK hcalm i pins s σ H E I hf st hg
    subst hP hw hK
    obtain ⟨f0, f1, f2, f3, f4, f5⟩ := hf it (by simp)
    have hg' : i < x.cps.size := hg
    refine wpAny_pyNext_wide_item st (c := x.cps[i]) (by simp [hg']) fun h' st' sb => ?_
    have I1 : Inv X pins σ H { s with heap := h', toks := s.toks + 1 } := I.turned (fun b o hb e => (sb.2 b hb).trans e) f0 f1 f3 f4 f5
    obtain ⟨o, e, c, d⟩ := id st'
    exact ⟨_, rfl, go_of (s := { s with heap := h', toks := s.toks + 1 }) e c d (by decide) ⟨.str ⟨#[x.cps[i]]⟩, H, I1, ⟨_, rfl⟩, ⟨rfl, x.cps[i], by simp [hg'], rfl⟩, st', fun b hb => (hf b hb).1⟩⟩
  done := by
    intro X hP hw hK hcalm i pins s σ H E I hf st hg
    subst hP hw hK
    obtain ⟨f0, f1, f2, f3, f4, f5⟩ := hf it (by simp)
    have hg' : x.cps.size ≤ i := hg
    exact wpAny_pyNext_wide_end (I.ok.hd hcalm) st (by simp [hg']) fun h' eb => ⟨rfl, I.turned (t' := s.toks) (fun b o hb e => eb b o hb e) f0 f1 f3 f4 f5⟩
  self := fun _ _ _ _ _ st h => wpAny_pyIter_striter_wide st h
section
variable {X : Cx} {E : XK} {tg e : Expr} {f : Ev → R D}
noncomputable def iStr (tl : TE) : TI := fun σ H R => tl σ H fun x H1 => ∃ z, x = .str z ∧ R (Its z) H1
theorem pi_str {l : Expr} {tl : TE} (hl : PE X l tl) : PI X tg l (iStr tl) := by
  intro pins s σ H R I h
  refine thn (hl pins s σ H _ I h) fun v s1 ⟨x, H1, I1, r1, q1⟩ => ?_
  obtain ⟨z, e, q⟩ := q1
  subst e
  obtain ⟨t, rfl⟩ := r1
  have fp : ∀ b ∈ [s1.heap.objs.size], FpOk X pins H1 b := fun b hb => by
    have e : b = s1.heap.objs.size := by simpa using hb
    subst e
    exact I1.fpOk (Nat.le_refl _) (I1.hok.fresh (Nat.le_refl _))
  cases ha : z.cps.all (· < 128) with
  | true =>
    refine wpAny_pyIter_ascii ha ?_
    exact ⟨s1.heap.objs.size, [s1.heap.objs.size], _, _, H1, rfl, I1.kept (t' := s1.toks) fun b o e => Heap.get?_push_of_some _ e, turn_ascii z t _, ⟨_, Heap.get?_push_size _ rfl, rfl, rfl⟩, fp, q⟩
  | false =>
    refine wpAny_pyIter_wide ha ?_
    exact ⟨s1.heap.objs.size, [s1.heap.objs.size], _, _, H1, rfl, I1.kept (t' := s1.toks) fun b o e => Heap.get?_push_of_some _ e, turn_wide z t _, ⟨_, Heap.get?_push_size _ rfl, rfl, rfl⟩, fp, q⟩
noncomputable def signs (z : Str) : List D := z.cps.toList.map fun c => .str ⟨#[c]⟩
theorem wk_str {K : PySem.W.Frag} {al : Addr → Prop} {H : Hp} {z : Str} : Wk K al H (Its z) (signs z) := by
  intro al' H' x fr
  refine ⟨fun i d h => ?_, fun i h => ?_⟩
  · unfold signs at h
    rw [List.getElem?_map, Array.getElem?_toList] at h
    cases q : z.cps[i]? with
    | none => rw [q] at h; cases h
    | some c =>
      rw [q] at h; cases h
      refine ⟨(Array.getElem?_eq_some_iff.mp q).1, fun y H'' w => ⟨w.1, ?_⟩⟩
      obtain ⟨c', e1, e2⟩ := w.2
      rw [q] at e1; cases e1
      subst e2
      exact .str _
  · unfold signs at h
    show z.cps.size ≤ i
    simpa using h
noncomputable def asI (d : D) : R (List D) := match d with
  | .lst ds => .ok ds
  | .tup ds => .ok ds
  | .str z => .ok (signs z)
  | _ => .bad
theorem di_any (he : DE X E e f) : DI X E tg e (fun ρ => (f ρ).bind asI) := by
  obtain ⟨t, p, r⟩ := he
  refine ⟨_, pi_or (pi_list p) (pi_or (pi_tup p) (pi_str p)), fun P H0 al H σ ρ R s h => ?_⟩
  dsimp only at h
  cases q : f ρ with
  | bad => rw [q] at h; exact h.elim
  | ex c ns ds => rw [q] at h; exact .inl (r _ _ _ _ _ _ _ s (by rw [q]; exact h))
  | ok d =>
    rw [q] at h
    cases d with
    | lst ds =>
      left
      refine r _ _ _ _ _ _ _ s ?_
      rw [q]
      intro H1 s1 v rv
      obtain ⟨a, vs, e1, e2, e3⟩ := rv.lstIn
      subst e1
      exact ⟨a, rfl, ⟨vs, e2⟩, h H1 s1 _ (wk_list rv)⟩
    | tup ds =>
      right; left
      refine r _ _ _ _ _ _ _ s ?_
      rw [q]
      intro H1 s1 v rv
      obtain ⟨a, vs, e1, e2, e3⟩ := rv.tupIn
      subst e1
      exact ⟨a, rfl, ⟨vs, e2⟩, h H1 s1 _ (wk_tup rv)⟩
    | str z =>
      right; right
      refine r _ _ _ _ _ _ _ s ?_
      rw [q]
      intro H1 s1 v rv
      cases rv
      exact ⟨z, rfl, h H1 s1 _ wk_str⟩
    | _ => exact (h : False).elim
end
noncomputable def tyName : D → Option String
  | .non => some "NoneType"
  | .bl _ => some "bool"
  | .int _ => some "int"
  | .str _ => some "str"
  | .lst _ => some "list"
  | .tup _ => some "tuple"
  | _ => none
noncomputable def knowT : List String := ["NoneType", "bool", "int", "str", "list", "tuple"]
theorem kit_all (K : PySem.W.Frag) : ∀ T ∈ knowT, ∀ n ∈ knowT, PySem.W.kitOne K (.type T) (.type n) = some (T == n || (T == "bool" && n == "int")) := by
  intro T hT n hn
  simp only [knowT, List.mem_cons, List.not_mem_nil, or_false] at hT hn
  rcases hT with rfl | rfl | rfl | rfl | rfl | rfl <;> rcases hn with rfl | rfl | rfl | rfl | rfl | rfl <;> first | rfl | kernel_rfl
noncomputable def isD : List D → R D
  | [d, .ty n] => match tyName d with
    | some T => if knowT.contains n then .ok (.bl (T == n || (T == "bool" && n == "int"))) else .bad
    | none => .bad
  | _ => .bad
section
variable {X : Cx} {E : XK}
noncomputable def rIsD (X : Cx) : List V → Hp → VK → Prop := fun xs H Q => ∃ x n T, xs = [x, .ty n] ∧ knowT.contains T = true ∧ knowT.contains n = true ∧
  ((x = .non ∧ T = "NoneType") ∨ (∃ b, x = .bl b ∧ T = "bool") ∨ (∃ i, x = .int i ∧ T = "int") ∨ (∃ z, x = .str z ∧ T = "str") ∨ (∃ a vs, x = .ref a ∧ SqL X.K H a vs ∧ T = "list") ∨ (∃ a vs, x = .ref a ∧ SqT X.K H a vs ∧ T = "tuple")) ∧ Q (.bl (T == n || (T == "bool" && n == "int"))) H
theorem call_isD : CallR X (.builtin "isinstance") (rIsD X) := by
  intro pins s σ H xs us Q I r h
  obtain ⟨x, n, T, rfl, kT, kn, hx, q⟩ := h
  obtain ⟨u, c, rfl, ru, rc⟩ := vals2 r
  cases rc
  have e := kit_all X.K T (by simpa using kT) n (by simpa using kn)
  have fin : ∀ tk, EP X pins σ Q (.bool (T == n || (T == "bool" && n == "int"))) { s with toks := tk } := fun tk => ⟨.bl _, H, I.tok tk, rfl, q⟩
  rcases hx with ⟨rfl, rfl⟩ | ⟨b, rfl, rfl⟩ | ⟨i, rfl, rfl⟩ | ⟨z, rfl, rfl⟩ | ⟨a, vs, rfl, ha, rfl⟩ | ⟨a, vs, rfl, ha, rfl⟩
  · cases ru; exact PySem.W.kia_one PySem.W.kitx_none I.kIn True.intro e (fun z => nomatch z) fin
  · cases ru; exact PySem.W.kia_one PySem.W.kitx_bool I.kIn True.intro e (fun z => nomatch z) fin
  · obtain ⟨t, rfl⟩ := ru; exact PySem.W.kia_one PySem.W.kitx_int I.kIn True.intro e (fun z => nomatch z) fin
  · obtain ⟨t, rfl⟩ := ru; exact PySem.W.kia_one PySem.W.kitx_str I.kIn True.intro e (fun z => nomatch z) fin
  · cases ru
    obtain ⟨its, _, pl, _⟩ := I.list ha
    obtain ⟨o, k, e1, e2, _⟩ := pl
    exact PySem.W.kia_one PySem.W.kitx_list I.kIn ⟨o, e1, e2⟩ e (fun z => nomatch z) fin
  · cases ru
    obtain ⟨its, _, pl, _⟩ := I.tuple ha
    obtain ⟨o, e1, e2, _⟩ := pl
    exact PySem.W.kia_one PySem.W.kitx_tuple I.kIn ⟨o, e1, e2⟩ e (fun z => nomatch z) fin
theorem call_isinstD : CallD X E (.builtin "isinstance") isD := by
  refine ⟨_, call_isD, fun al H xs ds Q fr r h => ?_⟩
  unfold isD at h
  split at h
  · rename_i d n
    obtain ⟨v, u, rfl, q, q2⟩ := Reps.two r
    cases q2
    cases e : tyName d with
    | none => rw [e] at h; exact h.elim
    | some T =>
      rw [e] at h
      dsimp only at h
      split at h
      · rename_i hn
        have hq := h H (.refl H) _ (.bl _)
        cases q with
        | non => cases e; exact ⟨_, n, _, rfl, rfl, hn, .inl ⟨rfl, rfl⟩, hq⟩
        | bl b => cases e; exact ⟨_, n, _, rfl, rfl, hn, .inr (.inl ⟨b, rfl, rfl⟩), hq⟩
        | int b => cases e; exact ⟨_, n, _, rfl, rfl, hn, .inr (.inr (.inl ⟨b, rfl, rfl⟩)), hq⟩
        | str b => cases e; exact ⟨_, n, _, rfl, rfl, hn, .inr (.inr (.inr (.inl ⟨b, rfl, rfl⟩))), hq⟩
        | lst p _ => cases e; exact ⟨_, n, _, rfl, rfl, hn, .inr (.inr (.inr (.inr (.inl ⟨_, _, rfl, p.elim (fun z => .inl z.2) KL.sq, rfl⟩)))), hq⟩
        | tup p _ => cases e; exact ⟨_, n, _, rfl, rfl, hn, .inr (.inr (.inr (.inr (.inr ⟨_, _, rfl, p.elim (fun z => .inl z.2) .inr, rfl⟩)))), hq⟩
        | _ => cases e
      · exact h.elim
  · exact h.elim
end
end P2
namespace P2
open PySem L2 PyProof.Rows
theorem bt_isinstance : bootBuiltins "isinstance" = some (.builtin "isinstance") := by decide +kernel
theorem bt_len : bootBuiltins "len" = some (.builtin "len") := by decide +kernel
theorem bt_abs : bootBuiltins "abs" = some (.builtin "abs") := by decide +kernel
theorem bt_max : bootBuiltins "max" = some (.builtin "max") := by decide +kernel
theorem bt_any : bootBuiltins "any" = some (.builtin "any") := by decide +kernel
theorem bt_int : bootBuiltins "int" = some (.type "int") := by decide +kernel
theorem bt_bool : bootBuiltins "bool" = some (.type "bool") := by decide +kernel
theorem bt_str : bootBuiltins "str" = some (.type "str") := by decide +kernel
theorem bt_tuple : bootBuiltins "tuple" = some (.type "tuple") := by decide +kernel
theorem bt_list : bootBuiltins "list" = some (.type "list") := by decide +kernel
section
variable {X : Cx} {E : XK} {x : Str} {pos : Pos}
inductive GlV (mg : Str → Option Value) (x : Str) : D → Prop
  | int {i : Int} {t : Tok} : mg x = some (.int i t) → GlV mg x (.int i)
  | str {z : Str} {t : Tok} : mg x = some (.str z t) → GlV mg x (.str z)
theorem Reps.look {K : PySem.W.Frag} {al : Addr → Prop} {H : Hp} {field : Str} {d : D} : ∀ {ns : List Str} {vs : List V} {ds : List D}, Reps K al H vs ds → (ns.zip ds).lookup field = some d → ∃ v, (ns.zip vs).lookup field = some v ∧ Rep K al H v d
  | [], _, _, _, h => by simp at h
  | _ :: _, _, [], _, h => by simp at h
  | n :: ns, _, e :: ds, r, h => by
    cases r with
    | cons a b =>
      rw [List.zip_cons_cons, List.lookup_cons] at h ⊢
      cases q : field == n with
      | true => rw [q] at h; cases h; exact ⟨_, rfl, a⟩
      | false => rw [q] at h; exact Reps.look b h
end
section
variable {P : Program} {w : World} {K : PySem.W.Frag} {mg : Str → Option Value} {base : Heap}
end
end P2
namespace Fx
open PySem
section
variable {prog : Program} {w : World} {A : Around} {E : Value → Shared → Prop} {h : Heap} {g : Array GenState} {d : Drawn} {t : Nat} {os : OsState}
variable {nm q : Str} {C N : Addr} {bs bm bmB : List Value} {hdct : Bool} {sn : List Str} {sub : List Value} {ab : Bool} {col : Option Bool} {dd : Option Addr} {k0 k1 k2 k3 k5 : Option Value} {newId : String}
theorem class_get_exc {x : Addr} {o : Obj} {R : Result → Shared → Prop} (hC : h.get? C = some (excClassObj nm q C N bs bm hdct sn sub ab col dd k0 k1 k2 k3 k5 newId)) (hob : bm.contains (.type "object") = true)
    (hx : h.get? x = some o) (hc : o.cls = .ref C) (hq : R (.ok (.ret (.ref C))) ⟨h, g, d, t, os⟩) :
    codeAny (model prog w) A (.call (.builtin "getset_descriptor.__get__") ⟨[.builtin "object.__class__", .ref x, .ref C], []⟩) R ⟨h, g, d, t, os⟩ := by
  have hT5 : (⟨h, g, d, t, os⟩ : Shared).TypeIs (.builtin "object.__class__") "getset_descriptor" := PySem.F.typeOf_object_class
  have ow : ".".intercalate ("object.__class__".cutAt '.').dropLast = "object" := by decide +kernel
  have hcB : (Value.ref C :: bm).contains (.type (".".intercalate ("object.__class__".cutAt '.').dropLast)) = true := by rw [ow, List.contains_cons, hob, Bool.or_true]
  refine codeAny_call_builtin PySem.F.slot_gs_get.plain PySem.F.entry_gs_get (PySem.F.slot_gs_get.check _ _ _ _ _ _ _ _ hT5 (PySem.F.args_gs_get _ _ _) ?_)
  repeat (any_goals (first | assumption | (with_reducible refine wpAny_loadPart_at hx ?_; rw [hc]) | (with_reducible refine wpAny_isSubtype_exc hC ?_; rw [hcB]) | wp_step))
  refine ⟨Code.quiet_builtin _ (by decide +kernel), codeAny_builtin PySem.F.entry_object_class ?_⟩
  repeat (any_goals (first | assumption | (with_reducible refine wpAny_loadPart_at hx ?_; rw [hc]) | wp_step))
theorem class_entry_exc {x : Addr} {o : Obj} {tk : Tok} {Q : Fin → Shared → Prop} (hC : h.get? C = some (excClassObj nm q C N bs bm hdct sn sub ab col dd k0 k1 k2 k3 k5 newId)) (hob : bm.contains (.type "object") = true)
    (l3 : Tlk h C "__class__" (some (.builtin "object.__class__"))) (hx : h.get? x = some o) (hc : o.cls = .ref C) (hq : Q (.done (.ret (.ref C))) ⟨h, g, d, t, os⟩) :
    wpAny (model prog w) A (Builtin.«object.__getattribute__» ⟨[.ref x, .str "__class__" tk], []⟩) Q E ⟨h, g, d, t, os⟩ := by
  have hT5 : (⟨h, g, d, t, os⟩ : Shared).TypeIs (.builtin "object.__class__") "getset_descriptor" := PySem.F.typeOf_object_class
  have f5 := PySem.F.typeOf_object_class
  have f6 := PySem.F.slot_gs_get.lookup
  have f7 := PySem.F.slot_gs_set.lookup
  repeat (any_goals (first | assumption | (with_reducible refine wpAny_loadPart_at hx ?_; rw [hc]) | with_reducible refine l3 _ _ _ _ _ _ _ _ ?_ | wp_step))
  refine class_get_exc hC hob hx hc ?_
  repeat (any_goals (first | assumption | wp_step))
theorem check_ga_excH {M : Model} {x : Addr} {o : Obj} {nv : Value} {Q : Unit → Shared → Prop} (hC : h.get? C = some (excClassObj nm q C N bs bm hdct sn sub ab col dd k0 k1 k2 k3 k5 newId))
    (hob : bm.contains (.type "BaseException") = true) (hx : h.get? x = some o) (hc : o.cls = .ref C) (hq : Q () ⟨h, g, d, t, os⟩) : wpAny M A (checkBuiltinCall "BaseException.__getattribute__" ⟨[.ref x, nv], []⟩) Q E ⟨h, g, d, t, os⟩ := by
  have hk : builtinKind "BaseException.__getattribute__" = some .slot := by decide +kernel
  have hsp : splitId "BaseException.__getattribute__" = some ("BaseException", "__getattribute__") := by decide +kernel
  have hcB : (Value.ref C :: bm).contains (.type "BaseException") = true := by rw [List.contains_cons, hob, Bool.or_true]
  have ha := PySem.F.args_bexc_ga (.ref x) nv
  simp only [checkBuiltinCall, hk, hsp]
  refine wpAny_bind ?_
  unfold isInstance
  repeat (first | (with_reducible refine wpAny_loadPart_at hx ?_; rw [hc]) | (with_reducible refine wpAny_isSubtype_exc hC ?_; rw [hcB]) | wp_step)
  exact hq
theorem class_by_exc {x : Addr} {o : Obj} {tk : Tok} {Q : Value → Shared → Prop} (hC : h.get? C = some (excClassObj nm q C N bs bm hdct sn sub ab col dd k0 k1 k2 k3 k5 newId)) (hb : bm.contains (.type "BaseException") = true) (hob : bm.contains (.type "object") = true)
    (l1 : Tlk h C "__getattribute__" (some (.builtin "BaseException.__getattribute__"))) (l2 : Tlk h C "__getattr__" none) (l3 : Tlk h C "__class__" (some (.builtin "object.__class__"))) (hx : h.get? x = some o) (hc : o.cls = .ref C) (hq : Q (.ref C) ⟨h, g, d, t, os⟩) :
    wpAny (model prog w) A (getAttrBy (.ref x) (.str "__class__" tk) false) Q E ⟨h, g, d, t, os⟩ := by
  have FB := PySem.F.attr_ValueError
  have f3 := FB.ga.bind (.ref x)
  have z2 : (Value.builtin "BaseException.__getattribute__" == Value.builtin "object.__getattribute__") = false := by decide +kernel
  have z1 : (onTheHeap (Value.ref C) && Value.builtin "BaseException.__getattribute__" == Value.builtin "object.__getattribute__") = false := by rw [z2]; rfl
  repeat (any_goals (first | assumption | (with_reducible refine wpAny_loadPart_at hx ?_; rw [hc]) | with_reducible refine l1 _ _ _ _ _ _ _ _ ?_ | with_reducible refine l2 _ _ _ _ _ _ _ _ ?_ | wp_step))
  refine codeAny_call_builtin FB.ga.plain PySem.F.entry_bexc_ga (check_ga_excH hC hb hx hc (class_entry_exc hC hob l3 hx hc ?_))
  repeat (any_goals (first | assumption | wp_step))
theorem class_attr_exc {x : Addr} {o : Obj} {Q : Option Value → Shared → Prop} (hC : h.get? C = some (excClassObj nm q C N bs bm hdct sn sub ab col dd k0 k1 k2 k3 k5 newId)) (hb : bm.contains (.type "BaseException") = true) (hob : bm.contains (.type "object") = true)
    (l1 : Tlk h C "__getattribute__" (some (.builtin "BaseException.__getattribute__"))) (l2 : Tlk h C "__getattr__" none) (l3 : Tlk h C "__class__" (some (.builtin "object.__class__"))) (hx : h.get? x = some o) (hc : o.cls = .ref C) (hq : Q (some (.ref C)) ⟨h, g, d, t + 1, os⟩) :
    wpAny (model prog w) A (getAttr? (.ref x) "__class__") Q E ⟨h, g, d, t, os⟩ := by
  unfold getAttr? getAttrBy?
  repeat (any_goals (first | assumption | with_reducible apply class_by_exc hC hb hob l1 l2 l3 hx hc | wp_step))
end
end Fx
namespace L2
open PySem PySem.Spec PyProof.Rows
structure YCls (K : PySem.W.Frag) (C : Addr) : Prop where
  ob : ∀ h : Heap, K.In h → ∃ nm q N bs bm hdct sn sub ab col dd k0 k1 k2 k3 k5 newId, h.get? C = some (excClassObj nm q C N bs bm hdct sn sub ab col dd k0 k1 k2 k3 k5 newId) ∧ bm.contains (.type "BaseException") = true ∧ bm.contains (.type "object") = true
  ga : PySem.W.findIn K (.ref C) "__getattribute__" = some (some (.builtin "BaseException.__getattribute__"))
  gn : PySem.W.findIn K (.ref C) "__getattr__" = some none
  cl : PySem.W.findIn K (.ref C) "__class__" = some (some (.builtin "object.__class__"))
theorem XCls.y {K : PySem.W.Frag} {C fI : Addr} {field : Str} (c : XCls K C fI field) (cl : PySem.W.findIn K (.ref C) "__class__" = some (some (.builtin "object.__class__"))) : YCls K C := by
  refine ⟨fun h k => ?_, c.ga, c.gn, cl⟩
  obtain ⟨bm, N, nm, qn, bs, sn, sub, ab, col, dd, k0, k1, k2, k3, k5, all⟩ := exc_objI c.cls
  obtain ⟨hC, T, _⟩ := all _ k
  exact ⟨_, _, _, _, _, _, _, _, _, _, _, _, _, _, _, _, _, hC, T.hasType (by rfl), T.hasType (by rfl)⟩
structure ZCls (K : PySem.W.Frag) (C : Addr) : Prop where
  cls : PySem.W.excIn K C [.type "ValueError", .type "Exception", .type "BaseException", .type "object"] "ValueError.__new__" = true
  kp : PySem.W.keepIn K (.ref C) = true
  ga : PySem.W.findIn K (.ref C) "__getattribute__" = some (some (.builtin "BaseException.__getattribute__"))
  gn : PySem.W.findIn K (.ref C) "__getattr__" = some none
  cl : PySem.W.findIn K (.ref C) "__class__" = some (some (.builtin "object.__class__"))
theorem ZCls.y {K : PySem.W.Frag} {C : Addr} (c : ZCls K C) : YCls K C := by
  refine ⟨fun h k => ?_, c.ga, c.gn, c.cl⟩
  obtain ⟨bm, NS, nm, qn, bs, hdct, sn, sub, ab, col, dd, k0, k1, k2, k3, k5, mN, hC, hN, hni, TL⟩ := exc_obj k c.cls
  exact ⟨_, _, _, _, _, _, _, _, _, _, _, _, _, _, _, _, _, hC, TL.hasType (by rfl), TL.hasType (by rfl)⟩
theorem kitx_exc {K : PySem.W.Frag} {x C : Addr} (c : YCls K C) : PySem.W.KitX K (.ref x) (.ref C) (fun h => ∃ o, h.get? x = some o ∧ o.cls = .ref C) where
  ty := fun M h k p => by
    obtain ⟨o, h1, h2⟩ := p
    exact h2 ▸ (PySem.W.Looks.ld h1).andThen .now
  it := fun M h k p => by
    obtain ⟨nm, q, N, bs, bm, hdct, sn, sub, ab, col, dd, k0, k1, k2, k3, k5, ni, hC, _⟩ := c.ob h k
    intro A' Q' E' s' k' q'
    unfold isType loadHead
    exact wpAny_bind (wpAny_loadPart (k' _ _ hC) (wpAny_pure q'))
  ne := fun h tp dd its n sl k htp => by
    obtain ⟨nm, q, N, bs, bm, hdct, sn, sub, ab, col, dd', k0, k1, k2, k3, k5, ni, hC, _⟩ := c.ob h k
    refine Bool.eq_false_iff.mpr fun z => ?_
    have e : C = tp := Value.ref.inj (beq_iff_eq.mp z)
    subst e
    have z := congrArg Obj.cls (Option.some.inj (hC.symm.trans htp))
    have z2 : Value.type "type" = Value.type "tuple" := z
    exact absurd (Value.type.inj z2) (by decide)
  ca := fun {prog w A E Q s} k p hq => by
    obtain ⟨o, h1, h2⟩ := p
    obtain ⟨nm, q, N, bs, bm, hdct, sn, sub, ab, col, dd', k0, k1, k2, k3, k5, ni, hC, e1, e2⟩ := c.ob _ k
    obtain ⟨h, g, d, t, os⟩ := s
    exact Fx.class_attr_exc hC e1 e2 (tlk_of k c.ga) (tlk_of k c.gn) (tlk_of k c.cl) h1 h2 hq
section
variable {X : Cx}
theorem call_isX : CallR X (.builtin "isinstance") (fun xs H Q => ∃ a c d cv u b, xs = [.ref a, cv] ∧ H a = some (excX a c d) ∧ YCls X.K c ∧ (∀ z, RelV cv z → z = u) ∧ PySem.W.kitOne X.K (.ref c) u = some b ∧ Q (.bl b) H) := by
  intro pins s σ H xs us Q I r h
  obtain ⟨a, c, d, cv, u, b, rfl, ha, yc, un, e, q⟩ := h
  obtain ⟨u1, u2, rfl, r1, r2⟩ := vals2 r
  cases un u2 r2
  cases r1
  obtain ⟨⟨oe, vs, h1, h2, h3, h4⟩, _, _⟩ := I.hok a _ ha
  exact PySem.W.kia_one (kitx_exc yc) I.kIn ⟨oe, h1, h2⟩ e (fun z => nomatch z) fun tk => ⟨.bl b, H, I.tok tk, rfl, q⟩
end
end L2
namespace P2
open PySem L2 PySem.Spec
open PyProof.Rows hiding St
section
variable {X : Cx} {E : XK} {x : Str} {pos : Pos}
theorem callr_or {f : Value} {r r' : List V → Hp → VK → Prop} (h : CallR X f r) (h' : CallR X f r') : CallR X f (fun xs H Q => r xs H Q ∨ r' xs H Q) :=
  fun pins s σ H xs us Q I rx q => q.elim (h pins s σ H xs us Q I rx) (h' pins s σ H xs us Q I rx)
noncomputable def clsU : D → Option Value
  | .ref C => some (.ref C)
  | .ty T => some (.type T)
  | _ => none
noncomputable def isXD (q : Addr → Value → Option Bool) (ds : List D) : R D := match ds with
  | [.exc c _ _, d] => (match (clsU d).bind (q c) with
    | some b => .ok (.bl b)
    | none => .bad)
  | ds => isD ds
noncomputable def IsOk (K : PySem.W.Frag) (q : Addr → Value → Option Bool) : Prop := ∀ c u b, q c u = some b → YCls K c ∧ PySem.W.kitOne K (.ref c) u = some b
theorem call_isXD {q : Addr → Value → Option Bool} (hI : IsOk X.K q) : CallD X E (.builtin "isinstance") (isXD q) := by
  obtain ⟨r0, c0, d0⟩ := call_isinstD (X := X) (E := E)
  refine ⟨_, callr_or call_isX c0, fun al H xs ds Q fr r h => ?_⟩
  unfold isXD at h
  split at h
  · rename_i c ns es d
    obtain ⟨v, u, rfl, p, p2⟩ := Reps.two r
    left
    cases z : (clsU d).bind (q c) with
    | none => rw [z] at h; exact h.elim
    | some b =>
      rw [z] at h
      have hq := h H (.refl H) _ (.bl _)
      obtain ⟨w, z1, z2⟩ := Option.bind_eq_some_iff.mp z
      obtain ⟨yc, kk⟩ := hI _ _ _ z2
      have ha : ∃ a dx, v = .ref a ∧ H a = some (excX a c dx) := by
        cases p with
        | exc p1 p2 p3 p4 p5 => exact ⟨_, _, rfl, p2⟩
        | exc0 p1 p2 => exact ⟨_, _, rfl, p2⟩
      obtain ⟨a, dx, rfl, ha⟩ := ha
      refine ⟨a, c, dx, u, w, b, rfl, ha, yc, fun y hy => ?_, kk, hq⟩
      cases p2 with
      | ref C => cases z1; exact hy
      | ty T => cases z1; exact hy
      | _ => cases z1
  · exact .inr (d0 al H xs ds Q fr r h)
mutual
noncomputable def pyD : D → Option PyData
  | .non => some .none
  | .bl b => some (.bool b)
  | .int i => some (.int i)
  | .str z => some (.str z)
  | .tup ds => (pyDs ds).map .tuple
  | .lst ds => (pyDs ds).map .list
  | _ => none
noncomputable def pyDs : List D → Option (List PyData)
  | [] => some []
  | d :: ds => (pyD d).bind fun p => (pyDs ds).map (p :: ·)
end
mutual
theorem rep_reads {pins : List (Addr × Obj)} {σ : L2.St} {H : Hp} {s : Shared} (I : Inv X pins σ H s) {al : Addr → Prop} : ∀ {v : V} {d : D} {u : Value} {p : PyData}, Rep X.K al H v d → RelV v u → pyD d = some p → ∃ as, Reads s.heap u p as
  | _, _, _, _, .non, r, e => by cases r; cases e; exact ⟨_, .none⟩
  | _, _, _, _, .bl b, r, e => by cases r; cases e; exact ⟨_, .bool _⟩
  | _, _, _, _, .int b, r, e => by obtain ⟨t, rfl⟩ := r; cases e; exact ⟨_, .int _ _⟩
  | _, _, _, _, .str b, r, e => by obtain ⟨t, rfl⟩ := r; cases e; exact ⟨_, .str _ _⟩
  | _, _, _, _, .ty b, r, e => by cases e
  | _, _, _, _, .ref b, r, e => by cases e
  | _, _, _, _, .tup (vs := vs) z q, r, e => by
    cases r
    have e' : (pyDs _).map PyData.tuple = some _ := e
    obtain ⟨ps, e1, rfl⟩ := Option.map_eq_some_iff.mp e'
    have z' : SqT X.K H _ vs := z.elim (fun z => .inl z.2) .inr
    obtain ⟨its, rv, ⟨o, h1, h2, n, h3⟩, _⟩ := I.tuple z'
    obtain ⟨as, w⟩ := reps_reads I q rv e1
    exact ⟨as, reads_tuple_at h1 h2 h3 (by simpa using w)⟩
  | _, _, _, _, .lst (vs := vs) z q, r, e => by
    cases r
    have e' : (pyDs _).map PyData.list = some _ := e
    obtain ⟨ps, e1, rfl⟩ := Option.map_eq_some_iff.mp e'
    have z' : SqL X.K H _ vs := z.elim (fun z => .inl z.2) KL.sq
    obtain ⟨its, rv, ⟨o, n, h1, h2, h3, h4⟩, _⟩ := I.list z'
    obtain ⟨as, w⟩ := reps_reads I q rv e1
    exact ⟨_, reads_list_at h1 h2 h4 (by simpa using w)⟩
  | _, _, _, _, .exc _ _ _ _ _, r, e => by cases e
  | _, _, _, _, .exc0 _ _, r, e => by cases e
theorem reps_reads {pins : List (Addr × Obj)} {σ : L2.St} {H : Hp} {s : Shared} (I : Inv X pins σ H s) {al : Addr → Prop} : ∀ {vs : List V} {ds : List D} {us : List Value} {ps : List PyData}, Reps X.K al H vs ds → Vals vs us → pyDs ds = some ps → ∃ as, ReadsAll s.heap us ps as
  | _, _, _, _, .nil, r, e => by cases r; cases e; exact ⟨_, .nil⟩
  | _, _, _, _, .cons p q, r, e => by
    cases r with
    | cons r1 r2 =>
      obtain ⟨p1, e1, e2⟩ := Option.bind_eq_some_iff.mp e
      obtain ⟨ps, e3, rfl⟩ := Option.map_eq_some_iff.mp e2
      obtain ⟨as, w1⟩ := rep_reads I p r1 e1
      obtain ⟨bs, w2⟩ := reps_reads I q r2 e3
      exact ⟨_, .cons w1 w2⟩
end
noncomputable def eqvD (a b : D) : Option Bool := (pyD a).bind fun p => (pyD b).bind fun q => if (SeqAt.shaped p && SeqAt.shaped q) = true then some (PyData.eqv p q) else none
noncomputable def neDD (a b : D) : R D := match eqvD a b with
  | some r => .ok (.bl (!r))
  | none => .bad
theorem eqv_of {pins : List (Addr × Obj)} {σ : L2.St} {H : Hp} {s : Shared} (I : Inv X pins σ H s) {al : Addr → Prop} {x y : V} {a b : D} {u v : Value} {r : Bool} (ra : Rep X.K al H x a) (rb : Rep X.K al H y b) (rx : RelV x u) (ry : RelV y v) (e : eqvD a b = some r) :
    ∃ p q as bs, Reads s.heap u p as ∧ Reads s.heap v q bs ∧ SeqAt.shaped p = true ∧ SeqAt.shaped q = true ∧ PyData.eqv p q = r := by
  obtain ⟨p, e1, e2⟩ := Option.bind_eq_some_iff.mp e
  obtain ⟨q, e3, e4⟩ := Option.bind_eq_some_iff.mp e2
  split at e4
  · rename_i z
    rw [Bool.and_eq_true] at z
    obtain ⟨as, w1⟩ := rep_reads I ra rx e1
    obtain ⟨bs, w2⟩ := rep_reads I rb ry e3
    exact ⟨p, q, as, bs, w1, w2, z.1, z.2, Option.some.inj e4⟩
  · cases e4
theorem op_neDD (hu : X.A.units + 64 < cLine) : OpD X E (compareOp .NotEq) neDD := by
  refine ⟨fun x y H Q => ∃ al a b r, Rep X.K al H x a ∧ Rep X.K al H y b ∧ eqvD a b = some r ∧ Q (.bl (!r)) H, fun pins s σ H x y v u Q I rx ry h => ?_, fun al H x y dx dy Q fr rx ry h => ?_⟩
  · obtain ⟨al, a, b, r, h1, h2, h3, h4⟩ := h
    obtain ⟨p, q, as, bs, w1, w2, w3, w4, w5⟩ := eqv_of I h1 h2 rx ry h3
    exact ne_dataH w1 w2 w3 w4 hu (by rw [w5]; exact ⟨.bl (!r), H, I, rfl, h4⟩)
  · unfold neDD at h
    cases q : eqvD dx dy with
    | none => rw [q] at h; exact h.elim
    | some r => rw [q] at h; exact ⟨al, dx, dy, r, rx, ry, q, h H (.refl H) _ (.bl (!r))⟩
end
section
variable {X : Cx} {E : XK} {tg iter elt : Expr} {ifs : List Expr} {scope : Scope} {pos : Pos} {fi : Ev → R (List D)} {l : List Nat} {a : D → Ev → Option Ev} {fc : Ev → R Bool} {fe : Ev → R D} {tn : Nat} {Nt : List Str}
theorem dnu_comp1 {x : Str} (i : Nat) {c : Addr} (nm : List (Str × NameKind)) (hc : X.calm = true) (hi : DI X E tg iter fi) (hg : ∀ fp s3 H3 C, DG (X.comp scope (Nt ++ [x]) [(x, c)] fp s3 H3 C) tg l a) (hl : ∀ j ∈ l, j < tn) (hf : ∀ fp s3 H3 C, DFt (X.comp scope (Nt ++ [x]) [(x, c)] fp s3 H3 C) ifs fc)
    (he : ∀ fp s3 H3 C, DE (X.comp scope (Nt ++ [x]) [(x, c)] fp s3 H3 C) (fun _ _ _ => False) elt fe)
    (hkind : scope.kind = .function) (hcell : ∀ y ∈ scope.names, y.2 ≠ .cell) (hnames : ∀ x ∈ scope.names, x.2 = .local → scope.names.lookup x.1 = some .local) (hNt : Nt.length = tn)
    (hN : X.N[i]? = some x) (hk : X.env.kindOf x = some .cell) (hcl : X.env.cells.lookup x = some c) (hclos : closureFor scope X.env = pure [(x, c)]) (hrl : (relabel scope X.env).names = nm)
    (hnm : ∀ p ∈ nm, (p.2 = .cell ∨ p.2 = .free) → p.1 = x) (hvis : nm.lookup x = some .cell ∨ nm.lookup x = some .free)
    (hs : ∀ x, foldedSetIterable iter X.env x = pure x := by intro _; rfl) : DNU X E (.ListComp elt [⟨tg, iter, ifs, 0⟩] scope pos) (dComp fi tn [i] a fc fe) := by
  refine dnu_comp (cl := [(x, c)]) (Nc := [x]) (ci := [i]) hc hi hg hl hf he hclos hkind hcell hnames (.cons hN (.inl hk) (by rw [hcl]; simp [List.lookup]) .nil) hNt (fun y d z => ?_) (fun y z => ?_) (fun y hy => ?_) hs
  · by_cases w : y = x
    · subst w; simp [List.lookup] at z; rw [hcl, z]
    · have : (y == x) = false := by simpa using w
      simp [List.lookup, this] at z
  · rw [hrl] at z
    have : y = x := z.elim (fun q => hnm _ (PySem.mem_of_lookup q) (.inl rfl)) fun q => hnm _ (PySem.mem_of_lookup q) (.inr rfl)
    subst this
    exact ⟨c, by simp [List.lookup]⟩
  · rw [List.mem_singleton] at hy
    subst hy
    rw [hrl]; exact hvis
end
end P2
namespace P2
open PySem L2 PySem.Spec
open PySem.Builtin PySem.Builtin.Str
open PyProof.Rows hiding St
section
variable {prog : Program} {w : World} {A : Around} {E : Value → Shared → Prop} {s : Shared} {x y : PySem.Str} {t u : Tok} {Q : Value → Shared → Prop}
end
section
variable {X : Cx} {E : XK}
noncomputable def okMul64 (i j : Int) : Bool := (decide (-18446744073709551616 < i) && decide (i < 18446744073709551616)) || (decide (-18446744073709551616 < j) && decide (j < 18446744073709551616))
end
end P2
namespace P2
open PySem L2 PySem.Spec
open PyProof.Rows hiding St
theorem pass_cx {CX : CXT} {P : Program} {w : World} {K : PySem.W.Frag} {mg : Str → Option Value} {base : Heap} {N : List Str} {qual : Str} {scope : Scope} {f : Addr} {cd : Value} {A : Around} {outer : List Env} {s : Shared} {H : Hp} {E : XK} :
    PassesOwn (model (cxOf CX P w K mg base N qual scope f cd A outer s H E).prog (cxOf CX P w K mg base N qual scope f cd A outer s H E).w) (cxOf CX P w K mg base N qual scope f cd A outer s H E).A (cxOf CX P w K mg base N qual scope f cd A outer s H E).env (cxOf CX P w K mg base N qual scope f cd A outer s H E).xe :=
  PassesOwn.leaving (Q₁ := fun e s'' => CX outer H s E e s'')
section
variable {X : Cx} {E : XK} {e a b c tg : Expr} {f fa fb fc : Ev → R D} {pos : Pos}
noncomputable def sPar (i j : Nat) (fs : Ev → R (List D)) : Ev → RT := fun ρ => toS (fs ρ) fun ds => match ds with
  | [d1, d2] => if i < ρ.length ∧ j < ρ.length then .nx ((ρ.set i (.sh d1)).set j (.sh d2)) else .bad
  | _ => .bad
theorem ds_par {fs : Ev → R (List D)} {x y : Str} {px py pt : Pos} {kt k2 pt2} (i j : Nat) (hc : X.calm = true) (hN : X.N.Nodup) (hi : X.N[i]? = some x) (hj : X.N[j]? = some y) (hij : i ≠ j)
    (hx : X.env.scope.names.lookup x = some .local) (hy : X.env.scope.names.lookup y = some .local) (ha : DA X E [a, b] fs)
    (hw : swappedStores [.Tuple [.Name x px, .Name y py] kt pt] (.Tuple [a, b] k2 pt2) X.env = pure (some [x, y]) := by rfl)
    (hs : swapsWithSole [.Tuple [.Name x px, .Name y py] kt pt] (.Tuple [a, b] k2 pt2) pos.line X.env = pure false := by rfl) :
    DS X E (.Assign [.Tuple [.Name x px, .Name y py] kt pt] (.Tuple [a, b] k2 pt2) pos) (sPar i j fs) := by
  obtain ⟨t, p, r, _⟩ := ha
  refine ⟨_, ps_par hc hN hi hj hij hx hy p hw hs, fun P H0 al H σ ρ D s h => r _ _ _ _ _ _ _ s (Aft.mono (okS.ofR h s) fun ds H1 s1 h1 vs rv => ?_)⟩
  split at h1
  · rename_i d1 d2
    cases rv with
    | cons r1 r2 =>
      cases r2 with
      | cons r2 r3 =>
        cases r3
        split at h1
        · rename_i z
          exact ⟨_, _, rfl, h1 al H1 _ .refl (((s.grow s1).set z.1 r1).set (by rw [List.length_set]; exact z.2) r2)⟩
        · exact h1.elim
  · exact h1.elim
noncomputable def sameD : D → D → Option Bool
  | .non, .non => some true
  | .bl a, .bl b => some (a == b)
  | .bl _, .non => some false
  | .int _, .non => some false
  | .str _, .non => some false
  | .tup _, .non => some false
  | .lst _, .non => some false
  | _, _ => none
noncomputable def isD2 (x y : D) : R D := match sameD x y with
  | some b => .ok (.bl b)
  | none => .bad
noncomputable def isnD2 (x y : D) : R D := match sameD x y with
  | some b => .ok (.bl (!b))
  | none => .bad
theorem op_isD2 : OpD X E (compareOp .Is) isD2 := by
  refine ⟨_, opr_or op_isN op_is_bl, fun al H x y dx dy Q fr rx ry h => ?_⟩
  unfold isD2 at h
  cases q : sameD dx dy with
  | none => rw [q] at h; exact h.elim
  | some b =>
    rw [q] at h
    have hq := h H (.refl H) _ (.bl b)
    unfold sameD at q
    split at q <;> first | (cases q; done) | skip
    · cases rx; cases ry; cases q; exact .inl ⟨rfl, hq⟩
    · cases rx; cases ry; cases q; exact .inr ⟨_, _, rfl, rfl, hq⟩
    all_goals (cases ry; cases q; cases rx <;> exact .inl ⟨rfl, hq⟩)
theorem op_isnD2 : OpD X E (compareOp .IsNot) isnD2 := by
  refine ⟨_, opr_or op_notN op_isnot_bl, fun al H x y dx dy Q fr rx ry h => ?_⟩
  unfold isnD2 at h
  cases q : sameD dx dy with
  | none => rw [q] at h; exact h.elim
  | some b =>
    rw [q] at h
    have hq := h H (.refl H) _ (.bl _)
    unfold sameD at q
    split at q <;> first | (cases q; done) | skip
    · cases rx; cases ry; cases q; exact .inl ⟨rfl, hq⟩
    · cases rx; cases ry; cases q; exact .inr ⟨_, _, rfl, rfl, hq⟩
    all_goals (cases ry; cases q; cases rx <;> exact .inl ⟨rfl, hq⟩)
noncomputable def slWD : D → Option Int → Option Int → R D
  | .tup ds, lo, hi => if ¬ (HT.sIx ds.length 0 lo = 0 ∧ HT.sIx ds.length ds.length hi = ds.length) then .ok (.tup (cutD ds lo hi)) else .bad
  | d, lo, hi => slD d lo hi
theorem sl_WD : SlD X E slWD := by
  obtain ⟨r0, s0, d0⟩ := sl_D (X := X) (E := E)
  refine ⟨_, sl_tup.or s0, fun al H x dx lo hi Q fr rx h => ?_⟩
  unfold slWD at h
  split at h
  · obtain ⟨a, vs, rfl, h1, h2⟩ := rx.tupIn
    split at h
    · rename_i z
      exact .inl ⟨a, vs, rfl, h1, by rw [h2.length]; exact z, fun p hp => h _ (same_upd hp) _ ((h2.cut lo hi).tupNew hp (fr p hp))⟩
    · exact h.elim
  · exact .inr (d0 _ _ _ _ _ _ _ fr rx h)
noncomputable def listD : List D → R D
  | [.lst ds] => .ok (.lst ds)
  | [.tup ds] => .ok (.lst ds)
  | _ => .bad
theorem call_listD : CallD X E (.type "list") listD := by
  refine ⟨_, call_list_of, fun al H xs ds Q fr r h => ?_⟩
  unfold listD at h
  split at h
  · obtain ⟨v, rfl, q⟩ := Reps.one r
    obtain ⟨a, vs, rfl, h1, h2⟩ := q.lstIn
    exact ⟨a, vs, rfl, .inl h1, fun p hp => h _ (same_upd hp) _ (h2.lstNew hp (fr p hp))⟩
  · obtain ⟨v, rfl, q⟩ := Reps.one r
    obtain ⟨a, vs, rfl, h1, h2⟩ := q.tupIn
    exact ⟨a, vs, rfl, .inr h1, fun p hp => h _ (same_upd hp) _ (h2.lstNew hp (fr p hp))⟩
  · exact h.elim
end
end P2
namespace P2
open PySem L2 PySem.Spec
open PyProof.Rows hiding St
section
variable {X : Cx} {E : XK}
noncomputable def hasV (x : D) (ys : List D) : Option Bool := (pyD x).bind fun p => (pyDs ys).bind fun ps => if (PyData.canLayAll0 ps && PyData.canLay0 p && decide (p.depth ≤ 63)) = true then some (ps.any fun y => PyData.eqv y p) else none
noncomputable def inLD (x y : D) : R D := match y with
  | .lst ys => (match hasV x ys with
    | some b => .ok (.bl b)
    | none => .bad)
  | .tup ys => (match hasV x ys with
    | some b => .ok (.bl b)
    | none => .bad)
  | _ => inSD x y
theorem has_of {pins : List (Addr × Obj)} {σ : L2.St} {H : Hp} {s : Shared} (I : Inv X pins σ H s) (hu : X.A.units + 64 < cLine) {al : Addr → Prop} {x y : V} {d : D} {ys : List D} {u v : Value} {b : Bool} (rd : Rep X.K al H x d) (rl : Rep X.K al H y (.lst ys) ∨ Rep X.K al H y (.tup ys)) (rx : RelV x u) (ry : RelV y v) (e : hasV d ys = some b) :
    ∃ p ps as bs, (Reads s.heap v (.list ps) as ∨ Reads s.heap v (.tuple ps) as) ∧ Reads s.heap u p bs ∧ PyData.canLayAll0 ps = true ∧ PyData.canLay0 p = true ∧ X.A.units + 1 + min (PyData.depthAll ps) p.depth < cLine ∧ (ps.any fun y => PyData.eqv y p) = b := by
  obtain ⟨p, e1, e2⟩ := Option.bind_eq_some_iff.mp e
  obtain ⟨ps, e3, e4⟩ := Option.bind_eq_some_iff.mp e2
  split at e4
  · rename_i z
    simp only [Bool.and_eq_true, decide_eq_true_eq] at z
    obtain ⟨bs, w2⟩ := rep_reads I rd rx e1
    have := Nat.min_le_right (PyData.depthAll ps) p.depth
    rcases rl with rl | rl
    · obtain ⟨as, w1⟩ := rep_reads (p := .list ps) I rl ry (show (pyDs ys).map PyData.list = some _ by rw [e3]; rfl)
      exact ⟨p, ps, as, bs, .inl w1, w2, z.1.1, z.1.2, by omega, Option.some.inj e4⟩
    · obtain ⟨as, w1⟩ := rep_reads (p := .tuple ps) I rl ry (show (pyDs ys).map PyData.tuple = some _ by rw [e3]; rfl)
      exact ⟨p, ps, as, bs, .inr w1, w2, z.1.1, z.1.2, by omega, Option.some.inj e4⟩
  · cases e4
theorem op_inLD (hu : X.A.units + 64 < cLine) : OpD X E (compareOp .In) inLD := by
  obtain ⟨r0, o0, d0⟩ := op_inSD (X := X) (E := E)
  refine ⟨fun x y H Q => (∃ al d ys b, Rep X.K al H x d ∧ (Rep X.K al H y (.lst ys) ∨ Rep X.K al H y (.tup ys)) ∧ hasV d ys = some b ∧ Q (.bl b) H) ∨ r0 x y H Q, fun pins s σ H x y v u Q I rx ry h => ?_, fun al H x y dx dy Q fr rx ry h => ?_⟩
  · rcases h with ⟨al, d, ys, b, h1, h2, h3, h4⟩ | h
    · obtain ⟨p, ps, as, bs, w1, w2, w3, w4, w5, w6⟩ := has_of I hu h1 h2 rx ry h3
      rcases w1 with w1 | w1
      · exact SeqAt.in_list_reads w1 w2 w3 w4 w5 (by rw [w6]; exact ⟨.bl b, H, I, rfl, h4⟩)
      · exact SeqAt.in_tuple_reads w1 w2 w3 w4 w5 (by rw [w6]; exact ⟨.bl b, H, I, rfl, h4⟩)
    · exact o0 pins s σ H x y v u Q I rx ry h
  · unfold inLD at h
    split at h
    · rename_i ys
      cases q : hasV dx ys with
      | none => rw [q] at h; exact h.elim
      | some b => rw [q] at h; exact .inl ⟨al, dx, ys, b, rx, .inl ry, q, h H (.refl H) _ (.bl b)⟩
    · rename_i ys
      cases q : hasV dx ys with
      | none => rw [q] at h; exact h.elim
      | some b => rw [q] at h; exact .inl ⟨al, dx, ys, b, rx, .inr ry, q, h H (.refl H) _ (.bl b)⟩
    · exact .inr (d0 _ _ _ _ _ _ _ fr rx ry h)
end
end P2
namespace L2
open PySem PySem.Spec PyProof.Rows
section
variable {X : Cx} {pos : Pos}
end
end L2
namespace P2
open PySem L2 PySem.Spec
open PyProof.Rows hiding St
section
variable {X : Cx} {E : XK} {a b c : Expr} {pos : Pos}
end
inductive FlatV : V → D → Prop
  | non : FlatV .non .non
  | bl (b : Bool) : FlatV (.bl b) (.bl b)
  | int (i : Int) : FlatV (.int i) (.int i)
  | str (x : Str) : FlatV (.str x) (.str x)
inductive FlatVs : List V → List D → Prop
  | nil : FlatVs [] []
  | cons {v : V} {d : D} {vs : List V} {ds : List D} : FlatV v d → FlatVs vs ds → FlatVs (v :: vs) (d :: ds)
structure GlT (K : PySem.W.Frag) (mg : Str → Option Value) (x : Str) (ds : List D) : Prop where
  ex : ∃ (a : Addr) (vs : List V), mg x = some (.ref a) ∧ KT K a vs ∧ FlatVs vs ds
theorem strs_vals : ∀ l : List (Str × Tok), Vals (l.map fun p => V.str p.1) (l.map fun p => Value.str p.1 p.2)
  | [] => .nil
  | (_, t) :: l => .cons ⟨t, rfl⟩ (strs_vals l)
theorem strs_flat : ∀ l : List (Str × Tok), FlatVs (l.map fun p => V.str p.1) (l.map fun p => D.str p.1)
  | [] => .nil
  | (_, _) :: l => .cons (.str _) (strs_flat l)
theorem GlT.strs {K : PySem.W.Frag} {mg : Str → Option Value} {x : Str} {a : Addr} {dd : Option Addr} {l : List (Str × Tok)} {n : Nat} {sl : Array (Option Value)} (hm : mg x = some (.ref a)) (hl : K.lookup a = some ⟨.type "tuple", dd, .seq (l.map fun p => Value.str p.1 p.2).toArray n, sl⟩) (hz : l.length ≤ sizeLine) :
    GlT K mg x (l.map fun p => .str p.1) := by
  refine ⟨a, l.map fun p => .str p.1, hm, ⟨_, _, n, hl, rfl, rfl, by simpa using hz, ?_⟩, ?_⟩
  · rw [List.toList_toArray]
    exact strs_vals l
  · exact strs_flat l
end P2
namespace P2
open PySem L2 PySem.Spec
open PyProof.Rows hiding St
section
variable {X : Cx} {E : XK} {e : Expr} {fn : Ev → R (List D)} {pos : Pos}
theorem ds_setU (i : Nat) {x : Str} {pos' : Pos} (hN : X.N.Nodup) (hi : X.N[i]? = some x) (hx : Loc X.env.scope x) (he : DNU X E e fn) (hs : swapsWith e (some (.Name x pos')) pos.line X.env = pure true := by rfl) (hf : X.fn x = true ∨ X.env.scope.names.lookup x = some .local := by first | exact .inl rfl | exact .inr rfl | assumption) :
    DS X E (.Assign [.Name x pos'] e pos) (sSet i (asN fn)) := by
  obtain ⟨t, _, p, r⟩ := he
  refine ⟨_, ps_use hN hi hx p hs hf, fun P H0 al H σ ρ D s h => ?_⟩
  have h' : okS X.K P H0 E D al H (toS (fn ρ) fun ds => if i < ρ.length then .nx (ρ.set i (.sh (.lst ds))) else .bad) := by
    unfold sSet asN at h
    cases q : fn ρ with
    | ok ds => rw [q] at h; exact h
    | ex c ns es => rw [q] at h; exact h
    | bad => rw [q] at h; exact h.elim
  refine r _ _ _ _ _ _ _ s (Aft.mono (okS.ofR h' s) fun ds H1 s1 h1 q vs hq rv => ?_)
  by_cases z : i < ρ.length
  · simp only [z, if_true] at h1
    have sm := same_upd (K := X.K) (o := HO.lst vs) hq
    exact h1 al _ _ (.of sm) (((s.grow s1).grow sm).set z (rv.lstNew hq ((s.grow s1).fresh q hq)))
  · simp only [z, if_false] at h1
    exact h1.elim
end
end P2
namespace P2
open PySem L2 PySem.Spec
open PyProof.Rows hiding St
section
variable {X : Cx} {E : XK} {tg iter elt : Expr} {ifs : List Expr} {scope : Scope} {pos : Pos} {fi : Ev → R (List D)} {l : List Nat} {a : D → Ev → Option Ev} {fc : Ev → R Bool} {fe : Ev → R D} {tn : Nat} {Nt : List Str}
end
section
variable {X : Cx} {E : XK}
end
end P2
namespace P2
open PySem L2 PySem.Spec
open PyProof.Rows hiding St
section
variable {X : Cx} {E : XK} {a b : Expr} {fa fb : Ev → R D} {pos : Pos}
noncomputable def catL (x y : D) : R (List D) := match x, y with
  | .lst xs, .lst ys => if xs.length + ys.length ≤ sizeLine then .ok (xs ++ ys) else .bad
  | _, _ => .bad
noncomputable def catF (fa fb : Ev → R D) : Ev → R (List D) := fun ρ => (fa ρ).bind fun x => (fb ρ).bind fun y => catL x y
theorem dn_cat (ha : DE X E a fa) (hb : DE X E b fb) : DN X E (.BinOp a .Add b pos) (catF fa fb) := by
  obtain ⟨ta, pa, ra⟩ := ha
  obtain ⟨tb, pb, rb⟩ := hb
  refine ⟨_, pe_op op_catR pa pb, fun P H0 al H σ ρ Q s h => ra _ _ _ _ _ _ _ s (Aft.mono (Aft.split h) fun x H1 s1 h1 v rv => rb _ _ _ _ _ _ _ (s.grow s1) (Aft.mono (Aft.split h1) fun y H2 s2 h2 u ru => ?_))⟩
  unfold catL at h2
  split at h2
  · split at h2
    · rename_i z
      obtain ⟨l, vs, rfl, q1, q2⟩ := (rv.up s2).lstRd
      obtain ⟨m, ws, rfl, q3, q4⟩ := ru.lstRd
      exact ⟨l, m, vs, ws, rfl, rfl, q1, q3, by rw [q2.length, q4.length]; exact z, fun p hp => h2 H2 (.refl H2) p _ hp (q2.append q4)⟩
    · exact h2.elim
  · exact h2.elim
end
end P2
namespace P2
open PySem L2 PySem.Spec
open PyProof.Rows hiding St
section
variable {X : Cx} {E : XK}
noncomputable def min2D : List D → R D
  | [.int i, .int j] => .ok (.int (if j < i then j else i))
  | _ => .bad
end
end P2
namespace TM
open PySem PySem.NumText PySem.StrLaws Builtin Builtin.Str
noncomputable def cds (x : Str) : List Nat := x.cps.toList
theorem ext {x y : Str} (h : cds x = cds y) : x = y := by
  obtain ⟨x⟩ := x; obtain ⟨y⟩ := y
  have : x = y := Array.toList_inj.mp h
  rw [this]
theorem cds_app (x y : Str) : cds (x ++ y) = cds x ++ cds y := by
  show (x.cps ++ y.cps).toList = x.cps.toList ++ y.cps.toList
  simp
theorem len_cds (x : Str) : x.length = (cds x).length := by simp [Str.length, cds]
noncomputable def num (m : Nat) : List Nat := (Nat.toDigits 10 m).map Char.toNat
theorem cds_num (m : Nat) : cds (Str.ofString (toString ((m : Nat) : Int))) = num m := PySem.W.KIN.signs_num m
theorem digit_rng {c : Char} (h : c.isDigit = true) : 48 ≤ c.toNat ∧ c.toNat ≤ 57 := by
  unfold Char.isDigit at h
  simp only [Bool.and_eq_true, decide_eq_true_eq, ge_iff_le] at h
  obtain ⟨h1, h2⟩ := h
  have a : (48 : UInt32).toNat ≤ c.val.toNat := UInt32.le_iff_toNat_le.mp h1
  have b : c.val.toNat ≤ (57 : UInt32).toNat := UInt32.le_iff_toNat_le.mp h2
  exact ⟨a, b⟩
theorem num_digits (m : Nat) : AllDigits (num m) := by
  intro c hc
  obtain ⟨ch, h, rfl⟩ := List.mem_map.mp hc
  exact digit_rng (Nat.isDigit_of_mem_toDigits (by decide) (by decide) h)
theorem num_small {m : Nat} (h : m < 10) : num m = [48 + m] := by
  have : ∀ m : Nat, m < 10 → num m = [48 + m] := by decide
  exact this m h
theorem num_snoc {m : Nat} (h : 10 ≤ m) : num m = num (m / 10) ++ [48 + m % 10] := by
  have hm : m % 10 < 10 := Nat.mod_lt m (by decide)
  have t : Nat.toDigits 10 (m / 10) ++ Nat.toDigits 10 (m % 10) = Nat.toDigits 10 (10 * (m / 10) + m % 10) := Nat.toDigits_append_toDigits (by decide) (by omega) hm
  rw [Nat.div_add_mod] at t
  rw [← num_small hm]
  unfold num
  rw [← t, List.map_append]
theorem num_len {k : Nat} : ∀ {m : Nat}, m < 10 ^ (k + 1) → (num m).length ≤ k + 1 := by
  induction k with
  | zero => intro m h; rw [num_small (by omega)]; simp
  | succ k ih =>
    intro m h
    by_cases hm : m < 10
    · rw [num_small hm]; simp
    · rw [num_snoc (by omega), List.length_append]
      have : m / 10 < 10 ^ (k + 1) := by rw [Nat.pow_succ] at h; omega
      have := ih this
      simp only [List.length_singleton]; omega
noncomputable def two (n : Nat) : List Nat := [48 + n / 10, 48 + n % 10]
noncomputable def sx (n d : Nat) : Option Int → Nat
  | none => d
  | some v => if v < 0 then (v + (n : Int)).toNat else min v.toNat n
end TM
namespace P2
open PySem L2
theorem bits_le {i : Int} {k : Nat} (h : i.natAbs < 2 ^ k) : bits i ≤ k := intBits_le_iff.mpr h
theorem log2_lt {i : Int} {k : Nat} (hk : 0 < k) (h : i.natAbs < 2 ^ k) : i.natAbs.log2 < k := by
  by_cases z : i.natAbs = 0
  · rw [z]; exact hk
  · exact (Nat.log2_lt z).mpr h
section
variable {α β : Type} {a : α} {c : Addr} {ns : List Str} {es : List D} {k : α → RT} {h : α → R β} {ρ : Ev} {g u : Ev → RT} {f fa fb : Ev → R D} {fc fd : Ev → R Bool} {fs : Ev → R (List D)} {i j : Int} {x y : Str} {b b2 : Bool} {ds ds2 : List D} {d : D} {n m : Nat} {gd gd2 : D → D → R D} {g1 : D → R D} {gl : List D → R D} {gt : D → List D → R D}
variable {t : String} {g3 : D → Option Int → Option Int → R D} {fl fu : Ev → R (Option Int)} {cs : List Nat} {ga : D → Ev → Option Ev} {lo hi : Option Int} {fj : Str → Ev → R D}
theorem q_bind_k : (R.ok a).bind h = h a := rfl
theorem q_bind_x : (R.ex c ns es : R α).bind h = .ex c ns es := rfl
theorem q_bind_b : (R.bad : R α).bind h = .bad := rfl
theorem q_toS_k : toS (R.ok a) k = k a := rfl
theorem q_toS_x : toS (R.ex c ns es : R α) k = .ex c ns es := rfl
theorem q_toS_b : toS (R.bad : R α) k = .bad := rfl
theorem q_seq_n : seqT (.nx ρ) g = g ρ := rfl
theorem q_seq_r : seqT (.rt d) g = .rt d := rfl
theorem q_seq_x : seqT (.ex c ns es) g = .ex c ns es := rfl
theorem q_seq_b : seqT .bad g = .bad := rfl
theorem q_turn_n : turnT (.nx ρ) g = g ρ := rfl
theorem q_turn_c : turnT (.ct ρ) g = g ρ := rfl
theorem q_turn_k : turnT (.bk ρ) g = .nx ρ := rfl
theorem q_turn_r : turnT (.rt d) g = .rt d := rfl
theorem q_turn_b : turnT .bad g = .bad := rfl
theorem q_turn_x : turnT (.ex c ns es) g = .ex c ns es := rfl
theorem q_fin_r : finT (.rt d) = .ok d := rfl
theorem q_fin_n : finT (.nx ρ) = .ok .non := rfl
theorem q_fin_x : finT (.ex c ns es) = .ex c ns es := rfl
theorem q_noEx_k : noEx (R.ok a) = .ok a := rfl
theorem q_okO_k : okO (R.ok a) = some a := rfl
theorem q_ofO_s : ofO (some a) = .ok a := rfl
theorem q_sSeq_a : sSeq g u ρ = seqT (g ρ) u := rfl
theorem q_sNil_a : sNil ρ = .nx ρ := rfl
theorem q_sRet_a : sRet f ρ = toS (f ρ) .rt := rfl
theorem q_sExpr_a : sExpr f ρ = toS (f ρ) fun _ => .nx ρ := rfl
theorem q_sSet_a : sSet n f ρ = toS (f ρ) fun d => if n < ρ.length then .nx (ρ.set n (.sh d)) else .bad := rfl
theorem q_sIf_a : sIf fc g u ρ = toS (fc ρ) fun k => if k = true then g ρ else u ρ := rfl
theorem q_dC_a : dC d ρ = .ok d := rfl
theorem q_d1_a : d1 g1 f ρ = (f ρ).bind g1 := rfl
theorem q_d2_a : d2 gd fa fb ρ = (fa ρ).bind fun x => (fb ρ).bind fun y => gd x y := rfl
theorem q_b1B_a : b1 P2.tB f ρ = (f ρ).bind P2.tB := rfl
theorem q_b1T_a : b1 tT f ρ = (f ρ).bind tT := rfl
theorem q_bAnd_a : bAnd fc fd ρ = (fc ρ).bind fun c => if c = true then fd ρ else .ok false := rfl
theorem q_bOr_a : bOr fc fd ρ = (fc ρ).bind fun c => if c = true then .ok true else fd ρ := rfl
theorem q_bNot_a : bNot fc ρ = (fc ρ).bind fun c => .ok (!c) := rfl
theorem q_dAnd_a : dAnd fa fb ρ = ((fa ρ).bind P2.tB).bind fun c => if c = true then fb ρ else .ok (.bl false) := rfl
theorem q_dOr_a : dOr fa fb ρ = ((fa ρ).bind P2.tB).bind fun c => if c = true then .ok (.bl true) else fb ρ := rfl
theorem q_dNot_a : dNot fa ρ = ((fa ρ).bind P2.tB).bind fun c => .ok (.bl (!c)) := rfl
theorem q_dIf_a : dIf fc fa fb ρ = (fc ρ).bind fun k => if k = true then fa ρ else fb ρ := rfl
theorem q_dA_a : dA gl fs ρ = (fs ρ).bind gl := rfl
theorem q_aNil_a : aNil ρ = .ok [] := rfl
theorem q_aCons_a : aCons f fs ρ = (f ρ).bind fun x => (fs ρ).bind fun xs => .ok (x :: xs) := rfl
theorem q_asN_a : asN fs ρ = (fs ρ).bind fun ds => .ok (.lst ds) := rfl
theorem q_dMt_a : dMt t gt f fs ρ = (f ρ).bind fun x => if hasT t x = true then (fs ρ).bind fun xs => gt x xs else .bad := rfl
theorem q_dSl_a : dSl g3 f fl fu ρ = (f ρ).bind fun x => (fl ρ).bind fun i => (fu ρ).bind fun j => g3 x i j := rfl
theorem q_dComp_a : dComp fs n cs ga fc f ρ = (fs ρ).bind fun ds => if ds.length ≤ sizeLine then ofO (compO ga fc f (capD n cs ρ) ds) else .bad := rfl
theorem q_sFor_a : sFor fs ga g ρ = toS (fs ρ) fun ds => forD ga g ds ρ := rfl
theorem q_forD_c : forD ga g (d :: ds) ρ = toO (ga d ρ) fun ρ1 => turnT (g ρ1) (forD ga g ds) := rfl
theorem q_toO_s : toO (some a) k = k a := rfl
theorem q_gV_a : gV n d ρ = if n < ρ.length then some (ρ.set n (.sh d)) else none := rfl
theorem q_tB_b : P2.tB (.bl b) = .ok b := rfl
theorem q_tT_b : tT (.bl b) = .ok b := rfl
theorem q_tT_i : tT (.int i) = .ok (i != 0) := rfl
theorem q_tT_n : tT .non = .ok false := rfl
theorem q_tT_l : tT (.lst ds) = .ok (!ds.isEmpty) := rfl
theorem q_tT_t : tT (.tup ds) = .ok (!ds.isEmpty) := rfl
theorem q_add_i : addD (.int i) (.int j) = .ok (.int (i + j)) := rfl
theorem q_add_s : addD (.str x) (.str y) = if x.length + y.length ≤ sizeLine then .ok (.str (x ++ y)) else .bad := rfl
theorem q_add_l : addD (.lst ds) (.lst ds2) = if ds.length + ds2.length ≤ sizeLine then .ok (.lst (ds ++ ds2)) else .bad := rfl
theorem q_sub_i : subD (.int i) (.int j) = .ok (.int (i - j)) := rfl
theorem q_fdiv_i : fdivD (.int i) (.int j) = if okDiv i j = true then .ok (.int (i.fdiv j)) else .bad := rfl
theorem q_mod_i : modD (.int i) (.int j) = if decide (j ≠ 0) = true then .ok (.int (i.fmod j)) else .bad := rfl
theorem q_lt_i : P2.ltD (.int i) (.int j) = .ok (.bl (decide (i < j))) := rfl
theorem q_le_i : leD (.int i) (.int j) = .ok (.bl (decide (i ≤ j))) := rfl
theorem q_gt_i : gtD (.int i) (.int j) = .ok (.bl (decide (j < i))) := rfl
theorem q_ge_i : geD (.int i) (.int j) = .ok (.bl (decide (j ≤ i))) := rfl
theorem q_neg_i : negD (.int i) = .ok (.int (-i)) := rfl
theorem q_eq_i : eqSD (.int i) (.int j) = .ok (.bl (decide (i = j))) := rfl
theorem q_eq_s : eqSD (.str x) (.str y) = .ok (.bl (decide (x = y))) := rfl
theorem q_eq_b : eqSD (.bl b) (.bl b2) = .ok (.bl (decide (b = b2))) := rfl
theorem q_ne_i : neSD (.int i) (.int j) = .ok (.bl (!decide (i = j))) := rfl
theorem q_ne_s : neSD (.str x) (.str y) = .ok (.bl (!decide (x = y))) := rfl
theorem q_in_s : inSD (.str x) (.str y) = .ok (.bl (Txt.contains y x)) := rfl
theorem q_ix_l : ixD (.lst ds) (.int i) = match L2.atI ds i with | some d => .ok d | none => .bad := rfl
theorem q_ix_t : ixD (.tup ds) (.int i) = match L2.atI ds i with | some d => .ok d | none => .bad := rfl
theorem q_ix_s : ixD (.str x) (.int i) = if x.length ≤ sizeLine then (match L2.atI x.cps.toList i with | some c => .ok (.str ⟨#[c]⟩) | none => .bad) else .bad := rfl
theorem q_sl_l : slD (.lst ds) lo hi = .ok (.lst (cutD ds lo hi)) := rfl
theorem q_sl_s : slD (.str x) lo hi = if x.length ≤ sizeLine then .ok (.str (Txt.slice x lo hi)) else .bad := rfl
theorem q_pI_i : pI (.int i) = .ok (some i) := rfl
theorem q_len_s : lenD [.str x] = if x.length ≤ sizeLine then .ok (.int x.length) else .bad := rfl
theorem q_len_l : lenD [.lst ds] = .ok (.int ds.length) := rfl
theorem q_len_t : lenD [.tup ds] = .ok (.int ds.length) := rfl
theorem q_abs_i : absD [.int i] = .ok (.int (if i < 0 then -i else i)) := rfl
theorem q_max_i : max2D [.int i, .int j] = .ok (.int (if j > i then j else i)) := rfl
theorem q_int_s : intD [.str x] = match PySem.intText? x with | some n => if x.length ≤ 640 then .ok (.int n) else .bad | none => .bad := rfl
theorem q_all_l : allD [.lst ds] = match boolsD ds with | some bs => .ok (.bl (bs.all id)) | none => .bad := rfl
theorem q_any_l : anyD [.lst ds] = match boolsD ds with | some bs => .ok (.bl (bs.any id)) | none => .bad := rfl
theorem q_st_s : startsD (.str x) [.str y] = .ok (.bl (Txt.startswith x y)) := rfl
theorem q_zf_s : zfillD (.str x) [.int i] = if PadOk i = true then .ok (.str (Txt.zfill x i)) else .bad := rfl
theorem q_hs_s : hasT "str" (.str x) = true := by rfl
theorem q_mkT_a : mkT ds = if ds.length ≤ sizeLine then .ok (.tup ds) else .bad := rfl
theorem q_fitL_a : fitL ds = if ds.length ≤ sizeLine then .ok ds else .bad := rfl
theorem q_asI_l : asI (.lst ds) = .ok ds := rfl
theorem q_asI_t : asI (.tup ds) = .ok ds := rfl
theorem q_asI_s : asI (.str x) = .ok (signs x) := rfl
theorem q_fmt_s : fmtD (.str x) = if x.length ≤ sizeLine then .ok (.str x) else .bad := rfl
theorem q_jNil_a : jNil x ρ = if x.length ≤ sizeLine then .ok (.str x) else .bad := rfl
theorem q_jCons_k : jCons f fj x ρ = (f ρ).bind fun z => match z with | .str y => if (x ++ y).length ≤ sizeLine then fj (x ++ y) ρ else .bad | _ => .bad := rfl
theorem q_v0 {r : Ev} : dV 0 (.sh d :: r) = .ok d := rfl
theorem q_v1 {s0 : Sl} {r : Ev} : dV 1 (s0 :: .sh d :: r) = .ok d := rfl
theorem q_v2 {s0 s1 : Sl} {r : Ev} : dV 2 (s0 :: s1 :: .sh d :: r) = .ok d := rfl
theorem q_v3 {s0 s1 s2 : Sl} {r : Ev} : dV 3 (s0 :: s1 :: s2 :: .sh d :: r) = .ok d := rfl
theorem q_v4 {s0 s1 s2 s3 : Sl} {r : Ev} : dV 4 (s0 :: s1 :: s2 :: s3 :: .sh d :: r) = .ok d := rfl
theorem q_v5 {s0 s1 s2 s3 s4 : Sl} {r : Ev} : dV 5 (s0 :: s1 :: s2 :: s3 :: s4 :: .sh d :: r) = .ok d := rfl
theorem q_v6 {s0 s1 s2 s3 s4 s5 : Sl} {r : Ev} : dV 6 (s0 :: s1 :: s2 :: s3 :: s4 :: s5 :: .sh d :: r) = .ok d := rfl
theorem q_v7 {s0 s1 s2 s3 s4 s5 s6 : Sl} {r : Ev} : dV 7 (s0 :: s1 :: s2 :: s3 :: s4 :: s5 :: s6 :: .sh d :: r) = .ok d := rfl
theorem q_v8 {s0 s1 s2 s3 s4 s5 s6 s7 : Sl} {r : Ev} : dV 8 (s0 :: s1 :: s2 :: s3 :: s4 :: s5 :: s6 :: s7 :: .sh d :: r) = .ok d := rfl
theorem q_v9 {s0 s1 s2 s3 s4 s5 s6 s7 s8 : Sl} {r : Ev} : dV 9 (s0 :: s1 :: s2 :: s3 :: s4 :: s5 :: s6 :: s7 :: s8 :: .sh d :: r) = .ok d := rfl
theorem q_v10 {s0 s1 s2 s3 s4 s5 s6 s7 s8 s9 : Sl} {r : Ev} : dV 10 (s0 :: s1 :: s2 :: s3 :: s4 :: s5 :: s6 :: s7 :: s8 :: s9 :: .sh d :: r) = .ok d := rfl
theorem q_v11 {s0 s1 s2 s3 s4 s5 s6 s7 s8 s9 s10 : Sl} {r : Ev} : dV 11 (s0 :: s1 :: s2 :: s3 :: s4 :: s5 :: s6 :: s7 :: s8 :: s9 :: s10 :: .sh d :: r) = .ok d := rfl
theorem q_v12 {s0 s1 s2 s3 s4 s5 s6 s7 s8 s9 s10 s11 : Sl} {r : Ev} : dV 12 (s0 :: s1 :: s2 :: s3 :: s4 :: s5 :: s6 :: s7 :: s8 :: s9 :: s10 :: s11 :: .sh d :: r) = .ok d := rfl
theorem q_v13 {s0 s1 s2 s3 s4 s5 s6 s7 s8 s9 s10 s11 s12 : Sl} {r : Ev} : dV 13 (s0 :: s1 :: s2 :: s3 :: s4 :: s5 :: s6 :: s7 :: s8 :: s9 :: s10 :: s11 :: s12 :: .sh d :: r) = .ok d := rfl
theorem q_mod_p (hj : 0 < j) : modD (.int i) (.int j) = .ok (.int (i % j)) := by
  rw [q_mod_i, if_pos (by simp; omega), Int.fmod_eq_emod_of_nonneg _ (by omega)]
theorem q_fdiv_p (hj : 0 < j) (h2 : j < 18446744073709551616) : fdivD (.int i) (.int j) = .ok (.int (i / j)) := by
  have hb : bits j ≤ 64 := bits_le (by omega)
  rw [q_fdiv_i, if_pos (by unfold okDiv; simp only [Bool.and_eq_true, decide_eq_true_eq]; omega), Int.fdiv_eq_ediv_of_nonneg _ (by omega)]
theorem q_add_sp {x y : Str} (h1 : x.length ≤ 1000) (h2 : y.length ≤ 1000) : addD (.str x) (.str y) = .ok (.str (x ++ y)) := by
  rw [q_add_s, if_pos (Nat.le_trans (Nat.add_le_add h1 h2) (by decide))]
theorem q_add_lp {x y : List D} (h1 : x.length ≤ 1000) (h2 : y.length ≤ 1000) : addD (.lst x) (.lst y) = .ok (.lst (x ++ y)) := by
  rw [q_add_l, if_pos (Nat.le_trans (Nat.add_le_add h1 h2) (by decide))]
theorem q_fit_p {x : List D} (h1 : x.length ≤ 1000) : fitL x = .ok x := by
  rw [q_fitL_a, if_pos (Nat.le_trans h1 (by decide))]
theorem q_mkT_p {x : List D} (h1 : x.length ≤ 1000) : mkT x = .ok (.tup x) := by
  rw [q_mkT_a, if_pos (Nat.le_trans h1 (by decide))]
end
end P2
namespace P2
open PySem L2 PySem.Spec
open PyProof.Rows hiding St
section
variable {X : Cx} {E : XK}
noncomputable def okMulU (i j : Int) : Bool := okMul i j || okMul64 i j
noncomputable def mulUD : D → D → R D
  | .int i, .int j => if okMulU i j = true then .ok (.int (i * j)) else .bad
  | .str x, .int n => if okMulS x n = true then .ok (.str (Txt.mul x n)) else .bad
  | _, _ => .bad
theorem op_mulUD : OpD X E (binaryOp .Mult) mulUD := by
  refine ⟨_, opr_or (opr_or op_mul op_mulB) op_mul_str, fun al H x y dx dy Q fr rx ry h => ?_⟩
  unfold mulUD at h
  split at h
  · cases rx; cases ry
    split at h
    · rename_i z
      unfold okMulU at z
      rw [Bool.or_eq_true] at z
      rcases z with z | z
      · unfold okMul at z
        simp only [Bool.and_eq_true, decide_eq_true_eq] at z
        exact .inl (.inr ⟨_, _, rfl, rfl, z, h H (.refl H) _ (.int _)⟩)
      · refine .inl (.inl ⟨_, _, rfl, rfl, ?_, h H (.refl H) _ (.int _)⟩)
        unfold okMul64 at z
        simp only [Bool.or_eq_true, Bool.and_eq_true, decide_eq_true_eq] at z
        exact z
    · exact h.elim
  · cases rx; cases ry
    split at h
    · rename_i z; exact .inr ⟨_, _, rfl, rfl, mulOk_of z, h H (.refl H) _ (.str _)⟩
    · exact h.elim
  · exact h.elim
end
theorem p400 : (10 : Nat) ^ 400 < 2 ^ 1500 := by decide +kernel
theorem bits400 {i : Int} (h : i.natAbs < 10 ^ 400) : bits i ≤ 1500 := bits_le (Nat.lt_trans h p400)
theorem q_mulU_r {i j : Int} (h1 : -18446744073709551616 < j) (h2 : j < 18446744073709551616) : mulUD (.int i) (.int j) = .ok (.int (i * j)) := by
  show (if okMulU i j = true then R.ok (D.int (i * j)) else .bad) = _
  rw [if_pos (by unfold okMulU okMul64; simp only [Bool.or_eq_true, Bool.and_eq_true, decide_eq_true_eq]; right; right; exact ⟨h1, h2⟩)]
theorem q_fdivU {i j : Int} (hj : j ≠ 0) (h2 : j.natAbs < 10 ^ 400) : fdivD (.int i) (.int j) = .ok (.int (i.fdiv j)) := by
  have hb := bits400 h2
  rw [q_fdiv_i, if_pos (by unfold okDiv; simp only [Bool.and_eq_true, decide_eq_true_eq]; omega)]
theorem q_isX_i {q : Addr → Value → Option Bool} {i : Int} : isXD q [.int i, .ty "int"] = .ok (.bl true) := rfl
theorem q_isX_b {q : Addr → Value → Option Bool} {i : Int} : isXD q [.int i, .ty "bool"] = .ok (.bl false) := rfl
theorem q_isX_s {q : Addr → Value → Option Bool} {x : Str} : isXD q [.str x, .ty "str"] = .ok (.bl true) := rfl
theorem q_isX_t {q : Addr → Value → Option Bool} {ds : List D} : isXD q [.tup ds, .ty "tuple"] = .ok (.bl true) := rfl
theorem q_isX_l {q : Addr → Value → Option Bool} {ds : List D} : isXD q [.lst ds, .ty "list"] = .ok (.bl true) := rfl
theorem q_slW_l {ds : List D} {lo hi : Option Int} : slWD (.lst ds) lo hi = .ok (.lst (cutD ds lo hi)) := rfl
theorem q_slW_s {x : Str} {lo hi : Option Int} : slWD (.str x) lo hi = if x.length ≤ sizeLine then .ok (.str (Txt.slice x lo hi)) else .bad := rfl
theorem q_is_bb {a b : Bool} : isD2 (.bl a) (.bl b) = .ok (.bl (a == b)) := rfl
theorem q_isn_bb {a b : Bool} : isnD2 (.bl a) (.bl b) = .ok (.bl (!(a == b))) := rfl
theorem q_is_nn : isD2 .non .non = .ok (.bl true) := rfl
theorem q_isn_nn : isnD2 .non .non = .ok (.bl false) := rfl
theorem q_is_tn {ds : List D} : isD2 (.tup ds) .non = .ok (.bl false) := rfl
theorem q_isn_tn {ds : List D} : isnD2 (.tup ds) .non = .ok (.bl true) := rfl
theorem q_whileD {c : Ev → R Bool} {b : Ev → RT} {n : Nat} {ρ : Ev} : whileD c b (n + 1) ρ = toS (c ρ) fun k => if k = true then turnT (b ρ) (whileD c b n) else .nx ρ := rfl
end P2
namespace P2
open PySem L2 PySem.Spec
open PyProof.Rows hiding St
section
variable {X : Cx} {E : XK} {a b : Expr} {rest : List Expr} {pos : Pos} {ta tb : TE} {fa fb : Ev → R D}
noncomputable def dOrV (a b : Ev → R D) : Ev → R D := fun ρ => (a ρ).bind fun x => (tT x).bind fun c => if c = true then .ok x else b ρ
theorem q_dOrV_a {ρ : Ev} : dOrV fa fb ρ = (fa ρ).bind fun x => (tT x).bind fun c => if c = true then .ok x else fb ρ := rfl
end
end P2
namespace P2
open PySem L2 PySem.Spec
open PyProof.Rows hiding St
section
variable {X : Cx} {σ : L2.St} {pins : List (Addr × Obj)} {f l it S : Addr} {dv : Value} {vs : List V} {H0 : Hp} {R : Result → Shared → Prop}
end
section
variable {X : Cx} {σ : L2.St} {pins : List (Addr × Obj)} {f l it S : Addr} {dv : Value} {vs : List V} {H0 : Hp} {R : Result → Shared → Prop}
end
section
variable {X : Cx} {E : XK} {k : Nat} {x fn p : Str} {F : List D → R D} {fa fb : Ev → R D} {e de : Expr} {pos p0 p1 p2 p3 : Pos}
end
end P2
namespace P2
open PySem L2 PySem.Spec PySem.Calls
open PyProof.Rows hiding St
noncomputable def BM (mg : Str → Option Value) (h : Heap) : Prop := ∃ bm ob, mg "__builtins__" = some (.ref bm) ∧ bm ≠ builtinsNs ∧ h.get? bm = some ob ∧ ob.cls = .type "module" ∧ ob.dict = some builtinsNs ∧ ob.data = .plain
noncomputable def LamO (f : Addr) (o : Obj) : HO := .ext fun h => h.get? f = some o
noncomputable def LamH (H : Hp) (f : Addr) (qual : Str) (params : Arguments) (body : Expr) (scope : Scope) (pm : Value) : Prop :=
  ∃ c' ctv, H f = some (LamO f (PySem.W.kla_obj "<lambda>" qual params body scope [] pm c' ctv)) ∧ H c' = some (CodeO c' qual)
theorem LamH.up {K : PySem.W.Frag} {H H' : Hp} {f : Addr} {qual : Str} {params : Arguments} {body : Expr} {scope : Scope} {pm : Value} (h : LamH H f qual params body scope pm) (s : Same K H H') : LamH H' f qual params body scope pm := by
  obtain ⟨c', ctv, e1, e2⟩ := h
  exact ⟨c', ctv, s.at' _ _ nt_ext e1, s.at' _ _ nt_ext e2⟩
section
variable {X : Cx} {pins : List (Addr × Obj)} {σ : List (Option V)} {H : Hp} {s : Shared}
end
section
variable {X : Cx} {E : XK} {k : Nat} {p : Str} {fa fb g : Ev → R D} {e de body : Expr} {pos p0 p2 p3 p4 : Pos} {x qual : Str} {c P : Addr} {params : Arguments} {scope : Scope} {N : List Str}
end
section
variable {P : Program} {w : World} {K : PySem.W.Frag} {mg : Str → Option Value} {base : Heap}
end
end P2
namespace P2
open PySem L2 PySem.Spec PySem.Calls
open PyProof.Rows hiding St
theorem law_callT {P : Program} {w : World} {K : PySem.W.Frag} {mg mb : Str → Option Value} {CX : CXT} {k : Nat} {fa a : Addr} {fd : FuncData} {x : Str} {sp : Sp} {s₁ : Shared} {vs : List Value} {ns : List Int}
    (KX : K.In s₁.heap) (hns : s₁.heap.Ns mainGlobals mg) (hb : s₁.heap.Ns builtinsNs mb) (hbb : ∀ x : Str, x ≠ "__name__" → mb x = bootBuiltins x) (hlim : s₁.heap.NoLimit) (hg : s₁.gens = #[])
    (ha : s₁.heap.get? a = some { cls := .type "list", data := .seq vs.toArray }) (hi : IntsAre vs ns) (hl : ns.length ≤ sizeLine) (hr : Room k callerA) (hT : ∀ t ∈ tabsOf K, PySem.W.CodeHd s₁.heap t.2.1 t.2.2 ∧ s₁.heap.get? t.2.2 = some (PySem.W.tabObj #[])) (hN : PySem.W.noTabs K = true)
    (hB : BM mg s₁.heap)
    (F : ∀ base : Heap, K.In base → base.Ns mainGlobals mg → BM mg base → FnOk P w K mg base CX k fa fd [x] sp) (hbind : ∀ (s : Shared) (u : Value), BindsTo s fd ⟨[u], []⟩ [(x, u)])
    (hsp : ∀ H : Hp, TbOk K H → SqL K H a (ns.map V.int) → sp [.ref a] H (fun v _ => v = .bl true) fun _ _ _ => False)
    (hCX : ∀ H e s', CX [] H s₁ (fun _ _ _ => False) e s' → False) :
    codeAny (model P w) callerA (.call (.ref fa) ⟨[.ref a], []⟩) (fun r s' => r = .ok (.ret (.bool true)) ∧ OldK s₁.heap s'.heap ∧ s'.os = s₁.os ∧ AllBare s'.gens) s₁ := by
  have rv := vals_ints hi
  have lenV := hi.length
  have na : ∀ t ∈ tabsOf K, t.2.2 ≠ a := fun t ht e => by
    have := (hT t ht).2
    rw [e, ha] at this
    cases this
  have nK : ∀ t ∈ tabsOf K, K.lookup t.2.2 = none := fun t ht => by
    cases q : K.lookup t.2.2 with
    | none => rfl
    | some o =>
      have e1 := KX _ _ q
      rw [(hT t ht).2] at e1
      cases e1
      have h2 := List.all_eq_true.mp hN (t.2.2, PySem.W.tabObj #[]) (PySem.W.mem_of_lookupK q)
      exact absurd (show false = true from h2) Bool.false_ne_true
  -- the heap's own view
  have core : ∀ H : Hp, (∀ b, H b = none ∨ (∃ o xs, H b = some (.frz o (.lst xs)) ∧ b = a ∧ K.lookup a = none) ∨ ∃ t ∈ tabsOf K, b = t.2.2 ∧ H b = some (.tbl #[])) → (∀ t ∈ tabsOf K, H t.2.2 = some (.tbl #[])) → SqL K H a (ns.map V.int) → HOk P w H s₁.heap →
      codeAny (model P w) callerA (.call (.ref fa) ⟨[.ref a], []⟩) (fun r s' => r = .ok (.ret (.bool true)) ∧ OldK s₁.heap s'.heap ∧ s'.os = s₁.os ∧ AllBare s'.gens) s₁ := by
    intro H hO hTb hS hok
    have base_of : ∀ {b : Addr} {o : Obj}, s₁.heap.get? b = some o → H b = none → (hidT s₁.heap H).get? b = some o := fun e n => hidT_get e n
    have noA : ∀ {b : Addr} {o : Obj} {es : Array DictEntry} {ep : Nat}, s₁.heap.get? b = some o → o.data = .dict es ep → H b = none := fun {b o es ep} e d => by
      rcases hO b with z | ⟨ob, xs, z, e', _⟩ | ⟨t, ht, e', z⟩
      · exact z
      · subst e'
        rw [ha] at e; cases e
        have d' : Data.seq vs.toArray _ = Data.dict es ep := d
        cases d'
      · subst e'
        rw [(hT t ht).2] at e; cases e
        have d' : Data.fields #[] = Data.dict es ep := d
        cases d'
    have nsK : ∀ {b : Addr} {m : Str → Option Value}, s₁.heap.Ns b m → (hidT s₁.heap H).Ns b m := fun {b m} ⟨o, es, ep, e, d, r⟩ => ⟨o, es, ep, base_of e (noA e d), d, r⟩
    have hKb : K.In (hidT s₁.heap H) := fun b o e => base_of (KX b o e) (by
      rcases hO b with z | ⟨ob, xs, z, e', hk⟩ | ⟨t, ht, e', z⟩
      · exact z
      · subst e'; rw [hk] at e; cases e
      · subst e'; rw [nK t ht] at e; cases e)
    have hBb : BM mg (hidT s₁.heap H) := by
      obtain ⟨bm, ob, b1, b2, b3, b4, b5, b6⟩ := hB
      refine ⟨bm, ob, b1, b2, base_of b3 ?_, b4, b5, b6⟩
      rcases hO bm with z | ⟨o2, xs, z, e', _⟩ | ⟨t, ht, e', z⟩
      · exact z
      · subst e'; rw [ha] at b3; cases b3; cases b6
      · subst e'; rw [(hT t ht).2] at b3; cases b3; cases b6
    have hM : Mod K mg (hidT s₁.heap H) := ⟨hKb, nsK hns, ⟨mb, nsK hb, hbb⟩, let ⟨mc, h1, h2⟩ := hlim; ⟨mc, nsK h1, h2⟩⟩
    have e0 : Env0 P w K mg (hidT s₁.heap H) callerA [] s₁ H := ⟨rfl, hM, fun b o e => of_hidT e, Nat.le_of_eq (hidT_size _ _), trivial, fun b hb => absurd (show b ∈ ([] : List Addr) from hb) (by simp), hok, .of_eq hg⟩
    have tb : TbOk K H := fun t ht => ⟨#[], hTb t ht, trivial, fun pos cv e => by cases e⟩
    refine codeAny_mono ((F _ hKb (nsK hns) hBb).run callerA [] s₁ H ⟨[.ref a], []⟩ [.ref a] [.ref a] _ _ hr e0 (hbind s₁ (.ref a)) (.cons rfl .nil) (hsp H tb hS)) fun r s' h => ?_
    cases r with
    | error e => exact (hCX H e s' h).elim
    | ok fl =>
      cases fl with
      | next => exact False.elim h
      | brk => exact False.elim h
      | cont => exact False.elim h
      | ret u =>
        obtain ⟨v, H', os, bare, un, hok', r', q⟩ := h
        have q' : v = .bl true := q
        subst q'
        obtain rfl : u = Value.bool true := r'
        have kept : ∀ b o, s₁.heap.get? b = some o → s'.heap.get? b = some o ∨ ∃ t ∈ tabsOf K, b = t.2.2 ∧ ∃ ps, s'.heap.get? b = some (PySem.W.tabObj ps) := fun b o e => by
          rcases hO b with z | ⟨ob, xs, z, _⟩ | ⟨t, ht, e', z⟩
          · exact .inl (un.keep b o e z (by intro y; exact absurd (show b ∈ ([] : List Addr) from y) (by simp)) (by simp))
          · have z2 := un.frzs b ob _ z
            obtain ⟨e1, _⟩ := hok b _ z
            obtain ⟨e2, _⟩ := hok' b _ z2
            rw [e] at e1; cases e1
            exact .inl e2
          · obtain ⟨more, z2⟩ := un.tbls b #[] z
            have e2 : s'.heap.get? b = some { cls := .none, data := .fields (#[] ++ more) } := hok' b _ z2
            exact .inr ⟨t, ht, e', _, e2⟩
        refine ⟨rfl, ⟨fun b o e => ?_, fun b o e => ?_⟩, os, bare⟩
        · rcases kept b o e with z | ⟨t, ht, e', ps, z⟩
          · exact .inl z
          · subst e'
            have e2 := (hT t ht).2
            rw [e] at e2
            cases e2
            exact .inr (.inl ⟨((hT t ht).1.tab (hT t ht).2).isCodeTable, rfl, #[], ps, rfl, by rw [Array.empty_append]; exact z⟩)
        · rcases kept b o e with z | ⟨_, _, _, ps, z⟩
          · exact ⟨o, z⟩
          · exact ⟨_, z⟩
  have nz : ¬ ∃ t ∈ tabsOf K, a = t.2.2 := fun ⟨t, ht, e⟩ => na t ht e.symm
  have tbl : ∀ (H : Hp) (b : Addr), (∃ t ∈ tabsOf K, b = t.2.2) → ObjOk P w H s₁.heap b (.tbl #[]) := fun H b ⟨t, ht, e⟩ => by subst e; exact (hT t ht).2
  cases hk : K.lookup a with
  | some o =>
    have e := KX a o hk
    rw [ha] at e
    cases e
    refine core (fun b => if (∃ t ∈ tabsOf K, b = t.2.2) then some (.tbl #[]) else none) (fun b => ?_) (fun t ht => if_pos ⟨t, ht, rfl⟩) (.inr ⟨_, vs.toArray, _, hk, rfl, rfl, rfl, by rw [List.size_toArray, lenV]; exact hl, by simpa using rv⟩) (fun b u e => ?_)
    · by_cases z : ∃ t ∈ tabsOf K, b = t.2.2
      · obtain ⟨t, ht, e⟩ := z
        exact .inr (.inr ⟨t, ht, e, if_pos ⟨t, ht, e⟩⟩)
      · exact .inl (if_neg z)
    · by_cases z : ∃ t ∈ tabsOf K, b = t.2.2
      · have e' := (if_pos z).symm.trans e
        cases e'
        exact tbl _ b z
      · have e' := (if_neg z).symm.trans e
        cases e'
  | none =>
    refine core (fun b => if (∃ t ∈ tabsOf K, b = t.2.2) then some (.tbl #[]) else if b = a then some (.frz { cls := .type "list", data := .seq vs.toArray } (.lst (ns.map V.int))) else none) (fun b => ?_) (fun t ht => if_pos ⟨t, ht, rfl⟩) (.inl (.inr ⟨{ cls := .type "list", data := .seq vs.toArray }, (if_neg nz).trans (if_pos rfl)⟩)) (fun b u e => ?_)
    · by_cases z : ∃ t ∈ tabsOf K, b = t.2.2
      · obtain ⟨t, ht, e⟩ := z
        exact .inr (.inr ⟨t, ht, e, if_pos ⟨t, ht, e⟩⟩)
      · by_cases y : b = a
        · exact .inr (.inl ⟨_, _, (if_neg z).trans (if_pos y), y, hk⟩)
        · exact .inl ((if_neg z).trans (if_neg y))
    · by_cases z : ∃ t ∈ tabsOf K, b = t.2.2
      · have e' := (if_pos z).symm.trans e
        cases e'
        exact tbl _ b z
      · by_cases y : b = a
        · have e' := ((if_neg z).trans (if_pos y)).symm.trans e
          cases e'
          subst y
          exact ⟨ha, by rw [List.length_map]; exact hl, vs, _, rv, ha⟩
        · have e' := ((if_neg z).trans (if_neg y)).symm.trans e
          cases e'
theorem tabs_of {p : Program} {loose : List Str} {mean : ExcName → Option Value} {mg mb : Str → Option Value} {h : Heap} {K : PySem.W.Frag} (T : Top p loose mean mg mb h) (X : K.In h) (hq : (tabsOf K).all (fun t => ((recsOf p).find? fun e => e.name == t.1).isSome) = true) :
    ∀ t ∈ tabsOf K, PySem.W.CodeHd h t.2.1 t.2.2 ∧ h.get? t.2.2 = some (PySem.W.tabObj #[]) := fun t ht => by
  have h1 := List.all_eq_true.mp hq t ht
  obtain ⟨d, hd⟩ := Option.isSome_iff_exists.mp h1
  unfold tabsOf at ht
  obtain ⟨x, _, e⟩ := List.mem_filterMap.mp ht
  split at e
  · obtain ⟨q, e1, e2⟩ := Option.map_eq_some_iff.mp e
    subst e2
    exact PySem.W.tab_of T X hd e1
  · cases e
end P2
namespace P2
open PySem PySem.W PyProof.Rows
noncomputable def KOk {α : Type} (n : Nat) (c : Nat → Nat → Bool) : KasT α → (α → Prop) → Prop
  | .ret a, Q => Q a
  | .ask i j k, Q => i < n ∧ j < n ∧ KOk n c (k (c i j)) Q
theorem KOk.bind {α β : Type} {n : Nat} {c : Nat → Nat → Bool} {f : α → KasT β} {Q : β → Prop} : ∀ {t : KasT α}, KOk n c t (fun a => KOk n c (f a) Q) → KOk n c (t.bind f) Q
  | .ret _, h => h
  | .ask i j k, h => ⟨h.1, h.2.1, KOk.bind (t := k (c i j)) h.2.2⟩
theorem KOk.wp {α : Type} {n : Nat} {c : Nat → Nat → Bool} {cmp : Nat → Nat → (Bool → Shared → Prop) → Shared → Prop} {Q : α → Prop} {G : α → Shared → Prop} {s : Shared}
    (hc : ∀ i j, i < n → j < n → ∀ C : Bool → Shared → Prop, C (c i j) s → cmp i j C s) (hG : ∀ a, Q a → G a s) : ∀ {t : KasT α}, KOk n c t Q → t.kasWp cmp G s
  | .ret a, h => hG a h
  | .ask i j k, h => hc i j h.1 h.2.1 _ (KOk.wp hc hG (t := k (c i j)) h.2.2)
section
variable {n : Nat} {c : Nat → Nat → Bool} {rk : Nat → Int}
noncomputable def KK (rk : Nat → Int) (p : Array Nat) (i : Nat) : Int := rk ((p[i]?).getD 0)
noncomputable def Inr (n : Nat) (p : Array Nat) : Prop := p.Perm (List.toArray (List.range n))
theorem Inr.size {p : Array Nat} (h : Inr n p) : p.size = n := by rw [h.size_eq]; simp
theorem Inr.lt {p : Array Nat} (h : Inr n p) (h0 : 0 < n) (k : Nat) : p.getD k 0 < n := by
  rw [Array.getD_eq_getD_getElem?]
  cases e : p[k]? with
  | none => simpa using h0
  | some x =>
    have hm : x ∈ p.toList := by
      have := Array.mem_of_getElem? e
      exact Array.mem_toList_iff.mpr this
    have := (Array.perm_iff_toList_perm.mp h).mem_iff.mp hm
    simpa using this
theorem getD_KK (rk : Nat → Int) (p : Array Nat) (i : Nat) : rk (p.getD i 0) = KK rk p i := by unfold KK; rw [Array.getD_eq_getD_getElem?]
theorem KK_congr {p q : Array Nat} {i j : Nat} (h : p[i]? = q[j]?) : KK rk p i = KK rk q j := by unfold KK; rw [h]
theorem KK_rev {p : Array Nat} {i j : Nat} (hj : j ≤ p.size) (k : Nat) : KK rk (kas_rev p i j) k = if i ≤ k ∧ k < j then KK rk p (i + j - 1 - k) else KK rk p k := by
  have := getElem?_mirror_all (i := i) hj k
  unfold kas_rev
  split
  · rename_i h; rw [if_pos h] at this; exact KK_congr this
  · rename_i h; rw [if_neg h] at this; exact KK_congr this
theorem Inr.rev {p : Array Nat} (h : Inr n p) (i j : Nat) : Inr n (kas_rev p i j) := (mirror_perm ..).trans h
theorem Inr.bub {p : Array Nat} (h : Inr n p) (i j : Nat) : Inr n (bubble p i j) := (bubble_perm ..).trans h
variable (hc : ∀ i j, i < n → j < n → c i j = decide (rk i < rk j))
include hc
theorem ask_ok {α : Type} {p : Array Nat} (h : Inr n p) (h0 : 0 < n) (i j : Nat) {k : Bool → KasT α} {Q : α → Prop} (q : KOk n c (k (decide (KK rk p i < KK rk p j))) Q) : KOk n c (.ask (p.getD i 0) (p.getD j 0) k) Q := by
  refine ⟨h.lt h0 i, h.lt h0 j, ?_⟩
  rw [hc _ _ (h.lt h0 i) (h.lt h0 j), getD_KK rk p i, getD_KK rk p j]
  exact q
noncomputable def Asc (rk : Nat → Int) (p : Array Nat) (m : Nat) : Prop := ∀ i j, i ≤ j → j < m → KK rk p i ≤ KK rk p j
noncomputable def Dsc (rk : Nat → Int) (p : Array Nat) (m : Nat) : Prop := ∀ i j, i ≤ j → j < m → KK rk p j ≤ KK rk p i
omit hc in
theorem Asc.snoc {p : Array Nat} {m : Nat} (h : Asc rk p m) (h1 : 1 ≤ m) (e : KK rk p (m - 1) ≤ KK rk p m) : Asc rk p (m + 1) := fun i j hij hj => by
  by_cases z : j = m
  · subst z
    by_cases y : i = j
    · subst y; omega
    · have := h i (j - 1) (by omega) (by omega); omega
  · exact h i j hij (by omega)
omit hc in
theorem Dsc.snoc {p : Array Nat} {m : Nat} (h : Dsc rk p m) (h1 : 1 ≤ m) (e : KK rk p m ≤ KK rk p (m - 1)) : Dsc rk p (m + 1) := fun i j hij hj => by
  by_cases z : j = m
  · subst z
    by_cases y : i = j
    · subst y; omega
    · have := h i (j - 1) (by omega) (by omega); omega
  · exact h i j hij (by omega)
theorem ok_asc {p : Array Nat} (h : Inr n p) (h0 : 0 < n) {Q : Nat → Prop} : ∀ (f m : Nat), 1 ≤ m → Asc rk p m → (∀ m', m ≤ m' → m' ≤ m + f → Asc rk p m' → (m' < m + f → KK rk p m' < KK rk p (m' - 1)) → Q m') → KOk n c (kas_asc p f m) Q
  | 0, m, _, a, q => q m (Nat.le_refl _) (Nat.le_refl _) a fun w => absurd w (by omega)
  | f + 1, m, h1, a, q => by
    refine ask_ok hc h h0 m (m - 1) ?_
    by_cases z : KK rk p m < KK rk p (m - 1)
    · rw [decide_eq_true z, if_pos rfl]
      exact q m (Nat.le_refl _) (by omega) a fun _ => z
    · rw [decide_eq_false z, if_neg (by decide)]
      exact ok_asc h h0 f (m + 1) (by omega) (a.snoc h1 (by omega)) fun m' g1 g2 g3 g4 => q m' (by omega) (by omega) g3 fun w => g4 (by omega)
omit hc in
theorem Dsc.rev {p : Array Nat} {a b m : Nat} (h : Dsc rk p m) (hb : b ≤ p.size) (hm : b ≤ m) (e : ∀ k, a ≤ k → k < b → KK rk p k = KK rk p (b - 1)) (k : Nat) : KK rk (kas_rev p a b) k = KK rk p k := by
  rw [KK_rev hb]
  split
  · rename_i z
    rw [e _ (by omega) (by omega), e k z.1 z.2]
  · rfl
theorem ok_desc (h0 : 0 < n) {Q : Array Nat × Nat × Nat → Prop} : ∀ (f : Nat) (p : Array Nat) (m q : Nat), Inr n p → 1 ≤ m → m + f ≤ n → q < m → Dsc rk p m → (∀ k, m - (q + 1) ≤ k → k < m → KK rk p k = KK rk p (m - 1)) →
      (∀ p' m' q', Inr n p' → m ≤ m' → m' ≤ m + f → q' < m' → Dsc rk p' m' → (∀ k, m' - (q' + 1) ≤ k → k < m' → KK rk p' k = KK rk p' (m' - 1)) → Q (p', m', q')) → KOk n c (kas_desc f p m q) Q
  | 0, p, m, q, h, _, _, hq, a, e, r => r p m q h (Nat.le_refl _) (Nat.le_refl _) hq a e
  | f + 1, p, m, q, h, h1, hmn, hq, a, e, r => by
    have hs := h.size
    refine ask_ok hc h h0 m (m - 1) ?_
    by_cases z : KK rk p m < KK rk p (m - 1)
    · rw [decide_eq_true z, if_pos rfl]
      by_cases y : q > 0
      · rw [if_pos y]
        have kk := Dsc.rev (a := m - (q + 1)) (b := m) a (by omega) (Nat.le_refl _) e
        have a' : Dsc rk (kas_rev p (m - (q + 1)) m) (m + 1) := Dsc.snoc (fun i j hij hj => by rw [kk, kk]; exact a i j hij hj) h1 (by rw [kk, kk]; omega)
        exact ok_desc h0 f _ (m + 1) 0 (h.rev _ _) (by omega) (by omega) (by omega) a' (fun k g1 g2 => by rw [show k = m + 1 - 1 by omega]) fun p' m' q' g1 g2 g3 g4 g5 g6 => r p' m' q' g1 (by omega) (by omega) g4 g5 g6
      · rw [if_neg y]
        exact ok_desc h0 f p (m + 1) 0 h (by omega) (by omega) (by omega) (a.snoc h1 (by omega)) (fun k g1 g2 => by rw [show k = m + 1 - 1 by omega]) fun p' m' q' g1 g2 g3 g4 g5 g6 => r p' m' q' g1 (by omega) (by omega) g4 g5 g6
    · rw [decide_eq_false z, if_neg (by decide)]
      refine ask_ok hc h h0 (m - 1) m ?_
      by_cases y : KK rk p (m - 1) < KK rk p m
      · rw [decide_eq_true y, if_pos rfl]
        exact r p m q h (Nat.le_refl _) (by omega) hq a e
      · rw [decide_eq_false y, if_neg (by decide)]
        have eq : KK rk p m = KK rk p (m - 1) := by omega
        refine ok_desc h0 f p (m + 1) (q + 1) h (by omega) (by omega) (by omega) (a.snoc h1 (by omega)) (fun k g1 g2 => ?_) fun p' m' q' g1 g2 g3 g4 g5 g6 => r p' m' q' g1 (by omega) (by omega) g4 g5 g6
        rw [Nat.add_sub_cancel]
        by_cases w : k = m
        · rw [w]
        · rw [e k (by omega) (by omega), eq]
theorem ok_tail3 {p : Array Nat} (h : Inr n p) (h0 : 0 < n) {m : Nat} (h1 : 1 ≤ m) (hm : m ≤ n) (a : Dsc rk p m) {Q : Nat × Array Nat → Prop} (q : ∀ m' p', Inr n p' → 1 ≤ m' → m' ≤ n → Asc rk p' m' → Q (m', p')) : KOk n c (kas_tail3 m n p) Q := by
  have hs := h.size
  refine KOk.bind (ok_asc hc (h.rev 0 m) h0 _ _ h1 (fun i j hij hj => ?_) fun m' g1 g2 g3 g4 => q m' _ (h.rev 0 m) (by omega) (by omega) g3)
  rw [KK_rev (by omega), KK_rev (by omega), if_pos (by omega), if_pos (by omega)]
  exact a _ _ (by omega) (by omega)
theorem ok_descPart {p : Array Nat} (h : Inr n p) (h0 : 0 < n) {m : Nat} (h1 : 1 ≤ m) (hm : m < n) (a : Dsc rk p m) (e : KK rk p m < KK rk p (m - 1)) {Q : Nat × Array Nat → Prop} (q : ∀ m' p', Inr n p' → 1 ≤ m' → m' ≤ n → Asc rk p' m' → Q (m', p')) : KOk n c (kas_descPart m n p) Q := by
  refine KOk.bind (ok_desc hc h0 _ _ _ _ h (by omega) (by omega) (by omega) (a.snoc h1 (by omega)) (fun k g1 g2 => by rw [show k = m + 1 - 1 by omega]) fun p' m' q' g1 g2 g3 g4 g5 g6 => ?_)
  dsimp only
  have hs := g1.size
  split
  · have kk := Dsc.rev (a := m' - (q' + 1)) (b := m') g5 (by omega) (Nat.le_refl _) g6
    exact ok_tail3 hc (g1.rev _ _) h0 (by omega) (by omega) (fun i j hij hj => by rw [kk, kk]; exact g5 i j hij hj) q
  · exact ok_tail3 hc g1 h0 (by omega) (by omega) g5 q
theorem ok_count {p : Array Nat} (h : Inr n p) (h0 : 1 ≤ n) {Q : Nat × Array Nat → Prop} (q : ∀ m' p', Inr n p' → 1 ≤ m' → m' ≤ n → Asc rk p' m' → Q (m', p')) : KOk n c (kas_count n p) Q := by
  have hs := h.size
  refine KOk.bind (ok_asc hc h h0 _ _ (Nat.le_refl 1) (fun i j hij hj => by rw [show i = j by omega]; omega) fun m g1 g2 g3 g4 => ?_)
  by_cases z : m = n
  · subst z
    simp only [beq_self_eq_true, if_true]
    exact q m p h g1 (Nat.le_refl _) g3
  · have z' : ¬ (m == n) = true := by simpa using z
    rw [if_neg z']
    have e := g4 (by omega)
    split
    · refine ask_ok hc h h0 0 (m - 1) ?_
      by_cases y : KK rk p 0 < KK rk p (m - 1)
      · rw [decide_eq_true y, if_pos rfl]
        exact q m p h g1 (by omega) g3
      · rw [decide_eq_false y, if_neg (by decide)]
        have al : ∀ k, k < m → KK rk p k = KK rk p (m - 1) := fun k hk => by
          have := g3 0 k (by omega) hk
          have := g3 k (m - 1) (by omega) (by omega)
          omega
        have kk : ∀ k, KK rk (kas_rev p 0 m) k = KK rk p k := fun k => by
          rw [KK_rev (by omega)]
          split
          · rw [al _ (by omega), al k (by omega)]
          · rfl
        exact ok_descPart hc (h.rev 0 m) h0 g1 (by omega) (fun i j hij hj => by rw [kk, kk, al i (by omega), al j hj]; omega) (by rw [kk, kk]; exact e) q
    · exact ok_descPart hc h h0 g1 (by omega) (fun i j hij hj => by rw [show i = j by omega]; omega) e q
theorem ok_place {p : Array Nat} (h : Inr n p) (h0 : 0 < n) {k : Nat} (a : Asc rk p k) {Q : Nat → Prop} (q : ∀ l, l ≤ k → (∀ i, i < l → KK rk p i ≤ KK rk p k) → (∀ i, l ≤ i → i < k → KK rk p k < KK rk p i) → Q l) :
    ∀ (f l r : Nat), l ≤ r → r ≤ k → r - l ≤ f → (∀ i, i < l → KK rk p i ≤ KK rk p k) → (∀ i, r ≤ i → i < k → KK rk p k < KK rk p i) → KOk n c (kas_place p k f l r) Q
  | 0, l, r, h1, h2, h3, g1, g2 => q l (by omega) g1 fun i w1 w2 => g2 i (by omega) w2
  | f + 1, l, r, h1, h2, h3, g1, g2 => by
    show KOk n c (if l ≥ r then .ret l else _) Q
    split
    · exact q l (by omega) g1 fun i w1 w2 => g2 i (by omega) w2
    · refine ask_ok hc h h0 k ((l + r) / 2) ?_
      by_cases z : KK rk p k < KK rk p ((l + r) / 2)
      · rw [decide_eq_true z, if_pos rfl]
        exact ok_place h h0 a q f l ((l + r) / 2) (by omega) (by omega) (by omega) g1 fun i w1 w2 => by have := a ((l + r) / 2) i (by omega) w2; omega
      · rw [decide_eq_false z, if_neg (by decide)]
        exact ok_place h h0 a q f ((l + r) / 2 + 1) r (by omega) (by omega) (by omega) (fun i w => by have := a i ((l + r) / 2) (by omega) (by omega); omega) g2
theorem ok_bin (h0 : 0 < n) {Q : Array Nat → Prop} (q : ∀ p, Inr n p → Asc rk p n → Q p) : ∀ (f : Nat) (p : Array Nat) (k : Nat), Inr n p → k + f = n → Asc rk p k → KOk n c (kas_bin f p k) Q
  | 0, p, k, h, e, a => q p h (by rw [← e]; exact a)
  | f + 1, p, k, h, e, a => by
    have hs := h.size
    refine KOk.bind (ok_place hc h h0 a (fun l g1 g2 g3 => ?_) k 0 k (by omega) (Nat.le_refl _) (by omega) (fun i w => absurd w (by omega)) fun i w1 w2 => absurd w1 (by omega))
    refine ok_bin h0 q f _ (k + 1) (h.bub _ _) (by omega) fun i j hij hj => ?_
    have bb : ∀ x, KK rk (bubble p k (k - l)) x = if x = l then KK rk p k else if l < x ∧ x ≤ k then KK rk p (x - 1) else KK rk p x := fun x => by
      have := getElem?_bubble (xs := p) (src := k) (by omega) (k - l) (by omega) x
      rw [show k - (k - l) = l by omega] at this
      split
      · rename_i w; rw [if_pos w] at this; exact KK_congr this
      · rename_i w
        rw [if_neg w] at this
        split
        · rename_i w2; rw [if_pos w2] at this; exact KK_congr this
        · rename_i w2; rw [if_neg w2] at this; exact KK_congr this
    rw [bb, bb]
    by_cases i1 : i = l
    · rw [if_pos i1]
      by_cases j1 : j = l
      · rw [if_pos j1]; omega
      · rw [if_neg j1, if_pos (by omega)]
        have := g3 (j - 1) (by omega) (by omega); omega
    · rw [if_neg i1]
      by_cases i2 : l < i ∧ i ≤ k
      · rw [if_pos i2, if_neg (by omega), if_pos (by omega)]
        exact a _ _ (by omega) (by omega)
      · rw [if_neg i2]
        by_cases j1 : j = l
        · rw [if_pos j1]; exact g2 i (by omega)
        · rw [if_neg j1]
          by_cases j2 : l < j ∧ j ≤ k
          · rw [if_pos j2]; exact a _ _ (by omega) (by omega)
          · rw [if_neg j2]; exact a _ _ hij (by omega)
theorem ok_sort (h2 : 1 ≤ n) {Q : Array Nat → Prop} (q : ∀ p, Inr n p → Asc rk p n → Q p) : KOk n c (kas_sort n) Q := by
  refine KOk.bind (ok_count hc (Array.Perm.refl _) h2 fun m' p' g1 g2 g3 g4 => ?_)
  dsimp only
  split
  · rename_i z
    rw [show max m' 1 = m' by omega]
    exact ok_bin hc h2 q _ _ _ g1 (by omega) g4
  · exact q p' g1 (by rw [show n = m' by omega]; exact g4)
end
noncomputable def rankOf (n : Nat) (c : Nat → Nat → Bool) (i : Nat) : Int := (((List.range n).filter fun j => c j i).length : Nat)
theorem filter_len_le {α : Type} {l : List α} {p q : α → Bool} (h : ∀ x ∈ l, p x = true → q x = true) : (l.filter p).length ≤ (l.filter q).length := by
  induction l with
  | nil => simp
  | cons a l ih =>
    have ih' := ih fun x hx => h x (.tail _ hx)
    have ha := h a (.head _)
    simp only [List.filter_cons]
    cases hp : p a with
    | true => rw [ha hp]; simpa using ih'
    | false =>
      cases hq : q a with
      | true => simp; omega
      | false => simpa using ih'
theorem filter_len_lt {α : Type} {l : List α} {p q : α → Bool} (h : ∀ x ∈ l, p x = true → q x = true) {y : α} (hy : y ∈ l) (h1 : p y = false) (h2 : q y = true) : (l.filter p).length < (l.filter q).length := by
  induction l with
  | nil => simp at hy
  | cons a l ih =>
    have ha := h a (.head _)
    have le := filter_len_le fun x hx => h x (.tail _ hx)
    simp only [List.filter_cons]
    rcases List.mem_cons.mp hy with rfl | hy
    · rw [h1, h2]
      simp only [Bool.false_eq_true, if_false, if_true, List.length_cons]
      omega
    · have ih' := ih (fun x hx => h x (.tail _ hx)) hy
      cases hp : p a with
      | true => rw [ha hp]; simpa using ih'
      | false =>
        cases hq : q a with
        | true => simp; omega
        | false => simpa using ih'
theorem rank_ok {n : Nat} {c : Nat → Nat → Bool} (irr : ∀ i, i < n → c i i = false) (tr : ∀ i j k, i < n → j < n → k < n → c i j = true → c j k = true → c i k = true)
    (nt : ∀ i j k, i < n → j < n → k < n → c i j = true → c k j = true ∨ c i k = true) (i j : Nat) (hi : i < n) (hj : j < n) : c i j = decide (rankOf n c i < rankOf n c j) := by
  cases h : c i j with
  | true =>
    symm
    rw [decide_eq_true_eq]
    have := filter_len_lt (l := List.range n) (p := fun k => c k i) (q := fun k => c k j) (fun k hk h1 => tr k i j (by simpa using hk) hi hj h1 h) (y := i) (by simpa using hi) (irr i hi) h
    unfold rankOf
    omega
  | false =>
    symm
    rw [decide_eq_false_iff_not]
    have := filter_len_le (l := List.range n) (p := fun k => c k j) (q := fun k => c k i) (fun k hk h1 => by
      rcases nt k j i (by simpa using hk) hj hi h1 with h2 | h2
      · rw [h] at h2; cases h2
      · exact h2)
    unfold rankOf
    omega
end P2
namespace PySem.F
end PySem.F
namespace P2
open PySem
section
variable {prog : Program} {w : World} {A : Around} {E : Value → Shared → Prop} {s : Shared} {R : Result → Shared → Prop}
variable {I : Addr} {fp wr : List Addr} {G : Array GenState → Array GenState → Prop} {n : Nat} {P : Nat → Value → Prop} {St : Nat → Shared → Prop}
end
end P2
namespace P2
open PySem L2 PySem.Spec
open PyProof.Rows hiding St
theorem Reps.rev {K : PySem.W.Frag} {al : Addr → Prop} {H : Hp} : ∀ {vs : List V} {ds : List D}, Reps K al H vs ds → Reps K al H vs.reverse ds.reverse
  | _, _, .nil => .nil
  | _, _, .cons r q => by
    rw [List.reverse_cons, List.reverse_cons]
    exact (Reps.rev q).append (.cons r .nil)
section
variable {X : Cx} {E : XK} {e : Expr} {ta : TE} {f : Ev → R D} {p1 p2 pos pos2 : Pos}
end
end P2
namespace P2
open PySem L2 PySem.Spec PySem.Calls
open PyProof.Rows hiding St
theorem bt_sorted : bootBuiltins "sorted" = some (.builtin "sorted") := by decide +kernel
theorem ints_of_vals : ∀ {ns : List Int} {its : List Value}, Vals (ns.map V.int) its → IntsAre its ns
  | [], _, .nil => .nil
  | n :: ns, _, .cons h r => by
    obtain ⟨t, rfl⟩ := h
    exact .cons n t (ints_of_vals r)
noncomputable def intsO : List D → Option (List Int)
  | [] => some []
  | .int n :: r => (intsO r).map (n :: ·)
  | _ :: _ => none
theorem intsO_map : ∀ {ds : List D} {ns : List Int}, intsO ds = some ns → ds = ns.map D.int
  | [], _, h => by cases h; rfl
  | .int n :: r, ns, h => by
    obtain ⟨m, e1, e2⟩ := Option.map_eq_some_iff.mp h
    subst e2
    rw [List.map_cons, ← intsO_map e1]
  | .non :: _, _, h => nomatch h
  | .bl _ :: _, _, h => nomatch h
  | .str _ :: _, _, h => nomatch h
  | .ty _ :: _, _, h => nomatch h
  | .ref _ :: _, _, h => nomatch h
  | .tup _ :: _, _, h => nomatch h
  | .lst _ :: _, _, h => nomatch h
  | .exc _ _ _ :: _, _, h => nomatch h
theorem reps_ints_v {K : PySem.W.Frag} {al : Addr → Prop} {H : Hp} : ∀ {ns : List Int} {vs : List V}, Reps K al H vs (ns.map D.int) → vs = ns.map V.int
  | [], _, .nil => rfl
  | n :: ns, _, .cons r q => by
    cases r
    rw [reps_ints_v q]; rfl
section
variable {X : Cx} {E : XK} {e : Expr} {ta : TE} {f : Ev → R D} {p1 pos : Pos}
end
end P2
namespace P2
open PySem L2 PySem.Spec PySem.Calls PySem.W
open PyProof.Rows hiding St K
section
variable {prog : Program} {w : World} {A : Around} {E : Value → Shared → Prop} {s : Shared}
noncomputable abbrev runSt (κ : SortKind) (us : List Value) : SortSt := SortSt.mk' κ (us.toArray.zip us.toArray) #[] 7 none
noncomputable def Srt (prog : Program) (w : World) (G : Array Value → Prop) (us : List Value) (t : Shared) : Prop :=
  ∀ B : Around, wpAny (model prog w) B (keyKind' us.toArray) (fun κ t' => t' = t ∧ wpAny (model prog w) B ((sortRuns').run (runSt κ us)) (fun r t'' => t'' = t ∧ failedOf r.2 = none ∧ ((arrOf r.2).map (·.2)).size = us.length ∧ G ((arrOf r.2).map (·.2))) (fun _ _ => False) t) (fun _ _ => False) t
theorem srt_list {d : Addr} {us : List Value} {e : Nat} {G : Array Value → Prop} {Q : PySem.Fin → Shared → Prop} (hd : s.heap.get? d = some (seqObj "list" us.toArray e)) (hz : us.length ≤ sizeLine) (g0 : us.length < 2 → G us.toArray)
    (g1 : 2 ≤ us.length → ∀ t : Shared, (∀ b o, b ≠ d → s.heap.get? b = some o → t.heap.get? b = some o) → Srt prog w G us t)
    (k : ∀ out : Array Value, out.size = us.length → G out → Q (.done (.ret .none)) { s with heap := sortedHeap s.heap d us out }) : wpAny (model prog w) A (Builtin.«list.sort» ⟨[.ref d], []⟩) Q E s := by
  have hlt : d < s.heap.objs.size := Heap.lt_size hd
  rw [list_sort_plain]
  apply wpAny_bind
  apply listItems_at hd rfl
  apply wpAny_bind
  apply listUpdate_at hd rfl (hsz := by simpa using hz) (hsz2 := Nat.zero_le _)
  have hd1 := get?_update_seq hd (fun _ => (#[] : Array Value))
  apply wpAny_bind
  apply seqEpoch_at hd1 rfl
  apply wpAny_bind
  refine wpAny_newTuple ?_ (by simpa using hz)
  apply wpAny_bind
  refine wpAny_newList ?_ (Nat.zero_le _)
  refine wpAny_holding ?_
  generalize hh : ((s.heap.update d (Obj.mapSeq fun _ => (#[] : Array Value))).push (seqObj "tuple" us.toArray 0)).push (seqObj "list" #[] 0) = h6
  have eh : ∀ out : Array Value, h6.update d (Obj.mapSeq fun _ => out) = sortedHeap s.heap d us out := fun out => by rw [← hh]; rfl
  have ne1 : d ≠ (s.heap.update d (Obj.mapSeq fun _ => (#[] : Array Value))).objs.size := by rw [Heap.size_update]; exact Nat.ne_of_lt hlt
  have ne2 : ∀ o : Obj, d ≠ ((s.heap.update d (Obj.mapSeq fun _ => (#[] : Array Value))).push o).objs.size := fun o => by rw [size_push', Heap.size_update]; exact Nat.ne_of_lt (Nat.lt_succ_of_lt hlt)
  have hd6 : ∃ e1, h6.get? d = some (seqObj "list" #[] e1) ∧ ((s.heap.update d (Obj.mapSeq fun _ => (#[] : Array Value))).get? d = some (seqObj "list" #[] e1)) := by
    refine ⟨_, ?_, hd1⟩
    rw [← hh, Heap.get?_push_ne _ _ _ (ne2 _), Heap.get?_push_ne _ _ _ ne1]
    exact hd1
  obtain ⟨e1, hd6, hd1'⟩ := hd6
  have ee := hd1.symm.trans hd1'
  have old : ∀ b o, b ≠ d → s.heap.get? b = some o → h6.get? b = some o := fun b o hb q => by
    rw [← hh]
    refine Heap.get?_push_of_some _ (Heap.get?_push_of_some _ ?_)
    rw [Heap.get?_update_ne _ _ _ _ hb]; exact q
  show wpAny (model prog w) A _ Q E { s with heap := h6 }
  dsimp only
  have last : ∀ out : Array Value, out.size = us.length → G out → wpAny (model prog w) A (Builtin.List.listUpdate (.ref d) fun _ => out) (fun _ t => t = { s with heap := sortedHeap s.heap d us out }) E { s with heap := h6 } := fun out ho hg => by
    refine listUpdate_at (s := { s with heap := h6 }) hd6 rfl ?_ (hsz := Nat.zero_le _) (hsz2 := by rw [ho]; omega)
    show ({ s with heap := h6.update d (Obj.mapSeq fun _ => out) } : Shared) = _
    rw [eh out]
  by_cases h2 : us.toArray.size < 2
  · rw [if_pos h2, if_pos h2]
    apply wpAny_bind; apply wpAny_pure
    rw [StateT.run_pure]
    apply wpAny_bind; apply wpAny_pure
    dsimp only
    apply wpAny_bind
    apply seqEpoch_at (s := { s with heap := h6 }) hd6 rfl
    have e0 : (arrOf (SortSt.mk' general' (us.toArray.zip us.toArray) #[] 7 none)).map (·.2) = us.toArray := by
      show (us.toArray.zip us.toArray).map (·.2) = _
      apply Array.toList_inj.mp
      rw [Array.toList_map]
      simp only [Array.toList_zip]
      rw [← List.unzip_snd, List.unzip_zip rfl]
    rw [e0]
    refine wpAny_bind (wpAny_mono (last us.toArray (by simp) (g0 (by simpa using h2))) (fun _ t ht => ?_) fun _ _ x => x)
    subst ht
    have : e1 = (if (#[] : Array Value).size == us.toArray.size then e else e + 1) := by injection ee with w1; injection w1 with _ _ w2; injection w2 with _ w3; exact w3.symm
    rw [← this]
    simp only [bne_self_eq_false, Bool.false_eq_true, if_false]
    exact wpAny_pure (k _ (by simp) (g0 (by simpa using h2)))
  · rw [if_neg h2, if_neg h2]
    refine wpAny_bind (wpAny_mono (g1 (by simpa using h2) { s with heap := h6 } old A) (fun κ t hk => ?_) fun _ _ x => x.elim)
    obtain ⟨rfl, hk⟩ := hk
    refine wpAny_bind (wpAny_mono hk (fun r t hr => ?_) fun _ _ x => x.elim)
    obtain ⟨rfl, hf, hsz, hg⟩ := hr
    obtain ⟨⟨⟩, st⟩ := r
    dsimp only at hf hsz hg ⊢
    apply wpAny_bind
    apply seqEpoch_at (s := { s with heap := h6 }) hd6 rfl
    refine wpAny_bind (wpAny_mono (last _ hsz hg) (fun _ t ht => ?_) fun _ _ x => x)
    subst ht
    rw [hf]
    have : e1 = (if (#[] : Array Value).size == us.toArray.size then e else e + 1) := by injection ee with w1; injection w1 with _ _ w2; injection w2 with _ w3; exact w3.symm
    rw [← this]
    simp only [bne_self_eq_false, Bool.false_eq_true, if_false]
    exact wpAny_pure (k _ hsz hg)
end
end P2
namespace P2
open PySem L2 PySem.Spec PySem.Calls PySem.W
open PyProof.Rows hiding St K
noncomputable def lexL : List D → List D → Bool
  | .int i :: xs, .int j :: ys => if i = j then lexL xs ys else decide (i < j)
  | .str i :: xs, .str j :: ys => if i = j then lexL xs ys else decide (i.cps.toList < j.cps.toList)
  | [], _ :: _ => true
  | _, _ => false
noncomputable def ltQ : D → D → Bool
  | .int i, .int j => decide (i < j)
  | .str i, .str j => decide (i.cps.toList < j.cps.toList)
  | .tup a, .tup b => lexL a b
  | _, _ => false
noncomputable def sgL : List D → Option (List Nat)
  | [] => some []
  | .int _ :: r => (sgL r).map (0 :: ·)
  | .str _ :: r => (sgL r).map (1 :: ·)
  | _ => none
noncomputable def sgQ : D → Option (List Nat)
  | .int _ => some [0]
  | .str _ => some [1]
  | .tup (a :: r) => (sgL (a :: r)).map (2 :: ·)
  | _ => none
noncomputable def homQ : List D → Bool
  | [] => true
  | d :: r => (sgQ d).isSome && r.all fun e => sgQ e == sgQ d
theorem homQ_all {ds : List D} (h : homQ ds = true) : ∃ s, ∀ d ∈ ds, sgQ d = some s := by
  cases ds with
  | nil => exact ⟨[], fun d hd => by simp at hd⟩
  | cons d r =>
    unfold homQ at h
    simp only [Bool.and_eq_true, List.all_eq_true, beq_iff_eq] at h
    obtain ⟨s, hs⟩ := Option.isSome_iff_exists.mp h.1
    refine ⟨s, fun e he => ?_⟩
    rcases List.mem_cons.mp he with rfl | he
    · exact hs
    · rw [h.2 e he, hs]
theorem str_ext {x y : Str} (h : x.cps.toList = y.cps.toList) : x = y := by
  cases x; cases y
  simp only at h
  congr 1
  exact Array.toList_inj.mp h
theorem slt_tri {x y : Str} (h1 : ¬ x.cps.toList < y.cps.toList) (h2 : ¬ y.cps.toList < x.cps.toList) : x = y :=
  str_ext (List.le_antisymm (List.not_lt.mp h2) (List.not_lt.mp h1))
theorem sgL_int {i : Int} {r : List D} {s : List Nat} (h : sgL (.int i :: r) = some s) : ∃ t, s = 0 :: t ∧ sgL r = some t := by
  obtain ⟨t, h1, h2⟩ := Option.map_eq_some_iff.mp (show (sgL r).map (0 :: ·) = some s from h)
  exact ⟨t, h2.symm, h1⟩
theorem sgL_str {i : Str} {r : List D} {s : List Nat} (h : sgL (.str i :: r) = some s) : ∃ t, s = 1 :: t ∧ sgL r = some t := by
  obtain ⟨t, h1, h2⟩ := Option.map_eq_some_iff.mp (show (sgL r).map (1 :: ·) = some s from h)
  exact ⟨t, h2.symm, h1⟩
inductive Two : List D → List D → Prop
  | nil : Two [] []
  | int (i j : Int) {xs ys : List D} : Two xs ys → Two (.int i :: xs) (.int j :: ys)
  | str (i j : Str) {xs ys : List D} : Two xs ys → Two (.str i :: xs) (.str j :: ys)
theorem two_of : ∀ {a b : List D} {s : List Nat}, sgL a = some s → sgL b = some s → Two a b
  | [], b, s, h1, h2 => by
    cases h1
    cases b with
    | nil => exact .nil
    | cons d r =>
      cases d with
      | int i => obtain ⟨t, e, _⟩ := sgL_int h2; cases e
      | str i => obtain ⟨t, e, _⟩ := sgL_str h2; cases e
      | _ => cases h2
  | .int i :: xs, b, s, h1, h2 => by
    obtain ⟨t, rfl, e1⟩ := sgL_int h1
    cases b with
    | nil => cases h2
    | cons d r =>
      cases d with
      | int j => obtain ⟨t', e, e2⟩ := sgL_int h2; cases e; exact .int i j (two_of e1 e2)
      | str j => obtain ⟨t', e, _⟩ := sgL_str h2; cases e
      | _ => cases h2
  | .str i :: xs, b, s, h1, h2 => by
    obtain ⟨t, rfl, e1⟩ := sgL_str h1
    cases b with
    | nil => cases h2
    | cons d r =>
      cases d with
      | str j => obtain ⟨t', e, e2⟩ := sgL_str h2; cases e; exact .str i j (two_of e1 e2)
      | int j => obtain ⟨t', e, _⟩ := sgL_int h2; cases e
      | _ => cases h2
  | .non :: _, _, _, h1, _ => by cases h1
  | .bl _ :: _, _, _, h1, _ => by cases h1
  | .ty _ :: _, _, _, h1, _ => by cases h1
  | .ref _ :: _, _, _, h1, _ => by cases h1
  | .tup _ :: _, _, _, h1, _ => by cases h1
  | .lst _ :: _, _, _, h1, _ => by cases h1
  | .exc _ _ _ :: _, _, _, h1, _ => by cases h1
theorem lexL_int (i j : Int) (xs ys : List D) : lexL (.int i :: xs) (.int j :: ys) = if i = j then lexL xs ys else decide (i < j) := rfl
theorem lexL_str (i j : Str) (xs ys : List D) : lexL (.str i :: xs) (.str j :: ys) = if i = j then lexL xs ys else decide (i.cps.toList < j.cps.toList) := rfl
theorem lex_irr {a b : List D} (h : Two a b) : lexL a a = false := by
  induction h with
  | nil => rfl
  | int i j h ih => rw [lexL_int, if_pos rfl]; exact ih
  | str i j h ih => rw [lexL_str, if_pos rfl]; exact ih
theorem lex_tri {a b : List D} (h : Two a b) (h1 : lexL a b = false) (h2 : lexL b a = false) : a = b := by
  induction h with
  | nil => rfl
  | int i j h ih =>
    rw [lexL_int] at h1 h2
    by_cases e : i = j
    · subst e
      rw [if_pos rfl] at h1 h2
      rw [ih h1 h2]
    · rw [if_neg e] at h1
      rw [if_neg (Ne.symm e)] at h2
      simp only [decide_eq_false_iff_not] at h1 h2
      omega
  | str i j h ih =>
    rw [lexL_str] at h1 h2
    by_cases e : i = j
    · subst e
      rw [if_pos rfl] at h1 h2
      rw [ih h1 h2]
    · rw [if_neg e] at h1
      rw [if_neg (Ne.symm e)] at h2
      simp only [decide_eq_false_iff_not] at h1 h2
      exact absurd (slt_tri h1 h2) e
theorem lex_tr : ∀ {a b c : List D}, Two a b → Two b c → lexL a b = true → lexL b c = true → lexL a c = true
  | [], _, _, .nil, _, h, _ => by cases h
  | .int i :: xs, .int j :: ys, .int k :: zs, .int _ _ p, .int _ _ q, h1, h2 => by
    rw [lexL_int] at h1 h2 ⊢
    by_cases e : i = j
    · subst e
      rw [if_pos rfl] at h1
      by_cases f : i = k
      · subst f
        rw [if_pos rfl] at h2 ⊢
        exact lex_tr p q h1 h2
      · rw [if_neg f] at h2 ⊢
        exact h2
    · rw [if_neg e] at h1
      by_cases f : j = k
      · subst f
        rw [if_neg e]
        exact h1
      · rw [if_neg f] at h2
        simp only [decide_eq_true_eq] at h1 h2
        rw [if_neg (by omega)]
        simp only [decide_eq_true_eq]
        omega
  | .str i :: xs, .str j :: ys, .str k :: zs, .str _ _ p, .str _ _ q, h1, h2 => by
    rw [lexL_str] at h1 h2 ⊢
    by_cases e : i = j
    · subst e
      rw [if_pos rfl] at h1
      by_cases f : i = k
      · subst f
        rw [if_pos rfl] at h2 ⊢
        exact lex_tr p q h1 h2
      · rw [if_neg f] at h2 ⊢
        exact h2
    · rw [if_neg e] at h1
      by_cases f : j = k
      · subst f
        rw [if_neg e]
        exact h1
      · rw [if_neg f] at h2
        simp only [decide_eq_true_eq] at h1 h2
        have t := List.lt_trans h1 h2
        rw [if_neg (fun w => by subst w; exact List.lt_irrefl _ t)]
        simp only [decide_eq_true_eq]
        exact t
inductive TwoQ : D → D → Prop
  | int (i j : Int) : TwoQ (.int i) (.int j)
  | str (i j : Str) : TwoQ (.str i) (.str j)
  | tup {a b : List D} {d e : D} : Two (d :: a) (e :: b) → TwoQ (.tup (d :: a)) (.tup (e :: b))
theorem sgQ_form {x : D} {s : List Nat} (h : sgQ x = some s) : (∃ i, x = .int i ∧ s = [0]) ∨ (∃ i, x = .str i ∧ s = [1]) ∨ ∃ d r t, x = .tup (d :: r) ∧ s = 2 :: t ∧ sgL (d :: r) = some t := by
  unfold sgQ at h
  split at h
  · cases h; exact .inl ⟨_, rfl, rfl⟩
  · cases h; exact .inr (.inl ⟨_, rfl, rfl⟩)
  · rename_i a r
    obtain ⟨t, h1, h2⟩ := Option.map_eq_some_iff.mp h
    exact .inr (.inr ⟨a, r, t, rfl, h2.symm, h1⟩)
  · cases h
theorem twoQ_of {x y : D} {s : List Nat} (h1 : sgQ x = some s) (h2 : sgQ y = some s) : TwoQ x y := by
  rcases sgQ_form h1 with ⟨i, rfl, rfl⟩ | ⟨i, rfl, rfl⟩ | ⟨d, r, t, rfl, rfl, e1⟩
  · rcases sgQ_form h2 with ⟨j, rfl, _⟩ | ⟨j, rfl, e⟩ | ⟨d', r', t', rfl, e, e2⟩
    · exact .int i j
    · cases e
    · cases e
  · rcases sgQ_form h2 with ⟨j, rfl, e⟩ | ⟨j, rfl, e⟩ | ⟨d', r', t', rfl, e, e2⟩
    · cases e
    · exact .str i j
    · cases e
  · rcases sgQ_form h2 with ⟨j, rfl, e⟩ | ⟨j, rfl, e⟩ | ⟨d', r', t', rfl, e, e2⟩
    · cases e
    · cases e
    · cases e; exact .tup (two_of e1 e2)
theorem ltQ_irr {x : D} {s : List Nat} (h : sgQ x = some s) : ltQ x x = false := by
  cases twoQ_of h h with
  | int i j => exact decide_eq_false (by omega)
  | str i j => exact decide_eq_false (List.lt_irrefl _)
  | tup q => exact lex_irr q
theorem ltQ_tri {x y : D} {s : List Nat} (hx : sgQ x = some s) (hy : sgQ y = some s) (h1 : ltQ x y = false) (h2 : ltQ y x = false) : x = y := by
  cases twoQ_of hx hy with
  | int i j =>
    have a := of_decide_eq_false h1
    have b := of_decide_eq_false h2
    rw [show i = j by omega]
  | str i j => rw [slt_tri (of_decide_eq_false h1) (of_decide_eq_false h2)]
  | tup q => rw [lex_tri q h1 h2]
theorem ltQ_tr {x y z : D} {s : List Nat} (hx : sgQ x = some s) (hy : sgQ y = some s) (hz : sgQ z = some s) (h1 : ltQ x y = true) (h2 : ltQ y z = true) : ltQ x z = true := by
  cases twoQ_of hx hy with
  | int i j =>
    cases twoQ_of hy hz with
    | int _ k => have a := of_decide_eq_true h1; have b := of_decide_eq_true h2; exact decide_eq_true (by omega)
  | str i j =>
    cases twoQ_of hy hz with
    | str _ k => exact decide_eq_true (List.lt_trans (of_decide_eq_true h1) (of_decide_eq_true h2))
  | tup q =>
    cases twoQ_of hy hz with
    | tup q' => exact lex_tr q q' h1 h2
noncomputable def insQ (x : D) : List D → List D
  | [] => [x]
  | y :: r => if ltQ y x = true then y :: insQ x r else x :: y :: r
noncomputable def sortQL (ds : List D) : List D := ds.foldr insQ []
noncomputable def Rising (ds : List D) : Prop := ds.Pairwise fun a b => ltQ b a = false
theorem insQ_perm (x : D) : ∀ r : List D, (insQ x r).Perm (x :: r)
  | [] => .refl _
  | y :: r => by
    unfold insQ
    split
    · exact ((insQ_perm x r).cons y).trans (.swap x y r)
    · exact .refl _
theorem sortQL_perm : ∀ ds : List D, (sortQL ds).Perm ds
  | [] => .refl _
  | d :: r => (insQ_perm d (sortQL r)).trans ((sortQL_perm r).cons d)
theorem insQ_rising {s : List Nat} {x : D} (hx : sgQ x = some s) : ∀ {r : List D}, (∀ d ∈ r, sgQ d = some s) → Rising r → Rising (insQ x r)
  | [], _, _ => List.pairwise_singleton ..
  | y :: r, hs, h => by
    have hy := hs y (.head _)
    obtain ⟨h1, h2⟩ := List.pairwise_cons.mp h
    unfold insQ
    split
    · rename_i lt
      refine List.pairwise_cons.mpr ⟨fun z hz => ?_, insQ_rising hx (fun d hd => hs d (.tail _ hd)) h2⟩
      rcases List.mem_cons.mp ((insQ_perm x r).mem_iff.mp hz) with rfl | hz
      · cases q : ltQ z y with
        | false => rfl
        | true => have := ltQ_tr hy hx hy lt q; rw [ltQ_irr hy] at this; cases this
      · exact h1 z hz
    · rename_i lt
      have lt' : ltQ y x = false := by simpa using lt
      refine List.pairwise_cons.mpr ⟨fun z hz => ?_, h⟩
      rcases List.mem_cons.mp hz with rfl | hz
      · exact lt'
      · cases q : ltQ z x with
        | false => rfl
        | true =>
          have hz' := hs z (.tail _ hz)
          cases q2 : ltQ x y with
          | true => have := ltQ_tr hz' hx hy q q2; rw [h1 z hz] at this; cases this
          | false => rw [ltQ_tri hx hy q2 lt'] at q; rw [h1 z hz] at q; cases q
theorem sortQL_rising {s : List Nat} : ∀ {ds : List D}, (∀ d ∈ ds, sgQ d = some s) → Rising (sortQL ds)
  | [], _ => .nil
  | d :: r, h => insQ_rising (h d (.head _)) (fun e he => h e (.tail _ ((sortQL_perm r).mem_iff.mp he))) (sortQL_rising fun e he => h e (.tail _ he))
theorem rising_uniq {s : List Nat} {a b : List D} (h : a.Perm b) (hs : ∀ d ∈ a, sgQ d = some s) (ha : Rising a) (hb : Rising b) : a = b :=
  List.Perm.eq_of_pairwise (fun x y hx hy h1 h2 => ltQ_tri (hs x hx) (hs y (h.symm.mem_iff.mp hy)) h2 h1) ha hb h
end P2
namespace P2
open PySem L2 PySem.Spec PySem.Calls PySem.W
open PyProof.Rows hiding St K
noncomputable def FlV : D → Value → Prop
  | .int i, .int j _ => i = j
  | .str x, .str y _ => x = y
  | _, _ => False
inductive Fl2 : List D → List Value → Prop
  | nil : Fl2 [] []
  | cons {d : D} {v : Value} {ds : List D} {vs : List Value} : FlV d v → Fl2 ds vs → Fl2 (d :: ds) (v :: vs)
noncomputable def TupAt (h : Heap) (u : Value) (ds : List D) : Prop := ∃ a o xs n, u = .ref a ∧ h.get? a = some o ∧ o.cls = .type "tuple" ∧ o.data = .seq xs n ∧ Fl2 ds xs.toList
theorem TupAt.keep {h h' : Heap} {u : Value} {ds : List D} (t : TupAt h u ds) (k : ∀ b o, h.get? b = some o → h'.get? b = some o) : TupAt h' u ds :=
  let ⟨a, o, xs, n, h1, h2, r⟩ := t; ⟨a, o, xs, n, h1, k a o h2, r⟩
noncomputable def ItemAt (h : Heap) (u : Value) : D → Prop
  | .int i => FlV (.int i) u
  | .str x => FlV (.str x) u
  | .tup ds => TupAt h u ds
  | _ => False
theorem ItemAt.keep {h h' : Heap} {u : Value} {d : D} (t : ItemAt h u d) (k : ∀ b o, h.get? b = some o → h'.get? b = some o) : ItemAt h' u d := by
  cases d with
  | tup ds => exact TupAt.keep t k
  | _ => exact t
theorem flat_int {i : Int} {v : Value} (h : FlV (.int i) v) : ∃ t, v = .int i t := by
  cases v with
  | int j t => cases h; exact ⟨t, rfl⟩
  | _ => exact h.elim
theorem flat_str {i : Str} {v : Value} (h : FlV (.str i) v) : ∃ t, v = .str i t := by
  cases v with
  | str j t => cases h; exact ⟨t, rfl⟩
  | _ => exact h.elim
section
variable {prog : Program} {w : World} {A : Around} {E : Value → Shared → Prop} {s : Shared}
theorem one_int {b : Bool} {i j : Int} {t u : Tok} {Q : Bool → Shared → Prop} (h : Q (decide (i < j)) s) : wpAny (model prog w) A (oneLt' b (.int i t) (.int j u)) Q E s := by
  cases b with
  | true => exact oneLt_int h
  | false => exact kat_one _ _ (lt_int h)
theorem one_str {b : Bool} {i j : Str} {t u : Tok} {Q : Bool → Shared → Prop} (h : Q (decide (i.cps.toList < j.cps.toList)) s) : wpAny (model prog w) A (oneLt' b (.str i t) (.str j u)) Q E s := by
  cases b with
  | true => exact oneLt_str h
  | false => exact kat_one _ _ (PyProof.Rows.lt_str h)
theorem lex_go {fl fin : Bool} {Q : Bool → Shared → Prop} : ∀ {xs ys : List D}, Two xs ys → ∀ {us vs : List Value} (i : Nat), Fl2 xs us → Fl2 ys vs → (xs = ys → Q fin s) → (xs ≠ ys → Q (lexL xs ys) s) → KatLex prog w A fl fin Q (us.zip vs) i s
  | _, _, .nil, _, _, i, .nil, .nil, h, _ => h rfl
  | .int x :: xs, .int y :: ys, .int _ _ q, _, _, i, .cons (vs := us) fu ru, .cons (vs := vs) fv rv, h1, h2 => by
    obtain ⟨t, rfl⟩ := flat_int fu
    obtain ⟨t', rfl⟩ := flat_int fv
    rw [List.zip_cons_cons]
    refine kat_cons (wpAny_eqBool_int ?_)
    by_cases e : x = y
    · subst e
      rw [show (x == x) = true by simp]
      refine kat_yes (lex_go q (i + 1) ru rv (fun w => h1 (by rw [w])) fun w => ?_)
      have := h2 (fun z => w (by injection z))
      rwa [lexL_int, if_pos rfl] at this
    · rw [show (x == y) = false by simpa using e]
      refine kat_no (one_int ?_)
      have := h2 (fun z => e (by injection z with z1; injection z1))
      rwa [lexL_int, if_neg e] at this
  | .str x :: xs, .str y :: ys, .str _ _ q, _, _, i, .cons (vs := us) fu ru, .cons (vs := vs) fv rv, h1, h2 => by
    obtain ⟨t, rfl⟩ := flat_str fu
    obtain ⟨t', rfl⟩ := flat_str fv
    rw [List.zip_cons_cons]
    refine kat_cons (wpAny_eqBool_str ?_)
    by_cases e : x = y
    · subst e
      rw [show decide (x = x) = true by simp]
      refine kat_yes (lex_go q (i + 1) ru rv (fun w => h1 (by rw [w])) fun w => ?_)
      have := h2 (fun z => w (by injection z))
      rwa [lexL_str, if_pos rfl] at this
    · rw [show decide (x = y) = false by simpa using e]
      refine kat_no (one_str ?_)
      have := h2 (fun z => e (by injection z with z1; injection z1))
      rwa [lexL_str, if_neg e] at this
theorem Two.len {xs ys : List D} (q : Two xs ys) : xs.length = ys.length := by
  induction q with
  | nil => rfl
  | int i j h ih => rw [List.length_cons, List.length_cons, ih]
  | str i j h ih => rw [List.length_cons, List.length_cons, ih]
theorem all2_len {xs : List D} {us : List Value} (h : Fl2 xs us) : xs.length = us.length := by
  induction h with
  | nil => rfl
  | cons _ _ ih => rw [List.length_cons, List.length_cons, ih]
theorem tup_lt {fl : Bool} {u v : Value} {xs ys : List D} {Q : Bool → Shared → Prop} (q : Two xs ys) (hu : TupAt s.heap u xs) (hv : TupAt s.heap v ys) (h : Q (lexL xs ys) s) : wpAny (model prog w) A (keyLt' (tuples' fl) u v) Q E s := by
  obtain ⟨a, o, us, n, rfl, h1, h2, h3, h4⟩ := hu
  obtain ⟨b, p, vs, m, rfl, g1, g2, g3, g4⟩ := hv
  refine kat_lt h1 h3 g1 g3 (lex_go q 0 h4 g4 (fun e => ?_) fun _ => h)
  have l1 := all2_len h4
  have l2 := all2_len g4
  have l3 := q.len
  simp only [Array.length_toList] at l1 l2
  subst e
  rw [lex_irr q] at h
  rw [show decide (us.size < vs.size) = false from decide_eq_false (by omega)]
  exact h
end
section
variable {prog : Program} {w : World} {A : Around} {E : Value → Shared → Prop} {s : Shared}
inductive Items (h : Heap) : List Value → List D → Prop
  | nil : Items h [] []
  | cons {u : Value} {d : D} {us : List Value} {ds : List D} : ItemAt h u d → Items h us ds → Items h (u :: us) (d :: ds)
theorem Items.keep {h h' : Heap} {us : List Value} {ds : List D} (t : Items h us ds) (k : ∀ b o, h.get? b = some o → h'.get? b = some o) : Items h' us ds := by
  induction t with
  | nil => exact .nil
  | cons a _ ih => exact .cons (a.keep k) ih
theorem Items.len {h : Heap} {us : List Value} {ds : List D} (t : Items h us ds) : us.length = ds.length := by
  induction t with
  | nil => rfl
  | cons a _ ih => rw [List.length_cons, List.length_cons, ih]
theorem Items.get {h : Heap} {us : List Value} {ds : List D} (t : Items h us ds) : ∀ {i : Nat}, i < ds.length → ItemAt h (us.getD i .none) (ds.getD i .non) := by
  induction t with
  | nil => intro i hi; simp at hi
  | cons a _ ih =>
    intro i hi
    cases i with
    | zero => simpa using a
    | succ i => simpa using ih (by simpa using hi)
theorem ints_of {h : Heap} : ∀ {us : List Value} {ds : List D}, Items h us ds → (∀ d ∈ ds, sgQ d = some [0]) → ∃ ns, IntsAre us ns
  | _, _, .nil, _ => ⟨[], .nil⟩
  | _, _, .cons (d := d) a r, hs => by
    rcases sgQ_form (hs d (.head _)) with ⟨i, rfl, _⟩ | ⟨i, rfl, e⟩ | ⟨_, _, _, rfl, e, _⟩
    · obtain ⟨t, rfl⟩ := flat_int a
      obtain ⟨ns, hn⟩ := ints_of r fun d hd => hs d (.tail _ hd)
      exact ⟨i :: ns, .cons i t hn⟩
    · cases e
    · cases e
theorem strs_of {h : Heap} : ∀ {us : List Value} {ds : List D}, Items h us ds → (∀ d ∈ ds, sgQ d = some [1]) → ∃ ns, StrsAre us ns
  | _, _, .nil, _ => ⟨[], .nil⟩
  | _, _, .cons (d := d) a r, hs => by
    rcases sgQ_form (hs d (.head _)) with ⟨i, rfl, e⟩ | ⟨i, rfl, _⟩ | ⟨_, _, _, rfl, e, _⟩
    · cases e
    · obtain ⟨t, rfl⟩ := flat_str a
      obtain ⟨ns, hn⟩ := strs_of r fun d hd => hs d (.tail _ hd)
      exact ⟨i :: ns, .cons i t hn⟩
    · cases e
theorem tups_of {h : Heap} {k : Nat} {t : List Nat} : ∀ {us : List Value} {ds : List D}, Items h us ds → (∀ d ∈ ds, sgQ d = some (2 :: k :: t)) → ∃ fs, KatTups h us fs ∧ fs.length = us.length ∧ ∀ v ∈ fs, (k = 0 ∧ ∃ i u, v = .int i u) ∨ (k = 1 ∧ ∃ i u, v = .str i u)
  | _, _, .nil, _ => ⟨[], .nil, rfl, fun v hv => by simp at hv⟩
  | _, _, .cons (d := d) a r, hs => by
    obtain ⟨fs, f1, f2, f3⟩ := tups_of r fun d hd => hs d (.tail _ hd)
    rcases sgQ_form (hs d (.head _)) with ⟨i, rfl, e⟩ | ⟨i, rfl, e⟩ | ⟨d0, r0, t0, rfl, e, e2⟩
    · cases e
    · cases e
    · cases e
      obtain ⟨b, o, xs, n, rfl, h1, h2, h3, h4⟩ := a
      cases hx : xs.toList with
      | nil => rw [hx] at h4; cases h4
      | cons f xr =>
        rw [hx] at h4
        cases h4 with
        | cons hf hr =>
          have h0 : xs[0]? = some f := by rw [← Array.getElem?_toList, hx]; rfl
          refine ⟨f :: fs, .cons h1 h2 h3 h0 f1, by simp [f2], fun v hv => ?_⟩
          rcases List.mem_cons.mp hv with rfl | hv
          · cases d0 with
            | int i =>
              obtain ⟨z, e1, _⟩ := sgL_int e2
              cases e1
              obtain ⟨u, rfl⟩ := flat_int hf
              exact .inl ⟨rfl, i, u, rfl⟩
            | str i =>
              obtain ⟨z, e1, _⟩ := sgL_str e2
              cases e1
              obtain ⟨u, rfl⟩ := flat_str hf
              exact .inr ⟨rfl, i, u, rfl⟩
            | _ => cases e2
          · exact f3 v hv
theorem kind_of {us : List Value} {ds : List D} {sg : List Nat} (t : Items s.heap us ds) (h2 : 2 ≤ us.length) (hs : ∀ d ∈ ds, sgQ d = some sg) :
    ∃ κ : SortKind, (∀ Q : SortKind → Shared → Prop, Q κ s → wpAny (model prog w) A (keyKind' us.toArray) Q E s) ∧
      ∀ i j, i < ds.length → j < ds.length → ∀ C : Bool → Shared → Prop, C (ltQ (ds.getD i .non) (ds.getD j .non)) s → wpAny (model prog w) A (keyLt' κ (us.getD i .none) (us.getD j .none)) C E s := by
  have hl := t.len
  have gd : ∀ i, i < ds.length → sgQ (ds.getD i .non) = some sg := fun i hi => by
    rw [List.getD_eq_getElem?_getD, List.getElem?_eq_getElem hi, Option.getD_some]
    exact hs _ (List.getElem_mem hi)
  have d0 := gd 0 (by omega)
  obtain ⟨v1, v2, vr, rfl⟩ : ∃ v1 v2 vr, us = v1 :: v2 :: vr := by
    match us, h2 with
    | v1 :: v2 :: vr, _ => exact ⟨v1, v2, vr, rfl⟩
  rcases sgQ_form d0 with ⟨i0, e0, rfl⟩ | ⟨i0, e0, rfl⟩ | ⟨x0, r0, t0, e0, rfl, e2⟩
  · obtain ⟨ns, hn⟩ := ints_of t hs
    refine ⟨oneType', fun Q q => by rw [keyKind_ints hn]; exact wpAny_pure q, fun i j hi hj C c => ?_⟩
    have a := t.get hi
    have b := t.get hj
    have gi := gd i hi
    have gj := gd j hj
    generalize ds.getD i .non = x at a c gi
    generalize ds.getD j .non = y at b c gj
    cases twoQ_of gi gj with
    | int x y =>
      obtain ⟨t1, e1⟩ := flat_int a
      obtain ⟨t2, e2⟩ := flat_int b
      rw [e1, e2, keyLt'_oneType]
      exact oneLt_int c
    | str x y => cases gi
    | tup q => rcases sgQ_form gi with ⟨_, e, _⟩ | ⟨_, e, _⟩ | ⟨_, _, _, _, e, _⟩ <;> cases e
  · obtain ⟨ns, hn⟩ := strs_of t hs
    refine ⟨oneType', fun Q q => by rw [keyKind_strs hn]; exact wpAny_pure q, fun i j hi hj C c => ?_⟩
    have a := t.get hi
    have b := t.get hj
    have gi := gd i hi
    have gj := gd j hj
    generalize ds.getD i .non = x at a c gi
    generalize ds.getD j .non = y at b c gj
    cases twoQ_of gi gj with
    | int x y => cases gi
    | str x y =>
      obtain ⟨t1, e1⟩ := flat_str a
      obtain ⟨t2, e2⟩ := flat_str b
      rw [e1, e2, keyLt'_oneType]
      exact oneLt_str c
    | tup q => rcases sgQ_form gi with ⟨_, e, _⟩ | ⟨_, e, _⟩ | ⟨_, _, _, _, e, _⟩ <;> cases e
  · obtain ⟨k, t1, ht0⟩ : ∃ k t1, t0 = k :: t1 := by
      cases x0 with
      | int i => obtain ⟨z, e1, _⟩ := sgL_int e2; exact ⟨_, _, e1⟩
      | str i => obtain ⟨z, e1, _⟩ := sgL_str e2; exact ⟨_, _, e1⟩
      | _ => cases e2
    subst ht0
    obtain ⟨fs, f1, f2, f3⟩ := tups_of t hs
    refine ⟨tuples' true, fun Q q => ?_, fun i j hi hj C c => ?_⟩
    · have hk : k = 0 ∨ k = 1 := by
        cases fs with
        | nil => simp at f2
        | cons f fr => rcases f3 f (.head _) with ⟨e, _⟩ | ⟨e, _⟩ <;> omega
      rcases hk with rfl | rfl
      · refine kat_kind (T := .type "int") f1 (by rw [f2]; omega) (fun v hv => ?_) (by rfl) q
        rcases f3 v hv with ⟨_, i, u, rfl⟩ | ⟨e, _⟩
        · exact .now
        · cases e
      · refine kat_kind (T := .type "str") f1 (by rw [f2]; omega) (fun v hv => ?_) (by rfl) q
        rcases f3 v hv with ⟨e, _⟩ | ⟨_, i, u, rfl⟩
        · cases e
        · exact .now
    · have a := t.get hi
      have b := t.get hj
      have gi := gd i hi
      have gj := gd j hj
      generalize ds.getD i .non = x at a c gi
      generalize ds.getD j .non = y at b c gj
      cases twoQ_of gi gj with
      | int x y => cases gi
      | str x y => cases gi
      | tup q => exact tup_lt q a b c
noncomputable def outs (us : List Value) (p : Array Nat) : List Value := p.toList.map fun i => us.getD i .none
noncomputable def outD (ds : List D) (p : Array Nat) : List D := p.toList.map fun i => ds.getD i .non
theorem getD_map_range {α : Type} (l : List α) (x : α) : (List.range l.length).map (fun i => l.getD i x) = l := by
  apply List.ext_getElem
  · simp
  · intro i h1 h2
    simp [List.getElem_map, h2]
theorem outD_perm {ds : List D} {p : Array Nat} (h : Inr ds.length p) : (outD ds p).Perm ds := by
  have := (Array.perm_iff_toList_perm.mp h).map fun i => ds.getD i .non
  rw [show (List.range ds.length).toArray.toList = List.range ds.length from rfl, getD_map_range] at this
  exact this
theorem outD_rising {ds : List D} {sg : List Nat} (hs : ∀ d ∈ ds, sgQ d = some sg) {p : Array Nat} (h : Inr ds.length p) (h0 : 0 < ds.length)
    (a : Asc (rankOf ds.length fun i j => ltQ (ds.getD i .non) (ds.getD j .non)) p ds.length) (hc : ∀ i j, i < ds.length → j < ds.length → ltQ (ds.getD i .non) (ds.getD j .non) = decide (rankOf ds.length (fun i j => ltQ (ds.getD i .non) (ds.getD j .non)) i < rankOf ds.length (fun i j => ltQ (ds.getD i .non) (ds.getD j .non)) j)) : Rising (outD ds p) := by
  have sz := h.size
  refine List.pairwise_iff_getElem.mpr fun i j hi hj hij => ?_
  unfold outD at hi hj ⊢
  rw [List.length_map, Array.length_toList] at hi hj
  rw [List.getElem_map, List.getElem_map, Array.getElem_toList, Array.getElem_toList]
  have k1 : p.getD i 0 = p[i] := by simp [Array.getD, hi]
  have k2 : p.getD j 0 = p[j] := by simp [Array.getD, hj]
  have l1 := h.lt h0 i
  have l2 := h.lt h0 j
  have le := a i j (by omega) (by omega)
  rw [← getD_KK, ← getD_KK] at le
  rw [k1] at l1 le
  rw [k2] at l2 le
  rw [hc _ _ l2 l1]
  exact decide_eq_false (by omega)
theorem Items.outs {h : Heap} {us : List Value} {ds : List D} (t : Items h us ds) {p : Array Nat} (hp : Inr ds.length p) (h0 : 0 < ds.length) : Items h (P2.outs us p) (outD ds p) := by
  have : ∀ l : List Nat, (∀ i ∈ l, i < ds.length) → Items h (l.map fun i => us.getD i .none) (l.map fun i => ds.getD i .non) := fun l => by
    induction l with
    | nil => exact fun _ => .nil
    | cons i l ih => exact fun hl => .cons (t.get (hl i (.head _))) (ih fun j hj => hl j (.tail _ hj))
  refine this _ fun i hi => ?_
  have := (Array.perm_iff_toList_perm.mp hp).mem_iff.mp hi
  simpa using this
theorem srt_items {us : List Value} {ds : List D} (t : Items s.heap us ds) (hh : homQ ds = true) (h2 : 2 ≤ us.length) (h64 : us.length < 64) : Srt prog w (fun out => ∃ p, Inr ds.length p ∧ out.toList = P2.outs us p ∧ outD ds p = sortQL ds) us s := by
  intro B
  obtain ⟨sg, hs⟩ := homQ_all hh
  obtain ⟨κ, k1, k2⟩ := kind_of (prog := prog) (w := w) (A := B) (E := fun _ _ => False) t h2 hs
  have hl := t.len
  have gd : ∀ i, i < ds.length → sgQ (ds.getD i .non) = some sg := fun i hi => by
    rw [List.getD_eq_getElem?_getD, List.getElem?_eq_getElem hi, Option.getD_some]
    exact hs _ (List.getElem_mem hi)
  have hc := rank_ok (n := ds.length) (c := fun i j => ltQ (ds.getD i .non) (ds.getD j .non)) (fun i hi => ltQ_irr (gd i hi)) (fun i j k hi hj hk => ltQ_tr (gd i hi) (gd j hj) (gd k hk)) fun i j k hi hj hk h => by
    cases q1 : ltQ (ds.getD k .non) (ds.getD j .non) with
    | true => exact .inl rfl
    | false =>
      cases q2 : ltQ (ds.getD i .non) (ds.getD k .non) with
      | true => exact .inr rfl
      | false =>
        cases q3 : ltQ (ds.getD k .non) (ds.getD i .non) with
        | true => have := ltQ_tr (gd k hk) (gd i hi) (gd j hj) q3 h; rw [q1] at this; cases this
        | false => have := ltQ_tri (gd i hi) (gd k hk) q2 q3; rw [this, q1] at h; cases h
  refine k1 _ ⟨rfl, ?_⟩
  refine wpAny_mono (kat_run (ks := us) (vs := us) (Q := fun st' t' => t' = s ∧ failedOf st' = none ∧ ((arrOf st').map (·.2)).size = us.length ∧ ∃ p, Inr ds.length p ∧ ((arrOf st').map (·.2)).toList = P2.outs us p ∧ outD ds p = sortQL ds)
    (G := fun p t' => t' = s ∧ Inr ds.length p ∧ outD ds p = sortQL ds) rfl h2 h64 (fun p st' t' a1 a2 a3 a4 => ?_) ?_) (fun r t' q => q) fun _ _ x => x
  · obtain ⟨b1, b2, b3⟩ := a4
    have e := kat_snds rfl a2
    refine ⟨b1, a3, ?_, p, b2, ?_, b3⟩
    · rw [e]; simp [a1]
    · rw [e]; rfl
  · rw [hl]
    refine KOk.wp (c := fun i j => ltQ (ds.getD i .non) (ds.getD j .non)) (Q := fun p => Inr ds.length p ∧ outD ds p = sortQL ds) (fun i j hi hj C c => k2 i j hi hj C c) (fun p q => ⟨rfl, q⟩) ?_
    refine ok_sort hc (by omega) fun p g1 g2 => ⟨g1, ?_⟩
    have pm := outD_perm g1
    exact rising_uniq (pm.trans (sortQL_perm ds).symm) (fun d hd => hs d (pm.mem_iff.mp hd)) (outD_rising hs g1 (by omega) g2 hc) (sortQL_rising hs)
end
end P2
namespace P2
open PySem L2 PySem.Spec PySem.Calls PySem.W
open PyProof.Rows hiding St K
section
variable {X : Cx} {E : XK} {e : Expr} {ta : TE} {f : Ev → R D} {p1 pos : Pos}
theorem inr_all {n : Nat} {p : Array Nat} (h : Inr n p) : ∀ i ∈ p.toList, i < n := fun i hi => by
  have := (Array.perm_iff_toList_perm.mp h).mem_iff.mp hi
  simpa using this
end
end P2
namespace P2
open PySem L2
inductive Z where
  | d (x : D) | loc (n : Nat) | tk (ks : List Key)
inductive Cell where
  | li (zs : List Z) | ob (C : Addr) (fs : List (Str × Z)) | dk (kvs : List (Key × Z)) | dt (kvs : List (List Key × Z)) | no | mk
noncomputable abbrev Sto := List Cell
noncomputable abbrev Lo := Nat → Option Addr
noncomputable abbrev ZEv := List (Option Z)
noncomputable def RepZ (K : PySem.W.Frag) (al : Addr → Prop) (lo : Lo) (H : Hp) (v : V) : Z → Prop
  | .d x => Rep K al H v x
  | .loc n => ∃ a, lo n = some a ∧ v = .ref a
  | .tk ks => ∃ a, al a ∧ H a = some (.tup (ks.map kV)) ∧ v = .ref a
inductive RepZs (K : PySem.W.Frag) (al : Addr → Prop) (lo : Lo) (H : Hp) : List V → List Z → Prop
  | nil : RepZs K al lo H [] []
  | cons {v : V} {z : Z} {vs : List V} {zs : List Z} : RepZ K al lo H v z → RepZs K al lo H vs zs → RepZs K al lo H (v :: vs) (z :: zs)
inductive RepK {κ : Type} (K : PySem.W.Frag) (al : Addr → Prop) (lo : Lo) (H : Hp) : List (κ × V) → List (κ × Z) → Prop
  | nil : RepK K al lo H [] []
  | cons {k : κ} {v : V} {z : Z} {vs : List (κ × V)} {zs : List (κ × Z)} : RepZ K al lo H v z → RepK K al lo H vs zs → RepK K al lo H ((k, v) :: vs) ((k, z) :: zs)
noncomputable def CellAt (K : PySem.W.Frag) (al : Addr → Prop) (lo : Lo) (H : Hp) (a : Addr) : Cell → Prop
  | .li zs => ∃ vs, H a = some (.lst vs) ∧ RepZs K al lo H vs zs
  | .ob C fs => ∃ dx us, H a = some (.ins C dx us) ∧ RepK K al lo H us fs
  | .dk kvs => ∃ us, H a = some (.dK us) ∧ RepK K al lo H us kvs
  | .dt kvs => ∃ us, H a = some (.dT us) ∧ RepK K al lo H us kvs
  | .no => False
  | .mk => False
noncomputable def TupTb (o : HO) : Prop := (∃ ys, o = .tup ys) ∨ ∃ ps, o = .tbl ps
structure StOk (K : PySem.W.Frag) (al : Addr → Prop) (lo : Lo) (H : Hp) (S : Sto) : Prop where
  at' : ∀ n a, lo n = some a → ∃ c, S[n]? = some c ∧ CellAt K al lo H a c
  has : ∀ n c, S[n]? = some c → c ≠ .no → c ≠ .mk → ∃ a, lo n = some a
  na : ∀ n a, lo n = some a → ¬ al a
  inj : ∀ m n a, lo m = some a → lo n = some a → m = n
  tl : S[0]? = some .mk → ∀ b o, H b = some o → TupTb o → al b
structure Z0 where
  H : Hp
  al : Addr → Prop
  lo : Lo
  n : Nat
structure EZ (K : PySem.W.Frag) (B : Z0) (al : Addr → Prop) (lo : Lo) (H : Hp) (S : Sto) : Prop where
  fr : ∀ b o, NT o → B.H b = some o → (∀ n, B.lo n ≠ some b) → H b = some o
  hf : ∀ b, H b = none → B.H b = none
  tt : TbOk K H
  fresh : ∀ a, H a = none → al a
  st : StOk K al lo H S
  lx : ∀ n a, B.lo n = some a → lo n = some a
  nw : ∀ n a, lo n = some a → B.lo n = some a ∨ (B.H a = none ∧ B.n ≤ n)
  bd : ∀ n a, B.lo n = some a → n < B.n
  sz : B.n ≤ S.length
  xt : Xt B.al B.H al H
  sb : ∀ a, al a → B.al a ∨ B.H a = none
structure RZ (K : PySem.W.Frag) (B : Z0) (al : Addr → Prop) (lo : Lo) (H : Hp) (σ : St) (ρ : ZEv) (S : Sto) : Prop extends EZ K B al lo H S where
  len : ρ.length = σ.length
  vr : ∀ (i : Nat) (z : Z), ρ[i]? = some (some z) → ∃ v, σ[i]? = some (some v) ∧ RepZ K al lo H v z
noncomputable def Lx (lo lo' : Lo) : Prop := ∀ n a, lo n = some a → lo' n = some a
theorem Lx.refl {lo : Lo} : Lx lo lo := fun _ _ h => h
theorem Lx.trans {lo lo1 lo2 : Lo} (x : Lx lo lo1) (y : Lx lo1 lo2) : Lx lo lo2 := fun n a h => y n a (x n a h)
section
variable {K : PySem.W.Frag} {al al' : Addr → Prop} {lo lo' : Lo} {H H' : Hp}
theorem RepZ.mv (x : Xt al H al' H') (y : Lx lo lo') {v : V} {z : Z} (r : RepZ K al lo H v z) : RepZ K al' lo' H' v z := by
  cases z with
  | d d => exact Rep.mv x r
  | loc n => obtain ⟨a, h1, h2⟩ := r; exact ⟨a, y n a h1, h2⟩
  | tk ks => obtain ⟨a, h1, h2, h3⟩ := r; obtain ⟨g1, g2⟩ := x a (.tup (ks.map kV)) (fun _ h => nomatch h) h1 h2; exact ⟨a, g1, g2, h3⟩
theorem RepZs.mv (x : Xt al H al' H') (y : Lx lo lo') {vs : List V} {zs : List Z} (r : RepZs K al lo H vs zs) : RepZs K al' lo' H' vs zs := by
  induction r with
  | nil => exact .nil
  | cons a _ ih => exact .cons (a.mv x y) ih
theorem RepK.mv {κ : Type} (x : Xt al H al' H') (y : Lx lo lo') {vs : List (κ × V)} {zs : List (κ × Z)} (r : RepK K al lo H vs zs) : RepK K al' lo' H' vs zs := by
  induction r with
  | nil => exact .nil
  | cons a _ ih => exact .cons (a.mv x y) ih
theorem RepZs.length {vs : List V} {zs : List Z} (r : RepZs K al lo H vs zs) : vs.length = zs.length := by
  induction r with
  | nil => rfl
  | cons _ _ ih => rw [List.length_cons, List.length_cons, ih]
theorem RepZs.append {vs ws : List V} {zs ys : List Z} (r : RepZs K al lo H vs zs) (q : RepZs K al lo H ws ys) : RepZs K al lo H (vs ++ ws) (zs ++ ys) := by
  induction r with
  | nil => exact q
  | cons a _ ih => exact .cons a ih
theorem RepZs.get {vs : List V} {zs : List Z} (r : RepZs K al lo H vs zs) {i : Nat} {z : Z} (e : zs[i]? = some z) : ∃ v, vs[i]? = some v ∧ RepZ K al lo H v z := by
  induction r generalizing i with
  | nil => simp at e
  | cons a _ ih =>
    cases i with
    | zero => simp at e; subst e; exact ⟨_, rfl, a⟩
    | succ i => simpa using ih (by simpa using e)
theorem RepZs.set {vs : List V} {zs : List Z} (r : RepZs K al lo H vs zs) {v : V} {z : Z} (q : RepZ K al lo H v z) (i : Nat) : RepZs K al lo H (vs.set i v) (zs.set i z) := by
  induction r generalizing i with
  | nil => exact .nil
  | cons a b ih =>
    cases i with
    | zero => exact .cons q b
    | succ i => exact .cons a (ih i)
theorem RepZs.ofD {vs : List V} {ds : List D} (r : Reps K al H vs ds) : RepZs K al lo H vs (ds.map .d) := by
  induction ds generalizing vs with
  | nil => cases r; exact .nil
  | cons d ds ih => cases r with | cons a b => exact .cons a (ih b)
theorem RepZs.toD {vs : List V} {ds : List D} (r : RepZs K al lo H vs (ds.map .d)) : Reps K al H vs ds := by
  induction ds generalizing vs with
  | nil => cases r; exact .nil
  | cons d ds ih => cases r with | cons a b => exact .cons a (ih b)
theorem CellAt.mv (x : Xt al H al' H') (y : Lx lo lo') {a : Addr} {c : Cell} (e : ∀ o, NT o → H a = some o → H' a = some o) (r : CellAt K al lo H a c) : CellAt K al' lo' H' a c := by
  cases c with
  | li zs => obtain ⟨vs, h1, h2⟩ := r; exact ⟨vs, e _ nt_lst h1, h2.mv x y⟩
  | ob C fs => obtain ⟨dx, us, h1, h2⟩ := r; exact ⟨dx, us, e _ (fun _ h => nomatch h) h1, h2.mv x y⟩
  | dk kvs => obtain ⟨us, h1, h2⟩ := r; exact ⟨us, e _ (fun _ h => nomatch h) h1, h2.mv x y⟩
  | dt kvs => obtain ⟨us, h1, h2⟩ := r; exact ⟨us, e _ (fun _ h => nomatch h) h1, h2.mv x y⟩
  | no => exact r
  | mk => exact r
theorem CellAt.isO {a : Addr} {c : Cell} (r : CellAt K al lo H a c) : H a ≠ none ∧ (∀ ps, H a ≠ some (.tbl ps)) ∧ (∀ q, H a ≠ some (CodeO a q)) := by
  cases c with
  | li zs => obtain ⟨vs, h1, h2⟩ := r; rw [h1]; exact ⟨nofun, fun _ => nofun, fun _ w => by unfold CodeO at w; exact nomatch w⟩
  | ob C fs => obtain ⟨dx, us, h1, h2⟩ := r; rw [h1]; exact ⟨nofun, fun _ => nofun, fun _ w => by unfold CodeO at w; exact nomatch w⟩
  | dk kvs => obtain ⟨us, h1, h2⟩ := r; rw [h1]; exact ⟨nofun, fun _ => nofun, fun _ w => by unfold CodeO at w; exact nomatch w⟩
  | dt kvs => obtain ⟨us, h1, h2⟩ := r; rw [h1]; exact ⟨nofun, fun _ => nofun, fun _ w => by unfold CodeO at w; exact nomatch w⟩
  | no => exact r.elim
  | mk => exact r.elim
theorem CellAt.nTT {a : Addr} {c : Cell} (r : CellAt K al lo H a c) {o : HO} (h : H a = some o) : ¬ TupTb o := by
  rintro (⟨ys, rfl⟩ | ⟨ps, rfl⟩)
  · cases c with
    | li zs => obtain ⟨vs, h1, h2⟩ := r; rw [h] at h1; cases h1
    | ob C fs => obtain ⟨dx, us, h1, h2⟩ := r; rw [h] at h1; cases h1
    | dk kvs => obtain ⟨us, h1, h2⟩ := r; rw [h] at h1; cases h1
    | dt kvs => obtain ⟨us, h1, h2⟩ := r; rw [h] at h1; cases h1
    | no => exact r.elim
    | mk => exact r.elim
  · exact r.isO.2.1 ps h
end
section
variable {K : PySem.W.Frag} {B : Z0} {al : Addr → Prop} {lo : Lo} {H H' : Hp} {σ : St} {ρ : ZEv} {S : Sto}
theorem EZ.start {zs : List Z} (tt : TbOk K H) (fr : ∀ a, H a = none → al a) (st : StOk K al lo H S) : EZ K ⟨H, al, lo, S.length⟩ al lo H S where
  fr := fun _ _ _ h _ => h
  hf := fun _ h => h
  tt := tt
  fresh := fr
  st := st
  lx := fun _ _ h => h
  nw := fun _ _ h => .inl h
  bd := fun n a h => by obtain ⟨c, e, _⟩ := st.at' n a h; exact (List.getElem?_eq_some_iff.mp e).1
  sz := Nat.le_refl _
  xt := .refl
  sb := fun _ h => .inl h
theorem EZ.grow (r : EZ K B al lo H S) (s : Same K H H') : EZ K B al lo H' S where
  fr := fun b o n h w => s.at' b o n (r.fr b o n h w)
  hf := fun b h => r.hf b (s.fr b h)
  tt := s.tt r.tt
  fresh := fun a h => r.fresh a (s.fr a h)
  st := {
    at' := fun n a h => by obtain ⟨c, e, q⟩ := r.st.at' n a h; exact ⟨c, e, q.mv (.of s) .refl fun o no h => s.at' _ o no h⟩
    has := r.st.has
    na := r.st.na
    inj := r.st.inj
    tl := fun m b o hb ho => by
      cases q : H b with
      | none => exact r.fresh b q
      | some o0 =>
        by_cases nt : NT o0
        · have e := s.at' b o0 nt q
          rw [hb] at e; cases e
          exact r.st.tl m b o q ho
        · exact r.st.tl m b o0 q (.inr (Classical.byContradiction fun w => nt fun ps e => w ⟨ps, e⟩)) }
  lx := r.lx
  nw := r.nw
  bd := r.bd
  sz := r.sz
  xt := r.xt.trans (.of s)
  sb := r.sb
theorem RZ.grow (r : RZ K B al lo H σ ρ S) (s : Same K H H') : RZ K B al lo H' σ ρ S :=
  ⟨r.toEZ.grow s, r.len, fun i z e => let ⟨v, h1, h2⟩ := r.vr i z e; ⟨v, h1, h2.mv (.of s) .refl⟩⟩
noncomputable def purS : Option Z → Sl
  | some (.d x) => .sh x
  | _ => .no
noncomputable def pur (ρ : ZEv) : Ev := ρ.map purS
theorem RZ.rs (r : RZ K B al lo H σ ρ S) : RS K al H al H σ (pur ρ) where
  same := .refl H
  tt := r.tt
  fresh := r.fresh
  sub := fun _ h => h
  pf := r.fresh
  len := by unfold pur; rw [List.length_map]; exact r.len
  sh := fun i d h => by
    unfold pur at h
    rw [List.getElem?_map] at h
    obtain ⟨z, h1, h2⟩ := Option.map_eq_some_iff.mp h
    cases z with
    | none => cases h2
    | some z =>
      cases z with
      | d x => cases h2; exact r.vr i _ h1
      | loc n => cases h2
      | tk ks => cases h2
  ow := fun i ds h => by
    unfold pur at h
    rw [List.getElem?_map] at h
    obtain ⟨z, h1, h2⟩ := Option.map_eq_some_iff.mp h
    cases z with
    | none => cases h2
    | some z => cases z <;> cases h2
  apart := fun i j ds ds' a h _ _ _ => by
    unfold pur at h
    rw [List.getElem?_map] at h
    obtain ⟨z, h1, h2⟩ := Option.map_eq_some_iff.mp h
    cases z with
    | none => cases h2
    | some z => cases z <;> cases h2
theorem RZ.set (r : RZ K B al lo H σ ρ S) {i : Nat} {v : V} {z : Z} (hi : i < ρ.length) (q : RepZ K al lo H v z) : RZ K B al lo H (σ.set i (some v)) (ρ.set i (some z)) S where
  toEZ := r.toEZ
  len := by rw [List.length_set, List.length_set]; exact r.len
  vr := fun j e h => by
    by_cases w : i = j
    · subst w
      rw [List.getElem?_set_self hi] at h; cases h
      exact ⟨v, List.getElem?_set_self (by rw [← r.len]; exact hi), q⟩
    · rw [List.getElem?_set_ne w] at h
      obtain ⟨u, a, b⟩ := r.vr j e h
      exact ⟨u, by rw [List.getElem?_set_ne w]; exact a, b⟩
theorem RZ.drop (r : RZ K B al lo H σ ρ S) {i : Nat} {u : Option V} : RZ K B al lo H (σ.set i u) (ρ.set i none) S where
  toEZ := r.toEZ
  len := by rw [List.length_set, List.length_set]; exact r.len
  vr := fun j e h => by
    by_cases w : i = j
    · subst w
      by_cases hi : i < ρ.length
      · rw [List.getElem?_set_self hi] at h; cases h
      · rw [List.getElem?_eq_none (by rw [List.length_set]; omega)] at h; cases h
    · rw [List.getElem?_set_ne w] at h
      obtain ⟨u, a, b⟩ := r.vr j e h
      exact ⟨u, by rw [List.getElem?_set_ne w]; exact a, b⟩
noncomputable def loNew (lo : Lo) (n : Nat) (p : Addr) : Lo := fun m => if m = n then some p else lo m
theorem StOk.none (st : StOk K al lo H S) : lo S.length = Option.none := by
  cases h : lo S.length with
  | none => rfl
  | some a =>
    obtain ⟨c, e, _⟩ := st.at' _ a h
    have := (List.getElem?_eq_some_iff.mp e).1
    omega
theorem loNew_x (st : StOk K al lo H S) (p : Addr) : Lx lo (loNew lo S.length p) := fun n a h => by
  unfold loNew
  rw [if_neg]
  · exact h
  · intro w; rw [w, st.none] at h; cases h
theorem xt_new {p : Addr} {o : HO} (hp : H p = none) : Xt al H (fun b => al b ∧ b ≠ p) (upd H p o) := fun b u _ hb e => ⟨⟨hb, ne_of_none e hp⟩, by rw [upd_ne (ne_of_none e hp)]; exact e⟩
theorem EZ.new (r : EZ K B al lo H S) {p : Addr} {o : HO} {c : Cell} (hp : H p = none) (no : NT o) (hc : CellAt K (fun b => al b ∧ b ≠ p) (loNew lo S.length p) (upd H p o) p c) (cn : c ≠ .no) :
    EZ K B (fun b => al b ∧ b ≠ p) (loNew lo S.length p) (upd H p o) (S ++ [c]) := by
  have s : Same K H (upd H p o) := same_upd hp
  have x : Xt al H (fun b => al b ∧ b ≠ p) (upd H p o) := xt_new hp
  have g := r.grow s
  refine ⟨g.fr, g.hf, g.tt, fun a h => ⟨g.fresh a h, fun w => by rw [w, upd_same] at h; cases h⟩, ⟨fun n a h => ?_, fun n c' h w w' => ?_, fun n a h w => ?_, fun m n a h1 h2 => ?_, fun m b u hb hu => ?_⟩, fun n a h => loNew_x r.st p n a (r.lx n a h), fun n a h => ?_, r.bd, by rw [List.length_append]; have := r.sz; omega, r.xt.trans x, fun b hb => r.sb b hb.1⟩
  · unfold loNew at h
    by_cases w : n = S.length
    · rw [if_pos w] at h; cases h
      exact ⟨c, by rw [w]; simp, hc⟩
    · rw [if_neg w] at h
      obtain ⟨c', e, q⟩ := r.st.at' n a h
      have ne : a ≠ p := fun z => q.isO.1 (by rw [z]; exact hp)
      exact ⟨c', by rw [List.getElem?_append_left (List.getElem?_eq_some_iff.mp e).1]; exact e, q.mv x (loNew_x r.st p) fun u _ h => by rw [upd_ne ne]; exact h⟩
  · by_cases z : n < S.length
    · rw [List.getElem?_append_left z] at h
      obtain ⟨a, h1⟩ := r.st.has n c' h w w'
      exact ⟨a, loNew_x r.st p n a h1⟩
    · have : n = S.length := by
        have := (List.getElem?_eq_some_iff.mp h).1
        rw [List.length_append, List.length_singleton] at this
        omega
      exact ⟨p, by unfold loNew; rw [if_pos this]⟩
  · unfold loNew at h
    by_cases z : n = S.length
    · rw [if_pos z] at h; cases h; exact w.2 rfl
    · rw [if_neg z] at h; exact r.st.na n a h w.1
  · have old : ∀ k b, lo k = some b → b ≠ p := fun k b hk z => by
      obtain ⟨c', _, q⟩ := r.st.at' k b hk
      exact q.isO.1 (by rw [z]; exact hp)
    unfold loNew at h1 h2
    by_cases z : m = S.length
    · rw [if_pos z] at h1; cases h1
      by_cases y : n = S.length
      · omega
      · rw [if_neg y] at h2; exact absurd rfl (old n _ h2)
    · rw [if_neg z] at h1
      by_cases y : n = S.length
      · rw [if_pos y] at h2; cases h2; exact absurd rfl (old m _ h1)
      · rw [if_neg y] at h2; exact r.st.inj m n a h1 h2
  · have m' : S[0]? = some .mk := by
      cases S with
      | nil =>
        have e : some c = some Cell.mk := m
        cases e
        exact hc.elim
      | cons d r => exact m
    by_cases z : b = p
    · rw [z] at hb
      exact absurd hu (hc.nTT hb)
    · rw [upd_ne z] at hb
      exact ⟨r.st.tl m' b u hb hu, z⟩
  · unfold loNew at h
    by_cases z : n = S.length
    · rw [if_pos z] at h; cases h; exact .inr ⟨r.hf _ hp, by rw [z]; exact r.sz⟩
    · rw [if_neg z] at h; exact r.nw n a h
theorem RZ.new (r : RZ K B al lo H σ ρ S) {p : Addr} {o : HO} {c : Cell} (hp : H p = none) (no : NT o) (hc : CellAt K (fun b => al b ∧ b ≠ p) (loNew lo S.length p) (upd H p o) p c) (cn : c ≠ .no) :
    RZ K B (fun b => al b ∧ b ≠ p) (loNew lo S.length p) (upd H p o) σ ρ (S ++ [c]) :=
  ⟨r.toEZ.new hp no hc cn, r.len, fun i z e => let ⟨v, h1, h2⟩ := r.vr i z e; ⟨v, h1, h2.mv (xt_new hp) (loNew_x r.st p)⟩⟩
theorem EZ.write (r : EZ K B al lo H S) {n : Nat} {a : Addr} {o : HO} {c : Cell} (hn : lo n = some a) (no : NT o) (nc : ∀ q, o ≠ CodeO a q) (hc : CellAt K al lo (upd H a o) a c) (cn : c ≠ .no) : EZ K B al lo (upd H a o) (S.set n c) ∧ Xt al H al (upd H a o) := by
  obtain ⟨c0, e0, q0⟩ := r.st.at' n a hn
  have hl : n < S.length := (List.getElem?_eq_some_iff.mp e0).1
  have na := r.st.na n a hn
  have x : Xt al H al (upd H a o) := fun b u _ hb e => ⟨hb, by rw [upd_ne fun w => na (by rw [← w]; exact hb)]; exact e⟩
  refine ⟨⟨fun b u nu h w => ?_, fun b h => ?_, r.tt.upd q0.isO.2.1 q0.isO.2.2, fun b h => ?_, ⟨fun m b h => ?_, fun m c' h w w' => ?_, r.st.na, r.st.inj, fun m b u hb hu => ?_⟩, r.lx, r.nw, r.bd, by rw [List.length_set]; exact r.sz, r.xt.trans x, r.sb⟩, x⟩
  · have := r.fr b u nu h w
    by_cases z : b = a
    · subst z
      rcases r.nw n b hn with q | q
      · exact absurd q (w n)
      · rw [q.1] at h; cases h
    · rw [upd_ne z]; exact this
  · by_cases z : b = a
    · rw [z, upd_same] at h; cases h
    · rw [upd_ne z] at h; exact r.hf b h
  · by_cases z : b = a
    · rw [z, upd_same] at h; cases h
    · rw [upd_ne z] at h; exact r.fresh b h
  · by_cases z : n = m
    · subst z
      rw [hn] at h; cases h
      exact ⟨c, List.getElem?_set_self hl, hc⟩
    · obtain ⟨c', e, q⟩ := r.st.at' m b h
      refine ⟨c', by rw [List.getElem?_set_ne z]; exact e, q.mv x .refl fun u _ h' => ?_⟩
      rw [upd_ne fun w => z (r.st.inj n m a hn (by rw [← w]; exact h))]; exact h'
  · by_cases z : n = m
    · subst z; exact ⟨a, hn⟩
    · rw [List.getElem?_set_ne z] at h; exact r.st.has m c' h w w'
  · have m' : S[0]? = some .mk := by
      by_cases z : n = 0
      · subst z
        rw [List.getElem?_set_self hl] at m
        cases m
        exact hc.elim
      · rw [List.getElem?_set_ne z] at m; exact m
    by_cases z : b = a
    · rw [z] at hb
      exact absurd hu (hc.nTT hb)
    · rw [upd_ne z] at hb
      exact r.st.tl m' b u hb hu
theorem RZ.write (r : RZ K B al lo H σ ρ S) {n : Nat} {a : Addr} {o : HO} {c : Cell} (hn : lo n = some a) (no : NT o) (nc : ∀ q, o ≠ CodeO a q) (hc : CellAt K al lo (upd H a o) a c) (cn : c ≠ .no) : RZ K B al lo (upd H a o) σ ρ (S.set n c) ∧ Xt al H al (upd H a o) :=
  let ⟨e, x⟩ := r.toEZ.write hn no nc hc cn
  ⟨⟨e, r.len, fun i z e => let ⟨v, h1, h2⟩ := r.vr i z e; ⟨v, h1, h2.mv x .refl⟩⟩, x⟩
end
end P2
namespace P2
open PySem L2
inductive RX (α : Type) where
  | ok (a : α) (S : Sto) | ex (c : Addr) (ns : List Str) (ds : List D) (S : Sto) | bad
noncomputable def RX.bind {α β : Type} : RX α → (α → Sto → RX β) → RX β
  | .ok a S, f => f a S
  | .ex c ns ds S, _ => .ex c ns ds S
  | .bad, _ => .bad
noncomputable def upR {α : Type} (r : R α) (S : Sto) : RX α := match r with
  | .ok a => .ok a S
  | .ex c ns ds => .ex c ns ds S
  | .bad => .bad
noncomputable def AftZ {α : Type} (K : PySem.W.Frag) (B : Z0) (E : XK) (al : Addr → Prop) (lo : Lo) (H : Hp) (σ : St) (ρ : ZEv) (r : RX α) (k : α → (Addr → Prop) → Lo → Hp → Sto → Prop) : Prop := match r with
  | .ok x S' => ∀ al' lo' H', RZ K B al' lo' H' σ ρ S' → Xt al H al' H' → Lx lo lo' → k x al' lo' H' S'
  | .ex c ns ds S' => ∀ al' lo' H' dx, EZ K B al' lo' H' S' → XR K al' H' dx ns ds → E (.ref c) dx H'
  | .bad => False
section
variable {α β : Type} {K : PySem.W.Frag} {B : Z0} {E : XK} {al al' : Addr → Prop} {lo lo' : Lo} {H H' : Hp} {σ : St} {ρ : ZEv} {S S' : Sto} {k k' : α → (Addr → Prop) → Lo → Hp → Sto → Prop}
theorem AftZ.up {r : RX α} (h : AftZ K B E al lo H σ ρ r k) (x : Xt al H al' H') (y : Lx lo lo') : AftZ K B E al' lo' H' σ ρ r k := by
  cases r with
  | ok a S => exact fun al2 lo2 H2 z x2 y2 => h al2 lo2 H2 z (x.trans x2) (y.trans y2)
  | ex c ns ds S => exact h
  | bad => exact h
theorem AftZ.mono {r : RX α} (h : AftZ K B E al lo H σ ρ r k) (m : ∀ x al' lo' H' S', RZ K B al' lo' H' σ ρ S' → Xt al H al' H' → Lx lo lo' → k x al' lo' H' S' → k' x al' lo' H' S') : AftZ K B E al lo H σ ρ r k' := by
  cases r with
  | ok a S => exact fun al2 lo2 H2 z x2 y2 => m _ _ _ _ _ z x2 y2 (h al2 lo2 H2 z x2 y2)
  | ex c ns ds S => exact h
  | bad => exact h
theorem AftZ.split {r : RX α} {g : α → Sto → RX β} {k : β → (Addr → Prop) → Lo → Hp → Sto → Prop} (h : AftZ K B E al lo H σ ρ (r.bind g) k) : AftZ K B E al lo H σ ρ r (fun x al' lo' H' S' => AftZ K B E al' lo' H' σ ρ (g x S') k) := by
  cases r with
  | ok a S => exact fun al2 lo2 H2 z x2 y2 => AftZ.up h x2 y2
  | ex c ns ds S => exact h
  | bad => exact h
theorem AftZ.toAft {r : R α} (z : RZ K B al lo H σ ρ S) (h : AftZ K B E al lo H σ ρ (upR r S) k) : Aft K al E H r (fun x H' => k x al lo H' S) := by
  cases r with
  | ok a => exact fun H1 s1 => h al lo H1 (z.grow s1) (.of s1) .refl
  | ex c ns ds => exact fun dx H1 s1 q => h al lo H1 dx (z.toEZ.grow s1) q
  | bad => exact h
end
noncomputable def ZE (X : Cx) (E : XK) (e : Expr) (f : ZEv → Sto → RX Z) : Prop := ∃ t : TE, PE X e t ∧
  ∀ B al lo H σ ρ S (Q : VK), RZ X.K B al lo H σ ρ S → AftZ X.K B E al lo H σ ρ (f ρ S) (fun z al' lo' H' _ => ∀ v, RepZ X.K al' lo' H' v z → Q v H') → t σ H Q
noncomputable def ZT (X : Cx) (E : XK) (e : Expr) (f : ZEv → Sto → RX Bool) : Prop := ∃ t : TT, PT X e t ∧
  ∀ B al lo H σ ρ S (Q : Bool → Hp → Prop), RZ X.K B al lo H σ ρ S → AftZ X.K B E al lo H σ ρ (f ρ S) (fun b _ _ H' _ => Q b H') → t σ H Q
noncomputable def ZA (X : Cx) (E : XK) (es : List Expr) (f : ZEv → Sto → RX (List Z)) : Prop := ∃ t : TA, PA X es t ∧
  (∀ B al lo H σ ρ S (Q : List V → Hp → Prop), RZ X.K B al lo H σ ρ S → AftZ X.K B E al lo H σ ρ (f ρ S) (fun zs al' lo' H' _ => ∀ vs, RepZs X.K al' lo' H' vs zs → Q vs H') → t σ H Q) ∧ ∀ ρ S zs S', f ρ S = .ok zs S' → zs.length = es.length
noncomputable def zD (f : Ev → R D) : ZEv → Sto → RX Z := fun ρ S => (upR (f (pur ρ)) S).bind fun d S => .ok (.d d) S
noncomputable def zB (f : Ev → R Bool) : ZEv → Sto → RX Bool := fun ρ S => upR (f (pur ρ)) S
noncomputable def zV (i : Nat) : ZEv → Sto → RX Z := fun ρ S => match ρ[i]? with
  | some (some z) => .ok z S
  | _ => .bad
noncomputable def asDs : List Z → Option (List D)
  | [] => some []
  | .d x :: r => (asDs r).map (x :: ·)
  | _ :: _ => none
theorem asDs_map : ∀ {zs : List Z} {ds : List D}, asDs zs = some ds → zs = ds.map .d
  | [], _, h => by cases h; rfl
  | .d x :: r, ds, h => by
    obtain ⟨t, h1, h2⟩ := Option.map_eq_some_iff.mp (show (asDs r).map (x :: ·) = some ds from h)
    subst h2
    rw [List.map_cons, ← asDs_map h1]
  | .loc _ :: _, _, h => by cases h
theorem asDs_of : ∀ ds : List D, asDs (ds.map .d) = some ds
  | [] => rfl
  | d :: r => by show (asDs (r.map .d)).map (d :: ·) = _; rw [asDs_of r]; rfl
noncomputable def z1 (g : D → R D) (a : ZEv → Sto → RX Z) : ZEv → Sto → RX Z := fun ρ S => (a ρ S).bind fun x S1 => match x with
  | .d x => (upR (g x) S1).bind fun d S => .ok (.d d) S
  | _ => .bad
noncomputable def z2 (g : D → D → R D) (a b : ZEv → Sto → RX Z) : ZEv → Sto → RX Z := fun ρ S => (a ρ S).bind fun x S1 => (b ρ S1).bind fun y S2 => match x, y with
  | .d x, .d y => (upR (g x y) S2).bind fun d S => .ok (.d d) S
  | _, _ => .bad
noncomputable def zTst (t : D → R Bool) (a : ZEv → Sto → RX Z) : ZEv → Sto → RX Bool := fun ρ S => (a ρ S).bind fun x S1 => match x with
  | .d x => upR (t x) S1
  | _ => .bad
noncomputable def zNil : ZEv → Sto → RX (List Z) := fun _ S => .ok [] S
noncomputable def zCons (a : ZEv → Sto → RX Z) (r : ZEv → Sto → RX (List Z)) : ZEv → Sto → RX (List Z) := fun ρ S => (a ρ S).bind fun x S1 => (r ρ S1).bind fun xs S2 => .ok (x :: xs) S2
noncomputable def zF (g : List D → R D) (a : ZEv → Sto → RX (List Z)) : ZEv → Sto → RX Z := fun ρ S => (a ρ S).bind fun zs S1 => match asDs zs with
  | some ds => (upR (g ds) S1).bind fun d S => .ok (.d d) S
  | none => .bad
noncomputable def zZ (F : List Z → Sto → RX Z) (a : ZEv → Sto → RX (List Z)) : ZEv → Sto → RX Z := fun ρ S => (a ρ S).bind F
section
variable {X : Cx} {E : XK} {e a b c : Expr} {es rest : List Expr} {pos : Pos} {f fa fb : ZEv → Sto → RX Z} {ga gb : ZEv → Sto → RX Bool} {fs : ZEv → Sto → RX (List Z)}
theorem ze_lift {f : Ev → R D} (h : DE X E e f) : ZE X E e (zD f) := by
  obtain ⟨t, p, r⟩ := h
  refine ⟨t, p, fun B al lo H σ ρ S Q z h => r _ _ _ _ _ _ _ z.rs ?_⟩
  have := AftZ.toAft z (AftZ.split h)
  exact Aft.mono this fun d H1 s1 h1 v rv => h1 al lo H1 (z.grow s1) .refl .refl v rv
theorem zt_lift {f : Ev → R Bool} (h : DT X E e f) : ZT X E e (zB f) := by
  obtain ⟨t, p, r⟩ := h
  exact ⟨t, p, fun B al lo H σ ρ S Q z h => r _ _ _ _ _ _ _ z.rs (AftZ.toAft z h)⟩
theorem ze_var (i : Nat) {x : Str} (hN : X.N[i]? = some x := by rfl) (hv : Vis X.env.scope x := by first | exact Or.inl rfl | exact Or.inr (Or.inl rfl) | exact Or.inr (Or.inr rfl)) (hd : (x == ("__debug__" : Str)) = false := by decide)
    (hcd : (x == ("__classdict__" : Str)) = false := by decide) : ZE X E (.Name x pos) (zV i) := by
  refine ⟨_, pe_var hN hv hd hcd, fun B al lo H σ ρ S Q z h => ?_⟩
  unfold zV at h
  split at h
  · rename_i z0 q
    obtain ⟨v, e1, e2⟩ := z.vr i z0 q
    exact ⟨v, e1, h al lo H z .refl .refl v e2⟩
  · exact h.elim
theorem ze_op {op : Operator} {g : D → D → R D} (ho : OpD X E (binaryOp op) g) (ha : ZE X E a fa) (hb : ZE X E b fb) : ZE X E (.BinOp a op b pos) (z2 g fa fb) := by
  obtain ⟨r, ro, rr⟩ := ho
  obtain ⟨ta, pa, ra⟩ := ha
  obtain ⟨tb, pb, rb⟩ := hb
  refine ⟨_, pe_op ro pa pb, fun B al lo H σ ρ S Q s h => ra _ _ _ _ _ _ _ _ s (AftZ.mono (AftZ.split h) fun x al1 lo1 H1 S1 s1 x1 y1 h1 v rv => rb _ _ _ _ _ _ _ _ s1 (AftZ.mono (AftZ.split h1) fun y al2 lo2 H2 S2 s2 x2 y2 h2 u ru => ?_))⟩
  split at h2
  · exact rr _ _ _ _ _ _ _ s2.fresh (RepZ.mv x2 y2 rv) ru (Aft.mono (AftZ.toAft s2 (AftZ.split h2)) fun d H3 s3 h3 w rw' => h3 al2 lo2 H3 (s2.grow s3) .refl .refl w rw')
  · exact h2.elim
theorem zt_cmp {op : CmpOp} {g : D → D → R D} (ho : OpD X E (compareOp op) g) (ha : ZE X E a fa) (hb : ZE X E b fb) (hm : behindInMarks op b = false := by first | exact nomark _ | with_unfolding_all rfl) : ZT X E (.Compare a [op] [b] pos) (zTst tB (z2 g fa fb)) := by
  obtain ⟨r, ro, rr⟩ := ho
  obtain ⟨ta, pa, ra⟩ := ha
  obtain ⟨tb, pb, rb⟩ := hb
  refine ⟨_, pt_cmpR ro pa pb hm, fun B al lo H σ ρ S Q s h => ra _ _ _ _ _ _ _ _ s (AftZ.mono (AftZ.split (AftZ.split h)) fun x al1 lo1 H1 S1 s1 x1 y1 h1 v rv => rb _ _ _ _ _ _ _ _ s1 (AftZ.mono (AftZ.split h1) fun y al2 lo2 H2 S2 s2 x2 y2 h2 u ru => ?_))⟩
  split at h2
  · refine rr _ _ _ _ _ _ _ s2.fresh (RepZ.mv x2 y2 rv) ru (Aft.mono (AftZ.toAft s2 (AftZ.split h2)) fun d H3 s3 h3 w rw' => ?_)
    have h4 := h3 al2 lo2 H3 (s2.grow s3) .refl .refl
    exact rep_tB rw' (Aft.mono (AftZ.toAft (s2.grow s3) h4) fun _ _ _ q => q)
  · exact h2.elim
theorem ze_ix {g : D → D → R D} (ho : IxD X E g) (ha : ZE X E a fa) (hb : ZE X E b fb) (hs : PlainIx b := by exact fun _ _ => rfl) : ZE X E (.Subscript a b pos) (z2 g fa fb) := by
  obtain ⟨r, ro, rr⟩ := ho
  obtain ⟨ta, pa, ra⟩ := ha
  obtain ⟨tb, pb, rb⟩ := hb
  refine ⟨_, pe_ix ro pa pb hs, fun B al lo H σ ρ S Q s h => ra _ _ _ _ _ _ _ _ s (AftZ.mono (AftZ.split h) fun x al1 lo1 H1 S1 s1 x1 y1 h1 v rv => rb _ _ _ _ _ _ _ _ s1 (AftZ.mono (AftZ.split h1) fun y al2 lo2 H2 S2 s2 x2 y2 h2 u ru => ?_))⟩
  split at h2
  · exact rr _ _ _ _ _ _ _ s2.fresh (RepZ.mv x2 y2 rv) ru (Aft.mono (AftZ.toAft s2 (AftZ.split h2)) fun d H3 s3 h3 w rw' => h3 al2 lo2 H3 (s2.grow s3) .refl .refl w rw')
  · exact h2.elim
theorem za_nil : ZA X E [] zNil := ⟨_, pa_nil, fun B al lo H σ ρ S Q s h => h al lo H s .refl .refl _ .nil, fun _ _ _ _ h => by cases h; rfl⟩
theorem za_cons (ha : ZE X E e fa) (hr : ZA X E es fs) (hs : starEach (e :: es) X.env = (false, eval e X.env) :: starEach es X.env := by rfl) : ZA X E (e :: es) (zCons fa fs) := by
  obtain ⟨ta, pa, ra⟩ := ha
  obtain ⟨tb, pb, rb, lb⟩ := hr
  refine ⟨_, pa_cons pa pb hs, fun B al lo H σ ρ S Q s h => ra _ _ _ _ _ _ _ _ s (AftZ.mono (AftZ.split h) fun x al1 lo1 H1 S1 s1 x1 y1 h1 v rv => rb _ _ _ _ _ _ _ _ s1 (AftZ.mono (AftZ.split h1) fun y al2 lo2 H2 S2 s2 x2 y2 h2 u ru => ?_)), fun ρ S zs S' h => ?_⟩
  · exact h2 al2 lo2 H2 s2 .refl .refl _ (.cons (rv.mv x2 y2) ru)
  · unfold zCons at h
    cases q : fa ρ S with
    | bad => rw [q] at h; cases h
    | ex c ns ds S1 => rw [q] at h; cases h
    | ok x S1 =>
      rw [q] at h
      have h' : (fs ρ S1).bind (fun xs S2 => .ok (x :: xs) S2) = RX.ok zs S' := h
      cases q2 : fs ρ S1 with
      | bad => rw [q2] at h'; cases h'
      | ex c ns ds S1 => rw [q2] at h'; cases h'
      | ok xs S2 =>
        rw [q2] at h'
        cases h'
        rw [List.length_cons, List.length_cons, lb _ _ _ _ q2]
theorem ze_tup {x1} (ha : ZA X E es fs) : ZE X E (.Tuple es x1 pos) (zF mkT fs) := by
  obtain ⟨ta, pa, ra, _⟩ := ha
  refine ⟨_, pe_tup pa, fun B al lo H σ ρ S Q s h => ra _ _ _ _ _ _ _ _ s (AftZ.mono (AftZ.split h) fun x al1 lo1 H1 S1 s1 x1 y1 h1 v rv => ?_)⟩
  split at h1
  · rename_i ds e
    have := asDs_map e
    subst this
    have rv' := rv.toD
    have h2 := Aft.mono (AftZ.toAft s1 (AftZ.split h1)) fun d H3 s3 h3 => h3 al1 lo1 H3 (s1.grow s3) .refl .refl
    unfold mkT at h2
    by_cases z : ds.length ≤ sizeLine
    · rw [if_pos z] at h2
      exact ⟨by rw [rv'.length]; exact z, fun p hp => h2 _ (same_upd hp) _ (rv'.tupNew hp (s1.fresh p hp))⟩
    · rw [if_neg z] at h2
      exact h2.elim
  · exact h1.elim
variable {x : Str} {p : Pos}
variable {k n : Nat} {ps : List Str} {F : List D → R D}
theorem ze_callD (G : Has X.prog X.w X.K X.mg X.base (CXx X.prog X.w) k x ps (spD n X.K F)) (hr : Room k X.A) (hg : Gl X x) (hx : Passes (CXx X.prog X.w) X E) (hn : (e :: es).length = n) (ha : ZA X E (e :: es) fs) (hdb : (x == ("__debug__" : Str)) = false := by decide)
    (he : starEach (e :: es) X.env = (false, eval e X.env) :: starEach es X.env := by rfl) (hpl : (backTo pos (starEach es X.env)).any (·.1) = false := by rfl) : ZE X E (.Call (.Name x p) (e :: es) [] pos) (zF F fs) := by
  obtain ⟨ta, pa, ra, lb⟩ := ha
  refine ⟨_, pe_has G hr hg hx pa hdb he hpl, fun B al lo H σ ρ S Q s h => ra _ _ _ _ _ _ _ _ s ?_⟩
  unfold zF at h
  cases q : fs ρ S with
  | bad => rw [q] at h; exact h.elim
  | ex c ns ds S1 => rw [q] at h; exact h
  | ok zs S1 =>
    rw [q] at h
    intro al1 lo1 H1 s1 x1 y1 vs rv
    have ll := lb _ _ _ _ q
    have h1 : AftZ X.K B E al lo H σ ρ (match asDs zs with | some ds => (upR (F ds) S1).bind fun d S => .ok (.d d) S | none => .bad) (fun z al' lo' H' _ => ∀ v, RepZ X.K al' lo' H' v z → Q v H') := h
    split at h1
    · rename_i ds e
      have := asDs_map e
      subst this
      have rv' := rv.toD
      rw [List.append_nil]
      exact ⟨by rw [rv'.length]; rw [List.length_map] at ll; rw [ll]; exact hn, s1.tt, al1, ds, s1.fresh, rv', Aft.mono (AftZ.toAft s1 (AftZ.split (AftZ.up h1 x1 y1))) fun d H3 s3 h3 => h3 al1 lo1 H3 (s1.grow s3) .refl .refl⟩
    · exact h1.elim
end
noncomputable def AftF (K : PySem.W.Frag) (B : Z0) (E : XK) (r : RX Z) (Q : VK) : Prop := match r with
  | .ok z S' => ∀ al' lo' H' v, EZ K B al' lo' H' S' → RepZ K al' lo' H' v z → Q v H'
  | .ex c ns ds S' => ∀ al' lo' H' dx, EZ K B al' lo' H' S' → XR K al' H' dx ns ds → E (.ref c) dx H'
  | .bad => False
noncomputable def spZ (n : Nat) (K : PySem.W.Frag) (F : List Z → Sto → RX Z) : Sp := fun vs H Q E => vs.length = n ∧ TbOk K H ∧ ∃ al lo zs S, (∀ a, H a = none → al a) ∧ StOk K al lo H S ∧ RepZs K al lo H vs zs ∧ AftF K ⟨H, al, lo, S.length⟩ E (F zs S) Q
theorem EZ.trans {K : PySem.W.Frag} {B : Z0} {al al' : Addr → Prop} {lo lo' : Lo} {H H' : Hp} {S S' : Sto} (r : EZ K B al lo H S) (q : EZ K ⟨H, al, lo, S.length⟩ al' lo' H' S') : EZ K B al' lo' H' S' where
  fr := fun b o n h w => q.fr b o n (r.fr b o n h w) fun m hm => by
    rcases r.nw m b hm with z | z
    · exact w m z
    · rw [z.1] at h; cases h
  hf := fun b h => r.hf b (q.hf b h)
  tt := q.tt
  fresh := q.fresh
  st := q.st
  lx := fun n a h => q.lx n a (r.lx n a h)
  nw := fun n a h => by
    rcases q.nw n a h with z | z
    · exact r.nw n a z
    · exact .inr ⟨r.hf a z.1, Nat.le_trans r.sz z.2⟩
  bd := r.bd
  sz := Nat.le_trans r.sz q.sz
  xt := r.xt.trans q.xt
  sb := fun a h => by
    rcases q.sb a h with z | z
    · exact r.sb a z
    · exact .inr (r.hf a z)
theorem RZ.after {K : PySem.W.Frag} {B : Z0} {al al' : Addr → Prop} {lo lo' : Lo} {H H' : Hp} {S S' : Sto} {σ : St} {ρ : ZEv} (r : RZ K B al lo H σ ρ S) (q : EZ K ⟨H, al, lo, S.length⟩ al' lo' H' S') : RZ K B al' lo' H' σ ρ S' :=
  ⟨r.toEZ.trans q, r.len, fun i z e => let ⟨v, h1, h2⟩ := r.vr i z e; ⟨v, h1, h2.mv q.xt q.lx⟩⟩
section
variable {X : Cx} {E : XK} {e : Expr} {es : List Expr} {pos p : Pos} {fs : ZEv → Sto → RX (List Z)} {x : Str} {k n : Nat} {ps : List Str} {F : List Z → Sto → RX Z}
theorem ze_callZ (G : Has X.prog X.w X.K X.mg X.base (CXx X.prog X.w) k x ps (spZ n X.K F)) (hr : Room k X.A) (hg : Gl X x) (hx : Passes (CXx X.prog X.w) X E) (hn : (e :: es).length = n) (ha : ZA X E (e :: es) fs) (hdb : (x == ("__debug__" : Str)) = false := by decide)
    (he : starEach (e :: es) X.env = (false, eval e X.env) :: starEach es X.env := by rfl) (hpl : (backTo pos (starEach es X.env)).any (·.1) = false := by rfl) : ZE X E (.Call (.Name x p) (e :: es) [] pos) (zZ F fs) := by
  obtain ⟨ta, pa, ra, lb⟩ := ha
  refine ⟨_, pe_has G hr hg hx pa hdb he hpl, fun B al lo H σ ρ S Q s h => ra _ _ _ _ _ _ _ _ s ?_⟩
  unfold zZ at h
  cases q : fs ρ S with
  | bad => rw [q] at h; exact h.elim
  | ex c ns ds S1 => rw [q] at h; exact h
  | ok zs S1 =>
    rw [q] at h
    intro al1 lo1 H1 s1 x1 y1 vs rv
    have ll := lb _ _ _ _ q
    have h1 : AftZ X.K B E al lo H σ ρ (F zs S1) (fun z al' lo' H' _ => ∀ v, RepZ X.K al' lo' H' v z → Q v H') := h
    rw [List.append_nil]
    refine ⟨by rw [rv.length, ll]; exact hn, s1.tt, al1, lo1, zs, S1, s1.fresh, s1.st, rv, ?_⟩
    cases q2 : F zs S1 with
    | bad => rw [q2] at h1; exact h1.elim
    | ex c ns ds S2 => rw [q2] at h1; exact fun al2 lo2 H2 dx e2 xr => h1 al2 lo2 H2 dx (s1.toEZ.trans e2) xr
    | ok z S2 => rw [q2] at h1; exact fun al2 lo2 H2 v e2 rv2 => h1 al2 lo2 H2 (s1.after e2) (x1.trans e2.xt) (y1.trans e2.lx) v rv2
end
end P2
namespace P2
open PySem L2
inductive RTZ where
  | nx (ρ : ZEv) (S : Sto) | rt (z : Z) (S : Sto) | bk (ρ : ZEv) (S : Sto) | ct (ρ : ZEv) (S : Sto) | ex (c : Addr) (ns : List Str) (ds : List D) (S : Sto) | bad
noncomputable def toZ {α : Type} (r : RX α) (k : α → Sto → RTZ) : RTZ := match r with
  | .ok a S => k a S
  | .ex c ns ds S => .ex c ns ds S
  | .bad => .bad
noncomputable def seqZ (r : RTZ) (k : ZEv → Sto → RTZ) : RTZ := match r with
  | .nx ρ S => k ρ S
  | r => r
noncomputable def okZ (K : PySem.W.Frag) (B : Z0) (E : XK) (D : Ends) (al : Addr → Prop) (H : Hp) : RTZ → Prop
  | .nx ρ S => ∀ al' lo' H' σ', Xt al H al' H' → RZ K B al' lo' H' σ' ρ S → D.nx σ' H'
  | .bk ρ S => ∀ al' lo' H' σ', Xt al H al' H' → RZ K B al' lo' H' σ' ρ S → D.bk σ' H'
  | .ct ρ S => ∀ al' lo' H' σ', Xt al H al' H' → RZ K B al' lo' H' σ' ρ S → D.ct σ' H'
  | .rt z S => ∀ al' lo' H' v, EZ K B al' lo' H' S → RepZ K al' lo' H' v z → D.rt v H'
  | .ex c ns ds S => ∀ al' lo' H' dx, EZ K B al' lo' H' S → XR K al' H' dx ns ds → E (.ref c) dx H'
  | .bad => False
section
variable {K : PySem.W.Frag} {B : Z0} {E : XK} {D : Ends} {al al' : Addr → Prop} {lo : Lo} {H H' : Hp} {s : RTZ} {σ : St} {ρ : ZEv}
theorem okZ.ext (h : okZ K B E D al H s) (x : Xt al H al' H') : okZ K B E D al' H' s := by
  cases s with
  | nx ρ S => exact fun a l h1 σ1 y r => h a l h1 σ1 (x.trans y) r
  | bk ρ S => exact fun a l h1 σ1 y r => h a l h1 σ1 (x.trans y) r
  | ct ρ S => exact fun a l h1 σ1 y r => h a l h1 σ1 (x.trans y) r
  | rt d S => exact h
  | ex c ns ds S => exact h
  | bad => exact h
theorem okZ.ofX {α : Type} {r : RX α} {k : α → Sto → RTZ} (h : okZ K B E D al H (toZ r k)) : AftZ K B E al lo H σ ρ r (fun x al' lo' H' S' => okZ K B E D al' H' (k x S')) := by
  cases r with
  | ok x S => exact fun al1 lo1 H1 s1 x1 y1 => okZ.ext h x1
  | ex c ns ds S => exact h
  | bad => exact h
end
noncomputable def ZS (X : Cx) (E : XK) (b : Nat) (st : Stmt) (g : ZEv → Sto → RTZ) : Prop := ∃ t : TS, PS X st t ∧
  ∀ B : Z0, B.n = b → ∀ al lo H σ ρ S (D : Ends), RZ X.K B al lo H σ ρ S → okZ X.K B E D al H (g ρ S) → t D σ H
noncomputable def ZSs (X : Cx) (E : XK) (b : Nat) (st : List Stmt) (g : ZEv → Sto → RTZ) : Prop := ∃ t : TS, PSs X st t ∧
  ∀ B : Z0, B.n = b → ∀ al lo H σ ρ S (D : Ends), RZ X.K B al lo H σ ρ S → okZ X.K B E D al H (g ρ S) → t D σ H
noncomputable def yNil : ZEv → Sto → RTZ := .nx
noncomputable def ySeq (a b : ZEv → Sto → RTZ) : ZEv → Sto → RTZ := fun ρ S => seqZ (a ρ S) b
noncomputable def yRet (f : ZEv → Sto → RX Z) : ZEv → Sto → RTZ := fun ρ S => toZ (f ρ S) .rt
noncomputable def ySet (i : Nat) (f : ZEv → Sto → RX Z) : ZEv → Sto → RTZ := fun ρ S => toZ (f ρ S) fun z S1 => if i < ρ.length then .nx (ρ.set i (some z)) S1 else .bad
noncomputable def yIf (c : ZEv → Sto → RX Bool) (a b : ZEv → Sto → RTZ) : ZEv → Sto → RTZ := fun ρ S => toZ (c ρ S) fun k S1 => if k = true then a ρ S1 else b ρ S1
section
variable {X : Cx} {E : XK} {b : Nat} {st : Stmt} {rest sa sb : List Stmt} {g u ga gb : ZEv → Sto → RTZ} {e c : Expr} {f : ZEv → Sto → RX Z} {fc : ZEv → Sto → RX Bool} {pos : Pos}
theorem zss_nil : ZSs X E b [] yNil := ⟨_, pss_nil, fun B hb al lo H σ ρ S _ s h => h al lo H σ .refl s⟩
theorem zss_one (h : ZS X E b st g) : ZSs X E b [st] g := let ⟨t, p, r⟩ := h; ⟨t, pss_one p, r⟩
theorem zss_cons (h1 : ZS X E b st g) (h2 : ZSs X E b rest u) : ZSs X E b (st :: rest) (ySeq g u) := by
  obtain ⟨t1, p1, r1⟩ := h1
  obtain ⟨t2, p2, r2⟩ := h2
  refine ⟨_, pss_cons p1 p2, fun B hb al lo H σ ρ S D s h => r1 B hb al lo H σ ρ S _ s ?_⟩
  unfold ySeq at h
  cases q : g ρ S with
  | nx ρ1 S1 =>
    rw [q] at h
    exact fun al' lo' H' σ' x s' => r2 B hb al' lo' H' σ' ρ1 S1 D s' (okZ.ext h x)
  | bk ρ1 S1 => rw [q] at h; exact h
  | ct ρ1 S1 => rw [q] at h; exact h
  | rt d S1 => rw [q] at h; exact h
  | ex c ns ds S1 => rw [q] at h; exact h
  | bad => rw [q] at h; exact h
theorem zs_ret (he : ZE X E e f) : ZS X E b (.Return (some e) pos) (yRet f) := by
  obtain ⟨t, p, r⟩ := he
  exact ⟨_, ps_ret p, fun B hb al lo H σ ρ S D s h => r _ _ _ _ _ _ _ _ s (AftZ.mono (okZ.ofX h) fun z al1 lo1 H1 S1 s1 x1 y1 h1 v rv => h1 al1 lo1 H1 v s1.toEZ rv)⟩
theorem zs_set (i : Nat) {x : Str} {pos' : Pos} (hN : X.N.Nodup) (hi : X.N[i]? = some x) (hx : Loc X.env.scope x) (he : ZE X E e f) (hs : swapsWith e (some (.Name x pos')) pos.line X.env = pure false := by rfl) (hf : X.fn x = true ∨ X.env.scope.names.lookup x = some .local := by first | exact .inl rfl | exact .inr rfl | assumption) :
    ZS X E b (.Assign [.Name x pos'] e pos) (ySet i f) := by
  obtain ⟨t, p, r⟩ := he
  refine ⟨_, ps_set hN hi hx p hs hf, fun B hb al lo H σ ρ S D s h => r _ _ _ _ _ _ _ _ s (AftZ.mono (okZ.ofX h) fun z al1 lo1 H1 S1 s1 x1 y1 h1 v rv => ?_)⟩
  by_cases w : i < ρ.length
  · simp only [w, if_true] at h1
    exact h1 al1 lo1 H1 _ .refl (s1.set w rv)
  · simp only [w, if_false] at h1
    exact h1.elim
theorem zs_if (hc : ZT X E c fc) (ha : ZSs X E b sa ga) (hb : ZSs X E b sb gb) : ZS X E b (.If c sa sb pos) (yIf fc ga gb) := by
  obtain ⟨tc, pc, rc⟩ := hc
  obtain ⟨ta, pa, ra⟩ := ha
  obtain ⟨tb, pb, rb⟩ := hb
  refine ⟨_, ps_if pc pa pb, fun B hb al lo H σ ρ S D s h => rc _ _ _ _ _ _ _ _ s (AftZ.mono (okZ.ofX h) fun k al1 lo1 H1 S1 s1 x1 y1 h1 => ?_)⟩
  cases k with
  | true => exact iteT (ra _ hb _ _ _ _ _ _ _ s1 h1)
  | false => exact iteF (rb _ hb _ _ _ _ _ _ _ s1 h1)
end
noncomputable def hN : List D → ZEv → Option ZEv := fun ds ρ => match ds with
  | [] => some ρ
  | _ => none
noncomputable def hC (a : D → ZEv → Option ZEv) (b : List D → ZEv → Option ZEv) : List D → ZEv → Option ZEv := fun ds ρ => match ds with
  | d :: r => (a d ρ).bind (b r)
  | [] => none
noncomputable def hT (n : Nat) (a : List D → ZEv → Option ZEv) : D → ZEv → Option ZEv := fun d ρ => match d with
  | .tup ds => if ds.length = n then a ds ρ else none
  | _ => none
section
variable {X : Cx} {E : XK} {b : Nat} {tg iter : Expr} {body : List Stmt} {fi : Ev → R (List D)} {a : D → ZEv → Option ZEv} {gb : ZEv → Sto → RTZ} {pos : Pos} {e : Expr} {f : ZEv → Sto → RX Z}
end
end P2
namespace P2
open PySem L2
noncomputable def startZ (n : Nat) (zs : List Z) : ZEv := zs.map some ++ List.replicate (n - zs.length) none
noncomputable def finZ : RTZ → RX Z
  | .rt z S => .ok z S
  | .nx _ S => .ok (.d .non) S
  | .ex c ns ds S => .ex c ns ds S
  | _ => .bad
theorem rz_start {K : PySem.W.Frag} {al : Addr → Prop} {lo : Lo} {H : Hp} {S : Sto} {vs : List V} {zs : List Z} {N : List Str} (tt : TbOk K H) (fr : ∀ a, H a = none → al a) (st : StOk K al lo H S) (r : RepZs K al lo H vs zs) : RZ K ⟨H, al, lo, S.length⟩ al lo H (L2.start N vs) (startZ N.length zs) S where
  toEZ := EZ.start (zs := zs) tt fr st
  len := by unfold L2.start startZ; simp [r.length]
  vr := fun i z h => by
    unfold startZ at h
    by_cases hi : i < zs.length
    · rw [List.getElem?_append_left (by simpa using hi), List.getElem?_map] at h
      cases q : zs[i]? with
      | none => rw [q] at h; cases h
      | some y =>
        rw [q] at h; cases h
        obtain ⟨v, e1, e2⟩ := r.get q
        refine ⟨v, ?_, e2⟩
        unfold L2.start
        rw [List.getElem?_append_left (by simpa [r.length] using hi), List.getElem?_map, e1]; rfl
    · rw [List.getElem?_append_right (by simpa using hi), List.getElem?_replicate] at h
      split at h <;> cases h
section
variable {P : Program} {w : World} {K : PySem.W.Frag} {mg : Str → Option Value} {base : Heap}
theorem fn_denZ {x : Str} {st : Stmt} {f : Addr} {fd : FuncData} {N ps : List Str} {k : Nat} {g : Nat → ZEv → Sto → RTZ} (F : Fun K x x st f fd) (S : FnScope N ps (defScope st))
    (body : ∀ (b : Nat) (cdv : Value) (A : Around) (outer : List Env) (s : Shared) (H : Hp) (E : XK), Room k (cxOf (CXx P w) P w K mg base N x (defScope st) f cdv A outer s H E).A → ZSs (cxOf (CXx P w) P w K mg base N x (defScope st) f cdv A outer s H E) E b (defBody st) (g b)) :
    FnOk P w K mg base (CXx P w) (k + 1) f fd ps (spZ ps.length K fun zs S => finZ (g S.length (startZ N.length zs) S)) := by
  refine F.okX S (fun vs H Q E h => h.1) (fun cdv A outer s H vs Q E hr h => ?_)
  obtain ⟨hl, tt, al, lo, zs, S0, fr, st, rv, h⟩ := h
  obtain ⟨t, p, r⟩ := body S0.length cdv A outer s H E hr
  dsimp only at h
  refine ⟨t, p, r ⟨H, al, lo, S0.length⟩ rfl al lo H (L2.start N vs) (startZ N.length zs) S0 _ (rz_start tt fr st rv) ?_⟩
  cases q : g S0.length (startZ N.length zs) S0 with
  | nx ρ S1 => rw [q] at h; exact fun al' lo' H' σ' _ s' => h al' lo' H' .non s'.toEZ .non
  | rt z S1 => rw [q] at h; exact h
  | ex c ns es S1 => rw [q] at h; exact h
  | bk ρ S1 => rw [q] at h; exact h.elim
  | ct ρ S1 => rw [q] at h; exact h.elim
  | bad => rw [q] at h; exact h.elim
noncomputable def clo : RX Z → R D
  | .ok (.d x) _ => .ok x
  | .ex c ns ds _ => .ex c ns ds
  | _ => .bad
end
section
variable {X : Cx} {E : XK} {b : Nat} {st : Stmt} {e : Expr} {pos : Pos}
end
section
variable {X : Cx} {E : XK} {b : Nat} {e : Expr} {pos : Pos} {f : ZEv → Sto → RX Z}
theorem RZ.cell {K : PySem.W.Frag} {B : Z0} {al : Addr → Prop} {lo : Lo} {H : Hp} {σ : St} {ρ : ZEv} {S : Sto} (s : RZ K B al lo H σ ρ S) {n : Nat} {a : Addr} (hn : lo n = some a) {c : Cell} (h : S[n]? = some c) : CellAt K al lo H a c := by
  obtain ⟨c', h1, h2⟩ := s.st.at' n a hn
  rw [h] at h1; cases h1; exact h2
theorem RepZs.dropLast {K : PySem.W.Frag} {al : Addr → Prop} {lo : Lo} {H : Hp} {vs : List V} {zs : List Z} (r : RepZs K al lo H vs zs) : RepZs K al lo H vs.dropLast zs.dropLast := by
  induction r with
  | nil => exact .nil
  | cons a b ih =>
    cases b with
    | nil => exact .nil
    | cons c d => exact .cons a ih
noncomputable def yPut (i : Nat) (fk : Ev → R D) (f : ZEv → Sto → RX Z) : ZEv → Sto → RTZ := fun ρ S => toZ (f ρ S) fun z S1 => match ρ[i]? with
  | some (some (.loc n)) => toZ (upR (fk (pur ρ)) S1) fun k S2 => (match k, S2[n]? with
    | .int j, some (.li zs) => (match ixN zs.length j with
      | some m => .nx ρ (S2.set n (.li (zs.set m z)))
      | none => .bad)
    | _, _ => .bad)
  | _ => .bad
end
end P2
namespace P2
open PySem L2
section
variable {X : Cx} {E : XK} {b : Nat} {e k : Expr} {pos : Pos} {f : ZEv → Sto → RX Z} {fk : Ev → R D}
theorem zs_put (i : Nat) {x : Str} {opos tpos : Pos} (hk : DE X E k fk) (he : ZE X E e f)
    (hN : X.N[i]? = some x := by rfl) (hv : Vis X.env.scope x := by first | exact Or.inl rfl | exact Or.inr (Or.inl rfl) | exact Or.inr (Or.inr rfl)) (hd : (x == ("__debug__" : Str)) = false := by decide)
    (hcd : (x == ("__classdict__" : Str)) = false := by decide)
    (ha : ∀ v, assign (.Subscript (.Name x opos) k tpos) X.env v = (do
      let ov ← holding [v] (eval (.Name x opos) X.env)
      let iv ← holding [v, ov] (eval k X.env)
      standAt tpos
      holding [v, ov, iv] (setItem ov iv v)
      release [v, ov, iv] []) := by intro _; rfl)
    (hs : swapsWithSole [.Subscript (.Name x opos) k tpos] e pos.line X.env = pure false := by rfl) (hw : swappedStores [.Subscript (.Name x opos) k tpos] e X.env = pure none := by rfl)
    (h1 : (assignEach [.Subscript (.Name x opos) k tpos] X.env).map (·.2) = [assign (.Subscript (.Name x opos) k tpos) X.env] := by rfl) :
    ZS X E b (.Assign [.Subscript (.Name x opos) k tpos] e pos) (yPut i fk f) := by
  obtain ⟨t, p, r⟩ := he
  obtain ⟨tk, pk, rk⟩ := hk
  refine ⟨_, ps_asg p (pg_sub (pe_var hN hv hd hcd) pk set_list ha) hs hw h1, fun B hb al lo H σ ρ S D s h => r _ _ _ _ _ _ _ _ s (AftZ.mono (okZ.ofX h) fun z al1 lo1 H1 S1 s1 x1 y1 h1 v rv => ?_)⟩
  split at h1
  · rename_i n q
    obtain ⟨u, e1, a, hn, rfl⟩ := s1.vr i _ q
    refine ⟨_, e1, rk _ _ _ _ _ _ _ s1.rs (Aft.mono (AftZ.toAft s1 (okZ.ofX h1)) fun dk H2 s2 h2 w rw' => ?_)⟩
    have s3 := s1.grow s2
    split at h2
    · rename_i j zs q2
      cases rw'
      obtain ⟨vs, g1, g2⟩ := s3.cell hn q2
      split at h2
      · rename_i m qm
        have rv3 := RepZ.mv (.of s2) .refl rv
        have x2 : Xt al1 H2 al1 (upd H2 a (.lst (vs.set m v))) := fun b o _ hb eb => ⟨hb, by rw [upd_ne fun z => s3.st.na n a hn (by rw [← z]; exact hb)]; exact eb⟩
        obtain ⟨s4, x4⟩ := s3.write hn (o := .lst (vs.set m v)) (c := .li (zs.set m z)) nt_lst (fun q w => by unfold CodeO at w; cases w) ⟨_, upd_same, RepZs.mv x2 .refl (g2.set rv3 m)⟩ nofun
        exact ⟨a, vs, j, m, rfl, rfl, g1, by rw [g2.length]; exact qm, h2 _ _ _ _ x4 s4⟩
      · exact h2.elim
    · exact h2.elim
  · exact h1.elim
end
mutual
noncomputable def noL : D → Bool
  | .lst _ => false
  | .tup ds => noLs ds
  | .exc _ _ _ => false
  | _ => true
noncomputable def noLs : List D → Bool
  | [] => true
  | d :: r => noL d && noLs r
end
noncomputable def vwS (S : Sto) : Option Z → Sl
  | some (.d x) => .sh x
  | some (.loc n) => (match S[n]? with
    | some (.li zs) => (match asDs zs with
      | some ds => .sh (.lst ds)
      | none => .no)
    | _ => .no)
  | _ => .no
noncomputable def vw (S : Sto) (ρ : ZEv) : Ev := ρ.map (vwS S)
section
variable {K : PySem.W.Frag} {B : Z0} {al : Addr → Prop} {lo : Lo} {H H' : Hp} {σ : St} {ρ : ZEv} {S : Sto}
noncomputable def alV (al : Addr → Prop) (lo : Lo) : Addr → Prop := fun a => al a ∨ ∃ n, lo n = some a
theorem RZ.rsV (r : RZ K B al lo H σ ρ S) : RS K (alV al lo) H (alV al lo) H σ (vw S ρ) where
  same := .refl H
  tt := r.tt
  fresh := fun a h => .inl (r.fresh a h)
  sub := fun _ h => h
  pf := fun a h => .inl (r.fresh a h)
  len := by unfold vw; rw [List.length_map]; exact r.len
  sh := fun i d h => by
    unfold vw at h
    rw [List.getElem?_map] at h
    obtain ⟨z, h1, h2⟩ := Option.map_eq_some_iff.mp h
    cases z with
    | none => cases h2
    | some z =>
      obtain ⟨v, e1, e2⟩ := r.vr i z h1
      refine ⟨v, e1, ?_⟩
      cases z with
      | d x => cases h2; exact Rep.mv (.sub fun _ h => .inl h) e2
      | tk ks => cases h2
      | loc n =>
        unfold vwS at h2
        dsimp only at h2
        split at h2
        · rename_i zs q
          split at h2
          · rename_i ds qd
            cases h2
            have := asDs_map qd
            subst this
            obtain ⟨a, hn, rfl⟩ := e2
            obtain ⟨vs, g1, g2⟩ := r.cell hn q
            exact .lst (.inl ⟨.inr ⟨n, hn⟩, .inl g1⟩) (Reps.mv (.sub fun _ h => .inl h) g2.toD)
          · cases h2
        · cases h2
  ow := fun i ds h => by
    unfold vw at h
    rw [List.getElem?_map] at h
    obtain ⟨z, h1, h2⟩ := Option.map_eq_some_iff.mp h
    unfold vwS at h2
    split at h2
    · cases h2
    · split at h2
      · split at h2 <;> cases h2
      · cases h2
    · cases h2
  apart := fun i j ds ds' a h _ _ _ => by
    unfold vw at h
    rw [List.getElem?_map] at h
    obtain ⟨z, h1, h2⟩ := Option.map_eq_some_iff.mp h
    unfold vwS at h2
    split at h2
    · cases h2
    · split at h2
      · split at h2 <;> cases h2
      · cases h2
    · cases h2
mutual
theorem Rep.noL (na : ∀ n a, lo n = some a → ¬ ∃ vs, Rd H a (.tup vs)) : ∀ {v : V} {d : D}, Rep K (alV al lo) H v d → P2.noL d = true → Rep K al H v d
  | _, _, .non, _ => .non
  | _, _, .bl b, _ => .bl b
  | _, _, .int b, _ => .int b
  | _, _, .str b, _ => .str b
  | _, _, .ty b, _ => .ty b
  | _, _, .ref b, _ => .ref b
  | _, _, .tup p q, h => .tup (p.elim (fun z => .inl ⟨z.1.elim id fun ⟨n, hn⟩ => absurd ⟨_, z.2⟩ (na n _ hn), z.2⟩) .inr) (Reps.noL na q h)
  | _, _, .lst p q, h => by cases h
  | _, _, .exc p1 p2 p3 p4 q, h => by cases h
  | _, _, .exc0 p1 p2, h => by cases h
theorem Reps.noL (na : ∀ n a, lo n = some a → ¬ ∃ vs, Rd H a (.tup vs)) : ∀ {v : List V} {d : List D}, Reps K (alV al lo) H v d → noLs d = true → Reps K al H v d
  | _, _, .nil, _ => .nil
  | _, _, .cons (d := d) (ds := ds) p q, h => by
    have h' : (P2.noL d && noLs ds) = true := h
    rw [Bool.and_eq_true] at h'
    exact .cons (Rep.noL na p h'.1) (Reps.noL na q h'.2)
end
theorem RZ.noT (r : RZ K B al lo H σ ρ S) : ∀ n a, lo n = some a → ¬ ∃ vs, Rd H a (.tup vs) := fun n a hn ⟨vs, h⟩ => by
  obtain ⟨c, _, q⟩ := r.st.at' n a hn
  cases c with
  | li zs => obtain ⟨ws, g, _⟩ := q; rcases h with h | ⟨o, h⟩ <;> (rw [g] at h; cases h)
  | ob C fs => obtain ⟨dx, ws, g, _⟩ := q; rcases h with h | ⟨o, h⟩ <;> (rw [g] at h; cases h)
  | dk kvs => obtain ⟨ws, g, _⟩ := q; rcases h with h | ⟨o, h⟩ <;> (rw [g] at h; cases h)
  | dt kvs => obtain ⟨ws, g, _⟩ := q; rcases h with h | ⟨o, h⟩ <;> (rw [g] at h; cases h)
  | no => exact q
  | mk => exact q
end
noncomputable def zR (f : Ev → R D) : ZEv → Sto → RX Z := fun ρ S => match f (vw S ρ) with
  | .ok d => if noL d = true then .ok (.d d) S else .bad
  | _ => .bad
noncomputable def zRB (f : Ev → R Bool) : ZEv → Sto → RX Bool := fun ρ S => match f (vw S ρ) with
  | .ok d => .ok d S
  | _ => .bad
section
variable {X : Cx} {E : XK} {b : Nat} {e : Expr} {pos : Pos}
theorem ze_read {f : Ev → R D} (h : DE X E e f) : ZE X E e (zR f) := by
  obtain ⟨t, p, r⟩ := h
  refine ⟨t, p, fun B al lo H σ ρ S Q z h => r _ _ _ _ _ _ _ z.rsV ?_⟩
  unfold zR at h
  cases q : f (vw S ρ) with
  | bad => rw [q] at h; exact h.elim
  | ex c ns ds => rw [q] at h; exact h.elim
  | ok d =>
    rw [q] at h
    dsimp only at h
    by_cases w : noL d = true
    · rw [if_pos w] at h
      exact fun H1 s1 v rv => h al lo H1 (z.grow s1) (.of s1) .refl v (Rep.noL (z.grow s1).noT rv w)
    · rw [if_neg w] at h; exact h.elim
theorem zt_read {f : Ev → R Bool} (h : DT X E e f) : ZT X E e (zRB f) := by
  obtain ⟨t, p, r⟩ := h
  refine ⟨t, p, fun B al lo H σ ρ S Q z h => r _ _ _ _ _ _ _ z.rsV ?_⟩
  unfold zRB at h
  cases q : f (vw S ρ) with
  | bad => rw [q] at h; exact h.elim
  | ex c ns ds => rw [q] at h; exact h.elim
  | ok d => rw [q] at h; exact fun H1 s1 => h al lo H1 (z.grow s1) (.of s1) .refl
end
noncomputable def thaw (n : Nat) (d : D) : Option Z → Option Z
  | some (.loc m) => if m = n then some (.d d) else some (.loc m)
  | o => o
noncomputable def hasLoc (n : Nat) : Z → Bool
  | .loc m => decide (m = n)
  | _ => false
noncomputable def cellHas (n : Nat) : Cell → Bool
  | .li zs => zs.any (hasLoc n)
  | .ob _ fs => fs.any fun p => hasLoc n p.2
  | .dk kvs => kvs.any fun p => hasLoc n p.2
  | .dt kvs => kvs.any fun p => hasLoc n p.2
  | .no => false
  | .mk => false
noncomputable def frzZ (b : Nat) (i : Nat) (ρ : ZEv) (S : Sto) : Option (ZEv × Sto) := match ρ[i]? with
  | some (some (.loc n)) => (match S[n]? with
    | some (.li zs) => (match asDs zs with
      | some ds => if b ≤ n ∧ (S.any (cellHas n)) = false then some (ρ.map (thaw n (.lst ds)), S.set n .no) else none
      | none => none)
    | _ => none)
  | some _ => some (ρ, S)
  | none => none
section
variable {K : PySem.W.Frag} {B : Z0} {al : Addr → Prop} {lo : Lo} {H : Hp} {σ : St} {ρ ρ' : ZEv} {S S' : Sto}
theorem RepZ.out {al' : Addr → Prop} {lo' : Lo} {n : Nat} (x : Xt al H al' H) (y : ∀ m a, m ≠ n → lo m = some a → lo' m = some a) {v : V} {z : Z} (r : RepZ K al lo H v z) (h : hasLoc n z = false) : RepZ K al' lo' H v z := by
  cases z with
  | d d => exact Rep.mv x r
  | loc m => obtain ⟨a, h1, h2⟩ := r; exact ⟨a, y m a (by simpa [hasLoc] using h) h1, h2⟩
  | tk ks => obtain ⟨a, h1, h2, h3⟩ := r; obtain ⟨g1, g2⟩ := x a (.tup (ks.map kV)) (fun _ h => nomatch h) h1 h2; exact ⟨a, g1, g2, h3⟩
theorem RepZs.out {al' : Addr → Prop} {lo' : Lo} {n : Nat} (x : Xt al H al' H) (y : ∀ m a, m ≠ n → lo m = some a → lo' m = some a) {vs : List V} {zs : List Z} (r : RepZs K al lo H vs zs) (h : zs.any (hasLoc n) = false) : RepZs K al' lo' H vs zs := by
  induction r with
  | nil => exact .nil
  | cons a _ ih =>
    rw [List.any_cons, Bool.or_eq_false_iff] at h
    exact .cons (a.out x y h.1) (ih h.2)
theorem RepK.out {κ : Type} {al' : Addr → Prop} {lo' : Lo} {n : Nat} (x : Xt al H al' H) (y : ∀ m a, m ≠ n → lo m = some a → lo' m = some a) {vs : List (κ × V)} {zs : List (κ × Z)} (r : RepK K al lo H vs zs) (h : (zs.any fun p => hasLoc n p.2) = false) : RepK K al' lo' H vs zs := by
  induction r with
  | nil => exact .nil
  | cons a _ ih =>
    rw [List.any_cons, Bool.or_eq_false_iff] at h
    exact .cons (a.out x y h.1) (ih h.2)
theorem CellAt.out {al' : Addr → Prop} {lo' : Lo} {n : Nat} (x : Xt al H al' H) (y : ∀ m a, m ≠ n → lo m = some a → lo' m = some a) {a : Addr} {c : Cell} (r : CellAt K al lo H a c) (h : cellHas n c = false) : CellAt K al' lo' H a c := by
  cases c with
  | li zs => obtain ⟨vs, h1, h2⟩ := r; exact ⟨vs, h1, h2.out x y h⟩
  | ob C fs => obtain ⟨dx, us, h1, h2⟩ := r; exact ⟨dx, us, h1, h2.out x y h⟩
  | dk kvs => obtain ⟨us, h1, h2⟩ := r; exact ⟨us, h1, h2.out x y h⟩
  | dt kvs => obtain ⟨us, h1, h2⟩ := r; exact ⟨us, h1, h2.out x y h⟩
  | no => exact r
  | mk => exact r
theorem RZ.freeze (r : RZ K B al lo H σ ρ S) {i : Nat} (h : frzZ B.n i ρ S = some (ρ', S')) : ∃ al' lo', RZ K B al' lo' H σ ρ' S' ∧ Xt al H al' H ∧ ∀ n, ρ[i]? = some (some (.loc n)) → ∀ m a, m ≠ n → lo m = some a → lo' m = some a := by
  unfold frzZ at h
  split at h
  · rename_i n q
    split at h
    · rename_i zs q0
      split at h
      · rename_i ds qd
        split at h
        · rename_i w
          cases h
          obtain ⟨v, e1, a, hn, rfl⟩ := r.vr i _ q
          have := asDs_map qd
          subst this
          obtain ⟨vs, g1, g2⟩ := r.cell hn q0
          have hl : n < S.length := (List.getElem?_eq_some_iff.mp q0).1
          have x : Xt al H (fun b => al b ∨ b = a) H := fun b o _ hb e => ⟨.inl hb, e⟩
          have hB : B.H a = none := by
            rcases r.nw n a hn with z | z
            · exact absurd (r.bd n a z) (by omega)
            · exact z.1
          refine ⟨fun b => al b ∨ b = a, fun m => if m = n then none else lo m, ?_, x, fun n' e m b hm hb => ?_⟩; rotate_left; · rw [q] at e; cases e; dsimp only; rw [if_neg hm]; exact hb
          have y : ∀ m b, m ≠ n → lo m = some b → (fun m => if m = n then none else lo m) m = some b := fun m b hm h => by dsimp only; rw [if_neg hm]; exact h
          have back : ∀ m b, (if m = n then none else lo m) = some b → m ≠ n ∧ lo m = some b := fun m b h => by
            by_cases z : m = n
            · rw [if_pos z] at h; cases h
            · rw [if_neg z] at h; exact ⟨z, h⟩
          have cl : ∀ c ∈ S, cellHas n c = false := fun c hc => by
            have := List.any_eq_false.mp w.2 c hc
            simpa using this
          refine { fr := r.fr, hf := r.hf, tt := r.tt, fresh := fun b hb => .inl (r.fresh b hb), st := ⟨fun m b hm => ?_, fun m c hm hc hc' => ?_, fun m b hm hb => ?_, fun m m' b h1 h2 => ?_, fun m b u hb hu => .inl (r.st.tl ?_ b u hb hu)⟩, lx := fun m b hm => ?_, nw := fun m b hm => r.nw m b (back m b hm).2, bd := r.bd, sz := by rw [List.length_set]; exact r.sz, xt := r.xt.trans x, sb := fun b hb => ?_, len := by rw [List.length_map]; exact r.len, vr := fun j z hz => ?_ }
          · obtain ⟨z1, z2⟩ := back m b hm
            obtain ⟨c, k1, k2⟩ := r.st.at' m b z2
            exact ⟨c, by rw [List.getElem?_set_ne (Ne.symm z1)]; exact k1, k2.out x y (cl c (List.mem_of_getElem? k1))⟩
          · by_cases z : n = m
            · subst z
              rw [List.getElem?_set_self hl] at hm; cases hm
              exact absurd rfl hc
            · rw [List.getElem?_set_ne z] at hm
              obtain ⟨b, k⟩ := r.st.has m c hm hc hc'
              exact ⟨b, by show (if m = n then none else lo m) = some b; rw [if_neg (Ne.symm z)]; exact k⟩
          · obtain ⟨z1, z2⟩ := back m b hm
            rcases hb with hb | rfl
            · exact r.st.na m b z2 hb
            · exact z1 (r.st.inj m n _ z2 hn)
          · exact r.st.inj m m' b (back m b h1).2 (back m' b h2).2
          · by_cases z : n = 0
            · subst z
              rw [List.getElem?_set_self hl] at m
              cases m
            · rw [List.getElem?_set_ne z] at m; exact m
          · have := r.bd m b hm
            show (if m = n then none else lo m) = some b
            rw [if_neg (by omega)]
            exact r.lx m b hm
          · rcases hb with hb | rfl
            · exact r.sb b hb
            · exact .inr hB
          · rw [List.getElem?_map] at hz
            obtain ⟨o, k1, k2⟩ := Option.map_eq_some_iff.mp hz
            cases o with
            | none => cases k2
            | some z0 =>
              obtain ⟨u, m1, m2⟩ := r.vr j z0 k1
              refine ⟨u, m1, ?_⟩
              cases z0 with
              | d x0 => cases k2; exact Rep.mv x m2
              | tk ks => cases k2; obtain ⟨a9, j1, j2, j3⟩ := m2; obtain ⟨i1, i2⟩ := x a9 (.tup (ks.map kV)) (fun _ h => nomatch h) j1 j2; exact ⟨a9, i1, i2, j3⟩
              | loc m =>
                have k2 : (if m = n then some (Z.d (.lst ds)) else some (Z.loc m)) = some z := k2
                by_cases zz : m = n
                · rw [if_pos zz] at k2; cases k2
                  obtain ⟨b, k3, rfl⟩ := m2
                  rw [zz, hn] at k3; cases k3
                  exact .lst (.inl ⟨.inr rfl, .inl g1⟩) (Reps.mv x g2.toD)
                · rw [if_neg zz] at k2; cases k2
                  obtain ⟨b, k3, rfl⟩ := m2
                  exact ⟨b, by dsimp only; rw [if_neg zz]; exact k3, rfl⟩
        · cases h
      · cases h
    · cases h
  · cases h; exact ⟨al, lo, r, .refl, fun _ _ _ _ _ h => h⟩
  · cases h
end
section
variable {X : Cx} {E : XK} {b : Nat} {sts : List Stmt} {st : Stmt} {g : ZEv → Sto → RTZ}
end
end P2
namespace L2
open PySem PySem.Spec PyProof.Rows
section
variable {κ : Type} [DecidableEq κ]
noncomputable def valV (kvs : List (κ × V)) (k : κ) : Option V := (kvs.find? fun kv => decide (kv.1 = k)).map (·.2)
noncomputable def putK (kvs : List (κ × V)) (k : κ) (v : V) : List (κ × V) :=
  if (kvs.any fun kv => decide (kv.1 = k)) = true then kvs.map (fun kv => if kv.1 = k then (kv.1, v) else kv) else kvs ++ [(k, v)]
noncomputable def dropK (kvs : List (κ × V)) (k : κ) : List (κ × V) := kvs.filter fun kv => decide (kv.1 ≠ k)
theorem valV_pos {p : κ × V} {r : List (κ × V)} {k : κ} (e : p.1 = k) : valV (p :: r) k = some p.2 := by simp [valV, List.find?_cons, e]
theorem valV_neg {p : κ × V} {r : List (κ × V)} {k : κ} (e : ¬ p.1 = k) : valV (p :: r) k = valV r k := by simp [valV, List.find?_cons, e]
theorem valV_any (k : κ) : ∀ kvs : List (κ × V), (kvs.any fun kv => decide (kv.1 = k)) = (valV kvs k).isSome
  | [] => rfl
  | p :: r => by
    rw [List.any_cons]
    by_cases e : p.1 = k
    · simp only [valV_pos e, decide_eq_true e, Bool.true_or, Option.isSome_some]
    · rw [valV_neg e, decide_eq_false e, Bool.false_or]; exact valV_any k r
theorem RelO.isSome_eq {o : Option V} {u : Option Value} (r : RelO o u) : o.isSome = u.isSome := by
  cases o with
  | none => cases u with
    | none => rfl
    | some _ => exact (show False from r).elim
  | some _ => cases u with
    | none => exact (show False from r).elim
    | some _ => rfl
theorem RelO.getD {o : Option V} {u : Option Value} {d : V} {d' : Value} (r : RelO o u) (rd : RelV d d') : RelV (o.getD d) (u.getD d') := by
  cases o with
  | none => cases u with
    | none => exact rd
    | some _ => exact (show False from r).elim
  | some _ => cases u with
    | none => exact (show False from r).elim
    | some _ => exact r
theorem KV.val {kvs : List (κ × V)} {vs : List (κ × Value)} (r : KV kvs vs) (k : κ) : RelO (valV kvs k) (valueAt vs k) := by
  unfold KV at r
  induction r with
  | nil => exact True.intro
  | @cons p q ps qs h t ih =>
    obtain ⟨h1, h2⟩ := h
    by_cases e : p.1 = k
    · have e' : q.1 = k := h1.symm.trans e
      have b : valueAt (q :: qs) k = some q.2 := by simp [valueAt, List.find?_cons, e']
      rw [valV_pos e, b]; exact h2
    · have e' : ¬ q.1 = k := fun z => e (h1.trans z)
      have b : valueAt (q :: qs) k = valueAt qs k := by simp [valueAt, List.find?_cons, e']
      rw [valV_neg e, b]; exact ih
theorem KV.any {kvs : List (κ × V)} {vs : List (κ × Value)} (r : KV kvs vs) (k : κ) : (kvs.any fun kv => decide (kv.1 = k)) = vs.any fun kv => decide (kv.1 = k) := by
  unfold KV at r
  induction r with
  | nil => rfl
  | cons h t ih => rw [List.any_cons, List.any_cons, ih, h.1]
theorem KV.repl {kvs : List (κ × V)} {vs : List (κ × Value)} (r : KV kvs vs) (k : κ) {y : V} {u : Value} (ry : RelV y u) :
    KV (kvs.map fun kv => if kv.1 = k then (kv.1, y) else kv) (vs.map fun kv => if kv.1 = k then (kv.1, u) else kv) := by
  unfold KV at r ⊢
  induction r with
  | nil => exact .nil
  | @cons p q ps qs h t ih =>
    rw [List.map_cons, List.map_cons]
    refine .cons ?_ ih
    obtain ⟨h1, h2⟩ := h
    by_cases e : p.1 = k
    · rw [if_pos e, if_pos (h1.symm.trans e)]; exact ⟨h1, ry⟩
    · rw [if_neg e, if_neg (fun z => e (h1.trans z))]; exact ⟨h1, h2⟩
theorem KV.put {kvs : List (κ × V)} {vs : List (κ × Value)} (r : KV kvs vs) (k : κ) {y : V} {u : Value} (ry : RelV y u) : KV (putK kvs k y) (stored vs k u) := by
  unfold putK stored
  rw [r.any k]
  by_cases e : (vs.any fun kv => decide (kv.1 = k)) = true
  · rw [if_pos e, if_pos e]; exact r.repl k ry
  · rw [if_neg e, if_neg e]; exact Paired.snoc r ⟨rfl, ry⟩
theorem KV.drop {kvs : List (κ × V)} {vs : List (κ × Value)} (r : KV kvs vs) (k : κ) : KV (dropK kvs k) (without vs k) := by
  unfold KV at r ⊢
  unfold dropK without
  induction r with
  | nil => exact .nil
  | @cons p q ps qs h t ih =>
    obtain ⟨h1, h2⟩ := h
    rw [List.filter_cons, List.filter_cons]
    by_cases e : p.1 = k
    · have a : ¬ decide (p.1 ≠ k) = true := by simp [e]
      have b : ¬ decide (q.1 ≠ k) = true := by simp [h1.symm.trans e]
      rw [if_neg a, if_neg b]; exact ih
    · have e' : ¬ q.1 = k := fun z => e (h1.trans z)
      have a : decide (p.1 ≠ k) = true := by simp [e]
      have b : decide (q.1 ≠ k) = true := by simp [e']
      rw [if_pos a, if_pos b]; exact .cons ⟨h1, h2⟩ ih
theorem KV.keys {kvs : List (κ × V)} {vs : List (κ × Value)} (r : KV kvs vs) : kvs.map (·.1) = vs.map (·.1) := by
  unfold KV at r
  induction r with
  | nil => rfl
  | cons h t ih => rw [List.map_cons, List.map_cons, ih, h.1]
theorem KV.length {kvs : List (κ × V)} {vs : List (κ × Value)} (r : KV kvs vs) : kvs.length = vs.length := Paired.length r
end
theorem kV_is {P : Program} {w : World} {k : Key} {u : Value} (r : RelV (kV k) u) : (mixKind P w).is k u = true := by
  cases k with
  | inl i => obtain ⟨t, e⟩ := (show ∃ t, u = Value.int i t from r); subst e; exact mixKind_int P w i t
  | inr x => obtain ⟨t, e⟩ := (show ∃ t, u = Value.str x t from r); subst e; exact mixKind_str P w x t
noncomputable abbrev KT (H : Hp) : List (List Key × V) → List (List Key × Addr × Value) → Prop := Paired fun p q => p.1 = q.1 ∧ H q.2.1 = some (.tup (p.1.map kV)) ∧ RelV p.2 q.2.2
theorem KT.val {H : Hp} {kvs : List (List Key × V)} {xs : List (List Key × Addr × Value)} (r : KT H kvs xs) (k : List Key) : RelO (valV kvs k) ((atKey xs k).map (·.2)) := by
  induction r with
  | nil => exact True.intro
  | @cons p q ps qs h t ih =>
    obtain ⟨h1, _, h2⟩ := h
    by_cases e : p.1 = k
    · have e' : q.1 = k := h1.symm.trans e
      have b : atKey (q :: qs) k = some q.2 := by simp [atKey, List.find?_cons, e']
      rw [valV_pos e, b]; exact h2
    · have e' : ¬ q.1 = k := fun z => e (h1.trans z)
      have b : atKey (q :: qs) k = atKey qs k := by simp [atKey, List.find?_cons, e']
      rw [valV_neg e, b]; exact ih
theorem KT.repl {H : Hp} {kvs : List (List Key × V)} {xs : List (List Key × Addr × Value)} (r : KT H kvs xs) (k : List Key) {y : V} {u : Value} (ry : RelV y u) :
    KT H (kvs.map fun kv => if kv.1 = k then (kv.1, y) else kv) (xs.map (putAt k u)) := by
  induction r with
  | nil => exact .nil
  | @cons p q ps qs h t ih =>
    rw [List.map_cons, List.map_cons]
    refine .cons ?_ ih
    obtain ⟨h1, h2, h3⟩ := h
    unfold putAt
    by_cases e : p.1 = k
    · rw [if_pos e, if_pos (h1.symm.trans e)]; exact ⟨h1, h2, ry⟩
    · rw [if_neg e, if_neg (fun z => e (h1.trans z))]; exact ⟨h1, h2, h3⟩
theorem KT.put {H : Hp} {kvs : List (List Key × V)} {xs : List (List Key × Addr × Value)} (r : KT H kvs xs) (k : List Key) {b : Addr} {y : V} {u : Value} (hb : H b = some (.tup (k.map kV))) (ry : RelV y u) :
    KT H (putK kvs k y) (storedH xs k b u) := by
  have e : (kvs.any fun kv => decide (kv.1 = k)) = (atKey xs k).isSome := by
    rw [valV_any, (r.val k).isSome_eq, Option.isSome_map]
  unfold putK storedH
  rw [e]
  by_cases q : (atKey xs k).isSome = true
  · rw [if_pos q, if_pos q]; exact r.repl k ry
  · rw [if_neg q, if_neg q]; exact Paired.snoc r ⟨rfl, hb, ry⟩
theorem KT.keeps {H H' : Hp} {kvs : List (List Key × V)} {xs : List (List Key × Addr × Value)} (r : KT H kvs xs) (ht : ∀ b ys, H b = some (.tup ys) → H' b = some (.tup ys)) : KT H' kvs xs :=
  Paired.mapP r fun _ _ z => ⟨z.1, ht _ _ z.2.1, z.2.2⟩
section
variable {P : Program} {w : World} {H : Hp} {h : Heap} {a : Addr}
end
noncomputable def DGet (H : Hp) (a : Addr) (y : V) (r : Option V) : Prop :=
  (∃ kvs k, Rd H a (.dK kvs) ∧ y = kV k ∧ r = valV kvs k) ∨ ∃ kvs k b, Rd H a (.dT kvs) ∧ y = .ref b ∧ H b = some (.tup (k.map kV)) ∧ r = valV kvs k
noncomputable def DPut (H : Hp) (a : Addr) (y v : V) (H' : Hp) : Prop :=
  (∃ kvs k, H a = some (.dK kvs) ∧ y = kV k ∧ kvs.length < sizeLine ∧ H' = upd H a (.dK (putK kvs k v))) ∨
  ∃ kvs k b, H a = some (.dT kvs) ∧ y = .ref b ∧ H b = some (.tup (k.map kV)) ∧ kvs.length < sizeLine ∧ H' = upd H a (.dT (putK kvs k v))
theorem DGet.k {H : Hp} {a : Addr} {kvs : List (Key × V)} {k : Key} (e : H a = some (.dK kvs)) : DGet H a (kV k) (valV kvs k) := .inl ⟨kvs, k, .inl e, rfl, rfl⟩
theorem DGet.t {H : Hp} {a b : Addr} {kvs : List (List Key × V)} {k : List Key} (e : H a = some (.dT kvs)) (eb : H b = some (.tup (k.map kV))) : DGet H a (.ref b) (valV kvs k) := .inr ⟨kvs, k, b, .inl e, rfl, eb, rfl⟩
theorem DPut.k {H : Hp} {a : Addr} {kvs : List (Key × V)} {k : Key} {v : V} (e : H a = some (.dK kvs)) (hl : kvs.length < sizeLine) : DPut H a (kV k) v (upd H a (.dK (putK kvs k v))) := .inl ⟨kvs, k, e, rfl, hl, rfl⟩
theorem DPut.t {H : Hp} {a b : Addr} {kvs : List (List Key × V)} {k : List Key} {v : V} (e : H a = some (.dT kvs)) (eb : H b = some (.tup (k.map kV))) (hl : kvs.length < sizeLine) :
    DPut H a (.ref b) v (upd H a (.dT (putK kvs k v))) := .inr ⟨kvs, k, b, e, rfl, eb, hl, rfl⟩
section
variable {X : Cx} {pins : List (Addr × Obj)} {σ : St} {H : Hp} {s : Shared} {a : Addr} {y v : V} {u r : Value} {o : Option V} {A : Around} {E : Value → Shared → Prop}
end
section
variable {X : Cx} {pins : List (Addr × Obj)} {σ : St} {H : Hp} {s : Shared} {a : Addr} {kvs : List (Key × V)} {k : Key} {u : Value} {A : Around} {E : Value → Shared → Prop}
end
section
variable {X : Cx} {o i e value : Expr} {pos pos' tpos : Pos} {td ty tv : TE}
end
section
variable {X : Cx} {pos : Pos}
end
structure M1 (X : Cx) (o : Expr) (m : Str) (apos : Pos) (e : Expr) (cpos : Pos) : Prop where
  base : attributeBase o m X.env (eval o X.env) = eval o X.env
  few : ((backTo cpos (starEach [e] X.env)).all (fun x => !x.1) && (backToKw cpos (keywordEach [] X.env)).all (fun x => x.1.isSome)
    && decide (([e] : List Expr).length + ([] : List Keyword).length + (if ([] : List Keyword).isEmpty then 0 else 1) < 30)) = true
  line : (apos.endLine == cpos.line) = true
  trees : backTo cpos (starEach [e] X.env) = [(false, eval e X.env)]
structure M2 (X : Cx) (o : Expr) (m : Str) (apos : Pos) (e f : Expr) (cpos : Pos) : Prop where
  base : attributeBase o m X.env (eval o X.env) = eval o X.env
  few : ((backTo cpos (starEach [e, f] X.env)).all (fun x => !x.1) && (backToKw cpos (keywordEach [] X.env)).all (fun x => x.1.isSome)
    && decide (([e, f] : List Expr).length + ([] : List Keyword).length + (if ([] : List Keyword).isEmpty then 0 else 1) < 30)) = true
  line : (apos.endLine == cpos.line) = true
  trees : backTo cpos (starEach [e, f] X.env) = [(false, eval e X.env), (false, eval f X.env)]
section
variable {X : Cx} {pins : List (Addr × Obj)} {σ : St} {H : Hp} {s : Shared} {a : Addr} {y d : V} {u r : Value} {o : Option V} {A : Around} {E : Value → Shared → Prop}
end
section
variable {X : Cx} {o e f : Expr} {apos cpos : Pos} {td ty tx : TE}
end
section
variable {X : Cx} {pins : List (Addr × Obj)} {σ : St} {H : Hp} {s : Shared} {a : Addr} {kvs : List (Key × V)} {A : Around} {E : Value → Shared → Prop}
end
section
variable {X : Cx} {pins : List (Addr × Obj)} {σ : St} {H : Hp} {s : Shared} {a : Addr} {y : V} {u : Value} {A : Around} {E : Value → Shared → Prop}
end
end L2
namespace P2
open PySem L2
section
variable {κ : Type} [DecidableEq κ] {K : PySem.W.Frag} {al : Addr → Prop} {lo : Lo} {H : Hp}
noncomputable def valZ (kvs : List (κ × Z)) (k : κ) : Option Z := (kvs.find? fun kv => decide (kv.1 = k)).map (·.2)
noncomputable def putZ (kvs : List (κ × Z)) (k : κ) (v : Z) : List (κ × Z) :=
  if (kvs.any fun kv => decide (kv.1 = k)) = true then kvs.map fun kv => if kv.1 = k then (kv.1, v) else kv else kvs ++ [(k, v)]
theorem RepK.val {us : List (κ × V)} {zs : List (κ × Z)} (r : RepK K al lo H us zs) {k : κ} {z : Z} (h : valZ zs k = some z) : ∃ v, valV us k = some v ∧ RepZ K al lo H v z := by
  induction r with
  | nil => cases h
  | @cons k' v z' vs zs a _ ih =>
    unfold valZ at h
    unfold valV
    rw [List.find?_cons] at h ⊢
    by_cases e : k' = k
    · simp only [e, decide_true] at h ⊢
      cases h
      exact ⟨v, rfl, a⟩
    · simp only [e, decide_false] at h ⊢
      exact ih h
theorem RepK.none {us : List (κ × V)} {zs : List (κ × Z)} (r : RepK K al lo H us zs) {k : κ} (h : valZ zs k = Option.none) : valV us k = Option.none := by
  induction r with
  | nil => rfl
  | @cons k' v z' vs zs a _ ih =>
    unfold valZ at h
    unfold valV
    rw [List.find?_cons] at h ⊢
    by_cases e : k' = k
    · simp only [e, decide_true] at h
      cases h
    · simp only [e, decide_false] at h ⊢
      exact ih h
theorem RepK.length {us : List (κ × V)} {zs : List (κ × Z)} (r : RepK K al lo H us zs) : us.length = zs.length := by
  induction r with
  | nil => rfl
  | cons _ _ ih => rw [List.length_cons, List.length_cons, ih]
theorem RepK.any {us : List (κ × V)} {zs : List (κ × Z)} (r : RepK K al lo H us zs) (k : κ) : (us.any fun kv => decide (kv.1 = k)) = zs.any fun kv => decide (kv.1 = k) := by
  induction r with
  | nil => rfl
  | cons _ _ ih => rw [List.any_cons, List.any_cons, ih]
theorem RepK.put {us : List (κ × V)} {zs : List (κ × Z)} (r : RepK K al lo H us zs) (k : κ) {v : V} {z : Z} (q : RepZ K al lo H v z) : RepK K al lo H (putK us k v) (putZ zs k z) := by
  unfold putK putZ
  rw [r.any k]
  split
  · rename_i hh
    clear hh
    induction r with
    | nil => exact .nil
    | @cons k' v' z' vs zs a _ ih =>
      rw [List.map_cons, List.map_cons]
      by_cases e : k' = k
      · simp only [e, if_true]
        exact .cons q ih
      · simp only [e, if_false]
        exact .cons a ih
  · rename_i hh
    clear hh
    induction r with
    | nil => exact .cons q .nil
    | cons a _ ih => exact .cons a ih
end
noncomputable def keyZ : D → Option Key
  | .int i => some (.inl i)
  | .str x => some (.inr x)
  | _ => none
theorem keyZ_rep {K : PySem.W.Frag} {al : Addr → Prop} {H : Hp} {v : V} {d : D} {k : Key} (r : Rep K al H v d) (h : keyZ d = some k) : v = kV k := by
  cases r with
  | int i => cases h; rfl
  | str i => cases h; rfl
  | _ => cases h
section
variable {X : Cx} {E : XK} {b : Nat} {o k e : Expr} {fo f : ZEv → Sto → RX Z} {fk : Ev → R D} {pos : Pos}
end
theorem RepK.zip {K : PySem.W.Frag} {al : Addr → Prop} {lo : Lo} {H : Hp} {ks : List Key} {vs : List V} {zs : List Z} (r : RepZs K al lo H vs zs) : RepK K al lo H (ks.zip vs) (ks.zip zs) := by
  induction r generalizing ks with
  | nil => rw [List.zip_nil_right, List.zip_nil_right]; exact .nil
  | cons a _ ih =>
    cases ks with
    | nil => exact .nil
    | cons k ks => exact .cons a ih
section
variable {X : Cx} {E : XK} {b : Nat} {e : Expr} {f : ZEv → Sto → RX Z} {fs : ZEv → Sto → RX (List Z)} {pos : Pos} {ks : List Key} {keys : List (Option Expr)} {es : List Expr}
end
end P2
namespace P2
open PySem L2
section
variable {P : Program} {w : World} {K : PySem.W.Frag} {mg : Str → Option Value} {base : Heap} {f : Addr} {fd : FuncData} {x : Str} {ps : List Str}
theorem fn_badD {k : Nat} : FnOk P w K mg base (CXx P w) k f fd ps (spD ps.length K fun _ => .bad) :=
  ⟨fun vs H Q E h => h.1, fun A outer s H args us vs Q E _ _ _ _ h => by obtain ⟨_, _, _, _, _, _, h⟩ := h; exact h.elim⟩
noncomputable def fixD (F0 : (List D → R D) → List D → R D) : Nat → List D → R D
  | 0 => fun _ => .bad
  | m + 1 => F0 (fixD F0 m)
theorem rec_D {k0 st n : Nat} {F0 : (List D → R D) → List D → R D} (hn : n = ps.length)
    (hHas : ∀ {k : Nat} {sp : Sp}, FnOk P w K mg base (CXx P w) k f fd ps sp → Has P w K mg base (CXx P w) k x ps sp)
    (step : ∀ (Fs : List D → R D) (k : Nat), k0 ≤ k → Has P w K mg base (CXx P w) k x ps (spD n K Fs) → FnOk P w K mg base (CXx P w) (k + st) f fd ps (spD n K (F0 Fs))) : ∀ m : Nat, FnOk P w K mg base (CXx P w) (k0 + m * st) f fd ps (spD n K (fixD F0 m))
  | 0 => by subst hn; exact fn_badD
  | m + 1 => by
    have := step (fixD F0 m) (k0 + m * st) (Nat.le_add_right _ _) (hHas (rec_D hn hHas step m))
    rw [Nat.succ_mul, ← Nat.add_assoc]
    exact this
end
section
variable {X : Cx} {E : XK}
end
end P2
namespace P2
open PySem L2
section
variable {K : PySem.W.Frag} {al : Addr → Prop} {lo : Lo} {H : Hp}
theorem RepK.look {us : List (Str × V)} {zs : List (Str × Z)} (r : RepK K al lo H us zs) {f : Str} {z : Z} (h : zs.lookup f = some z) : ∃ v, us.lookup f = some v ∧ RepZ K al lo H v z := by
  induction r with
  | nil => cases h
  | @cons k v z' vs zs' q _ ih =>
    rw [List.lookup_cons] at h ⊢
    cases e : f == k with
    | true => rw [e] at h; cases h; exact ⟨v, rfl, q⟩
    | false => rw [e] at h; exact ih h
end
noncomputable def HasM (P : Program) (w : World) (K : PySem.W.Frag) (mg : Str → Option Value) (base : Heap) (k : Nat) (C : Addr) (m : Str) (ps : List Str) (dz : List D) (sp : Sp) : Prop :=
  ∃ (f : Addr) (fd : FuncData) (ds : List Value) (dvs : List V), FnOk P w K mg base (CXx P w) k f fd ps sp ∧ Binds K fd ps ds ∧ Vals dvs ds ∧ (∀ al H, Reps K al H dvs dz) ∧ Meth K C m f
theorem HasM.up {P : Program} {w : World} {K : PySem.W.Frag} {mg : Str → Option Value} {base : Heap} {j k : Nat} {C : Addr} {m : Str} {ps : List Str} {dz : List D} {sp : Sp} (G : HasM P w K mg base j C m ps dz sp) (h : j ≤ k) : HasM P w K mg base k C m ps dz sp :=
  let ⟨f, fd, ds, dvs, fo, r⟩ := G; ⟨f, fd, ds, dvs, fo.mono h, r⟩
noncomputable def HasI (P : Program) (w : World) (K : PySem.W.Frag) (mg : Str → Option Value) (base : Heap) (k : Nat) (C : Addr) (ps : List Str) (sp : Sp) : Prop :=
  ∃ (f : Addr) (fd : FuncData), FnOk P w K mg base (CXx P w) k f fd ps sp ∧ Binds K fd ps [] ∧ Mk K C f
theorem HasI.up {P : Program} {w : World} {K : PySem.W.Frag} {mg : Str → Option Value} {base : Heap} {j k : Nat} {C : Addr} {ps : List Str} {sp : Sp} (G : HasI P w K mg base j C ps sp) (h : j ≤ k) : HasI P w K mg base k C ps sp :=
  let ⟨f, fd, fo, r⟩ := G; ⟨f, fd, fo.mono h, r⟩
section
variable {X : Cx} {E : XK} {b : Nat} {o e value : Expr} {es : List Expr} {pos p apos pos' tpos : Pos} {fo fv : ZEv → Sto → RX Z} {fs : ZEv → Sto → RX (List Z)} {f m x : Str} {C : Addr} {k n : Nat} {ps : List Str} {dz : List D} {F : List Z → Sto → RX Z}
end
structure FunD (K : PySem.W.Frag) (x qual : Str) (st : Stmt) (dV : Value) (f : Addr) (fd : FuncData) : Prop where
  ex : ∃ (oc : Value) (od : Option Addr) (kV doc pm : Value) (an : Option Addr) (cdv ct : Value) (osl : Array (Option Value)),
    fd = PySem.W.fnOf x qual (defArgs st) (defBody st) (defScope st) dV kV doc pm an cdv ct ∧ K.lookup f = some ⟨oc, od, .func fd, osl⟩ ∧ PySem.W.codeIn K cdv qual = true
  kp : PySem.W.keepIn K (.ref f) = true
section
variable {P : Program} {w : World} {K : PySem.W.Frag} {mg : Str → Option Value} {base : Heap}
theorem FunD.binds {x qual : Str} {st : Stmt} {dV : Value} {f : Addr} {fd : FuncData} {ps : List Str} (F : FunD K x qual st dV f fd)
    (h : ∀ (kV doc pm : Value) (an : Option Addr) (cdv ct : Value) (us : List Value), us.length = ps.length → bindArgs (PySem.W.fnOf x qual (defArgs st) (defBody st) (defScope st) dV kV doc pm an cdv ct) ⟨us, []⟩ = pure (ps.zip us)) : Binds K fd ps [] := by
  obtain ⟨oc, od, kV, doc, pm, an, cdv, ct, osl, rfl, lk, hcd⟩ := F.ex
  exact .all (h kV doc pm an cdv ct)
end
end P2
namespace P2
open PySem L2
section
variable {X : Cx} {E : XK}
end
end P2
namespace P2
open PySem L2
noncomputable def keysZ : List D → Option (List Key)
  | [] => some []
  | d :: r => (keyZ d).bind fun k => (keysZ r).map (k :: ·)
theorem keysZ_rep {K : PySem.W.Frag} {al : Addr → Prop} {H : Hp} : ∀ {vs : List V} {ds : List D} {ks : List Key}, Reps K al H vs ds → keysZ ds = some ks → vs = ks.map kV
  | _, _, _, .nil, h => by cases h; rfl
  | _, _, _, .cons r q, h => by
    obtain ⟨k, h1, h2⟩ := Option.bind_eq_some_iff.mp h
    obtain ⟨ks, h3, rfl⟩ := Option.map_eq_some_iff.mp h2
    rw [keyZ_rep r h1, keysZ_rep q h3]
    rfl
section
variable {X : Cx} {E : XK} {b : Nat} {o k e : Expr} {es : List Expr} {fo fk f : ZEv → Sto → RX Z} {fs : ZEv → Sto → RX (List Z)} {pos : Pos}
theorem RepK.isSome {K : PySem.W.Frag} {al : Addr → Prop} {lo : Lo} {H : Hp} {us : List (List Key × V)} {zs : List (List Key × Z)} (r : RepK K al lo H us zs) (k : List Key) : (valV us k).isSome = (valZ zs k).isSome := by
  cases e : valZ zs k with
  | none => rw [r.none e]; rfl
  | some z => obtain ⟨v, e1, _⟩ := r.val e; rw [e1]; rfl
end
end P2
namespace P2
open PySem L2
noncomputable def wZE (K : PySem.W.Frag) (f : ZEv → Sto → RX Z) : TE := fun σ H Q => ∃ B al lo ρ S, RZ K B al lo H σ ρ S ∧ AftZ K B (fun _ _ _ => False) al lo H σ ρ (f ρ S) (fun z al' lo' H' _ => ∀ v, RepZ K al' lo' H' v z → Q v H')
noncomputable def wZT (K : PySem.W.Frag) (f : ZEv → Sto → RX Bool) : TT := fun σ H Q => ∃ B al lo ρ S, RZ K B al lo H σ ρ S ∧ AftZ K B (fun _ _ _ => False) al lo H σ ρ (f ρ S) (fun b _ _ H' _ => Q b H')
theorem ZE.w {X : Cx} {e : Expr} {f : ZEv → Sto → RX Z} (h : ZE X (fun _ _ _ => False) e f) : PE X e (wZE X.K f) := by
  obtain ⟨t, p, r⟩ := h
  intro pins s σ H Q I hq
  obtain ⟨B, al, lo, ρ, S, s1, a⟩ := hq
  exact p pins s σ H Q I (r B al lo H σ ρ S Q s1 a)
theorem ZT.w {X : Cx} {e : Expr} {f : ZEv → Sto → RX Bool} (h : ZT X (fun _ _ _ => False) e f) : PT X e (wZT X.K f) := by
  obtain ⟨t, p, r⟩ := h
  intro pins s σ H Q I hq
  obtain ⟨B, al, lo, ρ, S, s1, a⟩ := hq
  exact p pins s σ H Q I (r B al lo H σ ρ S Q s1 a)
section
variable {X : Cx} {E : XK} {tg e : Expr} {f : ZEv → Sto → RX Z}
end
section
variable {X : Cx} {E : XK} {iter elt : Expr} {ifs : List Expr} {scope : Scope} {pos p0 : Pos} {fi : ZEv → Sto → RX (List D)} {fc : ZEv → Sto → RX Bool} {fe : ZEv → Sto → RX Z} {cl : List (Str × Addr)} {Nc : List Str} {ci : List Nat} {x : Str}
end
section
variable {X : Cx} {E : XK} {e : Expr} {f : ZEv → Sto → RX Z}
end
end P2
namespace P2
open PySem L2 PySem.Spec PySem.Calls PySem.W
open PyProof.Rows hiding St K
noncomputable def RawD (h : Heap) (d : Addr) (es : Array DictEntry) (ep : Nat) : Prop := ∃ o, h.get? d = some o ∧ o.ExactDict ∧ o.data = .dict es ep
theorem RawD.at' {h h' : Heap} {d : Addr} {es : Array DictEntry} {ep : Nat} (x : RawD h d es ep) (e : ∀ o, h.get? d = some o → h'.get? d = some o) : RawD h' d es ep := let ⟨o, ho, r⟩ := x; ⟨o, e _ ho, r⟩
theorem RawD.lt {h : Heap} {d : Addr} {es : Array DictEntry} {ep : Nat} (x : RawD h d es ep) : d < h.objs.size := let ⟨_, ho, _⟩ := x; Heap.lt_size ho
theorem RawD.typeIs {s : Shared} {d : Addr} {es : Array DictEntry} {ep : Nat} (x : RawD s.heap d es ep) : s.TypeIs (.ref d) "dict" := let ⟨o, ho, hc, _⟩ := x; ⟨o, ho, hc.1⟩
section
variable {prog : Program} {w : World} {A : Around} {E : Value → Shared → Prop} {s : Shared} {it d : Addr} {i ep : Nat} {es : Array DictEntry}
end
end P2
namespace P2
open PySem L2 PySem.Spec PySem.Calls PySem.W
open PyProof.Rows hiding St K
noncomputable def kD : Key → D
  | .inl i => .int i
  | .inr x => .str x
theorem reps_kD {K : PySem.W.Frag} {al : Addr → Prop} {H : Hp} : ∀ k : List Key, Reps K al H (k.map kV) (k.map kD)
  | [] => .nil
  | .inl i :: r => .cons (.int i) (reps_kD r)
  | .inr x :: r => .cons (.str x) (reps_kD r)
section
variable {X : Cx} {E : XK} {e o k : Expr} {ta td ty : TE} {p1 pos : Pos}
end
section
variable {X : Cx} {E : XK} {b : Nat} {o k e a c : Expr} {rest : List Expr} {fo fk f fa fb : ZEv → Sto → RX Z} {pos p1 : Pos}
theorem RepK.keys {κ : Type} {K : PySem.W.Frag} {al : Addr → Prop} {lo : Lo} {H : Hp} {us : List (κ × V)} {zs : List (κ × Z)} (r : RepK K al lo H us zs) : us.map Prod.fst = zs.map Prod.fst := by
  induction r with
  | nil => rfl
  | cons a _ ih => rw [List.map_cons, List.map_cons, ih]
end
section
variable {prog : Program} {w : World} {A : Around} {E : Value → Shared → Prop} {s : Shared}
end
end P2
namespace P2
open PySem
noncomputable def Ris (xs : Array Nat) : Prop := xs.toList.Pairwise (· < ·)
theorem Ris.lt {xs : Array Nat} (h : Ris xs) {i j : Nat} (hij : i < j) (hj : j < xs.size) : xs[i] < xs[j] := by
  have := List.pairwise_iff_getElem.mp h i j (by simpa using Nat.lt_trans hij hj) (by simpa using hj) hij
  simpa using this
theorem below_go (xs : Array Nat) (j : Nat) (h : Ris xs) : ∀ (fuel lo hi : Nat), lo ≤ hi → hi ≤ xs.size → hi - lo ≤ fuel → (∀ i, (hi' : i < xs.size) → i < lo → xs[i] < j) → (∀ i, (hi' : i < xs.size) → hi ≤ i → j ≤ xs[i]) →
    SetTable.below.go xs j fuel lo hi ≤ xs.size ∧ (∀ i, (hi' : i < xs.size) → i < SetTable.below.go xs j fuel lo hi → xs[i] < j) ∧ ∀ i, (hi' : i < xs.size) → SetTable.below.go xs j fuel lo hi ≤ i → j ≤ xs[i]
  | 0, lo, hi, h1, h2, h3, h4, h5 => by
    have e : lo = hi := by omega
    subst e
    show lo ≤ xs.size ∧ _
    exact ⟨h2, h4, h5⟩
  | fuel + 1, lo, hi, h1, h2, h3, h4, h5 => by
    unfold SetTable.below.go
    by_cases hl : lo < hi
    · rw [if_pos hl]
      have hm : (lo + hi) / 2 < xs.size := by omega
      have eg : xs.getD ((lo + hi) / 2) j = xs[(lo + hi) / 2] := by simp [Array.getD, hm]
      dsimp only
      rw [eg]
      by_cases hx : xs[(lo + hi) / 2] < j
      · rw [if_pos hx]
        refine below_go xs j h fuel _ hi (by omega) h2 (by omega) (fun i hi' hlt => ?_) h5
        by_cases e : i = (lo + hi) / 2
        · subst e; exact hx
        · exact Nat.lt_trans (h.lt (show i < (lo + hi) / 2 by omega) hm) hx
      · rw [if_neg hx]
        refine below_go xs j h fuel lo _ (by omega) (by omega) (by omega) h4 fun i hi' hle => ?_
        by_cases e : i = (lo + hi) / 2
        · subst e; omega
        · have := h.lt (show (lo + hi) / 2 < i by omega) hi'
          omega
    · rw [if_neg hl]
      have e : lo = hi := by omega
      subst e
      exact ⟨h2, h4, h5⟩
theorem below_ok {xs : Array Nat} (h : Ris xs) (j : Nat) : SetTable.below xs j ≤ xs.size ∧ (∀ i, (hi' : i < xs.size) → i < SetTable.below xs j → xs[i] < j) ∧ ∀ i, (hi' : i < xs.size) → SetTable.below xs j ≤ i → j ≤ xs[i] :=
  below_go xs j h xs.size 0 xs.size (Nat.zero_le _) (Nat.le_refl _) (Nat.le_refl _) (fun i _ h => absurd h (Nat.not_lt_zero _)) fun i hi' h => absurd hi' (Nat.not_lt.mpr h)
theorem below_next {xs : Array Nat} (h : Ris xs) {i : Nat} (hi : i < xs.size) : SetTable.below xs (xs[i] + 1) = i + 1 := by
  obtain ⟨h1, h2, h3⟩ := below_ok h (xs[i] + 1)
  generalize SetTable.below xs (xs[i] + 1) = b at *
  rcases Nat.lt_trichotomy b (i + 1) with q | q | q
  · have := h3 i hi (by omega); omega
  · exact q
  · have hb : i + 1 < xs.size := by omega
    have h4 := h2 (i + 1) hb q
    have h5 : xs[i] < xs[i + 1] := h.lt (show i < i + 1 by omega) hb
    omega
theorem below_zero {xs : Array Nat} (h : Ris xs) : SetTable.below xs 0 = 0 := by
  obtain ⟨h1, h2, h3⟩ := below_ok h 0
  generalize SetTable.below xs 0 = b at *
  cases b with
  | zero => rfl
  | succ b => exact absurd (h2 0 (by omega) (by omega)) (Nat.not_lt_zero _)
theorem ris_put {xs : Array Nat} (h : Ris xs) {j : Nat} (hj : xs[SetTable.below xs j]? ≠ some j) : Ris (SetTable.insertAt xs (SetTable.below xs j) j) := by
  obtain ⟨h1, h2, h3⟩ := below_ok h j
  generalize hb : SetTable.below xs j = b at *
  have l2 : ∀ i, (hi' : i < xs.size) → b ≤ i → j < xs[i] := fun i hi' hle => by
    rcases Nat.lt_or_ge j xs[i] with q | q
    · exact q
    · have e0 := h3 b (by omega) (Nat.le_refl _)
      have : xs[b] ≤ xs[i] := by
        by_cases e : b = i
        · subst e; exact Nat.le_refl _
        · exact Nat.le_of_lt (h.lt (show b < i by omega) hi')
      exact absurd (by rw [Array.getElem?_eq_getElem (show b < xs.size by omega)]; exact congrArg some (by omega)) hj
  unfold Ris
  have e : (SetTable.insertAt xs b j).toList = xs.toList.take b ++ j :: xs.toList.drop b := by
    unfold SetTable.insertAt
    simp [Array.toList_extract]
    exact List.take_of_length_le (by rw [List.length_drop, Array.length_toList]; exact Nat.le_refl _)
  rw [e]
  refine List.pairwise_append.mpr ⟨List.Pairwise.sublist (List.take_sublist _ _) h, List.pairwise_cons.mpr ⟨fun y hy => ?_, List.Pairwise.sublist (List.drop_sublist _ _) h⟩, fun x hx y hy => ?_⟩
  · obtain ⟨i, hi, rfl⟩ := List.getElem_of_mem hy
    rw [List.getElem_drop]
    rw [List.length_drop, Array.length_toList] at hi
    simpa using l2 (b + i) (by omega) (by omega)
  · obtain ⟨i, hi, rfl⟩ := List.getElem_of_mem hx
    rw [List.length_take, Array.length_toList] at hi
    have x1 := h2 i (by omega) (by omega)
    rw [List.getElem_take]
    rcases List.mem_cons.mp hy with rfl | hy
    · simpa using x1
    · obtain ⟨k, hk, rfl⟩ := List.getElem_of_mem hy
      rw [List.getElem_drop]
      rw [List.length_drop, Array.length_toList] at hk
      have := l2 (b + k) (by omega) (by omega)
      have q : xs[i] < xs[b + k] := by omega
      simpa using q
structure TOk (bt : Bool) (t : SetTable) : Prop where
  led : t.led = !bt
  ris : t.plain = true → Ris t.place
  dum : t.plain = true → t.dummies = #[]
theorem tok_fresh (bt : Bool) : TOk bt (.fresh 0 0 (!bt)) := ⟨rfl, fun _ => by unfold Ris; exact .nil, fun _ => rfl⟩
theorem tok_standIn {bt : Bool} {t : SetTable} (h : TOk bt t) (n : Nat) : TOk bt (t.standIn n) := ⟨h.led, fun w => (by cases w), fun w => (by cases w)⟩
theorem tok_orStandIn {bt : Bool} {t : SetTable} (h : TOk bt t) (n : Nat) : TOk bt (t.orStandIn n) := by
  unfold SetTable.orStandIn
  split
  · exact h
  · exact tok_standIn h n
theorem probe_empty {t : SetTable} (hd : t.dummies = #[]) {f : Nat → Int} {h : Int} : ∀ (fuel : Nat) (p : SetTable.Probe) (j : Nat) (d : Option Nat), p.dummy = none → SetTable.probe.go t f h fuel p = some (.empty j d) → d = none ∧ t.slot j = .empty
  | 0, p, j, d, _, e => by cases e
  | fuel + 1, p, j, d, hp, e => by
    unfold SetTable.probe.go at e
    cases q : t.slot p.j with
    | empty => rw [q] at e; cases e; exact ⟨hp, q⟩
    | dummy =>
      exfalso
      unfold SetTable.slot at q
      dsimp only at q
      split at q
      · cases q
      · rw [hd] at q
        have : SetTable.has #[] p.j = false := rfl
        rw [this] at q
        cases q
    | live i =>
      rw [q] at e
      dsimp only at e
      split at e
      · cases e
      · refine probe_empty hd fuel (t.advance p) j d ?_ e
        unfold SetTable.advance
        split <;> exact hp
theorem tok_layNew {bt : Bool} {t : SetTable} (h : TOk bt t) (es : Array (Int × Value)) (hs : Int) (x : Value) : TOk bt (layNew t es hs x).2.1 := by
  unfold layNew
  cases e : t.freeSlot hs with
  | none => exact tok_standIn h _
  | some r =>
    obtain ⟨slot, wd⟩ := r
    dsimp only
    refine tok_orStandIn (t := (t.put slot).1) ⟨h.led, fun w => ?_, fun w => ?_⟩ _
    · have hd := h.dum w
      unfold SetTable.freeSlot at e
      split at e
      · rename_i j d q
        obtain ⟨rfl, q2⟩ := probe_empty hd _ _ _ _ rfl q
        cases e
        refine ris_put (h.ris w) fun w2 => ?_
        unfold SetTable.slot at q2
        dsimp only at q2
        rw [show (none : Option Nat).getD j = j from rfl] at w2
        rw [w2] at q2
        simp at q2
      · cases e
    · show (if SetTable.has t.dummies slot then SetTable.eraseAt t.dummies (SetTable.below t.dummies slot) else t.dummies) = #[]
      have hd := h.dum w
      rw [hd]
      rfl
theorem tok_relayAll {bt : Bool} {t : SetTable} (h : TOk bt t) (es : Array (Int × Value)) (n : Nat) : TOk bt (relayAll t es n).2.1 := by
  unfold relayAll
  cases e : t.relaid (es.map (·.1)) n with
  | none => exact tok_standIn h _
  | some r =>
    obtain ⟨t', order⟩ := r
    dsimp only
    split
    · unfold SetTable.relaid SetTable.laid at e
      cases q : SetTable.layClean (SetTable.sizeAbove n - 1) (es.map (·.1)) with
      | none => rw [q] at e; cases e
      | some owner =>
        rw [q] at e
        cases e
        refine ⟨h.led, fun _ => ?_, fun _ => rfl⟩
        unfold Ris
        show ((List.map _ (List.filterMap _ (List.range _))).toArray).toList.Pairwise _
        rw [List.toList_toArray, List.map_filterMap]
        have sub : ∀ (l : List Nat) (g : Nat → Option Nat), (∀ j k, g j = some k → k = j) → (l.filterMap g).Sublist l := fun l g hg => by
          induction l with
          | nil => exact .slnil
          | cons a l ih =>
            rw [List.filterMap_cons]
            cases q : g a with
            | none => exact ih.cons _
            | some k => rw [hg a k q]; exact ih.cons₂ _
        refine List.Pairwise.sublist (sub _ _ fun j k w => ?_) List.pairwise_lt_range
        cases z : owner.getD j none with
        | none => rw [z] at w; cases w
        | some o => rw [z] at w; cases w; rfl
    · exact tok_standIn h _
end P2
namespace P2
open PySem L2 PySem.Spec PySem.Calls PySem.W
open PyProof.Rows hiding St K
noncomputable def vK : Value → Key
  | .int i _ => .inl i
  | .str x _ => .inr x
  | _ => .inl 0
noncomputable def FlatK (v : Value) : Prop := RelV (kV (vK v)) v
theorem vK_of {k : Key} {v : Value} (h : RelV (kV k) v) : vK v = k := by
  cases k with
  | inl i => obtain ⟨t, rfl⟩ := (show ∃ t, v = Value.int i t from h); rfl
  | inr x => obtain ⟨t, rfl⟩ := (show ∃ t, v = Value.str x t from h); rfl
theorem flat_of {k : Key} {v : Value} (h : RelV (kV k) v) : FlatK v := by unfold FlatK; rw [vK_of h]; exact h
theorem scan_of {k : Key} {v : Value} (h : RelV (kV k) v) : v.scannable = true := by
  cases k with
  | inl i => obtain ⟨t, rfl⟩ := (show ∃ t, v = Value.int i t from h); rfl
  | inr x => obtain ⟨t, rfl⟩ := (show ∃ t, v = Value.str x t from h); rfl
noncomputable def ElK (P : Program) (w : World) (es : List (Int × Value)) : Prop := ∀ e ∈ es, FlatK e.2 ∧ e.1 = (mixKind P w).hash (vK e.2)
theorem ElK.elems {P : Program} {w : World} {es : List (Int × Value)} (h : ElK P w es) : ElemsOf (mixKind P w) es := fun e he => ⟨⟨vK e.2, kV_is (h e he).1, (h e he).2⟩, scan_of (h e he).1⟩
noncomputable def keysE (es : List (Int × Value)) : List Key := es.map fun e => vK e.2
noncomputable def SetV (P : Program) (w : World) (h : Heap) (a : Addr) (ks : List Key) (n : Nat) : Prop :=
  ∃ o es ep t, h.get? a = some o ∧ o.ExactSet ∧ o.data = .set es ep t ∧ ElK P w es.toList ∧ es.size ≤ n ∧ t.fits es.size = true ∧ TOk (w.params.followText "set-order") t ∧ (keysE es.toList).Nodup ∧ ∀ k, k ∈ keysE es.toList ↔ k ∈ ks
theorem SetV.keep {P : Program} {w : World} {h h' : Heap} {a : Addr} {ks : List Key} {n : Nat} (x : SetV P w h a ks n) (k : ∀ o, h.get? a = some o → h'.get? a = some o) : SetV P w h' a ks n := let ⟨o, es, ep, t, ho, r⟩ := x; ⟨o, es, ep, t, k o ho, r⟩
section
variable {prog : Program} {w : World} {A : Around} {E : Value → Shared → Prop} {s : Shared}
theorem add_V {a : Addr} {ks : List Key} {n : Nat} {k : Key} {x : Value} {Q : Bool → Shared → Prop} (hx : RelV (kV k) x) (hS : SetV prog w s.heap a ks n) (hroom : n + 1 < scanBound)
    (h : ∀ (b : Bool) (h' : Heap), Heap.SameBut a s.heap h' → SetV prog w h' a (k :: ks) (n + 1) → Q b { s with heap := h' }) :
    wpAny (model prog w) A (setAddHashed a x ((mixKind prog w).hash k)) Q E s := by
  obtain ⟨o, es, ep, t, ho, hex, hd, hel0, hn, hf, tok, nod, hmem⟩ := hS
  have hel := hel0.elems
  have hkey : (mixKind prog w).is k x = true := kV_is hx
  have hsc := scan_of hx
  have hb : es.size < scanBound := by omega
  unfold setAddHashed setAddHashedIn
  refine wpAny_holding (wpAny_bind (wpAny_setState_of ho hd hf ?_))
  dsimp only
  rw [byScan_of hsc hb hel]
  simp only [↓reduceIte]
  unfold setAddByScan
  refine wpAny_bind ?_
  refine wpAny_bind (wpAny_rule ?_)
  refine wpAny_bind (wpAny_setScan_of hkey ho hd hf hel ?_)
  cases hr : List.findIdx? (fun e => (mixKind prog w).is k e.2) es.toList with
  | some j =>
    dsimp only
    obtain ⟨hj, hpj, _⟩ := List.findIdx?_eq_some_iff_getElem.mp hr
    refine wpAny_pure (wpAny_pure ?_)
    have e : s = { s with heap := s.heap } := by cases s; rfl
    have hin : k ∈ keysE es.toList := by
      have h1 := (hel0 es.toList[j] (List.getElem_mem hj)).1
      have h2 := (mixKind prog w).inj _ _ _ hpj (kV_is h1)
      rw [h2]
      exact List.mem_map.mpr ⟨_, List.getElem_mem hj, rfl⟩
    have := h false s.heap (Heap.SameBut.refl a s.heap) ⟨o, es, ep, t, ho, hex, hd, hel0, by omega, hf, tok, nod, fun k' => by
      rw [hmem k', List.mem_cons]
      exact ⟨.inr, fun z => z.elim (fun z => by rw [z]; exact (hmem k).mp hin) id⟩⟩
    rw [e]; exact this
  | none =>
    dsimp only
    have hnot : k ∉ keysE es.toList := fun hk => by
      obtain ⟨e, he, ek⟩ := List.mem_map.mp hk
      have := List.findIdx?_eq_none_iff.mp hr e he
      have h1 := kV_is (P := prog) (w := w) (hel0 e he).1
      rw [ek] at h1
      rw [h1] at this
      exact Bool.noConfusion this
    have hgw : ∀ (b : Bool) {s₁ : Shared} {Q' : Unit → Shared → Prop}, Q' () s₁ → wpAny (model prog w) A (match b with | true => rule "set.scan.the-table-gave-way" | false => pure ()) Q' E s₁ :=
      fun b s₁ Q' hq => by cases b <;> first | exact wpAny_pure hq | exact wpAny_rule hq
    have hperm := layNew_perm t es ((mixKind prog w).hash k) x
    have hfits := layNew_fits t es ((mixKind prog w).hash k) x
    have htok := tok_layNew tok es ((mixKind prog w).hash k) x
    generalize hL : layNew t es ((mixKind prog w).hash k) x = L at hperm hfits htok ⊢
    obtain ⟨es1, t1, wasDummy, gave⟩ := L
    dsimp only at hperm hfits htok ⊢
    rw [Array.toList_push] at hperm
    have el1 : ElK prog w es1.toList := fun e he => by
      rcases List.mem_append.mp (hperm.mem_iff.mp he) with he | he
      · exact hel0 e he
      · rw [List.mem_singleton] at he; subst he
        exact ⟨flat_of hx, by rw [vK_of hx]⟩
    have kp : (keysE es1.toList).Perm (keysE es.toList ++ [k]) := by
      have := hperm.map fun e => vK e.2
      rw [List.map_append] at this
      rw [show [k] = List.map (fun e => vK e.2) [((mixKind prog w).hash k, x)] from by rw [List.map_cons, List.map_nil, vK_of hx]]
      exact this
    have nod1 : (keysE es1.toList).Nodup := kp.nodup_iff.mpr (List.nodup_append.mpr ⟨nod, by simp, fun y hy z hz w => hnot (by rw [List.mem_singleton] at hz; rw [← hz, ← w]; exact hy)⟩)
    have mem1 : ∀ k', k' ∈ keysE es1.toList ↔ k' ∈ k :: ks := fun k' => by
      rw [kp.mem_iff, List.mem_append, List.mem_singleton, List.mem_cons, hmem k']
      exact or_comm
    have hsz1 : es1.size = es.size + 1 := by rw [← Array.length_toList, hperm.length_eq, List.length_append, Array.length_toList]; rfl
    have hb1 : es1.size < scanBound := by omega
    refine wpAny_bind (hgw _ ?_)
    have tail : ∀ (t2 : SetTable), t2.fits es1.size = true → TOk (w.params.followText "set-order") t2 → wpAny (model prog w) A (do
        storeSet a es1 t2
        if (!wasDummy && t2.tooFull) = true then do
            (match (relayAll t2 es1 (SetTable.grown es1.size)).2.2 with | true => rule "set.scan.the-table-gave-way" | false => pure ())
            storeSet a (relayAll t2 es1 (SetTable.grown es1.size)).1 (relayAll t2 es1 (SetTable.grown es1.size)).2.1
            pure (some true)
          else pure (some true)) (fun r s' => ∃ h', s' = { s with heap := h' } ∧ r = some true ∧ Heap.SameBut a s.heap h' ∧ SetV prog w h' a (k :: ks) (n + 1)) E s := fun t2 hf2 tk2 => by
      refine wpAny_bind (wpAny_storeSet_of ho hd ?_ (fits_of_scanBound hb1))
      have ho1 : (s.heap.update a (Obj.putSet es1 t2)).get? a = some { o with data := .set es1 (ep + 1) t2 } := by
        have := Heap.get?_update_self (Obj.putSet es1 t2) ho (by rw [putSet_of es1 t2 hd]; rfl)
        rw [putSet_of es1 t2 hd] at this; exact this
      have hsb1 := Heap.SameBut.update s.heap a (Obj.putSet es1 t2)
      split
      · have hp := relayAll_perm t2 es1 (SetTable.grown es1.size)
        have hfr := relayAll_fits t2 es1 (SetTable.grown es1.size)
        have tkr := tok_relayAll tk2 es1 (SetTable.grown es1.size)
        generalize hRl : relayAll t2 es1 (SetTable.grown es1.size) = Rl at hp hfr tkr ⊢
        obtain ⟨es2, t3, gave2⟩ := Rl
        dsimp only at hp hfr tkr ⊢
        have hsz : es2.size = es1.size := by rw [← Array.length_toList, hp.length_eq, Array.length_toList]
        refine wpAny_bind (hgw _ ?_)
        refine wpAny_bind (wpAny_storeSet_of ho1 rfl ?_ (fits_of_scanBound (by rw [hsz]; exact hb1)))
        have ho2 : ((s.heap.update a (Obj.putSet es1 t2)).update a (Obj.putSet es2 t3)).get? a = some { o with data := .set es2 (ep + 1 + 1) t3 } := by
          have := Heap.get?_update_self (Obj.putSet es2 t3) ho1 (by rw [putSet_of es2 t3 rfl]; rfl)
          rw [putSet_of es2 t3 rfl] at this; exact this
        exact wpAny_pure ⟨_, rfl, rfl, hsb1.trans (Heap.SameBut.update _ a _), _, es2, _, t3, ho2, hex, rfl, fun e he => el1 e (hp.mem_iff.mp he), by omega, hfr, tkr, (hp.map fun e : Int × Value => vK e.2).nodup_iff.mpr nod1, fun k' => by rw [← mem1 k']; exact (hp.map fun e : Int × Value => vK e.2).mem_iff⟩
      · exact wpAny_pure ⟨_, rfl, rfl, hsb1, _, es1, _, t2, ho1, hex, rfl, el1, by omega, hf2, tk2, nod1, mem1⟩
    split
    · refine wpAny_bind ?_
      rw [hashByValue_scannable 8 hsc]
      refine wpAny_pure ?_
      refine wpAny_mono (tail _ ?_ ?_) (fun r s' hr => ?_) fun _ _ z => z
      · split
        · exact hfits
        · exact SetTable.fits_plain_off hfits
      · split
        · exact htok
        · exact ⟨htok.led, fun z => (by cases z), fun z => (by cases z)⟩
      · obtain ⟨h', rfl, rfl, h1, h2⟩ := hr
        exact wpAny_pure (h true h' h1 h2)
    · refine wpAny_bind (wpAny_pure ?_)
      simp only [↓reduceIte]
      refine wpAny_mono (tail _ hfits htok) (fun r s' hr => ?_) fun _ _ z => z
      obtain ⟨h', rfl, rfl, h1, h2⟩ := hr
      exact wpAny_pure (h true h' h1 h2)
end
end P2
namespace P2
open PySem L2 PySem.Spec PySem.Calls PySem.W
open PyProof.Rows hiding St K
section
variable {prog : Program} {w : World} {A : Around} {R : Result → Shared → Prop} {I : Addr} {fp wr : List Addr} {G : Array GenState → Array GenState → Prop} {n : Nat} {P : Nat → Value → Prop} {St : Nat → Shared → Prop}
theorem set_loopV (W : WalksS prog w A.in1 I fp wr G n P St) (S : Addr) (hSf : S ∉ fp)
    (val : Nat → Key) (hval : ∀ i v, P i v → RelV (kV (val i)) v) (hb : n + 1 < scanBound) :
    ∀ (k i : Nat) (s : Shared) (ks : List Key), n - i = k → i ≤ n → St i s → SetV prog w s.heap S ks i → (∀ x, x ∈ ks ↔ x ∈ (List.range i).map val) →
      (∀ s' ks', Moved (S :: wr) G s s' → SetV prog w s'.heap S ks' n → (∀ x, x ∈ ks' ↔ x ∈ (List.range n).map val) → R (.ok (.ret .none)) s') →
      codeAny (model prog w) A (.builtin "set.update.loop" ⟨[.ref S, .ref I], []⟩) R s := by
  have hSw : S ∉ wr := fun h => hSf (W.sub _ h)
  have hsub : ∀ b ∈ wr, b ∈ S :: wr := fun b hb => List.mem_cons_of_mem _ hb
  intro k
  induction k with
  | zero =>
    intro i s ks hk hi hst hS hm hR
    have hin : i = n := by omega
    subst hin
    refine codeAny_builtin PyProof.Rows.F.entry_set_update_loop ?_
    rw [Around.under_plainId PyProof.Rows.F.plain_set_update_loop _]
    show wpAny _ A.in1 (pyNext (.ref I) >>= _) _ _ s
    refine wpAny_bind (W.done s _ _ hst fun s' hmv => ?_)
    show wpAny _ A.in1 (ret Value.none) _ _ s'
    exact wpAny_pure (hR s' ks (hmv.mono hsub) (hS.keep fun o e => hmv.heap S _ hSw e) hm)
  | succ k ih =>
    intro i s ks hk hi hst hS hm hR
    have hlt : i < n := by omega
    refine codeAny_builtin PyProof.Rows.F.entry_set_update_loop ?_
    rw [Around.under_plainId PyProof.Rows.F.plain_set_update_loop _]
    show wpAny _ A.in1 (pyNext (.ref I) >>= _) _ _ s
    refine wpAny_bind (W.item i s _ _ hlt hst fun v s' hP hst' hmv => ?_)
    have hx := hval i v hP
    have hS' : SetV prog w s'.heap S ks i := hS.keep fun o e => hmv.heap S _ hSw e
    show wpAny _ A.in1 (holding [v] (setAdd S v) >>= _) _ _ s'
    refine wpAny_bind (wpAny_holding ?_)
    unfold setAdd
    refine wpAny_holding ?_
    refine wpAny_bind ((mixKind prog w).pyHash (k := val i) (kV_is hx) ?_)
    refine add_V (s := { s' with toks := s'.toks + 1 }) hx hS' (by omega) fun b h' hsb hS2 => ?_
    refine wpAny_pure ⟨plainId_quiet PyProof.Rows.F.plain_set_update_loop _, ih (i + 1) _ (val i :: ks) (by omega) hlt (W.frame _ s' _ _ hst' (Nat.le_succ _) fun b hb o e => ?_) hS2 (fun x => ?_) fun s'' ks'' hm'' hS'' hx'' => ?_⟩
    · rw [hsb.2 b (fun h : b = S => hSf (by rw [← h]; exact hb))]; exact e
    · rw [List.range_succ, List.map_append, List.mem_append, List.mem_cons, hm x]
      show x = val i ∨ _ ↔ _ ∨ x ∈ [val i]
      rw [List.mem_singleton]
      exact or_comm
    · refine hR s'' ks'' (Moved.trans W.gtrans ((hmv.mono hsub).then_heap (Nat.le_succ _) fun b o hb e => ?_) hm'') hS'' hx''
      rw [hsb.2 b (fun h : b = S => hb (by rw [h]; exact List.mem_cons_self))]; exact e
end
section
variable {prog : Program} {w : World} {A : Around} {E : Value → Shared → Prop} {s : Shared}
noncomputable abbrev newSetO (w : World) : Obj := { cls := .type "set", dict := none, data := .set #[] 0 (.fresh 0 0 (!(w.params.followText "set-order"))) }
theorem code_set_newV (a : Value) {Q₁ : Value → Shared → Prop} (h : Q₁ (.ref s.heap.objs.size) { s with heap := s.heap.push (newSetO w) }) :
    codeAny (model prog w) A (.call (.builtin "set.__new__") ⟨[.type "set", a], []⟩) (wants Q₁ E) s := by
  refine codeAny_of_tree ?_
  show wpAny _ A.in1 (do checkBuiltinCall "set.__new__" ⟨[.type "set", a], []⟩; again (.builtin "set.__new__" ⟨[.type "set", a], []⟩)) _ _ s
  refine wpAny_bind (wpAny_of_eq (PySem.F.newCall_set_1 a) (wpAny_pure ⟨plainId_quiet PySem.F.plain_set_new _, codeAny_builtin PySem.F.entry_set_new ?_⟩))
  rw [Around.under_plainId PySem.F.plain_set_new _]
  unfold Builtin.«set.__new__» Builtin.Frozenset.newClass
  have hsub := sub_set_self
  obtain ⟨hp, g, d, tk, os⟩ := s
  dsimp only
  wp_walk
  refine wpAny_askSetting (wpAny_pure ?_)
  dsimp only
  simp only [newObj]
  refine wpAny_bind (wpAny_alloc (wpAny_pure ?_))
  exact wpAny_pure h
theorem setV_new {h : Heap} {a : Addr} (e : h.get? a = some (newSetO w)) : SetV prog w h a [] 0 :=
  ⟨_, #[], 0, _, e, ⟨rfl, rfl, rfl⟩, rfl, fun e he => by simp at he, Nat.le_refl _, by rfl, tok_fresh _, by unfold keysE; exact .nil, fun k => by unfold keysE; simp⟩
theorem call_setV {l : Addr} {items : Array Value} {ks : List Key} {Q : Value → Shared → Prop} (hh : A.handled = none) (hl : s.heap.IsList l items) (hi : Vals (ks.map kV) items.toList) (hb : items.size + 1 < scanBound)
    (h : ∀ (h' : Heap) (tk : Nat) (js : List Key), SetV prog w h' s.heap.objs.size js items.size → (∀ x, x ∈ js ↔ x ∈ ks) →
      (∀ b o, b < s.heap.objs.size → s.heap.get? b = some o → h'.get? b = some o) → Q (.ref s.heap.objs.size) { s with heap := h', toks := tk }) :
    wpAny (model prog w) A (call (.type "set") [.ref l]) Q E s := by
  have hlen : items.size = ks.length := by
    have := hi.length
    rw [List.length_map, Array.length_toList] at this
    exact this.symm
  obtain ⟨c, tl, hmro⟩ := PySem.F.called_set.mro
  have hmade := PySem.F.called_set.made
  have hsub := PySem.F.called_set.sub
  refine wpAny_call (codeAny_of_tree ?_)
  show wpAny _ _ (callAny (.type "set") _) _ _ _
  refine wpAny_pure ⟨Code.quiet_builtin _ (by decide +kernel), codeAny_builtin PySem.F.entry_type_call ?_⟩
  rw [Around.under_plain (weight_type_call_type "set" [.ref l] []) rfl]
  have h1 := PySem.F.called_set.notType
  have h2 := PySem.F.called_set.canCreate
  have hct := PySem.F.typeCall_set_1 (.ref l)
  repeat (any_goals (first | assumption | wp_step))
  refine codeAny_mono (code_set_newV (.ref l) (E := E) (Q₁ := fun obj s₁ => obj = .ref s.heap.objs.size ∧ s₁ = { s with heap := s.heap.push (newSetO w) }) ⟨rfl, rfl⟩) fun r s₁ hr => ?_
  cases r with
  | error e => exact hr
  | ok fl =>
    cases fl with
    | ret obj =>
      obtain ⟨rfl, rfl⟩ := hr
      have hS : (s.heap.push (newSetO w)).get? s.heap.objs.size = some (newSetO w) := Heap.get?_push_size _ rfl
      have hT : Shared.TypeIs { s with heap := s.heap.push (newSetO w) } (.ref s.heap.objs.size) "set" := ⟨_, hS, rfl⟩
      have hli := PySem.F.called_set.init.lookup
      have hbi := PySem.F.called_set.init.bind (.ref s.heap.objs.size)
      repeat (any_goals (first | assumption | wp_step))
      refine codeAny_mono (codeAny_call_builtin (R := wants (fun r s₂ => r = .none ∧ ∃ h' tk js, s₂ = { s with heap := h', toks := tk } ∧ SetV prog w h' s.heap.objs.size js items.size ∧ (∀ x, x ∈ js ↔ x ∈ ks) ∧
          (∀ b o, b < s.heap.objs.size → s.heap.get? b = some o → h'.get? b = some o)) E) PySem.F.called_set.init.plain PySem.F.entry_set_init (check_set_init_1 hT ?_)) fun r₂ s₂ hr₂ => ?_
      · obtain ⟨ol, hol, hcl, nl, hdl⟩ := hl
        obtain ⟨ocls, odict, odata, oslots⟩ := ol
        simp only at hcl hdl
        subst hcl; subst hdl
        have hol' : (s.heap.push (newSetO w)).get? l = some { cls := .type "list", dict := odict, data := .seq items nl, slots := oslots } := Heap.get?_push_of_some _ hol
        have hsls := PySem.F.sub_list_set
        have hslf := PySem.F.sub_list_frozenset
        have hne : (Value.type "list" == Value.type "dict") = false := by decide
        have hl1 : (s.heap.push (newSetO w)).IsList l items := ⟨_, hol', rfl, nl, rfl⟩
        unfold Builtin.«set.__init__» noKeywords Builtin.Frozenset.updateFrom
        generalize hPI : pyIter = PI
        wp_walk
        subst hPI
        refine wpAny_pyIter_list hl1 ?_
        refine wpAny_bind (wpAny_runValue ?_)
        have hlS : l < s.heap.objs.size := Heap.lt_size hol
        have hh3 : A.in1.in1.in1.handled = none := by simp [hh]
        have hneI : l ≠ (s.heap.push (newSetO w)).objs.size := by
          rw [Heap.size_push]; exact Nat.ne_of_lt (Nat.lt_succ_of_lt hlS)
        have hSf : s.heap.objs.size ∉ [(s.heap.push (newSetO w)).objs.size, l] := by
          rw [Heap.size_push]; simp only [List.mem_cons, List.mem_singleton, List.not_mem_nil, or_false, not_or]
          exact ⟨Nat.ne_of_lt (Nat.lt_succ_self _), Nat.ne_of_gt hlS⟩
        have hval : ∀ (i : Nat) (v : Value), items[i]? = some v → RelV (kV ((fun i => ks.getD i (.inl 0)) i)) v := fun i v hv => by
          have hlt : i < ks.length := by rw [← hlen]; exact (Array.getElem?_eq_some_iff.mp hv).1
          have ev : (ks.map kV)[i]? = some (kV (ks.getD i (.inl 0))) := by
            rw [List.getElem?_map, List.getElem?_eq_getElem hlt, List.getD_eq_getElem?_getD, List.getElem?_eq_getElem hlt]; rfl
          obtain ⟨u, hu, ru⟩ := hi.get ev
          rw [Array.getElem?_toList, hv] at hu
          cases hu
          exact ru
        refine set_loopV ((Walks.list hh3 _ l hneI items).toS) s.heap.objs.size
          hSf (fun i => ks.getD i (.inl 0)) hval hb (items.size - 0) 0 _ [] (by omega) (Nat.zero_le _)
          ⟨⟨_, Heap.get?_push_size _ rfl, rfl, rfl⟩, (hl1.push _)⟩ ?hS0 (fun x => by simp) ?hR
        case hS0 => exact setV_new (Heap.get?_push_of_some _ hS)
        case hR =>
          intro s' js hm hS' hjs
          obtain ⟨h', g', d', tk', os'⟩ := s'
          have eg : g' = s.gens := hm.gens
          have ed : d' = s.drawn := hm.drawn
          have eo : os' = s.os := hm.os
          subst eg; subst ed; subst eo
          show wpAny _ _ _ _ _ _
          refine wpAny_pure ?_
          show wpAny _ _ (ret Value.none) _ _ _
          refine wpAny_pure ⟨rfl, h', tk', js, rfl, hS', fun x => ?_, fun b o hb e => ?_⟩
          · rw [hjs x, hlen]
            have e2 : (List.range ks.length).map (fun i => ks.getD i (.inl 0)) = ks := getD_map_range ks (.inl 0)
            rw [e2]
          · have hb1 : b ≠ s.heap.objs.size := Nat.ne_of_lt hb
            have hb2 : b ≠ (s.heap.push (newSetO w)).objs.size := by
              rw [Heap.size_push]; exact Nat.ne_of_lt (Nat.lt_succ_of_lt hb)
            exact hm.heap b o (by simp only [List.mem_cons, List.mem_singleton, List.not_mem_nil, or_false, not_or]; exact ⟨hb1, hb2⟩) (Heap.get?_push_of_some _ (Heap.get?_push_of_some _ e))
      · cases r₂ with
        | error e => exact hr₂
        | ok fl₂ =>
          cases fl₂ with
          | ret r =>
            obtain ⟨rfl, h', tk, js, rfl, hS', hj', hk'⟩ := hr₂
            repeat (any_goals (first | assumption | wp_step))
            exact h _ _ _ hS' hj' hk'
          | _ => exact hr₂.elim
    | _ => exact hr.elim
end
end P2
namespace P2
open PySem L2 PySem.Spec PySem.Calls PySem.W
open PyProof.Rows hiding St K
theorem slot_setit_next : Slot "set_iterator" "__next__" "set_iterator.__next__" :=
  .of (owner := "set_iterator") (n := "__next__") (by rw [typeLookup_type, builtinLookup_eq_fast]; kernel_rfl) (by decide +kernel) (by decide +kernel) (by decide +kernel)
    (by first | exact .inl (by decide +kernel) | exact .inr (by decide +kernel)) (by rw [isSubtype_type]; kernel_rfl)
theorem entry_setit_next : entryFor table "set_iterator.__next__" = some Builtin.«set_iterator.__next__» := entryFor_of_tree (by kernel_rfl)
theorem owner_setit : Manifest.owners.lookup (String.ofList ['r', 'o', 't', 'a', 'r', 'e', 't', 'i', '_', 't', 'e', 's'].reverse) = some Manifest.sig_set_iterator := by kernel_rfl
theorem args_setit_next (a : Value) : argsOk "set_iterator.__next__" ⟨[a], []⟩ := by
  unfold argsOk; rw [signature?_of (id := "set_iterator.__next__") (n := ['_', '_', 't', 'x', 'e', 'n', '_', '_']) (o := ['r', 'o', 't', 'a', 'r', 'e', 't', 'i', '_', 't', 'e', 's']) (by kernel_rfl) owner_setit]; kernel_rfl
theorem entry_set_iter : entryFor table "set.__iter__" = some Builtin.«frozenset.__iter__» :=
  entryFor_alias (id' := "frozenset.__iter__") (by kernel_rfl) rfl (by decide +kernel) (by kernel_rfl)
theorem perm_erase {α : Type} : ∀ (l : List α) (i : Nat) (h : i < l.length), (l[i] :: l.eraseIdx i).Perm l
  | x :: l, 0, _ => .refl _
  | x :: l, i + 1, h => by
    have hi : i < l.length := by simpa using h
    show (l[i] :: x :: l.eraseIdx i).Perm (x :: l)
    exact (List.Perm.swap _ _ _).trans (List.Perm.cons x (perm_erase l i hi))
section
variable {prog : Program} {w : World} {A : Around} {E : Value → Shared → Prop} {s : Shared}
theorem wp_byText {Q : Bool → Shared → Prop} (h : Q (w.params.followText "set-order") s) : wpAny (model prog w) A setsByText Q E s := by
  unfold setsByText
  exact wpAny_bind (wpAny_askSetting (wpAny_pure h))
theorem wp_choose {src : Source} {n : Nat} {Q : Nat → Shared → Prop} (hn : n ≠ 0) (h : ∀ i d, i < n → Q i { s with drawn := d }) : wpAny (model prog w) A (choose src n) Q E s := fun Γ p hΓ => by
  show Sem.wp _ _ (.choose src n .pure) _ _ _ _
  rw [Sem.wp_choose]
  refine ⟨hn, ?_⟩
  exact h _ _ (Nat.mod_lt _ (Nat.pos_of_ne_zero hn))
theorem wp_drawOrder {α : Type} : ∀ (n : Nat) (xs : List α) {s : Shared} {Q : List α → Shared → Prop}, xs.length = n → (∀ ys d, ys.Perm xs → Q ys { s with drawn := d }) → wpAny (model prog w) A (drawOrder n xs) Q E s
  | 0, xs, s, Q, hl, h => by
    have e : xs = [] := List.length_eq_zero_iff.mp hl
    subst e
    unfold drawOrder
    exact wpAny_pure (h [] s.drawn (.refl _))
  | n + 1, [], s, Q, hl, h => by simp at hl
  | n + 1, x :: xs, s, Q, hl, h => by
    unfold drawOrder
    refine wpAny_bind (wp_choose (by simp) fun i d hi => ?_)
    rw [List.getElem?_eq_getElem hi]
    dsimp only
    refine wpAny_bind (wp_drawOrder n ((x :: xs).eraseIdx i) (by rw [List.length_eraseIdx, if_pos hi]; omega) fun ys d2 hp => wpAny_pure ?_)
    refine h _ d2 ?_
    exact (List.Perm.cons _ hp).trans (perm_erase (x :: xs) i hi)
noncomputable def ItS (h : Heap) (it : Addr) (first : Value) (i : Nat) (a : Addr) (n ep : Nat) : Prop := ∃ o, h.get? it = some o ∧ o.cls = .type "set_iterator" ∧ o.data = .fields #[first, .int i 0, .ref a, .int n 0, .int ep 0]
noncomputable def RawS (h : Heap) (a : Addr) (es : Array (Int × Value)) (ep : Nat) (t : SetTable) : Prop := ∃ o, h.get? a = some o ∧ o.ExactSet ∧ o.data = .set es ep t ∧ t.fits es.size = true
theorem RawS.at' {h h' : Heap} {a : Addr} {es : Array (Int × Value)} {ep : Nat} {t : SetTable} (x : RawS h a es ep t) (k : ∀ o, h.get? a = some o → h'.get? a = some o) : RawS h' a es ep t := let ⟨o, ho, r⟩ := x; ⟨o, k o ho, r⟩
theorem ItS.at' {h h' : Heap} {it : Addr} {first : Value} {i : Nat} {a : Addr} {n ep : Nat} (x : ItS h it first i a n ep) (k : ∀ o, h.get? it = some o → h'.get? it = some o) : ItS h' it first i a n ep := let ⟨o, ho, r⟩ := x; ⟨o, k o ho, r⟩
theorem ItS.typeIs {s : Shared} {it : Addr} {first : Value} {i : Nat} {a : Addr} {n ep : Nat} (x : ItS s.heap it first i a n ep) : s.TypeIs (.ref it) "set_iterator" := let ⟨o, ho, hc, _⟩ := x; ⟨o, ho, hc⟩
variable {it a : Addr} {i ep : Nat} {es : Array (Int × Value)} {t : SetTable}
theorem setNext_N {slot : Nat} {Q : Option (Value × Nat) → Shared → Prop} (hb : w.params.followText "set-order" = false) (hr : RawS s.heap a es ep t) (hdr : (!t.plain && decide (es.size > 1)) = false) (hled : t.led = true)
    (h : Q (match es[SetTable.below t.place slot]?, t.place[SetTable.below t.place slot]? with | some (_, x), some j => some (x, j + 1) | _, _ => none) s) : wpAny (model prog w) A (setNext a slot i ep) Q E s := by
  obtain ⟨o, ho, _, hd, hf⟩ := hr
  unfold setNext
  refine wpAny_bind (wpAny_setState_of ho hd hf ?_)
  dsimp only
  refine wpAny_bind (wp_byText ?_)
  rw [hb]
  refine wpAny_ite_split (fun hab => absurd hab Bool.false_ne_true) (fun _ => ?_)
  refine wpAny_ite_split (fun hab => absurd (show (!t.plain && decide (es.size > 1)) = true from hab) (by rw [hdr]; exact Bool.false_ne_true)) (fun _ => ?_)
  refine wpAny_bind ?_
  show wpAny _ _ (if (!t.led && !es.isEmpty) = true then _ else _) _ _ _
  rw [hled]
  refine wpAny_ite_split (fun hab => absurd (show false = true from hab) Bool.false_ne_true) (fun _ => wpAny_pure ?_)
  exact wpAny_pure h
theorem setNext_T {slot : Nat} {Q : Option (Value × Nat) → Shared → Prop} (hb : w.params.followText "set-order" = true) (hr : RawS s.heap a es ep t)
    (h : Q (((pickOrder (w.params.setOrder a ep) es)[i]?).map fun e => (e.2, slot)) s) : wpAny (model prog w) A (setNext a slot i ep) Q E s := by
  obtain ⟨o, ho, _, hd, hf⟩ := hr
  unfold setNext
  refine wpAny_bind (wpAny_setState_of ho hd hf ?_)
  dsimp only
  refine wpAny_bind (wp_byText ?_)
  rw [hb]
  refine wpAny_ite_split (fun _ => ?_) (fun hab => absurd rfl hab)
  refine wpAny_ite_split (fun hab => absurd hab (by simp)) (fun _ => ?_)
  refine wpAny_bind ?_
  unfold setWalk
  refine wpAny_bind (wpAny_setState_of ho hd hf ?_)
  dsimp only
  refine wpAny_bind (wp_byText ?_)
  rw [hb]
  refine wpAny_ite_split (fun _ => ?_) (fun hab => absurd rfl hab)
  refine wpAny_bind (wpAny_askSetting (wpAny_pure ?_))
  exact wpAny_pure h
theorem it_item {slot nx : Nat} {x : Value} {Q : Option Value → Shared → Prop} (hit : ItS s.heap it (.int slot 0) i a es.size ep) (hr : RawS s.heap a es ep t)
    (hn : ∀ (B : Around) (E' : Value → Shared → Prop) (Q' : Option (Value × Nat) → Shared → Prop), Q' (some (x, nx)) s → wpAny (model prog w) B (setNext a slot i ep) Q' E' s)
    (hQ : ∀ h', ItS h' it (.int nx 0) (i + 1) a es.size ep → Heap.SameBut it s.heap h' → Q (some x) { s with heap := h' }) : wpAny (model prog w) A (pyNext (.ref it)) Q E s := by
  obtain ⟨o, ho, hc, hd⟩ := id hit
  obtain ⟨oa, hoa, hex, hda, hfa⟩ := id hr
  unfold pyNext
  refine wpAny_bind (wpAny_attempt (wpAny_callSpecial?_slot (name := Str.ofString "__next__") hit.typeIs slot_setit_next
    (wpAny_call_entry slot_setit_next hit.typeIs entry_setit_next ?_ (args_setit_next _))))
  show wpAny _ _ (fieldsOf (.ref it) >>= _) _ _ s
  refine wpAny_bind (wpAny_fieldsOf ho hd ?_)
  show wpAny _ _ (setEntries a >>= _) _ _ s
  refine wpAny_bind (wpAny_setEntries_of hoa hda hfa ?_)
  refine wpAny_ite_split (fun hab => absurd hab (by simp)) (fun _ => ?_)
  show wpAny _ _ (setNext a (Int.toNat slot) (Int.toNat i) (Int.toNat ep) >>= _) _ _ s
  rw [Int.toNat_natCast, Int.toNat_natCast, Int.toNat_natCast]
  refine wpAny_bind (hn _ _ _ ?_)
  show wpAny _ _ (setField (.ref it) 0 (rawInt nx) >>= _) _ _ s
  refine wpAny_bind (wpAny_setField ho hd (by simp) ?_)
  have ho1 := Heap.get?_update_self (Obj.mapFields (·.setIfInBounds 0 (rawInt nx))) ho (Obj.isFreed_of_fields (Obj.data_mapFields hd _))
  have hd1 : (Obj.mapFields (·.setIfInBounds 0 (rawInt nx)) o).data = .fields #[rawInt nx, .int i 0, .ref a, .int es.size 0, .int ep 0] := by rw [Obj.data_mapFields hd]; simp
  show wpAny _ _ (setField (.ref it) 1 (rawInt ((i : Int) + 1)) >>= _) _ _ _
  refine wpAny_bind (wpAny_setField ho1 hd1 (by simp) ?_)
  have ho2 := Heap.get?_update_self (Obj.mapFields (·.setIfInBounds 1 (rawInt ((i : Int) + 1)))) ho1 (Obj.isFreed_of_fields (Obj.data_mapFields hd1 _))
  show wpAny _ _ (pure _) _ _ _
  exact wpAny_pure ⟨_, rfl, wpAny_pure (hQ _ ⟨_, ho2, (Obj.cls_mapFields ..).trans ((Obj.cls_mapFields ..).trans hc), by rw [Obj.data_mapFields hd1]; simp [rawInt]⟩ ((Heap.SameBut.update ..).trans (Heap.SameBut.update ..)))⟩
end
end P2
namespace P2
open PySem L2 PySem.Spec PySem.Calls PySem.W
open PyProof.Rows hiding St K
section
variable {prog : Program} {w : World} {A : Around} {E : Value → Shared → Prop} {s : Shared} {it a : Addr} {i ep : Nat} {es : Array (Int × Value)} {t : SetTable}
theorem it_end {slot : Nat} {Q : Option Value → Shared → Prop} (hh : A.handled = none) (hit : ItS s.heap it (.int slot 0) i a es.size ep) (hr : RawS s.heap a es ep t)
    (hn : ∀ (B : Around) (E' : Value → Shared → Prop) (Q' : Option (Value × Nat) → Shared → Prop), Q' none s → wpAny (model prog w) B (setNext a slot i ep) Q' E' s)
    (hQ : ∀ h', Heap.ExtBut it s.heap h' → Q none { s with heap := h' }) : wpAny (model prog w) A (pyNext (.ref it)) Q E s := by
  obtain ⟨o, ho, hc, hd⟩ := id hit
  obtain ⟨oa, hoa, hex, hda, hfa⟩ := id hr
  unfold pyNext
  refine wpAny_bind (wpAny_attempt (wpAny_callSpecial?_slot (name := Str.ofString "__next__") hit.typeIs slot_setit_next
    (wpAny_call_entry slot_setit_next hit.typeIs entry_setit_next ?_ (args_setit_next _))))
  show wpAny _ _ (fieldsOf (.ref it) >>= _) _ _ s
  refine wpAny_bind (wpAny_fieldsOf ho hd ?_)
  show wpAny _ _ (setEntries a >>= _) _ _ s
  refine wpAny_bind (wpAny_setEntries_of hoa hda hfa ?_)
  refine wpAny_ite_split (fun hab => absurd hab (by simp)) (fun _ => ?_)
  show wpAny _ _ (setNext a (Int.toNat slot) (Int.toNat i) (Int.toNat ep) >>= _) _ _ s
  rw [Int.toNat_natCast, Int.toNat_natCast, Int.toNat_natCast]
  refine wpAny_bind (hn _ _ _ ?_)
  show wpAny _ _ (setField (.ref it) 2 .none >>= _) _ _ s
  refine wpAny_bind (wpAny_setField ho hd (by simp) ?_)
  show wpAny _ _ (newExc (.type "StopIteration") [] >>= _) _ _ _
  refine wpAny_bind ?_
  simp only [newExc, newTuple]
  refine wpAny_bind (wpAny_newObj_type ?_ (by size_fits))
  refine wpAny_bind (m := firstArgMember _ _) (wpAny_of_eq (a := Value.none) (by first | rfl | (simp only [firstArgMember]; rfl)) ?_)
  refine wpAny_newObj_type ?_ (by size_fits)
  simp only [raiseNew]
  refine wpAny_bind (wpAny_handled ?_)
  rw [show A.in1.handled = none from hh]
  refine wpAny_bind (wpAny_pure (wpAny_throw ?_))
  refine wpAny_bind (wpAny_isInstance (T := "StopIteration") (b := true) ⟨_, Heap.get?_push_size _ rfl, rfl⟩ isSubtype_stop ?_)
  exact wpAny_pure (hQ _ (((Heap.SameBut.update ..).extBut.push _).push _))
theorem itd_item {p : Addr} {op : Obj} {pl : Array Value} {m q : Nat} {tk : Tok} {e : Int × Value} {Q : Option Value → Shared → Prop} (hp : s.heap.get? p = some op) (hpd : op.data = .seq pl m) (hit : ItS s.heap it (.ref p) i a es.size ep) (hr : RawS s.heap a es ep t)
    (hq : pl[i]? = some (.int q tk)) (he : es[q]? = some e)
    (hQ : ∀ h', ItS h' it (.ref p) (i + 1) a es.size ep → Heap.SameBut it s.heap h' → Q (some e.2) { s with heap := h' }) : wpAny (model prog w) A (pyNext (.ref it)) Q E s := by
  obtain ⟨o, ho, hc, hd⟩ := id hit
  obtain ⟨oa, hoa, hex, hda, hfa⟩ := id hr
  unfold pyNext
  refine wpAny_bind (wpAny_attempt (wpAny_callSpecial?_slot (name := Str.ofString "__next__") hit.typeIs slot_setit_next
    (wpAny_call_entry slot_setit_next hit.typeIs entry_setit_next ?_ (args_setit_next _))))
  show wpAny _ _ (fieldsOf (.ref it) >>= _) _ _ s
  refine wpAny_bind (wpAny_fieldsOf ho hd ?_)
  show wpAny _ _ (setEntries a >>= _) _ _ s
  refine wpAny_bind (wpAny_setEntries_of hoa hda hfa ?_)
  refine wpAny_ite_split (fun hab => absurd hab (by simp)) (fun _ => ?_)
  show wpAny _ _ (seqItems? (.ref p) >>= _) _ _ s
  refine wpAny_bind (wpAny_seqItems hp hpd ?_)
  dsimp only
  rw [show (Int.toNat (i : Int)) = i from Int.toNat_natCast i, hq]
  show wpAny _ _ (setNextDrawn a (Int.toNat q) (Int.toNat ep) >>= _) _ _ s
  rw [Int.toNat_natCast, Int.toNat_natCast]
  refine wpAny_bind ?_
  unfold setNextDrawn
  refine wpAny_bind (wpAny_setState_of hoa hda hfa ?_)
  dsimp only
  refine wpAny_ite_split (fun hab => absurd hab (by simp)) (fun _ => ?_)
  rw [he]
  refine wpAny_pure ?_
  show wpAny _ _ (setField (.ref it) 1 (rawInt ((i : Int) + 1)) >>= _) _ _ s
  refine wpAny_bind (wpAny_setField ho hd (by simp) ?_)
  have ho2 := Heap.get?_update_self (Obj.mapFields (·.setIfInBounds 1 (rawInt ((i : Int) + 1)))) ho (Obj.isFreed_of_fields (Obj.data_mapFields hd _))
  show wpAny _ _ (pure _) _ _ _
  exact wpAny_pure ⟨_, rfl, wpAny_pure (hQ _ ⟨_, ho2, (Obj.cls_mapFields ..).trans hc, by rw [Obj.data_mapFields hd]; simp [rawInt]⟩ (Heap.SameBut.update ..))⟩
theorem itd_end {p : Addr} {op : Obj} {pl : Array Value} {m : Nat} {Q : Option Value → Shared → Prop} (hh : A.handled = none) (hp : s.heap.get? p = some op) (hpd : op.data = .seq pl m) (hit : ItS s.heap it (.ref p) i a es.size ep) (hr : RawS s.heap a es ep t)
    (hq : pl[i]? = none) (hQ : ∀ h', Heap.ExtBut it s.heap h' → Q none { s with heap := h' }) : wpAny (model prog w) A (pyNext (.ref it)) Q E s := by
  obtain ⟨o, ho, hc, hd⟩ := id hit
  obtain ⟨oa, hoa, hex, hda, hfa⟩ := id hr
  unfold pyNext
  refine wpAny_bind (wpAny_attempt (wpAny_callSpecial?_slot (name := Str.ofString "__next__") hit.typeIs slot_setit_next
    (wpAny_call_entry slot_setit_next hit.typeIs entry_setit_next ?_ (args_setit_next _))))
  show wpAny _ _ (fieldsOf (.ref it) >>= _) _ _ s
  refine wpAny_bind (wpAny_fieldsOf ho hd ?_)
  show wpAny _ _ (setEntries a >>= _) _ _ s
  refine wpAny_bind (wpAny_setEntries_of hoa hda hfa ?_)
  refine wpAny_ite_split (fun hab => absurd hab (by simp)) (fun _ => ?_)
  show wpAny _ _ (seqItems? (.ref p) >>= _) _ _ s
  refine wpAny_bind (wpAny_seqItems hp hpd ?_)
  dsimp only
  rw [show (Int.toNat (i : Int)) = i from Int.toNat_natCast i, hq]
  show wpAny _ _ (setField (.ref it) 0 (rawInt 0) >>= _) _ _ s
  refine wpAny_bind (wpAny_setField ho hd (by simp) ?_)
  have ho1 := Heap.get?_update_self (Obj.mapFields (·.setIfInBounds 0 (rawInt 0))) ho (Obj.isFreed_of_fields (Obj.data_mapFields hd _))
  have hd1 : (Obj.mapFields (·.setIfInBounds 0 (rawInt 0)) o).data = .fields #[rawInt 0, .int i 0, .ref a, .int es.size 0, .int ep 0] := by rw [Obj.data_mapFields hd]; simp
  show wpAny _ _ (setField (.ref it) 2 .none >>= _) _ _ _
  refine wpAny_bind (wpAny_setField ho1 hd1 (by simp) ?_)
  show wpAny _ _ (newExc (.type "StopIteration") [] >>= _) _ _ _
  refine wpAny_bind ?_
  simp only [newExc, newTuple]
  refine wpAny_bind (wpAny_newObj_type ?_ (by size_fits))
  refine wpAny_bind (m := firstArgMember _ _) (wpAny_of_eq (a := Value.none) (by first | rfl | (simp only [firstArgMember]; rfl)) ?_)
  refine wpAny_newObj_type ?_ (by size_fits)
  simp only [raiseNew]
  refine wpAny_bind (wpAny_handled ?_)
  rw [show A.in1.handled = none from hh]
  refine wpAny_bind (wpAny_pure (wpAny_throw ?_))
  refine wpAny_bind (wpAny_isInstance (T := "StopIteration") (b := true) ⟨_, Heap.get?_push_size _ rfl, rfl⟩ isSubtype_stop ?_)
  exact wpAny_pure (hQ _ ((((Heap.SameBut.update ..).trans (Heap.SameBut.update ..)).extBut.push _).push _))
end
end P2
namespace P2
open PySem L2 PySem.Spec PySem.Calls PySem.W
open PyProof.Rows hiding St K
theorem slot_setit_iter : Slot "set_iterator" "__iter__" "set_iterator.__iter__" :=
  .of (owner := "set_iterator") (n := "__iter__") (by rw [typeLookup_type, builtinLookup_eq_fast]; kernel_rfl) (by decide +kernel) (by decide +kernel) (by decide +kernel)
    (by first | exact .inl (by decide +kernel) | exact .inr (by decide +kernel)) (by rw [isSubtype_type]; kernel_rfl)
theorem entry_setit_iter : entryFor table "set_iterator.__iter__" = some Builtin.«dict_keyiterator.__iter__» :=
  entryFor_alias (id' := "dict_keyiterator.__iter__") (by kernel_rfl) rfl (by decide +kernel) (by kernel_rfl)
theorem args_setit_iter (a : Value) : argsOk "set_iterator.__iter__" ⟨[a], []⟩ := by
  unfold argsOk; rw [signature?_of (id := "set_iterator.__iter__") (n := ['_', '_', 'r', 'e', 't', 'i', '_', '_']) (o := ['r', 'o', 't', 'a', 'r', 'e', 't', 'i', '_', 't', 'e', 's']) (by kernel_rfl) owner_setit]; kernel_rfl
theorem it_self {prog : Program} {w : World} {A : Around} {E : Value → Shared → Prop} {s : Shared} {it : Addr} {first : Value} {i : Nat} {a : Addr} {n ep : Nat} {Q : Value → Shared → Prop} (hit : ItS s.heap it first i a n ep) (h : Q (.ref it) s) : wpAny (model prog w) A (pyIter (.ref it)) Q E s := by
  refine wpAny_pyIter_slot hit.typeIs slot_setit_iter (wpAny_call_entry slot_setit_iter hit.typeIs entry_setit_iter ?_ (args_setit_iter _))
  show wpAny _ _ (ret (.ref it)) _ _ s
  exact wpAny_pure ⟨_, rfl, "set_iterator", _, hit.typeIs, slot_setit_next.lookup, h⟩
theorem pick_go {α : Type} (f : Nat → Nat) : ∀ (fuel k : Nat) (left : List α) (out : Array α), left.length = fuel → (pickOrder.go f fuel k left out).toList.Perm (out.toList ++ left)
  | 0, k, left, out, hl => by
    have e : left = [] := List.length_eq_zero_iff.mp hl
    subst e
    show out.toList.Perm (out.toList ++ [])
    rw [List.append_nil]
  | fuel + 1, k, left, out, hl => by
    unfold pickOrder.go
    have hi : f k % left.length < left.length := Nat.mod_lt _ (by omega)
    rw [List.getElem?_eq_getElem hi]
    dsimp only
    refine (pick_go f fuel (k + 1) _ _ (by rw [List.length_eraseIdx, if_pos hi]; omega)).trans ?_
    rw [Array.toList_push, List.append_assoc]
    exact List.Perm.append_left _ (perm_erase left _ hi)
theorem pick_perm {α : Type} (f : Nat → Nat) (xs : Array α) : (pickOrder f xs).toList.Perm xs.toList := by
  have := pick_go f xs.size 0 xs.toList #[] (by simp)
  simpa [pickOrder] using this
noncomputable def slotAt (place : Array Nat) (i : Nat) : Nat := if i = 0 then 0 else place.getD (i - 1) 0 + 1
theorem below_slotAt {place : Array Nat} (h : Ris place) : ∀ i, i ≤ place.size → SetTable.below place (slotAt place i) = i
  | 0, _ => below_zero h
  | i + 1, hi => by
    have e : slotAt place (i + 1) = place[i] + 1 := by
      unfold slotAt
      rw [if_neg (by omega), Nat.add_sub_cancel]
      simp [Array.getD, show i < place.size by omega]
    rw [e]
    exact below_next h (by omega)
section
variable {prog : Program} {w : World} {A : Around} {E : Value → Shared → Prop} {s : Shared} {a : Addr} {ep : Nat} {es : Array (Int × Value)} {t : SetTable}
theorem walks_N (hh : A.handled = none) (hb : w.params.followText "set-order" = false) (I : Addr) (ne : a ≠ I) (ris : Ris t.place) (hs : t.place.size = es.size) (hdr : (!t.plain && decide (es.size > 1)) = false) (hled : t.led = true) :
    Walks prog w A I [I, a] [I] es.size (fun i v => (es.toList.map Prod.snd)[i]? = some v) (fun i h => ItS h I (.int (slotAt t.place i) 0) i a es.size ep ∧ RawS h a es ep t) where
  sub := fun b hb => by simp at hb; simp [hb]
  frame := fun _ _ _ st hk => ⟨st.1.at' fun o e => hk I (by simp) o e, st.2.at' fun o e => hk a (by simp) o e⟩
  item := fun i s Q E hi st hQ => by
    have hp : i < t.place.size := by omega
    refine it_item (slot := slotAt t.place i) (nx := slotAt t.place (i + 1)) (x := es[i].2) st.1 st.2 (fun B E' Q' q => setNext_N hb st.2 hdr hled ?_) fun h' hit' hs' => ?_
    · rw [below_slotAt ris i (by omega), Array.getElem?_eq_getElem hi, Array.getElem?_eq_getElem hp]
      have e : slotAt t.place (i + 1) = t.place[i] + 1 := by
        unfold slotAt
        rw [if_neg (by omega), Nat.add_sub_cancel]
        simp [Array.getD, hp]
      rw [e] at q
      exact q
    · exact hQ _ h' s.toks (by rw [List.getElem?_map, Array.getElem?_toList, Array.getElem?_eq_getElem hi]; rfl) ⟨hit', st.2.at' fun o e => hs'.extBut a o ne e⟩ fun b o hb e => hs'.extBut b o (fun h => hb (by simp [h])) e
  done := fun s Q E st hQ => by
    refine it_end hh st.1 st.2 (fun B E' Q' q => setNext_N hb st.2 hdr hled ?_) fun h' he' => hQ h' s.toks fun b o hb e => he' b o (fun h => hb (by simp [h])) e
    rw [below_slotAt ris es.size (by omega), Array.getElem?_eq_none (Nat.le_refl _)]
    exact q
  self := fun i s Q E st hQ => it_self st.1 hQ
theorem walks_T (hh : A.handled = none) (hb : w.params.followText "set-order" = true) (I : Addr) (ne : a ≠ I) :
    Walks prog w A I [I, a] [I] es.size (fun i v => ((pickOrder (w.params.setOrder a ep) es).toList.map Prod.snd)[i]? = some v) (fun i h => ItS h I (.int (0 : Nat) 0) i a es.size ep ∧ RawS h a es ep t) where
  sub := fun b hb => by simp at hb; simp [hb]
  frame := fun _ _ _ st hk => ⟨st.1.at' fun o e => hk I (by simp) o e, st.2.at' fun o e => hk a (by simp) o e⟩
  item := fun i s Q E hi st hQ => by
    have hsz : (pickOrder (w.params.setOrder a ep) es).size = es.size := by
      have := (pick_perm (w.params.setOrder a ep) es).length_eq
      simpa using this
    have hp : i < (pickOrder (w.params.setOrder a ep) es).size := by omega
    refine it_item (slot := 0) (nx := 0) (x := (pickOrder (w.params.setOrder a ep) es)[i].2) st.1 st.2 (fun B E' Q' q => setNext_T hb st.2 ?_) fun h' hit' hs' => ?_
    · rw [Array.getElem?_eq_getElem hp]
      exact q
    · exact hQ _ h' s.toks (by rw [List.getElem?_map, Array.getElem?_toList, Array.getElem?_eq_getElem hp]; rfl) ⟨hit', st.2.at' fun o e => hs'.extBut a o ne e⟩ fun b o hb e => hs'.extBut b o (fun h => hb (by simp [h])) e
  done := fun s Q E st hQ => by
    have hsz : (pickOrder (w.params.setOrder a ep) es).size = es.size := by
      have := (pick_perm (w.params.setOrder a ep) es).length_eq
      simpa using this
    refine it_end hh st.1 st.2 (fun B E' Q' q => setNext_T hb st.2 ?_) fun h' he' => hQ h' s.toks fun b o hb e => he' b o (fun h => hb (by simp [h])) e
    rw [Array.getElem?_eq_none (by omega)]
    exact q
  self := fun i s Q E st hQ => it_self st.1 hQ
theorem walks_D (hh : A.handled = none) (I p : Addr) (ne : a ≠ I) (np : p ≠ I) {ys : List Nat} (hys : ys.Perm (List.range es.size)) :
    Walks prog w A I [I, a, p] [I] es.size (fun i v => (ys.map fun q => (es.getD q (0, .none)).2)[i]? = some v) (fun i h => ItS h I (.ref p) i a es.size ep ∧ RawS h a es ep t ∧ ∃ op m, h.get? p = some op ∧ op.data = .seq (ys.map fun (i : Nat) => rawInt i).toArray m) where
  sub := fun b hb => by simp at hb; simp [hb]
  frame := fun _ _ _ st hk => ⟨st.1.at' fun o e => hk I (by simp) o e, st.2.1.at' fun o e => hk a (by simp) o e, let ⟨op, m, e1, e2⟩ := st.2.2; ⟨op, m, hk p (by simp) op e1, e2⟩⟩
  item := fun i s Q E hi st hQ => by
    obtain ⟨s1, s2, op, m, e1, e2⟩ := st
    have hl : ys.length = es.size := by have := hys.length_eq; simpa using this
    have hiy : i < ys.length := by omega
    have hq : ys[i] < es.size := by have := hys.mem_iff.mp (List.getElem_mem hiy); simpa using this
    refine itd_item (q := ys[i]) (tk := 0) (e := es[ys[i]]) e1 e2 s1 s2 (by simp [hiy, rawInt]) (Array.getElem?_eq_getElem hq) fun h' hit' hs' => ?_
    exact hQ _ h' s.toks (by rw [List.getElem?_map, List.getElem?_eq_getElem hiy]; simp [Array.getD, hq]) ⟨hit', s2.at' fun o e => hs'.extBut a o ne e, op, m, hs'.extBut p op np e1, e2⟩ fun b o hb e => hs'.extBut b o (fun h => hb (by simp [h])) e
  done := fun s Q E st hQ => by
    obtain ⟨s1, s2, op, m, e1, e2⟩ := st
    have hl : ys.length = es.size := by have := hys.length_eq; simpa using this
    exact itd_end hh e1 e2 s1 s2 (by simp [hl]) fun h' he' => hQ h' s.toks fun b o hb e => he' b o (fun h => hb (by simp [h])) e
  self := fun i s Q E st hQ => it_self st.1 hQ
theorem perm_D {ys : List Nat} (hys : ys.Perm (List.range es.size)) : (ys.map fun q => (es.getD q (0, .none)).2).Perm (es.toList.map Prod.snd) := by
  refine (hys.map _).trans ?_
  have : (List.range es.size).map (fun q => (es.getD q (0, .none)).2) = es.toList.map Prod.snd := by
    apply List.ext_getElem
    · simp
    · intro i h1 h2
      have : i < es.size := by simpa using h1
      simp [Array.getD, this]
  rw [this]
theorem set_iter {Q : Value → Shared → Prop} (hr : RawS s.heap a es ep t) (tok : TOk (w.params.followText "set-order") t) (hn : es.size ≤ sizeLine)
    (hQ : ∀ (h' : Heap) (d : Drawn) (it : Addr) (fp : List Addr) (its : List Value) (St : Nat → Heap → Prop), it ∈ fp → s.heap.objs.size ≤ it → (∀ b ∈ fp, (b = a ∨ s.heap.objs.size ≤ b) ∧ b < h'.objs.size) → its.Perm (es.toList.map Prod.snd) →
      (∀ B : Around, B.handled = none → Walks prog w B it fp [it] es.size (fun i v => its[i]? = some v) St) → St 0 h' → (∀ b o, s.heap.get? b = some o → h'.get? b = some o) → Q (.ref it) { s with heap := h', drawn := d }) :
    wpAny (model prog w) A (pyIter (.ref a)) Q E s := by
  obtain ⟨o, ho, hex, hd, hf⟩ := id hr
  have hT : s.TypeIs (.ref a) "set" := ⟨o, ho, hex.1⟩
  have hlt : a < s.heap.objs.size := Heap.lt_size ho
  have hps : t.place.size = es.size := by
    simp only [SetTable.fits, Bool.and_eq_true, beq_iff_eq] at hf
    exact hf.1
  refine wpAny_pyIter_slot hT PySem.F.slot_set_iter (wpAny_call_entry PySem.F.slot_set_iter hT entry_set_iter ?_ (PySem.F.args_set_iter_1 _))
  unfold Builtin.«frozenset.__iter__»
  refine wpAny_bind (m := Builtin.Frozenset.slot0 _ _) (wpAny_pure ?_)
  refine wpAny_bind ?_
  unfold Builtin.Frozenset.sizeOf
  refine wpAny_bind (wpAny_setEntries_of ho hd hf (wpAny_pure ?_))
  refine wpAny_bind ?_
  unfold setDrawn
  refine wpAny_bind (wpAny_setState_of ho hd hf ?_)
  dsimp only
  refine wpAny_bind (wp_byText (wpAny_pure ?_))
  have plain : ∀ (h : (!(w.params.followText "set-order") && (!t.plain && decide (es.size > 1))) = false), wpAny (model prog w) A.in1 (setEpoch a >>= fun e => newFields "set_iterator" [rawInt 0, rawInt 0, .ref a, rawInt es.size, rawInt e] >>= fun v => ret v) (fun fin s' => ∃ v, fin = .done (.ret v) ∧ ∃ T, ∃ x, s'.TypeIs v T ∧ typeLookup (.type T) "__next__" = pure (some x) ∧ Q v s') E s := fun h => by
    refine wpAny_bind (wpAny_setEpoch_of ho hd hf ?_)
    refine wpAny_bind (wpAny_newObj_type ?_)
    have hit : ItS (s.heap.push { cls := .type "set_iterator", data := .fields [rawInt 0, rawInt 0, .ref a, rawInt es.size, rawInt ep].toArray }) s.heap.objs.size (.int (0 : Nat) 0) 0 a es.size ep := ⟨_, Heap.get?_push_size _ rfl, rfl, rfl⟩
    refine wpAny_pure ⟨_, rfl, "set_iterator", _, ItS.typeIs (s := { s with heap := _ }) hit, slot_setit_next.lookup, ?_⟩
    have ne : a ≠ s.heap.objs.size := Nat.ne_of_lt hlt
    have hr' : RawS (s.heap.push { cls := .type "set_iterator", data := .fields [rawInt 0, rawInt 0, .ref a, rawInt es.size, rawInt ep].toArray }) a es ep t := hr.at' fun o e => Heap.get?_push_of_some _ e
    have fpk : ∀ b ∈ [s.heap.objs.size, a], (b = a ∨ s.heap.objs.size ≤ b) ∧ b < (s.heap.push { cls := .type "set_iterator", data := .fields [rawInt 0, rawInt 0, .ref a, rawInt es.size, rawInt ep].toArray }).objs.size := fun b hb => by
      rw [Heap.size_push]
      rcases List.mem_cons.mp hb with rfl | hb
      · exact ⟨.inr (Nat.le_refl _), Nat.lt_succ_self _⟩
      · rw [List.mem_singleton.mp hb]; exact ⟨.inl rfl, Nat.lt_succ_of_lt hlt⟩
    cases hb : w.params.followText "set-order" with
    | true => exact hQ _ s.drawn _ _ _ _ (.head _) (Nat.le_refl _) fpk ((pick_perm (w.params.setOrder a ep) es).map _) (fun B hB => walks_T hB hb _ ne) ⟨hit, hr'⟩ fun b o e => Heap.get?_push_of_some _ e
    | false =>
      rw [hb] at h
      have led : t.led = true := by rw [tok.led, hb]; rfl
      by_cases hp : t.plain = true
      · exact hQ _ s.drawn _ _ _ _ (.head _) (Nat.le_refl _) fpk (.refl _) (fun B hB => walks_N (t := t) hB hb _ ne (tok.ris hp) hps (by simpa using h) led) ⟨hit, hr'⟩ fun b o e => Heap.get?_push_of_some _ e
      · have h1 : es.size ≤ 1 := by
          have hp' : t.plain = false := by simpa using hp
          rw [hp'] at h
          simpa using h
        have ris : Ris t.place := by
          unfold Ris
          match hx : t.place.toList with
          | [] => exact .nil
          | [x] => exact List.pairwise_singleton _ _
          | x :: y :: r =>
            have := congrArg List.length hx
            rw [Array.length_toList] at this
            simp at this
            omega
        exact hQ _ s.drawn _ _ _ _ (.head _) (Nat.le_refl _) fpk (.refl _) (fun B hB => walks_N (t := t) hB hb _ ne ris hps (by simpa using h) led) ⟨hit, hr'⟩ fun b o e => Heap.get?_push_of_some _ e
  refine wpAny_ite_split (fun hdr => ?_) (fun hdr => ?_)
  · refine wpAny_bind (wp_drawOrder es.size (List.range es.size) (by simp) fun ys d hys => ?_)
    have hl : ys.length = es.size := by have := hys.length_eq; simpa using this
    refine wpAny_bind (wpAny_newTuple ?_ (by rw [List.length_map, hl]; exact hn))
    have ho1 : (s.heap.push (seqObj "tuple" (ys.map fun (i : Nat) => rawInt i).toArray 0)).get? a = some o := Heap.get?_push_of_some _ ho
    refine wpAny_bind (wpAny_setEpoch_of (s := { s with heap := s.heap.push (seqObj "tuple" (ys.map fun (i : Nat) => rawInt i).toArray 0), drawn := d }) ho1 hd hf ?_)
    refine wpAny_bind (wpAny_newObj_type ?_)
    have sz1 : (s.heap.push (seqObj "tuple" (ys.map fun (i : Nat) => rawInt i).toArray 0)).objs.size = s.heap.objs.size + 1 := size_push' ..
    generalize hg : s.heap.push (seqObj "tuple" (ys.map fun (i : Nat) => rawInt i).toArray 0) = g at *
    have hp : g.get? s.heap.objs.size = some (seqObj "tuple" (ys.map fun (i : Nat) => rawInt i).toArray 0) := by rw [← hg]; exact Heap.get?_push_size _ rfl
    have kp : ∀ b o, s.heap.get? b = some o → g.get? b = some o := fun b o e => by rw [← hg]; exact Heap.get?_push_of_some _ e
    have hit : ItS (g.push { cls := .type "set_iterator", data := .fields [.ref s.heap.objs.size, rawInt 0, .ref a, rawInt es.size, rawInt ep].toArray }) g.objs.size (.ref s.heap.objs.size) 0 a es.size ep := ⟨_, Heap.get?_push_size _ rfl, rfl, rfl⟩
    refine wpAny_pure ⟨_, rfl, "set_iterator", _, ItS.typeIs (s := { s with heap := _, drawn := d }) hit, slot_setit_next.lookup, ?_⟩
    refine hQ _ d g.objs.size [g.objs.size, a, s.heap.objs.size] _ _ (.head _) (by rw [sz1]; exact Nat.le_succ _) (fun b hb => ?_) (perm_D hys) (fun B hB => walks_D hB _ _ (by rw [sz1]; exact Nat.ne_of_lt (Nat.lt_succ_of_lt hlt)) (by rw [sz1]; exact Nat.ne_of_lt (Nat.lt_succ_self _)) hys) ⟨hit, hr.at' fun o e => Heap.get?_push_of_some _ (kp a o e), _, 0, Heap.get?_push_of_some _ hp, rfl⟩ fun b o e => Heap.get?_push_of_some _ (kp b o e)
    rw [Heap.size_push, sz1]
    simp only [List.mem_cons, List.not_mem_nil, or_false] at hb
    rcases hb with rfl | rfl | rfl
    · rw [sz1]; exact ⟨.inr (Nat.le_succ _), Nat.lt_succ_self _⟩
    · exact ⟨.inl rfl, Nat.lt_succ_of_lt (Nat.lt_succ_of_lt hlt)⟩
    · exact ⟨.inr (Nat.le_refl _), Nat.lt_succ_of_lt (Nat.lt_succ_self _)⟩
  · have hdr' : (!(w.params.followText "set-order") && (!t.plain && decide (es.size > 1))) = false := Bool.eq_false_iff.mpr hdr
    exact wpAny_bind (wpAny_pure (plain hdr'))
end
end P2
namespace P2
open PySem L2 PySem.Spec PySem.Calls PySem.W
open PyProof.Rows hiding St K
theorem bt_set : bootBuiltins "set" = some (.type "set") := by decide +kernel
section
variable {prog : Program} {w : World} {A : Around} {E : Value → Shared → Prop} {s : Shared} {a : Addr} {ep : Nat} {es : Array (Int × Value)} {t : SetTable}
theorem set_hint {r : Addr} {Q : Bool → Shared → Prop} (hT : s.TypeIs (.ref r) "set") (h : Q false s) : wpAny (model prog w) A (Builtin.List.listLengthHint (.ref r)) Q E s := by
  unfold Builtin.List.listLengthHint
  refine wpAny_bind (wpAny_specialOf hT PySem.F.slot_set_len.lookup ?_)
  generalize hid : ("set.__len__" : String) = id0
  wp_delta
  rw [show splitId id0 = some ("set", "__len__") from by subst hid; decide +kernel]
  subst hid
  refine wpAny_bind (wpAny_isInstance (T := "set") (b := true) hT (by rw [isSubtype_type]; kernel_rfl) ?_)
  refine wpAny_ite_split (fun hab => absurd hab (by decide)) (fun _ => ?_)
  refine wpAny_ite_split (fun _ => ?_) (fun hab => absurd (by decide +kernel) hab)
  refine wpAny_bind (wpAny_typeOf hT ?_)
  exact wpAny_pure h
theorem set_collect {Q : List Value → Shared → Prop} (hh : A.handled = none) (hr : RawS s.heap a es ep t) (tok : TOk (w.params.followText "set-order") t) (hn : es.size ≤ sizeLine)
    (hQ : ∀ (h' : Heap) (tk : Nat) (d : Drawn) (us : List Value), us.Perm (es.toList.map Prod.snd) → (∀ b o, s.heap.get? b = some o → h'.get? b = some o) → s.heap.objs.size ≤ h'.objs.size → Q us { s with heap := h', toks := tk, drawn := d }) : wpAny (model prog w) A (collect (.ref a)) Q E s := by
  obtain ⟨o, ho, hex, hd, hf⟩ := id hr
  have hlt : a < s.heap.objs.size := Heap.lt_size ho
  unfold collect
  refine wpAny_bind (wpAny_runValue (codeAny_builtin PySem.F.entry_proto_collect ?_))
  rw [Around.under_plainId PySem.F.plain_proto_collect _]
  show wpAny _ A.in1 (newList [] >>= fun l => again (.builtin "list.__iadd__" ⟨[l, .ref a], []⟩)) _ _ s
  refine wpAny_bind (wpAny_newObj_type ?_)
  refine wpAny_pure ⟨plainId_quiet PySem.F.plain_list_iadd _, codeAny_builtin PySem.F.entry_list_iadd ?_⟩
  rw [Around.under_plainId PySem.F.plain_list_iadd _]
  show wpAny _ A.in1 (Builtin.List.listExtendWith (.ref s.heap.objs.size) (.ref a) (.ref s.heap.objs.size)) _ _ _
  have hS₁ : (s.heap.push { cls := .type "list", data := .seq ([] : List Value).toArray }).get? s.heap.objs.size = some { cls := .type "list", data := .seq #[] } := Heap.get?_push_size _ rfl
  have sz1 : (s.heap.push { cls := .type "list", data := .seq ([] : List Value).toArray }).objs.size = s.heap.objs.size + 1 := Heap.size_push ..
  have k1 : ∀ b o, s.heap.get? b = some o → (s.heap.push { cls := .type "list", data := .seq ([] : List Value).toArray }).get? b = some o := fun b o e => Heap.get?_push_of_some _ e
  generalize s.heap.push { cls := .type "list", data := .seq ([] : List Value).toArray } = g at *
  have hr1 : RawS g a es ep t := hr.at' fun o e => k1 a o e
  have hT1 : Shared.TypeIs { s with heap := g } (.ref a) "set" := ⟨o, k1 a o ho, hex.1⟩
  unfold Builtin.List.listExtendWith
  refine wpAny_bind (wpAny_typeOf (T := "set") hT1 ?_)
  have h1 : Builtin.List.listSameRef (.ref s.heap.objs.size) (.ref a) = false := by simp [Builtin.List.listSameRef, Nat.ne_of_gt hlt]
  rw [if_neg (by rw [h1]; decide)]
  refine wpAny_bind (set_iter (s := { s with heap := g }) hr1 tok hn fun h2 d it fp its St hitf hge hfp perm W st2 k2 => ?_)
  have hS₂ := k2 _ _ hS₁
  have hSf : s.heap.objs.size ∉ fp := fun hm => by
    rcases (hfp _ hm).1 with z | z
    · exact absurd z (Nat.ne_of_gt hlt)
    · exact absurd (show g.objs.size ≤ s.heap.objs.size from z) (by rw [sz1]; exact Nat.not_succ_le_self _)
  have hT2 : Shared.TypeIs { s with heap := h2, drawn := d } (.ref a) "set" := ⟨o, k2 a o (k1 a o ho), hex.1⟩
  refine wpAny_bind (wpAny_holding (set_hint hT2 ?_))
  refine wpAny_ite_split (fun _ => ?_) (fun hab => absurd (by decide) hab)
  refine wpAny_bind (wpAny_rule ?_)
  refine wpAny_bind ?_
  show wpAny _ _ (updateSeq s.heap.objs.size (·.push .none) >>= fun _ => updateSeq s.heap.objs.size (·.pop)) _ _ _
  refine wpAny_bind (wpAny_updateSeq hS₂ rfl ?_)
  have hS₃ := Heap.get?_update_self (Obj.mapSeq (·.push Value.none)) hS₂ rfl
  refine wpAny_updateSeq (hz := by seq_fits) hS₃ rfl ?_
  have hS₄ := Heap.get?_update_self (Obj.mapSeq (·.pop)) hS₃ rfl
  have oth : ∀ b o, b ≠ s.heap.objs.size → h2.get? b = some o → ((h2.update s.heap.objs.size (Obj.mapSeq (·.push Value.none))).update s.heap.objs.size (Obj.mapSeq (·.pop))).get? b = some o :=
    fun b o hb e => (Heap.get?_update_other _ _ (Ne.symm hb)).trans ((Heap.get?_update_other _ _ (Ne.symm hb)).trans e)
  have W1 := W A.in1 hh
  have st4 : St 0 ((h2.update s.heap.objs.size (Obj.mapSeq (·.push Value.none))).update s.heap.objs.size (Obj.mapSeq (·.pop))) := W1.frame 0 _ _ st2 fun b hb o e => oth b o (fun h => hSf (h ▸ hb)) e
  refine wpAny_pure ⟨plainId_quiet PySem.F.plain_extend_loop _, codeAny_extend_loopS W1.toS hn _ hSf _ es.size 0 _ #[] _ rfl (Nat.zero_le _) st4 hS₄ (ItemsOf.nil _) fun s' acc' c' hm hS' hacc => ?_⟩
  show wpAny _ A (load s.heap.objs.size >>= _) _ _ s'
  refine wpAny_bind (wpAny_load hS' ?_)
  show wpAny _ _ (pure acc'.toList) _ _ _
  have lp : its.length = es.size := by have := perm.length_eq; simpa using this
  have ea : acc'.toList = its := by
    apply List.ext_getElem?
    intro j
    rw [Array.getElem?_toList]
    by_cases hj : j < es.size
    · have h3 : j < acc'.size := by rw [hacc.1]; exact hj
      rw [hacc.2 j acc'[j] (by simp [h3])]
      simp [h3]
    · rw [Array.getElem?_eq_none (by rw [hacc.1]; omega), List.getElem?_eq_none (by omega)]
  rw [ea]
  rw [Moved.eq_with hm]
  refine wpAny_pure (hQ s'.heap s'.toks d its perm (fun b o e => hm.heap b o (fun hmem => ?_) (oth b o (Nat.ne_of_lt (Heap.lt_size e)) (k2 b o (k1 b o e)))) (Nat.le_of_lt (Heap.lt_size hS')))
  rcases List.mem_cons.mp hmem with e' | hmem
  · exact absurd (Heap.lt_size e) (by rw [e']; exact Nat.lt_irrefl _)
  · have e2 := List.mem_singleton.mp hmem
    have hge' : g.objs.size ≤ it := hge
    exact absurd (Heap.lt_size e) (by rw [e2]; exact Nat.not_lt.mpr (Nat.le_trans (by rw [sz1]; exact Nat.le_succ _) hge'))
theorem srt_callS {l : Addr} {Gd : List Value → Prop} {G : Array Value → Prop} {Q : Value → Shared → Prop} (hh : A.handled = none)
    (hcol : ∀ (B : Around) (Q' : List Value → Shared → Prop), B.handled = none → (∀ h' tk d us, Gd us → (∀ b o, s.heap.get? b = some o → h'.get? b = some o) → s.heap.objs.size ≤ h'.objs.size → Q' us { s with heap := h', toks := tk, drawn := d }) → wpAny (model prog w) B (collect (.ref l)) Q' E s)
    (hz : ∀ us, Gd us → us.length ≤ sizeLine) (g0 : ∀ us, Gd us → us.length < 2 → G us.toArray)
    (g1 : ∀ us, Gd us → 2 ≤ us.length → ∀ t : Shared, (∀ b o, s.heap.get? b = some o → t.heap.get? b = some o) → Srt prog w G us t)
    (k : ∀ (out : Array Value) (p : Addr) (h' : Heap) (tk e : Nat) (d : Drawn), out.size ≤ sizeLine → G out → s.heap.objs.size ≤ p → (∀ b o, s.heap.get? b = some o → h'.get? b = some o) → h'.get? p = some (seqObj "list" out e) → Q (.ref p) { s with heap := h', toks := tk, drawn := d }) : wpAny (model prog w) A (call (.builtin "sorted") [.ref l]) Q E s := by
  refine call_function_entry kind_sorted plain_sorted entry_sorted (args_sorted1 _) ?_
  unfold Builtin.«sorted»
  refine wpAny_bind (m := checkCount "sorted" 1 1 _) (wpAny_pure ?_)
  apply wpAny_bind
  refine hcol _ _ hh fun g tk d us gd kp0 sz0 => ?_
  have hzu := hz us gd
  apply wpAny_bind
  refine wpAny_newList ?_ hzu
  have here : (g.push (seqObj "list" us.toArray 0)).get? g.objs.size = some (seqObj "list" us.toArray 0) := Heap.get?_push_size _ rfl
  have kp : ∀ b o, s.heap.get? b = some o → b ≠ g.objs.size ∧ (g.push (seqObj "list" us.toArray 0)).get? b = some o := fun b o q =>
    ⟨Nat.ne_of_lt (Nat.lt_of_lt_of_le (Heap.lt_size q) sz0), Heap.get?_push_of_some _ (kp0 b o q)⟩
  refine wpAny_bind (wpAny_holding (wpAny_call_entry slot_list_sort ⟨_, here, rfl⟩ entry_list_sort (srt_list (s := { s with heap := g.push (seqObj "list" us.toArray 0), toks := tk, drawn := d }) here hzu (g0 us gd) (fun h2 t ht => g1 us gd h2 t fun b o q => ht b o (kp b o q).1 (kp b o q).2) fun out ho hG => ⟨_, rfl, ?_⟩) (args_list_sort _)))
  refine wpAny_pure ⟨_, rfl, ?_⟩
  have e1 := get?_update_seq here (fun _ => (#[] : Array Value))
  have old : ∀ b o, b ≠ g.objs.size → (g.push (seqObj "list" us.toArray 0)).get? b = some o → (sortedHeap (g.push (seqObj "list" us.toArray 0)) g.objs.size us out).get? b = some o := fun b o hb q => by
    show ((((((g.push (seqObj "list" us.toArray 0)).update g.objs.size (Obj.mapSeq fun _ => (#[] : Array Value))).push (seqObj "tuple" us.toArray 0)).push (seqObj "list" #[] 0)).update g.objs.size (Obj.mapSeq fun _ => out))).get? b = some o
    rw [Heap.get?_update_ne _ _ _ _ hb]
    refine Heap.get?_push_of_some _ (Heap.get?_push_of_some _ ?_)
    rw [Heap.get?_update_ne _ _ _ _ hb]; exact q
  have new : ∃ e, (sortedHeap (g.push (seqObj "list" us.toArray 0)) g.objs.size us out).get? g.objs.size = some (seqObj "list" out e) := by
    exact ⟨_, get?_update_seq (Heap.get?_push_of_some (seqObj "list" #[] 0) (Heap.get?_push_of_some (seqObj "tuple" us.toArray 0) e1)) (fun _ => out)⟩
  obtain ⟨e, he⟩ := new
  exact k out g.objs.size _ tk e d (by rw [ho]; exact hzu) hG sz0 (fun b o q => old b o (kp b o q).1 (kp b o q).2) he
end
noncomputable def dd : List Key → List Key
  | [] => []
  | k :: r => if (r.any fun j => decide (j = k)) = true then dd r else k :: dd r
theorem any_mem {k : Key} {r : List Key} : (r.any fun j => decide (j = k)) = true ↔ k ∈ r := by
  rw [List.any_eq_true]
  exact ⟨fun ⟨x, hx, e⟩ => by rw [← of_decide_eq_true e]; exact hx, fun h => ⟨k, h, decide_eq_true rfl⟩⟩
theorem mem_dd (x : Key) : ∀ ks : List Key, x ∈ dd ks ↔ x ∈ ks
  | [] => Iff.rfl
  | k :: r => by
    unfold dd
    by_cases h : (r.any fun j => decide (j = k)) = true
    · rw [if_pos h, mem_dd x r, List.mem_cons]
      exact ⟨.inr, fun z => z.elim (fun z => by rw [z]; exact any_mem.mp h) id⟩
    · rw [if_neg h, List.mem_cons, List.mem_cons, mem_dd x r]
theorem nodup_dd : ∀ ks : List Key, (dd ks).Nodup
  | [] => .nil
  | k :: r => by
    unfold dd
    by_cases h : (r.any fun j => decide (j = k)) = true
    · rw [if_pos h]; exact nodup_dd r
    · rw [if_neg h]; exact List.nodup_cons.mpr ⟨fun z => h (any_mem.mpr ((mem_dd k r).mp z)), nodup_dd r⟩
theorem len_dd : ∀ ks : List Key, (dd ks).length ≤ ks.length
  | [] => Nat.le_refl _
  | k :: r => by
    have h1 := len_dd r
    have h2 : (k :: r).length = r.length + 1 := rfl
    unfold dd
    split
    · omega
    · rw [List.length_cons]; omega
theorem perm_nd {α : Type} [DecidableEq α] : ∀ {l1 l2 : List α}, l1.Nodup → l2.Nodup → (∀ x, x ∈ l1 ↔ x ∈ l2) → l1.Perm l2
  | [], l2, _, _, h => by
    cases l2 with
    | nil => exact .refl _
    | cons y r => exact absurd ((h y).mpr (.head _)) (by simp)
  | a :: l, l2, n1, n2, h => by
    have ha := (h a).mp (.head _)
    obtain ⟨na, nl⟩ := List.nodup_cons.mp n1
    refine (List.Perm.cons a (perm_nd nl (n2.erase a) fun x => ?_)).trans (List.perm_cons_erase ha).symm
    rw [n2.mem_erase_iff]
    constructor
    · intro hx
      exact ⟨fun e => na (by rw [← e]; exact hx), (h x).mp (.tail _ hx)⟩
    · rintro ⟨h1, h2⟩
      rcases List.mem_cons.mp ((h x).mpr h2) with e | e
      · exact absurd e h1
      · exact e
noncomputable def vD (v : Value) : D := kD (vK v)
theorem flv_of {hp : Heap} {v : Value} (h : FlatK v) : ItemAt hp v (vD v) := by
  unfold FlatK at h
  cases v with
  | int i t => rfl
  | str x t => rfl
  | _ => obtain ⟨t, e⟩ := (show ∃ t, _ = Value.int 0 t from h); cases e
theorem items_flat {h : Heap} : ∀ us : List Value, (∀ v ∈ us, FlatK v) → Items h us (us.map vD)
  | [], _ => .nil
  | u :: us, H => .cons (flv_of (H u (.head _))) (items_flat us fun v hv => H v (.tail _ hv))
theorem vals_flat : ∀ us : List Value, (∀ v ∈ us, FlatK v) → Vals ((us.map vK).map kV) us
  | [], _ => .nil
  | u :: us, H => .cons (H u (.head _)) (vals_flat us fun v hv => H v (.tail _ hv))
theorem kD_of {d : D} {k : Key} (h : keyZ d = some k) : kD k = d := by
  cases d with
  | int i => cases h; rfl
  | str x => cases h; rfl
  | _ => cases h
theorem kDs_of : ∀ {ds : List D} {ks : List Key}, keysZ ds = some ks → ks.map kD = ds
  | [], _, h => by cases h; rfl
  | d :: r, _, h => by
    obtain ⟨k, h1, h2⟩ := Option.bind_eq_some_iff.mp h
    obtain ⟨ks, h3, rfl⟩ := Option.map_eq_some_iff.mp h2
    rw [List.map_cons, kD_of h1, kDs_of h3]
theorem hom_of {ds : List D} {sg : List Nat} (h : ∀ d ∈ ds, sgQ d = some sg) : homQ ds = true := by
  cases ds with
  | nil => rfl
  | cons d r =>
    show ((sgQ d).isSome && r.all fun e => sgQ e == sgQ d) = true
    rw [h d (.head _), Bool.and_eq_true]
    exact ⟨rfl, List.all_eq_true.mpr fun e he => by rw [h e (.tail _ he)]; simp⟩
end P2
namespace P2
open PySem L2 PySem.Spec PySem.Calls PySem.W
open PyProof.Rows hiding St K
theorem sort_cong {ds es : List D} {sg : List Nat} (h : ds.Perm es) (hs : ∀ d ∈ es, sgQ d = some sg) : sortQL ds = sortQL es :=
  rising_uniq ((sortQL_perm _).trans (h.trans (sortQL_perm _).symm)) (fun d hd => hs d (h.mem_iff.mp ((sortQL_perm _).mem_iff.mp hd))) (sortQL_rising fun d hd => hs d (h.mem_iff.mp hd)) (sortQL_rising hs)
theorem sort_short {ds : List D} (h : ds.length < 2) : sortQL ds = ds := by
  match ds, h with
  | [], _ => rfl
  | [d], _ => rfl
  | _ :: _ :: r, w => simp at w; omega
noncomputable def sortS : D → R (List D)
  | .lst ds => match keysZ ds with
    | some ks => if homQ ds = true ∧ ds.length < 64 then .ok (sortQL ((dd ks).map kD)) else .bad
    | none => .bad
  | _ => .bad
section
variable {X : Cx} {E : XK} {e : Expr} {ta : TE} {f : Ev → R D} {p1 p2 pos pos2 : Pos}
theorem pe_sortedset (hc : X.calm = true) (he : PE X e ta) (hg : Gl X "sorted") (hm : X.mg "sorted" = none) (hg2 : Gl X "set") (hm2 : X.mg "set" = none)
    (hs : starEach [e] X.env = (false, eval e X.env) :: starEach [] X.env := by rfl) (hpl : (backTo pos2 (starEach [] X.env)).any (·.1) = false := by rfl)
    (hs2 : starEach [.Call (.Name "set" p2) [e] [] pos2] X.env = (false, eval (.Call (.Name "set" p2) [e] [] pos2) X.env) :: starEach [] X.env := by rfl) (hpl2 : (backTo pos (starEach [] X.env)).any (·.1) = false := by rfl) :
    PE X (.Call (.Name "sorted" p1) [.Call (.Name "set" p2) [e] [] pos2] [] pos) (fun σ H Q => ta σ H fun x0 H1 => ∃ x, [x0] = [x] ∧ ∃ (l : Addr) (vs : List V) (ds : List D) (al : Addr → Prop) (ks : List Key), x = .ref l ∧ SqL X.K H1 l vs ∧ Reps X.K al H1 vs ds ∧ keysZ ds = some ks ∧ homQ ds = true ∧ ds.length < 64 ∧ ∀ p ws, H1 p = none → Reps X.K al H1 ws (sortQL ((dd ks).map kD)) → Q (.ref p) (upd H1 p (.lst ws))) := by
  intro pins s σ H Q I h
  refine wpAny_Call_Name_kw (ld_blt I hg hm bt_sorted ?_)
  refine PyProof.Rows.callWith_builtin1 ?_ hs2 hpl2
  rw [hs2]
  show wpAny _ _ (spliced ((false, eval (.Call (.Name "set" p2) [e] [] pos2) X.env) :: backTo pos (starEach [] X.env))) _ _ s
  refine Calls.spliced_cons ?_
  refine wpAny_Call_Name_kw (ld_blt I hg2 hm2 bt_set ?_)
  have PA1 : PA X [e] (tCons ta tNil) := pa_cons he pa_nil hs
  refine PyProof.Rows.callWith_type1 (thn (PA1 pos2 pins s σ H (fun vs0 H1 => ∃ x, vs0 = [x] ∧ ∃ (l : Addr) (vs : List V) (ds : List D) (al : Addr → Prop) (ks : List Key), x = .ref l ∧ SqL X.K H1 l vs ∧ Reps X.K al H1 vs ds ∧ keysZ ds = some ks ∧ homQ ds = true ∧ ds.length < 64 ∧ ∀ p ws, H1 p = none → Reps X.K al H1 ws (sortQL ((dd ks).map kD)) → Q (.ref p) (upd H1 p (.lst ws))) I h) fun us s1 ⟨vs0, H1, I1, r1, q1⟩ => ?_) hs hpl
  obtain ⟨x, rfl, l, vs, ds, al, ks, rfl, hl, rv, hk, hh, h64, q⟩ := q1
  obtain ⟨u, rfl, ru⟩ := vals1 r1
  obtain rfl : u = Value.ref l := ru
  obtain ⟨its, vv, pl, hz⟩ := I1.list hl
  have ev := keysZ_rep rv hk
  subst ev
  have eds := kDs_of hk
  obtain ⟨sg, hsg⟩ := homQ_all hh
  have lds : ds.length = ks.length := by rw [← eds, List.length_map]
  have lits : its.length = ks.length := by have := vv.length; rw [List.length_map] at this; exact this.symm
  have sb : scanBound = 4096 := rfl
  refine call_setV (A := X.A) (items := its.toArray) (ks := ks) (I1.ok.hd hc) pl.isList (by simpa using vv) (by rw [List.size_toArray]; omega) fun h' tk js SV mem ext => ?_
  have ext' : ∀ b o, s1.heap.get? b = some o → h'.get? b = some o := fun b o e => ext b o (Heap.lt_size e) e
  have I2 : Inv X pins σ H1 { s1 with heap := h', toks := tk } := I1.kept (t' := tk) ext'
  refine Calls.spliced_nil ?_
  obtain ⟨o, es, ep, t, ho, hex, hd, el, hn, hf, tok, nod, hmem⟩ := SV
  have kperm : (keysE es.toList).Perm (dd ks) := perm_nd nod (nodup_dd ks) fun x => by rw [hmem x, mem x, mem_dd]
  have dsg : ∀ d ∈ (dd ks).map kD, sgQ d = some sg := fun d hd => by
    obtain ⟨k, hk1, rfl⟩ := List.mem_map.mp hd
    exact hsg _ (by rw [← eds]; exact List.mem_map.mpr ⟨k, (mem_dd k ks).mp hk1, rfl⟩)
  have sl := sizeLine_eq
  have hn' : es.size ≤ its.length := by simpa using hn
  have good : ∀ us : List Value, us.Perm (es.toList.map Prod.snd) → (∀ v ∈ us, FlatK v) ∧ (us.map vD).Perm ((dd ks).map kD) ∧ us.length < 64 := fun us hp => by
    have fl : ∀ v ∈ us, FlatK v := fun v hv => by
      obtain ⟨e, he, rfl⟩ := List.mem_map.mp (hp.mem_iff.mp hv)
      exact (el e he).1
    have p1 : (us.map vK).Perm (dd ks) := by
      have := hp.map vK
      rw [List.map_map] at this
      exact this.trans kperm
    refine ⟨fl, ?_, ?_⟩
    · have := p1.map kD
      rw [List.map_map] at this
      exact this
    · have := p1.length_eq
      rw [List.length_map] at this
      have := len_dd ks
      omega
  refine srt_callS (A := X.A) (s := { s1 with heap := h', toks := tk }) (Gd := fun us => us.Perm (es.toList.map Prod.snd)) (G := fun out => ∃ ws, Vals ws out.toList ∧ Reps X.K al H1 ws (sortQL ((dd ks).map kD))) (I2.ok.hd hc)
    (fun B Q' hB hq => set_collect hB ⟨o, ho, hex, hd, hf⟩ tok (by omega) fun h2 tk2 d us hp e2 s2 => hq h2 tk2 d us hp e2 s2)
    (fun us hp => by have := (good us hp).2.2; omega) (fun us hp h2 => ?_) (fun us hp h2 t' kp B => ?_) fun out p h3 tk3 ep3 d hz3 hG hp3 kp3 he3 => ?_
  · obtain ⟨fl, pm, _⟩ := good us hp
    refine ⟨(us.map vK).map kV, by simpa using vals_flat us fl, ?_⟩
    rw [← sort_cong pm dsg, sort_short (by rw [List.length_map]; exact h2)]
    have := reps_kD (K := X.K) (al := al) (H := H1) (us.map vK)
    rw [List.map_map (f := vK) (g := kD)] at this
    exact this
  · obtain ⟨fl, pm, l64⟩ := good us hp
    have sgu : ∀ d ∈ us.map vD, sgQ d = some sg := fun d hd => dsg d (pm.mem_iff.mp hd)
    have := srt_items (prog := X.prog) (w := X.w) (s := t') (items_flat us fl) (hom_of sgu) h2 l64 B
    refine wpAny_mono this (fun κ t1 hk => ⟨hk.1, wpAny_mono hk.2 (fun r t2 hr => ⟨hr.1, hr.2.1, hr.2.2.1, ?_⟩) fun _ _ x => x⟩) fun _ _ x => x
    obtain ⟨pp, g1, g2, g3⟩ := hr.2.2.2
    have al1 := inr_all g1
    rw [List.length_map] at al1
    have fo : ∀ v ∈ outs us pp, FlatK v := fun v hv => by
      unfold outs at hv
      obtain ⟨i, hi, rfl⟩ := List.mem_map.mp hv
      have hlt := al1 i hi
      rw [List.getD_eq_getElem?_getD, List.getElem?_eq_getElem hlt, Option.getD_some]
      exact fl _ (List.getElem_mem hlt)
    refine ⟨((outs us pp).map vK).map kV, by rw [g2]; exact vals_flat _ fo, ?_⟩
    rw [← sort_cong pm dsg, ← g3]
    have e9 : (outs us pp).map vD = outD (us.map vD) pp := by
      unfold outs outD
      rw [List.map_map]
      refine List.map_congr_left fun i hi => ?_
      have hlt := al1 i hi
      show vD (us.getD i .none) = (us.map vD).getD i .non
      rw [List.getD_eq_getElem?_getD, List.getD_eq_getElem?_getD, List.getElem?_map, List.getElem?_eq_getElem hlt]
      rfl
    rw [← e9]
    have := reps_kD (K := X.K) (al := al) (H := H1) ((outs us pp).map vK)
    rw [List.map_map (f := vK) (g := kD)] at this
    exact this
  · obtain ⟨ws, hw, hr⟩ := hG
    have lw : ws.length ≤ sizeLine := by
      have := hw.length
      simp only [Array.length_toList] at this
      omega
    have new : ObjOk X.prog X.w (upd H1 p (.lst ws)) h3 p (.lst ws) := ⟨lw, out.toList, ep3, hw, by rw [Array.toArray_toList]; exact he3⟩
    have I3 : Inv X pins σ (upd H1 p (.lst ws)) { s1 with heap := h3, toks := tk3, drawn := d } :=
      Inv.call (s := { s1 with heap := h', toks := tk }) (g' := s1.gens) (t' := tk3) (d' := d) (ch := []) I2 (Un.laid kp3 hp3 (I2.hok.fresh hp3)) (I2.hok.laid kp3 hp3 new) I2.bare (fun b hb => by simp at hb)
    exact ⟨.ref p, _, I3, rfl, q p ws (I2.hok.fresh hp3) hr⟩
theorem dn_sortedset (hc : X.calm = true) (hg : Gl X "sorted") (hm : X.mg "sorted" = none) (hg2 : Gl X "set") (hm2 : X.mg "set" = none) (he : DE X E e f)
    (hs : starEach [e] X.env = (false, eval e X.env) :: starEach [] X.env := by rfl) (hpl : (backTo pos2 (starEach [] X.env)).any (·.1) = false := by rfl)
    (hs2 : starEach [.Call (.Name "set" p2) [e] [] pos2] X.env = (false, eval (.Call (.Name "set" p2) [e] [] pos2) X.env) :: starEach [] X.env := by rfl) (hpl2 : (backTo pos (starEach [] X.env)).any (·.1) = false := by rfl) :
    DN X E (.Call (.Name "sorted" p1) [.Call (.Name "set" p2) [e] [] pos2] [] pos) (fun ρ => (f ρ).bind sortS) := by
  obtain ⟨t, p, r⟩ := he
  refine ⟨_, pe_sortedset hc p hg hm hg2 hm2 hs hpl hs2 hpl2, fun P H0 al H σ ρ Q s h => r _ _ _ _ _ _ _ s (Aft.mono (Aft.split h) fun d H1 s1 h1 v rv => ⟨v, rfl, ?_⟩)⟩
  unfold sortS at h1
  split at h1
  · rename_i ds
    split at h1
    · rename_i ks hk
      split at h1
      · rename_i z
        obtain ⟨l, vs, rfl, hl, rvs⟩ := rv.lstIn
        exact ⟨l, vs, ds, al, ks, rfl, hl, rvs, hk, z.1, z.2, fun p ws hp hw => h1 H1 (.refl H1) p ws hp hw⟩
      · exact h1.elim
    · exact h1.elim
  · exact h1.elim
end
end P2
namespace P2
open PySem L2 PySem.Spec PySem.Calls PySem.W
open PyProof.Rows hiding St K
section
variable {X : Cx} {E : XK} {e : Expr} {f : Ev → R D} {pos : Pos}
theorem mt_extendS : MtM X "list.extend" (fun x vs H Q => ∃ l b xs zs, x = .ref l ∧ vs = [.ref b] ∧ H l = some (.lst xs) ∧ SqL X.K H b zs ∧ xs.length + zs.length ≤ sizeLine ∧ Q .non (upd H l (.lst (xs ++ zs)))) := by
  intro pins s σ H x vs v us Q I rx rv h
  obtain ⟨l, b, xs, zs, rfl, rfl, hH, hB, hz, q⟩ := h
  cases rx
  obtain ⟨u, rfl, ru⟩ := rv.one
  cases ru
  obtain ⟨z, its, n, r, hl, e⟩ := I.lstM hH
  obtain ⟨its2, r2, pl, hz2⟩ := I.list hB
  have hl2 := r2.length
  obtain ⟨ob, hob, hcb, nb, hdb⟩ := pl.isList
  refine wpAny_call_entry PySem.F.slot_list_extend ⟨_, e, rfl⟩ PySem.F.entry_list_extend ?_ (PySem.F.args_list_extend_2 _ _)
  show wpAny _ _ (Builtin.List.listExtendWith (.ref l) (.ref b) .none) _ _ s
  unfold Builtin.List.listExtendWith
  refine wpAny_bind (wpAny_typeOf (T := "list") ⟨ob, hob, hcb⟩ ?_)
  have ht : (Value.type "list" == Value.type "list") = true := by rfl
  rw [if_pos (by rw [ht]; simp)]
  refine wpAny_bind (listItems_at hob hdb ?_)
  refine wpAny_bind (listItems_at e rfl ?_)
  rw [if_neg (by rw [notLongL (by rw [List.size_toArray, List.size_toArray]; omega), Bool.and_false]; exact Bool.false_ne_true)]
  refine wpAny_bind (listUpdate_at e rfl ?_ (by rw [List.size_toArray]; omega) (by simp only [Array.size_append, List.size_toArray]; omega))
  refine wpAny_pure ⟨_, rfl, ?_⟩
  refine ⟨.non, _, I.lset (its' := its ++ its2) hH e (by simp) (r.append r2) ?_, rfl, q⟩
  rw [List.length_append]
  omega
noncomputable def sExt (i : Nat) (f : Ev → R D) : Ev → RT := fun ρ => match ρ[i]? with
  | some (.ow ds) => toS (f ρ) fun d => (match d with
    | .lst es => if ds.length + es.length ≤ sizeLine then .nx (ρ.set i (.ow (ds ++ es))) else .bad
    | _ => .bad)
  | _ => .bad
theorem ds_extend (i : Nat) {x : Str} {opos apos cpos : Pos} (he : DE X E e f)
    (hN : X.N[i]? = some x := by rfl) (hv : Vis X.env.scope x := by first | exact Or.inl rfl | exact Or.inr (Or.inl rfl) | exact Or.inr (Or.inr rfl)) (hd : (x == ("__debug__" : Str)) = false := by decide)
    (hcd : (x == ("__classdict__" : Str)) = false := by decide)
    (hbase : attributeBase (.Name x opos) "extend" X.env (eval (.Name x opos) X.env) = eval (.Name x opos) X.env := by rfl)
    (hfew : ((backTo cpos (starEach [e] X.env)).all (fun x => !x.1) && (backToKw cpos (keywordEach [] X.env)).all (fun x => x.1.isSome)
      && decide ([e].length + ([] : List Keyword).length + (if ([] : List Keyword).isEmpty then 0 else 1) < 30)) = true := by rfl)
    (hline : (apos.endLine == cpos.line) = true := by rfl) (hs : starEach [e] X.env = (false, eval e X.env) :: starEach [] X.env := by rfl) (hplain : (backTo cpos (starEach [] X.env)).any (·.1) = false := by rfl)
    (hsw : swapsWith (.Call (.Attribute (.Name x opos) "extend" apos) [e] [] cpos) none pos.line X.env = pure false := by rfl) :
    DS X E (.Expr (.Call (.Attribute (.Name x opos) "extend" apos) [e] [] cpos) pos) (sExt i f) := by
  obtain ⟨t, p, r⟩ := he
  refine ⟨_, ps_expr (pe_bm PySem.F.plainAttrs_list PySem.F.slot_list_extend PySem.F.type_list_extend mt_extendS (pe_var hN hv hd hcd) (pa_cons p pa_nil hs) hbase hfew hline hs hplain) hsw, fun P H0 al H σ ρ D s h => ?_⟩
  unfold sExt at h
  split at h
  · rename_i ds q
    obtain ⟨a, vs, e1, e2, e3, e4, e5⟩ := s.ow i ds q
    refine ⟨_, e1, .inl ⟨rfl, vs, .inl (.inl e2)⟩, r _ _ _ _ _ _ _ s (Aft.mono (okS.ofR h s) fun d H1 s1 h1 v rv => ?_)⟩
    split at h1
    · rename_i es
      obtain ⟨b, ws, rfl, hb, rw'⟩ := rv.lstIn
      by_cases z : ds.length + es.length ≤ sizeLine
      · simp only [z, if_true] at h1
        obtain ⟨s2, x2⟩ := (s.grow s1).write q e1 ((e3.up s1).append rw')
        exact ⟨a, b, vs, ws, rfl, rfl, s1.at' _ _ nt_lst e2, hb, by rw [e3.length, rw'.length]; exact z, h1 _ _ _ x2 s2⟩
      · simp only [z, if_false] at h1
        exact h1.elim
    · exact h1.elim
  · exact h.elim
theorem preSum_take (ns : List Int) : ∀ k, k ≤ ns.length → preSum (fun i => ns.getD i 0) k = (ns.take k).sum
  | 0, _ => rfl
  | k + 1, hk => by
    have h1 := preSum_take ns k (by omega)
    have e : ns.take (k + 1) = ns.take k ++ [ns.getD k 0] := by
      rw [List.take_succ, List.getD_eq_getElem?_getD, List.getElem?_eq_getElem (show k < ns.length by omega)]; rfl
    rw [e, List.sum_append, ← h1]
    simp [preSum]
noncomputable def sumD : List D → R D
  | [.lst ds] => match intsO ds with
    | some ns => .ok (.int ns.sum)
    | none => .bad
  | _ => .bad
theorem bt_sum : bootBuiltins "sum" = some (.builtin "sum") := by decide +kernel
theorem call_sumD (hc : X.calm = true) : CallD X E (.builtin "sum") sumD := by
  refine ⟨fun xs H Q => ∃ (l : Addr) (ns : List Int), xs = [.ref l] ∧ SqL X.K H l (ns.map V.int) ∧ Q (.int ns.sum) H, ?_, fun al H xs ds Q fr rx h => ?_⟩
  · intro pins s σ H xs us Q I r h
    obtain ⟨l, ns, rfl, hl, q⟩ := h
    obtain ⟨u, rfl, ru⟩ := vals1 r
    obtain rfl : u = Value.ref l := ru
    obtain ⟨its, vv, pl, hz⟩ := I.list hl
    have hi := ints_of_vals vv
    have hlen := vv.length
    rw [List.length_map] at hlen
    have hll : l < s.heap.objs.size := by obtain ⟨o, ho, _⟩ := pl.isList; exact Heap.lt_size ho
    refine call_sum_walkG (wpAny_pyIter_list pl.isList ?_)
    refine ⟨s.heap.objs.size, [s.heap.objs.size, l], [s.heap.objs.size], its.toArray.size, fun i v => its.toArray[i]? = some v, _, fun i => ns.getD i 0, rfl, Walks.list (A := X.A.in1) (I.ok.hd hc) _ l (Nat.ne_of_lt hll) its.toArray, ⟨⟨_, Heap.get?_push_size _ rfl, rfl, rfl⟩, pl.isList.push _⟩, fun b hb => ?_, fun i v hv => ?_, fun h' tk t' k => ?_⟩
    · show b < (s.heap.push _).objs.size
      rw [Heap.size_push]
      rcases List.mem_cons.mp hb with rfl | hb
      · exact Nat.lt_succ_self _
      · rw [List.mem_singleton.mp hb]; exact Nat.lt_succ_of_lt hll
    · exact PyProof.Rows.IntsAre.int_at hi i v (by simpa using hv)
    · rw [show its.toArray.size = ns.length by rw [List.size_toArray]; exact hlen.symm, preSum_take ns ns.length (Nat.le_refl _), List.take_of_length_le (Nat.le_refl _)]
      refine ⟨.int _, H, I.kept (t' := tk) fun b o e => k b o (fun hm => ?_) (Heap.get?_push_of_some _ e), ⟨_, rfl⟩, q⟩
      rw [List.mem_singleton.mp hm] at e
      exact absurd (Heap.lt_size e) (Nat.lt_irrefl _)
  · unfold sumD at h
    split at h
    · rename_i ds0
      split at h
      · rename_i ns hn
        have e := intsO_map hn
        subst e
        obtain ⟨v, rfl, rv⟩ := Reps.one rx
        obtain ⟨l, vs, rfl, hl, rvs⟩ := rv.lstIn
        have ev := reps_ints_v rvs
        subst ev
        exact ⟨l, ns, rfl, hl, h H (.refl H) _ (.int _)⟩
      · exact h.elim
    · exact h.elim
end
end P2
namespace P2
open PySem L2 PySem.Spec PySem.Calls PySem.W
open PyProof.Rows hiding St K
noncomputable def mxI : List Int → Int
  | [] => 0
  | a :: r => r.foldl (fun m x => if m < x then x else m) a
noncomputable def btI (ns : List Int) (i j : Nat) : Bool := decide (ns.getD j 0 < ns.getD i 0)
theorem argBest_mx (ns : List Int) : ∀ k, k < ns.length → ns.getD (argBest (btI ns) k) 0 = mxI (ns.take (k + 1))
  | 0, h => by
    cases ns with
    | nil => simp at h
    | cons a r => rfl
  | k + 1, h => by
    have ih := argBest_mx ns k (by omega)
    have e : ns.take (k + 1 + 1) = ns.take (k + 1) ++ [ns.getD (k + 1) 0] := by
      rw [List.take_succ (i := k + 1), List.getD_eq_getElem?_getD, List.getElem?_eq_getElem h]; rfl
    have e2 : mxI (ns.take (k + 1) ++ [ns.getD (k + 1) 0]) = if mxI (ns.take (k + 1)) < ns.getD (k + 1) 0 then ns.getD (k + 1) 0 else mxI (ns.take (k + 1)) := by
      cases ns with
      | nil => simp at h
      | cons a r =>
        show mxI ((a :: r.take k) ++ [_]) = if mxI (a :: r.take k) < _ then _ else mxI (a :: r.take k)
        show ((r.take k) ++ [_]).foldl _ a = _
        rw [List.foldl_append]
        rfl
    rw [e, e2, ← ih]
    show ns.getD (if btI ns (k + 1) (argBest (btI ns) k) then k + 1 else argBest (btI ns) k) 0 = _
    by_cases hb : ns.getD (argBest (btI ns) k) 0 < ns.getD (k + 1) 0
    · rw [if_pos (show btI ns (k + 1) (argBest (btI ns) k) = true from decide_eq_true hb), if_pos hb]
    · rw [if_neg (show ¬ btI ns (k + 1) (argBest (btI ns) k) = true from fun z => hb (of_decide_eq_true z)), if_neg hb]
section
variable {prog : Program} {w : World} {A : Around} {R : Result → Shared → Prop} {I : Addr} {fp wr : List Addr} {n : Nat} {P : Nat → Value → Prop} {St : Nat → Heap → Prop} {dv : Value}
theorem max_loopD (W : Walks prog w A.in1 I fp wr n P St) (bt : Nat → Nat → Bool) (hcmp : CmpOf prog w A.in1 .Gt P bt) (S : Addr) (hSf : S ∉ fp) :
    ∀ (k j : Nat) (s : Shared) (vb : Value) (c : Nat), n - (j + 1) = k → j + 1 ≤ n → St (j + 1) s.heap → P (argBest bt j) vb →
    s.heap.get? S = some { cls := .type "list", dict := none, data := .seq #[vb, vb] c, slots := #[] } →
    (∀ v h' tk, P (argBest bt (n - 1)) v → (∀ b o, b ∉ wr → b ≠ S → s.heap.get? b = some o → h'.get? b = some o) → R (.ok (.ret v)) { s with heap := h', toks := tk }) →
    codeAny (model prog w) A (.builtin "max.loop" ⟨[.ref I, .none, .ref S], [(Str.ofString "default", dv)]⟩) R s := by
  have hSw : S ∉ wr := fun h => hSf (W.sub _ h)
  have hname : (toString "max" ++ toString ".loop" : String) = "max.loop" := by decide
  intro k
  induction k with
  | zero =>
    intro j s vb c hk hj hst hPb hS hR
    have hin : j + 1 = n := by omega
    refine codeAny_builtin PySem.F.entry_max_loop ?_
    rw [Around.under_plainId PySem.F.plain_max_loop _]
    show wpAny _ A.in1 (seqItems? (.ref S) >>= _) _ _ s
    refine wpAny_bind (wpAny_seqItems hS rfl ?_)
    show wpAny _ A.in1 (tryCatch (pyNext (.ref I)) _ >>= _) _ _ s
    refine wpAny_bind (wpAny_tryCatch (W.done s _ _ (hin ▸ hst) fun h' tk hk' => ?_))
    have hS' := hk' S _ hSw hS
    show wpAny _ A.in1 (updateSeq S (fun _ => #[]) >>= _) _ _ _
    refine wpAny_bind ?_
    refine wpAny_updateSeq hS' rfl (wpAny_bind (wpAny_letGo (wpAny_pure ?_)))
    refine hR vb _ tk (by rw [← hin]; exact hPb) fun b o hbw hbS e => (Heap.get?_update_other _ _ (Ne.symm hbS)).trans (hk' b o hbw e)
  | succ k ih =>
    intro j s vb c hk hj hst hPb hS hR
    have hlt : j + 1 < n := by omega
    refine codeAny_builtin PySem.F.entry_max_loop ?_
    rw [Around.under_plainId PySem.F.plain_max_loop _]
    show wpAny _ A.in1 (seqItems? (.ref S) >>= _) _ _ s
    refine wpAny_bind (wpAny_seqItems hS rfl ?_)
    show wpAny _ A.in1 (tryCatch (pyNext (.ref I)) _ >>= _) _ _ s
    refine wpAny_bind (wpAny_tryCatch (W.item (j + 1) s _ _ hlt hst fun v h' tk hP hst' hk' => ?_))
    have hS' := hk' S _ hSw hS
    show wpAny _ A.in1 (tryCatch (holding [v, v] (richCompare .Gt v vb >>= _)) _ >>= _) _ _ _
    refine wpAny_bind (wpAny_tryCatch (wpAny_holding (wpAny_bind (hcmp (j + 1) (argBest bt j) v vb _ _ _ hP hPb ?_))))
    refine wpAny_bind (wpAny_holding (wpAny_truthy_bool ?_))
    refine wpAny_bind (wpAny_letGo (wpAny_pure ?_))
    cases hb : bt (j + 1) (argBest bt j) with
    | true =>
      simp only [if_true]
      refine wpAny_bind ?_
      refine wpAny_updateSeq hS' rfl (wpAny_bind (wpAny_letGo ?_))
      rw [hname]
      refine wpAny_pure ⟨plainId_quiet PySem.F.plain_max_loop _, ih (j + 1) _ v _ (by omega) hlt (W.frame _ _ _ hst' fun b hbf o e => ?_) (by simp only [argBest, hb, if_true]; exact hP) (Heap.get?_update_self _ hS' rfl)
        fun v' h'' tk'' hP' hk'' => ?_⟩
      · exact (Heap.get?_update_other _ _ (fun h : S = b => hSf (by rw [h]; exact hbf))).trans e
      · exact hR v' h'' tk'' hP' fun b o hbw hbS e => hk'' b o hbw hbS ((Heap.get?_update_other _ _ (Ne.symm hbS)).trans (hk' b o hbw e))
    | false =>
      simp only [Bool.false_eq_true, if_false]
      refine wpAny_bind (wpAny_letGo ?_)
      rw [hname]
      refine wpAny_pure ⟨plainId_quiet PySem.F.plain_max_loop _, ih (j + 1) _ vb c (by omega) hlt hst' (by simp only [argBest, hb, Bool.false_eq_true, if_false]; exact hPb) hS' fun v' h'' tk'' hP' hk'' => ?_⟩
      exact hR v' h'' tk'' hP' fun b o hbw hbS e => hk'' b o hbw hbS (hk' b o hbw e)
end
theorem args_maxD (a d : Value) : argsOk "max" ⟨[a], [(Str.ofString "default", d)]⟩ := by unfold argsOk; kernel_rfl
section
variable {prog : Program} {w : World} {A : Around} {E : Value → Shared → Prop} {s : Shared} {l : Addr} {its : List Value} {ns : List Int} {dv : Value}
theorem cmp_ints {B : Around} (hi : IntsAre its ns) : CmpOf prog w B .Gt (fun i v => its.toArray[i]? = some v) (btI ns) := fun i j vi vj s Q E hvi hvj hQ => by
  obtain ⟨t, rfl⟩ := PyProof.Rows.IntsAre.int_at hi i vi (by simpa using hvi)
  obtain ⟨u, rfl⟩ := PyProof.Rows.IntsAre.int_at hi j vj (by simpa using hvj)
  exact PyProof.Rows.gt_int hQ
theorem max_dflt {Q : Value → Shared → Prop} (hh : A.handled = none) (hl : s.heap.IsList l its.toArray) (hi : IntsAre its ns)
    (hQ : ∀ h' tk t, ns ≠ [] → (∀ b o, s.heap.get? b = some o → h'.get? b = some o) → Q (.int (mxI ns) t) { s with heap := h', toks := tk })
    (hD : ∀ h' tk, ns = [] → (∀ b o, s.heap.get? b = some o → h'.get? b = some o) → Q dv { s with heap := h', toks := tk }) :
    wpAny (model prog w) A (call (.builtin "max") [.ref l] [(Str.ofString "default", dv)]) Q E s := by
  have hname : (toString "max" ++ toString ".loop" : String) = "max.loop" := by decide
  obtain ⟨ol, hol, _⟩ := id hl
  have hll : l < s.heap.objs.size := Heap.lt_size hol
  have hlen : its.length = ns.length := hi.length
  have hsz : its.toArray.size = its.length := List.size_toArray ..
  refine kmk_tree PySem.F.kind_max PySem.F.plain_max PySem.F.entry_max (args_maxD _ _) ?_
  show wpAny _ A.in1 (Builtin.Builtins.bindParams "max" ["key", "default"] 0 ⟨[], [(Str.ofString "default", dv)]⟩ >>= _) _ _ s
  refine wpAny_bind (wpAny_of_eq (show Builtin.Builtins.bindParams "max" ["key", "default"] 0 ⟨[], [(Str.ofString "default", dv)]⟩ = pure [none, some dv] from rfl) ?_)
  refine wpAny_bind (wpAny_pure ?_)
  refine wpAny_bind (wpAny_pyIter_list hl ?_)
  refine wpAny_bind (wpAny_newList ?_ (Nat.zero_le _))
  rw [hname]
  have W := Walks.list (prog := prog) (w := w) (A := A.in1) hh s.heap.objs.size l (Nat.ne_of_lt hll) its.toArray
  have st0 : ∀ h' : Heap, (∀ b o, (s.heap.push { cls := .type "list_iterator", data := .fields #[.ref l, .int 0 0] }).get? b = some o → h'.get? b = some o) → h'.IsListIter s.heap.objs.size l 0 ∧ h'.IsList l its.toArray := fun h' k => ⟨⟨_, k _ _ (Heap.get?_push_size _ rfl), rfl, rfl⟩, hl.at fun o e => k _ _ (Heap.get?_push_of_some _ e)⟩
  have sz1 : (s.heap.push { cls := .type "list_iterator", data := .fields #[.ref l, .int 0 0] }).objs.size = s.heap.objs.size + 1 := size_push' ..
  have k1 : ∀ b o, s.heap.get? b = some o → (s.heap.push { cls := .type "list_iterator", data := .fields #[.ref l, .int 0 0] }).get? b = some o := fun b o e => Heap.get?_push_of_some _ e
  generalize s.heap.push { cls := .type "list_iterator", data := .fields #[.ref l, .int 0 0] } = g at *
  have hSf : g.objs.size ∉ [s.heap.objs.size, l] := by
    rw [sz1]; simp only [List.mem_cons, List.not_mem_nil, or_false, not_or]
    exact ⟨Nat.ne_of_gt (Nat.lt_succ_self _), Nat.ne_of_gt (Nat.lt_succ_of_lt hll)⟩
  have gS : (g.push (seqObj "list" #[] 0)).get? g.objs.size = some (seqObj "list" #[] 0) := Heap.get?_push_size _ rfl
  have stg := st0 (g.push (seqObj "list" #[] 0)) fun b o e => Heap.get?_push_of_some _ e
  have fin : ∀ b o, s.heap.get? b = some o → b ∉ [s.heap.objs.size] ∧ b ≠ g.objs.size ∧ (g.push (seqObj "list" #[] 0)).get? b = some o := fun b o e =>
    ⟨fun hm => absurd (Heap.lt_size e) (by rw [List.mem_singleton.mp hm]; exact Nat.lt_irrefl _), fun z => absurd (Heap.lt_size e) (by rw [z, sz1]; exact Nat.not_lt.mpr (Nat.le_succ _)), Heap.get?_push_of_some _ (k1 b o e)⟩
  refine wpAny_pure ⟨plainId_quiet PySem.F.plain_max_loop _, ?_⟩
  refine codeAny_builtin PySem.F.entry_max_loop ?_
  rw [Around.under_plainId PySem.F.plain_max_loop _]
  show wpAny _ A.in1 (seqItems? (.ref g.objs.size) >>= _) _ _ _
  refine wpAny_bind (wpAny_seqItems gS rfl ?_)
  show wpAny _ A.in1 (tryCatch (pyNext (.ref s.heap.objs.size)) _ >>= _) _ _ _
  by_cases hne : ns = []
  · have e0 : its.toArray.size = 0 := by rw [hsz, hlen, hne]; rfl
    refine wpAny_bind (wpAny_tryCatch (W.done _ _ _ (by rw [e0]; exact stg) fun h' tk' hk' => ?_))
    show wpAny _ A.in1 (rule _ >>= _) _ _ _
    exact wpAny_bind (wpAny_rule (wpAny_pure (hD h' tk' hne fun b o e => hk' b o (fin b o e).1 (fin b o e).2.2)))
  · have hpos : 0 < ns.length := List.length_pos_iff.mpr hne
    refine wpAny_bind (wpAny_tryCatch (W.item 0 _ _ _ (by omega) stg fun v h' tk' hP hst' hk' => ?_))
    have hS' := hk' g.objs.size _ (by rw [List.mem_singleton, sz1]; exact Nat.ne_of_gt (Nat.lt_succ_self _)) gS
    show wpAny _ A.in1 (updateSeq g.objs.size (fun _ => #[v, v]) >>= _) _ _ _
    refine wpAny_bind ?_
    refine wpAny_updateSeq hS' rfl ?_
    rw [hname]
    refine wpAny_pure ⟨plainId_quiet PySem.F.plain_max_loop _, max_loopD W (btI ns) (cmp_ints hi) g.objs.size hSf _ 0 _ v _ rfl (by omega) (W.frame _ _ _ hst' fun b hbf o e => ?_) hP (Heap.get?_update_self _ hS' rfl) fun v' h'' tk'' hP' hk'' => ?_⟩
    · exact (Heap.get?_update_other _ _ (fun h : g.objs.size = b => hSf (by rw [h]; exact hbf))).trans e
    · obtain ⟨t', rfl⟩ := PyProof.Rows.IntsAre.int_at hi _ v' (by simpa using hP')
      have em := argBest_mx ns (ns.length - 1) (by omega)
      rw [show ns.length - 1 + 1 = ns.length by omega, List.take_of_length_le (Nat.le_refl _)] at em
      rw [show its.length = ns.length from hlen, em]
      exact hQ h'' tk'' t' hne fun b o e => hk'' b o (fin b o e).1 (fin b o e).2.1 ((Heap.get?_update_other _ _ (Ne.symm (fin b o e).2.1)).trans (hk' b o (fin b o e).1 (fin b o e).2.2))
end
end P2
namespace P2
open PySem L2 PySem.Spec PySem.Calls PySem.W
open PyProof.Rows hiding St K
section
variable {X : Cx} {E : XK} {e de : Expr} {fa fb : Ev → R D} {pos p0 p3 : Pos}
noncomputable def maxD : List D → R D
  | [.lst ds] => match intsO ds with
    | some ns => if ns.isEmpty then .bad else .ok (.int (mxI ns))
    | none => .bad
  | _ => .bad
theorem call_maxD (hc : X.calm = true) : CallD X E (.builtin "max") maxD := by
  refine ⟨fun xs H Q => ∃ (l : Addr) (ns : List Int), xs = [.ref l] ∧ ns ≠ [] ∧ SqL X.K H l (ns.map V.int) ∧ Q (.int (mxI ns)) H, ?_, fun al H xs ds Q fr rx h => ?_⟩
  · intro pins s σ H xs us Q I r h
    obtain ⟨l, ns, rfl, hne, hl, q⟩ := h
    obtain ⟨u, rfl, ru⟩ := vals1 r
    obtain rfl : u = Value.ref l := ru
    obtain ⟨its, vv, pl, hz⟩ := I.list hl
    have hi := ints_of_vals vv
    have hlen := vv.length
    rw [List.length_map] at hlen
    have hll : l < s.heap.objs.size := by obtain ⟨o, ho, _⟩ := pl.isList; exact Heap.lt_size ho
    have hsz : its.toArray.size = ns.length := by rw [List.size_toArray]; exact hlen.symm
    have hpos : 0 < ns.length := List.length_pos_iff.mpr hne
    refine call_max_walk (wpAny_pyIter_list pl.isList ?_)
    refine ⟨s.heap.objs.size, [s.heap.objs.size, l], [s.heap.objs.size], its.toArray.size, fun i v => its.toArray[i]? = some v, _, btI ns, rfl, Walks.list (A := X.A.in1) (I.ok.hd hc) _ l (Nat.ne_of_lt hll) its.toArray, ⟨⟨_, Heap.get?_push_size _ rfl, rfl, rfl⟩, pl.isList.push _⟩, fun b hb => ?_, by rw [hsz]; exact hpos, cmp_ints hi, fun v h' tk hP k => ?_⟩
    · show b < (s.heap.push _).objs.size
      rw [Heap.size_push]
      rcases List.mem_cons.mp hb with rfl | hb
      · exact Nat.lt_succ_self _
      · rw [List.mem_singleton.mp hb]; exact Nat.lt_succ_of_lt hll
    · obtain ⟨t', rfl⟩ := PyProof.Rows.IntsAre.int_at hi _ v (by simpa using hP)
      have em := argBest_mx ns (ns.length - 1) (by omega)
      rw [show ns.length - 1 + 1 = ns.length by omega, List.take_of_length_le (Nat.le_refl _)] at em
      rw [show its.length = ns.length from hlen.symm, em]
      refine ⟨.int _, H, I.kept (t' := tk) fun b o e => k b o (fun hm => ?_) (Heap.get?_push_of_some _ e), ⟨_, rfl⟩, q⟩
      rw [List.mem_singleton.mp hm] at e
      exact absurd (Heap.lt_size e) (Nat.lt_irrefl _)
  · unfold maxD at h
    split at h
    · rename_i ds0
      split at h
      · rename_i ns hn
        by_cases z : ns.isEmpty = true
        · rw [if_pos z] at h; exact h.elim
        · rw [if_neg z] at h
          have e := intsO_map hn
          subst e
          obtain ⟨v, rfl, rv⟩ := Reps.one rx
          obtain ⟨l, vs, rfl, hl, rvs⟩ := rv.lstIn
          have ev := reps_ints_v rvs
          subst ev
          exact ⟨l, ns, rfl, fun z' => z (by rw [z']; rfl), hl, h H (.refl H) _ (.int _)⟩
      · exact h.elim
    · exact h.elim
noncomputable def maxdD (d : D) : D → R D
  | .lst ds => match intsO ds with
    | some ns => if ns.isEmpty then .ok d else .ok (.int (mxI ns))
    | none => .bad
  | _ => .bad
noncomputable def dMaxd (fa fb : Ev → R D) : Ev → R D := fun ρ => (fa ρ).bind fun d1 => (fb ρ).bind fun d2 => maxdD d2 d1
theorem de_maxd (hc : X.calm = true) (hgx : Gl X "max") (hmx : X.mg "max" = none) (he : DE X E e fa) (hd : DE X E de fb)
    (hs : starEach [e] X.env = (false, eval e X.env) :: starEach [] X.env := by rfl) (hst : backTo pos (starEach [e] X.env) = (false, eval e X.env) :: backTo pos (starEach [] X.env) := by rfl) (hplain : (backTo pos (starEach [e] X.env)).any (·.1) = false := by rfl) :
    DE X E (.Call (.Name "max" p0) [e] [⟨some (Str.ofString "default"), de, p3⟩] pos) (dMaxd fa fb) := by
  obtain ⟨ta, pa, ra⟩ := he
  obtain ⟨tb, pb, rb⟩ := hd
  refine ⟨fun σ H Q => ta σ H fun x0 H1 => ∃ x, [x0] = [x] ∧ tb σ H1 fun y H2 => ∃ (l : Addr) (ns : List Int), x = .ref l ∧ SqL X.K H2 l (ns.map V.int) ∧
    (ns ≠ [] → Q (.int (mxI ns)) H2) ∧ (ns = [] → Q y H2), fun pins s σ H Q I h => ?_, fun P H0 al H σ ρ Q s h => ?_⟩
  · refine wpAny_Call_Name_kw (ld_blt I hgx hmx bt_max ?_)
    refine callWith_kw ?_ hst hplain
    have PA1 : PA X [e] (tCons ta tNil) := pa_cons pa pa_nil hs
    refine thn (PA1 pos pins s σ H (fun vs H1 => ∃ x, vs = [x] ∧ tb σ H1 fun y H2 => ∃ (l : Addr) (ns : List Int), x = .ref l ∧ SqL X.K H2 l (ns.map V.int) ∧
      (ns ≠ [] → Q (.int (mxI ns)) H2) ∧ (ns = [] → Q y H2)) I h) fun us s1 ⟨vs0, H1, I1, r1, q1⟩ => ?_
    obtain ⟨x, rfl, q1⟩ := q1
    obtain ⟨u, rfl, ru⟩ := vals1 r1
    refine kws_cons (thn (pb pins s1 σ H1 _ I1 q1) fun w s2 ⟨y, H2, I2, r2, q2⟩ => ?_)
    refine kws_nil ?_
    obtain ⟨l, ns, rfl, hl, q3, q4⟩ := q2
    obtain rfl : u = Value.ref l := ru
    obtain ⟨its, vv, pl, hz⟩ := I2.list hl
    exact max_dflt (I2.ok.hd hc) pl.isList (ints_of_vals vv) (fun h' tk t hne k => ⟨.int _, H2, I2.kept (t' := tk) k, ⟨_, rfl⟩, q3 hne⟩)
      (fun h' tk h0 k => ⟨y, H2, I2.kept (t' := tk) k, r2, q4 h0⟩)
  · refine ra _ _ _ _ _ _ _ s (Aft.mono (Aft.split h) fun d1 H1 s1 h1 v rv => ⟨v, rfl, rb _ _ _ _ _ _ _ (s.grow s1) (Aft.mono (Aft.split h1) fun d2 H2 s2 h2 y ry => ?_)⟩)
    unfold maxdD at h2
    split at h2
    · rename_i ds
      split at h2
      · rename_i ns hn
        have e := intsO_map hn
        subst e
        obtain ⟨l, vs, rfl, hl, rvs⟩ := (rv.up s2).lstIn
        have ev := reps_ints_v rvs
        subst ev
        refine ⟨l, ns, rfl, hl, fun hne => ?_, fun h0 => ?_⟩
        · rw [if_neg (by simpa using hne)] at h2
          exact h2 H2 (.refl H2) _ (.int _)
        · subst h0
          exact h2 H2 (.refl H2) y ry
      · exact h2.elim
    · exact h2.elim
end
end P2
namespace P2
open PySem L2
section
variable {K : PySem.W.Frag} {P al : Addr → Prop} {H0 H H' : Hp} {σ : St} {ρ : Ev}
theorem RS.hide (r : RS K P H0 al H σ ρ) {p : Addr} {vs : List V} (hp : H p = none) : RS K P H0 (fun b => al b ∧ b ≠ p) (upd H p (.lst vs)) σ ρ := by
  have x : Xt al H (fun b => al b ∧ b ≠ p) (upd H p (.lst vs)) := fun b o _ hb e => ⟨⟨hb, ne_of_none e hp⟩, by rw [upd_ne (ne_of_none e hp)]; exact e⟩
  have s := same_upd (K := K) (o := HO.lst vs) hp
  refine ⟨r.same.trans s, s.tt r.tt, fun b hb => ?_, fun b hb => r.sub b hb.1, r.pf, r.len, fun j d h => ?_, fun j ds' h => ?_, r.apart⟩
  · refine ⟨r.fresh b (s.free hb), fun z => ?_⟩
    rw [z, upd_same] at hb; cases hb
  · obtain ⟨v, e1, e2⟩ := r.sh j d h
    exact ⟨v, e1, e2.mv x⟩
  · obtain ⟨a, us, e1, e2, e3, e4, e5⟩ := r.ow j ds' h
    exact ⟨a, us, e1, s.at' _ _ nt_lst e2, e3.mv x, fun w => e4 w.1, e5⟩
end
noncomputable def dCallN (F : List Z → Sto → RX Z) (fn : Ev → R (List D)) (f2 : Ev → R D) : Ev → R D := fun ρ => (fn ρ).bind fun ds => (f2 ρ).bind fun d => clo (F [.loc 0, .d d] [.li (ds.map .d)])
section
variable {X : Cx} {E : XK} {e1 e2 : Expr} {fn : Ev → R (List D)} {f2 : Ev → R D} {x : Str} {p pos : Pos} {k : Nat} {ps : List Str} {F : List Z → Sto → RX Z}
theorem de_callN (G : Has X.prog X.w X.K X.mg X.base (CXx X.prog X.w) k x ps (spZ 2 X.K F)) (hr : Room k X.A) (hg : Gl X x) (hx : Passes (CXx X.prog X.w) X E) (h1 : DN X E e1 fn) (h2 : DE X E e2 f2) (hdb : (x == ("__debug__" : Str)) = false := by decide)
    (he : starEach (e1 :: [e2]) X.env = (false, eval e1 X.env) :: starEach [e2] X.env := by rfl) (he2 : starEach [e2] X.env = (false, eval e2 X.env) :: starEach [] X.env := by rfl) (hpl : (backTo pos (starEach [e2] X.env)).any (·.1) = false := by rfl) :
    DE X E (.Call (.Name x p) (e1 :: [e2]) [] pos) (dCallN F fn f2) := by
  obtain ⟨t1, p1, r1⟩ := h1
  obtain ⟨t2, p2, r2⟩ := h2
  refine ⟨_, pe_has G hr hg hx (pa_cons p1 (pa_cons p2 pa_nil he2) he) hdb he hpl, fun P H0 al H σ ρ Q s h => r1 _ _ _ _ _ _ _ s (Aft.mono (Aft.split h) fun ds H1 s1 h1 a vs ha rv => ?_)⟩
  have s2 := s.grow s1
  have s3 := s2.hide (vs := vs) ha
  have x1 : Xt al H1 (fun b => al b ∧ b ≠ a) (upd H1 a (.lst vs)) := fun b o _ hb e => ⟨⟨hb, ne_of_none e ha⟩, by rw [upd_ne (ne_of_none e ha)]; exact e⟩
  have sm := same_upd (K := X.K) (o := HO.lst vs) ha
  refine r2 _ _ _ _ _ _ _ s3 ?_
  cases q : f2 ρ with
  | bad => rw [q] at h1; exact h1.elim
  | ex c ns es => rw [q] at h1; exact fun dx H' sx xr => h1 dx H' (sm.trans sx) (xr.mv (.sub fun b hb => hb.1))
  | ok d =>
    rw [q] at h1
    intro H2 s4 v rd
    have s5 := s3.grow s4
    show spZ 2 X.K F [.ref a, v] H2 Q E
    have xt4 : Xt (fun b => al b ∧ b ≠ a) (upd H1 a (.lst vs)) (fun b => al b ∧ b ≠ a) H2 := .of s4
    have aa : H2 a = some (.lst vs) := s4.at' _ _ nt_lst upd_same
    have lo0 : ∀ n b, (fun n => if n = 0 then some a else none : Lo) n = some b → n = 0 ∧ b = a := fun n b h => by
      dsimp only at h
      split at h
      · cases h; exact ⟨by assumption, rfl⟩
      · cases h
    have st : StOk X.K (fun b => al b ∧ b ≠ a) (fun n => if n = 0 then some a else none) H2 [.li (ds.map .d)] :=
      { at' := fun n b h => by
          obtain ⟨rfl, rfl⟩ := lo0 n b h
          exact ⟨_, rfl, vs, aa, RepZs.ofD ((rv.mv x1).mv xt4)⟩
        has := fun n c h _ _ => by
          cases n with
          | zero => exact ⟨a, rfl⟩
          | succ n => simp at h
        na := fun n b h w => w.2 (lo0 n b h).2
        inj := fun m n b h h' => by rw [(lo0 m b h).1, (lo0 n b h').1]
        tl := fun h => by cases h }
    refine ⟨rfl, s5.tt, fun b => al b ∧ b ≠ a, fun n => if n = 0 then some a else none, [.loc 0, .d d], [.li (ds.map .d)], s5.fresh, st, .cons ⟨a, rfl, rfl⟩ (.cons rd .nil), ?_⟩
    have same : ∀ {al' lo' H' S'}, EZ X.K ⟨H2, fun b => al b ∧ b ≠ a, fun n => if n = 0 then some a else none, 1⟩ al' lo' H' S' → Same X.K H1 H' := fun e => ⟨fun b o no hb => e.fr b o no (s4.at' _ _ no (by rw [upd_ne (ne_of_none hb ha)]; exact hb)) fun n z => (ne_of_none hb ha) (lo0 n b z).2, fun b hb => sm.free (s4.free (e.hf b hb)), fun _ => e.tt⟩
    have sub : ∀ {al' lo' H' S'}, EZ X.K ⟨H2, fun b => al b ∧ b ≠ a, fun n => if n = 0 then some a else none, 1⟩ al' lo' H' S' → ∀ b, al' b → al b := fun e b hb => (e.sb b hb).elim (fun z => z.1) (fun z => (s5.fresh b z).1)
    cases q2 : F [.loc 0, .d d] [.li (ds.map .d)] with
    | bad => exfalso; have := h1; simp only [R.bind, q2, clo] at this; exact this
    | ex c ns es S1 =>
      intro al' lo' H' dx ez xr
      have h4 := h1
      simp only [R.bind, q2, clo] at h4
      exact h4 dx H' (same ez) (xr.mv (.sub (sub ez)))
    | ok z S1 =>
      have h4 := h1
      simp only [R.bind, q2] at h4
      cases z with
      | loc m => exact h4.elim
      | tk ks => exact h4.elim
      | d y => exact fun al' lo' H' v' ez rv' => h4 H' (same ez) v' (Rep.mv (.sub (sub ez)) rv')
end
end P2
namespace WP
open PySem L2 P2
structure Ad where
  WeatherError : Addr := 0
  NoFraction : Addr := 0
  NoText : Addr := 0
  Twice : Addr := 0
  TooMany : Addr := 0
  NoRow : Addr := 0
  Tokens : Addr := 0
  Book : Addr := 0
  Sight : Addr := 0
  Desk : Addr := 0
  fI_row : Addr := 0
  fI_mast : Addr := 0
  fI_most : Addr := 0
  isx : Addr → Value → Option Bool := fun _ _ => none
noncomputable def g_inner_parts (a : Ad) : Ev → RT := (sSeq (sIf (b1 tB (d2 inLD (d2 ixD (dV 0) (dC (.int 0))) (dA mkT (aCons (dC (.str "+")) (aCons (dC (.str "-")) (aCons (dC (.str "<")) (aCons (dC (.str "=")) (aCons (dC (.str "and")) (aCons (dC (.str "or")) aNil))))))))) (sRet (asN (fun ρ => ((aCons (d2 ixD (dV 0) (dC (.int 1))) (aCons (d2 ixD (dV 0) (dC (.int 2))) aNil)) ρ).bind fitL))) sNil)
    (sSeq (sIf (b1 tB (d2 eqSD (d2 ixD (dV 0) (dC (.int 0))) (dC (.str "times")))) (sRet (asN (fun ρ => ((aCons (d2 ixD (dV 0) (dC (.int 2))) aNil) ρ).bind fitL))) sNil)
    (sSeq (sIf (b1 tB (d2 inLD (d2 ixD (dV 0) (dC (.int 0))) (dA mkT (aCons (dC (.str "abs")) (aCons (dC (.str "not")) aNil))))) (sRet (asN (fun ρ => ((aCons (d2 ixD (dV 0) (dC (.int 1))) aNil) ρ).bind fitL))) sNil)
    (sRet (asN (fun ρ => (aNil ρ).bind fitL))))))
end WP
namespace WP
open PySem L2 P2
noncomputable def g_law_cell_at (a : Ad) : Ev → RT := (sSeq (sIf (b1 tB (d2 ltD (dV 1) (dA lenD (aCons (dV 0) aNil)))) (sRet (d2 ixD (dV 0) (dV 1))) sNil)
    (sRet (dC (.int 0))))
noncomputable def b1_law_low (a : Ad) : Ev → RT := (sPar 2 3 (aCons (dV 3) (aCons (d2 modD (dV 2) (dV 3)) aNil)))
noncomputable def g_law_low (a : Ad) : Ev → RT := (sSeq (sPar 2 3 (aCons (dA absD (aCons (dV 0) aNil)) (aCons (dV 1) aNil)))
    (sSeq (whileD (b1 tB (d2 gtD (dV 3) (dC (.int 0)))) (b1_law_low a) 10000000000000000000000000000000000000000000000000000000000000000000000000000000000000000000000000000000000000000000000000000000000000000000000000000000000000000000000000000000000000000000000000000000000000000000000000000000000000000000000000000000000000000000000000000000000000000000000000000000000000000000000000000000000000000000000000000000000000000000000000000000000000000000000000000000000000000)
    (sRet (dA mkT (aCons (d2 fdivD (dV 0) (dV 2)) (aCons (d2 fdivD (dV 1) (dV 2)) aNil))))))
noncomputable def b1_law_word (a : Ad) : Ev → RT := (sSet 5 (d2 addD (dV 5) (d2 ixD (dC (.str "qxz")) (d2 modD (d2 fdivD (dV 0) (d2 addD (dC (.int 3)) (dV 6))) (dC (.int 3))))))
noncomputable def g_law_word (a : Ad) : Ev → RT := (sSeq (sSet 2 (dC (.str "abcdefghijklmnopqrstuvwxyz")))
    (sSeq (sSet 3 (d2 ixD (asN (fun ρ => ((aCons (dC (.int 1)) (aCons (dC (.int 3)) (aCons (dC (.int 5)) (aCons (dC (.int 7)) (aCons (dC (.int 9)) (aCons (dC (.int 11)) (aCons (dC (.int 15)) (aCons (dC (.int 17)) (aCons (dC (.int 19)) (aCons (dC (.int 21)) (aCons (dC (.int 23)) (aCons (dC (.int 25)) aNil)))))))))))) ρ).bind fitL)) (d2 modD (d2 fdivD (dV 0) (dC (.int 26))) (dC (.int 12)))))
    (sSeq (sSet 4 (d2 addD (d2 ixD (dV 2) (d2 modD (d2 addD (dV 0) (d2 mulUD (dV 1) (dV 3))) (dC (.int 26)))) (d2 ixD (dC (.str "qxz")) (d2 modD (d2 fdivD (dV 1) (dC (.int 26))) (dC (.int 3))))))
    (sSeq (sSet 5 (dC (.str "")))
    (sSeq (sFor (fun ρ => ((aCons (d2 modD (d2 fdivD (dV 0) (dC (.int 312))) (dC (.int 7))) aNil) ρ).bind rng1) (gV 6) (b1_law_word a))
    (sSeq (sIf (b1 tB (d2 eqSD (d2 modD (d2 fdivD (dV 0) (dC (.int 2184))) (dC (.int 2))) (dC (.int 1)))) (sRet (d2 addD (dV 5) (dV 4))) sNil)
    (sRet (d2 addD (dV 4) (dV 5)))))))))
end WP
namespace W72
open PySem L2 P2 WP
noncomputable def at_ (i : Nat) : Stmt := PySem.Challenge.pw_weather_k72_reach.main.body.getD i (.Pass ⟨0, 0, 0, 0⟩)
noncomputable abbrev s_asked_by : Stmt := at_ 1
noncomputable abbrev s_parts_of : Stmt := at_ 2
noncomputable abbrev s_inner_parts : Stmt := at_ 3
noncomputable abbrev s_reach : Stmt := at_ 5
noncomputable abbrev s_asks_for_a_mast : Stmt := at_ 6
noncomputable abbrev s_farthest : Stmt := at_ 7
noncomputable abbrev s_law_cell_at : Stmt := at_ 9
noncomputable abbrev s_law_low : Stmt := at_ 10
noncomputable abbrev s_law_word : Stmt := at_ 11
noncomputable abbrev s_law_pick : Stmt := at_ 12
noncomputable abbrev s_law_term : Stmt := at_ 13
noncomputable abbrev s_law_sum : Stmt := at_ 14
noncomputable abbrev s_law_compare : Stmt := at_ 15
noncomputable abbrev s_law_condition : Stmt := at_ 16
noncomputable abbrev s_law_asks : Stmt := at_ 18
noncomputable abbrev s_law : Stmt := at_ 19
structure Tx (K : PySem.W.Frag) (mg : Str → Option Value) (a : Ad) : Prop where
  b_abs : mg "abs" = none
  b_any : mg "any" = none
  b_bool : mg "bool" = none
  b_int : mg "int" = none
  b_isinstance : mg "isinstance" = none
  b_len : mg "len" = none
  b_list : mg "list" = none
  b_max : mg "max" = none
  b_range : mg "range" = none
  b_set : mg "set" = none
  b_sorted : mg "sorted" = none
  b_str : mg "str" = none
  b_sum : mg "sum" = none
  b_tuple : mg "tuple" = none
  isok : IsOk K a.isx
section
variable {P : Program} {w : World} {K : PySem.W.Frag} {mg : Str → Option Value} {base : Heap} {f : Addr} {fd : FuncData}
variable {F_asked_by F_asks_for_a_mast F_farthest F_inner_parts F_law_asks F_law_cell_at F_law_low F_law_word F_parts_of F_reach : List D → R D} {Z_law_compare Z_law_condition Z_law_pick Z_law_sum Z_law_term : List Z → Sto → RX Z}
local macro_rules | `(tactic| walk_at "sc") => `(tactic| exact ⟨rfl, rfl, rfl, by decide +kernel, rfl, by decide +kernel, by decide +kernel⟩)
theorem sc_inner_parts : FnScope ["part"] ["part"] (defScope s_inner_parts) := by walk_at "sc"
noncomputable def g_inner_parts (a : Ad) : Ev → RT := (sSeq (sIf (b1 tB (d2 inLD (d2 ixD (dV 0) (dC (.int 0))) (dA mkT (aCons (dC (.str "+")) (aCons (dC (.str "-")) (aCons (dC (.str "<")) (aCons (dC (.str "=")) (aCons (dC (.str "and")) (aCons (dC (.str "or")) aNil))))))))) (sRet (asN (fun ρ => ((aCons (d2 ixD (dV 0) (dC (.int 1))) (aCons (d2 ixD (dV 0) (dC (.int 2))) aNil)) ρ).bind fitL))) sNil)
    (sSeq (sIf (b1 tB (d2 eqSD (d2 ixD (dV 0) (dC (.int 0))) (dC (.str "times")))) (sRet (asN (fun ρ => ((aCons (d2 ixD (dV 0) (dC (.int 2))) aNil) ρ).bind fitL))) sNil)
    (sSeq (sIf (b1 tB (d2 inLD (d2 ixD (dV 0) (dC (.int 0))) (dA mkT (aCons (dC (.str "abs")) (aCons (dC (.str "not")) aNil))))) (sRet (asN (fun ρ => ((aCons (d2 ixD (dV 0) (dC (.int 1))) aNil) ρ).bind fitL))) sNil)
    (sRet (asN (fun ρ => (aNil ρ).bind fitL))))))
theorem ok_inner_parts {a : Ad} (T : Tx K mg a) (F : Fun K "inner_parts" "inner_parts" s_inner_parts f fd) :
    FnOk P w K mg base (CXx P w) 1 f fd ["part"] (spD 1 K fun ds => finT (g_inner_parts a (startD 1 ds))) :=
  fn_den F sc_inner_parts fun cdv A outer s H E hr => (dss_cons (ds_if (dt_cmp (op_inLD hr.units) (de_ix ix_D (de_var 0) de_int) (de_tup (da_cons de_str (da_cons de_str (da_cons de_str (da_cons de_str (da_cons de_str (da_cons de_str da_nil)))))))) (dss_one (ds_ret (DN.de (dn_lst (da_cons (de_ix ix_D (de_var 0) de_int) (da_cons (de_ix ix_D (de_var 0) de_int) da_nil)))))) dss_nil)
    (dss_cons (ds_if (dt_cmp op_eqSD (de_ix ix_D (de_var 0) de_int) de_str) (dss_one (ds_ret (DN.de (dn_lst (da_cons (de_ix ix_D (de_var 0) de_int) da_nil))))) dss_nil)
    (dss_cons (ds_if (dt_cmp (op_inLD hr.units) (de_ix ix_D (de_var 0) de_int) (de_tup (da_cons de_str (da_cons de_str da_nil)))) (dss_one (ds_ret (DN.de (dn_lst (da_cons (de_ix ix_D (de_var 0) de_int) da_nil))))) dss_nil)
    (dss_one (ds_ret (DN.de (dn_lst da_nil)))))))
theorem sc_parts_of : FnScope ["part", "parts", "inner"] ["part"] (defScope s_parts_of) := by walk_at "sc"
noncomputable def b1_parts_of (a : Ad) (F_inner_parts : List D → R D) (F_parts_of : List D → R D) : Ev → RT := (sExt 1 (dA F_parts_of (aCons (dV 2) aNil)))
noncomputable def g_parts_of (a : Ad) (F_inner_parts : List D → R D) (F_parts_of : List D → R D) : Ev → RT := (sSeq (sOwn 1 (fun ρ => ((aCons (dV 0) aNil) ρ).bind fitL))
    (sSeq (sFor (fun ρ => ((dA F_inner_parts (aCons (dV 0) aNil)) ρ).bind asI) (gV 2) (b1_parts_of a F_inner_parts F_parts_of))
    (fun ρ => (sRet (dV 1)) (frzS 1 ρ))))
theorem ok_parts_of {a : Ad} {k : Nat} (T : Tx K mg a) (F : Fun K "parts_of" "parts_of" s_parts_of f fd)
    (h_inner_parts : Has P w K mg base (CXx P w) k "inner_parts" ["part"] (spD 1 K F_inner_parts))
    (h_parts_of : Has P w K mg base (CXx P w) k "parts_of" ["part"] (spD 1 K F_parts_of)) :
    FnOk P w K mg base (CXx P w) (k + 1) f fd ["part"] (spD 1 K fun ds => finT (g_parts_of a F_inner_parts F_parts_of (startD 3 ds))) :=
  fn_den F sc_parts_of fun cdv A outer s H E hr => (dss_cons (ds_own 1 sc_parts_of.nd rfl (Or.inl rfl) (dn_lst (da_cons (de_var 0) da_nil)))
    (dss_cons (ds_for pass_cx rfl (di_any (de_call h_inner_parts hr rfl passX rfl (da_cons (de_var 0) da_nil))) (dg_name 2 sc_parts_of.nd rfl (Or.inl rfl)) (dss_one (ds_extend 1 (de_call h_parts_of hr rfl passX rfl (da_cons (de_var 2) da_nil)))))
    (dss_freeze 1 (dss_one (ds_ret (de_var 1))))))
theorem sc_asked_by : FnScope ["condition", "parts", "back", "on", "masts", "asked"] ["condition"] (defScope s_asked_by) := by walk_at "sc"
noncomputable def g_asked_by (a : Ad) (F_parts_of : List D → R D) : Ev → RT := (sSeq (sSet 1 (dA F_parts_of (aCons (dV 0) aNil)))
    (sSeq (sSet 2 (asN (fun ρ => ((asN (dComp (fun ρ => ((dV 1) ρ).bind asI) 1 [] (gV 0) (b1 tB (d2 inLD (d2 ixD (dV 0) (dC (.int 0))) (dA mkT (aCons (dC (.str "back")) (aCons (dC (.str "ago")) aNil))))) (d2 ixD (dV 0) (dC (.int 1))))) ρ).bind sortS)))
    (sSeq (sSet 3 (asN (fun ρ => ((asN (dComp (fun ρ => ((dV 1) ρ).bind asI) 1 [] (gV 0) (b1 tB (d2 inLD (d2 ixD (dV 0) (dC (.int 0))) (dA mkT (aCons (dC (.str "on")) (aCons (dC (.str "until")) aNil))))) (d2 ixD (dV 0) (dC (.int 1))))) ρ).bind sortS)))
    (sSeq (sSet 4 (asN (fun ρ => ((asN (dComp (fun ρ => ((dV 1) ρ).bind asI) 1 [] (gV 0) (b1 tB (d2 eqSD (d2 ixD (dV 0) (dC (.int 0))) (dC (.str "at")))) (d2 ixD (dV 0) (dC (.int 1))))) ρ).bind sortS)))
    (sSeq (sOwn 5 (fun ρ => ((aCons (dA mkT (aCons (dC (.str "here")) aNil)) aNil) ρ).bind fitL))
    (sSeq (sExt 5 (asN (dComp (fun ρ => ((dV 2) ρ).bind asI) 1 [] (gV 0) (fun _ => .ok true) (dA mkT (aCons (dC (.str "back")) (aCons (dV 0) aNil))))))
    (sSeq (sExt 5 (asN (dComp (fun ρ => ((dV 3) ρ).bind asI) 1 [] (gV 0) (fun _ => .ok true) (dA mkT (aCons (dC (.str "on")) (aCons (dV 0) aNil))))))
    (sSeq (sExt 5 (asN (dComp (fun ρ => ((dV 4) ρ).bind asI) 1 [] (gV 0) (fun _ => .ok true) (dA mkT (aCons (dC (.str "at")) (aCons (dV 0) aNil))))))
    (fun ρ => (sRet (dV 5)) (frzS 5 ρ))))))))))
theorem ok_asked_by {a : Ad} (T : Tx K mg a) (F : Fun K "asked_by" "asked_by" s_asked_by f fd)
    (h_parts_of : Has P w K mg base (CXx P w) 9 "parts_of" ["part"] (spD 1 K F_parts_of)) :
    FnOk P w K mg base (CXx P w) 10 f fd ["condition"] (spD 1 K fun ds => finT (g_asked_by a F_parts_of (startD 6 ds))) :=
  fn_den F sc_asked_by fun cdv A outer s H E hr => (dss_cons (ds_set 1 sc_asked_by.nd rfl (Or.inl rfl) (de_call h_parts_of hr rfl passX rfl (da_cons (de_var 0) da_nil)))
    (dss_cons (ds_set 2 sc_asked_by.nd rfl (Or.inl rfl) (DN.de (dn_sortedset rfl rfl T.b_sorted rfl T.b_set (DN.de (dn_comp0 (Nt := ["part"]) (tn := 1) rfl (di_any (de_var 1)) (fun _ _ _ _ => (dg_name 0 (show List.Nodup (["part"] : List Str) from by decide +kernel) rfl (Or.inl rfl))) (by simp) (fun _ _ _ _ => df_one (dt_cmp (op_inLD hr.units) (de_ix ix_D (de_var 0) de_int) (de_tup (da_cons de_str (da_cons de_str da_nil))))) (fun _ _ _ _ => (de_ix ix_D (de_var 0) de_int)) (by decide +kernel) rfl (by decide +kernel) (by decide +kernel) rfl)))))
    (dss_cons (ds_set 3 sc_asked_by.nd rfl (Or.inl rfl) (DN.de (dn_sortedset rfl rfl T.b_sorted rfl T.b_set (DN.de (dn_comp0 (Nt := ["part"]) (tn := 1) rfl (di_any (de_var 1)) (fun _ _ _ _ => (dg_name 0 (show List.Nodup (["part"] : List Str) from by decide +kernel) rfl (Or.inl rfl))) (by simp) (fun _ _ _ _ => df_one (dt_cmp (op_inLD hr.units) (de_ix ix_D (de_var 0) de_int) (de_tup (da_cons de_str (da_cons de_str da_nil))))) (fun _ _ _ _ => (de_ix ix_D (de_var 0) de_int)) (by decide +kernel) rfl (by decide +kernel) (by decide +kernel) rfl)))))
    (dss_cons (ds_set 4 sc_asked_by.nd rfl (Or.inl rfl) (DN.de (dn_sortedset rfl rfl T.b_sorted rfl T.b_set (DN.de (dn_comp0 (Nt := ["part"]) (tn := 1) rfl (di_any (de_var 1)) (fun _ _ _ _ => (dg_name 0 (show List.Nodup (["part"] : List Str) from by decide +kernel) rfl (Or.inl rfl))) (by simp) (fun _ _ _ _ => df_one (dt_cmp op_eqSD (de_ix ix_D (de_var 0) de_int) de_str)) (fun _ _ _ _ => (de_ix ix_D (de_var 0) de_int)) (by decide +kernel) rfl (by decide +kernel) (by decide +kernel) rfl)))))
    (dss_cons (ds_own 5 sc_asked_by.nd rfl (Or.inl rfl) (dn_lst (da_cons (de_tup (da_cons de_str da_nil)) da_nil)))
    (dss_cons (ds_extend 5 (DN.de (dn_comp0 (Nt := ["place"]) (tn := 1) rfl (di_any (de_var 2)) (fun _ _ _ _ => (dg_name 0 (show List.Nodup (["place"] : List Str) from by decide +kernel) rfl (Or.inl rfl))) (by simp) (fun _ _ _ _ => df_nil) (fun _ _ _ _ => (de_tup (da_cons de_str (da_cons (de_var 0) da_nil)))) (by decide +kernel) rfl (by decide +kernel) (by decide +kernel) rfl)))
    (dss_cons (ds_extend 5 (DN.de (dn_comp0 (Nt := ["place"]) (tn := 1) rfl (di_any (de_var 3)) (fun _ _ _ _ => (dg_name 0 (show List.Nodup (["place"] : List Str) from by decide +kernel) rfl (Or.inl rfl))) (by simp) (fun _ _ _ _ => df_nil) (fun _ _ _ _ => (de_tup (da_cons de_str (da_cons (de_var 0) da_nil)))) (by decide +kernel) rfl (by decide +kernel) (by decide +kernel) rfl)))
    (dss_cons (ds_extend 5 (DN.de (dn_comp0 (Nt := ["mast"]) (tn := 1) rfl (di_any (de_var 4)) (fun _ _ _ _ => (dg_name 0 (show List.Nodup (["mast"] : List Str) from by decide +kernel) rfl (Or.inl rfl))) (by simp) (fun _ _ _ _ => df_nil) (fun _ _ _ _ => (de_tup (da_cons de_str (da_cons (de_var 0) da_nil)))) (by decide +kernel) rfl (by decide +kernel) (by decide +kernel) rfl)))
    (dss_freeze 5 (dss_one (ds_ret (de_var 5))))))))))))
theorem sc_asks_for_a_mast : FnScope ["asks"] ["asks"] (defScope s_asks_for_a_mast) := by walk_at "sc"
noncomputable def g_asks_for_a_mast (a : Ad) : Ev → RT := (sRet (dA anyD (aCons (asN (dComp (fun ρ => ((dV 0) ρ).bind asI) 1 [] (gV 0) (fun _ => .ok true) (d2 eqSD (d2 ixD (dV 0) (dC (.int 0))) (dC (.str "at"))))) aNil)))
theorem ok_asks_for_a_mast {a : Ad} (T : Tx K mg a) (F : Fun K "asks_for_a_mast" "asks_for_a_mast" s_asks_for_a_mast f fd) :
    FnOk P w K mg base (CXx P w) 1 f fd ["asks"] (spD 1 K fun ds => finT (g_asks_for_a_mast a (startD 1 ds))) :=
  fn_den F sc_asks_for_a_mast fun cdv A outer s H E hr => (dss_one (ds_ret (de_callB (call_anyD rfl) rfl T.b_any bt_any (da_cons (DN.de (dn_comp0 (Nt := ["ask"]) (tn := 1) rfl (di_any (de_var 0)) (fun _ _ _ _ => (dg_name 0 (show List.Nodup (["ask"] : List Str) from by decide +kernel) rfl (Or.inl rfl))) (by simp) (fun _ _ _ _ => df_nil) (fun _ _ _ _ => (de_cmp op_eqSD (de_ix ix_D (de_var 0) de_int) de_str)) (by decide +kernel) rfl (by decide +kernel) (by decide +kernel) rfl)) da_nil))))
theorem sc_farthest : FnScope ["asks"] ["asks"] (defScope s_farthest) := by walk_at "sc"
noncomputable def g_farthest (a : Ad) : Ev → RT := (sRet (dMaxd (asN (dComp (fun ρ => ((dV 0) ρ).bind asI) 1 [] (gV 0) (b1 tB (d2 inLD (d2 ixD (dV 0) (dC (.int 0))) (dA mkT (aCons (dC (.str "back")) (aCons (dC (.str "on")) aNil))))) (d2 ixD (dV 0) (dC (.int 1))))) (dC (.int 0))))
theorem ok_farthest {a : Ad} (T : Tx K mg a) (F : Fun K "farthest" "farthest" s_farthest f fd) :
    FnOk P w K mg base (CXx P w) 1 f fd ["asks"] (spD 1 K fun ds => finT (g_farthest a (startD 1 ds))) :=
  fn_den F sc_farthest fun cdv A outer s H E hr => (dss_one (ds_ret (de_maxd rfl rfl T.b_max (DN.de (dn_comp0 (Nt := ["ask"]) (tn := 1) rfl (di_any (de_var 0)) (fun _ _ _ _ => (dg_name 0 (show List.Nodup (["ask"] : List Str) from by decide +kernel) rfl (Or.inl rfl))) (by simp) (fun _ _ _ _ => df_one (dt_cmp (op_inLD hr.units) (de_ix ix_D (de_var 0) de_int) (de_tup (da_cons de_str (da_cons de_str da_nil))))) (fun _ _ _ _ => (de_ix ix_D (de_var 0) de_int)) (by decide +kernel) rfl (by decide +kernel) (by decide +kernel) rfl)) de_int)))
theorem sc_reach : FnScope ["rules", "asked"] ["rules"] (defScope s_reach) := by walk_at "sc"
noncomputable def g_reach (a : Ad) (F_asked_by : List D → R D) (F_asks_for_a_mast : List D → R D) (F_farthest : List D → R D) : Ev → RT := (sSeq (sSet 1 (asN (dComp (fun ρ => ((dV 0) ρ).bind asI) 1 [] (gV 0) (fun _ => .ok true) (dA F_asked_by (aCons (d2 ixD (dV 0) (dC (.int 1))) aNil)))))
    (sSeq (sIf (b1 tT (dA anyD (aCons (asN (dComp (fun ρ => ((dV 1) ρ).bind asI) 1 [] (gV 0) (fun _ => .ok true) (dA F_asks_for_a_mast (aCons (dV 0) aNil)))) aNil))) (sRet (dC .non)) sNil)
    (sRet (dA sumD (aCons (asN (dComp (fun ρ => ((dV 1) ρ).bind asI) 1 [] (gV 0) (fun _ => .ok true) (dA F_farthest (aCons (dV 0) aNil)))) aNil)))))
theorem ok_reach {a : Ad} (T : Tx K mg a) (F : Fun K "reach" "reach" s_reach f fd)
    (h_asked_by : Has P w K mg base (CXx P w) 10 "asked_by" ["condition"] (spD 1 K F_asked_by))
    (h_asks_for_a_mast : Has P w K mg base (CXx P w) 10 "asks_for_a_mast" ["asks"] (spD 1 K F_asks_for_a_mast))
    (h_farthest : Has P w K mg base (CXx P w) 10 "farthest" ["asks"] (spD 1 K F_farthest)) :
    FnOk P w K mg base (CXx P w) 11 f fd ["rules"] (spD 1 K fun ds => finT (g_reach a F_asked_by F_asks_for_a_mast F_farthest (startD 2 ds))) :=
  fn_den F sc_reach fun cdv A outer s H E hr => (dss_cons (ds_setU 1 sc_reach.nd rfl (Or.inl rfl) (dnu_comp0 (Nt := ["rule"]) (tn := 1) rfl (di_any (de_var 0)) (fun _ _ _ _ => (dg_name 0 (show List.Nodup (["rule"] : List Str) from by decide +kernel) rfl (Or.inl rfl))) (by simp) (fun _ _ _ _ => df_nil) (fun _ _ _ _ => (de_call h_asked_by hr rfl passN rfl (da_cons (de_ix ix_D (de_var 0) de_int) da_nil))) (by decide +kernel) rfl (by decide +kernel) (by decide +kernel) rfl))
    (dss_cons (ds_if (dt_truth (de_callB (call_anyD rfl) rfl T.b_any bt_any (da_cons (DN.de (dn_comp0 (Nt := ["asks"]) (tn := 1) rfl (di_any (de_var 1)) (fun _ _ _ _ => (dg_name 0 (show List.Nodup (["asks"] : List Str) from by decide +kernel) rfl (Or.inl rfl))) (by simp) (fun _ _ _ _ => df_nil) (fun _ _ _ _ => (de_call h_asks_for_a_mast hr rfl passN rfl (da_cons (de_var 0) da_nil))) (by decide +kernel) rfl (by decide +kernel) (by decide +kernel) rfl)) da_nil))) (dss_one (ds_ret de_non)) dss_nil)
    (dss_one (ds_ret (de_callB (call_sumD rfl) rfl T.b_sum bt_sum (da_cons (DN.de (dn_comp0 (Nt := ["asks"]) (tn := 1) rfl (di_any (de_var 1)) (fun _ _ _ _ => (dg_name 0 (show List.Nodup (["asks"] : List Str) from by decide +kernel) rfl (Or.inl rfl))) (by simp) (fun _ _ _ _ => df_nil) (fun _ _ _ _ => (de_call h_farthest hr rfl passN rfl (da_cons (de_var 0) da_nil))) (by decide +kernel) rfl (by decide +kernel) (by decide +kernel) rfl)) da_nil))))))
theorem sc_law_cell_at : FnScope ["_law_script", "_law_k"] ["_law_script", "_law_k"] (defScope s_law_cell_at) := by walk_at "sc"
theorem ok_law_cell_at {a : Ad} (T : Tx K mg a) (F : Fun K "_law_cell_at" "_law_cell_at" s_law_cell_at f fd) :
    FnOk P w K mg base (CXx P w) 1 f fd ["_law_script", "_law_k"] (spD 2 K fun ds => finT (g_law_cell_at a (startD 2 ds))) :=
  fn_den F sc_law_cell_at fun cdv A outer s H E hr => (dss_cons (ds_if (dt_cmp op_ltD (de_var 1) (de_callB call_lenD rfl T.b_len bt_len (da_cons (de_var 0) da_nil))) (dss_one (ds_ret (de_ix ix_D (de_var 0) (de_var 1)))) dss_nil)
    (dss_one (ds_ret de_int)))
theorem sc_law_low : FnScope ["_law_top", "_law_bottom", "_law_one", "_law_other"] ["_law_top", "_law_bottom"] (defScope s_law_low) := by walk_at "sc"
theorem ok_law_low {a : Ad} (T : Tx K mg a) (F : Fun K "_law_low" "_law_low" s_law_low f fd) :
    FnOk P w K mg base (CXx P w) 1 f fd ["_law_top", "_law_bottom"] (spD 2 K fun ds => finT (g_law_low a (startD 4 ds))) :=
  fn_den F sc_law_low fun cdv A outer s H E hr => (dss_cons (ds_par 2 3 rfl sc_law_low.nd rfl rfl (by decide) rfl rfl (da_cons (de_callB call_absD rfl T.b_abs bt_abs (da_cons (de_var 0) da_nil)) (da_cons (de_var 1) da_nil)))
    (dss_cons (ds_while 10000000000000000000000000000000000000000000000000000000000000000000000000000000000000000000000000000000000000000000000000000000000000000000000000000000000000000000000000000000000000000000000000000000000000000000000000000000000000000000000000000000000000000000000000000000000000000000000000000000000000000000000000000000000000000000000000000000000000000000000000000000000000000000000000000000000000000 pass_cx (dt_cmp op_gtD (de_var 3) de_int) (dss_one (ds_par 2 3 rfl sc_law_low.nd rfl rfl (by decide) rfl rfl (da_cons (de_var 3) (da_cons (de_op op_modD (de_var 2) (de_var 3)) da_nil)))))
    (dss_one (ds_ret (de_tup (da_cons (de_op op_fdivD (de_var 0) (de_var 2)) (da_cons (de_op op_fdivD (de_var 1) (de_var 2)) da_nil)))))))
theorem sc_law_word : FnScope ["_law_cell", "_law_k", "_law_letters", "_law_stride", "_law_pair", "_law_more", "_law_j"] ["_law_cell", "_law_k"] (defScope s_law_word) := by walk_at "sc"
theorem ok_law_word {a : Ad} (T : Tx K mg a) (F : Fun K "_law_word" "_law_word" s_law_word f fd) :
    FnOk P w K mg base (CXx P w) 1 f fd ["_law_cell", "_law_k"] (spD 2 K fun ds => finT (g_law_word a (startD 7 ds))) :=
  fn_den F sc_law_word fun cdv A outer s H E hr => (dss_cons (ds_set 2 sc_law_word.nd rfl (Or.inl rfl) de_str)
    (dss_cons (ds_set 3 sc_law_word.nd rfl (Or.inl rfl) (de_ix ix_D (DN.de (dn_lst (da_cons de_int (da_cons de_int (da_cons de_int (da_cons de_int (da_cons de_int (da_cons de_int (da_cons de_int (da_cons de_int (da_cons de_int (da_cons de_int (da_cons de_int (da_cons de_int da_nil)))))))))))))) (de_op op_modD (de_op op_fdivD (de_var 0) de_int) de_int)))
    (dss_cons (ds_set 4 sc_law_word.nd rfl (Or.inl rfl) (de_op op_addD (de_ix ix_D (de_var 2) (de_op op_modD (de_op op_addD (de_var 0) (de_op op_mulUD (de_var 1) (de_var 3))) de_int)) (de_ix ix_D de_str (de_op op_modD (de_op op_fdivD (de_var 1) de_int) de_int))))
    (dss_cons (ds_set 5 sc_law_word.nd rfl (Or.inl rfl) de_str)
    (dss_cons (ds_for pass_cx rfl (di_range1 rfl T.b_range (da_cons (de_op op_modD (de_op op_fdivD (de_var 0) de_int) de_int) da_nil)) (dg_name 6 sc_law_word.nd rfl (Or.inl rfl)) (dss_one (ds_set 5 sc_law_word.nd rfl (Or.inl rfl) (de_op op_addD (de_var 5) (de_ix ix_D de_str (de_op op_modD (de_op op_fdivD (de_var 0) (de_op op_addD de_int (de_var 6))) de_int))))))
    (dss_cons (ds_if (dt_cmp op_eqSD (de_op op_modD (de_op op_fdivD (de_var 0) de_int) de_int) de_int) (dss_one (ds_ret (de_op op_addD (de_var 5) (de_var 4)))) dss_nil)
    (dss_one (ds_ret (de_op op_addD (de_var 4) (de_var 5))))))))))
theorem sc_law_pick : FnScope ["_law_stream", "_law_many", "_law_found"] ["_law_stream", "_law_many"] (defScope s_law_pick) := by walk_at "sc"
noncomputable def g_law_pick (a : Ad) (b : Nat) : ZEv → Sto → RTZ := (ySeq (yIf (zRB (b1 tB (d2 eqSD (d2 ixD (dV 0) (dC (.int 1))) (dC (.int 0))))) (ySeq (ySet 2 (zR (d2 modD (d2 ixD (dV 0) (dC (.int 0))) (dV 1))))
    (ySeq (yPut 0 (dC (.int 0)) (zR (d2 fdivD (d2 ixD (dV 0) (dC (.int 0))) (dV 1))))
    (yRet (zD (dV 2))))) yNil)
    (ySeq (yPut 0 (dC (.int 0)) (zR (d2 modD (d2 addD (d2 mulUD (d2 modD (d2 ixD (dV 0) (dC (.int 0))) (dC (.int 2147483647))) (dC (.int 48271))) (dC (.int 1013))) (dC (.int 2147483629)))))
    (yRet (zR (d2 modD (d2 fdivD (d2 modD (d2 mulUD (d2 ixD (dV 0) (dC (.int 0))) (dC (.int 69621))) (dC (.int 2147483587))) (dC (.int 11))) (dV 1))))))
theorem ok_law_pick {a : Ad} (T : Tx K mg a) (F : Fun K "_law_pick" "_law_pick" s_law_pick f fd) :
    FnOk P w K mg base (CXx P w) 1 f fd ["_law_stream", "_law_many"] (spZ 2 K fun zs S => finZ (g_law_pick a S.length (startZ 3 zs) S)) :=
  fn_denZ F sc_law_pick fun b cdv A outer s H E hr => (zss_cons (zs_if (zt_read (dt_cmp op_eqSD (de_ix ix_D (de_var 0) de_int) de_int)) (zss_cons (zs_set 2 sc_law_pick.nd rfl (Or.inl rfl) (ze_read (de_op op_modD (de_ix ix_D (de_var 0) de_int) (de_var 1))))
    (zss_cons (zs_put 0 de_int (ze_read (de_op op_fdivD (de_ix ix_D (de_var 0) de_int) (de_var 1))))
    (zss_one (zs_ret (ze_lift (de_var 2)))))) zss_nil)
    (zss_cons (zs_put 0 de_int (ze_read (de_op op_modD (de_op op_addD (de_op op_mulUD (de_op op_modD (de_ix ix_D (de_var 0) de_int) de_int) de_int) de_int) de_int)))
    (zss_one (zs_ret (ze_read (de_op op_modD (de_op op_fdivD (de_op op_modD (de_op op_mulUD (de_ix ix_D (de_var 0) de_int) de_int) de_int) de_int) (de_var 1)))))))
theorem sc_law_term : FnScope ["_law_stream", "_law_words", "_law_way", "_law_far"] ["_law_stream", "_law_words"] (defScope s_law_term) := by walk_at "sc"
noncomputable def g_law_term (a : Ad) (F_law_low : List D → R D) (Z_law_pick : List Z → Sto → RX Z) (b : Nat) : ZEv → Sto → RTZ := (ySeq (ySet 2 (zZ Z_law_pick (zCons (zV 0) (zCons (zD (dC (.int 10))) zNil))))
    (ySeq (yIf (zB (b1 tB (d2 eqSD (dV 2) (dC (.int 0))))) (yRet (zF mkT (zCons (zD (dC (.str "num"))) (zCons (zF F_law_low (zCons (zZ Z_law_pick (zCons (zV 0) (zCons (zD (dC (.int 9))) zNil))) (zCons (z2 addD (zD (dC (.int 1))) (zZ Z_law_pick (zCons (zV 0) (zCons (zD (dC (.int 3))) zNil)))) zNil))) zNil)))) yNil)
    (ySeq (yIf (zB (bAnd (b1 tB (d2 eqSD (dV 2) (dC (.int 8)))) (b1 tB (d2 neDD (dV 1) (asN (fun ρ => (aNil ρ).bind fitL)))))) (yRet (zF mkT (zCons (zD (dC (.str "at"))) (zCons (z2 ixD (zD (dV 1)) (zZ Z_law_pick (zCons (zV 0) (zCons (zD (dA lenD (aCons (dV 1) aNil))) zNil)))) zNil)))) yNil)
    (ySeq (yIf (zB (b1 tB (d2 inLD (dV 2) (asN (fun ρ => ((aCons (dC (.int 1)) (aCons (dC (.int 2)) (aCons (dC (.int 8)) (aCons (dC (.int 9)) aNil)))) ρ).bind fitL))))) (yRet (zD (dA mkT (aCons (dC (.str "here")) aNil)))) yNil)
    (ySeq (ySet 3 (z2 addD (zD (dC (.int 1))) (zZ Z_law_pick (zCons (zV 0) (zCons (zD (dC (.int 3))) zNil)))))
    (ySeq (yIf (zB (b1 tB (d2 eqSD (dV 3) (dC (.int 3))))) (ySet 3 (z2 addD (zD (dC (.int 1))) (zZ Z_law_pick (zCons (zV 0) (zCons (zD (dC (.int 9))) zNil))))) yNil)
    (yRet (zD (dA mkT (aCons (d2 ixD (asN (fun ρ => ((aCons (dC (.str "back")) (aCons (dC (.str "back")) (aCons (dC (.str "on")) (aCons (dC (.str "ago")) (aCons (dC (.str "until")) aNil))))) ρ).bind fitL)) (d2 subD (dV 2) (dC (.int 3)))) (aCons (dV 3) aNil)))))))))))
theorem ok_law_term {a : Ad} (T : Tx K mg a) (F : Fun K "_law_term" "_law_term" s_law_term f fd)
    (h_law_low : Has P w K mg base (CXx P w) 1 "_law_low" ["_law_top", "_law_bottom"] (spD 2 K F_law_low))
    (h_law_pick : Has P w K mg base (CXx P w) 1 "_law_pick" ["_law_stream", "_law_many"] (spZ 2 K Z_law_pick)) :
    FnOk P w K mg base (CXx P w) 2 f fd ["_law_stream", "_law_words"] (spZ 2 K fun zs S => finZ (g_law_term a F_law_low Z_law_pick S.length (startZ 4 zs) S)) :=
  fn_denZ F sc_law_term fun b cdv A outer s H E hr => (zss_cons (zs_set 2 sc_law_term.nd rfl (Or.inl rfl) (ze_callZ h_law_pick hr rfl passX rfl (za_cons (ze_var 0) (za_cons (ze_lift de_int) za_nil))))
    (zss_cons (zs_if (zt_lift (dt_cmp op_eqSD (de_var 2) de_int)) (zss_one (zs_ret (ze_tup (za_cons (ze_lift de_str) (za_cons (ze_callD h_law_low hr rfl passX rfl (za_cons (ze_callZ h_law_pick hr rfl passX rfl (za_cons (ze_var 0) (za_cons (ze_lift de_int) za_nil))) (za_cons (ze_op op_addD (ze_lift de_int) (ze_callZ h_law_pick hr rfl passX rfl (za_cons (ze_var 0) (za_cons (ze_lift de_int) za_nil)))) za_nil))) za_nil))))) zss_nil)
    (zss_cons (zs_if (zt_lift (DW.dt (dw_and (dt_cmp op_eqSD (de_var 2) de_int) (dw_and1 (dt_cmp (op_neDD hr.units) (de_var 1) (DN.de (dn_lst da_nil))))))) (zss_one (zs_ret (ze_tup (za_cons (ze_lift de_str) (za_cons (ze_ix ix_D (ze_lift (de_var 1)) (ze_callZ h_law_pick hr rfl passX rfl (za_cons (ze_var 0) (za_cons (ze_lift (de_callB call_lenD rfl T.b_len bt_len (da_cons (de_var 1) da_nil))) za_nil)))) za_nil))))) zss_nil)
    (zss_cons (zs_if (zt_lift (dt_cmp (op_inLD hr.units) (de_var 2) (DN.de (dn_lst (da_cons de_int (da_cons de_int (da_cons de_int (da_cons de_int da_nil)))))))) (zss_one (zs_ret (ze_lift (de_tup (da_cons de_str da_nil))))) zss_nil)
    (zss_cons (zs_set 3 sc_law_term.nd rfl (Or.inl rfl) (ze_op op_addD (ze_lift de_int) (ze_callZ h_law_pick hr rfl passX rfl (za_cons (ze_var 0) (za_cons (ze_lift de_int) za_nil)))))
    (zss_cons (zs_if (zt_lift (dt_cmp op_eqSD (de_var 3) de_int)) (zss_one (zs_set 3 sc_law_term.nd rfl (Or.inl rfl) (ze_op op_addD (ze_lift de_int) (ze_callZ h_law_pick hr rfl passX rfl (za_cons (ze_var 0) (za_cons (ze_lift de_int) za_nil)))))) zss_nil)
    (zss_one (zs_ret (ze_lift (de_tup (da_cons (de_ix ix_D (DN.de (dn_lst (da_cons de_str (da_cons de_str (da_cons de_str (da_cons de_str (da_cons de_str da_nil))))))) (de_op op_subD (de_var 2) de_int)) (da_cons (de_var 3) da_nil))))))))))))
theorem sc_law_sum : FnScope ["_law_stream", "_law_words", "_law_way", "_law_one", "_law_other"] ["_law_stream", "_law_words"] (defScope s_law_sum) := by walk_at "sc"
noncomputable def g_law_sum (a : Ad) (F_law_low : List D → R D) (Z_law_pick : List Z → Sto → RX Z) (Z_law_term : List Z → Sto → RX Z) (b : Nat) : ZEv → Sto → RTZ := (ySeq (ySet 2 (zZ Z_law_pick (zCons (zV 0) (zCons (zD (dC (.int 6))) zNil))))
    (ySeq (ySet 3 (zZ Z_law_term (zCons (zV 0) (zCons (zD (dV 1)) zNil))))
    (ySeq (yIf (zB (b1 tB (d2 eqSD (dV 2) (dC (.int 3))))) (yRet (zF mkT (zCons (zD (dC (.str "times"))) (zCons (zF F_law_low (zCons (zZ Z_law_pick (zCons (zV 0) (zCons (zD (dC (.int 4))) zNil))) (zCons (z2 addD (zD (dC (.int 1))) (zZ Z_law_pick (zCons (zV 0) (zCons (zD (dC (.int 3))) zNil)))) zNil))) (zCons (zD (dV 3)) zNil))))) yNil)
    (ySeq (yIf (zB (b1 tB (d2 gtD (dV 2) (dC (.int 3))))) (yRet (zD (dV 3))) yNil)
    (ySeq (ySet 4 (zZ Z_law_term (zCons (zV 0) (zCons (zD (dV 1)) zNil))))
    (ySeq (yIf (zB (b1 tB (d2 eqSD (dV 2) (dC (.int 0))))) (yRet (zD (dA mkT (aCons (dC (.str "abs")) (aCons (dA mkT (aCons (dC (.str "-")) (aCons (dV 3) (aCons (dV 4) aNil)))) aNil))))) yNil)
    (yRet (zD (dA mkT (aCons (d2 ixD (asN (fun ρ => ((aCons (dC (.str "+")) (aCons (dC (.str "-")) aNil)) ρ).bind fitL)) (d2 subD (dV 2) (dC (.int 1)))) (aCons (dV 3) (aCons (dV 4) aNil))))))))))))
theorem ok_law_sum {a : Ad} (T : Tx K mg a) (F : Fun K "_law_sum" "_law_sum" s_law_sum f fd)
    (h_law_low : Has P w K mg base (CXx P w) 2 "_law_low" ["_law_top", "_law_bottom"] (spD 2 K F_law_low))
    (h_law_pick : Has P w K mg base (CXx P w) 2 "_law_pick" ["_law_stream", "_law_many"] (spZ 2 K Z_law_pick))
    (h_law_term : Has P w K mg base (CXx P w) 2 "_law_term" ["_law_stream", "_law_words"] (spZ 2 K Z_law_term)) :
    FnOk P w K mg base (CXx P w) 3 f fd ["_law_stream", "_law_words"] (spZ 2 K fun zs S => finZ (g_law_sum a F_law_low Z_law_pick Z_law_term S.length (startZ 5 zs) S)) :=
  fn_denZ F sc_law_sum fun b cdv A outer s H E hr => (zss_cons (zs_set 2 sc_law_sum.nd rfl (Or.inl rfl) (ze_callZ h_law_pick hr rfl passX rfl (za_cons (ze_var 0) (za_cons (ze_lift de_int) za_nil))))
    (zss_cons (zs_set 3 sc_law_sum.nd rfl (Or.inl rfl) (ze_callZ h_law_term hr rfl passX rfl (za_cons (ze_var 0) (za_cons (ze_lift (de_var 1)) za_nil))))
    (zss_cons (zs_if (zt_lift (dt_cmp op_eqSD (de_var 2) de_int)) (zss_one (zs_ret (ze_tup (za_cons (ze_lift de_str) (za_cons (ze_callD h_law_low hr rfl passX rfl (za_cons (ze_callZ h_law_pick hr rfl passX rfl (za_cons (ze_var 0) (za_cons (ze_lift de_int) za_nil))) (za_cons (ze_op op_addD (ze_lift de_int) (ze_callZ h_law_pick hr rfl passX rfl (za_cons (ze_var 0) (za_cons (ze_lift de_int) za_nil)))) za_nil))) (za_cons (ze_lift (de_var 3)) za_nil)))))) zss_nil)
    (zss_cons (zs_if (zt_lift (dt_cmp op_gtD (de_var 2) de_int)) (zss_one (zs_ret (ze_lift (de_var 3)))) zss_nil)
    (zss_cons (zs_set 4 sc_law_sum.nd rfl (Or.inl rfl) (ze_callZ h_law_term hr rfl passX rfl (za_cons (ze_var 0) (za_cons (ze_lift (de_var 1)) za_nil))))
    (zss_cons (zs_if (zt_lift (dt_cmp op_eqSD (de_var 2) de_int)) (zss_one (zs_ret (ze_lift (de_tup (da_cons de_str (da_cons (de_tup (da_cons de_str (da_cons (de_var 3) (da_cons (de_var 4) da_nil)))) da_nil)))))) zss_nil)
    (zss_one (zs_ret (ze_lift (de_tup (da_cons (de_ix ix_D (DN.de (dn_lst (da_cons de_str (da_cons de_str da_nil)))) (de_op op_subD (de_var 2) de_int)) (da_cons (de_var 3) (da_cons (de_var 4) da_nil)))))))))))))
theorem sc_law_compare : FnScope ["_law_stream", "_law_words", "_law_sign", "_law_one"] ["_law_stream", "_law_words"] (defScope s_law_compare) := by walk_at "sc"
noncomputable def g_law_compare (a : Ad) (F_law_low : List D → R D) (Z_law_pick : List Z → Sto → RX Z) (Z_law_sum : List Z → Sto → RX Z) (b : Nat) : ZEv → Sto → RTZ := (ySeq (ySet 2 (z2 ixD (zD (asN (fun ρ => ((aCons (dC (.str "<")) (aCons (dC (.str "<")) (aCons (dC (.str "=")) aNil))) ρ).bind fitL))) (zZ Z_law_pick (zCons (zV 0) (zCons (zD (dC (.int 3))) zNil)))))
    (ySeq (ySet 3 (zZ Z_law_sum (zCons (zV 0) (zCons (zD (dV 1)) zNil))))
    (ySeq (yIf (zTst tB (z2 eqSD (zZ Z_law_pick (zCons (zV 0) (zCons (zD (dC (.int 2))) zNil))) (zD (dC (.int 0))))) (yRet (zF mkT (zCons (zD (dV 2)) (zCons (zD (dV 3)) (zCons (zF mkT (zCons (zD (dC (.str "num"))) (zCons (zF F_law_low (zCons (zZ Z_law_pick (zCons (zV 0) (zCons (zD (dC (.int 6))) zNil))) (zCons (z2 addD (zD (dC (.int 1))) (zZ Z_law_pick (zCons (zV 0) (zCons (zD (dC (.int 2))) zNil)))) zNil))) zNil))) zNil))))) yNil)
    (yRet (zF mkT (zCons (zD (dV 2)) (zCons (zD (dV 3)) (zCons (zZ Z_law_sum (zCons (zV 0) (zCons (zD (dV 1)) zNil))) zNil))))))))
theorem ok_law_compare {a : Ad} (T : Tx K mg a) (F : Fun K "_law_compare" "_law_compare" s_law_compare f fd)
    (h_law_low : Has P w K mg base (CXx P w) 3 "_law_low" ["_law_top", "_law_bottom"] (spD 2 K F_law_low))
    (h_law_pick : Has P w K mg base (CXx P w) 3 "_law_pick" ["_law_stream", "_law_many"] (spZ 2 K Z_law_pick))
    (h_law_sum : Has P w K mg base (CXx P w) 3 "_law_sum" ["_law_stream", "_law_words"] (spZ 2 K Z_law_sum)) :
    FnOk P w K mg base (CXx P w) 4 f fd ["_law_stream", "_law_words"] (spZ 2 K fun zs S => finZ (g_law_compare a F_law_low Z_law_pick Z_law_sum S.length (startZ 4 zs) S)) :=
  fn_denZ F sc_law_compare fun b cdv A outer s H E hr => (zss_cons (zs_set 2 sc_law_compare.nd rfl (Or.inl rfl) (ze_ix ix_D (ze_lift (DN.de (dn_lst (da_cons de_str (da_cons de_str (da_cons de_str da_nil)))))) (ze_callZ h_law_pick hr rfl passX rfl (za_cons (ze_var 0) (za_cons (ze_lift de_int) za_nil)))))
    (zss_cons (zs_set 3 sc_law_compare.nd rfl (Or.inl rfl) (ze_callZ h_law_sum hr rfl passX rfl (za_cons (ze_var 0) (za_cons (ze_lift (de_var 1)) za_nil))))
    (zss_cons (zs_if (zt_cmp op_eqSD (ze_callZ h_law_pick hr rfl passX rfl (za_cons (ze_var 0) (za_cons (ze_lift de_int) za_nil))) (ze_lift de_int)) (zss_one (zs_ret (ze_tup (za_cons (ze_lift (de_var 2)) (za_cons (ze_lift (de_var 3)) (za_cons (ze_tup (za_cons (ze_lift de_str) (za_cons (ze_callD h_law_low hr rfl passX rfl (za_cons (ze_callZ h_law_pick hr rfl passX rfl (za_cons (ze_var 0) (za_cons (ze_lift de_int) za_nil))) (za_cons (ze_op op_addD (ze_lift de_int) (ze_callZ h_law_pick hr rfl passX rfl (za_cons (ze_var 0) (za_cons (ze_lift de_int) za_nil)))) za_nil))) za_nil))) za_nil)))))) zss_nil)
    (zss_one (zs_ret (ze_tup (za_cons (ze_lift (de_var 2)) (za_cons (ze_lift (de_var 3)) (za_cons (ze_callZ h_law_sum hr rfl passX rfl (za_cons (ze_var 0) (za_cons (ze_lift (de_var 1)) za_nil))) za_nil)))))))))
theorem sc_law_condition : FnScope ["_law_stream", "_law_words", "_law_way", "_law_one"] ["_law_stream", "_law_words"] (defScope s_law_condition) := by walk_at "sc"
noncomputable def g_law_condition (a : Ad) (Z_law_pick : List Z → Sto → RX Z) (Z_law_compare : List Z → Sto → RX Z) (b : Nat) : ZEv → Sto → RTZ := (ySeq (ySet 2 (zZ Z_law_pick (zCons (zV 0) (zCons (zD (dC (.int 6))) zNil))))
    (ySeq (ySet 3 (zZ Z_law_compare (zCons (zV 0) (zCons (zD (dV 1)) zNil))))
    (ySeq (yIf (zB (b1 tB (d2 ltD (dV 2) (dC (.int 3))))) (yRet (zD (dV 3))) yNil)
    (ySeq (yIf (zB (b1 tB (d2 eqSD (dV 2) (dC (.int 3))))) (yRet (zD (dA mkT (aCons (dC (.str "not")) (aCons (dV 3) aNil))))) yNil)
    (yRet (zF mkT (zCons (zD (d2 ixD (asN (fun ρ => ((aCons (dC (.str "and")) (aCons (dC (.str "or")) aNil)) ρ).bind fitL)) (d2 subD (dV 2) (dC (.int 4))))) (zCons (zD (dV 3)) (zCons (zZ Z_law_compare (zCons (zV 0) (zCons (zD (dV 1)) zNil))) zNil)))))))))
theorem ok_law_condition {a : Ad} (T : Tx K mg a) (F : Fun K "_law_condition" "_law_condition" s_law_condition f fd)
    (h_law_pick : Has P w K mg base (CXx P w) 4 "_law_pick" ["_law_stream", "_law_many"] (spZ 2 K Z_law_pick))
    (h_law_compare : Has P w K mg base (CXx P w) 4 "_law_compare" ["_law_stream", "_law_words"] (spZ 2 K Z_law_compare)) :
    FnOk P w K mg base (CXx P w) 5 f fd ["_law_stream", "_law_words"] (spZ 2 K fun zs S => finZ (g_law_condition a Z_law_pick Z_law_compare S.length (startZ 4 zs) S)) :=
  fn_denZ F sc_law_condition fun b cdv A outer s H E hr => (zss_cons (zs_set 2 sc_law_condition.nd rfl (Or.inl rfl) (ze_callZ h_law_pick hr rfl passX rfl (za_cons (ze_var 0) (za_cons (ze_lift de_int) za_nil))))
    (zss_cons (zs_set 3 sc_law_condition.nd rfl (Or.inl rfl) (ze_callZ h_law_compare hr rfl passX rfl (za_cons (ze_var 0) (za_cons (ze_lift (de_var 1)) za_nil))))
    (zss_cons (zs_if (zt_lift (dt_cmp op_ltD (de_var 2) de_int)) (zss_one (zs_ret (ze_lift (de_var 3)))) zss_nil)
    (zss_cons (zs_if (zt_lift (dt_cmp op_eqSD (de_var 2) de_int)) (zss_one (zs_ret (ze_lift (de_tup (da_cons de_str (da_cons (de_var 3) da_nil)))))) zss_nil)
    (zss_one (zs_ret (ze_tup (za_cons (ze_lift (de_ix ix_D (DN.de (dn_lst (da_cons de_str (da_cons de_str da_nil)))) (de_op op_subD (de_var 2) de_int))) (za_cons (ze_lift (de_var 3)) (za_cons (ze_callZ h_law_compare hr rfl passX rfl (za_cons (ze_var 0) (za_cons (ze_lift (de_var 1)) za_nil))) za_nil))))))))))
theorem sc_law_asks : FnScope ["_law_thing", "_law_found", "_law_part"] ["_law_thing"] (defScope s_law_asks) := by walk_at "sc"
noncomputable def b1_law_asks (a : Ad) (F_law_asks : List D → R D) : Ev → RT := (sIf (bAnd (b1 tT (dA (isXD a.isx) (aCons (dV 2) (aCons (dC (.ty "tuple")) aNil)))) (b1 tT (dA (isXD a.isx) (aCons (d2 ixD (dV 2) (dC (.int 0))) (aCons (dC (.ty "str")) aNil))))) (sExt 1 (dA F_law_asks (aCons (dV 2) aNil))) sNil)
noncomputable def g_law_asks (a : Ad) (F_law_asks : List D → R D) : Ev → RT := (sSeq (sIf (bOr (b1 tB (d2 eqSD (d2 ixD (dV 0) (dC (.int 0))) (dC (.str "back")))) (b1 tB (d2 eqSD (d2 ixD (dV 0) (dC (.int 0))) (dC (.str "ago"))))) (sRet (asN (fun ρ => ((aCons (dA mkT (aCons (dC (.str "back")) (aCons (d2 ixD (dV 0) (dC (.int 1))) aNil))) aNil) ρ).bind fitL))) sNil)
    (sSeq (sIf (bOr (b1 tB (d2 eqSD (d2 ixD (dV 0) (dC (.int 0))) (dC (.str "on")))) (b1 tB (d2 eqSD (d2 ixD (dV 0) (dC (.int 0))) (dC (.str "until"))))) (sRet (asN (fun ρ => ((aCons (dA mkT (aCons (dC (.str "on")) (aCons (d2 ixD (dV 0) (dC (.int 1))) aNil))) aNil) ρ).bind fitL))) sNil)
    (sSeq (sIf (b1 tB (d2 eqSD (d2 ixD (dV 0) (dC (.int 0))) (dC (.str "at")))) (sRet (asN (fun ρ => ((aCons (dV 0) aNil) ρ).bind fitL))) sNil)
    (sSeq (sOwn 1 (fun ρ => (aNil ρ).bind fitL))
    (sSeq (sFor (fun ρ => ((dSl slWD (dV 0) (fun ρ => ((dC (.int 1)) ρ).bind pI) (fun _ => .ok none)) ρ).bind asI) (gV 2) (b1_law_asks a F_law_asks))
    (fun ρ => (sRet (dV 1)) (frzS 1 ρ)))))))
theorem ok_law_asks {a : Ad} {k : Nat} (T : Tx K mg a) (F : Fun K "_law_asks" "_law_asks" s_law_asks f fd)
    (h_law_asks : Has P w K mg base (CXx P w) k "_law_asks" ["_law_thing"] (spD 1 K F_law_asks)) :
    FnOk P w K mg base (CXx P w) (k + 1) f fd ["_law_thing"] (spD 1 K fun ds => finT (g_law_asks a F_law_asks (startD 3 ds))) :=
  fn_den F sc_law_asks fun cdv A outer s H E hr => (dss_cons (ds_if (DW.dt (dw_or (dt_cmp op_eqSD (de_ix ix_D (de_var 0) de_int) de_str) (dw_or1 (dt_cmp op_eqSD (de_ix ix_D (de_var 0) de_int) de_str)))) (dss_one (ds_ret (DN.de (dn_lst (da_cons (de_tup (da_cons de_str (da_cons (de_ix ix_D (de_var 0) de_int) da_nil))) da_nil))))) dss_nil)
    (dss_cons (ds_if (DW.dt (dw_or (dt_cmp op_eqSD (de_ix ix_D (de_var 0) de_int) de_str) (dw_or1 (dt_cmp op_eqSD (de_ix ix_D (de_var 0) de_int) de_str)))) (dss_one (ds_ret (DN.de (dn_lst (da_cons (de_tup (da_cons de_str (da_cons (de_ix ix_D (de_var 0) de_int) da_nil))) da_nil))))) dss_nil)
    (dss_cons (ds_if (dt_cmp op_eqSD (de_ix ix_D (de_var 0) de_int) de_str) (dss_one (ds_ret (DN.de (dn_lst (da_cons (de_var 0) da_nil))))) dss_nil)
    (dss_cons (ds_own 1 sc_law_asks.nd rfl (Or.inl rfl) (dn_lst da_nil))
    (dss_cons (ds_for pass_cx rfl (di_any (de_slice sl_WD (de_var 0) (do_some de_int) do_none)) (dg_name 2 sc_law_asks.nd rfl (Or.inl rfl)) (dss_one (ds_if (DW.dt (dw_and (dt_truth (de_callB (call_isXD T.isok) rfl T.b_isinstance bt_isinstance (da_cons (de_var 2) (da_cons (de_ty rfl T.b_tuple bt_tuple) da_nil)))) (dw_and1 (dt_truth (de_callB (call_isXD T.isok) rfl T.b_isinstance bt_isinstance (da_cons (de_ix ix_D (de_var 2) de_int) (da_cons (de_ty rfl T.b_str bt_str) da_nil))))))) (dss_one (ds_extend 1 (de_call h_law_asks hr rfl passX rfl (da_cons (de_var 2) da_nil)))) dss_nil)))
    (dss_freeze 1 (dss_one (ds_ret (de_var 1)))))))))
theorem sc_law : FnScope ["_law_script", "_law_words", "_law_rules_here", "_law_due", "_law_cell", "_law_name", "_law_condition_here", "_law_some", "_law_handed", "_law_found"] ["_law_script"] (defScope s_law) := by walk_at "sc"
noncomputable def b1_law (a : Ad) (F_law_cell_at : List D → R D) (F_law_word : List D → R D) (F_law_asks : List D → R D) (F_reach : List D → R D) (Z_law_condition : List Z → Sto → RX Z) : Ev → RT := (sSeq (sSet 5 (fun ρ => (noEx ((d2 addD (d2 ixD (dC (.str "abcdefghijkl")) (dA lenD (aCons (dV 2) aNil))) (dC (.str "x"))) (frzS 2 ρ))).bind flat1))
    (sSeq (sSet 6 (dCallN Z_law_condition (fun ρ => ((aCons (dV 4) (aCons (d2 modD (d2 fdivD (dA F_law_cell_at (aCons (dV 0) (aCons (dC (.int 0)) aNil))) (dC (.int 7))) (dC (.int 2))) aNil)) ρ).bind fitL) (dV 1)))
    (sSeq (sApp 2 (dA mkT (aCons (dV 5) (aCons (dV 6) aNil))))
    (sSeq (sSet 7 (dA F_law_asks (aCons (dV 6) aNil)))
    (sIf (b1 tB (d2 neDD (asN (dComp (fun ρ => ((dV 7) ρ).bind asI) 1 [] (gV 0) (b1 tB (d2 eqSD (d2 ixD (dV 0) (dC (.int 0))) (dC (.str "at")))) (dV 0))) (asN (fun ρ => (aNil ρ).bind fitL)))) (sSet 3 (dC .non)) (sIf (b1 tB (d2 isnD2 (dV 3) (dC .non))) (sSet 3 (d2 addD (dV 3) (dA maxD (aCons (asN (catF (asN (fun ρ => ((aCons (dC (.int 0)) aNil) ρ).bind fitL)) (asN (dComp (fun ρ => ((dV 7) ρ).bind asI) 1 [] (gV 0) (fun _ => .ok true) (d2 ixD (dV 0) (dC (.int 1))))))) aNil)))) sNil))))))
noncomputable def g_law (a : Ad) (F_law_cell_at : List D → R D) (F_law_word : List D → R D) (F_law_asks : List D → R D) (F_reach : List D → R D) (Z_law_condition : List Z → Sto → RX Z) : Ev → RT := (sSeq (sSet 1 (asN (fun ρ => (aNil ρ).bind fitL)))
    (sSeq (sIf (b1 tB (d2 eqSD (d2 modD (dA F_law_cell_at (aCons (dV 0) (aCons (dC (.int 0)) aNil))) (dC (.int 2))) (dC (.int 1)))) (sSet 1 (asN (dComp (fun ρ => ((aCons (dC (.int 3)) aNil) ρ).bind rng1) 1 [0] (gV 0) (fun _ => .ok true) (dA F_law_word (aCons (dA F_law_cell_at (aCons (dV 1) (aCons (dC (.int 0)) aNil))) (aCons (dV 0) aNil)))))) sNil)
    (sSeq (sOwn 2 (fun ρ => (aNil ρ).bind fitL))
    (sSeq (sSet 3 (dC (.int 0)))
    (sSeq (sFor (fun ρ => ((dSl slWD (dV 0) (fun ρ => ((dC (.int 1)) ρ).bind pI) (fun ρ => ((dC (.int 13)) ρ).bind pI)) ρ).bind asI) (gV 4) (b1_law a F_law_cell_at F_law_word F_law_asks F_reach Z_law_condition))
    (fun ρ => (sSeq (sSet 8 (dA listD (aCons (dV 2) aNil)))
    (sSeq (sSet 9 (dA F_reach (aCons (dV 8) aNil)))
    (sSeq (sIf (bOr (b1 tB (d2 neDD (dV 8) (dV 2))) (b1 tB (d2 neSD (dA F_reach (aCons (asN (fun ρ => (aNil ρ).bind fitL)) aNil)) (dC (.int 0))))) (sRet (dC (.bl false))) sNil)
    (sSeq (sIf (b1 tB (d2 isD2 (dV 3) (dC .non))) (sRet (d2 isD2 (dV 9) (dC .non))) sNil)
    (sRet (dAnd (dA (isXD a.isx) (aCons (dV 9) (aCons (dC (.ty "int")) aNil))) (dAnd (dNot (dA (isXD a.isx) (aCons (dV 9) (aCons (dC (.ty "bool")) aNil)))) (d2 eqSD (dV 9) (dV 3))))))))) (frzS 2 ρ)))))))
theorem ok_law {a : Ad} (T : Tx K mg a) (F : Fun K "law" "law" s_law f fd)
    (h_law_cell_at : Has P w K mg base (CXx P w) 11 "_law_cell_at" ["_law_script", "_law_k"] (spD 2 K F_law_cell_at))
    (h_law_word : Has P w K mg base (CXx P w) 11 "_law_word" ["_law_cell", "_law_k"] (spD 2 K F_law_word))
    (h_law_asks : Has P w K mg base (CXx P w) 11 "_law_asks" ["_law_thing"] (spD 1 K F_law_asks))
    (h_reach : Has P w K mg base (CXx P w) 11 "reach" ["rules"] (spD 1 K F_reach))
    (h_law_condition : Has P w K mg base (CXx P w) 11 "_law_condition" ["_law_stream", "_law_words"] (spZ 2 K Z_law_condition)) :
    FnOk P w K mg base (CXx P w) 12 f fd ["_law_script"] (spD 1 K fun ds => finT (g_law a F_law_cell_at F_law_word F_law_asks F_reach Z_law_condition (startD 10 ds))) :=
  fn_den F sc_law fun cdv A outer s H E hr => (dss_cons (ds_set 1 sc_law.nd rfl (Or.inl rfl) (DN.de (dn_lst da_nil)))
    (dss_cons (ds_if (dt_cmp op_eqSD (de_op op_modD (de_call h_law_cell_at hr rfl passX rfl (da_cons (de_var 0) (da_cons de_int da_nil))) de_int) de_int) (dss_one (ds_setU 1 sc_law.nd rfl (Or.inl rfl) (dnu_comp1 (Nt := ["_law_k"]) (tn := 1) (x := "_law_script") 0 [(".0", .local), ("_law_k", .local), ("_law_word", .globalImplicit), ("_law_cell_at", .globalImplicit), ("_law_script", .cell)] rfl (di_range1 rfl T.b_range (da_cons de_int da_nil)) (fun _ _ _ _ => (dg_name 0 (show List.Nodup (["_law_k", "_law_script"] : List Str) from by decide +kernel) rfl (Or.inl rfl))) (by simp) (fun _ _ _ _ => df_nil) (fun _ _ _ _ => (de_call h_law_word hr rfl passN rfl (da_cons (de_call h_law_cell_at hr rfl passN rfl (da_cons (de_var 1) (da_cons de_int da_nil))) (da_cons (de_var 0) da_nil)))) rfl (by decide +kernel) (by decide +kernel) rfl rfl rfl rfl rfl rfl (by decide +kernel) (by decide +kernel)))) dss_nil)
    (dss_cons (ds_own 2 sc_law.nd rfl (Or.inl rfl) (dn_lst da_nil))
    (dss_cons (ds_set 3 sc_law.nd rfl (Or.inl rfl) de_int)
    (dss_cons (ds_for pass_cx rfl (di_any (de_slice sl_WD (de_var 0) (do_some de_int) (do_some de_int))) (dg_name 4 sc_law.nd rfl (Or.inl rfl)) (dss_cons (ds_set 5 sc_law.nd rfl (Or.inl rfl) (de_borrow 2 (de_op op_addD (de_ix ix_D de_str (de_callB call_lenD rfl T.b_len bt_len (da_cons (de_var 2) da_nil))) de_str)))
    (dss_cons (ds_set 6 sc_law.nd rfl (Or.inl rfl) (de_callN h_law_condition hr rfl passX (dn_lst (da_cons (de_var 4) (da_cons (de_op op_modD (de_op op_fdivD (de_call h_law_cell_at hr rfl passX rfl (da_cons (de_var 0) (da_cons de_int da_nil))) de_int) de_int) da_nil))) (de_var 1)))
    (dss_cons (ds_append 2 (o := .Name "_law_rules_here" ⟨0, 0, 0, 0⟩) PySem.F.plainAttrs_list PySem.F.slot_list_append PySem.F.type_list_append (de_tup (da_cons (de_var 5) (da_cons (de_var 6) da_nil))))
    (dss_cons (ds_set 7 sc_law.nd rfl (Or.inl rfl) (de_call h_law_asks hr rfl passX rfl (da_cons (de_var 6) da_nil)))
    (dss_one (ds_if (dt_cmp (op_neDD hr.units) (DN.de (dn_comp0 (Nt := ["_law_ask"]) (tn := 1) rfl (di_any (de_var 7)) (fun _ _ _ _ => (dg_name 0 (show List.Nodup (["_law_ask"] : List Str) from by decide +kernel) rfl (Or.inl rfl))) (by simp) (fun _ _ _ _ => df_one (dt_cmp op_eqSD (de_ix ix_D (de_var 0) de_int) de_str)) (fun _ _ _ _ => (de_var 0)) (by decide +kernel) rfl (by decide +kernel) (by decide +kernel) rfl)) (DN.de (dn_lst da_nil))) (dss_one (ds_set 3 sc_law.nd rfl (Or.inl rfl) de_non)) (dss_one (ds_if (dt_cmp op_isnD2 (de_var 3) de_non) (dss_one (ds_set 3 sc_law.nd rfl (Or.inl rfl) (de_op op_addD (de_var 3) (de_callB (call_maxD rfl) rfl T.b_max bt_max (da_cons (DN.de (dn_cat (DN.de (dn_lst (da_cons de_int da_nil))) (DN.de (dn_comp0 (Nt := ["_law_ask"]) (tn := 1) rfl (di_any (de_var 7)) (fun _ _ _ _ => (dg_name 0 (show List.Nodup (["_law_ask"] : List Str) from by decide +kernel) rfl (Or.inl rfl))) (by simp) (fun _ _ _ _ => df_nil) (fun _ _ _ _ => (de_ix ix_D (de_var 0) de_int)) (by decide +kernel) rfl (by decide +kernel) (by decide +kernel) rfl)))) da_nil))))) dss_nil)))))))))
    (dss_freeze 2 (dss_cons (ds_set 8 sc_law.nd rfl (Or.inl rfl) (de_callTy call_listD rfl T.b_list bt_list (da_cons (de_var 2) da_nil)))
    (dss_cons (ds_set 9 sc_law.nd rfl (Or.inl rfl) (de_call h_reach hr rfl passX rfl (da_cons (de_var 8) da_nil)))
    (dss_cons (ds_if (DW.dt (dw_or (dt_cmp (op_neDD hr.units) (de_var 8) (de_var 2)) (dw_or1 (dt_cmp op_neSD (de_call h_reach hr rfl passX rfl (da_cons (DN.de (dn_lst da_nil)) da_nil)) de_int)))) (dss_one (ds_ret de_bl)) dss_nil)
    (dss_cons (ds_if (dt_cmp op_isD2 (de_var 3) de_non) (dss_one (ds_ret (de_cmp op_isD2 (de_var 9) de_non))) dss_nil)
    (dss_one (ds_ret (de_and (de_callB (call_isXD T.isok) rfl T.b_isinstance bt_isinstance (da_cons (de_var 9) (da_cons (de_ty rfl T.b_int bt_int) da_nil))) (de_and (de_not (de_callB (call_isXD T.isok) rfl T.b_isinstance bt_isinstance (da_cons (de_var 9) (da_cons (de_ty rfl T.b_bool bt_bool) da_nil)))) (de_one (de_cmp op_eqSD (de_var 9) (de_var 3)))))))))))))))))
end
end W72
namespace P2
open PySem
mutual
noncomputable def okQ : D → Bool
  | .non => true
  | .int _ => true
  | .str z => PyData.strOk z
  | .tup ds => okQs ds
  | .lst ds => okQs ds
  | _ => false
noncomputable def okQs : List D → Bool
  | [] => true
  | d :: r => okQ d && okQs r
end
mutual
noncomputable def dpQ : D → Nat
  | .tup ds => dpQs ds + 1
  | .lst ds => dpQs ds + 1
  | _ => 0
noncomputable def dpQs : List D → Nat
  | [] => 0
  | d :: r => max (dpQ d) (dpQs r)
end
mutual
theorem py_ok : ∀ {d : D}, okQ d = true → ∃ p, pyD d = some p ∧ PyData.canLay0 p = true ∧ p.depth ≤ dpQ d
  | .non, _ => ⟨.none, rfl, by simp [PyData.canLay0], by simp [PyData.depth]⟩
  | .int i, _ => ⟨.int i, rfl, by simp [PyData.canLay0], by simp [PyData.depth]⟩
  | .str z, h => ⟨.str z, rfl, by have h2 : PyData.strOk z = true := h; simpa [PyData.canLay0] using h2, by simp [PyData.depth]⟩
  | .tup ds, h => by
    obtain ⟨ps, e1, e2, e3⟩ := pys_ok (show okQs ds = true from h)
    exact ⟨.tuple ps, by show (pyDs ds).map PyData.tuple = _; rw [e1]; rfl, by simpa [PyData.canLay0] using e2, by simp only [PyData.depth, dpQ]; omega⟩
  | .lst ds, h => by
    obtain ⟨ps, e1, e2, e3⟩ := pys_ok (show okQs ds = true from h)
    exact ⟨.list ps, by show (pyDs ds).map PyData.list = _; rw [e1]; rfl, by simpa [PyData.canLay0] using e2, by simp only [PyData.depth, dpQ]; omega⟩
  | .bl _, h => by cases h
  | .ty _, h => by cases h
  | .ref _, h => by cases h
  | .exc _ _ _, h => by cases h
theorem pys_ok : ∀ {ds : List D}, okQs ds = true → ∃ ps, pyDs ds = some ps ∧ PyData.canLayAll0 ps = true ∧ PyData.depthAll ps ≤ dpQs ds
  | [], _ => ⟨[], rfl, by simp [PyData.canLayAll0], by simp [PyData.depthAll]⟩
  | d :: r, h => by
    have h' : (okQ d && okQs r) = true := h
    rw [Bool.and_eq_true] at h'
    obtain ⟨p, e1, e2, e3⟩ := py_ok h'.1
    obtain ⟨ps, f1, f2, f3⟩ := pys_ok h'.2
    refine ⟨p :: ps, ?_, ?_, ?_⟩
    · show (pyD d).bind (fun p => (pyDs r).map (p :: ·)) = _
      rw [e1, f1]; rfl
    · simp [PyData.canLayAll0, e2, f2]
    · simp only [PyData.depthAll, dpQs]; omega
end
theorem py_tup {ds : List D} {p : PyData} (h : pyD (.tup ds) = some p) : ∃ ps, p = .tuple ps ∧ pyDs ds = some ps := by
  obtain ⟨ps, h1, h2⟩ := Option.map_eq_some_iff.mp (show (pyDs ds).map PyData.tuple = some p from h)
  exact ⟨ps, h2.symm, h1⟩
theorem py_lst {ds : List D} {p : PyData} (h : pyD (.lst ds) = some p) : ∃ ps, p = .list ps ∧ pyDs ds = some ps := by
  obtain ⟨ps, h1, h2⟩ := Option.map_eq_some_iff.mp (show (pyDs ds).map PyData.list = some p from h)
  exact ⟨ps, h2.symm, h1⟩
mutual
theorem eqv_iff : ∀ {a b : D} {p q : PyData}, okQ a = true → okQ b = true → pyD a = some p → pyD b = some q → (PyData.eqv p q = true ↔ a = b)
  | a, b, p, q, ha, hb, ep, eq => by
    cases a with
    | non =>
      cases ep
      cases b with
      | non => cases eq; simp [PyData.eqv]
      | int i => cases eq; simp [PyData.eqv]
      | str i => cases eq; simp [PyData.eqv]
      | tup r => obtain ⟨ps, rfl, _⟩ := py_tup eq; simp [PyData.eqv]
      | lst r => obtain ⟨ps, rfl, _⟩ := py_lst eq; simp [PyData.eqv]
      | _ => cases hb
    | int i =>
      cases ep
      cases b with
      | non => cases eq; simp [PyData.eqv]
      | int i => cases eq; simp [PyData.eqv]
      | str i => cases eq; simp [PyData.eqv]
      | tup r => obtain ⟨ps, rfl, _⟩ := py_tup eq; simp [PyData.eqv]
      | lst r => obtain ⟨ps, rfl, _⟩ := py_lst eq; simp [PyData.eqv]
      | _ => cases hb
    | str i =>
      cases ep
      cases b with
      | non => cases eq; simp [PyData.eqv]
      | int i => cases eq; simp [PyData.eqv]
      | str i => cases eq; simp [PyData.eqv]
      | tup r => obtain ⟨ps, rfl, _⟩ := py_tup eq; simp [PyData.eqv]
      | lst r => obtain ⟨ps, rfl, _⟩ := py_lst eq; simp [PyData.eqv]
      | _ => cases hb
    | tup ds =>
      obtain ⟨ps, rfl, e1⟩ := py_tup ep
      cases b with
      | non => cases eq; simp [PyData.eqv]
      | int i => cases eq; simp [PyData.eqv]
      | str i => cases eq; simp [PyData.eqv]
      | tup r =>
        obtain ⟨qs, rfl, e2⟩ := py_tup eq
        have := eqvs_iff (show okQs ds = true from ha) (show okQs r = true from hb) e1 e2
        simp only [PyData.eqv, this, D.tup.injEq]
      | lst r => obtain ⟨qs, rfl, _⟩ := py_lst eq; simp [PyData.eqv]
      | _ => cases hb
    | lst ds =>
      obtain ⟨ps, rfl, e1⟩ := py_lst ep
      cases b with
      | non => cases eq; simp [PyData.eqv]
      | int i => cases eq; simp [PyData.eqv]
      | str i => cases eq; simp [PyData.eqv]
      | tup r => obtain ⟨qs, rfl, _⟩ := py_tup eq; simp [PyData.eqv]
      | lst r =>
        obtain ⟨qs, rfl, e2⟩ := py_lst eq
        have := eqvs_iff (show okQs ds = true from ha) (show okQs r = true from hb) e1 e2
        simp only [PyData.eqv, this, D.lst.injEq]
      | _ => cases hb
    | _ => cases ha
  termination_by a => sizeOf a
theorem eqvs_iff : ∀ {a b : List D} {p q : List PyData}, okQs a = true → okQs b = true → pyDs a = some p → pyDs b = some q → (PyData.eqvAll p q = true ↔ a = b)
  | [], [], p, q, _, _, ep, eq => by cases ep; cases eq; simp [PyData.eqvAll]
  | [], d :: r, p, q, _, _, ep, eq => by
    cases ep
    obtain ⟨x, _, h⟩ := Option.bind_eq_some_iff.mp (show (pyD d).bind (fun p => (pyDs r).map (p :: ·)) = some q from eq)
    obtain ⟨xs, _, rfl⟩ := Option.map_eq_some_iff.mp h
    simp [PyData.eqvAll]
  | d :: r, [], p, q, _, _, ep, eq => by
    cases eq
    obtain ⟨x, _, h⟩ := Option.bind_eq_some_iff.mp (show (pyD d).bind (fun p => (pyDs r).map (p :: ·)) = some p from ep)
    obtain ⟨xs, _, rfl⟩ := Option.map_eq_some_iff.mp h
    simp [PyData.eqvAll]
  | d :: r, e :: s, p, q, ha, hb, ep, eq => by
    have ha' : (okQ d && okQs r) = true := ha
    have hb' : (okQ e && okQs s) = true := hb
    rw [Bool.and_eq_true] at ha' hb'
    obtain ⟨x, x1, h⟩ := Option.bind_eq_some_iff.mp (show (pyD d).bind (fun p => (pyDs r).map (p :: ·)) = some p from ep)
    obtain ⟨xs, x2, rfl⟩ := Option.map_eq_some_iff.mp h
    obtain ⟨y, y1, h'⟩ := Option.bind_eq_some_iff.mp (show (pyD e).bind (fun p => (pyDs s).map (p :: ·)) = some q from eq)
    obtain ⟨ys, y2, rfl⟩ := Option.map_eq_some_iff.mp h'
    have i1 := eqv_iff ha'.1 hb'.1 x1 y1
    have i2 := eqvs_iff ha'.2 hb'.2 x2 y2
    simp only [PyData.eqvAll, Bool.and_eq_true, i1, i2, List.cons.injEq]
  termination_by a => sizeOf a
end
theorem eqv_dec {a b : D} (ha : okQ a = true) (hb : okQ b = true) (da : dpQ a ≤ 60) (db : dpQ b ≤ 60) : ∃ r, eqvD a b = some r ∧ (r = true ↔ a = b) := by
  obtain ⟨p, p1, p2, p3⟩ := py_ok ha
  obtain ⟨q, q1, q2, q3⟩ := py_ok hb
  refine ⟨PyData.eqv p q, ?_, eqv_iff ha hb p1 q1⟩
  unfold eqvD
  rw [p1, q1]
  show (if (SeqAt.shaped p && SeqAt.shaped q) = true then some (PyData.eqv p q) else none) = _
  rw [if_pos]
  simp only [SeqAt.shaped, Bool.and_eq_true, decide_eq_true_eq]
  exact ⟨⟨p2, by omega⟩, q2, by omega⟩
theorem ne_self {a : D} (ha : okQ a = true) (da : dpQ a ≤ 60) : neDD a a = .ok (.bl false) := by
  obtain ⟨r, e, h⟩ := eqv_dec ha ha da da
  unfold neDD
  rw [e, h.mpr rfl]
  rfl
end P2
namespace FM
noncomputable def g (a b : Int) : Int := (Int.gcd a b : Int)
theorem g_zero {a : Int} (ha : 0 ≤ a) : g a 0 = a := by
  unfold g; rw [Int.gcd_zero_right]; omega
theorem g_step {a b : Int} (ha : 0 ≤ a) (hb : 0 < b) : g b (a % b) = g a b := by
  unfold g
  congr 1
  obtain ⟨m, rfl⟩ := Int.eq_ofNat_of_zero_le ha
  obtain ⟨n, rfl⟩ := Int.eq_ofNat_of_zero_le (Int.le_of_lt hb)
  show Nat.gcd n ((m : Int) % (n : Int)).natAbs = Nat.gcd m n
  rw [show ((m : Int) % (n : Int)).natAbs = m % n from by omega]
  rw [Nat.gcd_comm m n, Nat.gcd_rec n m, Nat.gcd_comm]
theorem g_abs (a b : Int) : g (if a < 0 then -a else a) (if b < 0 then -b else b) = g a b := by
  unfold g
  congr 1
  unfold Int.gcd
  congr 1
  · split <;> omega
  · split <;> omega
theorem g_pos {a b : Int} (hb : b ≠ 0) : 0 < g a b := by
  unfold g
  have h := Int.gcd_pos_of_ne_zero_right a hb
  omega
theorem g_dvd1 (a b : Int) : g a b ∣ a := Int.gcd_dvd_left ..
theorem g_dvd2 (a b : Int) : g a b ∣ b := Int.gcd_dvd_right ..
noncomputable def dv (t b : Int) : Int := if b < 0 then -(g t b) else g t b
noncomputable def top (t b : Int) : Int := t.fdiv (dv t b)
noncomputable def bot (t b : Int) : Int := b.fdiv (dv t b)
theorem dv_ne {t b : Int} (hb : b ≠ 0) : dv t b ≠ 0 := by
  have := g_pos (a := t) hb
  unfold dv; split <;> omega
theorem fdiv_of_dvd {a d q : Int} (hd : d ≠ 0) (h : a = d * q) : a.fdiv d = q := by
  subst h
  rw [Int.mul_comm]
  exact Int.mul_fdiv_cancel q hd
theorem split {t b : Int} (hb : b ≠ 0) : t = dv t b * top t b ∧ b = dv t b * bot t b := by
  have hd := dv_ne (t := t) hb
  have h1 : dv t b ∣ t := by
    unfold dv; split
    · exact Int.neg_dvd.mpr (g_dvd1 t b)
    · exact g_dvd1 t b
  have h2 : dv t b ∣ b := by
    unfold dv; split
    · exact Int.neg_dvd.mpr (g_dvd2 t b)
    · exact g_dvd2 t b
  obtain ⟨p, hp⟩ := h1
  obtain ⟨q, hq⟩ := h2
  constructor
  · show t = dv t b * t.fdiv (dv t b)
    rw [fdiv_of_dvd hd hp]; exact hp
  · show b = dv t b * b.fdiv (dv t b)
    rw [fdiv_of_dvd hd hq]; exact hq
structure Low (p q : Int) : Prop where
  pos : 0 < q
  one : Int.gcd p q = 1
theorem low_of {t b : Int} (hb : b ≠ 0) : Low (top t b) (bot t b) := by
  obtain ⟨h1, h2⟩ := split (t := t) hb
  have hd := dv_ne (t := t) hb
  have hg := g_pos (a := t) hb
  have hab : (dv t b).natAbs = Int.gcd t b := by
    unfold dv g; split <;> omega
  refine ⟨?_, ?_⟩
  · rcases Int.lt_trichotomy b 0 with h | h | h
    · have e : dv t b = -(g t b) := by unfold dv; rw [if_pos h]
      rw [e] at h2
      refine Int.lt_of_not_ge fun hn => ?_
      have : 0 ≤ -(g t b) * bot t b := by
        have := Int.mul_nonneg_of_nonpos_of_nonpos (show -(g t b) ≤ 0 by omega) hn
        exact this
      omega
    · exact absurd h hb
    · have e : dv t b = g t b := by unfold dv; rw [if_neg (by omega)]
      rw [e] at h2
      refine Int.lt_of_not_ge fun hn => ?_
      have : g t b * bot t b ≤ 0 := Int.mul_nonpos_of_nonneg_of_nonpos (Int.le_of_lt hg) hn
      omega
  · have e : Int.gcd (dv t b * top t b) (dv t b * bot t b) = (dv t b).natAbs * Int.gcd (top t b) (bot t b) := Int.gcd_mul_left ..
    rw [← h1, ← h2, hab] at e
    have hz : 0 < Int.gcd t b := by unfold g at hg; omega
    exact (Nat.eq_of_mul_eq_mul_left hz (by rw [Nat.mul_one]; exact e)).symm
theorem cross {t b : Int} (hb : b ≠ 0) : top t b * b = t * bot t b := by
  obtain ⟨h1, h2⟩ := split (t := t) hb
  have e1 : top t b * b = top t b * (dv t b * bot t b) := by rw [← h2]
  have e2 : t * bot t b = (dv t b * top t b) * bot t b := by rw [← h1]
  rw [e1, e2]
  rw [← Int.mul_assoc, Int.mul_comm (top t b)]
theorem cop {a b c : Int} (h : Int.gcd a b = 1) (d : a ∣ b * c) : a ∣ c := by
  have h' : Nat.Coprime a.natAbs b.natAbs := h
  have d' : a.natAbs ∣ b.natAbs * c.natAbs := by
    rw [← Int.natAbs_mul]; exact Int.natAbs_dvd_natAbs.mpr d
  exact Int.natAbs_dvd_natAbs.mp (h'.dvd_of_dvd_mul_left d')
theorem low_eq {p q p' q' : Int} (a : Low p q) (b : Low p' q') (h : p * q' = p' * q) : p = p' ∧ q = q' := by
  obtain ⟨hq, g1⟩ := a
  obtain ⟨hq', g2⟩ := b
  have d1 : q ∣ q' := by
    have : q ∣ p * q' := by rw [h]; exact Int.dvd_mul_left ..
    exact cop (by rw [Int.gcd_comm]; exact g1) this
  have d2 : q' ∣ q := by
    have : q' ∣ p' * q := by rw [← h]; exact Int.dvd_mul_left ..
    exact cop (by rw [Int.gcd_comm]; exact g2) this
  have e : q = q' := Int.dvd_antisymm (Int.le_of_lt hq) (Int.le_of_lt hq') d1 d2
  subst e
  exact ⟨Int.eq_of_mul_eq_mul_right (by omega) h, rfl⟩
theorem scaled {p q k : Int} (L : Low p q) (hk : k ≠ 0) : top (p * k) (q * k) = p ∧ bot (p * k) (q * k) = q := by
  have hq : q ≠ 0 := by have := L.pos; omega
  have hb : q * k ≠ 0 := Int.mul_ne_zero hq hk
  refine low_eq (low_of hb) L ?_
  have c := cross (t := p * k) hb
  -- top * (q * k) = (p * k) * bot
  refine Int.eq_of_mul_eq_mul_right hk ?_
  rw [Int.mul_assoc, c, Int.mul_assoc, Int.mul_assoc, Int.mul_comm k]
theorem turned {p q k : Int} (L : Low p q) (hk : k ≠ 0) : top (0 - p * k) (0 - q * k) = p ∧ bot (0 - p * k) (0 - q * k) = q := by
  have e1 : 0 - p * k = p * (-k) := by rw [Int.mul_neg]; omega
  have e2 : 0 - q * k = q * (-k) := by rw [Int.mul_neg]; omega
  rw [e1, e2]
  exact scaled L (by omega)
theorem dv_abs (t b : Int) : (dv t b).natAbs = Int.gcd t b := by unfold dv g; split <;> omega
theorem dv_le {t b : Int} (hb : b ≠ 0) : (dv t b).natAbs ≤ b.natAbs := by
  rw [dv_abs]
  exact Nat.le_of_dvd (by omega) (Nat.gcd_dvd_right ..)
end FM
namespace T2
open PySem PySem.NumText TM
noncomputable def numI (t : Int) : List Nat := if t < 0 then 45 :: num t.natAbs else num t.natAbs
theorem cds_int (t : Int) : cds (Str.ofString (toString t)) = numI t := by
  cases t with
  | ofNat n =>
    unfold numI
    rw [if_neg (by simp)]
    exact cds_num n
  | negSucc n =>
    unfold numI
    rw [if_pos (Int.negSucc_lt_zero n)]
    have e : cds (Str.ofString (toString (Int.negSucc n))) = 45 :: cds (Str.ofString (toString (((n + 1 : Nat)) : Int))) := by
      unfold cds
      rw [PySem.Str.ofString_eq_toList, PySem.Str.ofString_eq_toList]
      show ("-" ++ Nat.repr (n + 1)).toList.map Char.toNat = 45 :: ((Nat.repr (n + 1)).toList.map Char.toNat)
      rw [String.toList_append, List.map_append]
      rfl
    rw [e, cds_num]
    rfl
noncomputable def splitL (c : Nat) : List Nat → List (List Nat)
  | [] => [[]]
  | x :: r => if x = c then [] :: splitL c r else match splitL c r with
    | p :: ps => (x :: p) :: ps
    | [] => [[x]]
theorem splitL_hit {c : Nat} {r : List Nat} : splitL c (c :: r) = [] :: splitL c r := by
  show (if c = c then [] :: splitL c r else _) = _
  rw [if_pos rfl]
theorem splitL_miss {c x : Nat} {r p : List Nat} {ps : List (List Nat)} (h : x ≠ c) (e : splitL c r = p :: ps) : splitL c (x :: r) = (x :: p) :: ps := by
  show (if x = c then [] :: splitL c r else match splitL c r with | p :: ps => (x :: p) :: ps | [] => [[x]]) = _
  rw [if_neg h, e]
theorem splitL_free {c : Nat} : ∀ {l : List Nat}, c ∉ l → splitL c l = [l]
  | [], _ => rfl
  | x :: r, h => splitL_miss (fun z => h (by rw [z]; exact List.mem_cons_self ..)) (splitL_free fun z => h (List.mem_cons_of_mem _ z))
theorem splitL_app {c : Nat} {r : List Nat} : ∀ {l : List Nat}, c ∉ l → splitL c (l ++ c :: r) = l :: splitL c r
  | [], _ => splitL_hit
  | x :: l, h => splitL_miss (fun z => h (by rw [z]; exact List.mem_cons_self ..)) (splitL_app fun z => h (List.mem_cons_of_mem _ z))
theorem not_num {m c : Nat} (h : c < 48 ∨ 57 < c) : c ∉ num m := fun z => by have := num_digits m c z; omega
structure Ok (t b : Int) : Prop where
  low : FM.Low t b
  ht : t.natAbs < 10 ^ 60
  hb : b.natAbs < 10 ^ 60
theorem top_le (t : Int) {b : Int} (hb : b ≠ 0) : (FM.top t b).natAbs ≤ t.natAbs ∧ (FM.bot t b).natAbs ≤ b.natAbs := by
  obtain ⟨h1, h2⟩ := FM.split (t := t) hb
  have hd := FM.dv_ne (t := t) hb
  have hd1 : 1 ≤ (FM.dv t b).natAbs := by omega
  have e1 : t.natAbs = (FM.dv t b).natAbs * (FM.top t b).natAbs := by rw [← Int.natAbs_mul, ← h1]
  have e2 : b.natAbs = (FM.dv t b).natAbs * (FM.bot t b).natAbs := by rw [← Int.natAbs_mul, ← h2]
  rw [e1, e2]
  exact ⟨Nat.le_mul_of_pos_left _ hd1, Nat.le_mul_of_pos_left _ hd1⟩
end T2
namespace T4
open PySem PySem.NumText TM
end T4
namespace TR
open PySem PySem.NumText TM T2
noncomputable def keyL : List (List Nat) := [[109, 97, 114, 107], [102, 105, 108, 108], [104, 101, 114, 101], [98, 97, 99, 107], [111, 110], [97, 116], [97, 103, 111], [117, 110, 116, 105, 108], [97, 98, 115], [97, 110, 100], [111, 114], [110, 111, 116]]
noncomputable def ltr (c : Nat) : Bool := decide (97 ≤ c) && decide (c ≤ 122)
noncomputable def wordB (m : List Nat) : Bool := decide (m ≠ []) && decide (m.length ≤ 8) && m.all ltr && !decide (m ∈ keyL)
noncomputable def hmL (t : Nat) : List Nat := two (t % 1440 / 60) ++ 58 :: two (t % 1440 % 60)
noncomputable def showR (m : List Nat) (t u : Nat) (n : Int) : List Nat := m ++ 32 :: (num (t / 1440) ++ 32 :: (hmL t ++ 32 :: (num u ++ 32 :: numI n)))
structure Ok (m : List Nat) (t u : Nat) (n : Int) : Prop where
  m : wordB m = true
  t : t ≤ 1000000000
  u : u ≤ 1000000000
  n : n.natAbs < 10 ^ 60
theorem word_all {m : List Nat} (h : wordB m = true) : m ≠ [] ∧ m.length ≤ 8 ∧ (∀ c ∈ m, 97 ≤ c ∧ c ≤ 122) ∧ m ∉ keyL := by
  unfold wordB at h
  simp only [Bool.and_eq_true, decide_eq_true_eq, Bool.not_eq_true', decide_eq_false_iff_not, List.all_eq_true] at h
  refine ⟨h.1.1.1, h.1.1.2, fun c hc => ?_, h.2⟩
  have := h.1.2 c hc
  unfold ltr at this
  simpa using this
theorem no32 {m : List Nat} (h : wordB m = true) : 32 ∉ m := fun z => by have := (word_all h).2.2.1 32 z; omega
theorem num32 (k : Nat) : 32 ∉ num k := not_num (.inl (by decide))
theorem hm32 (t : Nat) : 32 ∉ hmL t := by
  unfold hmL two
  intro z
  simp only [List.mem_append, List.mem_cons, List.not_mem_nil, or_false] at z
  omega
theorem numI32 (n : Int) : 32 ∉ numI n := by
  unfold numI
  split
  · intro z
    rcases List.mem_cons.mp z with z | z
    · cases z
    · exact num32 _ z
  · exact num32 _
theorem parts {m : List Nat} {t u : Nat} {n : Int} (O : Ok m t u n) : splitL 32 (showR m t u n) = [m, num (t / 1440), hmL t, num u, numI n] := by
  unfold showR
  rw [splitL_app (no32 O.m), splitL_app (num32 _), splitL_app (hm32 _), splitL_app (num32 _), splitL_free (numI32 _)]
end TR
set_option exponentiation.threshold 500
namespace WP
open PySem L2 P2 TM T2 PySem.NumText
local macro_rules | `(tactic| walk_at "den") => `(tactic| try simp (disch := first | assumption | decide | exact Nat.le_of_ble_eq_true rfl) only [q_bind_k, q_bind_x, q_bind_b, q_toS_k, q_toS_x, q_toS_b, q_seq_n, q_seq_r, q_seq_x, q_seq_b, q_turn_n, q_turn_c, q_turn_k, q_turn_r, q_turn_b, q_turn_x, q_fin_r, q_fin_n, q_fin_x, q_noEx_k, q_okO_k, q_ofO_s, q_sSeq_a, q_sNil_a, q_sRet_a, q_sExpr_a, q_sSet_a, q_sIf_a, q_dC_a, q_d1_a, q_d2_a, q_b1B_a, q_b1T_a, q_bAnd_a, q_bOr_a, q_bNot_a, q_dAnd_a, q_dOr_a, q_dNot_a, q_dIf_a, q_dA_a, q_aNil_a, q_aCons_a, q_asN_a, q_dMt_a, q_dSl_a, q_dComp_a, q_sFor_a, q_toO_s, q_gV_a, q_tB_b, q_tT_b, q_tT_i, q_tT_n, q_tT_l, q_tT_t, q_add_i, q_sub_i, q_fdiv_p, q_mod_p, q_lt_i, q_le_i, q_gt_i, q_ge_i, q_neg_i, q_eq_i, q_eq_s, q_eq_b, q_ne_i, q_ne_s, q_in_s, q_ix_l, q_ix_t, q_ix_s, q_sl_l, q_sl_s, q_pI_i, q_len_s, q_len_l, q_len_t, q_abs_i, q_max_i, q_int_s, q_all_l, q_any_l, q_st_s, q_zf_s, q_hs_s, q_fit_p, q_add_sp, q_add_lp, q_mkT_p, q_asI_l, q_asI_t, q_asI_s, q_fmt_s, q_jNil_a, q_jCons_k, q_isX_i, q_isX_b, q_isX_s, q_isX_t, q_isX_l, q_slW_l, q_slW_s, q_is_bb, q_isn_bb, q_is_nn, q_isn_nn, q_is_tn, q_isn_tn, q_v0, q_v1, q_v2, q_v3, q_v4, q_v5, q_v6, q_v7, q_v8, q_v9, q_v10, q_v11, q_v12, q_v13, startD, List.map_cons, List.map_nil, List.length_cons, List.length_nil, Nat.sub_self, Nat.reduceAdd, Nat.reduceSub, List.replicate_zero, List.replicate_succ, List.append_nil, List.nil_append, List.cons_append, List.set_cons_zero, List.set_cons_succ, if_true, if_false, Nat.reduceLT, Nat.zero_lt_succ, Bool.not_true, Bool.not_false, Bool.false_eq_true, reduceIte, decide_true, decide_false, Int.reduceLT, Int.reduceEq, Int.reduceNeg, Int.reducePow, Int.reduceSub, Int.reduceAdd, Int.reduceMul,  List.length_set])
variable {a : Ad}
theorem dv_lt {t b : Int} (hb : b ≠ 0) (h : b.natAbs < 10 ^ 400) : (FM.dv t b).natAbs < 10 ^ 400 := by
  have := FM.dv_le (t := t) (b := b) hb
  omega
noncomputable abbrev fr (t b : Int) : D := .tup [.int (FM.top t b), .int (FM.bot t b)]
theorem len_numI {t : Int} (h : t.natAbs < 10 ^ 400) : (numI t).length ≤ 402 := by
  have := num_len (k := 399) (m := t.natAbs) h
  unfold numI
  split
  · rw [List.length_cons]; omega
  · omega
theorem len_str {t : Int} (h : t.natAbs < 10 ^ 400) : (Str.ofString (toString t)).length ≤ 402 := by rw [len_cds, cds_int]; exact len_numI h
end WP
namespace CK
theorem fr_eq {x y x' y' : Int} (hy : y ≠ 0) (hy' : y' ≠ 0) (h : x * y' = x' * y) : FM.top x y = FM.top x' y' ∧ FM.bot x y = FM.bot x' y' := by
  have c1 := FM.cross (t := x) hy
  have c2 := FM.cross (t := x') hy'
  refine FM.low_eq (FM.low_of hy) (FM.low_of hy') ?_
  have e : (FM.top x y * FM.bot x' y') * (y * y') = (FM.top x' y' * FM.bot x y) * (y * y') := by grind
  exact Int.eq_of_mul_eq_mul_right (Int.mul_ne_zero hy hy') e
section
variable {α : Type} (k : α → Int)
noncomputable def pickC : α → List α → α
  | b, c :: cs => if k b < k c then pickC c cs else pickC b cs
  | b, [] => b
noncomputable def maxC : List α → Option α
  | [] => none
  | c :: cs => some (pickC k c cs)
end
theorem share {p1 q1 p2 q2 t t1 t2 : Int} (L1 : FM.Low p1 q1) (L2 : FM.Low p2 q2) (h : t1 < t2) {s1 s2 m1 m2 g1 g2 : Int}
    (hs : s1 = FM.top (t - t1) (t2 - t1) ∧ s2 = FM.bot (t - t1) (t2 - t1)) (hm : m1 = FM.top (p2 * q1 - p1 * q2) (q2 * q1) ∧ m2 = FM.bot (p2 * q1 - p1 * q2) (q2 * q1))
    (hg : g1 = FM.top (s1 * m1) (s2 * m2) ∧ g2 = FM.bot (s1 * m1) (s2 * m2)) :
    FM.top (p1 * g2 + g1 * q1) (q1 * g2) = FM.top (p1 * (t2 - t) * q2 + p2 * (t - t1) * q1) ((t2 - t1) * q1 * q2) ∧ FM.bot (p1 * g2 + g1 * q1) (q1 * g2) = FM.bot (p1 * (t2 - t) * q2 + p2 * (t - t1) * q1) ((t2 - t1) * q1 * q2) := by
  have hq1 := L1.pos
  have hq2 := L2.pos
  have hT : t2 - t1 ≠ 0 := by omega
  have hQ : q2 * q1 ≠ 0 := Int.mul_ne_zero (by omega) (by omega)
  have c1 := FM.cross (t := t - t1) hT
  have z1 := (FM.low_of (t := t - t1) hT).pos
  have c2 := FM.cross (t := p2 * q1 - p1 * q2) hQ
  have z2 := (FM.low_of (t := p2 * q1 - p1 * q2) hQ).pos
  rw [← hs.1, ← hs.2] at c1
  rw [← hs.2] at z1
  rw [← hm.1, ← hm.2] at c2
  rw [← hm.2] at z2
  have hG : s2 * m2 ≠ 0 := Int.mul_ne_zero (by omega) (by omega)
  have c3 := FM.cross (t := s1 * m1) hG
  have z3 := (FM.low_of (t := s1 * m1) hG).pos
  rw [← hg.1, ← hg.2] at c3
  rw [← hg.2] at z3
  refine fr_eq (Int.mul_ne_zero (by omega) (by omega)) (Int.mul_ne_zero (Int.mul_ne_zero hT (by omega)) (by omega)) ?_
  refine Int.eq_of_mul_eq_mul_right hG ?_
  grind
end CK
namespace WP
open PySem L2 P2 TM T2 PySem.NumText
local macro_rules | `(tactic| walk_at "den") => `(tactic| try simp (disch := first | assumption | decide | exact Nat.le_of_ble_eq_true rfl) only [q_bind_k, q_bind_x, q_bind_b, q_toS_k, q_toS_x, q_toS_b, q_seq_n, q_seq_r, q_seq_x, q_seq_b, q_turn_n, q_turn_c, q_turn_k, q_turn_r, q_turn_b, q_turn_x, q_fin_r, q_fin_n, q_fin_x, q_noEx_k, q_okO_k, q_ofO_s, q_sSeq_a, q_sNil_a, q_sRet_a, q_sExpr_a, q_sSet_a, q_sIf_a, q_dC_a, q_d1_a, q_d2_a, q_b1B_a, q_b1T_a, q_bAnd_a, q_bOr_a, q_bNot_a, q_dAnd_a, q_dOr_a, q_dNot_a, q_dIf_a, q_dA_a, q_aNil_a, q_aCons_a, q_asN_a, q_dMt_a, q_dSl_a, q_dComp_a, q_sFor_a, q_toO_s, q_gV_a, q_tB_b, q_tT_b, q_tT_i, q_tT_n, q_tT_l, q_tT_t, q_add_i, q_sub_i, q_fdiv_p, q_mod_p, q_lt_i, q_le_i, q_gt_i, q_ge_i, q_neg_i, q_eq_i, q_eq_s, q_eq_b, q_ne_i, q_ne_s, q_in_s, q_ix_l, q_ix_t, q_ix_s, q_sl_l, q_sl_s, q_pI_i, q_len_s, q_len_l, q_len_t, q_abs_i, q_max_i, q_int_s, q_all_l, q_any_l, q_st_s, q_zf_s, q_hs_s, q_fit_p, q_add_sp, q_add_lp, q_mkT_p, q_asI_l, q_asI_t, q_asI_s, q_fmt_s, q_jNil_a, q_jCons_k, q_isX_i, q_isX_b, q_isX_s, q_isX_t, q_isX_l, q_slW_l, q_slW_s, q_is_bb, q_isn_bb, q_is_nn, q_isn_nn, q_is_tn, q_isn_tn, q_v0, q_v1, q_v2, q_v3, q_v4, q_v5, q_v6, q_v7, q_v8, q_v9, q_v10, q_v11, q_v12, q_v13, startD, List.map_cons, List.map_nil, List.length_cons, List.length_nil, Nat.sub_self, Nat.reduceAdd, Nat.reduceSub, List.replicate_zero, List.replicate_succ, List.append_nil, List.nil_append, List.cons_append, List.set_cons_zero, List.set_cons_succ, if_true, if_false, Nat.reduceLT, Nat.zero_lt_succ, Bool.not_true, Bool.not_false, Bool.false_eq_true, reduceIte, decide_true, decide_false, Int.reduceLT, Int.reduceEq, Int.reduceNeg, Int.reducePow, Int.reduceSub, Int.reduceAdd, Int.reduceMul,  List.length_set])
variable {a : Ad}
noncomputable def Sz (n : Nat) (i : Int) : Prop := i.natAbs < 10 ^ n
theorem Sz.mono {m n : Nat} {i : Int} (h : Sz m i) (le : m ≤ n) : Sz n i := Nat.lt_of_lt_of_le h (Nat.pow_le_pow_right (by decide) le)
theorem Sz.mul {m n : Nat} {i j : Int} (h : Sz m i) (g : Sz n j) : Sz (m + n) (i * j) := by
  unfold Sz at *
  rw [Int.natAbs_mul, Nat.pow_add]
  exact Nat.mul_lt_mul'' h g
theorem Sz.add {n : Nat} {i j : Int} (h : Sz n i) (g : Sz n j) : Sz (n + 1) (i + j) := by
  unfold Sz at *
  have : (10 : Nat) ^ (n + 1) = 10 ^ n * 10 := Nat.pow_succ ..
  omega
theorem Sz.sub {n : Nat} {i j : Int} (h : Sz n i) (g : Sz n j) : Sz (n + 1) (i - j) := by
  unfold Sz at *
  have : (10 : Nat) ^ (n + 1) = 10 ^ n * 10 := Nat.pow_succ ..
  omega
theorem Sz.top {n : Nat} {t b : Int} (h : Sz n t) (hb : b ≠ 0) : Sz n (FM.top t b) := Nat.lt_of_le_of_lt (top_le t hb).1 h
theorem Sz.bot {n : Nat} {t b : Int} (h : Sz n b) (hb : b ≠ 0) : Sz n (FM.bot t b) := Nat.lt_of_le_of_lt (top_le t hb).2 h
noncomputable abbrev pr (p q : Int) : D := .tup [.int p, .int q]
section
variable {Ff : List D → R D} (hf : ∀ t b : Int, b ≠ 0 → b.natAbs < 10 ^ 400 → Ff [.int t, .int b] = .ok (fr t b)) {p q x y : Int} (h1 : Sz 190 p) (h2 : Sz 190 q) (h3 : Sz 190 x) (h4 : Sz 190 y)
include hf h1 h2 h3 h4
end
structure Ck where
  m : Str
  t : Int
  p : Int
  q : Int
noncomputable abbrev Ck.d (c : Ck) : D := .tup [.str c.m, .int c.t, pr c.p c.q]
noncomputable def ahead (L : List Ck) (m : Str) (t : Int) : Option Ck := CK.maxC (fun c => c.t) (L.filter fun c => decide (c.t ≤ t) && decide (c.m = m))
noncomputable def behind (L : List Ck) (m : Str) (t : Int) : Option Ck := CK.maxC (fun c => - c.t) (L.filter fun c => decide (t ≤ c.t) && decide (c.m = m))
noncomputable def shareD (t t1 t2 : Int) : Int × Int := if t1 = t2 then (0, 1) else (FM.top (t - t1) (t2 - t1), FM.bot (t - t1) (t2 - t1))
noncomputable def betw (t : Int) (c d : Ck) : Int × Int :=
  let s := shareD t c.t d.t
  let mt := FM.top (d.p * c.q - c.p * d.q) (d.q * c.q)
  let mb := FM.bot (d.p * c.q - c.p * d.q) (d.q * c.q)
  let gt := FM.top (s.1 * mt) (s.2 * mb)
  let gb := FM.bot (s.1 * mt) (s.2 * mb)
  (FM.top (c.p * gb + gt * c.q) (c.q * gb), FM.bot (c.p * gb + gt * c.q) (c.q * gb))
structure Ck.Ok (c : Ck) : Prop where
  low : FM.Low c.p c.q
  p : Sz 9 c.p
  q : Sz 6 c.q
  t : 0 ≤ c.t ∧ c.t ≤ 1000000000
  s : PyData.strOk c.m = true
noncomputable abbrev Ck.y (c : Ck) : PyData := .tuple [.str c.m, .int c.t, .tuple [.int c.p, .int c.q]]
structure Os (a : Ad) (Ff Ft Fs Fm Fx Fp : List D → R D) : Prop where
  f : ∀ t b : Int, b ≠ 0 → b.natAbs < 10 ^ 400 → Ff [.int t, .int b] = .ok (fr t b)
  t : ∀ c : Ck, Ft [c.d] = .ok (.int c.t)
  s : ∀ t t1 t2 : Int, Sz 20 t1 → Sz 20 t2 → Fs [.int t, .int t1, .int t2] = .ok (pr (shareD t t1 t2).1 (shareD t t1 t2).2)
  m : ∀ p q x y : Int, Sz 190 p → Sz 190 q → Sz 190 x → Sz 190 y → q ≠ 0 → y ≠ 0 → Fm [pr p q, pr x y] = .ok (fr (p * y - x * q) (q * y))
  x : ∀ p q x y : Int, Sz 190 p → Sz 190 q → Sz 190 x → Sz 190 y → q ≠ 0 → y ≠ 0 → Fx [pr p q, pr x y] = .ok (fr (p * x) (q * y))
  p : ∀ p q x y : Int, Sz 190 p → Sz 190 q → Sz 190 x → Sz 190 y → q ≠ 0 → y ≠ 0 → Fp [pr p q, pr x y] = .ok (fr (p * y + x * q) (q * y))
structure Ov (a : Ad) (Ff Ft Fv : List D → R D) : Prop where
  f : ∀ t b : Int, b ≠ 0 → b.natAbs < 10 ^ 400 → Ff [.int t, .int b] = .ok (fr t b)
  t : ∀ c : Ck, Ft [c.d] = .ok (.int c.t)
  v : ∀ {t : Int}, (0 ≤ t ∧ t ≤ 1000000000) → ∀ {c d : Ck}, c.Ok → d.Ok → Fv [.int t, c.d, d.d] = .ok (pr (betw t c d).1 (betw t c d).2)
end WP
namespace P2
open PySem L2
theorem q_sOwn_a {i : Nat} {f : Ev → R (List D)} {ρ : Ev} : sOwn i f ρ = toS (f ρ) fun ds => if i < ρ.length then .nx (ρ.set i (.ow ds)) else .bad := rfl
theorem q_sPar_a {i j : Nat} {fs : Ev → R (List D)} {ρ : Ev} : sPar i j fs ρ = toS (fs ρ) fun ds => match ds with
  | [d1, d2] => if i < ρ.length ∧ j < ρ.length then .nx ((ρ.set i (.sh d1)).set j (.sh d2)) else .bad
  | _ => .bad := rfl
theorem q_app3 {f : Ev → R D} {s0 s1 s2 : Sl} {ds : List D} {r : Ev} : sApp 3 f (s0 :: s1 :: s2 :: .ow ds :: r) = toS (f (s0 :: s1 :: s2 :: .ow ds :: r)) fun d => if ds.length < sizeLine then .nx (s0 :: s1 :: s2 :: .ow (ds ++ [d]) :: r) else .bad := rfl
theorem q_app4 {f : Ev → R D} {s0 s1 s2 s3 : Sl} {ds : List D} {r : Ev} : sApp 4 f (s0 :: s1 :: s2 :: s3 :: .ow ds :: r) = toS (f (s0 :: s1 :: s2 :: s3 :: .ow ds :: r)) fun d => if ds.length < sizeLine then .nx (s0 :: s1 :: s2 :: s3 :: .ow (ds ++ [d]) :: r) else .bad := rfl
theorem q_frz3 {s0 s1 s2 : Sl} {ds : List D} {r : Ev} : frzS 3 (s0 :: s1 :: s2 :: .ow ds :: r) = s0 :: s1 :: s2 :: .sh (.lst ds) :: r := rfl
theorem q_frz4 {s0 s1 s2 s3 : Sl} {ds : List D} {r : Ev} : frzS 4 (s0 :: s1 :: s2 :: s3 :: .ow ds :: r) = s0 :: s1 :: s2 :: s3 :: .sh (.lst ds) :: r := rfl
theorem q_min_i {i j : Int} : min2D [.int i, .int j] = .ok (.int (if j < i then j else i)) := rfl
theorem q_rng1_p {j : Int} (h1 : 0 ≤ j) (h2 : j < 1000000) : rng1 [.int j] = .ok (rangeL 0 j.toNat) := by
  show (if -(2 ^ 62) ≤ j ∧ j < 2 ^ 62 then R.ok (rangeL 0 j.toNat) else .bad) = _
  rw [if_pos (by omega)]
end P2
namespace WP
open PySem L2 P2 TM T2 PySem.NumText
local macro_rules | `(tactic| walk_at "den") => `(tactic| try simp (disch := first | assumption | decide | exact Nat.le_of_ble_eq_true rfl) only [q_bind_k, q_bind_x, q_bind_b, q_toS_k, q_toS_x, q_toS_b, q_seq_n, q_seq_r, q_seq_x, q_seq_b, q_turn_n, q_turn_c, q_turn_k, q_turn_r, q_turn_b, q_turn_x, q_fin_r, q_fin_n, q_fin_x, q_noEx_k, q_okO_k, q_ofO_s, q_sSeq_a, q_sNil_a, q_sRet_a, q_sExpr_a, q_sSet_a, q_sIf_a, q_dC_a, q_d1_a, q_d2_a, q_b1B_a, q_b1T_a, q_bAnd_a, q_bOr_a, q_bNot_a, q_dAnd_a, q_dOr_a, q_dOrV_a, q_dNot_a, q_dIf_a, q_dA_a, q_aNil_a, q_aCons_a, q_asN_a, q_dMt_a, q_dSl_a, q_dComp_a, q_sFor_a, q_sOwn_a, q_sPar_a, q_app3, q_app4, q_frz3, q_frz4, q_min_i, q_rng1_p, q_toO_s, q_gV_a, q_tB_b, q_tT_b, q_tT_i, q_tT_n, q_tT_l, q_tT_t, q_add_i, q_sub_i, q_fdiv_p, q_mod_p, q_lt_i, q_le_i, q_gt_i, q_ge_i, q_neg_i, q_eq_i, q_eq_s, q_eq_b, q_ne_i, q_ne_s, q_in_s, q_ix_l, q_ix_t, q_ix_s, q_sl_l, q_sl_s, q_pI_i, q_len_s, q_len_l, q_len_t, q_abs_i, q_max_i, q_int_s, q_all_l, q_any_l, q_st_s, q_zf_s, q_hs_s, q_fit_p, q_add_sp, q_add_lp, q_mkT_p, q_asI_l, q_asI_t, q_asI_s, q_fmt_s, q_jNil_a, q_jCons_k, q_isX_i, q_isX_b, q_isX_s, q_isX_t, q_isX_l, q_slW_l, q_slW_s, q_is_bb, q_isn_bb, q_is_nn, q_isn_nn, q_is_tn, q_isn_tn, q_v0, q_v1, q_v2, q_v3, q_v4, q_v5, q_v6, q_v7, q_v8, q_v9, q_v10, q_v11, q_v12, q_v13, startD, List.map_cons, List.map_nil, List.length_cons, List.length_nil, Nat.sub_self, Nat.reduceAdd, Nat.reduceSub, List.replicate_zero, List.replicate_succ, List.append_nil, List.nil_append, List.cons_append, List.set_cons_zero, List.set_cons_succ, if_true, if_false, Nat.reduceLT, Nat.zero_lt_succ, Bool.not_true, Bool.not_false, Bool.false_eq_true, reduceIte, decide_true, decide_false, Int.reduceLT, Int.reduceEq, Int.reduceNeg, Int.reducePow, Int.reduceSub, Int.reduceAdd, Int.reduceMul,  List.length_set])
variable {a : Ad}
theorem lt_size {n : Nat} (h : n < 1000000) : n < sizeLine := Nat.lt_of_lt_of_le h (by decide)
theorem atI_getD (ns : List Int) (k : Nat) (h : k < ns.length) : L2.atI (ns.map D.int) (k : Int) = some (.int (ns.getD k 0)) := by
  refine atI_nat ?_
  rw [List.getElem?_map, List.getElem?_eq_getElem h, List.getD_eq_getElem?_getD, List.getElem?_eq_getElem h]; rfl
theorem m_cell (ns : List Int) (k : Nat) : finT (g_law_cell_at a (startD 2 [.lst (ns.map .int), .int k])) = .ok (.int (ns.getD k 0)) := by
  unfold g_law_cell_at
  walk_at "den"
  rw [List.length_map]
  by_cases h : k < ns.length
  · rw [if_pos (decide_eq_true (by omega)), atI_getD ns k h]
    walk_at "den"
  · rw [if_neg (by simp; omega)]
    walk_at "den"
    rw [List.getD_eq_getElem?_getD, List.getElem?_eq_none (by omega)]; rfl
noncomputable def mixZ (c k : Int) : Int := (c % 2147483647 + 31 * k + 1) * 48271 * (c % 2147483647 + 3 * k + 7) % 2147483629
theorem w_low : ∀ (n : Nat) (x y : Int) (s0 s1 : Sl), 0 ≤ x → 0 ≤ y → y < n →
    whileD (b1 tB (d2 gtD (dV 3) (dC (.int 0)))) (b1_law_low a) n [s0, s1, .sh (.int x), .sh (.int y)] = .nx [s0, s1, .sh (.int (FM.g x y)), .sh (.int 0)]
  | 0, x, y, s0, s1, hx, hy, h => by omega
  | n + 1, x, y, s0, s1, hx, hy, h => by
    rw [q_whileD]
    by_cases z : y = 0
    · subst z
      walk_at "den"
      rw [FM.g_zero hx]
    · have hp : 0 < y := by omega
      have hm := Int.emod_lt_of_pos x hp
      have e := w_low n y (x % y) s0 s1 hy (Int.emod_nonneg x z) (by omega)
      unfold b1_law_low
      iterate 4 (walk_at "den"; try simp only [decide_eq_true hp, q_mod_p hp, and_self])
      rw [← FM.g_step hx hp]
      exact e
theorem m_low (t b : Int) (hb : 0 < b) (h : b.natAbs < 10 ^ 400) : finT (g_law_low a (startD 4 [.int t, .int b])) = .ok (fr t b) := by
  have e := w_low (a := a) 10000000000000000000000000000000000000000000000000000000000000000000000000000000000000000000000000000000000000000000000000000000000000000000000000000000000000000000000000000000000000000000000000000000000000000000000000000000000000000000000000000000000000000000000000000000000000000000000000000000000000000000000000000000000000000000000000000000000000000000000000000000000000000000000000000000000000000 (if t < 0 then -t else t) b (.sh (.int t)) (.sh (.int b)) (by split <;> omega) (by omega) (by omega)
  have eg : FM.g (if t < 0 then -t else t) b = FM.dv t b := by
    have := FM.g_abs t b
    rw [if_neg (show ¬ b < 0 by omega)] at this
    rw [this]; unfold FM.dv; rw [if_neg (by omega)]
  rw [eg] at e
  have d1 := q_fdivU (i := t) (FM.dv_ne (t := t) (b := b) (by omega)) (dv_lt (t := t) (b := b) (by omega) h)
  have d2 := q_fdivU (i := b) (FM.dv_ne (t := t) (b := b) (by omega)) (dv_lt (t := t) (b := b) (by omega) h)
  unfold g_law_low
  iterate 4 (walk_at "den"; try simp only [and_self])
  rw [e]
  iterate 4 (walk_at "den"; try simp only [d1, d2])
  rfl
noncomputable def timeZ (c near : Int) : Int := if c % 7 = 6 then c / 7 % 1000000001 else near + c / 7 % 30
structure FOk (p q : Int) : Prop where
  low : FM.Low p q
  p : Sz 9 p
  q : Sz 6 q
theorem ok_app {x y : Str} (hx : PyData.strOk x = true) (hy : PyData.strOk y = true) : PyData.strOk (x ++ y) = true := by
  unfold PyData.strOk at *
  rw [← Array.all_toList] at *
  show ((cds (x ++ y)).all _) = true
  rw [cds_app, List.all_append, Bool.and_eq_true]
  exact ⟨hx, hy⟩
theorem len_app {x y : Str} : (x ++ y).length = x.length + y.length := by rw [len_cds, cds_app, List.length_append, ← len_cds, ← len_cds]
theorem at_qxz : ∀ n : Nat, n < 3 → ∃ c, c < 128 ∧ L2.atI (Str.ofString "qxz").cps.toList (n : Int) = some c := by decide
theorem at_abc : ∀ n : Nat, n < 26 → ∃ c, c < 128 ∧ L2.atI (Str.ofString "abcdefghijklmnopqrstuvwxyz").cps.toList (n : Int) = some c := by decide
theorem at_str : ∀ n : Nat, n < 12 → ∃ s : Int, 0 < s ∧ s < 30 ∧ L2.atI [D.int 1, .int 3, .int 5, .int 7, .int 9, .int 11, .int 15, .int 17, .int 19, .int 21, .int 23, .int 25] (n : Int) = some (.int s) := by
  intro n h
  have : n = 0 ∨ n = 1 ∨ n = 2 ∨ n = 3 ∨ n = 4 ∨ n = 5 ∨ n = 6 ∨ n = 7 ∨ n = 8 ∨ n = 9 ∨ n = 10 ∨ n = 11 := by omega
  rcases this with rfl | rfl | rfl | rfl | rfl | rfl | rfl | rfl | rfl | rfl | rfl | rfl <;> exact ⟨_, by decide, by decide, rfl⟩
theorem ok_one {c : Nat} (h : c < 128) : PyData.strOk ⟨#[c]⟩ = true := by
  unfold PyData.strOk
  simp
  omega
theorem ix_qxz (j : Int) (h : 0 ≤ j ∧ j < 3) : ∃ c, c < 128 ∧ L2.atI (Str.ofString "qxz").cps.toList j = some c := by
  obtain ⟨n, rfl⟩ := Int.eq_ofNat_of_zero_le h.1
  exact at_qxz n (by omega)
theorem ix_abc (j : Int) (h : 0 ≤ j ∧ j < 26) : ∃ c, c < 128 ∧ L2.atI (Str.ofString "abcdefghijklmnopqrstuvwxyz").cps.toList j = some c := by
  obtain ⟨n, rfl⟩ := Int.eq_ofNat_of_zero_le h.1
  exact at_abc n (by omega)
theorem lq : (Str.ofString "qxz").length ≤ sizeLine := by decide
theorem la : (Str.ofString "abcdefghijklmnopqrstuvwxyz").length ≤ sizeLine := by decide
theorem word_loop (c : Int) (s1 s2 s3 s4 : Sl) : ∀ (js : List Int) (z : Str) (s6 : Sl), (∀ j ∈ js, 0 ≤ j ∧ j < 100) → PyData.strOk z = true → z.length + js.length ≤ 100 →
    ∃ z' s6', PyData.strOk z' = true ∧ z'.length = z.length + js.length ∧ forD (gV 6) (b1_law_word a) (js.map D.int) [.sh (.int c), s1, s2, s3, s4, .sh (.str z), s6] = .nx [.sh (.int c), s1, s2, s3, s4, .sh (.str z'), s6']
  | [], z, s6, _, hz, hl => ⟨z, s6, hz, by simp, rfl⟩
  | j :: js, z, s6, hj, hz, hl => by
    have hj0 := hj j (List.mem_cons_self ..)
    rw [List.length_cons] at hl
    obtain ⟨ch, hc, hx⟩ := ix_qxz (c / (3 + j) % 3) (by omega)
    have fd : fdivD (.int c) (.int (3 + j)) = .ok (.int (c / (3 + j))) := q_fdiv_p (by omega) (by omega)
    have l1 : (⟨#[ch]⟩ : Str).length = 1 := rfl
    have ad : addD (.str z) (.str ⟨#[ch]⟩) = .ok (.str (z ++ ⟨#[ch]⟩)) := q_add_sp (by omega) (by rw [l1]; decide)
    obtain ⟨z', s6', g1, g2, g3⟩ := word_loop c s1 s2 s3 s4 js (z ++ ⟨#[ch]⟩) (.sh (.int j)) (fun i hi => hj i (List.mem_cons_of_mem _ hi)) (ok_app hz (ok_one hc)) (by rw [len_app, l1]; omega)
    refine ⟨z', s6', g1, by rw [g2, len_app, l1, List.length_cons]; omega, ?_⟩
    rw [List.map_cons, q_forD_c]
    walk_at "den"
    have e : b1_law_word a [.sh (.int c), s1, s2, s3, s4, .sh (.str z), .sh (.int j)] = .nx [.sh (.int c), s1, s2, s3, s4, .sh (.str (z ++ ⟨#[ch]⟩)), .sh (.int j)] := by
      unfold b1_law_word
      iterate 4 (walk_at "den"; try simp only [fd, if_pos lq, hx, ad])
    rw [e, q_turn_n]
    exact g3
theorem range_ints (n : Nat) : rangeL 0 n = ((List.range n).map fun (k : Nat) => (k : Int)).map D.int := by
  unfold rangeL
  rw [List.map_map]
  refine List.map_congr_left fun k _ => ?_
  show D.int (0 + (k : Int)) = D.int (k : Int)
  rw [Int.zero_add]
theorem m_word (c k : Int) (hk : 0 ≤ k ∧ k < 26) : ∃ z, PyData.strOk z = true ∧ z.length ≤ 20 ∧ finT (g_law_word a (startD 7 [.int c, .int k])) = .ok (.str z) := by
  obtain ⟨n, hn⟩ := Int.eq_ofNat_of_zero_le (show 0 ≤ c / 26 % 12 by omega)
  obtain ⟨st, st0, st1, hst⟩ := at_str n (by omega)
  have mk : mulUD (.int k) (.int st) = .ok (.int (k * st)) := q_mulU_r (by omega) (by omega)
  obtain ⟨c1, h1, x1⟩ := ix_abc ((c + k * st) % 26) (by omega)
  obtain ⟨c2, h2, x2⟩ := ix_qxz (k / 26 % 3) (by omega)
  have l1 : (⟨#[c1]⟩ : Str).length = 1 := rfl
  have l2 : (⟨#[c2]⟩ : Str).length = 1 := rfl
  have ad : addD (.str ⟨#[c1]⟩) (.str ⟨#[c2]⟩) = .ok (.str (⟨#[c1]⟩ ++ ⟨#[c2]⟩)) := q_add_sp (by rw [l1]; decide) (by rw [l2]; decide)
  have okP := ok_app (ok_one h1) (ok_one h2)
  have lP : ((⟨#[c1]⟩ : Str) ++ ⟨#[c2]⟩).length = 2 := by rw [len_app, l1, l2]
  obtain ⟨pw, hpw⟩ : ∃ pw, pw = (⟨#[c1]⟩ : Str) ++ ⟨#[c2]⟩ := ⟨_, rfl⟩
  rw [← hpw] at ad okP lP
  have hr : 0 ≤ c / 312 % 7 ∧ c / 312 % 7 < 7 := by omega
  have rg : rng1 [.int (c / 312 % 7)] = .ok (rangeL 0 (c / 312 % 7).toNat) := q_rng1_p hr.1 (by omega)
  have e0 : PyData.strOk (Str.ofString "") = true := by decide +kernel
  have le0 : (Str.ofString "").length = 0 := by decide
  obtain ⟨z, s6, g1, g2, g3⟩ := word_loop (a := a) c (.sh (.int k)) (.sh (.str (Str.ofString "abcdefghijklmnopqrstuvwxyz"))) (.sh (.int st)) (.sh (.str pw)) ((List.range (c / 312 % 7).toNat).map fun (k : Nat) => (k : Int)) (Str.ofString "") .no (fun j hj => by
    obtain ⟨i, hi, rfl⟩ := List.mem_map.mp hj
    have := List.mem_range.mp hi
    omega) e0 (by rw [le0, List.length_map, List.length_range]; omega)
  rw [← range_ints] at g3
  have lz : z.length ≤ 7 := by rw [g2, le0, List.length_map, List.length_range]; omega
  have l12 : [D.int 1, .int 3, .int 5, .int 7, .int 9, .int 11, .int 15, .int 17, .int 19, .int 21, .int 23, .int 25].length ≤ 1000 := by decide
  have a1 : addD (.str z) (.str pw) = .ok (.str (z ++ pw)) := q_add_sp (by omega) (by omega)
  have a2 : addD (.str pw) (.str z) = .ok (.str (pw ++ z)) := q_add_sp (by omega) (by omega)
  by_cases hb : c / 2184 % 2 = 1
  · refine ⟨z ++ pw, ok_app g1 okP, by rw [len_app]; omega, ?_⟩
    unfold g_law_word
    iterate 6 (walk_at "den"; try simp only [hn, hst, mk, if_pos lq, if_pos la, x1, x2, ← hpw, rg])
    simp only [g3]
    iterate 6 (walk_at "den"; try simp only [hb, a1, decide_true])
  · refine ⟨pw ++ z, ok_app okP g1, by rw [len_app]; omega, ?_⟩
    unfold g_law_word
    iterate 6 (walk_at "den"; try simp only [hn, hst, mk, if_pos lq, if_pos la, x1, x2, ← hpw, rg])
    simp only [g3]
    iterate 6 (walk_at "den"; try simp only [hb, a2, decide_false])
end WP
namespace W72
open PySem L2 P2 WP TM T2 PySem.NumText
local macro_rules | `(tactic| walk_at "den") => `(tactic| try simp (disch := first | assumption | decide | exact Nat.le_of_ble_eq_true rfl) only [q_bind_k, q_bind_x, q_bind_b, q_toS_k, q_toS_x, q_toS_b, q_seq_n, q_seq_r, q_seq_x, q_seq_b, q_turn_n, q_turn_c, q_turn_k, q_turn_r, q_turn_b, q_turn_x, q_fin_r, q_fin_n, q_fin_x, q_noEx_k, q_okO_k, q_ofO_s, q_sSeq_a, q_sNil_a, q_sRet_a, q_sExpr_a, q_sSet_a, q_sIf_a, q_dC_a, q_d1_a, q_d2_a, q_b1B_a, q_b1T_a, q_bAnd_a, q_bOr_a, q_bNot_a, q_dAnd_a, q_dOr_a, q_dOrV_a, q_dNot_a, q_dIf_a, q_dA_a, q_aNil_a, q_aCons_a, q_asN_a, q_dMt_a, q_dSl_a, q_dComp_a, q_sFor_a, q_sOwn_a, q_sPar_a, q_app3, q_app4, q_frz3, q_frz4, q_min_i, q_rng1_p, q_toO_s, q_gV_a, q_tB_b, q_tT_b, q_tT_i, q_tT_n, q_tT_l, q_tT_t, q_add_i, q_sub_i, q_fdiv_p, q_mod_p, q_lt_i, q_le_i, q_gt_i, q_ge_i, q_neg_i, q_eq_i, q_eq_s, q_eq_b, q_ne_i, q_ne_s, q_in_s, q_ix_l, q_ix_t, q_ix_s, q_sl_l, q_sl_s, q_pI_i, q_len_s, q_len_l, q_len_t, q_abs_i, q_max_i, q_int_s, q_all_l, q_any_l, q_st_s, q_zf_s, q_hs_s, q_fit_p, q_add_sp, q_add_lp, q_mkT_p, q_asI_l, q_asI_t, q_asI_s, q_fmt_s, q_jNil_a, q_jCons_k, q_isX_i, q_isX_b, q_isX_s, q_isX_t, q_isX_l, q_slW_l, q_slW_s, q_is_bb, q_isn_bb, q_is_nn, q_isn_nn, q_is_tn, q_isn_tn, q_v0, q_v1, q_v2, q_v3, q_v4, q_v5, q_v6, q_v7, q_v8, q_v9, q_v10, q_v11, q_v12, q_v13, startD, List.map_cons, List.map_nil, List.length_cons, List.length_nil, Nat.sub_self, Nat.reduceAdd, Nat.reduceSub, List.replicate_zero, List.replicate_succ, List.append_nil, List.nil_append, List.cons_append, List.set_cons_zero, List.set_cons_succ, if_true, if_false, Nat.reduceLT, Nat.zero_lt_succ, Bool.not_true, Bool.not_false, Bool.false_eq_true, reduceIte, decide_true, decide_false, Int.reduceLT, Int.reduceEq, Int.reduceNeg, Int.reducePow, Int.reduceSub, Int.reduceAdd, Int.reduceMul,  List.length_set])
variable {a : Ad}
inductive Fq where
  | back | on | ago | til
inductive Bq where
  | add | sub | lt | eq | and | or
inductive T7 where
  | num (p q : Int) | at (w : Str) | here | far (k : Fq) (n : Int) | times (p q : Int) (t : T7) | abs (t : T7) | not (t : T7) | bin (k : Bq) (l r : T7)
noncomputable def Fq.s : Fq → Str
  | .back => "back" | .on => "on" | .ago => "ago" | .til => "until"
noncomputable def Bq.s : Bq → Str
  | .add => "+" | .sub => "-" | .lt => "<" | .eq => "=" | .and => "and" | .or => "or"
noncomputable def T7.d : T7 → D
  | .num p q => .tup [.str "num", .tup [.int p, .int q]]
  | .at w => .tup [.str "at", .str w]
  | .here => .tup [.str "here"]
  | .far k n => .tup [.str k.s, .int n]
  | .times p q t => .tup [.str "times", .tup [.int p, .int q], t.d]
  | .abs t => .tup [.str "abs", t.d]
  | .not t => .tup [.str "not", t.d]
  | .bin k l r => .tup [.str k.s, l.d, r.d]
noncomputable def T7.kids : T7 → List T7
  | .times _ _ t => [t]
  | .abs t => [t]
  | .not t => [t]
  | .bin _ l r => [l, r]
  | _ => []
noncomputable def T7.parts : T7 → List T7
  | .times p q t => .times p q t :: t.parts
  | .abs t => .abs t :: t.parts
  | .not t => .not t :: t.parts
  | .bin k l r => .bin k l r :: (l.parts ++ r.parts)
  | t => [t]
noncomputable def T7.dep : T7 → Nat
  | .times _ _ t => t.dep + 1
  | .abs t => t.dep + 1
  | .not t => t.dep + 1
  | .bin _ l r => max l.dep r.dep + 1
  | _ => 0
theorem parts_eq (t : T7) : t.parts = t :: t.kids.flatMap T7.parts := by cases t <;> simp [T7.parts, T7.kids]
theorem kids_dep {t u : T7} (h : u ∈ t.kids) : u.dep < t.dep := by
  cases t <;> simp [T7.kids] at h
  · subst h; show _ < _ + 1; omega
  · subst h; show _ < _ + 1; omega
  · subst h; show _ < _ + 1; omega
  · rename_i k l r; show _ < max l.dep r.dep + 1; rcases h with rfl | rfl <;> omega
theorem m_inner (t : T7) : finT (g_inner_parts a (startD 1 [t.d])) = .ok (.lst (t.kids.map T7.d)) := by
  cases t with
  | far k n => cases k <;> kernel_rfl
  | bin k l r => cases k <;> kernel_rfl
  | _ => kernel_rfl
section
variable {Fi Fp : List D → R D}
theorem parts_one {t : T7} (h : Fp [t.d] = .ok (.lst (t.parts.map T7.d))) (s0 : Sl) (acc : List D) (hz : acc.length + t.parts.length ≤ 1000000) :
    b1_parts_of a Fi Fp [s0, .ow acc, .sh t.d] = .nx [s0, .ow (acc ++ t.parts.map T7.d), .sh t.d] := by
  show toS (Fp [t.d]) _ = _
  rw [h]
  show (if acc.length + (t.parts.map T7.d).length ≤ sizeLine then RT.nx _ else .bad) = _
  rw [if_pos (by rw [List.length_map]; exact Nat.le_trans hz (by decide))]
  rfl
theorem parts_loop (s0 : Sl) : ∀ (L : List T7) (acc : List D) (s2 : Sl), (∀ t ∈ L, Fp [t.d] = .ok (.lst (t.parts.map T7.d))) → acc.length + (L.flatMap T7.parts).length ≤ 1000000 →
    ∃ s3, forD (gV 2) (b1_parts_of a Fi Fp) (L.map T7.d) [s0, .ow acc, s2] = .nx [s0, .ow (acc ++ (L.flatMap T7.parts).map T7.d), s3]
  | [], acc, s2, _, _ => ⟨s2, by rw [List.flatMap_nil, List.map_nil, List.append_nil]; rfl⟩
  | t :: L, acc, s2, h, hz => by
    rw [List.flatMap_cons, List.length_append] at hz
    obtain ⟨s3, e⟩ := parts_loop s0 L (acc ++ t.parts.map T7.d) (.sh t.d) (fun u hu => h u (.tail _ hu)) (by rw [List.length_append, List.length_map]; omega)
    refine ⟨s3, ?_⟩
    rw [List.flatMap_cons, List.map_append, ← List.append_assoc, ← e]
    show turnT (b1_parts_of a Fi Fp [s0, .ow acc, .sh t.d]) (forD (gV 2) (b1_parts_of a Fi Fp) (L.map T7.d)) = _
    rw [parts_one (h t (.head _)) s0 acc (by omega)]
    rfl
theorem m_parts (hi : ∀ t : T7, Fi [t.d] = .ok (.lst (t.kids.map T7.d))) : ∀ (n : Nat) (t : T7), t.dep < n → t.parts.length ≤ 1000000 →
    fixD (fun F ds => finT (g_parts_of a Fi F (startD 3 ds))) n [t.d] = .ok (.lst (t.parts.map T7.d))
  | 0, t, h, _ => by omega
  | n + 1, t, h, hz => by
    have hz' := hz
    rw [parts_eq, List.length_cons] at hz'
    have ih : ∀ u ∈ t.kids, fixD (fun F ds => finT (g_parts_of a Fi F (startD 3 ds))) n [u.d] = .ok (.lst (u.parts.map T7.d)) := fun u hu => m_parts hi n u (by have := kids_dep hu; omega) (by
      have : u.parts.length ≤ (t.kids.flatMap T7.parts).length := by
        obtain ⟨x, y, e⟩ := List.append_of_mem hu
        rw [e, List.flatMap_append, List.flatMap_cons, List.length_append, List.length_append]; omega
      omega)
    obtain ⟨s3, e⟩ := parts_loop (a := a) (Fi := Fi) (.sh t.d) t.kids [t.d] .no ih (by simp only [List.length_cons, List.length_nil]; omega)
    show finT (g_parts_of a Fi (fixD (fun F ds => finT (g_parts_of a Fi F (startD 3 ds))) n) [.sh t.d, .no, .no]) = _
    generalize fixD (fun F ds => finT (g_parts_of a Fi F (startD 3 ds))) n = Fp at *
    have h1 : sOwn 1 (fun ρ => ((aCons (dV 0) aNil) ρ).bind fitL) [.sh t.d, .no, .no] = .nx [.sh t.d, .ow [t.d], .no] := rfl
    have h2 : sFor (fun ρ => ((dA Fi (aCons (dV 0) aNil)) ρ).bind asI) (gV 2) (b1_parts_of a Fi Fp) [.sh t.d, .ow [t.d], .no] = .nx [.sh t.d, .ow ([t.d] ++ (t.kids.flatMap T7.parts).map T7.d), s3] := by
      rw [← e]
      show toS ((Fi [t.d]).bind asI) _ = _
      rw [hi t]
      rfl
    unfold g_parts_of
    show finT (seqT (sOwn 1 (fun ρ => ((aCons (dV 0) aNil) ρ).bind fitL) [.sh t.d, .no, .no]) _) = _
    rw [h1]
    show finT (seqT (sFor (fun ρ => ((dA Fi (aCons (dV 0) aNil)) ρ).bind asI) (gV 2) (b1_parts_of a Fi Fp) [.sh t.d, .ow [t.d], .no]) _) = _
    rw [h2, parts_eq]
    rfl
end
theorem comp_fM {α β : Type} {f : α → D} {k : α → Option β} {g : β → D} {fc : Ev → R Bool} {fe : Ev → R D} : ∀ L : List α, (∀ x ∈ L, k x = none → fc [.sh (f x)] = .ok false) → (∀ x ∈ L, ∀ y, k x = some y → fc [.sh (f x)] = .ok true ∧ fe [.sh (f x)] = .ok (g y)) →
    compO (gV 0) fc fe [.no] (L.map f) = some ((L.filterMap k).map g)
  | [], _, _ => rfl
  | x :: L, h0, h1 => by
    have ih := comp_fM (f := f) (k := k) (g := g) (fc := fc) (fe := fe) L (fun y hy => h0 y (.tail _ hy)) (fun y hy => h1 y (.tail _ hy))
    show (some [Sl.sh (f x)]).bind (fun ρ1 => (okO (fc ρ1)).bind fun b => if b = true then (okO (fe ρ1)).bind fun v => (compO (gV 0) fc fe [.no] (L.map f)).bind fun vs => some (v :: vs) else compO (gV 0) fc fe [.no] (L.map f)) = _
    rw [Option.bind_some, ih]
    cases q : k x with
    | none => rw [List.filterMap_cons_none q, h0 x (.head _) q]; rfl
    | some y => rw [List.filterMap_cons_some q, (h1 x (.head _) y q).1, (h1 x (.head _) y q).2]; rfl
theorem dcomp_fM {α β : Type} {f : α → D} {k : α → Option β} {g : β → D} {fc : Ev → R Bool} {fe : Ev → R D} {fi : Ev → R (List D)} {ρ : Ev} {L : List α} (hi : fi ρ = .ok (L.map f)) (hz : L.length ≤ 1000000) (h0 : ∀ x ∈ L, k x = none → fc [.sh (f x)] = .ok false) (h1 : ∀ x ∈ L, ∀ y, k x = some y → fc [.sh (f x)] = .ok true ∧ fe [.sh (f x)] = .ok (g y)) :
    dComp fi 1 [] (gV 0) fc fe ρ = .ok ((L.filterMap k).map g) := by
  unfold dComp
  rw [hi]
  show (if (L.map f).length ≤ sizeLine then ofO (compO (gV 0) fc fe [.no] (L.map f)) else .bad) = _
  rw [if_pos (by rw [List.length_map]; exact Nat.le_trans hz (by decide)), comp_fM L h0 h1]
  rfl
theorem dcomp_m {α : Type} {f : α → D} {g : α → D} {fe : Ev → R D} {fi : Ev → R (List D)} {ρ : Ev} {L : List α} (hi : fi ρ = .ok (L.map f)) (hz : L.length ≤ 1000000) (h1 : ∀ x ∈ L, fe [.sh (f x)] = .ok (g x)) :
    dComp fi 1 [] (gV 0) (fun _ => .ok true) fe ρ = .ok (L.map g) := by
  have := dcomp_fM (k := fun x => some x) (g := g) (fc := fun _ => .ok true) (fe := fe) hi hz (fun x _ h => by cases h) (fun x hx y h => by cases h; exact ⟨rfl, h1 x hx⟩)
  rw [this, List.filterMap_some]
theorem keys_int : ∀ ns : List Int, keysZ (ns.map D.int) = some (ns.map Sum.inl)
  | [] => rfl
  | n :: r => by show (some (Sum.inl n)).bind (fun k => (keysZ (r.map D.int)).map (k :: ·)) = _; rw [keys_int r]; rfl
theorem keys_str : ∀ ns : List Str, keysZ (ns.map D.str) = some (ns.map Sum.inr)
  | [] => rfl
  | n :: r => by show (some (Sum.inr n)).bind (fun k => (keysZ (r.map D.str)).map (k :: ·)) = _; rw [keys_str r]; rfl
theorem hom_map {α : Type} {f : α → D} {sg : List Nat} (h : ∀ x, sgQ (f x) = some sg) (L : List α) : homQ (L.map f) = true := by
  cases L with
  | nil => rfl
  | cons x r =>
    show ((sgQ (f x)).isSome && (r.map f).all fun e => sgQ e == sgQ (f x)) = true
    rw [h x, Bool.and_eq_true]
    refine ⟨rfl, List.all_eq_true.mpr fun d hd => ?_⟩
    obtain ⟨y, _, rfl⟩ := List.mem_map.mp hd
    rw [h y]; exact beq_self_eq_true _
theorem pick_int : ∀ (ds : List D), (∀ d ∈ ds, ∃ n, d = D.int n) → ∃ L : List Int, ds = L.map D.int
  | [], _ => ⟨[], rfl⟩
  | d :: r, h => by
    obtain ⟨n, rfl⟩ := h d (.head _)
    obtain ⟨L, rfl⟩ := pick_int r fun d hd => h d (.tail _ hd)
    exact ⟨n :: L, rfl⟩
theorem pick_str : ∀ (ds : List D), (∀ d ∈ ds, ∃ n, d = D.str n) → ∃ L : List Str, ds = L.map D.str
  | [], _ => ⟨[], rfl⟩
  | d :: r, h => by
    obtain ⟨n, rfl⟩ := h d (.head _)
    obtain ⟨L, rfl⟩ := pick_str r fun d hd => h d (.tail _ hd)
    exact ⟨n :: L, rfl⟩
theorem dd_len : ∀ ks : List Key, (dd ks).length ≤ ks.length
  | [] => Nat.le_refl _
  | k :: r => by
    have := dd_len r
    unfold dd
    split
    · rw [List.length_cons]; omega
    · rw [List.length_cons, List.length_cons]; omega
theorem mem_srt (ks : List Key) (d : D) : d ∈ sortQL ((dd ks).map kD) ↔ ∃ k ∈ ks, d = kD k := by
  rw [(sortQL_perm _).mem_iff, List.mem_map]
  exact ⟨fun ⟨k, h, e⟩ => ⟨k, (mem_dd k ks).mp h, e.symm⟩, fun ⟨k, h, e⟩ => ⟨k, (mem_dd k ks).mpr h, e.symm⟩⟩
theorem sortS_int (ns : List Int) (h : ns.length < 64) : ∃ L : List Int, sortS (.lst (ns.map D.int)) = .ok (L.map D.int) ∧ (∀ x, x ∈ L ↔ x ∈ ns) ∧ L.length ≤ ns.length := by
  have mm := mem_srt (ns.map Sum.inl)
  obtain ⟨L, e⟩ := pick_int (sortQL ((dd (ns.map Sum.inl)).map kD)) fun d hd => by
    obtain ⟨k, hk, rfl⟩ := (mm d).mp hd
    obtain ⟨n, _, rfl⟩ := List.mem_map.mp hk
    exact ⟨n, rfl⟩
  refine ⟨L, ?_, fun x => ?_, ?_⟩
  · show (match keysZ (ns.map D.int) with | some ks => if homQ (ns.map D.int) = true ∧ (ns.map D.int).length < 64 then R.ok (sortQL ((dd ks).map kD)) else .bad | none => .bad) = _
    rw [keys_int]
    show (if homQ (ns.map D.int) = true ∧ (ns.map D.int).length < 64 then R.ok (sortQL ((dd (ns.map Sum.inl)).map kD)) else .bad) = _
    rw [if_pos ⟨hom_map (sg := [0]) (fun _ => rfl) ns, by rw [List.length_map]; exact h⟩, e]
  · have := mm (.int x)
    rw [e] at this
    constructor
    · intro hx
      obtain ⟨k, hk, ek⟩ := this.mp (List.mem_map.mpr ⟨x, hx, rfl⟩)
      obtain ⟨n, hn, rfl⟩ := List.mem_map.mp hk
      cases ek; exact hn
    · intro hx
      obtain ⟨y, hy, ey⟩ := List.mem_map.mp (this.mpr ⟨.inl x, List.mem_map.mpr ⟨x, hx, rfl⟩, rfl⟩)
      cases ey; exact hy
  · have h1 := congrArg List.length e
    rw [(sortQL_perm _).length_eq, List.length_map, List.length_map] at h1
    have := dd_len (ns.map Sum.inl)
    rw [List.length_map] at this
    omega
theorem sortS_str (ns : List Str) (h : ns.length < 64) : ∃ L : List Str, sortS (.lst (ns.map D.str)) = .ok (L.map D.str) ∧ (∀ x, x ∈ L ↔ x ∈ ns) ∧ L.length ≤ ns.length := by
  have mm := mem_srt (ns.map Sum.inr)
  obtain ⟨L, e⟩ := pick_str (sortQL ((dd (ns.map Sum.inr)).map kD)) fun d hd => by
    obtain ⟨k, hk, rfl⟩ := (mm d).mp hd
    obtain ⟨n, _, rfl⟩ := List.mem_map.mp hk
    exact ⟨n, rfl⟩
  refine ⟨L, ?_, fun x => ?_, ?_⟩
  · show (match keysZ (ns.map D.str) with | some ks => if homQ (ns.map D.str) = true ∧ (ns.map D.str).length < 64 then R.ok (sortQL ((dd ks).map kD)) else .bad | none => .bad) = _
    rw [keys_str]
    show (if homQ (ns.map D.str) = true ∧ (ns.map D.str).length < 64 then R.ok (sortQL ((dd (ns.map Sum.inr)).map kD)) else .bad) = _
    rw [if_pos ⟨hom_map (sg := [1]) (fun _ => rfl) ns, by rw [List.length_map]; exact h⟩, e]
  · have := mm (.str x)
    rw [e] at this
    constructor
    · intro hx
      obtain ⟨k, hk, ek⟩ := this.mp (List.mem_map.mpr ⟨x, hx, rfl⟩)
      obtain ⟨n, hn, rfl⟩ := List.mem_map.mp hk
      cases ek; exact hn
    · intro hx
      obtain ⟨y, hy, ey⟩ := List.mem_map.mp (this.mpr ⟨.inr x, List.mem_map.mpr ⟨x, hx, rfl⟩, rfl⟩)
      cases ey; exact hy
  · have h1 := congrArg List.length e
    rw [(sortQL_perm _).length_eq, List.length_map, List.length_map] at h1
    have := dd_len (ns.map Sum.inr)
    rw [List.length_map] at this
    omega
end W72
namespace W72
open PySem L2 P2 WP TM T2 PySem.NumText
local macro_rules | `(tactic| walk_at "den") => `(tactic| try simp (disch := first | assumption | decide | exact Nat.le_of_ble_eq_true rfl) only [q_bind_k, q_bind_x, q_bind_b, q_toS_k, q_toS_x, q_toS_b, q_seq_n, q_seq_r, q_seq_x, q_seq_b, q_turn_n, q_turn_c, q_turn_k, q_turn_r, q_turn_b, q_turn_x, q_fin_r, q_fin_n, q_fin_x, q_noEx_k, q_okO_k, q_ofO_s, q_sSeq_a, q_sNil_a, q_sRet_a, q_sExpr_a, q_sSet_a, q_sIf_a, q_dC_a, q_d1_a, q_d2_a, q_b1B_a, q_b1T_a, q_bAnd_a, q_bOr_a, q_bNot_a, q_dAnd_a, q_dOr_a, q_dOrV_a, q_dNot_a, q_dIf_a, q_dA_a, q_aNil_a, q_aCons_a, q_asN_a, q_dMt_a, q_dSl_a, q_dComp_a, q_sFor_a, q_sOwn_a, q_sPar_a, q_app3, q_app4, q_frz3, q_frz4, q_min_i, q_rng1_p, q_toO_s, q_gV_a, q_tB_b, q_tT_b, q_tT_i, q_tT_n, q_tT_l, q_tT_t, q_add_i, q_sub_i, q_fdiv_p, q_mod_p, q_lt_i, q_le_i, q_gt_i, q_ge_i, q_neg_i, q_eq_i, q_eq_s, q_eq_b, q_ne_i, q_ne_s, q_in_s, q_ix_l, q_ix_t, q_ix_s, q_sl_l, q_sl_s, q_pI_i, q_len_s, q_len_l, q_len_t, q_abs_i, q_max_i, q_int_s, q_all_l, q_any_l, q_st_s, q_zf_s, q_hs_s, q_fit_p, q_add_sp, q_add_lp, q_mkT_p, q_asI_l, q_asI_t, q_asI_s, q_fmt_s, q_jNil_a, q_jCons_k, q_isX_i, q_isX_b, q_isX_s, q_isX_t, q_isX_l, q_slW_l, q_slW_s, q_is_bb, q_isn_bb, q_is_nn, q_isn_nn, q_is_tn, q_isn_tn, q_v0, q_v1, q_v2, q_v3, q_v4, q_v5, q_v6, q_v7, q_v8, q_v9, q_v10, q_v11, q_v12, q_v13, startD, List.map_cons, List.map_nil, List.length_cons, List.length_nil, Nat.sub_self, Nat.reduceAdd, Nat.reduceSub, List.replicate_zero, List.replicate_succ, List.append_nil, List.nil_append, List.cons_append, List.set_cons_zero, List.set_cons_succ, if_true, if_false, Nat.reduceLT, Nat.zero_lt_succ, Bool.not_true, Bool.not_false, Bool.false_eq_true, reduceIte, decide_true, decide_false, Int.reduceLT, Int.reduceEq, Int.reduceNeg, Int.reducePow, Int.reduceSub, Int.reduceAdd, Int.reduceMul,  List.length_set])
variable {a : Ad}
inductive Ask where
  | here | back (n : Int) | on (n : Int) | at (w : Str)
noncomputable def Ask.d : Ask → D
  | .here => .tup [.str "here"]
  | .back n => .tup [.str "back", .int n]
  | .on n => .tup [.str "on", .int n]
  | .at w => .tup [.str "at", .str w]
noncomputable def Ask.isAt : Ask → Bool
  | .at _ => true
  | _ => false
noncomputable def Ask.pl : Ask → Option Int
  | .back n => some n
  | .on n => some n
  | _ => none
noncomputable def askOf : T7 → Option Ask
  | .far .back n => some (.back n)
  | .far .ago n => some (.back n)
  | .far .on n => some (.on n)
  | .far .til n => some (.on n)
  | .at w => some (.at w)
  | _ => none
noncomputable def bkOf : T7 → Option Int
  | .far .back n => some n
  | .far .ago n => some n
  | _ => none
noncomputable def onOf : T7 → Option Int
  | .far .on n => some n
  | .far .til n => some n
  | _ => none
noncomputable def atOf : T7 → Option Str
  | .at w => some w
  | _ => none
noncomputable def T7.asks (t : T7) : List Ask := t.parts.filterMap askOf
noncomputable def T7.pls (t : T7) : List Int := t.asks.filterMap Ask.pl
noncomputable def T7.mast (t : T7) : Bool := t.asks.any Ask.isAt
theorem asN_of {f : Ev → R (List D)} {ρ : Ev} {X : List D} (h : f ρ = .ok X) : asN f ρ = .ok (.lst X) := by unfold asN; rw [h]; rfl
theorem set_srt {f : Ev → R (List D)} {ρ : Ev} {X Y : List D} {i : Nat} (h : f ρ = .ok X) (hs : sortS (.lst X) = .ok Y) (hi : i < ρ.length) : sSet i (asN (fun ρ => ((asN f) ρ).bind sortS)) ρ = .nx (ρ.set i (.sh (.lst Y))) := by
  have e : asN (fun ρ => ((asN f) ρ).bind sortS) ρ = .ok (.lst Y) := asN_of (by rw [asN_of h]; exact hs)
  show toS (asN (fun ρ => ((asN f) ρ).bind sortS) ρ) _ = _
  rw [e]
  exact if_pos hi
theorem ext_of {f : Ev → R (List D)} {ρ : Ev} {X Y : List D} {i : Nat} (h0 : ρ[i]? = some (.ow X)) (h : f ρ = .ok Y) (hl : X.length + Y.length ≤ 1000000) : sExt i (asN f) ρ = .nx (ρ.set i (.ow (X ++ Y))) := by
  unfold sExt
  rw [h0]
  show toS (asN f ρ) _ = _
  rw [asN_of h]
  exact if_pos (Nat.le_trans hl (by decide))
section
variable {Fp : List D → R D}
theorem m_asked {t : T7} (hp : Fp [t.d] = .ok (.lst (t.parts.map T7.d))) (hz : t.parts.length < 64) :
    ∃ A : List Ask, finT (g_asked_by a Fp (startD 6 [t.d])) = .ok (.lst (A.map Ask.d)) ∧ A.length ≤ 1000 ∧ A.any Ask.isAt = t.mast ∧ ∀ n, n ∈ A.filterMap Ask.pl ↔ n ∈ t.pls := by
  have z6 : t.parts.length ≤ 1000000 := by omega
  have fl {α : Type} (k : T7 → Option α) : (t.parts.filterMap k).length < 64 := Nat.lt_of_le_of_lt (List.length_filterMap_le ..) hz
  obtain ⟨B, eB, mB, lB⟩ := sortS_int (t.parts.filterMap bkOf) (fl _)
  obtain ⟨O, eO, mO, lO⟩ := sortS_int (t.parts.filterMap onOf) (fl _)
  obtain ⟨W, eW, mW, lW⟩ := sortS_str (t.parts.filterMap atOf) (fl _)
  have fB := fl bkOf
  have fO := fl onOf
  have fW := fl atOf
  refine ⟨.here :: (B.map .back ++ (O.map .on ++ W.map .at)), ?_, by simp only [List.length_cons, List.length_append, List.length_map]; omega, ?_, fun n => ?_⟩
  · generalize hP : t.parts.map T7.d = P at hp
    have c1 : ∀ ρ : Ev, ρ[1]? = some (.sh (.lst P)) → dComp (fun ρ => ((dV 1) ρ).bind asI) 1 [] (gV 0) (b1 tB (d2 inLD (d2 ixD (dV 0) (dC (.int 0))) (dA mkT (aCons (dC (.str "back")) (aCons (dC (.str "ago")) aNil))))) (d2 ixD (dV 0) (dC (.int 1))) ρ = .ok ((t.parts.filterMap bkOf).map D.int) := fun ρ hρ => by
      refine dcomp_fM (f := T7.d) (L := t.parts) (k := bkOf) (by show (dV 1 ρ).bind asI = _; unfold dV; rw [hρ, hP]; rfl) z6 (fun x _ hx => ?_) (fun x _ y hy => ?_)
      · cases x with
        | far k n => cases k <;> first | cases hx; done | kernel_rfl
        | bin k l r => cases k <;> kernel_rfl
        | _ => kernel_rfl
      · cases x with
        | far k n => cases k <;> first | (cases hy; done) | (cases hy; exact ⟨by kernel_rfl, rfl⟩)
        | _ => cases hy
    have c2 : ∀ ρ : Ev, ρ[1]? = some (.sh (.lst P)) → dComp (fun ρ => ((dV 1) ρ).bind asI) 1 [] (gV 0) (b1 tB (d2 inLD (d2 ixD (dV 0) (dC (.int 0))) (dA mkT (aCons (dC (.str "on")) (aCons (dC (.str "until")) aNil))))) (d2 ixD (dV 0) (dC (.int 1))) ρ = .ok ((t.parts.filterMap onOf).map D.int) := fun ρ hρ => by
      refine dcomp_fM (f := T7.d) (L := t.parts) (k := onOf) (by show (dV 1 ρ).bind asI = _; unfold dV; rw [hρ, hP]; rfl) z6 (fun x _ hx => ?_) (fun x _ y hy => ?_)
      · cases x with
        | far k n => cases k <;> first | cases hx; done | kernel_rfl
        | bin k l r => cases k <;> kernel_rfl
        | _ => kernel_rfl
      · cases x with
        | far k n => cases k <;> first | (cases hy; done) | (cases hy; exact ⟨by kernel_rfl, rfl⟩)
        | _ => cases hy
    have c3 : ∀ ρ : Ev, ρ[1]? = some (.sh (.lst P)) → dComp (fun ρ => ((dV 1) ρ).bind asI) 1 [] (gV 0) (b1 tB (d2 eqSD (d2 ixD (dV 0) (dC (.int 0))) (dC (.str "at")))) (d2 ixD (dV 0) (dC (.int 1))) ρ = .ok ((t.parts.filterMap atOf).map D.str) := fun ρ hρ => by
      refine dcomp_fM (f := T7.d) (L := t.parts) (k := atOf) (by show (dV 1 ρ).bind asI = _; unfold dV; rw [hρ, hP]; rfl) z6 (fun x _ hx => ?_) (fun x _ y hy => ?_)
      · cases x with
        | far k n => cases k <;> kernel_rfl
        | bin k l r => cases k <;> kernel_rfl
        | «at» w => cases hx
        | _ => kernel_rfl
      · cases x with
        | «at» w => cases hy; exact ⟨by kernel_rfl, rfl⟩
        | _ => cases hy
    have n1 : ∀ (s0 s2 s3 s4 s5 : Sl), sSet 2 (asN (fun ρ => ((asN (dComp (fun ρ => ((dV 1) ρ).bind asI) 1 [] (gV 0) (b1 tB (d2 inLD (d2 ixD (dV 0) (dC (.int 0))) (dA mkT (aCons (dC (.str "back")) (aCons (dC (.str "ago")) aNil))))) (d2 ixD (dV 0) (dC (.int 1))))) ρ).bind sortS)) [s0, .sh (.lst P), s2, s3, s4, s5] = .nx [s0, .sh (.lst P), .sh (.lst (B.map D.int)), s3, s4, s5] := fun s0 s2 s3 s4 s5 => set_srt (c1 _ rfl) eB (Nat.le_of_ble_eq_true rfl)
    have n2 : ∀ (s0 s2 s3 s4 s5 : Sl), sSet 3 (asN (fun ρ => ((asN (dComp (fun ρ => ((dV 1) ρ).bind asI) 1 [] (gV 0) (b1 tB (d2 inLD (d2 ixD (dV 0) (dC (.int 0))) (dA mkT (aCons (dC (.str "on")) (aCons (dC (.str "until")) aNil))))) (d2 ixD (dV 0) (dC (.int 1))))) ρ).bind sortS)) [s0, .sh (.lst P), s2, s3, s4, s5] = .nx [s0, .sh (.lst P), s2, .sh (.lst (O.map D.int)), s4, s5] := fun s0 s2 s3 s4 s5 => set_srt (c2 _ rfl) eO (Nat.le_of_ble_eq_true rfl)
    have n3 : ∀ (s0 s2 s3 s4 s5 : Sl), sSet 4 (asN (fun ρ => ((asN (dComp (fun ρ => ((dV 1) ρ).bind asI) 1 [] (gV 0) (b1 tB (d2 eqSD (d2 ixD (dV 0) (dC (.int 0))) (dC (.str "at")))) (d2 ixD (dV 0) (dC (.int 1))))) ρ).bind sortS)) [s0, .sh (.lst P), s2, s3, s4, s5] = .nx [s0, .sh (.lst P), s2, s3, .sh (.lst (W.map D.str)), s5] := fun s0 s2 s3 s4 s5 => set_srt (c3 _ rfl) eW (Nat.le_of_ble_eq_true rfl)
    have e1 : ∀ (s0 s1 s3 s4 : Sl) (X : List D), X.length ≤ 10000 → sExt 5 (asN (dComp (fun ρ => ((dV 2) ρ).bind asI) 1 [] (gV 0) (fun _ => .ok true) (dA mkT (aCons (dC (.str "back")) (aCons (dV 0) aNil))))) [s0, s1, .sh (.lst (B.map D.int)), s3, s4, .ow X] = .nx [s0, s1, .sh (.lst (B.map D.int)), s3, s4, .ow (X ++ (B.map Ask.back).map Ask.d)] := fun s0 s1 s3 s4 X hX =>
      ext_of (i := 5) rfl (by rw [List.map_map]; exact dcomp_m (f := D.int) (L := B) rfl (by omega) fun x _ => rfl) (by rw [List.length_map, List.length_map]; omega)
    have e2 : ∀ (s0 s1 s2 s4 : Sl) (X : List D), X.length ≤ 10000 → sExt 5 (asN (dComp (fun ρ => ((dV 3) ρ).bind asI) 1 [] (gV 0) (fun _ => .ok true) (dA mkT (aCons (dC (.str "on")) (aCons (dV 0) aNil))))) [s0, s1, s2, .sh (.lst (O.map D.int)), s4, .ow X] = .nx [s0, s1, s2, .sh (.lst (O.map D.int)), s4, .ow (X ++ (O.map Ask.on).map Ask.d)] := fun s0 s1 s3 s4 X hX =>
      ext_of (i := 5) rfl (by rw [List.map_map]; exact dcomp_m (f := D.int) (L := O) rfl (by omega) fun x _ => rfl) (by rw [List.length_map, List.length_map]; omega)
    have e3 : ∀ (s0 s1 s2 s3 : Sl) (X : List D), X.length ≤ 10000 → sExt 5 (asN (dComp (fun ρ => ((dV 4) ρ).bind asI) 1 [] (gV 0) (fun _ => .ok true) (dA mkT (aCons (dC (.str "at")) (aCons (dV 0) aNil))))) [s0, s1, s2, s3, .sh (.lst (W.map D.str)), .ow X] = .nx [s0, s1, s2, s3, .sh (.lst (W.map D.str)), .ow (X ++ (W.map Ask.at).map Ask.d)] := fun s0 s1 s3 s4 X hX =>
      ext_of (i := 5) rfl (by rw [List.map_map]; exact dcomp_m (f := D.str) (L := W) rfl (by omega) fun x _ => rfl) (by rw [List.length_map, List.length_map]; omega)
    have h0 : sSet 1 (dA Fp (aCons (dV 0) aNil)) [.sh t.d, .no, .no, .no, .no, .no] = .nx [.sh t.d, .sh (.lst P), .no, .no, .no, .no] := by
      show toS (Fp [t.d]) _ = _
      rw [hp]
      rfl
    have seq : ∀ {g h : Ev → RT} {ρ ρ' : Ev}, g ρ = .nx ρ' → sSeq g h ρ = h ρ' := fun e => by unfold sSeq; rw [e]; rfl
    unfold g_asked_by
    show finT (sSeq _ _ [.sh t.d, .no, .no, .no, .no, .no]) = _
    rw [seq h0, seq (n1 _ _ _ _ _), seq (n2 _ _ _ _ _), seq (n3 _ _ _ _ _)]
    have ho : sOwn 5 (fun ρ => ((aCons (dA mkT (aCons (dC (.str "here")) aNil)) aNil) ρ).bind fitL) [.sh t.d, .sh (.lst P), .sh (.lst (B.map D.int)), .sh (.lst (O.map D.int)), .sh (.lst (W.map D.str)), .no] = .nx [.sh t.d, .sh (.lst P), .sh (.lst (B.map D.int)), .sh (.lst (O.map D.int)), .sh (.lst (W.map D.str)), .ow [Ask.here.d]] := rfl
    rw [seq ho, seq (e1 _ _ _ _ _ (by simp)), seq (e2 _ _ _ _ _ (by simp only [List.length_append, List.length_map, List.length_cons, List.length_nil]; omega)), seq (e3 _ _ _ _ _ (by simp only [List.length_append, List.length_map, List.length_cons, List.length_nil]; omega))]
    show R.ok (D.lst _) = _
    congr 2
    simp
  · have wm : W = [] ↔ t.parts.filterMap atOf = [] := by
      constructor <;> intro h
      · cases q : t.parts.filterMap atOf with
        | nil => rfl
        | cons x r => have := (mW x).mpr (by rw [q]; exact .head _); rw [h] at this; cases this
      · cases q : W with
        | nil => rfl
        | cons x r => have := (mW x).mp (by rw [q]; exact .head _); rw [h] at this; cases this
    have h1 : (Ask.here :: (B.map Ask.back ++ (O.map Ask.on ++ W.map Ask.at))).any Ask.isAt = !W.isEmpty := by
      have b1 : (B.map Ask.back).any Ask.isAt = false := by rw [List.any_map]; exact List.any_eq_false.mpr fun _ _ => nofun
      have b2 : (O.map Ask.on).any Ask.isAt = false := by rw [List.any_map]; exact List.any_eq_false.mpr fun _ _ => nofun
      rw [List.any_cons, List.any_append, List.any_append, b1, b2]
      show (W.map Ask.at).any Ask.isAt = _
      cases W <;> rfl
    rw [h1]
    have h2 : ∀ L : List T7, (L.filterMap askOf).any Ask.isAt = !(L.filterMap atOf).isEmpty := by
      intro L
      induction L with
      | nil => rfl
      | cons x L ih =>
        cases x with
        | far k n => cases k <;> exact ih
        | «at» w => rfl
        | _ => exact ih
    show _ = (t.parts.filterMap askOf).any Ask.isAt
    rw [h2]
    cases qw : W with
    | nil => rw [wm.mp qw]
    | cons x r =>
      cases q : t.parts.filterMap atOf with
      | nil => rw [wm.mpr q] at qw; cases qw
      | cons y s => rfl
  · have h2 : ∀ L : List T7, n ∈ (L.filterMap askOf).filterMap Ask.pl ↔ n ∈ L.filterMap bkOf ∨ n ∈ L.filterMap onOf := by
      intro L
      induction L with
      | nil => simp
      | cons x L ih =>
        cases x with
        | far k m =>
          cases k
          · show n ∈ m :: (L.filterMap askOf).filterMap Ask.pl ↔ n ∈ m :: L.filterMap bkOf ∨ n ∈ L.filterMap onOf
            rw [List.mem_cons, List.mem_cons, ih, or_assoc]
          · show n ∈ m :: (L.filterMap askOf).filterMap Ask.pl ↔ n ∈ L.filterMap bkOf ∨ n ∈ m :: L.filterMap onOf
            rw [List.mem_cons, List.mem_cons, ih, or_left_comm]
          · show n ∈ m :: (L.filterMap askOf).filterMap Ask.pl ↔ n ∈ m :: L.filterMap bkOf ∨ n ∈ L.filterMap onOf
            rw [List.mem_cons, List.mem_cons, ih, or_assoc]
          · show n ∈ m :: (L.filterMap askOf).filterMap Ask.pl ↔ n ∈ L.filterMap bkOf ∨ n ∈ m :: L.filterMap onOf
            rw [List.mem_cons, List.mem_cons, ih, or_left_comm]
        | _ => exact ih
    show _ ↔ n ∈ (t.parts.filterMap askOf).filterMap Ask.pl
    rw [h2, ← mB, ← mO]
    have f1 : (B.map Ask.back).filterMap Ask.pl = B := by rw [List.filterMap_map]; exact List.filterMap_some
    have f2 : (O.map Ask.on).filterMap Ask.pl = O := by rw [List.filterMap_map]; exact List.filterMap_some
    have f3 : (W.map Ask.at).filterMap Ask.pl = [] := by rw [List.filterMap_map]; exact List.filterMap_eq_nil_iff.mpr fun _ _ => rfl
    show n ∈ (B.map Ask.back ++ (O.map Ask.on ++ W.map Ask.at)).filterMap Ask.pl ↔ _
    rw [List.filterMap_append, List.filterMap_append, f1, f2, f3, List.append_nil, List.mem_append]
end
end W72
namespace W72
open PySem L2 P2 WP TM T2 PySem.NumText
local macro_rules | `(tactic| walk_at "den") => `(tactic| try simp (disch := first | assumption | decide | exact Nat.le_of_ble_eq_true rfl) only [q_bind_k, q_bind_x, q_bind_b, q_toS_k, q_toS_x, q_toS_b, q_seq_n, q_seq_r, q_seq_x, q_seq_b, q_turn_n, q_turn_c, q_turn_k, q_turn_r, q_turn_b, q_turn_x, q_fin_r, q_fin_n, q_fin_x, q_noEx_k, q_okO_k, q_ofO_s, q_sSeq_a, q_sNil_a, q_sRet_a, q_sExpr_a, q_sSet_a, q_sIf_a, q_dC_a, q_d1_a, q_d2_a, q_b1B_a, q_b1T_a, q_bAnd_a, q_bOr_a, q_bNot_a, q_dAnd_a, q_dOr_a, q_dOrV_a, q_dNot_a, q_dIf_a, q_dA_a, q_aNil_a, q_aCons_a, q_asN_a, q_dMt_a, q_dSl_a, q_dComp_a, q_sFor_a, q_sOwn_a, q_sPar_a, q_app3, q_app4, q_frz3, q_frz4, q_min_i, q_rng1_p, q_toO_s, q_gV_a, q_tB_b, q_tT_b, q_tT_i, q_tT_n, q_tT_l, q_tT_t, q_add_i, q_sub_i, q_fdiv_p, q_mod_p, q_lt_i, q_le_i, q_gt_i, q_ge_i, q_neg_i, q_eq_i, q_eq_s, q_eq_b, q_ne_i, q_ne_s, q_in_s, q_ix_l, q_ix_t, q_ix_s, q_sl_l, q_sl_s, q_pI_i, q_len_s, q_len_l, q_len_t, q_abs_i, q_max_i, q_int_s, q_all_l, q_any_l, q_st_s, q_zf_s, q_hs_s, q_fit_p, q_add_sp, q_add_lp, q_mkT_p, q_asI_l, q_asI_t, q_asI_s, q_fmt_s, q_jNil_a, q_jCons_k, q_isX_i, q_isX_b, q_isX_s, q_isX_t, q_isX_l, q_slW_l, q_slW_s, q_is_bb, q_isn_bb, q_is_nn, q_isn_nn, q_is_tn, q_isn_tn, q_v0, q_v1, q_v2, q_v3, q_v4, q_v5, q_v6, q_v7, q_v8, q_v9, q_v10, q_v11, q_v12, q_v13, startD, List.map_cons, List.map_nil, List.length_cons, List.length_nil, Nat.sub_self, Nat.reduceAdd, Nat.reduceSub, List.replicate_zero, List.replicate_succ, List.append_nil, List.nil_append, List.cons_append, List.set_cons_zero, List.set_cons_succ, if_true, if_false, Nat.reduceLT, Nat.zero_lt_succ, Bool.not_true, Bool.not_false, Bool.false_eq_true, reduceIte, decide_true, decide_false, Int.reduceLT, Int.reduceEq, Int.reduceNeg, Int.reducePow, Int.reduceSub, Int.reduceAdd, Int.reduceMul,  List.length_set])
variable {a : Ad}
theorem mx_fold (r : List Int) : ∀ m : Int, (r.foldl (fun m x => if m < x then x else m) m = m ∨ r.foldl (fun m x => if m < x then x else m) m ∈ r) ∧ m ≤ r.foldl (fun m x => if m < x then x else m) m ∧ ∀ x ∈ r, x ≤ r.foldl (fun m x => if m < x then x else m) m := by
  induction r with
  | nil => intro m; exact ⟨.inl rfl, Int.le_refl _, nofun⟩
  | cons y r ih =>
    intro m
    rw [List.foldl_cons]
    by_cases h : m < y
    · rw [if_pos h]
      obtain ⟨h1, h2, h3⟩ := ih y
      refine ⟨.inr ?_, by omega, fun x hx => ?_⟩
      · rcases h1 with e | e
        · rw [e]; exact .head _
        · exact .tail _ e
      · rcases List.mem_cons.mp hx with rfl | hx
        · exact h2
        · exact h3 x hx
    · rw [if_neg h]
      obtain ⟨h1, h2, h3⟩ := ih m
      refine ⟨h1.imp id (.tail _), h2, fun x hx => ?_⟩
      rcases List.mem_cons.mp hx with rfl | hx
      · omega
      · exact h3 x hx
theorem mx_mem {l : List Int} (h : l ≠ []) : mxI l ∈ l := by
  cases l with
  | nil => exact absurd rfl h
  | cons a r => rcases (mx_fold r a).1 with e | e
                · show r.foldl _ a ∈ _; rw [e]; exact .head _
                · exact .tail _ e
theorem mx_ge {l : List Int} {x : Int} (h : x ∈ l) : x ≤ mxI l := by
  cases l with
  | nil => cases h
  | cons a r =>
    rcases List.mem_cons.mp h with rfl | h
    · exact (mx_fold r x).2.1
    · exact (mx_fold r a).2.2 x h
noncomputable def mx0 (l : List Int) : Int := mxI (0 :: l)
theorem mx0_eq {l m : List Int} (h : ∀ x, x ∈ l ↔ x ∈ m) (hm : ∀ x ∈ m, 0 ≤ x) : (if l.isEmpty then 0 else mxI l) = mx0 m := by
  have nn : (0 : Int) ≤ mx0 m := mx_ge (.head _)
  cases l with
  | nil =>
    have : m = [] := by
      cases m with
      | nil => rfl
      | cons y r => have := (h y).mpr (.head _); cases this
    subst this; rfl
  | cons y r =>
    show mxI (y :: r) = mx0 m
    have h1 : mxI (y :: r) ∈ y :: r := mx_mem (by simp)
    have h2 : mx0 m ∈ 0 :: m := mx_mem (by simp)
    have h3 : mxI (y :: r) ≤ mx0 m := mx_ge (.tail _ ((h _).mp h1))
    have h4 : mx0 m ≤ mxI (y :: r) := by
      rcases List.mem_cons.mp h2 with e | e
      · rw [e]; exact hm _ ((h _).mp h1)
      · exact mx_ge ((h _).mpr e)
    omega
theorem ints_map : ∀ l : List Int, intsO (l.map D.int) = some l
  | [] => rfl
  | n :: r => by show (intsO (r.map D.int)).map (n :: ·) = _; rw [ints_map r]; rfl
theorem bools_map : ∀ l : List Bool, boolsD (l.map D.bl) = some l
  | [] => rfl
  | n :: r => by
    have := bools_map r
    rw [List.map_cons]
    unfold boolsD
    rw [this]; rfl
theorem m_amast {A : List Ask} (hz : A.length ≤ 1000) : finT (g_asks_for_a_mast a (startD 1 [.lst (A.map Ask.d)])) = .ok (.bl (A.any Ask.isAt)) := by
  have c : dComp (fun ρ => ((dV 0) ρ).bind asI) 1 [] (gV 0) (fun _ => .ok true) (d2 eqSD (d2 ixD (dV 0) (dC (.int 0))) (dC (.str "at"))) [.sh (.lst (A.map Ask.d))] = .ok (A.map fun x => D.bl x.isAt) :=
    dcomp_m (f := Ask.d) (L := A) rfl (by omega) fun x _ => by cases x <;> kernel_rfl
  have e : A.map (fun x => D.bl x.isAt) = (A.map Ask.isAt).map D.bl := by rw [List.map_map]; rfl
  unfold g_asks_for_a_mast
  show finT (toS ((asN _ [.sh (.lst (A.map Ask.d))]).bind _ |>.bind anyD) _) = _
  rw [asN_of c]
  show finT (toS (match boolsD (A.map fun x => D.bl x.isAt) with | some bs => R.ok (D.bl (bs.any id)) | none => .bad) _) = _
  rw [e, bools_map]
  show R.ok (D.bl ((A.map Ask.isAt).any id)) = _
  rw [List.any_map]; rfl
theorem m_farthest {A : List Ask} (hz : A.length ≤ 1000) : finT (g_farthest a (startD 1 [.lst (A.map Ask.d)])) = .ok (.int (if (A.filterMap Ask.pl).isEmpty then 0 else mxI (A.filterMap Ask.pl))) := by
  have c : dComp (fun ρ => ((dV 0) ρ).bind asI) 1 [] (gV 0) (b1 tB (d2 inLD (d2 ixD (dV 0) (dC (.int 0))) (dA mkT (aCons (dC (.str "back")) (aCons (dC (.str "on")) aNil))))) (d2 ixD (dV 0) (dC (.int 1))) [.sh (.lst (A.map Ask.d))] = .ok ((A.filterMap Ask.pl).map D.int) :=
    dcomp_fM (f := Ask.d) (L := A) (k := Ask.pl) rfl (by omega) (fun x _ hx => by cases x <;> first | (cases hx; done) | kernel_rfl) (fun x _ y hy => by cases x <;> first | (cases hy; done) | (cases hy; exact ⟨by kernel_rfl, rfl⟩))
  unfold g_farthest
  show finT (toS ((asN _ [.sh (.lst (A.map Ask.d))]).bind fun d1 => maxdD (.int 0) d1) _) = _
  rw [asN_of c]
  show finT (toS (match intsO ((A.filterMap Ask.pl).map D.int) with | some ns => if ns.isEmpty then R.ok (D.int 0) else R.ok (.int (mxI ns)) | none => .bad) _) = _
  rw [ints_map]
  dsimp only
  cases (A.filterMap Ask.pl).isEmpty <;> rfl
noncomputable def rd (r : Str × T7) : D := .tup [.str r.1, r.2.d]
noncomputable def due (R : List (Str × T7)) : D := if R.any (fun r => r.2.mast) then .non else .int ((R.map fun r => mx0 r.2.pls).sum)
section
variable {Fa Fm Ff : List D → R D}
structure Rok (Fa : List D → R D) (t : T7) : Prop where
  ex : ∃ A : List Ask, Fa [t.d] = .ok (.lst (A.map Ask.d)) ∧ A.length ≤ 1000 ∧ A.any Ask.isAt = t.mast ∧ ∀ n, n ∈ A.filterMap Ask.pl ↔ n ∈ t.pls
  nn : ∀ n ∈ t.pls, 0 ≤ n
theorem m_reach (hm : ∀ A : List Ask, A.length ≤ 1000 → Fm [.lst (A.map Ask.d)] = .ok (.bl (A.any Ask.isAt)))
    (hf : ∀ A : List Ask, A.length ≤ 1000 → Ff [.lst (A.map Ask.d)] = .ok (.int (if (A.filterMap Ask.pl).isEmpty then 0 else mxI (A.filterMap Ask.pl))))
    {R : List (Str × T7)} (hR : ∀ r ∈ R, Rok Fa r.2) (hz : R.length ≤ 1000) : finT (g_reach a Fa Fm Ff (startD 2 [.lst (R.map rd)])) = .ok (due R) := by
  have ch : ∃ B : List (List Ask × T7), B.map Prod.snd = R.map Prod.snd ∧ (∀ p ∈ B, Fa [p.2.d] = .ok (.lst (p.1.map Ask.d)) ∧ p.1.length ≤ 1000 ∧ p.1.any Ask.isAt = p.2.mast ∧ (∀ n, n ∈ p.1.filterMap Ask.pl ↔ n ∈ p.2.pls) ∧ ∀ n ∈ p.2.pls, 0 ≤ n) := by
    clear hz
    induction R with
    | nil => exact ⟨[], rfl, nofun⟩
    | cons r R ih =>
      obtain ⟨B, e, h⟩ := ih fun x hx => hR x (.tail _ hx)
      obtain ⟨⟨A, h1, h2, h3, h4⟩, h5⟩ := hR r (.head _)
      refine ⟨(A, r.2) :: B, by rw [List.map_cons, List.map_cons, e], fun p hp => ?_⟩
      rcases List.mem_cons.mp hp with rfl | hp
      · exact ⟨h1, h2, h3, h4, h5⟩
      · exact h p hp
  obtain ⟨B, eB, hB⟩ := ch
  have lB : B.length ≤ 1000000 := by have := congrArg List.length eB; rw [List.length_map, List.length_map] at this; omega
  have c1 : dComp (fun ρ => ((dV 0) ρ).bind asI) 1 [] (gV 0) (fun _ => .ok true) (dA Fa (aCons (d2 ixD (dV 0) (dC (.int 1))) aNil)) [.sh (.lst (R.map rd)), .no] = .ok (B.map fun p => D.lst (p.1.map Ask.d)) := by
    have key : ∀ (R : List (Str × T7)) (B : List (List Ask × T7)), B.map Prod.snd = R.map Prod.snd → (∀ p ∈ B, Fa [p.2.d] = .ok (.lst (p.1.map Ask.d))) → compO (gV 0) (fun _ => .ok true) (dA Fa (aCons (d2 ixD (dV 0) (dC (.int 1))) aNil)) [.no] (R.map rd) = some (B.map fun p => D.lst (p.1.map Ask.d)) := by
      intro R
      induction R with
      | nil => intro B e _; cases B with
        | nil => rfl
        | cons _ _ => cases e
      | cons r R ih =>
        intro B e h
        cases B with
        | nil => cases e
        | cons p B =>
          rw [List.map_cons, List.map_cons, List.cons.injEq] at e
          have h1 := h p (.head _)
          rw [e.1] at h1
          show (okO (Fa [r.2.d])).bind (fun v => (compO (gV 0) (fun _ => .ok true) (dA Fa (aCons (d2 ixD (dV 0) (dC (.int 1))) aNil)) [.no] (R.map rd)).bind fun vs => some (v :: vs)) = _
          rw [h1, ih B e.2 fun q hq => h q (.tail _ hq)]
          rfl
    unfold dComp
    show (if (R.map rd).length ≤ sizeLine then ofO (compO (gV 0) (fun _ => .ok true) (dA Fa (aCons (d2 ixD (dV 0) (dC (.int 1))) aNil)) [.no] (R.map rd)) else .bad) = _
    rw [if_pos (by rw [List.length_map]; exact Nat.le_trans (show R.length ≤ 1000000 by omega) (by decide)), key R B eB fun p hp => (hB p hp).1]
    rfl
  have seq : ∀ {g h : Ev → RT} {ρ ρ' : Ev}, g ρ = .nx ρ' → sSeq g h ρ = h ρ' := fun e => by unfold sSeq; rw [e]; rfl
  have h1 : sSet 1 (asN (dComp (fun ρ => ((dV 0) ρ).bind asI) 1 [] (gV 0) (fun _ => .ok true) (dA Fa (aCons (d2 ixD (dV 0) (dC (.int 1))) aNil)))) [.sh (.lst (R.map rd)), .no] = .nx [.sh (.lst (R.map rd)), .sh (.lst (B.map fun p => D.lst (p.1.map Ask.d)))] := by
    show toS (asN _ [.sh (.lst (R.map rd)), .no]) _ = _
    rw [asN_of c1]; rfl
  have c2 : dComp (fun ρ => ((dV 1) ρ).bind asI) 1 [] (gV 0) (fun _ => .ok true) (dA Fm (aCons (dV 0) aNil)) [.sh (.lst (R.map rd)), .sh (.lst (B.map fun p => D.lst (p.1.map Ask.d)))] = .ok (B.map fun p => D.bl p.2.mast) :=
    dcomp_m (f := fun p : List Ask × T7 => D.lst (p.1.map Ask.d)) (L := B) rfl lB fun p hp => by
      obtain ⟨_, l, m, _, _⟩ := hB p hp
      show Fm [.lst (p.1.map Ask.d)] = _
      rw [hm _ l, m]
  have c3 : dComp (fun ρ => ((dV 1) ρ).bind asI) 1 [] (gV 0) (fun _ => .ok true) (dA Ff (aCons (dV 0) aNil)) [.sh (.lst (R.map rd)), .sh (.lst (B.map fun p => D.lst (p.1.map Ask.d)))] = .ok (B.map fun p => D.int (mx0 p.2.pls)) :=
    dcomp_m (f := fun p : List Ask × T7 => D.lst (p.1.map Ask.d)) (L := B) rfl lB fun p hp => by
      obtain ⟨_, l, _, m, n⟩ := hB p hp
      show Ff [.lst (p.1.map Ask.d)] = _
      rw [hf _ l, mx0_eq m n]
  have an : B.any (fun p => p.2.mast) = R.any (fun r => r.2.mast) := by
    have := congrArg (fun l => l.any T7.mast) eB
    simpa [List.any_map, Function.comp_def] using this
  have sm : (B.map fun p => mx0 p.2.pls) = R.map fun r => mx0 r.2.pls := by
    have := congrArg (fun l => l.map fun t : T7 => mx0 t.pls) eB
    simpa [List.map_map, Function.comp_def] using this
  have ib : b1 tT (dA anyD (aCons (asN (dComp (fun ρ => ((dV 1) ρ).bind asI) 1 [] (gV 0) (fun _ => .ok true) (dA Fm (aCons (dV 0) aNil)))) aNil)) [.sh (.lst (R.map rd)), .sh (.lst (B.map fun p => D.lst (p.1.map Ask.d)))] = .ok (R.any fun r => r.2.mast) := by
    show ((asN _ [.sh (.lst (R.map rd)), .sh (.lst (B.map fun p => D.lst (p.1.map Ask.d)))]).bind _ |>.bind anyD |>.bind tT) = _
    rw [asN_of c2]
    show (match boolsD (B.map fun p : List Ask × T7 => D.bl p.2.mast) with | some bs => P2.R.ok (D.bl (bs.any id)) | none => P2.R.bad).bind tT = _
    rw [show (B.map fun p => D.bl p.2.mast) = (B.map fun p => p.2.mast).map D.bl by rw [List.map_map]; rfl, bools_map]
    show P2.R.ok ((B.map fun p => p.2.mast).any id) = _
    rw [List.any_map, ← an]; rfl
  unfold g_reach due
  show finT (sSeq _ _ [.sh (.lst (R.map rd)), .no]) = _
  rw [seq h1]
  show finT (seqT (toS (b1 tT _ [.sh (.lst (R.map rd)), .sh (.lst (B.map fun p => D.lst (p.1.map Ask.d)))]) _) _) = _
  rw [ib]
  cases (R.any fun r => r.2.mast) with
  | true => rfl
  | false =>
    show finT (toS ((asN _ [.sh (.lst (R.map rd)), .sh (.lst (B.map fun p => D.lst (p.1.map Ask.d)))]).bind _ |>.bind sumD) _) = _
    rw [asN_of c3]
    show finT (toS (match intsO (B.map fun p => D.int (mx0 p.2.pls)) with | some ns => P2.R.ok (D.int ns.sum) | none => P2.R.bad) _) = _
    rw [show (B.map fun p => D.int (mx0 p.2.pls)) = (B.map fun p => mx0 p.2.pls).map D.int by rw [List.map_map]; rfl, ints_map, sm]
    rfl
end
end W72
namespace W72
open PySem L2 P2 WP TM T2 PySem.NumText
local macro_rules | `(tactic| walk_at "den") => `(tactic| try simp (disch := first | assumption | decide | exact Nat.le_of_ble_eq_true rfl) only [q_bind_k, q_bind_x, q_bind_b, q_toS_k, q_toS_x, q_toS_b, q_seq_n, q_seq_r, q_seq_x, q_seq_b, q_turn_n, q_turn_c, q_turn_k, q_turn_r, q_turn_b, q_turn_x, q_fin_r, q_fin_n, q_fin_x, q_noEx_k, q_okO_k, q_ofO_s, q_sSeq_a, q_sNil_a, q_sRet_a, q_sExpr_a, q_sSet_a, q_sIf_a, q_dC_a, q_d1_a, q_d2_a, q_b1B_a, q_b1T_a, q_bAnd_a, q_bOr_a, q_bNot_a, q_dAnd_a, q_dOr_a, q_dOrV_a, q_dNot_a, q_dIf_a, q_dA_a, q_aNil_a, q_aCons_a, q_asN_a, q_dMt_a, q_dSl_a, q_dComp_a, q_sFor_a, q_sOwn_a, q_sPar_a, q_app3, q_app4, q_frz3, q_frz4, q_min_i, q_rng1_p, q_toO_s, q_gV_a, q_tB_b, q_tT_b, q_tT_i, q_tT_n, q_tT_l, q_tT_t, q_add_i, q_sub_i, q_fdiv_p, q_mod_p, q_lt_i, q_le_i, q_gt_i, q_ge_i, q_neg_i, q_eq_i, q_eq_s, q_eq_b, q_ne_i, q_ne_s, q_in_s, q_ix_l, q_ix_t, q_ix_s, q_sl_l, q_sl_s, q_pI_i, q_len_s, q_len_l, q_len_t, q_abs_i, q_max_i, q_int_s, q_all_l, q_any_l, q_st_s, q_zf_s, q_hs_s, q_fit_p, q_add_sp, q_add_lp, q_mkT_p, q_asI_l, q_asI_t, q_asI_s, q_fmt_s, q_jNil_a, q_jCons_k, q_isX_i, q_isX_b, q_isX_s, q_isX_t, q_isX_l, q_slW_l, q_slW_s, q_is_bb, q_isn_bb, q_is_nn, q_isn_nn, q_is_tn, q_isn_tn, q_v0, q_v1, q_v2, q_v3, q_v4, q_v5, q_v6, q_v7, q_v8, q_v9, q_v10, q_v11, q_v12, q_v13, startD, List.map_cons, List.map_nil, List.length_cons, List.length_nil, Nat.sub_self, Nat.reduceAdd, Nat.reduceSub, List.replicate_zero, List.replicate_succ, List.append_nil, List.nil_append, List.cons_append, List.set_cons_zero, List.set_cons_succ, if_true, if_false, Nat.reduceLT, Nat.zero_lt_succ, Bool.not_true, Bool.not_false, Bool.false_eq_true, reduceIte, decide_true, decide_false, Int.reduceLT, Int.reduceEq, Int.reduceNeg, Int.reducePow, Int.reduceSub, Int.reduceAdd, Int.reduceMul,  List.length_set])
variable {a : Ad}
theorem asks_bin (k : Bq) (l r : T7) : (T7.bin k l r).asks = l.asks ++ r.asks := by
  show (l.parts ++ r.parts).filterMap askOf = _
  rw [List.filterMap_append]; rfl
section
variable {Fl : List D → R D}
theorem las_pair (p q : Int) (s0 : Sl) (acc : List D) : b1_law_asks a Fl [s0, .ow acc, .sh (.tup [.int p, .int q])] = .nx [s0, .ow acc, .sh (.tup [.int p, .int q])] := by
  kernel_rfl
theorem las_t {t : T7} (h : Fl [t.d] = .ok (.lst (t.asks.map Ask.d))) (hz : t.asks.length ≤ 100000) (s0 : Sl) {acc : List D} (ha : acc.length ≤ 100000) : b1_law_asks a Fl [s0, .ow acc, .sh t.d] = .nx [s0, .ow (acc ++ t.asks.map Ask.d), .sh t.d] := by
  have e : b1_law_asks a Fl [s0, .ow acc, .sh t.d] = sExt 1 (dA Fl (aCons (dV 2) aNil)) [s0, .ow acc, .sh t.d] := by
    cases t with
    | far k n => cases k <;> kernel_rfl
    | bin k l r => cases k <;> kernel_rfl
    | _ => kernel_rfl
  rw [e]
  show toS (Fl [t.d]) _ = _
  rw [h]
  show (if acc.length + (t.asks.map Ask.d).length ≤ sizeLine then RT.nx _ else .bad) = _
  rw [if_pos (by rw [List.length_map]; exact Nat.le_trans (show acc.length + t.asks.length ≤ 1000000 by omega) (by decide))]
  rfl
theorem for_two {b : Ev → RT} {x : D} {r : List D} {s0 s1 s1' s2 : Sl} (h : b [s0, s1, .sh x] = .nx [s0, s1', .sh x]) : forD (gV 2) b (x :: r) [s0, s1, s2] = forD (gV 2) b r [s0, s1', .sh x] := by
  show turnT (b [s0, s1, .sh x]) (forD (gV 2) b r) = _
  rw [h]; rfl
theorem m_las_step {t : T7} (h : ∀ u ∈ t.kids, Fl [u.d] = .ok (.lst (u.asks.map Ask.d)) ∧ u.asks.length ≤ 50000) : finT (g_law_asks a Fl (startD 3 [t.d])) = .ok (.lst (t.asks.map Ask.d)) := by
  have loop : ∀ (ds : List D) (acc : List D) (s2 : Sl), forD (gV 2) (b1_law_asks a Fl) ds [.sh t.d, .ow [], .no] = .nx [.sh t.d, .ow acc, s2] → t.asks.map Ask.d = acc → (∃ s xs, t.d = .tup (.str s :: xs) ∧ ds = xs ∧ xs.length ≤ 100) →
      (g_law_asks a Fl (startD 3 [t.d]) = (sSeq (sOwn 1 (fun ρ => (aNil ρ).bind fitL)) (sSeq (sFor (fun ρ => ((dSl slWD (dV 0) (fun ρ => ((dC (.int 1)) ρ).bind pI) (fun _ => .ok none)) ρ).bind asI) (gV 2) (b1_law_asks a Fl)) (fun ρ => (sRet (dV 1)) (frzS 1 ρ)))) [.sh t.d, .no, .no]) → finT (g_law_asks a Fl (startD 3 [t.d])) = .ok (.lst (t.asks.map Ask.d)) := by
    intro ds acc s2 h1 h2 h3 h4
    obtain ⟨s, xs, e1, rfl, hl⟩ := h3
    rw [h4, h2]
    have ho : sOwn 1 (fun ρ => (aNil ρ).bind fitL) [.sh t.d, .no, .no] = .nx [.sh t.d, .ow [], .no] := rfl
    have hf : sFor (fun ρ => ((dSl slWD (dV 0) (fun ρ => ((dC (.int 1)) ρ).bind pI) (fun _ => .ok none)) ρ).bind asI) (gV 2) (b1_law_asks a Fl) [.sh t.d, .ow [], .no] = .nx [.sh t.d, .ow acc, s2] := by
      rw [← h1]
      have sl : slWD t.d (some 1) none = .ok (.tup ds) := by
        rw [e1]
        have i1 : HT.sIx (ds.length + 1) 0 (some 1) = 1 := by
          unfold HT.sIx
          simp
        have i2 : HT.sIx (ds.length + 1) (ds.length + 1) none = ds.length + 1 := rfl
        show (if ¬ (HT.sIx (ds.length + 1) 0 (some 1) = 0 ∧ HT.sIx (ds.length + 1) (ds.length + 1) none = ds.length + 1) then R.ok (D.tup ((((D.str s) :: ds).drop (HT.sIx (ds.length + 1) 0 (some 1))).take (HT.sIx (ds.length + 1) (ds.length + 1) none - HT.sIx (ds.length + 1) 0 (some 1)))) else .bad) = _
        rw [i1, i2, if_pos (by simp), List.drop_one, List.tail_cons, List.take_of_length_le (by omega)]
      show toS ((slWD t.d (some 1) none).bind asI) _ = _
      rw [sl]
      rfl
    have seq : ∀ {g h : Ev → RT} {ρ ρ' : Ev}, g ρ = .nx ρ' → sSeq g h ρ = h ρ' := fun e => by unfold sSeq; rw [e]; rfl
    rw [seq ho, seq hf]
    rfl
  cases t with
  | far k n => cases k <;> kernel_rfl
  | «at» w => kernel_rfl
  | num p q => exact loop [.tup [.int p, .int q]] [] _ (by rw [for_two (las_pair p q _ _)]; rfl) rfl ⟨_, _, rfl, rfl, Nat.le_of_ble_eq_true rfl⟩ (by kernel_rfl)
  | here => exact loop [] [] .no rfl rfl ⟨_, _, rfl, rfl, Nat.le_of_ble_eq_true rfl⟩ (by kernel_rfl)
  | times p q u =>
    obtain ⟨h1, h2⟩ := h u (.head _)
    exact loop [.tup [.int p, .int q], u.d] _ _ (by rw [for_two (las_pair p q _ _), for_two (las_t h1 (by omega) _ (by decide))]; rfl) rfl ⟨_, _, rfl, rfl, Nat.le_of_ble_eq_true rfl⟩ (by kernel_rfl)
  | abs u =>
    obtain ⟨h1, h2⟩ := h u (.head _)
    exact loop [u.d] _ _ (by rw [for_two (las_t h1 (by omega) _ (by decide))]; rfl) rfl ⟨_, _, rfl, rfl, Nat.le_of_ble_eq_true rfl⟩ (by kernel_rfl)
  | not u =>
    obtain ⟨h1, h2⟩ := h u (.head _)
    exact loop [u.d] _ _ (by rw [for_two (las_t h1 (by omega) _ (by decide))]; rfl) rfl ⟨_, _, rfl, rfl, Nat.le_of_ble_eq_true rfl⟩ (by kernel_rfl)
  | bin k l r =>
    obtain ⟨h1, h2⟩ := h l (.head _)
    obtain ⟨h3, h4⟩ := h r (.tail _ (.head _))
    refine loop [l.d, r.d] ([] ++ l.asks.map Ask.d ++ r.asks.map Ask.d) _ (by rw [for_two (las_t h1 (by omega) _ (by decide)), for_two (las_t h3 (by omega) _ (by rw [List.nil_append, List.length_map]; omega))]; rfl) (by rw [asks_bin, List.map_append, List.nil_append]) ⟨_, _, rfl, rfl, by show 2 ≤ 100; decide⟩ ?_
    cases k <;> kernel_rfl
theorem asks_len (t : T7) : t.asks.length ≤ t.parts.length := List.length_filterMap_le ..
theorem m_las : ∀ (n : Nat) (t : T7), t.dep < n → t.parts.length ≤ 50000 → fixD (fun F ds => finT (g_law_asks a F (startD 3 ds))) n [t.d] = .ok (.lst (t.asks.map Ask.d))
  | 0, t, h, _ => by omega
  | n + 1, t, h, hz => by
    refine m_las_step fun u hu => ?_
    have hz' := hz
    rw [parts_eq, List.length_cons] at hz'
    have l1 : u.parts.length ≤ (t.kids.flatMap T7.parts).length := by
      obtain ⟨x, y, e⟩ := List.append_of_mem hu
      rw [e, List.flatMap_append, List.flatMap_cons, List.length_append, List.length_append]; omega
    exact ⟨m_las n u (by have := kids_dep hu; omega) (by omega), Nat.le_trans (asks_len u) (by omega)⟩
end
end W72
namespace W72
open PySem L2 P2 WP TM T2 PySem.NumText
local macro_rules | `(tactic| walk_at "den") => `(tactic| try simp (disch := first | assumption | decide | exact Nat.le_of_ble_eq_true rfl) only [q_bind_k, q_bind_x, q_bind_b, q_toS_k, q_toS_x, q_toS_b, q_seq_n, q_seq_r, q_seq_x, q_seq_b, q_turn_n, q_turn_c, q_turn_k, q_turn_r, q_turn_b, q_turn_x, q_fin_r, q_fin_n, q_fin_x, q_noEx_k, q_okO_k, q_ofO_s, q_sSeq_a, q_sNil_a, q_sRet_a, q_sExpr_a, q_sSet_a, q_sIf_a, q_dC_a, q_d1_a, q_d2_a, q_b1B_a, q_b1T_a, q_bAnd_a, q_bOr_a, q_bNot_a, q_dAnd_a, q_dOr_a, q_dOrV_a, q_dNot_a, q_dIf_a, q_dA_a, q_aNil_a, q_aCons_a, q_asN_a, q_dMt_a, q_dSl_a, q_dComp_a, q_sFor_a, q_sOwn_a, q_sPar_a, q_app3, q_app4, q_frz3, q_frz4, q_min_i, q_rng1_p, q_toO_s, q_gV_a, q_tB_b, q_tT_b, q_tT_i, q_tT_n, q_tT_l, q_tT_t, q_add_i, q_sub_i, q_fdiv_p, q_mod_p, q_lt_i, q_le_i, q_gt_i, q_ge_i, q_neg_i, q_eq_i, q_eq_s, q_eq_b, q_ne_i, q_ne_s, q_in_s, q_ix_l, q_ix_t, q_ix_s, q_sl_l, q_sl_s, q_pI_i, q_len_s, q_len_l, q_len_t, q_abs_i, q_max_i, q_int_s, q_all_l, q_any_l, q_st_s, q_zf_s, q_hs_s, q_fit_p, q_add_sp, q_add_lp, q_mkT_p, q_asI_l, q_asI_t, q_asI_s, q_fmt_s, q_jNil_a, q_jCons_k, q_isX_i, q_isX_b, q_isX_s, q_isX_t, q_isX_l, q_slW_l, q_slW_s, q_is_bb, q_isn_bb, q_is_nn, q_isn_nn, q_is_tn, q_isn_tn, q_v0, q_v1, q_v2, q_v3, q_v4, q_v5, q_v6, q_v7, q_v8, q_v9, q_v10, q_v11, q_v12, q_v13, startD, List.map_cons, List.map_nil, List.length_cons, List.length_nil, Nat.sub_self, Nat.reduceAdd, Nat.reduceSub, List.replicate_zero, List.replicate_succ, List.append_nil, List.nil_append, List.cons_append, List.set_cons_zero, List.set_cons_succ, if_true, if_false, Nat.reduceLT, Nat.zero_lt_succ, Bool.not_true, Bool.not_false, Bool.false_eq_true, reduceIte, decide_true, decide_false, Int.reduceLT, Int.reduceEq, Int.reduceNeg, Int.reducePow, Int.reduceSub, Int.reduceAdd, Int.reduceMul,  List.length_set])
variable {a : Ad}
section
variable {ρ ρ' : ZEv} {S S1 S2 : Sto} {f : ZEv → Sto → RX Z} {i : Nat} {z : Z}
theorem y_seq {g h : ZEv → Sto → RTZ} (e : g ρ S = .nx ρ' S1) : ySeq g h ρ S = h ρ' S1 := by unfold ySeq; rw [e]; rfl
theorem y_seqR {g h : ZEv → Sto → RTZ} (e : g ρ S = .rt z S1) : ySeq g h ρ S = .rt z S1 := by unfold ySeq; rw [e]; rfl
theorem y_set (e : f ρ S = .ok z S1) (hi : i < ρ.length) : ySet i f ρ S = .nx (ρ.set i (some z)) S1 := by unfold ySet; rw [e]; exact if_pos hi
theorem y_ret (h : f ρ S = .ok z S1) : yRet f ρ S = .rt z S1 := by unfold yRet; rw [h]; rfl
theorem y_ifT {c : ZEv → Sto → RX Bool} {g h : ZEv → Sto → RTZ} (e : c ρ S = .ok true S1) : yIf c g h ρ S = g ρ S1 := by unfold yIf; rw [e]; rfl
theorem y_ifF {c : ZEv → Sto → RX Bool} {g h : ZEv → Sto → RTZ} (e : c ρ S = .ok false S1) : yIf c g h ρ S = h ρ S1 := by unfold yIf; rw [e]; rfl
theorem y_skip {c : ZEv → Sto → RX Bool} {g h : ZEv → Sto → RTZ} (e : c ρ S = .ok false S1) : ySeq (yIf c g yNil) h ρ S = h ρ S1 := y_seq (y_ifF e)
theorem z_D {g : Ev → R D} {d : D} (e : g (pur ρ) = .ok d) : zD g ρ S = .ok (.d d) S := by unfold zD; rw [e]; rfl
theorem z_B {g : Ev → R Bool} {d : Bool} (e : g (pur ρ) = .ok d) : zB g ρ S = .ok d S := by unfold zB; rw [e]; rfl
theorem z_R {g : Ev → R D} {d : D} (e : g (vw S ρ) = .ok d) (h : noL d = true) : zR g ρ S = .ok (.d d) S := by unfold zR; rw [e]; exact if_pos h
theorem z_RB {g : Ev → R Bool} {d : Bool} (e : g (vw S ρ) = .ok d) : zRB g ρ S = .ok d S := by unfold zRB; rw [e]
theorem z_nil : zNil ρ S = .ok [] S := rfl
theorem z_cons {r : ZEv → Sto → RX (List Z)} {zs : List Z} (e : f ρ S = .ok z S1) (e2 : r ρ S1 = .ok zs S2) : zCons f r ρ S = .ok (z :: zs) S2 := by
  unfold zCons
  rw [e]
  show (r ρ S1).bind _ = _
  rw [e2]
  rfl
theorem z_F {g : List D → R D} {r : ZEv → Sto → RX (List Z)} (ds : List D) {d : D} (e : r ρ S = .ok (ds.map .d) S1) (e2 : g ds = .ok d) : zF g r ρ S = .ok (.d d) S1 := by
  unfold zF
  rw [e]
  show (match asDs (ds.map Z.d) with | some ds => _ | none => _) = _
  rw [asDs_of]
  show RX.bind (upR (g ds) S1) _ = _
  rw [e2]
  rfl
theorem z_2 {g : D → D → R D} {fa fb : ZEv → Sto → RX Z} {u v w : D} (e1 : fa ρ S = .ok (.d u) S1) (e2 : fb ρ S1 = .ok (.d v) S2) (e3 : g u v = .ok w) : z2 g fa fb ρ S = .ok (.d w) S2 := by
  unfold z2
  rw [e1]
  show (fb ρ S1).bind _ = _
  rw [e2]
  show RX.bind (upR (g u v) S2) _ = _
  rw [e3]
  rfl
theorem z_tst {g : D → R Bool} {u : D} {k : Bool} (e1 : f ρ S = .ok (.d u) S1) (e3 : g u = .ok k) : zTst g f ρ S = .ok k S1 := by
  unfold zTst
  rw [e1]
  show upR (g u) S1 = _
  rw [e3]
  rfl
theorem z_Z {F : List Z → Sto → RX Z} {r : ZEv → Sto → RX (List Z)} {zs : List Z} {x : RX Z} (e : r ρ S = .ok zs S1) (e2 : F zs S1 = x) : zZ F r ρ S = x := by
  unfold zZ; rw [e]; exact e2
end
noncomputable abbrev sx (x b : Int) : Sto := [.li [.d (.int x), .d (.int b)]]
theorem m_pick (m x b : Int) (hm : 0 < m) (h2 : m < 1000) : ∃ r x' : Int, 0 ≤ r ∧ r < m ∧ finZ (g_law_pick a 1 (startZ 3 [.loc 0, .d (.int m)]) (sx x b)) = .ok (.d (.int r)) (sx x' b) := by
  have m0 := Int.emod_nonneg x (show m ≠ 0 by omega)
  have m1 := Int.emod_lt_of_pos x hm
  have hm2 : m < 18446744073709551616 := by omega
  unfold g_law_pick
  show ∃ r x' : Int, 0 ≤ r ∧ r < m ∧ finZ (ySeq (yIf (zRB _) _ _) _ [some (.loc 0), some (.d (.int m)), none] (sx x b)) = _
  by_cases hb : b = 0
  · subst hb
    refine ⟨x % m, x / m, m0, m1, ?_⟩
    rw [y_seqR (z := .d (.int (x % m))) (S1 := sx (x / m) 0)]
    · rfl
    · rw [y_ifT (z_RB (show _ = R.ok true from rfl))]
      rw [y_seq (y_set (z_R (d := .int (x % m)) (by show modD (.int x) (.int m) = _; exact q_mod_p hm) rfl) (Nat.le_of_ble_eq_true rfl))]
      have hp : yPut 0 (dC (.int 0)) (zR (d2 fdivD (d2 ixD (dV 0) (dC (.int 0))) (dV 1))) [some (.loc 0), some (.d (.int m)), some (.d (.int (x % m)))] (sx x 0) = .nx [some (.loc 0), some (.d (.int m)), some (.d (.int (x % m)))] (sx (x / m) 0) := by
        unfold yPut
        rw [z_R (d := .int (x / m)) (by show fdivD (.int x) (.int m) = _; exact q_fdiv_p hm hm2) rfl]
        rfl
      show ySeq (yPut 0 _ _) _ [some (.loc 0), some (.d (.int m)), some (.d (.int (x % m)))] (sx x 0) = _
      rw [y_seq hp]
      rfl
  · generalize hx : (x % 2147483647 * 48271 + 1013) % 2147483629 = x'
    generalize hr : x' * 69621 % 2147483587 / 11 % m = r
    refine ⟨r, x', by rw [← hr]; exact Int.emod_nonneg _ (by omega), by rw [← hr]; exact Int.emod_lt_of_pos _ hm, ?_⟩
    rw [y_seq (ρ' := [some (.loc 0), some (.d (.int m)), none]) (S1 := sx x b)]
    · have hp : yPut 0 (dC (.int 0)) (zR (d2 modD (d2 addD (d2 mulUD (d2 modD (d2 ixD (dV 0) (dC (.int 0))) (dC (.int 2147483647))) (dC (.int 48271))) (dC (.int 1013))) (dC (.int 2147483629)))) [some (.loc 0), some (.d (.int m)), none] (sx x b) = .nx [some (.loc 0), some (.d (.int m)), none] (sx x' b) := by
        unfold yPut
        rw [z_R (d := .int x') (by
          show (((((modD (.int x) (.int 2147483647)).bind fun y => mulUD y (.int 48271)).bind fun y => addD y (.int 1013)).bind fun y => modD y (.int 2147483629))) = _
          rw [q_mod_p (by decide)]
          show (((mulUD (.int (x % 2147483647)) (.int 48271)).bind fun y => addD y (.int 1013)).bind fun y => modD y (.int 2147483629)) = _
          rw [q_mulU_r (by decide) (by decide)]
          show modD (.int (x % 2147483647 * 48271 + 1013)) (.int 2147483629) = _
          rw [q_mod_p (by decide), hx]) rfl]
        rfl
      rw [y_seq hp, y_ret (z_R (d := .int r) (by
          show (((((mulUD (.int x') (.int 69621)).bind fun y => modD y (.int 2147483587)).bind fun y => fdivD y (.int 11)).bind fun y => modD y (.int m))) = _
          rw [q_mulU_r (by decide) (by decide)]
          show (((modD (.int (x' * 69621)) (.int 2147483587)).bind fun y => fdivD y (.int 11)).bind fun y => modD y (.int m)) = _
          rw [q_mod_p (by decide)]
          show ((fdivD (.int (x' * 69621 % 2147483587)) (.int 11)).bind fun y => modD y (.int m)) = _
          rw [q_fdiv_p (by decide) (by decide)]
          show modD (.int (x' * 69621 % 2147483587 / 11)) (.int m) = _
          rw [q_mod_p hm, hr]) rfl)]
      rfl
    · rw [y_ifF (z_RB (d := false) (S := sx x b) ?_)]
      · rfl
      · show (R.ok (decide (b = 0)) : R Bool) = _
        rw [decide_eq_false hb]
noncomputable def T7.Ok : T7 → Prop
  | .at w => PyData.strOk w = true
  | .far _ n => 0 ≤ n
  | .times _ _ t => t.Ok
  | .abs t => t.Ok
  | .not t => t.Ok
  | .bin _ l r => l.Ok ∧ r.Ok
  | _ => True
structure Gd (n k : Nat) (t : T7) : Prop where
  ok : t.Ok
  dep : t.dep ≤ n
  sz : t.parts.length ≤ k
noncomputable def Pk (Zp : List Z → Sto → RX Z) (b : Int) : Prop := ∀ m x : Int, 0 < m → m < 1000 → ∃ r x' : Int, 0 ≤ r ∧ r < m ∧ Zp [.loc 0, .d (.int m)] (sx x b) = .ok (.d (.int r)) (sx x' b)
noncomputable def Lw (Fl : List D → R D) : Prop := ∀ t b : Int, 0 < b → b < 1000 → ∃ p q : Int, Fl [.int t, .int b] = .ok (.tup [.int p, .int q])
noncomputable def Gv (Zt : List Z → Sto → RX Z) (b : Int) (ws : List Str) (n k : Nat) : Prop := ∀ x : Int, ∃ (t : T7) (x' : Int), Gd n k t ∧ Zt [.loc 0, .d (.lst (ws.map D.str))] (sx x b) = .ok (.d t.d) (sx x' b)
section
variable {Zp Zt : List Z → Sto → RX Z} {Fl : List D → R D} {b : Int} {ws : List Str}
theorem pk (hp : Pk Zp b) (m x : Int) (h1 : 0 < m) (h2 : m < 1000) : ∃ r x' : Int, 0 ≤ r ∧ r < m ∧ ∀ ρ : ZEv, ρ[0]? = some (some (.loc 0)) → zZ Zp (zCons (zV 0) (zCons (zD (dC (.int m))) zNil)) ρ (sx x b) = .ok (.d (.int r)) (sx x' b) := by
  obtain ⟨r, x', h3, h4, e⟩ := hp m x h1 h2
  exact ⟨r, x', h3, h4, fun ρ hρ => z_Z (z_cons (by unfold zV; rw [hρ]) (z_cons (z_D rfl) z_nil)) e⟩
theorem gv (hg : Gv Zt b ws n k) (x : Int) : ∃ (t : T7) (x' : Int), Gd n k t ∧ ∀ ρ : ZEv, ρ[0]? = some (some (.loc 0)) → ρ[1]? = some (some (.d (.lst (ws.map D.str)))) → zZ Zt (zCons (zV 0) (zCons (zD (dV 1)) zNil)) ρ (sx x b) = .ok (.d t.d) (sx x' b) := by
  obtain ⟨t, x', h3, e⟩ := hg x
  refine ⟨t, x', h3, fun ρ h0 h1 => z_Z (z_cons (by unfold zV; rw [h0]) (z_cons (z_D ?_) z_nil)) e⟩
  show dV 1 (pur ρ) = _
  unfold dV pur
  rw [List.getElem?_map, h1]; rfl
theorem low2 (hp : Pk Zp b) (hl : Lw Fl) (m k x : Int) (h1 : 0 < m ∧ m < 1000) (h2 : 0 < k ∧ k < 900) : ∃ p q x' : Int, ∀ ρ : ZEv, ρ[0]? = some (some (.loc 0)) →
    zF Fl (zCons (zZ Zp (zCons (zV 0) (zCons (zD (dC (.int m))) zNil))) (zCons (z2 addD (zD (dC (.int 1))) (zZ Zp (zCons (zV 0) (zCons (zD (dC (.int k))) zNil)))) zNil)) ρ (sx x b) = .ok (.d (.tup [.int p, .int q])) (sx x' b) := by
  obtain ⟨r, x1, r0, r1, e1⟩ := pk hp m x h1.1 h1.2
  obtain ⟨s, x2, s0, s1, e2⟩ := pk hp k x1 h2.1 (by omega)
  obtain ⟨p, q, e3⟩ := hl r (1 + s) (by omega) (by omega)
  exact ⟨p, q, x2, fun ρ h => z_F [.int r, .int (1 + s)] (z_cons (e1 ρ h) (z_cons (z_2 (z_D rfl) (e2 ρ h) rfl) z_nil)) e3⟩
end
end W72
namespace W72
open PySem L2 P2 WP TM T2 PySem.NumText
local macro_rules | `(tactic| walk_at "den") => `(tactic| try simp (disch := first | assumption | decide | exact Nat.le_of_ble_eq_true rfl) only [q_bind_k, q_bind_x, q_bind_b, q_toS_k, q_toS_x, q_toS_b, q_seq_n, q_seq_r, q_seq_x, q_seq_b, q_turn_n, q_turn_c, q_turn_k, q_turn_r, q_turn_b, q_turn_x, q_fin_r, q_fin_n, q_fin_x, q_noEx_k, q_okO_k, q_ofO_s, q_sSeq_a, q_sNil_a, q_sRet_a, q_sExpr_a, q_sSet_a, q_sIf_a, q_dC_a, q_d1_a, q_d2_a, q_b1B_a, q_b1T_a, q_bAnd_a, q_bOr_a, q_bNot_a, q_dAnd_a, q_dOr_a, q_dOrV_a, q_dNot_a, q_dIf_a, q_dA_a, q_aNil_a, q_aCons_a, q_asN_a, q_dMt_a, q_dSl_a, q_dComp_a, q_sFor_a, q_sOwn_a, q_sPar_a, q_app3, q_app4, q_frz3, q_frz4, q_min_i, q_rng1_p, q_toO_s, q_gV_a, q_tB_b, q_tT_b, q_tT_i, q_tT_n, q_tT_l, q_tT_t, q_add_i, q_sub_i, q_fdiv_p, q_mod_p, q_lt_i, q_le_i, q_gt_i, q_ge_i, q_neg_i, q_eq_i, q_eq_s, q_eq_b, q_ne_i, q_ne_s, q_in_s, q_ix_l, q_ix_t, q_ix_s, q_sl_l, q_sl_s, q_pI_i, q_len_s, q_len_l, q_len_t, q_abs_i, q_max_i, q_int_s, q_all_l, q_any_l, q_st_s, q_zf_s, q_hs_s, q_fit_p, q_add_sp, q_add_lp, q_mkT_p, q_asI_l, q_asI_t, q_asI_s, q_fmt_s, q_jNil_a, q_jCons_k, q_isX_i, q_isX_b, q_isX_s, q_isX_t, q_isX_l, q_slW_l, q_slW_s, q_is_bb, q_isn_bb, q_is_nn, q_isn_nn, q_is_tn, q_isn_tn, q_v0, q_v1, q_v2, q_v3, q_v4, q_v5, q_v6, q_v7, q_v8, q_v9, q_v10, q_v11, q_v12, q_v13, startD, List.map_cons, List.map_nil, List.length_cons, List.length_nil, Nat.sub_self, Nat.reduceAdd, Nat.reduceSub, List.replicate_zero, List.replicate_succ, List.append_nil, List.nil_append, List.cons_append, List.set_cons_zero, List.set_cons_succ, if_true, if_false, Nat.reduceLT, Nat.zero_lt_succ, Bool.not_true, Bool.not_false, Bool.false_eq_true, reduceIte, decide_true, decide_false, Int.reduceLT, Int.reduceEq, Int.reduceNeg, Int.reducePow, Int.reduceSub, Int.reduceAdd, Int.reduceMul,  List.length_set])
variable {a : Ad}
section
variable {Zp Zt Zs Zc : List Z → Sto → RX Z} {Fl : List D → R D} {b : Int} {ws : List Str}
theorem ne_words (hw : ∀ w ∈ ws, PyData.strOk w = true) : neDD (.lst (ws.map D.str)) (.lst []) = .ok (.bl (!ws.isEmpty)) := by
  have h1 : ∀ L : List Str, (∀ w ∈ L, PyData.strOk w = true) → okQs (L.map D.str) = true ∧ dpQs (L.map D.str) = 0 := by
    intro L
    induction L with
    | nil => intro _; exact ⟨rfl, rfl⟩
    | cons w L ih =>
      intro h
      obtain ⟨i1, i2⟩ := ih fun x hx => h x (.tail _ hx)
      refine ⟨?_, ?_⟩
      · show (PyData.strOk w && okQs (L.map D.str)) = true
        rw [h w (.head _), i1]; rfl
      · show max 0 (dpQs (L.map D.str)) = 0
        rw [i2]; rfl
  obtain ⟨i1, i2⟩ := h1 ws hw
  obtain ⟨r, e, h⟩ := eqv_dec (a := .lst (ws.map D.str)) (b := .lst []) i1 rfl (by show dpQs (ws.map D.str) + 1 ≤ 60; omega) (by decide)
  unfold neDD
  rw [e]
  cases ws with
  | nil => rw [h.mpr rfl]; rfl
  | cons w L =>
    have : r = false := by
      cases r with
      | false => rfl
      | true => cases h.mp rfl
    rw [this]; rfl
theorem in_way (r : Int) (h0 : 0 ≤ r) (h1 : r < 10) : inLD (.int r) (.lst [.int 1, .int 2, .int 8, .int 9]) = .ok (.bl (decide (r = 1 ∨ r = 2 ∨ r = 8 ∨ r = 9))) := by
  have : r = 0 ∨ r = 1 ∨ r = 2 ∨ r = 3 ∨ r = 4 ∨ r = 5 ∨ r = 6 ∨ r = 7 ∨ r = 8 ∨ r = 9 := by omega
  rcases this with rfl | rfl | rfl | rfl | rfl | rfl | rfl | rfl | rfl | rfl <;> kernel_rfl
noncomputable abbrev wd (ws : List Str) : D := .lst (ws.map D.str)
theorem m_term (hp : Pk Zp b) (hl : Lw Fl) (hw : ∀ w ∈ ws, PyData.strOk w = true) (hn : ws.length < 1000) : Gv (fun zs S => finZ (g_law_term a Fl Zp S.length (startZ 4 zs) S)) b ws 0 1 := by
  intro x
  obtain ⟨r, x1, r0, r1, e1⟩ := pk hp 10 x (by decide) (by decide)
  have nw := ne_words hw
  have hin := in_way r r0 r1
  have step : ∀ g : ZEv → Sto → RTZ, ySeq (ySet 2 (zZ Zp (zCons (zV 0) (zCons (zD (dC (.int 10))) zNil)))) g [some (.loc 0), some (.d (wd ws)), none, none] (sx x b) = g [some (.loc 0), some (.d (wd ws)), some (.d (.int r)), none] (sx x1 b) := fun g => y_seq (y_set (e1 _ rfl) (Nat.le_of_ble_eq_true rfl))
  have i0 : ∀ S, zB (b1 tB (d2 eqSD (dV 2) (dC (.int 0)))) [some (.loc 0), some (.d (wd ws)), some (.d (.int r)), none] S = .ok (decide (r = 0)) S := fun S => z_B rfl
  have i8 : ∀ S, zB (bAnd (b1 tB (d2 eqSD (dV 2) (dC (.int 8)))) (b1 tB (d2 neDD (dV 1) (asN (fun ρ => (aNil ρ).bind fitL))))) [some (.loc 0), some (.d (wd ws)), some (.d (.int r)), none] S = .ok (decide (r = 8) && !ws.isEmpty) S := fun S => z_B (by
    show ((R.ok (decide (r = 8)) : R Bool).bind fun k => if k = true then (neDD (wd ws) (.lst [])).bind P2.tB else .ok false) = _
    rw [nw]
    by_cases h : r = 8 <;> simp [h, R.bind, P2.tB])
  have ii : ∀ S, zB (b1 tB (d2 inLD (dV 2) (asN (fun ρ => ((aCons (dC (.int 1)) (aCons (dC (.int 2)) (aCons (dC (.int 8)) (aCons (dC (.int 9)) aNil)))) ρ).bind fitL)))) [some (.loc 0), some (.d (wd ws)), some (.d (.int r)), none] S = .ok (decide (r = 1 ∨ r = 2 ∨ r = 8 ∨ r = 9)) S := fun S => z_B (by
    show (inLD (.int r) (.lst [.int 1, .int 2, .int 8, .int 9])).bind P2.tB = _
    rw [hin]; rfl)
  dsimp only
  unfold g_law_term
  show ∃ (t : T7) (x' : Int), Gd 0 1 t ∧ finZ (ySeq _ _ [some (.loc 0), some (.d (wd ws)), none, none] (sx x b)) = _
  rw [step]
  by_cases h0 : r = 0
  · obtain ⟨p, q, x2, e2⟩ := low2 hp hl 9 3 x1 (by decide) (by decide)
    refine ⟨.num p q, x2, ⟨trivial, Nat.le_refl _, Nat.le_refl _⟩, ?_⟩
    rw [y_seqR (z := .d (T7.num p q).d) (S1 := sx x2 b)]
    · rfl
    · rw [y_ifT ((i0 _).trans (by rw [decide_eq_true h0]))]
      exact y_ret (z_F [.str "num", .tup [.int p, .int q]] (z_cons (z_D rfl) (z_cons (e2 _ rfl) z_nil)) rfl)
  · rw [y_skip ((i0 _).trans (by rw [decide_eq_false h0]))]
    by_cases h8 : r = 8 ∧ ws ≠ []
    · obtain ⟨h8, hne⟩ := h8
      have lw : 0 < ws.length := List.length_pos_iff.mpr hne
      obtain ⟨k, x2, k0, k1, e2⟩ := hp (ws.length : Int) x1 (by omega) (by omega)
      obtain ⟨j, rfl⟩ := Int.eq_ofNat_of_zero_le k0
      have jl : j < ws.length := by omega
      refine ⟨.at ws[j], x2, ⟨hw _ (List.getElem_mem _), Nat.le_refl _, Nat.le_refl _⟩, ?_⟩
      rw [y_seqR (z := .d (T7.at ws[j]).d) (S1 := sx x2 b)]
      · rfl
      · rw [y_ifT ((i8 _).trans (by rw [decide_eq_true h8, List.isEmpty_eq_false_iff.mpr hne]; rfl))]
        have ea : zZ Zp (zCons (zV 0) (zCons (zD (dA lenD (aCons (dV 1) aNil))) zNil)) [some (.loc 0), some (.d (wd ws)), some (.d (.int r)), none] (sx x1 b) = .ok (.d (.int (j : Int))) (sx x2 b) := z_Z (z_cons rfl (z_cons (z_D (d := .int (ws.length : Int)) (by show lenD [wd ws] = _; show R.ok (D.int ((ws.map D.str).length : Int)) = _; rw [List.length_map])) z_nil)) e2
        refine y_ret (z_F [.str "at", .str ws[j]] (z_cons (z_D rfl) (z_cons (z_2 (u := wd ws) (z_D rfl) ea ?_) z_nil)) rfl)
        show (match L2.atI (ws.map D.str) (j : Int) with | some d => R.ok d | none => .bad) = _
        rw [atI_nat (show (ws.map D.str)[j]? = some (.str ws[j]) by rw [List.getElem?_map, List.getElem?_eq_getElem jl]; rfl)]
    · rw [y_skip ((i8 _).trans (by
        congr 1
        by_cases z : r = 8
        · have : ws = [] := Classical.byContradiction fun w => h8 ⟨z, w⟩
          rw [this]; simp
        · rw [decide_eq_false z]; rfl))]
      by_cases hi : r = 1 ∨ r = 2 ∨ r = 8 ∨ r = 9
      · refine ⟨.here, x1, ⟨trivial, Nat.le_refl _, Nat.le_refl _⟩, ?_⟩
        rw [y_seqR (z := .d T7.here.d) (S1 := sx x1 b)]
        · rfl
        · rw [y_ifT ((ii _).trans (by rw [decide_eq_true hi]))]
          exact y_ret (z_D rfl)
      · rw [y_skip ((ii _).trans (by rw [decide_eq_false hi]))]
        obtain ⟨f, x2, f0, f1, e2⟩ := pk hp 3 x1 (by decide) (by decide)
        rw [y_seq (y_set (z := .d (.int (1 + f))) (z_2 (z_D rfl) (e2 _ rfl) rfl) (Nat.le_of_ble_eq_true rfl))]
        have last : ∃ (n x3 : Int), 0 ≤ n ∧ yIf (zB (b1 tB (d2 eqSD (dV 3) (dC (.int 3))))) (ySet 3 (z2 addD (zD (dC (.int 1))) (zZ Zp (zCons (zV 0) (zCons (zD (dC (.int 9))) zNil))))) yNil [some (.loc 0), some (.d (wd ws)), some (.d (.int r)), some (.d (.int (1 + f)))] (sx x2 b) = .nx [some (.loc 0), some (.d (wd ws)), some (.d (.int r)), some (.d (.int n))] (sx x3 b) := by
          by_cases h3 : 1 + f = 3
          · obtain ⟨g, x3, g0, g1, e3⟩ := pk hp 9 x2 (by decide) (by decide)
            refine ⟨1 + g, x3, by omega, ?_⟩
            rw [y_ifT (z_B (d := true) (by show (R.ok (decide (1 + f = 3)) : R Bool) = _; rw [decide_eq_true h3]))]
            exact y_set (z_2 (z_D rfl) (e3 _ rfl) rfl) (Nat.le_of_ble_eq_true rfl)
          · refine ⟨1 + f, x2, by omega, ?_⟩
            rw [y_ifF (z_B (d := false) (by show (R.ok (decide (1 + f = 3)) : R Bool) = _; rw [decide_eq_false h3]))]
            rfl
        obtain ⟨n, x3, n0, e3⟩ := last
        show ∃ (t : T7) (x' : Int), Gd 0 1 t ∧ finZ (ySeq _ _ [some (.loc 0), some (.d (wd ws)), some (.d (.int r)), some (.d (.int (1 + f)))] (sx x2 b)) = _
        rw [y_seq e3]
        have hk : r = 3 ∨ r = 4 ∨ r = 5 ∨ r = 6 ∨ r = 7 := by omega
        rcases hk with rfl | rfl | rfl | rfl | rfl
        · exact ⟨.far .back n, x3, ⟨n0, Nat.le_refl _, Nat.le_refl _⟩, by kernel_rfl⟩
        · exact ⟨.far .back n, x3, ⟨n0, Nat.le_refl _, Nat.le_refl _⟩, by kernel_rfl⟩
        · exact ⟨.far .on n, x3, ⟨n0, Nat.le_refl _, Nat.le_refl _⟩, by kernel_rfl⟩
        · exact ⟨.far .ago n, x3, ⟨n0, Nat.le_refl _, Nat.le_refl _⟩, by kernel_rfl⟩
        · exact ⟨.far .til n, x3, ⟨n0, Nat.le_refl _, Nat.le_refl _⟩, by kernel_rfl⟩
theorem gd_bin {n k : Nat} {l r : T7} (q : Bq) (hl : Gd n k l) (hr : Gd n k r) : Gd (n + 1) (2 * k + 1) (.bin q l r) :=
  ⟨⟨hl.ok, hr.ok⟩, by show max l.dep r.dep + 1 ≤ n + 1; have := hl.dep; have := hr.dep; omega, by show (l.parts ++ r.parts).length + 1 ≤ _; rw [List.length_append]; have := hl.sz; have := hr.sz; omega⟩
theorem Gd.up {n k m j : Nat} {t : T7} (h : Gd n k t) (h1 : n ≤ m) (h2 : k ≤ j) : Gd m j t := ⟨h.ok, Nat.le_trans h.dep h1, Nat.le_trans h.sz h2⟩
theorem m_sum (hp : Pk Zp b) (hl : Lw Fl) (ht : Gv Zt b ws 0 1) : Gv (fun zs S => finZ (g_law_sum a Fl Zp Zt S.length (startZ 5 zs) S)) b ws 2 4 := by
  intro x
  obtain ⟨r, x1, r0, r1, e1⟩ := pk hp 6 x (by decide) (by decide)
  obtain ⟨t, x2, gt, e2⟩ := gv ht x1
  dsimp only
  unfold g_law_sum
  show ∃ (t' : T7) (x' : Int), Gd 2 4 t' ∧ finZ (ySeq _ _ [some (.loc 0), some (.d (wd ws)), none, none, none] (sx x b)) = _
  rw [y_seq (y_set (e1 _ rfl) (Nat.le_of_ble_eq_true rfl)), y_seq (y_set (e2 _ rfl rfl) (Nat.le_of_ble_eq_true rfl))]
  show ∃ (t' : T7) (x' : Int), Gd 2 4 t' ∧ finZ (ySeq (yIf _ _ _) _ [some (.loc 0), some (.d (wd ws)), some (.d (.int r)), some (.d t.d), none] (sx x2 b)) = _
  by_cases h3 : r = 3
  · obtain ⟨p, q, x3, e3⟩ := low2 hp hl 4 3 x2 (by decide) (by decide)
    refine ⟨.times p q t, x3, ⟨gt.ok, by show t.dep + 1 ≤ 2; have := gt.dep; omega, by show t.parts.length + 1 ≤ 4; have := gt.sz; omega⟩, ?_⟩
    rw [y_seqR (z := .d (T7.times p q t).d) (S1 := sx x3 b)]
    · rfl
    · rw [y_ifT (z_B (d := true) (by show (R.ok (decide (r = 3)) : R Bool) = _; rw [decide_eq_true h3]))]
      exact y_ret (z_F [.str "times", .tup [.int p, .int q], t.d] (z_cons (z_D rfl) (z_cons (e3 _ rfl) (z_cons (z_D rfl) z_nil))) rfl)
  · rw [y_skip (z_B (d := false) (by show (R.ok (decide (r = 3)) : R Bool) = _; rw [decide_eq_false h3]))]
    by_cases h4 : 3 < r
    · refine ⟨t, x2, gt.up (by decide) (by decide), ?_⟩
      rw [y_seqR (z := .d t.d) (S1 := sx x2 b)]
      · rfl
      · rw [y_ifT (z_B (d := true) (by show (R.ok (decide (r > 3)) : R Bool) = _; rw [decide_eq_true h4]))]
        exact y_ret (z_D rfl)
    · rw [y_skip (z_B (d := false) (by show (R.ok (decide (r > 3)) : R Bool) = _; rw [decide_eq_false h4]))]
      obtain ⟨u, x3, gu, e3⟩ := gv ht x2
      rw [y_seq (y_set (e3 _ rfl rfl) (Nat.le_of_ble_eq_true rfl))]
      show ∃ (t' : T7) (x' : Int), Gd 2 4 t' ∧ finZ (ySeq (yIf _ _ _) _ [some (.loc 0), some (.d (wd ws)), some (.d (.int r)), some (.d t.d), some (.d u.d)] (sx x3 b)) = _
      have hk : r = 0 ∨ r = 1 ∨ r = 2 := by omega
      rcases hk with rfl | rfl | rfl
      · have gb := gd_bin .sub gt gu
        exact ⟨.abs (.bin .sub t u), x3, ⟨gb.ok, by show (T7.bin .sub t u).dep + 1 ≤ 2; have := gb.dep; omega, by show (T7.bin .sub t u).parts.length + 1 ≤ 4; have := gb.sz; omega⟩, by kernel_rfl⟩
      · exact ⟨.bin .add t u, x3, (gd_bin .add gt gu).up (by decide) (by decide), by kernel_rfl⟩
      · exact ⟨.bin .sub t u, x3, (gd_bin .sub gt gu).up (by decide) (by decide), by kernel_rfl⟩
theorem m_compare (hp : Pk Zp b) (hl : Lw Fl) (hs : Gv Zs b ws 2 4) : Gv (fun zs S => finZ (g_law_compare a Fl Zp Zs S.length (startZ 4 zs) S)) b ws 3 9 := by
  intro x
  obtain ⟨r, x1, r0, r1, e1⟩ := pk hp 3 x (by decide) (by decide)
  obtain ⟨t, x2, gt, e2⟩ := gv hs x1
  obtain ⟨k, x3, k0, k1, e3⟩ := pk hp 2 x2 (by decide) (by decide)
  have hk : ∃ q : Bq, ixD (.lst [.str "<", .str "<", .str "="]) (.int r) = .ok (.str q.s) := by
    have : r = 0 ∨ r = 1 ∨ r = 2 := by omega
    rcases this with rfl | rfl | rfl
    · exact ⟨.lt, rfl⟩
    · exact ⟨.lt, rfl⟩
    · exact ⟨.eq, rfl⟩
  obtain ⟨q, hq⟩ := hk
  dsimp only
  unfold g_law_compare
  show ∃ (t' : T7) (x' : Int), Gd 3 9 t' ∧ finZ (ySeq _ _ [some (.loc 0), some (.d (wd ws)), none, none] (sx x b)) = _
  rw [y_seq (y_set (z_2 (z_D (d := .lst [.str "<", .str "<", .str "="]) rfl) (e1 _ rfl) hq) (Nat.le_of_ble_eq_true rfl)), y_seq (y_set (e2 _ rfl rfl) (Nat.le_of_ble_eq_true rfl))]
  show ∃ (t' : T7) (x' : Int), Gd 3 9 t' ∧ finZ (ySeq (yIf _ _ _) _ [some (.loc 0), some (.d (wd ws)), some (.d (.str q.s)), some (.d t.d)] (sx x2 b)) = _
  have tst : zTst tB (z2 eqSD (zZ Zp (zCons (zV 0) (zCons (zD (dC (.int 2))) zNil))) (zD (dC (.int 0)))) [some (.loc 0), some (.d (wd ws)), some (.d (.str q.s)), some (.d t.d)] (sx x2 b) = .ok (decide (k = 0)) (sx x3 b) := z_tst (z_2 (e3 _ rfl) (z_D rfl) rfl) rfl
  by_cases h0 : k = 0
  · obtain ⟨p, s, x4, e4⟩ := low2 hp hl 6 2 x3 (by decide) (by decide)
    have gn : Gd 2 4 (T7.num p s) := ⟨trivial, by show 0 ≤ 2; decide, by show 1 ≤ 4; decide⟩
    refine ⟨.bin q t (.num p s), x4, gd_bin q gt gn, ?_⟩
    rw [y_seqR (z := .d (T7.bin q t (.num p s)).d) (S1 := sx x4 b)]
    · rfl
    · rw [y_ifT (tst.trans (by rw [decide_eq_true h0]))]
      exact y_ret (z_F [.str q.s, t.d, .tup [.str "num", .tup [.int p, .int s]]] (z_cons (z_D rfl) (z_cons (z_D rfl) (z_cons (z_F [.str "num", .tup [.int p, .int s]] (z_cons (z_D rfl) (z_cons (e4 _ rfl) z_nil)) rfl) z_nil))) rfl)
  · rw [y_skip (tst.trans (by rw [decide_eq_false h0]))]
    obtain ⟨u, x4, gu, e4⟩ := gv hs x3
    refine ⟨.bin q t u, x4, gd_bin q gt gu, ?_⟩
    rw [y_ret (z_F [.str q.s, t.d, u.d] (z_cons (z_D rfl) (z_cons (z_D rfl) (z_cons (e4 _ rfl rfl) z_nil))) rfl)]
    rfl
theorem m_cond (hp : Pk Zp b) (hc : Gv Zc b ws 3 9) : Gv (fun zs S => finZ (g_law_condition a Zp Zc S.length (startZ 4 zs) S)) b ws 4 19 := by
  intro x
  obtain ⟨r, x1, r0, r1, e1⟩ := pk hp 6 x (by decide) (by decide)
  obtain ⟨t, x2, gt, e2⟩ := gv hc x1
  dsimp only
  unfold g_law_condition
  show ∃ (t' : T7) (x' : Int), Gd 4 19 t' ∧ finZ (ySeq _ _ [some (.loc 0), some (.d (wd ws)), none, none] (sx x b)) = _
  rw [y_seq (y_set (e1 _ rfl) (Nat.le_of_ble_eq_true rfl)), y_seq (y_set (e2 _ rfl rfl) (Nat.le_of_ble_eq_true rfl))]
  show ∃ (t' : T7) (x' : Int), Gd 4 19 t' ∧ finZ (ySeq (yIf _ _ _) _ [some (.loc 0), some (.d (wd ws)), some (.d (.int r)), some (.d t.d)] (sx x2 b)) = _
  by_cases h3 : r < 3
  · refine ⟨t, x2, gt.up (by decide) (by decide), ?_⟩
    rw [y_seqR (z := .d t.d) (S1 := sx x2 b)]
    · rfl
    · rw [y_ifT (z_B (d := true) (by show (R.ok (decide (r < 3)) : R Bool) = _; rw [decide_eq_true h3]))]
      exact y_ret (z_D rfl)
  · rw [y_skip (z_B (d := false) (by show (R.ok (decide (r < 3)) : R Bool) = _; rw [decide_eq_false h3]))]
    by_cases h4 : r = 3
    · refine ⟨.not t, x2, ⟨gt.ok, by show t.dep + 1 ≤ 4; have := gt.dep; omega, by show t.parts.length + 1 ≤ 19; have := gt.sz; omega⟩, ?_⟩
      rw [y_seqR (z := .d (T7.not t).d) (S1 := sx x2 b)]
      · rfl
      · rw [y_ifT (z_B (d := true) (by show (R.ok (decide (r = 3)) : R Bool) = _; rw [decide_eq_true h4]))]
        exact y_ret (z_D rfl)
    · rw [y_skip (z_B (d := false) (by show (R.ok (decide (r = 3)) : R Bool) = _; rw [decide_eq_false h4]))]
      obtain ⟨u, x3, gu, e3⟩ := gv hc x2
      have hk : ∃ q : Bq, ∀ S : Sto, zD (d2 ixD (asN (fun ρ => ((aCons (dC (.str "and")) (aCons (dC (.str "or")) aNil)) ρ).bind fitL)) (d2 subD (dV 2) (dC (.int 4)))) [some (.loc 0), some (.d (wd ws)), some (.d (.int r)), some (.d t.d)] S = .ok (.d (.str q.s)) S := by
        have : r = 4 ∨ r = 5 := by omega
        rcases this with rfl | rfl
        · exact ⟨.and, fun S => z_D rfl⟩
        · exact ⟨.or, fun S => z_D rfl⟩
      obtain ⟨q, hq⟩ := hk
      refine ⟨.bin q t u, x3, gd_bin q gt gu, ?_⟩
      rw [y_ret (z_F [.str q.s, t.d, u.d] (z_cons (hq _) (z_cons (z_D rfl) (z_cons (e3 _ rfl rfl) z_nil))) rfl)]
      rfl
end
end W72
namespace WP
open PySem L2 P2 TM T2 PySem.NumText
local macro_rules | `(tactic| walk_at "den") => `(tactic| try simp (disch := first | assumption | decide | exact Nat.le_of_ble_eq_true rfl) only [q_bind_k, q_bind_x, q_bind_b, q_toS_k, q_toS_x, q_toS_b, q_seq_n, q_seq_r, q_seq_x, q_seq_b, q_turn_n, q_turn_c, q_turn_k, q_turn_r, q_turn_b, q_turn_x, q_fin_r, q_fin_n, q_fin_x, q_noEx_k, q_okO_k, q_ofO_s, q_sSeq_a, q_sNil_a, q_sRet_a, q_sExpr_a, q_sSet_a, q_sIf_a, q_dC_a, q_d1_a, q_d2_a, q_b1B_a, q_b1T_a, q_bAnd_a, q_bOr_a, q_bNot_a, q_dAnd_a, q_dOr_a, q_dOrV_a, q_dNot_a, q_dIf_a, q_dA_a, q_aNil_a, q_aCons_a, q_asN_a, q_dMt_a, q_dSl_a, q_dComp_a, q_sFor_a, q_sOwn_a, q_sPar_a, q_app3, q_app4, q_frz3, q_frz4, q_min_i, q_rng1_p, q_toO_s, q_gV_a, q_tB_b, q_tT_b, q_tT_i, q_tT_n, q_tT_l, q_tT_t, q_add_i, q_sub_i, q_fdiv_p, q_mod_p, q_lt_i, q_le_i, q_gt_i, q_ge_i, q_neg_i, q_eq_i, q_eq_s, q_eq_b, q_ne_i, q_ne_s, q_in_s, q_ix_l, q_ix_t, q_ix_s, q_sl_l, q_sl_s, q_pI_i, q_len_s, q_len_l, q_len_t, q_abs_i, q_max_i, q_int_s, q_all_l, q_any_l, q_st_s, q_zf_s, q_hs_s, q_fit_p, q_add_sp, q_add_lp, q_mkT_p, q_asI_l, q_asI_t, q_asI_s, q_fmt_s, q_jNil_a, q_jCons_k, q_isX_i, q_isX_b, q_isX_s, q_isX_t, q_isX_l, q_slW_l, q_slW_s, q_is_bb, q_isn_bb, q_is_nn, q_isn_nn, q_is_tn, q_isn_tn, q_v0, q_v1, q_v2, q_v3, q_v4, q_v5, q_v6, q_v7, q_v8, q_v9, q_v10, q_v11, q_v12, q_v13, startD, List.map_cons, List.map_nil, List.length_cons, List.length_nil, Nat.sub_self, Nat.reduceAdd, Nat.reduceSub, List.replicate_zero, List.replicate_succ, List.append_nil, List.nil_append, List.cons_append, List.set_cons_zero, List.set_cons_succ, if_true, if_false, Nat.reduceLT, Nat.zero_lt_succ, Bool.not_true, Bool.not_false, Bool.false_eq_true, reduceIte, decide_true, decide_false, Int.reduceLT, Int.reduceEq, Int.reduceNeg, Int.reducePow, Int.reduceSub, Int.reduceAdd, Int.reduceMul,  List.length_set])
variable {a : Ad}
noncomputable abbrev Ck.k (c : Ck) : D := .tup [.str c.m, .int c.t]
section
variable {Fm Ft Fs : List D → R D} (hm : ∀ c k : Int, 0 ≤ k ∧ k ≤ 1000 → Fm [.int c, .int k] = .ok (.int (mixZ c k))) (ht : ∀ c near : Int, Ft [.int c, .int near] = .ok (.int (timeZ c near))) (hs : ∀ c : Int, ∃ p q, FOk p q ∧ Fs [.int c] = .ok (pr p q))
include hm ht hs
end
section
variable (m : Str) (t : Int) (c : Ck) (s2 s6 s7 : Sl)
end
end WP
namespace WP
open PySem L2 P2 TM T2 PySem.NumText
local macro_rules | `(tactic| walk_at "den") => `(tactic| try simp (disch := first | assumption | decide | exact Nat.le_of_ble_eq_true rfl) only [q_bind_k, q_bind_x, q_bind_b, q_toS_k, q_toS_x, q_toS_b, q_seq_n, q_seq_r, q_seq_x, q_seq_b, q_turn_n, q_turn_c, q_turn_k, q_turn_r, q_turn_b, q_turn_x, q_fin_r, q_fin_n, q_fin_x, q_noEx_k, q_okO_k, q_ofO_s, q_sSeq_a, q_sNil_a, q_sRet_a, q_sExpr_a, q_sSet_a, q_sIf_a, q_dC_a, q_d1_a, q_d2_a, q_b1B_a, q_b1T_a, q_bAnd_a, q_bOr_a, q_bNot_a, q_dAnd_a, q_dOr_a, q_dOrV_a, q_dNot_a, q_dIf_a, q_dA_a, q_aNil_a, q_aCons_a, q_asN_a, q_dMt_a, q_dSl_a, q_dComp_a, q_sFor_a, q_sOwn_a, q_sPar_a, q_app3, q_app4, q_frz3, q_frz4, q_min_i, q_rng1_p, q_toO_s, q_gV_a, q_tB_b, q_tT_b, q_tT_i, q_tT_n, q_tT_l, q_tT_t, q_add_i, q_sub_i, q_fdiv_p, q_mod_p, q_lt_i, q_le_i, q_gt_i, q_ge_i, q_neg_i, q_eq_i, q_eq_s, q_eq_b, q_ne_i, q_ne_s, q_in_s, q_ix_l, q_ix_t, q_ix_s, q_sl_l, q_sl_s, q_pI_i, q_len_s, q_len_l, q_len_t, q_abs_i, q_max_i, q_int_s, q_all_l, q_any_l, q_st_s, q_zf_s, q_hs_s, q_fit_p, q_add_sp, q_add_lp, q_mkT_p, q_asI_l, q_asI_t, q_asI_s, q_fmt_s, q_jNil_a, q_jCons_k, q_isX_i, q_isX_b, q_isX_s, q_isX_t, q_isX_l, q_slW_l, q_slW_s, q_is_bb, q_isn_bb, q_is_nn, q_isn_nn, q_is_tn, q_isn_tn, q_v0, q_v1, q_v2, q_v3, q_v4, q_v5, q_v6, q_v7, q_v8, q_v9, q_v10, q_v11, q_v12, q_v13, startD, List.map_cons, List.map_nil, List.length_cons, List.length_nil, Nat.sub_self, Nat.reduceAdd, Nat.reduceSub, List.replicate_zero, List.replicate_succ, List.append_nil, List.nil_append, List.cons_append, List.set_cons_zero, List.set_cons_succ, if_true, if_false, Nat.reduceLT, Nat.zero_lt_succ, Bool.not_true, Bool.not_false, Bool.false_eq_true, reduceIte, decide_true, decide_false, Int.reduceLT, Int.reduceEq, Int.reduceNeg, Int.reducePow, Int.reduceSub, Int.reduceAdd, Int.reduceMul,  List.length_set])
variable {a : Ad}
structure Ut where
  m : Str
  t : Int
  p : Int
  q : Int
  x : Int
  y : Int
noncomputable abbrev Ut.d (u : Ut) : D := .tup [.str u.m, .int u.t, pr u.p u.q, pr u.x u.y]
structure Ut.Good (u : Ut) : Prop where
  f : FOk u.p u.q
  n : u.p ≠ 0
  s : FOk u.x u.y
structure Ut.Ok (u : Ut) : Prop extends u.Good where
  t : 0 ≤ u.t ∧ u.t ≤ 1000000000
  o : PyData.strOk u.m = true
noncomputable def pickU (L : List Ut) (m : Str) (t : Int) : Option Ut := CK.maxC (fun u => u.t) (L.filter fun u => decide (u.m = m) && decide (u.t ≤ t))
noncomputable def unitOf (L : List Ut) (m : Str) (t : Int) : Ut := (pickU L m t).getD ⟨m, t, 1, 1, 0, 1⟩
structure Us (a : Ad) (Fc Ff Fm Fx Fp Fo : List D → R D) : Prop where
  c : ∀ (L : List Ut) (m : Str) (t : Int), L.length ≤ 1000 → Fc [.str m, .int t, .lst (L.map Ut.d)] = .ok (unitOf L m t).d
  f : ∀ t b : Int, b ≠ 0 → b.natAbs < 10 ^ 400 → Ff [.int t, .int b] = .ok (fr t b)
  m : ∀ p q x y : Int, Sz 190 p → Sz 190 q → Sz 190 x → Sz 190 y → q ≠ 0 → y ≠ 0 → Fm [pr p q, pr x y] = .ok (fr (p * y - x * q) (q * y))
  x : ∀ p q x y : Int, Sz 190 p → Sz 190 q → Sz 190 x → Sz 190 y → q ≠ 0 → y ≠ 0 → Fx [pr p q, pr x y] = .ok (fr (p * x) (q * y))
  p : ∀ p q x y : Int, Sz 190 p → Sz 190 q → Sz 190 x → Sz 190 y → q ≠ 0 → y ≠ 0 → Fp [pr p q, pr x y] = .ok (fr (p * y + x * q) (q * y))
  o : ∀ p q x y : Int, Sz 190 p → Sz 190 q → Sz 190 x → Sz 190 y → q ≠ 0 → x ≠ 0 → Fo [pr p q, pr x y] = .ok (fr (p * y) (q * x))
section
variable {Fc Ff Fm Fx Fp Fo : List D → R D} (U : Us a Fc Ff Fm Fx Fp Fo)
include U
end
end WP
namespace P2
open PySem L2
end P2
namespace WP
open PySem L2 P2 TM T2 PySem.NumText
local macro_rules | `(tactic| walk_at "den") => `(tactic| try simp (disch := first | assumption | decide | exact Nat.le_of_ble_eq_true rfl) only [q_bind_k, q_bind_x, q_bind_b, q_toS_k, q_toS_x, q_toS_b, q_seq_n, q_seq_r, q_seq_x, q_seq_b, q_turn_n, q_turn_c, q_turn_k, q_turn_r, q_turn_b, q_turn_x, q_fin_r, q_fin_n, q_fin_x, q_noEx_k, q_okO_k, q_ofO_s, q_sSeq_a, q_sNil_a, q_sRet_a, q_sExpr_a, q_sSet_a, q_sIf_a, q_dC_a, q_d1_a, q_d2_a, q_b1B_a, q_b1T_a, q_bAnd_a, q_bOr_a, q_bNot_a, q_dAnd_a, q_dOr_a, q_dOrV_a, q_dNot_a, q_dIf_a, q_dA_a, q_aNil_a, q_aCons_a, q_asN_a, q_dMt_a, q_dSl_a, q_dComp_a, q_sFor_a, q_sOwn_a, q_sPar_a, q_app3, q_app4, q_frz3, q_frz4, q_min_i, q_rng1_p, q_toO_s, q_gV_a, q_tB_b, q_tT_b, q_tT_i, q_tT_n, q_tT_l, q_tT_t, q_add_i, q_sub_i, q_fdiv_p, q_mod_p, q_lt_i, q_le_i, q_gt_i, q_ge_i, q_neg_i, q_eq_i, q_eq_s, q_eq_b, q_ne_i, q_ne_s, q_in_s, q_ix_l, q_ix_t, q_ix_s, q_sl_l, q_sl_s, q_pI_i, q_len_s, q_len_l, q_len_t, q_abs_i, q_max_i, q_int_s, q_all_l, q_any_l, q_st_s, q_zf_s, q_hs_s, q_fit_p, q_add_sp, q_add_lp, q_mkT_p, q_asI_l, q_asI_t, q_asI_s, q_fmt_s, q_jNil_a, q_jCons_k, q_isX_i, q_isX_b, q_isX_s, q_isX_t, q_isX_l, q_slW_l, q_slW_s, q_is_bb, q_isn_bb, q_is_nn, q_isn_nn, q_is_tn, q_isn_tn, q_v0, q_v1, q_v2, q_v3, q_v4, q_v5, q_v6, q_v7, q_v8, q_v9, q_v10, q_v11, q_v12, q_v13, startD, List.map_cons, List.map_nil, List.length_cons, List.length_nil, Nat.sub_self, Nat.reduceAdd, Nat.reduceSub, List.replicate_zero, List.replicate_succ, List.append_nil, List.nil_append, List.cons_append, List.set_cons_zero, List.set_cons_succ, if_true, if_false, Nat.reduceLT, Nat.zero_lt_succ, Bool.not_true, Bool.not_false, Bool.false_eq_true, reduceIte, decide_true, decide_false, Int.reduceLT, Int.reduceEq, Int.reduceNeg, Int.reducePow, Int.reduceSub, Int.reduceAdd, Int.reduceMul,  List.length_set])
variable {a : Ad}
noncomputable abbrev Ut.k (u : Ut) : D := .tup [.str u.m, .int u.t]
section
variable {Fm Ft Fs : List D → R D} (hm : ∀ c k : Int, 0 ≤ k ∧ k ≤ 1000 → Fm [.int c, .int k] = .ok (.int (mixZ c k))) (ht : ∀ c near : Int, Ft [.int c, .int near] = .ok (.int (timeZ c near))) (hs : ∀ c : Int, ∃ p q, FOk p q ∧ Fs [.int c] = .ok (pr p q))
include hm ht hs
end
noncomputable def bT (o : Option Ut) : Int := match o with
  | some u => u.t
  | none => -1
end WP
namespace P2
open PySem L2
end P2
namespace WP
open PySem L2 P2 TM PySem.NumText
local macro_rules | `(tactic| walk_at "den") => `(tactic| try simp (disch := first | assumption | decide | exact Nat.le_of_ble_eq_true rfl) only [q_bind_k, q_bind_x, q_bind_b, q_toS_k, q_toS_x, q_toS_b, q_seq_n, q_seq_r, q_seq_x, q_seq_b, q_turn_n, q_turn_c, q_turn_k, q_turn_r, q_turn_b, q_turn_x, q_fin_r, q_fin_n, q_fin_x, q_noEx_k, q_okO_k, q_ofO_s, q_sSeq_a, q_sNil_a, q_sRet_a, q_sExpr_a, q_sSet_a, q_sIf_a, q_dC_a, q_d1_a, q_d2_a, q_b1B_a, q_b1T_a, q_bAnd_a, q_bOr_a, q_bNot_a, q_dAnd_a, q_dOr_a, q_dOrV_a, q_dNot_a, q_dIf_a, q_dA_a, q_aNil_a, q_aCons_a, q_asN_a, q_dMt_a, q_dSl_a, q_dComp_a, q_sFor_a, q_sOwn_a, q_sPar_a, q_app3, q_app4, q_frz3, q_frz4, q_min_i, q_rng1_p, q_toO_s, q_gV_a, q_tB_b, q_tT_b, q_tT_i, q_tT_n, q_tT_l, q_tT_t, q_add_i, q_sub_i, q_fdiv_p, q_mod_p, q_lt_i, q_le_i, q_gt_i, q_ge_i, q_neg_i, q_eq_i, q_eq_s, q_eq_b, q_ne_i, q_ne_s, q_in_s, q_ix_l, q_ix_t, q_ix_s, q_sl_l, q_sl_s, q_pI_i, q_len_s, q_len_l, q_len_t, q_abs_i, q_max_i, q_int_s, q_all_l, q_any_l, q_st_s, q_zf_s, q_hs_s, q_fit_p, q_add_sp, q_add_lp, q_mkT_p, q_asI_l, q_asI_t, q_asI_s, q_fmt_s, q_jNil_a, q_jCons_k, q_isX_i, q_isX_b, q_isX_s, q_isX_t, q_isX_l, q_slW_l, q_slW_s, q_is_bb, q_isn_bb, q_is_nn, q_isn_nn, q_is_tn, q_isn_tn, q_v0, q_v1, q_v2, q_v3, q_v4, q_v5, q_v6, q_v7, q_v8, q_v9, q_v10, q_v11, q_v12, q_v13, startD, List.map_cons, List.map_nil, List.length_cons, List.length_nil, Nat.sub_self, Nat.reduceAdd, Nat.reduceSub, List.replicate_zero, List.replicate_succ, List.append_nil, List.nil_append, List.cons_append, List.set_cons_zero, List.set_cons_succ, if_true, if_false, Nat.reduceLT, Nat.zero_lt_succ, Bool.not_true, Bool.not_false, Bool.false_eq_true, reduceIte, decide_true, decide_false, Int.reduceLT, Int.reduceEq, Int.reduceNeg, Int.reducePow, Int.reduceSub, Int.reduceAdd, Int.reduceMul,  List.length_set])
variable {a : Ad}
theorem t1 (cells : List Int) (ρ : Ev) (v3 : dV 3 ρ = .ok (.lst (cells.map D.int))) : (aCons (dV 3) aNil) ρ = .ok [.lst (cells.map D.int)] := by
  show ((dV 3 ρ).bind fun x => (R.ok []).bind fun xs => R.ok (x :: xs)) = _
  rw [v3]; rfl
theorem t2 (cells : List Int) (ρ : Ev) (v3 : dV 3 ρ = .ok (.lst (cells.map D.int))) : (dA lenD (aCons (dV 3) aNil)) ρ = .ok (.int (cells.length : Int)) := by
  show ((aCons (dV 3) aNil) ρ).bind lenD = _
  rw [t1 cells ρ v3, R.bind_ok, q_len_l, List.length_map]
theorem t3 (cells : List Int) (ρ : Ev) (rr : List D → R (List D)) (n : List D) (v3 : dV 3 ρ = .ok (.lst (cells.map D.int))) (rn : rr [.int (cells.length : Int)] = .ok n) : ((aCons (dA lenD (aCons (dV 3) aNil)) aNil) ρ).bind rr = .ok n := by
  have e : (aCons (dA lenD (aCons (dV 3) aNil)) aNil) ρ = .ok [.int (cells.length : Int)] := by
    show ((dA lenD (aCons (dV 3) aNil) ρ).bind fun x => (R.ok []).bind fun xs => R.ok (x :: xs)) = _
    rw [t2 cells ρ v3]; rfl
  rw [e, R.bind_ok]; exact rn
theorem words {Fc Fw : List D → R D} {ns : List Int} {x0 : Int} (c0 : Fc [.lst (ns.map .int), .int 0] = .ok (.int x0)) (hw : ∀ c k : Int, 0 ≤ k ∧ k < 26 → ∃ z, PyData.strOk z = true ∧ z.length ≤ 20 ∧ Fw [.int c, .int k] = .ok (.str z)) :
    ∃ w0 w1 w2, PyData.strOk w0 = true ∧ PyData.strOk w1 = true ∧ PyData.strOk w2 = true ∧ ∀ ρ : Ev, ρ[0]? = some (.sh (.lst (ns.map .int))) →
      (asN (dComp (fun ρ => ((aCons (dC (.int 3)) aNil) ρ).bind rng1) 1 [0] (gV 0) (fun _ => .ok true) (dA Fw (aCons (dA Fc (aCons (dV 1) (aCons (dC (.int 0)) aNil))) (aCons (dV 0) aNil))))) ρ = .ok (.lst [.str w0, .str w1, .str w2]) := by
  obtain ⟨w0, a0, b0, e0⟩ := hw x0 0 (by decide)
  obtain ⟨w1, a1, b1', e1⟩ := hw x0 1 (by decide)
  obtain ⟨w2, a2, b2', e2⟩ := hw x0 2 (by decide)
  refine ⟨w0, w1, w2, a0, a1, a2, fun ρ h0 => ?_⟩
  have r3 : rng1 [.int 3] = .ok [.int 0, .int 1, .int 2] := rfl
  have l3 : ([D.int 0, D.int 1, D.int 2] : List D).length ≤ sizeLine := by show 3 ≤ sizeLine; decide
  have cw : compO (gV 0) (fun _ => .ok true) (dA Fw (aCons (dA Fc (aCons (dV 1) (aCons (dC (.int 0)) aNil))) (aCons (dV 0) aNil))) (capD 1 [0] ρ) [.int 0, .int 1, .int 2] = some [.str w0, .str w1, .str w2] := by
    have st : ∀ (k : Int) (z : Str), Fw [.int x0, .int k] = .ok (.str z) → (dA Fw (aCons (dA Fc (aCons (dV 1) (aCons (dC (.int 0)) aNil))) (aCons (dV 0) aNil))) [.sh (.int k), .sh (.lst (ns.map .int))] = .ok (.str z) := fun k z h => by
      iterate 4 (walk_at "den"; try simp only [c0, h])
    have s0 := st 0 w0 e0
    have s1 := st 1 w1 e1
    have s2 := st 2 w2 e2
    have cons : ∀ (d o : D) (r out : List D), (dA Fw (aCons (dA Fc (aCons (dV 1) (aCons (dC (.int 0)) aNil))) (aCons (dV 0) aNil))) [.sh d, .sh (.lst (ns.map .int))] = .ok o → compO (gV 0) (fun _ => .ok true) (dA Fw (aCons (dA Fc (aCons (dV 1) (aCons (dC (.int 0)) aNil))) (aCons (dV 0) aNil))) [.no, .sh (.lst (ns.map .int))] r = some out →
        compO (gV 0) (fun _ => .ok true) (dA Fw (aCons (dA Fc (aCons (dV 1) (aCons (dC (.int 0)) aNil))) (aCons (dV 0) aNil))) [.no, .sh (.lst (ns.map .int))] (d :: r) = some (o :: out) := fun d o r out h1 h2 => by
      show ((okO ((dA Fw (aCons (dA Fc (aCons (dV 1) (aCons (dC (.int 0)) aNil))) (aCons (dV 0) aNil))) [.sh d, .sh (.lst (ns.map .int))])).bind fun v => (compO (gV 0) (fun _ => .ok true) (dA Fw (aCons (dA Fc (aCons (dV 1) (aCons (dC (.int 0)) aNil))) (aCons (dV 0) aNil))) [.no, .sh (.lst (ns.map .int))] r).bind fun vs => some (v :: vs)) = _
      rw [h1, h2]
      rfl
    have cp : capD 1 [0] ρ = [.no, .sh (.lst (ns.map .int))] := by
      unfold capD
      simp only [List.map_cons, List.map_nil, h0]
      rfl
    rw [cp]
    exact cons _ _ _ _ s0 (cons _ _ _ _ s1 (cons _ _ _ _ s2 rfl))
  show ((((R.ok [D.int 3]).bind rng1).bind fun ds => if ds.length ≤ sizeLine then ofO (compO (gV 0) (fun _ => .ok true) (dA Fw (aCons (dA Fc (aCons (dV 1) (aCons (dC (.int 0)) aNil))) (aCons (dV 0) aNil))) (capD 1 [0] ρ) ds) else .bad).bind fun ds => R.ok (D.lst ds)) = _
  rw [R.bind_ok, r3, R.bind_ok, if_pos l3, cw]
  rfl
noncomputable abbrev Ut.y' (c : Ut) : PyData := .tuple [.str c.m, .int c.t, .tuple [.int c.p, .int c.q], .tuple [.int c.x, .int c.y]]
end WP
namespace W72
open PySem L2 P2 WP TM T2 PySem.NumText
local macro_rules | `(tactic| walk_at "den") => `(tactic| try simp (disch := first | assumption | decide | exact Nat.le_of_ble_eq_true rfl) only [q_bind_k, q_bind_x, q_bind_b, q_toS_k, q_toS_x, q_toS_b, q_seq_n, q_seq_r, q_seq_x, q_seq_b, q_turn_n, q_turn_c, q_turn_k, q_turn_r, q_turn_b, q_turn_x, q_fin_r, q_fin_n, q_fin_x, q_noEx_k, q_okO_k, q_ofO_s, q_sSeq_a, q_sNil_a, q_sRet_a, q_sExpr_a, q_sSet_a, q_sIf_a, q_dC_a, q_d1_a, q_d2_a, q_b1B_a, q_b1T_a, q_bAnd_a, q_bOr_a, q_bNot_a, q_dAnd_a, q_dOr_a, q_dOrV_a, q_dNot_a, q_dIf_a, q_dA_a, q_aNil_a, q_aCons_a, q_asN_a, q_dMt_a, q_dSl_a, q_dComp_a, q_sFor_a, q_sOwn_a, q_sPar_a, q_app3, q_app4, q_frz3, q_frz4, q_min_i, q_rng1_p, q_toO_s, q_gV_a, q_tB_b, q_tT_b, q_tT_i, q_tT_n, q_tT_l, q_tT_t, q_add_i, q_sub_i, q_fdiv_p, q_mod_p, q_lt_i, q_le_i, q_gt_i, q_ge_i, q_neg_i, q_eq_i, q_eq_s, q_eq_b, q_ne_i, q_ne_s, q_in_s, q_ix_l, q_ix_t, q_ix_s, q_sl_l, q_sl_s, q_pI_i, q_len_s, q_len_l, q_len_t, q_abs_i, q_max_i, q_int_s, q_all_l, q_any_l, q_st_s, q_zf_s, q_hs_s, q_fit_p, q_add_sp, q_add_lp, q_mkT_p, q_asI_l, q_asI_t, q_asI_s, q_fmt_s, q_jNil_a, q_jCons_k, q_isX_i, q_isX_b, q_isX_s, q_isX_t, q_isX_l, q_slW_l, q_slW_s, q_is_bb, q_isn_bb, q_is_nn, q_isn_nn, q_is_tn, q_isn_tn, q_v0, q_v1, q_v2, q_v3, q_v4, q_v5, q_v6, q_v7, q_v8, q_v9, q_v10, q_v11, q_v12, q_v13, startD, List.map_cons, List.map_nil, List.length_cons, List.length_nil, Nat.sub_self, Nat.reduceAdd, Nat.reduceSub, List.replicate_zero, List.replicate_succ, List.append_nil, List.nil_append, List.cons_append, List.set_cons_zero, List.set_cons_succ, if_true, if_false, Nat.reduceLT, Nat.zero_lt_succ, Bool.not_true, Bool.not_false, Bool.false_eq_true, reduceIte, decide_true, decide_false, Int.reduceLT, Int.reduceEq, Int.reduceNeg, Int.reducePow, Int.reduceSub, Int.reduceAdd, Int.reduceMul,  List.length_set])
variable {a : Ad}
theorem parts_ok : ∀ {t : T7}, t.Ok → ∀ u ∈ t.parts, u.Ok
  | .num _ _, h, u, hu => by rw [List.mem_singleton.mp hu]; exact h
  | .at _, h, u, hu => by rw [List.mem_singleton.mp hu]; exact h
  | .here, h, u, hu => by rw [List.mem_singleton.mp hu]; exact h
  | .far _ _, h, u, hu => by rw [List.mem_singleton.mp hu]; exact h
  | .times p q t, h, u, hu => by
    rcases List.mem_cons.mp hu with rfl | hu
    · exact h
    · exact parts_ok (t := t) h u hu
  | .abs t, h, u, hu => by
    rcases List.mem_cons.mp hu with rfl | hu
    · exact h
    · exact parts_ok (t := t) h u hu
  | .not t, h, u, hu => by
    rcases List.mem_cons.mp hu with rfl | hu
    · exact h
    · exact parts_ok (t := t) h u hu
  | .bin k l r, h, u, hu => by
    rcases List.mem_cons.mp hu with rfl | hu
    · exact h
    · rcases List.mem_append.mp hu with hu | hu
      · exact parts_ok (t := l) h.1 u hu
      · exact parts_ok (t := r) h.2 u hu
noncomputable def Ask.Ok : Ask → Prop
  | .here => False
  | .back n => 0 ≤ n
  | .on n => 0 ≤ n
  | .at w => PyData.strOk w = true
theorem asks_ok {t : T7} (h : t.Ok) : ∀ x ∈ t.asks, x.Ok := by
  intro x hx
  obtain ⟨u, hu, e⟩ := List.mem_filterMap.mp hx
  have ou := parts_ok h u hu
  cases u with
  | far k n => cases k <;> (cases e; exact ou)
  | «at» w => cases e; exact ou
  | _ => cases e
theorem pls_nn {t : T7} (h : t.Ok) : ∀ n ∈ t.pls, 0 ≤ n := by
  intro n hn
  obtain ⟨x, hx, e⟩ := List.mem_filterMap.mp hn
  have ox := asks_ok h x hx
  cases x with
  | back m => cases e; exact ox
  | on m => cases e; exact ox
  | _ => cases e
theorem ne_nil {ds : List D} (h1 : okQs ds = true) (h2 : dpQs ds ≤ 59) : neDD (.lst ds) (.lst []) = .ok (.bl (!ds.isEmpty)) := by
  obtain ⟨r, e, h⟩ := eqv_dec (a := .lst ds) (b := .lst []) h1 rfl (by show dpQs ds + 1 ≤ 60; omega) (by decide)
  unfold neDD
  rw [e]
  cases ds with
  | nil => rw [h.mpr rfl]; rfl
  | cons w L =>
    have : r = false := by
      cases r with
      | false => rfl
      | true => cases h.mp rfl
    rw [this]; rfl
theorem okQs_all : ∀ {ds : List D}, (∀ d ∈ ds, okQ d = true ∧ dpQ d ≤ 50) → okQs ds = true ∧ dpQs ds ≤ 50
  | [], _ => ⟨rfl, Nat.zero_le _⟩
  | d :: r, h => by
    obtain ⟨i1, i2⟩ := okQs_all (ds := r) fun x hx => h x (.tail _ hx)
    obtain ⟨j1, j2⟩ := h d (.head _)
    refine ⟨?_, ?_⟩
    · show (okQ d && okQs r) = true
      rw [j1, i1]; rfl
    · show max (dpQ d) (dpQs r) ≤ 50
      omega
theorem okS_at : PyData.strOk "at" = true := by decide +kernel
theorem at_some {t : T7} (h : t.Ok) (hz : t.parts.length ≤ 19) (ρ : Ev) (hρ : ρ[7]? = some (.sh (.lst (t.asks.map Ask.d)))) :
    b1 P2.tB (d2 neDD (asN (dComp (fun ρ => ((dV 7) ρ).bind asI) 1 [] (gV 0) (b1 P2.tB (d2 eqSD (d2 ixD (dV 0) (dC (.int 0))) (dC (.str "at")))) (dV 0))) (asN (fun ρ => (aNil ρ).bind fitL))) ρ = .ok t.mast := by
  have c : dComp (fun ρ => ((dV 7) ρ).bind asI) 1 [] (gV 0) (b1 P2.tB (d2 eqSD (d2 ixD (dV 0) (dC (.int 0))) (dC (.str "at")))) (dV 0) ρ = .ok ((t.asks.filterMap fun x => if x.isAt = true then some x else none).map Ask.d) :=
    dcomp_fM (f := Ask.d) (L := t.asks) (by show (dV 7 ρ).bind asI = _; unfold dV; rw [hρ]; rfl) (by have := asks_len t; omega) (fun x _ hx => by cases x <;> first | (cases hx; done) | kernel_rfl) (fun x _ y hy => by cases x <;> first | (cases hy; done) | (cases hy; exact ⟨by kernel_rfl, rfl⟩))
  have q := okQs_all (ds := (t.asks.filterMap fun x => if x.isAt = true then some x else none).map Ask.d) fun d hd => by
    obtain ⟨x, hx, rfl⟩ := List.mem_map.mp hd
    obtain ⟨y, hy, e⟩ := List.mem_filterMap.mp hx
    have oy := asks_ok h y hy
    cases y with
    | «at» w =>
      cases e
      refine ⟨?_, ?_⟩
      · show (PyData.strOk "at" && (PyData.strOk w && true)) = true
        rw [okS_at, show PyData.strOk w = true from oy]; rfl
      · show max 0 (max 0 0) + 1 ≤ 50
        decide
    | _ => cases e
  have e1 : asN (fun ρ => (aNil ρ).bind fitL) ρ = .ok (.lst []) := rfl
  show ((asN _ ρ).bind fun x => (asN (fun ρ => (aNil ρ).bind fitL) ρ).bind fun y => neDD x y).bind P2.tB = _
  rw [asN_of c, e1]
  show (neDD (.lst _) (.lst [])).bind P2.tB = _
  rw [ne_nil q.1 (by omega)]
  show (R.ok (!((t.asks.filterMap fun x => if x.isAt = true then some x else none).map Ask.d).isEmpty) : R Bool) = _
  congr 1
  unfold T7.mast
  generalize t.asks = A
  induction A with
  | nil => rfl
  | cons x A ih =>
    cases x with
    | «at» w => rfl
    | _ => exact ih
theorem far_of {t : T7} (h : t.Ok) (hz : t.parts.length ≤ 19) (hm : t.mast = false) (ρ : Ev) (hρ : ρ[7]? = some (.sh (.lst (t.asks.map Ask.d)))) :
    dA maxD (aCons (asN (catF (asN (fun ρ => ((aCons (dC (.int 0)) aNil) ρ).bind fitL)) (asN (dComp (fun ρ => ((dV 7) ρ).bind asI) 1 [] (gV 0) (fun _ => .ok true) (d2 ixD (dV 0) (dC (.int 1))))))) aNil) ρ = .ok (.int (mx0 t.pls)) := by
  have hz' := asks_len t
  have c : dComp (fun ρ => ((dV 7) ρ).bind asI) 1 [] (gV 0) (fun _ => .ok true) (d2 ixD (dV 0) (dC (.int 1))) ρ = .ok (t.pls.map D.int) := by
    refine dcomp_fM (f := Ask.d) (L := t.asks) (k := Ask.pl) (by show (dV 7 ρ).bind asI = _; unfold dV; rw [hρ]; rfl) (by omega) (fun x hx e => ?_) (fun x hx y hy => ?_)
    · exfalso
      have ox := asks_ok h x hx
      cases x with
      | here => exact ox
      | «at» w => exact absurd rfl (List.any_eq_false.mp hm _ hx)
      | _ => cases e
    · cases x with
      | back m => cases hy; exact ⟨rfl, rfl⟩
      | on m => cases hy; exact ⟨rfl, rfl⟩
      | _ => cases hy
  have lp : t.pls.length ≤ t.asks.length := List.length_filterMap_le ..
  have e : catF (asN (fun ρ => ((aCons (dC (.int 0)) aNil) ρ).bind fitL)) (asN (dComp (fun ρ => ((dV 7) ρ).bind asI) 1 [] (gV 0) (fun _ => .ok true) (d2 ixD (dV 0) (dC (.int 1))))) ρ = .ok ((0 :: t.pls).map D.int) := by
    show ((asN (fun ρ => ((aCons (dC (.int 0)) aNil) ρ).bind fitL) ρ).bind fun x => (asN _ ρ).bind fun y => catL x y) = _
    rw [asN_of c]
    show (if 1 + (t.pls.map D.int).length ≤ sizeLine then R.ok _ else R.bad) = _
    rw [if_pos (by rw [List.length_map]; exact Nat.le_trans (show 1 + t.pls.length ≤ 1000000 by omega) (by decide))]
    rfl
  show ((asN _ ρ).bind _).bind maxD = _
  rw [asN_of e]
  show (match intsO ((0 :: t.pls).map D.int) with | some ns => if ns.isEmpty then R.bad else R.ok (D.int (mxI ns)) | none => R.bad) = _
  rw [ints_map]
  rfl
structure Fz (Fc Fw Fl Fr : List D → R D) (Zc : List Z → Sto → RX Z) : Prop where
  c : ∀ (ns : List Int) (k : Nat), Fc [.lst (ns.map .int), .int k] = .ok (.int (ns.getD k 0))
  w : ∀ c k : Int, 0 ≤ k ∧ k < 26 → ∃ z, PyData.strOk z = true ∧ z.length ≤ 20 ∧ Fw [.int c, .int k] = .ok (.str z)
  l : ∀ t : T7, Gd 4 19 t → Fl [t.d] = .ok (.lst (t.asks.map Ask.d))
  r : ∀ R : List (Str × T7), (∀ r ∈ R, Gd 4 19 r.2) → R.length ≤ 1000 → Fr [.lst (R.map rd)] = .ok (due R)
  z : ∀ (b : Int) (ws : List Str), (∀ w ∈ ws, PyData.strOk w = true) → ws.length < 1000 → Gv Zc b ws 4 19
theorem nm_at (k : Nat) (h : k < 12) : ∃ nm : Str, PyData.strOk nm = true ∧ ((ixD (.str "abcdefghijkl") (.int k)).bind fun d => addD d (.str "x")) = .ok (.str nm) := by
  have : k = 0 ∨ k = 1 ∨ k = 2 ∨ k = 3 ∨ k = 4 ∨ k = 5 ∨ k = 6 ∨ k = 7 ∨ k = 8 ∨ k = 9 ∨ k = 10 ∨ k = 11 := by omega
  rcases this with rfl | rfl | rfl | rfl | rfl | rfl | rfl | rfl | rfl | rfl | rfl | rfl
  · exact ⟨"ax", by decide +kernel, by kernel_rfl⟩
  · exact ⟨"bx", by decide +kernel, by kernel_rfl⟩
  · exact ⟨"cx", by decide +kernel, by kernel_rfl⟩
  · exact ⟨"dx", by decide +kernel, by kernel_rfl⟩
  · exact ⟨"ex", by decide +kernel, by kernel_rfl⟩
  · exact ⟨"fx", by decide +kernel, by kernel_rfl⟩
  · exact ⟨"gx", by decide +kernel, by kernel_rfl⟩
  · exact ⟨"hx", by decide +kernel, by kernel_rfl⟩
  · exact ⟨"ix", by decide +kernel, by kernel_rfl⟩
  · exact ⟨"jx", by decide +kernel, by kernel_rfl⟩
  · exact ⟨"kx", by decide +kernel, by kernel_rfl⟩
  · exact ⟨"lx", by decide +kernel, by kernel_rfl⟩
noncomputable def Rg (R : List (Str × T7)) : Prop := ∀ r ∈ R, PyData.strOk r.1 = true ∧ Gd 4 19 r.2
section
variable {Fc Fw Fl Fr : List D → P2.R D} {Zc : List Z → Sto → RX Z}
theorem law_one (H : Fz Fc Fw Fl Fr Zc) (ns : List Int) {ws : List Str} (hw : ∀ w ∈ ws, PyData.strOk w = true) (hn : ws.length < 1000) {R : List (Str × T7)} (hR : R.length < 12) (c : Int) (s5 s6 s7 s8 s9 : Sl) :
    ∃ (r : Str × T7) (u5 u6 u7 : Sl), PyData.strOk r.1 = true ∧ Gd 4 19 r.2 ∧ b1_law a Fc Fw Fl Fr Zc [.sh (.lst (ns.map .int)), .sh (wd ws), .ow (R.map rd), .sh (due R), .sh (.int c), s5, s6, s7, s8, s9] =
      .nx [.sh (.lst (ns.map .int)), .sh (wd ws), .ow ((R ++ [r]).map rd), .sh (due (R ++ [r])), .sh (.int c), u5, u6, u7, s8, s9] := by
  obtain ⟨nm, okn, en⟩ := nm_at R.length hR
  have c0 := H.c ns 0
  generalize ns.getD 0 0 = x0 at c0
  obtain ⟨t, x', gt, et⟩ := H.z (x0 / 7 % 2) ws hw hn c
  have el := H.l t gt
  refine ⟨(nm, t), .sh (.str nm), .sh t.d, .sh (.lst (t.asks.map Ask.d)), okn, gt, ?_⟩
  have seq : ∀ {g h : Ev → RT} {ρ ρ' : Ev}, g ρ = .nx ρ' → sSeq g h ρ = h ρ' := fun e => by unfold sSeq; rw [e]; rfl
  have hb : d2 modD (d2 fdivD (dA Fc (aCons (dV 0) (aCons (dC (.int 0)) aNil))) (dC (.int 7))) (dC (.int 2)) [.sh (.lst (ns.map .int)), .sh (wd ws), .ow (R.map rd), .sh (due R), .sh (.int c), .sh (.str nm), s6, s7, s8, s9] = .ok (.int (x0 / 7 % 2)) := by
    show (((Fc [.lst (ns.map .int), .int 0]).bind fun x => fdivD x (.int 7)).bind fun x => modD x (.int 2)) = _
    rw [show Fc [.lst (ns.map .int), .int 0] = .ok (.int x0) from c0]
    show ((fdivD (.int x0) (.int 7)).bind fun x => modD x (.int 2)) = _
    rw [q_fdiv_p (by decide) (by decide)]
    exact q_mod_p (by decide)
  have h1 : sSet 5 (fun ρ => (noEx ((d2 addD (d2 ixD (dC (.str "abcdefghijkl")) (dA lenD (aCons (dV 2) aNil))) (dC (.str "x"))) (frzS 2 ρ))).bind flat1) [.sh (.lst (ns.map .int)), .sh (wd ws), .ow (R.map rd), .sh (due R), .sh (.int c), s5, s6, s7, s8, s9] = .nx [.sh (.lst (ns.map .int)), .sh (wd ws), .ow (R.map rd), .sh (due R), .sh (.int c), .sh (.str nm), s6, s7, s8, s9] := by
    have e : d2 addD (d2 ixD (dC (.str "abcdefghijkl")) (dA lenD (aCons (dV 2) aNil))) (dC (.str "x")) [.sh (.lst (ns.map .int)), .sh (wd ws), .sh (.lst (R.map rd)), .sh (due R), .sh (.int c), s5, s6, s7, s8, s9] = .ok (.str nm) := by
      show ((ixD (.str "abcdefghijkl") (.int ((R.map rd).length : Int))).bind fun d => addD d (.str "x")) = _
      rw [List.length_map]; exact en
    show toS ((noEx ((d2 addD (d2 ixD (dC (.str "abcdefghijkl")) (dA lenD (aCons (dV 2) aNil))) (dC (.str "x"))) [.sh (.lst (ns.map .int)), .sh (wd ws), .sh (.lst (R.map rd)), .sh (due R), .sh (.int c), s5, s6, s7, s8, s9])).bind flat1) _ = _
    rw [e]
    rfl
  have h2 : sSet 6 (dCallN Zc (fun ρ => ((aCons (dV 4) (aCons (d2 modD (d2 fdivD (dA Fc (aCons (dV 0) (aCons (dC (.int 0)) aNil))) (dC (.int 7))) (dC (.int 2))) aNil)) ρ).bind fitL) (dV 1)) [.sh (.lst (ns.map .int)), .sh (wd ws), .ow (R.map rd), .sh (due R), .sh (.int c), .sh (.str nm), s6, s7, s8, s9] = .nx [.sh (.lst (ns.map .int)), .sh (wd ws), .ow (R.map rd), .sh (due R), .sh (.int c), .sh (.str nm), .sh t.d, s7, s8, s9] := by
    have e : dCallN Zc (fun ρ => ((aCons (dV 4) (aCons (d2 modD (d2 fdivD (dA Fc (aCons (dV 0) (aCons (dC (.int 0)) aNil))) (dC (.int 7))) (dC (.int 2))) aNil)) ρ).bind fitL) (dV 1) [.sh (.lst (ns.map .int)), .sh (wd ws), .ow (R.map rd), .sh (due R), .sh (.int c), .sh (.str nm), s6, s7, s8, s9] = .ok t.d := by
      show ((((d2 modD (d2 fdivD (dA Fc (aCons (dV 0) (aCons (dC (.int 0)) aNil))) (dC (.int 7))) (dC (.int 2)) [.sh (.lst (ns.map .int)), .sh (wd ws), .ow (R.map rd), .sh (due R), .sh (.int c), .sh (.str nm), s6, s7, s8, s9]).bind fun x => P2.R.ok [x]).bind fun xs => P2.R.ok (D.int c :: xs)).bind fitL).bind (fun ds => clo (Zc [.loc 0, .d (wd ws)] [.li (ds.map .d)])) = _
      rw [hb]
      show clo (Zc [.loc 0, .d (wd ws)] (sx c (x0 / 7 % 2))) = _
      rw [et]
      rfl
    show toS (dCallN Zc _ (dV 1) _) _ = _
    rw [e]
    rfl
  have h3 : sApp 2 (dA mkT (aCons (dV 5) (aCons (dV 6) aNil))) [.sh (.lst (ns.map .int)), .sh (wd ws), .ow (R.map rd), .sh (due R), .sh (.int c), .sh (.str nm), .sh t.d, s7, s8, s9] = .nx [.sh (.lst (ns.map .int)), .sh (wd ws), .ow ((R ++ [(nm, t)]).map rd), .sh (due R), .sh (.int c), .sh (.str nm), .sh t.d, s7, s8, s9] := by
    show (if (R.map rd).length < sizeLine then RT.nx _ else .bad) = _
    rw [if_pos (by rw [List.length_map]; exact Nat.lt_of_lt_of_le hR (by decide)), List.map_append]
    rfl
  have h4 : sSet 7 (dA Fl (aCons (dV 6) aNil)) [.sh (.lst (ns.map .int)), .sh (wd ws), .ow ((R ++ [(nm, t)]).map rd), .sh (due R), .sh (.int c), .sh (.str nm), .sh t.d, s7, s8, s9] = .nx [.sh (.lst (ns.map .int)), .sh (wd ws), .ow ((R ++ [(nm, t)]).map rd), .sh (due R), .sh (.int c), .sh (.str nm), .sh t.d, .sh (.lst (t.asks.map Ask.d)), s8, s9] := by
    show toS (Fl [t.d]) _ = _
    rw [el]
    rfl
  unfold b1_law
  rw [seq h1, seq h2, seq h3, seq h4]
  have ha := at_some gt.ok gt.sz [.sh (.lst (ns.map .int)), .sh (wd ws), .ow ((R ++ [(nm, t)]).map rd), .sh (due R), .sh (.int c), .sh (.str nm), .sh t.d, .sh (.lst (t.asks.map Ask.d)), s8, s9] rfl
  show toS (b1 P2.tB (d2 neDD _ _) [.sh (.lst (ns.map .int)), .sh (wd ws), .ow ((R ++ [(nm, t)]).map rd), .sh (due R), .sh (.int c), .sh (.str nm), .sh t.d, .sh (.lst (t.asks.map Ask.d)), s8, s9]) _ = _
  rw [ha]
  have du : due (R ++ [(nm, t)]) = if t.mast = true then .non else (match due R with | .int s => .int (s + mx0 t.pls) | d => d) := by
    unfold due
    rw [List.any_append, List.map_append, List.sum_append]
    simp only [List.any_cons, List.any_nil, Bool.or_false, List.map_cons, List.map_nil, List.sum_cons, List.sum_nil, Int.add_zero]
    cases R.any fun r => r.2.mast <;> cases t.mast <;> simp
  rw [du]
  cases hm : t.mast with
  | true => rfl
  | false =>
    have hf := far_of gt.ok gt.sz hm [.sh (.lst (ns.map .int)), .sh (wd ws), .ow ((R ++ [(nm, t)]).map rd), .sh (due R), .sh (.int c), .sh (.str nm), .sh t.d, .sh (.lst (t.asks.map Ask.d)), s8, s9] rfl
    have dcase : due R = .non ∨ ∃ s, due R = .int s := by
      unfold due
      cases R.any fun r => r.2.mast
      · exact .inr ⟨_, rfl⟩
      · exact .inl rfl
    rcases dcase with e | ⟨s, e⟩
    · rw [e]; rfl
    · rw [e] at hf ⊢
      show toS ((P2.R.ok (D.int s)).bind fun x => (dA maxD _ _).bind fun y => addD x y) _ = _
      rw [hf]
      rfl
theorem law_loop (H : Fz Fc Fw Fl Fr Zc) (ns : List Int) {ws : List Str} (hw : ∀ w ∈ ws, PyData.strOk w = true) (hn : ws.length < 1000) (s8 s9 : Sl) : ∀ (cs : List Int) (R : List (Str × T7)) (s4 s5 s6 s7 : Sl), Rg R → R.length + cs.length ≤ 12 →
    ∃ (Q : List (Str × T7)) (u4 u5 u6 u7 : Sl), Rg Q ∧ Q.length ≤ 12 ∧ forD (gV 4) (b1_law a Fc Fw Fl Fr Zc) (cs.map D.int) [.sh (.lst (ns.map .int)), .sh (wd ws), .ow (R.map rd), .sh (due R), s4, s5, s6, s7, s8, s9] =
      .nx [.sh (.lst (ns.map .int)), .sh (wd ws), .ow (Q.map rd), .sh (due Q), u4, u5, u6, u7, s8, s9]
  | [], R, s4, s5, s6, s7, hR, hl => ⟨R, s4, s5, s6, s7, hR, by simpa using hl, rfl⟩
  | c :: cs, R, s4, s5, s6, s7, hR, hl => by
    rw [List.length_cons] at hl
    obtain ⟨r, v5, v6, v7, o1, o2, e1⟩ := law_one (a := a) H ns hw hn (R := R) (by omega) c s5 s6 s7 s8 s9
    obtain ⟨Q, u4, u5, u6, u7, hQ, lQ, e2⟩ := law_loop H ns hw hn s8 s9 cs (R ++ [r]) (.sh (.int c)) v5 v6 v7 (fun x hx => by
      rcases List.mem_append.mp hx with hx | hx
      · exact hR x hx
      · rw [List.mem_singleton.mp hx]; exact ⟨o1, o2⟩) (by rw [List.length_append, List.length_singleton]; omega)
    refine ⟨Q, u4, u5, u6, u7, hQ, lQ, ?_⟩
    rw [← e2]
    show turnT (b1_law a Fc Fw Fl Fr Zc [.sh (.lst (ns.map .int)), .sh (wd ws), .ow (R.map rd), .sh (due R), .sh (.int c), s5, s6, s7, s8, s9]) (forD (gV 4) (b1_law a Fc Fw Fl Fr Zc) (cs.map D.int)) = _
    rw [e1]
    rfl
end
end W72
namespace W72
open PySem L2 P2 WP TM T2 PySem.NumText
local macro_rules | `(tactic| walk_at "den") => `(tactic| try simp (disch := first | assumption | decide | exact Nat.le_of_ble_eq_true rfl) only [q_bind_k, q_bind_x, q_bind_b, q_toS_k, q_toS_x, q_toS_b, q_seq_n, q_seq_r, q_seq_x, q_seq_b, q_turn_n, q_turn_c, q_turn_k, q_turn_r, q_turn_b, q_turn_x, q_fin_r, q_fin_n, q_fin_x, q_noEx_k, q_okO_k, q_ofO_s, q_sSeq_a, q_sNil_a, q_sRet_a, q_sExpr_a, q_sSet_a, q_sIf_a, q_dC_a, q_d1_a, q_d2_a, q_b1B_a, q_b1T_a, q_bAnd_a, q_bOr_a, q_bNot_a, q_dAnd_a, q_dOr_a, q_dOrV_a, q_dNot_a, q_dIf_a, q_dA_a, q_aNil_a, q_aCons_a, q_asN_a, q_dMt_a, q_dSl_a, q_dComp_a, q_sFor_a, q_sOwn_a, q_sPar_a, q_app3, q_app4, q_frz3, q_frz4, q_min_i, q_rng1_p, q_toO_s, q_gV_a, q_tB_b, q_tT_b, q_tT_i, q_tT_n, q_tT_l, q_tT_t, q_add_i, q_sub_i, q_fdiv_p, q_mod_p, q_lt_i, q_le_i, q_gt_i, q_ge_i, q_neg_i, q_eq_i, q_eq_s, q_eq_b, q_ne_i, q_ne_s, q_in_s, q_ix_l, q_ix_t, q_ix_s, q_sl_l, q_sl_s, q_pI_i, q_len_s, q_len_l, q_len_t, q_abs_i, q_max_i, q_int_s, q_all_l, q_any_l, q_st_s, q_zf_s, q_hs_s, q_fit_p, q_add_sp, q_add_lp, q_mkT_p, q_asI_l, q_asI_t, q_asI_s, q_fmt_s, q_jNil_a, q_jCons_k, q_isX_i, q_isX_b, q_isX_s, q_isX_t, q_isX_l, q_slW_l, q_slW_s, q_is_bb, q_isn_bb, q_is_nn, q_isn_nn, q_is_tn, q_isn_tn, q_v0, q_v1, q_v2, q_v3, q_v4, q_v5, q_v6, q_v7, q_v8, q_v9, q_v10, q_v11, q_v12, q_v13, startD, List.map_cons, List.map_nil, List.length_cons, List.length_nil, Nat.sub_self, Nat.reduceAdd, Nat.reduceSub, List.replicate_zero, List.replicate_succ, List.append_nil, List.nil_append, List.cons_append, List.set_cons_zero, List.set_cons_succ, if_true, if_false, Nat.reduceLT, Nat.zero_lt_succ, Bool.not_true, Bool.not_false, Bool.false_eq_true, reduceIte, decide_true, decide_false, Int.reduceLT, Int.reduceEq, Int.reduceNeg, Int.reducePow, Int.reduceSub, Int.reduceAdd, Int.reduceMul,  List.length_set])
variable {a : Ad}
theorem okS_words : PyData.strOk "num" = true ∧ PyData.strOk "here" = true ∧ PyData.strOk "times" = true ∧ PyData.strOk "abs" = true ∧ PyData.strOk "not" = true ∧ PyData.strOk "back" = true ∧ PyData.strOk "on" = true ∧ PyData.strOk "ago" = true ∧ PyData.strOk "until" = true ∧ PyData.strOk "+" = true ∧ PyData.strOk "-" = true ∧ PyData.strOk "<" = true ∧ PyData.strOk "=" = true ∧ PyData.strOk "and" = true ∧ PyData.strOk "or" = true := by decide +kernel
theorem okS_f (k : Fq) : PyData.strOk k.s = true := by
  obtain ⟨_, _, _, _, _, h1, h2, h3, h4, _⟩ := okS_words
  cases k <;> assumption
theorem okS_b (k : Bq) : PyData.strOk k.s = true := by
  obtain ⟨_, _, _, _, _, _, _, _, _, h1, h2, h3, h4, h5, h6⟩ := okS_words
  cases k <;> assumption
theorem t_ok : ∀ {t : T7}, t.Ok → okQ t.d = true ∧ dpQ t.d ≤ t.dep + 2
  | .num p q, _ => ⟨by show (PyData.strOk "num" && ((true && (true && true)) && true)) = true; rw [okS_words.1]; rfl, by show max 0 (max (max 0 (max 0 0) + 1) 0) + 1 ≤ 0 + 2; decide⟩
  | .at w, h => ⟨by show (PyData.strOk "at" && (PyData.strOk w && true)) = true; rw [okS_at, show PyData.strOk w = true from h]; rfl, by show max 0 (max 0 0) + 1 ≤ 0 + 2; decide⟩
  | .here, _ => ⟨by show (PyData.strOk "here" && true) = true; rw [okS_words.2.1]; rfl, by show max 0 0 + 1 ≤ 0 + 2; decide⟩
  | .far k n, _ => ⟨by show (PyData.strOk k.s && (true && true)) = true; rw [okS_f]; rfl, by show max 0 (max 0 0) + 1 ≤ 0 + 2; decide⟩
  | .times p q t, h => by
    obtain ⟨h1, h2⟩ := t_ok (t := t) h
    refine ⟨by show (PyData.strOk "times" && ((true && (true && true)) && (okQ t.d && true))) = true; rw [okS_words.2.2.1, h1]; rfl, ?_⟩
    show max 0 (max (max 0 (max 0 0) + 1) (max (dpQ t.d) 0)) + 1 ≤ t.dep + 1 + 2
    omega
  | .abs t, h => by
    obtain ⟨h1, h2⟩ := t_ok (t := t) h
    refine ⟨by show (PyData.strOk "abs" && (okQ t.d && true)) = true; rw [okS_words.2.2.2.1, h1]; rfl, ?_⟩
    show max 0 (max (dpQ t.d) 0) + 1 ≤ t.dep + 1 + 2
    omega
  | .not t, h => by
    obtain ⟨h1, h2⟩ := t_ok (t := t) h
    refine ⟨by show (PyData.strOk "not" && (okQ t.d && true)) = true; rw [okS_words.2.2.2.2.1, h1]; rfl, ?_⟩
    show max 0 (max (dpQ t.d) 0) + 1 ≤ t.dep + 1 + 2
    omega
  | .bin k l r, h => by
    obtain ⟨h1, h2⟩ := t_ok (t := l) h.1
    obtain ⟨h3, h4⟩ := t_ok (t := r) h.2
    refine ⟨by show (PyData.strOk k.s && (okQ l.d && (okQ r.d && true))) = true; rw [okS_b, h1, h3]; rfl, ?_⟩
    show max 0 (max (dpQ l.d) (max (dpQ r.d) 0)) + 1 ≤ max l.dep r.dep + 1 + 2
    omega
theorem ne_rules {R : List (Str × T7)} (h : Rg R) : neDD (.lst (R.map rd)) (.lst (R.map rd)) = .ok (.bl false) := by
  obtain ⟨h1, h2⟩ := okQs_all (ds := R.map rd) fun d hd => by
    obtain ⟨r, hr, rfl⟩ := List.mem_map.mp hd
    obtain ⟨o1, o2⟩ := h r hr
    obtain ⟨q1, q2⟩ := t_ok o2.ok
    have := o2.dep
    refine ⟨by show (PyData.strOk r.1 && (okQ r.2.d && true)) = true; rw [o1, q1]; rfl, ?_⟩
    show max 0 (max (dpQ r.2.d) 0) + 1 ≤ 50
    omega
  exact ne_self h1 (by show dpQs (R.map rd) + 1 ≤ 60; omega)
theorem cut_c (ns : List Int) : ∃ cs : List Int, cs.length ≤ 12 ∧ cutD (ns.map D.int) (some 1) (some 13) = cs.map D.int := by
  refine ⟨(ns.drop (HT.sIx (ns.map D.int).length 0 (some 1))).take (HT.sIx (ns.map D.int).length (ns.map D.int).length (some 13) - HT.sIx (ns.map D.int).length 0 (some 1)), ?_, ?_⟩
  · rw [List.length_take, List.length_drop]
    have e1 := HT.sIx_nat (ns.map D.int).length 0 1
    have e2 := HT.sIx_nat (ns.map D.int).length (ns.map D.int).length 13
    rw [show ((1 : Nat) : Int) = 1 from rfl] at e1
    rw [show ((13 : Nat) : Int) = 13 from rfl] at e2
    rw [e1, e2, List.length_map]
    omega
  · unfold cutD
    rw [← List.map_drop, ← List.map_take]
section
variable {Fc Fw Fl Fr : List D → P2.R D} {Zc : List Z → Sto → RX Z}
theorem m_law (H : Fz Fc Fw Fl Fr Zc) (ns : List Int) (hn : ns.length ≤ 63) : finT (g_law a Fc Fw Fl Fr Zc (startD 10 [.lst (ns.map .int)])) = .ok (.bl true) := by
  have seq : ∀ {g h : Ev → RT} {ρ ρ' : Ev}, g ρ = .nx ρ' → sSeq g h ρ = h ρ' := fun e => by unfold sSeq; rw [e]; rfl
  obtain ⟨cs, lc, ec⟩ := cut_c ns
  have c0 := H.c ns 0
  obtain ⟨x0, hx0⟩ : ∃ x0, x0 = ns.getD 0 0 := ⟨_, rfl⟩
  rw [← hx0] at c0
  have wds : ∃ ws : List Str, (∀ w ∈ ws, PyData.strOk w = true) ∧ ws.length < 1000 ∧ sIf (b1 P2.tB (d2 eqSD (d2 modD (dA Fc (aCons (dV 0) (aCons (dC (.int 0)) aNil))) (dC (.int 2))) (dC (.int 1)))) (sSet 1 (asN (dComp (fun ρ => ((aCons (dC (.int 3)) aNil) ρ).bind rng1) 1 [0] (gV 0) (fun _ => .ok true) (dA Fw (aCons (dA Fc (aCons (dV 1) (aCons (dC (.int 0)) aNil))) (aCons (dV 0) aNil)))))) sNil
      [.sh (.lst (ns.map .int)), .sh (.lst []), .no, .no, .no, .no, .no, .no, .no, .no] = .nx [.sh (.lst (ns.map .int)), .sh (wd ws), .no, .no, .no, .no, .no, .no, .no, .no] := by
    have et : b1 P2.tB (d2 eqSD (d2 modD (dA Fc (aCons (dV 0) (aCons (dC (.int 0)) aNil))) (dC (.int 2))) (dC (.int 1))) [.sh (.lst (ns.map .int)), .sh (.lst []), .no, .no, .no, .no, .no, .no, .no, .no] = .ok (decide (x0 % 2 = 1)) := by
      show (((Fc [.lst (ns.map .int), .int 0]).bind fun x => modD x (.int 2)).bind fun x => eqSD x (.int 1)).bind P2.tB = _
      rw [show Fc [.lst (ns.map .int), .int 0] = .ok (.int x0) from c0]
      show ((modD (.int x0) (.int 2)).bind fun x => eqSD x (.int 1)).bind P2.tB = _
      rw [q_mod_p (by decide)]
      rfl
    by_cases h : x0 % 2 = 1
    · obtain ⟨w0, w1, w2, a0, a1, a2, cw⟩ := words (ns := ns) (x0 := x0) c0 H.w
      refine ⟨[w0, w1, w2], fun w hw => ?_, by show 3 < 1000; decide, ?_⟩
      · simp only [List.mem_cons, List.not_mem_nil, or_false] at hw
        rcases hw with h | h | h
        · rw [h]; exact a0
        · rw [h]; exact a1
        · rw [h]; exact a2
      · show toS (b1 P2.tB _ [.sh (.lst (ns.map .int)), .sh (.lst []), .no, .no, .no, .no, .no, .no, .no, .no]) _ = _
        rw [et, decide_eq_true h]
        show toS (asN _ [.sh (.lst (ns.map .int)), .sh (.lst []), .no, .no, .no, .no, .no, .no, .no, .no]) _ = _
        rw [cw _ rfl]
        rfl
    · refine ⟨[], nofun, by show 0 < 1000; decide, ?_⟩
      show toS (b1 P2.tB _ [.sh (.lst (ns.map .int)), .sh (.lst []), .no, .no, .no, .no, .no, .no, .no, .no]) _ = _
      rw [et, decide_eq_false h]
      rfl
  obtain ⟨ws, hw, lw, e1⟩ := wds
  obtain ⟨Q, u4, u5, u6, u7, hQ, lQ, e2⟩ := law_loop (a := a) H ns hw lw .no .no cs [] .no .no .no .no nofun (by simpa using lc)
  have er := H.r Q (fun r hr => (hQ r hr).2) (by omega)
  have er0 : Fr [.lst []] = .ok (.int 0) := H.r [] nofun (by show 0 ≤ 1000; decide)
  have ne := ne_rules hQ
  have h0 : sSet 1 (asN (fun ρ => (aNil ρ).bind fitL)) [.sh (.lst (ns.map .int)), .no, .no, .no, .no, .no, .no, .no, .no, .no] = .nx [.sh (.lst (ns.map .int)), .sh (.lst []), .no, .no, .no, .no, .no, .no, .no, .no] := rfl
  have h2 : sOwn 2 (fun ρ => (aNil ρ).bind fitL) [.sh (.lst (ns.map .int)), .sh (wd ws), .no, .no, .no, .no, .no, .no, .no, .no] = .nx [.sh (.lst (ns.map .int)), .sh (wd ws), .ow [], .no, .no, .no, .no, .no, .no, .no] := rfl
  have h3 : sSet 3 (dC (.int 0)) [.sh (.lst (ns.map .int)), .sh (wd ws), .ow [], .no, .no, .no, .no, .no, .no, .no] = .nx [.sh (.lst (ns.map .int)), .sh (wd ws), .ow [], .sh (.int 0), .no, .no, .no, .no, .no, .no] := rfl
  have h4 : sFor (fun ρ => ((dSl slWD (dV 0) (fun ρ => ((dC (.int 1)) ρ).bind pI) (fun ρ => ((dC (.int 13)) ρ).bind pI)) ρ).bind asI) (gV 4) (b1_law a Fc Fw Fl Fr Zc) [.sh (.lst (ns.map .int)), .sh (wd ws), .ow [], .sh (.int 0), .no, .no, .no, .no, .no, .no] = .nx [.sh (.lst (ns.map .int)), .sh (wd ws), .ow (Q.map rd), .sh (due Q), u4, u5, u6, u7, .no, .no] := by
    refine Eq.trans ?_ e2
    show toS (P2.R.ok (cutD (ns.map D.int) (some 1) (some 13))) _ = _
    rw [ec]
    rfl
  show finT (g_law a Fc Fw Fl Fr Zc [.sh (.lst (ns.map .int)), .no, .no, .no, .no, .no, .no, .no, .no, .no]) = _
  unfold g_law
  rw [seq h0, seq e1, seq h2, seq h3, seq h4]
  generalize hX : Q.map rd = X at *
  have h5 : sSet 8 (dA listD (aCons (dV 2) aNil)) [.sh (.lst (ns.map .int)), .sh (wd ws), .sh (.lst X), .sh (due Q), u4, u5, u6, u7, .no, .no] = .nx [.sh (.lst (ns.map .int)), .sh (wd ws), .sh (.lst X), .sh (due Q), u4, u5, u6, u7, .sh (.lst X), .no] := rfl
  have h6 : sSet 9 (dA Fr (aCons (dV 8) aNil)) [.sh (.lst (ns.map .int)), .sh (wd ws), .sh (.lst X), .sh (due Q), u4, u5, u6, u7, .sh (.lst X), .no] = .nx [.sh (.lst (ns.map .int)), .sh (wd ws), .sh (.lst X), .sh (due Q), u4, u5, u6, u7, .sh (.lst X), .sh (due Q)] := by
    show toS (Fr [.lst X]) _ = _
    rw [er]
    rfl
  have h7 : sIf (bOr (b1 P2.tB (d2 neDD (dV 8) (dV 2))) (b1 P2.tB (d2 neSD (dA Fr (aCons (asN (fun ρ => (aNil ρ).bind fitL)) aNil)) (dC (.int 0))))) (sRet (dC (.bl false))) sNil [.sh (.lst (ns.map .int)), .sh (wd ws), .sh (.lst X), .sh (due Q), u4, u5, u6, u7, .sh (.lst X), .sh (due Q)] = .nx [.sh (.lst (ns.map .int)), .sh (wd ws), .sh (.lst X), .sh (due Q), u4, u5, u6, u7, .sh (.lst X), .sh (due Q)] := by
    show toS (((neDD (.lst X) (.lst X)).bind P2.tB).bind fun k => if k = true then P2.R.ok true else (((Fr [.lst []]).bind fun x => neSD x (.int 0)).bind P2.tB)) _ = _
    rw [ne, er0]
    rfl
  show finT (sSeq _ _ [.sh (.lst (ns.map .int)), .sh (wd ws), .sh (.lst X), .sh (due Q), u4, u5, u6, u7, .no, .no]) = _
  rw [seq h5, seq h6, seq h7]
  have dcase : due Q = .non ∨ ∃ s, due Q = .int s := by
    unfold due
    cases Q.any fun r => r.2.mast
    · exact .inr ⟨_, rfl⟩
    · exact .inl rfl
  rcases dcase with e | ⟨s, e⟩
  · rw [e]; rfl
  · rw [e]
    show P2.R.ok (D.bl (decide (s = s))) = _
    rw [decide_eq_true rfl]
end
end W72
namespace W72
open PySem L2 P2 WP TM T2 PySem.NumText
noncomputable abbrev fo (x q : Str) (st : Stmt) (dV kV doc pm : Value) (an : Option Addr) (cdv ct : Value) : FuncData := PySem.W.fnOf x q (defArgs st) (defBody st) (defScope st) dV kV doc pm an cdv ct
noncomputable def spLaw (K : PySem.W.Frag) : Sp := fun vs H Q E => ∃ (al : Addr → Prop) (ns : List Int), vs.length = 1 ∧ (∀ a, H a = none → al a) ∧ ns.length ≤ 63 ∧ Reps K al H vs [.lst (ns.map D.int)] ∧ TbOk K H ∧ ∀ H', Same K H H' → Q (.bl true) H'
theorem reps_ints {K : PySem.W.Frag} {al : Addr → Prop} {H : Hp} : ∀ ns : List Int, Reps K al H (ns.map V.int) (ns.map D.int)
  | [] => .nil
  | _ :: ns => .cons (.int _) (reps_ints ns)
theorem spLaw_of {K : PySem.W.Frag} {H : Hp} {a : Addr} {ns : List Int} (hl : ns.length ≤ 63) (tt : TbOk K H) (r : Rep K (fun _ => True) H (.ref a) (.lst (ns.map D.int))) : spLaw K [.ref a] H (fun v _ => v = .bl true) fun _ _ _ => False :=
  ⟨fun _ => True, ns, rfl, fun _ _ => trivial, hl, .cons r .nil, tt, fun _ _ => rfl⟩
noncomputable def isF (K : PySem.W.Frag) (cs : List Addr) (c : Addr) (u : Value) : Option Bool := if c ∈ cs then PySem.W.kitOne K (.ref c) u else none
theorem isF_ok {K : PySem.W.Frag} {cs : List Addr} (h : ∀ c ∈ cs, YCls K c) : IsOk K (isF K cs) := fun c u b e => by
  unfold isF at e
  split at e
  · rename_i z; exact ⟨h c z, e⟩
  · cases e
section
variable (a : Ad)
noncomputable abbrev M_inner_parts : List D → R D := fun ds => finT (g_inner_parts a (startD 1 ds))
noncomputable abbrev R_parts_of (Fs : List D → R D) : List D → R D := fun ds => finT (g_parts_of a (M_inner_parts a) Fs (startD 3 ds))
noncomputable abbrev M_parts_of : List D → R D := fixD (R_parts_of a) 8
noncomputable abbrev M_asked_by : List D → R D := fun ds => finT (g_asked_by a (M_parts_of a) (startD 6 ds))
noncomputable abbrev M_asks_for_a_mast : List D → R D := fun ds => finT (g_asks_for_a_mast a (startD 1 ds))
noncomputable abbrev M_farthest : List D → R D := fun ds => finT (g_farthest a (startD 1 ds))
noncomputable abbrev M_reach : List D → R D := fun ds => finT (g_reach a (M_asked_by a) (M_asks_for_a_mast a) (M_farthest a) (startD 2 ds))
noncomputable abbrev M_law_cell_at : List D → R D := fun ds => finT (g_law_cell_at a (startD 2 ds))
noncomputable abbrev M_law_low : List D → R D := fun ds => finT (g_law_low a (startD 4 ds))
noncomputable abbrev M_law_word : List D → R D := fun ds => finT (g_law_word a (startD 7 ds))
noncomputable abbrev M_law_pick : List Z → Sto → RX Z := fun zs S => finZ (g_law_pick a S.length (startZ 3 zs) S)
noncomputable abbrev M_law_term : List Z → Sto → RX Z := fun zs S => finZ (g_law_term a (M_law_low a) (M_law_pick a) S.length (startZ 4 zs) S)
noncomputable abbrev M_law_sum : List Z → Sto → RX Z := fun zs S => finZ (g_law_sum a (M_law_low a) (M_law_pick a) (M_law_term a) S.length (startZ 5 zs) S)
noncomputable abbrev M_law_compare : List Z → Sto → RX Z := fun zs S => finZ (g_law_compare a (M_law_low a) (M_law_pick a) (M_law_sum a) S.length (startZ 4 zs) S)
noncomputable abbrev M_law_condition : List Z → Sto → RX Z := fun zs S => finZ (g_law_condition a (M_law_pick a) (M_law_compare a) S.length (startZ 4 zs) S)
noncomputable abbrev R_law_asks (Fs : List D → R D) : List D → R D := fun ds => finT (g_law_asks a Fs (startD 3 ds))
noncomputable abbrev M_law_asks : List D → R D := fixD (R_law_asks a) 8
theorem partsM (t : T7) (h : Gd 4 19 t) : M_parts_of a [t.d] = .ok (.lst (t.parts.map T7.d)) :=
  m_parts (a := a) (Fi := M_inner_parts a) (fun t => m_inner t) 8 t (by have := h.dep; omega) (by have := h.sz; omega)
theorem lowM : Lw (M_law_low a) := fun t b h1 h2 => ⟨_, _, WP.m_low t b h1 (by omega)⟩
theorem pickM (b : Int) : Pk (M_law_pick a) b := fun m x h1 h2 => m_pick m x b h1 h2
theorem fzM : Fz (M_law_cell_at a) (M_law_word a) (M_law_asks a) (M_reach a) (M_law_condition a) where
  c := fun ns k => WP.m_cell ns k
  w := fun c k h => WP.m_word c k h
  l := fun t h => m_las 8 t (by have := h.dep; omega) (by have := h.sz; omega)
  r := fun R hR hz => m_reach (fun A hA => m_amast hA) (fun A hA => m_farthest hA) (fun r hr => ⟨m_asked (partsM a r.2 (hR r hr)) (by have := (hR r hr).sz; omega), pls_nn (hR r hr).ok⟩) hz
  z := fun b ws h1 h2 => m_cond (pickM a b) (m_compare (pickM a b) (lowM a) (m_sum (pickM a b) (lowM a) (m_term (pickM a b) (lowM a) h1 h2)))
end
theorem all_mk {l : PySem.W.OpenLaw} {w : World} {K : PySem.W.Frag} {h : Heap} {mg : Str → Option Value} {fa : Addr} {f1 f2 f3 f4 f5 f6 f7 f8 f9 f10 f11 f12 f13 f14 f15 f16  : Addr} (X : K.In h) (G : h.Ns mainGlobals mg) (hfa : mg "law" = some (.ref fa))
    {od1 an1 od2 an2 od3 an3 od4 an4 od5 an5 od6 an6 od7 an7 od8 an8 od9 an9 od10 an10 od11 an11 od12 an12 od13 an13 od14 an14 od15 an15 od16 an16 : Option Addr} {sl1 sl2 sl3 sl4 sl5 sl6 sl7 sl8 sl9 sl10 sl11 sl12 sl13 sl14 sl15 sl16 : Array (Option Value)} {oc1 kV1 dc1 pm1 cd1 ct1 oc2 kV2 dc2 pm2 cd2 ct2 oc3 kV3 dc3 pm3 cd3 ct3 oc4 kV4 dc4 pm4 cd4 ct4 oc5 kV5 dc5 pm5 cd5 ct5 oc6 kV6 dc6 pm6 cd6 ct6 oc7 kV7 dc7 pm7 cd7 ct7 oc8 kV8 dc8 pm8 cd8 ct8 oc9 kV9 dc9 pm9 cd9 ct9 oc10 kV10 dc10 pm10 cd10 ct10 oc11 kV11 dc11 pm11 cd11 ct11 oc12 kV12 dc12 pm12 cd12 ct12 oc13 kV13 dc13 pm13 cd13 ct13 oc14 kV14 dc14 pm14 cd14 ct14 oc15 kV15 dc15 pm15 cd15 ct15 oc16 kV16 dc16 pm16 cd16 ct16 : Value}
    (a1 : PySem.W.nsIn K mainGlobals "inner_parts" = some (some (.ref f1)))
    (l1 : K.lookup f1 = some ⟨oc1, od1, .func (fo "inner_parts" "inner_parts" s_inner_parts .none kV1 dc1 pm1 an1 cd1 ct1), sl1⟩) (c1 : PySem.W.codeIn K cd1 "inner_parts" = true) (k1 : PySem.W.keepIn K (.ref f1) = true)
    (a2 : PySem.W.nsIn K mainGlobals "parts_of" = some (some (.ref f2)))
    (l2 : K.lookup f2 = some ⟨oc2, od2, .func (fo "parts_of" "parts_of" s_parts_of .none kV2 dc2 pm2 an2 cd2 ct2), sl2⟩) (c2 : PySem.W.codeIn K cd2 "parts_of" = true) (k2 : PySem.W.keepIn K (.ref f2) = true)
    (a3 : PySem.W.nsIn K mainGlobals "asked_by" = some (some (.ref f3)))
    (l3 : K.lookup f3 = some ⟨oc3, od3, .func (fo "asked_by" "asked_by" s_asked_by .none kV3 dc3 pm3 an3 cd3 ct3), sl3⟩) (c3 : PySem.W.codeIn K cd3 "asked_by" = true) (k3 : PySem.W.keepIn K (.ref f3) = true)
    (a4 : PySem.W.nsIn K mainGlobals "asks_for_a_mast" = some (some (.ref f4)))
    (l4 : K.lookup f4 = some ⟨oc4, od4, .func (fo "asks_for_a_mast" "asks_for_a_mast" s_asks_for_a_mast .none kV4 dc4 pm4 an4 cd4 ct4), sl4⟩) (c4 : PySem.W.codeIn K cd4 "asks_for_a_mast" = true) (k4 : PySem.W.keepIn K (.ref f4) = true)
    (a5 : PySem.W.nsIn K mainGlobals "farthest" = some (some (.ref f5)))
    (l5 : K.lookup f5 = some ⟨oc5, od5, .func (fo "farthest" "farthest" s_farthest .none kV5 dc5 pm5 an5 cd5 ct5), sl5⟩) (c5 : PySem.W.codeIn K cd5 "farthest" = true) (k5 : PySem.W.keepIn K (.ref f5) = true)
    (a6 : PySem.W.nsIn K mainGlobals "reach" = some (some (.ref f6)))
    (l6 : K.lookup f6 = some ⟨oc6, od6, .func (fo "reach" "reach" s_reach .none kV6 dc6 pm6 an6 cd6 ct6), sl6⟩) (c6 : PySem.W.codeIn K cd6 "reach" = true) (k6 : PySem.W.keepIn K (.ref f6) = true)
    (a7 : PySem.W.nsIn K mainGlobals "_law_cell_at" = some (some (.ref f7)))
    (l7 : K.lookup f7 = some ⟨oc7, od7, .func (fo "_law_cell_at" "_law_cell_at" s_law_cell_at .none kV7 dc7 pm7 an7 cd7 ct7), sl7⟩) (c7 : PySem.W.codeIn K cd7 "_law_cell_at" = true) (k7 : PySem.W.keepIn K (.ref f7) = true)
    (a8 : PySem.W.nsIn K mainGlobals "_law_low" = some (some (.ref f8)))
    (l8 : K.lookup f8 = some ⟨oc8, od8, .func (fo "_law_low" "_law_low" s_law_low .none kV8 dc8 pm8 an8 cd8 ct8), sl8⟩) (c8 : PySem.W.codeIn K cd8 "_law_low" = true) (k8 : PySem.W.keepIn K (.ref f8) = true)
    (a9 : PySem.W.nsIn K mainGlobals "_law_word" = some (some (.ref f9)))
    (l9 : K.lookup f9 = some ⟨oc9, od9, .func (fo "_law_word" "_law_word" s_law_word .none kV9 dc9 pm9 an9 cd9 ct9), sl9⟩) (c9 : PySem.W.codeIn K cd9 "_law_word" = true) (k9 : PySem.W.keepIn K (.ref f9) = true)
    (a10 : PySem.W.nsIn K mainGlobals "_law_pick" = some (some (.ref f10)))
    (l10 : K.lookup f10 = some ⟨oc10, od10, .func (fo "_law_pick" "_law_pick" s_law_pick .none kV10 dc10 pm10 an10 cd10 ct10), sl10⟩) (c10 : PySem.W.codeIn K cd10 "_law_pick" = true) (k10 : PySem.W.keepIn K (.ref f10) = true)
    (a11 : PySem.W.nsIn K mainGlobals "_law_term" = some (some (.ref f11)))
    (l11 : K.lookup f11 = some ⟨oc11, od11, .func (fo "_law_term" "_law_term" s_law_term .none kV11 dc11 pm11 an11 cd11 ct11), sl11⟩) (c11 : PySem.W.codeIn K cd11 "_law_term" = true) (k11 : PySem.W.keepIn K (.ref f11) = true)
    (a12 : PySem.W.nsIn K mainGlobals "_law_sum" = some (some (.ref f12)))
    (l12 : K.lookup f12 = some ⟨oc12, od12, .func (fo "_law_sum" "_law_sum" s_law_sum .none kV12 dc12 pm12 an12 cd12 ct12), sl12⟩) (c12 : PySem.W.codeIn K cd12 "_law_sum" = true) (k12 : PySem.W.keepIn K (.ref f12) = true)
    (a13 : PySem.W.nsIn K mainGlobals "_law_compare" = some (some (.ref f13)))
    (l13 : K.lookup f13 = some ⟨oc13, od13, .func (fo "_law_compare" "_law_compare" s_law_compare .none kV13 dc13 pm13 an13 cd13 ct13), sl13⟩) (c13 : PySem.W.codeIn K cd13 "_law_compare" = true) (k13 : PySem.W.keepIn K (.ref f13) = true)
    (a14 : PySem.W.nsIn K mainGlobals "_law_condition" = some (some (.ref f14)))
    (l14 : K.lookup f14 = some ⟨oc14, od14, .func (fo "_law_condition" "_law_condition" s_law_condition .none kV14 dc14 pm14 an14 cd14 ct14), sl14⟩) (c14 : PySem.W.codeIn K cd14 "_law_condition" = true) (k14 : PySem.W.keepIn K (.ref f14) = true)
    (a15 : PySem.W.nsIn K mainGlobals "_law_asks" = some (some (.ref f15)))
    (l15 : K.lookup f15 = some ⟨oc15, od15, .func (fo "_law_asks" "_law_asks" s_law_asks .none kV15 dc15 pm15 an15 cd15 ct15), sl15⟩) (c15 : PySem.W.codeIn K cd15 "_law_asks" = true) (k15 : PySem.W.keepIn K (.ref f15) = true)
    (a16 : PySem.W.nsIn K mainGlobals "law" = some (some (.ref f16)))
    (l16 : K.lookup f16 = some ⟨oc16, od16, .func (fo "law" "law" s_law .none kV16 dc16 pm16 an16 cd16 ct16), sl16⟩) (c16 : PySem.W.codeIn K cd16 "law" = true) (k16 : PySem.W.keepIn K (.ref f16) = true)
    (z_abs : PySem.W.nsIn K mainGlobals "abs" = some none) (z_any : PySem.W.nsIn K mainGlobals "any" = some none) (z_bool : PySem.W.nsIn K mainGlobals "bool" = some none) (z_int : PySem.W.nsIn K mainGlobals "int" = some none) (z_isinstance : PySem.W.nsIn K mainGlobals "isinstance" = some none) (z_len : PySem.W.nsIn K mainGlobals "len" = some none) (z_list : PySem.W.nsIn K mainGlobals "list" = some none) (z_max : PySem.W.nsIn K mainGlobals "max" = some none) (z_range : PySem.W.nsIn K mainGlobals "range" = some none) (z_set : PySem.W.nsIn K mainGlobals "set" = some none) (z_sorted : PySem.W.nsIn K mainGlobals "sorted" = some none) (z_str : PySem.W.nsIn K mainGlobals "str" = some none) (z_sum : PySem.W.nsIn K mainGlobals "sum" = some none) (z_tuple : PySem.W.nsIn K mainGlobals "tuple" = some none) :
    ∃ fd : FuncData, (∀ (s : Shared) (v : Value), BindsTo s fd ⟨[v], []⟩ [("_law_script", v)]) ∧ ∀ base : Heap, K.In base → base.Ns mainGlobals mg → BM mg base → FnOk l.prog w K mg base (CXx l.prog w) 12 fa fd ["_law_script"] (spLaw K) := by
  have e := hfa.symm.trans (PySem.W.mg_of X G a16)
  cases e
  have IS : IsOk K (isF K []) := isF_ok fun c hc => by
    simp only [List.mem_cons, List.not_mem_nil, or_false] at hc
  have T : Tx K mg ({isx := isF K []} : Ad) := {b_abs := PySem.W.mg_none_of X G z_abs, b_any := PySem.W.mg_none_of X G z_any, b_bool := PySem.W.mg_none_of X G z_bool, b_int := PySem.W.mg_none_of X G z_int, b_isinstance := PySem.W.mg_none_of X G z_isinstance, b_len := PySem.W.mg_none_of X G z_len, b_list := PySem.W.mg_none_of X G z_list, b_max := PySem.W.mg_none_of X G z_max, b_range := PySem.W.mg_none_of X G z_range, b_set := PySem.W.mg_none_of X G z_set, b_sorted := PySem.W.mg_none_of X G z_sorted, b_str := PySem.W.mg_none_of X G z_str, b_sum := PySem.W.mg_none_of X G z_sum, b_tuple := PySem.W.mg_none_of X G z_tuple, isok := IS}
  have F1 := fun_mk (st := s_inner_parts) l1 c1 k1
  have b1 := F1.binds (ps := ["part"]) fun _ _ _ _ _ _ us hl => match us, hl with | [_], _ => rfl
  have m1 := PySem.W.mg_of X G a1
  have F2 := fun_mk (st := s_parts_of) l2 c2 k2
  have b2 := F2.binds (ps := ["part"]) fun _ _ _ _ _ _ us hl => match us, hl with | [_], _ => rfl
  have m2 := PySem.W.mg_of X G a2
  have F3 := fun_mk (st := s_asked_by) l3 c3 k3
  have b3 := F3.binds (ps := ["condition"]) fun _ _ _ _ _ _ us hl => match us, hl with | [_], _ => rfl
  have m3 := PySem.W.mg_of X G a3
  have F4 := fun_mk (st := s_asks_for_a_mast) l4 c4 k4
  have b4 := F4.binds (ps := ["asks"]) fun _ _ _ _ _ _ us hl => match us, hl with | [_], _ => rfl
  have m4 := PySem.W.mg_of X G a4
  have F5 := fun_mk (st := s_farthest) l5 c5 k5
  have b5 := F5.binds (ps := ["asks"]) fun _ _ _ _ _ _ us hl => match us, hl with | [_], _ => rfl
  have m5 := PySem.W.mg_of X G a5
  have F6 := fun_mk (st := s_reach) l6 c6 k6
  have b6 := F6.binds (ps := ["rules"]) fun _ _ _ _ _ _ us hl => match us, hl with | [_], _ => rfl
  have m6 := PySem.W.mg_of X G a6
  have F7 := fun_mk (st := s_law_cell_at) l7 c7 k7
  have b7 := F7.binds (ps := ["_law_script", "_law_k"]) fun _ _ _ _ _ _ us hl => match us, hl with | [_, _], _ => rfl
  have m7 := PySem.W.mg_of X G a7
  have F8 := fun_mk (st := s_law_low) l8 c8 k8
  have b8 := F8.binds (ps := ["_law_top", "_law_bottom"]) fun _ _ _ _ _ _ us hl => match us, hl with | [_, _], _ => rfl
  have m8 := PySem.W.mg_of X G a8
  have F9 := fun_mk (st := s_law_word) l9 c9 k9
  have b9 := F9.binds (ps := ["_law_cell", "_law_k"]) fun _ _ _ _ _ _ us hl => match us, hl with | [_, _], _ => rfl
  have m9 := PySem.W.mg_of X G a9
  have F10 := fun_mk (st := s_law_pick) l10 c10 k10
  have b10 := F10.binds (ps := ["_law_stream", "_law_many"]) fun _ _ _ _ _ _ us hl => match us, hl with | [_, _], _ => rfl
  have m10 := PySem.W.mg_of X G a10
  have F11 := fun_mk (st := s_law_term) l11 c11 k11
  have b11 := F11.binds (ps := ["_law_stream", "_law_words"]) fun _ _ _ _ _ _ us hl => match us, hl with | [_, _], _ => rfl
  have m11 := PySem.W.mg_of X G a11
  have F12 := fun_mk (st := s_law_sum) l12 c12 k12
  have b12 := F12.binds (ps := ["_law_stream", "_law_words"]) fun _ _ _ _ _ _ us hl => match us, hl with | [_, _], _ => rfl
  have m12 := PySem.W.mg_of X G a12
  have F13 := fun_mk (st := s_law_compare) l13 c13 k13
  have b13 := F13.binds (ps := ["_law_stream", "_law_words"]) fun _ _ _ _ _ _ us hl => match us, hl with | [_, _], _ => rfl
  have m13 := PySem.W.mg_of X G a13
  have F14 := fun_mk (st := s_law_condition) l14 c14 k14
  have b14 := F14.binds (ps := ["_law_stream", "_law_words"]) fun _ _ _ _ _ _ us hl => match us, hl with | [_, _], _ => rfl
  have m14 := PySem.W.mg_of X G a14
  have F15 := fun_mk (st := s_law_asks) l15 c15 k15
  have b15 := F15.binds (ps := ["_law_thing"]) fun _ _ _ _ _ _ us hl => match us, hl with | [_], _ => rfl
  have m15 := PySem.W.mg_of X G a15
  have F16 := fun_mk (st := s_law) l16 c16 k16
  refine ⟨PySem.W.fnOf "law" "law" (defArgs s_law) (defBody s_law) (defScope s_law) .none kV16 dc16 pm16 an16 cd16 ct16, fun s v => .of_eq rfl, fun base _ _ bm => ?_⟩
  have o1 := ok_inner_parts (P := l.prog) (w := w) (base := base) T F1
  have H1 : Has _ _ _ _ _ _ _ _ _ _ := ⟨_, _, o1, b1, k1, m1⟩
  have o2 := rec_D (P := l.prog) (w := w) (K := K) (mg := mg) (base := base) (f := f2) (x := "parts_of") (k0 := 1) (st := 1) (F0 := R_parts_of {isx := isF K []}) (hn := rfl) (fun o => ⟨_, _, o, b2, k2, m2⟩) (fun Fs k hk Hh => by
    have p2 := ok_parts_of (P := l.prog) (w := w) (base := base) (k := k + 0) T F2 (Has.up H1 (by omega)) (Has.up Hh (by omega))
    exact p2) 8
  have H2 : Has _ _ _ _ _ _ _ _ _ _ := ⟨_, _, o2, b2, k2, m2⟩
  have o3 := ok_asked_by (P := l.prog) (w := w) (base := base) T F3 (Has.up H2 (by decide))
  have H3 : Has _ _ _ _ _ _ _ _ _ _ := ⟨_, _, o3, b3, k3, m3⟩
  have o4 := ok_asks_for_a_mast (P := l.prog) (w := w) (base := base) T F4
  have H4 : Has _ _ _ _ _ _ _ _ _ _ := ⟨_, _, o4, b4, k4, m4⟩
  have o5 := ok_farthest (P := l.prog) (w := w) (base := base) T F5
  have H5 : Has _ _ _ _ _ _ _ _ _ _ := ⟨_, _, o5, b5, k5, m5⟩
  have o6 := ok_reach (P := l.prog) (w := w) (base := base) T F6 (Has.up H3 (by decide)) (Has.up H4 (by decide)) (Has.up H5 (by decide))
  have H6 : Has _ _ _ _ _ _ _ _ _ _ := ⟨_, _, o6, b6, k6, m6⟩
  have o7 := ok_law_cell_at (P := l.prog) (w := w) (base := base) T F7
  have H7 : Has _ _ _ _ _ _ _ _ _ _ := ⟨_, _, o7, b7, k7, m7⟩
  have o8 := ok_law_low (P := l.prog) (w := w) (base := base) T F8
  have H8 : Has _ _ _ _ _ _ _ _ _ _ := ⟨_, _, o8, b8, k8, m8⟩
  have o9 := ok_law_word (P := l.prog) (w := w) (base := base) T F9
  have H9 : Has _ _ _ _ _ _ _ _ _ _ := ⟨_, _, o9, b9, k9, m9⟩
  have o10 := ok_law_pick (P := l.prog) (w := w) (base := base) T F10
  have H10 : Has _ _ _ _ _ _ _ _ _ _ := ⟨_, _, o10, b10, k10, m10⟩
  have o11 := ok_law_term (P := l.prog) (w := w) (base := base) T F11 (Has.up H8 (by decide)) (Has.up H10 (by decide))
  have H11 : Has _ _ _ _ _ _ _ _ _ _ := ⟨_, _, o11, b11, k11, m11⟩
  have o12 := ok_law_sum (P := l.prog) (w := w) (base := base) T F12 (Has.up H8 (by decide)) (Has.up H10 (by decide)) (Has.up H11 (by decide))
  have H12 : Has _ _ _ _ _ _ _ _ _ _ := ⟨_, _, o12, b12, k12, m12⟩
  have o13 := ok_law_compare (P := l.prog) (w := w) (base := base) T F13 (Has.up H8 (by decide)) (Has.up H10 (by decide)) (Has.up H12 (by decide))
  have H13 : Has _ _ _ _ _ _ _ _ _ _ := ⟨_, _, o13, b13, k13, m13⟩
  have o14 := ok_law_condition (P := l.prog) (w := w) (base := base) T F14 (Has.up H10 (by decide)) (Has.up H13 (by decide))
  have H14 : Has _ _ _ _ _ _ _ _ _ _ := ⟨_, _, o14, b14, k14, m14⟩
  have o15 := rec_D (P := l.prog) (w := w) (K := K) (mg := mg) (base := base) (f := f15) (x := "_law_asks") (k0 := 0) (st := 1) (F0 := R_law_asks {isx := isF K []}) (hn := rfl) (fun o => ⟨_, _, o, b15, k15, m15⟩) (fun Fs k hk Hh => by
    have p15 := ok_law_asks (P := l.prog) (w := w) (base := base) (k := k + 0) T F15 (Has.up Hh (by omega))
    exact p15) 8
  have H15 : Has _ _ _ _ _ _ _ _ _ _ := ⟨_, _, o15, b15, k15, m15⟩
  have o16 := ok_law (P := l.prog) (w := w) (base := base) T F16 (Has.up H7 (by decide)) (Has.up H9 (by decide)) (Has.up H15 (by decide)) (Has.up H6 (by decide)) (Has.up H14 (by decide))
  refine o16.imp fun vs H Q E q => ?_
  obtain ⟨al, ns, hl, fr, hn, rv, tt, q⟩ := q
  refine ⟨hl, tt, al, _, fr, rv, ?_⟩
  have A : Aft K al E H (R.ok (D.bl true)) (fun d H' => ∀ v, Rep K al H' v d → Q v H') := fun H' sm v rv => by cases rv; exact q H' sm
  rw [← m_law (fzM _) ns hn] at A
  exact A
theorem walk {l : PySem.W.OpenLaw} {q : Program} {loose : List Str} {XP : (Str → Option Value) → Heap → Prop} {YP : World → Heap → Prop} {d : DefRec} {K : Params → PySem.W.Frag} (hn : l.most = some 63) (hdf : d.params.defaults = [])
    (hY : ∀ (w : World) (h : Heap), YP w h → (K w.params).In h) (hT : ∀ w : World, (tabsOf (K w.params)).all (fun t => ((PyProof.Rows.recsOf q).find? fun e => e.name == t.1).isSome) = true) (hN : ∀ w : World, PySem.W.noTabs (K w.params) = true)
    (F : ∀ (w : World) (mg : Str → Option Value) (fa : Addr) (h : Heap), (K w.params).In h → h.Ns mainGlobals mg → mg d.name = some (.ref fa) →
      ∃ fd : FuncData, (∀ (s : Shared) (u : Value), BindsTo s fd ⟨[u], []⟩ [("_law_script", u)]) ∧ ∀ base : Heap, (K w.params).In base → base.Ns mainGlobals mg → BM mg base → FnOk l.prog w (K w.params) mg base (CXx l.prog w) 12 fa fd ["_law_script"] (spLaw (K w.params))) :
    PySem.W.WalkO q loose XP YP l.row.toRowW d [] (fun f vs => PySem.call f vs) := by
  refine Att.attach_call hn hdf fun w s₀ s₁ mg mb fa o pm cd doc a vs ns G Y ho hd hcd hmg hobj hints hlen hg => ?_
  have KX := hY w _ Y
  obtain ⟨fd, hb, hF⟩ := F w mg fa _ KX G.T.g hmg
  refine law_callT KX G.T.g G.T.b G.T.builtins G.T.nolimit hg hobj hints (Nat.le_trans hlen (by decide)) ⟨rfl, by decide, by decide⟩ (tabs_of G.T KX (hT w)) (hN w) G.T.bmain hF hb (fun H tt hS => spLaw_of hlen tt ?_) fun H e s' h => ?_
  · rcases hS with h | ⟨o, its, n, h1, h2, h3, h4, h5, h6⟩
    · exact .lst (.inl ⟨trivial, h⟩) (reps_ints _)
    · have e := KX a o h1
      rw [hobj] at e
      cases e
      cases h4
      exact .lst (.inr ⟨vs, _, h1, by simpa using h5, by simpa using h6⟩) (reps_ints _)
  · obtain ⟨_, _, _, _, _, _, _, _, _, _, _, _, z⟩ := h
    exact z
end W72
open PySem PySem.W PyProof.Rows
set_option maxRecDepth 100000 in
set_option maxHeartbeats 0 in
theorem PySem.Challenge.cw_weather_k72_reach_holds : PySem.Challenge.rw_weather_k72_reach.Holds := by
  w_on; o_law; k_head; (case hw => w_witness2)
  k_fill
  refine W72.walk (l := PySem.Challenge.rw_weather_k72_reach) rfl rfl (fun w h Y => by first | exact PySem.W.km_in_of Y | exact PySem.W.kIn_of Y) ?hT ?hN ?F
  case hT => exact fun w => by kernel_rfl
  case hN => exact fun w => by kernel_rfl
  case F =>
    intro w mg fa h KX G hmg
    refine' W72.all_mk KX G hmg ?a1 ?l1 ?c1 ?k1 ?a2 ?l2 ?c2 ?k2 ?a3 ?l3 ?c3 ?k3 ?a4 ?l4 ?c4 ?k4 ?a5 ?l5 ?c5 ?k5 ?a6 ?l6 ?c6 ?k6 ?a7 ?l7 ?c7 ?k7 ?a8 ?l8 ?c8 ?k8 ?a9 ?l9 ?c9 ?k9 ?a10 ?l10 ?c10 ?k10 ?a11 ?l11 ?c11 ?k11 ?a12 ?l12 ?c12 ?k12 ?a13 ?l13 ?c13 ?k13 ?a14 ?l14 ?c14 ?k14 ?a15 ?l15 ?c15 ?k15 ?a16 ?l16 ?c16 ?k16 ?z_abs ?z_any ?z_bool ?z_int ?z_isinstance ?z_len ?z_list ?z_max ?z_range ?z_set ?z_sorted ?z_str ?z_sum ?z_tuple
    case a1 | l1 | c1 | k1 | a2 | l2 | c2 | k2 | a3 | l3 | c3 | k3 | a4 | l4 | c4 | k4 | a5 | l5 | c5 | k5 | a6 | l6 | c6 | k6 | a7 | l7 | c7 | k7 | a8 | l8 | c8 | k8 | a9 | l9 | c9 | k9 | a10 | l10 | c10 | k10 | a11 | l11 | c11 | k11 | a12 | l12 | c12 | k12 | a13 | l13 | c13 | k13 | a14 | l14 | c14 | k14 | a15 | l15 | c15 | k15 | a16 | l16 | c16 | k16 | z_abs | z_any | z_bool | z_int | z_isinstance | z_len | z_list | z_max | z_range | z_set | z_sorted | z_str | z_sum | z_tuple => k_is
#print axioms PySem.Challenge.cw_weather_k72_reach_holds
