import PyProof.Rows.All
import Wide.All
import OpenK.AllK
import Wide.FinOn
import Lean
import PyProof.EqAt
import PyProof.EqKinds
import PyProof.TupleCall
import PyProof.StationsW
import PyProof.ExcClass2
import PyProof.ExcInit
import PyProof.InstStoreFacts
import PyProof.ExcArgsOwn
import PyProof.ExcAttrAll.ValueError
import KE.IntBitsLaws
import KE.KIsAll
import PyProof.Rows.EqDataRows
import KE.KNestM
import KE.IntTextLaws
import PyProof.StrCalls2
import PyProof.Rows.StrSplitJoin
import KE.KIntText
import PyProof.StrBlockI
import PyProof.StrLawsIn
import PyProof.StrLawsIdx
import PyProof.StrLawsChain
import PyProof.StrLawsTight
import KE.KRevIter
import KE.KLam
import PyProof.Rows.SortWalk
import KE.KSortTup
import PySem.Challenge.RW_weather_k41_rows
set_option Elab.async false
set_option linter.all false
set_option maxRecDepth 100000
namespace L2
open PySem PySem.Spec PyProof.Rows
noncomputable abbrev Key := Sum Int Str
noncomputable def keyIs : Key → Value → Bool
  | .inl k, v => Value.isInt k v
  | .inr x, v => Value.isStrOf x v
noncomputable def keyH (w : World) : Key → Int
  | .inl k => hashInt k
  | .inr x => hashStr w x
theorem keyIs_shape : ∀ {k : Key} {v : Value}, keyIs k v = true → (∃ i t, k = Sum.inl i ∧ v = Value.int i t) ∨ (∃ x t, k = Sum.inr x ∧ v = Value.str x t)
  | .inl i, v, h => by
    obtain ⟨t, e⟩ := Value.isInt_shape (k := i) (v := v) h
    exact .inl ⟨i, t, rfl, e⟩
  | .inr x, v, h => by
    obtain ⟨t, e⟩ := Value.isStrOf_shape (x := x) (v := v) h
    exact .inr ⟨x, t, rfl, e⟩
theorem key_ll (a b : Int) : decide ((Sum.inl a : Key) = Sum.inl b) = (a == b) := by
  by_cases e : a = b
  · subst e; simp
  · have h : ¬ (Sum.inl a : Key) = Sum.inl b := fun q => e (Sum.inl.inj q)
    rw [decide_eq_false h]
    exact (beq_eq_false_iff_ne.mpr e).symm
theorem key_rr (a b : Str) : decide ((Sum.inr a : Key) = Sum.inr b) = decide (a = b) := by
  by_cases e : a = b
  · subst e; simp
  · have h : ¬ (Sum.inr a : Key) = Sum.inr b := fun q => e (Sum.inr.inj q)
    rw [decide_eq_false h, decide_eq_false e]
theorem key_lr (a : Int) (b : Str) : decide ((Sum.inl a : Key) = Sum.inr b) = false := decide_eq_false (fun q => nomatch q)
theorem key_rl (a : Str) (b : Int) : decide ((Sum.inr a : Key) = Sum.inl b) = false := decide_eq_false (fun q => nomatch q)
noncomputable def mixKind (prog : Program) (w : World) : PySem.KeyKind prog w Key where
  is := keyIs
  hash := keyH w
  inj := fun v a b ha hb => by
    rcases keyIs_shape ha with ⟨i, t, rfl, rfl⟩ | ⟨x, t, rfl, rfl⟩
    · rcases keyIs_shape hb with ⟨j, u, rfl, e⟩ | ⟨y, u, rfl, e⟩
      · injection e with e1 _; rw [e1]
      · exact nomatch e
    · rcases keyIs_shape hb with ⟨j, u, rfl, e⟩ | ⟨y, u, rfl, e⟩
      · exact nomatch e
      · injection e with e1 _; rw [e1]
  byValue := fun k v h => by
    rcases keyIs_shape h with ⟨i, t, rfl, rfl⟩ | ⟨x, t, rfl, rfl⟩ <;> rfl
  pyHash := fun hv h => by
    rcases keyIs_shape hv with ⟨i, t, rfl, rfl⟩ | ⟨x, t, rfl, rfl⟩
    · exact wpAny_pyHash_int h
    · exact wpAny_pyHash_str h
  eqBool := fun hu hv h => by
    rcases keyIs_shape hu with ⟨i, t, rfl, rfl⟩ | ⟨x, t, rfl, rfl⟩
    · rcases keyIs_shape hv with ⟨j, u, rfl, rfl⟩ | ⟨y, u, rfl, rfl⟩
      · rw [key_ll] at h; exact wpAny_eqBool_int h
      · rw [key_lr] at h; exact SeqAt.EqAt.int_str i t y u _ _ _ _ h
    · rcases keyIs_shape hv with ⟨j, u, rfl, rfl⟩ | ⟨y, u, rfl, rfl⟩
      · rw [key_rl] at h; exact SeqAt.EqAt.str_int x t j u _ _ _ _ h
      · rw [key_rr] at h; exact wpAny_eqBool_str h
  «strs» := fun k x t v h => by
    rcases keyIs_shape h with ⟨i, u, rfl, e⟩ | ⟨y, u, rfl, e⟩
    · exact nomatch e
    · injection e with e1 _
      subst e1
      cases v <;> rfl
end L2
namespace L2
open PySem PySem.Spec PyProof.Rows
inductive V where
  | non | bl (b : Bool) | int (i : Int) | str (x : Str) | byt (b : Array UInt8) | flt (b : UInt64) | ref (a : Addr) | ty (n : String)
  deriving DecidableEq
noncomputable def RelV : V → Value → Prop
  | .non, u => u = Value.none
  | .bl b, u => u = Value.bool b
  | .int i, u => ∃ t, u = Value.int i t
  | .str x, u => ∃ t, u = Value.str x t
  | .byt b, u => ∃ t, u = Value.bytes b t
  | .flt b, u => ∃ t, u = Value.float b t
  | .ref a, u => u = Value.ref a
  | .ty n, u => u = Value.type n
noncomputable abbrev Vals : List V → List Value → Prop := Paired RelV
theorem Vals.length {xs : List V} {us : List Value} (r : Vals xs us) : xs.length = us.length := Paired.length r
theorem Vals.get : ∀ {xs : List V} {us : List Value} {i : Nat} {x : V}, Vals xs us → xs[i]? = some x → ∃ u, us[i]? = some u ∧ RelV x u
  | _, _, _, _, .nil, e => by simp at e
  | _, _, 0, _, .cons r _, e => by simp at e; subst e; exact ⟨_, rfl, r⟩
  | _, _, i + 1, x, .cons _ t, e => by
    obtain ⟨u, h1, h2⟩ := Vals.get (i := i) (x := x) t (by simpa using e)
    exact ⟨u, by simpa using h1, h2⟩
theorem Vals.set {x : V} {u : Value} (r : RelV x u) : ∀ {xs : List V} {us : List Value} (i : Nat), Vals xs us → Vals (xs.set i x) (us.set i u)
  | _, _, _, .nil => .nil
  | _, _, 0, .cons _ t => .cons r t
  | _, _, i + 1, .cons q t => .cons q (Vals.set r i t)
theorem Vals.append : ∀ {xs ys : List V} {us ws : List Value}, Vals xs us → Vals ys ws → Vals (xs ++ ys) (us ++ ws)
  | _, _, _, _, .nil, s => s
  | _, _, _, _, .cons r t, s => .cons r (Vals.append t s)
theorem Vals.take : ∀ {xs : List V} {us : List Value} (n : Nat), Vals xs us → Vals (xs.take n) (us.take n)
  | _, _, 0, _ => .nil
  | _, _, _ + 1, .nil => .nil
  | _, _, n + 1, .cons r t => .cons r (Vals.take n t)
theorem Vals.drop : ∀ {xs : List V} {us : List Value} (n : Nat), Vals xs us → Vals (xs.drop n) (us.drop n)
  | _, _, 0, r => r
  | _, _, _ + 1, .nil => .nil
  | _, _, n + 1, .cons _ t => Vals.drop n t
noncomputable def RelO : Option V → Option Value → Prop
  | some v, some u => RelV v u
  | none, none => True
  | _, _ => False
noncomputable def KV {κ : Type} : List (κ × V) → List (κ × Value) → Prop := Paired fun (p : κ × V) (q : κ × Value) => p.1 = q.1 ∧ RelV p.2 q.2
noncomputable def kV : Key → V
  | .inl i => .int i
  | .inr x => .str x
inductive HO where
  /-- a list -/
  | lst (xs : List V)
  /-- a tuple (never changes) -/
  | tup (xs : List V)
  /-- a dict whose keys are ints and texts; one whose keys are tuples of ints and texts (the empty one is both) -/
  | dK (kvs : List (Key × V)) | dT (kvs : List (List Key × V))
  /-- a set of ints: its members, its size -/
  | set (S : Int → Bool) (n : Nat)
  /-- an instance of the class at C, its dict at dx, its attributes -/
  | ins (C dx : Addr) (fs : List (Str × V))
  /-- the dict of the instance at x -/
  | own (x : Addr)
  /-- the dict of an exception -/
  | xd (fs : List (Str × V))
  /-- a bound method, f of x -/
  | met (f x : Addr)
  /-- a range object lo, lo + 1, .. below hi -/
  | rng (lo hi : Int)
  /-- a thing that is known to the object (the script; a dict while a loop walks it): read, never written while it is so -/
  | frz (o : Obj) (u : HO)
  /-- a code object's table -/
  | tbl (ps : Array Value)
  /-- any other thing, by what is true of its one object (a def of one's own: SetO a S n := HO.ext fun h => ..) -/
  | ext (φ : Heap → Prop)
noncomputable abbrev Hp := Addr → Option HO
noncomputable def upd (H : Hp) (a : Addr) (o : HO) : Hp := fun b => if b = a then some o else H b
theorem upd_same {H : Hp} {a : Addr} {o : HO} : upd H a o a = some o := by unfold upd; rw [if_pos rfl]
theorem upd_ne {H : Hp} {a b : Addr} {o : HO} (h : b ≠ a) : upd H a o b = H b := by unfold upd; rw [if_neg h]
theorem ne_of_none {H : Hp} {a b : Addr} {o : HO} (h : H a = some o) (h' : H b = none) : a ≠ b := by
  intro e; subst e; rw [h] at h'; cases h'
section
variable (P : Program) (w : World)
noncomputable def ObjOk (H : Hp) (h : Heap) (a : Addr) : HO → Prop
  | .lst xs => xs.length ≤ sizeLine ∧ ∃ (its : List Value) (n : Nat), Vals xs its ∧ h.get? a = some { cls := .type "list", data := .seq its.toArray n }
  | .tup xs => xs.length ≤ sizeLine ∧ ∃ its : List Value, Vals xs its ∧ IsTup h a its.toArray
  | .dK kvs => kvs.length ≤ sizeLine ∧ (a == sysModules) = false ∧ ∃ vs, KV kvs vs ∧ h.DictOf (mixKind P w) a vs
  | .dT kvs => kvs.length ≤ sizeLine ∧ (a == sysModules) = false ∧ ∃ xs : List (List Key × Addr × Value),
      Paired (fun (p : List Key × V) (q : List Key × Addr × Value) => p.1 = q.1 ∧ H q.2.1 = some (.tup (p.1.map kV)) ∧ RelV p.2 q.2.2) kvs xs ∧
      ∃ o es ep, h.get? a = some o ∧ o.ExactDict ∧ o.data = .dict es ep ∧ es.toList = xs.map (entryOfKey (tupleKind (mixKind P w))) ∧ (xs.map (·.1)).Nodup
  | .set S n => h.SetOf (intKind P w) a S n
  | .ins C dx fs => H dx = some (.own a) ∧ fs.length ≤ 1000 ∧ dx ≠ a ∧ h.get? a = some (PySem.W.instObj C dx) ∧
      ∃ mA, h.Ns1 dx mA ∧ (∀ f, RelO (fs.lookup f) (mA f)) ∧ PySem.Within mA (fs.map (·.1))
  | .own _ => ∃ o, h.get? a = some o
  | .xd fs => ∃ mA, h.Ns1 a mA ∧ ∀ f, RelO (fs.lookup f) (mA f)
  | .rng lo hi => ∃ t u v, h.get? a = some { cls := .type "range", data := .fields #[.int lo t, .int hi u, .int 1 v] }
  | .frz o u => h.get? a = some o ∧ ObjOk H h a u
  | .tbl ps => h.get? a = some { cls := .none, data := .fields ps }
  | .met f x => h.get? a = some (PySem.W.methodObj (.ref f) (.ref x))
  | .ext φ => φ h ∧ (∃ o, h.get? a = some o) ∧ ∀ h1 h2 : Heap, φ h1 → (∀ o, h1.get? a = some o → h2.get? a = some o) → φ h2
noncomputable def HOk (H : Hp) (h : Heap) : Prop := ∀ a o, H a = some o → ObjOk P w H h a o
end
section
variable {P : Program} {w : World} {H H' : Hp} {h h' : Heap} {a : Addr} {o : HO}
theorem ObjOk.lt (x : ObjOk P w H h a o) : a < h.objs.size := by
  cases o with
  | lst xs => obtain ⟨_, _, _, _, e⟩ := x; exact Heap.lt_size e
  | tup xs => obtain ⟨_, _, _, p⟩ := x; exact p.lt
  | dK kvs => obtain ⟨_, _, _, _, o, _, _, e, _⟩ := x; exact Heap.lt_size e
  | dT kvs => obtain ⟨_, _, _, _, o, _, _, e, _⟩ := x; exact Heap.lt_size e
  | set S n => obtain ⟨o, _, _, _, e, _⟩ := x; exact Heap.lt_size e
  | ins C dx fs => obtain ⟨_, _, _, e, _⟩ := x; exact Heap.lt_size e
  | own y => obtain ⟨_, e⟩ := x; exact Heap.lt_size e
  | xd fs => obtain ⟨_, ⟨_, _, _, e, _⟩, _⟩ := x; exact Heap.lt_size e
  | rng lo hi => obtain ⟨_, _, _, e⟩ := x; exact Heap.lt_size e
  | frz ob u => obtain ⟨e, _⟩ := x; exact Heap.lt_size e
  | tbl ps => exact Heap.lt_size (show h.get? a = some _ from x)
  | met f y => exact Heap.lt_size (show h.get? a = some _ from x)
  | ext φ => obtain ⟨_, ⟨_, e⟩, _⟩ := x; exact Heap.lt_size e
theorem Paired.mapP {α β : Type} {F G : α → β → Prop} : ∀ {l₁ : List α} {l₂ : List β}, Paired F l₁ l₂ → (∀ a b, F a b → G a b) → Paired G l₁ l₂
  | _, _, .nil, _ => .nil
  | _, _, .cons r t, f => .cons (f _ _ r) (Paired.mapP t f)
theorem ObjOk.stay (x : ObjOk P w H h a o) (k : ∀ b u, (b = a ∨ H b = some (.own a)) → h.get? b = some u → h'.get? b = some u)
    (ho : ∀ b, H b = some (.own a) → H' b = some (.own a)) (ht : ∀ b xs, H b = some (.tup xs) → H' b = some (.tup xs)) : ObjOk P w H' h' a o := by
  induction o with
  | lst xs => obtain ⟨z, its, n, r, e⟩ := x; exact ⟨z, its, n, r, k _ _ (.inl rfl) e⟩
  | tup xs => obtain ⟨z, its, r, ob, e, c⟩ := x; exact ⟨z, its, r, ob, k _ _ (.inl rfl) e, c⟩
  | dK kvs => obtain ⟨z, y, vs, r, ob, es, ep, e, c⟩ := x; exact ⟨z, y, vs, r, ob, es, ep, k _ _ (.inl rfl) e, c⟩
  | dT kvs =>
    obtain ⟨z, y, xs, r, ob, es, ep, e, c⟩ := x
    exact ⟨z, y, xs, Paired.mapP r fun p q z => ⟨z.1, ht _ _ z.2.1, z.2.2⟩, ob, es, ep, k _ _ (.inl rfl) e, c⟩
  | set S n => obtain ⟨ob, es, ep, t, e, c⟩ := x; exact ⟨ob, es, ep, t, k _ _ (.inl rfl) e, c⟩
  | ins C dx fs =>
    obtain ⟨d, z, ne, e, mA, ⟨od, es, ep, e2, c⟩, r⟩ := x
    exact ⟨ho _ d, z, ne, k _ _ (.inl rfl) e, mA, ⟨od, es, ep, k _ _ (.inr d) e2, c⟩, r⟩
  | own y => obtain ⟨ob, e⟩ := x; exact ⟨ob, k _ _ (.inl rfl) e⟩
  | xd fs => obtain ⟨mA, ⟨od, es, ep, e, c⟩, r⟩ := x; exact ⟨mA, ⟨od, es, ep, k _ _ (.inl rfl) e, c⟩, r⟩
  | rng lo hi => obtain ⟨t, u, v, e⟩ := x; exact ⟨t, u, v, k _ _ (.inl rfl) e⟩
  | frz ob u ih => obtain ⟨e, q⟩ := x; exact ⟨k _ _ (.inl rfl) e, ih q⟩
  | tbl ps =>
    have e : h.get? a = some { cls := .none, data := .fields ps } := x
    show h'.get? a = some { cls := .none, data := .fields ps }
    exact k a _ (.inl rfl) e
  | met f y =>
    have e : h.get? a = some (PySem.W.methodObj (.ref f) (.ref y)) := x
    show h'.get? a = some (PySem.W.methodObj (.ref f) (.ref y))
    exact k a _ (.inl rfl) e
  | ext φ => obtain ⟨p, ⟨o, e⟩, st⟩ := x; exact ⟨st _ _ p fun o q => k _ _ (.inl rfl) q, ⟨o, k _ _ (.inl rfl) e⟩, st⟩
theorem HOk.lt (x : HOk P w H h) (e : H a = some o) : a < h.objs.size := (x a o e).lt
theorem HOk.fresh (x : HOk P w H h) (e : h.objs.size ≤ a) : H a = none := by
  cases q : H a with
  | none => rfl
  | some u => exact absurd (Nat.lt_of_lt_of_le (x.lt q) e) (Nat.lt_irrefl _)
theorem HOk.kept (x : HOk P w H h) (k : ∀ b u, h.get? b = some u → h'.get? b = some u) : HOk P w H h' := fun a o e =>
  (x a o e).stay (fun b u _ q => k b u q) (fun _ q => q) fun _ _ q => q
theorem HOk.laid (x : HOk P w H h) (k : ∀ b u, h.get? b = some u → h'.get? b = some u) (hp : h.objs.size ≤ a) (new : ObjOk P w (upd H a o) h' a o) : HOk P w (upd H a o) h' := fun b u e => by
  have hn := x.fresh hp
  by_cases hb : b = a
  · subst hb; rw [upd_same] at e; cases e; exact new
  · rw [upd_ne hb] at e
    exact (x b u e).stay (fun c v _ q => k c v q) (fun c q => by rw [upd_ne (ne_of_none q hn)]; exact q) fun c xs q => by rw [upd_ne (ne_of_none q hn)]; exact q
end
noncomputable def Rd (H : Hp) (a : Addr) (u : HO) : Prop := H a = some u ∨ ∃ o, H a = some (.frz o u)
theorem Rd.of {H : Hp} {a : Addr} {u : HO} (h : H a = some u) : Rd H a u := .inl h
theorem Rd.ok {P : Program} {w : World} {H : Hp} {h : Heap} {a : Addr} {u : HO} (r : Rd H a u) (x : HOk P w H h) : ObjOk P w H h a u := by
  rcases r with r | ⟨o, r⟩
  · exact x a u r
  · obtain ⟨_, q⟩ := x a _ r
    exact q
noncomputable def Mut : Option HO → Prop
  | some (.lst _) => True
  | some (.dK _) => True
  | some (.dT _) => True
  | some (.set _ _) => True
  | some (.ins _ _ _) => True
  | some (.ext _) => True
  | _ => False
section
variable {P : Program} {w : World} {H : Hp} {h h' : Heap} {x e : Addr} {o' : HO}
theorem HOk.write (ok : HOk P w H h) (mu : Mut (H x)) (he : e = x ∨ H e = some (.own x)) (k : ∀ b u, b ≠ e → h.get? b = some u → h'.get? b = some u) (heo : ∃ u, h'.get? e = some u)
    (new : ObjOk P w (upd H x o') h' x o') : HOk P w (upd H x o') h' := fun b u q => by
  have nown : ∀ c y, H c = some (.own y) → c ≠ x := fun c y r z => by subst z; rw [r] at mu; exact mu
  have ntup : ∀ c xs, H c = some (.tup xs) → c ≠ x := fun c xs r z => by subst z; rw [r] at mu; exact mu
  by_cases hb : b = x
  · subst hb; rw [upd_same] at q; cases q; exact new
  · rw [upd_ne hb] at q
    by_cases hbe : b = e
    · have q' : H b = some (.own x) := by
        rcases he with z | z
        · exact absurd (hbe.trans z) hb
        · rw [hbe]; exact z
      rw [q] at q'; cases q'
      obtain ⟨v, hv⟩ := heo
      exact ⟨v, by rw [hbe]; exact hv⟩
    · refine (ok b u q).stay (fun c v hc r => k c v ?_ r) (fun c r => by rw [upd_ne (nown c b r)]; exact r) fun c xs r => by rw [upd_ne (ntup c xs r)]; exact r
      rcases hc with rfl | hc
      · exact hbe
      · rintro rfl
        rcases he with z | z
        · exact nown c b hc z
        · rw [hc] at z; cases z; exact hb rfl
end
structure Un (fs ex : List Addr) (H H' : Hp) (h h' : Heap) : Prop where
  keep : ∀ b o, h.get? b = some o → H b = none → b ∉ fs → b ∉ ex → h'.get? b = some o
  slot : ∀ b o, h.get? b = some o → H b = none → b ∈ fs → b ∉ ex → ∃ sl, h'.get? b = some { o with slots := sl }
  free : ∀ b o, h.get? b = some o → H b = none → b ∉ ex → H' b = none
  there : ∀ b o, h.get? b = some o → b ∉ ex → ∃ o', h'.get? b = some o'
  tups : ∀ b xs, H b = some (.tup xs) → H' b = some (.tup xs)
  frzs : ∀ b o u, H b = some (.frz o u) → H' b = some (.frz o u)
  tbls : ∀ b ps, H b = some (.tbl ps) → ∃ more, H' b = some (.tbl (ps ++ more))
section
variable {fs fs' ex ex' : List Addr} {H H1 H2 : Hp} {h h1 h2 h' : Heap} {a x e : Addr} {o : HO}
theorem Un.any (u : Un fs ex H H1 h h1) {b : Addr} {ob : Obj} (q : h.get? b = some ob) (n : H b = none) (hx : b ∉ ex) : ∃ sl, h1.get? b = some { ob with slots := sl } := by
  by_cases hb : b ∈ fs
  · exact u.slot b ob q n hb hx
  · exact ⟨ob.slots, u.keep b ob q n hb hx⟩
theorem Un.trans (a : Un fs ex H H1 h h1) (b : Un fs ex H1 H2 h1 h2) : Un fs ex H H2 h h2 where
  keep := fun c ob q n hc hx => b.keep c ob (a.keep c ob q n hc hx) (a.free c ob q n hx) hc hx
  slot := fun c ob q n hc hx => by
    obtain ⟨sl, e1⟩ := a.slot c ob q n hc hx
    obtain ⟨sl', e2⟩ := b.slot c _ e1 (a.free c ob q n hx) hc hx
    exact ⟨sl', e2⟩
  free := fun c ob q n hx => by
    obtain ⟨o', e1⟩ := a.there c ob q hx
    exact b.free c o' e1 (a.free c ob q n hx) hx
  there := fun c ob q hx => by
    obtain ⟨o', e1⟩ := a.there c ob q hx
    exact b.there c o' e1 hx
  tups := fun c xs q => b.tups c xs (a.tups c xs q)
  frzs := fun c ob xs q => b.frzs c ob xs (a.frzs c ob xs q)
  tbls := fun c ps q => by
    obtain ⟨m1, e1⟩ := a.tbls c ps q
    obtain ⟨m2, e2⟩ := b.tbls c _ e1
    exact ⟨m1 ++ m2, by rw [e2, Array.append_assoc]⟩
theorem Un.kept (k : ∀ b u, h.get? b = some u → h'.get? b = some u) : Un fs ex H H h h' :=
  ⟨fun b ob q _ _ _ => k b ob q, fun b ob q _ _ _ => ⟨ob.slots, k b ob q⟩, fun _ _ _ n _ => n, fun b ob q _ => ⟨ob, k b ob q⟩, fun _ _ q => q, fun _ _ _ q => q, fun _ ps q => ⟨#[], by rw [q]; simp⟩⟩
theorem Un.refl : Un fs ex H H h h := Un.kept fun _ _ q => q
theorem Un.laid (k : ∀ b u, h.get? b = some u → h'.get? b = some u) (hp : h.objs.size ≤ a) (hn : H a = none) : Un fs ex H (upd H a o) h h' where
  keep := fun b u q _ _ _ => k b u q
  slot := fun b u q _ _ _ => ⟨u.slots, k b u q⟩
  free := fun b u q n _ => by rw [upd_ne (Nat.ne_of_lt (Nat.lt_of_lt_of_le (Heap.lt_size q) hp))]; exact n
  there := fun b u q _ => ⟨u, k b u q⟩
  tups := fun b xs q => by rw [upd_ne (ne_of_none q hn)]; exact q
  frzs := fun b u xs q => by rw [upd_ne (ne_of_none q hn)]; exact q
  tbls := fun b ps q => ⟨#[], by rw [upd_ne (ne_of_none q hn), q]; simp⟩
theorem Un.write (mu : Mut (H x)) (he : e = x ∨ H e = some (.own x)) (k : ∀ b u, b ≠ e → h.get? b = some u → h'.get? b = some u) (heo : ∃ u, h'.get? e = some u) : Un fs ex H (upd H x o) h h' := by
  have hx : ∀ b, H b = none → b ≠ x := fun b n z => by subst z; rw [n] at mu; exact mu
  have hb : ∀ b, H b = none → b ≠ e := fun b n z => by
    subst z
    rcases he with r | r
    · exact hx b n r
    · rw [n] at r; cases r
  have hm : ∀ b u, H b = some u → ¬ Mut (some u) → b ≠ x := fun b u q nm z => by subst z; rw [q] at mu; exact nm mu
  refine ⟨fun b u q n _ _ => k b u (hb b n) q, fun b u q n _ _ => ⟨u.slots, k b u (hb b n) q⟩, fun b u q n _ => by rw [upd_ne (hx b n)]; exact n, fun b u q _ => ?_,
    fun b xs q => by rw [upd_ne (hm b _ q fun z => z)]; exact q, fun b u xs q => by rw [upd_ne (hm b _ q fun z => z)]; exact q, fun b ps q => ⟨#[], by rw [upd_ne (hm b _ q fun z => z), q]; simp⟩⟩
  by_cases hbe : b = e
  · subst hbe; exact heo
  · exact ⟨u, k b u hbe q⟩
theorem Un.mono (u : Un fs ex H H1 h h1) (hs : ∀ b ∈ fs, b ∈ fs') (hx : ∀ b ∈ ex, b ∈ ex') : Un fs' ex' H H1 h h1 :=
  ⟨fun b ob q n hb he => u.keep b ob q n (fun z => hb (hs b z)) fun z => he (hx b z), fun _ _ q n _ he => u.any q n fun z => he (hx _ z), fun b ob q n he => u.free b ob q n fun z => he (hx b z), fun b ob q he => u.there b ob q fun z => he (hx b z), u.tups, u.frzs, u.tbls⟩
end
noncomputable def trk (h : Heap) (H : Hp) : List Addr := (List.range h.objs.size).filter fun a => (H a).isSome
noncomputable def hidT (h : Heap) (H : Hp) : Heap := PySem.W.hideAll h (trk h H)
theorem hidT_size (h : Heap) (H : Hp) : (hidT h H).objs.size = h.objs.size := PySem.W.hideAll_size _ _
theorem hidT_get {h : Heap} {H : Hp} {b : Addr} {o : Obj} (e : h.get? b = some o) (n : H b = none) : (hidT h H).get? b = some o :=
  PySem.W.hideAll_get _ e fun hm => by
    have q : (H b).isSome = true := (List.mem_filter.mp hm).2
    rw [n] at q; simp at q
theorem of_hidT {h : Heap} {H : Hp} {b : Addr} {o : Obj} (e : (hidT h H).get? b = some o) : h.get? b = some o ∧ H b = none := by
  have e' : h.get? b = some o := PySem.W.of_hideAll (trk h H) e
  refine ⟨e', ?_⟩
  cases q : H b with
  | none => rfl
  | some x =>
    have hm : b ∈ trk h H := List.mem_filter.mpr ⟨List.mem_range.mpr (Heap.lt_size e'), by simp [q]⟩
    have z : (hidT h H).get? b = none := PySem.W.hideAll_none (trk h H) hm
    rw [z] at e; cases e
noncomputable def allNews (g h : Heap) (L : Addr) : List (Addr × Obj) := (List.range h.objs.size).filterMap fun a => if a = L ∨ (g.get? a).isSome = true then none else (h.get? a).map fun o => (a, o)
noncomputable def rest (g h : Heap) (L d : Addr) : List (Addr × Obj) := (allNews g h L).filter fun p => decide (p.1 ≠ d)
end L2
namespace L2
open PySem PySem.Spec PyProof.Rows
structure Mod (K : PySem.W.Frag) (mg : Str → Option Value) (base : Heap) : Prop where
  kin : K.In base
  glob : base.Ns mainGlobals mg
  blt : ∃ mb, base.Ns builtinsNs mb ∧ ∀ x : Str, x ≠ "__name__" → mb x = bootBuiltins x
  nolimit : base.NoLimit
structure Cx where
  prog : Program
  w : World
  K : PySem.W.Frag
  mg : Str → Option Value
  base : Heap
  A : Around
  N : List Str
  s₀ : Shared
  H₀ : Hp
  env : Env
  outer : List Env
  stack : List Env
  ex : List Addr
  fn : Str → Bool
  calm : Bool
  pn : List (Addr × Obj)
  xe : Value → Shared → Prop
noncomputable def frs (l : List Env) : List Addr := l.filterMap (·.frame)
noncomputable abbrev Cx.fs (X : Cx) : List Addr := frs X.outer
noncomputable def Vis (sc : Scope) (x : Str) : Prop := sc.names.lookup x = some .local ∨ sc.names.lookup x = some .cell ∨ sc.names.lookup x = some .free
noncomputable def Loc (sc : Scope) (x : Str) : Prop := sc.names.lookup x = some .local ∨ sc.names.lookup x = some .cell
noncomputable def Look (env : Env) (h : Heap) (m : Str → Option Value) (x : Str) (u : Value) : Prop :=
  (env.kindOf x = some .local ∧ m x = some u) ∨ ((env.kindOf x = some .cell ∨ env.kindOf x = some .free) ∧ ∃ c, env.cells.lookup x = some c ∧ h.IsCell c (some u))
structure Cx.Ok (X : Cx) : Prop where
  mod : Mod X.K X.mg X.base
  kind : X.env.scope.kind = .function
  glob : X.env.globals = mainGlobals
  blt : X.env.builtins = builtinsNs
  above : X.s₀.heap.objs.size ≤ X.env.locals
  inj : ∀ x y c, X.env.cells.lookup x = some c → X.env.cells.lookup y = some c → x = y
  has : ∀ x, (X.env.kindOf x = some .cell ∨ X.env.kindOf x = some .free) → ∃ c, X.env.cells.lookup x = some c
  cab : ∀ x c, X.fn x = true → X.env.cells.lookup x = some c → X.s₀.heap.objs.size ≤ c
  hd : X.calm = true → X.A.handled = none
  frames : X.A.frames = some X.stack
  stk : X.stack = X.outer ∨ (X.stack = X.env :: X.outer ∧ X.env.frame = some X.env.locals)
  exf : ∀ b ∈ X.ex, b ≠ X.env.locals ∧ ∀ x c, X.env.cells.lookup x = some c → c ≠ b
  bs : ∀ b o, X.base.get? b = some o → X.s₀.heap.get? b = some o ∧ X.H₀ b = none
  bsz : X.base.objs.size ≤ X.s₀.heap.objs.size
  noex : ∀ b o, X.base.get? b = some o → b ∉ X.ex
  exfs : ∀ b ∈ X.ex, b ∉ X.fs
  funs : X.s₀.heap.FunFrames X.base X.outer
  frf : ∀ b ∈ X.fs, X.H₀ b = none
structure Inv (X : Cx) (pins : List (Addr × Obj)) (σ : List (Option V)) (H : Hp) (s : Shared) : Prop where
  ok : X.Ok
  os : s.os = X.s₀.os
  bare : AllBare s.gens
  base : Un X.fs X.ex X.H₀ H X.s₀.heap s.heap
  loc : ∃ m, s.heap.Ns X.env.locals m ∧ ∀ (i : Nat) (x : Str) (v : V), X.N[i]? = some x → σ[i]? = some (some v) → Vis X.env.scope x → ∃ u, RelV v u ∧ Look X.env s.heap m x u
  cell : ∀ x c, X.env.cells.lookup x = some c → ∃ v, s.heap.IsCell c v
  free : H X.env.locals = none
  freeC : ∀ x c, X.env.cells.lookup x = some c → H c = none
  pin : ∀ p ∈ X.pn ++ pins, s.heap.get? p.1 = some p.2 ∧ H p.1 = none ∧ p.1 ≠ X.env.locals ∧ p.1 ∉ X.fs ∧ ∀ v, p.2.data ≠ .cell v
  hok : HOk X.prog X.w H s.heap
  len : σ.length = X.N.length
section
variable {X : Cx} {pins : List (Addr × Obj)} {σ : List (Option V)} {H H' : Hp} {s : Shared} {h' : Heap}
theorem Cx.Ok.nofr (ok : X.Ok) {b : Addr} {o : Obj} (e : X.base.get? b = some o) : b ∉ X.fs := fun hb => by
  have := (ok.funs.mem hb).1
  rw [e] at this; cases this
theorem Inv.bs (I : Inv X pins σ H s) : ∀ b o, X.base.get? b = some o → s.heap.get? b = some o ∧ H b = none := fun b o e =>
  ⟨I.base.keep b o (I.ok.bs b o e).1 (I.ok.bs b o e).2 (I.ok.nofr e) (I.ok.noex b o e), I.base.free b o (I.ok.bs b o e).1 (I.ok.bs b o e).2 (I.ok.noex b o e)⟩
theorem Inv.bk (I : Inv X pins σ H s) : ∀ b o, X.base.get? b = some o → s.heap.get? b = some o := fun b o e => (I.bs b o e).1
theorem Inv.mod (I : Inv X pins σ H s) : Mod X.K X.mg X.base := I.ok.mod
theorem Inv.kIn (I : Inv X pins σ H s) : X.K.In s.heap := I.ok.mod.kin.keeps I.bk
theorem Inv.nolimit (I : Inv X pins σ H s) : s.heap.NoLimit := I.ok.mod.nolimit.keeps I.bk
theorem Inv.fr (I : Inv X pins σ H s) : ∃ m, Fr X.base X.env.locals s.heap m :=
  let ⟨m, hn, _⟩ := I.loc
  ⟨m, hn, I.bk, Nat.le_trans I.ok.bsz I.ok.above⟩
theorem Inv.lt (I : Inv X pins σ H s) : X.env.locals < s.heap.objs.size := let ⟨_, hn, _⟩ := I.loc; hn.lt
theorem Inv.sz (I : Inv X pins σ H s) : X.s₀.heap.objs.size ≤ s.heap.objs.size := Nat.le_trans I.ok.above (Nat.le_of_lt I.lt)
theorem Inv.nofs (I : Inv X pins σ H s) {a : Addr} (h : s.heap.objs.size ≤ a) : a ∉ X.fs := fun hb => by
  obtain ⟨_, o, ho, _⟩ := I.ok.funs.mem hb
  exact absurd (Nat.lt_of_lt_of_le (Heap.lt_size ho) (Nat.le_trans I.sz h)) (Nat.lt_irrefl _)
theorem Inv.cne (I : Inv X pins σ H s) : ∀ x c, X.env.cells.lookup x = some c → c ≠ X.env.locals := fun x c e z => by
  obtain ⟨v, o, ho, hd⟩ := I.cell x c e
  obtain ⟨m, ⟨o', es, ep, ho', hd', _⟩, _⟩ := I.loc
  rw [z, ho'] at ho; cases ho; rw [hd'] at hd; cases hd
theorem Inv.funs (I : Inv X pins σ H s) : s.heap.FunFrames X.base X.outer := by
  have all : ∀ (l : List Env), (∀ b ∈ frs l, b ∈ X.fs) → X.s₀.heap.FunFrames X.base l → s.heap.FunFrames X.base l := by
    intro l
    induction l with
    | nil => intro _ _; trivial
    | cons env r ih =>
      intro hs hl
      obtain ⟨hk, ⟨L, o, hf, hn, ho, hd⟩, hr⟩ := hl
      have hL : L ∈ X.fs := hs L (by unfold frs; rw [List.filterMap_cons, hf]; exact List.mem_cons_self)
      obtain ⟨sl, e⟩ := I.base.slot L o ho (I.ok.frf L hL) hL fun z => I.ok.exfs L z hL
      exact ⟨hk, ⟨L, _, hf, hn, e, hd⟩, ih (fun b hb => hs b (by unfold frs; rw [List.filterMap_cons, hf]; exact List.mem_cons_of_mem _ hb)) hr⟩
  exact all X.outer (fun _ hb => hb) I.ok.funs
theorem Inv.stack (I : Inv X pins σ H s) : s.heap.FunFrames X.base X.stack := by
  rcases I.ok.stk with e | ⟨e, hf⟩
  · rw [e]; exact I.funs
  · rw [e]
    obtain ⟨m, hn, _⟩ := I.loc
    refine .cons (by rw [I.ok.kind]; decide) hf hn ?_ I.funs
    exact Heap.get?_none_of_le (Nat.le_trans I.ok.bsz I.ok.above)
theorem Inv.stkSub (I : Inv X pins σ H s) : ∀ b ∈ frs X.stack, b ∈ X.env.locals :: X.fs := fun b hb => by
  rcases I.ok.stk with e | ⟨e, hf⟩
  · rw [e] at hb; exact List.mem_cons_of_mem _ hb
  · rw [e] at hb
    unfold frs at hb
    rw [List.filterMap_cons, hf] at hb
    exact hb
theorem Inv.stkFree (I : Inv X pins σ H s) : ∀ b ∈ frs X.stack, H b = none := fun b hb => by
  rcases List.mem_cons.mp (I.stkSub b hb) with e | hb
  · rw [e]; exact I.free
  · obtain ⟨_, o, ho, _⟩ := I.ok.funs.mem hb
    exact I.base.free b o ho (I.ok.frf b hb) fun z => I.ok.exfs b z hb
theorem Inv.step {g' : Array GenState} {t' : Nat} {d' : Drawn} {ch : List Addr} (I : Inv X pins σ H s)
    (hch : ∀ b ∈ ch, (b ∈ X.ex ∨ X.s₀.heap.objs.size ≤ b) ∧ b ≠ X.env.locals ∧ (∀ x c, X.env.cells.lookup x = some c → c ≠ b) ∧ ∀ p ∈ X.pn ++ pins, p.1 ≠ b)
    (keep : ∀ b o, b ≠ X.env.locals → b ∉ X.fs → b ∉ ch → s.heap.get? b = some o → H b = none → h'.get? b = some o)
    (slot : ∀ b o, b ≠ X.env.locals → b ∈ X.fs → b ∉ ch → s.heap.get? b = some o → H b = none → ∃ sl, h'.get? b = some { o with slots := sl }) (free : ∀ b o, b ∉ ch → s.heap.get? b = some o → H b = none → H' b = none)
    (there : ∀ b o, b ∉ ch → s.heap.get? b = some o → ∃ o', h'.get? b = some o')
    (tups : ∀ b xs, H b = some (.tup xs) → H' b = some (.tup xs)) (frzs : ∀ b o u, H b = some (.frz o u) → H' b = some (.frz o u)) (tbls : ∀ b ps, H b = some (.tbl ps) → ∃ more, H' b = some (.tbl (ps ++ more)))
    (ns : ∀ m, s.heap.Ns X.env.locals m → h'.Ns X.env.locals m) (hok : HOk X.prog X.w H' h') (hg : AllBare g') :
    Inv X pins σ H' { s with heap := h', gens := g', drawn := d', toks := t' } := by
  have neL : ∀ b o, X.s₀.heap.get? b = some o → b ≠ X.env.locals := fun b o e => Nat.ne_of_lt (Nat.lt_of_lt_of_le (Heap.lt_size e) I.ok.above)
  have neC : ∀ b o, X.s₀.heap.get? b = some o → b ∉ X.ex → b ∉ ch := fun b o e hx hb => by
    rcases (hch b hb).1 with z | z
    · exact hx z
    · exact absurd (Nat.lt_of_lt_of_le (Heap.lt_size e) z) (Nat.lt_irrefl _)
  have cellK : ∀ x c, X.env.cells.lookup x = some c → ∀ v, s.heap.IsCell c v → h'.IsCell c v := fun x c e v ⟨o, ho, hd⟩ => by
    have nch : c ∉ ch := fun z => (hch c z).2.2.1 x c e rfl
    by_cases hc : c ∈ X.fs
    · obtain ⟨sl, q⟩ := slot c o (I.cne x c e) hc nch ho (I.freeC x c e)
      exact ⟨_, q, hd⟩
    · exact ⟨o, keep c o (I.cne x c e) hc nch ho (I.freeC x c e), hd⟩
  refine ⟨I.ok, I.os, hg, ⟨fun b o e n hb hx => ?_, fun b o e n hb hx => ?_, fun b o e n hx => ?_, fun b o e hx => ?_, fun b xs e => tups b xs (I.base.tups b xs e), fun b o xs e => frzs b o xs (I.base.frzs b o xs e), fun b ps e => ?_⟩, ?_, fun x c e => ?_, ?_, fun x c e => ?_, fun p hp => ?_, hok, I.len⟩
  · exact keep b o (neL b o e) hb (neC b o e hx) (I.base.keep b o e n hb hx) (I.base.free b o e n hx)
  · obtain ⟨sl, e1⟩ := I.base.slot b o e n hb hx
    obtain ⟨sl', e2⟩ := slot b _ (neL b o e) hb (neC b o e hx) e1 (I.base.free b o e n hx)
    exact ⟨sl', e2⟩
  · obtain ⟨o', e1⟩ := I.base.there b o e hx
    exact free b o' (neC b o e hx) e1 (I.base.free b o e n hx)
  · obtain ⟨o', e1⟩ := I.base.there b o e hx
    exact there b o' (neC b o e hx) e1
  · obtain ⟨m1, e1⟩ := I.base.tbls b ps e
    obtain ⟨m2, e2⟩ := tbls b _ e1
    exact ⟨m1 ++ m2, by rw [e2, Array.append_assoc]⟩
  · obtain ⟨m, hn, hl⟩ := I.loc
    refine ⟨m, ns m hn, fun i x v e1 e2 e3 => ?_⟩
    obtain ⟨u, r, l⟩ := hl i x v e1 e2 e3
    refine ⟨u, r, ?_⟩
    rcases l with l | ⟨k, c, e, z⟩
    · exact .inl l
    · exact .inr ⟨k, c, e, cellK x c e _ z⟩
  · obtain ⟨v, z⟩ := I.cell x c e
    exact ⟨v, cellK x c e v z⟩
  · obtain ⟨m, ⟨o, _, _, ho, _⟩, _⟩ := I.loc
    exact free _ o (fun z => (hch _ z).2.1 rfl) ho I.free
  · obtain ⟨v, o, ho, hd⟩ := I.cell x c e
    exact free c o (fun z => (hch c z).2.2.1 x c e rfl) ho (I.freeC x c e)
  · obtain ⟨e, n, ne, nf, d⟩ := I.pin p hp
    have nch : p.1 ∉ ch := fun z => (hch p.1 z).2.2.2 p hp rfl
    exact ⟨keep p.1 p.2 ne nf nch e n, free p.1 p.2 nch e n, ne, nf, d⟩
theorem Inv.un {t' : Nat} (I : Inv X pins σ H s) (u : Un X.fs [] H H' s.heap h') (hok : HOk X.prog X.w H' h') : Inv X pins σ H' { s with heap := h', toks := t' } := by
  obtain ⟨m, ⟨o, es, ep, ho, r⟩, _⟩ := id I.loc
  obtain ⟨sl, hL⟩ := u.any ho I.free (by simp)
  exact I.step (g' := s.gens) (d' := s.drawn) (ch := []) (fun _ z => nomatch z) (fun b o _ hb _ e n => u.keep b o e n hb (by simp)) (fun b o _ hb _ e n => u.slot b o e n hb (by simp)) (fun b o _ e n => u.free b o e n (by simp)) (fun b o _ e => u.there b o e (by simp)) u.tups u.frzs u.tbls (fun m' hm => by
    obtain ⟨o', es', ep', ho', r'⟩ := hm
    rw [ho] at ho'; cases ho'
    exact ⟨_, es', ep', hL, r'⟩) hok I.bare
theorem Inv.call {g' : Array GenState} {t' : Nat} {d' : Drawn} {ch : List Addr} (I : Inv X pins σ H s) (u : Un (frs X.stack) ch H H' s.heap h') (hok : HOk X.prog X.w H' h') (hg : AllBare g')
    (hch : ∀ b ∈ ch, (b ∈ X.ex ∨ X.s₀.heap.objs.size ≤ b) ∧ b ≠ X.env.locals ∧ (∀ x c, X.env.cells.lookup x = some c → c ≠ b) ∧ ∀ p ∈ X.pn ++ pins, p.1 ≠ b) :
    Inv X pins σ H' { s with heap := h', gens := g', drawn := d', toks := t' } := by
  obtain ⟨m, ⟨o, es, ep, ho, r⟩, _⟩ := id I.loc
  obtain ⟨sl, hL⟩ := u.any ho I.free fun z => (hch _ z).2.1 rfl
  exact I.step (ch := ch) hch (fun b o hL hb hc e n => u.keep b o e n (fun z => (List.mem_cons.mp (I.stkSub b z)).elim hL hb) hc) (fun b o _ _ hc e n => u.any e n hc) (fun b o hc e n => u.free b o e n hc) (fun b o hc e => u.there b o e hc) u.tups u.frzs u.tbls (fun m' hm => by
    obtain ⟨o', es', ep', ho', r'⟩ := hm
    rw [ho] at ho'; cases ho'
    exact ⟨_, es', ep', hL, r'⟩) hok hg
theorem Inv.turned {t' : Nat} {it : Addr} (I : Inv X pins σ H s) (k : ∀ b o, b ≠ it → s.heap.get? b = some o → h'.get? b = some o) (hn : H it = none) (hL : it ≠ X.env.locals)
    (h1 : it ∈ X.ex ∨ X.s₀.heap.objs.size ≤ it) (h2 : ∀ x c, X.env.cells.lookup x = some c → c ≠ it) (h3 : ∀ p ∈ X.pn ++ pins, p.1 ≠ it) : Inv X pins σ H { s with heap := h', toks := t' } := by
  have nit : ∀ b u, H b = some u → b ≠ it := fun b u e z => by rw [z, hn] at e; cases e
  refine I.step (g' := s.gens) (d' := s.drawn) (ch := [it]) (fun b hb => ?_) (fun b o _ _ hc e _ => k b o (fun z => hc (by simp [z])) e) (fun b o _ _ hc e _ => ⟨o.slots, k b o (fun z => hc (by simp [z])) e⟩) (fun _ _ _ _ n => n)
    (fun b o hc e => ⟨o, k b o (fun z => hc (by simp [z])) e⟩) (fun _ _ e => e) (fun _ _ _ e => e) (fun b ps e => ⟨#[], by rw [e]; simp⟩) (fun m hm => ?_) (fun b u e => ?_) I.bare
  · have e : b = it := by simpa using hb
    subst e
    exact ⟨h1, hL, h2, h3⟩
  · obtain ⟨o, es, ep, ho, r⟩ := hm
    exact ⟨o, es, ep, k _ o (Ne.symm hL) ho, r⟩
  · refine (I.hok b u e).stay (fun c v hc q => k c v ?_ q) (fun _ q => q) fun _ _ q => q
    rcases hc with z | z
    · rw [z]; exact nit b u e
    · exact nit c _ z
theorem Inv.tok (I : Inv X pins σ H s) (t : Nat) : Inv X pins σ H { s with toks := t } := I.un (h' := s.heap) (t' := t) Un.refl I.hok
theorem Inv.kept {t' : Nat} (I : Inv X pins σ H s) (k : ∀ b u, s.heap.get? b = some u → h'.get? b = some u) : Inv X pins σ H { s with heap := h', toks := t' } := I.un (Un.kept k) (I.hok.kept k)
theorem Inv.laid {a : Addr} {o : HO} {t' : Nat} (I : Inv X pins σ H s) (k : ∀ b u, s.heap.get? b = some u → h'.get? b = some u) (hp : s.heap.objs.size ≤ a) (new : ObjOk X.prog X.w (upd H a o) h' a o) :
    Inv X pins σ (upd H a o) { s with heap := h', toks := t' } := I.un (Un.laid k hp (I.hok.fresh hp)) (I.hok.laid k hp new)
theorem Inv.write {x e : Addr} {o : HO} {t' : Nat} (I : Inv X pins σ H s) (mu : Mut (H x)) (he : e = x ∨ H e = some (.own x)) (k : ∀ b u, b ≠ e → s.heap.get? b = some u → h'.get? b = some u) (heo : ∃ u, h'.get? e = some u)
    (new : ObjOk X.prog X.w (upd H x o) h' x o) : Inv X pins σ (upd H x o) { s with heap := h', toks := t' } := I.un (Un.write mu he k heo) (I.hok.write mu he k heo new)
theorem Inv.weak {σ' : List (Option V)} (I : Inv X pins σ H s) (hl : σ'.length = σ.length) (w : ∀ (i : Nat) v, σ'[i]? = some (some v) → σ[i]? = some (some v)) : Inv X pins σ' H s :=
  ⟨I.ok, I.os, I.bare, I.base, let ⟨m, hn, hl'⟩ := I.loc; ⟨m, hn, fun i x v e1 e2 e3 => hl' i x v e1 (w i v e2) e3⟩, I.cell, I.free, I.freeC, I.pin, I.hok, hl.trans I.len⟩
theorem Inv.pins_of {pins' : List (Addr × Obj)} (I : Inv X pins σ H s) (h : ∀ p ∈ pins', s.heap.get? p.1 = some p.2 ∧ H p.1 = none ∧ p.1 ≠ X.env.locals ∧ p.1 ∉ X.fs ∧ ∀ v, p.2.data ≠ .cell v) : Inv X pins' σ H s :=
  ⟨I.ok, I.os, I.bare, I.base, I.loc, I.cell, I.free, I.freeC, fun p hp => (List.mem_append.mp hp).elim (fun z => I.pin p (List.mem_append_left _ z)) (h p), I.hok, I.len⟩
theorem nodup_ix {N : List Str} (hN : N.Nodup) {i j : Nat} {x : Str} (a : N[i]? = some x) (b : N[j]? = some x) : i = j := by
  obtain ⟨h1, e1⟩ := List.getElem?_eq_some_iff.mp a
  obtain ⟨h2, e2⟩ := List.getElem?_eq_some_iff.mp b
  exact (List.getElem_inj hN).mp (e1.trans e2.symm)
theorem store_ok2 {M : Model} {A : Around} {E : Value → Shared → Prop} {i : Nat} {x : Str} {v : V} {u : Value} {Q : Unit → Shared → Prop} (I : Inv X pins σ H s) (hN : X.N.Nodup) (hi : X.N[i]? = some x) (hx : Loc X.env.scope x) (r : RelV v u)
    (h : ∀ s', Inv X pins (σ.set i (some v)) H s' → (∃ a, Heap.SameBut a s.heap s'.heap ∧ (a = X.env.locals ∨ X.env.cells.lookup x = some a)) → Q () s') (hf : X.fn x = true ∨ X.env.scope.names.lookup x = some .local := by first | exact .inl rfl | exact .inr rfl | assumption) : wpAny M A (storeName X.env x u) Q E s := by
  obtain ⟨m, hn, hl⟩ := id I.loc
  have hcls : (X.env.scope.kind == .class || (X.env.scope.kind == .module && X.env.locals != X.env.globals)) = false := by rw [I.ok.kind]; rfl
  have hiσ : i < σ.length := by rw [I.len]; exact (List.getElem?_eq_some_iff.mp hi).1
  have cne := I.cne
  have tracked : ∀ {a : Addr} {h' : Heap}, (∃ o, s.heap.get? a = some o ∧ H a = none) → Heap.SameBut a s.heap h' → HOk X.prog X.w H h' := fun {a h'} ha hs b ob e => by
    obtain ⟨_, _, hfree⟩ := ha
    refine (I.hok b ob e).stay (fun c w' hc q => (hs.2 c ?_).trans q) (fun _ q => q) fun _ _ q => q
    rintro rfl
    rcases hc with rfl | hc
    · rw [hfree] at e; cases e
    · rw [hfree] at hc; cases hc
  rcases hx with hk | hk
  · refine wpAny_storeName_local hk hn (fun h' hn' hs => ?_) hcls
    obtain ⟨oL, _, _, hoL, _⟩ := id hn
    refine h _ ⟨I.ok, I.os, I.bare, ⟨fun b o e n hb hx => ?_, fun b o e n hb hx => ?_, I.base.free, fun b o e hx => ?_, I.base.tups, I.base.frzs, I.base.tbls⟩, ⟨_, hn', fun j y v' e1 e2 e3 => ?_⟩, fun y c e => ?_, I.free, I.freeC, fun p hp => ?_, tracked ⟨oL, hoL, I.free⟩ hs, by simpa using I.len⟩ ⟨_, hs, .inl rfl⟩
    · exact (hs.2 b (Nat.ne_of_lt (Nat.lt_of_lt_of_le (Heap.lt_size e) I.ok.above))).trans (I.base.keep b o e n hb hx)
    · obtain ⟨sl, e1⟩ := I.base.slot b o e n hb hx
      exact ⟨sl, (hs.2 b (Nat.ne_of_lt (Nat.lt_of_lt_of_le (Heap.lt_size e) I.ok.above))).trans e1⟩
    · obtain ⟨o', e1⟩ := I.base.there b o e hx
      exact ⟨o', (hs.2 b (Nat.ne_of_lt (Nat.lt_of_lt_of_le (Heap.lt_size e) I.ok.above))).trans e1⟩
    · by_cases hj : j = i
      · subst hj
        rw [hi] at e1; cases e1
        rw [List.getElem?_set_self hiσ] at e2
        cases e2
        exact ⟨u, r, .inl ⟨hk, by simp⟩⟩
      · rw [List.getElem?_set_ne (Ne.symm hj)] at e2
        obtain ⟨u', r', q⟩ := hl j y v' e1 e2 e3
        refine ⟨u', r', ?_⟩
        rcases q with ⟨k, e⟩ | ⟨k, c, e, z⟩
        · refine .inl ⟨k, ?_⟩
          have : y ≠ x := fun e => hj (nodup_ix hN e1 (e ▸ hi))
          simp [this, e]
        · exact .inr ⟨k, c, e, z.sameBut hs (cne y c e)⟩
    · obtain ⟨w', z⟩ := I.cell y c e
      exact ⟨w', z.sameBut hs (cne y c e)⟩
    · obtain ⟨e, n, ne, nf, d⟩ := I.pin p hp
      exact ⟨(hs.2 p.1 ne).trans e, n, ne, nf, d⟩
  · have hfn : X.fn x = true := by
      rcases hf with z | z
      · exact z
      · rw [z] at hk; cases hk
    obtain ⟨c, hc⟩ := I.ok.has x (.inl hk)
    obtain ⟨w', z⟩ := I.cell x c hc
    refine wpAny_storeName_cell I.ok.kind hk hc z (fun h' hc' hs => ?_)
    obtain ⟨oc, hoc, hocd⟩ := id z
    refine h { s with heap := h' } ⟨I.ok, I.os, I.bare, ⟨fun b o e n hb hx => ?_, fun b o e n hb hx => ?_, I.base.free, fun b o e hx => ?_, I.base.tups, I.base.frzs, I.base.tbls⟩, ⟨m, hn.sameBut hs (Ne.symm (cne x c hc)), fun j y v' e1 e2 e3 => ?_⟩, fun y c' e => ?_, I.free, I.freeC, fun p hp => ?_, tracked ⟨oc, hoc, I.freeC x c hc⟩ hs, by simpa using I.len⟩ ⟨c, hs, .inr hc⟩
    · exact (hs.2 b (Nat.ne_of_lt (Nat.lt_of_lt_of_le (Heap.lt_size e) (I.ok.cab x c hfn hc)))).trans (I.base.keep b o e n hb hx)
    · obtain ⟨sl, e1⟩ := I.base.slot b o e n hb hx
      exact ⟨sl, (hs.2 b (Nat.ne_of_lt (Nat.lt_of_lt_of_le (Heap.lt_size e) (I.ok.cab x c hfn hc)))).trans e1⟩
    · obtain ⟨o', e1⟩ := I.base.there b o e hx
      exact ⟨o', (hs.2 b (Nat.ne_of_lt (Nat.lt_of_lt_of_le (Heap.lt_size e) (I.ok.cab x c hfn hc)))).trans e1⟩
    · by_cases hj : j = i
      · subst hj
        rw [hi] at e1; cases e1
        rw [List.getElem?_set_self hiσ] at e2
        cases e2
        exact ⟨u, r, .inr ⟨.inl hk, c, hc, hc'⟩⟩
      · rw [List.getElem?_set_ne (Ne.symm hj)] at e2
        obtain ⟨u', r', q⟩ := hl j y v' e1 e2 e3
        refine ⟨u', r', ?_⟩
        rcases q with q | ⟨k, c', e, z'⟩
        · exact .inl q
        · refine .inr ⟨k, c', e, z'.sameBut hs ?_⟩
          rintro rfl
          exact hj (nodup_ix hN e1 (I.ok.inj _ _ _ e hc ▸ hi))
    · by_cases hcc : c' = c
      · subst hcc; exact ⟨_, hc'⟩
      · obtain ⟨w2, z2⟩ := I.cell y c' e
        exact ⟨w2, z2.sameBut hs hcc⟩
    · obtain ⟨e, n, ne, nf, d⟩ := I.pin p hp
      refine ⟨(hs.2 p.1 ?_).trans e, n, ne, nf, d⟩
      intro q
      rw [q, hoc] at e
      have q' : oc = p.2 := Option.some.inj e
      exact d w' (by rw [← q']; exact hocd)
theorem store_ok {M : Model} {A : Around} {E : Value → Shared → Prop} {i : Nat} {x : Str} {v : V} {u : Value} {Q : Unit → Shared → Prop} (I : Inv X pins σ H s) (hN : X.N.Nodup) (hi : X.N[i]? = some x) (hx : Loc X.env.scope x) (r : RelV v u)
    (h : ∀ s', Inv X pins (σ.set i (some v)) H s' → Q () s') (hf : X.fn x = true ∨ X.env.scope.names.lookup x = some .local := by first | exact .inl rfl | exact .inr rfl | assumption) : wpAny M A (storeName X.env x u) Q E s :=
  store_ok2 I hN hi hx r (fun s' I' _ => h s' I') hf
theorem Inv.call' {s' : Shared} {ch : List Addr} (I : Inv X pins σ H s) (ho : s'.os = s.os) (u : Un (frs X.stack) ch H H' s.heap s'.heap) (hok : HOk X.prog X.w H' s'.heap) (hg : AllBare s'.gens)
    (hch : ∀ b ∈ ch, (b ∈ X.ex ∨ X.s₀.heap.objs.size ≤ b) ∧ b ≠ X.env.locals ∧ (∀ x c, X.env.cells.lookup x = some c → c ≠ b) ∧ ∀ p ∈ X.pn ++ pins, p.1 ≠ b) : Inv X pins σ H' s' := by
  obtain ⟨h', g', d', t', o'⟩ := s'
  have e : o' = s.os := ho
  subst e
  exact I.call (g' := g') (t' := t') (d' := d') u hok hg hch
end
noncomputable abbrev XK := Value → Option Addr → Hp → Prop
noncomputable abbrev St := List (Option V)
noncomputable abbrev VK := V → Hp → Prop
noncomputable abbrev TE := St → Hp → VK → Prop
noncomputable abbrev TT := St → Hp → (Bool → Hp → Prop) → Prop
noncomputable abbrev TA := St → Hp → (List V → Hp → Prop) → Prop
structure Ends where
  nx : St → Hp → Prop
  rt : VK
  bk : St → Hp → Prop := fun _ _ => False
  ct : St → Hp → Prop := fun _ _ => False
noncomputable abbrev TS := Ends → St → Hp → Prop
noncomputable def EP (X : Cx) (pins : List (Addr × Obj)) (σ : St) (Q : VK) (u : Value) (s' : Shared) : Prop := ∃ v H', Inv X pins σ H' s' ∧ RelV v u ∧ Q v H'
noncomputable def TP (X : Cx) (pins : List (Addr × Obj)) (σ : St) (Q : Bool → Hp → Prop) (b : Bool) (s' : Shared) : Prop := ∃ H', Inv X pins σ H' s' ∧ Q b H'
noncomputable def AP (X : Cx) (pins : List (Addr × Obj)) (σ : St) (Q : List V → Hp → Prop) (us : List Value) (s' : Shared) : Prop := ∃ vs H', Inv X pins σ H' s' ∧ Vals vs us ∧ Q vs H'
noncomputable def SP (X : Cx) (pins : List (Addr × Obj)) (D : Ends) (f : Flow) (s' : Shared) : Prop :=
  match f with
  | .next => ∃ σ' H', Inv X pins σ' H' s' ∧ D.nx σ' H'
  | .brk => ∃ σ' H', Inv X pins σ' H' s' ∧ D.bk σ' H'
  | .cont => ∃ σ' H', Inv X pins σ' H' s' ∧ D.ct σ' H'
  | .ret u => ∃ v σ' H', Inv X pins σ' H' s' ∧ RelV v u ∧ D.rt v H'
noncomputable def PE (X : Cx) (e : Expr) (t : TE) : Prop :=
  ∀ (pins : List (Addr × Obj)) (s : Shared) (σ : St) (H : Hp) (Q : VK), Inv X pins σ H s → t σ H Q → wpAny (model X.prog X.w) X.A (eval e X.env) (EP X pins σ Q) X.xe s
noncomputable def PT (X : Cx) (e : Expr) (t : TT) : Prop :=
  ∀ (pins : List (Addr × Obj)) (s : Shared) (σ : St) (H : Hp) (Q : Bool → Hp → Prop), Inv X pins σ H s → t σ H Q → wpAny (model X.prog X.w) X.A (isTrue e X.env (eval e X.env)) (TP X pins σ Q) X.xe s
noncomputable def PW (X : Cx) (e : Expr) (t : TT) : Prop :=
  ∀ (whole : Sem Value) (pins : List (Addr × Obj)) (s : Shared) (σ : St) (H : Hp) (Q : Bool → Hp → Prop), Inv X pins σ H s → t σ H Q → wpAny (model X.prog X.w) X.A (isTrue e X.env whole) (TP X pins σ Q) X.xe s
theorem PW.pt {X : Cx} {e : Expr} {t : TT} (h : PW X e t) : PT X e t := h _
noncomputable def PA (X : Cx) (es : List Expr) (t : TA) : Prop :=
  ∀ (pos : Pos) (pins : List (Addr × Obj)) (s : Shared) (σ : St) (H : Hp) (Q : List V → Hp → Prop), Inv X pins σ H s → t σ H Q → wpAny (model X.prog X.w) X.A (spliced (backTo pos (starEach es X.env))) (AP X pins σ Q) X.xe s
noncomputable def PS (X : Cx) (st : Stmt) (t : TS) : Prop :=
  ∀ (pins : List (Addr × Obj)) (s : Shared) (σ : St) (H : Hp) (D : Ends), Inv X pins σ H s → t D σ H → wpAny (model X.prog X.w) X.A (exec st X.env) (SP X pins D) X.xe s
noncomputable def PSs (X : Cx) (st : List Stmt) (t : TS) : Prop :=
  ∀ (pins : List (Addr × Obj)) (s : Shared) (σ : St) (H : Hp) (D : Ends), Inv X pins σ H s → t D σ H → wpAny (model X.prog X.w) X.A (execs st X.env) (SP X pins D) X.xe s
theorem thn {α : Type} {t : Sem α} {Q Q' : α → Shared → Prop} {M : Model} {A : Around} {E : Value → Shared → Prop} {s : Shared} (h : wpAny M A t Q E s) (hQ : ∀ a s, Q a s → Q' a s) : wpAny M A t Q' E s := wpAny_mono h hQ fun _ _ x => x
end L2
namespace L2
open PySem PySem.Spec PyProof.Rows
section
variable {X : Cx}
noncomputable def tVar (i : Nat) : TE := fun σ H Q => ∃ v, σ[i]? = some (some v) ∧ Q v H
noncomputable def tC (v : V) : TE := fun _ H Q => Q v H
theorem pe_var {i : Nat} {x : Str} {pos : Pos} (hN : X.N[i]? = some x) (hv : Vis X.env.scope x) (hd : (x == ("__debug__" : Str)) = false := by decide) (hcd : (x == ("__classdict__" : Str)) = false := by decide) : PE X (.Name x pos) (tVar i) := by
  intro pins s σ H Q I h
  obtain ⟨v, e, h⟩ := h
  obtain ⟨m, hn, hl⟩ := I.loc
  obtain ⟨u, r, l⟩ := hl i x v hN e hv
  have fin : EP X pins σ Q u s := ⟨v, H, I, r, h⟩
  rcases l with ⟨hk, hm⟩ | ⟨hk, c, hc, hcell⟩
  · exact wpAny_Name (wpAny_loadName_local I.ok.kind hk hn hm fin) hd
  · rcases hk with hk | hk
    · exact wpAny_Name (wpAny_loadName_cell I.ok.kind hk hc hcell fin) hd
    · exact wpAny_Name (wpAny_loadName_free I.ok.kind hk hc hcell fin hcd) hd
theorem pe_int {i j pos} : PE X (.Constant (.int i) j pos) (tC (.int i)) := fun _ _ _ H _ I h => wpAny_Constant_int ⟨.int i, H, I.tok _, ⟨_, rfl⟩, h⟩
theorem pe_bl {b j pos} : PE X (.Constant (.bool b) j pos) (tC (.bl b)) := fun _ _ _ H _ I h => Constant_bool ⟨.bl b, H, I, rfl, h⟩
theorem pe_non {j pos} : PE X (.Constant .none j pos) (tC .non) := fun _ _ _ H _ I h => Constant_none ⟨.non, H, I, rfl, h⟩
theorem pe_str {x j pos} : PE X (.Constant (.str x) j pos) (tC (.str x)) := fun _ _ _ H _ I h => Calls.Constant_str ⟨.str x, H, I.tok _, ⟨_, rfl⟩, h⟩
noncomputable def Gl (X : Cx) (x : Str) : Prop := X.env.kindOf x = some .globalImplicit
theorem ld_glob {E : Value → Shared → Prop} {pins : List (Addr × Obj)} {s : Shared} {σ : St} {H : Hp} {x : Str} {u : Value} {pos : Pos} {Q : Value → Shared → Prop} (I : Inv X pins σ H s) (hg : Gl X x) (hm : X.mg x = some u) (h : Q u s)
    (hd : (x == ("__debug__" : Str)) = false := by decide) : wpAny (model X.prog X.w) X.A (eval (.Name x pos) X.env) Q E s :=
  Calls.Name_function_global I.ok.kind hg (Calls.loadGlobal_global (by rw [I.ok.glob]; exact I.mod.glob.keeps I.bk) hm h) hd
theorem ld_blt {E : Value → Shared → Prop} {pins : List (Addr × Obj)} {s : Shared} {σ : St} {H : Hp} {x : Str} {u : Value} {pos : Pos} {Q : Value → Shared → Prop} (I : Inv X pins σ H s) (hg : Gl X x) (hm : X.mg x = none) (hv : bootBuiltins x = some u) (h : Q u s)
    (hn : x ≠ "__name__" := by decide) (hd : (x == ("__debug__" : Str)) = false := by decide) : wpAny (model X.prog X.w) X.A (eval (.Name x pos) X.env) Q E s := by
  obtain ⟨mb, h1, h2⟩ := I.mod.blt
  exact Calls.Name_function_global I.ok.kind hg (Calls.loadGlobal_builtin (by rw [I.ok.glob]; exact I.mod.glob.keeps I.bk) hm (by rw [I.ok.blt]; exact h1.keeps I.bk) ((h2 x hn).trans hv) h) hd
theorem pe_bltn {x : Str} {v : V} {u : Value} {pos : Pos} (hg : Gl X x) (hm : X.mg x = none) (hv : bootBuiltins x = some u) (r : RelV v u) (hn : x ≠ "__name__" := by decide) (hd : (x == ("__debug__" : Str)) = false := by decide) : PE X (.Name x pos) (tC v) :=
  fun _ _ _ H _ I h => ld_blt I hg hm hv ⟨v, H, I, r, h⟩ hn hd
variable {a b : Expr} {ta tb : TE} {pos : Pos}
noncomputable def tB (t : TE) : TT := fun σ H Q => t σ H fun x H1 => ∃ c, x = .bl c ∧ Q c H1
variable {tA tB' : TT} {rest : List Expr}
noncomputable def tAnd (t u : TT) : TT := fun σ H Q => t σ H fun c H1 => if c = true then u σ H1 Q else Q false H1
noncomputable def tOr (t u : TT) : TT := fun σ H Q => t σ H fun c H1 => if c = true then Q true H1 else u σ H1 Q
noncomputable def tNot (t : TT) : TT := fun σ H Q => t σ H fun c H1 => Q (!c) H1
theorem pw_and1 (ha : PT X a tA) : PW X (.BoolOp .And [a] pos) tA := by
  intro wh pins s σ H Q I h
  refine isTrue_and (thn (ha pins s σ H Q I h) fun c s1 e => ?_)
  cases c with
  | true => exact isTrue_and_nil e
  | false => exact e
theorem pw_or1 (ha : PT X a tA) : PW X (.BoolOp .Or [a] pos) tA := by
  intro wh pins s σ H Q I h
  refine isTrue_or (thn (ha pins s σ H Q I h) fun c s1 e => ?_)
  cases c with
  | false => exact isTrue_or_nil e
  | true => exact e
theorem pw_and (ha : PT X a tA) (hb : PW X (.BoolOp .And (b :: rest) pos) tB') : PW X (.BoolOp .And (a :: b :: rest) pos) (tAnd tA tB') := by
  intro wh pins s σ H Q I h
  refine isTrue_and (thn (ha pins s σ H _ I h) fun c s1 ⟨H1, I1, q1⟩ => ?_)
  cases c with
  | true => exact hb wh pins s1 σ H1 Q I1 q1
  | false => exact ⟨H1, I1, q1⟩
theorem pw_or (ha : PT X a tA) (hb : PW X (.BoolOp .Or (b :: rest) pos) tB') : PW X (.BoolOp .Or (a :: b :: rest) pos) (tOr tA tB') := by
  intro wh pins s σ H Q I h
  refine isTrue_or (thn (ha pins s σ H _ I h) fun c s1 ⟨H1, I1, q1⟩ => ?_)
  cases c with
  | true => exact ⟨H1, I1, q1⟩
  | false => exact hb wh pins s1 σ H1 Q I1 q1
theorem pt_not (ha : PT X a tA) : PT X (.UnaryOp .Not a pos) (tNot tA) := by
  intro pins s σ H Q I h
  exact isTrue_not (ha pins s σ H (fun c H1 => Q (!c) H1) I h)
noncomputable def tAndV (ta tb : TE) : TE := fun σ H Q => ta σ H fun x H1 => ∃ c, x = .bl c ∧ if c = true then tb σ H1 Q else Q (.bl false) H1
noncomputable def tNotV (ta : TE) : TE := fun σ H Q => ta σ H fun x H1 => ∃ c, x = .bl c ∧ Q (.bl (!c)) H1
theorem pe_one {op} {t : TE} (h : PE X a t) : PE X (.BoolOp op [a] pos) t := fun pins s σ H Q I hw => BoolOp_one (h pins s σ H Q I hw)
theorem pe_and (ha : PE X a ta) (hb : PE X (.BoolOp .And (b :: rest) pos) tb) : PE X (.BoolOp .And (a :: b :: rest) pos) (tAndV ta tb) := by
  intro pins s σ H Q I h
  refine BoolOp_and (thn (ha pins s σ H _ I h) fun v s1 ⟨x, H1, I1, r1, q1⟩ => ?_)
  obtain ⟨c, rfl, q1⟩ := q1
  cases r1
  refine wpAny_truthy_bool ?_
  cases c with
  | true => exact hb pins s1 σ H1 Q I1 q1
  | false => exact ⟨.bl false, H1, I1, rfl, q1⟩
theorem pe_not (ha : PE X a ta) : PE X (.UnaryOp .Not a pos) (tNotV ta) := by
  intro pins s σ H Q I h
  refine UnaryOp_ (thn (ha pins s σ H _ I h) fun v s1 ⟨x, H1, I1, r1, q1⟩ => ?_)
  obtain ⟨c, rfl, q1⟩ := q1
  cases r1
  exact not_of (wpAny_truthy_bool ⟨.bl (!c), H1, I1, rfl, q1⟩)
end
end L2
namespace L2
open PySem PySem.Spec PyProof.Rows
noncomputable def SqL (K : PySem.W.Frag) (H : Hp) (a : Addr) (xs : List V) : Prop :=
  Rd H a (.lst xs) ∨
    ∃ (o : Obj) (its : Array Value) (n : Nat), K.lookup a = some o ∧ o.cls = .type "list" ∧ o.dict = none ∧ o.data = .seq its n ∧ its.size ≤ sizeLine ∧ Vals xs its.toList
noncomputable def SqT (K : PySem.W.Frag) (H : Hp) (a : Addr) (xs : List V) : Prop :=
  Rd H a (.tup xs) ∨
    ∃ (o : Obj) (its : Array Value) (n : Nat), K.lookup a = some o ∧ o.cls = .type "tuple" ∧ o.data = .seq its n ∧ its.size ≤ sizeLine ∧ Vals xs its.toList
noncomputable def absV : Value → Option V
  | .none => some .non
  | .bool b => some (.bl b)
  | .int i _ => some (.int i)
  | .str x _ => some (.str x)
  | .bytes b _ => some (.byt b)
  | .float b _ => some (.flt b)
  | .ref a => some (.ref a)
  | .type n => some (.ty n)
  | _ => none
theorem RelV.abs {x : V} {u : Value} (r : RelV x u) : absV u = some x := by
  cases x with
  | non => cases r; rfl
  | bl _ => cases r; rfl
  | int _ => obtain ⟨t, rfl⟩ := r; rfl
  | str _ => obtain ⟨t, rfl⟩ := r; rfl
  | byt _ => obtain ⟨t, rfl⟩ := r; rfl
  | flt _ => obtain ⟨t, rfl⟩ := r; rfl
  | ref _ => cases r; rfl
  | ty _ => cases r; rfl
theorem RelV.inj {x y : V} {u : Value} (r : RelV x u) (q : RelV y u) : x = y := Option.some.inj (r.abs.symm.trans q.abs)
theorem Vals.inj : ∀ {xs ys : List V} {us : List Value}, Vals xs us → Vals ys us → xs = ys
  | _, _, _, .nil, .nil => rfl
  | _, _, _, .cons r t, .cons r' t' => by rw [r.inj r', Vals.inj t t']
section
variable {X : Cx} {pins : List (Addr × Obj)} {σ : St} {H : Hp} {s : Shared} {a : Addr} {xs ys : List V}
theorem SqL.of {K : PySem.W.Frag} (h : H a = some (.lst xs)) : SqL K H a xs := .inl (.inl h)
theorem SqT.of {K : PySem.W.Frag} (h : H a = some (.tup xs)) : SqT K H a xs := .inl (.inl h)
theorem Inv.list (I : Inv X pins σ H s) (h : SqL X.K H a xs) : ∃ its : List Value, Vals xs its ∧ PlainL s.heap a its.toArray ∧ xs.length ≤ sizeLine := by
  rcases h with h | ⟨o, its, n, hk, hc, hd, hs, hz, r⟩
  · obtain ⟨z, its, n, r, e⟩ := h.ok I.hok
    exact ⟨its, r, ⟨_, n, e, rfl, rfl, rfl⟩, z⟩
  · refine ⟨its.toList, r, ⟨o, n, I.kIn a o hk, hc, hd, by simpa using hs⟩, ?_⟩
    have e := r.length
    simp only [Array.length_toList] at e
    omega
theorem Inv.tuple (I : Inv X pins σ H s) (h : SqT X.K H a xs) : ∃ its : List Value, Vals xs its ∧ IsTup s.heap a its.toArray ∧ xs.length ≤ sizeLine := by
  rcases h with h | ⟨o, its, n, hk, hc, hs, hz, r⟩
  · obtain ⟨z, its, r, p⟩ := h.ok I.hok
    exact ⟨its, r, p, z⟩
  · refine ⟨its.toList, r, ⟨o, I.kIn a o hk, hc, n, by simpa using hs⟩, ?_⟩
    have e := r.length
    simp only [Array.length_toList] at e
    omega
theorem Inv.list_inj (I : Inv X pins σ H s) (h : SqL X.K H a xs) (h' : SqL X.K H a ys) : xs = ys := by
  obtain ⟨its, r, ⟨o, n, e, _, _, d⟩, _⟩ := I.list h
  obtain ⟨its', r', ⟨o', n', e', _, _, d'⟩, _⟩ := I.list h'
  rw [e] at e'; cases e'
  rw [d] at d'
  injection d' with d1 _
  have : its = its' := by simpa using congrArg Array.toList d1
  subst this
  exact r.inj r'
theorem Inv.tuple_inj (I : Inv X pins σ H s) (h : SqT X.K H a xs) (h' : SqT X.K H a ys) : xs = ys := by
  obtain ⟨its, r, ⟨o, e, _, n, d⟩, _⟩ := I.tuple h
  obtain ⟨its', r', ⟨o', e', _, n', d'⟩, _⟩ := I.tuple h'
  rw [e] at e'; cases e'
  rw [d] at d'
  injection d' with d1 _
  have : its = its' := by simpa using congrArg Array.toList d1
  subst this
  exact r.inj r'
end
noncomputable abbrev Cx.wish (X : Cx) (E : Value → Shared → Prop) : Cx := { X with xe := E }
noncomputable abbrev Cx.nox (X : Cx) : Cx := X.wish fun _ _ => False
theorem Cx.Ok.wish {X : Cx} (ok : X.Ok) (E : Value → Shared → Prop) : (X.wish E).Ok :=
  ⟨ok.mod, ok.kind, ok.glob, ok.blt, ok.above, ok.inj, ok.has, ok.cab, ok.hd, ok.frames, ok.stk, ok.exf, ok.bs, ok.bsz, ok.noex, ok.exfs, ok.funs, ok.frf⟩
theorem Cx.Ok.unwish {X : Cx} {E : Value → Shared → Prop} (ok : (X.wish E).Ok) : X.Ok :=
  ⟨ok.mod, ok.kind, ok.glob, ok.blt, ok.above, ok.inj, ok.has, ok.cab, ok.hd, ok.frames, ok.stk, ok.exf, ok.bs, ok.bsz, ok.noex, ok.exfs, ok.funs, ok.frf⟩
section
variable {X : Cx} {pins : List (Addr × Obj)} {σ : St} {H : Hp} {s : Shared} {E : Value → Shared → Prop}
theorem Inv.wish (I : Inv X pins σ H s) (E : Value → Shared → Prop) : Inv (X.wish E) pins σ H s := ⟨I.ok.wish E, I.os, I.bare, I.base, I.loc, I.cell, I.free, I.freeC, I.pin, I.hok, I.len⟩
theorem Inv.unwish (I : Inv (X.wish E) pins σ H s) : Inv X pins σ H s := ⟨I.ok.unwish, I.os, I.bare, I.base, I.loc, I.cell, I.free, I.freeC, I.pin, I.hok, I.len⟩
theorem SP.unwish {D : Ends} {f : Flow} {s' : Shared} (h : SP (X.wish E) pins D f s') : SP X pins D f s' := by
  cases f with
  | next => obtain ⟨σ', H', I, q⟩ := h; exact ⟨σ', H', I.unwish, q⟩
  | brk => obtain ⟨σ', H', I, q⟩ := h; exact ⟨σ', H', I.unwish, q⟩
  | cont => obtain ⟨σ', H', I, q⟩ := h; exact ⟨σ', H', I.unwish, q⟩
  | ret u => obtain ⟨v, σ', H', I, r, q⟩ := h; exact ⟨v, σ', H', I.unwish, r, q⟩
theorem PE.nox {e : Expr} {t : TE} (h : PE X.nox e t) : PE X e t := fun pins s σ H Q I hw =>
  wpAny_mono (h pins s σ H Q (I.wish _) hw) (fun _ _ ⟨v, H', I', r, q⟩ => ⟨v, H', I'.unwish, r, q⟩) fun _ _ z => False.elim z
theorem PT.nox {e : Expr} {t : TT} (h : PT X.nox e t) : PT X e t := fun pins s σ H Q I hw =>
  wpAny_mono (h pins s σ H Q (I.wish _) hw) (fun _ _ ⟨H', I', q⟩ => ⟨H', I'.unwish, q⟩) fun _ _ z => False.elim z
theorem PSs.nox {st : List Stmt} {t : TS} (h : PSs X.nox st t) : PSs X st t := fun pins s σ H D I hw =>
  wpAny_mono (h pins s σ H D (I.wish _) hw) (fun _ _ q => q.unwish) fun _ _ z => False.elim z
end
section
variable {X : Cx} {st : Stmt} {rest : List Stmt} {t u : TS} {e : Expr} {te : TE} {pos : Pos}
noncomputable def tNext : TS := fun D σ H => D.nx σ H
noncomputable def tSeq (t u : TS) : TS := fun D σ H => t { D with nx := u D } σ H
theorem pss_nil : PSs X [] tNext := fun _ _ σ H _ I h => wpAny_execs_nil ⟨σ, H, I, h⟩
theorem pss_cons (h1 : PS X st t) (h2 : PSs X rest u) : PSs X (st :: rest) (tSeq t u) := by
  intro pins s σ H D I h
  refine wpAny_execs_cons (thn (h1 pins s σ H { D with nx := u D } I h) fun f s1 q => ?_)
  cases f with
  | next =>
    obtain ⟨σ', H', I', q⟩ := q
    exact h2 pins s1 σ' H' D I' q
  | ret v => exact q
  | brk => exact q
  | cont => exact q
theorem pss_one (h1 : PS X st t) : PSs X [st] t := by
  intro pins s σ H D I h
  refine wpAny_execs_cons (thn (h1 pins s σ H D I h) fun f s1 q => ?_)
  cases f with
  | next => exact wpAny_execs_nil q
  | ret v => exact q
  | brk => exact q
  | cont => exact q
theorem Inv.quiet {pins : List (Addr × Obj)} {σ : St} {H : Hp} {s : Shared} (I : Inv X pins σ H s) : interactive X.env = false := by simp [interactive, I.ok.kind]
noncomputable def tDrop (te : TE) : TS := fun D σ H => te σ H fun _ H1 => D.nx σ H1
theorem ps_expr (he : PE X e te) (hs : swapsWith e none pos.line X.env = pure false := by rfl) : PS X (.Expr e pos) (tDrop te) := by
  intro pins s σ H D I h
  exact wpAny_Expr_any (thn (he pins s σ H _ I h) fun v s1 ⟨x, H1, I1, r1, q1⟩ => ⟨σ, H1, I1, q1⟩) I.quiet hs
noncomputable def tRet (te : TE) : TS := fun D σ H => te σ H D.rt
theorem ps_ret (he : PE X e te) : PS X (.Return (some e) pos) (tRet te) := by
  intro pins s σ H D I h
  exact wpAny_Return_some (thn (he pins s σ H _ I h) fun v s1 ⟨x, H1, I1, r1, q1⟩ => ⟨x, σ, H1, I1, r1, q1⟩)
noncomputable def tIfS (c : TT) (t u : TS) : TS := fun D σ H => c σ H fun b H1 => if b = true then t D σ H1 else u D σ H1
theorem ps_if {c : Expr} {a b : List Stmt} {tc : TT} (hc : PT X c tc) (ha : PSs X a t) (hb : PSs X b u) : PS X (.If c a b pos) (tIfS tc t u) := by
  intro pins s σ H D I h
  refine wpAny_If (thn (hc pins s σ H _ I h) fun d s1 ⟨H1, I1, q1⟩ => ?_)
  cases d with
  | true => exact ha pins s1 σ H1 D I1 q1
  | false => exact hb pins s1 σ H1 D I1 q1
end
noncomputable abbrev TG := V → St → Hp → (St → Hp → Prop) → Prop
noncomputable abbrev TGs := List V → St → Hp → (St → Hp → Prop) → Prop
noncomputable def PG (X : Cx) (target : Expr) (t : TG) : Prop :=
  ∀ (pins : List (Addr × Obj)) (s : Shared) (σ : St) (H : Hp) (v : V) (u : Value) (Q : St → Hp → Prop), Inv X pins σ H s → RelV v u → t v σ H Q →
    wpAny (model X.prog X.w) X.A (assign target X.env u) (fun _ s' => ∃ σ' H', Inv X pins σ' H' s' ∧ Q σ' H') X.xe s
noncomputable def PGs (X : Cx) (ts : List Expr) (t : TGs) : Prop :=
  ∀ (pins : List (Addr × Obj)) (s : Shared) (σ : St) (H : Hp) (vs : List V) (us : List Value) (Q : St → Hp → Prop), Inv X pins σ H s → Vals vs us → t vs σ H Q →
    wpAny (model X.prog X.w) X.A (assignInOrder ((assignEach ts X.env).map (·.2)) us) (fun _ s' => ∃ σ' H', Inv X pins σ' H' s' ∧ Q σ' H') X.xe s
section
variable {X : Cx} {pos : Pos}
noncomputable def gName (i : Nat) : TG := fun v σ H Q => Q (σ.set i (some v)) H
theorem pg_name {i : Nat} {x : Str} (hN : X.N.Nodup) (hi : X.N[i]? = some x) (hx : Loc X.env.scope x) (hf : X.fn x = true ∨ X.env.scope.names.lookup x = some .local := by first | exact .inl rfl | exact .inr rfl | assumption) : PG X (.Name x pos) (gName i) := by
  intro pins s σ H v u Q I r h
  exact wpAny_assign_Name (store_ok I hN hi hx r (fun s' I' => ⟨_, H, I', h⟩) hf)
noncomputable def gNil : TGs := fun vs σ H Q => vs = [] ∧ Q σ H
noncomputable def gCons (t : TG) (u : TGs) : TGs := fun vs σ H Q => ∃ v r, vs = v :: r ∧ t v σ H fun σ' H' => u r σ' H' Q
theorem pgs_nil : PGs X [] gNil := by
  intro pins s σ H vs us Q I r h
  obtain ⟨e, h⟩ := h
  subst e
  cases r
  exact assignInOrder_nil ⟨σ, H, I, h⟩
theorem pgs_cons {e : Expr} {es : List Expr} {t : TG} {u : TGs} (h1 : PG X e t) (h2 : PGs X es u)
    (hs : (assignEach (e :: es) X.env).map (·.2) = assign e X.env :: (assignEach es X.env).map (·.2) := by rfl) : PGs X (e :: es) (gCons t u) := by
  intro pins s σ H vs us Q I r h
  obtain ⟨v, vr, e1, h⟩ := h
  subst e1
  cases r with
  | cons r rr =>
    rw [hs]
    refine assignInOrder_cons (thn (h1 pins s σ H _ _ _ I r h) fun _ s1 ⟨σ1, H1, I1, q1⟩ => ?_)
    exact h2 pins s1 σ1 H1 _ _ Q I1 rr q1
noncomputable def gTup (K : PySem.W.Frag) (n : Nat) (t : TGs) : TG := fun v σ H Q => ∃ a xs, v = .ref a ∧ SqT K H a xs ∧ xs.length = n ∧ t xs σ H Q
theorem pg_tup {es : List Expr} {k : Nat} {t : TGs} {n : Nat} (hc : X.calm = true) (h : PGs X es t)
    (hn : (assignEach es X.env).length = n := by rfl) (hst : (assignEach es X.env).findIdx? (·.1) = none := by rfl) : PG X (.Tuple es k pos) (gTup X.K n t) := by
  intro pins s σ H v u Q I r hw
  obtain ⟨a, xs, e1, hq, hl, hw⟩ := hw
  subst e1
  cases r
  obtain ⟨its, rv, ht, hz⟩ := I.tuple hq
  refine assign_Tuple_tuple (I.ok.hd hc) ht (by simp [hn, ← hl, rv.length]) hst fun h' hx => ?_
  have I1 : Inv X pins σ H { s with heap := h' } := I.kept (t' := s.toks) fun b o e => hx b o (Nat.ne_of_lt (Heap.lt_size e)) e
  exact h pins _ σ H xs _ Q I1 (by simpa using rv) hw
noncomputable def tAsg (te : TE) (g : TG) : TS := fun D σ H => te σ H fun x H1 => g x σ H1 D.nx
theorem ps_asg {tg e : Expr} {te : TE} {g : TG} (he : PE X e te) (hg : PG X tg g) (hs : swapsWithSole [tg] e pos.line X.env = pure false := by rfl) (hw : swappedStores [tg] e X.env = pure none := by rfl)
    (h1 : (assignEach [tg] X.env).map (·.2) = [assign tg X.env] := by rfl) : PS X (.Assign [tg] e pos) (tAsg te g) := by
  intro pins s σ H D I h
  refine wpAny_Assign_stores (thn (he pins s σ H _ I h) fun v s1 ⟨x, H1, I1, r1, q1⟩ => ?_) hs hw
  rw [h1]
  exact thn (hg pins s1 σ H1 x v _ I1 r1 q1) fun _ s2 q => q
theorem ps_set {i : Nat} {x : Str} {e : Expr} {te : TE} {pos' : Pos} (hN : X.N.Nodup) (hi : X.N[i]? = some x) (hx : Loc X.env.scope x) (he : PE X e te) (hs : swapsWith e (some (.Name x pos')) pos.line X.env = pure false := by rfl) (hf : X.fn x = true ∨ X.env.scope.names.lookup x = some .local := by first | exact .inl rfl | exact .inr rfl | assumption) :
    PS X (.Assign [.Name x pos'] e pos) (tAsg te (gName i)) := by
  intro pins s σ H D I h
  refine wpAny_Assign_Name (thn (he pins s σ H _ I h) fun v s1 ⟨y, H1, I1, r1, q1⟩ => ?_) hs
  exact store_ok I1 hN hi hx r1 (fun s2 I2 => ⟨_, H1, I2, q1⟩) hf
noncomputable def tPar (i j : Nat) (ta : TA) : TS := fun D σ H => ta σ H fun vs H1 => ∃ v w, vs = [v, w] ∧ D.nx ((σ.set i (some v)).set j (some w)) H1
theorem ps_par {i j : Nat} {x y : Str} {a b : Expr} {ta : TA} {px py pt : Pos} {kt k2 pt2} (hc : X.calm = true) (hN : X.N.Nodup) (hi : X.N[i]? = some x) (hj : X.N[j]? = some y) (hij : i ≠ j)
    (hx : X.env.scope.names.lookup x = some .local) (hy : X.env.scope.names.lookup y = some .local) (ha : PA X [a, b] ta)
    (hw : swappedStores [.Tuple [.Name x px, .Name y py] kt pt] (.Tuple [a, b] k2 pt2) X.env = pure (some [x, y]))
    (hs : swapsWithSole [.Tuple [.Name x px, .Name y py] kt pt] (.Tuple [a, b] k2 pt2) pos.line X.env = pure false := by rfl) :
    PS X (.Assign [.Tuple [.Name x px, .Name y py] kt pt] (.Tuple [a, b] k2 pt2) pos) (tPar i j ta) := by
  intro pins s σ H D I h
  rw [exec_Assign_arm]
  refine wpAny_bind (wpAny_standAt ?_)
  rw [hs]
  refine wpAny_bind (wpAny_pure ?_)
  rw [if_neg (by decide)]
  refine wpAny_bind (Tuple_ (thn (ha _ pins s σ H _ I h) fun us s1 ⟨vs, H1, I1, r1, q1⟩ => ?_))
  obtain ⟨v, w, e1, q1⟩ := q1
  subst e1
  obtain ⟨u1, u2, rfl, rv, rw'⟩ : ∃ u1 u2, us = [u1, u2] ∧ RelV v u1 ∧ RelV w u2 := by
    cases r1 with
    | cons p q =>
      cases q with
      | cons p' q' =>
        cases q'
        exact ⟨_, _, rfl, p, p'⟩
  refine wpAny_newObj_type ?_ (by show 2 ≤ sizeLine; decide)
  have I2 : Inv X pins σ H1 { s1 with heap := s1.heap.push { cls := .type "tuple", data := .seq [u1, u2].toArray } } := I1.kept (t' := s1.toks) fun b o e => Heap.get?_push_of_some _ e
  rw [hw]
  refine wpAny_bind (wpAny_pure ?_)
  show wpAny (model X.prog X.w) X.A (do rule "assign.swapped-stores"; let items ← unpackItems (.ref s1.heap.objs.size) 2 none; assignInOrder [fun v => bindName X.env y v, fun v => bindName X.env x v] items.reverse; pure Flow.next) _ _ _
  refine wpAny_bind (wpAny_rule (wpAny_bind (unpackItems_tuple (items := #[u1, u2]) (I.ok.hd hc) (IsTup.new s1.heap _) fun h' hx' => ?_)))
  have I3 := I2.kept (h' := h') (t' := s1.toks) fun b o e => hx' b o (Nat.ne_of_lt (Heap.lt_size e)) e
  show wpAny _ _ (assignInOrder [fun v => bindName X.env y v, fun v => bindName X.env x v] [u2, u1] >>= fun _ => pure Flow.next) _ _ _
  refine wpAny_bind (assignInOrder_cons (wpAny_bindName (store_ok I3 hN hj (.inl hy) rw' (fun s2 I4 => ?_) (.inr hy))))
  refine assignInOrder_cons (wpAny_bindName (store_ok I4 hN hi (.inl hx) rv (fun s3 I5 => assignInOrder_nil (wpAny_pure ?_)) (.inr hx)))
  rw [List.set_comm _ _ (Ne.symm hij)] at I5
  exact ⟨_, H1, I5, q1⟩
end
section
variable {X : Cx} {pos : Pos}
noncomputable def tWhile (c : TT) (tb : TS) : TS := fun D σ H => ∃ W : Nat → St → Hp → Prop, (∃ m, W m σ H) ∧ ∀ m σ H, W m σ H →
  c σ H fun b H1 => if b = true then ∃ N : St → Hp → Prop, (∀ σ' H', N σ' H' → ∃ m', m' < m ∧ W m' σ' H') ∧ tb { D with nx := N, ct := N, bk := D.nx } σ H1 else D.nx σ H1
theorem ps_while {c : Expr} {body : List Stmt} {tc : TT} {tb : TS} (hp : PassesOwn (model X.prog X.w) X.A X.env X.xe) (hc : PT X c tc) (hb : PSs X body tb) : PS X (.While c body [] pos) (tWhile tc tb) := by
  intro pins s σ H D I h
  obtain ⟨W, ⟨m0, w0⟩, turn⟩ := h
  refine wpAny_While (codeAny_whileLoop (fun n s' => ∃ σ' H', Inv X pins σ' H' s' ∧ W n σ' H') ?_ m0 ⟨σ, H, I, w0⟩)
  rintro n s1 ⟨σ1, H1, I1, w1⟩
  refine wpAny_passesOwn hp (thn (hc pins s1 σ1 H1 _ I1 (turn n σ1 H1 w1)) fun b s2 ⟨H2, I2, q2⟩ => ?_)
  cases b with
  | true =>
    obtain ⟨N, hN, q2⟩ := q2
    rw [if_pos rfl]
    refine wpAny_passesOwn hp (thn (hb pins s2 σ1 H2 _ I2 q2) fun f s3 q3 => ?_)
    cases f with
    | next =>
      obtain ⟨σ3, H3, I3, n3⟩ := q3
      obtain ⟨m', hm, w3⟩ := hN σ3 H3 n3
      exact ⟨m', hm, σ3, H3, I3, w3⟩
    | cont =>
      obtain ⟨σ3, H3, I3, n3⟩ := q3
      obtain ⟨m', hm, w3⟩ := hN σ3 H3 n3
      exact ⟨m', hm, σ3, H3, I3, w3⟩
    | brk => exact q3
    | ret v => exact q3
  | false =>
    rw [if_neg Bool.false_ne_true]
    exact wpAny_execs_nil ⟨σ1, H2, I2, q2⟩
end
structure It where
  go : Nat → Hp → Prop
  yld : Nat → Hp → V → Hp → Prop
  stop : Nat → Hp → Prop
noncomputable def FpOk (X : Cx) (pins : List (Addr × Obj)) (H : Hp) (b : Addr) : Prop :=
  H b = none ∧ b ≠ X.env.locals ∧ b ∉ X.fs ∧ (b ∈ X.ex ∨ X.s₀.heap.objs.size ≤ b) ∧ (∀ x c, X.env.cells.lookup x = some c → c ≠ b) ∧ ∀ p ∈ X.pn ++ pins, p.1 ≠ b
theorem Inv.fpOk {X : Cx} {pins : List (Addr × Obj)} {σ : St} {H H' : Hp} {s : Shared} {b : Addr} (I : Inv X pins σ H s) (hb : s.heap.objs.size ≤ b) (hn : H' b = none) : FpOk X pins H' b := by
  refine ⟨hn, Nat.ne_of_gt (Nat.lt_of_lt_of_le I.lt hb), I.nofs hb, .inr (Nat.le_trans I.sz hb), fun x c e z => ?_, fun p hp z => ?_⟩
  · obtain ⟨v, q⟩ := I.cell x c e
    exact absurd (Nat.lt_of_lt_of_le q.lt (by rw [z]; exact hb)) (Nat.lt_irrefl _)
  · exact absurd (Nat.lt_of_lt_of_le (Heap.lt_size (I.pin p hp).1) (by rw [z]; exact hb)) (Nat.lt_irrefl _)
structure Turn (P : Program) (w : World) (K : PySem.W.Frag) (tg : Expr) (J : It) (fp : List Addr) (it : Addr) (tn : Nat → Heap → Prop) : Prop where
  mem : it ∈ fp
  obj : ∀ i h, tn i h → ∀ b ∈ fp, ∃ o, h.get? b = some o ∧ ∀ v, o.data ≠ .cell v
  keep : ∀ i h h', tn i h → (∀ b ∈ fp, ∀ o, h.get? b = some o → h'.get? b = some o) → tn i h'
  item : ∀ (X : Cx), X.prog = P → X.w = w → X.K = K → X.calm = true → ∀ (i : Nat) (pins : List (Addr × Obj)) (s : Shared) (σ : St) (H : Hp) (E : Value → Shared → Prop), Inv X pins σ H s → (∀ b ∈ fp, FpOk X pins H b) → tn i s.heap → J.go i H →
    wpAny (model P w) X.A (pyNext (.ref it)) (fun r s1 => ∃ u, r = some u ∧
      wpAny (model P w) X.A (letOwnedTupleGo tg (.ref it) u) (fun _ s2 => ∃ x H', Inv X pins σ H' s2 ∧ RelV x u ∧ J.yld i H x H' ∧ tn (i + 1) s2.heap ∧ ∀ b ∈ fp, H' b = none) E s1) E s
  done : ∀ (X : Cx), X.prog = P → X.w = w → X.K = K → X.calm = true → ∀ (i : Nat) (pins : List (Addr × Obj)) (s : Shared) (σ : St) (H : Hp) (E : Value → Shared → Prop), Inv X pins σ H s → (∀ b ∈ fp, FpOk X pins H b) → tn i s.heap → J.stop i H →
    wpAny (model P w) X.A (pyNext (.ref it)) (fun r s1 => r = none ∧ Inv X pins σ H s1) E s
  self : ∀ (A : Around) (i : Nat) (s : Shared) (Q : Value → Shared → Prop) (E : Value → Shared → Prop), tn i s.heap → Q (.ref it) s → wpAny (model P w) A (pyIter (.ref it)) Q E s
noncomputable abbrev TI := St → Hp → (It → Hp → Prop) → Prop
noncomputable def PIE (X : Cx) (pins : List (Addr × Obj)) (σ : St) (tg : Expr) (R : It → Hp → Prop) (itv : Value) (s2 : Shared) : Prop :=
  ∃ (it : Addr) (fp : List Addr) (tn : Nat → Heap → Prop) (J : It) (H' : Hp), itv = .ref it ∧ Inv X pins σ H' s2 ∧ Turn X.prog X.w X.K tg J fp it tn ∧ tn 0 s2.heap ∧ (∀ b ∈ fp, FpOk X pins H' b) ∧ R J H'
noncomputable def PI (X : Cx) (tg iter : Expr) (wi : TI) : Prop :=
  ∀ (pins : List (Addr × Obj)) (s : Shared) (σ : St) (H : Hp) (R : It → Hp → Prop), Inv X pins σ H s → wi σ H R →
    wpAny (model X.prog X.w) X.A (eval iter X.env) (fun v s1 => wpAny (model X.prog X.w) X.A (pyIter v) (PIE X pins σ tg R) X.xe s1) X.xe s
theorem go_of {M : Model} {A : Around} {E : Value → Shared → Prop} {s : Shared} {tg : Expr} {it : Addr} {u : Value} {o : Obj} {n : String} {vs : Array Value} {Q : Unit → Shared → Prop} (ho : s.heap.get? it = some o) (hc : o.cls = .type n) (hd : o.data = .fields vs)
    (hn : ["enumerate", "zip", "dict_itemiterator", "dict_reverseitemiterator", "odict_iterator", "itertools.zip_longest", "itertools.pairwise"].contains n = false) (hQ : Q () s) : wpAny M A (letOwnedTupleGo tg (.ref it) u) Q E s := by
  unfold letOwnedTupleGo
  cases tg <;> first
    | exact wpAny_pure hQ
    | (cases u <;> first
        | exact wpAny_pure hQ
        | (refine wpAny_bind (wpAny_load ho ?_)
           rw [hc, hd]
           show wpAny M A (if (["enumerate", "zip", "dict_itemiterator", "dict_reverseitemiterator", "odict_iterator", "itertools.zip_longest", "itertools.pairwise"].contains n && vs[0]? == some (rawInt _)) = true then _ else _) Q E s
           rw [if_neg (by intro h; rw [hn, Bool.false_and] at h; cases h)]
           exact wpAny_pure hQ))
noncomputable def Itl (K : PySem.W.Frag) (a : Addr) : It :=
  ⟨fun i H => ∃ xs x, SqL K H a xs ∧ xs[i]? = some x, fun i H x H' => H' = H ∧ ∀ xs, SqL K H a xs → xs[i]? = some x, fun i H => ∃ xs, SqL K H a xs ∧ xs.length ≤ i⟩
noncomputable def Itt (K : PySem.W.Frag) (a : Addr) : It :=
  ⟨fun i H => ∃ xs x, SqT K H a xs ∧ xs[i]? = some x, fun i H x H' => H' = H ∧ ∀ xs, SqT K H a xs → xs[i]? = some x, fun i H => ∃ xs, SqT K H a xs ∧ xs.length ≤ i⟩
noncomputable def Itr (lo : Int) (n : Nat) : It := ⟨fun i _ => i < n, fun i H x H' => H' = H ∧ x = .int (lo + i), fun i _ => n ≤ i⟩
theorem turn_list {P : Program} {w : World} {K : PySem.W.Frag} {tg : Expr} (a it : Addr) : Turn P w K tg (Itl K a) [it] it (fun i h => h.IsListIter it a i) where
  mem := by simp
  obj := fun i h st b hb => by
    have e : b = it := by simpa using hb
    subst e
    obtain ⟨o, e, c, d⟩ := st
    exact ⟨o, e, fun v z => by rw [d] at z; cases z⟩
  keep := fun i h h' st k => st.at fun o e => k it (by simp) o e
  item := by
    intro X hP hw hK hc i pins s σ H E I hf st hg
    subst hP hw hK
    obtain ⟨xs, x, hq, hx⟩ := hg
    obtain ⟨its, rv, p, hz⟩ := I.list hq
    obtain ⟨u, hu, ru⟩ := rv.get hx
    obtain ⟨f0, f1, f2, f3, f4, f5⟩ := hf it (by simp)
    refine wpAny_pyNext_list_item st p.isList (x := u) (by simpa using hu) fun h' st' sb => ?_
    have I1 : Inv X pins σ H { s with heap := h' } := I.turned (t' := s.toks) (fun b o hb e => (sb.2 b hb).trans e) f0 f1 f3 f4 f5
    obtain ⟨o, e, c, d⟩ := id st'
    exact ⟨u, rfl, go_of (s := { s with heap := h' }) e c d (by decide) ⟨x, H, I1, ru, ⟨rfl, fun ys hy => by rw [I.list_inj hy hq]; exact hx⟩, st', fun b hb => (hf b hb).1⟩⟩
  done := by
    intro X hP hw hK hc i pins s σ H E I hf st hg
    subst hP hw hK
    obtain ⟨xs, hq, hx⟩ := hg
    obtain ⟨its, rv, p, hz⟩ := I.list hq
    obtain ⟨f0, f1, f2, f3, f4, f5⟩ := hf it (by simp)
    have hl := rv.length
    exact wpAny_pyNext_list_end (I.ok.hd hc) st p.isList (by simp; omega) fun h' eb => ⟨rfl, I.turned (t' := s.toks) (fun b o hb e => eb b o hb e) f0 f1 f3 f4 f5⟩
  self := fun _ _ _ _ _ st h => wpAny_pyIter_listiter st h
theorem turn_tuple {P : Program} {w : World} {K : PySem.W.Frag} {tg : Expr} (a it : Addr) : Turn P w K tg (Itt K a) [it] it (fun i h => h.IsTupleIter it a i) where
  mem := by simp
  obj := fun i h st b hb => by
    have e : b = it := by simpa using hb
    subst e
    obtain ⟨o, e, c, d⟩ := st
    exact ⟨o, e, fun v z => by rw [d] at z; cases z⟩
  keep := fun i h h' st k => st.at fun o e => k it (by simp) o e
  item := by
    intro X hP hw hK hc i pins s σ H E I hf st hg
    subst hP hw hK
    obtain ⟨xs, x, hq, hx⟩ := hg
    obtain ⟨its, rv, p, hz⟩ := I.tuple hq
    obtain ⟨u, hu, ru⟩ := rv.get hx
    obtain ⟨f0, f1, f2, f3, f4, f5⟩ := hf it (by simp)
    refine wpAny_pyNext_tuple_item st (show s.heap.IsTuple a its.toArray from p) (x := u) (by simpa using hu) fun h' st' sb => ?_
    have I1 : Inv X pins σ H { s with heap := h' } := I.turned (t' := s.toks) (fun b o hb e => (sb.2 b hb).trans e) f0 f1 f3 f4 f5
    obtain ⟨o, e, c, d⟩ := id st'
    exact ⟨u, rfl, go_of (s := { s with heap := h' }) e c d (by decide) ⟨x, H, I1, ru, ⟨rfl, fun ys hy => by rw [I.tuple_inj hy hq]; exact hx⟩, st', fun b hb => (hf b hb).1⟩⟩
  done := by
    intro X hP hw hK hc i pins s σ H E I hf st hg
    subst hP hw hK
    obtain ⟨xs, hq, hx⟩ := hg
    obtain ⟨its, rv, p, hz⟩ := I.tuple hq
    obtain ⟨f0, f1, f2, f3, f4, f5⟩ := hf it (by simp)
    have hl := rv.length
    exact wpAny_pyNext_tuple_end (I.ok.hd hc) st (show s.heap.IsTuple a its.toArray from p) (by simp; omega) fun h' eb => ⟨rfl, I.turned (t' := s.toks) (fun b o hb e => eb b o hb e) f0 f1 f3 f4 f5⟩
  self := fun _ _ _ _ _ st h => wpAny_pyIter_tupleiter st h
theorem turn_range {P : Program} {w : World} {K : PySem.W.Frag} {tg : Expr} (it : Addr) (lo : Int) (n : Nat) : Turn P w K tg (Itr lo n) [it] it (fun i h => IsRangeIter h it (lo + (i : Nat) * 1) ((n : Int) - (i : Nat)) 1) where
  mem := by simp
  obj := fun i h st b hb => by
    have e : b = it := by simpa using hb
    subst e
    exact ⟨_, st, fun v z => by
      have z' : Data.fields _ = Data.cell v := z
      cases z'⟩
  keep := fun i h h' st k => k it (by simp) _ st
  item := by
    intro X hP hw hK hc i pins s σ H E I hf st hg
    subst hP hw hK
    obtain ⟨f0, f1, f2, f3, f4, f5⟩ := hf it (by simp)
    have W := Walks.range (prog := X.prog) (w := X.w) (I.ok.hd hc) it lo 1 n
    refine W.item i s _ _ hg st fun v h' tk hv st' kk => ?_
    obtain ⟨t, rfl⟩ := hv
    have I1 : Inv X pins σ H { s with heap := h', toks := tk } := I.turned (fun b o hb e => kk b o (by simpa using hb) e) f0 f1 f3 f4 f5
    refine ⟨_, rfl, go_of (s := { s with heap := h', toks := tk }) (n := "range_iterator") st' rfl rfl (by decide) ⟨.int (lo + i), H, I1, ⟨t, ?_⟩, ⟨rfl, rfl⟩, st', fun b hb => (hf b hb).1⟩⟩
    rw [Int.mul_one]
  done := by
    intro X hP hw hK hc i pins s σ H E I hf st hg
    subst hP hw hK
    obtain ⟨f0, f1, f2, f3, f4, f5⟩ := hf it (by simp)
    exact wpAny_pyNext_range_end (I.ok.hd hc) st (by have : n ≤ i := hg; omega) fun h' eb => ⟨rfl, I.turned (t' := s.toks) (fun b o hb e => eb b o hb e) f0 f1 f3 f4 f5⟩
  self := fun _ _ _ _ _ st h => wpAny_pyIter_rangeiter st h
end L2
namespace L2
open PySem PySem.Spec PyProof.Rows
section
variable {X : Cx} {tg : Expr}
noncomputable def iList (K : PySem.W.Frag) (tl : TE) : TI := fun σ H R => tl σ H fun x H1 => ∃ a, x = .ref a ∧ (∃ xs, SqL K H1 a xs) ∧ R (Itl K a) H1
noncomputable def iTup (K : PySem.W.Frag) (tl : TE) : TI := fun σ H R => tl σ H fun x H1 => ∃ a, x = .ref a ∧ (∃ xs, SqT K H1 a xs) ∧ R (Itt K a) H1
theorem pi_list {l : Expr} {tl : TE} (hl : PE X l tl) : PI X tg l (iList X.K tl) := by
  intro pins s σ H R I h
  refine thn (hl pins s σ H _ I h) fun v s1 ⟨x, H1, I1, r1, q1⟩ => ?_
  obtain ⟨a, e, ⟨xs, hq⟩, q⟩ := q1
  subst e
  cases r1
  obtain ⟨its, rv, p, hz⟩ := I1.list hq
  refine wpAny_pyIter_list p.isList ?_
  refine ⟨s1.heap.objs.size, [s1.heap.objs.size], _, _, H1, rfl, I1.kept (t' := s1.toks) fun b o e => Heap.get?_push_of_some _ e, turn_list a _, ⟨_, Heap.get?_push_size _ rfl, rfl, rfl⟩, fun b hb => ?_, q⟩
  have e : b = s1.heap.objs.size := by simpa using hb
  subst e
  exact I1.fpOk (Nat.le_refl _) (I1.hok.fresh (Nat.le_refl _))
theorem pi_tup {l : Expr} {tl : TE} (hl : PE X l tl) : PI X tg l (iTup X.K tl) := by
  intro pins s σ H R I h
  refine thn (hl pins s σ H _ I h) fun v s1 ⟨x, H1, I1, r1, q1⟩ => ?_
  obtain ⟨a, e, ⟨xs, hq⟩, q⟩ := q1
  subst e
  cases r1
  obtain ⟨its, rv, p, hz⟩ := I1.tuple hq
  refine wpAny_pyIter_tuple (show s1.heap.IsTuple a its.toArray from p) ?_
  refine ⟨s1.heap.objs.size, [s1.heap.objs.size], _, _, H1, rfl, I1.kept (t' := s1.toks) fun b o e => Heap.get?_push_of_some _ e, turn_tuple a _, ⟨_, Heap.get?_push_size _ rfl, rfl, rfl⟩, fun b hb => ?_, q⟩
  have e : b = s1.heap.objs.size := by simpa using hb
  subst e
  exact I1.fpOk (Nat.le_refl _) (I1.hok.fresh (Nat.le_refl _))
theorem range_it {pins : List (Addr × Obj)} {σ : St} {H : Hp} {s : Shared} {R : It → Hp → Prop} {E : Value → Shared → Prop} {lo hi : Int} {t u v : Tok} {tk : Nat} (I : Inv X pins σ H s) (h1 : -(2 ^ 62) ≤ lo) (h2 : lo < 2 ^ 62) (h3 : -(2 ^ 62) ≤ hi) (h4 : hi < 2 ^ 62)
    (q : R (Itr lo (hi - lo).toNat) H) : wpAny (model X.prog X.w) X.A (pyIter (.ref s.heap.objs.size)) (PIE X pins σ tg R) E { s with heap := s.heap.push { cls := .type "range", data := .fields #[.int lo t, .int hi u, .int 1 v] }, toks := tk } := by
  refine wpAny_pyIter_range (IsRange.new ..) (small_one h1 h2 h3 h4) ?_
  have I1 : Inv X pins σ H { s with heap := s.heap.push { cls := .type "range", data := .fields #[.int lo t, .int hi u, .int 1 v] }, toks := tk } := I.kept fun b o e => Heap.get?_push_of_some _ e
  refine ⟨(s.heap.push { cls := .type "range", data := .fields #[.int lo t, .int hi u, .int 1 v] }).objs.size, [(s.heap.push { cls := .type "range", data := .fields #[.int lo t, .int hi u, .int 1 v] }).objs.size], _, _, H, rfl,
    I1.kept (t' := tk) fun b o e => Heap.get?_push_of_some _ e, turn_range _ lo (hi - lo).toNat, ?_, fun b hb => ?_, q⟩
  · have e1 : lo + ((0 : Nat) : Int) * 1 = lo := by simp
    have e2 : (((hi - lo).toNat : Nat) : Int) - ((0 : Nat) : Int) = Builtin.Range.rangeSize lo hi 1 := by rw [rangeSize_one]; split <;> omega
    show IsRangeIter _ _ (lo + ((0 : Nat) : Int) * 1) ((((hi - lo).toNat : Nat) : Int) - ((0 : Nat) : Int)) 1
    rw [e1, e2]
    exact Heap.get?_push_size _ rfl
  · have e : b = (s.heap.push { cls := .type "range", data := .fields #[.int lo t, .int hi u, .int 1 v] }).objs.size := by simpa using hb
    subst e
    exact I1.fpOk (Nat.le_refl _) (I1.hok.fresh (Nat.le_refl _))
noncomputable def iRng1 (ta : TA) : TI := fun σ H R => ta σ H fun vs H1 => ∃ j : Int, vs = [.int j] ∧ -(2 ^ 62) ≤ j ∧ j < 2 ^ 62 ∧ R (Itr 0 j.toNat) H1
theorem pi_range1 {a : Expr} {ta : TA} {p pos : Pos} (hg : Gl X "range") (hm : X.mg "range" = none) (ha : PA X [a] ta) (hs : starEach [a] X.env = [(false, eval a X.env)] := by rfl) : PI X tg (.Call (.Name "range" p) [a] [] pos) (iRng1 ta) := by
  intro pins s σ H R I h
  refine Call_ (ld_blt I hg hm boot_range (PyProof.Rows.callWith_type1 (thn (ha pos pins s σ H _ I h) fun us s1 ⟨vs, H1, I1, r1, q1⟩ => ?_) hs rfl))
  obtain ⟨j, e, q1, q2, q⟩ := q1
  subst e
  cases r1 with
  | cons r rr =>
    cases rr
    obtain ⟨t, rfl⟩ := r
    exact call_range_1 (range_it I1 (by omega) (by omega) q1 q2 (by simpa using q))
noncomputable def tFor (wi : TI) (g : TG) (tb : TS) : TS := fun D σ H => wi σ H fun J H1 => ∃ W : Nat → Nat → St → Hp → Prop, (∃ m, W 0 m σ H1) ∧ ∀ i m σ H, W i m σ H →
  (J.stop i H ∧ D.nx σ H) ∨ (J.go i H ∧ ∃ N : St → Hp → Prop, (∀ σ' H', N σ' H' → ∃ m', m' < m ∧ W (i + 1) m' σ' H') ∧ ∀ x H', J.yld i H x H' → g x σ H' fun σ2 H2 => tb { D with nx := N, ct := N, bk := D.nx } σ2 H2)
noncomputable def pinsAt (fp : List Addr) (h : Heap) : List (Addr × Obj) := fp.filterMap fun b => (h.get? b).map fun o => (b, o)
theorem mem_pinsAt {fp : List Addr} {h : Heap} {b : Addr} {o : Obj} (hb : b ∈ fp) (e : h.get? b = some o) : (b, o) ∈ pinsAt fp h := List.mem_filterMap.mpr ⟨b, hb, by rw [e]; rfl⟩
theorem of_pinsAt {fp : List Addr} {h : Heap} {p : Addr × Obj} (hp : p ∈ pinsAt fp h) : p.1 ∈ fp ∧ h.get? p.1 = some p.2 := by
  obtain ⟨b, hb, e⟩ := List.mem_filterMap.mp hp
  cases q : h.get? b with
  | none => rw [q] at e; cases e
  | some o =>
    rw [q] at e
    have e' : (b, o) = p := Option.some.inj e
    subst e'
    exact ⟨hb, q⟩
theorem Inv.pinned {pins : List (Addr × Obj)} {σ : St} {H : Hp} {s : Shared} {fp : List Addr} (I : Inv X pins σ H s) (hf : ∀ b ∈ fp, FpOk X pins H b) (ho : ∀ b ∈ fp, ∃ o, s.heap.get? b = some o ∧ ∀ v, o.data ≠ .cell v) : Inv X (pins ++ pinsAt fp s.heap) σ H s :=
  I.pins_of fun p hp => (List.mem_append.mp hp).elim (fun z => I.pin p (List.mem_append_right _ z)) fun z => by
    obtain ⟨hb, e⟩ := of_pinsAt z
    obtain ⟨f0, f1, f2, _⟩ := hf p.1 hb
    obtain ⟨o, e', d⟩ := ho p.1 hb
    rw [e] at e'; cases e'
    exact ⟨e, f0, f1, f2, d⟩
theorem Inv.unpinned {pins pl : List (Addr × Obj)} {σ : St} {H : Hp} {s : Shared} (I : Inv X (pins ++ pl) σ H s) : Inv X pins σ H s := I.pins_of fun p hp => I.pin p (List.mem_append_right _ (List.mem_append_left _ hp))
theorem ps_for {iter : Expr} {body : List Stmt} {wi : TI} {g : TG} {tb : TS} {pos : Pos} (hp : PassesOwn (model X.prog X.w) X.A X.env X.xe) (hc : X.calm = true) (hi : PI X tg iter wi) (hg : PG X tg g) (hb : PSs X body tb)
    (hs : ∀ x, foldedSetIterable iter X.env x = pure x := by intro _; rfl) : PS X (.For tg iter body [] pos) (tFor wi g tb) := by
  intro pins s σ H D I h
  refine wpAny_For (thn (hi pins s σ H _ I h) fun v s1 h1 => thn h1 fun itv s2 h2 => ?_) hs
  obtain ⟨it, fp, tn, J, H2, e, I2, T, st2, f2, W, ⟨m0, w0⟩, turn⟩ := h2
  subst e
  -- what stays true of the iterator's objects through the loop
  have stat : ∀ {H' : Hp}, (∀ b ∈ fp, H' b = none) → ∀ b ∈ fp, FpOk X pins H' b := fun hn b hb => ⟨hn b hb, (f2 b hb).2⟩
  refine codeAny_forLoop_any (fun n s' => ∃ i σ' H', Inv X pins σ' H' s' ∧ tn i s'.heap ∧ (∀ b ∈ fp, H' b = none) ∧ W i n σ' H') ?_ m0 ⟨0, σ, H2, I2, st2, fun b hb => (f2 b hb).1, w0⟩
  rintro n s3 ⟨i, σ3, H3, I3, st3, fr3, w3⟩
  rcases turn i n σ3 H3 w3 with ⟨stop, qn⟩ | ⟨go, N, hN, step⟩
  · refine wpAny_passesOwn hp (thn (T.done X rfl rfl rfl hc i pins s3 σ3 H3 X.xe I3 (stat fr3) st3 stop) fun r s4 ⟨hr, I4⟩ => ?_)
    subst hr
    exact wpAny_execs_nil ⟨σ3, H3, I4, qn⟩
  · refine wpAny_passesOwn hp (thn (T.item X rfl rfl rfl hc i pins s3 σ3 H3 X.xe I3 (stat fr3) st3 go) fun r s4 ⟨u, hr, h4⟩ => ?_)
    subst hr
    refine wpAny_passesOwn hp (thn h4 fun _ s5 ⟨x, H5, I5, r5, y5, st5, fr5⟩ => ?_)
    have I5' := I5.pinned (stat fr5) (T.obj _ _ st5)
    refine wpAny_passesOwn hp (thn (hg _ s5 σ3 H5 x u _ I5' r5 (step x H5 y5)) fun _ s6 ⟨σ6, H6, I6, q6⟩ => ?_)
    refine wpAny_passesOwn hp (thn (hb _ s6 σ6 H6 _ I6 q6) fun f s7 q7 => ?_)
    have again : ∀ {σ7 : St} {H7 : Hp}, Inv X (pins ++ pinsAt fp s5.heap) σ7 H7 s7 → N σ7 H7 → ∃ m, m < n ∧ ∃ i σ' H', Inv X pins σ' H' s7 ∧ tn i s7.heap ∧ (∀ b ∈ fp, H' b = none) ∧ W i m σ' H' := fun {σ7 H7} I7 n7 => by
      obtain ⟨m', hm, w7⟩ := hN σ7 H7 n7
      refine ⟨m', hm, i + 1, σ7, H7, I7.unpinned, T.keep _ _ _ st5 fun b hb o e => (I7.pin (b, o) (List.mem_append_right _ (List.mem_append_right _ (mem_pinsAt hb e)))).1, fun b hb => ?_, w7⟩
      obtain ⟨o, e, d⟩ := T.obj _ _ st5 b hb
      exact (I7.pin (b, o) (List.mem_append_right _ (List.mem_append_right _ (mem_pinsAt hb e)))).2.1
    cases f with
    | next => obtain ⟨σ7, H7, I7, n7⟩ := q7; exact again I7 n7
    | cont => obtain ⟨σ7, H7, I7, n7⟩ := q7; exact again I7 n7
    | brk => obtain ⟨σ7, H7, I7, q7⟩ := q7; exact ⟨σ7, H7, I7.unpinned, q7⟩
    | ret v => obtain ⟨x7, σ7, H7, I7, r7, q7⟩ := q7; exact ⟨x7, σ7, H7, I7.unpinned, r7, q7⟩
end
end L2
namespace L2
open PySem PySem.Spec PyProof.Rows
noncomputable abbrev R2 := V → V → Hp → VK → Prop
noncomputable def OpR (X : Cx) (f : Value → Value → Sem Value) (r : R2) : Prop :=
  ∀ (pins : List (Addr × Obj)) (s : Shared) (σ : St) (H : Hp) (x y : V) (v u : Value) (Q : VK), Inv X pins σ H s → RelV x v → RelV y u → r x y H Q →
    wpAny (model X.prog X.w) X.A (f v u) (EP X pins σ Q) X.xe s
noncomputable def UnR (X : Cx) (f : Value → Sem Value) (r : V → Hp → VK → Prop) : Prop :=
  ∀ (pins : List (Addr × Obj)) (s : Shared) (σ : St) (H : Hp) (x : V) (v : Value) (Q : VK), Inv X pins σ H s → RelV x v → r x H Q →
    wpAny (model X.prog X.w) X.A (f v) (EP X pins σ Q) X.xe s
noncomputable def CallR (X : Cx) (f : Value) (r : List V → Hp → VK → Prop) : Prop :=
  ∀ (pins : List (Addr × Obj)) (s : Shared) (σ : St) (H : Hp) (xs : List V) (us : List Value) (Q : VK), Inv X pins σ H s → Vals xs us → r xs H Q →
    wpAny (model X.prog X.w) X.A (call f us) (EP X pins σ Q) X.xe s
noncomputable def TruR (X : Cx) (r : V → Hp → (Bool → Hp → Prop) → Prop) : Prop :=
  ∀ (pins : List (Addr × Obj)) (s : Shared) (σ : St) (H : Hp) (x : V) (v : Value) (Q : Bool → Hp → Prop), Inv X pins σ H s → RelV x v → r x H Q →
    wpAny (model X.prog X.w) X.A (truthy v) (TP X pins σ Q) X.xe s
noncomputable def tOp (r : R2) (ta tb : TE) : TE := fun σ H Q => ta σ H fun x H1 => tb σ H1 fun y H2 => r x y H2 Q
noncomputable def tUn (r : V → Hp → VK → Prop) (ta : TE) : TE := fun σ H Q => ta σ H fun x H1 => r x H1 Q
noncomputable def rI (C : Int → Int → Prop) (g : Int → Int → V) : R2 := fun x y H Q => ∃ i j, x = .int i ∧ y = .int j ∧ C i j ∧ Q (g i j) H
noncomputable def rI0 (g : Int → Int → V) : R2 := fun x y H Q => ∃ i j, x = .int i ∧ y = .int j ∧ Q (g i j) H
noncomputable def rU (g : Int → V) : V → Hp → VK → Prop := fun x H Q => ∃ i, x = .int i ∧ Q (g i) H
section
variable {X : Cx} {a b c : Expr} {ta tb tc : TE} {pos : Pos}
theorem binT (ha : PE X a ta) (hb : PE X b tb) {pins : List (Addr × Obj)} {s : Shared} {σ : St} {H : Hp} {R : V → V → Hp → Prop} (I : Inv X pins σ H s)
    (h : ta σ H fun x H1 => tb σ H1 fun y H2 => R x y H2) {Q : Value → Shared → Prop} {f : Value → Value → Sem Value}
    (hf : ∀ v u s2 x y H2, Inv X pins σ H2 s2 → RelV x v → RelV y u → R x y H2 → wpAny (model X.prog X.w) X.A (f v u) Q X.xe s2) :
    wpAny (model X.prog X.w) X.A (eval a X.env) (fun v s₁ => wpAny (model X.prog X.w) X.A (eval b X.env) (fun u s₂ => wpAny (model X.prog X.w) X.A (f v u) Q X.xe s₂) X.xe s₁) X.xe s := by
  refine thn (ha pins s σ H _ I h) fun v s1 ⟨x, H1, I1, r1, q1⟩ => ?_
  refine thn (hb pins s1 σ H1 _ I1 q1) fun u s2 ⟨y, H2, I2, r2, q2⟩ => ?_
  exact hf v u s2 x y H2 I2 r1 r2 q2
theorem pe_op {op : Operator} {r : R2} (ho : OpR X (binaryOp op) r) (ha : PE X a ta) (hb : PE X b tb) : PE X (.BinOp a op b pos) (tOp r ta tb) := by
  intro pins s σ H Q I h
  exact wpAny_BinOp (binT ha hb I h fun v u s2 x y H2 I2 rx ry q => ho pins s2 σ H2 x y v u Q I2 rx ry q)
theorem pe_un {op : UnaryOp} {r : V → Hp → VK → Prop} (ho : UnR X (unaryOp op) r) (ha : PE X a ta) : PE X (.UnaryOp op a pos) (tUn r ta) := by
  intro pins s σ H Q I h
  exact UnaryOp_ (thn (ha pins s σ H _ I h) fun v s1 ⟨x, H1, I1, r1, q1⟩ => ho pins s1 σ H1 x v Q I1 r1 q1)
theorem opI {f : Value → Value → Sem Value} {C : Int → Int → Prop} {g : Int → Int → Int}
    (rule : ∀ (i j : Int) (t u : Tok) (s : Shared) (Q : Value → Shared → Prop) (E : Value → Shared → Prop), C i j → Q (.int (g i j) s.toks) { s with toks := s.toks + 1 } → wpAny (model X.prog X.w) X.A (f (.int i t) (.int j u)) Q E s) :
    OpR X f (rI C fun i j => .int (g i j)) := by
  intro pins s σ H x y v u Q I rx ry h
  obtain ⟨i, j, rfl, rfl, hc, q⟩ := h
  obtain ⟨t, rfl⟩ := rx
  obtain ⟨t', rfl⟩ := ry
  exact rule i j t t' s _ _ hc ⟨.int (g i j), H, I.tok _, ⟨_, rfl⟩, q⟩
theorem opI0 {f : Value → Value → Sem Value} {g : Int → Int → Int}
    (rule : ∀ (i j : Int) (t u : Tok) (s : Shared) (Q : Value → Shared → Prop) (E : Value → Shared → Prop), Q (.int (g i j) s.toks) { s with toks := s.toks + 1 } → wpAny (model X.prog X.w) X.A (f (.int i t) (.int j u)) Q E s) :
    OpR X f (rI0 fun i j => .int (g i j)) := by
  intro pins s σ H x y v u Q I rx ry h
  obtain ⟨i, j, rfl, rfl, q⟩ := h
  obtain ⟨t, rfl⟩ := rx
  obtain ⟨t', rfl⟩ := ry
  exact rule i j t t' s _ _ ⟨.int (g i j), H, I.tok _, ⟨_, rfl⟩, q⟩
theorem opB0 {f : Value → Value → Sem Value} {g : Int → Int → Bool}
    (rule : ∀ (i j : Int) (t u : Tok) (s : Shared) (Q : Value → Shared → Prop) (E : Value → Shared → Prop), Q (.bool (g i j)) s → wpAny (model X.prog X.w) X.A (f (.int i t) (.int j u)) Q E s) :
    OpR X f (rI0 fun i j => .bl (g i j)) := by
  intro pins s σ H x y v u Q I rx ry h
  obtain ⟨i, j, rfl, rfl, q⟩ := h
  obtain ⟨t, rfl⟩ := rx
  obtain ⟨t', rfl⟩ := ry
  exact rule i j t t' s _ _ ⟨.bl (g i j), H, I, rfl, q⟩
noncomputable def CPow (i j : Int) : Prop := 0 ≤ j ∧ j ≤ 1000000 ∧ i.natAbs < 2 ^ 64
noncomputable def CMul (i j : Int) : Prop := (-(2 ^ 64) < i ∧ i < 2 ^ 64) ∨ (-(2 ^ 64) < j ∧ j < 2 ^ 64)
theorem CMul.ok {i j : Int} (h : CMul i j) : IntMulOk i j := by
  rcases h with ⟨h1, h2⟩ | ⟨h1, h2⟩
  · exact .of_left (intBits_le_64 h1 h2)
  · exact .of_right (intBits_le_64 h1 h2)
theorem op_add : OpR X (binaryOp .Add) (rI0 fun i j => .int (i + j)) := opI0 fun _ _ _ _ _ _ _ q => add_int q
theorem op_sub : OpR X (binaryOp .Sub) (rI0 fun i j => .int (i - j)) := opI0 fun _ _ _ _ _ _ _ q => sub_int q
theorem op_mul : OpR X (binaryOp .Mult) (rI CMul fun i j => .int (i * j)) := opI fun _ _ _ _ _ _ _ hc q => mul_int q hc.ok
theorem op_modN : OpR X (binaryOp .Mod) (rI (fun _ j => j ≠ 0) fun i j => .int (i.fmod j)) := opI fun _ _ _ _ _ _ _ hc q => mod_int' hc q
theorem op_pow : OpR X (binaryOp .Pow) (rI CPow fun i j => .int (i ^ j.toNat)) := opI fun _ _ _ _ _ _ _ hc q => pow_int_small hc.1 hc.2.1 hc.2.2 q
theorem unI {f : Value → Sem Value} {g : Int → Int}
    (rule : ∀ (i : Int) (t : Tok) (s : Shared) (Q : Value → Shared → Prop) (E : Value → Shared → Prop), Q (.int (g i) s.toks) { s with toks := s.toks + 1 } → wpAny (model X.prog X.w) X.A (f (.int i t)) Q E s) :
    UnR X f (rU fun i => .int (g i)) := by
  intro pins s σ H x v Q I rx h
  obtain ⟨i, rfl, q⟩ := h
  obtain ⟨t, rfl⟩ := rx
  exact rule i t s _ _ ⟨.int (g i), H, I.tok _, ⟨_, rfl⟩, q⟩
theorem un_neg : UnR X (unaryOp .USub) (rU fun i => .int (-i)) := unI fun _ _ _ _ _ q => neg_int q
end
noncomputable def scal : V → V → Bool
  | .non, .non => true | .non, .int _ => true | .int _, .non => true | .non, .bl _ => true | .bl _, .non => true | .non, .str _ => true | .str _, .non => true
  | .int _, .int _ => true | .bl _, .bl _ => true | .str _, .str _ => true | .byt _, .byt _ => true
  | .int _, .str _ => true | .str _, .int _ => true | .bl _, .str _ => true | .str _, .bl _ => true
  | _, _ => false
noncomputable def rEq : R2 := fun x y H Q => scal x y = true ∧ Q (.bl (decide (x = y))) H
noncomputable def rNe : R2 := fun x y H Q => scal x y = true ∧ Q (.bl (!decide (x = y))) H
theorem dec_int {i j : Int} : decide (V.int i = V.int j) = (i == j) := by
  rw [Bool.eq_iff_iff]
  simp
theorem dec_bl {i j : Bool} : decide (V.bl i = V.bl j) = (i == j) := by
  rw [Bool.eq_iff_iff]
  simp
theorem dec_str {i j : Str} : decide (V.str i = V.str j) = (i == j) := by
  rw [Bool.eq_iff_iff]
  simp
theorem dec_byt {i j : Array UInt8} : decide (V.byt i = V.byt j) = (i.toList == j.toList) := by
  rw [Bool.eq_iff_iff]
  cases i
  cases j
  simp
section
variable {X : Cx} {a b c : Expr} {ta tb tc : TE} {pos : Pos}
theorem fin_bl {pins : List (Addr × Obj)} {σ : St} {H : Hp} {s : Shared} {Q : VK} {k k' : Bool} (I : Inv X pins σ H s) (q : Q (.bl k) H) (e : k = k') : EP X pins σ Q (.bool k') s := by
  subst e
  exact ⟨.bl k, H, I, rfl, q⟩
theorem op_eq : OpR X (compareOp .Eq) rEq := by
  intro pins s σ H x y v u Q I rx ry h
  obtain ⟨hs, q⟩ := h
  cases x with
  | non =>
    cases rx
    cases y with
    | non => cases ry; exact PySem.EqNone.eq_none_none (fin_bl I q (by simp))
    | bl j => cases ry; exact PySem.EqNone.eq_none_bool (fin_bl I q (by simp))
    | int j => obtain ⟨t', rfl⟩ := ry; exact PySem.EqNone.eq_none_int (fin_bl I q (by simp))
    | str j => obtain ⟨t', rfl⟩ := ry; exact PySem.EqNone.eq_none_str (fin_bl I q (by simp))
    | _ => exact absurd (show false = true from hs) Bool.false_ne_true
  | bl i =>
    cases rx
    cases y with
    | non => cases ry; exact PySem.EqNone.eq_bool_none (fin_bl I q (by simp))
    | bl j => cases ry; exact eq_bool (fin_bl I q dec_bl)
    | str j => obtain ⟨t', rfl⟩ := ry; exact PySem.EqMixed.eq_bool_str (fin_bl I q (by simp))
    | _ => exact absurd (show false = true from hs) Bool.false_ne_true
  | int i =>
    obtain ⟨t, rfl⟩ := rx
    cases y with
    | non => cases ry; exact PySem.EqNone.eq_int_none (fin_bl I q (by simp))
    | int j => obtain ⟨t', rfl⟩ := ry; exact eq_int (fin_bl I q dec_int)
    | str j => obtain ⟨t', rfl⟩ := ry; exact PySem.EqMixed.eq_int_str (fin_bl I q (by simp))
    | _ => exact absurd (show false = true from hs) Bool.false_ne_true
  | str i =>
    obtain ⟨t, rfl⟩ := rx
    cases y with
    | non => cases ry; exact PySem.EqNone.eq_str_none (fin_bl I q (by simp))
    | bl j => cases ry; exact PySem.EqMixed.eq_str_bool (fin_bl I q (by simp))
    | int j => obtain ⟨t', rfl⟩ := ry; exact PySem.EqMixed.eq_str_int (fin_bl I q (by simp))
    | str j => obtain ⟨t', rfl⟩ := ry; exact eq_str (fin_bl I q dec_str)
    | _ => exact absurd (show false = true from hs) Bool.false_ne_true
  | byt i =>
    obtain ⟨t, rfl⟩ := rx
    cases y with
    | byt j => obtain ⟨t', rfl⟩ := ry; exact PySem.W.eq_bytes (fin_bl I q dec_byt)
    | _ => exact absurd (show false = true from hs) Bool.false_ne_true
  | _ => cases y <;> exact absurd (show false = true from hs) Bool.false_ne_true
theorem op_ne : OpR X (compareOp .NotEq) rNe := by
  intro pins s σ H x y v u Q I rx ry h
  obtain ⟨hs, q⟩ := h
  cases x with
  | non =>
    cases rx
    cases y with
    | non => cases ry; exact PySem.EqNone.ne_none_none (fin_bl I q (by simp))
    | bl j => cases ry; exact PySem.EqNone.ne_none_bool (fin_bl I q (by simp))
    | int j => obtain ⟨t', rfl⟩ := ry; exact PySem.EqNone.ne_none_int (fin_bl I q (by simp))
    | str j => obtain ⟨t', rfl⟩ := ry; exact PySem.EqNone.ne_none_str (fin_bl I q (by simp))
    | _ => exact absurd (show false = true from hs) Bool.false_ne_true
  | bl i =>
    cases rx
    cases y with
    | non => cases ry; exact PySem.EqNone.ne_bool_none (fin_bl I q (by simp))
    | bl j => cases ry; exact ne_bool (fin_bl I q (congrArg not dec_bl))
    | str j => obtain ⟨t', rfl⟩ := ry; exact PySem.EqMixed.ne_bool_str (fin_bl I q (by simp))
    | _ => exact absurd (show false = true from hs) Bool.false_ne_true
  | int i =>
    obtain ⟨t, rfl⟩ := rx
    cases y with
    | non => cases ry; exact PySem.EqNone.ne_int_none (fin_bl I q (by simp))
    | int j => obtain ⟨t', rfl⟩ := ry; exact ne_int (fin_bl I q (congrArg not dec_int))
    | str j => obtain ⟨t', rfl⟩ := ry; exact PySem.EqMixed.ne_int_str (fin_bl I q (by simp))
    | _ => exact absurd (show false = true from hs) Bool.false_ne_true
  | str i =>
    obtain ⟨t, rfl⟩ := rx
    cases y with
    | non => cases ry; exact PySem.EqNone.ne_str_none (fin_bl I q (by simp))
    | bl j => cases ry; exact PySem.EqMixed.ne_str_bool (fin_bl I q (by simp))
    | int j => obtain ⟨t', rfl⟩ := ry; exact PySem.EqMixed.ne_str_int (fin_bl I q (by simp))
    | str j => obtain ⟨t', rfl⟩ := ry; exact ne_str (fin_bl I q (congrArg not dec_str))
    | _ => exact absurd (show false = true from hs) Bool.false_ne_true
  | byt i =>
    obtain ⟨t, rfl⟩ := rx
    cases y with
    | byt j => obtain ⟨t', rfl⟩ := ry; exact PySem.W.ne_bytes (fin_bl I q (congrArg not dec_byt))
    | _ => exact absurd (show false = true from hs) Bool.false_ne_true
  | _ => cases y <;> exact absurd (show false = true from hs) Bool.false_ne_true
theorem op_lt : OpR X (compareOp .Lt) (rI0 fun i j => .bl (decide (i < j))) := opB0 fun _ _ _ _ _ _ _ q => lt_int q
theorem op_le : OpR X (compareOp .LtE) (rI0 fun i j => .bl (decide (i ≤ j))) := opB0 fun _ _ _ _ _ _ _ q => le_int q
theorem op_gt : OpR X (compareOp .Gt) (rI0 fun i j => .bl (decide (j < i))) := opB0 fun _ _ _ _ _ _ _ q => gt_int q
theorem op_ge : OpR X (compareOp .GtE) (rI0 fun i j => .bl (decide (j ≤ i))) := opB0 fun _ _ _ _ _ _ _ q => ge_int q
theorem op_isN : OpR X (compareOp .Is) (fun x y H Q => y = .non ∧ Q (.bl (decide (x = .non))) H) := by
  intro pins s σ H x y v u Q I rx ry h
  obtain ⟨rfl, q⟩ := h
  cases ry
  refine is_none_gen (fin_bl I q ?_)
  cases x <;> first
    | (cases rx; rfl)
    | (obtain ⟨t, rfl⟩ := rx; rfl)
theorem OpR.or {f : Value → Value → Sem Value} {r r' : R2} (h : OpR X f r) (h' : OpR X f r') : OpR X f (fun x y H Q => r x y H Q ∨ r' x y H Q) := by
  intro pins s σ H x y v u Q I rx ry q
  rcases q with q | q
  · exact h pins s σ H x y v u Q I rx ry q
  · exact h' pins s σ H x y v u Q I rx ry q
theorem nomark (b : Expr) {op : CmpOp} (h : op ≠ .In := by decide) (h2 : op ≠ .NotIn := by decide) : behindInMarks op b = false := by
  have e1 : (op == CmpOp.In) = false := by cases op <;> first | rfl | exact absurd rfl h
  have e2 : (op == CmpOp.NotIn) = false := by cases op <;> first | rfl | exact absurd rfl h2
  cases b <;> simp [behindInMarks, e1, e2]
noncomputable def tTest (t : TE) : TT := fun σ H Q => t σ H fun x H' => ∃ k, x = .bl k ∧ Q k H'
theorem pt_cmpR {op : CmpOp} {r : R2} (ho : OpR X (compareOp op) r) (ha : PE X a ta) (hb : PE X b tb) (hm : behindInMarks op b = false) : PT X (.Compare a [op] [b] pos) (tTest (tOp r ta tb)) := by
  intro pins s σ H Q I h
  refine wpAny_isTrue_Compare1 (thn (ha pins s σ H _ I h) fun v s1 ⟨x, H1, I1, r1, q1⟩ => thn (hb pins s1 σ H1 _ I1 q1) fun u s2 ⟨y, H2, I2, r2, q2⟩ =>
    thn (ho pins s2 σ H2 x y v u _ I2 r1 r2 q2) fun c s3 ⟨z, H3, I3, r3, k, e, q3⟩ => ?_) hm
  subst e
  cases r3
  exact wpAny_truthy_bool ⟨H3, I3, q3⟩
noncomputable def tChain (r r' : R2) (ta tb tc : TE) : TE := fun σ H Q => ta σ H fun x H1 => tb σ H1 fun y H2 => r x y H2 fun z H3 => ∃ k, z = .bl k ∧
  (if k = true then tc σ H3 fun w' H4 => r' y w' H4 Q else Q (.bl false) H3)
theorem pt_chain {op op' : CmpOp} {r r' : R2} (ho : OpR X (compareOp op) r) (ho' : OpR X (compareOp op') r') (ha : PE X a ta) (hb : PE X b tb) (hc : PE X c tc)
    (hm : lastMarks [op, op'] [b, c] = false := by with_unfolding_all rfl) : PT X (.Compare a [op, op'] [b, c] pos) (tTest (tChain r r' ta tb tc)) := by
  intro pins s σ H Q I h
  refine isTrue_chain (thn (ha pins s σ H _ I h) fun v s1 ⟨x, H1, I1, r1, q1⟩ => test_link (thn (hb pins s1 σ H1 _ I1 q1) fun u s2 ⟨y, H2, I2, r2, q2⟩ =>
    thn (ho pins s2 σ H2 x y v u _ I2 r1 r2 q2) fun d s3 ⟨z, H3, I3, r3, k, e, q3⟩ => ?_)) hm
  subst e
  cases r3
  refine wpAny_truthy_bool ?_
  cases k with
  | false =>
    obtain ⟨k', e', q'⟩ := q3
    cases e'
    exact ite_ff ⟨H3, I3, q'⟩
  | true =>
    refine ite_tt (test_last (thn (hc pins s3 σ H3 _ I3 q3) fun w' s4 ⟨z', H4, I4, r4, q4⟩ => thn (ho' pins s4 σ H4 y z' u w' _ I4 r2 r4 q4) fun d' s5 ⟨z2, H5, I5, r5, k2, e2, q5⟩ => ?_))
    subst e2
    cases r5
    exact wpAny_truthy_bool ⟨H5, I5, q5⟩
noncomputable def TruV (K : PySem.W.Frag) (x : V) (H : Hp) (k : Bool) : Prop :=
  match x with
  | .non => k = false
  | .bl b => k = b
  | .int i => k = (i != 0)
  | .str y => y.length ≤ sizeLine ∧ k = ((y.length : Int) != 0)
  | .byt y => y.size ≤ sizeLine ∧ k = ((y.size : Int) != 0)
  | .ref p => (∃ xs, SqL K H p xs ∧ k = !xs.isEmpty) ∨ (∃ xs, SqT K H p xs ∧ k = !xs.isEmpty) ∨ ∃ kvs, H p = some (.dK kvs) ∧ k = !kvs.isEmpty
  | _ => False
theorem isEmpty_kv {κ : Type} {kvs : List (κ × V)} {vs : List (κ × Value)} (r : KV kvs vs) : (!vs.isEmpty) = !kvs.isEmpty := by
  cases r <;> rfl
theorem isEmpty_of {xs : List V} {its : List Value} (r : Vals xs its) : (!its.toArray.isEmpty) = !xs.isEmpty := by
  cases r <;> simp
theorem line63 : (sizeLine : Nat) < 2 ^ 63 := by rw [sizeLine_eq]; decide
theorem tru_ok : TruR X (fun x H Q => ∃ k, TruV X.K x H k ∧ Q k H) := by
  intro pins s σ H x v Q I rx h
  obtain ⟨k, e, q⟩ := h
  have hl := line63
  have hs : sizeLine = 16777216 := sizeLine_eq
  cases x with
  | non =>
    cases rx
    have e' : k = false := e
    subst e'
    exact truthy_none ⟨H, I, q⟩
  | bl b =>
    cases rx
    have e' : k = b := e
    subst e'
    exact wpAny_truthy_bool ⟨H, I, q⟩
  | int i =>
    obtain ⟨t, rfl⟩ := rx
    have e' : k = (i != 0) := e
    subst e'
    exact PySem.P.truthy_int ⟨H, I, q⟩
  | str y =>
    obtain ⟨t, rfl⟩ := rx
    obtain ⟨hy, e'⟩ : y.length ≤ sizeLine ∧ k = ((y.length : Int) != 0) := e
    subst e'
    exact PySem.P.truthy_str (by omega) ⟨H, I.tok _, q⟩
  | byt y =>
    obtain ⟨t, rfl⟩ := rx
    obtain ⟨hy, e'⟩ : y.size ≤ sizeLine ∧ k = ((y.size : Int) != 0) := e
    subst e'
    exact PySem.W.truthy_bytes (by omega) ⟨H, I.tok _, q⟩
  | ref p =>
    cases rx
    have e' : (∃ xs, SqL X.K H p xs ∧ k = !xs.isEmpty) ∨ (∃ xs, SqT X.K H p xs ∧ k = !xs.isEmpty) ∨ ∃ kvs, H p = some (.dK kvs) ∧ k = !kvs.isEmpty := e
    rcases e' with ⟨xs, hx, e'⟩ | ⟨xs, hx, e'⟩ | ⟨kvs, hx, e'⟩
    · subst e'
      obtain ⟨its, r, pl, hz⟩ := I.list hx
      have hlen := r.length
      exact wpAny_truthy_list pl.isList (by simp only [List.size_toArray]; omega) ⟨H, I.tok _, by rw [isEmpty_of r]; exact q⟩
    · subst e'
      obtain ⟨its, r, pl, hz⟩ := I.tuple hx
      have hlen := r.length
      exact truthy_tuple pl (by simp only [List.size_toArray]; omega) ⟨H, I.tok _, by rw [isEmpty_of r]; exact q⟩
    · subst e'
      obtain ⟨hz, hS, vs, r, m⟩ : kvs.length ≤ sizeLine ∧ (p == sysModules) = false ∧ ∃ vs, KV kvs vs ∧ s.heap.DictOf (mixKind X.prog X.w) p vs := I.hok p _ hx
      have hlen : kvs.length = vs.length := Paired.length r
      exact wpAny_truthy_dict hS m (by omega) ⟨H, I.tok _, by rw [isEmpty_kv r]; exact q⟩
  | _ => exact (show False from e).elim
theorem pt_truth (ha : PE X a ta) (he : ∀ whole, isTrue a X.env whole = (do let v ← whole; standAt a.pos; holding [v] (truthy v))) :
    PT X a (fun σ H Q => ta σ H fun x H' => ∃ k, TruV X.K x H' k ∧ Q k H') := by
  intro pins s σ H Q I h
  exact isTrue_plain (thn (ha pins s σ H _ I h) fun v s1 ⟨x, H1, I1, r1, q1⟩ => tru_ok pins s1 σ H1 x v Q I1 r1 q1) (he _)
theorem op_add_str : OpR X (binaryOp .Add) (fun x y H Q => ∃ i j, x = .str i ∧ y = .str j ∧ i.length + j.length ≤ sizeLine ∧ Q (.str (i ++ j)) H) := by
  intro pins s σ H x y v u Q I rx ry h
  obtain ⟨i, j, rfl, rfl, hz, q⟩ := h
  obtain ⟨t, rfl⟩ := rx
  obtain ⟨t', rfl⟩ := ry
  exact add_str (fun t' tk => ⟨.str (i ++ j), H, I.tok _, ⟨_, rfl⟩, q⟩) hz
theorem vals1 {x : V} {us : List Value} (r : Vals [x] us) : ∃ u, us = [u] ∧ RelV x u := by
  cases r with
  | cons r1 r2 => cases r2; exact ⟨_, rfl, r1⟩
theorem vals2 {x y : V} {us : List Value} (r : Vals [x, y] us) : ∃ u w', us = [u, w'] ∧ RelV x u ∧ RelV y w' := by
  cases r with
  | cons r1 r2 =>
    cases r2 with
    | cons r3 r4 => cases r4; exact ⟨_, _, rfl, r1, r3⟩
theorem call_abs : CallR X (.builtin "abs") (fun xs H Q => ∃ i, xs = [.int i] ∧ Q (.int (if i < 0 then -i else i)) H) := by
  intro pins s σ H xs us Q I r h
  obtain ⟨i, rfl, q⟩ := h
  obtain ⟨u, rfl, t, rfl⟩ := vals1 r
  exact call_abs_int fun u tk => ⟨.int (if i < 0 then -i else i), H, I.tok _, ⟨_, rfl⟩, q⟩
end
end L2
namespace L2
open PySem PySem.Spec PyProof.Rows
structure ObjM (h : Heap) (x dx C : Addr) (mA : Str → Option Value) : Prop where
  obj : h.get? x = some (PySem.W.instObj C dx)
  ns : h.Ns1 dx mA
  ne : dx ≠ x
theorem lookIn_ns {h : Heap} {dx : Addr} {mA : Str → Option Value} (n : h.Ns1 dx mA) : ∃ od, h.get? dx = some od ∧ ∀ name, PySem.W.lookIn name od = some (mA name) := by
  obtain ⟨o, es, ep, ho, hd, hk, _, hm⟩ := n
  refine ⟨o, ho, fun name => ?_⟩
  have e := hm name
  unfold nsFind findBy at e
  rw [← Array.find?_toList] at e
  unfold PySem.W.lookIn
  rw [hd]
  dsimp only
  split
  · rename_i y q
    rw [q] at e
    exact congrArg some e
  · rename_i q
    rw [q] at e
    have a : es.toList.any (·.refKey) = false := by
      rw [List.any_eq_false]
      intro y hy
      obtain ⟨z, t, hkey⟩ := hk y (Array.mem_toList_iff.mp hy)
      simp [DictEntry.refKey, hkey]
    have a' : ¬ es.toList.any (·.refKey) = true := by rw [a]; exact Bool.false_ne_true
    rw [if_neg a']
    exact congrArg some e
theorem ObjM.look {h : Heap} {x dx C : Addr} {mA : Str → Option Value} (I : ObjM h x dx C mA) : ∃ od, PySem.W.InstAt h x (PySem.W.instObj C dx) C (some od) ∧ ∀ name, PySem.W.lookIn name od = some (mA name) :=
  let ⟨od, ho, hl⟩ := lookIn_ns I.ns
  ⟨od, ⟨I.obj, rfl, rfl, ho⟩, hl⟩
section
variable {prog : Program} {w : World} {A : Around} {E : Value → Shared → Prop} {s : Shared} {K : PySem.W.Frag} {x dx C f : Addr} {mA : Str → Option Value} {name : Str} {v : Value}
end
section
variable {P : Program} {w : World} {H H' : Hp} {h h' : Heap} {a C dx : Addr} {fs fs' : List (Str × V)}
end
structure Cls (K : PySem.W.Frag) (C : Addr) : Prop where
  pg : PySem.W.plainGet K C Str.empty = true
  hd : PySem.W.hasDictIn K C = true
  po : PySem.W.plainOver K C = true
  sa : PySem.W.findIn K (.ref C) "__setattr__" = some (some (.builtin "object.__setattr__"))
theorem Cls.get {K : PySem.W.Frag} {C : Addr} (c : Cls K C) (f : Str) : PySem.W.plainGet K C f = true := c.pg
structure Con (K : PySem.W.Frag) (C : Addr) (f : Str) (v : V) (u : Value) : Prop where
  at_ : PySem.W.findIn K (.ref C) f = some (some u)
  rel : RelV v u
  get : PySem.W.specialIn K u "__get__" = some none
  cp : PySem.W.copiedNames.contains f = false
structure Meth (K : PySem.W.Frag) (C : Addr) (m : Str) (f : Addr) : Prop where
  at_ : PySem.W.findIn K (.ref C) m = some (some (.ref f))
  fn : PySem.W.isFn K (.ref f) = true
  kp : PySem.W.keepIn K (.ref f) = true
section
variable {X : Cx} {pins : List (Addr × Obj)} {σ : St} {H : Hp} {s : Shared} {a C dx : Addr} {fs : List (Str × V)} {f : Str} {v : V} {A : Around} {E : Value → Shared → Prop}
theorem Inv.made (I : Inv X pins σ H s) : Inv X pins σ (upd (upd H s.heap.objs.size (.own (s.heap.objs.size + 1))) (s.heap.objs.size + 1) (.ins C s.heap.objs.size []))
    { s with heap := (s.heap.push PySem.W.emptyDict).push (PySem.W.instObj C s.heap.objs.size) } := by
  have e1 : (s.heap.push PySem.W.emptyDict).get? s.heap.objs.size = some PySem.W.emptyDict := Heap.get?_push_size s.heap rfl
  have e2 : ((s.heap.push PySem.W.emptyDict).push (PySem.W.instObj C s.heap.objs.size)).get? (s.heap.objs.size + 1) = some (PySem.W.instObj C s.heap.objs.size) := by
    have := Heap.get?_push_size (s.heap.push PySem.W.emptyDict) (o := PySem.W.instObj C s.heap.objs.size) rfl
    rwa [Heap.size_push] at this
  have e3 : (s.heap.push PySem.W.emptyDict).Ns s.heap.objs.size (fun _ => none) := ⟨PySem.W.emptyDict, #[], _, e1, rfl, (fun e he => absurd he (by simp)), fun _ => rfl⟩
  have I1 := I.laid (a := s.heap.objs.size) (o := .own (s.heap.objs.size + 1)) (h' := s.heap.push PySem.W.emptyDict) (t' := s.toks) (fun b u q => Heap.get?_push_of_some _ q) (Nat.le_refl _) ⟨_, e1⟩
  refine I1.laid (a := s.heap.objs.size + 1) (o := .ins C s.heap.objs.size []) (t' := s.toks) (fun b u q => Heap.get?_push_of_some _ q) (Nat.le_of_eq (Heap.size_push _ _)) ?_
  have ne : s.heap.objs.size ≠ s.heap.objs.size + 1 := Nat.ne_of_lt (Nat.lt_succ_self _)
  refine ⟨by rw [upd_ne ne, upd_same], Nat.zero_le _, ne, e2, fun _ => none, (Heap.Ns1.of_empty e3).at fun o q => Heap.get?_push_of_some _ q, fun _ => True.intro, fun y hy => absurd rfl hy⟩
end
section
variable {X : Cx} {o e value : Expr} {f : Str} {pos pos' tpos : Pos} {ta tv : TE}
end
section
variable {X : Cx} {pins : List (Addr × Obj)} {σ : St} {H : Hp} {s : Shared} {A : Around} {E : Value → Shared → Prop} {Q : Value → Shared → Prop} {c : Value} {b : Bool}
inductive TyOf (K : PySem.W.Frag) (H : Hp) : V → Value → Prop where
  | non : TyOf K H .non (.type "NoneType")
  | bl (x : Bool) : TyOf K H (.bl x) (.type "bool")
  | int (i : Int) : TyOf K H (.int i) (.type "int")
  | str (x : Str) : TyOf K H (.str x) (.type "str")
  | flt (x : UInt64) : TyOf K H (.flt x) (.type "float")
  | lst {a : Addr} {xs : List V} (e : H a = some (.lst xs)) : TyOf K H (.ref a) (.type "list")
  | frz {a : Addr} {o : Obj} {xs : List V} (e : H a = some (.frz o (.lst xs))) : TyOf K H (.ref a) (.type "list")
  | tup {a : Addr} {xs : List V} (e : H a = some (.tup xs)) : TyOf K H (.ref a) (.type "tuple")
  | dK {a : Addr} {kvs : List (Key × V)} (e : H a = some (.dK kvs)) : TyOf K H (.ref a) (.type "dict")
  | dT {a : Addr} {kvs : List (List Key × V)} (e : H a = some (.dT kvs)) : TyOf K H (.ref a) (.type "dict")
  | ins {a C dx : Addr} {fs : List (Str × V)} (e : H a = some (.ins C dx fs)) (cl : Cls K C) (ha : PySem.W.findIn K (.ref C) "__class__" = some (some (.builtin "object.__class__")))
      (hn : PySem.W.specialIn K (.builtin "object.__class__") "__get__" = some (some (.builtin "getset_descriptor.__get__"))) (htk : PySem.W.takesIn K (.builtin "object.__class__") = some true)
      (hm : PySem.W.mroIn K C (.type "object") = some true) : TyOf K H (.ref a) (.ref C)
end
end L2
namespace L2
open PySem PySem.Spec PyProof.Rows
structure Room (k : Nat) (A : Around) : Prop where
  hd : A.handled = none
  dp : A.depth + 3 * k + 5 < recursionLimit
  un : A.units + 16 * k + 200 < cLine
theorem Room.mono {j k : Nat} {A : Around} (r : Room k A) (h : j ≤ k) : Room j A := ⟨r.hd, by have := r.dp; omega, by have := r.un; omega⟩
theorem Room.deeper {k : Nat} {A : Around} (r : Room (k + 1) A) (env : Env) : Room k (A.deeper env) :=
  ⟨r.hd, by have := r.dp; show A.depth + 1 + 3 * k + 5 < _; omega, by have := r.un; show A.units + 3 + 16 * k + 200 < _; omega⟩
theorem Room.in1 {k : Nat} {A : Around} (r : Room (k + 1) A) : Room k A.in1 :=
  ⟨r.hd, by have := r.dp; show A.depth + 3 * k + 5 < _; omega, by have := r.un; show A.units + 1 + 16 * k + 200 < _; omega⟩
theorem Room.depth {k : Nat} {A : Around} (r : Room k A) : A.depth < recursionLimit := by have := r.dp; omega
theorem Room.units {k : Nat} {A : Around} (r : Room k A) : A.units + 64 < cLine := by have := r.un; omega
noncomputable def tNil : TA := fun _ H Q => Q [] H
noncomputable def tCons (ta : TE) (tr : TA) : TA := fun σ H Q => ta σ H fun x H1 => tr σ H1 fun xs H2 => Q (x :: xs) H2
section
variable {X : Cx} {e : Expr} {es : List Expr} {te : TE} {t : TA} {pos : Pos}
theorem pa_nil : PA X [] tNil := fun _ _ _ _ H Q I h => Calls.spliced_nil ⟨[], H, I, .nil, h⟩
theorem pa_cons (ha : PE X e te) (hr : PA X es t) (hs : starEach (e :: es) X.env = (false, eval e X.env) :: starEach es X.env := by rfl) : PA X (e :: es) (tCons te t) := by
  intro pos pins s σ H Q I h
  rw [hs]
  show wpAny _ _ (spliced ((false, eval e X.env) :: backTo pos (starEach es X.env))) _ _ s
  refine Calls.spliced_cons (thn (ha pins s σ H _ I h) fun u s1 ⟨x, H1, I1, r1, q1⟩ => ?_)
  exact thn (hr pos pins s1 σ H1 _ I1 q1) fun us s2 ⟨xs, H2, I2, r2, q2⟩ => ⟨x :: xs, H2, I2, .cons r1 r2, q2⟩
noncomputable def tTup (t : TA) : TE := fun σ H Q => t σ H fun xs H1 => xs.length ≤ sizeLine ∧ ∀ p, H1 p = none → Q (.ref p) (upd H1 p (.tup xs))
noncomputable def tLst (t : TA) : TE := fun σ H Q => t σ H fun xs H1 => xs.length ≤ sizeLine ∧ ∀ p, H1 p = none → Q (.ref p) (upd H1 p (.lst xs))
theorem pe_tup {x1} (h : PA X es t) : PE X (.Tuple es x1 pos) (tTup t) := by
  intro pins s σ H Q I hq
  refine wpAny_Tuple_spliced (thn (h pos pins s σ H _ I hq) fun us s1 ⟨xs, H1, I1, r, z, q⟩ => ⟨by rw [← r.length]; exact z, ?_⟩)
  have hf : H1 s1.heap.objs.size = none := I1.hok.fresh (Nat.le_refl _)
  refine ⟨.ref s1.heap.objs.size, upd H1 s1.heap.objs.size (.tup xs), I1.laid (t' := s1.toks) (fun b u e => Heap.get?_push_of_some _ e) (Nat.le_refl _) ?_, rfl, q _ hf⟩
  exact ⟨z, us, r, ⟨_, Heap.get?_push_size _ rfl, rfl, _, rfl⟩⟩
theorem pe_lst (h : PA X es t) : PE X (.List es pos) (tLst t) := by
  intro pins s σ H Q I hq
  refine wpAny_List_spliced (thn (h pos pins s σ H _ I hq) fun us s1 ⟨xs, H1, I1, r, z, q⟩ => ⟨by rw [← r.length]; exact z, ?_⟩)
  have hf : H1 s1.heap.objs.size = none := I1.hok.fresh (Nat.le_refl _)
  refine ⟨.ref s1.heap.objs.size, upd H1 s1.heap.objs.size (.lst xs), I1.laid (t' := s1.toks) (fun b u e => Heap.get?_push_of_some _ e) (Nat.le_refl _) ?_, rfl, q _ hf⟩
  exact ⟨z, us, 0, r, Heap.get?_push_size _ rfl⟩
end
noncomputable abbrev Sp := List V → Hp → VK → XK → Prop
noncomputable abbrev CXT := List Env → Hp → Shared → XK → Value → Shared → Prop
structure Env0 (P : Program) (w : World) (K : PySem.W.Frag) (mg : Str → Option Value) (base : Heap) (A : Around) (outer : List Env) (s : Shared) (H : Hp) : Prop where
  frames : A.frames = some outer
  mod : Mod K mg base
  bs : ∀ b o, base.get? b = some o → s.heap.get? b = some o ∧ H b = none
  bsz : base.objs.size ≤ s.heap.objs.size
  funs : s.heap.FunFrames base outer
  frf : ∀ b ∈ frs outer, H b = none
  hok : HOk P w H s.heap
  bare : AllBare s.gens
noncomputable def CE (outer : List Env) (P : Program) (w : World) (H : Hp) (s : Shared) (Q : VK) (u : Value) (s' : Shared) : Prop :=
  ∃ v H', s'.os = s.os ∧ AllBare s'.gens ∧ Un (frs outer) [] H H' s.heap s'.heap ∧ HOk P w H' s'.heap ∧ RelV v u ∧ Q v H'
noncomputable def CR (CX : CXT) (outer : List Env) (P : Program) (w : World) (H : Hp) (s : Shared) (Q : VK) (E : XK) (r : Result) (s' : Shared) : Prop :=
  match r with
  | .ok (.ret u) => CE outer P w H s Q u s'
  | .ok _ => False
  | .error e => CX outer H s E e s'
structure FnOk (P : Program) (w : World) (K : PySem.W.Frag) (mg : Str → Option Value) (base : Heap) (CX : CXT) (k : Nat) (f : Addr) (fd : FuncData) (ps : List Str) (sp : Sp) : Prop where
  len : ∀ vs H Q E, sp vs H Q E → vs.length = ps.length
  run : ∀ (A : Around) (outer : List Env) (s : Shared) (H : Hp) (args : Args) (us : List Value) (vs : List V) (Q : VK) (E : XK), Room k A → Env0 P w K mg base A outer s H → BindsTo s fd args (ps.zip us) → Vals vs us → sp vs H Q E →
    codeAny (model P w) A (.call (.ref f) args) (CR CX outer P w H s Q E) s
theorem FnOk.mono {P : Program} {w : World} {K : PySem.W.Frag} {mg : Str → Option Value} {base : Heap} {CX : CXT} {j k : Nat} {f : Addr} {fd : FuncData} {ps : List Str} {sp : Sp} (F : FnOk P w K mg base CX j f fd ps sp) (h : j ≤ k) :
    FnOk P w K mg base CX k f fd ps sp := ⟨F.len, fun A outer s H args us vs Q E hr => F.run A outer s H args us vs Q E (hr.mono h)⟩
theorem FnOk.imp {P : Program} {w : World} {K : PySem.W.Frag} {mg : Str → Option Value} {base : Heap} {CX : CXT} {k : Nat} {f : Addr} {fd : FuncData} {ps : List Str} {sp sp' : Sp} (F : FnOk P w K mg base CX k f fd ps sp)
    (h : ∀ vs H Q E, sp' vs H Q E → sp vs H Q E) : FnOk P w K mg base CX k f fd ps sp' :=
  ⟨fun vs H Q E q => F.len vs H Q E (h _ _ _ _ q), fun A outer s H args us vs Q E hr he hb hv hs => F.run A outer s H args us vs Q E hr he hb hv (h _ _ _ _ hs)⟩
theorem Env0.in1 {P : Program} {w : World} {K : PySem.W.Frag} {mg : Str → Option Value} {base : Heap} {A : Around} {outer : List Env} {s : Shared} {H : Hp} (e : Env0 P w K mg base A outer s H) :
    Env0 P w K mg base A.in1 outer s H := ⟨e.frames, e.mod, e.bs, e.bsz, e.funs, e.frf, e.hok, e.bare⟩
section
variable {X : Cx} {pins : List (Addr × Obj)} {σ : St} {H : Hp} {s s' : Shared}
theorem Inv.env0 (I : Inv X pins σ H s) : Env0 X.prog X.w X.K X.mg X.base X.A X.stack s H :=
  ⟨I.ok.frames, I.ok.mod, I.bs, Nat.le_trans I.ok.bsz I.sz, I.stack, I.stkFree, I.hok, I.bare⟩
theorem Inv.after {Q : VK} {u : Value} (I : Inv X pins σ H s) (h : CE X.stack X.prog X.w H s Q u s') : EP X pins σ Q u s' := by
  obtain ⟨v, H', os, bare, un, hok, r, q⟩ := h
  obtain ⟨hh, g, d, t, os'⟩ := s'
  obtain rfl : os' = s.os := os
  exact ⟨v, H', I.call (h' := hh) (g' := g) (d' := d) (t' := t) (ch := []) un hok bare (fun b z => absurd z (by simp)), r, q⟩
end
noncomputable def tCall (sp : Sp) (dvs : List V) (E : XK) (t : TA) : TE := fun σ H Q => t σ H fun vs H1 => sp (vs ++ dvs) H1 Q E
noncomputable def Binds (K : PySem.W.Frag) (fd : FuncData) (ps : List Str) (ds : List Value) : Prop :=
  ∀ (s : Shared) (us : List Value), K.In s.heap → (us ++ ds).length = ps.length → BindsTo s fd ⟨us, []⟩ (ps.zip (us ++ ds))
theorem Binds.all {K : PySem.W.Frag} {fd : FuncData} {ps : List Str} (h : ∀ us : List Value, us.length = ps.length → bindArgs fd ⟨us, []⟩ = pure (ps.zip us)) : Binds K fd ps [] := fun s us _ hl => by
  rw [List.append_nil] at hl ⊢
  exact .of_eq (h us hl)
noncomputable def Passes (CX : CXT) (X : Cx) (E : XK) : Prop := ∀ (pins : List (Addr × Obj)) (σ : St) (H : Hp) (s : Shared) (e : Value) (s' : Shared), Inv X pins σ H s → CX X.stack H s E e s' → X.xe e s'
section
variable {X : Cx} {CX : CXT} {k : Nat} {f C : Addr} {fd : FuncData} {ps : List Str} {sp : Sp} {dvs : List V} {ds : List Value} {E : XK} {x m : Str} {p pos apos : Pos} {e o : Expr} {es : List Expr} {ta : TE} {t : TA}
theorem run_fn {pins : List (Addr × Obj)} {σ : St} {H : Hp} {s : Shared} {Q : VK} {us : List Value} {vs : List V} (F : FnOk X.prog X.w X.K X.mg X.base CX k f fd ps sp) (hr : Room k X.A) (hb : Binds X.K fd ps ds) (hd : Vals dvs ds) (hx : Passes CX X E)
    (I : Inv X pins σ H s) (r : Vals vs us) (h : sp (vs ++ dvs) H Q E) : wpAny (model X.prog X.w) X.A (call (.ref f) us) (EP X pins σ Q) X.xe s := by
  have r2 : Vals (vs ++ dvs) (us ++ ds) := r.append hd
  have hl : (us ++ ds).length = ps.length := by rw [← r2.length]; exact F.len _ _ _ _ h
  refine wpAny_call (codeAny_mono (F.run X.A X.stack s H ⟨us, []⟩ (us ++ ds) (vs ++ dvs) Q E hr I.env0 (hb s us I.kIn hl) r2 h) fun r s' hq => ?_)
  cases r with
  | error e => exact hx pins σ H s e s' I hq
  | ok fl =>
    cases fl with
    | ret u => exact I.after hq
    | next => exact False.elim hq
    | brk => exact False.elim hq
    | cont => exact False.elim hq
theorem pe_call (F : FnOk X.prog X.w X.K X.mg X.base CX k f fd ps sp) (hr : Room k X.A) (hg : Gl X x) (hm : X.mg x = some (.ref f)) (hk : PySem.W.keepIn X.K (.ref f) = true) (hb : Binds X.K fd ps ds) (hd : Vals dvs ds) (hx : Passes CX X E)
    (ha : PA X (e :: es) t) (hdb : (x == ("__debug__" : Str)) = false := by decide) (he : starEach (e :: es) X.env = (false, eval e X.env) :: starEach es X.env := by rfl) (hpl : (backTo pos (starEach es X.env)).any (·.1) = false := by rfl) :
    PE X (.Call (.Name x p) (e :: es) [] pos) (tCall sp dvs E t) := by
  intro pins s σ H Q I h
  refine wpAny_Call_Name_kw (ld_glob I hg hm ?_ hdb)
  refine PySem.W.callWith_K (h₀ := X.base) I.ok.mod.kin hk (thn (ha pos pins s σ H _ I h) fun us s1 ⟨vs, H1, I1, r, q⟩ => ⟨I1.kIn, ?_⟩) he hpl
  exact run_fn F hr hb hd hx I1 r q
structure Mk (K : PySem.W.Frag) (C f : Addr) : Prop where
  makes : PySem.W.makesIn K C = true
  init : PySem.W.findIn K (.ref C) "__init__" = some (some (.ref f))
  fn : PySem.W.isFn K (.ref f) = true
  kp : PySem.W.keepIn K (.ref C) = true
end
section
variable {X : Cx} {CX : CXT} {k : Nat} {f C : Addr} {fd : FuncData} {ps ks : List Str} {sp : Sp} {E : XK} {x m : Str} {p pos apos kpos : Pos} {e o : Expr} {es : List Expr} {kws : List Keyword} {te ta : TE} {t tk : TA} {nm : Option Str}
structure KBinds (K : PySem.W.Frag) (fd : FuncData) (ps ks : List Str) (g : List Value → List Value → List Value) (gV : List V → List V → List V) : Prop where
  to : ∀ (s : Shared) (us ws : List Value), K.In s.heap → (g us ws).length = ps.length → BindsTo s fd ⟨us, ks.zip ws⟩ (ps.zip (g us ws))
  rel : ∀ {vs : List V} {us : List Value} {zs : List V} {ws : List Value}, Vals vs us → Vals zs ws → Vals (gV vs zs) (g us ws)
variable {g : List Value → List Value → List Value} {gV : List V → List V → List V}
end
structure FnScope (N P : List Str) (sc : Scope) : Prop where
  kind : sc.kind = .function
  co : sc.isCoroutine = false
  gen : sc.isGenerator = false
  nd : N.Nodup
  pre : N.take P.length = P
  par : ∀ x ∈ P, sc.names.lookup x = some .local ∨ sc.names.lookup x = some .cell
  nofree : ∀ y ∈ sc.names, y.2 ≠ .free
theorem bindL_out {kindOf : Str → Option NameKind} {x : Str} : ∀ {binds : List (Str × Value)} {m : Str → Option Value}, (∀ v, (x, v) ∉ binds) → bindL kindOf binds m x = m x
  | [], _, _ => rfl
  | (n, v) :: r, m, h => by
    unfold bindL
    rw [bindL_out fun w hw => h w (List.mem_cons_of_mem _ hw)]
    split
    · have : x ≠ n := by rintro rfl; exact h v List.mem_cons_self
      simp [this]
    · rfl
theorem bindC_out {kindOf : Str → Option NameKind} {x : Str} : ∀ {binds : List (Str × Value)} {m : Str → Option Value}, (∀ v, (x, v) ∉ binds) → bindC kindOf binds m x = m x
  | [], _, _ => rfl
  | (n, v) :: r, m, h => by
    unfold bindC
    rw [bindC_out fun w hw => h w (List.mem_cons_of_mem _ hw)]
    split
    · rfl
    · have : x ≠ n := by rintro rfl; exact h v List.mem_cons_self
      simp [this]
theorem bindL_get {kindOf : Str → Option NameKind} {x : Str} {v : Value} : ∀ {P : List Str} {vs : List Value} {i : Nat} {m : Str → Option Value}, P.Nodup → P[i]? = some x → vs[i]? = some v → kindOf x = some .local →
    bindL kindOf (P.zip vs) m x = some v
  | [], _, _, _, _, h, _, _ => by simp at h
  | _ :: _, [], _, _, _, _, h, _ => by simp at h
  | p :: P, w :: vs, 0, m, nd, h1, h2, hk => by
    simp at h1 h2; subst h1; subst h2
    show bindL kindOf ((p, w) :: P.zip vs) m p = _
    unfold bindL
    rw [bindL_out fun v hv => (List.nodup_cons.mp nd).1 (List.of_mem_zip hv).1, if_pos hk]
    simp
  | p :: P, w :: vs, i + 1, m, nd, h1, h2, hk => by
    show bindL kindOf ((p, w) :: P.zip vs) m x = _
    unfold bindL
    exact bindL_get (i := i) (List.nodup_cons.mp nd).2 (by simpa using h1) (by simpa using h2) hk
theorem bindC_get {kindOf : Str → Option NameKind} {x : Str} {v : Value} : ∀ {P : List Str} {vs : List Value} {i : Nat} {m : Str → Option Value}, P.Nodup → P[i]? = some x → vs[i]? = some v → kindOf x ≠ some .local →
    bindC kindOf (P.zip vs) m x = some v
  | [], _, _, _, _, h, _, _ => by simp at h
  | _ :: _, [], _, _, _, _, h, _ => by simp at h
  | p :: P, w :: vs, 0, m, nd, h1, h2, hk => by
    simp at h1 h2; subst h1; subst h2
    show bindC kindOf ((p, w) :: P.zip vs) m p = _
    unfold bindC
    rw [bindC_out fun v hv => (List.nodup_cons.mp nd).1 (List.of_mem_zip hv).1, if_neg hk]
    simp
  | p :: P, w :: vs, i + 1, m, nd, h1, h2, hk => by
    show bindC kindOf ((p, w) :: P.zip vs) m x = _
    unfold bindC
    exact bindC_get (i := i) (List.nodup_cons.mp nd).2 (by simpa using h1) (by simpa using h2) hk
noncomputable def start (N : List Str) (vs : List V) : St := vs.map some ++ List.replicate (N.length - vs.length) none
noncomputable def cxOf (CX : CXT) (P : Program) (w : World) (K : PySem.W.Frag) (mg : Str → Option Value) (base : Heap) (N : List Str) (qual : Str) (scope : Scope) (f : Addr) (cd : Value) (A : Around) (outer : List Env) (s : Shared) (H : Hp) (E : XK) : Cx where
  prog := P
  w := w
  K := K
  mg := mg
  base := base
  A := A.deeper (envOfC qual scope s.heap.objs.size f cd)
  N := N
  s₀ := s
  H₀ := H
  env := envOfC qual scope s.heap.objs.size f cd
  outer := outer
  stack := envOfC qual scope s.heap.objs.size f cd :: outer
  ex := []
  calm := true
  fn := fun _ => true
  pn := []
  xe := fun e s' => wpAny (model P w) (A.deeper (envOfC qual scope s.heap.objs.size f cd)) (leaving (envOfC qual scope s.heap.objs.size f cd) e) (fun _ s'' => CX outer H s E e s'') (fun e' s'' => CX outer H s E e' s'') s'
theorem cell_has {sc : Scope} {n : Nat} {x : Str} (h : sc.names.lookup x = some .cell) : ∃ c, (cellsFrom n sc.names []).lookup x = some c := by
  have q := PySem.W.cellsFrom_some sc.names n [] (.inl h)
  exact Option.isSome_iff_exists.mp q
theorem inv_start {CX : CXT} {P : Program} {w : World} {K : PySem.W.Frag} {mg : Str → Option Value} {base : Heap} {N ps : List Str} {qual : Str} {scope : Scope} {f : Addr} {cd : Value} {A : Around} {outer : List Env} {s s1 : Shared} {H : Hp} {E : XK} {us : List Value} {vs : List V}
    (S : FnScope N ps scope) (hd : A.handled = none) (e0 : Env0 P w K mg base A outer s H) (hl : vs.length = ps.length) (r : Vals vs us)
    (x : InCallC s s.heap.objs.size (bindL (envOfC qual scope s.heap.objs.size f cd).kindOf (ps.zip us) fun _ => none) (cellsFrom (s.heap.objs.size + 1) scope.names []) (bindC (envOfC qual scope s.heap.objs.size f cd).kindOf (ps.zip us) fun _ => none) s1) :
    Inv (cxOf CX P w K mg base N qual scope f cd A outer s H E) [] (start N vs) H s1 := by
  have hpl : ps.length ≤ N.length := by have := congrArg List.length S.pre; rw [List.length_take] at this; omega
  obtain ⟨h1, tk, rfl, hk⟩ := x.done
  have noA : ∀ b : Addr, b ∉ (cxOf CX P w K mg base N qual scope f cd A outer s H E).ex := fun b z => absurd (show b ∈ ([] : List Addr) from z) (by simp)
  refine ⟨⟨e0.mod, S.kind, rfl, rfl, Nat.le_refl _, fun y z c h1 h2 => ?_, fun y hy => ?_, fun y c _ h => ?_, fun _ => hd, Around.frames_deeper e0.frames, .inr ⟨rfl, rfl⟩, fun b z => absurd z (noA b), e0.bs, e0.bsz, fun b _ _ => noA b, fun b z => absurd z (noA b), e0.funs, e0.frf⟩,
    rfl, e0.bare, Un.kept hk, ⟨_, x.toInCall.ns, fun i y v h1 h2 h3 => ?_⟩, fun y c h => ⟨_, x.cell y c h⟩, e0.hok.fresh (Nat.le_refl _), fun y c h => ?_, fun p hp => absurd (show p ∈ ([] : List (Addr × Obj)) from hp) (by simp), e0.hok.kept hk, ?_⟩
  · exact name_of_addr x.apart (PySem.mem_of_lookup h1) (PySem.mem_of_lookup h2)
  · have hy : scope.names.lookup y = some .cell ∨ scope.names.lookup y = some .free := hy
    rcases hy with hy | hy
    · exact cell_has hy
    · exact absurd rfl (S.nofree _ (PySem.mem_of_lookup hy))
  · exact Nat.le_of_lt (x.above y c (PySem.mem_of_lookup h))
  · have hi : i < vs.length := by
      unfold start at h2
      by_cases hi : i < vs.length
      · exact hi
      · rw [List.getElem?_append_right (by simpa using hi)] at h2
        rw [List.getElem?_replicate] at h2
        split at h2 <;> cases h2
    have ha : vs[i]? = some v := by
      unfold start at h2
      rw [List.getElem?_append_left (by simpa using hi), List.getElem?_map] at h2
      cases e : vs[i]? with
      | none => rw [e] at h2; cases h2
      | some a => rw [e] at h2; cases h2; rfl
    obtain ⟨u, hu, rv⟩ := r.get ha
    have hp : ps[i]? = some y := by
      rw [← S.pre, List.getElem?_take_of_lt (by omega)]; exact h1
    have ndP : ps.Nodup := by rw [← S.pre]; exact S.nd.sublist (List.take_sublist _ _)
    refine ⟨u, rv, ?_⟩
    rcases S.par y (List.mem_of_getElem? hp) with k | k
    · exact .inl ⟨k, bindL_get ndP hp hu k⟩
    · obtain ⟨c, e⟩ := cell_has (n := s.heap.objs.size + 1) k
      refine .inr ⟨.inl k, c, e, ?_⟩
      have q := x.cell y c e
      rw [bindC_get ndP hp hu (by show scope.names.lookup y ≠ _; rw [k]; decide)] at q
      exact q
  · exact e0.hok.fresh (Nat.le_of_lt (x.above y c (PySem.mem_of_lookup h)))
  · unfold start
    show _ = N.length
    rw [List.length_append, List.length_map, List.length_replicate]
    omega
theorem fn_of {CX : CXT} {P : Program} {w : World} {K : PySem.W.Frag} {mg : Str → Option Value} {base : Heap} {k : Nat} {f : Addr} {name qual : Str} {params : Arguments} {body : List Stmt} {scope : Scope} {dV kV doc pm cdv ct oc : Value} {an od : Option Addr}
    {osl : Array (Option Value)} {N ps : List Str} {sp : Sp} (lk : K.lookup f = some ⟨oc, od, .func (PySem.W.fnOf name qual params body scope dV kV doc pm an cdv ct), osl⟩) (hcd : PySem.W.codeIn K cdv qual = true) (S : FnScope N ps scope)
    (len : ∀ vs H Q E, sp vs H Q E → vs.length = ps.length)
    (hbody : ∀ (A : Around) (outer : List Env) (s : Shared) (H : Hp) (vs : List V) (Q : VK) (E : XK), Room k (A.deeper (envOfC qual scope s.heap.objs.size f cdv)) → sp vs H Q E →
      ∃ t, PSs (cxOf CX P w K mg base N qual scope f cdv A outer s H E) body t ∧ t { nx := fun _ H' => Q .non H', rt := Q } (start N vs) H) :
    FnOk P w K mg base CX (k + 1) f (PySem.W.fnOf name qual params body scope dV kV doc pm an cdv ct) ps sp := by
  refine ⟨len, fun A outer s H args us vs Q E hr e0 hb r hsp => ?_⟩
  have hl := len _ _ _ _ hsp
  have KX : K.In s.heap := e0.mod.kin.keeps fun b o e => (e0.bs b o e).1
  have lim : s.heap.NoLimit := e0.mod.nolimit.keeps fun b o e => (e0.bs b o e).1
  have hkind : ∀ y ∈ ps.zip us, scope.names.lookup y.1 = some .local ∨ (scope.names.lookup y.1 = some .cell ∧ ((cellsFrom (s.heap.objs.size + 1) scope.names []).lookup y.1).isSome = true) := fun ⟨n, v⟩ hy => by
    rcases S.par n (List.of_mem_zip hy).1 with q | q
    · exact .inl q
    · exact .inr ⟨q, PySem.W.cellsFrom_some _ _ _ (.inl q)⟩
  refine codeAny_call_function hr.depth (KX _ _ lk) rfl S.co S.gen rfl (PySem.W.codeRec_of KX hcd) (hb _ _ _ _ ?_)
  refine wpAny_newFunctionEnv_cells S.kind hkind fun env he s1 x => ?_
  subst he
  refine ⟨lim.keeps x.toInCall.keep, codeAny_func ?_⟩
  obtain ⟨t, ht, hq⟩ := hbody A outer s H vs Q E (hr.deeper _) hsp
  have I : Inv (cxOf CX P w K mg base N qual scope f cdv A outer s H E) [] (start N vs) H s1 := inv_start S hr.hd e0 hl r x
  refine wpAny_mono (ht [] s1 (start N vs) H _ I hq) (fun fl s' hs => ?_) fun e s' hs => hs
  have fin : ∀ {σ' : St} {H' : Hp} {v : V} {u : Value}, Inv (cxOf CX P w K mg base N qual scope f cdv A outer s H E) [] σ' H' s' → RelV v u → Q v H' → CE outer P w H s Q u s' :=
    fun {σ' H' v u} J rv q => ⟨v, H', J.os, J.bare, J.base, J.hok, rv, q⟩
  cases fl with
  | ret u =>
    obtain ⟨v, σ', H', J, rv, q⟩ := hs
    exact fin J rv q
  | next =>
    obtain ⟨σ', H', J, q⟩ := hs
    exact fin (v := V.non) (u := Value.none) J rfl q
  | brk =>
    obtain ⟨_, _, _, q⟩ := hs
    exact False.elim q
  | cont =>
    obtain ⟨_, _, _, q⟩ := hs
    exact False.elim q
end L2
namespace L2
open PySem PySem.Spec PyProof.Rows
section
variable {X : Cx} {x : Str} {p pos : Pos} {e : Expr} {es : List Expr} {t : TA} {id T : String} {r : List V → Hp → VK → Prop}
noncomputable def tCB (r : List V → Hp → VK → Prop) (t : TA) : TE := fun σ H Q => t σ H fun vs H1 => r vs H1 Q
theorem pe_callB (hc : CallR X (.builtin id) r) (hg : Gl X x) (hm : X.mg x = none) (hv : bootBuiltins x = some (.builtin id)) (ha : PA X (e :: es) t) (hn : x ≠ "__name__" := by decide) (hdb : (x == ("__debug__" : Str)) = false := by decide)
    (he : starEach (e :: es) X.env = (false, eval e X.env) :: starEach es X.env := by rfl) (hpl : (backTo pos (starEach es X.env)).any (·.1) = false := by rfl) : PE X (.Call (.Name x p) (e :: es) [] pos) (tCB r t) := by
  intro pins s σ H Q I h
  refine wpAny_Call_Name_kw (ld_blt I hg hm hv ?_ hn hdb)
  exact PyProof.Rows.callWith_builtin1 (thn (ha pos pins s σ H _ I h) fun us s1 ⟨vs, H1, I1, r1, q1⟩ => hc pins s1 σ H1 vs us Q I1 r1 q1) he hpl
theorem pe_callTy (hc : CallR X (.type T) r) (hg : Gl X x) (hm : X.mg x = none) (hv : bootBuiltins x = some (.type T)) (ha : PA X (e :: es) t) (hn : x ≠ "__name__" := by decide) (hdb : (x == ("__debug__" : Str)) = false := by decide)
    (he : starEach (e :: es) X.env = (false, eval e X.env) :: starEach es X.env := by rfl) (hpl : (backTo pos (starEach es X.env)).any (·.1) = false := by rfl) : PE X (.Call (.Name x p) (e :: es) [] pos) (tCB r t) := by
  intro pins s σ H Q I h
  refine wpAny_Call_Name_kw (ld_blt I hg hm hv ?_ hn hdb)
  exact PyProof.Rows.callWith_type1 (thn (ha pos pins s σ H _ I h) fun us s1 ⟨vs, H1, I1, r1, q1⟩ => hc pins s1 σ H1 vs us Q I1 r1 q1) he hpl
end
end L2
namespace HT
open PySem PyProof.Rows
section
open PySem.SeqAt
open PySem.AutoSeq1 (wpAny_loadPart')
open PySem.MeetsSeq PySem.MeetsSeq2 PySem.MeetsSeq3
end
section
variable {prog : Program} {w : World} {A : Around} {E : Value → Shared → Prop} {s : Shared}
noncomputable def sIx (n d : Nat) : Option Int → Nat
  | none => d
  | some v => if v < 0 then (v + (n : Int)).toNat else min v.toNat n
theorem sIx_le (n d : Nat) (hd : d ≤ n) (o : Option Int) : sIx n d o ≤ n := by
  cases o with
  | none => exact hd
  | some v =>
    show (if v < 0 then (v + (n : Int)).toNat else min v.toNat n) ≤ n
    by_cases hv : v < 0
    · rw [if_pos hv]; omega
    · rw [if_neg hv]; exact Nat.min_le_right _ _
theorem clip_eq (v : Int) (n d : Nat) : (if v < 0 then max (v + (n : Int)) 0 else min v (n : Int)) = ((sIx n d (some v) : Nat) : Int) := by
  show (if v < 0 then max (v + (n : Int)) 0 else min v (n : Int)) = (((if v < 0 then (v + (n : Int)).toNat else min v.toNat n) : Nat) : Int)
  by_cases hv : v < 0
  · simp only [if_pos hv]; omega
  · simp only [if_neg hv]; omega
theorem adjust_gen (lo hi : Option Int) (n : Nat) : Builtin.Slice.sliceAdjust lo hi 1 (n : Int) = (((sIx n 0 lo : Nat) : Int), ((sIx n n hi : Nat) : Int)) := by
  have h1 : ¬ ((1 : Int) < 0) := by omega
  unfold Builtin.Slice.sliceAdjust
  simp only [h1, if_false]
  refine Prod.ext ?_ ?_
  · cases lo with
    | none => rfl
    | some v => exact clip_eq v n 0
  · cases hi with
    | none => rfl
    | some v => exact clip_eq v n n
theorem places_gen (i j : Nat) : Builtin.Slice.slicePlaces (i : Int) (j : Int) 1 = j - i := by
  unfold Builtin.Slice.slicePlaces
  have h1 : (1 : Int) > 0 := by omega
  simp only [h1, if_true, Int.ediv_one]
  split <;> omega
theorem slicePart_ {v : Value} {o : Option Int} {Q : Option Int → Shared → Prop} (p : IsPart v o) (h : Q o s) : wpAny (model prog w) A (Builtin.Slice.slicePartIndex v) Q E s := by
  cases p with
  | none => exact slicePart_none h
  | int i t => exact slicePart_int h
theorem sliceApplied_gen {sl : Addr} {vl vu : Value} {lo hi : Option Int} {n : Nat} {Q : Int × Int × Nat → Shared → Prop} (hs : s.heap.IsSliceOf sl vl vu .none) (pl : IsPart vl lo) (pu : IsPart vu hi)
    (h : Q (((sIx n 0 lo : Nat) : Int), 1, sIx n n hi - sIx n 0 lo) s) : wpAny (model prog w) A (Builtin.Slice.sliceApplied (.ref sl) (pure (n : Int))) Q E s := by
  obtain ⟨os, hos, hcs, hds⟩ := id hs
  unfold Builtin.Slice.sliceApplied Builtin.Slice.sliceFields
  refine wpAny_bind (wpAny_bind (wpAny_field hos hds (x := vl) rfl (wpAny_bind (wpAny_field hos hds (x := vu) rfl (wpAny_bind (wpAny_field hos hds (x := .none) rfl (wpAny_pure ?_)))))))
  refine wpAny_bind (slicePart_none ?_)
  show wpAny _ _ (if ((1 : Int) == 0) = true then _ else _) _ _ s
  rw [if_neg (by decide)]
  refine wpAny_bind (slicePart_ pl (wpAny_bind (slicePart_ pu (wpAny_bind (wpAny_pure ?_)))))
  show wpAny _ _ (match Builtin.Slice.sliceAdjust lo hi 1 (n : Int) with | (lo, hi) => pure (lo, (1 : Int), Builtin.Slice.slicePlaces lo hi 1)) _ _ s
  rw [adjust_gen lo hi n]
  show wpAny _ _ (pure (((sIx n 0 lo : Nat) : Int), (1 : Int), Builtin.Slice.slicePlaces ((sIx n 0 lo : Nat) : Int) ((sIx n n hi : Nat) : Int) 1)) _ _ s
  rw [places_gen]
  exact wpAny_pure h
theorem pick_gen (xs : Array Value) (i k : Nat) : ((List.range k).filterMap fun (m : Nat) => xs[((i : Int) + (m : Int) * 1).toNat]?).toArray = ((xs.toList.drop i).take k).toArray := by
  have e : (fun (m : Nat) => xs[((i : Int) + (m : Int) * 1).toNat]?) = fun m => xs[i + m]? := by
    funext m
    have : ((i : Int) + (m : Int) * 1).toNat = i + m := by omega
    rw [this]
  rw [e]
  have := pick_run xs i k
  rw [List.filterMap_map] at this
  have e2 : ((fun x => xs[x]?) ∘ fun x => i + x) = fun m => xs[i + m]? := rfl
  rw [e2] at this
  rw [this]
theorem getItem_tuple_cut {t sl : Addr} {items : Array Value} {vl vu : Value} {lo hi : Option Int} {Q : Value → Shared → Prop} (ht : IsTup s.heap t items) (hs : s.heap.IsSliceOf sl vl vu .none) (pl : IsPart vl lo) (pu : IsPart vu hi)
    (hw : ¬ (sIx items.size 0 lo = 0 ∧ sIx items.size items.size hi = items.size))
    (h : Q (.ref s.heap.objs.size) { s with heap := s.heap.push { cls := .type "tuple", data := .seq ((items.toList.drop (sIx items.size 0 lo)).take (sIx items.size items.size hi - sIx items.size 0 lo)).toArray } })
    (hsz : items.size ≤ sizeLine) : wpAny (model prog w) A (getItem (.ref t) (.ref sl)) Q E s := by
  have htake : sizeOk (.seq ((items.toList.drop (sIx items.size 0 lo)).take (sIx items.size items.size hi - sIx items.size 0 lo)).toArray) := by
    show ((items.toList.drop (sIx items.size 0 lo)).take (sIx items.size items.size hi - sIx items.size 0 lo)).toArray.size ≤ sizeLine
    rw [List.size_toArray, List.length_take, List.length_drop, Array.length_toList]
    omega
  have hj : sIx items.size items.size hi ≤ items.size := sIx_le _ _ (Nat.le_refl _) hi
  obtain ⟨os, hos, hcs, hds⟩ := id hs
  have hTs : s.TypeIs (.ref sl) "slice" := ⟨os, hos, hcs⟩
  unfold getItem
  try with_reducible refine wpAny_holding ?_
  first | refine wpAny_bind (wpAny_pure ?_) | skip
  refine wpAny_bind (wpAny_sequenceKey ht.typeIs (by decide) ?_)
  refine wpAny_bind (wpAny_callSpecial?_slot (name := Str.ofString "__getitem__") ht.typeIs PyProof.Rows.slot_tuple_getitem
    (wpAny_call_entry PyProof.Rows.slot_tuple_getitem ht.typeIs entry_tuple_getitem ?_ (args_tuple_getitem _ _)))
  show wpAny _ _ (Builtin.Tuple.tupleItemsOf (.ref t) >>= _) _ _ s
  refine wpAny_bind (tupleItemsOf_ ht ?_)
  refine wpAny_bind (wpAny_typeOf hTs ?_)
  rw [if_pos (by decide)]
  refine wpAny_bind (sliceApplied_gen hs pl pu ?_)
  have hno : ¬ ((((sIx items.size 0 lo : Nat) : Int) == 0 && (1 : Int) == 1 && (sIx items.size items.size hi - sIx items.size 0 lo) == items.size) = true) := by
    intro q
    rw [Bool.and_eq_true, Bool.and_eq_true] at q
    have q1 : ((sIx items.size 0 lo : Nat) : Int) = 0 := eq_of_beq q.1.1
    have q2 : sIx items.size items.size hi - sIx items.size 0 lo = items.size := eq_of_beq q.2
    exact hw ⟨by omega, by omega⟩
  show wpAny _ _ (if (((sIx items.size 0 lo : Nat) : Int) == 0 && (1 : Int) == 1 && (sIx items.size items.size hi - sIx items.size 0 lo) == items.size) = true then _ else _) _ _ s
  rw [if_neg hno, pick_gen]
  first
    | exact wpAny_bind (m := Builtin.Tuple.tupleExact _) (wpAny_newObj_type (wpAny_pure ⟨_, rfl, wpAny_pure h⟩) htake)
    | exact wpAny_bind (m := Builtin.Tuple.tupleExact _) (wpAny_newObj_type (wpAny_bind (wpAny_pure (wpAny_pure ⟨_, rfl, wpAny_pure h⟩))) htake)
    | exact wpAny_bind (wpAny_bind (m := Builtin.Tuple.tupleExact _) (wpAny_newObj_type (wpAny_pure (wpAny_pure ⟨_, rfl, wpAny_pure h⟩)) htake))
    | exact wpAny_bind (wpAny_bind (m := Builtin.Tuple.tupleExact _) (wpAny_newObj_type (wpAny_pure ⟨_, rfl, wpAny_pure h⟩) htake))
end
end HT
namespace L2
open PySem PySem.Spec PyProof.Rows
noncomputable abbrev TO := St → Hp → (Option Int → Hp → Prop) → Prop
noncomputable def PO (X : Cx) (e : Option Expr) (t : TO) : Prop :=
  ∀ (pins : List (Addr × Obj)) (s : Shared) (σ : St) (H : Hp) (Q : Option Int → Hp → Prop), Inv X pins σ H s → t σ H Q →
    wpAny (model X.prog X.w) X.A (evalPart e X.env) (fun u s' => ∃ o H', Inv X pins σ H' s' ∧ IsPart u o ∧ Q o H') X.xe s
noncomputable def tNoPart : TO := fun _ H Q => Q none H
noncomputable def tPart (t : TE) : TO := fun σ H Q => t σ H fun x H1 => ∃ i, x = .int i ∧ Q (some i) H1
section
variable {X : Cx} {e : Expr} {te : TE} {lo hi : Option Expr} {tl th : TO} {pos p2 : Pos}
theorem po_none : PO X none tNoPart := by
  intro pins s σ H Q I h
  rw [evalPart_none]
  exact wpAny_pure ⟨none, H, I, .none, h⟩
theorem po_some (h : PE X e te) : PO X (some e) (tPart te) := by
  intro pins s σ H Q I hw
  rw [evalPart_some]
  refine thn (h pins s σ H _ I hw) fun u s1 ⟨x, H1, I1, r1, q1⟩ => ?_
  obtain ⟨i, rfl, q⟩ := q1
  obtain ⟨t, rfl⟩ := r1
  exact ⟨some i, H1, I1, .int i t, q⟩
noncomputable def SlR (X : Cx) (r : V → Option Int → Option Int → Hp → VK → Prop) : Prop :=
  ∀ (pins : List (Addr × Obj)) (s : Shared) (σ : St) (H : Hp) (x : V) (v vl vu : Value) (lo hi : Option Int) (sl : Addr) (Q : VK), Inv X pins σ H s → RelV x v → s.heap.IsSliceOf sl vl vu .none → IsPart vl lo → IsPart vu hi → r x lo hi H Q →
    ∃ T id, typeLookup (.type T) "__getitem__" = pure (some (.builtin id)) ∧ s.TypeIs v T ∧ wpAny (model X.prog X.w) X.A (getItem v (.ref sl)) (EP X pins σ Q) X.xe s
theorem SlR.or {r r' : V → Option Int → Option Int → Hp → VK → Prop} (h : SlR X r) (h' : SlR X r') : SlR X (fun x lo hi H Q => r x lo hi H Q ∨ r' x lo hi H Q) := by
  intro pins s σ H x v vl vu lo hi sl Q I rx hs pl pu q
  rcases q with q | q
  · exact h pins s σ H x v vl vu lo hi sl Q I rx hs pl pu q
  · exact h' pins s σ H x v vl vu lo hi sl Q I rx hs pl pu q
noncomputable def tSl (r : V → Option Int → Option Int → Hp → VK → Prop) (te : TE) (tl th : TO) : TE := fun σ H Q => te σ H fun x H1 => tl σ H1 fun l H2 => th σ H2 fun u H3 => r x l u H3 Q
theorem pe_slice {r : V → Option Int → Option Int → Hp → VK → Prop} (hr : SlR X r) (he : PE X e te) (hl : PO X lo tl) (hu : PO X hi th) : PE X (.Subscript e (.Slice lo hi none p2) pos) (tSl r te tl th) := by
  intro pins s σ H Q I h
  refine Subscript_ (thn (he pins s σ H _ I h) fun v s1 ⟨x, H1, I1, r1, q1⟩ => ?_)
  refine wpAny_Slice (thn (hl pins s1 σ H1 _ I1 q1) fun vl s2 ⟨l, H2, I2, pl, q2⟩ => thn (hu pins s2 σ H2 _ I2 q2) fun vu s3 ⟨u, H3, I3, pu, q3⟩ => ?_)
  rw [evalPart_none]
  refine wpAny_pure ?_
  have I4 : Inv X pins σ H3 { s3 with heap := s3.heap.push { cls := .type "slice", data := .fields #[vl, vu, .none] } } := I3.kept (t' := s3.toks) fun b ob q => Heap.get?_push_of_some _ q
  obtain ⟨T, id, hT, ht, hg⟩ := hr pins { s3 with heap := s3.heap.push { cls := .type "slice", data := .fields #[vl, vu, .none] } } σ H3 x v vl vu l u s3.heap.objs.size Q I4 r1 (Heap.IsSliceOf.new ..) pl pu q3
  show wpAny (model X.prog X.w) X.A (subscriptTail e (.Slice lo hi none p2) v (.ref s3.heap.objs.size)) (EP X pins σ Q) X.xe { s3 with heap := s3.heap.push { cls := .type "slice", data := .fields #[vl, vu, .none] } }
  exact tail_any (ops := [.ref s3.heap.objs.size, v]) ht hT hg (by with_unfolding_all rfl)
noncomputable def cutV (xs : List V) (lo hi : Option Int) : List V := (xs.drop (HT.sIx xs.length 0 lo)).take (HT.sIx xs.length xs.length hi - HT.sIx xs.length 0 lo)
theorem cutV_length (xs : List V) (lo hi : Option Int) : (cutV xs lo hi).length ≤ xs.length := by
  unfold cutV
  rw [List.length_take, List.length_drop]
  omega
noncomputable def rSlT (K : PySem.W.Frag) : V → Option Int → Option Int → Hp → VK → Prop := fun x lo hi H Q => ∃ a xs, x = .ref a ∧ SqT K H a xs ∧
  ¬ (HT.sIx xs.length 0 lo = 0 ∧ HT.sIx xs.length xs.length hi = xs.length) ∧ ∀ p, H p = none → Q (.ref p) (upd H p (.tup (cutV xs lo hi)))
theorem sl_tup : SlR X (rSlT X.K) := by
  intro pins s σ H x v vl vu lo hi sl Q I rx hs pl pu h
  obtain ⟨a, xs, rfl, hx, hw, q⟩ := h
  cases rx
  obtain ⟨its, r, ht, hz⟩ := I.tuple hx
  have hlen : its.toArray.size = xs.length := by rw [List.size_toArray]; exact r.length.symm
  refine ⟨"tuple", _, PyProof.Rows.slot_tuple_getitem.lookup, ht.typeIs, ?_⟩
  refine HT.getItem_tuple_cut ht hs pl pu (by rw [hlen]; exact hw) ?_ (by rw [hlen]; exact hz)
  rw [hlen]
  refine ⟨.ref s.heap.objs.size, _, I.laid (t' := s.toks) (o := .tup (cutV xs lo hi)) (fun b ob q => Heap.get?_push_of_some _ q) (Nat.le_refl _) ?_, rfl, q _ (I.hok.fresh (Nat.le_refl _))⟩
  exact ⟨Nat.le_trans (cutV_length xs lo hi) hz, _, (r.drop (HT.sIx xs.length 0 lo)).take (HT.sIx xs.length xs.length hi - HT.sIx xs.length 0 lo), IsTup.new _ _⟩
end
end L2
namespace L2
open PySem PySem.Spec PyProof.Rows
noncomputable def ixN (n : Nat) (i : Int) : Option Nat := if 0 ≤ i then (if i < n then some i.toNat else none) else if -(n : Int) ≤ i then some (i + n).toNat else none
noncomputable def atI {α : Type} (xs : List α) (i : Int) : Option α := (ixN xs.length i).bind fun j => xs[j]?
theorem ixN_seq {n : Nat} {i : Int} {j : Nat} (h : ixN n i = some j) : seqIndex? i n = some j ∧ j < n ∧ -(n : Int) ≤ i ∧ i < n := by
  unfold ixN at h
  by_cases h0 : 0 ≤ i
  · rw [if_pos h0] at h
    by_cases h1 : i < n
    · rw [if_pos h1] at h
      have e : i.toNat = j := Option.some.inj h
      exact ⟨by rw [seqIndex_of h0 h1, e], by omega, by omega, h1⟩
    · rw [if_neg h1] at h; cases h
  · rw [if_neg h0] at h
    by_cases h1 : -(n : Int) ≤ i
    · rw [if_pos h1] at h
      have e : (i + n).toNat = j := Option.some.inj h
      exact ⟨by rw [seqIndex_neg (by omega) h1, e], by omega, h1, by omega⟩
    · rw [if_neg h1] at h; cases h
theorem atI_get {α : Type} {xs : List α} {i : Int} {v : α} (h : atI xs i = some v) : ∃ j, seqIndex? i xs.length = some j ∧ xs[j]? = some v ∧ j < xs.length ∧ -(xs.length : Int) ≤ i ∧ i < xs.length := by
  unfold atI at h
  cases e : ixN xs.length i with
  | none => rw [e] at h; cases h
  | some j =>
    rw [e] at h
    obtain ⟨h1, h2, h3, h4⟩ := ixN_seq e
    exact ⟨j, h1, h, h2, h3, h4⟩
theorem atI_nat {α : Type} {xs : List α} {j : Nat} {v : α} (h : xs[j]? = some v) : atI xs (j : Int) = some v := by
  have hj : j < xs.length := (List.getElem?_eq_some_iff.mp h).1
  have e : ixN xs.length (j : Int) = some j := by
    unfold ixN
    rw [if_pos (by omega), if_pos (by omega)]; simp
  unfold atI; rw [e]; exact h
noncomputable def PlainIx (b : Expr) : Prop := ∀ o i, subscripted b false o i = operate [o, i] (getItem o i)
noncomputable def IxR (X : Cx) (r : R2) : Prop :=
  ∀ (value slice : Expr) (pins : List (Addr × Obj)) (s : Shared) (σ : St) (H : Hp) (x y : V) (v u : Value) (Q : VK), Inv X pins σ H s → RelV x v → RelV y u → r x y H Q →
    subscripted slice false v u = operate [v, u] (getItem v u) → wpAny (model X.prog X.w) X.A (subscriptTail value slice v u) (EP X pins σ Q) X.xe s
noncomputable def MtR (X : Cx) (id : String) (r : V → List V → Hp → VK → Prop) : Prop :=
  ∀ (pins : List (Addr × Obj)) (s : Shared) (σ : St) (H : Hp) (x : V) (xs : List V) (v : Value) (us : List Value) (Q : VK), Inv X pins σ H s → RelV x v → Vals xs us → r x xs H Q →
    wpAny (model X.prog X.w) X.A (call (.builtin id) (v :: us)) (EP X pins σ Q) X.xe s
section
variable {X : Cx} {a b : Expr} {ta tb : TE} {pos : Pos}
theorem IxR.or {r r' : R2} (h : IxR X r) (h' : IxR X r') : IxR X (fun x y H Q => r x y H Q ∨ r' x y H Q) := by
  intro value slice pins s σ H x y v u Q I rx ry q hs
  rcases q with q | q
  · exact h value slice pins s σ H x y v u Q I rx ry q hs
  · exact h' value slice pins s σ H x y v u Q I rx ry q hs
theorem MtR.or {id : String} {r r' : V → List V → Hp → VK → Prop} (h : MtR X id r) (h' : MtR X id r') : MtR X id (fun x xs H Q => r x xs H Q ∨ r' x xs H Q) := by
  intro pins s σ H x xs v us Q I rx rs q
  rcases q with q | q
  · exact h pins s σ H x xs v us Q I rx rs q
  · exact h' pins s σ H x xs v us Q I rx rs q
theorem pe_ix {r : R2} (hr : IxR X r) (ha : PE X a ta) (hb : PE X b tb) (hs : PlainIx b) : PE X (.Subscript a b pos) (tOp r ta tb) := by
  intro pins s σ H Q I h
  exact Subscript_ (binT ha hb I h fun v u s2 x y H2 I2 rx ry q => hr a b pins s2 σ H2 x y v u Q I2 rx ry q (hs _ _))
noncomputable def rIxL (K : PySem.W.Frag) : R2 := fun x y H Q => ∃ p xs i v, x = .ref p ∧ y = .int i ∧ SqL K H p xs ∧ atI xs i = some v ∧ Q v H
noncomputable def rIxT (K : PySem.W.Frag) : R2 := fun x y H Q => ∃ p xs i v, x = .ref p ∧ y = .int i ∧ SqT K H p xs ∧ atI xs i = some v ∧ Q v H
noncomputable def rIxS : R2 := fun x y H Q => ∃ z i c, x = .str z ∧ y = .int i ∧ z.length ≤ sizeLine ∧ atI z.cps.toList i = some c ∧ Q (.str ⟨#[c]⟩) H
theorem ix_list : IxR X (rIxL X.K) := by
  intro value slice pins s σ H x y v u Q I rx ry h hs
  obtain ⟨p, xs, i, z, rfl, rfl, hq, he, q⟩ := h
  cases rx
  obtain ⟨t, rfl⟩ := ry
  obtain ⟨its, r, pl, hz⟩ := I.list hq
  obtain ⟨j, h1, h2, h3, h4, h5⟩ := atI_get he
  obtain ⟨w, ew, rw'⟩ := r.get h2
  have hl := r.length
  have hn := line63
  have fin : EP X pins σ Q w s := ⟨z, H, I, rw', q⟩
  by_cases h0 : 0 ≤ i
  · have hj : i.toNat = j := by
      rw [seqIndex_of h0 h5] at h1
      exact Option.some.inj h1
    exact item_listR pl.isList h0 (by omega) (by rw [hj]; simpa using ew) fin hs
  · have hj : (i + (its.toArray.size : Int)).toNat = j := by
      rw [seqIndex_neg (by omega) h4] at h1
      rw [List.size_toArray, ← hl]
      exact Option.some.inj h1
    exact subscriptTail_builtinR (x := w) pl.isList.typeIs slot_list_getitem.lookup
      (wpAny_getItem_list_neg (Q := fun r s' => r = w ∧ EP X pins σ Q r s') pl.isList (by omega) (by rw [List.size_toArray] <;> omega) (by omega) (by rw [hj]; simpa using ew) ⟨rfl, fin⟩) hs
theorem ix_tup : IxR X (rIxT X.K) := by
  intro value slice pins s σ H x y v u Q I rx ry h hs
  obtain ⟨p, xs, i, z, rfl, rfl, hq, he, q⟩ := h
  cases rx
  obtain ⟨t, rfl⟩ := ry
  obtain ⟨its, r, pl, hz⟩ := I.tuple hq
  obtain ⟨j, h1, h2, h3, h4, h5⟩ := atI_get he
  obtain ⟨w, ew, rw'⟩ := r.get h2
  have hl := r.length
  have hn := line63
  have fin : EP X pins σ Q w s := ⟨z, H, I, rw', q⟩
  exact subscriptTail_builtinR (x := w) pl.typeIs slot_tuple_getitem.lookup
    (getItem_tuple (j := j) (Q := fun r s' => r = w ∧ EP X pins σ Q r s') pl (by omega) (by omega) (by rw [List.size_toArray, ← hl]; exact h1) (by simpa using ew) ⟨rfl, fin⟩) hs
theorem ix_str : IxR X rIxS := by
  intro value slice pins s σ H x y v u Q I rx ry h hs
  obtain ⟨z, i, c, rfl, rfl, hz, he, q⟩ := h
  obtain ⟨t, rfl⟩ := rx
  obtain ⟨t', rfl⟩ := ry
  obtain ⟨j, h1, h2, h3, h4, h5⟩ := atI_get he
  have hl : z.cps.toList.length = z.length := by simp [Str.length]
  rw [hl] at h1 h4 h5
  have hn := line63
  exact tail_any (typeIs_str s z t) slot_str_getitem.lookup (getItem_str (c := c) (by
    have e1 : decide (i < -(2 ^ 63 : Int)) = false := decide_eq_false (by omega)
    have e2 : decide (i ≥ 2 ^ 63) = false := decide_eq_false (by omega)
    rw [e1, e2, Bool.or_false]) (by rw [h1]; simpa using h2) ⟨.str ⟨#[c]⟩, H, I.tok _, ⟨_, rfl⟩, q⟩) hs
noncomputable def rIx (K : PySem.W.Frag) : R2 := fun x y H Q => rIxL K x y H Q ∨ rIxT K x y H Q ∨ rIxS x y H Q
theorem ix_seq : IxR X (rIx X.K) := ix_list.or (ix_tup.or ix_str)
theorem Inv.lst {pins : List (Addr × Obj)} {σ : St} {H : Hp} {s : Shared} {p : Addr} {xs : List V} (I : Inv X pins σ H s) (h : H p = some (.lst xs)) :
    ∃ (its : List Value) (n : Nat), Vals xs its ∧ s.heap.get? p = some { cls := .type "list", data := .seq its.toArray n } ∧ xs.length ≤ sizeLine := by
  obtain ⟨z, its, n, r, e⟩ := I.hok p _ h
  exact ⟨its, n, r, e, z⟩
theorem slice_bounds (lo hi : Option Int) (n : Nat) : (sliceBounds lo hi none n).1 = ((HT.sIx n 0 lo : Nat) : Int) ∧ (sliceBounds lo hi none n).2.1 = ((HT.sIx n n hi : Nat) : Int) ∧ (sliceBounds lo hi none n).2.2 = 1 := by
  refine ⟨?_, ?_, rfl⟩
  · cases lo with
    | none => simp [sliceBounds, HT.sIx]
    | some i =>
      simp only [sliceBounds, HT.sIx, Option.getD_none, show (1 : Int) > 0 by decide, if_true]
      by_cases h : i < 0
      · simp only [h, if_true] <;> omega
      · simp only [h, if_false] <;> omega
  · cases hi with
    | none => simp [sliceBounds, HT.sIx]
    | some i =>
      simp only [sliceBounds, HT.sIx, Option.getD_none, show (1 : Int) > 0 by decide, if_true]
      by_cases h : i < 0
      · simp only [h, if_true] <;> omega
      · simp only [h, if_false] <;> omega
theorem slicePick_cut (its : List Value) (lo hi : Option Int) : slicePick its.toArray lo hi none = ((its.drop (HT.sIx its.length 0 lo)).take (HT.sIx its.length its.length hi - HT.sIx its.length 0 lo)).toArray := by
  obtain ⟨h1, h2, h3⟩ := slice_bounds lo hi its.toArray.size
  unfold slicePick
  rw [h1, h2, h3]
  simp only [sliceRange_one, pick_run, List.size_toArray] <;> rfl
noncomputable def rSlL (K : PySem.W.Frag) : V → Option Int → Option Int → Hp → VK → Prop := fun x lo hi H Q => ∃ a xs, x = .ref a ∧ SqL K H a xs ∧ ∀ p, H p = none → Q (.ref p) (upd H p (.lst (cutV xs lo hi)))
theorem sl_list : SlR X (rSlL X.K) := by
  intro pins s σ H x v vl vu lo hi sl Q I rx hs pl pu h
  obtain ⟨a, xs, rfl, hx, q⟩ := h
  cases rx
  obtain ⟨its, r, ht, hz⟩ := I.list hx
  have hlen := r.length
  refine ⟨"list", _, slot_list_getitem.lookup, ht.isList.typeIs, ?_⟩
  refine wpAny_getItem_list_slice ht.isList hs pl pu .none (by simp) ?_ (by rw [List.size_toArray] <;> omega)
  rw [slicePick_cut, ← hlen]
  refine ⟨.ref s.heap.objs.size, _, I.laid (t' := s.toks) (o := .lst (cutV xs lo hi)) (fun b ob q => Heap.get?_push_of_some _ q) (Nat.le_refl _) ?_, rfl, q _ (I.hok.fresh (Nat.le_refl _))⟩
  exact ⟨Nat.le_trans (cutV_length xs lo hi) hz, _, 0, (r.drop (HT.sIx xs.length 0 lo)).take (HT.sIx xs.length xs.length hi - HT.sIx xs.length 0 lo), Heap.get?_push_size _ rfl⟩
theorem call_len_seq : CallR X (.builtin "len") (fun xs H Q => ∃ p ys, xs = [.ref p] ∧ (SqL X.K H p ys ∨ SqT X.K H p ys) ∧ Q (.int ys.length) H) := by
  intro pins s σ H xs us Q I r h
  obtain ⟨p, ys, rfl, hq, q⟩ := h
  obtain ⟨u, rfl, rx⟩ := vals1 r
  cases rx
  have hn := line63
  rcases hq with hq | hq
  · obtain ⟨its, r', pl, hz⟩ := I.list hq
    have hlen := r'.length
    exact Calls.call_len_list pl.isList (by simp only [List.size_toArray] <;> omega) ⟨.int ys.length, H, I.tok _, ⟨s.toks + 1, by rw [List.size_toArray, hlen]⟩, q⟩
  · obtain ⟨its, r', pl, hz⟩ := I.tuple hq
    have hlen := r'.length
    exact len_tuple pl (by simp only [List.size_toArray] <;> omega) ⟨.int ys.length, H, I.tok _, ⟨s.toks + 1, by rw [List.size_toArray, hlen]⟩, q⟩
theorem call_len_str : CallR X (.builtin "len") (fun xs H Q => ∃ z, xs = [.str z] ∧ z.length ≤ sizeLine ∧ Q (.int z.length) H) := by
  intro pins s σ H xs us Q I r h
  obtain ⟨z, rfl, hz, q⟩ := h
  obtain ⟨u, rfl, t, rfl⟩ := vals1 r
  have hn := line63
  exact len_str (by omega) ⟨.int z.length, H, I.tok _, ⟨_, rfl⟩, q⟩
theorem CallR.or {f : Value} {r r' : List V → Hp → VK → Prop} (h : CallR X f r) (h' : CallR X f r') : CallR X f (fun xs H Q => r xs H Q ∨ r' xs H Q) := by
  intro pins s σ H xs us Q I rs q
  rcases q with q | q
  · exact h pins s σ H xs us Q I rs q
  · exact h' pins s σ H xs us Q I rs q
theorem call_list_of : CallR X (.type "list") (fun xs H Q => ∃ p ys, xs = [.ref p] ∧ (SqL X.K H p ys ∨ SqT X.K H p ys) ∧ ∀ l, H l = none → Q (.ref l) (upd H l (.lst ys))) := by
  intro pins s σ H xs us Q I r h
  obtain ⟨p, ys, rfl, hq, q⟩ := h
  obtain ⟨u, rfl, rx⟩ := vals1 r
  cases rx
  have fin : ∀ (its : List Value), Vals ys its → ys.length ≤ sizeLine → ∀ (h' : Heap) (c' : Nat), (∀ b o', s.heap.get? b = some o' → h'.get? b = some o') →
      h'.get? s.heap.objs.size = some { cls := .type "list", dict := none, data := .seq its.toArray c', slots := #[] } → EP X pins σ Q (.ref s.heap.objs.size) { s with heap := h' } := fun its r' hz h' c' kp e =>
    ⟨.ref s.heap.objs.size, _, I.laid (t' := s.toks) kp (Nat.le_refl _) (show ObjOk X.prog X.w _ h' _ (.lst ys) from ⟨hz, its, c', r', e⟩), rfl, q _ (I.hok.fresh (Nat.le_refl _))⟩
  rcases hq with hq | hq
  · obtain ⟨its, r', pl, hz⟩ := I.list hq
    have hlen := r'.length
    obtain ⟨o, ho, hc, n, hd⟩ := pl.isList
    exact call_list_seq p (.inl rfl) ho hc hd (fun h' c' kp e => fin its r' hz h' c' kp e) (by simp only [List.size_toArray] <;> omega)
  · obtain ⟨its, r', pl, hz⟩ := I.tuple hq
    have hlen := r'.length
    obtain ⟨o, ho, hc, n, hd⟩ := pl
    exact call_list_seq p (.inr rfl) ho hc hd (fun h' c' kp e => fin its r' hz h' c' kp e) (by simp only [List.size_toArray] <;> omega)
noncomputable def tyV (K : PySem.W.Frag) (T : String) (x : V) (H : Hp) : Prop := match x with
  | .str _ => T = "str"
  | .int _ => T = "int"
  | .ref p => (T = "list" ∧ ∃ xs, SqL K H p xs) ∨ (T = "tuple" ∧ ∃ o, K.lookup p = some o ∧ o.cls = .type "tuple" ∧ o.dict = none) ∨
      (T = "dict" ∧ ((∃ kvs, H p = some (.dK kvs)) ∨ ∃ kvs, H p = some (.dT kvs))) ∨ (T = "set" ∧ ∃ S n, H p = some (.set S n))
  | _ => False
theorem tyV_is {pins : List (Addr × Obj)} {σ : St} {H : Hp} {s : Shared} {T : String} {x : V} {v : Value} (I : Inv X pins σ H s) (r : RelV x v) (ty : tyV X.K T x H) :
    s.TypeIs v T ∧ ∀ a, v = .ref a → ∃ ob, s.heap.get? a = some ob ∧ ob.dict = none := by
  cases x with
  | str z =>
    obtain ⟨t, rfl⟩ := r
    cases (show T = "str" from ty)
    exact ⟨typeIs_str s z t, fun _ e => nomatch e⟩
  | int i =>
    obtain ⟨t, rfl⟩ := r
    cases (show T = "int" from ty)
    exact ⟨typeIs_int s i t, fun _ e => nomatch e⟩
  | ref p =>
    cases r
    rcases ty with ⟨rfl, xs, hq⟩ | ⟨rfl, o, hk, hc, hd⟩ | ⟨rfl, hk⟩ | ⟨rfl, S, n, hk⟩
    · obtain ⟨its, _, pl, _⟩ := I.list hq
      refine ⟨pl.isList.typeIs, fun a e => ?_⟩
      cases e
      obtain ⟨o, n, e, c, hd, _⟩ := pl
      exact ⟨o, e, hd⟩
    · refine ⟨⟨o, I.kIn p o hk, hc⟩, fun a e => ?_⟩
      cases e
      exact ⟨o, I.kIn _ o hk, hd⟩
    · have z : ∃ o, s.heap.get? p = some o ∧ o.ExactDict := by
        rcases hk with ⟨kvs, hk⟩ | ⟨kvs, hk⟩
        · obtain ⟨_, _, _, _, o, _, _, e, ex, _⟩ := I.hok p _ hk
          exact ⟨o, e, ex⟩
        · obtain ⟨_, _, _, _, o, _, _, e, ex, _⟩ := I.hok p _ hk
          exact ⟨o, e, ex⟩
      obtain ⟨o, e, ex⟩ := z
      refine ⟨⟨o, e, ex.1⟩, fun a e2 => ?_⟩
      cases e2
      exact ⟨o, e, ex.2.1⟩
    · obtain ⟨o, _, _, _, e, ex, _⟩ := I.hok p _ hk
      refine ⟨⟨o, e, ex.1⟩, fun a e2 => ?_⟩
      cases e2
      exact ⟨o, e, ex.2.1⟩
  | _ => exact False.elim ty
noncomputable def tBM (K : PySem.W.Frag) (T : String) (r : V → List V → Hp → VK → Prop) (to : TE) (t : TA) : TE := fun σ H Q => to σ H fun x H1 => tyV K T x H1 ∧ t σ H1 fun xs H2 => r x xs H2 Q
variable {o e : Expr} {es : List Expr} {to : TE} {t : TA} {name : Str} {apos cpos : Pos} {T id : String} {r : V → List V → Hp → VK → Prop}
theorem pe_bm (pa : PlainAttrs T) (slot : Slot T name id) (hty : typeOf (.builtin id) = pure (.type "method_descriptor")) (hm : MtR X id r) (ho : PE X o to) (ha : PA X (e :: es) t)
    (hbase : attributeBase o name X.env (eval o X.env) = eval o X.env := by rfl)
    (hfew : ((backTo cpos (starEach (e :: es) X.env)).all (fun x => !x.1) && (backToKw cpos (keywordEach [] X.env)).all (fun x => x.1.isSome)
      && decide ((e :: es).length + ([] : List Keyword).length + (if ([] : List Keyword).isEmpty then 0 else 1) < 30)) = true := by rfl)
    (hline : (apos.endLine == cpos.line) = true := by rfl) (hs : starEach (e :: es) X.env = (false, eval e X.env) :: starEach es X.env := by rfl) (hplain : (backTo cpos (starEach es X.env)).any (·.1) = false := by rfl) :
    PE X (.Call (.Attribute o name apos) (e :: es) [] cpos) (tBM X.K T r to t) := by
  intro pins s σ H Q I h
  refine wpAny_Call_method_late hbase hfew hline rfl (thn (ho pins s σ H _ I h) fun v s1 ⟨x, H1, I1, r1, ty, q1⟩ => ?_)
  obtain ⟨h1, h2⟩ := tyV_is I1 r1 ty
  refine ⟨T, id, pa, slot, hty, h1, h2, ?_⟩
  have hA := ha cpos pins s1 σ H1 _ I1 q1
  rw [hs] at hA ⊢
  refine Calls.callWith_builtin (by show (false || (backTo cpos (starEach es X.env)).any (·.1)) = false; rw [hplain] <;> rfl) (Calls.evalArgs_plain ?_)
  exact thn hA fun us s2 ⟨vs, H2, I2, r2, q2⟩ => hm pins s2 σ H2 x vs v us Q I2 r1 r2 q2
end
end L2
namespace L2
open PySem PySem.Spec PyProof.Rows
noncomputable def MtM (X : Cx) (id : String) (r : V → List V → Hp → VK → Prop) : Prop :=
  ∀ (pins : List (Addr × Obj)) (s : Shared) (σ : St) (H : Hp) (x : V) (xs : List V) (v : Value) (us : List Value) (Q : VK), Inv X pins σ H s → RelV x v → Vals xs us → r x xs H Q →
    wpAny (model X.prog X.w) X.A (call (.builtin id) (v :: us)) (EP X pins σ Q) X.xe s
theorem Vals.one : ∀ {x : V} {us : List Value}, Vals [x] us → ∃ u, us = [u] ∧ RelV x u
  | _, _, .cons r .nil => ⟨_, rfl, r⟩
theorem Vals.two : ∀ {x y : V} {us : List Value}, Vals [x, y] us → ∃ u v, us = [u, v] ∧ RelV x u ∧ RelV y v
  | _, _, _, .cons r (.cons q .nil) => ⟨_, _, rfl, r, q⟩
theorem Vals.zero : ∀ {us : List Value}, Vals [] us → us = []
  | _, .nil => rfl
theorem Vals.dropLast {xs : List V} {us : List Value} (h : Vals xs us) : Vals xs.dropLast us.dropLast := by
  induction h with
  | nil => exact .nil
  | cons r t ih =>
    cases t with
    | nil => exact .nil
    | cons q t' => exact .cons r ih
theorem Vals.reverse {xs : List V} {us : List Value} (h : Vals xs us) : Vals xs.reverse us.reverse := by
  induction h with
  | nil => exact .nil
  | cons r t ih => rw [List.reverse_cons, List.reverse_cons]; exact Vals.append ih (.cons r .nil)
section
variable {X : Cx} {pins : List (Addr × Obj)} {σ : St} {H : Hp} {s : Shared} {l b : Addr} {xs ys zs : List V}
theorem Inv.lset {its its' : List Value} {n : Nat} {f : Array Value → Array Value} {t' : Nat} (I : Inv X pins σ H s) (hH : H l = some (.lst xs))
    (e : s.heap.get? l = some { cls := .type "list", data := .seq its.toArray n }) (hf : f its.toArray = its'.toArray) (hv : Vals ys its') (hz : ys.length ≤ sizeLine) :
    Inv X pins σ (upd H l (.lst ys)) { s with heap := s.heap.update l (Obj.mapSeq f), toks := t' } := by
  have q := PySem.IsL.update e f
  rw [hf] at q
  refine I.write (x := l) (e := l) (by rw [hH]; exact trivial) (.inl rfl) (fun b' u hb hu => (Heap.get?_update_other s.heap (Obj.mapSeq f) (Ne.symm hb)).trans hu) ⟨_, q⟩ ?_
  exact ⟨hz, its', _, hv, q⟩
theorem Inv.lnew {its : List Value} {t' : Nat} (I : Inv X pins σ H s) (hv : Vals ys its) (hz : ys.length ≤ sizeLine) :
    Inv X pins σ (upd H s.heap.objs.size (.lst ys)) { s with heap := s.heap.push { cls := .type "list", data := .seq its.toArray }, toks := t' } :=
  I.laid (fun _ _ q => Heap.get?_push_of_some _ q) (Nat.le_refl _) ⟨hz, its, 0, hv, Heap.get?_push_size _ rfl⟩
theorem Inv.fresh (I : Inv X pins σ H s) : H s.heap.objs.size = none := I.hok.fresh (Nat.le_refl _)
theorem Inv.lstM (I : Inv X pins σ H s) (hH : H l = some (.lst xs)) : xs.length ≤ sizeLine ∧ ∃ (its : List Value) (n : Nat), Vals xs its ∧ xs.length = its.length ∧ s.heap.get? l = some { cls := .type "list", data := .seq its.toArray n } := by
  obtain ⟨z, its, n, r, e⟩ := I.hok l _ hH
  exact ⟨z, its, n, r, r.length, e⟩
end
section
variable {X : Cx}
noncomputable def rAppend : V → List V → Hp → VK → Prop := fun x vs H Q => ∃ l xs y, x = .ref l ∧ vs = [y] ∧ H l = some (.lst xs) ∧ xs.length < sizeLine ∧ Q .non (upd H l (.lst (xs ++ [y])))
theorem mt_append : MtM X "list.append" rAppend := by
  intro pins s σ H x vs v us Q I rx rv h
  obtain ⟨l, xs, y, rfl, rfl, hH, hz, q⟩ := h
  cases rx
  obtain ⟨u, rfl, ru⟩ := rv.one
  obtain ⟨z, its, n, r, hl, e⟩ := I.lstM hH
  refine call_meets F.slot_list_append ⟨_, e, rfl⟩ F.entry_list_append (F.args_list_append_2 _ _) (PySem.list_append l its.toArray n u (by rw [List.size_toArray]; omega)) ⟨e, ?_⟩
  refine ⟨.non, _, I.lset (its' := its ++ [u]) hH e (by simp) (r.append (.cons ru .nil)) ?_, rfl, q⟩
  rw [List.length_append, List.length_singleton]
  omega
end
section
variable {prog : Program} {w : World} {A : Around} {E : Value → Shared → Prop} {s : Shared}
end
section
variable {X : Cx}
end
end L2
namespace Att
open PySem PySem.W PySem.Calls PyProof.Rows
theorem ints_of_wellAll {P : Params} {h : Heap} : ∀ (ns : List Int) (vs : List Value), WellAll P h vs (ns.map WData.int) → IntsAre vs ns := by
  intro ns
  induction ns with
  | nil =>
    intro vs w
    rw [List.map_nil] at w
    cases w
    exact .nil
  | cons n ns ih =>
    intro vs w
    rw [List.map_cons] at w
    cases w with
    | cons a b =>
      cases a
      exact .cons _ _ (ih _ b)
theorem script_of {l : OpenLaw} {n : Nat} (hn : l.most = some n) {P : Params} {h : Heap} {args : List WData} {vals : List Value}
    (hpre : l.row.toRowW.claim.pre args = true) (hwl : WellAll P h vals args) :
    ∃ a vs ns, vals = [Value.ref a] ∧ args = [WData.list (ns.map WData.int)] ∧ h.get? a = some { cls := .type "list", data := .seq vs.toArray } ∧ IntsAre vs ns ∧ ns.length ≤ n := by
  have hsh : WShape.hasAll [] args [.list .int] = true := (pre_splitW hpre).1
  have hc : l.pre.holds [] { args := args } = true := (pre_splitW hpre).2
  obtain ⟨d, r, rfl, h1, h2⟩ := hasAllW_cons hsh
  obtain rfl := hasAllW_nil h2
  obtain ⟨xs, rfl, h3⟩ := hasW_list h1
  obtain ⟨ns, rfl⟩ := items_int h3
  have hlen : ns.length ≤ n := by
    unfold OpenLaw.pre at hc
    have h4 : (WTm.not (.lt (.lit (.int (n : Int))) (.len (.arg 0)))).holds [] { args := [.list (ns.map .int)] } = true := by
      have h4 := (holds_andW hc).1
      rw [hn] at h4
      exact h4
    have h5 := condW_of h4 (w_not (w_lt w_lit (w_len_list (w_arg rfl))))
    rw [List.length_map] at h5
    refine Nat.le_of_not_lt fun q => ?_
    have q' : (n : Int) < ((ns.length : Nat) : Int) := by omega
    first
      | (rw [decide_eq_true q'] at h5; exact absurd h5 (by decide))
      | (simp at h5; omega)
  cases hwl with
  | cons w1 w2 =>
    cases w2
    cases w1 with
    | list ho hall => exact ⟨_, _, ns, rfl, rfl, ho, ints_of_wellAll ns _ hall, hlen⟩
theorem post_true (l : OpenLaw) (args : List WData) : l.row.toRowW.claim.post args (.bool true) args = true :=
  postW_of (r := l.row.toRowW) (X := (true == true))
    (show WShape.has [] (.bool true) .bool = true by first | rfl | decide | simp [WShape.has, WShape.arms, WShape.armsAll])
    (show (WTm.eq .res (.lit (.bool true))).value [] { args := args, res := some (.bool true), after := args } = some (.bool (true == true)) from w_eq_bool (w_res rfl) w_lit) rfl
theorem attach_call {l : OpenLaw} {n : Nat} {q : Program} {loose : List Str} {XP : (Str → Option Value) → Heap → Prop} {YP : World → Heap → Prop} {d : DefRec}
    (hn : l.most = some n) (hdf : d.params.defaults = [])
    (call : ∀ (w : World) (s₀ s₁ : Shared) (mg mb : Str → Option Value) (fa : Addr) (o : Obj) (pm cd doc : Value) (a : Addr) (vs : List Value) (ns : List Int),
      Ground q loose [] XP w s₀ mg mb s₁.heap → YP w s₁.heap →
      s₁.heap.get? fa = some o → o.data = .func (docDef d.name d.params d.body d.scope pm cd doc) → s₁.heap.CodeRec cd d.name → mg d.name = some (.ref fa) →
      s₁.heap.get? a = some { cls := .type "list", data := .seq vs.toArray } → IntsAre vs ns → ns.length ≤ n → s₁.gens = #[] →
      codeAny (model l.prog w) callerA (.call (.ref fa) ⟨[.ref a], []⟩) (fun r s' => r = .ok (.ret (.bool true)) ∧ OldK s₁.heap s'.heap ∧ s'.os = s₁.os ∧ AllBare s'.gens) s₁) :
    WalkO q loose XP YP l.row.toRowW d [] (fun f vs => PySem.call f vs) := by
  intro w s₀ s₁ mg mb G Y fa o pm cd doc dV kV ho hd hcd hD hmg hg args vals as hpre hlay hrd hwl hlo
  obtain rfl : dV = .none := Dflts.none hD hdf
  obtain rfl : kV = .none := Dflts.noKw hD
  obtain ⟨a, vs, ns, rfl, rfl, hobj, hints, hlen⟩ := script_of hn hpre hwl
  refine enter_call (codeAny_mono (call w s₀ s₁ mg mb fa o pm cd doc a vs ns G Y ho (fd_plain hd) hcd hmg hobj hints hlen hg) fun r s' hq => ?_)
  obtain ⟨rfl, h2, h3, h4⟩ := hq
  exact ⟨.inl ⟨.bool true, .bool true, [], rfl, fun _ => rfl, .bool true, post_true l _, fun _ => ⟨List.Pairwise.nil, fun _ hm => (nomatch hm)⟩⟩, h2, h3, h4⟩
section
variable {prog : Program} {w : World} {A : Around} {E : Value → Shared → Prop} {s : Shared} {K : Frag}
noncomputable def ledger (h : Heap) (L d : Addr) : List (Addr × Obj) := (List.range h.objs.size).filterMap fun a => if a = L ∨ a = d then none else (h.get? a).map fun o => (a, o)
end
end Att
namespace L2
open PySem PySem.Spec PyProof.Rows
theorem vals_ints : ∀ {vs : List Value} {ns : List Int}, IntsAre vs ns → Vals (ns.map V.int) vs
  | _, _, .nil => .nil
  | _, _, .cons n t h => .cons ⟨t, rfl⟩ (vals_ints h)
noncomputable def Only (H : Hp) : Prop := ∀ b, H b = none ∨ ∃ o xs, H b = some (.frz o (.lst xs))
theorem law_call {P : Program} {w : World} {K : PySem.W.Frag} {mg mb : Str → Option Value} {CX : CXT} {k : Nat} {fa a : Addr} {fd : FuncData} {x : Str} {sp : Sp} {s₁ : Shared} {vs : List Value} {ns : List Int}
    (KX : K.In s₁.heap) (hns : s₁.heap.Ns mainGlobals mg) (hb : s₁.heap.Ns builtinsNs mb) (hbb : ∀ x : Str, x ≠ "__name__" → mb x = bootBuiltins x) (hlim : s₁.heap.NoLimit) (hg : s₁.gens = #[])
    (ha : s₁.heap.get? a = some { cls := .type "list", data := .seq vs.toArray }) (hi : IntsAre vs ns) (hl : ns.length ≤ sizeLine) (hr : Room k callerA)
    (F : ∀ base : Heap, K.In base → base.Ns mainGlobals mg → FnOk P w K mg base CX k fa fd [x] sp) (hbind : ∀ (s : Shared) (u : Value), BindsTo s fd ⟨[u], []⟩ [(x, u)])
    (hsp : ∀ H : Hp, Only H → SqL K H a (ns.map V.int) → sp [.ref a] H (fun v _ => v = .bl true) fun _ _ _ => False)
    (hCX : ∀ H e s', CX [] H s₁ (fun _ _ _ => False) e s' → False) :
    codeAny (model P w) callerA (.call (.ref fa) ⟨[.ref a], []⟩) (fun r s' => r = .ok (.ret (.bool true)) ∧ OldK s₁.heap s'.heap ∧ s'.os = s₁.os ∧ AllBare s'.gens) s₁ := by
  have rv := vals_ints hi
  have lenV := hi.length
  -- from an abstract heap in which nothing but the script may be tracked
  have core : ∀ H : Hp, Only H → SqL K H a (ns.map V.int) → HOk P w H s₁.heap → (∀ b, H b ≠ none → b = a) → (H a ≠ none → K.lookup a = none) →
      codeAny (model P w) callerA (.call (.ref fa) ⟨[.ref a], []⟩) (fun r s' => r = .ok (.ret (.bool true)) ∧ OldK s₁.heap s'.heap ∧ s'.os = s₁.os ∧ AllBare s'.gens) s₁ := by
    intro H hO hS hok hA hK
    have base_of : ∀ {b : Addr} {o : Obj}, s₁.heap.get? b = some o → H b = none → (hidT s₁.heap H).get? b = some o := fun e n => hidT_get e n
    have noA : ∀ {b : Addr} {o : Obj} {es : Array DictEntry} {ep : Nat}, s₁.heap.get? b = some o → o.data = .dict es ep → H b = none := fun {b o es ep} e d => by
      cases q : H b with
      | none => rfl
      | some u =>
        have e' : b = a := hA b (by rw [q]; simp)
        subst e'
        rw [ha] at e; cases e
        have d' : Data.seq vs.toArray _ = Data.dict es ep := d
        cases d'
    have nsK : ∀ {b : Addr} {m : Str → Option Value}, s₁.heap.Ns b m → (hidT s₁.heap H).Ns b m := fun {b m} ⟨o, es, ep, e, d, r⟩ => ⟨o, es, ep, base_of e (noA e d), d, r⟩
    have hKb : K.In (hidT s₁.heap H) := fun b o e => base_of (KX b o e) (by
      cases q : H b with
      | none => rfl
      | some u =>
        have e' : b = a := hA b (by rw [q]; simp)
        subst e'
        rw [hK (by rw [q]; simp)] at e; cases e)
    have hM : Mod K mg (hidT s₁.heap H) := ⟨hKb, nsK hns, ⟨mb, nsK hb, hbb⟩, let ⟨mc, h1, h2⟩ := hlim; ⟨mc, nsK h1, h2⟩⟩
    have e0 : Env0 P w K mg (hidT s₁.heap H) callerA [] s₁ H := ⟨rfl, hM, fun b o e => of_hidT e, Nat.le_of_eq (hidT_size _ _), trivial, fun b hb => absurd (show b ∈ ([] : List Addr) from hb) (by simp), hok, .of_eq hg⟩
    refine codeAny_mono ((F _ hKb (nsK hns)).run callerA [] s₁ H ⟨[.ref a], []⟩ [.ref a] [.ref a] _ _ hr e0 (hbind s₁ (.ref a)) (.cons rfl .nil) (hsp H hO hS)) fun r s' h => ?_
    cases r with
    | error e => exact (hCX H e s' h).elim
    | ok fl =>
      cases fl with
      | next => exact False.elim h
      | brk => exact False.elim h
      | cont => exact False.elim h
      | ret u =>
        obtain ⟨v, H', os, bare, un, hok', r', q⟩ := h
        have q' : v = .bl true := q
        subst q'
        obtain rfl : u = Value.bool true := r'
        refine ⟨rfl, OldK.of_keep fun b o e => ?_, os, bare⟩
        cases q : H b with
        | none => exact un.keep b o e q (by intro z; exact absurd (show b ∈ ([] : List Addr) from z) (by simp)) (by simp)
        | some u =>
          rcases hO b with z | ⟨ob, xs, z⟩
          · rw [q] at z; cases z
          · have z2 := un.frzs b ob _ z
            obtain ⟨e1, _⟩ := hok b _ z
            obtain ⟨e2, _⟩ := hok' b _ z2
            rw [e] at e1; cases e1
            exact e2
  cases hk : K.lookup a with
  | some o =>
    -- the script is one of the module's own objects
    have e := KX a o hk
    rw [ha] at e
    cases e
    refine core (fun _ => none) (fun _ => .inl rfl) (.inr ⟨_, vs.toArray, _, hk, rfl, rfl, rfl, by rw [List.size_toArray, lenV]; exact hl, by simpa using rv⟩) (fun b u z => by have z' : (none : Option HO) = some u := z; cases z') (fun b z => absurd rfl z) fun z => absurd rfl z
  | none =>
    refine core (fun b => if b = a then some (.frz { cls := .type "list", data := .seq vs.toArray } (.lst (ns.map V.int))) else none) (fun b => ?_) (.inl (.inr ⟨{ cls := .type "list", data := .seq vs.toArray }, if_pos rfl⟩)) (fun b u z => ?_) (fun b z => ?_) fun _ => hk
    · by_cases hb : b = a
      · exact .inr ⟨_, _, if_pos hb⟩
      · exact .inl (if_neg hb)
    · by_cases hb : b = a
      · have z' := (if_pos hb).symm.trans z
        cases z'
        subst hb
        exact ⟨ha, by rw [List.length_map]; exact hl, vs, _, rv, ha⟩
      · have z' := (if_neg hb).symm.trans z
        cases z'
    · by_cases hb : b = a
      · exact hb
      · exact absurd (if_neg hb) z
end L2
namespace L2
open PySem PySem.Spec PyProof.Rows
noncomputable abbrev KOf {K : PySem.W.Frag} {h : Heap} (_ : K.In h) : PySem.W.Frag := K
theorem walk_of {l : PySem.W.OpenLaw} {n k : Nat} {q : Program} {loose : List Str} {XP : (Str → Option Value) → Heap → Prop} {YP : World → Heap → Prop} {d : DefRec} {K : Params → PySem.W.Frag} {CX : World → CXT} {sp : World → Sp} {x : Str}
    (hn : l.most = some n) (hn2 : n ≤ sizeLine) (hdf : d.params.defaults = []) (hr : Room k callerA)
    (hY : ∀ (w : World) (h : Heap), YP w h → (K w.params).In h)
    (F : ∀ (w : World) (mg : Str → Option Value) (fa : Addr) (h : Heap), (K w.params).In h → h.Ns mainGlobals mg → mg d.name = some (.ref fa) →
      ∃ fd : FuncData, (∀ (s : Shared) (u : Value), BindsTo s fd ⟨[u], []⟩ [(x, u)]) ∧
        ∀ base : Heap, (K w.params).In base → base.Ns mainGlobals mg → FnOk l.prog w (K w.params) mg base (CX w) k fa fd [x] (sp w))
    (hsp : ∀ (w : World) (H : Hp) (a : Addr) (ns : List Int), ns.length ≤ n → Only H → SqL (K w.params) H a (ns.map V.int) → sp w [.ref a] H (fun v _ => v = .bl true) fun _ _ _ => False)
    (hCX : ∀ (w : World) (H : Hp) (s : Shared) (e : Value) (s' : Shared), CX w [] H s (fun _ _ _ => False) e s' → False) :
    PySem.W.WalkO q loose XP YP l.row.toRowW d [] (fun f vs => PySem.call f vs) := by
  refine Att.attach_call hn hdf fun w s₀ s₁ mg mb fa o pm cd doc a vs ns G Y ho hd hcd hmg hobj hints hlen hg => ?_
  have KX := hY w _ Y
  obtain ⟨fd, hb, hF⟩ := F w mg fa _ KX G.T.g hmg
  exact law_call KX G.T.g G.T.b G.T.builtins G.T.nolimit hg hobj hints (Nat.le_trans hlen hn2) hr hF hb (fun H hO hS => hsp w H a ns hlen hO hS) fun H e s' => hCX w H s₁ e s'
end L2
namespace L2
open PySem PySem.Spec PyProof.Rows
noncomputable def defArgs (s : Stmt) : Arguments := match s with
  | .FunctionDef _ a _ _ _ _ _ _ _ _ => a
  | _ => { posonlyargs := [], args := [], vararg := none, kwonlyargs := [], kw_defaults := [], kwarg := none, defaults := [] }
noncomputable def defBody (s : Stmt) : List Stmt := match s with
  | .FunctionDef _ _ b _ _ _ _ _ _ _ => b
  | _ => []
noncomputable def defScope (s : Stmt) : Scope := match s with
  | .FunctionDef _ _ _ _ _ _ sc _ _ _ => sc
  | _ => { kind := .function, names := [], isGenerator := false, isCoroutine := false }
noncomputable abbrev CX0 : CXT := fun _ _ _ _ _ _ => False
noncomputable abbrev E0 : XK := fun _ _ _ => False
structure Fun (K : PySem.W.Frag) (x qual : Str) (st : Stmt) (f : Addr) (fd : FuncData) : Prop where
  ex : ∃ (oc : Value) (od : Option Addr) (kV doc pm : Value) (an : Option Addr) (cdv ct : Value) (osl : Array (Option Value)),
    fd = PySem.W.fnOf x qual (defArgs st) (defBody st) (defScope st) .none kV doc pm an cdv ct ∧ K.lookup f = some ⟨oc, od, .func fd, osl⟩ ∧ PySem.W.codeIn K cdv qual = true
  kp : PySem.W.keepIn K (.ref f) = true
section
variable {P : Program} {w : World} {K : PySem.W.Frag} {mg : Str → Option Value} {base : Heap}
theorem Fun.ok {x qual : Str} {st : Stmt} {f : Addr} {fd : FuncData} {N ps : List Str} {k : Nat} {sp : Sp} (F : Fun K x qual st f fd) (S : FnScope N ps (defScope st)) (len : ∀ vs H Q E, sp vs H Q E → vs.length = ps.length)
    (hbody : ∀ (cdv : Value) (A : Around) (outer : List Env) (s : Shared) (H : Hp) (vs : List V) (Q : VK) (E : XK), Room k (A.deeper (envOfC qual (defScope st) s.heap.objs.size f cdv)) → sp vs H Q E →
      ∃ t, PSs (cxOf CX0 P w K mg base N qual (defScope st) f cdv A outer s H E).nox (defBody st) t ∧ t { nx := fun _ H' => Q .non H', rt := Q } (start N vs) H) : FnOk P w K mg base CX0 (k + 1) f fd ps sp := by
  obtain ⟨oc, od, kV, doc, pm, an, cdv, ct, osl, rfl, lk, hcd⟩ := F.ex
  refine fn_of lk hcd S len fun A outer s H vs Q E hr hsp => ?_
  obtain ⟨t, h, q⟩ := hbody cdv A outer s H vs Q E hr hsp
  exact ⟨t, h.nox, q⟩
theorem Fun.binds {x qual : Str} {st : Stmt} {f : Addr} {fd : FuncData} {ps : List Str} (F : Fun K x qual st f fd)
    (h : ∀ (kV doc pm : Value) (an : Option Addr) (cdv ct : Value) (us : List Value), us.length = ps.length → bindArgs (PySem.W.fnOf x qual (defArgs st) (defBody st) (defScope st) .none kV doc pm an cdv ct) ⟨us, []⟩ = pure (ps.zip us)) : Binds K fd ps [] := by
  obtain ⟨oc, od, kV, doc, pm, an, cdv, ct, osl, rfl, lk, hcd⟩ := F.ex
  exact .all (h kV doc pm an cdv ct)
theorem fun_mk {x qual : Str} {st : Stmt} {f : Addr} {oc : Value} {od an : Option Addr} {osl : Array (Option Value)} {kV doc pm cdv ct : Value} (l : K.lookup f = some ⟨oc, od, .func (PySem.W.fnOf x qual (defArgs st) (defBody st) (defScope st) .none kV doc pm an cdv ct), osl⟩)
    (c : PySem.W.codeIn K cdv qual = true) (k : PySem.W.keepIn K (.ref f) = true) : Fun K x qual st f (PySem.W.fnOf x qual (defArgs st) (defBody st) (defScope st) .none kV doc pm an cdv ct) := ⟨⟨oc, od, kV, doc, pm, an, cdv, ct, osl, rfl, l, c⟩, k⟩
end
section
variable {X : Cx}
end
theorem iteF {A B : Prop} (h : B) : if false = true then A else B := by
  rw [if_neg Bool.false_ne_true]
  exact h
theorem iteT {A B : Prop} (h : A) : if true = true then A else B := by
  rw [if_pos rfl]
  exact h
noncomputable def Same (H H' : Hp) : Prop := ∀ b o, H b = some o → H' b = some o
theorem Same.refl (H : Hp) : Same H H := fun _ _ h => h
theorem Same.trans {H H1 H2 : Hp} (a : Same H H1) (b : Same H1 H2) : Same H H2 := fun c o h => b c o (a c o h)
theorem Same.free {H H' : Hp} (e : Same H H') {l : Addr} (h : H' l = Option.none) : H l = Option.none := by
  cases q : H l with
  | none => rfl
  | some o =>
    rw [e l o q] at h
    cases h
theorem Same.seq {K : PySem.W.Frag} {H H' : Hp} {a : Addr} {xs : List V} (e : Same H H') (h : SqL K H a xs) : SqL K H' a xs := by
  rcases h with (h | ⟨o, h⟩) | h
  · exact .inl (.inl (e _ _ h))
  · exact .inl (.inr ⟨o, e _ _ h⟩)
  · exact .inr h
end L2
namespace Fx
open PySem
theorem dict_mapF (o : Obj) (f : Array Value → Array Value) : (o.mapFields f).dict = o.dict := by
  rcases o with ⟨c, d, dt, sl⟩
  cases dt <;> rfl
noncomputable def Dk (h : Heap) (e : Addr) (d : Option Addr) : Prop := ∀ dx, d = some dx → ∃ oe, h.get? e = some oe ∧ oe.dict = some dx
noncomputable def Fly (B : Heap) (l : List Env) (e : Addr) (cls : Value) (d : Option Addr) (h : Heap) : Prop :=
  (∃ a0, Heap.FlyingW B l e cls a0 h) ∧ Dk h e d
noncomputable def Held (B : Heap) (l : List Env) (e : Addr) (cls : Value) (d : Option Addr) (L : Addr) (h : Heap) : Prop :=
  (∃ a0, Heap.HeldW B l e cls a0 L h) ∧ Dk h e d
theorem dk_upd {h : Heap} {e b : Addr} {d : Option Addr} {f : Array Value → Array Value} {o : Obj} {vs : Array Value} (hb : h.get? b = some o) (hd : o.data = .fields vs) (k : Dk h e d) :
    Dk (h.update b (Obj.mapFields f)) e d := by
  intro dx hx
  obtain ⟨oe, h1, h2⟩ := k dx hx
  by_cases q : b = e
  · subst q
    rw [hb] at h1
    cases h1
    exact ⟨_, Heap.get?_update_self _ hb (Obj.isFreed_of_fields (Obj.data_mapFields hd f)), by rw [dict_mapF]; exact h2⟩
  · exact ⟨oe, by rw [Heap.get?_update_other _ _ q]; exact h1, h2⟩
section
variable {M : Model} {A : Around} {E : Value → Shared → Prop} {s : Shared} {B : Heap} {env : Env} {outer l : List Env} {L e : Addr} {cls : Value} {d : Option Addr} {Q : Unit → Shared → Prop}
theorem entry_held {oe : Obj} {vs : Array Value} {head a0 : Value} {more : Bool} (hfr : A.frames = some (env :: outer)) (ff : s.heap.FunFrames B (env :: outer)) (hf : env.frame = some L)
    (he : s.heap.get? e = some oe) (st : B.StaysIn s.heap) (fe : B.get? e = none) (hd : oe.data = .fields vs) (hz : 1 < vs.size) (h0 : vs[0]? = some a0) (dk : Dk s.heap e d)
    (hQ : ∀ h1, Held B (env :: outer) e oe.cls d L h1 → s.heap.UpToSlots h1 → Q () { s with heap := h1 }) :
    wpAny M A (do
      let fr ← frameOf env
      let at_ ← entryPlaceOf L more
      let tb ← EntryCells.newEntry head fr .none (rawInt L) .none at_
      setField (.ref e) 1 tb) Q E s := by
  have ne : e ∉ (env :: outer).filterMap (·.frame) := fun z => by
    obtain ⟨_, o2, g1, g2⟩ := ff.mem z
    rw [he] at g1; cases g1; exact g2 vs hd
  refine wpAny_bind (wpAny_frameOf_fun hfr ff hf fun h2 so => ?_)
  refine wpAny_bind (wpAny_entryPlaceOf fun places ok => ?_)
  unfold EntryCells.newEntry newFields
  refine wpAny_bind (wpAny_newObj_type ?_ (ok.sizeOk5 _ _ _ _ _))
  have he2 : h2.get? e = some oe := by rw [so.2.1 e ne]; exact he
  have st2 : B.StaysIn h2 := fun b o q => by
    rw [so.2.1 b fun z => by rw [(ff.mem z).1] at q; cases q]
    exact st b o q
  generalize hO : ({ cls := .type "traceback", dict := none, data := .fields ([head, .ref L, .none, rawInt L, .none] ++ (if places.isEmpty then List.replicate 6 Value.none else places)).toArray } : Obj) = tbo
  have he3 : (h2.push tbo).get? e = some oe := Heap.get?_push_of_some _ he2
  refine wpAny_setField he3 hd hz (hQ _ ?_ ?_)
  all_goals
    have nT : h2.objs.size ≠ e := Nat.ne_of_gt (Heap.lt_size he2)
    have keep : ∀ b o, b ≠ e → h2.get? b = some o → ((h2.push tbo).update e (Obj.mapFields (·.setIfInBounds 1 (Value.ref h2.objs.size)))).get? b = some o := fun b o nb hb => by
      rw [Heap.get?_update_other _ _ (Ne.symm nb)]
      exact Heap.get?_push_of_some _ hb
    have nrec : ∀ b o, s.heap.get? b = some o → (∀ ws, o.data ≠ .fields ws) → b ≠ e := fun b o hb nf z => by
      subst z; rw [he] at hb; cases hb; exact nf vs hd
  · have hd4 := Obj.data_mapFields hd (·.setIfInBounds 1 (Value.ref h2.objs.size))
    have he4 := Heap.get?_update_self (Obj.mapFields (·.setIfInBounds 1 (Value.ref h2.objs.size))) he3 (Obj.isFreed_of_fields hd4)
    have hT4 : ((h2.push tbo).update e (Obj.mapFields (·.setIfInBounds 1 (Value.ref h2.objs.size)))).get? h2.objs.size = some tbo := by
      rw [Heap.get?_update_other _ _ (Ne.symm nT)]
      exact Heap.get?_push_size h2 (by rw [← hO]; rfl)
    refine ⟨⟨a0, fun b o q => keep b o (fun z => by rw [z, fe] at q; cases q) (st2 b o q), fe, ff.of_keeps fun b o hb nf => ?_, ?_⟩, fun dx hx => ?_⟩
    · obtain ⟨sl, z⟩ := so.2.2 b o hb
      exact ⟨_, keep b _ (nrec b o hb nf) z, rfl⟩
    · refine ⟨_, _, h2.objs.size, tbo, _, he4, ⟨Obj.cls_mapFields _ _, ?_⟩, hd4, by simp [hz], st2.fresh, nT, hT4, by rw [← hO], ?_⟩
      · rw [Array.getElem?_setIfInBounds_ne (by decide)]; exact h0
      · rcases ok with z | ⟨_, _, _, _, _, _, _, z⟩ <;> (rw [z]; simp)
    · obtain ⟨o1, g1, g2⟩ := dk dx hx
      rw [he] at g1; cases g1
      exact ⟨_, he4, by rw [dict_mapF]; exact g2⟩
  · intro b o hb nf
    obtain ⟨sl, z⟩ := so.2.2 b o hb
    exact ⟨sl, keep b _ (nrec b o hb nf) z⟩
theorem fly_note (hfr : A.frames = some (env :: outer)) (hf : env.frame = some L) (x : Fly B (env :: outer) e cls d s.heap)
    (hQ : ∀ h1, Held B (env :: outer) e cls d L h1 → s.heap.UpToSlots h1 → Q () { s with heap := h1 }) : wpAny M A (noteFrame (.ref e) env) Q E s := by
  obtain ⟨⟨a0, st, fe, ff, oe, vs, T, oT, ts, he, ⟨hc, h0⟩, hd, h1, bT, Te, hT, hdT, h3⟩, dk⟩ := x
  subst hc
  unfold noteFrame
  simp only [hf]
  refine wpAny_bind (wpAny_field he hd h1 ?_)
  rw [if_pos (by simp)]
  refine wpAny_bind (wpAny_field hT hdT h3 ?_)
  rw [if_neg (by simp [rawInt])]
  refine wpAny_bind (wpAny_setField hT hdT (Array.getElem?_eq_some_iff.mp h3).1 ?_)
  have oth : ∀ b, b ≠ T → (s.heap.update T (Obj.mapFields (·.setIfInBounds 3 Value.none))).get? b = s.heap.get? b := fun b z => Heap.get?_update_other _ _ (Ne.symm z)
  have nrec : ∀ b o, s.heap.get? b = some o → (∀ ws, o.data ≠ .fields ws) → b ≠ T := fun b o hb nf z => by
    subst z; rw [hT] at hb; cases hb; exact nf ts hdT
  refine entry_held (s := { s with heap := s.heap.update T (Obj.mapFields (·.setIfInBounds 3 Value.none)) }) hfr (ff.of_keeps fun b o hb nf => ⟨o, by rw [oth b (nrec b o hb nf)]; exact hb, rfl⟩) hf
    (by rw [oth e (Ne.symm Te)]; exact he) (fun b o q => by rw [oth b fun z => by rw [z, bT] at q; cases q]; exact st b o q) fe hd (Array.getElem?_eq_some_iff.mp h1).1 h0 (dk_upd hT hdT dk) fun h5 hl up => ?_
  exact hQ h5 hl fun b o hb nf => up b o (by rw [oth b (nrec b o hb nf)]; exact hb) nf
theorem raw_note {oe : Obj} {vs : Array Value} {a0 : Value} (hfr : A.frames = some (env :: outer)) (ff : s.heap.FunFrames B (env :: outer)) (hf : env.frame = some L) (he : s.heap.get? e = some oe) (st : B.StaysIn s.heap)
    (fe : B.get? e = none) (hd : oe.data = .fields vs) (h1 : vs[1]? = some .none) (h0 : vs[0]? = some a0) (dk : Dk s.heap e d)
    (hQ : ∀ h1, Held B (env :: outer) e oe.cls d L h1 → s.heap.UpToSlots h1 → Q () { s with heap := h1 }) : wpAny M A (noteFrame (.ref e) env) Q E s := by
  unfold noteFrame
  simp only [hf]
  refine wpAny_bind (wpAny_field he hd h1 ?_)
  rw [if_neg (by decide)]
  exact entry_held hfr ff hf he st fe hd (Array.getElem?_eq_some_iff.mp h1).1 h0 dk hQ
theorem land_core {fl a0 : Value} (st : B.StaysIn s.heap) (fe : B.get? e = none) (ff : s.heap.FunFrames B l) (tr : s.heap.TracedAtW B e cls a0 fl) (dk : Dk s.heap e d)
    (hQ : ∀ h1, Fly B l e cls d h1 → s.heap.UpToSlots h1 → Q () { s with heap := h1 }) : wpAny M A (setFlight (.ref e) none) Q E s := by
  obtain ⟨oe, vs, T, oT, ts, he, hc, hd, h1, bT, Te, hT, hdT, h3⟩ := tr
  have z3 : 3 < ts.size := (Array.getElem?_eq_some_iff.mp h3).1
  unfold setFlight
  refine wpAny_bind (wpAny_field he hd h1 ?_)
  rw [if_pos (by simp)]
  refine wpAny_setField hT hdT z3 (hQ _ ⟨⟨a0, ?_⟩, dk_upd hT hdT dk⟩ ?_)
  all_goals
    have oth : ∀ b, b ≠ T → (s.heap.update T (Obj.mapFields (·.setIfInBounds 3 ((none : Option Addr).elim Value.none fun f => rawInt f)))).get? b = s.heap.get? b := fun b z => Heap.get?_update_other _ _ (Ne.symm z)
    have nrec : ∀ b o, s.heap.get? b = some o → (∀ ws, o.data ≠ .fields ws) → b ≠ T := fun b o hb nf z => by
      subst z; rw [hT] at hb; cases hb; exact nf ts hdT
  · refine ⟨fun b o q => by rw [oth b fun z => by rw [z, bT] at q; cases q]; exact st b o q, fe, ff.of_keeps fun b o hb nf => ⟨o, by rw [oth b (nrec b o hb nf)]; exact hb, rfl⟩, ?_⟩
    exact ⟨oe, vs, T, _, _, by rw [oth e (Ne.symm Te)]; exact he, hc, hd, h1, bT, Te, Heap.get?_update_self _ hT (Obj.isFreed_of_fields (Obj.data_mapFields hdT _)), Obj.data_mapFields hdT _, by simp [z3]⟩
  · exact fun b o hb nf => ⟨o.slots, by rw [oth b (nrec b o hb nf)]; exact hb⟩
theorem held_land (x : Held B l e cls d L s.heap) (hQ : ∀ h1, Fly B l e cls d h1 → s.heap.UpToSlots h1 → Q () { s with heap := h1 }) : wpAny M A (setFlight (.ref e) none) Q E s := by
  obtain ⟨⟨a0, st, fe, ff, tr⟩, dk⟩ := x
  exact land_core st fe ff tr dk hQ
theorem Fly.less (x : Fly B (env :: outer) e cls d s.heap) : Fly B outer e cls d s.heap := by
  obtain ⟨⟨a0, st, fe, ⟨_, _, ff⟩, tr⟩, dk⟩ := x
  exact ⟨⟨a0, st, fe, ff, tr⟩, dk⟩
theorem fly_leave (hfr : A.frames = some (env :: outer)) (hf : env.frame = some L) (x : Fly B (env :: outer) e cls d s.heap)
    (hQ : ∀ h1, Fly B outer e cls d h1 → s.heap.UpToSlots h1 → Q () { s with heap := h1 }) : wpAny M A (leaving env (.ref e)) Q E s := by
  unfold leaving
  exact wpAny_bind (fly_note hfr hf x fun h1 x1 u1 => held_land (s := { s with heap := h1 }) x1 fun h2 x2 u2 => hQ h2 (Fly.less (s := { s with heap := h2 }) x2) (u1.trans u2))
theorem raw_leave {oe : Obj} {vs : Array Value} {a0 : Value} (hfr : A.frames = some (env :: outer)) (ff : s.heap.FunFrames B (env :: outer)) (hf : env.frame = some L) (he : s.heap.get? e = some oe) (st : B.StaysIn s.heap)
    (fe : B.get? e = none) (hd : oe.data = .fields vs) (h1 : vs[1]? = some .none) (h0 : vs[0]? = some a0) (dk : Dk s.heap e d)
    (hQ : ∀ h1, Fly B outer e oe.cls d h1 → s.heap.UpToSlots h1 → Q () { s with heap := h1 }) : wpAny M A (leaving env (.ref e)) Q E s := by
  unfold leaving
  exact wpAny_bind (raw_note hfr ff hf he st fe hd h1 h0 dk fun h3 x1 u1 => held_land (s := { s with heap := h3 }) x1 fun h2 x2 u2 => hQ h2 (Fly.less (s := { s with heap := h2 }) x2) (u1.trans u2))
end
end Fx
namespace FM
noncomputable def g (a b : Int) : Int := (Int.gcd a b : Int)
theorem g_zero {a : Int} (ha : 0 ≤ a) : g a 0 = a := by
  unfold g; rw [Int.gcd_zero_right]; omega
theorem g_step {a b : Int} (ha : 0 ≤ a) (hb : 0 < b) : g b (a % b) = g a b := by
  unfold g
  congr 1
  obtain ⟨m, rfl⟩ := Int.eq_ofNat_of_zero_le ha
  obtain ⟨n, rfl⟩ := Int.eq_ofNat_of_zero_le (Int.le_of_lt hb)
  show Nat.gcd n ((m : Int) % (n : Int)).natAbs = Nat.gcd m n
  rw [show ((m : Int) % (n : Int)).natAbs = m % n from by omega]
  rw [Nat.gcd_comm m n, Nat.gcd_rec n m, Nat.gcd_comm]
theorem g_abs (a b : Int) : g (if a < 0 then -a else a) (if b < 0 then -b else b) = g a b := by
  unfold g
  congr 1
  unfold Int.gcd
  congr 1
  · split <;> omega
  · split <;> omega
theorem g_pos {a b : Int} (hb : b ≠ 0) : 0 < g a b := by
  unfold g
  have h := Int.gcd_pos_of_ne_zero_right a hb
  omega
theorem g_dvd1 (a b : Int) : g a b ∣ a := Int.gcd_dvd_left ..
theorem g_dvd2 (a b : Int) : g a b ∣ b := Int.gcd_dvd_right ..
noncomputable def dv (t b : Int) : Int := if b < 0 then -(g t b) else g t b
noncomputable def top (t b : Int) : Int := t.fdiv (dv t b)
noncomputable def bot (t b : Int) : Int := b.fdiv (dv t b)
theorem dv_ne {t b : Int} (hb : b ≠ 0) : dv t b ≠ 0 := by
  have := g_pos (a := t) hb
  unfold dv; split <;> omega
theorem fdiv_of_dvd {a d q : Int} (hd : d ≠ 0) (h : a = d * q) : a.fdiv d = q := by
  subst h
  rw [Int.mul_comm]
  exact Int.mul_fdiv_cancel q hd
theorem split {t b : Int} (hb : b ≠ 0) : t = dv t b * top t b ∧ b = dv t b * bot t b := by
  have hd := dv_ne (t := t) hb
  have h1 : dv t b ∣ t := by
    unfold dv; split
    · exact Int.neg_dvd.mpr (g_dvd1 t b)
    · exact g_dvd1 t b
  have h2 : dv t b ∣ b := by
    unfold dv; split
    · exact Int.neg_dvd.mpr (g_dvd2 t b)
    · exact g_dvd2 t b
  obtain ⟨p, hp⟩ := h1
  obtain ⟨q, hq⟩ := h2
  constructor
  · show t = dv t b * t.fdiv (dv t b)
    rw [fdiv_of_dvd hd hp]; exact hp
  · show b = dv t b * b.fdiv (dv t b)
    rw [fdiv_of_dvd hd hq]; exact hq
structure Low (p q : Int) : Prop where
  pos : 0 < q
  one : Int.gcd p q = 1
theorem low_of {t b : Int} (hb : b ≠ 0) : Low (top t b) (bot t b) := by
  obtain ⟨h1, h2⟩ := split (t := t) hb
  have hd := dv_ne (t := t) hb
  have hg := g_pos (a := t) hb
  have hab : (dv t b).natAbs = Int.gcd t b := by
    unfold dv g; split <;> omega
  refine ⟨?_, ?_⟩
  · rcases Int.lt_trichotomy b 0 with h | h | h
    · have e : dv t b = -(g t b) := by unfold dv; rw [if_pos h]
      rw [e] at h2
      refine Int.lt_of_not_ge fun hn => ?_
      have : 0 ≤ -(g t b) * bot t b := by
        have := Int.mul_nonneg_of_nonpos_of_nonpos (show -(g t b) ≤ 0 by omega) hn
        exact this
      omega
    · exact absurd h hb
    · have e : dv t b = g t b := by unfold dv; rw [if_neg (by omega)]
      rw [e] at h2
      refine Int.lt_of_not_ge fun hn => ?_
      have : g t b * bot t b ≤ 0 := Int.mul_nonpos_of_nonneg_of_nonpos (Int.le_of_lt hg) hn
      omega
  · have e : Int.gcd (dv t b * top t b) (dv t b * bot t b) = (dv t b).natAbs * Int.gcd (top t b) (bot t b) := Int.gcd_mul_left ..
    rw [← h1, ← h2, hab] at e
    have hz : 0 < Int.gcd t b := by unfold g at hg; omega
    exact (Nat.eq_of_mul_eq_mul_left hz (by rw [Nat.mul_one]; exact e)).symm
theorem cross {t b : Int} (hb : b ≠ 0) : top t b * b = t * bot t b := by
  obtain ⟨h1, h2⟩ := split (t := t) hb
  have e1 : top t b * b = top t b * (dv t b * bot t b) := by rw [← h2]
  have e2 : t * bot t b = (dv t b * top t b) * bot t b := by rw [← h1]
  rw [e1, e2]
  rw [← Int.mul_assoc, Int.mul_comm (top t b)]
theorem cop {a b c : Int} (h : Int.gcd a b = 1) (d : a ∣ b * c) : a ∣ c := by
  have h' : Nat.Coprime a.natAbs b.natAbs := h
  have d' : a.natAbs ∣ b.natAbs * c.natAbs := by
    rw [← Int.natAbs_mul]; exact Int.natAbs_dvd_natAbs.mpr d
  exact Int.natAbs_dvd_natAbs.mp (h'.dvd_of_dvd_mul_left d')
theorem low_eq {p q p' q' : Int} (a : Low p q) (b : Low p' q') (h : p * q' = p' * q) : p = p' ∧ q = q' := by
  obtain ⟨hq, g1⟩ := a
  obtain ⟨hq', g2⟩ := b
  have d1 : q ∣ q' := by
    have : q ∣ p * q' := by rw [h]; exact Int.dvd_mul_left ..
    exact cop (by rw [Int.gcd_comm]; exact g1) this
  have d2 : q' ∣ q := by
    have : q' ∣ p' * q := by rw [← h]; exact Int.dvd_mul_left ..
    exact cop (by rw [Int.gcd_comm]; exact g2) this
  have e : q = q' := Int.dvd_antisymm (Int.le_of_lt hq) (Int.le_of_lt hq') d1 d2
  subst e
  exact ⟨Int.eq_of_mul_eq_mul_right (by omega) h, rfl⟩
theorem scaled {p q k : Int} (L : Low p q) (hk : k ≠ 0) : top (p * k) (q * k) = p ∧ bot (p * k) (q * k) = q := by
  have hq : q ≠ 0 := by have := L.pos; omega
  have hb : q * k ≠ 0 := Int.mul_ne_zero hq hk
  refine low_eq (low_of hb) L ?_
  have c := cross (t := p * k) hb
  -- top * (q * k) = (p * k) * bot
  refine Int.eq_of_mul_eq_mul_right hk ?_
  rw [Int.mul_assoc, c, Int.mul_assoc, Int.mul_assoc, Int.mul_comm k]
theorem turned {p q k : Int} (L : Low p q) (hk : k ≠ 0) : top (0 - p * k) (0 - q * k) = p ∧ bot (0 - p * k) (0 - q * k) = q := by
  have e1 : 0 - p * k = p * (-k) := by rw [Int.mul_neg]; omega
  have e2 : 0 - q * k = q * (-k) := by rw [Int.mul_neg]; omega
  rw [e1, e2]
  exact scaled L (by omega)
theorem dv_abs (t b : Int) : (dv t b).natAbs = Int.gcd t b := by unfold dv g; split <;> omega
theorem dv_le {t b : Int} (hb : b ≠ 0) : (dv t b).natAbs ≤ b.natAbs := by
  rw [dv_abs]
  exact Nat.le_of_dvd (by omega) (Nat.gcd_dvd_right ..)
theorem top_zero {b : Int} (hb : b ≠ 0) : top 0 b = 0 := by unfold top; exact Int.zero_fdiv _
end FM
namespace Fx
open PySem
section
variable {prog : Program} {w : World} {A : Around} {E : Value → Shared → Prop} {h : Heap} {g : Array GenState} {d : Drawn} {t : Nat} {os : OsState}
variable {nm q : Str} {C N : Addr} {bs bm bmB : List Value} {hdct : Bool} {sn : List Str} {sub : List Value} {ab : Bool} {col : Option Bool} {dd : Option Addr} {k0 k1 k2 k3 k5 : Option Value} {B newId initId : String}
noncomputable abbrev Tlk (h : Heap) (C : Addr) (n : Str) (y : Option Value) : Prop := ∀ (M : Model) (A : Around) (E : Value → Shared → Prop) (g : Array GenState) (d : Drawn) (t : Nat) (os : OsState) (Q : Option Value → Shared → Prop),
  Q y ⟨h, g, d, t, os⟩ → wpAny M A (typeLookup (.ref C) n) Q E ⟨h, g, d, t, os⟩
end
end Fx
set_option maxHeartbeats 4000000
namespace L2
open PySem PySem.Spec PyProof.Rows Fx
noncomputable def CXx (P : Program) (w : World) : CXT := fun outer H s E e s' =>
  ∃ (ea : Addr) (cls : Value) (d : Option Addr) (H1 : Hp) (B : Heap), e = .ref ea ∧ s'.os = s.os ∧ AllBare s'.gens ∧ Fly B outer ea cls d s'.heap ∧
    (∀ h5 : Heap, B.StaysIn h5 → s'.heap.UpToSlots h5 → Un (frs outer) [] H H1 s.heap h5 ∧ HOk P w H1 h5) ∧ H1 ea = none ∧ s.heap.get? ea = none ∧ E cls d H1
structure NewA (X : Cx) (pins : List (Addr × Obj)) (e : Addr) : Prop where
  old : X.s₀.heap.get? e = none
  pin : ∀ p ∈ X.pn ++ pins, p.1 ≠ e
  loc : e ≠ X.env.locals
  cel : ∀ x c, X.env.cells.lookup x = some c → c ≠ e
  frm : e ∉ X.fs
noncomputable def XP (X : Cx) (pins : List (Addr × Obj)) (σ : St) (R : XK) (e : Value) (s' : Shared) : Prop :=
  ∃ (ea : Addr) (cls : Value) (d : Option Addr) (H1 : Hp) (B : Heap), e = .ref ea ∧ Fly B X.stack ea cls d s'.heap ∧
    (∀ h5 : Heap, B.StaysIn h5 → s'.heap.UpToSlots h5 → Inv X pins σ H1 { s' with heap := h5 }) ∧ H1 ea = none ∧ NewA X pins ea ∧ R cls d H1
section
variable {X : Cx} {pins : List (Addr × Obj)} {σ : St} {H : Hp} {s s' : Shared} {e : Value} {E : XK}
theorem Inv.newA {ea : Addr} (I : Inv X pins σ H s) (n : s.heap.get? ea = none) (hex : X.ex = []) : NewA X pins ea := by
  have z : ∀ b o, s.heap.get? b = some o → b ≠ ea := fun b o q w => by rw [w, n] at q; cases q
  refine ⟨?_, fun p hp => z _ _ (I.pin p hp).1, fun w => ?_, fun x c hc => ?_, fun hb => ?_⟩
  · cases q : X.s₀.heap.get? ea with
    | none => rfl
    | some o =>
      obtain ⟨o1, q1⟩ := I.base.there ea o q (by rw [hex]; simp)
      rw [n] at q1; cases q1
  · obtain ⟨m, ⟨o, _, _, ho, _⟩, _⟩ := I.loc
    exact z _ _ ho w.symm
  · obtain ⟨v, o, ho, _⟩ := I.cell x c hc
    exact z _ _ ho
  · obtain ⟨_, o, ho, _⟩ := I.funs.mem hb
    exact z _ _ ho rfl
theorem xp_of (I : Inv X pins σ H s) (h : CXx X.prog X.w X.stack H s E e s') (hex : X.ex = []) : XP X pins σ E e s' := by
  obtain ⟨ea, cls, d, H1, B, rfl, os, bare, fl, cl, en, fr, hE⟩ := h
  refine ⟨ea, cls, d, H1, B, rfl, fl, fun h5 b5 u5 => ?_, en, I.newA fr hex, hE⟩
  obtain ⟨un, hok⟩ := cl h5 b5 u5
  exact I.call' (s' := { s' with heap := h5 }) (ch := []) os un hok bare fun b z => absurd z (by simp)
end
theorem ObjOk.there {P : Program} {w : World} {H : Hp} {h : Heap} {a : Addr} {o : HO} (x : ObjOk P w H h a o) : ∃ ob, h.get? a = some ob := by
  cases o with
  | lst xs => obtain ⟨_, _, _, _, q⟩ := x; exact ⟨_, q⟩
  | tup xs => obtain ⟨_, _, _, ob, q, _⟩ := x; exact ⟨_, q⟩
  | dK kvs => obtain ⟨_, _, _, _, ob, _, _, q, _⟩ := x; exact ⟨_, q⟩
  | dT kvs => obtain ⟨_, _, _, _, ob, _, _, q, _⟩ := x; exact ⟨_, q⟩
  | set S n => obtain ⟨ob, _, _, _, q, _⟩ := x; exact ⟨_, q⟩
  | ins C dx fs => obtain ⟨_, _, _, q, _⟩ := x; exact ⟨_, q⟩
  | own y => exact x
  | xd fs => obtain ⟨_, ⟨_, _, _, q, _⟩, _⟩ := x; exact ⟨_, q⟩
  | rng lo hi => obtain ⟨_, _, _, q⟩ := x; exact ⟨_, q⟩
  | frz ob u => obtain ⟨q, _⟩ := x; exact ⟨_, q⟩
  | tbl ps => exact ⟨_, (show h.get? a = some _ from x)⟩
  | met f y => exact ⟨_, (show h.get? a = some _ from x)⟩
  | ext φ => obtain ⟨_, q, _⟩ := x; exact q
theorem HOk.no {P : Program} {w : World} {H : Hp} {h : Heap} {a : Addr} (x : HOk P w H h) (n : h.get? a = none) : H a = none := by
  cases q : H a with
  | none => rfl
  | some o =>
    obtain ⟨ob, z⟩ := (x a o q).there
    rw [n] at z; cases z
section
variable {P : Program} {w : World} {K : PySem.W.Frag} {mg : Str → Option Value} {base : Heap} {N : List Str} {qual : Str} {scope : Scope} {f : Addr} {cd : Value} {A : Around} {outer : List Env} {s : Shared} {H : Hp} {E : XK}
theorem passX : Passes (CXx P w) (cxOf (CXx P w) P w K mg base N qual scope f cd A outer s H E) E := fun pins σ H1 s1 e s' I h => by
  obtain ⟨ea, cls, d, H2, B, rfl, fl, cl, en, na, hE⟩ := xp_of I h rfl
  have J := fun h5 b5 u5 => cl h5 b5 u5
  obtain ⟨a0, st, _⟩ := fl.1
  have J0 := J s'.heap st (Heap.UpToSlots.refl _)
  show wpAny _ _ (leaving _ (.ref ea)) _ _ s'
  refine fly_leave (outer := outer) (L := s.heap.objs.size) I.ok.frames rfl fl fun h1 fl1 u1 => ?_
  exact ⟨ea, cls, d, H2, B, rfl, J0.os, J0.bare, fl1, fun h5 b5 u5 => ⟨(J h5 b5 (u1.trans u5)).base, (J h5 b5 (u1.trans u5)).hok⟩, en, na.old, hE⟩
theorem raw_xe {pins : List (Addr × Obj)} {σ : St} {H2 : Hp} {s2 : Shared} {e : Addr} {oe : Obj} {vs : Array Value} {a0 : Value} {d : Option Addr}
    (I : Inv (cxOf (CXx P w) P w K mg base N qual scope f cd A outer s H E) pins σ H2 s2) (he : s2.heap.get? e = some oe) (fr : s.heap.get? e = none) (hd : oe.data = .fields vs) (h1 : vs[1]? = some .none) (h0 : vs[0]? = some a0)
    (dk : Dk s2.heap e d) (en : H2 e = none) (hE : E oe.cls d H2) : (cxOf (CXx P w) P w K mg base N qual scope f cd A outer s H E).xe (.ref e) s2 := by
  let X := cxOf (CXx P w) P w K mg base N qual scope f cd A outer s H E
  let B := PySem.W.hideAll s2.heap (e :: frs X.stack)
  have st : B.StaysIn s2.heap := fun b o q => PySem.W.of_hideAll _ q
  have fe : B.get? e = none := PySem.W.hideAll_none _ (List.Mem.head _)
  have ff : s2.heap.FunFrames B X.stack := PySem.W.funFrames_hide I.stack fun env hm b hb => List.Mem.tail _ (List.mem_filterMap.mpr ⟨env, hm, hb⟩)
  show wpAny _ _ (leaving _ (.ref e)) _ _ s2
  refine raw_leave (B := B) (outer := outer) (L := s.heap.objs.size) I.ok.frames ff rfl he st fe hd h1 h0 dk fun h3 fl3 u3 => ?_
  refine ⟨e, oe.cls, d, H2, B, rfl, I.os, I.bare, fl3, fun h5 b5 u5 => ?_, en, fr, hE⟩
  have up : s2.heap.UpToSlots h5 := u3.trans u5
  have keep : ∀ b o, s2.heap.get? b = some o → b ≠ e → b ∉ frs X.stack → h5.get? b = some o := fun b o q n1 n2 => b5 b o (PySem.W.hideAll_get _ q fun z => by
    rcases List.mem_cons.mp z with z | z
    · exact n1 z
    · exact n2 z)
  have trkd : ∀ b o, H2 b = some o → b ≠ e ∧ b ∉ frs X.stack := fun b o q => ⟨fun z => (by subst z; rw [en] at q; cases q), fun z => (by rw [I.stkFree b z] at q; cases q)⟩
  have old : ∀ b o, s.heap.get? b = some o → b ∉ frs outer → b ≠ e ∧ b ∉ frs X.stack := fun b o q n => ⟨fun z => (by subst z; rw [fr] at q; cases q), fun z => (List.mem_cons.mp (I.stkSub b z)).elim (fun z => absurd (Heap.lt_size q) (by rw [z]; exact Nat.lt_irrefl _)) (fun z => n z)⟩
  have fram : ∀ b o, s2.heap.get? b = some o → b ∈ frs outer → ∃ sl, h5.get? b = some { o with slots := sl } := fun b o q hb => by
    obtain ⟨_, o2, q2, nf⟩ := I.funs.mem hb
    rw [q] at q2; cases q2
    exact up b o q nf
  refine ⟨⟨fun b o q n hb _ => ?_, fun b o q n hb _ => ?_, fun b o q n hx => I.base.free b o q n hx, fun b o q hx => ?_, I.base.tups, I.base.frzs, I.base.tbls⟩, fun a o ea => ?_⟩
  · obtain ⟨n1, n2⟩ := old b o q hb
    exact keep b o (I.base.keep b o q n hb (by intro z; exact absurd (show b ∈ ([] : List Addr) from z) (by simp))) n1 n2
  · obtain ⟨sl, q1⟩ := I.base.slot b o q n hb (by intro z; exact absurd (show b ∈ ([] : List Addr) from z) (by simp))
    obtain ⟨sl2, q2⟩ := fram b _ q1 hb
    exact ⟨sl2, q2⟩
  · obtain ⟨o1, q1⟩ := I.base.there b o q hx
    by_cases hb : b ∈ frs outer
    · obtain ⟨sl2, q2⟩ := fram b _ q1 hb
      exact ⟨_, q2⟩
    · obtain ⟨n1, n2⟩ := old b o q hb
      exact ⟨o1, keep b o1 q1 n1 n2⟩
  · refine (I.hok a o ea).stay (fun b u hb q => ?_) (fun _ q => q) fun _ _ q => q
    rcases hb with rfl | hb
    · exact keep b u q (trkd b _ ea).1 (trkd b _ ea).2
    · exact keep b u q (trkd b _ hb).1 (trkd b _ hb).2
end
theorem exc_obj {K : PySem.W.Frag} {h : Heap} {C : Addr} {bmB : List Value} {newId : String} (X : K.In h) (q : PySem.W.excIn K C bmB newId = true) :
    ∃ bm N nm qn bs hdct sn sub ab col dd k0 k1 k2 k3 k5 mN, h.get? C = some (excClassObj nm qn C N bs bm hdct sn sub ab col dd k0 k1 k2 k3 k5 newId) ∧ h.Ns N mN ∧ mN "__init__" = none ∧ OwnTail h bmB bm := by
  unfold PySem.W.excIn at q
  split at q
  next dd cd sl ho =>
    split at q
    next C' bm k0 k1 k2 k3 n k5 hm hs =>
      simp only [Bool.and_eq_true, beq_iff_eq, Bool.not_eq_true'] at q
      obtain ⟨⟨⟨⟨⟨rfl, rfl⟩, hdel⟩, tl⟩, hok⟩, hni⟩ := q
      rcases cd with ⟨nm, bs, mro, ns, qn, hdc, sn, sub, ab, col, del⟩
      dsimp only at hm hdel hok hni
      subst hm hdel
      have es : sl = #[k0, k1, k2, k3, some (.builtin n), k5] := by
        rcases sl with ⟨l⟩
        simp only at hs
        rw [hs]
      subst es
      exact ⟨bm, ns, nm, qn, bs, hdc, sn, sub, ab, col, dd, k0, k1, k2, k3, k5, _, X _ _ ho, .of_isNs (PySem.W.isNs_of_in X hok), PySem.W.nsMap_none_of_in X hok hni, PySem.W.tail_of_in X tl⟩
    next => cases q
  next => cases q
section
variable {P : Program} {w : World} {K : PySem.W.Frag} {mg : Str → Option Value} {base : Heap} {N : List Str} {qual : Str} {scope : Scope} {f : Addr} {cd : Value} {A : Around} {outer : List Env} {s : Shared} {H : Hp} {E : XK}
noncomputable def tRaise (E : XK) (C : Addr) : TS := fun _ _ H => E (.ref C) none H
theorem ps_raise0 {x : Str} {C : Addr} {bmB : List Value} {B newId initId : String} {np cpos pos : Pos} (FB : ExcBaseFacts B newId initId bmB) (q : PySem.W.excIn K C bmB newId = true)
    (hg : Gl (cxOf (CXx P w) P w K mg base N qual scope f cd A outer s H E) x) (hm : mg x = some (.ref C)) (hdb : (x == ("__debug__" : Str)) = false := by decide) :
    PS (cxOf (CXx P w) P w K mg base N qual scope f cd A outer s H E) (.Raise (some (.Call (.Name x np) [] [] cpos)) none pos) (tRaise E C) := by
  intro pins s1 σ H1 D I h
  obtain ⟨bm, NS, nm, qn, bs, hdct, sn, sub, ab, col, dd, k0, k1, k2, k3, k5, mN, hC, hN, hni, TL⟩ := exc_obj I.kIn q
  refine wpAny_Raise_call_subT (bm := bm) FB (mN := mN) (TL.hasType FB.hasBase) (I.ok.hd rfl) rfl hni (ld_glob I hg hm ⟨rfl, evalArgs_empty ⟨rfl, Nat.zero_le _, hC, hN, TL, fun h2 e mk => ?_⟩⟩ hdb)
  obtain ⟨t, he, _, _⟩ := mk.there
  have I2 : Inv (cxOf (CXx P w) P w K mg base N qual scope f cd A outer s H E) pins σ H1 { s1 with heap := h2 } := I.kept (t' := s1.toks) mk.keeps
  refine raw_xe I2 he ?_ rfl rfl rfl (by intro dx z; cases z) (I.hok.no mk.new) h
  cases z : s.heap.get? e with
  | none => rfl
  | some o =>
    obtain ⟨o1, q1⟩ := I.base.there e o z (by intro y; exact absurd (show e ∈ ([] : List Addr) from y) (by simp))
    rw [mk.new] at q1; cases q1
end
section
variable {P : Program} {w : World} {K : PySem.W.Frag} {mg : Str → Option Value} {base : Heap}
theorem Fun.okX {x qual : Str} {st : Stmt} {f : Addr} {fd : FuncData} {N ps : List Str} {k : Nat} {sp : Sp} (F : Fun K x qual st f fd) (S : FnScope N ps (defScope st)) (len : ∀ vs H Q E, sp vs H Q E → vs.length = ps.length)
    (hbody : ∀ (cdv : Value) (A : Around) (outer : List Env) (s : Shared) (H : Hp) (vs : List V) (Q : VK) (E : XK), Room k (A.deeper (envOfC qual (defScope st) s.heap.objs.size f cdv)) → sp vs H Q E →
      ∃ t, PSs (cxOf (CXx P w) P w K mg base N qual (defScope st) f cdv A outer s H E) (defBody st) t ∧ t { nx := fun _ H' => Q .non H', rt := Q } (start N vs) H) : FnOk P w K mg base (CXx P w) (k + 1) f fd ps sp := by
  obtain ⟨oc, od, kV, doc, pm, an, cdv, ct, osl, rfl, lk, hcd⟩ := F.ex
  exact fn_of lk hcd S len fun A outer s H vs Q E hr hsp => hbody cdv A outer s H vs Q E hr hsp
end
section
variable {X : Cx} {k : Nat} {f : Addr} {fd : FuncData} {ps : List Str} {sp : Sp} {dvs : List V} {ds : List Value} {x : Str} {p pos : Pos} {e : Expr} {es : List Expr} {t : TA}
end
noncomputable abbrev Cx.suite (X : Cx) (ea : Addr) : Cx := { X with A := X.A.mark (some (.ref ea)), calm := false }
section
variable {X : Cx} {pins : List (Addr × Obj)} {σ : St} {H : Hp} {s : Shared} {ea : Addr}
theorem Inv.suite (I : Inv X pins σ H s) (ea : Addr) : Inv (X.suite ea) pins σ H s := by
  obtain ⟨ok, r1, r2, r3, r4, r5, r6, r7, r8, r9, r10⟩ := I
  obtain ⟨m1, m2, m3, m4, m5, m6, m7, m8, m9, m10, m11, m12, m13, m14, m15, m16, m17, m18⟩ := ok
  exact ⟨⟨m1, m2, m3, m4, m5, m6, m7, m8, (fun z => nomatch z), m10, m11, m12, m13, m14, m15, m16, m17, m18⟩, r1, r2, r3, r4, r5, r6, r7, r8, r9, r10⟩
end
section
variable {X : Cx}
end
section
variable {X : Cx}
noncomputable def CMulB (i j : Int) : Prop := Builtin.Int.intBits i ≤ 1048576 ∧ Builtin.Int.intBits j ≤ 1048576
theorem op_mulB : OpR X (binaryOp .Mult) (rI CMulB fun i j => .int (i * j)) := opI fun _ _ _ _ _ _ _ hc q => mul_int q (IntMulOk.of_le hc.1 hc.2 (by decide))
noncomputable def CDivB (_ j : Int) : Prop := j ≠ 0 ∧ Builtin.Int.intBits j ≤ 9000
theorem log2_of_bits {j : Int} (h : Builtin.Int.intBits j ≤ 9000) : j.natAbs.log2 < 9000 := by
  by_cases z : j.natAbs = 0
  · rw [z]; decide +kernel
  · exact (Nat.log2_lt z).mpr (intBits_le_iff.mp h)
theorem op_fdivB : OpR X (binaryOp .FloorDiv) (rI CDivB fun i j => .int (i.fdiv j)) := opI fun _ _ _ _ _ _ _ hc q => floordiv_int hc.1 q (.inl (PyProof.noPylong_of_log2 (log2_of_bits hc.2)))
theorem op_is_bl : OpR X (compareOp .Is) (fun x y H Q => ∃ a b, x = .bl a ∧ y = .bl b ∧ Q (.bl (a == b)) H) := by
  intro pins s σ H x y v u Q I rx ry h
  obtain ⟨a, b, rfl, rfl, q⟩ := h
  cases rx; cases ry
  exact is_bool (fin_bl I q rfl)
end
end L2
namespace L2
open PySem PySem.Spec PyProof.Rows Fx
noncomputable def Has (P : Program) (w : World) (K : PySem.W.Frag) (mg : Str → Option Value) (base : Heap) (CX : CXT) (k : Nat) (x : Str) (ps : List Str) (sp : Sp) : Prop :=
  ∃ f fd, FnOk P w K mg base CX k f fd ps sp ∧ Binds K fd ps [] ∧ PySem.W.keepIn K (.ref f) = true ∧ mg x = some (.ref f)
theorem passN {P : Program} {w : World} {X : Cx} : Passes (CXx P w) X E0 := fun _ _ _ _ _ _ _ h => by
  obtain ⟨_, _, _, _, _, _, _, _, _, _, _, _, z⟩ := h
  exact z.elim
section
variable {X : Cx} {CX : CXT} {k : Nat} {ps : List Str} {sp : Sp} {E : XK} {x : Str} {p pos : Pos} {e : Expr} {es : List Expr} {t : TA}
theorem pe_has (h : Has X.prog X.w X.K X.mg X.base CX k x ps sp) (hr : Room k X.A) (hg : Gl X x) (hx : Passes CX X E) (ha : PA X (e :: es) t) (hdb : (x == ("__debug__" : Str)) = false := by decide)
    (he : starEach (e :: es) X.env = (false, eval e X.env) :: starEach es X.env := by rfl) (hpl : (backTo pos (starEach es X.env)).any (·.1) = false := by rfl) : PE X (.Call (.Name x p) (e :: es) [] pos) (tCall sp [] E t) := by
  obtain ⟨f, fd, F, b, kp, m⟩ := h
  exact pe_call F hr hg m kp b .nil hx ha hdb he hpl
end
end L2
namespace L2
open PySem PySem.Spec PyProof.Rows Fx
noncomputable def excX (e C : Addr) (d : Option Addr) : HO := .ext fun h => ∃ oe vs, h.get? e = some oe ∧ oe.cls = .ref C ∧ (∀ dx, d = some dx → oe.dict = some dx) ∧ oe.data = .fields vs
section
variable {X : Cx} {pins : List (Addr × Obj)} {σ : St} {H : Hp} {s : Shared} {e : Addr} {o : HO}
noncomputable def drop (H : Hp) (e : Addr) : Hp := fun b => if b = e then none else H b
end
noncomputable def excInI (K : PySem.W.Frag) (C fI : Addr) (bmB : List Value) (newId : String) : Bool := match K.lookup C with
  | some ⟨.type "type", _, .cls cd, sl⟩ => (match cd.mro, sl.toList with
    | .ref C1 :: bm, [_, _, _, _, some (.builtin n), _] => C1 == C && n == newId && !cd.hasDel && cd.hasDict && PySem.W.tailIn K bmB bm && PySem.W.nsOkIn K cd.ns && PySem.W.nsIn K cd.ns "__init__" == some (some (.ref fI))
    | _, _ => false)
  | _ => false
theorem ns_some_of {K : PySem.W.Frag} {h : Heap} {N : Addr} {m : Str → Option Value} {n : Str} {v : Value} (X : K.In h) (G : h.Ns N m) (e : PySem.W.nsIn K N n = some (some v)) : m n = some v := by
  obtain ⟨o, es, ep, ho, hd, _, hf⟩ := G
  unfold PySem.W.nsIn at e
  split at e
  next c d es1 n1 sl q =>
    have z := X _ _ q
    rw [ho] at z
    cases z
    cases hd
    split at e
    next en he =>
      cases e
      rw [← hf]
      unfold nsFind findBy
      rw [← Array.find?_toList, he]
      rfl
    next => split at e <;> cases e
  next => cases e
theorem exc_objI {K : PySem.W.Frag} {C fI : Addr} {bmB : List Value} {newId : String} (q : excInI K C fI bmB newId = true) :
    ∃ bm N nm qn bs sn sub ab col dd k0 k1 k2 k3 k5, ∀ h : Heap, K.In h → h.get? C = some (excClassObj nm qn C N bs bm true sn sub ab col dd k0 k1 k2 k3 k5 newId) ∧ OwnTail h bmB bm ∧ ∃ mN, h.Ns N mN ∧ mN "__init__" = some (.ref fI) := by
  unfold excInI at q
  split at q
  next dd cd sl ho =>
    split at q
    next C1 bm k0 k1 k2 k3 n k5 hm hs =>
      simp only [Bool.and_eq_true, beq_iff_eq, Bool.not_eq_true'] at q
      obtain ⟨⟨⟨⟨⟨⟨rfl, rfl⟩, hdel⟩, hdc⟩, tl⟩, hok⟩, hni⟩ := q
      rcases cd with ⟨nm, bs, mro, ns, qn, hdc1, sn, sub, ab, col, del⟩
      dsimp only at hm hdel hok hni hdc
      subst hm hdel hdc
      have es : sl = #[k0, k1, k2, k3, some (.builtin n), k5] := by
        rcases sl with ⟨l⟩
        simp only at hs
        rw [hs]
      subst es
      refine ⟨bm, ns, nm, qn, bs, sn, sub, ab, col, dd, k0, k1, k2, k3, k5, fun h X => ?_⟩
      have G : h.Ns ns (h.nsMap ns) := .of_isNs (PySem.W.isNs_of_in X hok)
      exact ⟨X _ _ ho, PySem.W.tail_of_in X tl, _, G, ns_some_of X G hni⟩
    next => cases q
  next => cases q
structure XCls (K : PySem.W.Frag) (C fI : Addr) (field : Str) : Prop where
  cls : excInI K C fI [.type "ValueError", .type "Exception", .type "BaseException", .type "object"] "ValueError.__new__" = true
  fn : PySem.W.isFn K (.ref fI) = true
  kp : PySem.W.keepIn K (.ref C) = true
  sa : PySem.W.findIn K (.ref C) "__setattr__" = some (some (.builtin "object.__setattr__"))
  ga : PySem.W.findIn K (.ref C) "__getattribute__" = some (some (.builtin "BaseException.__getattribute__"))
  gn : PySem.W.findIn K (.ref C) "__getattr__" = some none
  fl : PySem.W.findIn K (.ref C) field = some none
theorem tlk_of {K : PySem.W.Frag} {h : Heap} {C : Addr} {n : Str} {y : Option Value} (X : K.In h) (e : PySem.W.findIn K (.ref C) n = some y) : Tlk h C n y := fun M A E g d t os Q hq => (PySem.W.looks_findIn (M := M) X e).here (s := ⟨h, g, d, t, os⟩) hq
section
variable {X : Cx} {o value : Expr} {field : Str} {pos pos' : Pos} {ta tv : TE} {C fI : Addr}
end
section
variable {P : Program} {w : World} {K : PySem.W.Frag} {mg : Str → Option Value} {base : Heap} {N : List Str} {qual : Str} {scope : Scope} {f : Addr} {cd : Value} {A : Around} {outer : List Env} {s : Shared} {H : Hp} {E : XK}
end
section
variable {X : Cx} {pins : List (Addr × Obj)} {σ : St} {H : Hp} {s : Shared}
end
section
variable {X : Cx} {e : Expr} {field : Str} {pos : Pos} {ta : TE} {C fI : Addr}
end
end L2
namespace L2
open PySem PySem.Spec PyProof.Rows
section
variable {prog : Program} {w : World} {A : Around} {R : Result → Shared → Prop} {s : Shared}
theorem comp_loop {elt target iter : Expr} {ifs : List Expr} {scope : Scope} {pos : Pos} {it acc : Value} {env : Env} (I : Nat → Shared → Prop)
    (turn : ∀ n s, I n s → wpAny (model prog w) A (pyNext it) (fun r s₁ => match r with
      | none => R (.ok .next) s₁
      | some v => wpAny (model prog w) A (letOwnedTupleGo target it v) (fun _ s₀ => wpAny (model prog w) A (assign target env v) (fun _ s₂ =>
          wpAny (model prog w) A (forIn ifs true fun c r => if r = true then do let ok ← isTrue c env (eval c env); pure (ForInStep.yield ok) else pure (ForInStep.yield r)) (fun ok s₃ =>
            if ok = true then wpAny (model prog w) A (eval elt env) (fun x s₄ =>
              wpAny (model prog w) A (call (.builtin "list.append") [acc, x]) (fun _ s₅ => ∃ m, m < n ∧ I m s₅) (notedBy (model prog w) A env fun e s' => R (.error e) s') s₄) (notedBy (model prog w) A env fun e s' => R (.error e) s') s₃
            else ∃ m, m < n ∧ I m s₃) (notedBy (model prog w) A env fun e s' => R (.error e) s') s₂) (notedBy (model prog w) A env fun e s' => R (.error e) s') s₀) (notedBy (model prog w) A env fun e s' => R (.error e) s') s₁) (notedBy (model prog w) A env fun e s' => R (.error e) s') s)
    (n : Nat) (h : I n s) : codeAny (model prog w) A (.compLoop (.ListComp elt [⟨target, iter, ifs, 0⟩] scope pos) 0 it acc env) R s := by
  refine codeAny_loop rfl I (fun n s hI => ?_) n h
  show wpAny _ A ((compTurn (.ListComp elt [⟨target, iter, ifs, 0⟩] scope pos) 0 it acc env).onRaise (fun x => do noteFrame x env; theTreesLotGoes x)) _ _ s
  refine wpAny_noted ?_
  rw [compTurn_list]
  refine wpAny_bind (wpAny_standAt (wpAny_bind (wpAny_mono (turn n s hI) (fun r s₁ h₁ => ?_) fun _ _ h' => h')))
  cases r with
  | none => exact wpAny_pure h₁
  | some v =>
    refine wpAny_bind (wpAny_mono h₁ (fun _ s₀ h₀ => ?_) fun _ _ h' => h')
    refine wpAny_bind (wpAny_mono h₀ (fun _ s₂ h₂ => wpAny_bind (wpAny_mono h₂ (fun ok s₃ h₃ => ?_) fun _ _ h' => h')) fun _ _ h' => h')
    cases ok with
    | false => exact wpAny_pure ⟨rfl, h₃⟩
    | true =>
      exact wpAny_bind (wpAny_bind (wpAny_mono h₃ (fun x s₄ h₄ => wpAny_bind (wpAny_mono h₄ (fun _ s₅ h₅ => wpAny_pure (wpAny_pure ⟨rfl, h₅⟩)) fun _ _ h' => h')) fun _ _ h' => h'))
end
noncomputable abbrev Cx.comp (X : Cx) (scope : Scope) (N' : List Str) (cl : List (Str × Addr)) (fp : List Addr) (s3 : Shared) (H3 : Hp) (C : Addr) : Cx :=
  { X with N := N', s₀ := s3, H₀ := H3, env := compEnvC scope cl C X.env, outer := X.stack, ex := fp, fn := fun _ => false, pn := [], xe := fun _ _ => False }
inductive Caps (X : Cx) (cl : List (Str × Addr)) : List Str → List Nat → Prop
  | nil : Caps X cl [] []
  | cons {x : Str} {i : Nat} {N : List Str} {ci : List Nat} : X.N[i]? = some x → (X.env.kindOf x = some .cell ∨ X.env.kindOf x = some .free) → cl.lookup x = X.env.cells.lookup x → Caps X cl N ci → Caps X cl (x :: N) (i :: ci)
theorem Caps.length {X : Cx} {cl : List (Str × Addr)} {N : List Str} {ci : List Nat} (h : Caps X cl N ci) : N.length = ci.length := by
  induction h with
  | nil => rfl
  | cons _ _ _ _ ih => rw [List.length_cons, List.length_cons, ih]
theorem Caps.get {X : Cx} {cl : List (Str × Addr)} {N : List Str} {ci : List Nat} (h : Caps X cl N ci) {k : Nat} {x : Str} (e : N[k]? = some x) : ∃ i, ci[k]? = some i ∧ X.N[i]? = some x ∧ (X.env.kindOf x = some .cell ∨ X.env.kindOf x = some .free) ∧ cl.lookup x = X.env.cells.lookup x := by
  induction h generalizing k with
  | nil => simp at e
  | cons h1 h2 h3 _ ih =>
    cases k with
    | zero => simp at e; subst e; exact ⟨_, rfl, h1, h2, h3⟩
    | succ k => simpa using ih (by simpa using e)
noncomputable def capS (tn : Nat) (ci : List Nat) (σ : St) : St := List.replicate tn none ++ ci.map fun i => (σ[i]?).getD none
theorem capS_some {tn : Nat} {ci : List Nat} {σ : St} {j : Nat} {v : V} (h : (capS tn ci σ)[j]? = some (some v)) : ∃ k i, j = tn + k ∧ ci[k]? = some i ∧ σ[i]? = some (some v) := by
  unfold capS at h
  by_cases hj : j < tn
  · rw [List.getElem?_append_left (by simpa using hj), List.getElem?_replicate, if_pos hj] at h; cases h
  · rw [List.getElem?_append_right (by simpa using hj), List.length_replicate, List.getElem?_map] at h
    cases q : ci[j - tn]? with
    | none => rw [q] at h; cases h
    | some i =>
      rw [q] at h
      refine ⟨j - tn, i, by omega, q, ?_⟩
      have h' : (σ[i]?).getD none = some v := Option.some.inj h
      cases z : σ[i]? with
      | none => rw [z] at h'; cases h'
      | some y => rw [z] at h'; exact congrArg some h'
theorem capS_length {tn : Nat} {ci : List Nat} {σ : St} : (capS tn ci σ).length = tn + ci.length := by unfold capS; simp
noncomputable def tComp (wi : TI) (tn : Nat) (ci : List Nat) (g : TG) (tc : TT) (te : TE) : TE := fun σ H Q => wi σ H fun J H1 => ∀ l, H1 l = none → ∃ W : Nat → Nat → Hp → Prop, (∃ m, W 0 m (upd H1 l (.lst []))) ∧ ∀ i m H2, W i m H2 →
  (J.stop i H2 ∧ Q (.ref l) H2) ∨ (J.go i H2 ∧ ∀ x H3, J.yld i H2 x H3 → g x (capS tn ci σ) H3 fun σ2 H4 => (σ2.length = tn + ci.length ∧ ∀ j, tn ≤ j → σ2[j]? = (capS tn ci σ)[j]?) ∧ tc σ2 H4 fun b H5 =>
    if b = true then te σ2 H5 fun v H6 => ∃ acc, H6 l = some (.lst acc) ∧ acc.length < sizeLine ∧ ∃ m', m' < m ∧ W (i + 1) m' (upd H6 l (.lst (acc ++ [v]))) else ∃ m', m' < m ∧ W (i + 1) m' H5)
noncomputable def PF (X : Cx) (ifs : List Expr) (t : TT) : Prop :=
  ∀ (pins : List (Addr × Obj)) (s : Shared) (σ : St) (H : Hp) (Q : Bool → Hp → Prop), Inv X pins σ H s → t σ H Q →
    wpAny (model X.prog X.w) X.A (forIn ifs true fun c r => if r = true then do let ok ← isTrue c X.env (eval c X.env); pure (ForInStep.yield ok) else pure (ForInStep.yield r)) (TP X pins σ Q) X.xe s
theorem pf_nil {X : Cx} : PF X [] (fun _ H Q => Q true H) := fun _ _ _ H _ I h => wpAny_tests_nil ⟨H, I, h⟩
theorem pf_one {X : Cx} {c : Expr} {t : TT} (h : PT X c t) : PF X [c] t := fun pins s σ H Q I hq => wpAny_tests_one (h pins s σ H Q I hq)
section
variable {X : Cx} {tg iter elt : Expr} {ifs : List Expr} {scope : Scope} {pos : Pos} {wi : TI} {g : TG} {tc : TT} {te : TE} {cl : List (Str × Addr)} {tn : Nat} {Nt Nc : List Str} {ci : List Nat}
theorem comp_run {pins : List (Addr × Obj)} {s : Shared} {σ : St} {H : Hp} {Q : VK} {RR : Value → Addr → Result → Shared → Prop} (I : Inv X pins σ H s) (hc : X.calm = true) (hi : PI X tg iter wi)
    (hg : ∀ fp s3 H3 C, PG (X.comp scope (Nt ++ Nc) cl fp s3 H3 C) tg g) (hf : ∀ fp s3 H3 C, PF (X.comp scope (Nt ++ Nc) cl fp s3 H3 C) ifs tc) (he : ∀ fp s3 H3 C, PE (X.comp scope (Nt ++ Nc) cl fp s3 H3 C) elt te)
    (hkind : scope.kind = .function) (hcell : ∀ y ∈ scope.names, y.2 ≠ .cell) (hcap : Caps X cl Nc ci) (hNt : Nt.length = tn)
    (hsub : ∀ x c, cl.lookup x = some c → X.env.cells.lookup x = some c) (hhas : ∀ x, ((relabel scope X.env).names.lookup x = some .cell ∨ (relabel scope X.env).names.lookup x = some .free) → ∃ c, cl.lookup x = some c)
    (hvis : ∀ x ∈ Nc, (relabel scope X.env).names.lookup x = some .cell ∨ (relabel scope X.env).names.lookup x = some .free)
    (h : tComp wi tn ci g tc te σ H Q)
    (fin : ∀ l C H' s' m, s'.heap.Ns C m → Inv X pins σ H' s' → H' C = none → C ≠ X.env.locals → X.s₀.heap.objs.size ≤ C → (∀ x c, X.env.cells.lookup x = some c → c ≠ C) → (∀ p ∈ X.pn ++ pins, p.1 ≠ C) → Q (.ref l) H' → RR (.ref l) C (.ok .next) s') :
    wpAny (model X.prog X.w) X.A (eval iter X.env) (fun x s₁ => wpAny (model X.prog X.w) X.A (pyIter x) (fun it s₂ => wpAny (model X.prog X.w) X.A (newList []) (fun acc s₃ =>
      wpAny (model X.prog X.w) X.A (newFunctionEnv scope X.env.globals cl [] X.env.qual none .none (some X.env)) (fun cenv s₄ =>
        codeAny (model X.prog X.w) X.A (.compStart (.ListComp elt [⟨tg, iter, ifs, 0⟩] scope pos) 0 it acc { cenv with scope := relabel scope X.env }) (RR acc cenv.locals) s₄) X.xe s₃) X.xe s₂) X.xe s₁) X.xe s := by
  refine thn (hi pins s σ H _ I h) fun v s1 h1 => thn h1 fun itv s2 h2 => ?_
  obtain ⟨it, fp, tk, J, H2, rfl, I2, T, st2, f2, hW⟩ := h2
  refine wpAny_newObj_type (wpAny_newFunctionEnv hcell (by intro y hy; simp at hy) (fun h₁ hns₁ hsb₁ => ?_) hkind)
  dsimp only at hns₁ hsb₁ ⊢
  generalize hG : s2.heap.push { cls := .type "list", dict := none, data := .seq ([] : List Value).toArray } = G at hns₁ hsb₁ ⊢
  have hGs : G.objs.size = s2.heap.objs.size + 1 := by rw [← hG, Heap.size_push]
  have hl : H2 s2.heap.objs.size = none := I2.hok.fresh (Nat.le_refl _)
  obtain ⟨W, ⟨m0, w0⟩, turn⟩ := hW _ hl
  have I3 : Inv X pins σ (upd H2 s2.heap.objs.size (.lst [])) { s2 with heap := G } := by
    rw [← hG]
    exact I2.laid (t' := s2.toks) (fun b u e => Heap.get?_push_of_some _ e) (Nat.le_refl _) ⟨Nat.zero_le _, [], 0, .nil, Heap.get?_push_size _ rfl⟩
  generalize hH3 : upd H2 s2.heap.objs.size (.lst []) = H3 at w0 I3
  have keep : ∀ b o, G.get? b = some o → h₁.get? b = some o := fun b o e => hsb₁.extBut b o (Nat.ne_of_lt (Heap.lt_size e)) (Heap.get?_push_of_some _ e)
  have lt2 : ∀ b ∈ fp, b < s2.heap.objs.size := fun b hb => by
    obtain ⟨o, e, _⟩ := T.obj 0 _ st2 b hb
    exact Heap.lt_size e
  have fpC : ∀ b ∈ fp, b ≠ G.objs.size := fun b hb => Nat.ne_of_lt (Nat.lt_of_lt_of_le (lt2 b hb) (by rw [hGs]; exact Nat.le_succ _))
  have fpH : ∀ b ∈ fp, H3 b = none := fun b hb => by
    rw [← hH3, upd_ne (Nat.ne_of_lt (lt2 b hb))]; exact (f2 b hb).1
  let X' := X.comp scope (Nt ++ Nc) cl fp { s2 with heap := G } H3 G.objs.size
  have ok' : X'.Ok := by
    refine ⟨I3.ok.mod, (by show (relabel scope X.env).kind = _; exact hkind), I3.ok.glob, I3.ok.blt, Nat.le_refl _, fun x y c e1 e2 => I3.ok.inj x y c (hsub x c e1) (hsub y c e2), fun x hx => hhas x hx, (fun x c z => nomatch z), I3.ok.hd, I3.ok.frames, .inl rfl, fun b hb => ⟨fpC b hb, fun x c e => (f2 b hb).2.2.2.2.1 x c (hsub x c e)⟩, fun b o e => I3.bs b o e, Nat.le_trans I3.ok.bsz I3.sz, fun b o e hb => ?_, fun b hb z => ?_, I3.stack, I3.stkFree⟩
    · rcases (f2 b hb).2.2.2.1 with z | z
      · exact I3.ok.noex b o e z
      · exact absurd (Nat.lt_of_lt_of_le (Heap.lt_size e) (Nat.le_trans I3.ok.bsz z)) (Nat.lt_irrefl _)
    · rcases List.mem_cons.mp (I3.stkSub b z) with e | e
      · exact (f2 b hb).2.1 e
      · exact (f2 b hb).2.2.1 e
  have J0 : Inv X' [] (capS tn ci σ) H3 { s2 with heap := h₁, toks := s2.toks + 0 } := by
    refine ⟨ok', rfl, I3.bare, Un.kept keep, ⟨_, hns₁, fun i x v e1 e2 e3 => ?_⟩, fun x c e => ?_, I3.hok.fresh (Nat.le_refl _), fun x c e => I3.freeC x c (hsub x c e), fun p hp => absurd (show p ∈ ([] : List (Addr × Obj)) from hp) (by simp), I3.hok.kept keep, ?_⟩
    · obtain ⟨k, j, rfl, q1, q2⟩ := capS_some e2
      have e1' : Nc[k]? = some x := by
        rw [List.getElem?_append_right (by omega)] at e1
        rw [show tn + k - Nt.length = k by omega] at e1; exact e1
      obtain ⟨j', z1, z2, z3, z4⟩ := hcap.get e1'
      rw [q1] at z1; cases z1
      obtain ⟨m, hn, hlk⟩ := I3.loc
      obtain ⟨u, r, lk⟩ := hlk j x v z2 q2 (z3.elim (fun z => .inr (.inl z)) fun z => .inr (.inr z))
      refine ⟨u, r, .inr ⟨hvis x (List.mem_of_getElem? e1'), ?_⟩⟩
      rcases lk with ⟨k1, _⟩ | ⟨_, c, k2, k3⟩
      · rcases z3 with z | z <;> (rw [k1] at z; cases z)
      · refine ⟨c, z4.trans k2, ?_⟩
        obtain ⟨o, ho, hd⟩ := k3
        exact ⟨o, keep _ _ ho, hd⟩
    · obtain ⟨v, o, ho, hd⟩ := I3.cell x c (hsub x c e)
      exact ⟨v, o, keep _ _ ho, hd⟩
    · rw [capS_length]
      show _ = (Nt ++ Nc).length
      rw [List.length_append, hcap.length, hNt]
  have stat : ∀ {pins' : List (Addr × Obj)} {H' : Hp}, (∀ p ∈ pins', p.1 ∉ fp) → (∀ b ∈ fp, H' b = none) → ∀ b ∈ fp, FpOk X' pins' H' b := fun {pins' H'} hp hn b hb =>
    ⟨hn b hb, fpC b hb, fun z => ok'.exfs b hb z, .inl hb, fun x c e => (ok'.exf b hb).2 x c e, fun p hpm z => hp p ((List.mem_append.mp hpm).elim (fun w => absurd (show p ∈ ([] : List (Addr × Obj)) from w) (by simp)) fun w => w) (by rw [z]; exact hb)⟩
  have mk : ∀ (s5 : Shared), (∀ i H5, Inv X' [] (capS tn ci σ) H5 s5 → tk i s5.heap → (∀ b ∈ fp, H5 b = none) → ∀ n, W i n H5 →
      codeAny (model X.prog X.w) X.A (.compLoop (.ListComp elt [⟨tg, iter, ifs, 0⟩] scope pos) 0 (.ref it) (.ref s2.heap.objs.size) (compEnvC scope cl G.objs.size X.env)) (RR (.ref s2.heap.objs.size) G.objs.size) s5) := by
    intro s5 i5 H5 J5 st5 fr5 n5 w5
    refine comp_loop (fun n s' => ∃ i H', Inv X' [] (capS tn ci σ) H' s' ∧ tk i s'.heap ∧ (∀ b ∈ fp, H' b = none) ∧ W i n H') ?_ n5 ⟨i5, H5, J5, st5, fr5, w5⟩
    rintro n s6 ⟨i, H6, J6, st6, fr6, w6⟩
    rcases turn i n H6 w6 with ⟨stop, q⟩ | ⟨go, step⟩
    · refine wpAny_mono (T.done X' rfl rfl rfl hc i [] s6 _ H6 (fun _ _ => False) J6 (stat (by simp) fr6) st6 stop) (fun r s7 ⟨hr, J7⟩ => ?_) fun _ _ z => z.elim
      subst hr
      obtain ⟨m, hn, _⟩ := J7.loc
      have IX : Inv X pins σ H6 s7 := I3.call' (ch := fp) J7.os J7.base J7.hok J7.bare fun b hb => ⟨(f2 b hb).2.2.2.1, (f2 b hb).2.1, (f2 b hb).2.2.2.2.1, (f2 b hb).2.2.2.2.2⟩
      refine fin _ _ H6 s7 m hn IX J7.free (Nat.ne_of_gt I3.lt) (Nat.le_trans I3.sz (Nat.le_refl _)) (fun x c e z => ?_) (fun p hp z => ?_) q
      · obtain ⟨v, o, ho, _⟩ := I3.cell x c e
        exact absurd (Heap.lt_size ho) (by rw [z]; exact Nat.lt_irrefl _)
      · exact absurd (Heap.lt_size (I3.pin p hp).1) (by rw [z]; exact Nat.lt_irrefl _)
    · refine wpAny_mono (T.item X' rfl rfl rfl hc i [] s6 _ H6 (fun _ _ => False) J6 (stat (by simp) fr6) st6 go) (fun r s7 ⟨u, hr, h7⟩ => ?_) fun _ _ z => z.elim
      subst hr
      refine wpAny_mono h7 (fun _ s8 ⟨x, H8, J8, r8, y8, st8, fr8⟩ => ?_) fun _ _ z => z.elim
      have J8' := J8.pinned (stat (by simp) fr8) (T.obj _ _ st8)
      have back : ∀ {σ9 : St} {H9 : Hp} {s9 : Shared}, Inv X' ([] ++ pinsAt fp s8.heap) σ9 H9 s9 → σ9.length = tn + ci.length → (∀ j, tn ≤ j → σ9[j]? = (capS tn ci σ)[j]?) → ∀ m', m' < n → W (i + 1) m' H9 →
          ∃ m, m < n ∧ ∃ i H', Inv X' [] (capS tn ci σ) H' s9 ∧ tk i s9.heap ∧ (∀ b ∈ fp, H' b = none) ∧ W i m H' := fun {σ9 H9 s9} J9 hl9 hk9 m' hm w9 => by
        refine ⟨m', hm, i + 1, H9, J9.unpinned.weak (by rw [capS_length, hl9]) fun j v e => ?_, T.keep _ _ _ st8 fun b hb o e => (J9.pin (b, o) (List.mem_append_right _ (List.mem_append_right _ (mem_pinsAt hb e)))).1, fun b hb => ?_, w9⟩
        · obtain ⟨k, _, rfl, _⟩ := capS_some e
          rw [hk9 _ (by omega)]; exact e
        · obtain ⟨o, e, d⟩ := T.obj _ _ st8 b hb
          exact (J9.pin (b, o) (List.mem_append_right _ (List.mem_append_right _ (mem_pinsAt hb e)))).2.1
      refine wpAny_mono (hg fp _ _ _ _ s8 _ H8 x u _ J8' r8 (step x H8 y8)) (fun _ s9 ⟨σ9, H9, J9, ⟨l9, k9⟩, q9⟩ => ?_) fun _ _ z => z.elim
      refine wpAny_mono (hf fp _ _ _ _ s9 σ9 H9 _ J9 q9) (fun b s10 ⟨H10, J10, q10⟩ => ?_) fun _ _ z => z.elim
      cases b with
      | false =>
        rw [if_neg Bool.false_ne_true] at q10 ⊢
        obtain ⟨m', hm, w10⟩ := q10
        exact back J10 l9 k9 m' hm w10
      | true =>
        rw [if_pos rfl] at q10 ⊢
        refine wpAny_mono (he fp _ _ _ _ s10 σ9 H10 _ J10 q10) (fun y s11 ⟨v, H11, J11, r11, acc, e11, z11, m', hm, w11⟩ => ?_) fun _ _ z => z.elim
        refine wpAny_mono (mt_append (X := X') _ s11 σ9 H11 (.ref _) [v] (.ref _) [y] (fun _ H12 => W (i + 1) m' H12) J11 rfl (.cons r11 .nil) ⟨_, acc, v, rfl, rfl, e11, z11, w11⟩) (fun _ s12 ⟨_, H12, J12, _, w12⟩ => ?_) fun _ _ z => z.elim
        exact back J12 l9 k9 m' hm w12
  have st4 : tk 0 h₁ := T.keep _ _ _ st2 fun b _ o e => keep b o (by rw [← hG]; exact Heap.get?_push_of_some _ e)
  exact codeAny_compStart_list (mk _ 0 H3 J0 st4 fpH m0 w0) (T.self _ 0 _ _ _ st4 (mk _ 0 H3 J0 st4 fpH m0 w0))
theorem pe_comp (hc : X.calm = true) (hi : PI X tg iter wi) (hg : ∀ fp s3 H3 C, PG (X.comp scope (Nt ++ Nc) cl fp s3 H3 C) tg g) (hf : ∀ fp s3 H3 C, PF (X.comp scope (Nt ++ Nc) cl fp s3 H3 C) ifs tc) (he : ∀ fp s3 H3 C, PE (X.comp scope (Nt ++ Nc) cl fp s3 H3 C) elt te)
    (hclos : closureFor scope X.env = pure cl) (hkind : scope.kind = .function) (hcell : ∀ y ∈ scope.names, y.2 ≠ .cell) (hnames : ∀ x ∈ scope.names, x.2 = .local → scope.names.lookup x.1 = some .local) (hcap : Caps X cl Nc ci) (hNt : Nt.length = tn)
    (hsub : ∀ x c, cl.lookup x = some c → X.env.cells.lookup x = some c) (hhas : ∀ x, ((relabel scope X.env).names.lookup x = some .cell ∨ (relabel scope X.env).names.lookup x = some .free) → ∃ c, cl.lookup x = some c)
    (hvis : ∀ x ∈ Nc, (relabel scope X.env).names.lookup x = some .cell ∨ (relabel scope X.env).names.lookup x = some .free)
    (hs : ∀ x, foldedSetIterable iter X.env x = pure x := by intro _; rfl) : PE X (.ListComp elt [⟨tg, iter, ifs, 0⟩] scope pos) (tComp wi tn ci g tc te) := by
  intro pins s σ H Q I h
  rw [eval_ListComp]
  refine wpAny_comprehension_free (use := none) rfl hs hclos hkind hnames (comp_run (Nt := Nt) (Nc := Nc) I hc hi hg hf he hkind hcell hcap hNt hsub hhas hvis h ?_)
  intro l C H' s' m hn I' h1 h2 h3 h4 h5 q
  exact ⟨m, hn, fun h'' hs'' => ⟨.ref l, H', I'.turned (t' := s'.toks) (fun b o hb e => hs''.extBut b o hb e) h1 h2 (.inr h3) h4 h5, rfl, q⟩⟩
noncomputable def PUse (X : Cx) (e : Expr) (t : TE) : Prop :=
  ∀ (i : Nat) (x : Str) (pos' : Pos) (_ : X.N.Nodup) (_ : X.N[i]? = some x) (_ : Loc X.env.scope x) (_ : X.fn x = true ∨ X.env.scope.names.lookup x = some .local) (pins : List (Addr × Obj)) (s : Shared) (σ : St) (H : Hp) (Q : VK), Inv X pins σ H s → t σ H Q →
    wpAny (model X.prog X.w) X.A (evalThenUse e X.env (assign (.Name x pos') X.env)) (fun _ s' => ∃ v H', Inv X pins (σ.set i (some v)) H' s' ∧ Q v H') X.xe s
theorem pu_comp (hc : X.calm = true) (hi : PI X tg iter wi) (hg : ∀ fp s3 H3 C, PG (X.comp scope (Nt ++ Nc) cl fp s3 H3 C) tg g) (hf : ∀ fp s3 H3 C, PF (X.comp scope (Nt ++ Nc) cl fp s3 H3 C) ifs tc) (he : ∀ fp s3 H3 C, PE (X.comp scope (Nt ++ Nc) cl fp s3 H3 C) elt te)
    (hclos : closureFor scope X.env = pure cl) (hkind : scope.kind = .function) (hcell : ∀ y ∈ scope.names, y.2 ≠ .cell) (hnames : ∀ x ∈ scope.names, x.2 = .local → scope.names.lookup x.1 = some .local) (hcap : Caps X cl Nc ci) (hNt : Nt.length = tn)
    (hsub : ∀ x c, cl.lookup x = some c → X.env.cells.lookup x = some c) (hhas : ∀ x, ((relabel scope X.env).names.lookup x = some .cell ∨ (relabel scope X.env).names.lookup x = some .free) → ∃ c, cl.lookup x = some c)
    (hvis : ∀ x ∈ Nc, (relabel scope X.env).names.lookup x = some .cell ∨ (relabel scope X.env).names.lookup x = some .free)
    (hs : ∀ x, foldedSetIterable iter X.env x = pure x := by intro _; rfl) : PUse X (.ListComp elt [⟨tg, iter, ifs, 0⟩] scope pos) (tComp wi tn ci g tc te) := by
  intro i x pos' hN hxi hx hfn pins s σ H Q I h
  unfold evalThenUse
  refine wpAny_bind (wpAny_comprehension_free (use := some (assign (.Name x pos') X.env)) rfl hs hclos hkind hnames (comp_run (Nt := Nt) (Nc := Nc) I hc hi hg hf he hkind hcell hcap hNt hsub hhas hvis h ?_))
  intro l C H' s' m hn I' h1 h2 h3 h4 h5 q
  show wpAny _ _ (assign (.Name x pos') X.env (.ref l)) _ _ _
  refine wpAny_bind (wpAny_standAt (wpAny_bindName (store_ok2 I' hN hxi hx (v := .ref l) rfl (fun s2 I2 ha => ?_) hfn)))
  obtain ⟨a, sb, ha⟩ := ha
  have ne : C ≠ a := by
    rcases ha with rfl | ha
    · exact h2
    · exact fun z => h4 _ _ ha z.symm
  obtain ⟨o, es, ep, e, r⟩ := hn
  refine ⟨m, ⟨o, es, ep, (sb.2 C ne).trans e, r⟩, fun h'' hs'' => wpAny_pure ⟨.ref l, H', I2.turned (t' := s2.toks) (fun b o hb e => hs''.extBut b o hb e) h1 h2 (.inr h3) h4 h5, q⟩⟩
theorem ps_use {i : Nat} {x : Str} {e : Expr} {te : TE} {pos' spos : Pos} (hN : X.N.Nodup) (hi : X.N[i]? = some x) (hx : Loc X.env.scope x) (he : PUse X e te) (hs : swapsWith e (some (.Name x pos')) spos.line X.env = pure true := by rfl) (hf : X.fn x = true ∨ X.env.scope.names.lookup x = some .local := by first | exact .inl rfl | exact .inr rfl | assumption) :
    PS X (.Assign [.Name x pos'] e spos) (tAsg te (gName i)) := by
  intro pins s σ H D I h
  rw [exec_Assign_Name_used _ _ _ _ hs]
  refine wpAny_bind (wpAny_standAt (wpAny_bind (thn (he i x pos' hN hi hx hf pins s σ H _ I h) fun _ s' ⟨v, H', I', q⟩ => wpAny_pure ⟨_, H', I', q⟩)))
end
end L2
namespace Fx
open PySem
section
variable {prog : Program} {w : World} {A : Around} {E : Value → Shared → Prop} {h : Heap} {g : Array GenState} {d : Drawn} {t : Nat} {os : OsState}
variable {nm q : Str} {C N : Addr} {bs bm bmB : List Value} {hdct : Bool} {sn : List Str} {sub : List Value} {ab : Bool} {col : Option Bool} {dd : Option Addr} {k0 k1 k2 k3 k5 : Option Value} {newId : String}
theorem class_get_exc {x : Addr} {o : Obj} {R : Result → Shared → Prop} (hC : h.get? C = some (excClassObj nm q C N bs bm hdct sn sub ab col dd k0 k1 k2 k3 k5 newId)) (hob : bm.contains (.type "object") = true)
    (hx : h.get? x = some o) (hc : o.cls = .ref C) (hq : R (.ok (.ret (.ref C))) ⟨h, g, d, t, os⟩) :
    codeAny (model prog w) A (.call (.builtin "getset_descriptor.__get__") ⟨[.builtin "object.__class__", .ref x, .ref C], []⟩) R ⟨h, g, d, t, os⟩ := by
  have hT5 : (⟨h, g, d, t, os⟩ : Shared).TypeIs (.builtin "object.__class__") "getset_descriptor" := PySem.F.typeOf_object_class
  have ow : ".".intercalate ("object.__class__".cutAt '.').dropLast = "object" := by decide +kernel
  have hcB : (Value.ref C :: bm).contains (.type (".".intercalate ("object.__class__".cutAt '.').dropLast)) = true := by rw [ow, List.contains_cons, hob, Bool.or_true]
  refine codeAny_call_builtin PySem.F.slot_gs_get.plain PySem.F.entry_gs_get (PySem.F.slot_gs_get.check _ _ _ _ _ _ _ _ hT5 (PySem.F.args_gs_get _ _ _) ?_)
  repeat (any_goals (first | assumption | (with_reducible refine wpAny_loadPart_at hx ?_; rw [hc]) | (with_reducible refine wpAny_isSubtype_exc hC ?_; rw [hcB]) | wp_step))
  refine ⟨Code.quiet_builtin _ (by decide +kernel), codeAny_builtin PySem.F.entry_object_class ?_⟩
  repeat (any_goals (first | assumption | (with_reducible refine wpAny_loadPart_at hx ?_; rw [hc]) | wp_step))
theorem class_entry_exc {x : Addr} {o : Obj} {tk : Tok} {Q : Fin → Shared → Prop} (hC : h.get? C = some (excClassObj nm q C N bs bm hdct sn sub ab col dd k0 k1 k2 k3 k5 newId)) (hob : bm.contains (.type "object") = true)
    (l3 : Tlk h C "__class__" (some (.builtin "object.__class__"))) (hx : h.get? x = some o) (hc : o.cls = .ref C) (hq : Q (.done (.ret (.ref C))) ⟨h, g, d, t, os⟩) :
    wpAny (model prog w) A (Builtin.«object.__getattribute__» ⟨[.ref x, .str "__class__" tk], []⟩) Q E ⟨h, g, d, t, os⟩ := by
  have hT5 : (⟨h, g, d, t, os⟩ : Shared).TypeIs (.builtin "object.__class__") "getset_descriptor" := PySem.F.typeOf_object_class
  have f5 := PySem.F.typeOf_object_class
  have f6 := PySem.F.slot_gs_get.lookup
  have f7 := PySem.F.slot_gs_set.lookup
  repeat (any_goals (first | assumption | (with_reducible refine wpAny_loadPart_at hx ?_; rw [hc]) | with_reducible refine l3 _ _ _ _ _ _ _ _ ?_ | wp_step))
  refine class_get_exc hC hob hx hc ?_
  repeat (any_goals (first | assumption | wp_step))
theorem check_ga_excH {M : Model} {x : Addr} {o : Obj} {nv : Value} {Q : Unit → Shared → Prop} (hC : h.get? C = some (excClassObj nm q C N bs bm hdct sn sub ab col dd k0 k1 k2 k3 k5 newId))
    (hob : bm.contains (.type "BaseException") = true) (hx : h.get? x = some o) (hc : o.cls = .ref C) (hq : Q () ⟨h, g, d, t, os⟩) : wpAny M A (checkBuiltinCall "BaseException.__getattribute__" ⟨[.ref x, nv], []⟩) Q E ⟨h, g, d, t, os⟩ := by
  have hk : builtinKind "BaseException.__getattribute__" = some .slot := by decide +kernel
  have hsp : splitId "BaseException.__getattribute__" = some ("BaseException", "__getattribute__") := by decide +kernel
  have hcB : (Value.ref C :: bm).contains (.type "BaseException") = true := by rw [List.contains_cons, hob, Bool.or_true]
  have ha := PySem.F.args_bexc_ga (.ref x) nv
  simp only [checkBuiltinCall, hk, hsp]
  refine wpAny_bind ?_
  unfold isInstance
  repeat (first | (with_reducible refine wpAny_loadPart_at hx ?_; rw [hc]) | (with_reducible refine wpAny_isSubtype_exc hC ?_; rw [hcB]) | wp_step)
  exact hq
theorem class_by_exc {x : Addr} {o : Obj} {tk : Tok} {Q : Value → Shared → Prop} (hC : h.get? C = some (excClassObj nm q C N bs bm hdct sn sub ab col dd k0 k1 k2 k3 k5 newId)) (hb : bm.contains (.type "BaseException") = true) (hob : bm.contains (.type "object") = true)
    (l1 : Tlk h C "__getattribute__" (some (.builtin "BaseException.__getattribute__"))) (l2 : Tlk h C "__getattr__" none) (l3 : Tlk h C "__class__" (some (.builtin "object.__class__"))) (hx : h.get? x = some o) (hc : o.cls = .ref C) (hq : Q (.ref C) ⟨h, g, d, t, os⟩) :
    wpAny (model prog w) A (getAttrBy (.ref x) (.str "__class__" tk) false) Q E ⟨h, g, d, t, os⟩ := by
  have FB := PySem.F.attr_ValueError
  have f3 := FB.ga.bind (.ref x)
  have z2 : (Value.builtin "BaseException.__getattribute__" == Value.builtin "object.__getattribute__") = false := by decide +kernel
  have z1 : (onTheHeap (Value.ref C) && Value.builtin "BaseException.__getattribute__" == Value.builtin "object.__getattribute__") = false := by rw [z2]; rfl
  repeat (any_goals (first | assumption | (with_reducible refine wpAny_loadPart_at hx ?_; rw [hc]) | with_reducible refine l1 _ _ _ _ _ _ _ _ ?_ | with_reducible refine l2 _ _ _ _ _ _ _ _ ?_ | wp_step))
  refine codeAny_call_builtin FB.ga.plain PySem.F.entry_bexc_ga (check_ga_excH hC hb hx hc (class_entry_exc hC hob l3 hx hc ?_))
  repeat (any_goals (first | assumption | wp_step))
theorem class_attr_exc {x : Addr} {o : Obj} {Q : Option Value → Shared → Prop} (hC : h.get? C = some (excClassObj nm q C N bs bm hdct sn sub ab col dd k0 k1 k2 k3 k5 newId)) (hb : bm.contains (.type "BaseException") = true) (hob : bm.contains (.type "object") = true)
    (l1 : Tlk h C "__getattribute__" (some (.builtin "BaseException.__getattribute__"))) (l2 : Tlk h C "__getattr__" none) (l3 : Tlk h C "__class__" (some (.builtin "object.__class__"))) (hx : h.get? x = some o) (hc : o.cls = .ref C) (hq : Q (some (.ref C)) ⟨h, g, d, t + 1, os⟩) :
    wpAny (model prog w) A (getAttr? (.ref x) "__class__") Q E ⟨h, g, d, t, os⟩ := by
  unfold getAttr? getAttrBy?
  repeat (any_goals (first | assumption | with_reducible apply class_by_exc hC hb hob l1 l2 l3 hx hc | wp_step))
end
end Fx
namespace L2
open PySem PySem.Spec PyProof.Rows
structure YCls (K : PySem.W.Frag) (C : Addr) : Prop where
  ob : ∀ h : Heap, K.In h → ∃ nm q N bs bm hdct sn sub ab col dd k0 k1 k2 k3 k5 newId, h.get? C = some (excClassObj nm q C N bs bm hdct sn sub ab col dd k0 k1 k2 k3 k5 newId) ∧ bm.contains (.type "BaseException") = true ∧ bm.contains (.type "object") = true
  ga : PySem.W.findIn K (.ref C) "__getattribute__" = some (some (.builtin "BaseException.__getattribute__"))
  gn : PySem.W.findIn K (.ref C) "__getattr__" = some none
  cl : PySem.W.findIn K (.ref C) "__class__" = some (some (.builtin "object.__class__"))
theorem XCls.y {K : PySem.W.Frag} {C fI : Addr} {field : Str} (c : XCls K C fI field) (cl : PySem.W.findIn K (.ref C) "__class__" = some (some (.builtin "object.__class__"))) : YCls K C := by
  refine ⟨fun h k => ?_, c.ga, c.gn, cl⟩
  obtain ⟨bm, N, nm, qn, bs, sn, sub, ab, col, dd, k0, k1, k2, k3, k5, all⟩ := exc_objI c.cls
  obtain ⟨hC, T, _⟩ := all _ k
  exact ⟨_, _, _, _, _, _, _, _, _, _, _, _, _, _, _, _, _, hC, T.hasType (by rfl), T.hasType (by rfl)⟩
structure ZCls (K : PySem.W.Frag) (C : Addr) : Prop where
  cls : PySem.W.excIn K C [.type "ValueError", .type "Exception", .type "BaseException", .type "object"] "ValueError.__new__" = true
  kp : PySem.W.keepIn K (.ref C) = true
  ga : PySem.W.findIn K (.ref C) "__getattribute__" = some (some (.builtin "BaseException.__getattribute__"))
  gn : PySem.W.findIn K (.ref C) "__getattr__" = some none
  cl : PySem.W.findIn K (.ref C) "__class__" = some (some (.builtin "object.__class__"))
theorem ZCls.y {K : PySem.W.Frag} {C : Addr} (c : ZCls K C) : YCls K C := by
  refine ⟨fun h k => ?_, c.ga, c.gn, c.cl⟩
  obtain ⟨bm, NS, nm, qn, bs, hdct, sn, sub, ab, col, dd, k0, k1, k2, k3, k5, mN, hC, hN, hni, TL⟩ := exc_obj k c.cls
  exact ⟨_, _, _, _, _, _, _, _, _, _, _, _, _, _, _, _, _, hC, TL.hasType (by rfl), TL.hasType (by rfl)⟩
theorem kitx_exc {K : PySem.W.Frag} {x C : Addr} (c : YCls K C) : PySem.W.KitX K (.ref x) (.ref C) (fun h => ∃ o, h.get? x = some o ∧ o.cls = .ref C) where
  ty := fun M h k p => by
    obtain ⟨o, h1, h2⟩ := p
    exact h2 ▸ (PySem.W.Looks.ld h1).andThen .now
  it := fun M h k p => by
    obtain ⟨nm, q, N, bs, bm, hdct, sn, sub, ab, col, dd, k0, k1, k2, k3, k5, ni, hC, _⟩ := c.ob h k
    intro A' Q' E' s' k' q'
    unfold isType loadHead
    exact wpAny_bind (wpAny_loadPart (k' _ _ hC) (wpAny_pure q'))
  ne := fun h tp dd its n sl k htp => by
    obtain ⟨nm, q, N, bs, bm, hdct, sn, sub, ab, col, dd', k0, k1, k2, k3, k5, ni, hC, _⟩ := c.ob h k
    refine Bool.eq_false_iff.mpr fun z => ?_
    have e : C = tp := Value.ref.inj (beq_iff_eq.mp z)
    subst e
    have z := congrArg Obj.cls (Option.some.inj (hC.symm.trans htp))
    have z2 : Value.type "type" = Value.type "tuple" := z
    exact absurd (Value.type.inj z2) (by decide)
  ca := fun {prog w A E Q s} k p hq => by
    obtain ⟨o, h1, h2⟩ := p
    obtain ⟨nm, q, N, bs, bm, hdct, sn, sub, ab, col, dd', k0, k1, k2, k3, k5, ni, hC, e1, e2⟩ := c.ob _ k
    obtain ⟨h, g, d, t, os⟩ := s
    exact Fx.class_attr_exc hC e1 e2 (tlk_of k c.ga) (tlk_of k c.gn) (tlk_of k c.cl) h1 h2 hq
section
variable {X : Cx}
theorem call_isX : CallR X (.builtin "isinstance") (fun xs H Q => ∃ a c d cv u b, xs = [.ref a, cv] ∧ H a = some (excX a c d) ∧ YCls X.K c ∧ (∀ z, RelV cv z → z = u) ∧ PySem.W.kitOne X.K (.ref c) u = some b ∧ Q (.bl b) H) := by
  intro pins s σ H xs us Q I r h
  obtain ⟨a, c, d, cv, u, b, rfl, ha, yc, un, e, q⟩ := h
  obtain ⟨u1, u2, rfl, r1, r2⟩ := vals2 r
  cases un u2 r2
  cases r1
  obtain ⟨⟨oe, vs, h1, h2, h3, h4⟩, _, _⟩ := I.hok a _ ha
  exact PySem.W.kia_one (kitx_exc yc) I.kIn ⟨oe, h1, h2⟩ e (fun z => nomatch z) fun tk => ⟨.bl b, H, I.tok tk, rfl, q⟩
end
end L2
namespace P2
open PySem L2
inductive D where
  | non | bl (b : Bool) | int (i : Int) | str (x : Str) | ty (n : String) | ref (a : Addr)
  | tup (ds : List D) | lst (ds : List D) | exc (c : Addr) (ns : List Str) (ds : List D)
inductive R (α : Type) where
  | ok (a : α) | ex (c : Addr) (ns : List Str) (ds : List D) | bad
noncomputable def R.bind {α β : Type} : R α → (α → R β) → R β
  | .ok a, f => f a
  | .ex c ns ds, _ => .ex c ns ds
  | .bad, _ => .bad
theorem R.bind_ok {α β : Type} (a : α) (f : α → R β) : (R.ok a).bind f = f a := rfl
theorem bind_ok {α β : Type} {r : R α} {g : α → R β} {y : β} (h : r.bind g = .ok y) : ∃ x, r = .ok x ∧ g x = .ok y := by
  cases r with
  | ok x => exact ⟨x, rfl, h⟩
  | ex c ns ds => cases h
  | bad => cases h
noncomputable def KL (K : PySem.W.Frag) (a : Addr) (vs : List V) : Prop := ∃ (its : List Value) (n : Nat), K.lookup a = some { cls := .type "list", data := .seq its.toArray n } ∧ its.length ≤ sizeLine ∧ Vals vs its
theorem KL.sq {K : PySem.W.Frag} {a : Addr} {vs : List V} {H : Hp} (h : KL K a vs) : SqL K H a vs := let ⟨its, n, h1, h2, h3⟩ := h; .inr ⟨_, its.toArray, n, h1, rfl, rfl, rfl, by simpa using h2, by simpa using h3⟩
noncomputable def KT (K : PySem.W.Frag) (a : Addr) (vs : List V) : Prop := ∃ (o : Obj) (its : Array Value) (n : Nat), K.lookup a = some o ∧ o.cls = .type "tuple" ∧ o.data = .seq its n ∧ its.size ≤ sizeLine ∧ Vals vs its.toList
noncomputable def namesOf (K : PySem.W.Frag) : List Str := match K.lookup mainGlobals with
  | some ⟨_, _, .dict es _, _⟩ => es.toList.filterMap fun e => match e.key with
    | .str x _ => some x
    | _ => none
  | _ => []
noncomputable def plainFn (K : PySem.W.Frag) (x : Str) : Bool := match PySem.W.nsIn K mainGlobals x with
  | some (some (.ref f)) => (match K.lookup f with
    | some ⟨_, _, .func fd, _⟩ => (match fd.defaults, fd.kwdefaults with
      | .none, .none => true
      | _, _ => false)
    | _ => false)
  | _ => false
noncomputable def tabsOf (K : PySem.W.Frag) : List (Str × Addr × Addr) := (namesOf K).filterMap fun x => if plainFn K x then (PySem.W.tabIn K x).map fun q => (x, q.1, q.2) else none
noncomputable def CodeO (c : Addr) (q : Str) : HO := .ext fun h => h.CodeRec (.ref c) q
noncomputable def TbOk (K : PySem.W.Frag) (H : Hp) : Prop := ∀ t ∈ tabsOf K, ∃ ps, H t.2.2 = some (.tbl ps) ∧ TriplesOk ps.toList ∧ ∀ pos cv, codeAmong pos ps.toList = some cv → ∃ c', cv = .ref c' ∧ H c' = some (CodeO c' (t.1 ++ ".<locals>.<lambda>"))
noncomputable def NT (o : HO) : Prop := ∀ ps, o ≠ .tbl ps
theorem nt_lst {l : List V} : NT (.lst l) := fun _ h => nomatch h
theorem nt_tup {l : List V} : NT (.tup l) := fun _ h => nomatch h
theorem nt_frz {o : Obj} {u : HO} : NT (.frz o u) := fun _ h => nomatch h
theorem nt_xd {l : List (Str × V)} : NT (.xd l) := fun _ h => nomatch h
theorem nt_ext {φ : Heap → Prop} : NT (.ext φ) := fun _ h => nomatch h
structure Same (K : PySem.W.Frag) (H H' : Hp) : Prop where
  at' : ∀ b o, NT o → H b = some o → H' b = some o
  fr : ∀ b, H' b = none → H b = none
  tt : TbOk K H → TbOk K H'
theorem Same.refl {K : PySem.W.Frag} (H : Hp) : Same K H H := ⟨fun _ _ _ h => h, fun _ h => h, fun h => h⟩
theorem Same.trans {K : PySem.W.Frag} {H H1 H2 : Hp} (a : Same K H H1) (b : Same K H1 H2) : Same K H H2 := ⟨fun c o n h => b.at' c o n (a.at' c o n h), fun c h => a.fr c (b.fr c h), fun h => b.tt (a.tt h)⟩
theorem Same.free {K : PySem.W.Frag} {H H' : Hp} (e : Same K H H') {l : Addr} (h : H' l = Option.none) : H l = Option.none := e.fr l h
theorem TbOk.off {K : PySem.W.Frag} {H H' : Hp} {p : Addr} (t : TbOk K H) (hp : ∀ ps, H p ≠ some (.tbl ps)) (hc : ∀ q, H p ≠ some (CodeO p q)) (e : ∀ b, b ≠ p → H' b = H b) : TbOk K H' := fun x hx => by
  obtain ⟨ps, h1, h2, h3⟩ := t x hx
  refine ⟨ps, by rw [e _ fun w => hp ps (by rw [← w]; exact h1)]; exact h1, h2, fun pos cv e0 => ?_⟩
  obtain ⟨c', e1, e2⟩ := h3 pos cv e0
  exact ⟨c', e1, by rw [e _ fun w => hc _ (by rw [← w]; exact e2)]; exact e2⟩
theorem lst_tb {H : Hp} {p : Addr} {l : List V} (h : H p = some (.lst l)) : (∀ ps, H p ≠ some (.tbl ps)) ∧ ∀ q, H p ≠ some (CodeO p q) :=
  ⟨fun ps w => (by rw [h] at w; exact nomatch w), fun q w => (by rw [h] at w; unfold CodeO at w; exact nomatch w)⟩
theorem TbOk.upd {K : PySem.W.Frag} {H : Hp} {p : Addr} {o : HO} (t : TbOk K H) (hp : ∀ ps, H p ≠ some (.tbl ps)) (hc : ∀ q, H p ≠ some (CodeO p q)) : TbOk K (upd H p o) := fun x hx => by
  obtain ⟨ps, h1, h2, h3⟩ := t x hx
  refine ⟨ps, by rw [upd_ne fun w => hp ps (by rw [← w]; exact h1)]; exact h1, h2, fun pos cv e => ?_⟩
  obtain ⟨c', e1, e2⟩ := h3 pos cv e
  exact ⟨c', e1, by rw [upd_ne fun w => hc _ (by rw [← w]; exact e2)]; exact e2⟩
mutual
inductive Rep (K : PySem.W.Frag) (al : Addr → Prop) (H : Hp) : V → D → Prop
  | non : Rep K al H .non .non
  | bl (b : Bool) : Rep K al H (.bl b) (.bl b)
  | int (i : Int) : Rep K al H (.int i) (.int i)
  | str (x : Str) : Rep K al H (.str x) (.str x)
  | ty (n : String) : Rep K al H (.ty n) (.ty n)
  | ref (a : Addr) : Rep K al H (.ref a) (.ref a)
  | tup {a : Addr} {vs : List V} {ds : List D} : (al a ∧ Rd H a (.tup vs)) ∨ KT K a vs → Reps K al H vs ds → Rep K al H (.ref a) (.tup ds)
  | lst {a : Addr} {vs : List V} {ds : List D} : (al a ∧ Rd H a (.lst vs)) ∨ KL K a vs → Reps K al H vs ds → Rep K al H (.ref a) (.lst ds)
  | exc {a c dx : Addr} {ns : List Str} {vs : List V} {ds : List D} : al a → H a = some (excX a c (some dx)) → al dx → H dx = some (.xd (ns.zip vs)) → Reps K al H vs ds → Rep K al H (.ref a) (.exc c ns ds)
  | exc0 {a c : Addr} : al a → H a = some (excX a c none) → Rep K al H (.ref a) (.exc c [] [])
inductive Reps (K : PySem.W.Frag) (al : Addr → Prop) (H : Hp) : List V → List D → Prop
  | nil : Reps K al H [] []
  | cons {v : V} {d : D} {vs : List V} {ds : List D} : Rep K al H v d → Reps K al H vs ds → Reps K al H (v :: vs) (d :: ds)
end
noncomputable def Xt (al : Addr → Prop) (H : Hp) (al' : Addr → Prop) (H' : Hp) : Prop := ∀ a o, NT o → al a → H a = some o → al' a ∧ H' a = some o
theorem Xt.refl {al : Addr → Prop} {H : Hp} : Xt al H al H := fun _ _ _ h e => ⟨h, e⟩
theorem Xt.trans {al al1 al2 : Addr → Prop} {H H1 H2 : Hp} (x : Xt al H al1 H1) (y : Xt al1 H1 al2 H2) : Xt al H al2 H2 := fun a o n h e => y a o n (x a o n h e).1 (x a o n h e).2
theorem Xt.of {K : PySem.W.Frag} {al : Addr → Prop} {H H' : Hp} (s : Same K H H') : Xt al H al H' := fun a o n h e => ⟨h, s.at' a o n e⟩
theorem Xt.sub {al al' : Addr → Prop} {H : Hp} (s : ∀ a, al a → al' a) : Xt al H al' H := fun a o _ h e => ⟨s a h, e⟩
theorem rd_mv {al al' : Addr → Prop} {H H' : Hp} {a : Addr} {u : HO} (h : Xt al H al' H') (n : NT u) (z : al a ∧ Rd H a u) : al' a ∧ Rd H' a u := by
  obtain ⟨z1, z2 | ⟨o, z2⟩⟩ := z
  · exact ⟨(h a _ n z1 z2).1, .inl (h a _ n z1 z2).2⟩
  · exact ⟨(h a _ nt_frz z1 z2).1, .inr ⟨o, (h a _ nt_frz z1 z2).2⟩⟩
mutual
theorem Rep.mv {K : PySem.W.Frag} {al al' : Addr → Prop} {H H' : Hp} (h : Xt al H al' H') : ∀ {v : V} {d : D}, Rep K al H v d → Rep K al' H' v d
  | _, _, .non => .non
  | _, _, .bl b => .bl b
  | _, _, .int b => .int b
  | _, _, .str b => .str b
  | _, _, .ty b => .ty b
  | _, _, .ref b => .ref b
  | _, _, .tup p q => .tup (p.elim (fun z => .inl (rd_mv h nt_tup z)) .inr) (q.mv h)
  | _, _, .lst p q => .lst (p.elim (fun z => .inl (rd_mv h nt_lst z)) .inr) (q.mv h)
  | _, _, .exc p1 p2 p3 p4 q => .exc (h _ _ nt_ext p1 p2).1 (h _ _ nt_ext p1 p2).2 (h _ _ nt_xd p3 p4).1 (h _ _ nt_xd p3 p4).2 (q.mv h)
  | _, _, .exc0 p1 p2 => .exc0 (h _ _ nt_ext p1 p2).1 (h _ _ nt_ext p1 p2).2
theorem Reps.mv {K : PySem.W.Frag} {al al' : Addr → Prop} {H H' : Hp} (h : Xt al H al' H') : ∀ {v : List V} {d : List D}, Reps K al H v d → Reps K al' H' v d
  | _, _, .nil => .nil
  | _, _, .cons p q => .cons (p.mv h) (q.mv h)
end
section
variable {K : PySem.W.Frag} {al al' : Addr → Prop} {H H' : Hp} {v : V} {d : D} {vs ws : List V} {ds es : List D}
theorem Rep.up (r : Rep K al H v d) (s : Same K H H') : Rep K al H' v d := r.mv (.of s)
theorem Reps.up (r : Reps K al H vs ds) (s : Same K H H') : Reps K al H' vs ds := r.mv (.of s)
theorem Reps.length (r : Reps K al H vs ds) : vs.length = ds.length := by
  induction ds generalizing vs with
  | nil => cases r; rfl
  | cons d ds ih => cases r with | cons a b => rw [List.length_cons, List.length_cons, ih b]
theorem Reps.append (r : Reps K al H vs ds) (q : Reps K al H ws es) : Reps K al H (vs ++ ws) (ds ++ es) := by
  induction ds generalizing vs with
  | nil => cases r; exact q
  | cons d ds ih => cases r with | cons a b => exact .cons a (ih b)
theorem Reps.get (r : Reps K al H vs ds) {i : Nat} {x : V} (e : vs[i]? = some x) : ∃ y, ds[i]? = some y ∧ Rep K al H x y := by
  induction ds generalizing vs i with
  | nil => cases r; simp at e
  | cons d ds ih =>
    cases r with
    | cons a b =>
      cases i with
      | zero => simp at e; subst e; exact ⟨_, rfl, a⟩
      | succ i => simpa using ih b (by simpa using e)
theorem Reps.getD (r : Reps K al H vs ds) {i : Nat} {y : D} (e : ds[i]? = some y) : ∃ x, vs[i]? = some x ∧ Rep K al H x y := by
  have hl := r.length
  have hi : i < vs.length := by rw [hl]; exact (List.getElem?_eq_some_iff.mp e).1
  obtain ⟨z, e2, q⟩ := r.get (List.getElem?_eq_getElem hi)
  rw [e] at e2; cases e2
  exact ⟨_, List.getElem?_eq_getElem hi, q⟩
theorem Reps.drop (r : Reps K al H vs ds) (n : Nat) : Reps K al H (vs.drop n) (ds.drop n) := by
  induction n generalizing vs ds with
  | zero => exact r
  | succ n ih =>
    cases r with
    | nil => exact .nil
    | cons a b => exact ih b
theorem Reps.take (r : Reps K al H vs ds) (n : Nat) : Reps K al H (vs.take n) (ds.take n) := by
  induction n generalizing vs ds with
  | zero => exact .nil
  | succ n ih =>
    cases r with
    | nil => exact .nil
    | cons a b => exact .cons a (ih b)
theorem Rep.tupIn (r : Rep K al H v (.tup ds)) : ∃ a vs, v = .ref a ∧ SqT K H a vs ∧ Reps K al H vs ds := by
  cases r with
  | tup p q => exact ⟨_, _, rfl, p.elim (fun z => .inl z.2) .inr, q⟩
theorem Rep.lstIn (r : Rep K al H v (.lst ds)) : ∃ a vs, v = .ref a ∧ SqL K H a vs ∧ Reps K al H vs ds := by
  cases r with
  | lst p q => exact ⟨_, _, rfl, p.elim (fun z => .inl z.2) KL.sq, q⟩
theorem Rep.lstRd (r : Rep K al H v (.lst ds)) : ∃ a vs, v = .ref a ∧ (Rd H a (.lst vs) ∨ KL K a vs) ∧ Reps K al H vs ds := by
  cases r with
  | lst p q => exact ⟨_, _, rfl, p.imp (fun z => z.2) id, q⟩
theorem same_upd {p : Addr} {o : HO} (h : H p = none) : Same K H (upd H p o) := ⟨fun b u _ q => by rw [upd_ne (ne_of_none q h)]; exact q, fun b q => by
    by_cases z : b = p
    · rw [z]; exact h
    · rw [upd_ne z] at q; exact q, fun t => t.upd (fun ps w => by rw [h] at w; cases w) fun q w => by rw [h] at w; cases w⟩
theorem Reps.tupNew (r : Reps K al H vs ds) {p : Addr} (h : H p = none) (a : al p) : Rep K al (upd H p (.tup vs)) (.ref p) (.tup ds) := .tup (.inl ⟨a, .inl upd_same⟩) (r.up (same_upd h))
theorem Reps.lstNew (r : Reps K al H vs ds) {p : Addr} (h : H p = none) (a : al p) : Rep K al (upd H p (.lst vs)) (.ref p) (.lst ds) := .lst (.inl ⟨a, .inl upd_same⟩) (r.up (same_upd h))
end
inductive Sl where
  | no | sh (d : D) | ow (ds : List D)
noncomputable abbrev Ev := List Sl
structure RS (K : PySem.W.Frag) (P : Addr → Prop) (H0 : Hp) (al : Addr → Prop) (H : Hp) (σ : St) (ρ : Ev) : Prop where
  same : Same K H0 H
  tt : TbOk K H
  fresh : ∀ a, H a = none → al a
  sub : ∀ a, al a → P a
  pf : ∀ a, H0 a = none → P a
  len : ρ.length = σ.length
  sh : ∀ (i : Nat) (d : D), ρ[i]? = some (.sh d) → ∃ v, σ[i]? = some (some v) ∧ Rep K al H v d
  ow : ∀ (i : Nat) (ds : List D), ρ[i]? = some (.ow ds) → ∃ a vs, σ[i]? = some (some (.ref a)) ∧ H a = some (.lst vs) ∧ Reps K al H vs ds ∧ ¬ al a ∧ H0 a = none
  apart : ∀ (i j : Nat) (ds ds' : List D) (a : Addr), ρ[i]? = some (.ow ds) → ρ[j]? = some (.ow ds') → σ[i]? = some (some (.ref a)) → σ[j]? = some (some (.ref a)) → i = j
section
variable {K : PySem.W.Frag} {P al : Addr → Prop} {H0 H H' : Hp} {σ : St} {ρ : Ev}
theorem RS.grow (r : RS K P H0 al H σ ρ) (s : Same K H H') : RS K P H0 al H' σ ρ where
  same := r.same.trans s
  tt := s.tt r.tt
  fresh := fun a h => r.fresh a (s.free h)
  sub := r.sub
  pf := r.pf
  len := r.len
  sh := fun i d e => let ⟨v, a, b⟩ := r.sh i d e; ⟨v, a, b.up s⟩
  ow := fun i ds e => let ⟨a, vs, h1, h2, h3, h4⟩ := r.ow i ds e; ⟨a, vs, h1, s.at' _ _ nt_lst h2, h3.up s, h4⟩
  apart := r.apart
theorem RS.set (r : RS K P H0 al H σ ρ) {i : Nat} {v : V} {d : D} (hi : i < ρ.length) (q : Rep K al H v d) : RS K P H0 al H (σ.set i (some v)) (ρ.set i (.sh d)) where
  same := r.same
  tt := r.tt
  fresh := r.fresh
  sub := r.sub
  pf := r.pf
  len := by rw [List.length_set, List.length_set]; exact r.len
  sh := fun j e h => by
    by_cases z : i = j
    · subst z
      rw [List.getElem?_set_self hi] at h; cases h
      exact ⟨v, List.getElem?_set_self (by rw [← r.len]; exact hi), q⟩
    · rw [List.getElem?_set_ne z] at h
      obtain ⟨w, a, b⟩ := r.sh j e h
      exact ⟨w, by rw [List.getElem?_set_ne z]; exact a, b⟩
  ow := fun j ds h => by
    by_cases z : i = j
    · subst z
      rw [List.getElem?_set_self hi] at h; cases h
    · rw [List.getElem?_set_ne z] at h
      obtain ⟨a, vs, h1, h2⟩ := r.ow j ds h
      exact ⟨a, vs, by rw [List.getElem?_set_ne z]; exact h1, h2⟩
  apart := fun j k ds ds' a h1 h2 h3 h4 => by
    by_cases z : i = j
    · subst z; rw [List.getElem?_set_self hi] at h1; cases h1
    · by_cases y : i = k
      · subst y; rw [List.getElem?_set_self hi] at h2; cases h2
      · rw [List.getElem?_set_ne z] at h1 h3
        rw [List.getElem?_set_ne y] at h2 h4
        exact r.apart j k ds ds' a h1 h2 h3 h4
theorem RS.drop (r : RS K P H0 al H σ ρ) {i : Nat} {u : Option V} : RS K P H0 al H (σ.set i u) (ρ.set i .no) where
  same := r.same
  tt := r.tt
  fresh := r.fresh
  sub := r.sub
  pf := r.pf
  len := by rw [List.length_set, List.length_set]; exact r.len
  sh := fun j e h => by
    by_cases z : i = j
    · subst z
      by_cases hi : i < ρ.length
      · rw [List.getElem?_set_self hi] at h; cases h
      · rw [List.getElem?_eq_none (by rw [List.length_set]; omega)] at h; cases h
    · rw [List.getElem?_set_ne z] at h
      obtain ⟨w, a, b⟩ := r.sh j e h
      exact ⟨w, by rw [List.getElem?_set_ne z]; exact a, b⟩
  ow := fun j ds h => by
    by_cases z : i = j
    · subst z
      by_cases hi : i < ρ.length
      · rw [List.getElem?_set_self hi] at h; cases h
      · rw [List.getElem?_eq_none (by rw [List.length_set]; omega)] at h; cases h
    · rw [List.getElem?_set_ne z] at h
      obtain ⟨a, vs, h1, h2⟩ := r.ow j ds h
      exact ⟨a, vs, by rw [List.getElem?_set_ne z]; exact h1, h2⟩
  apart := fun j k ds ds' a h1 h2 h3 h4 => by
    by_cases z : i = j
    · subst z
      by_cases hi : i < ρ.length
      · rw [List.getElem?_set_self hi] at h1; cases h1
      · rw [List.getElem?_eq_none (by rw [List.length_set]; omega)] at h1; cases h1
    · by_cases y : i = k
      · subst y
        by_cases hi : i < ρ.length
        · rw [List.getElem?_set_self hi] at h2; cases h2
        · rw [List.getElem?_eq_none (by rw [List.length_set]; omega)] at h2; cases h2
      · rw [List.getElem?_set_ne z] at h1 h3
        rw [List.getElem?_set_ne y] at h2 h4
        exact r.apart j k ds ds' a h1 h2 h3 h4
end
noncomputable def XR (K : PySem.W.Frag) (al : Addr → Prop) (H : Hp) (dx : Option Addr) (ns : List Str) (ds : List D) : Prop :=
  match dx with
  | none => ns = [] ∧ ds = []
  | some d => al d ∧ ∃ vs, H d = some (.xd (ns.zip vs)) ∧ Reps K al H vs ds
theorem XR.mv {K : PySem.W.Frag} {al al' : Addr → Prop} {H H' : Hp} {dx : Option Addr} {ns : List Str} {ds : List D} (h : Xt al H al' H') (r : XR K al H dx ns ds) : XR K al' H' dx ns ds := by
  cases dx with
  | none => exact r
  | some d =>
    obtain ⟨a, vs, e, q⟩ := r
    exact ⟨(h _ _ nt_xd a e).1, vs, (h _ _ nt_xd a e).2, q.mv h⟩
noncomputable def Aft {α : Type} (K : PySem.W.Frag) (al : Addr → Prop) (E : XK) (H : Hp) (r : R α) (k : α → Hp → Prop) : Prop :=
  match r with
  | .ok a => ∀ H', Same K H H' → k a H'
  | .ex c ns ds => ∀ dx H', Same K H H' → XR K al H' dx ns ds → E (.ref c) dx H'
  | .bad => False
section
variable {α β : Type} {K : PySem.W.Frag} {al : Addr → Prop} {E : XK} {H H' : Hp} {r : R α} {k k' : α → Hp → Prop}
theorem Aft.up (a : Aft K al E H r k) (s : Same K H H') : Aft K al E H' r k := by
  cases r with
  | ok x => exact fun H1 s1 => a H1 (s.trans s1)
  | ex c ns ds => exact fun dx H1 s1 => a dx H1 (s.trans s1)
  | bad => exact a
theorem Aft.mono (a : Aft K al E H r k) (m : ∀ x H1, Same K H H1 → k x H1 → k' x H1) : Aft K al E H r k' := by
  cases r with
  | ok x => exact fun H1 s1 => m x H1 s1 (a H1 s1)
  | ex c ns ds => exact a
  | bad => exact a
theorem Aft.split {g : α → R β} {k : β → Hp → Prop} (a : Aft K al E H (r.bind g) k) : Aft K al E H r (fun x H1 => Aft K al E H1 (g x) k) := by
  cases r with
  | ok x => exact fun H1 s1 => Aft.up a s1
  | ex c ns ds => exact a
  | bad => exact a
end
noncomputable def DE (X : Cx) (E : XK) (e : Expr) (f : Ev → R D) : Prop := ∃ t : TE, PE X e t ∧
  ∀ P H0 al H σ ρ (Q : VK), RS X.K P H0 al H σ ρ → Aft X.K al E H (f ρ) (fun d H' => ∀ v, Rep X.K al H' v d → Q v H') → t σ H Q
noncomputable def DT (X : Cx) (E : XK) (e : Expr) (f : Ev → R Bool) : Prop := ∃ t : TT, PT X e t ∧
  ∀ P H0 al H σ ρ (Q : Bool → Hp → Prop), RS X.K P H0 al H σ ρ → Aft X.K al E H (f ρ) Q → t σ H Q
noncomputable def DW (X : Cx) (E : XK) (e : Expr) (f : Ev → R Bool) : Prop := ∃ t : TT, PW X e t ∧
  ∀ P H0 al H σ ρ (Q : Bool → Hp → Prop), RS X.K P H0 al H σ ρ → Aft X.K al E H (f ρ) Q → t σ H Q
noncomputable def DA (X : Cx) (E : XK) (es : List Expr) (f : Ev → R (List D)) : Prop := ∃ t : TA, PA X es t ∧
  (∀ P H0 al H σ ρ (Q : List V → Hp → Prop), RS X.K P H0 al H σ ρ → Aft X.K al E H (f ρ) (fun ds H' => ∀ vs, Reps X.K al H' vs ds → Q vs H') → t σ H Q) ∧ ∀ ρ ds, f ρ = .ok ds → ds.length = es.length
noncomputable def DN (X : Cx) (E : XK) (e : Expr) (f : Ev → R (List D)) : Prop := ∃ t : TE, PE X e t ∧
  ∀ P H0 al H σ ρ (Q : VK), RS X.K P H0 al H σ ρ → Aft X.K al E H (f ρ) (fun ds H' => ∀ p vs, H' p = none → Reps X.K al H' vs ds → Q (.ref p) (upd H' p (.lst vs))) → t σ H Q
noncomputable def OpD (X : Cx) (E : XK) (op : Value → Value → Sem Value) (g : D → D → R D) : Prop := ∃ r : R2, OpR X op r ∧
  ∀ al H x y dx dy (Q : VK), (∀ a, H a = none → al a) → Rep X.K al H x dx → Rep X.K al H y dy → Aft X.K al E H (g dx dy) (fun d H' => ∀ v, Rep X.K al H' v d → Q v H') → r x y H Q
noncomputable def IxD (X : Cx) (E : XK) (g : D → D → R D) : Prop := ∃ r : R2, IxR X r ∧
  ∀ al H x y dx dy (Q : VK), (∀ a, H a = none → al a) → Rep X.K al H x dx → Rep X.K al H y dy → Aft X.K al E H (g dx dy) (fun d H' => ∀ v, Rep X.K al H' v d → Q v H') → r x y H Q
noncomputable def UnD (X : Cx) (E : XK) (op : Value → Sem Value) (g : D → R D) : Prop := ∃ r : V → Hp → VK → Prop, UnR X op r ∧
  ∀ al H x dx (Q : VK), (∀ a, H a = none → al a) → Rep X.K al H x dx → Aft X.K al E H (g dx) (fun d H' => ∀ v, Rep X.K al H' v d → Q v H') → r x H Q
noncomputable def CallD (X : Cx) (E : XK) (f : Value) (g : List D → R D) : Prop := ∃ r : List V → Hp → VK → Prop, CallR X f r ∧
  ∀ al H xs ds (Q : VK), (∀ a, H a = none → al a) → Reps X.K al H xs ds → Aft X.K al E H (g ds) (fun d H' => ∀ v, Rep X.K al H' v d → Q v H') → r xs H Q
noncomputable def dV (i : Nat) : Ev → R D := fun ρ => match ρ[i]? with
  | some (.sh d) => .ok d
  | _ => .bad
noncomputable def dC (d : D) : Ev → R D := fun _ => .ok d
noncomputable def d1 (g : D → R D) (a : Ev → R D) : Ev → R D := fun ρ => (a ρ).bind g
noncomputable def d2 (g : D → D → R D) (a b : Ev → R D) : Ev → R D := fun ρ => (a ρ).bind fun x => (b ρ).bind fun y => g x y
noncomputable def tB (d : D) : R Bool := match d with
  | .bl b => .ok b
  | _ => .bad
noncomputable def tT (d : D) : R Bool := match d with
  | .non => .ok false
  | .bl b => .ok b
  | .int i => .ok (i != 0)
  | .str y => if y.length ≤ sizeLine then .ok ((y.length : Int) != 0) else .bad
  | .lst ds => .ok (!ds.isEmpty)
  | .tup ds => .ok (!ds.isEmpty)
  | _ => .bad
noncomputable def b1 (t : D → R Bool) (a : Ev → R D) : Ev → R Bool := fun ρ => (a ρ).bind t
noncomputable def bAnd (a b : Ev → R Bool) : Ev → R Bool := fun ρ => (a ρ).bind fun c => if c = true then b ρ else .ok false
noncomputable def bOr (a b : Ev → R Bool) : Ev → R Bool := fun ρ => (a ρ).bind fun c => if c = true then .ok true else b ρ
noncomputable def bNot (a : Ev → R Bool) : Ev → R Bool := fun ρ => (a ρ).bind fun c => .ok (!c)
noncomputable def dAnd (a b : Ev → R D) : Ev → R D := fun ρ => ((a ρ).bind tB).bind fun c => if c = true then b ρ else .ok (.bl false)
noncomputable def dOr (a b : Ev → R D) : Ev → R D := fun ρ => ((a ρ).bind tB).bind fun c => if c = true then .ok (.bl true) else b ρ
noncomputable def dNot (a : Ev → R D) : Ev → R D := fun ρ => ((a ρ).bind tB).bind fun c => .ok (.bl (!c))
noncomputable def dIf (c : Ev → R Bool) (a b : Ev → R D) : Ev → R D := fun ρ => (c ρ).bind fun k => if k = true then a ρ else b ρ
noncomputable def aNil : Ev → R (List D) := fun _ => .ok []
noncomputable def aCons (a : Ev → R D) (r : Ev → R (List D)) : Ev → R (List D) := fun ρ => (a ρ).bind fun x => (r ρ).bind fun xs => .ok (x :: xs)
noncomputable def dA (g : List D → R D) (a : Ev → R (List D)) : Ev → R D := fun ρ => (a ρ).bind g
noncomputable def mkT (ds : List D) : R D := if ds.length ≤ sizeLine then .ok (.tup ds) else .bad
noncomputable def fitL (ds : List D) : R (List D) := if ds.length ≤ sizeLine then .ok ds else .bad
noncomputable def asN (g : Ev → R (List D)) : Ev → R D := fun ρ => (g ρ).bind fun ds => .ok (.lst ds)
section
variable {X : Cx} {E : XK} {e a b c : Expr} {f fa fb : Ev → R D} {pos : Pos}
theorem de_var (i : Nat) {x : Str} (hN : X.N[i]? = some x := by rfl) (hv : Vis X.env.scope x := by first | exact Or.inl rfl | exact Or.inr (Or.inl rfl) | exact Or.inr (Or.inr rfl)) (hd : (x == ("__debug__" : Str)) = false := by decide)
    (hcd : (x == ("__classdict__" : Str)) = false := by decide) : DE X E (.Name x pos) (dV i) := by
  refine ⟨_, pe_var hN hv hd hcd, fun P H0 al H σ ρ Q r h => ?_⟩
  unfold dV at h
  cases q : ρ[i]? with
  | none => rw [q] at h; exact h.elim
  | some s =>
    cases s with
    | sh d =>
      rw [q] at h
      obtain ⟨v, e1, e2⟩ := r.sh i d q
      exact ⟨v, e1, h H (.refl H) v e2⟩
    | no => rw [q] at h; exact h.elim
    | ow _ => rw [q] at h; exact h.elim
theorem de_int {i j} : DE X E (.Constant (.int i) j pos) (dC (.int i)) := ⟨_, pe_int, fun _ _ _ H _ _ _ _ h => h H (.refl H) _ (.int i)⟩
theorem de_bl {i j} : DE X E (.Constant (.bool i) j pos) (dC (.bl i)) := ⟨_, pe_bl, fun _ _ _ H _ _ _ _ h => h H (.refl H) _ (.bl i)⟩
theorem de_non {j} : DE X E (.Constant .none j pos) (dC .non) := ⟨_, pe_non, fun _ _ _ H _ _ _ _ h => h H (.refl H) _ .non⟩
theorem de_str {i j} : DE X E (.Constant (.str i) j pos) (dC (.str i)) := ⟨_, pe_str, fun _ _ _ H _ _ _ _ h => h H (.refl H) _ (.str i)⟩
theorem de_ty {x : Str} {n : String} (hg : Gl X x) (hm : X.mg x = none) (hv : bootBuiltins x = some (.type n)) (hn : x ≠ "__name__" := by decide) (hd : (x == ("__debug__" : Str)) = false := by decide) : DE X E (.Name x pos) (dC (.ty n)) :=
  ⟨_, pe_bltn (v := .ty n) hg hm hv rfl hn hd, fun _ _ al H _ _ _ _ h => h H (.refl H) _ (.ty n)⟩
theorem de_op {op : Operator} {g : D → D → R D} (ho : OpD X E (binaryOp op) g) (ha : DE X E a fa) (hb : DE X E b fb) : DE X E (.BinOp a op b pos) (d2 g fa fb) := by
  obtain ⟨r, ro, rr⟩ := ho
  obtain ⟨ta, pa, ra⟩ := ha
  obtain ⟨tb, pb, rb⟩ := hb
  refine ⟨_, pe_op ro pa pb, fun P H0 al H σ ρ Q s h => ra _ _ _ _ _ _ _ s (Aft.mono (Aft.split h) fun x H1 s1 h1 v rv => rb _ _ _ _ _ _ _ (s.grow s1) (Aft.mono (Aft.split h1) fun y H2 s2 h2 u ru => ?_))⟩
  exact rr _ _ _ _ _ _ _ ((s.grow s1).grow s2).fresh (rv.up s2) ru h2
theorem de_un {op : UnaryOp} {g : D → R D} (ho : UnD X E (unaryOp op) g) (ha : DE X E a fa) : DE X E (.UnaryOp op a pos) (d1 g fa) := by
  obtain ⟨r, ro, rr⟩ := ho
  obtain ⟨ta, pa, ra⟩ := ha
  exact ⟨_, pe_un ro pa, fun P H0 al H σ ρ Q s h => ra _ _ _ _ _ _ _ s (Aft.mono (Aft.split h) fun x H1 s1 h1 v rv => rr _ _ _ _ _ (s.grow s1).fresh rv h1)⟩
theorem rep_tB {K : PySem.W.Frag} {al : Addr → Prop} {H : Hp} {E : XK} {v : V} {d : D} {k : Bool → Hp → Prop} (r : Rep K al H v d) (h : Aft K al E H (tB d) k) : ∃ c, v = .bl c ∧ k c H := by
  cases r with
  | bl b => exact ⟨b, rfl, h H (.refl H)⟩
  | _ => exact (h : False).elim
theorem dt_cmp {op : CmpOp} {g : D → D → R D} (ho : OpD X E (compareOp op) g) (ha : DE X E a fa) (hb : DE X E b fb) (hm : behindInMarks op b = false := by first | exact nomark _ | with_unfolding_all rfl) : DT X E (.Compare a [op] [b] pos) (b1 tB (d2 g fa fb)) := by
  obtain ⟨r, ro, rr⟩ := ho
  obtain ⟨ta, pa, ra⟩ := ha
  obtain ⟨tb, pb, rb⟩ := hb
  refine ⟨_, pt_cmpR ro pa pb hm, fun P H0 al H σ ρ Q s h => ra _ _ _ _ _ _ _ s (Aft.mono (Aft.split (Aft.split h)) fun x H1 s1 h1 v rv => ?_)⟩
  refine rb _ _ _ _ _ _ _ (s.grow s1) (Aft.mono (Aft.split (g := fun y => g x y) (k := fun d H2 => Aft X.K al E H2 (tB d) Q) ?_) fun y H2 s2 h2 u ru => ?_)
  · exact h1
  · exact rr _ _ _ _ _ _ _ ((s.grow s1).grow s2).fresh (rv.up s2) ru (Aft.mono h2 fun d H3 s3 h3 w rw' => rep_tB rw' h3)
theorem rep_tT {K : PySem.W.Frag} {al : Addr → Prop} {H : Hp} {E : XK} {v : V} {d : D} {k : Bool → Hp → Prop} (r : Rep K al H v d) (h : Aft K al E H (tT d) k) : ∃ c, TruV K v H c ∧ k c H := by
  cases r with
  | non => exact ⟨_, rfl, h H (.refl H)⟩
  | bl b => exact ⟨_, rfl, h H (.refl H)⟩
  | int b => exact ⟨_, rfl, h H (.refl H)⟩
  | str b =>
    unfold tT at h
    by_cases z : b.length ≤ sizeLine
    · simp only [z, if_true] at h
      exact ⟨_, ⟨z, rfl⟩, h H (.refl H)⟩
    · simp only [z, if_false] at h
      exact h.elim
  | tup p q =>
    refine ⟨_, .inr (.inl ⟨_, p.elim (fun z => .inl z.2) .inr, ?_⟩), h H (.refl H)⟩
    cases q <;> rfl
  | lst p q =>
    refine ⟨_, .inl ⟨_, p.elim (fun z => .inl z.2) KL.sq, ?_⟩, h H (.refl H)⟩
    cases q <;> rfl
  | _ => exact (h : False).elim
theorem dt_truth (ha : DE X E e fa) (he : ∀ whole, isTrue e X.env whole = (do let v ← whole; standAt e.pos; holding [v] (truthy v)) := by intro _; rfl) : DT X E e (b1 tT fa) := by
  obtain ⟨ta, pa, ra⟩ := ha
  exact ⟨_, pt_truth pa he, fun P H0 al H σ ρ Q s h => ra _ _ _ _ _ _ _ s (Aft.mono (Aft.split h) fun x H1 s1 h1 v rv => rep_tT rv h1)⟩
variable {ga gb : Ev → R Bool} {rest : List Expr}
theorem DW.dt (h : DW X E e ga) : DT X E e ga := let ⟨t, p, r⟩ := h; ⟨t, p.pt, r⟩
theorem dw_and1 (h : DT X E a ga) : DW X E (.BoolOp .And [a] pos) ga := let ⟨t, p, r⟩ := h; ⟨t, pw_and1 p, r⟩
theorem dw_or1 (h : DT X E a ga) : DW X E (.BoolOp .Or [a] pos) ga := let ⟨t, p, r⟩ := h; ⟨t, pw_or1 p, r⟩
theorem dw_and (ha : DT X E a ga) (hb : DW X E (.BoolOp .And (b :: rest) pos) gb) : DW X E (.BoolOp .And (a :: b :: rest) pos) (bAnd ga gb) := by
  obtain ⟨ta, pa, ra⟩ := ha
  obtain ⟨tb, pb, rb⟩ := hb
  refine ⟨_, pw_and pa pb, fun P H0 al H σ ρ Q s h => ra _ _ _ _ _ _ _ s (Aft.mono (Aft.split h) fun c H1 s1 h1 => ?_)⟩
  cases c with
  | true => exact iteT (rb _ _ _ _ _ _ _ (s.grow s1) h1)
  | false => exact iteF (h1 H1 (.refl H1))
theorem dw_or (ha : DT X E a ga) (hb : DW X E (.BoolOp .Or (b :: rest) pos) gb) : DW X E (.BoolOp .Or (a :: b :: rest) pos) (bOr ga gb) := by
  obtain ⟨ta, pa, ra⟩ := ha
  obtain ⟨tb, pb, rb⟩ := hb
  refine ⟨_, pw_or pa pb, fun P H0 al H σ ρ Q s h => ra _ _ _ _ _ _ _ s (Aft.mono (Aft.split h) fun c H1 s1 h1 => ?_)⟩
  cases c with
  | true => exact iteT (h1 H1 (.refl H1))
  | false => exact iteF (rb _ _ _ _ _ _ _ (s.grow s1) h1)
theorem dt_not (ha : DT X E a ga) : DT X E (.UnaryOp .Not a pos) (bNot ga) := by
  obtain ⟨ta, pa, ra⟩ := ha
  exact ⟨_, pt_not pa, fun P H0 al H σ ρ Q s h => ra _ _ _ _ _ _ _ s (Aft.mono (Aft.split h) fun c H1 s1 h1 => h1 H1 (.refl H1))⟩
theorem de_one {op : BoolOp} (h : DE X E a fa) : DE X E (.BoolOp op [a] pos) fa := let ⟨t, p, r⟩ := h; ⟨t, pe_one p, r⟩
theorem de_and (ha : DE X E a fa) (hb : DE X E (.BoolOp .And (b :: rest) pos) fb) : DE X E (.BoolOp .And (a :: b :: rest) pos) (dAnd fa fb) := by
  obtain ⟨ta, pa, ra⟩ := ha
  obtain ⟨tb, pb, rb⟩ := hb
  refine ⟨_, pe_and pa pb, fun P H0 al H σ ρ Q s h => ra _ _ _ _ _ _ _ s (Aft.mono (Aft.split (Aft.split h)) fun x H1 s1 h1 v rv => ?_)⟩
  obtain ⟨c, e, h2⟩ := rep_tB rv h1
  refine ⟨c, e, ?_⟩
  cases c with
  | true => exact iteT (rb _ _ _ _ _ _ _ (s.grow s1) h2)
  | false => exact iteF (h2 H1 (.refl H1) _ (.bl false))
theorem de_not (ha : DE X E a fa) : DE X E (.UnaryOp .Not a pos) (dNot fa) := by
  obtain ⟨ta, pa, ra⟩ := ha
  refine ⟨_, pe_not pa, fun P H0 al H σ ρ Q s h => ra _ _ _ _ _ _ _ s (Aft.mono (Aft.split (Aft.split h)) fun x H1 s1 h1 v rv => ?_)⟩
  obtain ⟨c, e, h2⟩ := rep_tB rv h1
  exact ⟨c, e, h2 H1 (.refl H1) _ (.bl _)⟩
variable {es : List Expr} {fs : Ev → R (List D)}
theorem da_nil : DA X E [] aNil := ⟨_, pa_nil, fun _ _ _ H _ _ _ _ h => h H (.refl H) _ .nil, fun _ _ h => by cases h; rfl⟩
theorem da_cons (ha : DE X E e fa) (hr : DA X E es fs) (hs : starEach (e :: es) X.env = (false, eval e X.env) :: starEach es X.env := by rfl) : DA X E (e :: es) (aCons fa fs) := by
  obtain ⟨ta, pa, ra⟩ := ha
  obtain ⟨tb, pb, rb, lb⟩ := hr
  refine ⟨_, pa_cons pa pb hs, fun P H0 al H σ ρ Q s h => ra _ _ _ _ _ _ _ s (Aft.mono (Aft.split h) fun x H1 s1 h1 v rv => rb _ _ _ _ _ _ _ (s.grow s1) (Aft.mono (Aft.split h1) fun y H2 s2 h2 u ru => ?_)), fun ρ ds h => ?_⟩
  · exact h2 H2 (.refl H2) _ (.cons (rv.up s2) ru)
  · obtain ⟨x, _, h1⟩ := bind_ok h
    obtain ⟨y, h2, h3⟩ := bind_ok h1
    cases h3
    rw [List.length_cons, List.length_cons, lb ρ y h2]
theorem de_tup {x1} (ha : DA X E es fs) : DE X E (.Tuple es x1 pos) (dA mkT fs) := by
  obtain ⟨ta, pa, ra, _⟩ := ha
  refine ⟨_, pe_tup pa, fun P H0 al H σ ρ Q s h => ra _ _ _ _ _ _ _ s (Aft.mono (Aft.split h) fun x H1 s1 h1 v rv => ?_)⟩
  unfold mkT at h1
  by_cases z : x.length ≤ sizeLine
  · rw [if_pos z] at h1
    exact ⟨by rw [rv.length]; exact z, fun p hp => h1 _ (same_upd hp) _ (rv.tupNew hp ((s.grow s1).fresh p hp))⟩
  · rw [if_neg z] at h1
    exact h1.elim
theorem dn_lst (ha : DA X E es fs) : DN X E (.List es pos) (fun ρ => (fs ρ).bind fitL) := by
  obtain ⟨ta, pa, ra, _⟩ := ha
  refine ⟨_, pe_lst pa, fun P H0 al H σ ρ Q s h => ra _ _ _ _ _ _ _ s (Aft.mono (Aft.split h) fun x H1 s1 h1 v rv => ?_)⟩
  unfold fitL at h1
  by_cases z : x.length ≤ sizeLine
  · rw [if_pos z] at h1
    exact ⟨by rw [rv.length]; exact z, fun p hp => h1 H1 (.refl H1) p v hp rv⟩
  · rw [if_neg z] at h1
    exact h1.elim
theorem DN.de {g : Ev → R (List D)} (h : DN X E e g) : DE X E e (asN g) := by
  obtain ⟨t, p, r⟩ := h
  exact ⟨t, p, fun P H0 al H σ ρ Q s h => r _ _ _ _ _ _ _ s (Aft.mono (Aft.split h) fun x H1 s1 h1 p vs hp rv => h1 _ (same_upd hp) _ (rv.lstNew hp ((s.grow s1).fresh p hp)))⟩
theorem de_ix {g : D → D → R D} (ho : IxD X E g) (ha : DE X E a fa) (hb : DE X E b fb) (hs : PlainIx b := by exact fun _ _ => rfl) : DE X E (.Subscript a b pos) (d2 g fa fb) := by
  obtain ⟨r, ro, rr⟩ := ho
  obtain ⟨ta, pa, ra⟩ := ha
  obtain ⟨tb, pb, rb⟩ := hb
  refine ⟨_, pe_ix ro pa pb hs, fun P H0 al H σ ρ Q s h => ra _ _ _ _ _ _ _ s (Aft.mono (Aft.split h) fun x H1 s1 h1 v rv => rb _ _ _ _ _ _ _ (s.grow s1) (Aft.mono (Aft.split h1) fun y H2 s2 h2 u ru => ?_))⟩
  exact rr _ _ _ _ _ _ _ ((s.grow s1).grow s2).fresh (rv.up s2) ru h2
variable {x : Str} {p : Pos}
theorem de_callB {id : String} {g : List D → R D} (hc : CallD X E (.builtin id) g) (hg : Gl X x) (hm : X.mg x = none) (hv : bootBuiltins x = some (.builtin id)) (ha : DA X E (e :: es) fs) (hn : x ≠ "__name__" := by decide) (hdb : (x == ("__debug__" : Str)) = false := by decide)
    (he : starEach (e :: es) X.env = (false, eval e X.env) :: starEach es X.env := by rfl) (hpl : (backTo pos (starEach es X.env)).any (·.1) = false := by rfl) : DE X E (.Call (.Name x p) (e :: es) [] pos) (dA g fs) := by
  obtain ⟨r, rc, rr⟩ := hc
  obtain ⟨ta, pa, ra, _⟩ := ha
  exact ⟨_, pe_callB rc hg hm hv pa hn hdb he hpl, fun P H0 al H σ ρ Q s h => ra _ _ _ _ _ _ _ s (Aft.mono (Aft.split h) fun x H1 s1 h1 v rv => rr _ _ _ _ _ (s.grow s1).fresh rv h1)⟩
theorem de_callTy {T : String} {g : List D → R D} (hc : CallD X E (.type T) g) (hg : Gl X x) (hm : X.mg x = none) (hv : bootBuiltins x = some (.type T)) (ha : DA X E (e :: es) fs) (hn : x ≠ "__name__" := by decide) (hdb : (x == ("__debug__" : Str)) = false := by decide)
    (he : starEach (e :: es) X.env = (false, eval e X.env) :: starEach es X.env := by rfl) (hpl : (backTo pos (starEach es X.env)).any (·.1) = false := by rfl) : DE X E (.Call (.Name x p) (e :: es) [] pos) (dA g fs) := by
  obtain ⟨r, rc, rr⟩ := hc
  obtain ⟨ta, pa, ra, _⟩ := ha
  exact ⟨_, pe_callTy rc hg hm hv pa hn hdb he hpl, fun P H0 al H σ ρ Q s h => ra _ _ _ _ _ _ _ s (Aft.mono (Aft.split h) fun x H1 s1 h1 v rv => rr _ _ _ _ _ (s.grow s1).fresh rv h1)⟩
end
noncomputable def spD (n : Nat) (K : PySem.W.Frag) (F : List D → R D) : Sp := fun vs H Q E => vs.length = n ∧ TbOk K H ∧ ∃ al ds, (∀ a, H a = none → al a) ∧ Reps K al H vs ds ∧ Aft K al E H (F ds) (fun d H' => ∀ v, Rep K al H' v d → Q v H')
section
variable {X : Cx} {E : XK} {e : Expr} {es : List Expr} {fs : Ev → R (List D)} {x : Str} {p pos : Pos} {k n : Nat} {ps : List Str} {F : List D → R D}
theorem de_call (G : Has X.prog X.w X.K X.mg X.base (CXx X.prog X.w) k x ps (spD n X.K F)) (hr : Room k X.A) (hg : Gl X x) (hx : Passes (CXx X.prog X.w) X E) (hn : (e :: es).length = n) (ha : DA X E (e :: es) fs) (hdb : (x == ("__debug__" : Str)) = false := by decide)
    (he : starEach (e :: es) X.env = (false, eval e X.env) :: starEach es X.env := by rfl) (hpl : (backTo pos (starEach es X.env)).any (·.1) = false := by rfl) : DE X E (.Call (.Name x p) (e :: es) [] pos) (dA F fs) := by
  obtain ⟨ta, pa, ra, lb⟩ := ha
  refine ⟨_, pe_has G hr hg hx pa hdb he hpl, fun P H0 al H σ ρ Q s h => ra _ _ _ _ _ _ _ s ?_⟩
  unfold dA at h
  cases q : fs ρ with
  | ok ds =>
    rw [q] at h
    intro H1 s1 vs rv
    rw [List.append_nil]
    exact ⟨by rw [rv.length, lb ρ ds q]; exact hn, (s.grow s1).tt, al, ds, (s.grow s1).fresh, rv, Aft.up h s1⟩
  | ex c ns ds => rw [q] at h; exact h
  | bad => rw [q] at h; exact h.elim
end
inductive RT where
  | nx (ρ : Ev) | rt (d : D) | bk (ρ : Ev) | ct (ρ : Ev) | ex (c : Addr) (ns : List Str) (ds : List D) | bad
noncomputable def toS {α : Type} (r : R α) (k : α → RT) : RT := match r with
  | .ok a => k a
  | .ex c ns ds => .ex c ns ds
  | .bad => .bad
noncomputable def seqT (r : RT) (k : Ev → RT) : RT := match r with
  | .nx ρ => k ρ
  | r => r
noncomputable def okS (K : PySem.W.Frag) (P : Addr → Prop) (H0 : Hp) (E : XK) (D : Ends) (al : Addr → Prop) (H : Hp) : RT → Prop
  | .nx ρ => ∀ al' H' σ', Xt al H al' H' → RS K P H0 al' H' σ' ρ → D.nx σ' H'
  | .bk ρ => ∀ al' H' σ', Xt al H al' H' → RS K P H0 al' H' σ' ρ → D.bk σ' H'
  | .ct ρ => ∀ al' H' σ', Xt al H al' H' → RS K P H0 al' H' σ' ρ → D.ct σ' H'
  | .rt d => ∀ v H', Same K H0 H' → Rep K P H' v d → D.rt v H'
  | .ex c ns ds => ∀ dx H', Same K H0 H' → XR K P H' dx ns ds → E (.ref c) dx H'
  | .bad => False
section
variable {K : PySem.W.Frag} {P al al' : Addr → Prop} {H0 H H' : Hp} {E : XK} {D : Ends} {s : RT} {σ : St} {ρ : Ev}
theorem okS.ext (h : okS K P H0 E D al H s) (x : Xt al H al' H') : okS K P H0 E D al' H' s := by
  cases s with
  | nx ρ => exact fun a h1 σ1 y r => h a h1 σ1 (x.trans y) r
  | bk ρ => exact fun a h1 σ1 y r => h a h1 σ1 (x.trans y) r
  | ct ρ => exact fun a h1 σ1 y r => h a h1 σ1 (x.trans y) r
  | rt d => exact h
  | ex c ns ds => exact h
  | bad => exact h
theorem okS.ofR {α : Type} {r : R α} {k : α → RT} (h : okS K P H0 E D al H (toS r k)) (s : RS K P H0 al H σ ρ) : Aft K al E H r (fun x H1 => okS K P H0 E D al H1 (k x)) := by
  cases r with
  | ok x => exact fun H1 s1 => okS.ext h (.of s1)
  | ex c ns ds => exact fun dx H1 s1 q => h dx H1 (s.same.trans s1) (q.mv (.sub s.sub))
  | bad => exact h
end
noncomputable def DS (X : Cx) (E : XK) (st : Stmt) (g : Ev → RT) : Prop := ∃ t : TS, PS X st t ∧
  ∀ P H0 al H σ ρ (D : Ends), RS X.K P H0 al H σ ρ → okS X.K P H0 E D al H (g ρ) → t D σ H
noncomputable def DSs (X : Cx) (E : XK) (st : List Stmt) (g : Ev → RT) : Prop := ∃ t : TS, PSs X st t ∧
  ∀ P H0 al H σ ρ (D : Ends), RS X.K P H0 al H σ ρ → okS X.K P H0 E D al H (g ρ) → t D σ H
noncomputable def sNil : Ev → RT := .nx
noncomputable def sSeq (a b : Ev → RT) : Ev → RT := fun ρ => seqT (a ρ) b
noncomputable def sExpr (f : Ev → R D) : Ev → RT := fun ρ => toS (f ρ) fun _ => .nx ρ
noncomputable def sRet (f : Ev → R D) : Ev → RT := fun ρ => toS (f ρ) .rt
noncomputable def sSet (i : Nat) (f : Ev → R D) : Ev → RT := fun ρ => toS (f ρ) fun d => if i < ρ.length then .nx (ρ.set i (.sh d)) else .bad
noncomputable def sIf (c : Ev → R Bool) (a b : Ev → RT) : Ev → RT := fun ρ => toS (c ρ) fun k => if k = true then a ρ else b ρ
section
variable {X : Cx} {E : XK} {st : Stmt} {rest sa sb : List Stmt} {g u ga gb : Ev → RT} {e c : Expr} {f : Ev → R D} {fc : Ev → R Bool} {pos : Pos}
theorem dss_nil : DSs X E [] sNil := ⟨_, pss_nil, fun _ _ al H σ ρ _ s h => h al H σ .refl s⟩
theorem dss_one (h : DS X E st g) : DSs X E [st] g := let ⟨t, p, r⟩ := h; ⟨t, pss_one p, r⟩
theorem dss_cons (h1 : DS X E st g) (h2 : DSs X E rest u) : DSs X E (st :: rest) (sSeq g u) := by
  obtain ⟨t1, p1, r1⟩ := h1
  obtain ⟨t2, p2, r2⟩ := h2
  refine ⟨_, pss_cons p1 p2, fun P H0 al H σ ρ D s h => r1 P H0 al H σ ρ _ s ?_⟩
  unfold sSeq at h
  cases q : g ρ with
  | nx ρ1 =>
    rw [q] at h
    exact fun al' H' σ' x s' => r2 P H0 al' H' σ' ρ1 D s' (okS.ext h x)
  | bk ρ1 => rw [q] at h; exact h
  | ct ρ1 => rw [q] at h; exact h
  | rt d => rw [q] at h; exact h
  | ex c ns ds => rw [q] at h; exact h
  | bad => rw [q] at h; exact h
theorem ds_ret (he : DE X E e f) : DS X E (.Return (some e) pos) (sRet f) := by
  obtain ⟨t, p, r⟩ := he
  exact ⟨_, ps_ret p, fun P H0 al H σ ρ D s h => r _ _ _ _ _ _ _ s (Aft.mono (okS.ofR h s) fun d H1 s1 h1 v rv => h1 v H1 (s.same.trans s1) (rv.mv (.sub s.sub)))⟩
theorem ds_set (i : Nat) {x : Str} {pos' : Pos} (hN : X.N.Nodup) (hi : X.N[i]? = some x) (hx : Loc X.env.scope x) (he : DE X E e f) (hs : swapsWith e (some (.Name x pos')) pos.line X.env = pure false := by rfl) (hf : X.fn x = true ∨ X.env.scope.names.lookup x = some .local := by first | exact .inl rfl | exact .inr rfl | assumption) :
    DS X E (.Assign [.Name x pos'] e pos) (sSet i f) := by
  obtain ⟨t, p, r⟩ := he
  refine ⟨_, ps_set hN hi hx p hs hf, fun P H0 al H σ ρ D s h => r _ _ _ _ _ _ _ s (Aft.mono (okS.ofR h s) fun d H1 s1 h1 v rv => ?_)⟩
  by_cases z : i < ρ.length
  · simp only [z, if_true] at h1
    exact h1 al H1 _ .refl ((s.grow s1).set z rv)
  · simp only [z, if_false] at h1
    exact h1.elim
theorem ds_if (hc : DT X E c fc) (ha : DSs X E sa ga) (hb : DSs X E sb gb) : DS X E (.If c sa sb pos) (sIf fc ga gb) := by
  obtain ⟨tc, pc, rc⟩ := hc
  obtain ⟨ta, pa, ra⟩ := ha
  obtain ⟨tb, pb, rb⟩ := hb
  refine ⟨_, ps_if pc pa pb, fun P H0 al H σ ρ D s h => rc _ _ _ _ _ _ _ s (Aft.mono (okS.ofR h s) fun k H1 s1 h1 => ?_)⟩
  cases k with
  | true => exact iteT (ra _ _ _ _ _ _ _ (s.grow s1) h1)
  | false => exact iteF (rb _ _ _ _ _ _ _ (s.grow s1) h1)
noncomputable def turnT (r : RT) (k : Ev → RT) : RT := match r with
  | .nx ρ => k ρ
  | .ct ρ => k ρ
  | .bk ρ => .nx ρ
  | r => r
noncomputable def whileD (c : Ev → R Bool) (b : Ev → RT) : Nat → Ev → RT
  | 0, _ => .bad
  | n + 1, ρ => toS (c ρ) fun k => if k = true then turnT (b ρ) (whileD c b n) else .nx ρ
theorem turn_ok {K : PySem.W.Frag} {P al : Addr → Prop} {H0 H : Hp} {D : Ends} {r : RT} {k : Ev → RT} {N : St → Hp → Prop} (h : okS K P H0 E D al H (turnT r k))
    (hN : ∀ al' H' σ' ρ', Xt al H al' H' → RS K P H0 al' H' σ' ρ' → okS K P H0 E D al' H' (k ρ') → N σ' H') : okS K P H0 E { D with nx := N, ct := N, bk := D.nx } al H r := by
  cases r with
  | nx ρ => exact fun al' H' σ' x s => hN al' H' σ' ρ x s (okS.ext h x)
  | ct ρ => exact fun al' H' σ' x s => hN al' H' σ' ρ x s (okS.ext h x)
  | bk ρ => exact h
  | rt d => exact h
  | ex c ns ds => exact h
  | bad => exact h
theorem ds_while (n : Nat) (hp : PassesOwn (model X.prog X.w) X.A X.env X.xe) (hc : DT X E c fc) (hb : DSs X E sb gb) : DS X E (.While c sb [] pos) (whileD fc gb n) := by
  obtain ⟨tc, pc, rc⟩ := hc
  obtain ⟨tb, pb, rb⟩ := hb
  refine ⟨_, ps_while hp pc pb, fun P H0 al H σ ρ D s h => ⟨fun m σ1 H1 => ∃ al1 ρ1, RS X.K P H0 al1 H1 σ1 ρ1 ∧ okS X.K P H0 E D al1 H1 (whileD fc gb m ρ1), ⟨n, al, ρ, s, h⟩, ?_⟩⟩
  rintro m σ1 H1 ⟨al1, ρ1, s1, h1⟩
  cases m with
  | zero => exact h1.elim
  | succ m =>
    refine rc _ _ _ _ _ _ _ s1 (Aft.mono (okS.ofR h1 s1) fun k H2 s2 h2 => ?_)
    cases k with
    | true =>
      refine iteT ⟨fun σ' H' => ∃ al1 ρ1, RS X.K P H0 al1 H' σ' ρ1 ∧ okS X.K P H0 E D al1 H' (whileD fc gb m ρ1), fun σ' H' z => ⟨m, Nat.lt_succ_self m, z⟩, rb _ _ _ _ _ _ _ (s1.grow s2) (turn_ok (k := whileD fc gb m) h2 fun al' H' σ' ρ' _ s' h' => ⟨al', ρ', s', h'⟩)⟩
    | false => exact iteF (h2 al1 H2 σ1 .refl (s1.grow s2))
end
noncomputable def Wk (K : PySem.W.Frag) (al : Addr → Prop) (H : Hp) (J : It) (ds : List D) : Prop := ∀ al' H', Xt al H al' H' → (∀ a, H' a = none → al' a) →
  (∀ i d, ds[i]? = some d → J.go i H' ∧ ∀ x H'', J.yld i H' x H'' → H'' = H' ∧ Rep K al' H' x d) ∧ ∀ i, ds.length ≤ i → J.stop i H'
noncomputable def DI (X : Cx) (E : XK) (tg iter : Expr) (f : Ev → R (List D)) : Prop := ∃ wi : TI, PI X tg iter wi ∧
  ∀ P H0 al H σ ρ (R : It → Hp → Prop), RS X.K P H0 al H σ ρ → Aft X.K al E H (f ρ) (fun ds H' => ∀ J, Wk X.K al H' J ds → R J H') → wi σ H R
noncomputable def Kp (l : List Nat) (σ σ' : St) : Prop := σ'.length = σ.length ∧ ∀ j, j ∉ l → σ'[j]? = σ[j]?
noncomputable def DG (X : Cx) (tg : Expr) (l : List Nat) (a : D → Ev → Option Ev) : Prop := ∃ g : TG, PG X tg g ∧
  ∀ P H0 al H σ ρ v d (Q : St → Hp → Prop), RS X.K P H0 al H σ ρ → Rep X.K al H v d → (∃ ρ', a d ρ = some ρ' ∧ ∀ σ', Kp l σ σ' → RS X.K P H0 al H σ' ρ' → Q σ' H) → g v σ H Q
noncomputable def DGs (X : Cx) (tg : List Expr) (l : List Nat) (a : List D → Ev → Option Ev) : Prop := ∃ g : TGs, PGs X tg g ∧
  ∀ P H0 al H σ ρ v d (Q : St → Hp → Prop), RS X.K P H0 al H σ ρ → Reps X.K al H v d → (∃ ρ', a d ρ = some ρ' ∧ ∀ σ', Kp l σ σ' → RS X.K P H0 al H σ' ρ' → Q σ' H) → g v σ H Q
noncomputable def gV (i : Nat) : D → Ev → Option Ev := fun d ρ => if i < ρ.length then some (ρ.set i (.sh d)) else none
noncomputable def gN : List D → Ev → Option Ev := fun ds ρ => match ds with
  | [] => some ρ
  | _ => none
noncomputable def gC (a : D → Ev → Option Ev) (b : List D → Ev → Option Ev) : List D → Ev → Option Ev := fun ds ρ => match ds with
  | d :: r => (a d ρ).bind (b r)
  | [] => none
noncomputable def gT (n : Nat) (a : List D → Ev → Option Ev) : D → Ev → Option Ev := fun d ρ => match d with
  | .tup ds => if ds.length = n then a ds ρ else none
  | _ => none
noncomputable def toO {α : Type} (r : Option α) (k : α → RT) : RT := match r with
  | some a => k a
  | none => .bad
noncomputable def forD (a : D → Ev → Option Ev) (b : Ev → RT) : List D → Ev → RT
  | [], ρ => .nx ρ
  | d :: r, ρ => toO (a d ρ) fun ρ1 => turnT (b ρ1) (forD a b r)
section
variable {X : Cx} {E : XK} {tg iter : Expr} {body : List Stmt} {fi : Ev → R (List D)} {a : D → Ev → Option Ev} {gb : Ev → RT} {pos : Pos}
noncomputable def sFor (fi : Ev → R (List D)) (a : D → Ev → Option Ev) (gb : Ev → RT) : Ev → RT := fun ρ => toS (fi ρ) fun ds => forD a gb ds ρ
theorem dg_name (i : Nat) {x : Str} (hN : X.N.Nodup) (hi : X.N[i]? = some x) (hx : Loc X.env.scope x) (hf : X.fn x = true ∨ X.env.scope.names.lookup x = some .local := by first | exact .inl rfl | exact .inr rfl | assumption) : DG X (.Name x pos) [i] (gV i) := by
  refine ⟨_, pg_name hN hi hx hf, fun P H0 al H σ ρ v d Q s rv h => ?_⟩
  obtain ⟨ρ', e, q⟩ := h
  unfold gV at e
  by_cases z : i < ρ.length
  · rw [if_pos z] at e; cases e
    exact q _ ⟨List.length_set .., fun j hj => List.getElem?_set_ne (fun w => hj (by simp [w]))⟩ (s.set z rv)
  · rw [if_neg z] at e; cases e
theorem dgs_nil : DGs X [] [] gN := by
  refine ⟨_, pgs_nil, fun P H0 al H σ ρ v d Q s rv h => ?_⟩
  obtain ⟨ρ', e, q⟩ := h
  cases rv with
  | nil => cases e; exact ⟨rfl, q _ ⟨rfl, fun _ _ => rfl⟩ s⟩
  | cons _ _ => cases e
theorem dgs_cons {e : Expr} {es : List Expr} {u : List D → Ev → Option Ev} {l1 l2 : List Nat} (h1 : DG X e l1 a) (h2 : DGs X es l2 u) (hs : (assignEach (e :: es) X.env).map (·.2) = assign e X.env :: (assignEach es X.env).map (·.2) := by rfl) : DGs X (e :: es) (l1 ++ l2) (gC a u) := by
  obtain ⟨g1, p1, r1⟩ := h1
  obtain ⟨g2, p2, r2⟩ := h2
  refine ⟨_, pgs_cons p1 p2 hs, fun P H0 al H σ ρ v d Q s rv h => ?_⟩
  obtain ⟨ρ', e, q⟩ := h
  cases rv with
  | nil => cases e
  | cons ra rb =>
    obtain ⟨ρ1, e1, e2⟩ := Option.bind_eq_some_iff.mp e
    exact ⟨_, _, rfl, r1 _ _ _ _ _ _ _ _ _ s ra ⟨ρ1, e1, fun σ1 k1 s1 => r2 _ _ _ _ _ _ _ _ _ s1 rb ⟨ρ', e2, fun σ2 k2 s2 => q σ2 ⟨k2.1.trans k1.1, fun j hj => (k2.2 j fun w => hj (List.mem_append_right _ w)).trans (k1.2 j fun w => hj (List.mem_append_left _ w))⟩ s2⟩⟩⟩
theorem dg_tup {es : List Expr} {k n : Nat} {u : List D → Ev → Option Ev} {l : List Nat} (hc : X.calm = true) (h : DGs X es l u) (hn : (assignEach es X.env).length = n := by rfl) (hst : (assignEach es X.env).findIdx? (·.1) = none := by rfl) : DG X (.Tuple es k pos) l (gT n u) := by
  obtain ⟨g2, p2, r2⟩ := h
  refine ⟨_, pg_tup hc p2 hn hst, fun P H0 al H σ ρ v d Q s rv h => ?_⟩
  obtain ⟨ρ', e, q⟩ := h
  unfold gT at e
  cases d with
  | tup ds =>
    by_cases z : ds.length = n
    · simp only [z, if_true] at e
      obtain ⟨a, vs, e1, e2, e3⟩ := rv.tupIn
      exact ⟨a, vs, e1, e2, by rw [e3.length]; exact z, r2 _ _ _ _ _ _ _ _ _ s e3 ⟨ρ', e, q⟩⟩
    · simp only [z, if_false] at e; cases e
  | _ => cases e
noncomputable def sGo (f : Ev → R D) (a : D → Ev → Option Ev) : Ev → RT := fun ρ => toS (f ρ) fun d => toO (a d ρ) .nx
theorem ds_for {l : List Nat} (hp : PassesOwn (model X.prog X.w) X.A X.env X.xe) (hc : X.calm = true) (hi : DI X E tg iter fi) (hg : DG X tg l a) (hb : DSs X E body gb) (hs : ∀ x, foldedSetIterable iter X.env x = pure x := by intro _; rfl) :
    DS X E (.For tg iter body [] pos) (sFor fi a gb) := by
  obtain ⟨wi, pi, ri⟩ := hi
  obtain ⟨g, pg, rg⟩ := hg
  obtain ⟨tb, pb, rb⟩ := hb
  refine ⟨_, ps_for hp hc pi pg pb hs, fun P H0 al H σ ρ D s h => ri _ _ _ _ _ _ _ s (Aft.mono (okS.ofR h s) fun ds H1 s1 h1 J wk => ?_)⟩
  refine ⟨fun i m σ2 H2 => ∃ al2 ρ2, RS X.K P H0 al2 H2 σ2 ρ2 ∧ Wk X.K al2 H2 J ds ∧ okS X.K P H0 E D al2 H2 (forD a gb (ds.drop i) ρ2) ∧ m = ds.length - i, ⟨_, al, ρ, s.grow s1, wk, h1, rfl⟩, ?_⟩
  rintro i m σ2 H2 ⟨al2, ρ2, s2, wk2, h2, rfl⟩
  obtain ⟨w1, w2⟩ := wk2 al2 H2 .refl s2.fresh
  by_cases hi : i < ds.length
  · right
    have ed : ds[i]? = some ds[i] := List.getElem?_eq_getElem hi
    obtain ⟨go, yl⟩ := w1 i _ ed
    rw [List.drop_eq_getElem_cons hi] at h2
    refine ⟨go, fun σ' H' => ∃ al2 ρ2, RS X.K P H0 al2 H' σ' ρ2 ∧ Wk X.K al2 H' J ds ∧ okS X.K P H0 E D al2 H' (forD a gb (ds.drop (i + 1)) ρ2), fun σ' H' ⟨al3, ρ3, z1, z2, z3⟩ => ⟨ds.length - (i + 1), by omega, al3, ρ3, z1, z2, z3, rfl⟩, fun x H3 y => ?_⟩
    obtain ⟨rfl, rx⟩ := yl x H3 y
    unfold forD at h2
    cases q : a ds[i] ρ2 with
    | some ρ3 =>
      rw [q] at h2
      refine rg _ _ _ _ _ _ _ _ _ s2 rx ⟨ρ3, q, fun σ3 _ s3 => rb _ _ _ _ _ _ _ s3 (turn_ok (k := forD a gb (ds.drop (i + 1))) h2 fun al' H' σ' ρ' x' s' h' => ⟨al', ρ', s', fun al4 H4 x4 => wk2 al4 H4 (x'.trans x4), h'⟩)⟩
    | none => rw [q] at h2; exact h2.elim
  · left
    have e : ds.drop i = [] := List.drop_eq_nil_of_le (by omega)
    rw [e] at h2
    exact ⟨w2 i (by omega), h2 al2 H2 σ2 .refl s2⟩
end
end P2
namespace P2
open PySem L2
noncomputable def startD (n : Nat) (ds : List D) : Ev := ds.map .sh ++ List.replicate (n - ds.length) .no
noncomputable def finT : RT → R D
  | .rt d => .ok d
  | .nx _ => .ok .non
  | .ex c ns ds => .ex c ns ds
  | _ => .bad
theorem rs_start {K : PySem.W.Frag} {al : Addr → Prop} {H : Hp} {vs : List V} {ds : List D} {N : List Str} (tt : TbOk K H) (fr : ∀ a, H a = none → al a) (r : Reps K al H vs ds) : RS K al H al H (L2.start N vs) (startD N.length ds) where
  same := .refl H
  tt := tt
  fresh := fr
  sub := fun _ h => h
  pf := fr
  len := by unfold L2.start startD; simp [r.length]
  sh := fun i d h => by
    unfold startD at h
    by_cases hi : i < ds.length
    · rw [List.getElem?_append_left (by simpa using hi), List.getElem?_map] at h
      cases q : ds[i]? with
      | none => rw [q] at h; cases h
      | some y =>
        rw [q] at h; cases h
        obtain ⟨v, e1, e2⟩ := r.getD q
        refine ⟨v, ?_, e2⟩
        unfold L2.start
        rw [List.getElem?_append_left (by simpa [r.length] using hi), List.getElem?_map, e1]; rfl
    · rw [List.getElem?_append_right (by simpa using hi), List.getElem?_replicate] at h
      split at h <;> cases h
  ow := fun i d h => by
    unfold startD at h
    by_cases hi : i < ds.length
    · rw [List.getElem?_append_left (by simpa using hi), List.getElem?_map] at h
      cases q : ds[i]? with
      | none => rw [q] at h; cases h
      | some y => rw [q] at h; cases h
    · rw [List.getElem?_append_right (by simpa using hi), List.getElem?_replicate] at h
      split at h <;> cases h
  apart := fun i j d d' a h _ _ _ => by
    unfold startD at h
    by_cases hi : i < ds.length
    · rw [List.getElem?_append_left (by simpa using hi), List.getElem?_map] at h
      cases q : ds[i]? with
      | none => rw [q] at h; cases h
      | some y => rw [q] at h; cases h
    · rw [List.getElem?_append_right (by simpa using hi), List.getElem?_replicate] at h
      split at h <;> cases h
section
variable {P : Program} {w : World} {K : PySem.W.Frag} {mg : Str → Option Value} {base : Heap}
theorem fn_den {x : Str} {st : Stmt} {f : Addr} {fd : FuncData} {N ps : List Str} {k : Nat} {g : Ev → RT} (F : Fun K x x st f fd) (S : FnScope N ps (defScope st))
    (body : ∀ (cdv : Value) (A : Around) (outer : List Env) (s : Shared) (H : Hp) (E : XK), Room k (cxOf (CXx P w) P w K mg base N x (defScope st) f cdv A outer s H E).A → DSs (cxOf (CXx P w) P w K mg base N x (defScope st) f cdv A outer s H E) E (defBody st) g) :
    FnOk P w K mg base (CXx P w) (k + 1) f fd ps (spD ps.length K fun ds => finT (g (startD N.length ds))) := by
  refine F.okX S (fun vs H Q E h => h.1) (fun cdv A outer s H vs Q E hr h => ?_)
  obtain ⟨hl, tt, al, ds, fr, rv, h⟩ := h
  obtain ⟨t, p, r⟩ := body cdv A outer s H E hr
  dsimp only at h
  refine ⟨t, p, r al H al H (L2.start N vs) (startD N.length ds) _ (rs_start tt fr rv) ?_⟩
  cases q : g (startD N.length ds) with
  | nx ρ => rw [q] at h; exact fun al' H' σ' _ s' => h H' s'.same .non .non
  | rt d => rw [q] at h; exact fun v H' s' rv => h H' s' v rv
  | ex c ns es => rw [q] at h; exact h
  | bk ρ => rw [q] at h; exact h.elim
  | ct ρ => rw [q] at h; exact h.elim
  | bad => rw [q] at h; exact h.elim
theorem Has.den {k n : Nat} {x : Str} {ps : List Str} {F F' : List D → R D} (G : Has P w K mg base (CXx P w) k x ps (spD n K F)) (h : ∀ ds, ds.length = n → F' ds = .bad ∨ F ds = F' ds) : Has P w K mg base (CXx P w) k x ps (spD n K F') := by
  obtain ⟨f, fd, fo, b, kp, m⟩ := G
  refine ⟨f, fd, fo.imp fun vs H Q E q => ?_, b, kp, m⟩
  obtain ⟨hl, tt, al, ds, fr, rv, q⟩ := q
  refine ⟨hl, tt, al, ds, fr, rv, ?_⟩
  rcases h ds (by rw [← rv.length]; exact hl) with z | z
  · rw [z] at q; exact q.elim
  · rw [z]; exact q
theorem Has.up {j k : Nat} {x : Str} {ps : List Str} {sp : Sp} (G : Has P w K mg base (CXx P w) j x ps sp) (h : j ≤ k) : Has P w K mg base (CXx P w) k x ps sp := let ⟨f, fd, fo, r⟩ := G; ⟨f, fd, fo.mono h, r⟩
variable {N : List Str} {qual : Str} {scope : Scope} {f : Addr} {cd : Value} {A : Around} {outer : List Env} {s : Shared} {H : Hp} {E : XK}
end
noncomputable def hasT (T : String) : D → Bool
  | .str _ => T == "str"
  | .int _ => T == "int"
  | .lst _ => T == "list"
  | _ => false
noncomputable def dMt (T : String) (g : D → List D → R D) (o : Ev → R D) (a : Ev → R (List D)) : Ev → R D := fun ρ => (o ρ).bind fun x => if hasT T x = true then (a ρ).bind fun xs => g x xs else .bad
section
variable {X : Cx} {E : XK} {o e : Expr} {es : List Expr} {fo : Ev → R D} {fs : Ev → R (List D)} {name : Str} {apos cpos : Pos} {T id : String} {g : D → List D → R D}
noncomputable def DO (X : Cx) (E : XK) (e : Option Expr) (f : Ev → R (Option Int)) : Prop := ∃ t : TO, PO X e t ∧
  ∀ P H0 al H σ ρ (Q : Option Int → Hp → Prop), RS X.K P H0 al H σ ρ → Aft X.K al E H (f ρ) Q → t σ H Q
noncomputable def SlD (X : Cx) (E : XK) (g : D → Option Int → Option Int → R D) : Prop := ∃ r, SlR X r ∧
  ∀ al H x dx lo hi (Q : VK), (∀ a, H a = none → al a) → Rep X.K al H x dx → Aft X.K al E H (g dx lo hi) (fun d H' => ∀ v, Rep X.K al H' v d → Q v H') → r x lo hi H Q
noncomputable def pI (d : D) : R (Option Int) := match d with
  | .int i => .ok (some i)
  | _ => .bad
theorem do_none : DO X E none (fun _ => .ok none) := ⟨_, po_none, fun _ _ _ H _ _ _ _ h => h H (.refl H)⟩
theorem do_some (h : DE X E e fo) : DO X E (some e) (fun ρ => (fo ρ).bind pI) := by
  obtain ⟨t, p, r⟩ := h
  refine ⟨_, po_some p, fun P H0 al H σ ρ Q s h => r _ _ _ _ _ _ _ s (Aft.mono (Aft.split h) fun x H1 s1 h1 v rv => ?_)⟩
  cases rv with
  | int i => exact ⟨i, rfl, h1 H1 (.refl H1)⟩
  | _ => exact (h1 : False).elim
noncomputable def dSl (g : D → Option Int → Option Int → R D) (a : Ev → R D) (l u : Ev → R (Option Int)) : Ev → R D := fun ρ => (a ρ).bind fun x => (l ρ).bind fun i => (u ρ).bind fun j => g x i j
theorem de_slice {g : D → Option Int → Option Int → R D} {lo hi : Option Expr} {fl fu : Ev → R (Option Int)} {pos p2 : Pos} (hr : SlD X E g) (he : DE X E e fo) (hl : DO X E lo fl) (hu : DO X E hi fu) : DE X E (.Subscript e (.Slice lo hi none p2) pos) (dSl g fo fl fu) := by
  obtain ⟨r, rm, rr⟩ := hr
  obtain ⟨to, po, ro⟩ := he
  obtain ⟨tl, pl, rl⟩ := hl
  obtain ⟨tu, pu, ru⟩ := hu
  refine ⟨_, pe_slice rm po pl pu, fun P H0 al H σ ρ Q s h => ro _ _ _ _ _ _ _ s (Aft.mono (Aft.split h) fun x H1 s1 h1 v rv => ?_)⟩
  refine rl _ _ _ _ _ _ _ (s.grow s1) (Aft.mono (Aft.split h1) fun i H2 s2 h2 => ru _ _ _ _ _ _ _ ((s.grow s1).grow s2) (Aft.mono (Aft.split h2) fun j H3 s3 h3 => ?_))
  exact rr _ _ _ _ _ _ _ (((s.grow s1).grow s2).grow s3).fresh ((rv.up s2).up s3) h3
end
theorem pi_or {X : Cx} {tg iter : Expr} {w1 w2 : TI} (h1 : PI X tg iter w1) (h2 : PI X tg iter w2) : PI X tg iter (fun σ H R => w1 σ H R ∨ w2 σ H R) := fun pins s σ H R I h => h.elim (h1 pins s σ H R I) (h2 pins s σ H R I)
section
variable {X : Cx} {E : XK} {tg e : Expr} {f : Ev → R D}
theorem wk_list {K : PySem.W.Frag} {al : Addr → Prop} {H : Hp} {a : Addr} {ds : List D} (r : Rep K al H (.ref a) (.lst ds)) : Wk K al H (Itl K a) ds := by
  intro al' H' x fr
  obtain ⟨a', vs, e, q, rs⟩ := (r.mv x).lstIn
  cases e
  refine ⟨fun i d h => ?_, fun i h => ⟨vs, q, by rw [rs.length]; exact h⟩⟩
  obtain ⟨v, e1, e2⟩ := rs.getD h
  refine ⟨⟨vs, v, q, e1⟩, fun y H'' z => ⟨z.1, ?_⟩⟩
  have := z.2 vs q
  rw [e1] at this; cases this
  exact e2
theorem wk_tup {K : PySem.W.Frag} {al : Addr → Prop} {H : Hp} {a : Addr} {ds : List D} (r : Rep K al H (.ref a) (.tup ds)) : Wk K al H (Itt K a) ds := by
  intro al' H' x fr
  obtain ⟨a', vs, e, q, rs⟩ := (r.mv x).tupIn
  cases e
  refine ⟨fun i d h => ?_, fun i h => ⟨vs, q, by rw [rs.length]; exact h⟩⟩
  obtain ⟨v, e1, e2⟩ := rs.getD h
  refine ⟨⟨vs, v, q, e1⟩, fun y H'' z => ⟨z.1, ?_⟩⟩
  have := z.2 vs q
  rw [e1] at this; cases this
  exact e2
noncomputable def rangeL (lo : Int) (n : Nat) : List D := (List.range n).map fun (k : Nat) => D.int (lo + (k : Int))
theorem wk_range {K : PySem.W.Frag} {al : Addr → Prop} {H : Hp} {lo : Int} {n : Nat} : Wk K al H (Itr lo n) (rangeL lo n) := by
  intro al' H' x fr
  refine ⟨fun i d h => ?_, fun i h => ?_⟩
  · unfold rangeL at h
    rw [List.getElem?_map] at h
    by_cases hi : i < n
    · rw [List.getElem?_range hi] at h
      cases h
      exact ⟨hi, fun y H'' z => ⟨z.1, by rw [z.2]; exact .int _⟩⟩
    · rw [List.getElem?_eq_none (by simpa using hi)] at h; cases h
  · unfold rangeL at h
    show n ≤ i
    simpa using h
noncomputable def rng1 (ds : List D) : R (List D) := match ds with
  | [.int j] => if -(2 ^ 62) ≤ j ∧ j < 2 ^ 62 then .ok (rangeL 0 j.toNat) else .bad
  | _ => .bad
theorem di_range1 {a : Expr} {fs : Ev → R (List D)} {p pos : Pos} (hg : Gl X "range") (hm : X.mg "range" = none) (ha : DA X E [a] fs) (hs : starEach [a] X.env = [(false, eval a X.env)] := by rfl) : DI X E tg (.Call (.Name "range" p) [a] [] pos) (fun ρ => (fs ρ).bind rng1) := by
  obtain ⟨t, q, r, _⟩ := ha
  refine ⟨_, pi_range1 hg hm q hs, fun P H0 al H σ ρ R s h => r _ _ _ _ _ _ _ s (Aft.mono (Aft.split h) fun ds H1 s1 h1 vs rv => ?_)⟩
  unfold rng1 at h1
  split at h1
  · rename_i j
    cases rv with
    | cons r1 r2 =>
      cases r2; cases r1
      split at h1
      · rename_i z
        exact ⟨j, rfl, z.1, z.2, h1 H1 (.refl H1) _ wk_range⟩
      · exact h1.elim
  · exact h1.elim
end
section
variable {K : PySem.W.Frag} {P al : Addr → Prop} {H0 H : Hp} {σ : St} {ρ : Ev}
theorem RS.own (r : RS K P H0 al H σ ρ) {i : Nat} {p : Addr} {vs : List V} {ds : List D} (hi : i < ρ.length) (hp : H p = none) (q : Reps K al H vs ds) :
    RS K P H0 (fun b => al b ∧ b ≠ p) (upd H p (.lst vs)) (σ.set i (some (.ref p))) (ρ.set i (.ow ds)) ∧ Xt al H (fun b => al b ∧ b ≠ p) (upd H p (.lst vs)) := by
  have x : Xt al H (fun b => al b ∧ b ≠ p) (upd H p (.lst vs)) := fun b o _ hb e => ⟨⟨hb, ne_of_none e hp⟩, by rw [upd_ne (ne_of_none e hp)]; exact e⟩
  have s := same_upd (K := K) (o := HO.lst vs) hp
  have hs : i < σ.length := by rw [← r.len]; exact hi
  refine ⟨⟨r.same.trans s, s.tt r.tt, fun b hb => ?_, fun b hb => r.sub b hb.1, r.pf, by rw [List.length_set, List.length_set]; exact r.len, fun j d h => ?_, fun j ds' h => ?_, fun j k d1 d2 b h1 h2 h3 h4 => ?_⟩, x⟩
  · refine ⟨r.fresh b (s.free hb), fun z => ?_⟩
    rw [z, upd_same] at hb; cases hb
  · by_cases z : i = j
    · subst z; rw [List.getElem?_set_self hi] at h; cases h
    · rw [List.getElem?_set_ne z] at h
      obtain ⟨v, e1, e2⟩ := r.sh j d h
      exact ⟨v, by rw [List.getElem?_set_ne z]; exact e1, e2.mv x⟩
  · by_cases z : i = j
    · subst z
      rw [List.getElem?_set_self hi] at h; cases h
      exact ⟨p, vs, List.getElem?_set_self hs, upd_same, q.mv x, fun w => w.2 rfl, r.same.free hp⟩
    · rw [List.getElem?_set_ne z] at h
      obtain ⟨a, us, e1, e2, e3, e4, e5⟩ := r.ow j ds' h
      exact ⟨a, us, by rw [List.getElem?_set_ne z]; exact e1, s.at' _ _ nt_lst e2, e3.mv x, fun w => e4 w.1, e5⟩
  · have key : ∀ (l : Nat) (d : List D), (ρ.set i (.ow ds))[l]? = some (.ow d) → (σ.set i (some (.ref p)))[l]? = some (some (.ref b)) → (l = i ∧ b = p) ∨ (l ≠ i ∧ b ≠ p ∧ ρ[l]? = some (.ow d) ∧ σ[l]? = some (some (.ref b))) := by
      intro l d z1 z2
      by_cases z : i = l
      · subst z
        rw [List.getElem?_set_self hs] at z2
        left; refine ⟨rfl, ?_⟩
        cases z2; rfl
      · rw [List.getElem?_set_ne z] at z1 z2
        right
        obtain ⟨a, us, e1, e2, _⟩ := r.ow l d z1
        rw [e1] at z2; cases z2
        exact ⟨fun w => z w.symm, ne_of_none e2 hp, z1, e1⟩
    rcases key j d1 h1 h3 with ⟨a1, a2⟩ | ⟨a1, a2, a3, a4⟩
    · rcases key k d2 h2 h4 with ⟨b1, _⟩ | ⟨_, b2, _⟩
      · rw [a1, b1]
      · exact absurd a2 b2
    · rcases key k d2 h2 h4 with ⟨_, b2⟩ | ⟨_, _, b3, b4⟩
      · exact absurd b2 a2
      · exact r.apart j k d1 d2 b a3 b3 a4 b4
theorem RS.write (r : RS K P H0 al H σ ρ) {i : Nat} {a : Addr} {ds0 ds : List D} {vs : List V} (h : ρ[i]? = some (.ow ds0)) (e : σ[i]? = some (some (.ref a))) (q : Reps K al H vs ds) :
    RS K P H0 al (upd H a (.lst vs)) σ (ρ.set i (.ow ds)) ∧ Xt al H al (upd H a (.lst vs)) := by
  obtain ⟨a', us, e1, e2, e3, e4, e5⟩ := r.ow i ds0 h
  rw [e] at e1; cases e1
  have hi : i < ρ.length := (List.getElem?_eq_some_iff.mp h).1
  have ne : ∀ b, al b → b ≠ a := fun b hb z => e4 (z ▸ hb)
  have x : Xt al H al (upd H a (.lst vs)) := fun b o _ hb w => ⟨hb, by rw [upd_ne (ne b hb)]; exact w⟩
  have up : TbOk K H → TbOk K (upd H a (.lst vs)) := fun t => t.upd (fun ps w => by rw [e2] at w; cases w) fun q w => by rw [e2] at w; unfold CodeO at w; cases w
  refine ⟨⟨⟨fun b o n w => ?_, fun b w => ?_, fun t => up (r.same.tt t)⟩, up r.tt, fun b hb => ?_, r.sub, r.pf, by rw [List.length_set]; exact r.len, fun j d z => ?_, fun j d z => ?_, fun j k d1 d2 b z1 z2 z3 z4 => ?_⟩, x⟩
  · rw [upd_ne (ne_of_none w e5)]; exact r.same.at' b o n w
  · by_cases z : b = a
    · rw [z]; exact e5
    · rw [upd_ne z] at w; exact r.same.fr b w
  · by_cases z : b = a
    · rw [z, upd_same] at hb; cases hb
    · rw [upd_ne z] at hb; exact r.fresh b hb
  · by_cases y : i = j
    · subst y; rw [List.getElem?_set_self hi] at z; cases z
    · rw [List.getElem?_set_ne y] at z
      obtain ⟨v, w1, w2⟩ := r.sh j d z
      exact ⟨v, w1, w2.mv x⟩
  · by_cases y : i = j
    · subst y
      rw [List.getElem?_set_self hi] at z; cases z
      exact ⟨a, vs, e, upd_same, q.mv x, e4, e5⟩
    · rw [List.getElem?_set_ne y] at z
      obtain ⟨b, ws, w1, w2, w3, w4, w5⟩ := r.ow j d z
      refine ⟨b, ws, w1, ?_, w3.mv x, w4, w5⟩
      rw [upd_ne]; exact w2
      intro c; subst c
      exact y (r.apart i j ds0 d b h z e w1)
  · have back : ∀ (l : Nat) (d : List D), (ρ.set i (.ow ds))[l]? = some (.ow d) → ∃ d', ρ[l]? = some (.ow d') := fun l d w => by
      by_cases y : i = l
      · subst y; exact ⟨ds0, h⟩
      · rw [List.getElem?_set_ne y] at w; exact ⟨d, w⟩
    obtain ⟨d1', w1⟩ := back j d1 z1
    obtain ⟨d2', w2⟩ := back k d2 z2
    exact r.apart j k d1' d2' b w1 w2 z3 z4
noncomputable def frzS (i : Nat) (ρ : Ev) : Ev := match ρ[i]? with
  | some (.ow ds) => ρ.set i (.sh (.lst ds))
  | _ => ρ
theorem RS.freeze (r : RS K P H0 al H σ ρ) (i : Nat) : ∃ al', RS K P H0 al' H σ (frzS i ρ) ∧ Xt al H al' H := by
  unfold frzS
  split
  · rename_i ds h
    obtain ⟨a, vs, e1, e2, e3, e4, e5⟩ := r.ow i ds h
    have hi : i < ρ.length := (List.getElem?_eq_some_iff.mp h).1
    have x : Xt al H (fun b => al b ∨ b = a) H := .sub fun _ z => .inl z
    refine ⟨fun b => al b ∨ b = a, ⟨r.same, r.tt, fun b hb => .inl (r.fresh b hb), fun b hb => ?_, r.pf, by rw [List.length_set]; exact r.len, fun j d z => ?_, fun j d z => ?_, fun j k d1 d2 b z1 z2 z3 z4 => ?_⟩, x⟩
    · rcases hb with hb | rfl
      · exact r.sub b hb
      · exact r.pf _ e5
    · by_cases y : i = j
      · subst y
        rw [List.getElem?_set_self hi] at z; cases z
        exact ⟨.ref a, e1, .lst (.inl ⟨.inr rfl, .inl e2⟩) (e3.mv x)⟩
      · rw [List.getElem?_set_ne y] at z
        obtain ⟨v, w1, w2⟩ := r.sh j d z
        exact ⟨v, w1, w2.mv x⟩
    · by_cases y : i = j
      · subst y; rw [List.getElem?_set_self hi] at z; cases z
      · rw [List.getElem?_set_ne y] at z
        obtain ⟨b, ws, w1, w2, w3, w4, w5⟩ := r.ow j d z
        refine ⟨b, ws, w1, w2, w3.mv x, fun w => ?_, w5⟩
        rcases w with w | rfl
        · exact w4 w
        · exact y (r.apart i j ds d b h z e1 w1)
    · have back : ∀ (l : Nat) (d : List D), (ρ.set i (.sh (.lst ds)))[l]? = some (.ow d) → ρ[l]? = some (.ow d) := fun l d w => by
        by_cases y : i = l
        · subst y; rw [List.getElem?_set_self hi] at w; cases w
        · rw [List.getElem?_set_ne y] at w; exact w
      exact r.apart j k d1 d2 b (back j d1 z1) (back k d2 z2) z3 z4
  · exact ⟨al, r, .refl⟩
end
section
variable {X : Cx} {E : XK} {e : Expr} {sts : List Stmt} {st : Stmt} {g : Ev → RT} {f : Ev → R D} {fn : Ev → R (List D)} {pos : Pos}
theorem dss_freeze (i : Nat) (h : DSs X E sts g) : DSs X E sts (fun ρ => g (frzS i ρ)) := by
  obtain ⟨t, p, r⟩ := h
  refine ⟨t, p, fun P H0 al H σ ρ D s h => ?_⟩
  obtain ⟨al', s', x⟩ := s.freeze i
  exact r _ _ _ _ _ _ _ s' (okS.ext h x)
noncomputable def flatD : D → Bool
  | .non => true
  | .bl _ => true
  | .int _ => true
  | .str _ => true
  | _ => false
theorem Rep.flat {K : PySem.W.Frag} {al al' : Addr → Prop} {H H' : Hp} {v : V} {d : D} (r : Rep K al H v d) (h : flatD d = true) : Rep K al' H' v d := by
  cases r with
  | non => exact .non
  | bl b => exact .bl b
  | int b => exact .int b
  | str b => exact .str b
  | _ => cases h
noncomputable def noEx {α : Type} (r : R α) : R α := match r with
  | .ok a => .ok a
  | _ => .bad
theorem dt_borrow {c : Expr} {f : Ev → R Bool} (i : Nat) (h : DT X E c f) : DT X E c (fun ρ => noEx (f (frzS i ρ))) := by
  obtain ⟨t, p, r⟩ := h
  refine ⟨t, p, fun P H0 al H σ ρ Q s h => ?_⟩
  obtain ⟨al', s', x⟩ := s.freeze i
  refine r _ _ _ _ _ _ _ s' ?_
  dsimp only at h
  cases q : f (frzS i ρ) with
  | bad => rw [q] at h; exact h.elim
  | ex c ns ds => rw [q] at h; exact h.elim
  | ok d => rw [q] at h; exact h
noncomputable def sOwn (i : Nat) (f : Ev → R (List D)) : Ev → RT := fun ρ => toS (f ρ) fun ds => if i < ρ.length then .nx (ρ.set i (.ow ds)) else .bad
theorem ds_own (i : Nat) {x : Str} {pos' : Pos} (hN : X.N.Nodup) (hi : X.N[i]? = some x) (hx : Loc X.env.scope x) (he : DN X E e fn) (hs : swapsWith e (some (.Name x pos')) pos.line X.env = pure false := by rfl) (hf : X.fn x = true ∨ X.env.scope.names.lookup x = some .local := by first | exact .inl rfl | exact .inr rfl | assumption) :
    DS X E (.Assign [.Name x pos'] e pos) (sOwn i fn) := by
  obtain ⟨t, p, r⟩ := he
  refine ⟨_, ps_set hN hi hx p hs hf, fun P H0 al H σ ρ D s h => r _ _ _ _ _ _ _ s (Aft.mono (okS.ofR h s) fun ds H1 s1 h1 q vs hq rv => ?_)⟩
  by_cases z : i < ρ.length
  · simp only [z, if_true] at h1
    obtain ⟨s2, x2⟩ := (s.grow s1).own z hq rv
    exact h1 _ _ _ x2 s2
  · simp only [z, if_false] at h1
    exact h1.elim
noncomputable def sApp (i : Nat) (f : Ev → R D) : Ev → RT := fun ρ => match ρ[i]? with
  | some (.ow ds) => toS (f ρ) fun d => if ds.length < sizeLine then .nx (ρ.set i (.ow (ds ++ [d]))) else .bad
  | _ => .bad
theorem ds_append (i : Nat) {o : Expr} {x : Str} {opos apos cpos : Pos} (pa : PlainAttrs "list") (slot : Slot "list" "append" "list.append") (hty : typeOf (.builtin "list.append") = pure (.type "method_descriptor")) (he : DE X E e f)
    (hN : X.N[i]? = some x := by rfl) (hv : Vis X.env.scope x := by first | exact Or.inl rfl | exact Or.inr (Or.inl rfl) | exact Or.inr (Or.inr rfl)) (hd : (x == ("__debug__" : Str)) = false := by decide)
    (hcd : (x == ("__classdict__" : Str)) = false := by decide)
    (hbase : attributeBase (.Name x opos) "append" X.env (eval (.Name x opos) X.env) = eval (.Name x opos) X.env := by rfl)
    (hfew : ((backTo cpos (starEach [e] X.env)).all (fun x => !x.1) && (backToKw cpos (keywordEach [] X.env)).all (fun x => x.1.isSome)
      && decide ([e].length + ([] : List Keyword).length + (if ([] : List Keyword).isEmpty then 0 else 1) < 30)) = true := by rfl)
    (hline : (apos.endLine == cpos.line) = true := by rfl) (hs : starEach [e] X.env = (false, eval e X.env) :: starEach [] X.env := by rfl) (hplain : (backTo cpos (starEach [] X.env)).any (·.1) = false := by rfl)
    (hsw : swapsWith (.Call (.Attribute (.Name x opos) "append" apos) [e] [] cpos) none pos.line X.env = pure false := by rfl) :
    DS X E (.Expr (.Call (.Attribute (.Name x opos) "append" apos) [e] [] cpos) pos) (sApp i f) := by
  obtain ⟨t, p, r⟩ := he
  refine ⟨_, ps_expr (pe_bm pa slot hty mt_append (pe_var hN hv hd hcd) (pa_cons p pa_nil hs) hbase hfew hline hs hplain) hsw, fun P H0 al H σ ρ D s h => ?_⟩
  unfold sApp at h
  split at h
  · rename_i ds q
    obtain ⟨a, vs, e1, e2, e3, e4, e5⟩ := s.ow i ds q
    refine ⟨_, e1, .inl ⟨rfl, vs, .inl (.inl e2)⟩, r _ _ _ _ _ _ _ s (Aft.mono (okS.ofR h s) fun d H1 s1 h1 v rv => ?_)⟩
    by_cases z : ds.length < sizeLine
    · simp only [z, if_true] at h1
      obtain ⟨s2, x2⟩ := (s.grow s1).write q e1 ((e3.up s1).append (.cons rv .nil))
      exact ⟨a, vs, v, rfl, rfl, s1.at' _ _ nt_lst e2, by rw [e3.length]; exact z, h1 _ _ _ x2 s2⟩
    · simp only [z, if_false] at h1
      exact h1.elim
  · exact h.elim
end
section
variable {P : Program} {w : World} {K : PySem.W.Frag} {mg : Str → Option Value} {base : Heap} {N : List Str} {qual : Str} {scope : Scope} {f : Addr} {cd : Value} {A : Around} {outer : List Env} {s : Shared} {H : Hp} {E : XK}
theorem ds_raise0 {x : Str} {C : Addr} {bmB : List Value} {B newId initId : String} {np cpos pos : Pos} (FB : ExcBaseFacts B newId initId bmB) (q : PySem.W.excIn K C bmB newId = true)
    (hg : Gl (cxOf (CXx P w) P w K mg base N qual scope f cd A outer s H E) x) (hm : mg x = some (.ref C)) (hdb : (x == ("__debug__" : Str)) = false := by decide) :
    DS (cxOf (CXx P w) P w K mg base N qual scope f cd A outer s H E) E (.Raise (some (.Call (.Name x np) [] [] cpos)) none pos) (fun _ => .ex C [] []) :=
  ⟨_, ps_raise0 FB q hg hm hdb, fun P0 H0 al H1 σ ρ D s1 h => h none H1 s1.same ⟨rfl, rfl⟩⟩
end
section
variable {X : Cx} {E : XK}
end
end P2
namespace P2
open PySem L2 PyProof.Rows
noncomputable abbrev bits (x : Int) : Nat := Builtin.Int.intBits x
theorem opr_or {X : Cx} {f : Value → Value → Sem Value} {r r' : R2} (h : OpR X f r) (h' : OpR X f r') : OpR X f (fun x y H Q => r x y H Q ∨ r' x y H Q) :=
  fun pins s σ H x y v u Q I rx ry q => q.elim (h pins s σ H x y v u Q I rx ry) (h' pins s σ H x y v u Q I rx ry)
noncomputable def iB (C : Int → Int → Bool) (g : Int → Int → D) (x y : D) : R D := match x, y with
  | .int i, .int j => if C i j = true then .ok (g i j) else .bad
  | _, _ => .bad
section
variable {X : Cx} {E : XK}
theorem opd_I {op : Value → Value → Sem Value} {C : Int → Int → Prop} {Cb : Int → Int → Bool} {g : Int → Int → V} {gd : Int → Int → D} (ho : OpR X op (rI C g)) (hC : ∀ i j, Cb i j = true → C i j) (hg : ∀ i j K al H, Rep K al H (g i j) (gd i j)) : OpD X E op (iB Cb gd) := by
  refine ⟨_, ho, fun al H x y dx dy Q fr rx ry h => ?_⟩
  unfold iB at h
  split at h
  · rename_i i j
    cases rx; cases ry
    split at h
    · rename_i z
      exact ⟨i, j, rfl, rfl, hC i j z, h H (.refl H) _ (hg i j _ _ _)⟩
    · exact h.elim
  · exact h.elim
theorem opd_I0 {op : Value → Value → Sem Value} {g : Int → Int → V} {gd : Int → Int → D} (ho : OpR X op (rI0 g)) (hg : ∀ i j K al H, Rep K al H (g i j) (gd i j)) : OpD X E op (iB (fun _ _ => true) gd) := by
  refine ⟨_, ho, fun al H x y dx dy Q fr rx ry h => ?_⟩
  unfold iB at h
  split at h
  · rename_i i j
    cases rx; cases ry
    exact ⟨i, j, rfl, rfl, h H (.refl H) _ (hg i j _ _ _)⟩
  · exact h.elim
noncomputable def subD : D → D → R D := iB (fun _ _ => true) fun i j => .int (i - j)
theorem op_subD : OpD X E (binaryOp .Sub) subD := opd_I0 op_sub fun _ _ _ _ _ => .int _
noncomputable def okMul (i j : Int) : Bool := decide (bits i ≤ 1048576) && decide (bits j ≤ 1048576)
noncomputable def okDiv (_ j : Int) : Bool := decide (j ≠ 0) && decide (bits j ≤ 9000)
noncomputable def okPow (i j : Int) : Bool := decide (0 ≤ j) && decide (j ≤ 1000000) && decide (i.natAbs < 2 ^ 64)
noncomputable def fdivD : D → D → R D := iB okDiv fun i j => .int (i.fdiv j)
theorem op_fdivD : OpD X E (binaryOp .FloorDiv) fdivD := opd_I op_fdivB (fun i j h => by unfold okDiv at h; simpa [CDivB] using h) fun _ _ _ _ _ => .int _
noncomputable def modD : D → D → R D := iB (fun _ j => decide (j ≠ 0)) fun i j => .int (i.fmod j)
theorem op_modD : OpD X E (binaryOp .Mod) modD := opd_I op_modN (fun i j h => by simpa using h) fun _ _ _ _ _ => .int _
noncomputable def powD : D → D → R D := iB okPow fun i j => .int (i ^ j.toNat)
theorem op_powD : OpD X E (binaryOp .Pow) powD := opd_I op_pow (fun i j h => by unfold okPow at h; simp only [Bool.and_eq_true, decide_eq_true_eq] at h; exact ⟨h.1.1, h.1.2, h.2⟩) fun _ _ _ _ _ => .int _
noncomputable def ltD : D → D → R D := iB (fun _ _ => true) fun i j => .bl (decide (i < j))
noncomputable def leD : D → D → R D := iB (fun _ _ => true) fun i j => .bl (decide (i ≤ j))
noncomputable def gtD : D → D → R D := iB (fun _ _ => true) fun i j => .bl (decide (j < i))
noncomputable def geD : D → D → R D := iB (fun _ _ => true) fun i j => .bl (decide (j ≤ i))
theorem op_ltD : OpD X E (compareOp .Lt) ltD := opd_I0 op_lt fun _ _ _ _ _ => .bl _
theorem op_leD : OpD X E (compareOp .LtE) leD := opd_I0 op_le fun _ _ _ _ _ => .bl _
theorem op_gtD : OpD X E (compareOp .Gt) gtD := opd_I0 op_gt fun _ _ _ _ _ => .bl _
theorem op_geD : OpD X E (compareOp .GtE) geD := opd_I0 op_ge fun _ _ _ _ _ => .bl _
noncomputable def negD : D → R D
  | .int i => .ok (.int (-i))
  | _ => .bad
theorem un_negD : UnD X E (unaryOp .USub) negD := by
  refine ⟨_, un_neg, fun al H x dx Q fr rx h => ?_⟩
  unfold negD at h
  split at h
  · cases rx; exact ⟨_, rfl, h H (.refl H) _ (.int _)⟩
  · exact h.elim
noncomputable def SqF (K : PySem.W.Frag) (H : Hp) (a : Addr) (xs : List V) : Prop := Rd H a (.lst xs) ∨ KL K a xs
theorem SqF.is {X : Cx} {pins : List (Addr × Obj)} {s : Shared} {σ : L2.St} {H : Hp} {a : Addr} {xs : List V} (I : Inv X pins σ H s) (h : SqF X.K H a xs) : ∃ its n, Vals xs its ∧ s.heap.get? a = some { cls := .type "list", data := .seq its.toArray n } := by
  rcases h with h | ⟨its, n, h1, h2, h3⟩
  · obtain ⟨z, its, n, r, e⟩ := h.ok I.hok
    exact ⟨its, n, r, e⟩
  · exact ⟨its, n, h3, I.kIn a _ h1⟩
noncomputable def rCatR (K : PySem.W.Frag) : R2 := fun x y H Q => ∃ l b xs zs, x = .ref l ∧ y = .ref b ∧ SqF K H l xs ∧ SqF K H b zs ∧ xs.length + zs.length ≤ sizeLine ∧ ∀ p, H p = none → Q (.ref p) (upd H p (.lst (xs ++ zs)))
theorem op_catR : OpR X (binaryOp .Add) (rCatR X.K) := by
  intro pins s σ H x y v u Q I rx ry h
  obtain ⟨l, b, xs, zs, rfl, rfl, hH, hB, hz, q⟩ := h
  cases rx
  cases ry
  obtain ⟨its, n, r, e⟩ := hH.is I
  obtain ⟨its2, n2, r2, e2⟩ := hB.is I
  have hl := r.length
  have hl2 := r2.length
  refine PySem.P.add_list e e2 ?_ (by rw [List.size_toArray, List.size_toArray]; omega)
  have ea : its.toArray ++ its2.toArray = (its ++ its2).toArray := by simp
  rw [ea]
  exact ⟨.ref _, _, I.lnew (t' := s.toks) (r.append r2) (by rw [List.length_append]; omega), rfl, q _ I.fresh⟩
noncomputable def addD : D → D → R D
  | .int i, .int j => .ok (.int (i + j))
  | .str i, .str j => if i.length + j.length ≤ sizeLine then .ok (.str (i ++ j)) else .bad
  | .lst xs, .lst ys => if xs.length + ys.length ≤ sizeLine then .ok (.lst (xs ++ ys)) else .bad
  | _, _ => .bad
theorem op_addD : OpD X E (binaryOp .Add) addD := by
  refine ⟨_, opr_or op_add (opr_or op_add_str op_catR), fun al H x y dx dy Q fr rx ry h => ?_⟩
  unfold addD at h
  split at h
  · cases rx; cases ry; exact .inl ⟨_, _, rfl, rfl, h H (.refl H) _ (.int _)⟩
  · cases rx; cases ry
    split at h
    · rename_i z; exact .inr (.inl ⟨_, _, rfl, rfl, z, h H (.refl H) _ (.str _)⟩)
    · exact h.elim
  · split at h
    · rename_i z
      obtain ⟨a, vs, rfl, h1, h2⟩ := rx.lstRd
      obtain ⟨b, ws, rfl, h3, h4⟩ := ry.lstRd
      exact .inr (.inr ⟨a, b, vs, ws, rfl, rfl, h1, h3, by rw [h2.length, h4.length]; exact z, fun p hp => h _ (same_upd hp) _ ((h2.append h4).lstNew hp (fr p hp))⟩)
    · exact h.elim
  · exact h.elim
noncomputable def okMulS (x : Str) (n : Int) : Bool := !(decide (n < -(2 ^ 63 : Int)) || decide (n ≥ 2 ^ 63)) && decide (x.length * n.toNat ≤ 1000000) && decide (x.length ≤ 1000000) && decide (n ≤ 1000000)
theorem op_mul_str : OpR X (binaryOp .Mult) (fun x y H Q => ∃ i n, x = .str i ∧ y = .int n ∧ MulOk i n ∧ Q (.str (Txt.mul i n)) H) := by
  intro pins s σ H x y v u Q I rx ry h
  obtain ⟨i, j, rfl, rfl, hz, q⟩ := h
  obtain ⟨t, rfl⟩ := rx
  obtain ⟨t', rfl⟩ := ry
  exact SB.mul hz fun t'' k => ⟨.str _, H, I.tok _, ⟨_, rfl⟩, q⟩
theorem mulOk_of {x : Str} {n : Int} (h : okMulS x n = true) : MulOk x n := by
  unfold okMulS at h
  simp only [Bool.and_eq_true, decide_eq_true_eq, Bool.not_eq_true'] at h
  obtain ⟨⟨⟨h1, h2⟩, h3⟩, h4⟩ := h
  refine ⟨h1, fun h5 _ => ?_, fun _ _ => ?_⟩
  · have h6 : (1 : Int) ≤ n := by omega
    have h7 : (1000000 : Int) ≤ (2 ^ 63 - 1) / n := by
      apply (Int.le_ediv_iff_mul_le (by omega)).mpr
      have : (1000000 : Int) * n ≤ 1000000 * 1000000 := Int.mul_le_mul_of_nonneg_left h4 (by decide)
      omega
    omega
  · have : sizeLine = 16777216 := sizeLine_eq
    unfold Builtin.Str.tooLong
    simp only [decide_eq_false_iff_not]
    omega
noncomputable def flatEq : D → D → Option Bool
  | .non, .non => some true
  | .int i, .int j => some (decide (i = j))
  | .str i, .str j => some (decide (i = j))
  | .bl i, .bl j => some (decide (i = j))
  | .non, .int _ => some false
  | .int _, .non => some false
  | .non, .str _ => some false
  | .str _, .non => some false
  | .non, .bl _ => some false
  | .bl _, .non => some false
  | .int _, .str _ => some false
  | .str _, .int _ => some false
  | _, _ => none
noncomputable def eqSD (x y : D) : R D := match flatEq x y with
  | some b => .ok (.bl b)
  | none => .bad
noncomputable def neSD (x y : D) : R D := match flatEq x y with
  | some b => .ok (.bl (!b))
  | none => .bad
theorem flat_eq {K : PySem.W.Frag} {al : Addr → Prop} {H : Hp} {x y : V} {dx dy : D} {b : Bool} (rx : Rep K al H x dx) (ry : Rep K al H y dy) (h : flatEq dx dy = some b) : scal x y = true ∧ decide (x = y) = b := by
  unfold flatEq at h
  split at h <;> first | (cases h; done) | (cases rx; cases ry; cases h; refine ⟨rfl, ?_⟩; simp)
theorem op_eqSD : OpD X E (compareOp .Eq) eqSD := by
  refine ⟨_, op_eq, fun al H x y dx dy Q fr rx ry h => ?_⟩
  unfold eqSD at h
  cases q : flatEq dx dy with
  | none => rw [q] at h; exact h.elim
  | some b =>
    rw [q] at h
    obtain ⟨h1, h2⟩ := flat_eq rx ry q
    exact ⟨h1, by rw [h2]; exact h H (.refl H) _ (.bl b)⟩
theorem op_neSD : OpD X E (compareOp .NotEq) neSD := by
  refine ⟨_, op_ne, fun al H x y dx dy Q fr rx ry h => ?_⟩
  unfold neSD at h
  cases q : flatEq dx dy with
  | none => rw [q] at h; exact h.elim
  | some b =>
    rw [q] at h
    obtain ⟨h1, h2⟩ := flat_eq rx ry q
    exact ⟨h1, by rw [h2]; exact h H (.refl H) _ (.bl _)⟩
noncomputable def inSD : D → D → R D
  | .str i, .str j => .ok (.bl (Txt.contains j i))
  | _, _ => .bad
theorem Reps.atI {K : PySem.W.Frag} {al : Addr → Prop} {H : Hp} {vs : List V} {ds : List D} (r : Reps K al H vs ds) {i : Int} {d : D} (h : L2.atI ds i = some d) : ∃ v, L2.atI vs i = some v ∧ Rep K al H v d := by
  unfold L2.atI at h ⊢
  rw [r.length]
  cases q : ixN ds.length i with
  | none => rw [q] at h; cases h
  | some j =>
    rw [q] at h
    exact r.getD h
noncomputable def ixD : D → D → R D
  | .lst ds, .int i => match L2.atI ds i with
    | some d => .ok d
    | none => .bad
  | .tup ds, .int i => match L2.atI ds i with
    | some d => .ok d
    | none => .bad
  | .str z, .int i => if z.length ≤ sizeLine then (match L2.atI z.cps.toList i with
    | some c => .ok (.str ⟨#[c]⟩)
    | none => .bad) else .bad
  | _, _ => .bad
theorem ix_D : IxD X E ixD := by
  refine ⟨_, ix_seq, fun al H x y dx dy Q fr rx ry h => ?_⟩
  unfold ixD at h
  split at h
  · rename_i ds i
    cases ry
    cases q : L2.atI ds i with
    | none => rw [q] at h; exact h.elim
    | some d =>
      rw [q] at h
      obtain ⟨a, vs, rfl, h1, h2⟩ := rx.lstIn
      obtain ⟨v, e1, e2⟩ := Reps.atI h2 q
      exact .inl ⟨a, vs, i, v, rfl, rfl, h1, e1, h H (.refl H) _ e2⟩
  · rename_i ds i
    cases ry
    cases q : L2.atI ds i with
    | none => rw [q] at h; exact h.elim
    | some d =>
      rw [q] at h
      obtain ⟨a, vs, rfl, h1, h2⟩ := rx.tupIn
      obtain ⟨v, e1, e2⟩ := Reps.atI h2 q
      exact .inr (.inl ⟨a, vs, i, v, rfl, rfl, h1, e1, h H (.refl H) _ e2⟩)
  · rename_i z i
    cases rx; cases ry
    split at h
    · rename_i hz
      cases q : L2.atI z.cps.toList i with
      | none => rw [q] at h; exact h.elim
      | some c => rw [q] at h; exact .inr (.inr ⟨z, i, c, rfl, rfl, hz, q, h H (.refl H) _ (.str _)⟩)
    · exact h.elim
  · exact h.elim
noncomputable def rSlS : V → Option Int → Option Int → Hp → VK → Prop := fun x lo hi H Q => ∃ z, x = .str z ∧ z.length ≤ sizeLine ∧ Q (.str (Txt.slice z lo hi)) H
theorem sl_str : SlR X rSlS := by
  intro pins s σ H x v vl vu lo hi sl Q I rx hs pl pu h
  obtain ⟨z, rfl, hz, q⟩ := h
  obtain ⟨t, rfl⟩ := rx
  refine ⟨"str", _, PySem.F.slot_str_getitem.lookup, typeIs_str s z t, ?_⟩
  obtain ⟨o, h1, h2, h3⟩ := hs
  cases pl with
  | none =>
    cases pu with
    | none => exact wpAny_getItem_str_slice (l := none) (u := none) (st := none) ⟨o, h1, h2, h3⟩ rfl (post_val_or_str ⟨Nat.le_trans (Txt.slice_le z none none) hz, fun t' k => ⟨.str _, H, I.tok _, ⟨_, rfl⟩, q⟩⟩)
    | int j u => exact wpAny_getItem_str_slice (l := none) (u := some (j, u)) (st := none) ⟨o, h1, h2, h3⟩ rfl (post_val_or_str ⟨Nat.le_trans (Txt.slice_le z none (some j)) hz, fun t' k => ⟨.str _, H, I.tok _, ⟨_, rfl⟩, q⟩⟩)
  | int i ui =>
    cases pu with
    | none => exact wpAny_getItem_str_slice (l := some (i, ui)) (u := none) (st := none) ⟨o, h1, h2, h3⟩ rfl (post_val_or_str ⟨Nat.le_trans (Txt.slice_le z (some i) none) hz, fun t' k => ⟨.str _, H, I.tok _, ⟨_, rfl⟩, q⟩⟩)
    | int j u => exact wpAny_getItem_str_slice (l := some (i, ui)) (u := some (j, u)) (st := none) ⟨o, h1, h2, h3⟩ rfl (post_val_or_str ⟨Nat.le_trans (Txt.slice_le z (some i) (some j)) hz, fun t' k => ⟨.str _, H, I.tok _, ⟨_, rfl⟩, q⟩⟩)
noncomputable def cutD (xs : List D) (lo hi : Option Int) : List D := (xs.drop (HT.sIx xs.length 0 lo)).take (HT.sIx xs.length xs.length hi - HT.sIx xs.length 0 lo)
theorem Reps.cut {K : PySem.W.Frag} {al : Addr → Prop} {H : Hp} {vs : List V} {ds : List D} (r : Reps K al H vs ds) (lo hi : Option Int) : Reps K al H (cutV vs lo hi) (cutD ds lo hi) := by
  unfold cutV cutD
  rw [r.length]
  exact (r.drop _).take _
noncomputable def slD : D → Option Int → Option Int → R D
  | .lst ds, lo, hi => .ok (.lst (cutD ds lo hi))
  | .str z, lo, hi => if z.length ≤ sizeLine then .ok (.str (Txt.slice z lo hi)) else .bad
  | _, _, _ => .bad
theorem sl_D : SlD X E slD := by
  refine ⟨_, sl_list.or sl_str, fun al H x dx lo hi Q fr rx h => ?_⟩
  unfold slD at h
  split at h
  · obtain ⟨a, vs, rfl, h1, h2⟩ := rx.lstIn
    exact .inl ⟨a, vs, rfl, h1, fun p hp => h _ (same_upd hp) _ ((h2.cut lo hi).lstNew hp (fr p hp))⟩
  · cases rx
    split at h
    · rename_i hz; exact .inr ⟨_, rfl, hz, h H (.refl H) _ (.str _)⟩
    · exact h.elim
  · exact h.elim
noncomputable def lenD : List D → R D
  | [.str z] => if z.length ≤ sizeLine then .ok (.int z.length) else .bad
  | [.lst ds] => .ok (.int ds.length)
  | [.tup ds] => .ok (.int ds.length)
  | _ => .bad
theorem Reps.one {K : PySem.W.Frag} {al : Addr → Prop} {H : Hp} {vs : List V} {d : D} (r : Reps K al H vs [d]) : ∃ v, vs = [v] ∧ Rep K al H v d := by
  cases r with
  | cons a b => cases b; exact ⟨_, rfl, a⟩
theorem Reps.two {K : PySem.W.Frag} {al : Addr → Prop} {H : Hp} {vs : List V} {d e : D} (r : Reps K al H vs [d, e]) : ∃ v u, vs = [v, u] ∧ Rep K al H v d ∧ Rep K al H u e := by
  cases r with
  | cons a b => obtain ⟨u, rfl, q⟩ := Reps.one b; exact ⟨_, _, rfl, a, q⟩
theorem call_lenD : CallD X E (.builtin "len") lenD := by
  refine ⟨_, call_len_str.or call_len_seq, fun al H xs ds Q fr r h => ?_⟩
  unfold lenD at h
  split at h
  · obtain ⟨v, rfl, q⟩ := Reps.one r
    cases q
    split at h
    · rename_i hz; exact .inl ⟨_, rfl, hz, h H (.refl H) _ (.int _)⟩
    · exact h.elim
  · obtain ⟨v, rfl, q⟩ := Reps.one r
    obtain ⟨a, vs, rfl, h1, h2⟩ := q.lstIn
    exact .inr ⟨a, vs, rfl, .inl h1, by rw [h2.length]; exact h H (.refl H) _ (.int _)⟩
  · obtain ⟨v, rfl, q⟩ := Reps.one r
    obtain ⟨a, vs, rfl, h1, h2⟩ := q.tupIn
    exact .inr ⟨a, vs, rfl, .inr h1, by rw [h2.length]; exact h H (.refl H) _ (.int _)⟩
  · exact h.elim
noncomputable def absD : List D → R D
  | [.int i] => .ok (.int (if i < 0 then -i else i))
  | _ => .bad
theorem call_absD : CallD X E (.builtin "abs") absD := by
  refine ⟨_, call_abs, fun al H xs ds Q fr r h => ?_⟩
  unfold absD at h
  split at h
  · obtain ⟨v, rfl, q⟩ := Reps.one r
    cases q
    exact ⟨_, rfl, h H (.refl H) _ (.int _)⟩
  · exact h.elim
noncomputable def max2D : List D → R D
  | [.int i, .int j] => .ok (.int (if j > i then j else i))
  | _ => .bad
noncomputable def intD : List D → R D
  | [.str z] => match PySem.intText? z with
    | some n => if z.length ≤ 640 then .ok (.int n) else .bad
    | none => .bad
  | _ => .bad
noncomputable def boolsD : List D → Option (List Bool)
  | [] => some []
  | .bl b :: r => (boolsD r).map (b :: ·)
  | _ => none
theorem Reps.bools {K : PySem.W.Frag} {al : Addr → Prop} {H : Hp} : ∀ {vs : List V} {ds : List D} {bs : List Bool}, Reps K al H vs ds → boolsD ds = some bs → vs = bs.map V.bl
  | _, [], bs, r, h => by cases r; cases h; rfl
  | _, .bl b :: ds, bs, r, h => by
    unfold boolsD at h
    obtain ⟨bs', h1, h2⟩ := Option.map_eq_some_iff.mp h
    subst h2
    cases r with
    | cons a q => cases a; rw [Reps.bools q h1]; rfl
  | _, .non :: _, _, _, h => by cases h
  | _, .int _ :: _, _, _, h => by cases h
  | _, .str _ :: _, _, _, h => by cases h
  | _, .ty _ :: _, _, _, h => by cases h
  | _, .ref _ :: _, _, _, h => by cases h
  | _, .tup _ :: _, _, _, h => by cases h
  | _, .lst _ :: _, _, _, h => by cases h
  | _, .exc _ _ _ :: _, _, _, h => by cases h
noncomputable def allD : List D → R D
  | [.lst ds] => match boolsD ds with
    | some bs => .ok (.bl (bs.all id))
    | none => .bad
  | _ => .bad
noncomputable def anyD : List D → R D
  | [.lst ds] => match boolsD ds with
    | some bs => .ok (.bl (bs.any id))
    | none => .bad
  | _ => .bad
noncomputable def startsD : D → List D → R D
  | .str i, [.str j] => .ok (.bl (Txt.startswith i j))
  | _, _ => .bad
noncomputable def zfillD : D → List D → R D
  | .str z, [.int i] => if PadOk i = true then .ok (.str (Txt.zfill z i)) else .bad
  | _, _ => .bad
noncomputable def fmtD : D → R D
  | .str z => if z.length ≤ sizeLine then .ok (.str z) else .bad
  | .int i => if i.natAbs.log2 < 1920 then .ok (.str (toString i)) else .bad
  | _ => .bad
noncomputable def jNil (out : Str) : Ev → R D := fun _ => if out.length ≤ sizeLine then .ok (.str out) else .bad
noncomputable def jCons (a : Ev → R D) (r : Str → Ev → R D) (out : Str) : Ev → R D := fun ρ => (a ρ).bind fun x => match x with
  | .str y => if (out ++ y).length ≤ sizeLine then r (out ++ y) ρ else .bad
  | _ => .bad
end
end P2
namespace P2
open PySem L2 PyProof.Rows
noncomputable def wE (K : PySem.W.Frag) (E : XK) (f : Ev → R D) : TE := fun σ H Q => ∃ P H0 al ρ, RS K P H0 al H σ ρ ∧ Aft K al E H (f ρ) (fun d H' => ∀ v, Rep K al H' v d → Q v H')
noncomputable def wT (K : PySem.W.Frag) (E : XK) (f : Ev → R Bool) : TT := fun σ H Q => ∃ P H0 al ρ, RS K P H0 al H σ ρ ∧ Aft K al E H (f ρ) Q
noncomputable def wG (K : PySem.W.Frag) (l : List Nat) (a : D → Ev → Option Ev) : TG := fun v σ H Q => ∃ P H0 al ρ d, RS K P H0 al H σ ρ ∧ Rep K al H v d ∧ ∃ ρ', a d ρ = some ρ' ∧ ∀ σ', Kp l σ σ' → RS K P H0 al H σ' ρ' → Q σ' H
theorem DE.w {X : Cx} {E : XK} {e : Expr} {f : Ev → R D} (h : DE X E e f) : PE X e (wE X.K E f) := by
  obtain ⟨t, p, r⟩ := h
  intro pins s σ H Q I hq
  obtain ⟨P, H0, al, ρ, s1, a⟩ := hq
  exact p pins s σ H Q I (r P H0 al H σ ρ Q s1 a)
theorem DT.w {X : Cx} {E : XK} {e : Expr} {f : Ev → R Bool} (h : DT X E e f) : PT X e (wT X.K E f) := by
  obtain ⟨t, p, r⟩ := h
  intro pins s σ H Q I hq
  obtain ⟨P, H0, al, ρ, s1, a⟩ := hq
  exact p pins s σ H Q I (r P H0 al H σ ρ Q s1 a)
theorem DG.w {X : Cx} {tg : Expr} {l : List Nat} {a : D → Ev → Option Ev} (h : DG X tg l a) : PG X tg (wG X.K l a) := by
  obtain ⟨t, p, r⟩ := h
  intro pins s σ H v u Q I rv hq
  obtain ⟨P, H0, al, ρ, d, s1, rd, a⟩ := hq
  exact p pins s σ H v u Q I rv (r P H0 al H σ ρ v d Q s1 rd a)
noncomputable def DFt (X : Cx) (ifs : List Expr) (f : Ev → R Bool) : Prop := PF X ifs (wT X.K (fun _ _ _ => False) f)
theorem df_nil {X : Cx} : DFt X [] (fun _ => .ok true) := fun pins s σ H Q I h => by
  obtain ⟨P, H0, al, ρ, s1, a⟩ := h
  exact pf_nil pins s σ H Q I (a H (.refl H))
theorem df_one {X : Cx} {c : Expr} {f : Ev → R Bool} (h : DT X (fun _ _ _ => False) c f) : DFt X [c] f := pf_one h.w
noncomputable def capD (tn : Nat) (ci : List Nat) (ρ : Ev) : Ev := List.replicate tn .no ++ ci.map fun i => match ρ[i]? with
  | some (.sh d) => .sh d
  | _ => .no
noncomputable def okO {α : Type} : R α → Option α
  | .ok a => some a
  | _ => none
noncomputable def ofO {α : Type} : Option α → R α
  | some a => .ok a
  | none => .bad
noncomputable def compO (a : D → Ev → Option Ev) (c : Ev → R Bool) (e : Ev → R D) (ρ0 : Ev) : List D → Option (List D)
  | [] => some []
  | d :: r => (a d ρ0).bind fun ρ1 => (okO (c ρ1)).bind fun b => if b = true then (okO (e ρ1)).bind fun v => (compO a c e ρ0 r).bind fun vs => some (v :: vs) else compO a c e ρ0 r
noncomputable def dComp (fi : Ev → R (List D)) (tn : Nat) (ci : List Nat) (a : D → Ev → Option Ev) (c : Ev → R Bool) (e : Ev → R D) : Ev → R (List D) := fun ρ => (fi ρ).bind fun ds => if ds.length ≤ sizeLine then ofO (compO a c e (capD tn ci ρ) ds) else .bad
theorem okO_some {α : Type} {r : R α} {a : α} (h : okO r = some a) : r = .ok a := by
  cases r with
  | ok x => cases h; rfl
  | ex _ _ _ => cases h
  | bad => cases h
theorem rs_cap {K : PySem.W.Frag} {P : Addr → Prop} {H0 H2 : Hp} {al al' : Addr → Prop} {σ : L2.St} {ρ : Ev} {H1 : Hp} (s : RS K P H0 al H1 σ ρ) (x : Xt al H1 al' H2) (sm : Same K H1 H2) (fr : ∀ a, H2 a = none → al' a) (sub : ∀ a, al' a → al a) (tn : Nat) (ci : List Nat) :
    RS K al H1 al' H2 (capS tn ci σ) (capD tn ci ρ) where
  same := sm
  tt := sm.tt s.tt
  fresh := fr
  sub := sub
  pf := s.fresh
  len := by unfold capS capD; simp
  sh := fun j d h => by
    unfold capD at h
    by_cases hj : j < tn
    · rw [List.getElem?_append_left (by simpa using hj), List.getElem?_replicate, if_pos hj] at h; cases h
    · rw [List.getElem?_append_right (by simpa using hj), List.length_replicate, List.getElem?_map] at h
      cases q : ci[j - tn]? with
      | none => rw [q] at h; cases h
      | some i =>
        rw [q] at h
        have h' : (match ρ[i]? with | some (.sh d) => Sl.sh d | _ => .no) = .sh d := Option.some.inj h
        cases z : ρ[i]? with
        | none => rw [z] at h'; cases h'
        | some y =>
          rw [z] at h'
          cases y with
          | sh e =>
            cases h'
            obtain ⟨v, e1, e2⟩ := s.sh i d z
            refine ⟨v, ?_, e2.mv x⟩
            unfold capS
            rw [List.getElem?_append_right (by simpa using hj), List.length_replicate, List.getElem?_map, q]
            show some ((σ[i]?).getD none) = _
            rw [e1]; rfl
          | no => cases h'
          | ow _ => cases h'
  ow := fun j d h => by
    unfold capD at h
    by_cases hj : j < tn
    · rw [List.getElem?_append_left (by simpa using hj), List.getElem?_replicate, if_pos hj] at h; cases h
    · rw [List.getElem?_append_right (by simpa using hj), List.length_replicate, List.getElem?_map] at h
      cases q : ci[j - tn]? with
      | none => rw [q] at h; cases h
      | some i =>
        rw [q] at h
        have h' : (match ρ[i]? with | some (.sh d) => Sl.sh d | _ => .no) = .ow d := Option.some.inj h
        split at h' <;> cases h'
  apart := fun j k d d' b h _ _ _ => by
    exfalso
    unfold capD at h
    by_cases hj : j < tn
    · rw [List.getElem?_append_left (by simpa using hj), List.getElem?_replicate, if_pos hj] at h; cases h
    · rw [List.getElem?_append_right (by simpa using hj), List.length_replicate, List.getElem?_map] at h
      cases q : ci[j - tn]? with
      | none => rw [q] at h; cases h
      | some i =>
        rw [q] at h
        have h' : (match ρ[i]? with | some (.sh d) => Sl.sh d | _ => .no) = .ow d := Option.some.inj h
        split at h' <;> cases h'
section
variable {X : Cx} {E : XK} {tg iter elt : Expr} {ifs : List Expr} {scope : Scope} {pos : Pos} {fi : Ev → R (List D)} {a : D → Ev → Option Ev} {fc : Ev → R Bool} {fe : Ev → R D} {cl : List (Str × Addr)} {tn : Nat} {Nt Nc : List Str} {ci l : List Nat}
noncomputable def DNU (X : Cx) (E : XK) (e : Expr) (f : Ev → R (List D)) : Prop := ∃ t : TE, PE X e t ∧ PUse X e t ∧
  ∀ P H0 al H σ ρ (Q : VK), RS X.K P H0 al H σ ρ → Aft X.K al E H (f ρ) (fun ds H' => ∀ p vs, H' p = none → Reps X.K al H' vs ds → Q (.ref p) (upd H' p (.lst vs))) → t σ H Q
theorem DNU.dn {X : Cx} {E : XK} {e : Expr} {f : Ev → R (List D)} (h : DNU X E e f) : DN X E e f := let ⟨t, p, _, r⟩ := h; ⟨t, p, r⟩
theorem dnu_comp (hc : X.calm = true) (hi : DI X E tg iter fi) (hg : ∀ fp s3 H3 C, DG (X.comp scope (Nt ++ Nc) cl fp s3 H3 C) tg l a) (hl : ∀ j ∈ l, j < tn) (hf : ∀ fp s3 H3 C, DFt (X.comp scope (Nt ++ Nc) cl fp s3 H3 C) ifs fc)
    (he : ∀ fp s3 H3 C, DE (X.comp scope (Nt ++ Nc) cl fp s3 H3 C) (fun _ _ _ => False) elt fe)
    (hclos : closureFor scope X.env = pure cl) (hkind : scope.kind = .function) (hcell : ∀ y ∈ scope.names, y.2 ≠ .cell) (hnames : ∀ x ∈ scope.names, x.2 = .local → scope.names.lookup x.1 = some .local) (hcap : Caps X cl Nc ci) (hNt : Nt.length = tn)
    (hsub : ∀ x c, cl.lookup x = some c → X.env.cells.lookup x = some c) (hhas : ∀ x, ((relabel scope X.env).names.lookup x = some .cell ∨ (relabel scope X.env).names.lookup x = some .free) → ∃ c, cl.lookup x = some c)
    (hvis : ∀ x ∈ Nc, (relabel scope X.env).names.lookup x = some .cell ∨ (relabel scope X.env).names.lookup x = some .free)
    (hs : ∀ x, foldedSetIterable iter X.env x = pure x := by intro _; rfl) : DNU X E (.ListComp elt [⟨tg, iter, ifs, 0⟩] scope pos) (dComp fi tn ci a fc fe) := by
  obtain ⟨wi, pi, ri⟩ := hi
  refine ⟨_, pe_comp (te := wE X.K (fun _ _ _ => False) fe) (tc := wT X.K (fun _ _ _ => False) fc) (g := wG X.K l a) hc pi (fun fp s3 H3 C => (hg fp s3 H3 C).w) hf (fun fp s3 H3 C => (he fp s3 H3 C).w) hclos hkind hcell hnames hcap hNt hsub hhas hvis hs, pu_comp (te := wE X.K (fun _ _ _ => False) fe) (tc := wT X.K (fun _ _ _ => False) fc) (g := wG X.K l a) hc pi (fun fp s3 H3 C => (hg fp s3 H3 C).w) hf (fun fp s3 H3 C => (he fp s3 H3 C).w) hclos hkind hcell hnames hcap hNt hsub hhas hvis hs, fun P H0 al H σ ρ Q s h => ri _ _ _ _ _ _ _ s (Aft.mono (Aft.split h) fun ds H1 s1 h1 J wk => ?_)⟩
  intro p hp
  by_cases hz : ds.length ≤ sizeLine
  · rw [if_pos hz] at h1
    cases q : compO a fc fe (capD tn ci ρ) ds with
    | none => rw [q] at h1; exact h1.elim
    | some out =>
      rw [q] at h1
      have s2 := s.grow s1
      let al' : Addr → Prop := fun b => al b ∧ b ≠ p
      refine ⟨fun i m H2 => ∃ done rest accv, out = done ++ rest ∧ compO a fc fe (capD tn ci ρ) (ds.drop i) = some rest ∧ H2 p = some (.lst accv) ∧ Reps X.K al' H2 accv done ∧ Same X.K H1 H2 ∧ (∀ b, H2 b = none → al' b) ∧ m = ds.length - i ∧ i ≤ ds.length ∧ done.length ≤ i, ⟨_, [], out, [], rfl, q, upd_same, .nil, same_upd hp, fun b hb => ?_, rfl, Nat.zero_le _, Nat.le_refl _⟩, ?_⟩
      · have z : b ≠ p := fun w => by rw [w, upd_same] at hb; cases hb
        rw [upd_ne z] at hb
        exact ⟨s2.fresh b hb, z⟩
      · rintro i m H2 ⟨done, rest, accv, e1, e2, e3, e4, e5, e6, rfl, e7, e8⟩
        have x12 : Xt al H1 al' H2 := fun b o n hb w => ⟨⟨hb, ne_of_none w hp⟩, e5.at' _ _ n w⟩
        obtain ⟨w1, w2⟩ := wk al' H2 x12 e6
        by_cases hi : i < ds.length
        · right
          have ed : ds[i]? = some ds[i] := List.getElem?_eq_getElem hi
          obtain ⟨go, yl⟩ := w1 i _ ed
          refine ⟨go, fun x H3 y => ?_⟩
          obtain ⟨rfl, rx⟩ := yl x H3 y
          rw [List.drop_eq_getElem_cons hi] at e2
          unfold compO at e2
          obtain ⟨ρ1, a1, a2⟩ := Option.bind_eq_some_iff.mp e2
          obtain ⟨b, a3, a4⟩ := Option.bind_eq_some_iff.mp a2
          refine ⟨al, H1, al', capD tn ci ρ, ds[i], rs_cap s2 x12 e5 e6 (fun _ z => z.1) tn ci, rx, ρ1, a1, fun σ2 kp s3 => ⟨⟨?_, fun j hj => kp.2 j fun w => absurd (hl j w) (by omega)⟩, al, H1, al', ρ1, s3, ?_⟩⟩
          · rw [kp.1, capS_length]
          · rw [okO_some a3]
            intro H5 s5
            cases b with
            | false =>
              rw [if_neg Bool.false_ne_true] at a4 ⊢
              exact ⟨ds.length - (i + 1), by omega, done, rest, accv, e1, a4, s5.at' _ _ nt_lst e3, e4.up s5, e5.trans s5, fun b hb => e6 b (s5.free hb), rfl, hi, by omega⟩
            | true =>
              rw [if_pos rfl] at a4 ⊢
              obtain ⟨v, a5, a6⟩ := Option.bind_eq_some_iff.mp a4
              obtain ⟨vs, a7, a8⟩ := Option.bind_eq_some_iff.mp a6
              cases a8
              refine ⟨al, H1, al', ρ1, s3.grow s5, ?_⟩
              rw [okO_some a5]
              intro H6 s6 u ru
              have e36 := s6.at' _ _ nt_lst (s5.at' _ _ nt_lst e3)
              have x6 : Xt al' H6 al' (upd H6 p (.lst (accv ++ [u]))) := fun c o _ hc w => ⟨hc, by rw [upd_ne hc.2]; exact w⟩
              refine ⟨accv, e36, by rw [e4.length]; omega, ds.length - (i + 1), by omega, done ++ [v], vs, accv ++ [u], by rw [e1]; simp, a7, upd_same, ((((e4.up s5).up s6).append (.cons ru .nil)).mv x6), ?_, fun c hc => ?_, rfl, hi, by rw [List.length_append]; simp; omega⟩
              · exact ⟨fun c o n w => by
                  rw [upd_ne (ne_of_none w hp)]; exact s6.at' _ _ n (s5.at' _ _ n (e5.at' _ _ n w)), fun c w => by
                  by_cases z : c = p
                  · rw [z]; exact hp
                  · rw [upd_ne z] at w; exact e5.fr c (s5.fr c (s6.fr c w)), fun t => (s6.tt (s5.tt (e5.tt t))).upd (lst_tb e36).1 (lst_tb e36).2⟩
              · have z : c ≠ p := fun w => by rw [w, upd_same] at hc; cases hc
                rw [upd_ne z] at hc
                exact e6 c (s5.free (s6.free hc))
        · left
          have ei : i = ds.length := by omega
          rw [List.drop_eq_nil_of_le (by omega)] at e2
          cases e2
          rw [List.append_nil] at e1
          subst e1
          refine ⟨w2 i (by omega), ?_⟩
          let H' : Hp := fun b => if b = p then none else H2 b
          have hH : upd H' p (.lst accv) = H2 := by
            funext b
            by_cases z : b = p
            · subst z; rw [upd_same, e3]
            · rw [upd_ne z]; show (if b = p then none else H2 b) = _; rw [if_neg z]
          have sm : Same X.K H1 H' := ⟨fun b o n w => by
            show (if b = p then none else H2 b) = _
            rw [if_neg (ne_of_none w hp)]; exact e5.at' _ _ n w, fun b w => by
            by_cases z : b = p
            · rw [z]; exact hp
            · have w' : (if b = p then none else H2 b) = none := w
              rw [if_neg z] at w'; exact e5.fr b w', fun t => (e5.tt t).off (lst_tb e3).1 (lst_tb e3).2 fun b z => by show (if b = p then none else H2 b) = _; rw [if_neg z]⟩
          rw [← hH]
          refine h1 H' sm p accv (by show (if p = p then none else H2 p) = _; rw [if_pos rfl]) (e4.mv fun b o _ hb w => ⟨hb.1, ?_⟩)
          show (if b = p then none else H2 b) = _
          rw [if_neg hb.2]; exact w
  · rw [if_neg hz] at h1
    exact h1.elim
theorem dnu_comp0 (hc : X.calm = true) (hi : DI X E tg iter fi) (hg : ∀ fp s3 H3 C, DG (X.comp scope Nt [] fp s3 H3 C) tg l a) (hl : ∀ j ∈ l, j < tn) (hf : ∀ fp s3 H3 C, DFt (X.comp scope Nt [] fp s3 H3 C) ifs fc)
    (he : ∀ fp s3 H3 C, DE (X.comp scope Nt [] fp s3 H3 C) (fun _ _ _ => False) elt fe)
    (hfree : ∀ y ∈ scope.names, y.2 ≠ .free) (hkind : scope.kind = .function) (hcell : ∀ y ∈ scope.names, y.2 ≠ .cell) (hnames : ∀ x ∈ scope.names, x.2 = .local → scope.names.lookup x.1 = some .local) (hNt : Nt.length = tn)
    (hs : ∀ x, foldedSetIterable iter X.env x = pure x := by intro _; rfl) : DNU X E (.ListComp elt [⟨tg, iter, ifs, 0⟩] scope pos) (dComp fi tn [] a fc fe) := by
  have e : relabel scope X.env = scope := by
    have : scope.names.map (fun (n, k) => if (k == NameKind.free && X.env.scope.kind == .function && X.env.kindOf n == some .cell) then (n, NameKind.cell) else (n, k)) = scope.names := by
      refine map_eq_self fun y hy => ?_
      obtain ⟨n, k⟩ := y
      have : (k == NameKind.free) = false := by simpa using hfree _ hy
      simp [this]
    unfold relabel
    rw [this]
  refine dnu_comp (cl := []) (Nc := []) (ci := []) hc hi (by rw [List.append_nil]; exact hg) hl (by rw [List.append_nil]; exact hf) (by rw [List.append_nil]; exact he) (closureFor_none hfree) hkind hcell hnames .nil hNt (fun x c z => nomatch z) (fun x z => ?_) (fun x z => nomatch z) hs
  rw [e] at z
  rcases z with z | z
  · exact absurd rfl (hcell _ (PySem.mem_of_lookup z))
  · exact absurd rfl (hfree _ (PySem.mem_of_lookup z))
theorem dn_comp0 (hc : X.calm = true) (hi : DI X E tg iter fi) (hg : ∀ fp s3 H3 C, DG (X.comp scope Nt [] fp s3 H3 C) tg l a) (hl : ∀ j ∈ l, j < tn) (hf : ∀ fp s3 H3 C, DFt (X.comp scope Nt [] fp s3 H3 C) ifs fc)
    (he : ∀ fp s3 H3 C, DE (X.comp scope Nt [] fp s3 H3 C) (fun _ _ _ => False) elt fe)
    (hfree : ∀ y ∈ scope.names, y.2 ≠ .free) (hkind : scope.kind = .function) (hcell : ∀ y ∈ scope.names, y.2 ≠ .cell) (hnames : ∀ x ∈ scope.names, x.2 = .local → scope.names.lookup x.1 = some .local) (hNt : Nt.length = tn)
    (hs : ∀ x, foldedSetIterable iter X.env x = pure x := by intro _; rfl) : DN X E (.ListComp elt [⟨tg, iter, ifs, 0⟩] scope pos) (dComp fi tn [] a fc fe) := (dnu_comp0 hc hi hg hl hf he hfree hkind hcell hnames hNt hs).dn
end
noncomputable def Its (x : Str) : It := ⟨fun i _ => i < x.cps.size, fun i H v H' => H' = H ∧ ∃ c, x.cps[i]? = some c ∧ v = .str ⟨#[c]⟩, fun i _ => x.cps.size ≤ i⟩
theorem turn_ascii {P : Program} {w : World} {K : PySem.W.Frag} {tg : Expr} (x : Str) (t : Tok) (it : Addr) : Turn P w K tg (Its x) [it] it (fun i h => h.IsStrIter it "str_ascii_iterator" x t i) where
  mem := by simp
  obj := fun i h st b hb => by
    have e : b = it := by simpa using hb
    subst e
    obtain ⟨o, e, c, d⟩ := st
    exact ⟨o, e, fun v z => by rw [d] at z; cases z⟩
  keep := fun i h h' st k => let ⟨o, ho, r⟩ := st; ⟨o, k it (by simp) o ho, r⟩
  item := by
    intro X hP hw hK hcalm i pins s σ H E I hf st hg
    subst hP hw hK
    obtain ⟨f0, f1, f2, f3, f4, f5⟩ := hf it (by simp)
    have hg' : i < x.cps.size := hg
    refine wpAny_pyNext_ascii_item st (c := x.cps[i]) (by simp [hg']) fun h' st' sb => ?_
    have I1 : Inv X pins σ H { s with heap := h', toks := s.toks + 1 } := I.turned (fun b o hb e => (sb.2 b hb).trans e) f0 f1 f3 f4 f5
    obtain ⟨o, e, c, d⟩ := id st'
    exact ⟨_, rfl, go_of (s := { s with heap := h', toks := s.toks + 1 }) e c d (by decide) ⟨.str ⟨#[x.cps[i]]⟩, H, I1, ⟨_, rfl⟩, ⟨rfl, x.cps[i], by simp [hg'], rfl⟩, st', fun b hb => (hf b hb).1⟩⟩
  done := by
    intro X hP hw hK hcalm i pins s σ H E I hf st hg
    subst hP hw hK
    obtain ⟨f0, f1, f2, f3, f4, f5⟩ := hf it (by simp)
    have hg' : x.cps.size ≤ i := hg
    exact wpAny_pyNext_ascii_end (I.ok.hd hcalm) st (by simp [hg']) fun h' eb => ⟨rfl, I.turned (t' := s.toks) (fun b o hb e => eb b o hb e) f0 f1 f3 f4 f5⟩
  self := fun _ _ _ _ _ st h => wpAny_pyIter_striter_ascii st h
theorem turn_wide {P : Program} {w : World} {K : PySem.W.Frag} {tg : Expr} (x : Str) (t : Tok) (it : Addr) : Turn P w K tg (Its x) [it] it (fun i h => h.IsStrIter it "str_iterator" x t i) where
  mem := by simp
  obj := fun i h st b hb => by
    have e : b = it := by simpa using hb
    subst e
    obtain ⟨o, e, c, d⟩ := st
    exact ⟨o, e, fun v z => by rw [d] at z; cases z⟩
  keep := fun i h h' st k => let ⟨o, ho, r⟩ := st; ⟨o, k it (by simp) o ho, r⟩
  item := by
    intro X hP hw hK hcalm i pins s σ H E I hf st hg
    subst hP hw hK
    obtain ⟨f0, f1, f2, f3, f4, f5⟩ := hf it (by simp)
    have hg' : i < x.cps.size := hg
    refine wpAny_pyNext_wide_item st (c := x.cps[i]) (by simp [hg']) fun h' st' sb => ?_
    have I1 : Inv X pins σ H { s with heap := h', toks := s.toks + 1 } := I.turned (fun b o hb e => (sb.2 b hb).trans e) f0 f1 f3 f4 f5
    obtain ⟨o, e, c, d⟩ := id st'
    exact ⟨_, rfl, go_of (s := { s with heap := h', toks := s.toks + 1 }) e c d (by decide) ⟨.str ⟨#[x.cps[i]]⟩, H, I1, ⟨_, rfl⟩, ⟨rfl, x.cps[i], by simp [hg'], rfl⟩, st', fun b hb => (hf b hb).1⟩⟩
  done := by
    intro X hP hw hK hcalm i pins s σ H E I hf st hg
    subst hP hw hK
    obtain ⟨f0, f1, f2, f3, f4, f5⟩ := hf it (by simp)
    have hg' : x.cps.size ≤ i := hg
    exact wpAny_pyNext_wide_end (I.ok.hd hcalm) st (by simp [hg']) fun h' eb => ⟨rfl, I.turned (t' := s.toks) (fun b o hb e => eb b o hb e) f0 f1 f3 f4 f5⟩
  self := fun _ _ _ _ _ st h => wpAny_pyIter_striter_wide st h
section
variable {X : Cx} {E : XK} {tg e : Expr} {f : Ev → R D}
noncomputable def iStr (tl : TE) : TI := fun σ H R => tl σ H fun x H1 => ∃ z, x = .str z ∧ R (Its z) H1
theorem pi_str {l : Expr} {tl : TE} (hl : PE X l tl) : PI X tg l (iStr tl) := by
  intro pins s σ H R I h
  refine thn (hl pins s σ H _ I h) fun v s1 ⟨x, H1, I1, r1, q1⟩ => ?_
  obtain ⟨z, e, q⟩ := q1
  subst e
  obtain ⟨t, rfl⟩ := r1
  have fp : ∀ b ∈ [s1.heap.objs.size], FpOk X pins H1 b := fun b hb => by
    have e : b = s1.heap.objs.size := by simpa using hb
    subst e
    exact I1.fpOk (Nat.le_refl _) (I1.hok.fresh (Nat.le_refl _))
  cases ha : z.cps.all (· < 128) with
  | true =>
    refine wpAny_pyIter_ascii ha ?_
    exact ⟨s1.heap.objs.size, [s1.heap.objs.size], _, _, H1, rfl, I1.kept (t' := s1.toks) fun b o e => Heap.get?_push_of_some _ e, turn_ascii z t _, ⟨_, Heap.get?_push_size _ rfl, rfl, rfl⟩, fp, q⟩
  | false =>
    refine wpAny_pyIter_wide ha ?_
    exact ⟨s1.heap.objs.size, [s1.heap.objs.size], _, _, H1, rfl, I1.kept (t' := s1.toks) fun b o e => Heap.get?_push_of_some _ e, turn_wide z t _, ⟨_, Heap.get?_push_size _ rfl, rfl, rfl⟩, fp, q⟩
noncomputable def signs (z : Str) : List D := z.cps.toList.map fun c => .str ⟨#[c]⟩
theorem wk_str {K : PySem.W.Frag} {al : Addr → Prop} {H : Hp} {z : Str} : Wk K al H (Its z) (signs z) := by
  intro al' H' x fr
  refine ⟨fun i d h => ?_, fun i h => ?_⟩
  · unfold signs at h
    rw [List.getElem?_map, Array.getElem?_toList] at h
    cases q : z.cps[i]? with
    | none => rw [q] at h; cases h
    | some c =>
      rw [q] at h; cases h
      refine ⟨(Array.getElem?_eq_some_iff.mp q).1, fun y H'' w => ⟨w.1, ?_⟩⟩
      obtain ⟨c', e1, e2⟩ := w.2
      rw [q] at e1; cases e1
      subst e2
      exact .str _
  · unfold signs at h
    show z.cps.size ≤ i
    simpa using h
noncomputable def asI (d : D) : R (List D) := match d with
  | .lst ds => .ok ds
  | .tup ds => .ok ds
  | .str z => .ok (signs z)
  | _ => .bad
theorem di_any (he : DE X E e f) : DI X E tg e (fun ρ => (f ρ).bind asI) := by
  obtain ⟨t, p, r⟩ := he
  refine ⟨_, pi_or (pi_list p) (pi_or (pi_tup p) (pi_str p)), fun P H0 al H σ ρ R s h => ?_⟩
  dsimp only at h
  cases q : f ρ with
  | bad => rw [q] at h; exact h.elim
  | ex c ns ds => rw [q] at h; exact .inl (r _ _ _ _ _ _ _ s (by rw [q]; exact h))
  | ok d =>
    rw [q] at h
    cases d with
    | lst ds =>
      left
      refine r _ _ _ _ _ _ _ s ?_
      rw [q]
      intro H1 s1 v rv
      obtain ⟨a, vs, e1, e2, e3⟩ := rv.lstIn
      subst e1
      exact ⟨a, rfl, ⟨vs, e2⟩, h H1 s1 _ (wk_list rv)⟩
    | tup ds =>
      right; left
      refine r _ _ _ _ _ _ _ s ?_
      rw [q]
      intro H1 s1 v rv
      obtain ⟨a, vs, e1, e2, e3⟩ := rv.tupIn
      subst e1
      exact ⟨a, rfl, ⟨vs, e2⟩, h H1 s1 _ (wk_tup rv)⟩
    | str z =>
      right; right
      refine r _ _ _ _ _ _ _ s ?_
      rw [q]
      intro H1 s1 v rv
      cases rv
      exact ⟨z, rfl, h H1 s1 _ wk_str⟩
    | _ => exact (h : False).elim
end
noncomputable def tyName : D → Option String
  | .non => some "NoneType"
  | .bl _ => some "bool"
  | .int _ => some "int"
  | .str _ => some "str"
  | .lst _ => some "list"
  | .tup _ => some "tuple"
  | _ => none
noncomputable def knowT : List String := ["NoneType", "bool", "int", "str", "list", "tuple"]
theorem kit_all (K : PySem.W.Frag) : ∀ T ∈ knowT, ∀ n ∈ knowT, PySem.W.kitOne K (.type T) (.type n) = some (T == n || (T == "bool" && n == "int")) := by
  intro T hT n hn
  simp only [knowT, List.mem_cons, List.not_mem_nil, or_false] at hT hn
  rcases hT with rfl | rfl | rfl | rfl | rfl | rfl <;> rcases hn with rfl | rfl | rfl | rfl | rfl | rfl <;> first | rfl | kernel_rfl
noncomputable def isD : List D → R D
  | [d, .ty n] => match tyName d with
    | some T => if knowT.contains n then .ok (.bl (T == n || (T == "bool" && n == "int"))) else .bad
    | none => .bad
  | _ => .bad
section
variable {X : Cx} {E : XK}
noncomputable def rIsD (X : Cx) : List V → Hp → VK → Prop := fun xs H Q => ∃ x n T, xs = [x, .ty n] ∧ knowT.contains T = true ∧ knowT.contains n = true ∧
  ((x = .non ∧ T = "NoneType") ∨ (∃ b, x = .bl b ∧ T = "bool") ∨ (∃ i, x = .int i ∧ T = "int") ∨ (∃ z, x = .str z ∧ T = "str") ∨ (∃ a vs, x = .ref a ∧ SqL X.K H a vs ∧ T = "list") ∨ (∃ a vs, x = .ref a ∧ SqT X.K H a vs ∧ T = "tuple")) ∧ Q (.bl (T == n || (T == "bool" && n == "int"))) H
theorem call_isD : CallR X (.builtin "isinstance") (rIsD X) := by
  intro pins s σ H xs us Q I r h
  obtain ⟨x, n, T, rfl, kT, kn, hx, q⟩ := h
  obtain ⟨u, c, rfl, ru, rc⟩ := vals2 r
  cases rc
  have e := kit_all X.K T (by simpa using kT) n (by simpa using kn)
  have fin : ∀ tk, EP X pins σ Q (.bool (T == n || (T == "bool" && n == "int"))) { s with toks := tk } := fun tk => ⟨.bl _, H, I.tok tk, rfl, q⟩
  rcases hx with ⟨rfl, rfl⟩ | ⟨b, rfl, rfl⟩ | ⟨i, rfl, rfl⟩ | ⟨z, rfl, rfl⟩ | ⟨a, vs, rfl, ha, rfl⟩ | ⟨a, vs, rfl, ha, rfl⟩
  · cases ru; exact PySem.W.kia_one PySem.W.kitx_none I.kIn True.intro e (fun z => nomatch z) fin
  · cases ru; exact PySem.W.kia_one PySem.W.kitx_bool I.kIn True.intro e (fun z => nomatch z) fin
  · obtain ⟨t, rfl⟩ := ru; exact PySem.W.kia_one PySem.W.kitx_int I.kIn True.intro e (fun z => nomatch z) fin
  · obtain ⟨t, rfl⟩ := ru; exact PySem.W.kia_one PySem.W.kitx_str I.kIn True.intro e (fun z => nomatch z) fin
  · cases ru
    obtain ⟨its, _, pl, _⟩ := I.list ha
    obtain ⟨o, k, e1, e2, _⟩ := pl
    exact PySem.W.kia_one PySem.W.kitx_list I.kIn ⟨o, e1, e2⟩ e (fun z => nomatch z) fin
  · cases ru
    obtain ⟨its, _, pl, _⟩ := I.tuple ha
    obtain ⟨o, e1, e2, _⟩ := pl
    exact PySem.W.kia_one PySem.W.kitx_tuple I.kIn ⟨o, e1, e2⟩ e (fun z => nomatch z) fin
theorem call_isinstD : CallD X E (.builtin "isinstance") isD := by
  refine ⟨_, call_isD, fun al H xs ds Q fr r h => ?_⟩
  unfold isD at h
  split at h
  · rename_i d n
    obtain ⟨v, u, rfl, q, q2⟩ := Reps.two r
    cases q2
    cases e : tyName d with
    | none => rw [e] at h; exact h.elim
    | some T =>
      rw [e] at h
      dsimp only at h
      split at h
      · rename_i hn
        have hq := h H (.refl H) _ (.bl _)
        cases q with
        | non => cases e; exact ⟨_, n, _, rfl, rfl, hn, .inl ⟨rfl, rfl⟩, hq⟩
        | bl b => cases e; exact ⟨_, n, _, rfl, rfl, hn, .inr (.inl ⟨b, rfl, rfl⟩), hq⟩
        | int b => cases e; exact ⟨_, n, _, rfl, rfl, hn, .inr (.inr (.inl ⟨b, rfl, rfl⟩)), hq⟩
        | str b => cases e; exact ⟨_, n, _, rfl, rfl, hn, .inr (.inr (.inr (.inl ⟨b, rfl, rfl⟩))), hq⟩
        | lst p _ => cases e; exact ⟨_, n, _, rfl, rfl, hn, .inr (.inr (.inr (.inr (.inl ⟨_, _, rfl, p.elim (fun z => .inl z.2) KL.sq, rfl⟩)))), hq⟩
        | tup p _ => cases e; exact ⟨_, n, _, rfl, rfl, hn, .inr (.inr (.inr (.inr (.inr ⟨_, _, rfl, p.elim (fun z => .inl z.2) .inr, rfl⟩)))), hq⟩
        | _ => cases e
      · exact h.elim
  · exact h.elim
end
end P2
namespace P2
open PySem L2 PyProof.Rows
theorem bt_isinstance : bootBuiltins "isinstance" = some (.builtin "isinstance") := by decide +kernel
theorem bt_len : bootBuiltins "len" = some (.builtin "len") := by decide +kernel
theorem bt_abs : bootBuiltins "abs" = some (.builtin "abs") := by decide +kernel
theorem bt_max : bootBuiltins "max" = some (.builtin "max") := by decide +kernel
theorem bt_int : bootBuiltins "int" = some (.type "int") := by decide +kernel
theorem bt_bool : bootBuiltins "bool" = some (.type "bool") := by decide +kernel
theorem bt_tuple : bootBuiltins "tuple" = some (.type "tuple") := by decide +kernel
theorem bt_list : bootBuiltins "list" = some (.type "list") := by decide +kernel
section
variable {X : Cx} {E : XK} {x : Str} {pos : Pos}
inductive GlV (mg : Str → Option Value) (x : Str) : D → Prop
  | int {i : Int} {t : Tok} : mg x = some (.int i t) → GlV mg x (.int i)
  | str {z : Str} {t : Tok} : mg x = some (.str z t) → GlV mg x (.str z)
theorem Reps.look {K : PySem.W.Frag} {al : Addr → Prop} {H : Hp} {field : Str} {d : D} : ∀ {ns : List Str} {vs : List V} {ds : List D}, Reps K al H vs ds → (ns.zip ds).lookup field = some d → ∃ v, (ns.zip vs).lookup field = some v ∧ Rep K al H v d
  | [], _, _, _, h => by simp at h
  | _ :: _, _, [], _, h => by simp at h
  | n :: ns, _, e :: ds, r, h => by
    cases r with
    | cons a b =>
      rw [List.zip_cons_cons, List.lookup_cons] at h ⊢
      cases q : field == n with
      | true => rw [q] at h; cases h; exact ⟨_, rfl, a⟩
      | false => rw [q] at h; exact Reps.look b h
end
section
variable {P : Program} {w : World} {K : PySem.W.Frag} {mg : Str → Option Value} {base : Heap}
end
end P2
namespace P2
open PySem L2 PySem.Spec
open PyProof.Rows hiding St
section
variable {X : Cx} {E : XK} {x : Str} {pos : Pos}
theorem callr_or {f : Value} {r r' : List V → Hp → VK → Prop} (h : CallR X f r) (h' : CallR X f r') : CallR X f (fun xs H Q => r xs H Q ∨ r' xs H Q) :=
  fun pins s σ H xs us Q I rx q => q.elim (h pins s σ H xs us Q I rx) (h' pins s σ H xs us Q I rx)
noncomputable def clsU : D → Option Value
  | .ref C => some (.ref C)
  | .ty T => some (.type T)
  | _ => none
noncomputable def isXD (q : Addr → Value → Option Bool) (ds : List D) : R D := match ds with
  | [.exc c _ _, d] => (match (clsU d).bind (q c) with
    | some b => .ok (.bl b)
    | none => .bad)
  | ds => isD ds
noncomputable def IsOk (K : PySem.W.Frag) (q : Addr → Value → Option Bool) : Prop := ∀ c u b, q c u = some b → YCls K c ∧ PySem.W.kitOne K (.ref c) u = some b
theorem call_isXD {q : Addr → Value → Option Bool} (hI : IsOk X.K q) : CallD X E (.builtin "isinstance") (isXD q) := by
  obtain ⟨r0, c0, d0⟩ := call_isinstD (X := X) (E := E)
  refine ⟨_, callr_or call_isX c0, fun al H xs ds Q fr r h => ?_⟩
  unfold isXD at h
  split at h
  · rename_i c ns es d
    obtain ⟨v, u, rfl, p, p2⟩ := Reps.two r
    left
    cases z : (clsU d).bind (q c) with
    | none => rw [z] at h; exact h.elim
    | some b =>
      rw [z] at h
      have hq := h H (.refl H) _ (.bl _)
      obtain ⟨w, z1, z2⟩ := Option.bind_eq_some_iff.mp z
      obtain ⟨yc, kk⟩ := hI _ _ _ z2
      have ha : ∃ a dx, v = .ref a ∧ H a = some (excX a c dx) := by
        cases p with
        | exc p1 p2 p3 p4 p5 => exact ⟨_, _, rfl, p2⟩
        | exc0 p1 p2 => exact ⟨_, _, rfl, p2⟩
      obtain ⟨a, dx, rfl, ha⟩ := ha
      refine ⟨a, c, dx, u, w, b, rfl, ha, yc, fun y hy => ?_, kk, hq⟩
      cases p2 with
      | ref C => cases z1; exact hy
      | ty T => cases z1; exact hy
      | _ => cases z1
  · exact .inr (d0 al H xs ds Q fr r h)
mutual
noncomputable def pyD : D → Option PyData
  | .non => some .none
  | .bl b => some (.bool b)
  | .int i => some (.int i)
  | .str z => some (.str z)
  | .tup ds => (pyDs ds).map .tuple
  | .lst ds => (pyDs ds).map .list
  | _ => none
noncomputable def pyDs : List D → Option (List PyData)
  | [] => some []
  | d :: ds => (pyD d).bind fun p => (pyDs ds).map (p :: ·)
end
mutual
theorem rep_reads {pins : List (Addr × Obj)} {σ : L2.St} {H : Hp} {s : Shared} (I : Inv X pins σ H s) {al : Addr → Prop} : ∀ {v : V} {d : D} {u : Value} {p : PyData}, Rep X.K al H v d → RelV v u → pyD d = some p → ∃ as, Reads s.heap u p as
  | _, _, _, _, .non, r, e => by cases r; cases e; exact ⟨_, .none⟩
  | _, _, _, _, .bl b, r, e => by cases r; cases e; exact ⟨_, .bool _⟩
  | _, _, _, _, .int b, r, e => by obtain ⟨t, rfl⟩ := r; cases e; exact ⟨_, .int _ _⟩
  | _, _, _, _, .str b, r, e => by obtain ⟨t, rfl⟩ := r; cases e; exact ⟨_, .str _ _⟩
  | _, _, _, _, .ty b, r, e => by cases e
  | _, _, _, _, .ref b, r, e => by cases e
  | _, _, _, _, .tup (vs := vs) z q, r, e => by
    cases r
    have e' : (pyDs _).map PyData.tuple = some _ := e
    obtain ⟨ps, e1, rfl⟩ := Option.map_eq_some_iff.mp e'
    have z' : SqT X.K H _ vs := z.elim (fun z => .inl z.2) .inr
    obtain ⟨its, rv, ⟨o, h1, h2, n, h3⟩, _⟩ := I.tuple z'
    obtain ⟨as, w⟩ := reps_reads I q rv e1
    exact ⟨as, reads_tuple_at h1 h2 h3 (by simpa using w)⟩
  | _, _, _, _, .lst (vs := vs) z q, r, e => by
    cases r
    have e' : (pyDs _).map PyData.list = some _ := e
    obtain ⟨ps, e1, rfl⟩ := Option.map_eq_some_iff.mp e'
    have z' : SqL X.K H _ vs := z.elim (fun z => .inl z.2) KL.sq
    obtain ⟨its, rv, ⟨o, n, h1, h2, h3, h4⟩, _⟩ := I.list z'
    obtain ⟨as, w⟩ := reps_reads I q rv e1
    exact ⟨_, reads_list_at h1 h2 h4 (by simpa using w)⟩
  | _, _, _, _, .exc _ _ _ _ _, r, e => by cases e
  | _, _, _, _, .exc0 _ _, r, e => by cases e
theorem reps_reads {pins : List (Addr × Obj)} {σ : L2.St} {H : Hp} {s : Shared} (I : Inv X pins σ H s) {al : Addr → Prop} : ∀ {vs : List V} {ds : List D} {us : List Value} {ps : List PyData}, Reps X.K al H vs ds → Vals vs us → pyDs ds = some ps → ∃ as, ReadsAll s.heap us ps as
  | _, _, _, _, .nil, r, e => by cases r; cases e; exact ⟨_, .nil⟩
  | _, _, _, _, .cons p q, r, e => by
    cases r with
    | cons r1 r2 =>
      obtain ⟨p1, e1, e2⟩ := Option.bind_eq_some_iff.mp e
      obtain ⟨ps, e3, rfl⟩ := Option.map_eq_some_iff.mp e2
      obtain ⟨as, w1⟩ := rep_reads I p r1 e1
      obtain ⟨bs, w2⟩ := reps_reads I q r2 e3
      exact ⟨_, .cons w1 w2⟩
end
noncomputable def eqvD (a b : D) : Option Bool := (pyD a).bind fun p => (pyD b).bind fun q => if (SeqAt.shaped p && SeqAt.shaped q) = true then some (PyData.eqv p q) else none
noncomputable def eqDD (a b : D) : R D := match eqvD a b with
  | some r => .ok (.bl r)
  | none => .bad
noncomputable def neDD (a b : D) : R D := match eqvD a b with
  | some r => .ok (.bl (!r))
  | none => .bad
theorem eqv_of {pins : List (Addr × Obj)} {σ : L2.St} {H : Hp} {s : Shared} (I : Inv X pins σ H s) {al : Addr → Prop} {x y : V} {a b : D} {u v : Value} {r : Bool} (ra : Rep X.K al H x a) (rb : Rep X.K al H y b) (rx : RelV x u) (ry : RelV y v) (e : eqvD a b = some r) :
    ∃ p q as bs, Reads s.heap u p as ∧ Reads s.heap v q bs ∧ SeqAt.shaped p = true ∧ SeqAt.shaped q = true ∧ PyData.eqv p q = r := by
  obtain ⟨p, e1, e2⟩ := Option.bind_eq_some_iff.mp e
  obtain ⟨q, e3, e4⟩ := Option.bind_eq_some_iff.mp e2
  split at e4
  · rename_i z
    rw [Bool.and_eq_true] at z
    obtain ⟨as, w1⟩ := rep_reads I ra rx e1
    obtain ⟨bs, w2⟩ := rep_reads I rb ry e3
    exact ⟨p, q, as, bs, w1, w2, z.1, z.2, Option.some.inj e4⟩
  · cases e4
theorem op_eqDD (hu : X.A.units + 64 < cLine) : OpD X E (compareOp .Eq) eqDD := by
  refine ⟨fun x y H Q => ∃ al a b r, Rep X.K al H x a ∧ Rep X.K al H y b ∧ eqvD a b = some r ∧ Q (.bl r) H, fun pins s σ H x y v u Q I rx ry h => ?_, fun al H x y dx dy Q fr rx ry h => ?_⟩
  · obtain ⟨al, a, b, r, h1, h2, h3, h4⟩ := h
    obtain ⟨p, q, as, bs, w1, w2, w3, w4, w5⟩ := eqv_of I h1 h2 rx ry h3
    exact eq_dataH w1 w2 w3 w4 hu (by rw [w5]; exact ⟨.bl r, H, I, rfl, h4⟩)
  · unfold eqDD at h
    cases q : eqvD dx dy with
    | none => rw [q] at h; exact h.elim
    | some r => rw [q] at h; exact ⟨al, dx, dy, r, rx, ry, q, h H (.refl H) _ (.bl r)⟩
theorem op_neDD (hu : X.A.units + 64 < cLine) : OpD X E (compareOp .NotEq) neDD := by
  refine ⟨fun x y H Q => ∃ al a b r, Rep X.K al H x a ∧ Rep X.K al H y b ∧ eqvD a b = some r ∧ Q (.bl (!r)) H, fun pins s σ H x y v u Q I rx ry h => ?_, fun al H x y dx dy Q fr rx ry h => ?_⟩
  · obtain ⟨al, a, b, r, h1, h2, h3, h4⟩ := h
    obtain ⟨p, q, as, bs, w1, w2, w3, w4, w5⟩ := eqv_of I h1 h2 rx ry h3
    exact ne_dataH w1 w2 w3 w4 hu (by rw [w5]; exact ⟨.bl (!r), H, I, rfl, h4⟩)
  · unfold neDD at h
    cases q : eqvD dx dy with
    | none => rw [q] at h; exact h.elim
    | some r => rw [q] at h; exact ⟨al, dx, dy, r, rx, ry, q, h H (.refl H) _ (.bl (!r))⟩
end
section
variable {X : Cx} {E : XK} {tg iter elt : Expr} {ifs : List Expr} {scope : Scope} {pos : Pos} {fi : Ev → R (List D)} {l : List Nat} {a : D → Ev → Option Ev} {fc : Ev → R Bool} {fe : Ev → R D} {tn : Nat} {Nt : List Str}
theorem dnu_comp1 {x : Str} (i : Nat) {c : Addr} (nm : List (Str × NameKind)) (hc : X.calm = true) (hi : DI X E tg iter fi) (hg : ∀ fp s3 H3 C, DG (X.comp scope (Nt ++ [x]) [(x, c)] fp s3 H3 C) tg l a) (hl : ∀ j ∈ l, j < tn) (hf : ∀ fp s3 H3 C, DFt (X.comp scope (Nt ++ [x]) [(x, c)] fp s3 H3 C) ifs fc)
    (he : ∀ fp s3 H3 C, DE (X.comp scope (Nt ++ [x]) [(x, c)] fp s3 H3 C) (fun _ _ _ => False) elt fe)
    (hkind : scope.kind = .function) (hcell : ∀ y ∈ scope.names, y.2 ≠ .cell) (hnames : ∀ x ∈ scope.names, x.2 = .local → scope.names.lookup x.1 = some .local) (hNt : Nt.length = tn)
    (hN : X.N[i]? = some x) (hk : X.env.kindOf x = some .cell) (hcl : X.env.cells.lookup x = some c) (hclos : closureFor scope X.env = pure [(x, c)]) (hrl : (relabel scope X.env).names = nm)
    (hnm : ∀ p ∈ nm, (p.2 = .cell ∨ p.2 = .free) → p.1 = x) (hvis : nm.lookup x = some .cell ∨ nm.lookup x = some .free)
    (hs : ∀ x, foldedSetIterable iter X.env x = pure x := by intro _; rfl) : DNU X E (.ListComp elt [⟨tg, iter, ifs, 0⟩] scope pos) (dComp fi tn [i] a fc fe) := by
  refine dnu_comp (cl := [(x, c)]) (Nc := [x]) (ci := [i]) hc hi hg hl hf he hclos hkind hcell hnames (.cons hN (.inl hk) (by rw [hcl]; simp [List.lookup]) .nil) hNt (fun y d z => ?_) (fun y z => ?_) (fun y hy => ?_) hs
  · by_cases w : y = x
    · subst w; simp [List.lookup] at z; rw [hcl, z]
    · have : (y == x) = false := by simpa using w
      simp [List.lookup, this] at z
  · rw [hrl] at z
    have : y = x := z.elim (fun q => hnm _ (PySem.mem_of_lookup q) (.inl rfl)) fun q => hnm _ (PySem.mem_of_lookup q) (.inr rfl)
    subst this
    exact ⟨c, by simp [List.lookup]⟩
  · rw [List.mem_singleton] at hy
    subst hy
    rw [hrl]; exact hvis
theorem dn_comp1 {x : Str} (i : Nat) {c : Addr} (nm : List (Str × NameKind)) (hc : X.calm = true) (hi : DI X E tg iter fi) (hg : ∀ fp s3 H3 C, DG (X.comp scope (Nt ++ [x]) [(x, c)] fp s3 H3 C) tg l a) (hl : ∀ j ∈ l, j < tn) (hf : ∀ fp s3 H3 C, DFt (X.comp scope (Nt ++ [x]) [(x, c)] fp s3 H3 C) ifs fc)
    (he : ∀ fp s3 H3 C, DE (X.comp scope (Nt ++ [x]) [(x, c)] fp s3 H3 C) (fun _ _ _ => False) elt fe)
    (hkind : scope.kind = .function) (hcell : ∀ y ∈ scope.names, y.2 ≠ .cell) (hnames : ∀ x ∈ scope.names, x.2 = .local → scope.names.lookup x.1 = some .local) (hNt : Nt.length = tn)
    (hN : X.N[i]? = some x) (hk : X.env.kindOf x = some .cell) (hcl : X.env.cells.lookup x = some c) (hclos : closureFor scope X.env = pure [(x, c)]) (hrl : (relabel scope X.env).names = nm)
    (hnm : ∀ p ∈ nm, (p.2 = .cell ∨ p.2 = .free) → p.1 = x) (hvis : nm.lookup x = some .cell ∨ nm.lookup x = some .free)
    (hs : ∀ x, foldedSetIterable iter X.env x = pure x := by intro _; rfl) : DN X E (.ListComp elt [⟨tg, iter, ifs, 0⟩] scope pos) (dComp fi tn [i] a fc fe) :=
  (dnu_comp1 i nm hc hi hg hl hf he hkind hcell hnames hNt hN hk hcl hclos hrl hnm hvis hs).dn
end
end P2
namespace P2
open PySem L2 PySem.Spec
open PySem.Builtin PySem.Builtin.Str
open PyProof.Rows hiding St
section
variable {prog : Program} {w : World} {A : Around} {E : Value → Shared → Prop} {s : Shared} {x y : PySem.Str} {t u : Tok} {Q : Value → Shared → Prop}
end
section
variable {X : Cx} {E : XK}
noncomputable def okMul64 (i j : Int) : Bool := (decide (-18446744073709551616 < i) && decide (i < 18446744073709551616)) || (decide (-18446744073709551616 < j) && decide (j < 18446744073709551616))
end
end P2
namespace P2
open PySem L2 PySem.Spec
open PyProof.Rows hiding St
theorem pass_cx {CX : CXT} {P : Program} {w : World} {K : PySem.W.Frag} {mg : Str → Option Value} {base : Heap} {N : List Str} {qual : Str} {scope : Scope} {f : Addr} {cd : Value} {A : Around} {outer : List Env} {s : Shared} {H : Hp} {E : XK} :
    PassesOwn (model (cxOf CX P w K mg base N qual scope f cd A outer s H E).prog (cxOf CX P w K mg base N qual scope f cd A outer s H E).w) (cxOf CX P w K mg base N qual scope f cd A outer s H E).A (cxOf CX P w K mg base N qual scope f cd A outer s H E).env (cxOf CX P w K mg base N qual scope f cd A outer s H E).xe :=
  PassesOwn.leaving (Q₁ := fun e s'' => CX outer H s E e s'')
section
variable {X : Cx} {E : XK} {e a b c tg : Expr} {f fa fb fc : Ev → R D} {pos : Pos}
theorem ds_go {l : List Nat} {u : D → Ev → Option Ev} (he : DE X E e f) (hg : DG X tg l u) (hs : swapsWithSole [tg] e pos.line X.env = pure false := by rfl) (hw : swappedStores [tg] e X.env = pure none := by rfl)
    (h1 : (assignEach [tg] X.env).map (·.2) = [assign tg X.env] := by rfl) : DS X E (.Assign [tg] e pos) (sGo f u) := by
  obtain ⟨t, p, r⟩ := he
  obtain ⟨g, pg, rg⟩ := hg
  refine ⟨_, ps_asg p pg hs hw h1, fun P H0 al H σ ρ D s h => r _ _ _ _ _ _ _ s (Aft.mono (okS.ofR h s) fun d H1 s1 h1 v rv => ?_)⟩
  cases q : u d ρ with
  | none => rw [q] at h1; exact h1.elim
  | some ρ' => rw [q] at h1; exact rg _ _ _ _ _ _ _ _ _ (s.grow s1) rv ⟨ρ', q, fun σ' _ s' => h1 al H1 σ' .refl s'⟩
noncomputable def sPar (i j : Nat) (fs : Ev → R (List D)) : Ev → RT := fun ρ => toS (fs ρ) fun ds => match ds with
  | [d1, d2] => if i < ρ.length ∧ j < ρ.length then .nx ((ρ.set i (.sh d1)).set j (.sh d2)) else .bad
  | _ => .bad
theorem ds_par {fs : Ev → R (List D)} {x y : Str} {px py pt : Pos} {kt k2 pt2} (i j : Nat) (hc : X.calm = true) (hN : X.N.Nodup) (hi : X.N[i]? = some x) (hj : X.N[j]? = some y) (hij : i ≠ j)
    (hx : X.env.scope.names.lookup x = some .local) (hy : X.env.scope.names.lookup y = some .local) (ha : DA X E [a, b] fs)
    (hw : swappedStores [.Tuple [.Name x px, .Name y py] kt pt] (.Tuple [a, b] k2 pt2) X.env = pure (some [x, y]) := by rfl)
    (hs : swapsWithSole [.Tuple [.Name x px, .Name y py] kt pt] (.Tuple [a, b] k2 pt2) pos.line X.env = pure false := by rfl) :
    DS X E (.Assign [.Tuple [.Name x px, .Name y py] kt pt] (.Tuple [a, b] k2 pt2) pos) (sPar i j fs) := by
  obtain ⟨t, p, r, _⟩ := ha
  refine ⟨_, ps_par hc hN hi hj hij hx hy p hw hs, fun P H0 al H σ ρ D s h => r _ _ _ _ _ _ _ s (Aft.mono (okS.ofR h s) fun ds H1 s1 h1 vs rv => ?_)⟩
  split at h1
  · rename_i d1 d2
    cases rv with
    | cons r1 r2 =>
      cases r2 with
      | cons r2 r3 =>
        cases r3
        split at h1
        · rename_i z
          exact ⟨_, _, rfl, h1 al H1 _ .refl (((s.grow s1).set z.1 r1).set (by rw [List.length_set]; exact z.2) r2)⟩
        · exact h1.elim
  · exact h1.elim
noncomputable def dChain (g g' : D → D → R D) (fa fb fc : Ev → R D) : Ev → R D := fun ρ => (fa ρ).bind fun x => (fb ρ).bind fun y => (g x y).bind fun z => match z with
  | .bl true => (fc ρ).bind fun w => g' y w
  | .bl false => .ok (.bl false)
  | _ => .bad
theorem dt_chain {op op' : CmpOp} {g g' : D → D → R D} (ho : OpD X E (compareOp op) g) (ho' : OpD X E (compareOp op') g') (ha : DE X E a fa) (hb : DE X E b fb) (hc : DE X E c fc)
    (hm : lastMarks [op, op'] [b, c] = false := by with_unfolding_all rfl) : DT X E (.Compare a [op, op'] [b, c] pos) (b1 tB (dChain g g' fa fb fc)) := by
  obtain ⟨r1, o1, d1⟩ := ho
  obtain ⟨r2, o2, d2⟩ := ho'
  obtain ⟨ta, pa, ra⟩ := ha
  obtain ⟨tb, pb, rb⟩ := hb
  obtain ⟨tc, pc, rc⟩ := hc
  refine ⟨_, pt_chain o1 o2 pa pb pc hm, fun P H0 al H σ ρ Q s h => ra _ _ _ _ _ _ _ s (Aft.mono (Aft.split (Aft.split h)) fun x H1 s1 h1 v rv => rb _ _ _ _ _ _ _ (s.grow s1) (Aft.mono (Aft.split h1) fun y H2 s2 h2 u ru => ?_))⟩
  have sg := (s.grow s1).grow s2
  refine d1 _ _ _ _ _ _ _ sg.fresh (rv.up s2) ru (Aft.mono (Aft.split h2) fun z H3 s3 h3 zv rz => ?_)
  split at h3
  · cases rz
    refine ⟨true, rfl, ?_⟩
    rw [if_pos rfl]
    exact rc _ _ _ _ _ _ _ (sg.grow s3) (Aft.mono (Aft.split h3) fun w H4 s4 h4 wv rw' => d2 _ _ _ _ _ _ _ ((sg.grow s3).grow s4).fresh (ru.up (s3.trans s4)) rw' (Aft.mono h4 fun z H5 s5 h5 v5 r5 => rep_tB r5 h5))
  · cases rz
    refine ⟨false, rfl, ?_⟩
    rw [if_neg (by decide)]
    exact rep_tB (.bl false) (h3 H3 (.refl H3))
  · exact h3.elim
noncomputable def sameD : D → D → Option Bool
  | .non, .non => some true
  | .bl a, .bl b => some (a == b)
  | .bl _, .non => some false
  | .int _, .non => some false
  | .str _, .non => some false
  | .tup _, .non => some false
  | .lst _, .non => some false
  | _, _ => none
noncomputable def isD2 (x y : D) : R D := match sameD x y with
  | some b => .ok (.bl b)
  | none => .bad
noncomputable def isnD2 (x y : D) : R D := match sameD x y with
  | some b => .ok (.bl (!b))
  | none => .bad
theorem op_isD2 : OpD X E (compareOp .Is) isD2 := by
  refine ⟨_, opr_or op_isN op_is_bl, fun al H x y dx dy Q fr rx ry h => ?_⟩
  unfold isD2 at h
  cases q : sameD dx dy with
  | none => rw [q] at h; exact h.elim
  | some b =>
    rw [q] at h
    have hq := h H (.refl H) _ (.bl b)
    unfold sameD at q
    split at q <;> first | (cases q; done) | skip
    · cases rx; cases ry; cases q; exact .inl ⟨rfl, hq⟩
    · cases rx; cases ry; cases q; exact .inr ⟨_, _, rfl, rfl, hq⟩
    all_goals (cases ry; cases q; cases rx <;> exact .inl ⟨rfl, hq⟩)
noncomputable def slWD : D → Option Int → Option Int → R D
  | .tup ds, lo, hi => if ¬ (HT.sIx ds.length 0 lo = 0 ∧ HT.sIx ds.length ds.length hi = ds.length) then .ok (.tup (cutD ds lo hi)) else .bad
  | d, lo, hi => slD d lo hi
theorem sl_WD : SlD X E slWD := by
  obtain ⟨r0, s0, d0⟩ := sl_D (X := X) (E := E)
  refine ⟨_, sl_tup.or s0, fun al H x dx lo hi Q fr rx h => ?_⟩
  unfold slWD at h
  split at h
  · obtain ⟨a, vs, rfl, h1, h2⟩ := rx.tupIn
    split at h
    · rename_i z
      exact .inl ⟨a, vs, rfl, h1, by rw [h2.length]; exact z, fun p hp => h _ (same_upd hp) _ ((h2.cut lo hi).tupNew hp (fr p hp))⟩
    · exact h.elim
  · exact .inr (d0 _ _ _ _ _ _ _ fr rx h)
noncomputable def listD : List D → R D
  | [.lst ds] => .ok (.lst ds)
  | [.tup ds] => .ok (.lst ds)
  | _ => .bad
theorem call_listD : CallD X E (.type "list") listD := by
  refine ⟨_, call_list_of, fun al H xs ds Q fr r h => ?_⟩
  unfold listD at h
  split at h
  · obtain ⟨v, rfl, q⟩ := Reps.one r
    obtain ⟨a, vs, rfl, h1, h2⟩ := q.lstIn
    exact ⟨a, vs, rfl, .inl h1, fun p hp => h _ (same_upd hp) _ (h2.lstNew hp (fr p hp))⟩
  · obtain ⟨v, rfl, q⟩ := Reps.one r
    obtain ⟨a, vs, rfl, h1, h2⟩ := q.tupIn
    exact ⟨a, vs, rfl, .inr h1, fun p hp => h _ (same_upd hp) _ (h2.lstNew hp (fr p hp))⟩
  · exact h.elim
end
end P2
namespace P2
open PySem L2 PySem.Spec
open PyProof.Rows hiding St
section
variable {X : Cx} {E : XK}
noncomputable def hasV (x : D) (ys : List D) : Option Bool := (pyD x).bind fun p => (pyDs ys).bind fun ps => if (PyData.canLayAll0 ps && PyData.canLay0 p && decide (p.depth ≤ 63)) = true then some (ps.any fun y => PyData.eqv y p) else none
noncomputable def ninLD (x y : D) : R D := match y with
  | .lst ys => (match hasV x ys with
    | some b => .ok (.bl (!b))
    | none => .bad)
  | .tup ys => (match hasV x ys with
    | some b => .ok (.bl (!b))
    | none => .bad)
  | _ => .bad
theorem has_of {pins : List (Addr × Obj)} {σ : L2.St} {H : Hp} {s : Shared} (I : Inv X pins σ H s) (hu : X.A.units + 64 < cLine) {al : Addr → Prop} {x y : V} {d : D} {ys : List D} {u v : Value} {b : Bool} (rd : Rep X.K al H x d) (rl : Rep X.K al H y (.lst ys) ∨ Rep X.K al H y (.tup ys)) (rx : RelV x u) (ry : RelV y v) (e : hasV d ys = some b) :
    ∃ p ps as bs, (Reads s.heap v (.list ps) as ∨ Reads s.heap v (.tuple ps) as) ∧ Reads s.heap u p bs ∧ PyData.canLayAll0 ps = true ∧ PyData.canLay0 p = true ∧ X.A.units + 1 + min (PyData.depthAll ps) p.depth < cLine ∧ (ps.any fun y => PyData.eqv y p) = b := by
  obtain ⟨p, e1, e2⟩ := Option.bind_eq_some_iff.mp e
  obtain ⟨ps, e3, e4⟩ := Option.bind_eq_some_iff.mp e2
  split at e4
  · rename_i z
    simp only [Bool.and_eq_true, decide_eq_true_eq] at z
    obtain ⟨bs, w2⟩ := rep_reads I rd rx e1
    have := Nat.min_le_right (PyData.depthAll ps) p.depth
    rcases rl with rl | rl
    · obtain ⟨as, w1⟩ := rep_reads (p := .list ps) I rl ry (show (pyDs ys).map PyData.list = some _ by rw [e3]; rfl)
      exact ⟨p, ps, as, bs, .inl w1, w2, z.1.1, z.1.2, by omega, Option.some.inj e4⟩
    · obtain ⟨as, w1⟩ := rep_reads (p := .tuple ps) I rl ry (show (pyDs ys).map PyData.tuple = some _ by rw [e3]; rfl)
      exact ⟨p, ps, as, bs, .inr w1, w2, z.1.1, z.1.2, by omega, Option.some.inj e4⟩
  · cases e4
theorem op_ninLD (hu : X.A.units + 64 < cLine) : OpD X E (compareOp .NotIn) ninLD := by
  refine ⟨fun x y H Q => ∃ al d ys b, Rep X.K al H x d ∧ (Rep X.K al H y (.lst ys) ∨ Rep X.K al H y (.tup ys)) ∧ hasV d ys = some b ∧ Q (.bl (!b)) H, fun pins s σ H x y v u Q I rx ry h => ?_, fun al H x y dx dy Q fr rx ry h => ?_⟩
  · obtain ⟨al, d, ys, b, h1, h2, h3, h4⟩ := h
    obtain ⟨p, ps, as, bs, w1, w2, w3, w4, w5, w6⟩ := has_of I hu h1 h2 rx ry h3
    rcases w1 with w1 | w1
    · exact SeqAt.notIn_list_reads w1 w2 w3 w4 w5 (by rw [w6]; exact ⟨.bl (!b), H, I, rfl, h4⟩)
    · exact SeqAt.notIn_tuple_reads w1 w2 w3 w4 w5 (by rw [w6]; exact ⟨.bl (!b), H, I, rfl, h4⟩)
  · unfold ninLD at h
    split at h
    · rename_i ys
      cases q : hasV dx ys with
      | none => rw [q] at h; exact h.elim
      | some b => rw [q] at h; exact ⟨al, dx, ys, b, rx, .inl ry, q, h H (.refl H) _ (.bl (!b))⟩
    · rename_i ys
      cases q : hasV dx ys with
      | none => rw [q] at h; exact h.elim
      | some b => rw [q] at h; exact ⟨al, dx, ys, b, rx, .inr ry, q, h H (.refl H) _ (.bl (!b))⟩
    · exact h.elim
end
end P2
namespace L2
open PySem PySem.Spec PyProof.Rows
section
variable {X : Cx} {pos : Pos}
noncomputable def tPar3 (i j k : Nat) (ta : TA) : TS := fun D σ H => ta σ H fun vs H1 => ∃ u v w, vs = [u, v, w] ∧ D.nx (((σ.set i (some u)).set j (some v)).set k (some w)) H1
theorem ps_par3 {i j k : Nat} {x y z : Str} {a b c : Expr} {ta : TA} {px py pz pt : Pos} {kt k2 pt2} (hc : X.calm = true) (hN : X.N.Nodup) (hi : X.N[i]? = some x) (hj : X.N[j]? = some y) (hk : X.N[k]? = some z) (hij : i ≠ j) (hik : i ≠ k) (hjk : j ≠ k)
    (hx : X.env.scope.names.lookup x = some .local) (hy : X.env.scope.names.lookup y = some .local) (hz : X.env.scope.names.lookup z = some .local) (ha : PA X [a, b, c] ta)
    (hw : swappedStores [.Tuple [.Name x px, .Name y py, .Name z pz] kt pt] (.Tuple [a, b, c] k2 pt2) X.env = pure (some [x, y, z]))
    (hs : swapsWithSole [.Tuple [.Name x px, .Name y py, .Name z pz] kt pt] (.Tuple [a, b, c] k2 pt2) pos.line X.env = pure false := by rfl) :
    PS X (.Assign [.Tuple [.Name x px, .Name y py, .Name z pz] kt pt] (.Tuple [a, b, c] k2 pt2) pos) (tPar3 i j k ta) := by
  intro pins s σ H D I h
  rw [exec_Assign_arm]
  refine wpAny_bind (wpAny_standAt ?_)
  rw [hs]
  refine wpAny_bind (wpAny_pure ?_)
  rw [if_neg (by decide)]
  refine wpAny_bind (Tuple_ (thn (ha _ pins s σ H _ I h) fun us s1 ⟨vs, H1, I1, r1, q1⟩ => ?_))
  obtain ⟨u, v, w, e1, q1⟩ := q1
  subst e1
  obtain ⟨u1, u2, u3, rfl, ru, rv, rw'⟩ : ∃ u1 u2 u3, us = [u1, u2, u3] ∧ RelV u u1 ∧ RelV v u2 ∧ RelV w u3 := by
    cases r1 with
    | cons p q =>
      cases q with
      | cons p' q' =>
        cases q' with
        | cons p2 q2 =>
          cases q2
          exact ⟨_, _, _, rfl, p, p', p2⟩
  refine wpAny_newObj_type ?_ (by show 3 ≤ sizeLine; decide)
  have I2 : Inv X pins σ H1 { s1 with heap := s1.heap.push { cls := .type "tuple", data := .seq [u1, u2, u3].toArray } } := I1.kept (t' := s1.toks) fun b o e => Heap.get?_push_of_some _ e
  rw [hw]
  refine wpAny_bind (wpAny_pure ?_)
  show wpAny (model X.prog X.w) X.A (do rule "assign.swapped-stores"; let items ← unpackItems (.ref s1.heap.objs.size) 3 none; assignInOrder [fun v => bindName X.env z v, fun v => bindName X.env y v, fun v => bindName X.env x v] items.reverse; pure Flow.next) _ _ _
  refine wpAny_bind (wpAny_rule (wpAny_bind (unpackItems_tuple (items := #[u1, u2, u3]) (I.ok.hd hc) (IsTup.new s1.heap _) fun h' hx' => ?_)))
  have I3 := I2.kept (h' := h') (t' := s1.toks) fun b o e => hx' b o (Nat.ne_of_lt (Heap.lt_size e)) e
  show wpAny _ _ (assignInOrder [fun v => bindName X.env z v, fun v => bindName X.env y v, fun v => bindName X.env x v] [u3, u2, u1] >>= fun _ => pure Flow.next) _ _ _
  refine wpAny_bind (assignInOrder_cons (wpAny_bindName (store_ok I3 hN hk (.inl hz) rw' (fun s2 I4 => ?_) (.inr hz))))
  refine assignInOrder_cons (wpAny_bindName (store_ok I4 hN hj (.inl hy) rv (fun s3 I5 => ?_) (.inr hy)))
  refine assignInOrder_cons (wpAny_bindName (store_ok I5 hN hi (.inl hx) ru (fun s4 I6 => assignInOrder_nil (wpAny_pure ?_)) (.inr hx)))
  rw [List.set_comm _ _ (Ne.symm hjk), List.set_comm _ _ (Ne.symm hik), List.set_comm _ _ (Ne.symm hij)] at I6
  exact ⟨_, H1, I6, q1⟩
end
end L2
namespace P2
open PySem L2 PySem.Spec
open PyProof.Rows hiding St
section
variable {X : Cx} {E : XK} {a b c : Expr} {pos : Pos}
noncomputable def sPar3 (i j k : Nat) (fs : Ev → R (List D)) : Ev → RT := fun ρ => toS (fs ρ) fun ds => match ds with
  | [d1, d2, d3] => if i < ρ.length ∧ j < ρ.length ∧ k < ρ.length then .nx (((ρ.set i (.sh d1)).set j (.sh d2)).set k (.sh d3)) else .bad
  | _ => .bad
theorem ds_par3 {fs : Ev → R (List D)} {x y z : Str} {px py pz pt : Pos} {kt k2 pt2} (i j k : Nat) (hc : X.calm = true) (hN : X.N.Nodup) (hi : X.N[i]? = some x) (hj : X.N[j]? = some y) (hk : X.N[k]? = some z) (hij : i ≠ j) (hik : i ≠ k) (hjk : j ≠ k)
    (hx : X.env.scope.names.lookup x = some .local) (hy : X.env.scope.names.lookup y = some .local) (hz : X.env.scope.names.lookup z = some .local) (ha : DA X E [a, b, c] fs)
    (hw : swappedStores [.Tuple [.Name x px, .Name y py, .Name z pz] kt pt] (.Tuple [a, b, c] k2 pt2) X.env = pure (some [x, y, z]) := by rfl)
    (hs : swapsWithSole [.Tuple [.Name x px, .Name y py, .Name z pz] kt pt] (.Tuple [a, b, c] k2 pt2) pos.line X.env = pure false := by rfl) :
    DS X E (.Assign [.Tuple [.Name x px, .Name y py, .Name z pz] kt pt] (.Tuple [a, b, c] k2 pt2) pos) (sPar3 i j k fs) := by
  obtain ⟨t, p, r, _⟩ := ha
  refine ⟨_, ps_par3 hc hN hi hj hk hij hik hjk hx hy hz p hw hs, fun P H0 al H σ ρ D s h => r _ _ _ _ _ _ _ s (Aft.mono (okS.ofR h s) fun ds H1 s1 h1 vs rv => ?_)⟩
  split at h1
  · rename_i d1 d2 d3
    cases rv with
    | cons r1 r2 =>
      cases r2 with
      | cons r2 r3 =>
        cases r3 with
        | cons r3 r4 =>
          cases r4
          split at h1
          · rename_i q
            exact ⟨_, _, _, rfl, h1 al H1 _ .refl ((((s.grow s1).set q.1 r1).set (by rw [List.length_set]; exact q.2.1) r2).set (by rw [List.length_set, List.length_set]; exact q.2.2) r3)⟩
          · exact h1.elim
  · exact h1.elim
end
inductive FlatV : V → D → Prop
  | non : FlatV .non .non
  | bl (b : Bool) : FlatV (.bl b) (.bl b)
  | int (i : Int) : FlatV (.int i) (.int i)
  | str (x : Str) : FlatV (.str x) (.str x)
inductive FlatVs : List V → List D → Prop
  | nil : FlatVs [] []
  | cons {v : V} {d : D} {vs : List V} {ds : List D} : FlatV v d → FlatVs vs ds → FlatVs (v :: vs) (d :: ds)
structure GlT (K : PySem.W.Frag) (mg : Str → Option Value) (x : Str) (ds : List D) : Prop where
  ex : ∃ (a : Addr) (vs : List V), mg x = some (.ref a) ∧ KT K a vs ∧ FlatVs vs ds
theorem strs_vals : ∀ l : List (Str × Tok), Vals (l.map fun p => V.str p.1) (l.map fun p => Value.str p.1 p.2)
  | [] => .nil
  | (_, t) :: l => .cons ⟨t, rfl⟩ (strs_vals l)
theorem strs_flat : ∀ l : List (Str × Tok), FlatVs (l.map fun p => V.str p.1) (l.map fun p => D.str p.1)
  | [] => .nil
  | (_, _) :: l => .cons (.str _) (strs_flat l)
theorem GlT.strs {K : PySem.W.Frag} {mg : Str → Option Value} {x : Str} {a : Addr} {dd : Option Addr} {l : List (Str × Tok)} {n : Nat} {sl : Array (Option Value)} (hm : mg x = some (.ref a)) (hl : K.lookup a = some ⟨.type "tuple", dd, .seq (l.map fun p => Value.str p.1 p.2).toArray n, sl⟩) (hz : l.length ≤ sizeLine) :
    GlT K mg x (l.map fun p => .str p.1) := by
  refine ⟨a, l.map fun p => .str p.1, hm, ⟨_, _, n, hl, rfl, rfl, by simpa using hz, ?_⟩, ?_⟩
  · rw [List.toList_toArray]
    exact strs_vals l
  · exact strs_flat l
end P2
namespace P2
open PySem L2 PySem.Spec
open PyProof.Rows hiding St
section
variable {X : Cx} {E : XK} {e : Expr} {fn : Ev → R (List D)} {pos : Pos}
theorem ds_setU (i : Nat) {x : Str} {pos' : Pos} (hN : X.N.Nodup) (hi : X.N[i]? = some x) (hx : Loc X.env.scope x) (he : DNU X E e fn) (hs : swapsWith e (some (.Name x pos')) pos.line X.env = pure true := by rfl) (hf : X.fn x = true ∨ X.env.scope.names.lookup x = some .local := by first | exact .inl rfl | exact .inr rfl | assumption) :
    DS X E (.Assign [.Name x pos'] e pos) (sSet i (asN fn)) := by
  obtain ⟨t, _, p, r⟩ := he
  refine ⟨_, ps_use hN hi hx p hs hf, fun P H0 al H σ ρ D s h => ?_⟩
  have h' : okS X.K P H0 E D al H (toS (fn ρ) fun ds => if i < ρ.length then .nx (ρ.set i (.sh (.lst ds))) else .bad) := by
    unfold sSet asN at h
    cases q : fn ρ with
    | ok ds => rw [q] at h; exact h
    | ex c ns es => rw [q] at h; exact h
    | bad => rw [q] at h; exact h.elim
  refine r _ _ _ _ _ _ _ s (Aft.mono (okS.ofR h' s) fun ds H1 s1 h1 q vs hq rv => ?_)
  by_cases z : i < ρ.length
  · simp only [z, if_true] at h1
    have sm := same_upd (K := X.K) (o := HO.lst vs) hq
    exact h1 al _ _ (.of sm) (((s.grow s1).grow sm).set z (rv.lstNew hq ((s.grow s1).fresh q hq)))
  · simp only [z, if_false] at h1
    exact h1.elim
theorem ds_ownU (i : Nat) {x : Str} {pos' : Pos} (hN : X.N.Nodup) (hi : X.N[i]? = some x) (hx : Loc X.env.scope x) (he : DNU X E e fn) (hs : swapsWith e (some (.Name x pos')) pos.line X.env = pure true := by rfl) (hf : X.fn x = true ∨ X.env.scope.names.lookup x = some .local := by first | exact .inl rfl | exact .inr rfl | assumption) :
    DS X E (.Assign [.Name x pos'] e pos) (sOwn i fn) := by
  obtain ⟨t, _, p, r⟩ := he
  refine ⟨_, ps_use hN hi hx p hs hf, fun P H0 al H σ ρ D s h => r _ _ _ _ _ _ _ s (Aft.mono (okS.ofR h s) fun ds H1 s1 h1 q vs hq rv => ?_)⟩
  by_cases z : i < ρ.length
  · simp only [z, if_true] at h1
    obtain ⟨s2, x2⟩ := (s.grow s1).own z hq rv
    exact h1 _ _ _ x2 s2
  · simp only [z, if_false] at h1
    exact h1.elim
end
end P2
namespace P2
open PySem L2 PySem.Spec
open PyProof.Rows hiding St
section
variable {X : Cx} {E : XK} {tg iter elt : Expr} {ifs : List Expr} {scope : Scope} {pos : Pos} {fi : Ev → R (List D)} {l : List Nat} {a : D → Ev → Option Ev} {fc : Ev → R Bool} {fe : Ev → R D} {tn : Nat} {Nt : List Str}
theorem dnu_comp2 {x y : Str} (i j : Nat) {c d : Addr} (nm : List (Str × NameKind)) (hxy : x ≠ y) (hc : X.calm = true) (hi : DI X E tg iter fi) (hg : ∀ fp s3 H3 C, DG (X.comp scope (Nt ++ [x, y]) [(y, d), (x, c)] fp s3 H3 C) tg l a) (hl : ∀ j ∈ l, j < tn) (hf : ∀ fp s3 H3 C, DFt (X.comp scope (Nt ++ [x, y]) [(y, d), (x, c)] fp s3 H3 C) ifs fc)
    (he : ∀ fp s3 H3 C, DE (X.comp scope (Nt ++ [x, y]) [(y, d), (x, c)] fp s3 H3 C) (fun _ _ _ => False) elt fe)
    (hkind : scope.kind = .function) (hcell : ∀ y ∈ scope.names, y.2 ≠ .cell) (hnames : ∀ x ∈ scope.names, x.2 = .local → scope.names.lookup x.1 = some .local) (hNt : Nt.length = tn)
    (hN : X.N[i]? = some x) (hk : X.env.kindOf x = some .cell) (hcl : X.env.cells.lookup x = some c) (hN2 : X.N[j]? = some y) (hk2 : X.env.kindOf y = some .cell) (hcl2 : X.env.cells.lookup y = some d) (hclos : closureFor scope X.env = pure [(y, d), (x, c)]) (hrl : (relabel scope X.env).names = nm)
    (hnm : ∀ p ∈ nm, (p.2 = .cell ∨ p.2 = .free) → p.1 = x ∨ p.1 = y) (hvis : ∀ z ∈ [x, y], nm.lookup z = some .cell ∨ nm.lookup z = some .free)
    (hs : ∀ x, foldedSetIterable iter X.env x = pure x := by intro _; rfl) : DNU X E (.ListComp elt [⟨tg, iter, ifs, 0⟩] scope pos) (dComp fi tn [i, j] a fc fe) := by
  have b1 : (x == y) = false := by simpa using hxy
  have l1 : ([(y, d), (x, c)] : List (Str × Addr)).lookup x = some c := by simp [List.lookup, b1]
  have l2 : ([(y, d), (x, c)] : List (Str × Addr)).lookup y = some d := by simp [List.lookup]
  refine dnu_comp (cl := [(y, d), (x, c)]) (Nc := [x, y]) (ci := [i, j]) hc hi hg hl hf he hclos hkind hcell hnames (.cons hN (.inl hk) (by rw [hcl, l1]) (.cons hN2 (.inl hk2) (by rw [hcl2, l2]) .nil)) hNt (fun z e q => ?_) (fun z q => ?_) (fun z hz => ?_) hs
  · by_cases w : z = y
    · subst w; rw [l2] at q; cases q; exact hcl2
    · by_cases w2 : z = x
      · subst w2; rw [l1] at q; cases q; exact hcl
      · have e1 : (z == y) = false := by simpa using w
        have e2 : (z == x) = false := by simpa using w2
        simp [List.lookup, e1, e2] at q
  · rw [hrl] at q
    have : z = x ∨ z = y := q.elim (fun q => hnm _ (PySem.mem_of_lookup q) (.inl rfl)) fun q => hnm _ (PySem.mem_of_lookup q) (.inr rfl)
    rcases this with rfl | rfl
    · exact ⟨c, l1⟩
    · exact ⟨d, l2⟩
  · rw [hrl]; exact hvis z hz
end
section
variable {X : Cx} {E : XK}
end
end P2
namespace P2
open PySem L2 PySem.Spec
open PyProof.Rows hiding St
section
variable {X : Cx} {E : XK} {a b : Expr} {fa fb : Ev → R D} {pos : Pos}
end
end P2
namespace P2
open PySem L2 PySem.Spec
open PyProof.Rows hiding St
section
variable {X : Cx} {E : XK}
theorem bt_min : bootBuiltins "min" = some (.builtin "min") := by decide +kernel
noncomputable def min2D : List D → R D
  | [.int i, .int j] => .ok (.int (if j < i then j else i))
  | _ => .bad
end
end P2
namespace TM
open PySem PySem.NumText PySem.StrLaws Builtin Builtin.Str
noncomputable def cds (x : Str) : List Nat := x.cps.toList
theorem ext {x y : Str} (h : cds x = cds y) : x = y := by
  obtain ⟨x⟩ := x; obtain ⟨y⟩ := y
  have : x = y := Array.toList_inj.mp h
  rw [this]
theorem cds_app (x y : Str) : cds (x ++ y) = cds x ++ cds y := by
  show (x.cps ++ y.cps).toList = x.cps.toList ++ y.cps.toList
  simp
theorem len_cds (x : Str) : x.length = (cds x).length := by simp [Str.length, cds]
noncomputable def num (m : Nat) : List Nat := (Nat.toDigits 10 m).map Char.toNat
theorem cds_num (m : Nat) : cds (Str.ofString (toString ((m : Nat) : Int))) = num m := PySem.W.KIN.signs_num m
theorem digit_rng {c : Char} (h : c.isDigit = true) : 48 ≤ c.toNat ∧ c.toNat ≤ 57 := by
  unfold Char.isDigit at h
  simp only [Bool.and_eq_true, decide_eq_true_eq, ge_iff_le] at h
  obtain ⟨h1, h2⟩ := h
  have a : (48 : UInt32).toNat ≤ c.val.toNat := UInt32.le_iff_toNat_le.mp h1
  have b : c.val.toNat ≤ (57 : UInt32).toNat := UInt32.le_iff_toNat_le.mp h2
  exact ⟨a, b⟩
theorem num_digits (m : Nat) : AllDigits (num m) := by
  intro c hc
  obtain ⟨ch, h, rfl⟩ := List.mem_map.mp hc
  exact digit_rng (Nat.isDigit_of_mem_toDigits (by decide) (by decide) h)
theorem num_small {m : Nat} (h : m < 10) : num m = [48 + m] := by
  have : ∀ m : Nat, m < 10 → num m = [48 + m] := by decide
  exact this m h
theorem num_snoc {m : Nat} (h : 10 ≤ m) : num m = num (m / 10) ++ [48 + m % 10] := by
  have hm : m % 10 < 10 := Nat.mod_lt m (by decide)
  have t : Nat.toDigits 10 (m / 10) ++ Nat.toDigits 10 (m % 10) = Nat.toDigits 10 (10 * (m / 10) + m % 10) := Nat.toDigits_append_toDigits (by decide) (by omega) hm
  rw [Nat.div_add_mod] at t
  rw [← num_small hm]
  unfold num
  rw [← t, List.map_append]
theorem num_len {k : Nat} : ∀ {m : Nat}, m < 10 ^ (k + 1) → (num m).length ≤ k + 1 := by
  induction k with
  | zero => intro m h; rw [num_small (by omega)]; simp
  | succ k ih =>
    intro m h
    by_cases hm : m < 10
    · rw [num_small hm]; simp
    · rw [num_snoc (by omega), List.length_append]
      have : m / 10 < 10 ^ (k + 1) := by rw [Nat.pow_succ] at h; omega
      have := ih this
      simp only [List.length_singleton]; omega
noncomputable def two (n : Nat) : List Nat := [48 + n / 10, 48 + n % 10]
end TM
namespace T4
open PySem PySem.NumText TM
end T4
namespace T2
open PySem PySem.NumText TM
noncomputable def numI (t : Int) : List Nat := if t < 0 then 45 :: num t.natAbs else num t.natAbs
theorem cds_int (t : Int) : cds (Str.ofString (toString t)) = numI t := by
  cases t with
  | ofNat n =>
    unfold numI
    rw [if_neg (by simp)]
    exact cds_num n
  | negSucc n =>
    unfold numI
    rw [if_pos (Int.negSucc_lt_zero n)]
    have e : cds (Str.ofString (toString (Int.negSucc n))) = 45 :: cds (Str.ofString (toString (((n + 1 : Nat)) : Int))) := by
      unfold cds
      rw [PySem.Str.ofString_eq_toList, PySem.Str.ofString_eq_toList]
      show ("-" ++ Nat.repr (n + 1)).toList.map Char.toNat = 45 :: ((Nat.repr (n + 1)).toList.map Char.toNat)
      rw [String.toList_append, List.map_append]
      rfl
    rw [e, cds_num]
    rfl
noncomputable def splitL (c : Nat) : List Nat → List (List Nat)
  | [] => [[]]
  | x :: r => if x = c then [] :: splitL c r else match splitL c r with
    | p :: ps => (x :: p) :: ps
    | [] => [[x]]
theorem splitL_hit {c : Nat} {r : List Nat} : splitL c (c :: r) = [] :: splitL c r := by
  show (if c = c then [] :: splitL c r else _) = _
  rw [if_pos rfl]
theorem splitL_miss {c x : Nat} {r p : List Nat} {ps : List (List Nat)} (h : x ≠ c) (e : splitL c r = p :: ps) : splitL c (x :: r) = (x :: p) :: ps := by
  show (if x = c then [] :: splitL c r else match splitL c r with | p :: ps => (x :: p) :: ps | [] => [[x]]) = _
  rw [if_neg h, e]
theorem splitL_free {c : Nat} : ∀ {l : List Nat}, c ∉ l → splitL c l = [l]
  | [], _ => rfl
  | x :: r, h => splitL_miss (fun z => h (by rw [z]; exact List.mem_cons_self ..)) (splitL_free fun z => h (List.mem_cons_of_mem _ z))
theorem splitL_app {c : Nat} {r : List Nat} : ∀ {l : List Nat}, c ∉ l → splitL c (l ++ c :: r) = l :: splitL c r
  | [], _ => splitL_hit
  | x :: l, h => splitL_miss (fun z => h (by rw [z]; exact List.mem_cons_self ..)) (splitL_app fun z => h (List.mem_cons_of_mem _ z))
theorem not_num {m c : Nat} (h : c < 48 ∨ 57 < c) : c ∉ num m := fun z => by have := num_digits m c z; omega
structure Ok (t b : Int) : Prop where
  low : FM.Low t b
  ht : t.natAbs < 10 ^ 60
  hb : b.natAbs < 10 ^ 60
theorem low_self {t b : Int} (L : FM.Low t b) : FM.top t b = t ∧ FM.bot t b = b := by
  have := FM.scaled (k := 1) L (by decide)
  rwa [Int.mul_one, Int.mul_one] at this
theorem top_le (t : Int) {b : Int} (hb : b ≠ 0) : (FM.top t b).natAbs ≤ t.natAbs ∧ (FM.bot t b).natAbs ≤ b.natAbs := by
  obtain ⟨h1, h2⟩ := FM.split (t := t) hb
  have hd := FM.dv_ne (t := t) hb
  have hd1 : 1 ≤ (FM.dv t b).natAbs := by omega
  have e1 : t.natAbs = (FM.dv t b).natAbs * (FM.top t b).natAbs := by rw [← Int.natAbs_mul, ← h1]
  have e2 : b.natAbs = (FM.dv t b).natAbs * (FM.bot t b).natAbs := by rw [← Int.natAbs_mul, ← h2]
  rw [e1, e2]
  exact ⟨Nat.le_mul_of_pos_left _ hd1, Nat.le_mul_of_pos_left _ hd1⟩
end T2
namespace TR
open PySem PySem.NumText TM T2
noncomputable def keyL : List (List Nat) := [[109, 97, 114, 107], [102, 105, 108, 108], [104, 101, 114, 101], [98, 97, 99, 107], [111, 110], [97, 116], [97, 103, 111], [117, 110, 116, 105, 108], [97, 98, 115], [97, 110, 100], [111, 114], [110, 111, 116]]
noncomputable def ltr (c : Nat) : Bool := decide (97 ≤ c) && decide (c ≤ 122)
noncomputable def wordB (m : List Nat) : Bool := decide (m ≠ []) && decide (m.length ≤ 8) && m.all ltr && !decide (m ∈ keyL)
noncomputable def hmL (t : Nat) : List Nat := two (t % 1440 / 60) ++ 58 :: two (t % 1440 % 60)
noncomputable def showR (m : List Nat) (t u : Nat) (n : Int) : List Nat := m ++ 32 :: (num (t / 1440) ++ 32 :: (hmL t ++ 32 :: (num u ++ 32 :: numI n)))
structure Ok (m : List Nat) (t u : Nat) (n : Int) : Prop where
  m : wordB m = true
  t : t ≤ 1000000000
  u : u ≤ 1000000000
  n : n.natAbs < 10 ^ 60
theorem word_all {m : List Nat} (h : wordB m = true) : m ≠ [] ∧ m.length ≤ 8 ∧ (∀ c ∈ m, 97 ≤ c ∧ c ≤ 122) ∧ m ∉ keyL := by
  unfold wordB at h
  simp only [Bool.and_eq_true, decide_eq_true_eq, Bool.not_eq_true', decide_eq_false_iff_not, List.all_eq_true] at h
  refine ⟨h.1.1.1, h.1.1.2, fun c hc => ?_, h.2⟩
  have := h.1.2 c hc
  unfold ltr at this
  simpa using this
theorem no32 {m : List Nat} (h : wordB m = true) : 32 ∉ m := fun z => by have := (word_all h).2.2.1 32 z; omega
theorem num32 (k : Nat) : 32 ∉ num k := not_num (.inl (by decide))
theorem hm32 (t : Nat) : 32 ∉ hmL t := by
  unfold hmL two
  intro z
  simp only [List.mem_append, List.mem_cons, List.not_mem_nil, or_false] at z
  omega
theorem numI32 (n : Int) : 32 ∉ numI n := by
  unfold numI
  split
  · intro z
    rcases List.mem_cons.mp z with z | z
    · cases z
    · exact num32 _ z
  · exact num32 _
theorem parts {m : List Nat} {t u : Nat} {n : Int} (O : Ok m t u n) : splitL 32 (showR m t u n) = [m, num (t / 1440), hmL t, num u, numI n] := by
  unfold showR
  rw [splitL_app (no32 O.m), splitL_app (num32 _), splitL_app (hm32 _), splitL_app (num32 _), splitL_free (numI32 _)]
end TR
namespace P2
open PySem L2
theorem size_of {n : Nat} (h : n ≤ 1000000) : n ≤ sizeLine := Nat.le_trans h (by decide)
theorem bits_le {i : Int} {k : Nat} (h : i.natAbs < 2 ^ k) : bits i ≤ k := intBits_le_iff.mpr h
theorem log2_lt {i : Int} {k : Nat} (hk : 0 < k) (h : i.natAbs < 2 ^ k) : i.natAbs.log2 < k := by
  by_cases z : i.natAbs = 0
  · rw [z]; exact hk
  · exact (Nat.log2_lt z).mpr h
section
variable {α β : Type} {a : α} {c : Addr} {ns : List Str} {es : List D} {k : α → RT} {h : α → R β} {ρ : Ev} {g u : Ev → RT} {f fa fb : Ev → R D} {fc fd : Ev → R Bool} {fs : Ev → R (List D)} {i j : Int} {x y : Str} {b b2 : Bool} {ds ds2 : List D} {d : D} {n m : Nat} {gd gd2 : D → D → R D} {g1 : D → R D} {gl : List D → R D} {gt : D → List D → R D}
variable {t : String} {g3 : D → Option Int → Option Int → R D} {fl fu : Ev → R (Option Int)} {cs : List Nat} {ga : D → Ev → Option Ev} {lo hi : Option Int} {fj : Str → Ev → R D}
theorem q_bind_k : (R.ok a).bind h = h a := rfl
theorem q_bind_x : (R.ex c ns es : R α).bind h = .ex c ns es := rfl
theorem q_bind_b : (R.bad : R α).bind h = .bad := rfl
theorem q_toS_k : toS (R.ok a) k = k a := rfl
theorem q_toS_x : toS (R.ex c ns es : R α) k = .ex c ns es := rfl
theorem q_toS_b : toS (R.bad : R α) k = .bad := rfl
theorem q_seq_n : seqT (.nx ρ) g = g ρ := rfl
theorem q_seq_r : seqT (.rt d) g = .rt d := rfl
theorem q_seq_x : seqT (.ex c ns es) g = .ex c ns es := rfl
theorem q_seq_b : seqT .bad g = .bad := rfl
theorem q_turn_n : turnT (.nx ρ) g = g ρ := rfl
theorem q_turn_c : turnT (.ct ρ) g = g ρ := rfl
theorem q_turn_k : turnT (.bk ρ) g = .nx ρ := rfl
theorem q_turn_r : turnT (.rt d) g = .rt d := rfl
theorem q_turn_b : turnT .bad g = .bad := rfl
theorem q_turn_x : turnT (.ex c ns es) g = .ex c ns es := rfl
theorem q_fin_r : finT (.rt d) = .ok d := rfl
theorem q_fin_n : finT (.nx ρ) = .ok .non := rfl
theorem q_fin_x : finT (.ex c ns es) = .ex c ns es := rfl
theorem q_noEx_k : noEx (R.ok a) = .ok a := rfl
theorem q_okO_k : okO (R.ok a) = some a := rfl
theorem q_ofO_s : ofO (some a) = .ok a := rfl
theorem q_sSeq_a : sSeq g u ρ = seqT (g ρ) u := rfl
theorem q_sNil_a : sNil ρ = .nx ρ := rfl
theorem q_sRet_a : sRet f ρ = toS (f ρ) .rt := rfl
theorem q_sExpr_a : sExpr f ρ = toS (f ρ) fun _ => .nx ρ := rfl
theorem q_sSet_a : sSet n f ρ = toS (f ρ) fun d => if n < ρ.length then .nx (ρ.set n (.sh d)) else .bad := rfl
theorem q_sIf_a : sIf fc g u ρ = toS (fc ρ) fun k => if k = true then g ρ else u ρ := rfl
theorem q_dC_a : dC d ρ = .ok d := rfl
theorem q_d1_a : d1 g1 f ρ = (f ρ).bind g1 := rfl
theorem q_d2_a : d2 gd fa fb ρ = (fa ρ).bind fun x => (fb ρ).bind fun y => gd x y := rfl
theorem q_b1B_a : b1 P2.tB f ρ = (f ρ).bind P2.tB := rfl
theorem q_b1T_a : b1 tT f ρ = (f ρ).bind tT := rfl
theorem q_bAnd_a : bAnd fc fd ρ = (fc ρ).bind fun c => if c = true then fd ρ else .ok false := rfl
theorem q_bOr_a : bOr fc fd ρ = (fc ρ).bind fun c => if c = true then .ok true else fd ρ := rfl
theorem q_bNot_a : bNot fc ρ = (fc ρ).bind fun c => .ok (!c) := rfl
theorem q_dAnd_a : dAnd fa fb ρ = ((fa ρ).bind P2.tB).bind fun c => if c = true then fb ρ else .ok (.bl false) := rfl
theorem q_dOr_a : dOr fa fb ρ = ((fa ρ).bind P2.tB).bind fun c => if c = true then .ok (.bl true) else fb ρ := rfl
theorem q_dNot_a : dNot fa ρ = ((fa ρ).bind P2.tB).bind fun c => .ok (.bl (!c)) := rfl
theorem q_dIf_a : dIf fc fa fb ρ = (fc ρ).bind fun k => if k = true then fa ρ else fb ρ := rfl
theorem q_dA_a : dA gl fs ρ = (fs ρ).bind gl := rfl
theorem q_aNil_a : aNil ρ = .ok [] := rfl
theorem q_aCons_a : aCons f fs ρ = (f ρ).bind fun x => (fs ρ).bind fun xs => .ok (x :: xs) := rfl
theorem q_asN_a : asN fs ρ = (fs ρ).bind fun ds => .ok (.lst ds) := rfl
theorem q_dMt_a : dMt t gt f fs ρ = (f ρ).bind fun x => if hasT t x = true then (fs ρ).bind fun xs => gt x xs else .bad := rfl
theorem q_dSl_a : dSl g3 f fl fu ρ = (f ρ).bind fun x => (fl ρ).bind fun i => (fu ρ).bind fun j => g3 x i j := rfl
theorem q_dComp_a : dComp fs n cs ga fc f ρ = (fs ρ).bind fun ds => if ds.length ≤ sizeLine then ofO (compO ga fc f (capD n cs ρ) ds) else .bad := rfl
theorem q_sFor_a : sFor fs ga g ρ = toS (fs ρ) fun ds => forD ga g ds ρ := rfl
theorem q_forD_c : forD ga g (d :: ds) ρ = toO (ga d ρ) fun ρ1 => turnT (g ρ1) (forD ga g ds) := rfl
theorem q_toO_s : toO (some a) k = k a := rfl
theorem q_gV_a : gV n d ρ = if n < ρ.length then some (ρ.set n (.sh d)) else none := rfl
theorem q_tB_b : P2.tB (.bl b) = .ok b := rfl
theorem q_tT_b : tT (.bl b) = .ok b := rfl
theorem q_tT_i : tT (.int i) = .ok (i != 0) := rfl
theorem q_tT_n : tT .non = .ok false := rfl
theorem q_tT_l : tT (.lst ds) = .ok (!ds.isEmpty) := rfl
theorem q_tT_t : tT (.tup ds) = .ok (!ds.isEmpty) := rfl
theorem q_add_i : addD (.int i) (.int j) = .ok (.int (i + j)) := rfl
theorem q_add_s : addD (.str x) (.str y) = if x.length + y.length ≤ sizeLine then .ok (.str (x ++ y)) else .bad := rfl
theorem q_add_l : addD (.lst ds) (.lst ds2) = if ds.length + ds2.length ≤ sizeLine then .ok (.lst (ds ++ ds2)) else .bad := rfl
theorem q_sub_i : subD (.int i) (.int j) = .ok (.int (i - j)) := rfl
theorem q_fdiv_i : fdivD (.int i) (.int j) = if okDiv i j = true then .ok (.int (i.fdiv j)) else .bad := rfl
theorem q_mod_i : modD (.int i) (.int j) = if decide (j ≠ 0) = true then .ok (.int (i.fmod j)) else .bad := rfl
theorem q_lt_i : P2.ltD (.int i) (.int j) = .ok (.bl (decide (i < j))) := rfl
theorem q_le_i : leD (.int i) (.int j) = .ok (.bl (decide (i ≤ j))) := rfl
theorem q_gt_i : gtD (.int i) (.int j) = .ok (.bl (decide (j < i))) := rfl
theorem q_ge_i : geD (.int i) (.int j) = .ok (.bl (decide (j ≤ i))) := rfl
theorem q_neg_i : negD (.int i) = .ok (.int (-i)) := rfl
theorem q_eq_i : eqSD (.int i) (.int j) = .ok (.bl (decide (i = j))) := rfl
theorem q_eq_s : eqSD (.str x) (.str y) = .ok (.bl (decide (x = y))) := rfl
theorem q_eq_b : eqSD (.bl b) (.bl b2) = .ok (.bl (decide (b = b2))) := rfl
theorem q_ne_i : neSD (.int i) (.int j) = .ok (.bl (!decide (i = j))) := rfl
theorem q_ne_s : neSD (.str x) (.str y) = .ok (.bl (!decide (x = y))) := rfl
theorem q_in_s : inSD (.str x) (.str y) = .ok (.bl (Txt.contains y x)) := rfl
theorem q_ix_l : ixD (.lst ds) (.int i) = match L2.atI ds i with | some d => .ok d | none => .bad := rfl
theorem q_ix_t : ixD (.tup ds) (.int i) = match L2.atI ds i with | some d => .ok d | none => .bad := rfl
theorem q_ix_s : ixD (.str x) (.int i) = if x.length ≤ sizeLine then (match L2.atI x.cps.toList i with | some c => .ok (.str ⟨#[c]⟩) | none => .bad) else .bad := rfl
theorem q_sl_l : slD (.lst ds) lo hi = .ok (.lst (cutD ds lo hi)) := rfl
theorem q_sl_s : slD (.str x) lo hi = if x.length ≤ sizeLine then .ok (.str (Txt.slice x lo hi)) else .bad := rfl
theorem q_pI_i : pI (.int i) = .ok (some i) := rfl
theorem q_len_s : lenD [.str x] = if x.length ≤ sizeLine then .ok (.int x.length) else .bad := rfl
theorem q_len_l : lenD [.lst ds] = .ok (.int ds.length) := rfl
theorem q_len_t : lenD [.tup ds] = .ok (.int ds.length) := rfl
theorem q_abs_i : absD [.int i] = .ok (.int (if i < 0 then -i else i)) := rfl
theorem q_max_i : max2D [.int i, .int j] = .ok (.int (if j > i then j else i)) := rfl
theorem q_int_s : intD [.str x] = match PySem.intText? x with | some n => if x.length ≤ 640 then .ok (.int n) else .bad | none => .bad := rfl
theorem q_all_l : allD [.lst ds] = match boolsD ds with | some bs => .ok (.bl (bs.all id)) | none => .bad := rfl
theorem q_any_l : anyD [.lst ds] = match boolsD ds with | some bs => .ok (.bl (bs.any id)) | none => .bad := rfl
theorem q_st_s : startsD (.str x) [.str y] = .ok (.bl (Txt.startswith x y)) := rfl
theorem q_zf_s : zfillD (.str x) [.int i] = if PadOk i = true then .ok (.str (Txt.zfill x i)) else .bad := rfl
theorem q_hs_s : hasT "str" (.str x) = true := by rfl
theorem q_mkT_a : mkT ds = if ds.length ≤ sizeLine then .ok (.tup ds) else .bad := rfl
theorem q_fitL_a : fitL ds = if ds.length ≤ sizeLine then .ok ds else .bad := rfl
theorem q_asI_l : asI (.lst ds) = .ok ds := rfl
theorem q_asI_t : asI (.tup ds) = .ok ds := rfl
theorem q_asI_s : asI (.str x) = .ok (signs x) := rfl
theorem q_fmt_s : fmtD (.str x) = if x.length ≤ sizeLine then .ok (.str x) else .bad := rfl
theorem q_jNil_a : jNil x ρ = if x.length ≤ sizeLine then .ok (.str x) else .bad := rfl
theorem q_jCons_k : jCons f fj x ρ = (f ρ).bind fun z => match z with | .str y => if (x ++ y).length ≤ sizeLine then fj (x ++ y) ρ else .bad | _ => .bad := rfl
theorem q_v0 {r : Ev} : dV 0 (.sh d :: r) = .ok d := rfl
theorem q_v1 {s0 : Sl} {r : Ev} : dV 1 (s0 :: .sh d :: r) = .ok d := rfl
theorem q_v2 {s0 s1 : Sl} {r : Ev} : dV 2 (s0 :: s1 :: .sh d :: r) = .ok d := rfl
theorem q_v3 {s0 s1 s2 : Sl} {r : Ev} : dV 3 (s0 :: s1 :: s2 :: .sh d :: r) = .ok d := rfl
theorem q_v4 {s0 s1 s2 s3 : Sl} {r : Ev} : dV 4 (s0 :: s1 :: s2 :: s3 :: .sh d :: r) = .ok d := rfl
theorem q_v5 {s0 s1 s2 s3 s4 : Sl} {r : Ev} : dV 5 (s0 :: s1 :: s2 :: s3 :: s4 :: .sh d :: r) = .ok d := rfl
theorem q_v6 {s0 s1 s2 s3 s4 s5 : Sl} {r : Ev} : dV 6 (s0 :: s1 :: s2 :: s3 :: s4 :: s5 :: .sh d :: r) = .ok d := rfl
theorem q_v7 {s0 s1 s2 s3 s4 s5 s6 : Sl} {r : Ev} : dV 7 (s0 :: s1 :: s2 :: s3 :: s4 :: s5 :: s6 :: .sh d :: r) = .ok d := rfl
theorem q_v8 {s0 s1 s2 s3 s4 s5 s6 s7 : Sl} {r : Ev} : dV 8 (s0 :: s1 :: s2 :: s3 :: s4 :: s5 :: s6 :: s7 :: .sh d :: r) = .ok d := rfl
theorem q_v9 {s0 s1 s2 s3 s4 s5 s6 s7 s8 : Sl} {r : Ev} : dV 9 (s0 :: s1 :: s2 :: s3 :: s4 :: s5 :: s6 :: s7 :: s8 :: .sh d :: r) = .ok d := rfl
theorem q_v10 {s0 s1 s2 s3 s4 s5 s6 s7 s8 s9 : Sl} {r : Ev} : dV 10 (s0 :: s1 :: s2 :: s3 :: s4 :: s5 :: s6 :: s7 :: s8 :: s9 :: .sh d :: r) = .ok d := rfl
theorem q_v11 {s0 s1 s2 s3 s4 s5 s6 s7 s8 s9 s10 : Sl} {r : Ev} : dV 11 (s0 :: s1 :: s2 :: s3 :: s4 :: s5 :: s6 :: s7 :: s8 :: s9 :: s10 :: .sh d :: r) = .ok d := rfl
theorem q_v12 {s0 s1 s2 s3 s4 s5 s6 s7 s8 s9 s10 s11 : Sl} {r : Ev} : dV 12 (s0 :: s1 :: s2 :: s3 :: s4 :: s5 :: s6 :: s7 :: s8 :: s9 :: s10 :: s11 :: .sh d :: r) = .ok d := rfl
theorem q_v13 {s0 s1 s2 s3 s4 s5 s6 s7 s8 s9 s10 s11 s12 : Sl} {r : Ev} : dV 13 (s0 :: s1 :: s2 :: s3 :: s4 :: s5 :: s6 :: s7 :: s8 :: s9 :: s10 :: s11 :: s12 :: .sh d :: r) = .ok d := rfl
theorem q_mod_p (hj : 0 < j) : modD (.int i) (.int j) = .ok (.int (i % j)) := by
  rw [q_mod_i, if_pos (by simp; omega), Int.fmod_eq_emod_of_nonneg _ (by omega)]
theorem q_fdiv_p (hj : 0 < j) (h2 : j < 18446744073709551616) : fdivD (.int i) (.int j) = .ok (.int (i / j)) := by
  have hb : bits j ≤ 64 := bits_le (by omega)
  rw [q_fdiv_i, if_pos (by unfold okDiv; simp only [Bool.and_eq_true, decide_eq_true_eq]; omega), Int.fdiv_eq_ediv_of_nonneg _ (by omega)]
theorem q_add_sp {x y : Str} (h1 : x.length ≤ 1000) (h2 : y.length ≤ 1000) : addD (.str x) (.str y) = .ok (.str (x ++ y)) := by
  rw [q_add_s, if_pos (Nat.le_trans (Nat.add_le_add h1 h2) (by decide))]
theorem q_add_lp {x y : List D} (h1 : x.length ≤ 1000) (h2 : y.length ≤ 1000) : addD (.lst x) (.lst y) = .ok (.lst (x ++ y)) := by
  rw [q_add_l, if_pos (Nat.le_trans (Nat.add_le_add h1 h2) (by decide))]
theorem q_fit_p {x : List D} (h1 : x.length ≤ 1000) : fitL x = .ok x := by
  rw [q_fitL_a, if_pos (Nat.le_trans h1 (by decide))]
theorem q_mkT_p {x : List D} (h1 : x.length ≤ 1000) : mkT x = .ok (.tup x) := by
  rw [q_mkT_a, if_pos (Nat.le_trans h1 (by decide))]
end
end P2
namespace P2
open PySem L2 PySem.Spec
open PyProof.Rows hiding St
section
variable {X : Cx} {E : XK}
noncomputable def okMulU (i j : Int) : Bool := okMul i j || okMul64 i j
noncomputable def mulUD : D → D → R D
  | .int i, .int j => if okMulU i j = true then .ok (.int (i * j)) else .bad
  | .str x, .int n => if okMulS x n = true then .ok (.str (Txt.mul x n)) else .bad
  | _, _ => .bad
theorem op_mulUD : OpD X E (binaryOp .Mult) mulUD := by
  refine ⟨_, opr_or (opr_or op_mul op_mulB) op_mul_str, fun al H x y dx dy Q fr rx ry h => ?_⟩
  unfold mulUD at h
  split at h
  · cases rx; cases ry
    split at h
    · rename_i z
      unfold okMulU at z
      rw [Bool.or_eq_true] at z
      rcases z with z | z
      · unfold okMul at z
        simp only [Bool.and_eq_true, decide_eq_true_eq] at z
        exact .inl (.inr ⟨_, _, rfl, rfl, z, h H (.refl H) _ (.int _)⟩)
      · refine .inl (.inl ⟨_, _, rfl, rfl, ?_, h H (.refl H) _ (.int _)⟩)
        unfold okMul64 at z
        simp only [Bool.or_eq_true, Bool.and_eq_true, decide_eq_true_eq] at z
        exact z
    · exact h.elim
  · cases rx; cases ry
    split at h
    · rename_i z; exact .inr ⟨_, _, rfl, rfl, mulOk_of z, h H (.refl H) _ (.str _)⟩
    · exact h.elim
  · exact h.elim
end
theorem p400 : (10 : Nat) ^ 400 < 2 ^ 1500 := by decide +kernel
theorem bits400 {i : Int} (h : i.natAbs < 10 ^ 400) : bits i ≤ 1500 := bits_le (Nat.lt_trans h p400)
theorem q_mulU {i j : Int} (hi : i.natAbs < 10 ^ 400) (hj : j.natAbs < 10 ^ 400) : mulUD (.int i) (.int j) = .ok (.int (i * j)) := by
  have h1 := bits400 hi
  have h2 := bits400 hj
  show (if okMulU i j = true then R.ok (D.int (i * j)) else .bad) = _
  rw [if_pos (by unfold okMulU okMul; simp only [Bool.or_eq_true, Bool.and_eq_true, decide_eq_true_eq]; left; omega)]
theorem q_mulU_r {i j : Int} (h1 : -18446744073709551616 < j) (h2 : j < 18446744073709551616) : mulUD (.int i) (.int j) = .ok (.int (i * j)) := by
  show (if okMulU i j = true then R.ok (D.int (i * j)) else .bad) = _
  rw [if_pos (by unfold okMulU okMul64; simp only [Bool.or_eq_true, Bool.and_eq_true, decide_eq_true_eq]; right; right; exact ⟨h1, h2⟩)]
theorem q_mulU_l {i j : Int} (h1 : -18446744073709551616 < i) (h2 : i < 18446744073709551616) : mulUD (.int i) (.int j) = .ok (.int (i * j)) := by
  show (if okMulU i j = true then R.ok (D.int (i * j)) else .bad) = _
  rw [if_pos (by unfold okMulU okMul64; simp only [Bool.or_eq_true, Bool.and_eq_true, decide_eq_true_eq]; right; left; exact ⟨h1, h2⟩)]
theorem q_fdivU {i j : Int} (hj : j ≠ 0) (h2 : j.natAbs < 10 ^ 400) : fdivD (.int i) (.int j) = .ok (.int (i.fdiv j)) := by
  have hb := bits400 h2
  rw [q_fdiv_i, if_pos (by unfold okDiv; simp only [Bool.and_eq_true, decide_eq_true_eq]; omega)]
theorem q_isX_i {q : Addr → Value → Option Bool} {i : Int} : isXD q [.int i, .ty "int"] = .ok (.bl true) := rfl
theorem q_isX_b {q : Addr → Value → Option Bool} {i : Int} : isXD q [.int i, .ty "bool"] = .ok (.bl false) := rfl
theorem q_isX_s {q : Addr → Value → Option Bool} {x : Str} : isXD q [.str x, .ty "str"] = .ok (.bl true) := rfl
theorem q_isX_t {q : Addr → Value → Option Bool} {ds : List D} : isXD q [.tup ds, .ty "tuple"] = .ok (.bl true) := rfl
theorem q_isX_l {q : Addr → Value → Option Bool} {ds : List D} : isXD q [.lst ds, .ty "list"] = .ok (.bl true) := rfl
theorem q_slW_l {ds : List D} {lo hi : Option Int} : slWD (.lst ds) lo hi = .ok (.lst (cutD ds lo hi)) := rfl
theorem q_slW_s {x : Str} {lo hi : Option Int} : slWD (.str x) lo hi = if x.length ≤ sizeLine then .ok (.str (Txt.slice x lo hi)) else .bad := rfl
theorem q_is_bb {a b : Bool} : isD2 (.bl a) (.bl b) = .ok (.bl (a == b)) := rfl
theorem q_isn_bb {a b : Bool} : isnD2 (.bl a) (.bl b) = .ok (.bl (!(a == b))) := rfl
theorem q_is_nn : isD2 .non .non = .ok (.bl true) := rfl
theorem q_isn_nn : isnD2 .non .non = .ok (.bl false) := rfl
theorem q_is_tn {ds : List D} : isD2 (.tup ds) .non = .ok (.bl false) := rfl
theorem q_isn_tn {ds : List D} : isnD2 (.tup ds) .non = .ok (.bl true) := rfl
theorem q_whileD {c : Ev → R Bool} {b : Ev → RT} {n : Nat} {ρ : Ev} : whileD c b (n + 1) ρ = toS (c ρ) fun k => if k = true then turnT (b ρ) (whileD c b n) else .nx ρ := rfl
end P2
namespace P2
open PySem L2 PySem.Spec
open PyProof.Rows hiding St
theorem sq_same {K : PySem.W.Frag} {H H' : Hp} {l : Addr} {vs : List V} (h : SqL K H l vs) (s : Same K H H') : SqL K H' l vs := by
  rcases h with (h | ⟨o, h⟩) | h
  · exact .inl (.inl (s.at' _ _ nt_lst h))
  · exact .inl (.inr ⟨o, s.at' _ _ nt_frz h⟩)
  · exact .inr h
theorem kx_max_args (a v d : Value) : argsOk "max" ⟨[a], [(Str.ofString "key", v), (Str.ofString "default", d)]⟩ := by unfold argsOk; kernel_rfl
section
variable {X : Cx} {σ : L2.St} {pins : List (Addr × Obj)} {f l it S : Addr} {dv : Value} {vs : List V} {H0 : Hp} {R : Result → Shared → Prop}
theorem kx_max_loop (kf : Nat → Int) (hc : X.calm = true) (hlI : l ≠ it) (hSI : S ≠ it) (hl : SqL X.K H0 l vs)
    (turn : ∀ (i : Nat) (v : V) (u : Value) (pins' : List (Addr × Obj)) (s : Shared) (H : Hp), vs[i]? = some v → RelV v u → Same X.K H0 H → Inv X pins' σ H s →
      wpAny (model X.prog X.w) X.A.in1 (call (.ref f) [u]) (fun r s' => ∃ t H', r = .int (kf i) t ∧ Same X.K H H' ∧ Inv X pins' σ H' s') (fun _ _ => False) s)
    (hR : ∀ (i : Nat) (v : V) (u : Value) (H : Hp) (s : Shared), vs[i]? = some v → RelV v u → (∀ j, j < vs.length → kf i ≥ kf j ∧ (j < i → kf i > kf j)) → Same X.K H0 H → Inv X pins σ H s → R (.ok (.ret u)) s) :
    ∀ (r j i : Nat) (s : Shared) (H : Hp) (vi : V) (vb : Value) (tb : Tok) (c : Nat), vs.length - (j + 1) = r → j + 1 ≤ vs.length → Same X.K H0 H → Inv X pins σ H s → FpOk X pins H S → FpOk X pins H it →
      s.heap.get? S = some (seqObj "list" #[vb, .int (kf i) tb] c) → s.heap.IsListIter it l (j + 1) → vs[i]? = some vi → RelV vi vb → i ≤ j → (∀ j', j' ≤ j → kf i ≥ kf j' ∧ (j' < i → kf i > kf j')) →
      codeAny (model X.prog X.w) X.A (.builtin "max.loop" ⟨[.ref it, .ref f, .ref S], [(Str.ofString "default", dv)]⟩) R s := by
  have hname : (toString "max" ++ toString ".loop" : String) = "max.loop" := by decide
  intro r
  induction r with
  | zero =>
    intro j i s H vi vb tb c hr hj sm I0 fS fI hS hit hvi rvi hij hbest
    have hin : j + 1 = vs.length := by omega
    obtain ⟨its, rv, pl, _⟩ := I0.list (sq_same hl sm)
    have hil := pl.isList
    have hle := rv.length
    have hsz : its.toArray.size = its.length := List.size_toArray ..
    have W := Walks.list (prog := X.prog) (w := X.w) (A := X.A.in1) (I0.ok.hd hc) it l hlI its.toArray
    refine codeAny_builtin PySem.F.entry_max_loop ?_
    rw [Around.under_plainId PySem.F.plain_max_loop _]
    show wpAny _ X.A.in1 (seqItems? (.ref S) >>= _) _ _ _
    refine wpAny_bind (wpAny_seqItems hS rfl ?_)
    show wpAny _ X.A.in1 (tryCatch (pyNext (.ref it)) _ >>= _) _ _ _
    refine wpAny_bind (wpAny_tryCatch (W.done _ _ _ ⟨by rw [hsz, ← hle, ← hin]; exact hit, hil⟩ fun h' tk' hk' => ?_))
    have I1 : Inv X pins σ H { s with heap := h', toks := tk' } := I0.turned (t' := tk') (fun b o hb e => hk' b o (by simpa using hb) e) fI.1 fI.2.1 fI.2.2.2.1 fI.2.2.2.2.1 fI.2.2.2.2.2
    have hS' := hk' S _ (by simpa using hSI) hS
    have s1 := Heap.SameBut.update h' S (Obj.mapSeq fun _ => (#[] : Array Value))
    show wpAny _ X.A.in1 (updateSeq S (fun _ => #[]) >>= _) _ _ _
    refine wpAny_bind ?_
    refine wpAny_updateSeq hS' rfl (wpAny_bind (wpAny_letGo (wpAny_pure ?_)))
    exact hR i vi vb H _ hvi rvi (fun j' hj' => hbest j' (by omega)) sm (I1.turned (t' := tk') (fun b o hb e => (s1.2 b hb).trans e) fS.1 fS.2.1 fS.2.2.2.1 fS.2.2.2.2.1 fS.2.2.2.2.2)
  | succ r ih =>
    intro j i s H vi vb tb c hr hj sm I0 fS fI hS hit hvi rvi hij hbest
    have hlt : j + 1 < vs.length := by omega
    obtain ⟨its, rv, pl, _⟩ := I0.list (sq_same hl sm)
    have hil := pl.isList
    have hle := rv.length
    have hsz : its.toArray.size = its.length := List.size_toArray ..
    have W := Walks.list (prog := X.prog) (w := X.w) (A := X.A.in1) (I0.ok.hd hc) it l hlI its.toArray
    refine codeAny_builtin PySem.F.entry_max_loop ?_
    rw [Around.under_plainId PySem.F.plain_max_loop _]
    show wpAny _ X.A.in1 (seqItems? (.ref S) >>= _) _ _ _
    refine wpAny_bind (wpAny_seqItems hS rfl ?_)
    show wpAny _ X.A.in1 (tryCatch (pyNext (.ref it)) _ >>= _) _ _ _
    refine wpAny_bind (wpAny_tryCatch (W.item (j + 1) _ _ _ (by rw [hsz]; omega) ⟨hit, hil⟩ fun v h' tk' hP hst' hk' => ?_))
    have hv : its[j + 1]? = some v := by simpa using hP
    obtain ⟨u0, e0, rx⟩ := rv.get (List.getElem?_eq_getElem hlt)
    rw [hv] at e0; cases e0
    have hx : vs[j + 1]? = some vs[j + 1] := List.getElem?_eq_getElem hlt
    have I1 : Inv X pins σ H { s with heap := h', toks := tk' } := I0.turned (t' := tk') (fun b o hb e => hk' b o (by simpa using hb) e) fI.1 fI.2.1 fI.2.2.2.1 fI.2.2.2.2.1 fI.2.2.2.2.2
    have hS1 := hk' S _ (by simpa using hSI) hS
    obtain ⟨oI, hoI, hoc, hod⟩ := id hst'.1
    have I2 := I1.pinned (fp := [S, it]) (fun b hb => by
      simp only [List.mem_cons, List.not_mem_nil, or_false] at hb
      rcases hb with rfl | rfl
      · exact fS
      · exact fI) (fun b hb => by
      simp only [List.mem_cons, List.not_mem_nil, or_false] at hb
      rcases hb with rfl | rfl
      · exact ⟨_, hS1, fun v z => nomatch z⟩
      · exact ⟨oI, hoI, fun v z => by rw [hod] at z; cases z⟩)
    show wpAny _ X.A.in1 (tryCatch (holding [v] (call (.ref f) [v])) _ >>= _) _ _ _
    refine wpAny_bind (wpAny_tryCatch (wpAny_holding (wpAny_mono (turn (j + 1) _ v _ _ H hx rx sm I2) (fun x s2 he => ?_) fun _ _ hF => hF.elim)))
    obtain ⟨t2, H2, rfl, sm2, I3⟩ := he
    have pS := I3.pin (S, _) (List.mem_append_right _ (List.mem_append_right _ (mem_pinsAt (by simp) hS1)))
    have pI := I3.pin (it, oI) (List.mem_append_right _ (List.mem_append_right _ (mem_pinsAt (by simp) hoI)))
    have I4 := I3.unpinned
    have fS2 : FpOk X pins H2 S := ⟨pS.2.1, fS.2⟩
    have fI2 : FpOk X pins H2 it := ⟨pI.2.1, fI.2⟩
    have hS2 := pS.1
    have hit2 : s2.heap.IsListIter it l (j + 1 + 1) := ⟨oI, pI.1, hoc, hod⟩
    show wpAny _ X.A.in1 (tryCatch (holding [v, .int (kf (j + 1)) t2] (richCompare .Gt (.int (kf (j + 1)) t2) (.int (kf i) tb) >>= _)) _ >>= _) _ _ _
    refine wpAny_bind (wpAny_tryCatch (wpAny_holding (wpAny_bind (CmpOf.ints_gt (prog := X.prog) (w := X.w) (A := X.A.in1) (P := fun i v => ∃ t, v = .int (kf i) t) kf (fun i v h => h) (j + 1) i _ _ _ _ _ ⟨t2, rfl⟩ ⟨tb, rfl⟩ ?_))))
    refine wpAny_bind (wpAny_holding (wpAny_truthy_bool ?_))
    refine wpAny_bind (wpAny_letGo (wpAny_pure ?_))
    by_cases hb' : kf (j + 1) > kf i
    ·
      have s1 := Heap.SameBut.update s2.heap S (Obj.mapSeq fun _ => #[v, .int (kf (j + 1)) t2])
      obtain ⟨c2, hc2⟩ : ∃ c2, (s2.heap.update S (Obj.mapSeq fun _ => #[v, .int (kf (j + 1)) t2])).get? S = some (seqObj "list" #[v, .int (kf (j + 1)) t2] c2) := ⟨_, get?_update_seq hS2 fun _ => #[v, .int (kf (j + 1)) t2]⟩
      simp only [hb', decide_true, if_true]
      refine wpAny_bind ?_
      refine wpAny_updateSeq hS2 rfl (wpAny_bind (wpAny_letGo ?_))
      rw [hname]
      refine wpAny_pure ⟨plainId_quiet PySem.F.plain_max_loop _, ih (j + 1) (j + 1) _ H2 _ v t2 c2 (by omega) hlt (sm.trans sm2) (I4.turned (t' := s2.toks) (fun b o hb e => (s1.2 b hb).trans e) fS2.1 fS2.2.1 fS2.2.2.2.1 fS2.2.2.2.2.1 fS2.2.2.2.2.2) fS2 fI2 hc2 ⟨oI, (s1.2 it hSI.symm).trans pI.1, hoc, hod⟩ hx rx (Nat.le_refl _) fun j' hj' => ?_⟩
      by_cases e : j' = j + 1
      · subst e
        exact ⟨by omega, fun _ => by omega⟩
      · have hb1 := hbest j' (by omega)
        have hb2 := hb1.1
        exact ⟨by omega, fun _ => by omega⟩
    ·
      simp only [hb', decide_false, Bool.false_eq_true, if_false]
      refine wpAny_bind (wpAny_letGo ?_)
      rw [hname]
      refine wpAny_pure ⟨plainId_quiet PySem.F.plain_max_loop _, ih (j + 1) i _ H2 vi vb tb c (by omega) hlt (sm.trans sm2) I4 fS2 fI2 hS2 hit2 hvi rvi (by omega) fun j' hj' => ?_⟩
      by_cases e : j' = j + 1
      · subst e
        exact ⟨by omega, fun _ => by omega⟩
      · exact hbest j' (by omega)
theorem kx_max {Q : Value → Shared → Prop} {E : Value → Shared → Prop} {s : Shared} (kf : Nat → Int) (hc : X.calm = true) (hl : SqL X.K H0 l vs) (I0 : Inv X pins σ H0 s)
    (turn : ∀ (i : Nat) (v : V) (u : Value) (pins' : List (Addr × Obj)) (s : Shared) (H : Hp), vs[i]? = some v → RelV v u → Same X.K H0 H → Inv X pins' σ H s →
      wpAny (model X.prog X.w) X.A.in1 (call (.ref f) [u]) (fun r s' => ∃ t H', r = .int (kf i) t ∧ Same X.K H H' ∧ Inv X pins' σ H' s') (fun _ _ => False) s)
    (hQ : ∀ (i : Nat) (v : V) (u : Value) (H : Hp) (s : Shared), vs[i]? = some v → RelV v u → (∀ j, j < vs.length → kf i ≥ kf j ∧ (j < i → kf i > kf j)) → Same X.K H0 H → Inv X pins σ H s → Q u s)
    (hD : vs = [] → ∀ s', Inv X pins σ H0 s' → Q dv s') :
    wpAny (model X.prog X.w) X.A (call (.builtin "max") [.ref l] [(Str.ofString "key", .ref f), (Str.ofString "default", dv)]) Q E s := by
  have hname : (toString "max" ++ toString ".loop" : String) = "max.loop" := by decide
  obtain ⟨its, rv, pl, _⟩ := I0.list hl
  have hil := pl.isList
  have hle := rv.length
  have hsz : its.toArray.size = its.length := List.size_toArray ..
  obtain ⟨ol, hol, _⟩ := id hil
  have hll : l < s.heap.objs.size := Heap.lt_size hol
  refine kmk_tree PySem.F.kind_max PySem.F.plain_max PySem.F.entry_max (kx_max_args _ _ _) ?_
  show wpAny _ X.A.in1 (Builtin.Builtins.bindParams "max" ["key", "default"] 0 ⟨[], [(Str.ofString "key", .ref f), (Str.ofString "default", dv)]⟩ >>= _) _ _ s
  refine wpAny_bind (wpAny_of_eq (show Builtin.Builtins.bindParams "max" ["key", "default"] 0 ⟨[], [(Str.ofString "key", .ref f), (Str.ofString "default", dv)]⟩ = pure [some (.ref f), some dv] from rfl) ?_)
  refine wpAny_bind (wpAny_pure ?_)
  refine wpAny_bind (wpAny_pyIter_list hil ?_)
  refine wpAny_bind (wpAny_newList ?_ (Nat.zero_le _))
  rw [hname]
  have hS : (s.heap.push { cls := .type "list_iterator", data := .fields #[.ref l, .int 0 0] }).objs.size = s.heap.objs.size + 1 := size_push' ..
  have hlI : l ≠ s.heap.objs.size := Nat.ne_of_lt hll
  have hSI : (s.heap.push { cls := .type "list_iterator", data := .fields #[.ref l, .int 0 0] }).objs.size ≠ s.heap.objs.size := by rw [hS]; exact Nat.ne_of_gt (Nat.lt_succ_self _)
  refine wpAny_pure ⟨plainId_quiet PySem.F.plain_max_loop _, ?_⟩
  have gI : ((s.heap.push { cls := .type "list_iterator", data := .fields #[.ref l, .int 0 0] }).push (seqObj "list" #[] 0)).get? s.heap.objs.size = some { cls := .type "list_iterator", data := .fields #[.ref l, .int 0 0] } :=
    Heap.get?_push_of_some _ (Heap.get?_push_size _ rfl)
  have gS : ((s.heap.push { cls := .type "list_iterator", data := .fields #[.ref l, .int 0 0] }).push (seqObj "list" #[] 0)).get? (s.heap.push { cls := .type "list_iterator", data := .fields #[.ref l, .int 0 0] }).objs.size = some (seqObj "list" #[] 0) := Heap.get?_push_size _ rfl
  have fI : FpOk X pins H0 s.heap.objs.size := I0.fpOk (Nat.le_refl _) (I0.hok.fresh (Nat.le_refl _))
  have fS : FpOk X pins H0 (s.heap.push { cls := .type "list_iterator", data := .fields #[.ref l, .int 0 0] }).objs.size := I0.fpOk (by rw [hS]; exact Nat.le_succ _) (I0.hok.fresh (by rw [hS]; exact Nat.le_succ _))
  have IH : Inv X pins σ H0 { s with heap := (s.heap.push { cls := .type "list_iterator", data := .fields #[.ref l, .int 0 0] }).push (seqObj "list" #[] 0) } := I0.kept (t' := s.toks) fun b o e => Heap.get?_push_of_some _ (Heap.get?_push_of_some _ e)
  have hilH : ((s.heap.push { cls := .type "list_iterator", data := .fields #[.ref l, .int 0 0] }).push (seqObj "list" #[] 0)).IsList l its.toArray := hil.at fun o e => Heap.get?_push_of_some _ (Heap.get?_push_of_some _ e)
  generalize hit : s.heap.objs.size = it at *
  generalize hSS : (s.heap.push { cls := .type "list_iterator", data := .fields #[.ref l, .int 0 0] }).objs.size = S at *
  generalize hHH : (s.heap.push { cls := .type "list_iterator", data := .fields #[.ref l, .int 0 0] }).push (seqObj "list" #[] 0) = hh at *
  have W := Walks.list (prog := X.prog) (w := X.w) (A := X.A.in1) (I0.ok.hd hc) it l hlI its.toArray
  by_cases hne : 0 < vs.length
  · refine codeAny_builtin PySem.F.entry_max_loop ?_
    rw [Around.under_plainId PySem.F.plain_max_loop _]
    show wpAny _ X.A.in1 (seqItems? (.ref S) >>= _) _ _ _
    refine wpAny_bind (wpAny_seqItems gS rfl ?_)
    show wpAny _ X.A.in1 (tryCatch (pyNext (.ref it)) _ >>= _) _ _ _
    refine wpAny_bind (wpAny_tryCatch (W.item 0 _ _ _ (by rw [hsz]; omega) ⟨⟨_, gI, rfl, rfl⟩, hilH⟩ fun v h' tk' hP hst' hk' => ?_))
    have hv : its[0]? = some v := by simpa using hP
    obtain ⟨u0, e0, rx⟩ := rv.get (List.getElem?_eq_getElem hne)
    rw [hv] at e0; cases e0
    have hx : vs[0]? = some vs[0] := List.getElem?_eq_getElem hne
    have I1 : Inv X pins σ H0 { s with heap := h', toks := tk' } := IH.turned (t' := tk') (fun b o hb e => hk' b o (by simpa using hb) e) fI.1 fI.2.1 fI.2.2.2.1 fI.2.2.2.2.1 fI.2.2.2.2.2
    have hS1 := hk' S _ (by simpa using hSI) gS
    obtain ⟨oI, hoI, hoc, hod⟩ := id hst'.1
    have I2 := I1.pinned (fp := [S, it]) (fun b hb => by
      simp only [List.mem_cons, List.not_mem_nil, or_false] at hb
      rcases hb with rfl | rfl
      · exact fS
      · exact fI) (fun b hb => by
      simp only [List.mem_cons, List.not_mem_nil, or_false] at hb
      rcases hb with rfl | rfl
      · exact ⟨_, hS1, fun v z => nomatch z⟩
      · exact ⟨oI, hoI, fun v z => by rw [hod] at z; cases z⟩)
    show wpAny _ X.A.in1 (tryCatch (holding [v] (call (.ref f) [v])) _ >>= _) _ _ _
    refine wpAny_bind (wpAny_tryCatch (wpAny_holding (wpAny_mono (turn 0 _ v _ _ H0 hx rx (.refl _) I2) (fun x s2 he => ?_) fun _ _ hF => hF.elim)))
    obtain ⟨t2, H2, rfl, sm2, I3⟩ := he
    have pS := I3.pin (S, _) (List.mem_append_right _ (List.mem_append_right _ (mem_pinsAt (by simp) hS1)))
    have pI := I3.pin (it, oI) (List.mem_append_right _ (List.mem_append_right _ (mem_pinsAt (by simp) hoI)))
    have I4 := I3.unpinned
    have fS2 : FpOk X pins H2 S := ⟨pS.2.1, fS.2⟩
    have fI2 : FpOk X pins H2 it := ⟨pI.2.1, fI.2⟩
    have hS2 := pS.1
    have s1 := Heap.SameBut.update s2.heap S (Obj.mapSeq fun _ => #[v, .int (kf 0) t2])
    obtain ⟨c2, hc2⟩ : ∃ c2, (s2.heap.update S (Obj.mapSeq fun _ => #[v, .int (kf 0) t2])).get? S = some (seqObj "list" #[v, .int (kf 0) t2] c2) := ⟨_, get?_update_seq hS2 fun _ => #[v, .int (kf 0) t2]⟩
    show wpAny _ X.A.in1 (updateSeq S (fun _ => #[v, .int (kf 0) t2]) >>= _) _ _ _
    refine wpAny_bind ?_
    refine wpAny_updateSeq hS2 rfl ?_
    rw [hname]
    refine wpAny_pure ⟨plainId_quiet PySem.F.plain_max_loop _, kx_max_loop kf hc hlI hSI hl turn (fun i v u H s h1 h2 h3 h4 h5 => hQ i v u H s h1 h2 h3 h4 h5) _ 0 0 _ H2 _ v t2 c2 rfl hne sm2 (I4.turned (t' := s2.toks) (fun b o hb e => (s1.2 b hb).trans e) fS2.1 fS2.2.1 fS2.2.2.2.1 fS2.2.2.2.2.1 fS2.2.2.2.2.2) fS2 fI2 hc2 ⟨oI, (s1.2 it hSI.symm).trans pI.1, hoc, hod⟩ hx rx (Nat.le_refl _) fun j' hj' => ?_⟩
    have e : j' = 0 := by omega
    subst e
    exact ⟨by omega, fun h => absurd h (Nat.lt_irrefl _)⟩
  · have hv0 : vs = [] := List.length_eq_zero_iff.mp (by omega)
    refine codeAny_builtin PySem.F.entry_max_loop ?_
    rw [Around.under_plainId PySem.F.plain_max_loop _]
    show wpAny _ X.A.in1 (seqItems? (.ref S) >>= _) _ _ _
    refine wpAny_bind (wpAny_seqItems gS rfl ?_)
    show wpAny _ X.A.in1 (tryCatch (pyNext (.ref it)) _ >>= _) _ _ _
    have e0 : its.toArray.size = 0 := by rw [hsz, ← hle, hv0]; rfl
    refine wpAny_bind (wpAny_tryCatch (W.done _ _ _ ⟨by rw [e0]; exact ⟨_, gI, rfl, rfl⟩, hilH⟩ fun h' tk' hk' => ?_))
    have I1 : Inv X pins σ H0 { s with heap := h', toks := tk' } := IH.turned (t' := tk') (fun b o hb e => hk' b o (by simpa using hb) e) fI.1 fI.2.1 fI.2.2.2.1 fI.2.2.2.2.1 fI.2.2.2.2.2
    show wpAny _ X.A.in1 (rule _ >>= _) _ _ _
    exact wpAny_bind (wpAny_rule (wpAny_pure (hD hv0 _ I1)))
end
theorem kx_min_args (a v d : Value) : argsOk "min" ⟨[a], [(Str.ofString "key", v), (Str.ofString "default", d)]⟩ := by unfold argsOk; kernel_rfl
section
variable {X : Cx} {σ : L2.St} {pins : List (Addr × Obj)} {f l it S : Addr} {dv : Value} {vs : List V} {H0 : Hp} {R : Result → Shared → Prop}
theorem kx_min_loop (kf : Nat → Int) (hc : X.calm = true) (hlI : l ≠ it) (hSI : S ≠ it) (hl : SqL X.K H0 l vs)
    (turn : ∀ (i : Nat) (v : V) (u : Value) (pins' : List (Addr × Obj)) (s : Shared) (H : Hp), vs[i]? = some v → RelV v u → Same X.K H0 H → Inv X pins' σ H s →
      wpAny (model X.prog X.w) X.A.in1 (call (.ref f) [u]) (fun r s' => ∃ t H', r = .int (kf i) t ∧ Same X.K H H' ∧ Inv X pins' σ H' s') (fun _ _ => False) s)
    (hR : ∀ (i : Nat) (v : V) (u : Value) (H : Hp) (s : Shared), vs[i]? = some v → RelV v u → (∀ j, j < vs.length → kf i ≤ kf j ∧ (j < i → kf i < kf j)) → Same X.K H0 H → Inv X pins σ H s → R (.ok (.ret u)) s) :
    ∀ (r j i : Nat) (s : Shared) (H : Hp) (vi : V) (vb : Value) (tb : Tok) (c : Nat), vs.length - (j + 1) = r → j + 1 ≤ vs.length → Same X.K H0 H → Inv X pins σ H s → FpOk X pins H S → FpOk X pins H it →
      s.heap.get? S = some (seqObj "list" #[vb, .int (kf i) tb] c) → s.heap.IsListIter it l (j + 1) → vs[i]? = some vi → RelV vi vb → i ≤ j → (∀ j', j' ≤ j → kf i ≤ kf j' ∧ (j' < i → kf i < kf j')) →
      codeAny (model X.prog X.w) X.A (.builtin "min.loop" ⟨[.ref it, .ref f, .ref S], [(Str.ofString "default", dv)]⟩) R s := by
  have hname : (toString "min" ++ toString ".loop" : String) = "min.loop" := by decide
  intro r
  induction r with
  | zero =>
    intro j i s H vi vb tb c hr hj sm I0 fS fI hS hit hvi rvi hij hbest
    have hin : j + 1 = vs.length := by omega
    obtain ⟨its, rv, pl, _⟩ := I0.list (sq_same hl sm)
    have hil := pl.isList
    have hle := rv.length
    have hsz : its.toArray.size = its.length := List.size_toArray ..
    have W := Walks.list (prog := X.prog) (w := X.w) (A := X.A.in1) (I0.ok.hd hc) it l hlI its.toArray
    refine codeAny_builtin PySem.F.entry_min_loop ?_
    rw [Around.under_plainId PySem.F.plain_min_loop _]
    show wpAny _ X.A.in1 (seqItems? (.ref S) >>= _) _ _ _
    refine wpAny_bind (wpAny_seqItems hS rfl ?_)
    show wpAny _ X.A.in1 (tryCatch (pyNext (.ref it)) _ >>= _) _ _ _
    refine wpAny_bind (wpAny_tryCatch (W.done _ _ _ ⟨by rw [hsz, ← hle, ← hin]; exact hit, hil⟩ fun h' tk' hk' => ?_))
    have I1 : Inv X pins σ H { s with heap := h', toks := tk' } := I0.turned (t' := tk') (fun b o hb e => hk' b o (by simpa using hb) e) fI.1 fI.2.1 fI.2.2.2.1 fI.2.2.2.2.1 fI.2.2.2.2.2
    have hS' := hk' S _ (by simpa using hSI) hS
    have s1 := Heap.SameBut.update h' S (Obj.mapSeq fun _ => (#[] : Array Value))
    show wpAny _ X.A.in1 (updateSeq S (fun _ => #[]) >>= _) _ _ _
    refine wpAny_bind ?_
    refine wpAny_updateSeq hS' rfl (wpAny_bind (wpAny_letGo (wpAny_pure ?_)))
    exact hR i vi vb H _ hvi rvi (fun j' hj' => hbest j' (by omega)) sm (I1.turned (t' := tk') (fun b o hb e => (s1.2 b hb).trans e) fS.1 fS.2.1 fS.2.2.2.1 fS.2.2.2.2.1 fS.2.2.2.2.2)
  | succ r ih =>
    intro j i s H vi vb tb c hr hj sm I0 fS fI hS hit hvi rvi hij hbest
    have hlt : j + 1 < vs.length := by omega
    obtain ⟨its, rv, pl, _⟩ := I0.list (sq_same hl sm)
    have hil := pl.isList
    have hle := rv.length
    have hsz : its.toArray.size = its.length := List.size_toArray ..
    have W := Walks.list (prog := X.prog) (w := X.w) (A := X.A.in1) (I0.ok.hd hc) it l hlI its.toArray
    refine codeAny_builtin PySem.F.entry_min_loop ?_
    rw [Around.under_plainId PySem.F.plain_min_loop _]
    show wpAny _ X.A.in1 (seqItems? (.ref S) >>= _) _ _ _
    refine wpAny_bind (wpAny_seqItems hS rfl ?_)
    show wpAny _ X.A.in1 (tryCatch (pyNext (.ref it)) _ >>= _) _ _ _
    refine wpAny_bind (wpAny_tryCatch (W.item (j + 1) _ _ _ (by rw [hsz]; omega) ⟨hit, hil⟩ fun v h' tk' hP hst' hk' => ?_))
    have hv : its[j + 1]? = some v := by simpa using hP
    obtain ⟨u0, e0, rx⟩ := rv.get (List.getElem?_eq_getElem hlt)
    rw [hv] at e0; cases e0
    have hx : vs[j + 1]? = some vs[j + 1] := List.getElem?_eq_getElem hlt
    have I1 : Inv X pins σ H { s with heap := h', toks := tk' } := I0.turned (t' := tk') (fun b o hb e => hk' b o (by simpa using hb) e) fI.1 fI.2.1 fI.2.2.2.1 fI.2.2.2.2.1 fI.2.2.2.2.2
    have hS1 := hk' S _ (by simpa using hSI) hS
    obtain ⟨oI, hoI, hoc, hod⟩ := id hst'.1
    have I2 := I1.pinned (fp := [S, it]) (fun b hb => by
      simp only [List.mem_cons, List.not_mem_nil, or_false] at hb
      rcases hb with rfl | rfl
      · exact fS
      · exact fI) (fun b hb => by
      simp only [List.mem_cons, List.not_mem_nil, or_false] at hb
      rcases hb with rfl | rfl
      · exact ⟨_, hS1, fun v z => nomatch z⟩
      · exact ⟨oI, hoI, fun v z => by rw [hod] at z; cases z⟩)
    show wpAny _ X.A.in1 (tryCatch (holding [v] (call (.ref f) [v])) _ >>= _) _ _ _
    refine wpAny_bind (wpAny_tryCatch (wpAny_holding (wpAny_mono (turn (j + 1) _ v _ _ H hx rx sm I2) (fun x s2 he => ?_) fun _ _ hF => hF.elim)))
    obtain ⟨t2, H2, rfl, sm2, I3⟩ := he
    have pS := I3.pin (S, _) (List.mem_append_right _ (List.mem_append_right _ (mem_pinsAt (by simp) hS1)))
    have pI := I3.pin (it, oI) (List.mem_append_right _ (List.mem_append_right _ (mem_pinsAt (by simp) hoI)))
    have I4 := I3.unpinned
    have fS2 : FpOk X pins H2 S := ⟨pS.2.1, fS.2⟩
    have fI2 : FpOk X pins H2 it := ⟨pI.2.1, fI.2⟩
    have hS2 := pS.1
    have hit2 : s2.heap.IsListIter it l (j + 1 + 1) := ⟨oI, pI.1, hoc, hod⟩
    show wpAny _ X.A.in1 (tryCatch (holding [v, .int (kf (j + 1)) t2] (richCompare .Lt (.int (kf (j + 1)) t2) (.int (kf i) tb) >>= _)) _ >>= _) _ _ _
    refine wpAny_bind (wpAny_tryCatch (wpAny_holding (wpAny_bind (CmpOf.ints_lt (prog := X.prog) (w := X.w) (A := X.A.in1) (P := fun i v => ∃ t, v = .int (kf i) t) kf (fun i v h => h) (j + 1) i _ _ _ _ _ ⟨t2, rfl⟩ ⟨tb, rfl⟩ ?_))))
    refine wpAny_bind (wpAny_holding (wpAny_truthy_bool ?_))
    refine wpAny_bind (wpAny_letGo (wpAny_pure ?_))
    by_cases hb' : kf (j + 1) < kf i
    ·
      have s1 := Heap.SameBut.update s2.heap S (Obj.mapSeq fun _ => #[v, .int (kf (j + 1)) t2])
      obtain ⟨c2, hc2⟩ : ∃ c2, (s2.heap.update S (Obj.mapSeq fun _ => #[v, .int (kf (j + 1)) t2])).get? S = some (seqObj "list" #[v, .int (kf (j + 1)) t2] c2) := ⟨_, get?_update_seq hS2 fun _ => #[v, .int (kf (j + 1)) t2]⟩
      simp only [hb', decide_true, if_true]
      refine wpAny_bind ?_
      refine wpAny_updateSeq hS2 rfl (wpAny_bind (wpAny_letGo ?_))
      rw [hname]
      refine wpAny_pure ⟨plainId_quiet PySem.F.plain_min_loop _, ih (j + 1) (j + 1) _ H2 _ v t2 c2 (by omega) hlt (sm.trans sm2) (I4.turned (t' := s2.toks) (fun b o hb e => (s1.2 b hb).trans e) fS2.1 fS2.2.1 fS2.2.2.2.1 fS2.2.2.2.2.1 fS2.2.2.2.2.2) fS2 fI2 hc2 ⟨oI, (s1.2 it hSI.symm).trans pI.1, hoc, hod⟩ hx rx (Nat.le_refl _) fun j' hj' => ?_⟩
      by_cases e : j' = j + 1
      · subst e
        exact ⟨by omega, fun _ => by omega⟩
      · have hb1 := hbest j' (by omega)
        have hb2 := hb1.1
        exact ⟨by omega, fun _ => by omega⟩
    ·
      simp only [hb', decide_false, Bool.false_eq_true, if_false]
      refine wpAny_bind (wpAny_letGo ?_)
      rw [hname]
      refine wpAny_pure ⟨plainId_quiet PySem.F.plain_min_loop _, ih (j + 1) i _ H2 vi vb tb c (by omega) hlt (sm.trans sm2) I4 fS2 fI2 hS2 hit2 hvi rvi (by omega) fun j' hj' => ?_⟩
      by_cases e : j' = j + 1
      · subst e
        exact ⟨by omega, fun _ => by omega⟩
      · exact hbest j' (by omega)
theorem kx_min {Q : Value → Shared → Prop} {E : Value → Shared → Prop} {s : Shared} (kf : Nat → Int) (hc : X.calm = true) (hl : SqL X.K H0 l vs) (I0 : Inv X pins σ H0 s)
    (turn : ∀ (i : Nat) (v : V) (u : Value) (pins' : List (Addr × Obj)) (s : Shared) (H : Hp), vs[i]? = some v → RelV v u → Same X.K H0 H → Inv X pins' σ H s →
      wpAny (model X.prog X.w) X.A.in1 (call (.ref f) [u]) (fun r s' => ∃ t H', r = .int (kf i) t ∧ Same X.K H H' ∧ Inv X pins' σ H' s') (fun _ _ => False) s)
    (hQ : ∀ (i : Nat) (v : V) (u : Value) (H : Hp) (s : Shared), vs[i]? = some v → RelV v u → (∀ j, j < vs.length → kf i ≤ kf j ∧ (j < i → kf i < kf j)) → Same X.K H0 H → Inv X pins σ H s → Q u s)
    (hD : vs = [] → ∀ s', Inv X pins σ H0 s' → Q dv s') :
    wpAny (model X.prog X.w) X.A (call (.builtin "min") [.ref l] [(Str.ofString "key", .ref f), (Str.ofString "default", dv)]) Q E s := by
  have hname : (toString "min" ++ toString ".loop" : String) = "min.loop" := by decide
  obtain ⟨its, rv, pl, _⟩ := I0.list hl
  have hil := pl.isList
  have hle := rv.length
  have hsz : its.toArray.size = its.length := List.size_toArray ..
  obtain ⟨ol, hol, _⟩ := id hil
  have hll : l < s.heap.objs.size := Heap.lt_size hol
  refine kmk_tree PySem.F.kind_min PySem.F.plain_min PySem.F.entry_min (kx_min_args _ _ _) ?_
  show wpAny _ X.A.in1 (Builtin.Builtins.bindParams "min" ["key", "default"] 0 ⟨[], [(Str.ofString "key", .ref f), (Str.ofString "default", dv)]⟩ >>= _) _ _ s
  refine wpAny_bind (wpAny_of_eq (show Builtin.Builtins.bindParams "min" ["key", "default"] 0 ⟨[], [(Str.ofString "key", .ref f), (Str.ofString "default", dv)]⟩ = pure [some (.ref f), some dv] from rfl) ?_)
  refine wpAny_bind (wpAny_pure ?_)
  refine wpAny_bind (wpAny_pyIter_list hil ?_)
  refine wpAny_bind (wpAny_newList ?_ (Nat.zero_le _))
  rw [hname]
  have hS : (s.heap.push { cls := .type "list_iterator", data := .fields #[.ref l, .int 0 0] }).objs.size = s.heap.objs.size + 1 := size_push' ..
  have hlI : l ≠ s.heap.objs.size := Nat.ne_of_lt hll
  have hSI : (s.heap.push { cls := .type "list_iterator", data := .fields #[.ref l, .int 0 0] }).objs.size ≠ s.heap.objs.size := by rw [hS]; exact Nat.ne_of_gt (Nat.lt_succ_self _)
  refine wpAny_pure ⟨plainId_quiet PySem.F.plain_min_loop _, ?_⟩
  have gI : ((s.heap.push { cls := .type "list_iterator", data := .fields #[.ref l, .int 0 0] }).push (seqObj "list" #[] 0)).get? s.heap.objs.size = some { cls := .type "list_iterator", data := .fields #[.ref l, .int 0 0] } :=
    Heap.get?_push_of_some _ (Heap.get?_push_size _ rfl)
  have gS : ((s.heap.push { cls := .type "list_iterator", data := .fields #[.ref l, .int 0 0] }).push (seqObj "list" #[] 0)).get? (s.heap.push { cls := .type "list_iterator", data := .fields #[.ref l, .int 0 0] }).objs.size = some (seqObj "list" #[] 0) := Heap.get?_push_size _ rfl
  have fI : FpOk X pins H0 s.heap.objs.size := I0.fpOk (Nat.le_refl _) (I0.hok.fresh (Nat.le_refl _))
  have fS : FpOk X pins H0 (s.heap.push { cls := .type "list_iterator", data := .fields #[.ref l, .int 0 0] }).objs.size := I0.fpOk (by rw [hS]; exact Nat.le_succ _) (I0.hok.fresh (by rw [hS]; exact Nat.le_succ _))
  have IH : Inv X pins σ H0 { s with heap := (s.heap.push { cls := .type "list_iterator", data := .fields #[.ref l, .int 0 0] }).push (seqObj "list" #[] 0) } := I0.kept (t' := s.toks) fun b o e => Heap.get?_push_of_some _ (Heap.get?_push_of_some _ e)
  have hilH : ((s.heap.push { cls := .type "list_iterator", data := .fields #[.ref l, .int 0 0] }).push (seqObj "list" #[] 0)).IsList l its.toArray := hil.at fun o e => Heap.get?_push_of_some _ (Heap.get?_push_of_some _ e)
  generalize hit : s.heap.objs.size = it at *
  generalize hSS : (s.heap.push { cls := .type "list_iterator", data := .fields #[.ref l, .int 0 0] }).objs.size = S at *
  generalize hHH : (s.heap.push { cls := .type "list_iterator", data := .fields #[.ref l, .int 0 0] }).push (seqObj "list" #[] 0) = hh at *
  have W := Walks.list (prog := X.prog) (w := X.w) (A := X.A.in1) (I0.ok.hd hc) it l hlI its.toArray
  by_cases hne : 0 < vs.length
  · refine codeAny_builtin PySem.F.entry_min_loop ?_
    rw [Around.under_plainId PySem.F.plain_min_loop _]
    show wpAny _ X.A.in1 (seqItems? (.ref S) >>= _) _ _ _
    refine wpAny_bind (wpAny_seqItems gS rfl ?_)
    show wpAny _ X.A.in1 (tryCatch (pyNext (.ref it)) _ >>= _) _ _ _
    refine wpAny_bind (wpAny_tryCatch (W.item 0 _ _ _ (by rw [hsz]; omega) ⟨⟨_, gI, rfl, rfl⟩, hilH⟩ fun v h' tk' hP hst' hk' => ?_))
    have hv : its[0]? = some v := by simpa using hP
    obtain ⟨u0, e0, rx⟩ := rv.get (List.getElem?_eq_getElem hne)
    rw [hv] at e0; cases e0
    have hx : vs[0]? = some vs[0] := List.getElem?_eq_getElem hne
    have I1 : Inv X pins σ H0 { s with heap := h', toks := tk' } := IH.turned (t' := tk') (fun b o hb e => hk' b o (by simpa using hb) e) fI.1 fI.2.1 fI.2.2.2.1 fI.2.2.2.2.1 fI.2.2.2.2.2
    have hS1 := hk' S _ (by simpa using hSI) gS
    obtain ⟨oI, hoI, hoc, hod⟩ := id hst'.1
    have I2 := I1.pinned (fp := [S, it]) (fun b hb => by
      simp only [List.mem_cons, List.not_mem_nil, or_false] at hb
      rcases hb with rfl | rfl
      · exact fS
      · exact fI) (fun b hb => by
      simp only [List.mem_cons, List.not_mem_nil, or_false] at hb
      rcases hb with rfl | rfl
      · exact ⟨_, hS1, fun v z => nomatch z⟩
      · exact ⟨oI, hoI, fun v z => by rw [hod] at z; cases z⟩)
    show wpAny _ X.A.in1 (tryCatch (holding [v] (call (.ref f) [v])) _ >>= _) _ _ _
    refine wpAny_bind (wpAny_tryCatch (wpAny_holding (wpAny_mono (turn 0 _ v _ _ H0 hx rx (.refl _) I2) (fun x s2 he => ?_) fun _ _ hF => hF.elim)))
    obtain ⟨t2, H2, rfl, sm2, I3⟩ := he
    have pS := I3.pin (S, _) (List.mem_append_right _ (List.mem_append_right _ (mem_pinsAt (by simp) hS1)))
    have pI := I3.pin (it, oI) (List.mem_append_right _ (List.mem_append_right _ (mem_pinsAt (by simp) hoI)))
    have I4 := I3.unpinned
    have fS2 : FpOk X pins H2 S := ⟨pS.2.1, fS.2⟩
    have fI2 : FpOk X pins H2 it := ⟨pI.2.1, fI.2⟩
    have hS2 := pS.1
    have s1 := Heap.SameBut.update s2.heap S (Obj.mapSeq fun _ => #[v, .int (kf 0) t2])
    obtain ⟨c2, hc2⟩ : ∃ c2, (s2.heap.update S (Obj.mapSeq fun _ => #[v, .int (kf 0) t2])).get? S = some (seqObj "list" #[v, .int (kf 0) t2] c2) := ⟨_, get?_update_seq hS2 fun _ => #[v, .int (kf 0) t2]⟩
    show wpAny _ X.A.in1 (updateSeq S (fun _ => #[v, .int (kf 0) t2]) >>= _) _ _ _
    refine wpAny_bind ?_
    refine wpAny_updateSeq hS2 rfl ?_
    rw [hname]
    refine wpAny_pure ⟨plainId_quiet PySem.F.plain_min_loop _, kx_min_loop kf hc hlI hSI hl turn (fun i v u H s h1 h2 h3 h4 h5 => hQ i v u H s h1 h2 h3 h4 h5) _ 0 0 _ H2 _ v t2 c2 rfl hne sm2 (I4.turned (t' := s2.toks) (fun b o hb e => (s1.2 b hb).trans e) fS2.1 fS2.2.1 fS2.2.2.2.1 fS2.2.2.2.2.1 fS2.2.2.2.2.2) fS2 fI2 hc2 ⟨oI, (s1.2 it hSI.symm).trans pI.1, hoc, hod⟩ hx rx (Nat.le_refl _) fun j' hj' => ?_⟩
    have e : j' = 0 := by omega
    subst e
    exact ⟨by omega, fun h => absurd h (Nat.lt_irrefl _)⟩
  · have hv0 : vs = [] := List.length_eq_zero_iff.mp (by omega)
    refine codeAny_builtin PySem.F.entry_min_loop ?_
    rw [Around.under_plainId PySem.F.plain_min_loop _]
    show wpAny _ X.A.in1 (seqItems? (.ref S) >>= _) _ _ _
    refine wpAny_bind (wpAny_seqItems gS rfl ?_)
    show wpAny _ X.A.in1 (tryCatch (pyNext (.ref it)) _ >>= _) _ _ _
    have e0 : its.toArray.size = 0 := by rw [hsz, ← hle, hv0]; rfl
    refine wpAny_bind (wpAny_tryCatch (W.done _ _ _ ⟨by rw [e0]; exact ⟨_, gI, rfl, rfl⟩, hilH⟩ fun h' tk' hk' => ?_))
    have I1 : Inv X pins σ H0 { s with heap := h', toks := tk' } := IH.turned (t' := tk') (fun b o hb e => hk' b o (by simpa using hb) e) fI.1 fI.2.1 fI.2.2.2.1 fI.2.2.2.2.1 fI.2.2.2.2.2
    show wpAny _ X.A.in1 (rule _ >>= _) _ _ _
    exact wpAny_bind (wpAny_rule (wpAny_pure (hD hv0 _ I1)))
end
noncomputable def keyD (F : List D → R D) : List D → Option (List Int)
  | [] => some []
  | d :: ds => match F [d] with
    | .ok (.int k) => (keyD F ds).map (k :: ·)
    | _ => none
noncomputable def pickD : D → Int → List D → List Int → D
  | b, kb, d :: ds, k :: ks => if kb < k then pickD d k ds ks else pickD b kb ds ks
  | b, _, _, _ => b
noncomputable def bestD (neg : Bool) (F : List D → R D) (x d : D) : R D := match x with
  | .lst ds => match keyD F ds with
    | some ks => match ds, (if neg = true then ks.map (- ·) else ks) with
      | e :: ds', k :: ks' => .ok (pickD e k ds' ks')
      | _, _ => .ok d
    | none => .bad
  | _ => .bad
theorem best_def {neg : Bool} {F : List D → R D} {ds : List D} {d : D} : bestD neg F (.lst ds) d = match keyD F ds with
    | some ks => match ds, (if neg = true then ks.map (- ·) else ks) with
      | e :: ds', k :: ks' => .ok (pickD e k ds' ks')
      | _, _ => .ok d
    | none => .bad := rfl
theorem keyD_len {F : List D → R D} : ∀ {ds : List D} {ks : List Int}, keyD F ds = some ks → ks.length = ds.length
  | [], _, h => by cases h; rfl
  | d :: ds, ks, h => by
    unfold keyD at h
    split at h
    · obtain ⟨l, e, rfl⟩ := Option.map_eq_some_iff.mp h
      rw [List.length_cons, List.length_cons, keyD_len e]
    · cases h
theorem keyD_get {F : List D → R D} : ∀ {ds : List D} {ks : List Int}, keyD F ds = some ks → ∀ (i : Nat) (d : D), ds[i]? = some d → F [d] = .ok (.int (ks.getD i 0))
  | [], _, _, i, d, e => by simp at e
  | d0 :: ds, ks, h, i, d, e => by
    unfold keyD at h
    split at h
    · rename_i k hk
      obtain ⟨l, e2, rfl⟩ := Option.map_eq_some_iff.mp h
      cases i with
      | zero => simp at e; subst e; exact hk
      | succ i => simpa using keyD_get e2 i d (by simpa using e)
    · cases h
theorem pick_at (g : Nat → D) (kf : Nat → Int) (n : Nat) : ∀ (ds : List D) (ks : List Int) (p b : Nat), p + ds.length = n → ks.length = ds.length → (∀ i, i < ds.length → ds[i]? = some (g (p + i))) → (∀ i, i < ds.length → ks.getD i 0 = kf (p + i)) → b < p →
    (∀ j, j < p → kf j ≤ kf b ∧ (j < b → kf j < kf b)) → ∃ i, i < n ∧ pickD (g b) (kf b) ds ks = g i ∧ ∀ j, j < n → kf j ≤ kf i ∧ (j < i → kf j < kf i)
  | [], ks, p, b, h1, h2, h3, h4, h5, h6 => by
    simp at h1
    subst h1
    exact ⟨b, h5, by unfold pickD; rfl, h6⟩
  | d :: ds, [], p, b, h1, h2, h3, h4, h5, h6 => by simp at h2
  | d :: ds, k :: ks, p, b, h1, h2, h3, h4, h5, h6 => by
    have ed : d = g p := by have := h3 0 (by simp); simpa using this
    have ek : k = kf p := by have := h4 0 (by simp); simpa using this
    have h3' : ∀ i, i < ds.length → ds[i]? = some (g (p + 1 + i)) := fun i hi => by
      have := h3 (i + 1) (by simp; omega)
      rw [List.getElem?_cons_succ] at this
      rw [this]; congr 2; omega
    have h4' : ∀ i, i < ds.length → ks.getD i 0 = kf (p + 1 + i) := fun i hi => by
      have := h4 (i + 1) (by simp; omega)
      rw [show p + 1 + i = p + (i + 1) by omega, ← this]; rfl
    have hl : p + 1 + ds.length = n := by simp at h1; omega
    have hk : ks.length = ds.length := by simpa using h2
    show ∃ i, i < n ∧ (if kf b < k then pickD d k ds ks else pickD (g b) (kf b) ds ks) = g i ∧ _
    by_cases hg : kf b < k
    · rw [if_pos hg, ed, ek]
      rw [ek] at hg
      refine pick_at g kf n ds ks (p + 1) p hl hk h3' h4' (by omega) fun j hj => ?_
      by_cases e : j = p
      · subst e; exact ⟨Int.le_refl _, fun w => absurd w (Nat.lt_irrefl _)⟩
      · have z := (h6 j (by omega)).1
        exact ⟨by omega, fun _ => by omega⟩
    · rw [if_neg hg]
      rw [ek] at hg
      refine pick_at g kf n ds ks (p + 1) b hl hk h3' h4' (by omega) fun j hj => ?_
      by_cases e : j = p
      · subst e; exact ⟨by omega, fun w => absurd w (by omega)⟩
      · exact h6 j (by omega)
theorem best_of {neg : Bool} {F : List D → R D} {ds : List D} {ks : List Int} {x : D} (hk : keyD F ds = some ks) {i : Nat} (hi : i < ds.length) (hb : ∀ j, j < ds.length → (if neg = true then ks.getD i 0 ≤ ks.getD j 0 ∧ (j < i → ks.getD i 0 < ks.getD j 0) else ks.getD i 0 ≥ ks.getD j 0 ∧ (j < i → ks.getD i 0 > ks.getD j 0))) :
    bestD neg F (.lst ds) x = .ok ds[i] := by
  have hl := keyD_len hk
  cases ds with
  | nil => simp at hi
  | cons e ds =>
    generalize hks : (if neg = true then ks.map (- ·) else ks) = ks2
    have hl2 : ks2.length = ds.length + 1 := by rw [← hks]; split <;> simp [hl]
    have hg : ∀ j, j < ds.length + 1 → ks2.getD j 0 = if neg = true then - ks.getD j 0 else ks.getD j 0 := fun j hj => by
      rw [← hks]
      split
      · simp [List.getD_eq_getElem?_getD, List.getElem?_map]
        have : j < ks.length := by rw [hl]; simpa using hj
        simp [List.getElem?_eq_getElem this]
      · rfl
    cases ks2 with
    | nil => simp at hl2
    | cons k ks' =>
      have hb' : ∀ j, j < ds.length + 1 → (k :: ks').getD j 0 ≤ (k :: ks').getD i 0 ∧ (j < i → (k :: ks').getD j 0 < (k :: ks').getD i 0) := fun j hj => by
        have z := hb j (by simpa using hj)
        rw [hg j hj, hg i (by simpa using hi)]
        cases neg with
        | true => simp only [if_true] at z ⊢; exact ⟨by omega, fun w => by have := z.2 w; omega⟩
        | false => simp only [Bool.false_eq_true, if_false] at z ⊢; exact ⟨by omega, fun w => by have := z.2 w; omega⟩
      obtain ⟨i', hi', ep, best⟩ := pick_at (fun j => ((e :: ds)[j]?).getD .non) (fun j => (k :: ks').getD j 0) (ds.length + 1) ds ks' 1 0 (by omega) (by simpa using hl2) (fun j hj => by
        rw [show 1 + j = j + 1 by omega, List.getElem?_cons_succ, List.getElem?_eq_getElem hj]; rfl) (fun j hj => by rw [show 1 + j = j + 1 by omega]; rfl) (by omega) (fun j hj => by
        have : j = 0 := by omega
        subst this
        exact ⟨Int.le_refl _, fun w => absurd w (Nat.lt_irrefl _)⟩)
      have ei : i' = i := by
        have z1 := best i (by simpa using hi)
        have z2 := hb' i' hi'
        by_cases w : i' = i
        · exact w
        · by_cases v : i' < i
          · have := z2.2 v; omega
          · have := z1.2 (by omega); omega
      subst ei
      rw [best_def, hk]
      dsimp only
      rw [hks]
      show R.ok (pickD e k ds ks') = _
      have e0 : pickD e k ds ks' = pickD (((e :: ds)[0]?).getD .non) ((k :: ks').getD 0 0) ds ks' := rfl
      rw [e0, ep, List.getElem?_eq_getElem hi]
      rfl
section
variable {X : Cx} {E : XK} {k : Nat} {x fn p : Str} {F : List D → R D} {fa fb : Ev → R D} {e de : Expr} {pos p0 p1 p2 p3 : Pos}
noncomputable def dBest (neg : Bool) (F : List D → R D) (fa fb : Ev → R D) : Ev → R D := fun ρ => (fa ρ).bind fun l => (fb ρ).bind fun d => bestD neg F l d
theorem key_turn {f : Addr} {fd : FuncData} {σ : L2.St} (G : FnOk X.prog X.w X.K X.mg X.base (CXx X.prog X.w) k f fd [p] (spD 1 X.K F)) (hb : Binds X.K fd [p] []) (hr : Room (k + 1) X.A) {al : Addr → Prop} {H0 : Hp} {ds : List D} {vs : List V} {ks : List Int} (hk : keyD F ds = some ks) (rv : Reps X.K al H0 vs ds) (fr : ∀ a, H0 a = none → al a) (tt : TbOk X.K H0) :
    ∀ (i : Nat) (v : V) (u : Value) (pins' : List (Addr × Obj)) (s : Shared) (H : Hp), vs[i]? = some v → RelV v u → Same X.K H0 H → Inv X pins' σ H s →
      wpAny (model X.prog X.w) X.A.in1 (call (.ref f) [u]) (fun r s' => ∃ t H', r = .int (ks.getD i 0) t ∧ Same X.K H H' ∧ Inv X pins' σ H' s') (fun _ _ => False) s := by
  intro i v u pins' s H hv rl sm I
  obtain ⟨d, hd, rd⟩ := rv.get hv
  have kd := keyD_get hk i d hd
  have r2 : Vals [v] [u] := .cons rl .nil
  refine wpAny_call (codeAny_mono (G.run X.A.in1 X.stack s H ⟨[u], []⟩ [u] [v] (fun w H' => w = .int (ks.getD i 0) ∧ Same X.K H H') (fun _ _ _ => False) hr.in1 I.env0.in1 (by simpa using hb s [u] I.kIn rfl) r2 ?_) fun r s' hq => ?_)
  · refine ⟨rfl, sm.tt tt, al, [d], fun a ha => fr a (sm.free ha), .cons (rd.up sm) .nil, ?_⟩
    dsimp only
    rw [kd]
    exact fun H' s' w rw' => by cases rw'; exact ⟨rfl, s'⟩
  · cases r with
    | error ex =>
      obtain ⟨_, _, _, _, _, _, _, _, _, _, _, _, z⟩ := hq
      exact z
    | ok fl =>
      cases fl with
      | ret w =>
        obtain ⟨v2, H2, I2, rv2, e2, s2⟩ := I.after hq
        subst e2
        obtain ⟨t, rfl⟩ := rv2
        exact ⟨t, H2, rfl, s2, I2⟩
      | next => exact False.elim hq
      | brk => exact False.elim hq
      | cont => exact False.elim hq
theorem de_max (G : Has X.prog X.w X.K X.mg X.base (CXx X.prog X.w) k fn [p] (spD 1 X.K F)) (hr : Room (k + 1) X.A) (hc : X.calm = true) (hgx : Gl X "max") (hmx : X.mg "max" = none) (hgf : Gl X fn) (he : DE X E e fa) (hd : DE X E de fb) (hdb : (fn == ("__debug__" : Str)) = false := by decide)
    (hs : starEach [e] X.env = (false, eval e X.env) :: starEach [] X.env := by rfl) (hst : backTo pos (starEach [e] X.env) = (false, eval e X.env) :: backTo pos (starEach [] X.env) := by rfl) (hplain : (backTo pos (starEach [e] X.env)).any (·.1) = false := by rfl) :
    DE X E (.Call (.Name "max" p0) [e] [⟨some (Str.ofString "key"), .Name fn p1, p2⟩, ⟨some (Str.ofString "default"), de, p3⟩] pos) (dBest false F fa fb) := by
  obtain ⟨ta, pa, ra⟩ := he
  obtain ⟨tb, pb, rb⟩ := hd
  obtain ⟨f, fd, G, hb, kp, m⟩ := G
  refine ⟨fun σ H Q => ta σ H fun x0 H1 => ∃ x, [x0] = [x] ∧ tb σ H1 fun y H2 => ∃ al l vs ds ks, x = .ref l ∧ SqL X.K H2 l vs ∧ Reps X.K al H2 vs ds ∧ (∀ a, H2 a = none → al a) ∧ TbOk X.K H2 ∧ keyD F ds = some ks ∧
    (∀ (i : Nat) (v : V) (H3 : Hp), vs[i]? = some v → (∀ j, j < vs.length → ks.getD i 0 ≥ ks.getD j 0 ∧ (j < i → ks.getD i 0 > ks.getD j 0)) → Same X.K H2 H3 → Q v H3) ∧ (vs = [] → Q y H2), fun pins s σ H Q I h => ?_, fun P H0 al H σ ρ Q s h => ?_⟩
  · refine wpAny_Call_Name_kw (ld_blt I hgx hmx bt_max ?_)
    refine callWith_kw ?_ hst hplain
    have PA1 : PA X [e] (tCons ta tNil) := pa_cons pa pa_nil hs
    refine thn (PA1 pos pins s σ H (fun vs H1 => ∃ x, vs = [x] ∧ tb σ H1 fun y H2 => ∃ al l vs ds ks, x = .ref l ∧ SqL X.K H2 l vs ∧ Reps X.K al H2 vs ds ∧ (∀ a, H2 a = none → al a) ∧ TbOk X.K H2 ∧ keyD F ds = some ks ∧
      (∀ (i : Nat) (v : V) (H3 : Hp), vs[i]? = some v → (∀ j, j < vs.length → ks.getD i 0 ≥ ks.getD j 0 ∧ (j < i → ks.getD i 0 > ks.getD j 0)) → Same X.K H2 H3 → Q v H3) ∧ (vs = [] → Q y H2)) I h) fun us s1 ⟨vs0, H1, I1, r1, q1⟩ => ?_
    obtain ⟨x, rfl, q1⟩ := q1
    obtain ⟨u, rfl, ru⟩ := vals1 r1
    refine kws_cons (ld_glob I1 hgf m ?_ hdb)
    refine kws_cons (thn (pb pins s1 σ H1 _ I1 q1) fun w s2 ⟨y, H2, I2, r2, q2⟩ => ?_)
    refine kws_nil ?_
    obtain ⟨al, l, vs, ds, ks, rfl, hl, rv, fr, tt, hk, q3, q4⟩ := q2
    obtain rfl : u = Value.ref l := ru
    exact kx_max (fun i => ks.getD i 0) hc hl I2 (key_turn G hb hr hk rv fr tt) (fun i v u' H3 s3 h1 h2 h3 h4 I3 => ⟨v, H3, I3, h2, q3 i v H3 h1 h3 h4⟩) fun h0 s3 I3 => ⟨y, H2, I3, r2, q4 h0⟩
  · refine ra _ _ _ _ _ _ _ s (Aft.mono (Aft.split h) fun d1 H1 s1 h1 v rv => ⟨v, rfl, rb _ _ _ _ _ _ _ (s.grow s1) (Aft.mono (Aft.split h1) fun d2 H2 s2 h2 y ry => ?_)⟩)
    unfold bestD at h2
    split at h2
    · rename_i ds
      split at h2
      · rename_i ks hk
        obtain ⟨l, vs, rfl, hl, rvs⟩ := (rv.up s2).lstIn
        have hlen := rvs.length
        refine ⟨al, l, vs, ds, ks, rfl, hl, rvs, ((s.grow s1).grow s2).fresh, ((s.grow s1).grow s2).tt, hk, fun i v H3 h3 hb3 s3 => ?_, fun h0 => ?_⟩
        · have hi : i < ds.length := by rw [← hlen]; exact (List.getElem?_eq_some_iff.mp h3).1
          have e := best_of (neg := false) (x := d2) hk hi (fun j hj => by simpa using hb3 j (by rw [hlen]; exact hj))
          rw [best_def, hk] at e
          dsimp only at e
          rw [e] at h2
          obtain ⟨d, hd, rd⟩ := rvs.get h3
          rw [List.getElem?_eq_getElem hi] at hd
          cases hd
          exact h2 H3 s3 v (rd.up s3)
        · subst h0
          have : ds = [] := List.length_eq_zero_iff.mp (by rw [← hlen]; rfl)
          subst this
          cases hk
          exact h2 H2 (.refl H2) y ry
      · exact h2.elim
    · exact h2.elim
theorem de_min (G : Has X.prog X.w X.K X.mg X.base (CXx X.prog X.w) k fn [p] (spD 1 X.K F)) (hr : Room (k + 1) X.A) (hc : X.calm = true) (hgx : Gl X "min") (hmx : X.mg "min" = none) (hgf : Gl X fn) (he : DE X E e fa) (hd : DE X E de fb) (hdb : (fn == ("__debug__" : Str)) = false := by decide)
    (hs : starEach [e] X.env = (false, eval e X.env) :: starEach [] X.env := by rfl) (hst : backTo pos (starEach [e] X.env) = (false, eval e X.env) :: backTo pos (starEach [] X.env) := by rfl) (hplain : (backTo pos (starEach [e] X.env)).any (·.1) = false := by rfl) :
    DE X E (.Call (.Name "min" p0) [e] [⟨some (Str.ofString "key"), .Name fn p1, p2⟩, ⟨some (Str.ofString "default"), de, p3⟩] pos) (dBest true F fa fb) := by
  obtain ⟨ta, pa, ra⟩ := he
  obtain ⟨tb, pb, rb⟩ := hd
  obtain ⟨f, fd, G, hb, kp, m⟩ := G
  refine ⟨fun σ H Q => ta σ H fun x0 H1 => ∃ x, [x0] = [x] ∧ tb σ H1 fun y H2 => ∃ al l vs ds ks, x = .ref l ∧ SqL X.K H2 l vs ∧ Reps X.K al H2 vs ds ∧ (∀ a, H2 a = none → al a) ∧ TbOk X.K H2 ∧ keyD F ds = some ks ∧
    (∀ (i : Nat) (v : V) (H3 : Hp), vs[i]? = some v → (∀ j, j < vs.length → ks.getD i 0 ≤ ks.getD j 0 ∧ (j < i → ks.getD i 0 < ks.getD j 0)) → Same X.K H2 H3 → Q v H3) ∧ (vs = [] → Q y H2), fun pins s σ H Q I h => ?_, fun P H0 al H σ ρ Q s h => ?_⟩
  · refine wpAny_Call_Name_kw (ld_blt I hgx hmx bt_min ?_)
    refine callWith_kw ?_ hst hplain
    have PA1 : PA X [e] (tCons ta tNil) := pa_cons pa pa_nil hs
    refine thn (PA1 pos pins s σ H (fun vs H1 => ∃ x, vs = [x] ∧ tb σ H1 fun y H2 => ∃ al l vs ds ks, x = .ref l ∧ SqL X.K H2 l vs ∧ Reps X.K al H2 vs ds ∧ (∀ a, H2 a = none → al a) ∧ TbOk X.K H2 ∧ keyD F ds = some ks ∧
      (∀ (i : Nat) (v : V) (H3 : Hp), vs[i]? = some v → (∀ j, j < vs.length → ks.getD i 0 ≤ ks.getD j 0 ∧ (j < i → ks.getD i 0 < ks.getD j 0)) → Same X.K H2 H3 → Q v H3) ∧ (vs = [] → Q y H2)) I h) fun us s1 ⟨vs0, H1, I1, r1, q1⟩ => ?_
    obtain ⟨x, rfl, q1⟩ := q1
    obtain ⟨u, rfl, ru⟩ := vals1 r1
    refine kws_cons (ld_glob I1 hgf m ?_ hdb)
    refine kws_cons (thn (pb pins s1 σ H1 _ I1 q1) fun w s2 ⟨y, H2, I2, r2, q2⟩ => ?_)
    refine kws_nil ?_
    obtain ⟨al, l, vs, ds, ks, rfl, hl, rv, fr, tt, hk, q3, q4⟩ := q2
    obtain rfl : u = Value.ref l := ru
    exact kx_min (fun i => ks.getD i 0) hc hl I2 (key_turn G hb hr hk rv fr tt) (fun i v u' H3 s3 h1 h2 h3 h4 I3 => ⟨v, H3, I3, h2, q3 i v H3 h1 h3 h4⟩) fun h0 s3 I3 => ⟨y, H2, I3, r2, q4 h0⟩
  · refine ra _ _ _ _ _ _ _ s (Aft.mono (Aft.split h) fun d1 H1 s1 h1 v rv => ⟨v, rfl, rb _ _ _ _ _ _ _ (s.grow s1) (Aft.mono (Aft.split h1) fun d2 H2 s2 h2 y ry => ?_)⟩)
    unfold bestD at h2
    split at h2
    · rename_i ds
      split at h2
      · rename_i ks hk
        obtain ⟨l, vs, rfl, hl, rvs⟩ := (rv.up s2).lstIn
        have hlen := rvs.length
        refine ⟨al, l, vs, ds, ks, rfl, hl, rvs, ((s.grow s1).grow s2).fresh, ((s.grow s1).grow s2).tt, hk, fun i v H3 h3 hb3 s3 => ?_, fun h0 => ?_⟩
        · have hi : i < ds.length := by rw [← hlen]; exact (List.getElem?_eq_some_iff.mp h3).1
          have e := best_of (neg := true) (x := d2) hk hi (fun j hj => by simpa using hb3 j (by rw [hlen]; exact hj))
          rw [best_def, hk] at e
          dsimp only at e
          rw [e] at h2
          obtain ⟨d, hd, rd⟩ := rvs.get h3
          rw [List.getElem?_eq_getElem hi] at hd
          cases hd
          exact h2 H3 s3 v (rd.up s3)
        · subst h0
          have : ds = [] := List.length_eq_zero_iff.mp (by rw [← hlen]; rfl)
          subst this
          cases hk
          exact h2 H2 (.refl H2) y ry
      · exact h2.elim
    · exact h2.elim
end
end P2
namespace PySem.F
end PySem.F
namespace P2
open PySem
section
variable {prog : Program} {w : World} {A : Around} {E : Value → Shared → Prop} {s : Shared} {R : Result → Shared → Prop}
variable {I : Addr} {fp wr : List Addr} {G : Array GenState → Array GenState → Prop} {n : Nat} {P : Nat → Value → Prop} {St : Nat → Shared → Prop}
end
end P2
namespace P2
open PySem L2 PySem.Spec
open PyProof.Rows hiding St
theorem Reps.rev {K : PySem.W.Frag} {al : Addr → Prop} {H : Hp} : ∀ {vs : List V} {ds : List D}, Reps K al H vs ds → Reps K al H vs.reverse ds.reverse
  | _, _, .nil => .nil
  | _, _, .cons r q => by
    rw [List.reverse_cons, List.reverse_cons]
    exact (Reps.rev q).append (.cons r .nil)
section
variable {X : Cx} {E : XK} {e : Expr} {ta : TE} {f : Ev → R D} {p1 p2 pos pos2 : Pos}
end
end P2
namespace P2
open PySem L2 PySem.Spec
open PyProof.Rows hiding St
section
variable {X : Cx} {E : XK} {a b : Expr} {rest : List Expr} {pos : Pos} {ta tb : TE} {fa fb : Ev → R D}
theorem pe_orV (ha : PE X a ta) (hb : PE X (.BoolOp .Or (b :: rest) pos) tb) : PE X (.BoolOp .Or (a :: b :: rest) pos) (fun σ H Q => ta σ H fun x H1 => ∃ k, TruV X.K x H1 k ∧ if k = true then Q x H1 else tb σ H1 Q) := by
  intro pins s σ H Q I h
  refine BoolOp_or (thn (ha pins s σ H _ I h) fun v s1 ⟨x, H1, I1, r1, q1⟩ => ?_)
  obtain ⟨k, hk, q⟩ := q1
  refine thn (tru_ok pins s1 σ H1 x v (fun c H2 => c = k ∧ H2 = H1) I1 r1 ⟨k, hk, rfl, rfl⟩) fun c s2 ⟨H2, I2, e1, e2⟩ => ?_
  subst e1 e2
  cases c with
  | true => exact ⟨x, H2, I2, r1, by simpa using q⟩
  | false => exact hb pins s2 σ H2 Q I2 (by simpa using q)
noncomputable def dOrV (a b : Ev → R D) : Ev → R D := fun ρ => (a ρ).bind fun x => (tT x).bind fun c => if c = true then .ok x else b ρ
theorem de_orV (ha : DE X E a fa) (hb : DE X E (.BoolOp .Or (b :: rest) pos) fb) : DE X E (.BoolOp .Or (a :: b :: rest) pos) (dOrV fa fb) := by
  obtain ⟨ta, pa, ra⟩ := ha
  obtain ⟨tb, pb, rb⟩ := hb
  refine ⟨_, pe_orV pa pb, fun P H0 al H σ ρ Q s h => ra _ _ _ _ _ _ _ s (Aft.mono (Aft.split h) fun x H1 s1 h1 v rv => ?_)⟩
  obtain ⟨k, hk, q⟩ := rep_tT rv (Aft.split h1)
  refine ⟨k, hk, ?_⟩
  cases k with
  | true => rw [if_pos rfl] at q ⊢; exact q H1 (.refl H1) v rv
  | false => rw [if_neg (by simp)] at q ⊢; exact rb _ _ _ _ _ _ _ (s.grow s1) q
theorem q_dOrV_a {ρ : Ev} : dOrV fa fb ρ = (fa ρ).bind fun x => (tT x).bind fun c => if c = true then .ok x else fb ρ := rfl
end
end P2
namespace P2
open PySem L2 PySem.Spec PySem.Calls
open PyProof.Rows hiding St
noncomputable def BM (mg : Str → Option Value) (h : Heap) : Prop := ∃ bm ob, mg "__builtins__" = some (.ref bm) ∧ bm ≠ builtinsNs ∧ h.get? bm = some ob ∧ ob.cls = .type "module" ∧ ob.dict = some builtinsNs ∧ ob.data = .plain
noncomputable def lamIn (K : PySem.W.Frag) (x : Str) (c P : Addr) : Bool := (tabsOf K).any (fun t => t.1 == x && (t.2.1 == c && t.2.2 == P)) && PySem.W.codeHdIn K c P && (tabsOf K).all fun t => t.2.2 != P || t.1 == x
theorem lamIn_mem {K : PySem.W.Frag} {x : Str} {c P : Addr} (h : lamIn K x c P = true) : (x, c, P) ∈ tabsOf K ∧ PySem.W.codeHdIn K c P = true ∧ ∀ t ∈ tabsOf K, t.2.2 = P → t.1 = x := by
  unfold lamIn at h
  simp only [Bool.and_eq_true] at h
  obtain ⟨⟨h1, h2⟩, h3⟩ := h
  refine ⟨?_, h2, fun t ht e => ?_⟩
  · obtain ⟨t, ht, e⟩ := List.any_eq_true.mp h1
    simp only [Bool.and_eq_true, beq_iff_eq] at e
    obtain ⟨t1, t2, t3⟩ := t
    obtain ⟨rfl, rfl, rfl⟩ := e
    exact ht
  · have := List.all_eq_true.mp h3 t ht
    simp only [Bool.or_eq_true, bne_iff_ne, beq_iff_eq] at this
    rcases this with z | z
    · exact absurd e z
    · exact z
theorem triples_snoc_among {pos q : Pos} {c cv : Value} : ∀ (l : List Value), TriplesOk l → codeAmong q (l ++ [rawInt pos.line, rawInt pos.col, c]) = some cv → codeAmong q l = some cv ∨ cv = c := by
  intro l h hs
  fun_induction TriplesOk l with
  | case1 =>
    simp only [List.nil_append, codeAmong, rawInt] at hs
    split at hs
    · cases hs; exact .inr rfl
    · cases hs
  | case2 a t b u x rest ih =>
    simp only [List.cons_append, codeAmong] at hs ⊢
    split at hs
    · rename_i hc; rw [if_pos hc]; exact .inl hs
    · rename_i hc; rw [if_neg hc]; exact ih h hs
  | case3 l h1 h2 => exact h.elim
noncomputable def LamO (f : Addr) (o : Obj) : HO := .ext fun h => h.get? f = some o
noncomputable def LamH (H : Hp) (f : Addr) (qual : Str) (params : Arguments) (body : Expr) (scope : Scope) (pm : Value) : Prop :=
  ∃ c' ctv, H f = some (LamO f (PySem.W.kla_obj "<lambda>" qual params body scope [] pm c' ctv)) ∧ H c' = some (CodeO c' qual)
theorem LamH.up {K : PySem.W.Frag} {H H' : Hp} {f : Addr} {qual : Str} {params : Arguments} {body : Expr} {scope : Scope} {pm : Value} (h : LamH H f qual params body scope pm) (s : Same K H H') : LamH H' f qual params body scope pm := by
  obtain ⟨c', ctv, e1, e2⟩ := h
  exact ⟨c', ctv, s.at' _ _ nt_ext e1, s.at' _ _ nt_ext e2⟩
theorem codeO_ok {P : Program} {w : World} {H : Hp} {h : Heap} {c : Addr} {q : Str} (x : h.CodeRec (.ref c) q) : ObjOk P w H h c (CodeO c q) := by
  refine ⟨x, ?_, fun h1 h2 y k => ?_⟩
  · obtain ⟨c2, o, vs, t, e, g, r⟩ := x
    cases e
    exact ⟨o, g⟩
  · obtain ⟨c2, o, vs, t, e, g, r⟩ := y
    cases e
    exact ⟨c, o, vs, t, rfl, k o g, r⟩
theorem lamO_ok {P : Program} {w : World} {H : Hp} {h : Heap} {f : Addr} {o : Obj} (x : h.get? f = some o) : ObjOk P w H h f (LamO f o) := ⟨x, ⟨o, x⟩, fun h1 h2 y k => k o y⟩
section
variable {X : Cx} {pins : List (Addr × Obj)} {σ : List (Option V)} {H : Hp} {s : Shared}
theorem lam_step {h' : Heap} {tk : Nat} {P c' f : Addr} {ps ps' : Array Value} {oc : HO} {o : Obj} (I : Inv X pins σ H s) (hP : H P = some (.tbl ps)) (hx : Heap.ExtBut P s.heap h') (h2 : s.heap.objs.size ≤ c') (h3 : c' < f) (hf : h'.get? f = some o) (htb : h'.get? P = some (PySem.W.tabObj (ps ++ ps')))
    (hoc : ∀ H', ObjOk X.prog X.w H' h' c' oc) : Inv X pins σ (upd (upd (upd H P (.tbl (ps ++ ps'))) c' oc) f (LamO f o)) { s with heap := h', toks := tk } := by
  have eP : s.heap.get? P = some (PySem.W.tabObj ps) := I.hok P _ hP
  have lP := Heap.lt_size eP
  have nc : H c' = none := I.hok.fresh h2
  have nf : H f = none := I.hok.fresh (Nat.le_trans h2 (Nat.le_of_lt h3))
  have cP : c' ≠ P := fun z => absurd (Nat.lt_of_lt_of_le lP h2) (by rw [z]; exact Nat.lt_irrefl _)
  have fP : f ≠ P := fun z => absurd (Nat.lt_of_lt_of_le lP (Nat.le_trans h2 (Nat.le_of_lt h3))) (by rw [z]; exact Nat.lt_irrefl _)
  have fc : f ≠ c' := Nat.ne_of_gt h3
  have nP : ∀ b, H b = none → b ≠ P := fun b n z => by rw [z, hP] at n; cases n
  have at' : ∀ b u, b ≠ P → H b = some u → (upd (upd (upd H P (.tbl (ps ++ ps'))) c' oc) f (LamO f o)) b = some u := fun b u z e => by
    rw [upd_ne (ne_of_none e nf), upd_ne (ne_of_none e nc), upd_ne z]; exact e
  have atP : (upd (upd (upd H P (.tbl (ps ++ ps'))) c' oc) f (LamO f o)) P = some (.tbl (ps ++ ps')) := by
    rw [upd_ne fP.symm, upd_ne cP.symm, upd_same]
  have neP : ∀ b u, H b = some u → (∀ q, u ≠ .tbl q) → b ≠ P := fun b u e n z => by rw [z, hP] at e; cases e; exact n ps rfl
  refine I.step (g' := s.gens) (d' := s.drawn) (ch := []) (fun _ z => nomatch z) (fun b o _ _ _ e n => hx b o (nP b n) e) (fun b o _ _ _ e n => ⟨o.slots, hx b o (nP b n) e⟩) (fun b o _ e n => ?_) (fun b o _ e => ?_)
    (fun b xs e => at' b _ (neP b _ e fun _ z => nomatch z) e) (fun b o u e => at' b _ (neP b _ e fun _ z => nomatch z) e) (fun b q e => ?_) (fun m hm => hm.extBut hx (nP _ I.free)) (fun b u e => ?_) I.bare
  · have lb := Heap.lt_size e
    rw [upd_ne fun z => ?_, upd_ne fun z => ?_, upd_ne (nP b n)]
    · exact n
    · exact absurd (Nat.lt_of_lt_of_le lb h2) (by rw [z]; exact Nat.lt_irrefl _)
    · exact absurd (Nat.lt_of_lt_of_le lb (Nat.le_trans h2 (Nat.le_of_lt h3))) (by rw [z]; exact Nat.lt_irrefl _)
  · by_cases z : b = P
    · exact ⟨_, by rw [z]; exact htb⟩
    · exact ⟨o, hx b o z e⟩
  · by_cases z : b = P
    · subst z
      rw [hP] at e
      cases e
      exact ⟨ps', atP⟩
    · exact ⟨#[], by rw [at' b _ z e, Array.append_empty]⟩
  · by_cases z1 : b = f
    · subst z1
      rw [upd_same] at e
      cases e
      exact lamO_ok hf
    · rw [upd_ne z1] at e
      by_cases z2 : b = c'
      · subst z2
        rw [upd_same] at e
        cases e
        exact hoc _
      · rw [upd_ne z2] at e
        by_cases z3 : b = P
        · subst z3
          rw [upd_same] at e
          cases e
          exact htb
        · rw [upd_ne z3] at e
          refine (I.hok b u e).stay (fun c v hc q => hx c v (fun z => ?_) q) (fun c q => at' c _ (neP c _ q fun _ z => nomatch z) q) fun c xs q => at' c _ (neP c _ q fun _ z => nomatch z) q
          rcases hc with hc | hc
          · rw [hc] at z; exact z3 z
          · rw [z, hP] at hc; cases hc
theorem lam_make {x qual : Str} {c P : Addr} {params : Arguments} {body : Expr} {scope : Scope} {pos : Pos} {Q : Value → Shared → Prop} {E : Value → Shared → Prop} (I : Inv X pins σ H s) (tt : TbOk X.K H) (bm : BM X.mg X.base) (hi : lamIn X.K x c P = true) (hcode : X.env.code = .ref c)
    (hq : X.env.qual ++ "<lambda>" = qual) (hx : x ++ ".<locals>.<lambda>" = qual) (hdef : defaultsOf params X.env = ([], [])) (hcl : closureFor scope X.env = pure [])
    (h : ∀ f H2 s2, Same X.K H H2 → Inv X pins σ H2 s2 → LamH H2 f qual params body scope ((X.mg "__name__").getD .none) → Q (.ref f) s2) :
    wpAny (model X.prog X.w) X.A (eval (.Lambda params body scope pos) X.env) Q E s := by
  obtain ⟨mem, hd, uniq⟩ := lamIn_mem hi
  obtain ⟨ps, t1, t2, t3⟩ := tt _ mem
  dsimp only at t1
  have eP : s.heap.get? P = some (PySem.W.tabObj ps) := I.hok P _ t1
  have nP : ∀ b, H b = none → b ≠ P := fun b n z => by rw [z, t1] at n; cases n
  have hg : s.heap.Ns mainGlobals X.mg := I.ok.mod.glob.keeps I.bk
  have C : PySem.W.CodeHd s.heap c P := PySem.W.codeHd_of_K I.kIn hd
  obtain ⟨b, ob, b1, b2, b3, b4, b5, b6⟩ := bm
  have hgP : mainGlobals ≠ P := fun q => by
    obtain ⟨o, es, ep, e, hd, _⟩ := hg
    rw [q, eP] at e; cases e; cases hd
  have hbG : b ≠ mainGlobals := fun q => by
    obtain ⟨o, es, ep, e, hd, _⟩ := I.ok.mod.glob
    rw [q, e] at b3; cases b3; rw [hd] at b6; cases b6
  have B : s.heap.BuiltinsAt X.mg P := ⟨b, ob, b1, b2, hbG, nP b (I.bs b ob b3).2, I.bk b ob b3, b4, b5, b6⟩
  refine PySem.W.kla_eval hdef ?_
  rw [hq]
  cases hm : codeAmong pos ps.toList with
  | none =>
    refine PySem.W.kla_makeFunction (mg := X.mg) hcl I.ok.glob hg hcode C eP t2 hm hgP B fun c' ctv h' tk hxb hge hlt hrec htb => ?_
    have hf : (h'.push (PySem.W.kla_obj "<lambda>" qual params body scope [] ((X.mg "__name__").getD .none) c' ctv)).get? h'.objs.size = some (PySem.W.kla_obj "<lambda>" qual params body scope [] ((X.mg "__name__").getD .none) c' ctv) := Heap.get?_push_size _ rfl
    have J := lam_step (tk := tk) (oc := CodeO c' qual) I t1 (fun b o hb e => Heap.get?_push_of_some _ (hxb b o hb e)) hge hlt hf (Heap.get?_push_of_some _ htb) fun H' => codeO_ok (hrec.push _)
    have nc : H c' = none := I.hok.fresh hge
    have nf : H h'.objs.size = none := I.hok.fresh (Nat.le_trans hge (Nat.le_of_lt hlt))
    have fc : h'.objs.size ≠ c' := Nat.ne_of_gt hlt
    have fP : h'.objs.size ≠ P := nP _ nf
    have cP : c' ≠ P := nP _ nc
    refine h _ _ _ ⟨fun b o n e => ?_, fun b e => ?_, fun _ => ?_⟩ J ⟨c', ctv, upd_same, by rw [upd_ne fc.symm, upd_same]⟩
    · rw [upd_ne (ne_of_none e nf), upd_ne (ne_of_none e nc), upd_ne fun z => ?_]
      · exact e
      · rw [z, t1] at e; cases e; exact n ps rfl
    · by_cases z1 : b = h'.objs.size
      · rw [z1]; exact nf
      · rw [upd_ne z1] at e
        by_cases z2 : b = c'
        · rw [z2]; exact nc
        · rw [upd_ne z2] at e
          by_cases z3 : b = P
          · rw [z3, upd_same] at e; cases e
          · rw [upd_ne z3] at e; exact e
    · intro t ht
      obtain ⟨qs, u1, u2, u3⟩ := tt t ht
      have up : ∀ q cv, codeAmong q qs.toList = some cv → ∃ c2, cv = .ref c2 ∧ (upd (upd (upd H P (.tbl (ps ++ #[rawInt pos.line, rawInt pos.col, .ref c']))) c' (CodeO c' qual)) h'.objs.size (LamO h'.objs.size (PySem.W.kla_obj "<lambda>" qual params body scope [] ((X.mg "__name__").getD .none) c' ctv))) c2 = some (CodeO c2 (t.1 ++ ".<locals>.<lambda>")) := fun q cv e => by
        obtain ⟨c2, e1, e2⟩ := u3 q cv e
        refine ⟨c2, e1, ?_⟩
        rw [upd_ne (ne_of_none e2 nf), upd_ne (ne_of_none e2 nc), upd_ne fun z => ?_]
        · exact e2
        · rw [z, t1] at e2; unfold CodeO at e2; cases e2
      by_cases z : t.2.2 = P
      · have ex := uniq t ht z
        have eqs : qs = ps := by rw [z, t1] at u1; cases u1; rfl
        subst eqs
        refine ⟨qs ++ #[rawInt pos.line, rawInt pos.col, .ref c'], by rw [z, upd_ne fP.symm, upd_ne cP.symm, upd_same], ?_, fun q cv e => ?_⟩
        · rw [Array.toList_append]
          exact TriplesOk_snoc _ _ _ _ u2
        · rw [Array.toList_append] at e
          rcases triples_snoc_among _ u2 e with e | e
          · exact up q cv e
          · refine ⟨c', e, ?_⟩
            rw [upd_ne fc.symm, upd_same, ex, hx]
      · exact ⟨qs, by rw [upd_ne (ne_of_none u1 nf), upd_ne (ne_of_none u1 nc), upd_ne z]; exact u1, u2, up⟩
  | some cv =>
    obtain ⟨c', rfl, e2⟩ := t3 pos cv hm
    dsimp only at e2
    rw [hx] at e2
    refine PySem.W.kla_makeFunctionHit (mg := X.mg) hcl I.ok.glob hg hcode C eP t2 hm B fun ctv h' tk hk hsz => ?_
    have nf : H h'.objs.size = none := I.hok.fresh hsz
    have hf : (h'.push (PySem.W.kla_obj "<lambda>" qual params body scope [] ((X.mg "__name__").getD .none) c' ctv)).get? h'.objs.size = some (PySem.W.kla_obj "<lambda>" qual params body scope [] ((X.mg "__name__").getD .none) c' ctv) := Heap.get?_push_size _ rfl
    have J : Inv X pins σ (upd H h'.objs.size (LamO h'.objs.size (PySem.W.kla_obj "<lambda>" qual params body scope [] ((X.mg "__name__").getD .none) c' ctv))) { s with heap := h'.push (PySem.W.kla_obj "<lambda>" qual params body scope [] ((X.mg "__name__").getD .none) c' ctv), toks := tk } :=
      I.laid (fun b o e => Heap.get?_push_of_some _ (hk b o e)) hsz (lamO_ok hf)
    exact h _ _ _ (same_upd nf) J ⟨c', ctv, upd_same, by rw [upd_ne (ne_of_none e2 nf)]; exact e2⟩
end
theorem lam_run {P : Program} {w : World} {K : PySem.W.Frag} {mg : Str → Option Value} {base : Heap} {k : Nat} {f : Addr} {qual : Str} {params : Arguments} {body : Expr} {scope : Scope} {pm : Value} {N ps : List Str} {g : Ev → R D} {A : Around} {outer : List Env} {s : Shared} {H : Hp} {us : List Value} {vs : List V} {Q : VK} {E : XK}
    (S : FnScope N ps scope) (L : LamH H f qual params body scope pm)
    (hbody : ∀ (cdv : Value) (A : Around) (outer : List Env) (s : Shared) (H : Hp) (E : XK), Room k (cxOf (CXx P w) P w K mg base N qual scope f cdv A outer s H E).A → DE (cxOf (CXx P w) P w K mg base N qual scope f cdv A outer s H E) E body g)
    (hbind : ∀ (cdv ctv : Value) (us : List Value), us.length = ps.length → bindArgs (PySem.W.kla_fn "<lambda>" qual params body scope [] pm cdv ctv) ⟨us, []⟩ = pure (ps.zip us))
    (hr : Room (k + 1) A) (e0 : Env0 P w K mg base A outer s H) (r : Vals vs us) (hsp : spD ps.length K (fun ds => g (startD N.length ds)) vs H Q E) :
    codeAny (model P w) A (.call (.ref f) ⟨us, []⟩) (CR (CXx P w) outer P w H s Q E) s := by
  obtain ⟨c', ctv, e1, e2⟩ := L
  obtain ⟨hl, tt, al, ds, fr, rv, h⟩ := hsp
  have ho := (e0.hok f _ e1).1
  have hcd := (e0.hok c' _ e2).1
  have lim : s.heap.NoLimit := e0.mod.nolimit.keeps fun b o e => (e0.bs b o e).1
  have hul : us.length = ps.length := by rw [← hl]; exact r.length.symm
  have hkind : ∀ y ∈ ps.zip us, scope.names.lookup y.1 = some .local ∨ (scope.names.lookup y.1 = some .cell ∧ ((cellsFrom (s.heap.objs.size + 1) scope.names []).lookup y.1).isSome = true) := fun ⟨n, v⟩ hy => by
    rcases S.par n (List.of_mem_zip hy).1 with q | q
    · exact .inl q
    · exact .inr ⟨q, PySem.W.cellsFrom_some _ _ _ (.inl q)⟩
  refine PySem.W.kla_callFunE hr.depth ho rfl S.co S.gen rfl hcd ?_
  rw [hbind _ _ us hul]
  refine wpAny_pure (wpAny_newFunctionEnv_cells S.kind hkind fun env he s1 x => ?_)
  subst he
  refine ⟨lim.keeps x.toInCall.keep, PySem.W.kla_codeExpr ?_⟩
  obtain ⟨t, p, q⟩ := hbody (.ref c') A outer s H E (hr.deeper _)
  have I : Inv (cxOf (CXx P w) P w K mg base N qual scope f (.ref c') A outer s H E) [] (L2.start N vs) H s1 := inv_start S hr.hd e0 hl r x
  refine wpAny_mono (p [] s1 (L2.start N vs) H _ I (q al H al H (L2.start N vs) (startD N.length ds) _ (rs_start tt fr rv) h)) (fun u s' hs => ?_) fun e s' hs => hs
  obtain ⟨v, H', J, rv, q⟩ := hs
  exact ⟨v, H', J.os, J.bare, J.base, J.hok, rv, q⟩
section
variable {X : Cx} {E : XK} {k : Nat} {p : Str} {fa fb g : Ev → R D} {e de body : Expr} {pos p0 p2 p3 p4 : Pos} {x qual : Str} {c P : Addr} {params : Arguments} {scope : Scope} {N : List Str}
theorem lam_turn {f : Addr} {pm : Value} {σ : L2.St} (S : FnScope N [p] scope)
    (hbody : ∀ (cdv : Value) (A : Around) (outer : List Env) (s : Shared) (H : Hp) (E : XK), Room k (cxOf (CXx X.prog X.w) X.prog X.w X.K X.mg X.base N qual scope f cdv A outer s H E).A → DE (cxOf (CXx X.prog X.w) X.prog X.w X.K X.mg X.base N qual scope f cdv A outer s H E) E body g)
    (hbind : ∀ (cdv ctv : Value) (us : List Value), us.length = [p].length → bindArgs (PySem.W.kla_fn "<lambda>" qual params body scope [] pm cdv ctv) ⟨us, []⟩ = pure ([p].zip us))
    (hr : Room (k + 2) X.A) {al : Addr → Prop} {H0 : Hp} (L : LamH H0 f qual params body scope pm) {ds : List D} {vs : List V} {ks : List Int} (hk : keyD (fun ds => g (startD N.length ds)) ds = some ks) (rv : Reps X.K al H0 vs ds) (fr : ∀ a, H0 a = none → al a) (tt : TbOk X.K H0) :
    ∀ (i : Nat) (v : V) (u : Value) (pins' : List (Addr × Obj)) (s : Shared) (H : Hp), vs[i]? = some v → RelV v u → Same X.K H0 H → Inv X pins' σ H s →
      wpAny (model X.prog X.w) X.A.in1 (call (.ref f) [u]) (fun r s' => ∃ t H', r = .int (ks.getD i 0) t ∧ Same X.K H H' ∧ Inv X pins' σ H' s') (fun _ _ => False) s := by
  intro i v u pins' s H hv rl sm I
  obtain ⟨d, hd, rd⟩ := rv.get hv
  have kd := keyD_get hk i d hd
  have r2 : Vals [v] [u] := .cons rl .nil
  refine wpAny_call (codeAny_mono (lam_run (Q := fun w H' => w = .int (ks.getD i 0) ∧ Same X.K H H') (E := fun _ _ _ => False) S (L.up sm) hbody hbind hr.in1 I.env0.in1 r2 ?_) fun r s' hq => ?_)
  · refine ⟨rfl, sm.tt tt, al, [d], fun a ha => fr a (sm.free ha), .cons (rd.up sm) .nil, ?_⟩
    dsimp only at kd ⊢
    rw [kd]
    exact fun H' s' w rw' => by cases rw'; exact ⟨rfl, s'⟩
  · cases r with
    | error ex =>
      obtain ⟨_, _, _, _, _, _, _, _, _, _, _, _, z⟩ := hq
      exact z
    | ok fl =>
      cases fl with
      | ret w =>
        obtain ⟨v2, H2, I2, rv2, e2, s2⟩ := I.after hq
        subst e2
        obtain ⟨t, rfl⟩ := rv2
        exact ⟨t, H2, rfl, s2, I2⟩
      | next => exact False.elim hq
      | brk => exact False.elim hq
      | cont => exact False.elim hq
theorem de_maxL (S : FnScope N [p] scope)
    (hbody : ∀ (f : Addr) (cdv : Value) (A : Around) (outer : List Env) (s : Shared) (H : Hp) (E : XK), Room k (cxOf (CXx X.prog X.w) X.prog X.w X.K X.mg X.base N qual scope f cdv A outer s H E).A → DE (cxOf (CXx X.prog X.w) X.prog X.w X.K X.mg X.base N qual scope f cdv A outer s H E) E body g)
    (bm : BM X.mg X.base) (hi : lamIn X.K x c P = true) (hcode : X.env.code = .ref c)
    (hr : Room (k + 2) X.A) (hc : X.calm = true) (hgx : Gl X "max") (hmx : X.mg "max" = none) (he : DE X E e fa) (hd : DE X E de fb)
    (hq : X.env.qual ++ "<lambda>" = qual := by rfl) (hx : x ++ ".<locals>.<lambda>" = qual := by rfl) (hdef : defaultsOf params X.env = ([], []) := by rfl) (hcl : closureFor scope X.env = pure [] := by rfl)
    (hbind : ∀ (pm cdv ctv : Value) (us : List Value), us.length = [p].length → bindArgs (PySem.W.kla_fn "<lambda>" qual params body scope [] pm cdv ctv) ⟨us, []⟩ = pure ([p].zip us) := by
      intro pm cdv ctv us hu
      obtain ⟨u, rfl⟩ := List.length_eq_one_iff.mp hu
      rfl)
    (hs : starEach [e] X.env = (false, eval e X.env) :: starEach [] X.env := by rfl) (hst : backTo pos (starEach [e] X.env) = (false, eval e X.env) :: backTo pos (starEach [] X.env) := by rfl) (hplain : (backTo pos (starEach [e] X.env)).any (·.1) = false := by rfl) :
    DE X E (.Call (.Name "max" p0) [e] [⟨some (Str.ofString "key"), .Lambda params body scope p4, p2⟩, ⟨some (Str.ofString "default"), de, p3⟩] pos) (dBest false (fun ds => g (startD N.length ds)) fa fb) := by
  obtain ⟨ta, pa, ra⟩ := he
  obtain ⟨tb, pb, rb⟩ := hd
  refine ⟨fun σ H Q => ta σ H fun x0 H1 => ∃ x, [x0] = [x] ∧ TbOk X.K H1 ∧ ∀ f H1', Same X.K H1 H1' → LamH H1' f qual params body scope ((X.mg "__name__").getD .none) → tb σ H1' fun y H2 => ∃ al l vs ds ks, x = .ref l ∧ SqL X.K H2 l vs ∧ Reps X.K al H2 vs ds ∧ (∀ a, H2 a = none → al a) ∧ TbOk X.K H2 ∧ LamH H2 f qual params body scope ((X.mg "__name__").getD .none) ∧ keyD (fun ds => g (startD N.length ds)) ds = some ks ∧
    (∀ (i : Nat) (v : V) (H3 : Hp), vs[i]? = some v → (∀ j, j < vs.length → ks.getD i 0 ≥ ks.getD j 0 ∧ (j < i → ks.getD i 0 > ks.getD j 0)) → Same X.K H2 H3 → Q v H3) ∧ (vs = [] → Q y H2), fun pins s σ H Q I h => ?_, fun P H0 al H σ ρ Q s h => ?_⟩
  · refine wpAny_Call_Name_kw (ld_blt I hgx hmx bt_max ?_)
    refine callWith_kw ?_ hst hplain
    have PA1 : PA X [e] (tCons ta tNil) := pa_cons pa pa_nil hs
    refine thn (PA1 pos pins s σ H (fun vs H1 => ∃ x, vs = [x] ∧ TbOk X.K H1 ∧ ∀ f H1', Same X.K H1 H1' → LamH H1' f qual params body scope ((X.mg "__name__").getD .none) → tb σ H1' fun y H2 => ∃ al l vs ds ks, x = .ref l ∧ SqL X.K H2 l vs ∧ Reps X.K al H2 vs ds ∧ (∀ a, H2 a = none → al a) ∧ TbOk X.K H2 ∧ LamH H2 f qual params body scope ((X.mg "__name__").getD .none) ∧ keyD (fun ds => g (startD N.length ds)) ds = some ks ∧
      (∀ (i : Nat) (v : V) (H3 : Hp), vs[i]? = some v → (∀ j, j < vs.length → ks.getD i 0 ≥ ks.getD j 0 ∧ (j < i → ks.getD i 0 > ks.getD j 0)) → Same X.K H2 H3 → Q v H3) ∧ (vs = [] → Q y H2)) I h) fun us s1 ⟨vs0, H1, I1, r1, q1⟩ => ?_
    obtain ⟨x, rfl, t1, q1⟩ := q1
    obtain ⟨u, rfl, ru⟩ := vals1 r1
    refine kws_cons (lam_make I1 t1 bm hi hcode hq hx hdef hcl fun f H1' s1' sm I1' L => ?_)
    refine kws_cons (thn (pb pins s1' σ H1' _ I1' (q1 f H1' sm L)) fun w s2 ⟨y, H2, I2, r2, q2⟩ => ?_)
    refine kws_nil ?_
    obtain ⟨al, l, vs, ds, ks, rfl, hl, rv, fr, tt, L2, hk, q3, q4⟩ := q2
    obtain rfl : u = Value.ref l := ru
    exact kx_max (fun i => ks.getD i 0) hc hl I2 (lam_turn S (hbody f) (hbind _) hr L2 hk rv fr tt) (fun i v u' H3 s3 h1 h2 h3 h4 I3 => ⟨v, H3, I3, h2, q3 i v H3 h1 h3 h4⟩) fun h0 s3 I3 => ⟨y, H2, I3, r2, q4 h0⟩
  · refine ra _ _ _ _ _ _ _ s (Aft.mono (Aft.split h) fun d1 H1 s1 h1 v rv => ⟨v, rfl, (s.grow s1).tt, fun f H1' sL L => rb _ _ _ _ _ _ _ ((s.grow s1).grow sL) (Aft.mono (Aft.split (Aft.up h1 sL)) fun d2 H2 s2 h2 y ry => ?_)⟩)
    unfold bestD at h2
    split at h2
    · rename_i ds
      split at h2
      · rename_i ks hk
        obtain ⟨l, vs, rfl, hl, rvs⟩ := ((rv.up sL).up s2).lstIn
        have hlen := rvs.length
        refine ⟨al, l, vs, ds, ks, rfl, hl, rvs, (((s.grow s1).grow sL).grow s2).fresh, (((s.grow s1).grow sL).grow s2).tt, L.up s2, hk, fun i v H3 h3 hb3 s3 => ?_, fun h0 => ?_⟩
        · have hi : i < ds.length := by rw [← hlen]; exact (List.getElem?_eq_some_iff.mp h3).1
          have e := best_of (neg := false) (x := d2) hk hi (fun j hj => by simpa using hb3 j (by rw [hlen]; exact hj))
          rw [best_def, hk] at e
          dsimp only at e
          rw [e] at h2
          obtain ⟨d, hd, rd⟩ := rvs.get h3
          rw [List.getElem?_eq_getElem hi] at hd
          cases hd
          exact h2 H3 s3 v (rd.up s3)
        · subst h0
          have : ds = [] := List.length_eq_zero_iff.mp (by rw [← hlen]; rfl)
          subst this
          cases hk
          exact h2 H2 (.refl H2) y ry
      · exact h2.elim
    · exact h2.elim
end
noncomputable def lamB (K : PySem.W.Frag) (x : Str) : Bool := match PySem.W.tabIn K x with
  | some (c, P) => lamIn K x c P
  | none => false
theorem lam_of {K : PySem.W.Frag} {x : Str} {f : Addr} {oc : Value} {od : Option Addr} {fd : FuncData} {osl : Array (Option Value)} (a : PySem.W.nsIn K mainGlobals x = some (some (.ref f))) (l : K.lookup f = some ⟨oc, od, .func fd, osl⟩) (h : lamB K x = true) : ∃ c P, lamIn K x c P = true ∧ fd.code = .ref c := by
  unfold lamB at h
  split at h
  · rename_i c P e
    refine ⟨c, P, h, ?_⟩
    unfold PySem.W.tabIn at e
    rw [a] at e
    dsimp only at e
    rw [l] at e
    dsimp only at e
    split at e
    · rename_i c2 hc
      split at e
      · split at e
        · cases e; exact hc
        · cases e
      · cases e
    · cases e
  · cases h
section
variable {P : Program} {w : World} {K : PySem.W.Frag} {mg : Str → Option Value} {base : Heap}
theorem fn_denL {x : Str} {st : Stmt} {f c : Addr} {fd : FuncData} {N ps : List Str} {k : Nat} {g : Ev → RT} (F : Fun K x x st f fd) (hc : fd.code = .ref c) (S : FnScope N ps (defScope st))
    (body : ∀ (A : Around) (outer : List Env) (s : Shared) (H : Hp) (E : XK), Room k (cxOf (CXx P w) P w K mg base N x (defScope st) f (.ref c) A outer s H E).A → DSs (cxOf (CXx P w) P w K mg base N x (defScope st) f (.ref c) A outer s H E) E (defBody st) g) :
    FnOk P w K mg base (CXx P w) (k + 1) f fd ps (spD ps.length K fun ds => finT (g (startD N.length ds))) := by
  obtain ⟨oc, od, kV, doc, pm, an, cdv, ct, osl, rfl, lk, hcd⟩ := F.ex
  obtain rfl : cdv = .ref c := hc
  refine fn_of lk hcd S (fun vs H Q E h => h.1) fun A outer s H vs Q E hr h => ?_
  obtain ⟨hl, tt, al, ds, fr, rv, h⟩ := h
  obtain ⟨t, p, r⟩ := body A outer s H E hr
  dsimp only at h
  refine ⟨t, p, r al H al H (L2.start N vs) (startD N.length ds) _ (rs_start tt fr rv) ?_⟩
  cases q : g (startD N.length ds) with
  | nx ρ => rw [q] at h; exact fun al' H' σ' _ s' => h H' s'.same .non .non
  | rt d => rw [q] at h; exact fun v H' s' rv => h H' s' v rv
  | ex c ns es => rw [q] at h; exact h
  | bk ρ => rw [q] at h; exact h.elim
  | ct ρ => rw [q] at h; exact h.elim
  | bad => rw [q] at h; exact h.elim
end
end P2
namespace P2
open PySem L2 PySem.Spec PySem.Calls
open PyProof.Rows hiding St
theorem bt_sorted : bootBuiltins "sorted" = some (.builtin "sorted") := by decide +kernel
section
variable {X : Cx} {E : XK} {e : Expr} {ta : TE} {f : Ev → R D} {p1 pos : Pos}
end
end P2
namespace P2
open PySem PySem.W PyProof.Rows
noncomputable def KOk {α : Type} (n : Nat) (c : Nat → Nat → Bool) : KasT α → (α → Prop) → Prop
  | .ret a, Q => Q a
  | .ask i j k, Q => i < n ∧ j < n ∧ KOk n c (k (c i j)) Q
theorem KOk.bind {α β : Type} {n : Nat} {c : Nat → Nat → Bool} {f : α → KasT β} {Q : β → Prop} : ∀ {t : KasT α}, KOk n c t (fun a => KOk n c (f a) Q) → KOk n c (t.bind f) Q
  | .ret _, h => h
  | .ask i j k, h => ⟨h.1, h.2.1, KOk.bind (t := k (c i j)) h.2.2⟩
theorem KOk.wp {α : Type} {n : Nat} {c : Nat → Nat → Bool} {cmp : Nat → Nat → (Bool → Shared → Prop) → Shared → Prop} {Q : α → Prop} {G : α → Shared → Prop} {s : Shared}
    (hc : ∀ i j, i < n → j < n → ∀ C : Bool → Shared → Prop, C (c i j) s → cmp i j C s) (hG : ∀ a, Q a → G a s) : ∀ {t : KasT α}, KOk n c t Q → t.kasWp cmp G s
  | .ret a, h => hG a h
  | .ask i j k, h => hc i j h.1 h.2.1 _ (KOk.wp hc hG (t := k (c i j)) h.2.2)
section
variable {n : Nat} {c : Nat → Nat → Bool} {rk : Nat → Int}
noncomputable def KK (rk : Nat → Int) (p : Array Nat) (i : Nat) : Int := rk ((p[i]?).getD 0)
noncomputable def Inr (n : Nat) (p : Array Nat) : Prop := p.Perm (List.toArray (List.range n))
theorem Inr.size {p : Array Nat} (h : Inr n p) : p.size = n := by rw [h.size_eq]; simp
theorem Inr.lt {p : Array Nat} (h : Inr n p) (h0 : 0 < n) (k : Nat) : p.getD k 0 < n := by
  rw [Array.getD_eq_getD_getElem?]
  cases e : p[k]? with
  | none => simpa using h0
  | some x =>
    have hm : x ∈ p.toList := by
      have := Array.mem_of_getElem? e
      exact Array.mem_toList_iff.mpr this
    have := (Array.perm_iff_toList_perm.mp h).mem_iff.mp hm
    simpa using this
theorem getD_KK (rk : Nat → Int) (p : Array Nat) (i : Nat) : rk (p.getD i 0) = KK rk p i := by unfold KK; rw [Array.getD_eq_getD_getElem?]
theorem KK_congr {p q : Array Nat} {i j : Nat} (h : p[i]? = q[j]?) : KK rk p i = KK rk q j := by unfold KK; rw [h]
theorem KK_rev {p : Array Nat} {i j : Nat} (hj : j ≤ p.size) (k : Nat) : KK rk (kas_rev p i j) k = if i ≤ k ∧ k < j then KK rk p (i + j - 1 - k) else KK rk p k := by
  have := getElem?_mirror_all (i := i) hj k
  unfold kas_rev
  split
  · rename_i h; rw [if_pos h] at this; exact KK_congr this
  · rename_i h; rw [if_neg h] at this; exact KK_congr this
theorem Inr.rev {p : Array Nat} (h : Inr n p) (i j : Nat) : Inr n (kas_rev p i j) := (mirror_perm ..).trans h
theorem Inr.bub {p : Array Nat} (h : Inr n p) (i j : Nat) : Inr n (bubble p i j) := (bubble_perm ..).trans h
variable (hc : ∀ i j, i < n → j < n → c i j = decide (rk i < rk j))
include hc
theorem ask_ok {α : Type} {p : Array Nat} (h : Inr n p) (h0 : 0 < n) (i j : Nat) {k : Bool → KasT α} {Q : α → Prop} (q : KOk n c (k (decide (KK rk p i < KK rk p j))) Q) : KOk n c (.ask (p.getD i 0) (p.getD j 0) k) Q := by
  refine ⟨h.lt h0 i, h.lt h0 j, ?_⟩
  rw [hc _ _ (h.lt h0 i) (h.lt h0 j), getD_KK rk p i, getD_KK rk p j]
  exact q
noncomputable def Asc (rk : Nat → Int) (p : Array Nat) (m : Nat) : Prop := ∀ i j, i ≤ j → j < m → KK rk p i ≤ KK rk p j
noncomputable def Dsc (rk : Nat → Int) (p : Array Nat) (m : Nat) : Prop := ∀ i j, i ≤ j → j < m → KK rk p j ≤ KK rk p i
omit hc in
theorem Asc.snoc {p : Array Nat} {m : Nat} (h : Asc rk p m) (h1 : 1 ≤ m) (e : KK rk p (m - 1) ≤ KK rk p m) : Asc rk p (m + 1) := fun i j hij hj => by
  by_cases z : j = m
  · subst z
    by_cases y : i = j
    · subst y; omega
    · have := h i (j - 1) (by omega) (by omega); omega
  · exact h i j hij (by omega)
omit hc in
theorem Dsc.snoc {p : Array Nat} {m : Nat} (h : Dsc rk p m) (h1 : 1 ≤ m) (e : KK rk p m ≤ KK rk p (m - 1)) : Dsc rk p (m + 1) := fun i j hij hj => by
  by_cases z : j = m
  · subst z
    by_cases y : i = j
    · subst y; omega
    · have := h i (j - 1) (by omega) (by omega); omega
  · exact h i j hij (by omega)
theorem ok_asc {p : Array Nat} (h : Inr n p) (h0 : 0 < n) {Q : Nat → Prop} : ∀ (f m : Nat), 1 ≤ m → Asc rk p m → (∀ m', m ≤ m' → m' ≤ m + f → Asc rk p m' → (m' < m + f → KK rk p m' < KK rk p (m' - 1)) → Q m') → KOk n c (kas_asc p f m) Q
  | 0, m, _, a, q => q m (Nat.le_refl _) (Nat.le_refl _) a fun w => absurd w (by omega)
  | f + 1, m, h1, a, q => by
    refine ask_ok hc h h0 m (m - 1) ?_
    by_cases z : KK rk p m < KK rk p (m - 1)
    · rw [decide_eq_true z, if_pos rfl]
      exact q m (Nat.le_refl _) (by omega) a fun _ => z
    · rw [decide_eq_false z, if_neg (by decide)]
      exact ok_asc h h0 f (m + 1) (by omega) (a.snoc h1 (by omega)) fun m' g1 g2 g3 g4 => q m' (by omega) (by omega) g3 fun w => g4 (by omega)
omit hc in
theorem Dsc.rev {p : Array Nat} {a b m : Nat} (h : Dsc rk p m) (hb : b ≤ p.size) (hm : b ≤ m) (e : ∀ k, a ≤ k → k < b → KK rk p k = KK rk p (b - 1)) (k : Nat) : KK rk (kas_rev p a b) k = KK rk p k := by
  rw [KK_rev hb]
  split
  · rename_i z
    rw [e _ (by omega) (by omega), e k z.1 z.2]
  · rfl
theorem ok_desc (h0 : 0 < n) {Q : Array Nat × Nat × Nat → Prop} : ∀ (f : Nat) (p : Array Nat) (m q : Nat), Inr n p → 1 ≤ m → m + f ≤ n → q < m → Dsc rk p m → (∀ k, m - (q + 1) ≤ k → k < m → KK rk p k = KK rk p (m - 1)) →
      (∀ p' m' q', Inr n p' → m ≤ m' → m' ≤ m + f → q' < m' → Dsc rk p' m' → (∀ k, m' - (q' + 1) ≤ k → k < m' → KK rk p' k = KK rk p' (m' - 1)) → Q (p', m', q')) → KOk n c (kas_desc f p m q) Q
  | 0, p, m, q, h, _, _, hq, a, e, r => r p m q h (Nat.le_refl _) (Nat.le_refl _) hq a e
  | f + 1, p, m, q, h, h1, hmn, hq, a, e, r => by
    have hs := h.size
    refine ask_ok hc h h0 m (m - 1) ?_
    by_cases z : KK rk p m < KK rk p (m - 1)
    · rw [decide_eq_true z, if_pos rfl]
      by_cases y : q > 0
      · rw [if_pos y]
        have kk := Dsc.rev (a := m - (q + 1)) (b := m) a (by omega) (Nat.le_refl _) e
        have a' : Dsc rk (kas_rev p (m - (q + 1)) m) (m + 1) := Dsc.snoc (fun i j hij hj => by rw [kk, kk]; exact a i j hij hj) h1 (by rw [kk, kk]; omega)
        exact ok_desc h0 f _ (m + 1) 0 (h.rev _ _) (by omega) (by omega) (by omega) a' (fun k g1 g2 => by rw [show k = m + 1 - 1 by omega]) fun p' m' q' g1 g2 g3 g4 g5 g6 => r p' m' q' g1 (by omega) (by omega) g4 g5 g6
      · rw [if_neg y]
        exact ok_desc h0 f p (m + 1) 0 h (by omega) (by omega) (by omega) (a.snoc h1 (by omega)) (fun k g1 g2 => by rw [show k = m + 1 - 1 by omega]) fun p' m' q' g1 g2 g3 g4 g5 g6 => r p' m' q' g1 (by omega) (by omega) g4 g5 g6
    · rw [decide_eq_false z, if_neg (by decide)]
      refine ask_ok hc h h0 (m - 1) m ?_
      by_cases y : KK rk p (m - 1) < KK rk p m
      · rw [decide_eq_true y, if_pos rfl]
        exact r p m q h (Nat.le_refl _) (by omega) hq a e
      · rw [decide_eq_false y, if_neg (by decide)]
        have eq : KK rk p m = KK rk p (m - 1) := by omega
        refine ok_desc h0 f p (m + 1) (q + 1) h (by omega) (by omega) (by omega) (a.snoc h1 (by omega)) (fun k g1 g2 => ?_) fun p' m' q' g1 g2 g3 g4 g5 g6 => r p' m' q' g1 (by omega) (by omega) g4 g5 g6
        rw [Nat.add_sub_cancel]
        by_cases w : k = m
        · rw [w]
        · rw [e k (by omega) (by omega), eq]
theorem ok_tail3 {p : Array Nat} (h : Inr n p) (h0 : 0 < n) {m : Nat} (h1 : 1 ≤ m) (hm : m ≤ n) (a : Dsc rk p m) {Q : Nat × Array Nat → Prop} (q : ∀ m' p', Inr n p' → 1 ≤ m' → m' ≤ n → Asc rk p' m' → Q (m', p')) : KOk n c (kas_tail3 m n p) Q := by
  have hs := h.size
  refine KOk.bind (ok_asc hc (h.rev 0 m) h0 _ _ h1 (fun i j hij hj => ?_) fun m' g1 g2 g3 g4 => q m' _ (h.rev 0 m) (by omega) (by omega) g3)
  rw [KK_rev (by omega), KK_rev (by omega), if_pos (by omega), if_pos (by omega)]
  exact a _ _ (by omega) (by omega)
theorem ok_descPart {p : Array Nat} (h : Inr n p) (h0 : 0 < n) {m : Nat} (h1 : 1 ≤ m) (hm : m < n) (a : Dsc rk p m) (e : KK rk p m < KK rk p (m - 1)) {Q : Nat × Array Nat → Prop} (q : ∀ m' p', Inr n p' → 1 ≤ m' → m' ≤ n → Asc rk p' m' → Q (m', p')) : KOk n c (kas_descPart m n p) Q := by
  refine KOk.bind (ok_desc hc h0 _ _ _ _ h (by omega) (by omega) (by omega) (a.snoc h1 (by omega)) (fun k g1 g2 => by rw [show k = m + 1 - 1 by omega]) fun p' m' q' g1 g2 g3 g4 g5 g6 => ?_)
  dsimp only
  have hs := g1.size
  split
  · have kk := Dsc.rev (a := m' - (q' + 1)) (b := m') g5 (by omega) (Nat.le_refl _) g6
    exact ok_tail3 hc (g1.rev _ _) h0 (by omega) (by omega) (fun i j hij hj => by rw [kk, kk]; exact g5 i j hij hj) q
  · exact ok_tail3 hc g1 h0 (by omega) (by omega) g5 q
theorem ok_count {p : Array Nat} (h : Inr n p) (h0 : 1 ≤ n) {Q : Nat × Array Nat → Prop} (q : ∀ m' p', Inr n p' → 1 ≤ m' → m' ≤ n → Asc rk p' m' → Q (m', p')) : KOk n c (kas_count n p) Q := by
  have hs := h.size
  refine KOk.bind (ok_asc hc h h0 _ _ (Nat.le_refl 1) (fun i j hij hj => by rw [show i = j by omega]; omega) fun m g1 g2 g3 g4 => ?_)
  by_cases z : m = n
  · subst z
    simp only [beq_self_eq_true, if_true]
    exact q m p h g1 (Nat.le_refl _) g3
  · have z' : ¬ (m == n) = true := by simpa using z
    rw [if_neg z']
    have e := g4 (by omega)
    split
    · refine ask_ok hc h h0 0 (m - 1) ?_
      by_cases y : KK rk p 0 < KK rk p (m - 1)
      · rw [decide_eq_true y, if_pos rfl]
        exact q m p h g1 (by omega) g3
      · rw [decide_eq_false y, if_neg (by decide)]
        have al : ∀ k, k < m → KK rk p k = KK rk p (m - 1) := fun k hk => by
          have := g3 0 k (by omega) hk
          have := g3 k (m - 1) (by omega) (by omega)
          omega
        have kk : ∀ k, KK rk (kas_rev p 0 m) k = KK rk p k := fun k => by
          rw [KK_rev (by omega)]
          split
          · rw [al _ (by omega), al k (by omega)]
          · rfl
        exact ok_descPart hc (h.rev 0 m) h0 g1 (by omega) (fun i j hij hj => by rw [kk, kk, al i (by omega), al j hj]; omega) (by rw [kk, kk]; exact e) q
    · exact ok_descPart hc h h0 g1 (by omega) (fun i j hij hj => by rw [show i = j by omega]; omega) e q
theorem ok_place {p : Array Nat} (h : Inr n p) (h0 : 0 < n) {k : Nat} (a : Asc rk p k) {Q : Nat → Prop} (q : ∀ l, l ≤ k → (∀ i, i < l → KK rk p i ≤ KK rk p k) → (∀ i, l ≤ i → i < k → KK rk p k < KK rk p i) → Q l) :
    ∀ (f l r : Nat), l ≤ r → r ≤ k → r - l ≤ f → (∀ i, i < l → KK rk p i ≤ KK rk p k) → (∀ i, r ≤ i → i < k → KK rk p k < KK rk p i) → KOk n c (kas_place p k f l r) Q
  | 0, l, r, h1, h2, h3, g1, g2 => q l (by omega) g1 fun i w1 w2 => g2 i (by omega) w2
  | f + 1, l, r, h1, h2, h3, g1, g2 => by
    show KOk n c (if l ≥ r then .ret l else _) Q
    split
    · exact q l (by omega) g1 fun i w1 w2 => g2 i (by omega) w2
    · refine ask_ok hc h h0 k ((l + r) / 2) ?_
      by_cases z : KK rk p k < KK rk p ((l + r) / 2)
      · rw [decide_eq_true z, if_pos rfl]
        exact ok_place h h0 a q f l ((l + r) / 2) (by omega) (by omega) (by omega) g1 fun i w1 w2 => by have := a ((l + r) / 2) i (by omega) w2; omega
      · rw [decide_eq_false z, if_neg (by decide)]
        exact ok_place h h0 a q f ((l + r) / 2 + 1) r (by omega) (by omega) (by omega) (fun i w => by have := a i ((l + r) / 2) (by omega) (by omega); omega) g2
theorem ok_bin (h0 : 0 < n) {Q : Array Nat → Prop} (q : ∀ p, Inr n p → Asc rk p n → Q p) : ∀ (f : Nat) (p : Array Nat) (k : Nat), Inr n p → k + f = n → Asc rk p k → KOk n c (kas_bin f p k) Q
  | 0, p, k, h, e, a => q p h (by rw [← e]; exact a)
  | f + 1, p, k, h, e, a => by
    have hs := h.size
    refine KOk.bind (ok_place hc h h0 a (fun l g1 g2 g3 => ?_) k 0 k (by omega) (Nat.le_refl _) (by omega) (fun i w => absurd w (by omega)) fun i w1 w2 => absurd w1 (by omega))
    refine ok_bin h0 q f _ (k + 1) (h.bub _ _) (by omega) fun i j hij hj => ?_
    have bb : ∀ x, KK rk (bubble p k (k - l)) x = if x = l then KK rk p k else if l < x ∧ x ≤ k then KK rk p (x - 1) else KK rk p x := fun x => by
      have := getElem?_bubble (xs := p) (src := k) (by omega) (k - l) (by omega) x
      rw [show k - (k - l) = l by omega] at this
      split
      · rename_i w; rw [if_pos w] at this; exact KK_congr this
      · rename_i w
        rw [if_neg w] at this
        split
        · rename_i w2; rw [if_pos w2] at this; exact KK_congr this
        · rename_i w2; rw [if_neg w2] at this; exact KK_congr this
    rw [bb, bb]
    by_cases i1 : i = l
    · rw [if_pos i1]
      by_cases j1 : j = l
      · rw [if_pos j1]; omega
      · rw [if_neg j1, if_pos (by omega)]
        have := g3 (j - 1) (by omega) (by omega); omega
    · rw [if_neg i1]
      by_cases i2 : l < i ∧ i ≤ k
      · rw [if_pos i2, if_neg (by omega), if_pos (by omega)]
        exact a _ _ (by omega) (by omega)
      · rw [if_neg i2]
        by_cases j1 : j = l
        · rw [if_pos j1]; exact g2 i (by omega)
        · rw [if_neg j1]
          by_cases j2 : l < j ∧ j ≤ k
          · rw [if_pos j2]; exact a _ _ (by omega) (by omega)
          · rw [if_neg j2]; exact a _ _ hij (by omega)
theorem ok_sort (h2 : 1 ≤ n) {Q : Array Nat → Prop} (q : ∀ p, Inr n p → Asc rk p n → Q p) : KOk n c (kas_sort n) Q := by
  refine KOk.bind (ok_count hc (Array.Perm.refl _) h2 fun m' p' g1 g2 g3 g4 => ?_)
  dsimp only
  split
  · rename_i z
    rw [show max m' 1 = m' by omega]
    exact ok_bin hc h2 q _ _ _ g1 (by omega) g4
  · exact q p' g1 (by rw [show n = m' by omega]; exact g4)
end
noncomputable def rankOf (n : Nat) (c : Nat → Nat → Bool) (i : Nat) : Int := (((List.range n).filter fun j => c j i).length : Nat)
theorem filter_len_le {α : Type} {l : List α} {p q : α → Bool} (h : ∀ x ∈ l, p x = true → q x = true) : (l.filter p).length ≤ (l.filter q).length := by
  induction l with
  | nil => simp
  | cons a l ih =>
    have ih' := ih fun x hx => h x (.tail _ hx)
    have ha := h a (.head _)
    simp only [List.filter_cons]
    cases hp : p a with
    | true => rw [ha hp]; simpa using ih'
    | false =>
      cases hq : q a with
      | true => simp; omega
      | false => simpa using ih'
theorem filter_len_lt {α : Type} {l : List α} {p q : α → Bool} (h : ∀ x ∈ l, p x = true → q x = true) {y : α} (hy : y ∈ l) (h1 : p y = false) (h2 : q y = true) : (l.filter p).length < (l.filter q).length := by
  induction l with
  | nil => simp at hy
  | cons a l ih =>
    have ha := h a (.head _)
    have le := filter_len_le fun x hx => h x (.tail _ hx)
    simp only [List.filter_cons]
    rcases List.mem_cons.mp hy with rfl | hy
    · rw [h1, h2]
      simp only [Bool.false_eq_true, if_false, if_true, List.length_cons]
      omega
    · have ih' := ih (fun x hx => h x (.tail _ hx)) hy
      cases hp : p a with
      | true => rw [ha hp]; simpa using ih'
      | false =>
        cases hq : q a with
        | true => simp; omega
        | false => simpa using ih'
theorem rank_ok {n : Nat} {c : Nat → Nat → Bool} (irr : ∀ i, i < n → c i i = false) (tr : ∀ i j k, i < n → j < n → k < n → c i j = true → c j k = true → c i k = true)
    (nt : ∀ i j k, i < n → j < n → k < n → c i j = true → c k j = true ∨ c i k = true) (i j : Nat) (hi : i < n) (hj : j < n) : c i j = decide (rankOf n c i < rankOf n c j) := by
  cases h : c i j with
  | true =>
    symm
    rw [decide_eq_true_eq]
    have := filter_len_lt (l := List.range n) (p := fun k => c k i) (q := fun k => c k j) (fun k hk h1 => tr k i j (by simpa using hk) hi hj h1 h) (y := i) (by simpa using hi) (irr i hi) h
    unfold rankOf
    omega
  | false =>
    symm
    rw [decide_eq_false_iff_not]
    have := filter_len_le (l := List.range n) (p := fun k => c k j) (q := fun k => c k i) (fun k hk h1 => by
      rcases nt k j i (by simpa using hk) hj hi h1 with h2 | h2
      · rw [h] at h2; cases h2
      · exact h2)
    unfold rankOf
    omega
end P2
namespace P2
open PySem L2 PySem.Spec PySem.Calls PySem.W
open PyProof.Rows hiding St K
section
variable {prog : Program} {w : World} {A : Around} {E : Value → Shared → Prop} {s : Shared}
noncomputable abbrev runSt (κ : SortKind) (us : List Value) : SortSt := SortSt.mk' κ (us.toArray.zip us.toArray) #[] 7 none
noncomputable def Srt (prog : Program) (w : World) (G : Array Value → Prop) (us : List Value) (t : Shared) : Prop :=
  ∀ B : Around, wpAny (model prog w) B (keyKind' us.toArray) (fun κ t' => t' = t ∧ wpAny (model prog w) B ((sortRuns').run (runSt κ us)) (fun r t'' => t'' = t ∧ failedOf r.2 = none ∧ ((arrOf r.2).map (·.2)).size = us.length ∧ G ((arrOf r.2).map (·.2))) (fun _ _ => False) t) (fun _ _ => False) t
theorem srt_list {d : Addr} {us : List Value} {e : Nat} {G : Array Value → Prop} {Q : PySem.Fin → Shared → Prop} (hd : s.heap.get? d = some (seqObj "list" us.toArray e)) (hz : us.length ≤ sizeLine) (g0 : us.length < 2 → G us.toArray)
    (g1 : 2 ≤ us.length → ∀ t : Shared, (∀ b o, b ≠ d → s.heap.get? b = some o → t.heap.get? b = some o) → Srt prog w G us t)
    (k : ∀ out : Array Value, out.size = us.length → G out → Q (.done (.ret .none)) { s with heap := sortedHeap s.heap d us out }) : wpAny (model prog w) A (Builtin.«list.sort» ⟨[.ref d], []⟩) Q E s := by
  have hlt : d < s.heap.objs.size := Heap.lt_size hd
  rw [list_sort_plain]
  apply wpAny_bind
  apply listItems_at hd rfl
  apply wpAny_bind
  apply listUpdate_at hd rfl (hsz := by simpa using hz) (hsz2 := Nat.zero_le _)
  have hd1 := get?_update_seq hd (fun _ => (#[] : Array Value))
  apply wpAny_bind
  apply seqEpoch_at hd1 rfl
  apply wpAny_bind
  refine wpAny_newTuple ?_ (by simpa using hz)
  apply wpAny_bind
  refine wpAny_newList ?_ (Nat.zero_le _)
  refine wpAny_holding ?_
  generalize hh : ((s.heap.update d (Obj.mapSeq fun _ => (#[] : Array Value))).push (seqObj "tuple" us.toArray 0)).push (seqObj "list" #[] 0) = h6
  have eh : ∀ out : Array Value, h6.update d (Obj.mapSeq fun _ => out) = sortedHeap s.heap d us out := fun out => by rw [← hh]; rfl
  have ne1 : d ≠ (s.heap.update d (Obj.mapSeq fun _ => (#[] : Array Value))).objs.size := by rw [Heap.size_update]; exact Nat.ne_of_lt hlt
  have ne2 : ∀ o : Obj, d ≠ ((s.heap.update d (Obj.mapSeq fun _ => (#[] : Array Value))).push o).objs.size := fun o => by rw [size_push', Heap.size_update]; exact Nat.ne_of_lt (Nat.lt_succ_of_lt hlt)
  have hd6 : ∃ e1, h6.get? d = some (seqObj "list" #[] e1) ∧ ((s.heap.update d (Obj.mapSeq fun _ => (#[] : Array Value))).get? d = some (seqObj "list" #[] e1)) := by
    refine ⟨_, ?_, hd1⟩
    rw [← hh, Heap.get?_push_ne _ _ _ (ne2 _), Heap.get?_push_ne _ _ _ ne1]
    exact hd1
  obtain ⟨e1, hd6, hd1'⟩ := hd6
  have ee := hd1.symm.trans hd1'
  have old : ∀ b o, b ≠ d → s.heap.get? b = some o → h6.get? b = some o := fun b o hb q => by
    rw [← hh]
    refine Heap.get?_push_of_some _ (Heap.get?_push_of_some _ ?_)
    rw [Heap.get?_update_ne _ _ _ _ hb]; exact q
  show wpAny (model prog w) A _ Q E { s with heap := h6 }
  dsimp only
  have last : ∀ out : Array Value, out.size = us.length → G out → wpAny (model prog w) A (Builtin.List.listUpdate (.ref d) fun _ => out) (fun _ t => t = { s with heap := sortedHeap s.heap d us out }) E { s with heap := h6 } := fun out ho hg => by
    refine listUpdate_at (s := { s with heap := h6 }) hd6 rfl ?_ (hsz := Nat.zero_le _) (hsz2 := by rw [ho]; omega)
    show ({ s with heap := h6.update d (Obj.mapSeq fun _ => out) } : Shared) = _
    rw [eh out]
  by_cases h2 : us.toArray.size < 2
  · rw [if_pos h2, if_pos h2]
    apply wpAny_bind; apply wpAny_pure
    rw [StateT.run_pure]
    apply wpAny_bind; apply wpAny_pure
    dsimp only
    apply wpAny_bind
    apply seqEpoch_at (s := { s with heap := h6 }) hd6 rfl
    have e0 : (arrOf (SortSt.mk' general' (us.toArray.zip us.toArray) #[] 7 none)).map (·.2) = us.toArray := by
      show (us.toArray.zip us.toArray).map (·.2) = _
      apply Array.toList_inj.mp
      rw [Array.toList_map]
      simp only [Array.toList_zip]
      rw [← List.unzip_snd, List.unzip_zip rfl]
    rw [e0]
    refine wpAny_bind (wpAny_mono (last us.toArray (by simp) (g0 (by simpa using h2))) (fun _ t ht => ?_) fun _ _ x => x)
    subst ht
    have : e1 = (if (#[] : Array Value).size == us.toArray.size then e else e + 1) := by injection ee with w1; injection w1 with _ _ w2; injection w2 with _ w3; exact w3.symm
    rw [← this]
    simp only [bne_self_eq_false, Bool.false_eq_true, if_false]
    exact wpAny_pure (k _ (by simp) (g0 (by simpa using h2)))
  · rw [if_neg h2, if_neg h2]
    refine wpAny_bind (wpAny_mono (g1 (by simpa using h2) { s with heap := h6 } old A) (fun κ t hk => ?_) fun _ _ x => x.elim)
    obtain ⟨rfl, hk⟩ := hk
    refine wpAny_bind (wpAny_mono hk (fun r t hr => ?_) fun _ _ x => x.elim)
    obtain ⟨rfl, hf, hsz, hg⟩ := hr
    obtain ⟨⟨⟩, st⟩ := r
    dsimp only at hf hsz hg ⊢
    apply wpAny_bind
    apply seqEpoch_at (s := { s with heap := h6 }) hd6 rfl
    refine wpAny_bind (wpAny_mono (last _ hsz hg) (fun _ t ht => ?_) fun _ _ x => x)
    subst ht
    rw [hf]
    have : e1 = (if (#[] : Array Value).size == us.toArray.size then e else e + 1) := by injection ee with w1; injection w1 with _ _ w2; injection w2 with _ w3; exact w3.symm
    rw [← this]
    simp only [bne_self_eq_false, Bool.false_eq_true, if_false]
    exact wpAny_pure (k _ hsz hg)
theorem srt_call {l : Addr} {us : List Value} {G : Array Value → Prop} {Q : Value → Shared → Prop} (hl : s.heap.IsList l us.toArray) (hz : us.length ≤ sizeLine) (g0 : us.length < 2 → G us.toArray)
    (g1 : 2 ≤ us.length → ∀ t : Shared, (∀ b o, s.heap.get? b = some o → t.heap.get? b = some o) → Srt prog w G us t)
    (k : ∀ out : Array Value, out.size = us.length → G out → Q (.ref (s.heap.objs.size + 1)) { s with heap := sortedAll s.heap us out }) : wpAny (model prog w) A (call (.builtin "sorted") [.ref l]) Q E s := by
  refine call_function_entry kind_sorted plain_sorted entry_sorted (args_sorted1 _) ?_
  unfold Builtin.«sorted»
  refine wpAny_bind (m := checkCount "sorted" 1 1 _) (wpAny_pure ?_)
  apply wpAny_bind
  refine collect_list hl ?_ hz
  apply wpAny_bind
  refine wpAny_newList ?_ hz
  have n1 : ((s.heap.push (seqObj "list" #[] 0)).update s.heap.objs.size (Obj.mapSeq (· ++ us.toArray))).objs.size = s.heap.objs.size + 1 := by rw [Heap.size_update, size_push']
  generalize hg : (s.heap.push (seqObj "list" #[] 0)).update s.heap.objs.size (Obj.mapSeq (· ++ us.toArray)) = g at n1
  have here : (g.push (seqObj "list" us.toArray 0)).get? (s.heap.objs.size + 1) = some (seqObj "list" us.toArray 0) := by rw [← n1]; exact Heap.get?_push_size _ rfl
  have kp : ∀ b o, s.heap.get? b = some o → b ≠ s.heap.objs.size + 1 ∧ (g.push (seqObj "list" us.toArray 0)).get? b = some o := fun b o q => by
    have lt := Heap.lt_size q
    refine ⟨Nat.ne_of_lt (Nat.lt_succ_of_lt lt), Heap.get?_push_of_some _ ?_⟩
    rw [← hg, Heap.get?_update_ne _ _ _ _ (Nat.ne_of_lt lt)]
    exact Heap.get?_push_of_some _ q
  show wpAny _ _ _ _ _ { s with heap := g.push (seqObj "list" us.toArray 0) }
  rw [n1]
  refine wpAny_bind (wpAny_holding (wpAny_call_entry slot_list_sort ⟨_, here, rfl⟩ entry_list_sort (srt_list (s := { s with heap := g.push (seqObj "list" us.toArray 0) }) here hz g0 (fun h2 t ht => g1 h2 t fun b o q => ht b o (kp b o q).1 (kp b o q).2) fun out ho hG => ⟨_, rfl, ?_⟩) (args_list_sort _)))
  refine wpAny_pure ⟨_, rfl, ?_⟩
  have e : sortedHeap (g.push (seqObj "list" us.toArray 0)) (s.heap.objs.size + 1) us out = sortedAll s.heap us out := by rw [← hg]; rfl
  show Q _ ({ s with heap := sortedHeap (g.push (seqObj "list" us.toArray 0)) (s.heap.objs.size + 1) us out } : Shared)
  rw [e]
  exact k out ho hG
end
end P2
namespace P2
open PySem L2 PySem.Spec PySem.Calls PySem.W
open PyProof.Rows hiding St K
noncomputable def lexL : List D → List D → Bool
  | .int i :: xs, .int j :: ys => if i = j then lexL xs ys else decide (i < j)
  | .str i :: xs, .str j :: ys => if i = j then lexL xs ys else decide (i.cps.toList < j.cps.toList)
  | [], _ :: _ => true
  | _, _ => false
noncomputable def ltQ : D → D → Bool
  | .int i, .int j => decide (i < j)
  | .str i, .str j => decide (i.cps.toList < j.cps.toList)
  | .tup a, .tup b => lexL a b
  | _, _ => false
noncomputable def sgL : List D → Option (List Nat)
  | [] => some []
  | .int _ :: r => (sgL r).map (0 :: ·)
  | .str _ :: r => (sgL r).map (1 :: ·)
  | _ => none
noncomputable def sgQ : D → Option (List Nat)
  | .int _ => some [0]
  | .str _ => some [1]
  | .tup (a :: r) => (sgL (a :: r)).map (2 :: ·)
  | _ => none
noncomputable def homQ : List D → Bool
  | [] => true
  | d :: r => (sgQ d).isSome && r.all fun e => sgQ e == sgQ d
theorem homQ_all {ds : List D} (h : homQ ds = true) : ∃ s, ∀ d ∈ ds, sgQ d = some s := by
  cases ds with
  | nil => exact ⟨[], fun d hd => by simp at hd⟩
  | cons d r =>
    unfold homQ at h
    simp only [Bool.and_eq_true, List.all_eq_true, beq_iff_eq] at h
    obtain ⟨s, hs⟩ := Option.isSome_iff_exists.mp h.1
    refine ⟨s, fun e he => ?_⟩
    rcases List.mem_cons.mp he with rfl | he
    · exact hs
    · rw [h.2 e he, hs]
theorem str_ext {x y : Str} (h : x.cps.toList = y.cps.toList) : x = y := by
  cases x; cases y
  simp only at h
  congr 1
  exact Array.toList_inj.mp h
theorem slt_tri {x y : Str} (h1 : ¬ x.cps.toList < y.cps.toList) (h2 : ¬ y.cps.toList < x.cps.toList) : x = y :=
  str_ext (List.le_antisymm (List.not_lt.mp h2) (List.not_lt.mp h1))
theorem sgL_int {i : Int} {r : List D} {s : List Nat} (h : sgL (.int i :: r) = some s) : ∃ t, s = 0 :: t ∧ sgL r = some t := by
  obtain ⟨t, h1, h2⟩ := Option.map_eq_some_iff.mp (show (sgL r).map (0 :: ·) = some s from h)
  exact ⟨t, h2.symm, h1⟩
theorem sgL_str {i : Str} {r : List D} {s : List Nat} (h : sgL (.str i :: r) = some s) : ∃ t, s = 1 :: t ∧ sgL r = some t := by
  obtain ⟨t, h1, h2⟩ := Option.map_eq_some_iff.mp (show (sgL r).map (1 :: ·) = some s from h)
  exact ⟨t, h2.symm, h1⟩
inductive Two : List D → List D → Prop
  | nil : Two [] []
  | int (i j : Int) {xs ys : List D} : Two xs ys → Two (.int i :: xs) (.int j :: ys)
  | str (i j : Str) {xs ys : List D} : Two xs ys → Two (.str i :: xs) (.str j :: ys)
theorem two_of : ∀ {a b : List D} {s : List Nat}, sgL a = some s → sgL b = some s → Two a b
  | [], b, s, h1, h2 => by
    cases h1
    cases b with
    | nil => exact .nil
    | cons d r =>
      cases d with
      | int i => obtain ⟨t, e, _⟩ := sgL_int h2; cases e
      | str i => obtain ⟨t, e, _⟩ := sgL_str h2; cases e
      | _ => cases h2
  | .int i :: xs, b, s, h1, h2 => by
    obtain ⟨t, rfl, e1⟩ := sgL_int h1
    cases b with
    | nil => cases h2
    | cons d r =>
      cases d with
      | int j => obtain ⟨t', e, e2⟩ := sgL_int h2; cases e; exact .int i j (two_of e1 e2)
      | str j => obtain ⟨t', e, _⟩ := sgL_str h2; cases e
      | _ => cases h2
  | .str i :: xs, b, s, h1, h2 => by
    obtain ⟨t, rfl, e1⟩ := sgL_str h1
    cases b with
    | nil => cases h2
    | cons d r =>
      cases d with
      | str j => obtain ⟨t', e, e2⟩ := sgL_str h2; cases e; exact .str i j (two_of e1 e2)
      | int j => obtain ⟨t', e, _⟩ := sgL_int h2; cases e
      | _ => cases h2
  | .non :: _, _, _, h1, _ => by cases h1
  | .bl _ :: _, _, _, h1, _ => by cases h1
  | .ty _ :: _, _, _, h1, _ => by cases h1
  | .ref _ :: _, _, _, h1, _ => by cases h1
  | .tup _ :: _, _, _, h1, _ => by cases h1
  | .lst _ :: _, _, _, h1, _ => by cases h1
  | .exc _ _ _ :: _, _, _, h1, _ => by cases h1
theorem lexL_int (i j : Int) (xs ys : List D) : lexL (.int i :: xs) (.int j :: ys) = if i = j then lexL xs ys else decide (i < j) := rfl
theorem lexL_str (i j : Str) (xs ys : List D) : lexL (.str i :: xs) (.str j :: ys) = if i = j then lexL xs ys else decide (i.cps.toList < j.cps.toList) := rfl
theorem lex_irr {a b : List D} (h : Two a b) : lexL a a = false := by
  induction h with
  | nil => rfl
  | int i j h ih => rw [lexL_int, if_pos rfl]; exact ih
  | str i j h ih => rw [lexL_str, if_pos rfl]; exact ih
theorem lex_tri {a b : List D} (h : Two a b) (h1 : lexL a b = false) (h2 : lexL b a = false) : a = b := by
  induction h with
  | nil => rfl
  | int i j h ih =>
    rw [lexL_int] at h1 h2
    by_cases e : i = j
    · subst e
      rw [if_pos rfl] at h1 h2
      rw [ih h1 h2]
    · rw [if_neg e] at h1
      rw [if_neg (Ne.symm e)] at h2
      simp only [decide_eq_false_iff_not] at h1 h2
      omega
  | str i j h ih =>
    rw [lexL_str] at h1 h2
    by_cases e : i = j
    · subst e
      rw [if_pos rfl] at h1 h2
      rw [ih h1 h2]
    · rw [if_neg e] at h1
      rw [if_neg (Ne.symm e)] at h2
      simp only [decide_eq_false_iff_not] at h1 h2
      exact absurd (slt_tri h1 h2) e
theorem lex_tr : ∀ {a b c : List D}, Two a b → Two b c → lexL a b = true → lexL b c = true → lexL a c = true
  | [], _, _, .nil, _, h, _ => by cases h
  | .int i :: xs, .int j :: ys, .int k :: zs, .int _ _ p, .int _ _ q, h1, h2 => by
    rw [lexL_int] at h1 h2 ⊢
    by_cases e : i = j
    · subst e
      rw [if_pos rfl] at h1
      by_cases f : i = k
      · subst f
        rw [if_pos rfl] at h2 ⊢
        exact lex_tr p q h1 h2
      · rw [if_neg f] at h2 ⊢
        exact h2
    · rw [if_neg e] at h1
      by_cases f : j = k
      · subst f
        rw [if_neg e]
        exact h1
      · rw [if_neg f] at h2
        simp only [decide_eq_true_eq] at h1 h2
        rw [if_neg (by omega)]
        simp only [decide_eq_true_eq]
        omega
  | .str i :: xs, .str j :: ys, .str k :: zs, .str _ _ p, .str _ _ q, h1, h2 => by
    rw [lexL_str] at h1 h2 ⊢
    by_cases e : i = j
    · subst e
      rw [if_pos rfl] at h1
      by_cases f : i = k
      · subst f
        rw [if_pos rfl] at h2 ⊢
        exact lex_tr p q h1 h2
      · rw [if_neg f] at h2 ⊢
        exact h2
    · rw [if_neg e] at h1
      by_cases f : j = k
      · subst f
        rw [if_neg e]
        exact h1
      · rw [if_neg f] at h2
        simp only [decide_eq_true_eq] at h1 h2
        have t := List.lt_trans h1 h2
        rw [if_neg (fun w => by subst w; exact List.lt_irrefl _ t)]
        simp only [decide_eq_true_eq]
        exact t
inductive TwoQ : D → D → Prop
  | int (i j : Int) : TwoQ (.int i) (.int j)
  | str (i j : Str) : TwoQ (.str i) (.str j)
  | tup {a b : List D} {d e : D} : Two (d :: a) (e :: b) → TwoQ (.tup (d :: a)) (.tup (e :: b))
theorem sgQ_form {x : D} {s : List Nat} (h : sgQ x = some s) : (∃ i, x = .int i ∧ s = [0]) ∨ (∃ i, x = .str i ∧ s = [1]) ∨ ∃ d r t, x = .tup (d :: r) ∧ s = 2 :: t ∧ sgL (d :: r) = some t := by
  unfold sgQ at h
  split at h
  · cases h; exact .inl ⟨_, rfl, rfl⟩
  · cases h; exact .inr (.inl ⟨_, rfl, rfl⟩)
  · rename_i a r
    obtain ⟨t, h1, h2⟩ := Option.map_eq_some_iff.mp h
    exact .inr (.inr ⟨a, r, t, rfl, h2.symm, h1⟩)
  · cases h
theorem twoQ_of {x y : D} {s : List Nat} (h1 : sgQ x = some s) (h2 : sgQ y = some s) : TwoQ x y := by
  rcases sgQ_form h1 with ⟨i, rfl, rfl⟩ | ⟨i, rfl, rfl⟩ | ⟨d, r, t, rfl, rfl, e1⟩
  · rcases sgQ_form h2 with ⟨j, rfl, _⟩ | ⟨j, rfl, e⟩ | ⟨d', r', t', rfl, e, e2⟩
    · exact .int i j
    · cases e
    · cases e
  · rcases sgQ_form h2 with ⟨j, rfl, e⟩ | ⟨j, rfl, e⟩ | ⟨d', r', t', rfl, e, e2⟩
    · cases e
    · exact .str i j
    · cases e
  · rcases sgQ_form h2 with ⟨j, rfl, e⟩ | ⟨j, rfl, e⟩ | ⟨d', r', t', rfl, e, e2⟩
    · cases e
    · cases e
    · cases e; exact .tup (two_of e1 e2)
theorem ltQ_irr {x : D} {s : List Nat} (h : sgQ x = some s) : ltQ x x = false := by
  cases twoQ_of h h with
  | int i j => exact decide_eq_false (by omega)
  | str i j => exact decide_eq_false (List.lt_irrefl _)
  | tup q => exact lex_irr q
theorem ltQ_tri {x y : D} {s : List Nat} (hx : sgQ x = some s) (hy : sgQ y = some s) (h1 : ltQ x y = false) (h2 : ltQ y x = false) : x = y := by
  cases twoQ_of hx hy with
  | int i j =>
    have a := of_decide_eq_false h1
    have b := of_decide_eq_false h2
    rw [show i = j by omega]
  | str i j => rw [slt_tri (of_decide_eq_false h1) (of_decide_eq_false h2)]
  | tup q => rw [lex_tri q h1 h2]
theorem ltQ_tr {x y z : D} {s : List Nat} (hx : sgQ x = some s) (hy : sgQ y = some s) (hz : sgQ z = some s) (h1 : ltQ x y = true) (h2 : ltQ y z = true) : ltQ x z = true := by
  cases twoQ_of hx hy with
  | int i j =>
    cases twoQ_of hy hz with
    | int _ k => have a := of_decide_eq_true h1; have b := of_decide_eq_true h2; exact decide_eq_true (by omega)
  | str i j =>
    cases twoQ_of hy hz with
    | str _ k => exact decide_eq_true (List.lt_trans (of_decide_eq_true h1) (of_decide_eq_true h2))
  | tup q =>
    cases twoQ_of hy hz with
    | tup q' => exact lex_tr q q' h1 h2
noncomputable def insQ (x : D) : List D → List D
  | [] => [x]
  | y :: r => if ltQ y x = true then y :: insQ x r else x :: y :: r
noncomputable def sortQL (ds : List D) : List D := ds.foldr insQ []
noncomputable def Rising (ds : List D) : Prop := ds.Pairwise fun a b => ltQ b a = false
theorem insQ_perm (x : D) : ∀ r : List D, (insQ x r).Perm (x :: r)
  | [] => .refl _
  | y :: r => by
    unfold insQ
    split
    · exact ((insQ_perm x r).cons y).trans (.swap x y r)
    · exact .refl _
theorem sortQL_perm : ∀ ds : List D, (sortQL ds).Perm ds
  | [] => .refl _
  | d :: r => (insQ_perm d (sortQL r)).trans ((sortQL_perm r).cons d)
theorem insQ_rising {s : List Nat} {x : D} (hx : sgQ x = some s) : ∀ {r : List D}, (∀ d ∈ r, sgQ d = some s) → Rising r → Rising (insQ x r)
  | [], _, _ => List.pairwise_singleton ..
  | y :: r, hs, h => by
    have hy := hs y (.head _)
    obtain ⟨h1, h2⟩ := List.pairwise_cons.mp h
    unfold insQ
    split
    · rename_i lt
      refine List.pairwise_cons.mpr ⟨fun z hz => ?_, insQ_rising hx (fun d hd => hs d (.tail _ hd)) h2⟩
      rcases List.mem_cons.mp ((insQ_perm x r).mem_iff.mp hz) with rfl | hz
      · cases q : ltQ z y with
        | false => rfl
        | true => have := ltQ_tr hy hx hy lt q; rw [ltQ_irr hy] at this; cases this
      · exact h1 z hz
    · rename_i lt
      have lt' : ltQ y x = false := by simpa using lt
      refine List.pairwise_cons.mpr ⟨fun z hz => ?_, h⟩
      rcases List.mem_cons.mp hz with rfl | hz
      · exact lt'
      · cases q : ltQ z x with
        | false => rfl
        | true =>
          have hz' := hs z (.tail _ hz)
          cases q2 : ltQ x y with
          | true => have := ltQ_tr hz' hx hy q q2; rw [h1 z hz] at this; cases this
          | false => rw [ltQ_tri hx hy q2 lt'] at q; rw [h1 z hz] at q; cases q
theorem sortQL_rising {s : List Nat} : ∀ {ds : List D}, (∀ d ∈ ds, sgQ d = some s) → Rising (sortQL ds)
  | [], _ => .nil
  | d :: r, h => insQ_rising (h d (.head _)) (fun e he => h e (.tail _ ((sortQL_perm r).mem_iff.mp he))) (sortQL_rising fun e he => h e (.tail _ he))
theorem rising_uniq {s : List Nat} {a b : List D} (h : a.Perm b) (hs : ∀ d ∈ a, sgQ d = some s) (ha : Rising a) (hb : Rising b) : a = b :=
  List.Perm.eq_of_pairwise (fun x y hx hy h1 h2 => ltQ_tri (hs x hx) (hs y (h.symm.mem_iff.mp hy)) h2 h1) ha hb h
noncomputable def sortQ : D → R (List D)
  | .lst ds => if homQ ds = true ∧ ds.length < 64 then .ok (sortQL ds) else .bad
  | _ => .bad
end P2
namespace P2
open PySem L2 PySem.Spec PySem.Calls PySem.W
open PyProof.Rows hiding St K
noncomputable def FlV : D → Value → Prop
  | .int i, .int j _ => i = j
  | .str x, .str y _ => x = y
  | _, _ => False
inductive Fl2 : List D → List Value → Prop
  | nil : Fl2 [] []
  | cons {d : D} {v : Value} {ds : List D} {vs : List Value} : FlV d v → Fl2 ds vs → Fl2 (d :: ds) (v :: vs)
noncomputable def TupAt (h : Heap) (u : Value) (ds : List D) : Prop := ∃ a o xs n, u = .ref a ∧ h.get? a = some o ∧ o.cls = .type "tuple" ∧ o.data = .seq xs n ∧ Fl2 ds xs.toList
theorem TupAt.keep {h h' : Heap} {u : Value} {ds : List D} (t : TupAt h u ds) (k : ∀ b o, h.get? b = some o → h'.get? b = some o) : TupAt h' u ds :=
  let ⟨a, o, xs, n, h1, h2, r⟩ := t; ⟨a, o, xs, n, h1, k a o h2, r⟩
noncomputable def ItemAt (h : Heap) (u : Value) : D → Prop
  | .int i => FlV (.int i) u
  | .str x => FlV (.str x) u
  | .tup ds => TupAt h u ds
  | _ => False
theorem ItemAt.keep {h h' : Heap} {u : Value} {d : D} (t : ItemAt h u d) (k : ∀ b o, h.get? b = some o → h'.get? b = some o) : ItemAt h' u d := by
  cases d with
  | tup ds => exact TupAt.keep t k
  | _ => exact t
theorem flat_int {i : Int} {v : Value} (h : FlV (.int i) v) : ∃ t, v = .int i t := by
  cases v with
  | int j t => cases h; exact ⟨t, rfl⟩
  | _ => exact h.elim
theorem flat_str {i : Str} {v : Value} (h : FlV (.str i) v) : ∃ t, v = .str i t := by
  cases v with
  | str j t => cases h; exact ⟨t, rfl⟩
  | _ => exact h.elim
section
variable {prog : Program} {w : World} {A : Around} {E : Value → Shared → Prop} {s : Shared}
theorem one_int {b : Bool} {i j : Int} {t u : Tok} {Q : Bool → Shared → Prop} (h : Q (decide (i < j)) s) : wpAny (model prog w) A (oneLt' b (.int i t) (.int j u)) Q E s := by
  cases b with
  | true => exact oneLt_int h
  | false => exact kat_one _ _ (lt_int h)
theorem one_str {b : Bool} {i j : Str} {t u : Tok} {Q : Bool → Shared → Prop} (h : Q (decide (i.cps.toList < j.cps.toList)) s) : wpAny (model prog w) A (oneLt' b (.str i t) (.str j u)) Q E s := by
  cases b with
  | true => exact oneLt_str h
  | false => exact kat_one _ _ (PyProof.Rows.lt_str h)
theorem lex_go {fl fin : Bool} {Q : Bool → Shared → Prop} : ∀ {xs ys : List D}, Two xs ys → ∀ {us vs : List Value} (i : Nat), Fl2 xs us → Fl2 ys vs → (xs = ys → Q fin s) → (xs ≠ ys → Q (lexL xs ys) s) → KatLex prog w A fl fin Q (us.zip vs) i s
  | _, _, .nil, _, _, i, .nil, .nil, h, _ => h rfl
  | .int x :: xs, .int y :: ys, .int _ _ q, _, _, i, .cons (vs := us) fu ru, .cons (vs := vs) fv rv, h1, h2 => by
    obtain ⟨t, rfl⟩ := flat_int fu
    obtain ⟨t', rfl⟩ := flat_int fv
    rw [List.zip_cons_cons]
    refine kat_cons (wpAny_eqBool_int ?_)
    by_cases e : x = y
    · subst e
      rw [show (x == x) = true by simp]
      refine kat_yes (lex_go q (i + 1) ru rv (fun w => h1 (by rw [w])) fun w => ?_)
      have := h2 (fun z => w (by injection z))
      rwa [lexL_int, if_pos rfl] at this
    · rw [show (x == y) = false by simpa using e]
      refine kat_no (one_int ?_)
      have := h2 (fun z => e (by injection z with z1; injection z1))
      rwa [lexL_int, if_neg e] at this
  | .str x :: xs, .str y :: ys, .str _ _ q, _, _, i, .cons (vs := us) fu ru, .cons (vs := vs) fv rv, h1, h2 => by
    obtain ⟨t, rfl⟩ := flat_str fu
    obtain ⟨t', rfl⟩ := flat_str fv
    rw [List.zip_cons_cons]
    refine kat_cons (wpAny_eqBool_str ?_)
    by_cases e : x = y
    · subst e
      rw [show decide (x = x) = true by simp]
      refine kat_yes (lex_go q (i + 1) ru rv (fun w => h1 (by rw [w])) fun w => ?_)
      have := h2 (fun z => w (by injection z))
      rwa [lexL_str, if_pos rfl] at this
    · rw [show decide (x = y) = false by simpa using e]
      refine kat_no (one_str ?_)
      have := h2 (fun z => e (by injection z with z1; injection z1))
      rwa [lexL_str, if_neg e] at this
theorem Two.len {xs ys : List D} (q : Two xs ys) : xs.length = ys.length := by
  induction q with
  | nil => rfl
  | int i j h ih => rw [List.length_cons, List.length_cons, ih]
  | str i j h ih => rw [List.length_cons, List.length_cons, ih]
theorem all2_len {xs : List D} {us : List Value} (h : Fl2 xs us) : xs.length = us.length := by
  induction h with
  | nil => rfl
  | cons _ _ ih => rw [List.length_cons, List.length_cons, ih]
theorem tup_lt {fl : Bool} {u v : Value} {xs ys : List D} {Q : Bool → Shared → Prop} (q : Two xs ys) (hu : TupAt s.heap u xs) (hv : TupAt s.heap v ys) (h : Q (lexL xs ys) s) : wpAny (model prog w) A (keyLt' (tuples' fl) u v) Q E s := by
  obtain ⟨a, o, us, n, rfl, h1, h2, h3, h4⟩ := hu
  obtain ⟨b, p, vs, m, rfl, g1, g2, g3, g4⟩ := hv
  refine kat_lt h1 h3 g1 g3 (lex_go q 0 h4 g4 (fun e => ?_) fun _ => h)
  have l1 := all2_len h4
  have l2 := all2_len g4
  have l3 := q.len
  simp only [Array.length_toList] at l1 l2
  subst e
  rw [lex_irr q] at h
  rw [show decide (us.size < vs.size) = false from decide_eq_false (by omega)]
  exact h
end
section
variable {prog : Program} {w : World} {A : Around} {E : Value → Shared → Prop} {s : Shared}
inductive Items (h : Heap) : List Value → List D → Prop
  | nil : Items h [] []
  | cons {u : Value} {d : D} {us : List Value} {ds : List D} : ItemAt h u d → Items h us ds → Items h (u :: us) (d :: ds)
theorem Items.keep {h h' : Heap} {us : List Value} {ds : List D} (t : Items h us ds) (k : ∀ b o, h.get? b = some o → h'.get? b = some o) : Items h' us ds := by
  induction t with
  | nil => exact .nil
  | cons a _ ih => exact .cons (a.keep k) ih
theorem Items.len {h : Heap} {us : List Value} {ds : List D} (t : Items h us ds) : us.length = ds.length := by
  induction t with
  | nil => rfl
  | cons a _ ih => rw [List.length_cons, List.length_cons, ih]
theorem Items.get {h : Heap} {us : List Value} {ds : List D} (t : Items h us ds) : ∀ {i : Nat}, i < ds.length → ItemAt h (us.getD i .none) (ds.getD i .non) := by
  induction t with
  | nil => intro i hi; simp at hi
  | cons a _ ih =>
    intro i hi
    cases i with
    | zero => simpa using a
    | succ i => simpa using ih (by simpa using hi)
theorem ints_of {h : Heap} : ∀ {us : List Value} {ds : List D}, Items h us ds → (∀ d ∈ ds, sgQ d = some [0]) → ∃ ns, IntsAre us ns
  | _, _, .nil, _ => ⟨[], .nil⟩
  | _, _, .cons (d := d) a r, hs => by
    rcases sgQ_form (hs d (.head _)) with ⟨i, rfl, _⟩ | ⟨i, rfl, e⟩ | ⟨_, _, _, rfl, e, _⟩
    · obtain ⟨t, rfl⟩ := flat_int a
      obtain ⟨ns, hn⟩ := ints_of r fun d hd => hs d (.tail _ hd)
      exact ⟨i :: ns, .cons i t hn⟩
    · cases e
    · cases e
theorem strs_of {h : Heap} : ∀ {us : List Value} {ds : List D}, Items h us ds → (∀ d ∈ ds, sgQ d = some [1]) → ∃ ns, StrsAre us ns
  | _, _, .nil, _ => ⟨[], .nil⟩
  | _, _, .cons (d := d) a r, hs => by
    rcases sgQ_form (hs d (.head _)) with ⟨i, rfl, e⟩ | ⟨i, rfl, _⟩ | ⟨_, _, _, rfl, e, _⟩
    · cases e
    · obtain ⟨t, rfl⟩ := flat_str a
      obtain ⟨ns, hn⟩ := strs_of r fun d hd => hs d (.tail _ hd)
      exact ⟨i :: ns, .cons i t hn⟩
    · cases e
theorem tups_of {h : Heap} {k : Nat} {t : List Nat} : ∀ {us : List Value} {ds : List D}, Items h us ds → (∀ d ∈ ds, sgQ d = some (2 :: k :: t)) → ∃ fs, KatTups h us fs ∧ fs.length = us.length ∧ ∀ v ∈ fs, (k = 0 ∧ ∃ i u, v = .int i u) ∨ (k = 1 ∧ ∃ i u, v = .str i u)
  | _, _, .nil, _ => ⟨[], .nil, rfl, fun v hv => by simp at hv⟩
  | _, _, .cons (d := d) a r, hs => by
    obtain ⟨fs, f1, f2, f3⟩ := tups_of r fun d hd => hs d (.tail _ hd)
    rcases sgQ_form (hs d (.head _)) with ⟨i, rfl, e⟩ | ⟨i, rfl, e⟩ | ⟨d0, r0, t0, rfl, e, e2⟩
    · cases e
    · cases e
    · cases e
      obtain ⟨b, o, xs, n, rfl, h1, h2, h3, h4⟩ := a
      cases hx : xs.toList with
      | nil => rw [hx] at h4; cases h4
      | cons f xr =>
        rw [hx] at h4
        cases h4 with
        | cons hf hr =>
          have h0 : xs[0]? = some f := by rw [← Array.getElem?_toList, hx]; rfl
          refine ⟨f :: fs, .cons h1 h2 h3 h0 f1, by simp [f2], fun v hv => ?_⟩
          rcases List.mem_cons.mp hv with rfl | hv
          · cases d0 with
            | int i =>
              obtain ⟨z, e1, _⟩ := sgL_int e2
              cases e1
              obtain ⟨u, rfl⟩ := flat_int hf
              exact .inl ⟨rfl, i, u, rfl⟩
            | str i =>
              obtain ⟨z, e1, _⟩ := sgL_str e2
              cases e1
              obtain ⟨u, rfl⟩ := flat_str hf
              exact .inr ⟨rfl, i, u, rfl⟩
            | _ => cases e2
          · exact f3 v hv
theorem kind_of {us : List Value} {ds : List D} {sg : List Nat} (t : Items s.heap us ds) (h2 : 2 ≤ us.length) (hs : ∀ d ∈ ds, sgQ d = some sg) :
    ∃ κ : SortKind, (∀ Q : SortKind → Shared → Prop, Q κ s → wpAny (model prog w) A (keyKind' us.toArray) Q E s) ∧
      ∀ i j, i < ds.length → j < ds.length → ∀ C : Bool → Shared → Prop, C (ltQ (ds.getD i .non) (ds.getD j .non)) s → wpAny (model prog w) A (keyLt' κ (us.getD i .none) (us.getD j .none)) C E s := by
  have hl := t.len
  have gd : ∀ i, i < ds.length → sgQ (ds.getD i .non) = some sg := fun i hi => by
    rw [List.getD_eq_getElem?_getD, List.getElem?_eq_getElem hi, Option.getD_some]
    exact hs _ (List.getElem_mem hi)
  have d0 := gd 0 (by omega)
  obtain ⟨v1, v2, vr, rfl⟩ : ∃ v1 v2 vr, us = v1 :: v2 :: vr := by
    match us, h2 with
    | v1 :: v2 :: vr, _ => exact ⟨v1, v2, vr, rfl⟩
  rcases sgQ_form d0 with ⟨i0, e0, rfl⟩ | ⟨i0, e0, rfl⟩ | ⟨x0, r0, t0, e0, rfl, e2⟩
  · obtain ⟨ns, hn⟩ := ints_of t hs
    refine ⟨oneType', fun Q q => by rw [keyKind_ints hn]; exact wpAny_pure q, fun i j hi hj C c => ?_⟩
    have a := t.get hi
    have b := t.get hj
    have gi := gd i hi
    have gj := gd j hj
    generalize ds.getD i .non = x at a c gi
    generalize ds.getD j .non = y at b c gj
    cases twoQ_of gi gj with
    | int x y =>
      obtain ⟨t1, e1⟩ := flat_int a
      obtain ⟨t2, e2⟩ := flat_int b
      rw [e1, e2, keyLt'_oneType]
      exact oneLt_int c
    | str x y => cases gi
    | tup q => rcases sgQ_form gi with ⟨_, e, _⟩ | ⟨_, e, _⟩ | ⟨_, _, _, _, e, _⟩ <;> cases e
  · obtain ⟨ns, hn⟩ := strs_of t hs
    refine ⟨oneType', fun Q q => by rw [keyKind_strs hn]; exact wpAny_pure q, fun i j hi hj C c => ?_⟩
    have a := t.get hi
    have b := t.get hj
    have gi := gd i hi
    have gj := gd j hj
    generalize ds.getD i .non = x at a c gi
    generalize ds.getD j .non = y at b c gj
    cases twoQ_of gi gj with
    | int x y => cases gi
    | str x y =>
      obtain ⟨t1, e1⟩ := flat_str a
      obtain ⟨t2, e2⟩ := flat_str b
      rw [e1, e2, keyLt'_oneType]
      exact oneLt_str c
    | tup q => rcases sgQ_form gi with ⟨_, e, _⟩ | ⟨_, e, _⟩ | ⟨_, _, _, _, e, _⟩ <;> cases e
  · obtain ⟨k, t1, ht0⟩ : ∃ k t1, t0 = k :: t1 := by
      cases x0 with
      | int i => obtain ⟨z, e1, _⟩ := sgL_int e2; exact ⟨_, _, e1⟩
      | str i => obtain ⟨z, e1, _⟩ := sgL_str e2; exact ⟨_, _, e1⟩
      | _ => cases e2
    subst ht0
    obtain ⟨fs, f1, f2, f3⟩ := tups_of t hs
    refine ⟨tuples' true, fun Q q => ?_, fun i j hi hj C c => ?_⟩
    · have hk : k = 0 ∨ k = 1 := by
        cases fs with
        | nil => simp at f2
        | cons f fr => rcases f3 f (.head _) with ⟨e, _⟩ | ⟨e, _⟩ <;> omega
      rcases hk with rfl | rfl
      · refine kat_kind (T := .type "int") f1 (by rw [f2]; omega) (fun v hv => ?_) (by rfl) q
        rcases f3 v hv with ⟨_, i, u, rfl⟩ | ⟨e, _⟩
        · exact .now
        · cases e
      · refine kat_kind (T := .type "str") f1 (by rw [f2]; omega) (fun v hv => ?_) (by rfl) q
        rcases f3 v hv with ⟨e, _⟩ | ⟨_, i, u, rfl⟩
        · cases e
        · exact .now
    · have a := t.get hi
      have b := t.get hj
      have gi := gd i hi
      have gj := gd j hj
      generalize ds.getD i .non = x at a c gi
      generalize ds.getD j .non = y at b c gj
      cases twoQ_of gi gj with
      | int x y => cases gi
      | str x y => cases gi
      | tup q => exact tup_lt q a b c
noncomputable def outs (us : List Value) (p : Array Nat) : List Value := p.toList.map fun i => us.getD i .none
noncomputable def outD (ds : List D) (p : Array Nat) : List D := p.toList.map fun i => ds.getD i .non
theorem getD_map_range {α : Type} (l : List α) (x : α) : (List.range l.length).map (fun i => l.getD i x) = l := by
  apply List.ext_getElem
  · simp
  · intro i h1 h2
    simp [List.getElem_map, h2]
theorem outD_perm {ds : List D} {p : Array Nat} (h : Inr ds.length p) : (outD ds p).Perm ds := by
  have := (Array.perm_iff_toList_perm.mp h).map fun i => ds.getD i .non
  rw [show (List.range ds.length).toArray.toList = List.range ds.length from rfl, getD_map_range] at this
  exact this
theorem outD_rising {ds : List D} {sg : List Nat} (hs : ∀ d ∈ ds, sgQ d = some sg) {p : Array Nat} (h : Inr ds.length p) (h0 : 0 < ds.length)
    (a : Asc (rankOf ds.length fun i j => ltQ (ds.getD i .non) (ds.getD j .non)) p ds.length) (hc : ∀ i j, i < ds.length → j < ds.length → ltQ (ds.getD i .non) (ds.getD j .non) = decide (rankOf ds.length (fun i j => ltQ (ds.getD i .non) (ds.getD j .non)) i < rankOf ds.length (fun i j => ltQ (ds.getD i .non) (ds.getD j .non)) j)) : Rising (outD ds p) := by
  have sz := h.size
  refine List.pairwise_iff_getElem.mpr fun i j hi hj hij => ?_
  unfold outD at hi hj ⊢
  rw [List.length_map, Array.length_toList] at hi hj
  rw [List.getElem_map, List.getElem_map, Array.getElem_toList, Array.getElem_toList]
  have k1 : p.getD i 0 = p[i] := by simp [Array.getD, hi]
  have k2 : p.getD j 0 = p[j] := by simp [Array.getD, hj]
  have l1 := h.lt h0 i
  have l2 := h.lt h0 j
  have le := a i j (by omega) (by omega)
  rw [← getD_KK, ← getD_KK] at le
  rw [k1] at l1 le
  rw [k2] at l2 le
  rw [hc _ _ l2 l1]
  exact decide_eq_false (by omega)
theorem Items.outs {h : Heap} {us : List Value} {ds : List D} (t : Items h us ds) {p : Array Nat} (hp : Inr ds.length p) (h0 : 0 < ds.length) : Items h (P2.outs us p) (outD ds p) := by
  have : ∀ l : List Nat, (∀ i ∈ l, i < ds.length) → Items h (l.map fun i => us.getD i .none) (l.map fun i => ds.getD i .non) := fun l => by
    induction l with
    | nil => exact fun _ => .nil
    | cons i l ih => exact fun hl => .cons (t.get (hl i (.head _))) (ih fun j hj => hl j (.tail _ hj))
  refine this _ fun i hi => ?_
  have := (Array.perm_iff_toList_perm.mp hp).mem_iff.mp hi
  simpa using this
theorem srt_items {us : List Value} {ds : List D} (t : Items s.heap us ds) (hh : homQ ds = true) (h2 : 2 ≤ us.length) (h64 : us.length < 64) : Srt prog w (fun out => ∃ p, Inr ds.length p ∧ out.toList = P2.outs us p ∧ outD ds p = sortQL ds) us s := by
  intro B
  obtain ⟨sg, hs⟩ := homQ_all hh
  obtain ⟨κ, k1, k2⟩ := kind_of (prog := prog) (w := w) (A := B) (E := fun _ _ => False) t h2 hs
  have hl := t.len
  have gd : ∀ i, i < ds.length → sgQ (ds.getD i .non) = some sg := fun i hi => by
    rw [List.getD_eq_getElem?_getD, List.getElem?_eq_getElem hi, Option.getD_some]
    exact hs _ (List.getElem_mem hi)
  have hc := rank_ok (n := ds.length) (c := fun i j => ltQ (ds.getD i .non) (ds.getD j .non)) (fun i hi => ltQ_irr (gd i hi)) (fun i j k hi hj hk => ltQ_tr (gd i hi) (gd j hj) (gd k hk)) fun i j k hi hj hk h => by
    cases q1 : ltQ (ds.getD k .non) (ds.getD j .non) with
    | true => exact .inl rfl
    | false =>
      cases q2 : ltQ (ds.getD i .non) (ds.getD k .non) with
      | true => exact .inr rfl
      | false =>
        cases q3 : ltQ (ds.getD k .non) (ds.getD i .non) with
        | true => have := ltQ_tr (gd k hk) (gd i hi) (gd j hj) q3 h; rw [q1] at this; cases this
        | false => have := ltQ_tri (gd i hi) (gd k hk) q2 q3; rw [this, q1] at h; cases h
  refine k1 _ ⟨rfl, ?_⟩
  refine wpAny_mono (kat_run (ks := us) (vs := us) (Q := fun st' t' => t' = s ∧ failedOf st' = none ∧ ((arrOf st').map (·.2)).size = us.length ∧ ∃ p, Inr ds.length p ∧ ((arrOf st').map (·.2)).toList = P2.outs us p ∧ outD ds p = sortQL ds)
    (G := fun p t' => t' = s ∧ Inr ds.length p ∧ outD ds p = sortQL ds) rfl h2 h64 (fun p st' t' a1 a2 a3 a4 => ?_) ?_) (fun r t' q => q) fun _ _ x => x
  · obtain ⟨b1, b2, b3⟩ := a4
    have e := kat_snds rfl a2
    refine ⟨b1, a3, ?_, p, b2, ?_, b3⟩
    · rw [e]; simp [a1]
    · rw [e]; rfl
  · rw [hl]
    refine KOk.wp (c := fun i j => ltQ (ds.getD i .non) (ds.getD j .non)) (Q := fun p => Inr ds.length p ∧ outD ds p = sortQL ds) (fun i j hi hj C c => k2 i j hi hj C c) (fun p q => ⟨rfl, q⟩) ?_
    refine ok_sort hc (by omega) fun p g1 g2 => ⟨g1, ?_⟩
    have pm := outD_perm g1
    exact rising_uniq (pm.trans (sortQL_perm ds).symm) (fun d hd => hs d (pm.mem_iff.mp hd)) (outD_rising hs g1 (by omega) g2 hc) (sortQL_rising hs)
end
end P2
namespace P2
open PySem L2 PySem.Spec PySem.Calls PySem.W
open PyProof.Rows hiding St K
section
variable {X : Cx} {E : XK} {e : Expr} {ta : TE} {f : Ev → R D} {p1 pos : Pos}
theorem fl_of {K : PySem.W.Frag} {al : Addr → Prop} {H : Hp} {v : V} {d : D} {u : Value} (r : Rep K al H v d) (hv : RelV v u) (h : (∃ i, d = .int i) ∨ ∃ i, d = .str i) : FlV d u := by
  rcases h with ⟨i, rfl⟩ | ⟨i, rfl⟩
  · cases r; obtain ⟨t, rfl⟩ := hv; rfl
  · cases r; obtain ⟨t, rfl⟩ := hv; rfl
theorem fl2_of {K : PySem.W.Frag} {al : Addr → Prop} {H : Hp} : ∀ {ds : List D} {sg : List Nat} {vs : List V} {us : List Value}, sgL ds = some sg → Reps K al H vs ds → Vals vs us → Fl2 ds us
  | [], _, _, _, _, .nil, .nil => .nil
  | .int i :: r, _, _, _, h, .cons a b, .cons hv hr => by
    obtain ⟨t, _, e⟩ := sgL_int h
    exact .cons (fl_of a hv (.inl ⟨i, rfl⟩)) (fl2_of e b hr)
  | .str i :: r, _, _, _, h, .cons a b, .cons hv hr => by
    obtain ⟨t, _, e⟩ := sgL_str h
    exact .cons (fl_of a hv (.inr ⟨i, rfl⟩)) (fl2_of e b hr)
  | .non :: _, _, _, _, h, _, _ => by cases h
  | .bl _ :: _, _, _, _, h, _, _ => by cases h
  | .ty _ :: _, _, _, _, h, _, _ => by cases h
  | .ref _ :: _, _, _, _, h, _, _ => by cases h
  | .tup _ :: _, _, _, _, h, _, _ => by cases h
  | .lst _ :: _, _, _, _, h, _, _ => by cases h
  | .exc _ _ _ :: _, _, _, _, h, _, _ => by cases h
theorem item_of {pins : List (Addr × Obj)} {s : Shared} {σ : L2.St} {H : Hp} (I : Inv X pins σ H s) {al : Addr → Prop} {v : V} {d : D} {u : Value} {sg : List Nat} (r : Rep X.K al H v d) (hv : RelV v u) (h : sgQ d = some sg) : ItemAt s.heap u d := by
  rcases sgQ_form h with ⟨i, rfl, _⟩ | ⟨i, rfl, _⟩ | ⟨d0, r0, t, rfl, _, e⟩
  · exact fl_of r hv (.inl ⟨i, rfl⟩)
  · exact fl_of r hv (.inr ⟨i, rfl⟩)
  · obtain ⟨a, vs, rfl, h1, h2⟩ := r.tupIn
    obtain rfl : u = .ref a := hv
    obtain ⟨its, q, ⟨o, g1, g2, n, g3⟩, _⟩ := I.tuple h1
    exact ⟨a, o, _, n, rfl, g1, g2, g3, fl2_of e h2 q⟩
theorem items_of {pins : List (Addr × Obj)} {s : Shared} {σ : L2.St} {H : Hp} (I : Inv X pins σ H s) {al : Addr → Prop} {sg : List Nat} : ∀ {ds : List D} {vs : List V} {us : List Value}, (∀ d ∈ ds, sgQ d = some sg) → Reps X.K al H vs ds → Vals vs us → Items s.heap us ds
  | [], _, _, _, .nil, .nil => .nil
  | d :: r, _, _, h, .cons a b, .cons hv hr => .cons (item_of I a hv (h d (.head _))) (items_of I (fun e he => h e (.tail _ he)) b hr)
theorem vals_pick {vs : List V} {us : List Value} (h : Vals vs us) : ∀ l : List Nat, (∀ i ∈ l, i < us.length) → Vals (l.map fun i => vs.getD i .non) (l.map fun i => us.getD i .none)
  | [], _ => .nil
  | i :: l, hl => by
    have get : ∀ {vs : List V} {us : List Value}, Vals vs us → ∀ i, i < us.length → RelV (vs.getD i .non) (us.getD i .none) := fun {vs us} h => by
      induction h with
      | nil => intro i hi; simp at hi
      | cons a _ ih =>
        intro i hi
        cases i with
        | zero => simpa using a
        | succ i => simpa using ih i (by simpa using hi)
    exact .cons (get h i (hl i (.head _))) (vals_pick h l fun j hj => hl j (.tail _ hj))
theorem reps_pick {K : PySem.W.Frag} {al : Addr → Prop} {H : Hp} {vs : List V} {ds : List D} (h : Reps K al H vs ds) : ∀ l : List Nat, (∀ i ∈ l, i < ds.length) → Reps K al H (l.map fun i => vs.getD i .non) (l.map fun i => ds.getD i .non)
  | [], _ => .nil
  | i :: l, hl => by
    have hi := hl i (.head _)
    obtain ⟨v, e1, e2⟩ := h.getD (List.getElem?_eq_getElem hi)
    refine .cons ?_ (reps_pick h l fun j hj => hl j (.tail _ hj))
    show Rep K al H (vs.getD i V.non) (ds.getD i D.non)
    rw [List.getD_eq_getElem?_getD, List.getD_eq_getElem?_getD, e1, List.getElem?_eq_getElem hi]
    exact e2
theorem inr_all {n : Nat} {p : Array Nat} (h : Inr n p) : ∀ i ∈ p.toList, i < n := fun i hi => by
  have := (Array.perm_iff_toList_perm.mp h).mem_iff.mp hi
  simpa using this
theorem pe_sortedQ (he : PE X e ta) (hg : Gl X "sorted") (hm : X.mg "sorted" = none)
    (hs : starEach [e] X.env = (false, eval e X.env) :: starEach [] X.env := by rfl) (hpl : (backTo pos (starEach [] X.env)).any (·.1) = false := by rfl) :
    PE X (.Call (.Name "sorted" p1) [e] [] pos) (fun σ H Q => ta σ H fun x0 H1 => ∃ x, [x0] = [x] ∧ ∃ (l : Addr) (vs : List V) (ds : List D) (al : Addr → Prop), x = .ref l ∧ SqL X.K H1 l vs ∧ Reps X.K al H1 vs ds ∧ homQ ds = true ∧ ds.length < 64 ∧ ∀ p ws, H1 p = none → Reps X.K al H1 ws (sortQL ds) → Q (.ref p) (upd H1 p (.lst ws))) := by
  intro pins s σ H Q I h
  refine wpAny_Call_Name_kw (ld_blt I hg hm bt_sorted ?_)
  have PA1 : PA X [e] (tCons ta tNil) := pa_cons he pa_nil hs
  refine PyProof.Rows.callWith_builtin1 (thn (PA1 pos pins s σ H (fun vs0 H1 => ∃ x, vs0 = [x] ∧ ∃ (l : Addr) (vs : List V) (ds : List D) (al : Addr → Prop), x = .ref l ∧ SqL X.K H1 l vs ∧ Reps X.K al H1 vs ds ∧ homQ ds = true ∧ ds.length < 64 ∧ ∀ p ws, H1 p = none → Reps X.K al H1 ws (sortQL ds) → Q (.ref p) (upd H1 p (.lst ws))) I h) fun us s1 ⟨vs0, H1, I1, r1, q1⟩ => ?_) hs hpl
  obtain ⟨x, rfl, l, vs, ds, al, rfl, hl, rv, hh, h64, q⟩ := q1
  obtain ⟨u, rfl, ru⟩ := vals1 r1
  obtain rfl : u = Value.ref l := ru
  obtain ⟨its, vv, pl, hz⟩ := I1.list hl
  obtain ⟨sg, hsg⟩ := homQ_all hh
  have hle := vv.length
  have hle2 := rv.length
  have it := items_of I1 hsg rv vv
  have done : ∀ (out : Array Value) (ws : List V), out.size = its.length → Vals ws out.toList → Reps X.K al H1 ws (sortQL ds) → ∃ v H', Inv X pins σ H' { s1 with heap := sortedAll s1.heap its out } ∧ RelV v (.ref (s1.heap.objs.size + 1)) ∧ Q v H' := fun out ws ho hw hr => by
    obtain ⟨ep, he⟩ := sortedAll_at s1.heap its out
    have lw : ws.length ≤ sizeLine := by
      have := hw.length
      simp only [Array.length_toList] at this
      omega
    have I2 : Inv X pins σ (upd H1 (s1.heap.objs.size + 1) (.lst ws)) { s1 with heap := sortedAll s1.heap its out } :=
      I1.laid (t' := s1.toks) (fun b u e => sortedAll_old e) (Nat.le_succ _) (show ObjOk X.prog X.w _ _ _ (.lst ws) from ⟨lw, out.toList, ep, hw, by rw [Array.toArray_toList]; exact he⟩)
    exact ⟨.ref _, _, I2, rfl, q _ ws (I1.hok.fresh (Nat.le_succ _)) hr⟩
  refine srt_call (G := fun out => ∃ ws, Vals ws out.toList ∧ Reps X.K al H1 ws (sortQL ds)) pl.isList (by omega) (fun h2 => ⟨vs, by simpa using vv, ?_⟩) (fun h2 t kp B => ?_) fun out ho hG => ?_
  · have : sortQL ds = ds := by
      match ds, hle2 with
      | [], _ => rfl
      | [d], _ => rfl
      | _ :: _ :: r, w => simp at w; omega
    rw [this]; exact rv
  · have := srt_items (prog := X.prog) (w := X.w) (s := t) (it.keep kp) hh h2 (by omega) B
    refine wpAny_mono this (fun κ t' hk => ⟨hk.1, wpAny_mono hk.2 (fun r t'' hr => ⟨hr.1, hr.2.1, hr.2.2.1, ?_⟩) fun _ _ x => x⟩) fun _ _ x => x
    obtain ⟨p, g1, g2, g3⟩ := hr.2.2.2
    have al1 := inr_all g1
    refine ⟨p.toList.map fun i => vs.getD i .non, ?_, ?_⟩
    · rw [g2]; exact vals_pick vv _ fun i hi => by have := al1 i hi; omega
    · rw [← g3]; exact reps_pick rv _ al1
  · obtain ⟨ws, hw, hr⟩ := hG
    exact done out ws ho hw hr
theorem dn_sortedQ (hg : Gl X "sorted") (hm : X.mg "sorted" = none) (he : DE X E e f)
    (hs : starEach [e] X.env = (false, eval e X.env) :: starEach [] X.env := by rfl) (hpl : (backTo pos (starEach [] X.env)).any (·.1) = false := by rfl) :
    DN X E (.Call (.Name "sorted" p1) [e] [] pos) (fun ρ => (f ρ).bind sortQ) := by
  obtain ⟨t, p, r⟩ := he
  refine ⟨_, pe_sortedQ p hg hm hs hpl, fun P H0 al H σ ρ Q s h => r _ _ _ _ _ _ _ s (Aft.mono (Aft.split h) fun d H1 s1 h1 v rv => ⟨v, rfl, ?_⟩)⟩
  unfold sortQ at h1
  split at h1
  · rename_i ds
    split at h1
    · rename_i z
      obtain ⟨l, vs, rfl, hl, rvs⟩ := rv.lstIn
      exact ⟨l, vs, ds, al, rfl, hl, rvs, z.1, z.2, fun p ws hp hw => h1 H1 (.refl H1) p ws hp hw⟩
    · exact h1.elim
  · exact h1.elim
end
end P2
namespace P2
open PySem
mutual
noncomputable def okQ : D → Bool
  | .non => true
  | .int _ => true
  | .str z => PyData.strOk z
  | .tup ds => okQs ds
  | .lst ds => okQs ds
  | _ => false
noncomputable def okQs : List D → Bool
  | [] => true
  | d :: r => okQ d && okQs r
end
mutual
noncomputable def dpQ : D → Nat
  | .tup ds => dpQs ds + 1
  | .lst ds => dpQs ds + 1
  | _ => 0
noncomputable def dpQs : List D → Nat
  | [] => 0
  | d :: r => max (dpQ d) (dpQs r)
end
mutual
theorem py_ok : ∀ {d : D}, okQ d = true → ∃ p, pyD d = some p ∧ PyData.canLay0 p = true ∧ p.depth ≤ dpQ d
  | .non, _ => ⟨.none, rfl, by simp [PyData.canLay0], by simp [PyData.depth]⟩
  | .int i, _ => ⟨.int i, rfl, by simp [PyData.canLay0], by simp [PyData.depth]⟩
  | .str z, h => ⟨.str z, rfl, by have h2 : PyData.strOk z = true := h; simpa [PyData.canLay0] using h2, by simp [PyData.depth]⟩
  | .tup ds, h => by
    obtain ⟨ps, e1, e2, e3⟩ := pys_ok (show okQs ds = true from h)
    exact ⟨.tuple ps, by show (pyDs ds).map PyData.tuple = _; rw [e1]; rfl, by simpa [PyData.canLay0] using e2, by simp only [PyData.depth, dpQ]; omega⟩
  | .lst ds, h => by
    obtain ⟨ps, e1, e2, e3⟩ := pys_ok (show okQs ds = true from h)
    exact ⟨.list ps, by show (pyDs ds).map PyData.list = _; rw [e1]; rfl, by simpa [PyData.canLay0] using e2, by simp only [PyData.depth, dpQ]; omega⟩
  | .bl _, h => by cases h
  | .ty _, h => by cases h
  | .ref _, h => by cases h
  | .exc _ _ _, h => by cases h
theorem pys_ok : ∀ {ds : List D}, okQs ds = true → ∃ ps, pyDs ds = some ps ∧ PyData.canLayAll0 ps = true ∧ PyData.depthAll ps ≤ dpQs ds
  | [], _ => ⟨[], rfl, by simp [PyData.canLayAll0], by simp [PyData.depthAll]⟩
  | d :: r, h => by
    have h' : (okQ d && okQs r) = true := h
    rw [Bool.and_eq_true] at h'
    obtain ⟨p, e1, e2, e3⟩ := py_ok h'.1
    obtain ⟨ps, f1, f2, f3⟩ := pys_ok h'.2
    refine ⟨p :: ps, ?_, ?_, ?_⟩
    · show (pyD d).bind (fun p => (pyDs r).map (p :: ·)) = _
      rw [e1, f1]; rfl
    · simp [PyData.canLayAll0, e2, f2]
    · simp only [PyData.depthAll, dpQs]; omega
end
theorem py_tup {ds : List D} {p : PyData} (h : pyD (.tup ds) = some p) : ∃ ps, p = .tuple ps ∧ pyDs ds = some ps := by
  obtain ⟨ps, h1, h2⟩ := Option.map_eq_some_iff.mp (show (pyDs ds).map PyData.tuple = some p from h)
  exact ⟨ps, h2.symm, h1⟩
theorem py_lst {ds : List D} {p : PyData} (h : pyD (.lst ds) = some p) : ∃ ps, p = .list ps ∧ pyDs ds = some ps := by
  obtain ⟨ps, h1, h2⟩ := Option.map_eq_some_iff.mp (show (pyDs ds).map PyData.list = some p from h)
  exact ⟨ps, h2.symm, h1⟩
mutual
theorem eqv_iff : ∀ {a b : D} {p q : PyData}, okQ a = true → okQ b = true → pyD a = some p → pyD b = some q → (PyData.eqv p q = true ↔ a = b)
  | a, b, p, q, ha, hb, ep, eq => by
    cases a with
    | non =>
      cases ep
      cases b with
      | non => cases eq; simp [PyData.eqv]
      | int i => cases eq; simp [PyData.eqv]
      | str i => cases eq; simp [PyData.eqv]
      | tup r => obtain ⟨ps, rfl, _⟩ := py_tup eq; simp [PyData.eqv]
      | lst r => obtain ⟨ps, rfl, _⟩ := py_lst eq; simp [PyData.eqv]
      | _ => cases hb
    | int i =>
      cases ep
      cases b with
      | non => cases eq; simp [PyData.eqv]
      | int i => cases eq; simp [PyData.eqv]
      | str i => cases eq; simp [PyData.eqv]
      | tup r => obtain ⟨ps, rfl, _⟩ := py_tup eq; simp [PyData.eqv]
      | lst r => obtain ⟨ps, rfl, _⟩ := py_lst eq; simp [PyData.eqv]
      | _ => cases hb
    | str i =>
      cases ep
      cases b with
      | non => cases eq; simp [PyData.eqv]
      | int i => cases eq; simp [PyData.eqv]
      | str i => cases eq; simp [PyData.eqv]
      | tup r => obtain ⟨ps, rfl, _⟩ := py_tup eq; simp [PyData.eqv]
      | lst r => obtain ⟨ps, rfl, _⟩ := py_lst eq; simp [PyData.eqv]
      | _ => cases hb
    | tup ds =>
      obtain ⟨ps, rfl, e1⟩ := py_tup ep
      cases b with
      | non => cases eq; simp [PyData.eqv]
      | int i => cases eq; simp [PyData.eqv]
      | str i => cases eq; simp [PyData.eqv]
      | tup r =>
        obtain ⟨qs, rfl, e2⟩ := py_tup eq
        have := eqvs_iff (show okQs ds = true from ha) (show okQs r = true from hb) e1 e2
        simp only [PyData.eqv, this, D.tup.injEq]
      | lst r => obtain ⟨qs, rfl, _⟩ := py_lst eq; simp [PyData.eqv]
      | _ => cases hb
    | lst ds =>
      obtain ⟨ps, rfl, e1⟩ := py_lst ep
      cases b with
      | non => cases eq; simp [PyData.eqv]
      | int i => cases eq; simp [PyData.eqv]
      | str i => cases eq; simp [PyData.eqv]
      | tup r => obtain ⟨qs, rfl, _⟩ := py_tup eq; simp [PyData.eqv]
      | lst r =>
        obtain ⟨qs, rfl, e2⟩ := py_lst eq
        have := eqvs_iff (show okQs ds = true from ha) (show okQs r = true from hb) e1 e2
        simp only [PyData.eqv, this, D.lst.injEq]
      | _ => cases hb
    | _ => cases ha
  termination_by a => sizeOf a
theorem eqvs_iff : ∀ {a b : List D} {p q : List PyData}, okQs a = true → okQs b = true → pyDs a = some p → pyDs b = some q → (PyData.eqvAll p q = true ↔ a = b)
  | [], [], p, q, _, _, ep, eq => by cases ep; cases eq; simp [PyData.eqvAll]
  | [], d :: r, p, q, _, _, ep, eq => by
    cases ep
    obtain ⟨x, _, h⟩ := Option.bind_eq_some_iff.mp (show (pyD d).bind (fun p => (pyDs r).map (p :: ·)) = some q from eq)
    obtain ⟨xs, _, rfl⟩ := Option.map_eq_some_iff.mp h
    simp [PyData.eqvAll]
  | d :: r, [], p, q, _, _, ep, eq => by
    cases eq
    obtain ⟨x, _, h⟩ := Option.bind_eq_some_iff.mp (show (pyD d).bind (fun p => (pyDs r).map (p :: ·)) = some p from ep)
    obtain ⟨xs, _, rfl⟩ := Option.map_eq_some_iff.mp h
    simp [PyData.eqvAll]
  | d :: r, e :: s, p, q, ha, hb, ep, eq => by
    have ha' : (okQ d && okQs r) = true := ha
    have hb' : (okQ e && okQs s) = true := hb
    rw [Bool.and_eq_true] at ha' hb'
    obtain ⟨x, x1, h⟩ := Option.bind_eq_some_iff.mp (show (pyD d).bind (fun p => (pyDs r).map (p :: ·)) = some p from ep)
    obtain ⟨xs, x2, rfl⟩ := Option.map_eq_some_iff.mp h
    obtain ⟨y, y1, h'⟩ := Option.bind_eq_some_iff.mp (show (pyD e).bind (fun p => (pyDs s).map (p :: ·)) = some q from eq)
    obtain ⟨ys, y2, rfl⟩ := Option.map_eq_some_iff.mp h'
    have i1 := eqv_iff ha'.1 hb'.1 x1 y1
    have i2 := eqvs_iff ha'.2 hb'.2 x2 y2
    simp only [PyData.eqvAll, Bool.and_eq_true, i1, i2, List.cons.injEq]
  termination_by a => sizeOf a
end
theorem eqv_dec {a b : D} (ha : okQ a = true) (hb : okQ b = true) (da : dpQ a ≤ 60) (db : dpQ b ≤ 60) : ∃ r, eqvD a b = some r ∧ (r = true ↔ a = b) := by
  obtain ⟨p, p1, p2, p3⟩ := py_ok ha
  obtain ⟨q, q1, q2, q3⟩ := py_ok hb
  refine ⟨PyData.eqv p q, ?_, eqv_iff ha hb p1 q1⟩
  unfold eqvD
  rw [p1, q1]
  show (if (SeqAt.shaped p && SeqAt.shaped q) = true then some (PyData.eqv p q) else none) = _
  rw [if_pos]
  simp only [SeqAt.shaped, Bool.and_eq_true, decide_eq_true_eq]
  exact ⟨⟨p2, by omega⟩, q2, by omega⟩
theorem ne_self {a : D} (ha : okQ a = true) (da : dpQ a ≤ 60) : neDD a a = .ok (.bl false) := by
  obtain ⟨r, e, h⟩ := eqv_dec ha ha da da
  unfold neDD
  rw [e, h.mpr rfl]
  rfl
theorem eq_self {a : D} (ha : okQ a = true) (da : dpQ a ≤ 60) : eqDD a a = .ok (.bl true) := by
  obtain ⟨r, e, h⟩ := eqv_dec ha ha da da
  unfold eqDD
  rw [e, h.mpr rfl]
theorem eq_diff {a b : D} (ha : okQ a = true) (hb : okQ b = true) (da : dpQ a ≤ 60) (db : dpQ b ≤ 60) (h : a ≠ b) : eqDD a b = .ok (.bl false) := by
  obtain ⟨r, e, i⟩ := eqv_dec ha hb da db
  unfold eqDD
  rw [e]
  cases r with
  | false => rfl
  | true => exact absurd (i.mp rfl) h
theorem eq_nilQ {ds : List D} (ha : okQs ds = true) (da : dpQs ds ≤ 50) : eqDD (.lst ds) (.lst []) = .ok (.bl ds.isEmpty) := by
  cases ds with
  | nil => exact eq_self (by rfl) (by show 0 + 1 ≤ 60; omega)
  | cons d r => exact eq_diff ha (by rfl) (by show dpQs (d :: r) + 1 ≤ 60; omega) (by show 0 + 1 ≤ 60; omega) (by simp)
theorem okQs_map {α : Type} {f : α → D} {l : List α} (h : ∀ x ∈ l, okQ (f x) = true) : okQs (l.map f) = true := by
  induction l with
  | nil => rfl
  | cons a l ih =>
    show (okQ (f a) && okQs (l.map f)) = true
    rw [h a (.head _), ih fun x hx => h x (.tail _ hx)]; rfl
theorem dpQs_map {α : Type} {f : α → D} {l : List α} {k : Nat} (h : ∀ x ∈ l, dpQ (f x) ≤ k) : dpQs (l.map f) ≤ k := by
  induction l with
  | nil => exact Nat.zero_le _
  | cons a l ih =>
    show max (dpQ (f a)) (dpQs (l.map f)) ≤ k
    have := h a (.head _)
    have := ih fun x hx => h x (.tail _ hx)
    omega
end P2
namespace P2
open PySem
theorem comp_fm {α : Type} {ga : D → Ev → Option Ev} {fc : Ev → R Bool} {fe : Ev → R D} {ρ0 : Ev} (f g : α → D) (pr : α → Bool) (ρ1 : α → Ev) : ∀ (xs : List α), (∀ x ∈ xs, ga (f x) ρ0 = some (ρ1 x) ∧ fc (ρ1 x) = .ok (pr x) ∧ (pr x = true → fe (ρ1 x) = .ok (g x))) → compO ga fc fe ρ0 (xs.map f) = some ((xs.filter pr).map g)
  | [], _ => rfl
  | x :: xs, H => by
    obtain ⟨h1, h2, h3⟩ := H x (List.mem_cons_self ..)
    have ih := comp_fm f g pr ρ1 xs fun y hy => H y (List.mem_cons_of_mem _ hy)
    show ((ga (f x) ρ0).bind fun ρ1 => (okO (fc ρ1)).bind fun b => if b = true then (okO (fe ρ1)).bind fun v => (compO ga fc fe ρ0 (xs.map f)).bind fun vs => some (v :: vs) else compO ga fc fe ρ0 (xs.map f)) = _
    rw [h1, Option.bind_some, h2]
    cases hp : pr x with
    | true =>
      rw [List.filter_cons_of_pos hp, List.map_cons]
      show ((okO (fe (ρ1 x))).bind fun v => (compO ga fc fe ρ0 (xs.map f)).bind fun vs => some (v :: vs)) = _
      rw [h3 hp, ih]; rfl
    | false =>
      rw [List.filter_cons_of_neg (by simp [hp])]
      exact ih
theorem comp_mp {α : Type} {ga : D → Ev → Option Ev} {fe : Ev → R D} {ρ0 : Ev} (f g : α → D) (ρ1 : α → Ev) (xs : List α) (H : ∀ x ∈ xs, ga (f x) ρ0 = some (ρ1 x) ∧ fe (ρ1 x) = .ok (g x)) : compO ga (fun _ => .ok true) fe ρ0 (xs.map f) = some (xs.map g) := by
  have := comp_fm (fc := fun _ => .ok true) f g (fun _ => true) ρ1 xs fun x hx => ⟨(H x hx).1, rfl, fun _ => (H x hx).2⟩
  rw [this, List.filter_eq_self.mpr fun _ _ => rfl]
end P2
namespace P2
open PySem L2 PySem.Spec PySem.Calls
open PyProof.Rows hiding St
theorem law_callT {P : Program} {w : World} {K : PySem.W.Frag} {mg mb : Str → Option Value} {CX : CXT} {k : Nat} {fa a : Addr} {fd : FuncData} {x : Str} {sp : Sp} {s₁ : Shared} {vs : List Value} {ns : List Int}
    (KX : K.In s₁.heap) (hns : s₁.heap.Ns mainGlobals mg) (hb : s₁.heap.Ns builtinsNs mb) (hbb : ∀ x : Str, x ≠ "__name__" → mb x = bootBuiltins x) (hlim : s₁.heap.NoLimit) (hg : s₁.gens = #[])
    (ha : s₁.heap.get? a = some { cls := .type "list", data := .seq vs.toArray }) (hi : IntsAre vs ns) (hl : ns.length ≤ sizeLine) (hr : Room k callerA) (hT : ∀ t ∈ tabsOf K, PySem.W.CodeHd s₁.heap t.2.1 t.2.2 ∧ s₁.heap.get? t.2.2 = some (PySem.W.tabObj #[])) (hN : PySem.W.noTabs K = true)
    (hB : BM mg s₁.heap)
    (F : ∀ base : Heap, K.In base → base.Ns mainGlobals mg → BM mg base → FnOk P w K mg base CX k fa fd [x] sp) (hbind : ∀ (s : Shared) (u : Value), BindsTo s fd ⟨[u], []⟩ [(x, u)])
    (hsp : ∀ H : Hp, TbOk K H → SqL K H a (ns.map V.int) → sp [.ref a] H (fun v _ => v = .bl true) fun _ _ _ => False)
    (hCX : ∀ H e s', CX [] H s₁ (fun _ _ _ => False) e s' → False) :
    codeAny (model P w) callerA (.call (.ref fa) ⟨[.ref a], []⟩) (fun r s' => r = .ok (.ret (.bool true)) ∧ OldK s₁.heap s'.heap ∧ s'.os = s₁.os ∧ AllBare s'.gens) s₁ := by
  have rv := vals_ints hi
  have lenV := hi.length
  have na : ∀ t ∈ tabsOf K, t.2.2 ≠ a := fun t ht e => by
    have := (hT t ht).2
    rw [e, ha] at this
    cases this
  have nK : ∀ t ∈ tabsOf K, K.lookup t.2.2 = none := fun t ht => by
    cases q : K.lookup t.2.2 with
    | none => rfl
    | some o =>
      have e1 := KX _ _ q
      rw [(hT t ht).2] at e1
      cases e1
      have h2 := List.all_eq_true.mp hN (t.2.2, PySem.W.tabObj #[]) (PySem.W.mem_of_lookupK q)
      exact absurd (show false = true from h2) Bool.false_ne_true
  -- the heap's own view
  have core : ∀ H : Hp, (∀ b, H b = none ∨ (∃ o xs, H b = some (.frz o (.lst xs)) ∧ b = a ∧ K.lookup a = none) ∨ ∃ t ∈ tabsOf K, b = t.2.2 ∧ H b = some (.tbl #[])) → (∀ t ∈ tabsOf K, H t.2.2 = some (.tbl #[])) → SqL K H a (ns.map V.int) → HOk P w H s₁.heap →
      codeAny (model P w) callerA (.call (.ref fa) ⟨[.ref a], []⟩) (fun r s' => r = .ok (.ret (.bool true)) ∧ OldK s₁.heap s'.heap ∧ s'.os = s₁.os ∧ AllBare s'.gens) s₁ := by
    intro H hO hTb hS hok
    have base_of : ∀ {b : Addr} {o : Obj}, s₁.heap.get? b = some o → H b = none → (hidT s₁.heap H).get? b = some o := fun e n => hidT_get e n
    have noA : ∀ {b : Addr} {o : Obj} {es : Array DictEntry} {ep : Nat}, s₁.heap.get? b = some o → o.data = .dict es ep → H b = none := fun {b o es ep} e d => by
      rcases hO b with z | ⟨ob, xs, z, e', _⟩ | ⟨t, ht, e', z⟩
      · exact z
      · subst e'
        rw [ha] at e; cases e
        have d' : Data.seq vs.toArray _ = Data.dict es ep := d
        cases d'
      · subst e'
        rw [(hT t ht).2] at e; cases e
        have d' : Data.fields #[] = Data.dict es ep := d
        cases d'
    have nsK : ∀ {b : Addr} {m : Str → Option Value}, s₁.heap.Ns b m → (hidT s₁.heap H).Ns b m := fun {b m} ⟨o, es, ep, e, d, r⟩ => ⟨o, es, ep, base_of e (noA e d), d, r⟩
    have hKb : K.In (hidT s₁.heap H) := fun b o e => base_of (KX b o e) (by
      rcases hO b with z | ⟨ob, xs, z, e', hk⟩ | ⟨t, ht, e', z⟩
      · exact z
      · subst e'; rw [hk] at e; cases e
      · subst e'; rw [nK t ht] at e; cases e)
    have hBb : BM mg (hidT s₁.heap H) := by
      obtain ⟨bm, ob, b1, b2, b3, b4, b5, b6⟩ := hB
      refine ⟨bm, ob, b1, b2, base_of b3 ?_, b4, b5, b6⟩
      rcases hO bm with z | ⟨o2, xs, z, e', _⟩ | ⟨t, ht, e', z⟩
      · exact z
      · subst e'; rw [ha] at b3; cases b3; cases b6
      · subst e'; rw [(hT t ht).2] at b3; cases b3; cases b6
    have hM : Mod K mg (hidT s₁.heap H) := ⟨hKb, nsK hns, ⟨mb, nsK hb, hbb⟩, let ⟨mc, h1, h2⟩ := hlim; ⟨mc, nsK h1, h2⟩⟩
    have e0 : Env0 P w K mg (hidT s₁.heap H) callerA [] s₁ H := ⟨rfl, hM, fun b o e => of_hidT e, Nat.le_of_eq (hidT_size _ _), trivial, fun b hb => absurd (show b ∈ ([] : List Addr) from hb) (by simp), hok, .of_eq hg⟩
    have tb : TbOk K H := fun t ht => ⟨#[], hTb t ht, trivial, fun pos cv e => by cases e⟩
    refine codeAny_mono ((F _ hKb (nsK hns) hBb).run callerA [] s₁ H ⟨[.ref a], []⟩ [.ref a] [.ref a] _ _ hr e0 (hbind s₁ (.ref a)) (.cons rfl .nil) (hsp H tb hS)) fun r s' h => ?_
    cases r with
    | error e => exact (hCX H e s' h).elim
    | ok fl =>
      cases fl with
      | next => exact False.elim h
      | brk => exact False.elim h
      | cont => exact False.elim h
      | ret u =>
        obtain ⟨v, H', os, bare, un, hok', r', q⟩ := h
        have q' : v = .bl true := q
        subst q'
        obtain rfl : u = Value.bool true := r'
        have kept : ∀ b o, s₁.heap.get? b = some o → s'.heap.get? b = some o ∨ ∃ t ∈ tabsOf K, b = t.2.2 ∧ ∃ ps, s'.heap.get? b = some (PySem.W.tabObj ps) := fun b o e => by
          rcases hO b with z | ⟨ob, xs, z, _⟩ | ⟨t, ht, e', z⟩
          · exact .inl (un.keep b o e z (by intro y; exact absurd (show b ∈ ([] : List Addr) from y) (by simp)) (by simp))
          · have z2 := un.frzs b ob _ z
            obtain ⟨e1, _⟩ := hok b _ z
            obtain ⟨e2, _⟩ := hok' b _ z2
            rw [e] at e1; cases e1
            exact .inl e2
          · obtain ⟨more, z2⟩ := un.tbls b #[] z
            have e2 : s'.heap.get? b = some { cls := .none, data := .fields (#[] ++ more) } := hok' b _ z2
            exact .inr ⟨t, ht, e', _, e2⟩
        refine ⟨rfl, ⟨fun b o e => ?_, fun b o e => ?_⟩, os, bare⟩
        · rcases kept b o e with z | ⟨t, ht, e', ps, z⟩
          · exact .inl z
          · subst e'
            have e2 := (hT t ht).2
            rw [e] at e2
            cases e2
            exact .inr (.inl ⟨((hT t ht).1.tab (hT t ht).2).isCodeTable, rfl, #[], ps, rfl, by rw [Array.empty_append]; exact z⟩)
        · rcases kept b o e with z | ⟨_, _, _, ps, z⟩
          · exact ⟨o, z⟩
          · exact ⟨_, z⟩
  have nz : ¬ ∃ t ∈ tabsOf K, a = t.2.2 := fun ⟨t, ht, e⟩ => na t ht e.symm
  have tbl : ∀ (H : Hp) (b : Addr), (∃ t ∈ tabsOf K, b = t.2.2) → ObjOk P w H s₁.heap b (.tbl #[]) := fun H b ⟨t, ht, e⟩ => by subst e; exact (hT t ht).2
  cases hk : K.lookup a with
  | some o =>
    have e := KX a o hk
    rw [ha] at e
    cases e
    refine core (fun b => if (∃ t ∈ tabsOf K, b = t.2.2) then some (.tbl #[]) else none) (fun b => ?_) (fun t ht => if_pos ⟨t, ht, rfl⟩) (.inr ⟨_, vs.toArray, _, hk, rfl, rfl, rfl, by rw [List.size_toArray, lenV]; exact hl, by simpa using rv⟩) (fun b u e => ?_)
    · by_cases z : ∃ t ∈ tabsOf K, b = t.2.2
      · obtain ⟨t, ht, e⟩ := z
        exact .inr (.inr ⟨t, ht, e, if_pos ⟨t, ht, e⟩⟩)
      · exact .inl (if_neg z)
    · by_cases z : ∃ t ∈ tabsOf K, b = t.2.2
      · have e' := (if_pos z).symm.trans e
        cases e'
        exact tbl _ b z
      · have e' := (if_neg z).symm.trans e
        cases e'
  | none =>
    refine core (fun b => if (∃ t ∈ tabsOf K, b = t.2.2) then some (.tbl #[]) else if b = a then some (.frz { cls := .type "list", data := .seq vs.toArray } (.lst (ns.map V.int))) else none) (fun b => ?_) (fun t ht => if_pos ⟨t, ht, rfl⟩) (.inl (.inr ⟨{ cls := .type "list", data := .seq vs.toArray }, (if_neg nz).trans (if_pos rfl)⟩)) (fun b u e => ?_)
    · by_cases z : ∃ t ∈ tabsOf K, b = t.2.2
      · obtain ⟨t, ht, e⟩ := z
        exact .inr (.inr ⟨t, ht, e, if_pos ⟨t, ht, e⟩⟩)
      · by_cases y : b = a
        · exact .inr (.inl ⟨_, _, (if_neg z).trans (if_pos y), y, hk⟩)
        · exact .inl ((if_neg z).trans (if_neg y))
    · by_cases z : ∃ t ∈ tabsOf K, b = t.2.2
      · have e' := (if_pos z).symm.trans e
        cases e'
        exact tbl _ b z
      · by_cases y : b = a
        · have e' := ((if_neg z).trans (if_pos y)).symm.trans e
          cases e'
          subst y
          exact ⟨ha, by rw [List.length_map]; exact hl, vs, _, rv, ha⟩
        · have e' := ((if_neg z).trans (if_neg y)).symm.trans e
          cases e'
theorem tabs_of {p : Program} {loose : List Str} {mean : ExcName → Option Value} {mg mb : Str → Option Value} {h : Heap} {K : PySem.W.Frag} (T : Top p loose mean mg mb h) (X : K.In h) (hq : (tabsOf K).all (fun t => ((recsOf p).find? fun e => e.name == t.1).isSome) = true) :
    ∀ t ∈ tabsOf K, PySem.W.CodeHd h t.2.1 t.2.2 ∧ h.get? t.2.2 = some (PySem.W.tabObj #[]) := fun t ht => by
  have h1 := List.all_eq_true.mp hq t ht
  obtain ⟨d, hd⟩ := Option.isSome_iff_exists.mp h1
  unfold tabsOf at ht
  obtain ⟨x, _, e⟩ := List.mem_filterMap.mp ht
  split at e
  · obtain ⟨q, e1, e2⟩ := Option.map_eq_some_iff.mp e
    subst e2
    exact PySem.W.tab_of T X hd e1
  · cases e
end P2
namespace WP
open PySem L2 P2
structure Ad where
  WeatherError : Addr := 0
  NoFraction : Addr := 0
  NoText : Addr := 0
  Twice : Addr := 0
  TooMany : Addr := 0
  NoRow : Addr := 0
  fI_row : Addr := 0
  fI_mast : Addr := 0
  fI_most : Addr := 0
  isx : Addr → Value → Option Bool := fun _ _ => none
noncomputable def b1_common_divisor (a : Ad) : Ev → RT := (sSeq (sSet 2 (d2 modD (dV 0) (dV 1)))
    (sSeq (sSet 0 (dV 1))
    (sSet 1 (dV 2))))
noncomputable def g_common_divisor (a : Ad) : Ev → RT := (sSeq (whileD (b1 tB (d2 neSD (dV 1) (dC (.int 0)))) (b1_common_divisor a) 10000000000000000000000000000000000000000000000000000000000000000000000000000000000000000000000000000000000000000000000000000000000000000000000000000000000000000000000000000000000000000000000000000000000000000000000000000000000000000000000000000000000000000000000000000000000000000000000000000000000000000000000000000000000000000000000000000000000000000000000000000000000000000000000000000000000000000)
    (sRet (dV 0)))
noncomputable def g_is_whole (a : Ad) : Ev → RT := (sRet (dAnd (dA (isXD a.isx) (aCons (dV 0) (aCons (dC (.ty "int")) aNil))) (dNot (dA (isXD a.isx) (aCons (dV 0) (aCons (dC (.ty "bool")) aNil))))))
noncomputable def g_fraction (a : Ad) (F_is_whole : List D → R D) (F_common_divisor : List D → R D) : Ev → RT := (sSeq (sIf (bOr (bNot (b1 tT (dA F_is_whole (aCons (dV 0) aNil)))) (bOr (bNot (b1 tT (dA F_is_whole (aCons (dV 1) aNil)))) (b1 tB (d2 eqSD (dV 1) (dC (.int 0)))))) (fun _ => .ex a.NoFraction [] []) sNil)
    (sSeq (sSet 2 (dA F_common_divisor (aCons (dA absD (aCons (dV 0) aNil)) (aCons (dA absD (aCons (dV 1) aNil)) aNil))))
    (sSeq (sIf (b1 tB (d2 ltD (dV 1) (dC (.int 0)))) (sSet 2 (d1 negD (dV 2))) sNil)
    (sRet (dA mkT (aCons (d2 fdivD (dV 0) (dV 2)) (aCons (d2 fdivD (dV 1) (dV 2)) aNil)))))))
noncomputable def g_plus (a : Ad) (F_fraction : List D → R D) : Ev → RT := (sRet (dA F_fraction (aCons (d2 addD (d2 mulUD (d2 ixD (dV 0) (dC (.int 0))) (d2 ixD (dV 1) (dC (.int 1)))) (d2 mulUD (d2 ixD (dV 1) (dC (.int 0))) (d2 ixD (dV 0) (dC (.int 1))))) (aCons (d2 mulUD (d2 ixD (dV 0) (dC (.int 1))) (d2 ixD (dV 1) (dC (.int 1)))) aNil))))
noncomputable def g_minus (a : Ad) (F_fraction : List D → R D) : Ev → RT := (sRet (dA F_fraction (aCons (d2 subD (d2 mulUD (d2 ixD (dV 0) (dC (.int 0))) (d2 ixD (dV 1) (dC (.int 1)))) (d2 mulUD (d2 ixD (dV 1) (dC (.int 0))) (d2 ixD (dV 0) (dC (.int 1))))) (aCons (d2 mulUD (d2 ixD (dV 0) (dC (.int 1))) (d2 ixD (dV 1) (dC (.int 1)))) aNil))))
noncomputable def g_times (a : Ad) (F_fraction : List D → R D) : Ev → RT := (sRet (dA F_fraction (aCons (d2 mulUD (d2 ixD (dV 0) (dC (.int 0))) (d2 ixD (dV 1) (dC (.int 0)))) (aCons (d2 mulUD (d2 ixD (dV 0) (dC (.int 1))) (d2 ixD (dV 1) (dC (.int 1)))) aNil))))
noncomputable def g_over (a : Ad) (F_fraction : List D → R D) : Ev → RT := (sRet (dA F_fraction (aCons (d2 mulUD (d2 ixD (dV 0) (dC (.int 0))) (d2 ixD (dV 1) (dC (.int 1)))) (aCons (d2 mulUD (d2 ixD (dV 0) (dC (.int 1))) (d2 ixD (dV 1) (dC (.int 0)))) aNil))))
noncomputable def g_counting_unit (a : Ad) : Ev → RT := (sSeq (sSet 3 (dA mkT (aCons (dV 0) (aCons (dV 1) (aCons (dA mkT (aCons (dC (.int 1)) (aCons (dC (.int 1)) aNil))) (aCons (dA mkT (aCons (dC (.int 0)) (aCons (dC (.int 1)) aNil))) aNil))))))
    (sSeq (sSet 4 (asN (dComp (fun ρ => ((dV 2) ρ).bind asI) 1 [0, 1] (gV 0) (bAnd (b1 tB (d2 eqSD (d2 ixD (dV 0) (dC (.int 0))) (dV 1))) (b1 tB (d2 leD (d2 ixD (dV 0) (dC (.int 1))) (dV 2)))) (dV 0))))
    (sRet (dBest false (fun ds => (d2 ixD (dV 0) (dC (.int 1))) (startD 1 ds)) (dV 4) (dV 3)))))
noncomputable def g_meaning (a : Ad) (F_counting_unit : List D → R D) (F_fraction : List D → R D) (F_times : List D → R D) (F_plus : List D → R D) : Ev → RT := (sSeq (sSet 2 (dA F_counting_unit (aCons (d2 ixD (dV 0) (dC (.int 0))) (aCons (d2 ixD (dV 0) (dC (.int 1))) (aCons (dV 1) aNil)))))
    (sRet (dA F_plus (aCons (dA F_times (aCons (dA F_fraction (aCons (d2 ixD (dV 0) (dC (.int 3))) (aCons (dC (.int 1)) aNil))) (aCons (d2 ixD (dV 2) (dC (.int 2))) aNil))) (aCons (d2 ixD (dV 2) (dC (.int 3))) aNil)))))
noncomputable def g_share_at (a : Ad) (F_fraction : List D → R D) : Ev → RT := (sSeq (sIf (b1 tB (d2 eqSD (dV 1) (dV 2))) (sRet (dA F_fraction (aCons (dC (.int 0)) (aCons (dC (.int 1)) aNil)))) sNil)
    (sRet (dA F_fraction (aCons (d2 subD (dV 0) (dV 1)) (aCons (d2 subD (dV 2) (dV 1)) aNil)))))
noncomputable def g_value_at (a : Ad) (F_share_at : List D → R D) (F_minus : List D → R D) (F_times : List D → R D) (F_plus : List D → R D) : Ev → RT := (sSeq (sSet 3 (dA F_share_at (aCons (dV 0) (aCons (d2 ixD (dV 1) (dC (.int 1))) (aCons (d2 ixD (dV 2) (dC (.int 1))) aNil)))))
    (sRet (dA F_plus (aCons (d2 ixD (dV 1) (dC (.int 2))) (aCons (dA F_times (aCons (dV 3) (aCons (dA F_minus (aCons (d2 ixD (dV 2) (dC (.int 2))) (aCons (d2 ixD (dV 1) (dC (.int 2))) aNil))) aNil))) aNil)))))
noncomputable def g_time_of (a : Ad) : Ev → RT := (sRet (d2 ixD (dV 0) (dC (.int 1))))
noncomputable def g_off_at (a : Ad) (F_fraction : List D → R D) (F_time_of : List D → R D) (F_value_at : List D → R D) : Ev → RT := (sSeq (sSet 3 (asN (dComp (fun ρ => ((dV 2) ρ).bind asI) 1 [0] (gV 0) (b1 tB (d2 eqSD (d2 ixD (dV 0) (dC (.int 0))) (dV 1))) (dV 0))))
    (sSeq (sIf (b1 tB (d2 eqDD (dV 3) (asN (fun ρ => (aNil ρ).bind fitL)))) (sRet (dA F_fraction (aCons (dC (.int 0)) (aCons (dC (.int 1)) aNil)))) sNil)
    (sSeq (sSet 4 (dBest false F_time_of (asN (dComp (fun ρ => ((dV 3) ρ).bind asI) 1 [1] (gV 0) (b1 tB (d2 leD (d2 ixD (dV 0) (dC (.int 1))) (dV 1))) (dV 0))) (dC .non)))
    (sSeq (sSet 5 (dBest true F_time_of (asN (dComp (fun ρ => ((dV 3) ρ).bind asI) 1 [1] (gV 0) (b1 tB (d2 geD (d2 ixD (dV 0) (dC (.int 1))) (dV 1))) (dV 0))) (dC .non)))
    (sSeq (sIf (b1 tB (d2 isD2 (dV 4) (dC .non))) (sSet 4 (dV 5)) sNil)
    (sSeq (sIf (b1 tB (d2 isD2 (dV 5) (dC .non))) (sSet 5 (dV 4)) sNil)
    (sRet (dA F_value_at (aCons (dV 1) (aCons (dV 4) (aCons (dV 5) aNil)))))))))))
noncomputable def g_put_right (a : Ad) (F_off_at : List D → R D) (F_minus : List D → R D) : Ev → RT := (sRet (dA F_minus (aCons (dV 2) (aCons (dA F_off_at (aCons (dV 0) (aCons (dV 1) (aCons (dV 3) aNil)))) aNil))))
noncomputable def g_row_reading (a : Ad) (F_meaning : List D → R D) (F_put_right : List D → R D) : Ev → RT := (sSeq (sSet 3 (d2 ixD (dV 0) (dC (.int 0))))
    (sSeq (sSet 4 (d2 ixD (dV 0) (dC (.int 1))))
    (sRet (dA mkT (aCons (dV 3) (aCons (dV 4) (aCons (dA F_put_right (aCons (dV 3) (aCons (dV 4) (aCons (dA F_meaning (aCons (dV 0) (aCons (dV 1) aNil))) (aCons (dV 2) aNil))))) aNil)))))))
noncomputable def g_row_of (a : Ad) (F_row_reading : List D → R D) : Ev → RT := (sRet (asN (dComp (fun ρ => ((dV 0) ρ).bind asI) 1 [2, 1] (gV 0) (fun _ => .ok true) (dA F_row_reading (aCons (dV 0) (aCons (dV 2) (aCons (dV 1) aNil)))))))
end WP
set_option exponentiation.threshold 500
namespace WP
open PySem L2 P2 TM T2 PySem.NumText
local macro_rules | `(tactic| walk_at "den") => `(tactic| try simp (disch := first | assumption | decide | exact Nat.le_of_ble_eq_true rfl) only [q_bind_k, q_bind_x, q_bind_b, q_toS_k, q_toS_x, q_toS_b, q_seq_n, q_seq_r, q_seq_x, q_seq_b, q_turn_n, q_turn_c, q_turn_k, q_turn_r, q_turn_b, q_turn_x, q_fin_r, q_fin_n, q_fin_x, q_noEx_k, q_okO_k, q_ofO_s, q_sSeq_a, q_sNil_a, q_sRet_a, q_sExpr_a, q_sSet_a, q_sIf_a, q_dC_a, q_d1_a, q_d2_a, q_b1B_a, q_b1T_a, q_bAnd_a, q_bOr_a, q_bNot_a, q_dAnd_a, q_dOr_a, q_dNot_a, q_dIf_a, q_dA_a, q_aNil_a, q_aCons_a, q_asN_a, q_dMt_a, q_dSl_a, q_dComp_a, q_sFor_a, q_toO_s, q_gV_a, q_tB_b, q_tT_b, q_tT_i, q_tT_n, q_tT_l, q_tT_t, q_add_i, q_sub_i, q_fdiv_p, q_mod_p, q_lt_i, q_le_i, q_gt_i, q_ge_i, q_neg_i, q_eq_i, q_eq_s, q_eq_b, q_ne_i, q_ne_s, q_in_s, q_ix_l, q_ix_t, q_ix_s, q_sl_l, q_sl_s, q_pI_i, q_len_s, q_len_l, q_len_t, q_abs_i, q_max_i, q_int_s, q_all_l, q_any_l, q_st_s, q_zf_s, q_hs_s, q_fit_p, q_add_sp, q_add_lp, q_mkT_p, q_asI_l, q_asI_t, q_asI_s, q_fmt_s, q_jNil_a, q_jCons_k, q_isX_i, q_isX_b, q_isX_s, q_isX_t, q_isX_l, q_slW_l, q_slW_s, q_is_bb, q_isn_bb, q_is_nn, q_isn_nn, q_is_tn, q_isn_tn, q_v0, q_v1, q_v2, q_v3, q_v4, q_v5, q_v6, q_v7, q_v8, q_v9, q_v10, q_v11, q_v12, q_v13, startD, List.map_cons, List.map_nil, List.length_cons, List.length_nil, Nat.sub_self, Nat.reduceAdd, Nat.reduceSub, List.replicate_zero, List.replicate_succ, List.append_nil, List.nil_append, List.cons_append, List.set_cons_zero, List.set_cons_succ, if_true, if_false, Nat.reduceLT, Nat.zero_lt_succ, Bool.not_true, Bool.not_false, Bool.false_eq_true, reduceIte, decide_true, decide_false, Int.reduceLT, Int.reduceEq, Int.reduceNeg, Int.reducePow, Int.reduceSub, Int.reduceAdd, Int.reduceMul,  List.length_set])
variable {a : Ad}
theorem m_whole (i : Int) : finT (g_is_whole a (startD 1 [.int i])) = .ok (.bl true) := by
  unfold g_is_whole
  iterate 3 (walk_at "den")
theorem w_gcd : ∀ (n : Nat) (x y : Int) (s2 : Sl), 0 ≤ x → 0 ≤ y → y < n →
    ∃ s, whileD (b1 tB (d2 neSD (dV 1) (dC (.int 0)))) (b1_common_divisor a) n [.sh (.int x), .sh (.int y), s2] = .nx [.sh (.int (FM.g x y)), .sh (.int 0), s]
  | 0, x, y, s2, hx, hy, h => by omega
  | n + 1, x, y, s2, hx, hy, h => by
    rw [q_whileD]
    by_cases z : y = 0
    · subst z
      refine ⟨s2, ?_⟩
      walk_at "den"
      rw [FM.g_zero hx]
    · have hp : 0 < y := by omega
      have hm := Int.emod_lt_of_pos x hp
      obtain ⟨s, e⟩ := w_gcd n y (x % y) (.sh (.int (x % y))) hy (Int.emod_nonneg x z) (by omega)
      refine ⟨s, ?_⟩
      unfold b1_common_divisor
      iterate 4 (walk_at "den"; try simp only [z, q_mod_p hp])
      rw [← FM.g_step hx hp]
      exact e
theorem m_gcd (x y : Int) (hx : 0 ≤ x) (hy : 0 ≤ y) (h : y.natAbs < 10 ^ 400) : finT (g_common_divisor a (startD 3 [.int x, .int y])) = .ok (.int (FM.g x y)) := by
  obtain ⟨s, e⟩ := w_gcd (a := a) 10000000000000000000000000000000000000000000000000000000000000000000000000000000000000000000000000000000000000000000000000000000000000000000000000000000000000000000000000000000000000000000000000000000000000000000000000000000000000000000000000000000000000000000000000000000000000000000000000000000000000000000000000000000000000000000000000000000000000000000000000000000000000000000000000000000000000000 x y .no hx hy (by omega)
  unfold g_common_divisor
  walk_at "den"
  rw [e]
  walk_at "den"
theorem dv_lt {t b : Int} (hb : b ≠ 0) (h : b.natAbs < 10 ^ 400) : (FM.dv t b).natAbs < 10 ^ 400 := by
  have := FM.dv_le (t := t) (b := b) hb
  omega
noncomputable abbrev fr (t b : Int) : D := .tup [.int (FM.top t b), .int (FM.bot t b)]
theorem m_frac {Fw Fg : List D → R D} (hw : ∀ i : Int, Fw [.int i] = .ok (.bl true)) (hg : ∀ x y : Int, 0 ≤ x → 0 ≤ y → y.natAbs < 10 ^ 400 → Fg [.int x, .int y] = .ok (.int (FM.g x y))) (t b : Int) (hb : b ≠ 0) (h : b.natAbs < 10 ^ 400) :
    finT (g_fraction a Fw Fg (startD 3 [.int t, .int b])) = .ok (fr t b) := by
  have g1 := hg (if t < 0 then -t else t) (if b < 0 then -b else b) (by split <;> omega) (by split <;> omega) (by split <;> omega)
  rw [FM.g_abs t b] at g1
  have d1 := q_fdivU (i := t) (FM.dv_ne (t := t) (b := b) hb) (dv_lt hb h)
  have d2 := q_fdivU (i := b) (FM.dv_ne (t := t) (b := b) hb) (dv_lt hb h)
  unfold g_fraction
  by_cases b1 : b < 0
  · have e : FM.dv t b = -(FM.g t b) := by unfold FM.dv; rw [if_pos b1]
    rw [if_pos b1] at g1
    rw [e] at d1 d2
    iterate 8 (walk_at "den"; try simp only [hw, hb, b1, g1, d1, d2, decide_false, decide_true])
    unfold fr FM.top FM.bot
    rw [e]
  · have e : FM.dv t b = FM.g t b := by unfold FM.dv; rw [if_neg b1]
    rw [if_neg b1] at g1
    rw [e] at d1 d2
    iterate 8 (walk_at "den"; try simp only [hw, hb, b1, g1, d1, d2, decide_false, decide_true])
    unfold fr FM.top FM.bot
    rw [e]
theorem len_numI {t : Int} (h : t.natAbs < 10 ^ 400) : (numI t).length ≤ 402 := by
  have := num_len (k := 399) (m := t.natAbs) h
  unfold numI
  split
  · rw [List.length_cons]; omega
  · omega
theorem len_str {t : Int} (h : t.natAbs < 10 ^ 400) : (Str.ofString (toString t)).length ≤ 402 := by rw [len_cds, cds_int]; exact len_numI h
end WP
namespace CK
theorem fr_eq {x y x' y' : Int} (hy : y ≠ 0) (hy' : y' ≠ 0) (h : x * y' = x' * y) : FM.top x y = FM.top x' y' ∧ FM.bot x y = FM.bot x' y' := by
  have c1 := FM.cross (t := x) hy
  have c2 := FM.cross (t := x') hy'
  refine FM.low_eq (FM.low_of hy) (FM.low_of hy') ?_
  have e : (FM.top x y * FM.bot x' y') * (y * y') = (FM.top x' y' * FM.bot x y) * (y * y') := by grind
  exact Int.eq_of_mul_eq_mul_right (Int.mul_ne_zero hy hy') e
theorem low_self {p q : Int} (L : FM.Low p q) : FM.top p q = p ∧ FM.bot p q = q := by
  have := FM.scaled (k := 1) L (by decide)
  rwa [Int.mul_one, Int.mul_one] at this
theorem fr_low {x y p q : Int} (hy : y ≠ 0) (L : FM.Low p q) (h : x * q = p * y) : FM.top x y = p ∧ FM.bot x y = q := by
  obtain ⟨e1, e2⟩ := low_self L
  have := fr_eq hy (show q ≠ 0 by have := L.pos; omega) h
  rw [e1, e2] at this
  exact this
section
variable {α : Type} (k : α → Int)
noncomputable def pickC : α → List α → α
  | b, c :: cs => if k b < k c then pickC c cs else pickC b cs
  | b, [] => b
noncomputable def maxC : List α → Option α
  | [] => none
  | c :: cs => some (pickC k c cs)
theorem pick_spec : ∀ (cs : List α) (b : α), pickC k b cs ∈ b :: cs ∧ (∀ d ∈ b :: cs, k d ≤ k (pickC k b cs))
  | [], b => ⟨List.mem_cons_self .., fun d hd => by simp at hd; subst hd; exact Int.le_refl _⟩
  | c :: cs, b => by
    unfold pickC
    split
    · rename_i h
      obtain ⟨h1, h2⟩ := pick_spec cs c
      refine ⟨List.mem_cons_of_mem _ h1, fun d hd => ?_⟩
      rcases List.mem_cons.mp hd with rfl | hd
      · have := h2 c (List.mem_cons_self ..); omega
      · exact h2 d hd
    · rename_i h
      obtain ⟨h1, h2⟩ := pick_spec cs b
      refine ⟨?_, fun d hd => ?_⟩
      · rcases List.mem_cons.mp h1 with h1 | h1
        · rw [h1]; exact List.mem_cons_self ..
        · exact List.mem_cons_of_mem _ (List.mem_cons_of_mem _ h1)
      · rcases List.mem_cons.mp hd with rfl | hd
        · exact h2 d (List.mem_cons_self ..)
        · rcases List.mem_cons.mp hd with rfl | hd
          · have := h2 b (List.mem_cons_self ..); omega
          · exact h2 d (List.mem_cons_of_mem _ hd)
theorem max_spec {cs : List α} {c : α} (h : maxC k cs = some c) : c ∈ cs ∧ ∀ d ∈ cs, k d ≤ k c := by
  cases cs with
  | nil => cases h
  | cons b cs => cases h; exact pick_spec k cs b
theorem max_none {cs : List α} : maxC k cs = none ↔ cs = [] := by
  cases cs with
  | nil => simp [maxC]
  | cons b cs => simp [maxC]
theorem fold_some (p : α → Bool) : ∀ (cs : List α) (b : α), cs.foldl (fun o c => match o with | none => if p c = true then some c else none | some b => if p c = true ∧ k b < k c then some c else some b) (some b) = some (pickC k b (cs.filter p))
  | [], b => rfl
  | c :: cs, b => by
    rw [List.foldl_cons]
    cases hp : p c with
    | false =>
      rw [List.filter_cons_of_neg (by simp [hp])]
      simp only [Bool.false_eq_true, false_and, if_false]
      exact fold_some p cs b
    | true =>
      rw [List.filter_cons_of_pos hp]
      unfold pickC
      by_cases h : k b < k c
      · rw [if_pos h]; simp only [true_and, if_pos h]; exact fold_some p cs c
      · rw [if_neg h]; simp only [true_and, if_neg h]; exact fold_some p cs b
theorem fold_none (p : α → Bool) : ∀ (cs : List α), cs.foldl (fun o c => match o with | none => if p c = true then some c else none | some b => if p c = true ∧ k b < k c then some c else some b) none = maxC k (cs.filter p)
  | [] => rfl
  | c :: cs => by
    rw [List.foldl_cons]
    cases hp : p c with
    | false =>
      rw [List.filter_cons_of_neg (by simp [hp])]
      simp only [Bool.false_eq_true, if_false]
      exact fold_none p cs
    | true =>
      rw [List.filter_cons_of_pos hp]
      simp only [if_true]
      exact fold_some k p cs c
end
theorem share {p1 q1 p2 q2 t t1 t2 : Int} (L1 : FM.Low p1 q1) (L2 : FM.Low p2 q2) (h : t1 < t2) {s1 s2 m1 m2 g1 g2 : Int}
    (hs : s1 = FM.top (t - t1) (t2 - t1) ∧ s2 = FM.bot (t - t1) (t2 - t1)) (hm : m1 = FM.top (p2 * q1 - p1 * q2) (q2 * q1) ∧ m2 = FM.bot (p2 * q1 - p1 * q2) (q2 * q1))
    (hg : g1 = FM.top (s1 * m1) (s2 * m2) ∧ g2 = FM.bot (s1 * m1) (s2 * m2)) :
    FM.top (p1 * g2 + g1 * q1) (q1 * g2) = FM.top (p1 * (t2 - t) * q2 + p2 * (t - t1) * q1) ((t2 - t1) * q1 * q2) ∧ FM.bot (p1 * g2 + g1 * q1) (q1 * g2) = FM.bot (p1 * (t2 - t) * q2 + p2 * (t - t1) * q1) ((t2 - t1) * q1 * q2) := by
  have hq1 := L1.pos
  have hq2 := L2.pos
  have hT : t2 - t1 ≠ 0 := by omega
  have hQ : q2 * q1 ≠ 0 := Int.mul_ne_zero (by omega) (by omega)
  have c1 := FM.cross (t := t - t1) hT
  have z1 := (FM.low_of (t := t - t1) hT).pos
  have c2 := FM.cross (t := p2 * q1 - p1 * q2) hQ
  have z2 := (FM.low_of (t := p2 * q1 - p1 * q2) hQ).pos
  rw [← hs.1, ← hs.2] at c1
  rw [← hs.2] at z1
  rw [← hm.1, ← hm.2] at c2
  rw [← hm.2] at z2
  have hG : s2 * m2 ≠ 0 := Int.mul_ne_zero (by omega) (by omega)
  have c3 := FM.cross (t := s1 * m1) hG
  have z3 := (FM.low_of (t := s1 * m1) hG).pos
  rw [← hg.1, ← hg.2] at c3
  rw [← hg.2] at z3
  refine fr_eq (Int.mul_ne_zero (by omega) (by omega)) (Int.mul_ne_zero (Int.mul_ne_zero hT (by omega)) (by omega)) ?_
  refine Int.eq_of_mul_eq_mul_right hG ?_
  grind
end CK
namespace WP
open PySem L2 P2 TM T2 PySem.NumText
local macro_rules | `(tactic| walk_at "den") => `(tactic| try simp (disch := first | assumption | decide | exact Nat.le_of_ble_eq_true rfl) only [q_bind_k, q_bind_x, q_bind_b, q_toS_k, q_toS_x, q_toS_b, q_seq_n, q_seq_r, q_seq_x, q_seq_b, q_turn_n, q_turn_c, q_turn_k, q_turn_r, q_turn_b, q_turn_x, q_fin_r, q_fin_n, q_fin_x, q_noEx_k, q_okO_k, q_ofO_s, q_sSeq_a, q_sNil_a, q_sRet_a, q_sExpr_a, q_sSet_a, q_sIf_a, q_dC_a, q_d1_a, q_d2_a, q_b1B_a, q_b1T_a, q_bAnd_a, q_bOr_a, q_bNot_a, q_dAnd_a, q_dOr_a, q_dNot_a, q_dIf_a, q_dA_a, q_aNil_a, q_aCons_a, q_asN_a, q_dMt_a, q_dSl_a, q_dComp_a, q_sFor_a, q_toO_s, q_gV_a, q_tB_b, q_tT_b, q_tT_i, q_tT_n, q_tT_l, q_tT_t, q_add_i, q_sub_i, q_fdiv_p, q_mod_p, q_lt_i, q_le_i, q_gt_i, q_ge_i, q_neg_i, q_eq_i, q_eq_s, q_eq_b, q_ne_i, q_ne_s, q_in_s, q_ix_l, q_ix_t, q_ix_s, q_sl_l, q_sl_s, q_pI_i, q_len_s, q_len_l, q_len_t, q_abs_i, q_max_i, q_int_s, q_all_l, q_any_l, q_st_s, q_zf_s, q_hs_s, q_fit_p, q_add_sp, q_add_lp, q_mkT_p, q_asI_l, q_asI_t, q_asI_s, q_fmt_s, q_jNil_a, q_jCons_k, q_isX_i, q_isX_b, q_isX_s, q_isX_t, q_isX_l, q_slW_l, q_slW_s, q_is_bb, q_isn_bb, q_is_nn, q_isn_nn, q_is_tn, q_isn_tn, q_v0, q_v1, q_v2, q_v3, q_v4, q_v5, q_v6, q_v7, q_v8, q_v9, q_v10, q_v11, q_v12, q_v13, startD, List.map_cons, List.map_nil, List.length_cons, List.length_nil, Nat.sub_self, Nat.reduceAdd, Nat.reduceSub, List.replicate_zero, List.replicate_succ, List.append_nil, List.nil_append, List.cons_append, List.set_cons_zero, List.set_cons_succ, if_true, if_false, Nat.reduceLT, Nat.zero_lt_succ, Bool.not_true, Bool.not_false, Bool.false_eq_true, reduceIte, decide_true, decide_false, Int.reduceLT, Int.reduceEq, Int.reduceNeg, Int.reducePow, Int.reduceSub, Int.reduceAdd, Int.reduceMul,  List.length_set])
variable {a : Ad}
noncomputable def Sz (n : Nat) (i : Int) : Prop := i.natAbs < 10 ^ n
theorem Sz.mono {m n : Nat} {i : Int} (h : Sz m i) (le : m ≤ n) : Sz n i := Nat.lt_of_lt_of_le h (Nat.pow_le_pow_right (by decide) le)
theorem Sz.mul {m n : Nat} {i j : Int} (h : Sz m i) (g : Sz n j) : Sz (m + n) (i * j) := by
  unfold Sz at *
  rw [Int.natAbs_mul, Nat.pow_add]
  exact Nat.mul_lt_mul'' h g
theorem Sz.add {n : Nat} {i j : Int} (h : Sz n i) (g : Sz n j) : Sz (n + 1) (i + j) := by
  unfold Sz at *
  have : (10 : Nat) ^ (n + 1) = 10 ^ n * 10 := Nat.pow_succ ..
  omega
theorem Sz.sub {n : Nat} {i j : Int} (h : Sz n i) (g : Sz n j) : Sz (n + 1) (i - j) := by
  unfold Sz at *
  have : (10 : Nat) ^ (n + 1) = 10 ^ n * 10 := Nat.pow_succ ..
  omega
theorem Sz.top {n : Nat} {t b : Int} (h : Sz n t) (hb : b ≠ 0) : Sz n (FM.top t b) := Nat.lt_of_le_of_lt (top_le t hb).1 h
theorem Sz.bot {n : Nat} {t b : Int} (h : Sz n b) (hb : b ≠ 0) : Sz n (FM.bot t b) := Nat.lt_of_le_of_lt (top_le t hb).2 h
theorem q_mulS {i j : Int} (h : Sz 190 i) (g : Sz 190 j) : mulUD (.int i) (.int j) = .ok (.int (i * j)) := q_mulU (h.mono (by decide)) (g.mono (by decide))
noncomputable abbrev pr (p q : Int) : D := .tup [.int p, .int q]
section
variable {Ff : List D → R D} (hf : ∀ t b : Int, b ≠ 0 → b.natAbs < 10 ^ 400 → Ff [.int t, .int b] = .ok (fr t b)) {p q x y : Int} (h1 : Sz 190 p) (h2 : Sz 190 q) (h3 : Sz 190 x) (h4 : Sz 190 y)
include hf h1 h2 h3 h4
theorem m_plus (hq : q ≠ 0) (hy : y ≠ 0) : finT (g_plus a Ff (startD 2 [pr p q, pr x y])) = .ok (fr (p * y + x * q) (q * y)) := by
  have i0 : L2.atI [D.int p, D.int q] 0 = some (.int p) := rfl
  have i1 : L2.atI [D.int p, D.int q] 1 = some (.int q) := rfl
  have j0 : L2.atI [D.int x, D.int y] 0 = some (.int x) := rfl
  have j1 : L2.atI [D.int x, D.int y] 1 = some (.int y) := rfl
  have m1 := q_mulS h1 h4
  have m2 := q_mulS h3 h2
  have m3 := q_mulS h2 h4
  have f := hf (p * y + x * q) (q * y) (Int.mul_ne_zero hq hy) ((h2.mul h4).mono (by decide))
  unfold g_plus
  iterate 7 (walk_at "den"; try simp only [i0, i1, j0, j1, m1, m2, m3, f])
theorem m_minus (hq : q ≠ 0) (hy : y ≠ 0) : finT (g_minus a Ff (startD 2 [pr p q, pr x y])) = .ok (fr (p * y - x * q) (q * y)) := by
  have i0 : L2.atI [D.int p, D.int q] 0 = some (.int p) := rfl
  have i1 : L2.atI [D.int p, D.int q] 1 = some (.int q) := rfl
  have j0 : L2.atI [D.int x, D.int y] 0 = some (.int x) := rfl
  have j1 : L2.atI [D.int x, D.int y] 1 = some (.int y) := rfl
  have m1 := q_mulS h1 h4
  have m2 := q_mulS h3 h2
  have m3 := q_mulS h2 h4
  have f := hf (p * y - x * q) (q * y) (Int.mul_ne_zero hq hy) ((h2.mul h4).mono (by decide))
  unfold g_minus
  iterate 7 (walk_at "den"; try simp only [i0, i1, j0, j1, m1, m2, m3, f])
theorem m_times (hq : q ≠ 0) (hy : y ≠ 0) : finT (g_times a Ff (startD 2 [pr p q, pr x y])) = .ok (fr (p * x) (q * y)) := by
  have i0 : L2.atI [D.int p, D.int q] 0 = some (.int p) := rfl
  have i1 : L2.atI [D.int p, D.int q] 1 = some (.int q) := rfl
  have j0 : L2.atI [D.int x, D.int y] 0 = some (.int x) := rfl
  have j1 : L2.atI [D.int x, D.int y] 1 = some (.int y) := rfl
  have m1 := q_mulS h1 h3
  have m3 := q_mulS h2 h4
  have f := hf (p * x) (q * y) (Int.mul_ne_zero hq hy) ((h2.mul h4).mono (by decide))
  unfold g_times
  iterate 7 (walk_at "den"; try simp only [i0, i1, j0, j1, m1, m3, f])
theorem m_over (hq : q ≠ 0) (hx : x ≠ 0) : finT (g_over a Ff (startD 2 [pr p q, pr x y])) = .ok (fr (p * y) (q * x)) := by
  have i0 : L2.atI [D.int p, D.int q] 0 = some (.int p) := rfl
  have i1 : L2.atI [D.int p, D.int q] 1 = some (.int q) := rfl
  have j0 : L2.atI [D.int x, D.int y] 0 = some (.int x) := rfl
  have j1 : L2.atI [D.int x, D.int y] 1 = some (.int y) := rfl
  have m1 := q_mulS h1 h4
  have m3 := q_mulS h2 h3
  have f := hf (p * y) (q * x) (Int.mul_ne_zero hq hx) ((h2.mul h3).mono (by decide))
  unfold g_over
  iterate 7 (walk_at "den"; try simp only [i0, i1, j0, j1, m1, m3, f])
end
structure Ck where
  m : Str
  t : Int
  p : Int
  q : Int
noncomputable abbrev Ck.d (c : Ck) : D := .tup [.str c.m, .int c.t, pr c.p c.q]
theorem m_timeof (c : Ck) : finT (g_time_of a (startD 1 [c.d])) = .ok (.int c.t) := rfl
theorem compO_filter {α : Type} {ga : D → Ev → Option Ev} {fc : Ev → R Bool} {fe : Ev → R D} {ρ0 : Ev} (f : α → D) (pr : α → Bool) (ρ1 : D → Ev) : ∀ (xs : List α), (∀ x ∈ xs, ga (f x) ρ0 = some (ρ1 (f x)) ∧ fc (ρ1 (f x)) = .ok (pr x) ∧ fe (ρ1 (f x)) = .ok (f x)) → compO ga fc fe ρ0 (xs.map f) = some ((xs.filter pr).map f)
  | [], _ => rfl
  | x :: xs, H => by
    obtain ⟨h1, h2, h3⟩ := H x (List.mem_cons_self ..)
    have ih := compO_filter f pr ρ1 xs fun y hy => H y (List.mem_cons_of_mem _ hy)
    show ((ga (f x) ρ0).bind fun ρ1 => (okO (fc ρ1)).bind fun b => if b = true then (okO (fe ρ1)).bind fun v => (compO ga fc fe ρ0 (xs.map f)).bind fun vs => some (v :: vs) else compO ga fc fe ρ0 (xs.map f)) = _
    rw [h1, Option.bind_some, h2]
    show (if pr x = true then (okO (fe (ρ1 (f x)))).bind fun v => (compO ga fc fe ρ0 (xs.map f)).bind fun vs => some (v :: vs) else compO ga fc fe ρ0 (xs.map f)) = _
    cases hp : pr x with
    | false => rw [if_neg (by simp), ih, List.filter_cons_of_neg (by simp [hp])]
    | true =>
      rw [if_pos rfl, h3, ih, List.filter_cons_of_pos hp]
      rfl
theorem key_map {α : Type} {F : List D → R D} (f : α → D) (k : α → Int) (h : ∀ x, F [f x] = .ok (.int (k x))) : ∀ xs : List α, keyD F (xs.map f) = some (xs.map k)
  | [] => rfl
  | x :: xs => by
    show (match F [f x] with | .ok (.int k) => (keyD F (xs.map f)).map (k :: ·) | _ => none) = _
    rw [h x]
    show (keyD F (xs.map f)).map (k x :: ·) = _
    rw [key_map f k h xs]; rfl
theorem pick_map {α : Type} (f : α → D) (k : α → Int) : ∀ (xs : List α) (b : α), pickD (f b) (k b) (xs.map f) (xs.map k) = f (CK.pickC k b xs)
  | [], b => rfl
  | x :: xs, b => by
    show (if k b < k x then pickD (f x) (k x) (xs.map f) (xs.map k) else pickD (f b) (k b) (xs.map f) (xs.map k)) = _
    unfold CK.pickC
    split
    · exact pick_map f k xs x
    · exact pick_map f k xs b
noncomputable def optD {α : Type} (f : α → D) (o : Option α) (d : D) : D := match o with
  | some x => f x
  | none => d
theorem best_max {α : Type} {F : List D → R D} (f : α → D) (k : α → Int) (h : ∀ x, F [f x] = .ok (.int (k x))) (xs : List α) (d : D) : bestD false F (.lst (xs.map f)) d = .ok (optD f (CK.maxC k xs) d) := by
  rw [best_def, key_map f k h]
  cases xs with
  | nil => rfl
  | cons x xs => show R.ok (pickD (f x) (k x) (xs.map f) (xs.map k)) = _; rw [pick_map]; rfl
theorem best_min {α : Type} {F : List D → R D} (f : α → D) (k : α → Int) (h : ∀ x, F [f x] = .ok (.int (k x))) (xs : List α) (d : D) : bestD true F (.lst (xs.map f)) d = .ok (optD f (CK.maxC (fun x => - k x) xs) d) := by
  rw [best_def, key_map f k h]
  cases xs with
  | nil => rfl
  | cons x xs =>
    show R.ok (pickD (f x) (- k x) (xs.map f) ((xs.map k).map (- ·))) = _
    rw [List.map_map, show ((- ·) ∘ k : α → Int) = fun x => - k x from rfl, pick_map f (fun x => - k x)]
    rfl
noncomputable def ahead (L : List Ck) (m : Str) (t : Int) : Option Ck := CK.maxC (fun c => c.t) (L.filter fun c => decide (c.t ≤ t) && decide (c.m = m))
noncomputable def behind (L : List Ck) (m : Str) (t : Int) : Option Ck := CK.maxC (fun c => - c.t) (L.filter fun c => decide (t ≤ c.t) && decide (c.m = m))
noncomputable def shareD (t t1 t2 : Int) : Int × Int := if t1 = t2 then (0, 1) else (FM.top (t - t1) (t2 - t1), FM.bot (t - t1) (t2 - t1))
noncomputable def betw (t : Int) (c d : Ck) : Int × Int :=
  let s := shareD t c.t d.t
  let mt := FM.top (d.p * c.q - c.p * d.q) (d.q * c.q)
  let mb := FM.bot (d.p * c.q - c.p * d.q) (d.q * c.q)
  let gt := FM.top (s.1 * mt) (s.2 * mb)
  let gb := FM.bot (s.1 * mt) (s.2 * mb)
  (FM.top (c.p * gb + gt * c.q) (c.q * gb), FM.bot (c.p * gb + gt * c.q) (c.q * gb))
noncomputable def offP (L : List Ck) (m : Str) (t : Int) : Int × Int := match ahead L m t, behind L m t with
  | none, none => (0, 1)
  | some c, none => betw t c c
  | none, some d => betw t d d
  | some c, some d => betw t c d
structure Ck.Ok (c : Ck) : Prop where
  low : FM.Low c.p c.q
  p : Sz 9 c.p
  q : Sz 6 c.q
  t : 0 ≤ c.t ∧ c.t ≤ 1000000000
  s : PyData.strOk c.m = true
theorem own_none {L : List Ck} {m : Str} {t : Int} (h : L.filter (fun c => decide (c.m = m)) = []) : ahead L m t = none ∧ behind L m t = none := by
  have e : ∀ p : Ck → Bool, L.filter (fun c => p c && decide (c.m = m)) = [] := fun p =>
    List.filter_eq_nil_iff.mpr fun c hc w => List.filter_eq_nil_iff.mp h c hc (by simp only [Bool.and_eq_true] at w; exact w.2)
  unfold ahead behind
  rw [e, e]
  exact ⟨rfl, rfl⟩
theorem own_some {L : List Ck} {m : Str} {t : Int} (h : L.filter (fun c => decide (c.m = m)) ≠ []) : ¬ (ahead L m t = none ∧ behind L m t = none) := by
  rintro ⟨h1, h2⟩
  obtain ⟨c, hc⟩ := List.exists_mem_of_ne_nil _ h
  obtain ⟨hc1, hc2⟩ := List.mem_filter.mp hc
  have e1 := (CK.max_none _).mp h1
  have e2 := (CK.max_none _).mp h2
  have z1 := List.filter_eq_nil_iff.mp e1 c hc1
  have z2 := List.filter_eq_nil_iff.mp e2 c hc1
  simp only [hc2, Bool.and_true, decide_eq_true_eq] at z1 z2
  omega
theorem ahead_in {L : List Ck} {m : Str} {t : Int} {c : Ck} (h : ahead L m t = some c) : c ∈ L ∧ c.m = m ∧ c.t ≤ t := by
  have := (CK.max_spec _ h).1
  obtain ⟨h1, h2⟩ := List.mem_filter.mp this
  simp only [Bool.and_eq_true, decide_eq_true_eq] at h2
  exact ⟨h1, h2.2, h2.1⟩
theorem behind_in {L : List Ck} {m : Str} {t : Int} {c : Ck} (h : behind L m t = some c) : c ∈ L ∧ c.m = m ∧ t ≤ c.t := by
  have := (CK.max_spec _ h).1
  obtain ⟨h1, h2⟩ := List.mem_filter.mp this
  simp only [Bool.and_eq_true, decide_eq_true_eq] at h2
  exact ⟨h1, h2.2, h2.1⟩
noncomputable abbrev Ck.y (c : Ck) : PyData := .tuple [.str c.m, .int c.t, .tuple [.int c.p, .int c.q]]
theorem py_cks : ∀ L : List Ck, pyDs (L.map Ck.d) = some (L.map Ck.y)
  | [] => rfl
  | c :: L => by
    show ((pyD c.d).bind fun p => (pyDs (L.map Ck.d)).map (p :: ·)) = _
    rw [py_cks L]; rfl
theorem lay_cks : ∀ L : List Ck, (∀ c ∈ L, c.Ok) → PyData.canLayAll0 (L.map Ck.y) = true
  | [], _ => rfl
  | c :: L, h => by
    show (PyData.canLay0 c.y && PyData.canLayAll0 (L.map Ck.y)) = true
    rw [lay_cks L fun x hx => h x (List.mem_cons_of_mem _ hx), Bool.and_true]
    have := (h c (List.mem_cons_self ..)).s
    simp [PyData.canLay0, PyData.canLayAll0, this]
theorem dep_cks : ∀ L : List Ck, PyData.depthAll (L.map Ck.y) ≤ 2
  | [] => by simp [PyData.depthAll]
  | c :: L => by
    have := dep_cks L
    simp [PyData.depthAll, PyData.depth] at this ⊢
    omega
theorem shp_cks (L : List Ck) (h : ∀ c ∈ L, c.Ok) : SeqAt.shaped (.list (L.map Ck.y)) = true := by
  have d := dep_cks L
  unfold SeqAt.shaped
  simp only [PyData.canLay0, lay_cks L h, Bool.true_and, decide_eq_true_eq]
  simp only [PyData.depth]
  omega
theorem eqv_cks (L M : List Ck) (h : ∀ c ∈ L, c.Ok) (h' : ∀ c ∈ M, c.Ok) : eqvD (.lst (L.map Ck.d)) (.lst (M.map Ck.d)) = some (PyData.eqvAll (L.map Ck.y) (M.map Ck.y)) := by
  show (((pyDs (L.map Ck.d)).map PyData.list).bind fun p => ((pyDs (M.map Ck.d)).map PyData.list).bind fun q => if (SeqAt.shaped p && SeqAt.shaped q) = true then some (PyData.eqv p q) else none) = _
  rw [py_cks, py_cks]
  show (if (SeqAt.shaped (.list (L.map Ck.y)) && SeqAt.shaped (.list (M.map Ck.y))) = true then some (PyData.eqv (.list (L.map Ck.y)) (.list (M.map Ck.y))) else none) = _
  rw [shp_cks L h, shp_cks M h', if_pos (by rfl)]
  simp [PyData.eqv]
theorem eq_nil (L : List Ck) (h : ∀ c ∈ L, c.Ok) : eqDD (.lst (L.map Ck.d)) (.lst []) = .ok (.bl (decide (L = []))) := by
  have e := eqv_cks L [] h (fun c hc => by simp at hc)
  unfold eqDD
  rw [show ([] : List D) = List.map Ck.d [] from rfl, e]
  cases L with
  | nil => simp [PyData.eqvAll]
  | cons c L => simp [PyData.eqvAll]
theorem m_share {Ff : List D → R D} (hf : ∀ t b : Int, b ≠ 0 → b.natAbs < 10 ^ 400 → Ff [.int t, .int b] = .ok (fr t b)) (t t1 t2 : Int) (h1 : Sz 20 t1) (h2 : Sz 20 t2) : finT (g_share_at a Ff (startD 3 [.int t, .int t1, .int t2])) = .ok (pr (shareD t t1 t2).1 (shareD t t1 t2).2) := by
  unfold g_share_at shareD
  by_cases e : t1 = t2
  · have f := hf 0 1 (by decide) (by decide)
    have f' : Ff [.int 0, .int 1] = .ok (pr 0 1) := by rw [f]; rfl
    iterate 5 (walk_at "den"; try simp only [e, f', decide_true])
  · have f := hf (t - t1) (t2 - t1) (by omega) ((h2.sub h1).mono (by decide))
    iterate 5 (walk_at "den"; try simp only [e, f, decide_false])
structure Os (a : Ad) (Ff Ft Fs Fm Fx Fp : List D → R D) : Prop where
  f : ∀ t b : Int, b ≠ 0 → b.natAbs < 10 ^ 400 → Ff [.int t, .int b] = .ok (fr t b)
  t : ∀ c : Ck, Ft [c.d] = .ok (.int c.t)
  s : ∀ t t1 t2 : Int, Sz 20 t1 → Sz 20 t2 → Fs [.int t, .int t1, .int t2] = .ok (pr (shareD t t1 t2).1 (shareD t t1 t2).2)
  m : ∀ p q x y : Int, Sz 190 p → Sz 190 q → Sz 190 x → Sz 190 y → q ≠ 0 → y ≠ 0 → Fm [pr p q, pr x y] = .ok (fr (p * y - x * q) (q * y))
  x : ∀ p q x y : Int, Sz 190 p → Sz 190 q → Sz 190 x → Sz 190 y → q ≠ 0 → y ≠ 0 → Fx [pr p q, pr x y] = .ok (fr (p * x) (q * y))
  p : ∀ p q x y : Int, Sz 190 p → Sz 190 q → Sz 190 x → Sz 190 y → q ≠ 0 → y ≠ 0 → Fp [pr p q, pr x y] = .ok (fr (p * y + x * q) (q * y))
theorem sz_time {t : Int} (h : 0 ≤ t ∧ t ≤ 1000000000) : Sz 10 t := by unfold Sz; omega
theorem share_sz {t t1 t2 : Int} (h : 0 ≤ t ∧ t ≤ 1000000000) (h1 : 0 ≤ t1 ∧ t1 ≤ 1000000000) (h2 : 0 ≤ t2 ∧ t2 ≤ 1000000000) : Sz 11 (shareD t t1 t2).1 ∧ Sz 11 (shareD t t1 t2).2 ∧ (shareD t t1 t2).2 ≠ 0 := by
  unfold shareD
  split
  · exact ⟨by unfold Sz; decide, by unfold Sz; decide, by decide⟩
  · rename_i e
    have hz : t2 - t1 ≠ 0 := by omega
    exact ⟨((sz_time h).sub (sz_time h1)).top hz, ((sz_time h2).sub (sz_time h1)).bot hz, by have := (FM.low_of (t := t - t1) hz).pos; show FM.bot (t - t1) (t2 - t1) ≠ 0; omega⟩
theorem betw_run {Ff Ft Fs Fm Fx Fp : List D → R D} (O : Os a Ff Ft Fs Fm Fx Fp) {t : Int} (h : 0 ≤ t ∧ t ≤ 1000000000) {c d : Ck} (hc : c.Ok) (hd : d.Ok) :
    ∃ d1 d2 d3 : D, Fs [.int t, .int c.t, .int d.t] = .ok d1 ∧ Fm [pr d.p d.q, pr c.p c.q] = .ok d2 ∧ Fx [d1, d2] = .ok d3 ∧ Fp [pr c.p c.q, d3] = .ok (pr (betw t c d).1 (betw t c d).2) := by
  obtain ⟨s1, s2, s3⟩ := share_sz h hc.t hd.t
  have hcq := hc.low.pos
  have hdq := hd.low.pos
  have hQ : d.q * c.q ≠ 0 := Int.mul_ne_zero (by omega) (by omega)
  have mz1 : Sz 16 (d.p * c.q - c.p * d.q) := (hd.p.mul hc.q).sub (hc.p.mul hd.q)
  have mz2 : Sz 12 (d.q * c.q) := hd.q.mul hc.q
  have mb := (FM.low_of (t := d.p * c.q - c.p * d.q) hQ).pos
  have gz1 : Sz 27 ((shareD t c.t d.t).1 * FM.top (d.p * c.q - c.p * d.q) (d.q * c.q)) := s1.mul (mz1.top hQ)
  have gz2 : Sz 23 ((shareD t c.t d.t).2 * FM.bot (d.p * c.q - c.p * d.q) (d.q * c.q)) := s2.mul (mz2.bot hQ)
  have gq : (shareD t c.t d.t).2 * FM.bot (d.p * c.q - c.p * d.q) (d.q * c.q) ≠ 0 := Int.mul_ne_zero s3 (by omega)
  have gb := (FM.low_of (t := (shareD t c.t d.t).1 * FM.top (d.p * c.q - c.p * d.q) (d.q * c.q)) gq).pos
  refine ⟨_, _, _, O.s t c.t d.t ((sz_time hc.t).mono (by decide)) ((sz_time hd.t).mono (by decide)), O.m d.p d.q c.p c.q (hd.p.mono (by decide)) (hd.q.mono (by decide)) (hc.p.mono (by decide)) (hc.q.mono (by decide)) (by omega) (by omega),
    O.x _ _ _ _ (s1.mono (by decide)) (s2.mono (by decide)) ((mz1.top hQ).mono (by decide)) ((mz2.bot hQ).mono (by decide)) s3 (by omega), ?_⟩
  exact O.p _ _ _ _ (hc.p.mono (by decide)) (hc.q.mono (by decide)) ((gz1.top gq).mono (by decide)) ((gz2.bot gq).mono (by decide)) (by omega) (by omega)
theorem m_value {Ff Ft Fs Fm Fx Fp : List D → R D} (O : Os a Ff Ft Fs Fm Fx Fp) {t : Int} (h : 0 ≤ t ∧ t ≤ 1000000000) {c d : Ck} (hc : c.Ok) (hd : d.Ok) :
    finT (g_value_at a Fs Fm Fx Fp (startD 4 [.int t, c.d, d.d])) = .ok (pr (betw t c d).1 (betw t c d).2) := by
  obtain ⟨r1, r2, r3, g1, g2, g3, g4⟩ := betw_run O h hc hd
  have j1 : L2.atI [D.str c.m, .int c.t, pr c.p c.q] 1 = some (.int c.t) := rfl
  have j2 : L2.atI [D.str c.m, .int c.t, pr c.p c.q] 2 = some (pr c.p c.q) := rfl
  have k1 : L2.atI [D.str d.m, .int d.t, pr d.p d.q] 1 = some (.int d.t) := rfl
  have k2 : L2.atI [D.str d.m, .int d.t, pr d.p d.q] 2 = some (pr d.p d.q) := rfl
  unfold g_value_at
  iterate 9 (walk_at "den"; try simp only [j1, j2, k1, k2, g1, g2, g3, g4])
structure Ov (a : Ad) (Ff Ft Fv : List D → R D) : Prop where
  f : ∀ t b : Int, b ≠ 0 → b.natAbs < 10 ^ 400 → Ff [.int t, .int b] = .ok (fr t b)
  t : ∀ c : Ck, Ft [c.d] = .ok (.int c.t)
  v : ∀ {t : Int}, (0 ≤ t ∧ t ≤ 1000000000) → ∀ {c d : Ck}, c.Ok → d.Ok → Fv [.int t, c.d, d.d] = .ok (pr (betw t c d).1 (betw t c d).2)
theorem m_off {Ff Ft Fv : List D → R D} (O : Ov a Ff Ft Fv) (L : List Ck) (hL : ∀ c ∈ L, c.Ok) (hl : L.length ≤ 1000) (m : Str) (t : Int) (h : 0 ≤ t ∧ t ≤ 1000000000) :
    finT (g_off_at a Ff Ft Fv (startD 6 [.str m, .int t, .lst (L.map Ck.d)])) = .ok (pr (offP L m t).1 (offP L m t).2) := by
  have szl : (L.map Ck.d).length ≤ sizeLine := by rw [List.length_map]; exact size_of (by omega)
  have c1 : ∀ ρ : Ev, ρ[0]? = some (.sh (.str m)) → compO (gV 0) (b1 tB (d2 eqSD (d2 ixD (dV 0) (dC (.int 0))) (dV 1))) (dV 0) (capD 1 [0] ρ) (L.map Ck.d) = some ((L.filter fun c => decide (c.m = m)).map Ck.d) := fun ρ e => by
    refine compO_filter Ck.d _ (fun d => [.sh d, .sh (.str m)]) L fun c _ => ⟨?_, rfl, rfl⟩
    unfold capD
    simp only [List.map_cons, List.map_nil, e]
    rfl
  generalize hown : L.filter (fun c => decide (c.m = m)) = own at c1
  have hO : ∀ c ∈ own, c.Ok := fun c hc => by rw [← hown] at hc; exact hL c (List.mem_filter.mp hc).1
  have ln : own.length ≤ 1000 := by rw [← hown]; exact Nat.le_trans (List.length_filter_le _ _) hl
  have szo : (own.map Ck.d).length ≤ sizeLine := by rw [List.length_map]; exact size_of (by omega)
  have en := eq_nil own hO
  have c2 : ∀ ρ : Ev, ρ[1]? = some (.sh (.int t)) → compO (gV 0) (b1 tB (d2 leD (d2 ixD (dV 0) (dC (.int 1))) (dV 1))) (dV 0) (capD 1 [1] ρ) (own.map Ck.d) = some ((own.filter fun c => decide (c.t ≤ t)).map Ck.d) := fun ρ e => by
    refine compO_filter Ck.d _ (fun d => [.sh d, .sh (.int t)]) own fun c _ => ⟨?_, rfl, rfl⟩
    unfold capD
    simp only [List.map_cons, List.map_nil, e]
    rfl
  have c3 : ∀ ρ : Ev, ρ[1]? = some (.sh (.int t)) → compO (gV 0) (b1 tB (d2 geD (d2 ixD (dV 0) (dC (.int 1))) (dV 1))) (dV 0) (capD 1 [1] ρ) (own.map Ck.d) = some ((own.filter fun c => decide (t ≤ c.t)).map Ck.d) := fun ρ e => by
    refine compO_filter Ck.d _ (fun d => [.sh d, .sh (.int t)]) own fun c _ => ⟨?_, rfl, rfl⟩
    unfold capD
    simp only [List.map_cons, List.map_nil, e]
    rfl
  have b1 := best_max Ck.d (fun c => c.t) O.t (own.filter fun c => decide (c.t ≤ t)) .non
  have b2 := best_min Ck.d (fun c => c.t) O.t (own.filter fun c => decide (t ≤ c.t)) .non
  have ea : CK.maxC (fun c : Ck => c.t) (own.filter fun c => decide (c.t ≤ t)) = ahead L m t := by unfold ahead; rw [← hown, List.filter_filter]
  have eb : CK.maxC (fun c : Ck => - c.t) (own.filter fun c => decide (t ≤ c.t)) = behind L m t := by unfold behind; rw [← hown, List.filter_filter]
  rw [ea] at b1
  rw [eb] at b2
  unfold g_off_at
  by_cases ho : own = []
  · obtain ⟨z1, z2⟩ := own_none (t := t) (hown.trans ho)
    have f := O.f 0 1 (by decide) (by decide)
    have f' : Ff [.int 0, .int 1] = .ok (pr 0 1) := by rw [f]; rfl
    have eo : offP L m t = (0, 1) := by unfold offP; rw [z1, z2]
    have c1' := c1 [.sh (.str m), .sh (.int t), .sh (.lst (L.map Ck.d)), .no, .no, .no] rfl
    subst ho
    rw [List.map_nil] at c1' en
    have en' : eqDD (.lst []) (.lst []) = .ok (.bl true) := en
    rw [eo]
    iterate 9 (walk_at "den"; try simp only [if_pos szl, c1', en', f'])
  · have c1' := c1 [.sh (.str m), .sh (.int t), .sh (.lst (L.map Ck.d)), .no, .no, .no] rfl
    have en' : eqDD (.lst (own.map Ck.d)) (.lst []) = .ok (.bl false) := by rw [en]; simp [ho]
    have c2' := c2 [.sh (.str m), .sh (.int t), .sh (.lst (L.map Ck.d)), .sh (.lst (own.map Ck.d)), .no, .no] rfl
    have c3' : ∀ s4, compO (gV 0) (P2.b1 tB (d2 geD (d2 ixD (dV 0) (dC (.int 1))) (dV 1))) (dV 0) (capD 1 [1] [.sh (.str m), .sh (.int t), .sh (.lst (L.map Ck.d)), .sh (.lst (own.map Ck.d)), s4, .no]) (own.map Ck.d) = some ((own.filter fun c => decide (t ≤ c.t)).map Ck.d) := fun s4 => c3 _ rfl
    have db : ∀ (neg : Bool) (F : List D → R D) (fa fb : Ev → R D) (ρ : Ev), dBest neg F fa fb ρ = (fa ρ).bind fun l => (fb ρ).bind fun d => bestD neg F l d := fun _ _ _ _ _ => rfl
    have ns := own_some (t := t) (by rw [hown]; exact ho)
    cases ha : ahead L m t with
    | none =>
      cases hb : behind L m t with
      | none => exact absurd ⟨ha, hb⟩ ns
      | some d =>
        have hdO := hL d (behind_in hb).1
        have g1 := O.v h hdO hdO
        have eo : offP L m t = betw t d d := by unfold offP; rw [ha, hb]
        rw [ha] at b1
        rw [hb] at b2
        unfold optD at b1 b2
        dsimp only at b1 b2
        have k1 : L2.atI [D.str d.m, .int d.t, pr d.p d.q] 1 = some (.int d.t) := rfl
        have k2 : L2.atI [D.str d.m, .int d.t, pr d.p d.q] 2 = some (pr d.p d.q) := rfl
        rw [eo]
        iterate 16 (walk_at "den"; try simp only [if_pos szl, if_pos szo, c1', en', c2', c3', db, b1, b2, k1, k2, g1])
    | some c =>
      have hcO := hL c (ahead_in ha).1
      have j1 : L2.atI [D.str c.m, .int c.t, pr c.p c.q] 1 = some (.int c.t) := rfl
      have j2 : L2.atI [D.str c.m, .int c.t, pr c.p c.q] 2 = some (pr c.p c.q) := rfl
      cases hb : behind L m t with
      | none =>
        have g1 := O.v h hcO hcO
        have eo : offP L m t = betw t c c := by unfold offP; rw [ha, hb]
        rw [ha] at b1
        rw [hb] at b2
        unfold optD at b1 b2
        dsimp only at b1 b2
        rw [eo]
        iterate 16 (walk_at "den"; try simp only [if_pos szl, if_pos szo, c1', en', c2', c3', db, b1, b2, j1, j2, g1])
      | some d =>
        have hdO := hL d (behind_in hb).1
        have g1 := O.v h hcO hdO
        have eo : offP L m t = betw t c d := by unfold offP; rw [ha, hb]
        rw [ha] at b1
        rw [hb] at b2
        unfold optD at b1 b2
        dsimp only at b1 b2
        have k1 : L2.atI [D.str d.m, .int d.t, pr d.p d.q] 1 = some (.int d.t) := rfl
        have k2 : L2.atI [D.str d.m, .int d.t, pr d.p d.q] 2 = some (pr d.p d.q) := rfl
        rw [eo]
        iterate 16 (walk_at "den"; try simp only [if_pos szl, if_pos szo, c1', en', c2', c3', db, b1, b2, j1, j2, k1, k2, g1])
theorem betw_eq {t : Int} {c d : Ck} (hc : c.Ok) (hd : d.Ok) (e : c.t = d.t) : betw t c d = (c.p, c.q) := by
  have hs : shareD t c.t d.t = (0, 1) := by unfold shareD; rw [if_pos e]
  have hQ : d.q * c.q ≠ 0 := Int.mul_ne_zero (by have := hd.low.pos; omega) (by have := hc.low.pos; omega)
  have mbp := (FM.low_of (t := d.p * c.q - c.p * d.q) hQ).pos
  unfold betw
  rw [hs]
  dsimp only
  generalize FM.top (d.p * c.q - c.p * d.q) (d.q * c.q) = mt at *
  generalize FM.bot (d.p * c.q - c.p * d.q) (d.q * c.q) = mb at *
  rw [Int.zero_mul, Int.one_mul]
  have gq : mb ≠ 0 := by omega
  have gb := (FM.low_of (t := 0) gq).pos
  rw [FM.top_zero gq]
  generalize FM.bot 0 mb = g at *
  have hq : c.q * g ≠ 0 := Int.mul_ne_zero (by have := hc.low.pos; omega) (by omega)
  obtain ⟨e1, e2⟩ := CK.fr_low (x := c.p * g + 0 * c.q) hq hc.low (by grind)
  rw [e1, e2]
theorem betw_lt {t : Int} {c d : Ck} (hc : c.Ok) (hd : d.Ok) (e : c.t < d.t) :
    betw t c d = (FM.top (c.p * (d.t - t) * d.q + d.p * (t - c.t) * c.q) ((d.t - c.t) * c.q * d.q), FM.bot (c.p * (d.t - t) * d.q + d.p * (t - c.t) * c.q) ((d.t - c.t) * c.q * d.q)) := by
  have hs : shareD t c.t d.t = (FM.top (t - c.t) (d.t - c.t), FM.bot (t - c.t) (d.t - c.t)) := by unfold shareD; rw [if_neg (by omega)]
  unfold betw
  rw [hs]
  dsimp only
  obtain ⟨e1, e2⟩ := CK.share (t := t) hc.low hd.low e ⟨rfl, rfl⟩ ⟨rfl, rfl⟩ ⟨rfl, rfl⟩
  rw [e1, e2]
noncomputable def Uniq (L : List Ck) : Prop := ∀ c ∈ L, ∀ d ∈ L, c.m = d.m → c.t = d.t → c = d
noncomputable def offL (L : List Ck) (m : Str) (t : Int) : Int × Int := match ahead L m t, behind L m t with
  | none, none => (0, 1)
  | some c, none => (c.p, c.q)
  | none, some d => (d.p, d.q)
  | some c, some d => if c.t = d.t then (c.p, c.q) else (FM.top (c.p * (d.t - t) * d.q + d.p * (t - c.t) * c.q) ((d.t - c.t) * c.q * d.q), FM.bot (c.p * (d.t - t) * d.q + d.p * (t - c.t) * c.q) ((d.t - c.t) * c.q * d.q))
theorem off_eq {L : List Ck} (hL : ∀ c ∈ L, c.Ok) (m : Str) (t : Int) : offP L m t = offL L m t := by
  unfold offP offL
  cases ha : ahead L m t with
  | none =>
    cases hb : behind L m t with
    | none => rfl
    | some d => have := hL d (behind_in hb).1; exact betw_eq this this rfl
  | some c =>
    have hc := hL c (ahead_in ha).1
    cases hb : behind L m t with
    | none => exact betw_eq hc hc rfl
    | some d =>
      have hd := hL d (behind_in hb).1
      dsimp only
      split
      · rename_i e; exact betw_eq hc hd e
      · have h1 := (ahead_in ha).2.2
        have h2 := (behind_in hb).2.2
        exact betw_lt hc hd (by omega)
theorem off_low {L : List Ck} (hL : ∀ c ∈ L, c.Ok) (m : Str) {t : Int} (ht : 0 ≤ t ∧ t ≤ 1000000000) : FM.Low (offP L m t).1 (offP L m t).2 ∧ Sz 30 (offP L m t).1 ∧ Sz 30 (offP L m t).2 := by
  rw [off_eq hL]
  unfold offL
  cases ha : ahead L m t with
  | none =>
    cases hb : behind L m t with
    | none => exact ⟨(⟨by decide, by decide⟩ : FM.Low 0 1), (by unfold Sz; decide : Sz 30 0), (by unfold Sz; decide : Sz 30 1)⟩
    | some d => have := hL d (behind_in hb).1; exact ⟨this.low, this.p.mono (by decide), this.q.mono (by decide)⟩
  | some c =>
    have hc := hL c (ahead_in ha).1
    cases hb : behind L m t with
    | none => exact ⟨hc.low, hc.p.mono (by decide), hc.q.mono (by decide)⟩
    | some d =>
      have hd := hL d (behind_in hb).1
      dsimp only
      split
      · exact ⟨hc.low, hc.p.mono (by decide), hc.q.mono (by decide)⟩
      · rename_i e
        have hz : (d.t - c.t) * c.q * d.q ≠ 0 := Int.mul_ne_zero (Int.mul_ne_zero (by omega) (by have := hc.low.pos; omega)) (by have := hd.low.pos; omega)
        have s1 : Sz 26 (c.p * (d.t - t) * d.q) := (hc.p.mul ((sz_time hd.t).sub (sz_time ht))).mul hd.q
        have s2 : Sz 26 (d.p * (t - c.t) * c.q) := (hd.p.mul ((sz_time ht).sub (sz_time hc.t))).mul hc.q
        have s3 : Sz 23 ((d.t - c.t) * c.q * d.q) := (((sz_time hd.t).sub (sz_time hc.t)).mul hc.q).mul hd.q
        exact ⟨FM.low_of hz, ((s1.add s2).top hz).mono (by decide), (s3.bot hz).mono (by decide)⟩
end WP
namespace WP
open PySem L2 P2
noncomputable def g_law_cell_at (a : Ad) : Ev → RT := (sSeq (sIf (b1 tB (d2 ltD (dV 1) (dA lenD (aCons (dV 0) aNil)))) (sRet (d2 ixD (dV 0) (dV 1))) sNil)
    (sRet (dC (.int 0))))
noncomputable def b1_law_low (a : Ad) : Ev → RT := (sPar 2 3 (aCons (dV 3) (aCons (d2 modD (dV 2) (dV 3)) aNil)))
noncomputable def g_law_low (a : Ad) : Ev → RT := (sSeq (sPar 2 3 (aCons (dA absD (aCons (dV 0) aNil)) (aCons (dV 1) aNil)))
    (sSeq (whileD (b1 tB (d2 gtD (dV 3) (dC (.int 0)))) (b1_law_low a) 10000000000000000000000000000000000000000000000000000000000000000000000000000000000000000000000000000000000000000000000000000000000000000000000000000000000000000000000000000000000000000000000000000000000000000000000000000000000000000000000000000000000000000000000000000000000000000000000000000000000000000000000000000000000000000000000000000000000000000000000000000000000000000000000000000000000000000)
    (sRet (dA mkT (aCons (d2 fdivD (dV 0) (dV 2)) (aCons (d2 fdivD (dV 1) (dV 2)) aNil))))))
noncomputable def b1_law_word (a : Ad) : Ev → RT := (sSet 5 (d2 addD (dV 5) (d2 ixD (dC (.str "qxz")) (d2 modD (d2 fdivD (dV 0) (d2 addD (dC (.int 3)) (dV 6))) (dC (.int 3))))))
noncomputable def g_law_word (a : Ad) : Ev → RT := (sSeq (sSet 2 (dC (.str "abcdefghijklmnopqrstuvwxyz")))
    (sSeq (sSet 3 (d2 ixD (asN (fun ρ => ((aCons (dC (.int 1)) (aCons (dC (.int 3)) (aCons (dC (.int 5)) (aCons (dC (.int 7)) (aCons (dC (.int 9)) (aCons (dC (.int 11)) (aCons (dC (.int 15)) (aCons (dC (.int 17)) (aCons (dC (.int 19)) (aCons (dC (.int 21)) (aCons (dC (.int 23)) (aCons (dC (.int 25)) aNil)))))))))))) ρ).bind fitL)) (d2 modD (d2 fdivD (dV 0) (dC (.int 26))) (dC (.int 12)))))
    (sSeq (sSet 4 (d2 addD (d2 ixD (dV 2) (d2 modD (d2 addD (dV 0) (d2 mulUD (dV 1) (dV 3))) (dC (.int 26)))) (d2 ixD (dC (.str "qxz")) (d2 modD (d2 fdivD (dV 1) (dC (.int 26))) (dC (.int 3))))))
    (sSeq (sSet 5 (dC (.str "")))
    (sSeq (sFor (fun ρ => ((aCons (d2 modD (d2 fdivD (dV 0) (dC (.int 312))) (dC (.int 7))) aNil) ρ).bind rng1) (gV 6) (b1_law_word a))
    (sSeq (sIf (b1 tB (d2 eqSD (d2 modD (d2 fdivD (dV 0) (dC (.int 2184))) (dC (.int 2))) (dC (.int 1)))) (sRet (d2 addD (dV 5) (dV 4))) sNil)
    (sRet (d2 addD (dV 4) (dV 5)))))))))
noncomputable def g_law_mixed (a : Ad) : Ev → RT := (sSeq (sSet 2 (d2 modD (dV 0) (dC (.int 2147483647))))
    (sRet (d2 modD (d2 mulUD (d2 mulUD (d2 addD (d2 addD (dV 2) (d2 mulUD (dC (.int 31)) (dV 1))) (dC (.int 1))) (dC (.int 48271))) (d2 addD (d2 addD (dV 2) (d2 mulUD (dC (.int 3)) (dV 1))) (dC (.int 7)))) (dC (.int 2147483629)))))
noncomputable def g_law_time (a : Ad) : Ev → RT := (sSeq (sIf (b1 tB (d2 eqSD (d2 modD (dV 0) (dC (.int 7))) (dC (.int 6)))) (sRet (d2 modD (d2 fdivD (dV 0) (dC (.int 7))) (d2 addD (d2 powD (dC (.int 10)) (dC (.int 9))) (dC (.int 1))))) sNil)
    (sRet (d2 addD (dV 1) (d2 modD (d2 fdivD (dV 0) (dC (.int 7))) (dC (.int 30))))))
noncomputable def g_law_share (a : Ad) (F_law_mixed : List D → R D) (F_law_low : List D → R D) : Ev → RT := (sSeq (sSet 1 (d2 subD (d2 modD (d2 fdivD (dA F_law_mixed (aCons (dV 0) (aCons (dC (.int 1)) aNil))) (dC (.int 5))) (dC (.int 19))) (dC (.int 9))))
    (sSeq (sSet 2 (d2 addD (dC (.int 1)) (d2 modD (d2 fdivD (dA F_law_mixed (aCons (dV 0) (aCons (dC (.int 2)) aNil))) (dC (.int 5))) (dC (.int 6)))))
    (sSeq (sIf (b1 tB (d2 eqSD (d2 modD (d2 fdivD (dA F_law_mixed (aCons (dV 0) (aCons (dC (.int 3)) aNil))) (dC (.int 5))) (dC (.int 6))) (dC (.int 1)))) (sSeq (sSet 1 (d2 subD (d2 modD (dA F_law_mixed (aCons (dV 0) (aCons (dC (.int 1)) aNil))) (dC (.int 1999999999))) (dC (.int 999999999))))
    (sSet 2 (d2 addD (dC (.int 1)) (d2 modD (dA F_law_mixed (aCons (dV 0) (aCons (dC (.int 2)) aNil))) (dC (.int 999999)))))) sNil)
    (sRet (dA F_law_low (aCons (dV 1) (aCons (dV 2) aNil)))))))
noncomputable def b1_law_units (a : Ad) (F_law_mixed : List D → R D) (F_law_time : List D → R D) (F_law_share : List D → R D) : Ev → RT := (sSeq (sSet 6 (d2 ixD (dV 1) (d2 modD (d2 fdivD (dA F_law_mixed (aCons (dV 5) (aCons (dC (.int 8)) aNil))) (dC (.int 5))) (dC (.int 3)))))
    (sSeq (sSet 7 (dA F_law_time (aCons (d2 fdivD (dA F_law_mixed (aCons (dV 5) (aCons (dC (.int 9)) aNil))) (dC (.int 5))) (aCons (dV 2) aNil))))
    (sSeq (sSet 8 (dA F_law_share (aCons (dA F_law_mixed (aCons (dV 5) (aCons (dC (.int 10)) aNil))) aNil)))
    (sSeq (sIf (b1 tB (d2 eqSD (d2 ixD (dV 8) (dC (.int 0))) (dC (.int 0)))) (sSet 8 (dA mkT (aCons (dC (.int 1)) (aCons (dC (.int 3)) aNil)))) sNil)
    (sIf (fun ρ => noEx ((b1 tB (d2 ninLD (dA mkT (aCons (dV 6) (aCons (dV 7) aNil))) (dV 4))) (frzS 4 ρ))) (sSeq (sApp 4 (dA mkT (aCons (dV 6) (aCons (dV 7) aNil))))
    (sApp 3 (dA mkT (aCons (dV 6) (aCons (dV 7) (aCons (dV 8) (aCons (dA F_law_share (aCons (dA F_law_mixed (aCons (dV 5) (aCons (dC (.int 11)) aNil))) aNil)) aNil))))))) sNil)))))
noncomputable def g_law_units (a : Ad) (F_law_mixed : List D → R D) (F_law_time : List D → R D) (F_law_share : List D → R D) : Ev → RT := (sSeq (sOwn 3 (fun ρ => (aNil ρ).bind fitL))
    (sSeq (sOwn 4 (fun ρ => (aNil ρ).bind fitL))
    (sSeq (sFor (fun ρ => ((dV 0) ρ).bind asI) (gV 5) (b1_law_units a F_law_mixed F_law_time F_law_share))
    (fun ρ => (sRet (dV 3)) (frzS 3 ρ)))))
noncomputable def b1_law_checks (a : Ad) (F_law_mixed : List D → R D) (F_law_time : List D → R D) (F_law_share : List D → R D) : Ev → RT := (sSeq (sSet 6 (d2 ixD (dV 1) (d2 modD (d2 fdivD (dA F_law_mixed (aCons (dV 5) (aCons (dC (.int 12)) aNil))) (dC (.int 5))) (dC (.int 3)))))
    (sSeq (sSet 7 (dA F_law_time (aCons (d2 fdivD (dA F_law_mixed (aCons (dV 5) (aCons (dC (.int 13)) aNil))) (dC (.int 5))) (aCons (dV 2) aNil))))
    (sIf (fun ρ => noEx ((b1 tB (d2 ninLD (dA mkT (aCons (dV 6) (aCons (dV 7) aNil))) (dV 4))) (frzS 4 ρ))) (sSeq (sApp 4 (dA mkT (aCons (dV 6) (aCons (dV 7) aNil))))
    (sApp 3 (dA mkT (aCons (dV 6) (aCons (dV 7) (aCons (dA F_law_share (aCons (dA F_law_mixed (aCons (dV 5) (aCons (dC (.int 14)) aNil))) aNil)) aNil)))))) sNil)))
noncomputable def g_law_checks (a : Ad) (F_law_mixed : List D → R D) (F_law_time : List D → R D) (F_law_share : List D → R D) : Ev → RT := (sSeq (sOwn 3 (fun ρ => (aNil ρ).bind fitL))
    (sSeq (sOwn 4 (fun ρ => (aNil ρ).bind fitL))
    (sSeq (sFor (fun ρ => ((dV 0) ρ).bind asI) (gV 5) (b1_law_checks a F_law_mixed F_law_time F_law_share))
    (fun ρ => (sRet (dV 3)) (frzS 3 ρ)))))
noncomputable def b1_law_off (a : Ad) (F_law_low : List D → R D) : Ev → RT := (sSeq (sIf (bAnd (b1 tB (d2 eqSD (d2 ixD (dV 5) (dC (.int 0))) (dV 0))) (bAnd (b1 tB (d2 leD (d2 ixD (dV 5) (dC (.int 1))) (dV 1))) (bOr (b1 tB (d2 isD2 (dV 3) (dC .non))) (b1 tB (d2 gtD (d2 ixD (dV 5) (dC (.int 1))) (d2 ixD (dV 3) (dC (.int 1)))))))) (sSet 3 (dV 5)) sNil)
    (sIf (bAnd (b1 tB (d2 eqSD (d2 ixD (dV 5) (dC (.int 0))) (dV 0))) (bAnd (b1 tB (d2 geD (d2 ixD (dV 5) (dC (.int 1))) (dV 1))) (bOr (b1 tB (d2 isD2 (dV 4) (dC .non))) (b1 tB (d2 ltD (d2 ixD (dV 5) (dC (.int 1))) (d2 ixD (dV 4) (dC (.int 1)))))))) (sSet 4 (dV 5)) sNil))
noncomputable def g_law_off (a : Ad) (F_law_low : List D → R D) : Ev → RT := (sSeq (sSet 3 (dC .non))
    (sSeq (sSet 4 (dC .non))
    (sSeq (sFor (fun ρ => ((dV 2) ρ).bind asI) (gV 5) (b1_law_off a F_law_low))
    (sSeq (sIf (bAnd (b1 tB (d2 isD2 (dV 3) (dC .non))) (b1 tB (d2 isD2 (dV 4) (dC .non)))) (sRet (dA mkT (aCons (dC (.int 0)) (aCons (dC (.int 1)) aNil)))) sNil)
    (sSeq (sIf (bOr (b1 tB (d2 isD2 (dV 3) (dC .non))) (bOr (b1 tB (d2 isD2 (dV 4) (dC .non))) (b1 tB (d2 eqDD (dV 3) (dV 4))))) (sRet (d2 ixD (dOrV (dV 3) (dV 4)) (dC (.int 2)))) sNil)
    (sSeq (sSet 6 (d2 subD (d2 ixD (dV 4) (dC (.int 1))) (d2 ixD (dV 3) (dC (.int 1)))))
    (sSeq (sSet 7 (d2 mulUD (d2 mulUD (d2 ixD (d2 ixD (dV 3) (dC (.int 2))) (dC (.int 0))) (d2 subD (d2 ixD (dV 4) (dC (.int 1))) (dV 1))) (d2 ixD (d2 ixD (dV 4) (dC (.int 2))) (dC (.int 1)))))
    (sSeq (sSet 7 (d2 addD (dV 7) (d2 mulUD (d2 mulUD (d2 ixD (d2 ixD (dV 4) (dC (.int 2))) (dC (.int 0))) (d2 subD (dV 1) (d2 ixD (dV 3) (dC (.int 1))))) (d2 ixD (d2 ixD (dV 3) (dC (.int 2))) (dC (.int 1))))))
    (sRet (dA F_law_low (aCons (dV 7) (aCons (d2 mulUD (d2 mulUD (dV 6) (d2 ixD (d2 ixD (dV 3) (dC (.int 2))) (dC (.int 1)))) (d2 ixD (d2 ixD (dV 4) (dC (.int 2))) (dC (.int 1)))) aNil))))))))))))
end WP
namespace P2
open PySem L2
theorem q_sOwn_a {i : Nat} {f : Ev → R (List D)} {ρ : Ev} : sOwn i f ρ = toS (f ρ) fun ds => if i < ρ.length then .nx (ρ.set i (.ow ds)) else .bad := rfl
theorem q_sPar_a {i j : Nat} {fs : Ev → R (List D)} {ρ : Ev} : sPar i j fs ρ = toS (fs ρ) fun ds => match ds with
  | [d1, d2] => if i < ρ.length ∧ j < ρ.length then .nx ((ρ.set i (.sh d1)).set j (.sh d2)) else .bad
  | _ => .bad := rfl
theorem q_app3 {f : Ev → R D} {s0 s1 s2 : Sl} {ds : List D} {r : Ev} : sApp 3 f (s0 :: s1 :: s2 :: .ow ds :: r) = toS (f (s0 :: s1 :: s2 :: .ow ds :: r)) fun d => if ds.length < sizeLine then .nx (s0 :: s1 :: s2 :: .ow (ds ++ [d]) :: r) else .bad := rfl
theorem q_app4 {f : Ev → R D} {s0 s1 s2 s3 : Sl} {ds : List D} {r : Ev} : sApp 4 f (s0 :: s1 :: s2 :: s3 :: .ow ds :: r) = toS (f (s0 :: s1 :: s2 :: s3 :: .ow ds :: r)) fun d => if ds.length < sizeLine then .nx (s0 :: s1 :: s2 :: s3 :: .ow (ds ++ [d]) :: r) else .bad := rfl
theorem q_frz3 {s0 s1 s2 : Sl} {ds : List D} {r : Ev} : frzS 3 (s0 :: s1 :: s2 :: .ow ds :: r) = s0 :: s1 :: s2 :: .sh (.lst ds) :: r := rfl
theorem q_frz4 {s0 s1 s2 s3 : Sl} {ds : List D} {r : Ev} : frzS 4 (s0 :: s1 :: s2 :: s3 :: .ow ds :: r) = s0 :: s1 :: s2 :: s3 :: .sh (.lst ds) :: r := rfl
theorem q_min_i {i j : Int} : min2D [.int i, .int j] = .ok (.int (if j < i then j else i)) := rfl
theorem q_rng1_p {j : Int} (h1 : 0 ≤ j) (h2 : j < 1000000) : rng1 [.int j] = .ok (rangeL 0 j.toNat) := by
  show (if -(2 ^ 62) ≤ j ∧ j < 2 ^ 62 then R.ok (rangeL 0 j.toNat) else .bad) = _
  rw [if_pos (by omega)]
end P2
namespace WP
open PySem L2 P2 TM T2 PySem.NumText
local macro_rules | `(tactic| walk_at "den") => `(tactic| try simp (disch := first | assumption | decide | exact Nat.le_of_ble_eq_true rfl) only [q_bind_k, q_bind_x, q_bind_b, q_toS_k, q_toS_x, q_toS_b, q_seq_n, q_seq_r, q_seq_x, q_seq_b, q_turn_n, q_turn_c, q_turn_k, q_turn_r, q_turn_b, q_turn_x, q_fin_r, q_fin_n, q_fin_x, q_noEx_k, q_okO_k, q_ofO_s, q_sSeq_a, q_sNil_a, q_sRet_a, q_sExpr_a, q_sSet_a, q_sIf_a, q_dC_a, q_d1_a, q_d2_a, q_b1B_a, q_b1T_a, q_bAnd_a, q_bOr_a, q_bNot_a, q_dAnd_a, q_dOr_a, q_dOrV_a, q_dNot_a, q_dIf_a, q_dA_a, q_aNil_a, q_aCons_a, q_asN_a, q_dMt_a, q_dSl_a, q_dComp_a, q_sFor_a, q_sOwn_a, q_sPar_a, q_app3, q_app4, q_frz3, q_frz4, q_min_i, q_rng1_p, q_toO_s, q_gV_a, q_tB_b, q_tT_b, q_tT_i, q_tT_n, q_tT_l, q_tT_t, q_add_i, q_sub_i, q_fdiv_p, q_mod_p, q_lt_i, q_le_i, q_gt_i, q_ge_i, q_neg_i, q_eq_i, q_eq_s, q_eq_b, q_ne_i, q_ne_s, q_in_s, q_ix_l, q_ix_t, q_ix_s, q_sl_l, q_sl_s, q_pI_i, q_len_s, q_len_l, q_len_t, q_abs_i, q_max_i, q_int_s, q_all_l, q_any_l, q_st_s, q_zf_s, q_hs_s, q_fit_p, q_add_sp, q_add_lp, q_mkT_p, q_asI_l, q_asI_t, q_asI_s, q_fmt_s, q_jNil_a, q_jCons_k, q_isX_i, q_isX_b, q_isX_s, q_isX_t, q_isX_l, q_slW_l, q_slW_s, q_is_bb, q_isn_bb, q_is_nn, q_isn_nn, q_is_tn, q_isn_tn, q_v0, q_v1, q_v2, q_v3, q_v4, q_v5, q_v6, q_v7, q_v8, q_v9, q_v10, q_v11, q_v12, q_v13, startD, List.map_cons, List.map_nil, List.length_cons, List.length_nil, Nat.sub_self, Nat.reduceAdd, Nat.reduceSub, List.replicate_zero, List.replicate_succ, List.append_nil, List.nil_append, List.cons_append, List.set_cons_zero, List.set_cons_succ, if_true, if_false, Nat.reduceLT, Nat.zero_lt_succ, Bool.not_true, Bool.not_false, Bool.false_eq_true, reduceIte, decide_true, decide_false, Int.reduceLT, Int.reduceEq, Int.reduceNeg, Int.reducePow, Int.reduceSub, Int.reduceAdd, Int.reduceMul,  List.length_set])
variable {a : Ad}
theorem lt_size {n : Nat} (h : n < 1000000) : n < sizeLine := Nat.lt_of_lt_of_le h (by decide)
theorem atI_getD (ns : List Int) (k : Nat) (h : k < ns.length) : L2.atI (ns.map D.int) (k : Int) = some (.int (ns.getD k 0)) := by
  refine atI_nat ?_
  rw [List.getElem?_map, List.getElem?_eq_getElem h, List.getD_eq_getElem?_getD, List.getElem?_eq_getElem h]; rfl
theorem m_cell (ns : List Int) (k : Nat) : finT (g_law_cell_at a (startD 2 [.lst (ns.map .int), .int k])) = .ok (.int (ns.getD k 0)) := by
  unfold g_law_cell_at
  walk_at "den"
  rw [List.length_map]
  by_cases h : k < ns.length
  · rw [if_pos (decide_eq_true (by omega)), atI_getD ns k h]
    walk_at "den"
  · rw [if_neg (by simp; omega)]
    walk_at "den"
    rw [List.getD_eq_getElem?_getD, List.getElem?_eq_none (by omega)]; rfl
noncomputable def mixZ (c k : Int) : Int := (c % 2147483647 + 31 * k + 1) * 48271 * (c % 2147483647 + 3 * k + 7) % 2147483629
theorem m_mixed (c k : Int) (hk : 0 ≤ k ∧ k ≤ 1000) : finT (g_law_mixed a (startD 3 [.int c, .int k])) = .ok (.int (mixZ c k)) := by
  have m1 : mulUD (.int 31) (.int k) = .ok (.int (31 * k)) := q_mulU_l (by decide) (by decide)
  have m2 : mulUD (.int 3) (.int k) = .ok (.int (3 * k)) := q_mulU_l (by decide) (by decide)
  have m3 : mulUD (.int (c % 2147483647 + 31 * k + 1)) (.int 48271) = .ok (.int ((c % 2147483647 + 31 * k + 1) * 48271)) := q_mulU_r (by decide) (by decide)
  have m4 : mulUD (.int ((c % 2147483647 + 31 * k + 1) * 48271)) (.int (c % 2147483647 + 3 * k + 7)) = .ok (.int ((c % 2147483647 + 31 * k + 1) * 48271 * (c % 2147483647 + 3 * k + 7))) := q_mulU_r (by omega) (by omega)
  unfold g_law_mixed mixZ
  iterate 5 (walk_at "den"; try simp only [m1, m2, m3, m4])
theorem w_low : ∀ (n : Nat) (x y : Int) (s0 s1 : Sl), 0 ≤ x → 0 ≤ y → y < n →
    whileD (b1 tB (d2 gtD (dV 3) (dC (.int 0)))) (b1_law_low a) n [s0, s1, .sh (.int x), .sh (.int y)] = .nx [s0, s1, .sh (.int (FM.g x y)), .sh (.int 0)]
  | 0, x, y, s0, s1, hx, hy, h => by omega
  | n + 1, x, y, s0, s1, hx, hy, h => by
    rw [q_whileD]
    by_cases z : y = 0
    · subst z
      walk_at "den"
      rw [FM.g_zero hx]
    · have hp : 0 < y := by omega
      have hm := Int.emod_lt_of_pos x hp
      have e := w_low n y (x % y) s0 s1 hy (Int.emod_nonneg x z) (by omega)
      unfold b1_law_low
      iterate 4 (walk_at "den"; try simp only [decide_eq_true hp, q_mod_p hp, and_self])
      rw [← FM.g_step hx hp]
      exact e
theorem m_low (t b : Int) (hb : 0 < b) (h : b.natAbs < 10 ^ 400) : finT (g_law_low a (startD 4 [.int t, .int b])) = .ok (fr t b) := by
  have e := w_low (a := a) 10000000000000000000000000000000000000000000000000000000000000000000000000000000000000000000000000000000000000000000000000000000000000000000000000000000000000000000000000000000000000000000000000000000000000000000000000000000000000000000000000000000000000000000000000000000000000000000000000000000000000000000000000000000000000000000000000000000000000000000000000000000000000000000000000000000000000000 (if t < 0 then -t else t) b (.sh (.int t)) (.sh (.int b)) (by split <;> omega) (by omega) (by omega)
  have eg : FM.g (if t < 0 then -t else t) b = FM.dv t b := by
    have := FM.g_abs t b
    rw [if_neg (show ¬ b < 0 by omega)] at this
    rw [this]; unfold FM.dv; rw [if_neg (by omega)]
  rw [eg] at e
  have d1 := q_fdivU (i := t) (FM.dv_ne (t := t) (b := b) (by omega)) (dv_lt (t := t) (b := b) (by omega) h)
  have d2 := q_fdivU (i := b) (FM.dv_ne (t := t) (b := b) (by omega)) (dv_lt (t := t) (b := b) (by omega) h)
  unfold g_law_low
  iterate 4 (walk_at "den"; try simp only [and_self])
  rw [e]
  iterate 4 (walk_at "den"; try simp only [d1, d2])
  rfl
noncomputable def timeZ (c near : Int) : Int := if c % 7 = 6 then c / 7 % 1000000001 else near + c / 7 % 30
theorem time_rng {c near : Int} (h : 0 ≤ near ∧ near < 999999960) : 0 ≤ timeZ c near ∧ timeZ c near ≤ 1000000000 := by
  unfold timeZ
  split <;> omega
theorem m_time (c near : Int) : finT (g_law_time a (startD 2 [.int c, .int near])) = .ok (.int (timeZ c near)) := by
  have pw : powD (.int 10) (.int 9) = .ok (.int 1000000000) := rfl
  have hp : (0 : Int) < 1000000001 := by decide
  unfold g_law_time timeZ
  by_cases h : c % 7 = 6
  · iterate 6 (walk_at "den"; try simp only [h, pw, decide_true])
  · iterate 6 (walk_at "den"; try simp only [h, pw, decide_false])
structure FOk (p q : Int) : Prop where
  low : FM.Low p q
  p : Sz 9 p
  q : Sz 6 q
theorem m_lshare {Fm Fl : List D → R D} (hm : ∀ c k : Int, 0 ≤ k ∧ k ≤ 1000 → Fm [.int c, .int k] = .ok (.int (mixZ c k))) (hl : ∀ t b : Int, 0 < b → b.natAbs < 10 ^ 400 → Fl [.int t, .int b] = .ok (fr t b)) (c : Int) :
    ∃ p q, FOk p q ∧ finT (g_law_share a Fm Fl (startD 3 [.int c])) = .ok (pr p q) := by
  have h1 := hm c 1 (by decide)
  have h2 := hm c 2 (by decide)
  have h3 := hm c 3 (by decide)
  generalize mixZ c 1 = x at *
  generalize mixZ c 2 = y at *
  generalize mixZ c 3 = z at *
  by_cases e : z / 5 % 6 = 1
  · have l := hl (x % 1999999999 - 999999999) (1 + y % 999999) (by omega) (Nat.lt_trans (show (1 + y % 999999).natAbs < 10 ^ 6 by omega) (by decide))
    have hb : (1 + y % 999999) ≠ 0 := by omega
    refine ⟨_, _, ⟨FM.low_of (t := x % 1999999999 - 999999999) hb, Sz.top (show (x % 1999999999 - 999999999).natAbs < 10 ^ 9 by omega) hb, Sz.bot (show (1 + y % 999999).natAbs < 10 ^ 6 by omega) hb⟩, ?_⟩
    unfold g_law_share
    iterate 9 (walk_at "den"; try simp only [h1, h2, h3, e, l, decide_true])
  · have l := hl (x / 5 % 19 - 9) (1 + y / 5 % 6) (by omega) (Nat.lt_trans (show (1 + y / 5 % 6).natAbs < 10 ^ 6 by omega) (by decide))
    have hb : (1 + y / 5 % 6) ≠ 0 := by omega
    refine ⟨_, _, ⟨FM.low_of (t := x / 5 % 19 - 9) hb, Sz.top (show (x / 5 % 19 - 9).natAbs < 10 ^ 9 by omega) hb, Sz.bot (show (1 + y / 5 % 6).natAbs < 10 ^ 6 by omega) hb⟩, ?_⟩
    unfold g_law_share
    iterate 9 (walk_at "den"; try simp only [h1, h2, h3, e, l, decide_false])
theorem ok_app {x y : Str} (hx : PyData.strOk x = true) (hy : PyData.strOk y = true) : PyData.strOk (x ++ y) = true := by
  unfold PyData.strOk at *
  rw [← Array.all_toList] at *
  show ((cds (x ++ y)).all _) = true
  rw [cds_app, List.all_append, Bool.and_eq_true]
  exact ⟨hx, hy⟩
theorem len_app {x y : Str} : (x ++ y).length = x.length + y.length := by rw [len_cds, cds_app, List.length_append, ← len_cds, ← len_cds]
theorem at_qxz : ∀ n : Nat, n < 3 → ∃ c, c < 128 ∧ L2.atI (Str.ofString "qxz").cps.toList (n : Int) = some c := by decide
theorem at_abc : ∀ n : Nat, n < 26 → ∃ c, c < 128 ∧ L2.atI (Str.ofString "abcdefghijklmnopqrstuvwxyz").cps.toList (n : Int) = some c := by decide
theorem at_str : ∀ n : Nat, n < 12 → ∃ s : Int, 0 < s ∧ s < 30 ∧ L2.atI [D.int 1, .int 3, .int 5, .int 7, .int 9, .int 11, .int 15, .int 17, .int 19, .int 21, .int 23, .int 25] (n : Int) = some (.int s) := by
  intro n h
  have : n = 0 ∨ n = 1 ∨ n = 2 ∨ n = 3 ∨ n = 4 ∨ n = 5 ∨ n = 6 ∨ n = 7 ∨ n = 8 ∨ n = 9 ∨ n = 10 ∨ n = 11 := by omega
  rcases this with rfl | rfl | rfl | rfl | rfl | rfl | rfl | rfl | rfl | rfl | rfl | rfl <;> exact ⟨_, by decide, by decide, rfl⟩
theorem ok_one {c : Nat} (h : c < 128) : PyData.strOk ⟨#[c]⟩ = true := by
  unfold PyData.strOk
  simp
  omega
theorem ix_qxz (j : Int) (h : 0 ≤ j ∧ j < 3) : ∃ c, c < 128 ∧ L2.atI (Str.ofString "qxz").cps.toList j = some c := by
  obtain ⟨n, rfl⟩ := Int.eq_ofNat_of_zero_le h.1
  exact at_qxz n (by omega)
theorem ix_abc (j : Int) (h : 0 ≤ j ∧ j < 26) : ∃ c, c < 128 ∧ L2.atI (Str.ofString "abcdefghijklmnopqrstuvwxyz").cps.toList j = some c := by
  obtain ⟨n, rfl⟩ := Int.eq_ofNat_of_zero_le h.1
  exact at_abc n (by omega)
theorem lq : (Str.ofString "qxz").length ≤ sizeLine := by decide
theorem la : (Str.ofString "abcdefghijklmnopqrstuvwxyz").length ≤ sizeLine := by decide
theorem word_loop (c : Int) (s1 s2 s3 s4 : Sl) : ∀ (js : List Int) (z : Str) (s6 : Sl), (∀ j ∈ js, 0 ≤ j ∧ j < 100) → PyData.strOk z = true → z.length + js.length ≤ 100 →
    ∃ z' s6', PyData.strOk z' = true ∧ z'.length = z.length + js.length ∧ forD (gV 6) (b1_law_word a) (js.map D.int) [.sh (.int c), s1, s2, s3, s4, .sh (.str z), s6] = .nx [.sh (.int c), s1, s2, s3, s4, .sh (.str z'), s6']
  | [], z, s6, _, hz, hl => ⟨z, s6, hz, by simp, rfl⟩
  | j :: js, z, s6, hj, hz, hl => by
    have hj0 := hj j (List.mem_cons_self ..)
    rw [List.length_cons] at hl
    obtain ⟨ch, hc, hx⟩ := ix_qxz (c / (3 + j) % 3) (by omega)
    have fd : fdivD (.int c) (.int (3 + j)) = .ok (.int (c / (3 + j))) := q_fdiv_p (by omega) (by omega)
    have l1 : (⟨#[ch]⟩ : Str).length = 1 := rfl
    have ad : addD (.str z) (.str ⟨#[ch]⟩) = .ok (.str (z ++ ⟨#[ch]⟩)) := q_add_sp (by omega) (by rw [l1]; decide)
    obtain ⟨z', s6', g1, g2, g3⟩ := word_loop c s1 s2 s3 s4 js (z ++ ⟨#[ch]⟩) (.sh (.int j)) (fun i hi => hj i (List.mem_cons_of_mem _ hi)) (ok_app hz (ok_one hc)) (by rw [len_app, l1]; omega)
    refine ⟨z', s6', g1, by rw [g2, len_app, l1, List.length_cons]; omega, ?_⟩
    rw [List.map_cons, q_forD_c]
    walk_at "den"
    have e : b1_law_word a [.sh (.int c), s1, s2, s3, s4, .sh (.str z), .sh (.int j)] = .nx [.sh (.int c), s1, s2, s3, s4, .sh (.str (z ++ ⟨#[ch]⟩)), .sh (.int j)] := by
      unfold b1_law_word
      iterate 4 (walk_at "den"; try simp only [fd, if_pos lq, hx, ad])
    rw [e, q_turn_n]
    exact g3
theorem range_ints (n : Nat) : rangeL 0 n = ((List.range n).map fun (k : Nat) => (k : Int)).map D.int := by
  unfold rangeL
  rw [List.map_map]
  refine List.map_congr_left fun k _ => ?_
  show D.int (0 + (k : Int)) = D.int (k : Int)
  rw [Int.zero_add]
theorem m_word (c k : Int) (hk : 0 ≤ k ∧ k < 26) : ∃ z, PyData.strOk z = true ∧ z.length ≤ 20 ∧ finT (g_law_word a (startD 7 [.int c, .int k])) = .ok (.str z) := by
  obtain ⟨n, hn⟩ := Int.eq_ofNat_of_zero_le (show 0 ≤ c / 26 % 12 by omega)
  obtain ⟨st, st0, st1, hst⟩ := at_str n (by omega)
  have mk : mulUD (.int k) (.int st) = .ok (.int (k * st)) := q_mulU_r (by omega) (by omega)
  obtain ⟨c1, h1, x1⟩ := ix_abc ((c + k * st) % 26) (by omega)
  obtain ⟨c2, h2, x2⟩ := ix_qxz (k / 26 % 3) (by omega)
  have l1 : (⟨#[c1]⟩ : Str).length = 1 := rfl
  have l2 : (⟨#[c2]⟩ : Str).length = 1 := rfl
  have ad : addD (.str ⟨#[c1]⟩) (.str ⟨#[c2]⟩) = .ok (.str (⟨#[c1]⟩ ++ ⟨#[c2]⟩)) := q_add_sp (by rw [l1]; decide) (by rw [l2]; decide)
  have okP := ok_app (ok_one h1) (ok_one h2)
  have lP : ((⟨#[c1]⟩ : Str) ++ ⟨#[c2]⟩).length = 2 := by rw [len_app, l1, l2]
  obtain ⟨pw, hpw⟩ : ∃ pw, pw = (⟨#[c1]⟩ : Str) ++ ⟨#[c2]⟩ := ⟨_, rfl⟩
  rw [← hpw] at ad okP lP
  have hr : 0 ≤ c / 312 % 7 ∧ c / 312 % 7 < 7 := by omega
  have rg : rng1 [.int (c / 312 % 7)] = .ok (rangeL 0 (c / 312 % 7).toNat) := q_rng1_p hr.1 (by omega)
  have e0 : PyData.strOk (Str.ofString "") = true := by decide +kernel
  have le0 : (Str.ofString "").length = 0 := by decide
  obtain ⟨z, s6, g1, g2, g3⟩ := word_loop (a := a) c (.sh (.int k)) (.sh (.str (Str.ofString "abcdefghijklmnopqrstuvwxyz"))) (.sh (.int st)) (.sh (.str pw)) ((List.range (c / 312 % 7).toNat).map fun (k : Nat) => (k : Int)) (Str.ofString "") .no (fun j hj => by
    obtain ⟨i, hi, rfl⟩ := List.mem_map.mp hj
    have := List.mem_range.mp hi
    omega) e0 (by rw [le0, List.length_map, List.length_range]; omega)
  rw [← range_ints] at g3
  have lz : z.length ≤ 7 := by rw [g2, le0, List.length_map, List.length_range]; omega
  have l12 : [D.int 1, .int 3, .int 5, .int 7, .int 9, .int 11, .int 15, .int 17, .int 19, .int 21, .int 23, .int 25].length ≤ 1000 := by decide
  have a1 : addD (.str z) (.str pw) = .ok (.str (z ++ pw)) := q_add_sp (by omega) (by omega)
  have a2 : addD (.str pw) (.str z) = .ok (.str (pw ++ z)) := q_add_sp (by omega) (by omega)
  by_cases hb : c / 2184 % 2 = 1
  · refine ⟨z ++ pw, ok_app g1 okP, by rw [len_app]; omega, ?_⟩
    unfold g_law_word
    iterate 6 (walk_at "den"; try simp only [hn, hst, mk, if_pos lq, if_pos la, x1, x2, ← hpw, rg])
    simp only [g3]
    iterate 6 (walk_at "den"; try simp only [hb, a1, decide_true])
  · refine ⟨pw ++ z, ok_app okP g1, by rw [len_app]; omega, ?_⟩
    unfold g_law_word
    iterate 6 (walk_at "den"; try simp only [hn, hst, mk, if_pos lq, if_pos la, x1, x2, ← hpw, rg])
    simp only [g3]
    iterate 6 (walk_at "den"; try simp only [hb, a2, decide_false])
end WP
namespace WP
open PySem L2 P2 TM T2 PySem.NumText
local macro_rules | `(tactic| walk_at "den") => `(tactic| try simp (disch := first | assumption | decide | exact Nat.le_of_ble_eq_true rfl) only [q_bind_k, q_bind_x, q_bind_b, q_toS_k, q_toS_x, q_toS_b, q_seq_n, q_seq_r, q_seq_x, q_seq_b, q_turn_n, q_turn_c, q_turn_k, q_turn_r, q_turn_b, q_turn_x, q_fin_r, q_fin_n, q_fin_x, q_noEx_k, q_okO_k, q_ofO_s, q_sSeq_a, q_sNil_a, q_sRet_a, q_sExpr_a, q_sSet_a, q_sIf_a, q_dC_a, q_d1_a, q_d2_a, q_b1B_a, q_b1T_a, q_bAnd_a, q_bOr_a, q_bNot_a, q_dAnd_a, q_dOr_a, q_dOrV_a, q_dNot_a, q_dIf_a, q_dA_a, q_aNil_a, q_aCons_a, q_asN_a, q_dMt_a, q_dSl_a, q_dComp_a, q_sFor_a, q_sOwn_a, q_sPar_a, q_app3, q_app4, q_frz3, q_frz4, q_min_i, q_rng1_p, q_toO_s, q_gV_a, q_tB_b, q_tT_b, q_tT_i, q_tT_n, q_tT_l, q_tT_t, q_add_i, q_sub_i, q_fdiv_p, q_mod_p, q_lt_i, q_le_i, q_gt_i, q_ge_i, q_neg_i, q_eq_i, q_eq_s, q_eq_b, q_ne_i, q_ne_s, q_in_s, q_ix_l, q_ix_t, q_ix_s, q_sl_l, q_sl_s, q_pI_i, q_len_s, q_len_l, q_len_t, q_abs_i, q_max_i, q_int_s, q_all_l, q_any_l, q_st_s, q_zf_s, q_hs_s, q_fit_p, q_add_sp, q_add_lp, q_mkT_p, q_asI_l, q_asI_t, q_asI_s, q_fmt_s, q_jNil_a, q_jCons_k, q_isX_i, q_isX_b, q_isX_s, q_isX_t, q_isX_l, q_slW_l, q_slW_s, q_is_bb, q_isn_bb, q_is_nn, q_isn_nn, q_is_tn, q_isn_tn, q_v0, q_v1, q_v2, q_v3, q_v4, q_v5, q_v6, q_v7, q_v8, q_v9, q_v10, q_v11, q_v12, q_v13, startD, List.map_cons, List.map_nil, List.length_cons, List.length_nil, Nat.sub_self, Nat.reduceAdd, Nat.reduceSub, List.replicate_zero, List.replicate_succ, List.append_nil, List.nil_append, List.cons_append, List.set_cons_zero, List.set_cons_succ, if_true, if_false, Nat.reduceLT, Nat.zero_lt_succ, Bool.not_true, Bool.not_false, Bool.false_eq_true, reduceIte, decide_true, decide_false, Int.reduceLT, Int.reduceEq, Int.reduceNeg, Int.reducePow, Int.reduceSub, Int.reduceAdd, Int.reduceMul,  List.length_set])
variable {a : Ad}
noncomputable abbrev Ck.k (c : Ck) : D := .tup [.str c.m, .int c.t]
noncomputable abbrev Ck.ky (c : Ck) : PyData := .tuple [.str c.m, .int c.t]
theorem py_ks : ∀ L : List Ck, pyDs (L.map Ck.k) = some (L.map Ck.ky)
  | [] => rfl
  | c :: L => by
    show ((pyD c.k).bind fun p => (pyDs (L.map Ck.k)).map (p :: ·)) = _
    rw [py_ks L]; rfl
theorem lay_ks : ∀ L : List Ck, (∀ c ∈ L, c.Ok) → PyData.canLayAll0 (L.map Ck.ky) = true
  | [], _ => rfl
  | c :: L, h => by
    show (PyData.canLay0 c.ky && PyData.canLayAll0 (L.map Ck.ky)) = true
    rw [lay_ks L fun x hx => h x (List.mem_cons_of_mem _ hx), Bool.and_true]
    have := (h c (List.mem_cons_self ..)).s
    simp [PyData.canLay0, PyData.canLayAll0, this]
theorem any_ks (m : Str) (t : Int) : ∀ L : List Ck, ((L.map Ck.ky).any fun y => PyData.eqv y (.tuple [.str m, .int t])) = L.any fun c => decide (c.m = m) && decide (c.t = t)
  | [] => rfl
  | c :: L => by
    rw [List.map_cons, List.any_cons, List.any_cons, any_ks m t L]
    congr 1
    rw [Bool.eq_iff_iff]
    simp [PyData.eqv, PyData.eqvAll]
theorem has_ks {L : List Ck} (hL : ∀ c ∈ L, c.Ok) {m : Str} {t : Int} (hm : PyData.strOk m = true) : hasV (.tup [.str m, .int t]) (L.map Ck.k) = some (L.any fun c => decide (c.m = m) && decide (c.t = t)) := by
  show ((some (PyData.tuple [.str m, .int t])).bind fun p => (pyDs (L.map Ck.k)).bind fun ps => if (PyData.canLayAll0 ps && PyData.canLay0 p && decide (p.depth ≤ 63)) = true then some (ps.any fun y => PyData.eqv y p) else none) = _
  rw [py_ks, Option.bind_some, Option.bind_some, lay_ks L hL, any_ks, if_pos]
  simp [PyData.canLay0, PyData.canLayAll0, hm, PyData.depth, PyData.depthAll]
section
variable {Fm Ft Fs : List D → R D} (hm : ∀ c k : Int, 0 ≤ k ∧ k ≤ 1000 → Fm [.int c, .int k] = .ok (.int (mixZ c k))) (ht : ∀ c near : Int, Ft [.int c, .int near] = .ok (.int (timeZ c near))) (hs : ∀ c : Int, ∃ p q, FOk p q ∧ Fs [.int c] = .ok (pr p q))
include hm ht hs
theorem checks_body {ws : List Str} (hw : ws.length = 3) (ho : ∀ w ∈ ws, PyData.strOk w = true) {near : Int} (hn : 0 ≤ near ∧ near < 999999960) {L : List Ck} (hL : ∀ c ∈ L, c.Ok) (hU : Uniq L) (hl : L.length ≤ 1000) (c : Int) (s0 s6 s7 : Sl) :
    ∃ L' s6' s7', (∀ c ∈ L', c.Ok) ∧ Uniq L' ∧ L'.length ≤ L.length + 1 ∧ (∀ c ∈ L', c ∈ L ∨ c.m ∈ ws) ∧
      b1_law_checks a Fm Ft Fs [s0, .sh (.lst (ws.map D.str)), .sh (.int near), .ow (L.map Ck.d), .ow (L.map Ck.k), .sh (.int c), s6, s7] = .nx [s0, .sh (.lst (ws.map D.str)), .sh (.int near), .ow (L'.map Ck.d), .ow (L'.map Ck.k), .sh (.int c), s6', s7'] := by
  have h12 := hm c 12 (by decide)
  have h13 := hm c 13 (by decide)
  have h14 := hm c 14 (by decide)
  have r13 := ht (mixZ c 13 / 5) near
  obtain ⟨p, q, F, hpq⟩ := hs (mixZ c 14)
  have tr := time_rng (c := mixZ c 13 / 5) hn
  generalize timeZ (mixZ c 13 / 5) near = t at *
  obtain ⟨n, en⟩ := Int.eq_ofNat_of_zero_le (show 0 ≤ mixZ c 12 / 5 % 3 by omega)
  have n3 : n < ws.length := by omega
  have ix : L2.atI (ws.map D.str) (n : Int) = some (.str ws[n]) := atI_nat (by rw [List.getElem?_map, List.getElem?_eq_getElem n3]; rfl)
  have mo := ho ws[n] (List.getElem_mem n3)
  have mi := List.getElem_mem n3
  generalize ws[n] = m at ix mo mi
  have hv := has_ks hL (t := t) mo
  have l1 : (L.map Ck.k).length < sizeLine := by rw [List.length_map]; exact lt_size (by omega)
  have l2 : (L.map Ck.d).length < sizeLine := by rw [List.length_map]; exact lt_size (by omega)
  cases hb : (L.any fun c => decide (c.m = m) && decide (c.t = t)) with
  | true =>
    rw [hb] at hv
    have nin : ninLD (.tup [.str m, .int t]) (.lst (L.map Ck.k)) = .ok (.bl false) := by
      show (match hasV (.tup [.str m, .int t]) (L.map Ck.k) with | some b => R.ok (D.bl (!b)) | none => .bad) = _
      rw [hv]; rfl
    refine ⟨L, .sh (.str m), .sh (.int t), hL, hU, by omega, fun c hc => .inl hc, ?_⟩
    unfold b1_law_checks
    iterate 8 (walk_at "den"; try simp only [h12, h13, en, ix, r13, nin])
  | false =>
    rw [hb] at hv
    have nin : ninLD (.tup [.str m, .int t]) (.lst (L.map Ck.k)) = .ok (.bl true) := by
      show (match hasV (.tup [.str m, .int t]) (L.map Ck.k) with | some b => R.ok (D.bl (!b)) | none => .bad) = _
      rw [hv]; rfl
    have no : ∀ c ∈ L, ¬ (c.m = m ∧ c.t = t) := fun c hc w => by
      have := List.any_eq_false.mp hb c hc
      simp [w.1, w.2] at this
    refine ⟨L ++ [⟨m, t, p, q⟩], .sh (.str m), .sh (.int t), fun c hc => ?_, fun c hc d hd e1 e2 => ?_, by simp, fun c hc => ?_, ?_⟩
    · rcases List.mem_append.mp hc with hc | hc
      · exact hL c hc
      · rw [List.mem_singleton.mp hc]; exact ⟨F.low, F.p, F.q, tr, mo⟩
    · rcases List.mem_append.mp hc with hc | hc <;> rcases List.mem_append.mp hd with hd | hd
      · exact hU c hc d hd e1 e2
      · rw [List.mem_singleton.mp hd] at e1 e2; exact absurd ⟨e1, e2⟩ (no c hc)
      · rw [List.mem_singleton.mp hc] at e1 e2; exact absurd ⟨e1.symm, e2.symm⟩ (no d hd)
      · rw [List.mem_singleton.mp hc, List.mem_singleton.mp hd]
    · rcases List.mem_append.mp hc with hc | hc
      · exact .inl hc
      · rw [List.mem_singleton.mp hc]; exact .inr mi
    · unfold b1_law_checks
      iterate 12 (walk_at "den"; try simp only [h12, h13, h14, en, ix, r13, nin, hpq, if_pos l1, if_pos l2])
      simp
theorem checks_loop {ws : List Str} (hw : ws.length = 3) (ho : ∀ w ∈ ws, PyData.strOk w = true) {near : Int} (hn : 0 ≤ near ∧ near < 999999960) (s0 : Sl) : ∀ (cs : List Int) (L : List Ck) (s5 s6 s7 : Sl), (∀ c ∈ L, c.Ok) → Uniq L → (∀ c ∈ L, c.m ∈ ws) → L.length + cs.length ≤ 1000 →
    ∃ L' s5' s6' s7', (∀ c ∈ L', c.Ok) ∧ Uniq L' ∧ (∀ c ∈ L', c.m ∈ ws) ∧ L'.length ≤ L.length + cs.length ∧
      forD (gV 5) (b1_law_checks a Fm Ft Fs) (cs.map D.int) [s0, .sh (.lst (ws.map D.str)), .sh (.int near), .ow (L.map Ck.d), .ow (L.map Ck.k), s5, s6, s7] = .nx [s0, .sh (.lst (ws.map D.str)), .sh (.int near), .ow (L'.map Ck.d), .ow (L'.map Ck.k), s5', s6', s7']
  | [], L, s5, s6, s7, hL, hU, hW, hl => ⟨L, s5, s6, s7, hL, hU, hW, by simp, rfl⟩
  | c :: cs, L, s5, s6, s7, hL, hU, hW, hl => by
    rw [List.length_cons] at hl
    obtain ⟨L1, t6, t7, g1, g2, g3, g4, g5⟩ := checks_body (a := a) hm ht hs hw ho hn hL hU (by omega) c s0 s6 s7
    obtain ⟨L2, u5, u6, u7, k1, k2, k3, k4, k5⟩ := checks_loop hw ho hn s0 cs L1 (.sh (.int c)) t6 t7 g1 g2 (fun c hc => (g4 c hc).elim (hW c) id) (by omega)
    refine ⟨L2, u5, u6, u7, k1, k2, k3, by rw [List.length_cons]; omega, ?_⟩
    rw [List.map_cons, q_forD_c]
    walk_at "den"
    rw [g5, q_turn_n]
    exact k5
theorem m_checks {ws : List Str} (hw : ws.length = 3) (ho : ∀ w ∈ ws, PyData.strOk w = true) {near : Int} (hn : 0 ≤ near ∧ near < 999999960) (cs : List Int) (hl : cs.length ≤ 1000) :
    ∃ L : List Ck, (∀ c ∈ L, c.Ok) ∧ Uniq L ∧ (∀ c ∈ L, c.m ∈ ws) ∧ L.length ≤ cs.length ∧ finT (g_law_checks a Fm Ft Fs (startD 8 [.lst (cs.map .int), .lst (ws.map D.str), .int near])) = .ok (.lst (L.map Ck.d)) := by
  obtain ⟨L, u5, u6, u7, k1, k2, k3, k4, k5⟩ := checks_loop (a := a) hm ht hs hw ho hn (.sh (.lst (cs.map .int))) cs [] .no .no .no (fun c hc => by simp at hc) (fun c hc => by simp at hc) (fun c hc => by simp at hc) (by simpa using hl)
  refine ⟨L, k1, k2, k3, by simpa using k4, ?_⟩
  rw [List.map_nil, List.map_nil] at k5
  have l0 : ([] : List D).length ≤ 1000 := by decide
  unfold g_law_checks
  iterate 5 (walk_at "den")
  rw [k5]
  iterate 4 (walk_at "den")
end
noncomputable def stA (m : Str) (t : Int) (o : Option Ck) (c : Ck) : Option Ck := match o with
  | none => if (decide (c.t ≤ t) && decide (c.m = m)) = true then some c else none
  | some b => if (decide (c.t ≤ t) && decide (c.m = m)) = true ∧ b.t < c.t then some c else some b
noncomputable def stB (m : Str) (t : Int) (o : Option Ck) (c : Ck) : Option Ck := match o with
  | none => if (decide (t ≤ c.t) && decide (c.m = m)) = true then some c else none
  | some b => if (decide (t ≤ c.t) && decide (c.m = m)) = true ∧ - b.t < - c.t then some c else some b
theorem foldA (L : List Ck) (m : Str) (t : Int) : L.foldl (stA m t) none = ahead L m t := by
  have e := CK.fold_none (fun c : Ck => c.t) (fun c => decide (c.t ≤ t) && decide (c.m = m)) L
  unfold ahead
  rw [← e]
  congr 1
  funext o c
  cases o <;> rfl
theorem foldB (L : List Ck) (m : Str) (t : Int) : L.foldl (stB m t) none = behind L m t := by
  have e := CK.fold_none (fun c : Ck => - c.t) (fun c => decide (t ≤ c.t) && decide (c.m = m)) L
  unfold behind
  rw [← e]
  congr 1
  funext o c
  cases o <;> rfl
section
variable (m : Str) (t : Int) (c : Ck) (s2 s6 s7 : Sl)
theorem off_A (A : Option Ck) (s4 : Sl) : (sIf (bAnd (b1 tB (d2 eqSD (d2 ixD (dV 5) (dC (.int 0))) (dV 0))) (bAnd (b1 tB (d2 leD (d2 ixD (dV 5) (dC (.int 1))) (dV 1))) (bOr (b1 tB (d2 isD2 (dV 3) (dC .non))) (b1 tB (d2 gtD (d2 ixD (dV 5) (dC (.int 1))) (d2 ixD (dV 3) (dC (.int 1)))))))) (sSet 3 (dV 5)) sNil)
      [.sh (.str m), .sh (.int t), s2, .sh (optD Ck.d A .non), s4, .sh c.d, s6, s7] = .nx [.sh (.str m), .sh (.int t), s2, .sh (optD Ck.d (stA m t A c) .non), s4, .sh c.d, s6, s7] := by
  have i0 : L2.atI [D.str c.m, .int c.t, pr c.p c.q] 0 = some (.str c.m) := rfl
  have i1 : L2.atI [D.str c.m, .int c.t, pr c.p c.q] 1 = some (.int c.t) := rfl
  cases A with
  | none =>
    unfold stA optD
    by_cases h1' : c.m = m
    · have h1 := decide_eq_true h1'
      by_cases h2 : c.t ≤ t
      · iterate 6 (walk_at "den"; try simp only [i0, i1, h1, h2, decide_true, Bool.and_self])
      · iterate 6 (walk_at "den"; try simp only [i0, i1, h1, h2, decide_true, decide_false, Bool.false_and])
    · have h1 := decide_eq_false h1'
      iterate 6 (walk_at "den"; try simp only [i0, i1, h1, Bool.and_false])
  | some b =>
    have j1 : L2.atI [D.str b.m, .int b.t, pr b.p b.q] 1 = some (.int b.t) := rfl
    unfold stA optD
    by_cases h1' : c.m = m
    · have h1 := decide_eq_true h1'
      by_cases h2 : c.t ≤ t
      · by_cases h3 : b.t < c.t
        · iterate 7 (walk_at "den"; try simp only [i0, i1, j1, h1, h2, h3, decide_true, Bool.and_self, and_self])
        · iterate 7 (walk_at "den"; try simp only [i0, i1, j1, h1, h2, h3, decide_true, decide_false, Bool.and_self, and_false])
      · iterate 7 (walk_at "den"; try simp only [i0, i1, j1, h1, h2, decide_true, decide_false, Bool.false_and, false_and])
    · have h1 := decide_eq_false h1'
      iterate 7 (walk_at "den"; try simp only [i0, i1, j1, h1, Bool.and_false, false_and])
theorem off_B (B : Option Ck) (s3 : Sl) : (sIf (bAnd (b1 tB (d2 eqSD (d2 ixD (dV 5) (dC (.int 0))) (dV 0))) (bAnd (b1 tB (d2 geD (d2 ixD (dV 5) (dC (.int 1))) (dV 1))) (bOr (b1 tB (d2 isD2 (dV 4) (dC .non))) (b1 tB (d2 ltD (d2 ixD (dV 5) (dC (.int 1))) (d2 ixD (dV 4) (dC (.int 1)))))))) (sSet 4 (dV 5)) sNil)
      [.sh (.str m), .sh (.int t), s2, s3, .sh (optD Ck.d B .non), .sh c.d, s6, s7] = .nx [.sh (.str m), .sh (.int t), s2, s3, .sh (optD Ck.d (stB m t B c) .non), .sh c.d, s6, s7] := by
  have i0 : L2.atI [D.str c.m, .int c.t, pr c.p c.q] 0 = some (.str c.m) := rfl
  have i1 : L2.atI [D.str c.m, .int c.t, pr c.p c.q] 1 = some (.int c.t) := rfl
  cases B with
  | none =>
    unfold stB optD
    by_cases h1' : c.m = m
    · have h1 := decide_eq_true h1'
      by_cases h2 : t ≤ c.t
      · iterate 6 (walk_at "den"; try simp only [i0, i1, h1, h2, decide_true, Bool.and_self])
      · iterate 6 (walk_at "den"; try simp only [i0, i1, h1, h2, decide_true, decide_false, Bool.false_and])
    · have h1 := decide_eq_false h1'
      iterate 6 (walk_at "den"; try simp only [i0, i1, h1, Bool.and_false])
  | some b =>
    have j1 : L2.atI [D.str b.m, .int b.t, pr b.p b.q] 1 = some (.int b.t) := rfl
    unfold stB optD
    by_cases h1' : c.m = m
    · have h1 := decide_eq_true h1'
      by_cases h2 : t ≤ c.t
      · by_cases h3 : c.t < b.t
        · have h4 : - b.t < - c.t := by omega
          iterate 7 (walk_at "den"; try simp only [i0, i1, j1, h1, h2, h3, h4, decide_true, Bool.and_self, and_self])
        · have h4 : ¬ - b.t < - c.t := by omega
          iterate 7 (walk_at "den"; try simp only [i0, i1, j1, h1, h2, h3, h4, decide_true, decide_false, Bool.and_self, and_false])
      · iterate 7 (walk_at "den"; try simp only [i0, i1, j1, h1, h2, decide_true, decide_false, Bool.false_and, false_and])
    · have h1 := decide_eq_false h1'
      iterate 7 (walk_at "den"; try simp only [i0, i1, j1, h1, Bool.and_false, false_and])
end
theorem off_loop {Fl : List D → R D} (m : Str) (t : Int) (s2 s6 s7 : Sl) : ∀ (L : List Ck) (A B : Option Ck) (s5 : Sl),
    ∃ s5', forD (gV 5) (b1_law_off a Fl) (L.map Ck.d) [.sh (.str m), .sh (.int t), s2, .sh (optD Ck.d A .non), .sh (optD Ck.d B .non), s5, s6, s7] = .nx [.sh (.str m), .sh (.int t), s2, .sh (optD Ck.d (L.foldl (stA m t) A) .non), .sh (optD Ck.d (L.foldl (stB m t) B) .non), s5', s6, s7]
  | [], A, B, s5 => ⟨s5, rfl⟩
  | c :: L, A, B, s5 => by
    obtain ⟨s5', e⟩ := off_loop (Fl := Fl) m t s2 s6 s7 L (stA m t A c) (stB m t B c) (.sh c.d)
    refine ⟨s5', ?_⟩
    rw [List.map_cons, q_forD_c]
    walk_at "den"
    have b : b1_law_off a Fl [.sh (.str m), .sh (.int t), s2, .sh (optD Ck.d A .non), .sh (optD Ck.d B .non), .sh c.d, s6, s7] = .nx [.sh (.str m), .sh (.int t), s2, .sh (optD Ck.d (stA m t A c) .non), .sh (optD Ck.d (stB m t B c) .non), .sh c.d, s6, s7] := by
      unfold b1_law_off
      rw [q_sSeq_a, off_A, q_seq_n, off_B]
    rw [b, q_turn_n, List.foldl_cons, List.foldl_cons]
    exact e
theorem shp_ck {c : Ck} (h : c.Ok) : SeqAt.shaped c.y = true := by
  unfold SeqAt.shaped
  simp [PyData.canLay0, PyData.canLayAll0, h.s, PyData.depth, PyData.depthAll]
theorem eq_ck {c d : Ck} (hc : c.Ok) (hd : d.Ok) : eqDD c.d d.d = .ok (.bl (PyData.eqv c.y d.y)) := by
  unfold eqDD eqvD
  show (match (if (SeqAt.shaped c.y && SeqAt.shaped d.y) = true then some (PyData.eqv c.y d.y) else none) with | some r => R.ok (D.bl r) | none => .bad) = _
  rw [shp_ck hc, shp_ck hd, if_pos (by rfl)]
theorem eqv_ck (c : Ck) : PyData.eqv c.y c.y = true := by simp [PyData.eqv, PyData.eqvAll]
theorem eqv_ne {c d : Ck} (h : c.t ≠ d.t) : PyData.eqv c.y d.y = false := by simp [PyData.eqv, PyData.eqvAll, h]
theorem m_loff {Fl : List D → R D} (hl : ∀ t b : Int, 0 < b → b.natAbs < 10 ^ 400 → Fl [.int t, .int b] = .ok (fr t b)) {L : List Ck} (hL : ∀ c ∈ L, c.Ok) (hU : Uniq L) (m : Str) {t : Int} (ht : 0 ≤ t ∧ t ≤ 1000000000) :
    finT (g_law_off a Fl (startD 8 [.str m, .int t, .lst (L.map Ck.d)])) = .ok (pr (offL L m t).1 (offL L m t).2) := by
  obtain ⟨s5, e⟩ := off_loop (a := a) (Fl := Fl) m t (.sh (.lst (L.map Ck.d))) .no .no L none none .no
  rw [foldA, foldB] at e
  have e' : forD (gV 5) (b1_law_off a Fl) (L.map Ck.d) [.sh (.str m), .sh (.int t), .sh (.lst (L.map Ck.d)), .sh .non, .sh .non, .no, .no, .no] = .nx [.sh (.str m), .sh (.int t), .sh (.lst (L.map Ck.d)), .sh (optD Ck.d (ahead L m t) .non), .sh (optD Ck.d (behind L m t) .non), s5, .no, .no] := e
  unfold g_law_off offL
  cases ha : ahead L m t with
  | none =>
    cases hb : behind L m t with
    | none =>
      rw [ha, hb] at e'
      unfold optD at e'
      dsimp only at e'
      iterate 4 (walk_at "den"; try simp only [e'])
      iterate 4 (walk_at "den")
    | some d =>
      rw [ha, hb] at e'
      unfold optD at e'
      dsimp only at e'
      have k2 : L2.atI [D.str d.m, .int d.t, pr d.p d.q] 2 = some (pr d.p d.q) := rfl
      iterate 4 (walk_at "den"; try simp only [e'])
      iterate 8 (walk_at "den"; try simp only [k2])
  | some c =>
    obtain ⟨hc1, hc2, hc3⟩ := ahead_in ha
    have hc := hL c hc1
    have j1 : L2.atI [D.str c.m, .int c.t, pr c.p c.q] 1 = some (.int c.t) := rfl
    have j2 : L2.atI [D.str c.m, .int c.t, pr c.p c.q] 2 = some (pr c.p c.q) := rfl
    have ne : (!([D.str c.m, .int c.t, pr c.p c.q] : List D).isEmpty) = true := rfl
    cases hb : behind L m t with
    | none =>
      rw [ha, hb] at e'
      unfold optD at e'
      dsimp only at e'
      iterate 4 (walk_at "den"; try simp only [e'])
      iterate 8 (walk_at "den"; try simp only [j2, ne])
    | some d =>
      obtain ⟨hd1, hd2, hd3⟩ := behind_in hb
      have hd := hL d hd1
      have k1 : L2.atI [D.str d.m, .int d.t, pr d.p d.q] 1 = some (.int d.t) := rfl
      have k2 : L2.atI [D.str d.m, .int d.t, pr d.p d.q] 2 = some (pr d.p d.q) := rfl
      have p0 : L2.atI [D.int c.p, D.int c.q] 0 = some (.int c.p) := rfl
      have p1 : L2.atI [D.int c.p, D.int c.q] 1 = some (.int c.q) := rfl
      have q0 : L2.atI [D.int d.p, D.int d.q] 0 = some (.int d.p) := rfl
      have q1 : L2.atI [D.int d.p, D.int d.q] 1 = some (.int d.q) := rfl
      rw [ha, hb] at e'
      unfold optD at e'
      dsimp only at e'
      have eq := eq_ck hc hd
      dsimp only
      by_cases hT : c.t = d.t
      · have ecd : c = d := hU c hc1 d hd1 (hc2.trans hd2.symm) hT
        subst ecd
        rw [eqv_ck] at eq
        rw [if_pos rfl]
        iterate 4 (walk_at "den"; try simp only [e'])
        iterate 8 (walk_at "den"; try simp only [j2, ne, eq])
      · rw [eqv_ne hT] at eq
        rw [if_neg hT]
        have hcq := hc.low.pos
        have hdq := hd.low.pos
        have t1 := (sz_time hd.t).sub (sz_time ht)
        have t2 := (sz_time ht).sub (sz_time hc.t)
        have t3 := (sz_time hd.t).sub (sz_time hc.t)
        have m1 := q_mulS (hc.p.mono (show 9 ≤ 190 by decide)) (t1.mono (show 11 ≤ 190 by decide))
        have m2 := q_mulS ((hc.p.mul t1).mono (show 20 ≤ 190 by decide)) (hd.q.mono (show 6 ≤ 190 by decide))
        have m3 := q_mulS (hd.p.mono (show 9 ≤ 190 by decide)) (t2.mono (show 11 ≤ 190 by decide))
        have m4 := q_mulS ((hd.p.mul t2).mono (show 20 ≤ 190 by decide)) (hc.q.mono (show 6 ≤ 190 by decide))
        have m5 := q_mulS (t3.mono (show 11 ≤ 190 by decide)) (hc.q.mono (show 6 ≤ 190 by decide))
        have m6 := q_mulS ((t3.mul hc.q).mono (show 17 ≤ 190 by decide)) (hd.q.mono (show 6 ≤ 190 by decide))
        have hB : 0 < (d.t - c.t) * c.q * d.q := Int.mul_pos (Int.mul_pos (by omega) hcq) hdq
        have f := hl (c.p * (d.t - t) * d.q + d.p * (t - c.t) * c.q) ((d.t - c.t) * c.q * d.q) hB (((t3.mul hc.q).mul hd.q).mono (show 23 ≤ 400 by decide))
        iterate 4 (walk_at "den"; try simp only [e'])
        iterate 22 (walk_at "den"; try simp only [j1, j2, k1, k2, p0, p1, q0, q1, ne, eq, m1, m2, m3, m4, m5, m6, f])
end WP
namespace WP
open PySem L2 P2 TM T2 PySem.NumText
local macro_rules | `(tactic| walk_at "den") => `(tactic| try simp (disch := first | assumption | decide | exact Nat.le_of_ble_eq_true rfl) only [q_bind_k, q_bind_x, q_bind_b, q_toS_k, q_toS_x, q_toS_b, q_seq_n, q_seq_r, q_seq_x, q_seq_b, q_turn_n, q_turn_c, q_turn_k, q_turn_r, q_turn_b, q_turn_x, q_fin_r, q_fin_n, q_fin_x, q_noEx_k, q_okO_k, q_ofO_s, q_sSeq_a, q_sNil_a, q_sRet_a, q_sExpr_a, q_sSet_a, q_sIf_a, q_dC_a, q_d1_a, q_d2_a, q_b1B_a, q_b1T_a, q_bAnd_a, q_bOr_a, q_bNot_a, q_dAnd_a, q_dOr_a, q_dOrV_a, q_dNot_a, q_dIf_a, q_dA_a, q_aNil_a, q_aCons_a, q_asN_a, q_dMt_a, q_dSl_a, q_dComp_a, q_sFor_a, q_sOwn_a, q_sPar_a, q_app3, q_app4, q_frz3, q_frz4, q_min_i, q_rng1_p, q_toO_s, q_gV_a, q_tB_b, q_tT_b, q_tT_i, q_tT_n, q_tT_l, q_tT_t, q_add_i, q_sub_i, q_fdiv_p, q_mod_p, q_lt_i, q_le_i, q_gt_i, q_ge_i, q_neg_i, q_eq_i, q_eq_s, q_eq_b, q_ne_i, q_ne_s, q_in_s, q_ix_l, q_ix_t, q_ix_s, q_sl_l, q_sl_s, q_pI_i, q_len_s, q_len_l, q_len_t, q_abs_i, q_max_i, q_int_s, q_all_l, q_any_l, q_st_s, q_zf_s, q_hs_s, q_fit_p, q_add_sp, q_add_lp, q_mkT_p, q_asI_l, q_asI_t, q_asI_s, q_fmt_s, q_jNil_a, q_jCons_k, q_isX_i, q_isX_b, q_isX_s, q_isX_t, q_isX_l, q_slW_l, q_slW_s, q_is_bb, q_isn_bb, q_is_nn, q_isn_nn, q_is_tn, q_isn_tn, q_v0, q_v1, q_v2, q_v3, q_v4, q_v5, q_v6, q_v7, q_v8, q_v9, q_v10, q_v11, q_v12, q_v13, startD, List.map_cons, List.map_nil, List.length_cons, List.length_nil, Nat.sub_self, Nat.reduceAdd, Nat.reduceSub, List.replicate_zero, List.replicate_succ, List.append_nil, List.nil_append, List.cons_append, List.set_cons_zero, List.set_cons_succ, if_true, if_false, Nat.reduceLT, Nat.zero_lt_succ, Bool.not_true, Bool.not_false, Bool.false_eq_true, reduceIte, decide_true, decide_false, Int.reduceLT, Int.reduceEq, Int.reduceNeg, Int.reducePow, Int.reduceSub, Int.reduceAdd, Int.reduceMul,  List.length_set])
variable {a : Ad}
structure Ut where
  m : Str
  t : Int
  p : Int
  q : Int
  x : Int
  y : Int
noncomputable abbrev Ut.d (u : Ut) : D := .tup [.str u.m, .int u.t, pr u.p u.q, pr u.x u.y]
structure Ut.Good (u : Ut) : Prop where
  f : FOk u.p u.q
  n : u.p ≠ 0
  s : FOk u.x u.y
structure Ut.Ok (u : Ut) : Prop extends u.Good where
  t : 0 ≤ u.t ∧ u.t ≤ 1000000000
  o : PyData.strOk u.m = true
noncomputable def pickU (L : List Ut) (m : Str) (t : Int) : Option Ut := CK.maxC (fun u => u.t) (L.filter fun u => decide (u.m = m) && decide (u.t ≤ t))
noncomputable def unitOf (L : List Ut) (m : Str) (t : Int) : Ut := (pickU L m t).getD ⟨m, t, 1, 1, 0, 1⟩
theorem good_one (m : Str) (t : Int) : Ut.Good ⟨m, t, 1, 1, 0, 1⟩ where
  f := show FOk 1 1 from ⟨⟨by decide, by decide⟩, by unfold Sz; decide, by unfold Sz; decide⟩
  n := show (1 : Int) ≠ 0 by decide
  s := show FOk 0 1 from ⟨⟨by decide, by decide⟩, by unfold Sz; decide, by unfold Sz; decide⟩
theorem unit_good {L : List Ut} (hL : ∀ u ∈ L, u.Ok) (m : Str) (t : Int) : (unitOf L m t).Good := by
  unfold unitOf
  cases h : pickU L m t with
  | none => exact good_one m t
  | some u => exact (hL u (List.mem_filter.mp (CK.max_spec _ h).1).1).toGood
theorem m_cu (L : List Ut) (hl : L.length ≤ 1000) (m : Str) (t : Int) : finT (g_counting_unit a (startD 5 [.str m, .int t, .lst (L.map Ut.d)])) = .ok (unitOf L m t).d := by
  have c1 : ∀ ρ : Ev, ρ[0]? = some (.sh (.str m)) → ρ[1]? = some (.sh (.int t)) → compO (gV 0) (bAnd (b1 tB (d2 eqSD (d2 ixD (dV 0) (dC (.int 0))) (dV 1))) (b1 tB (d2 leD (d2 ixD (dV 0) (dC (.int 1))) (dV 2)))) (dV 0) (capD 1 [0, 1] ρ) (L.map Ut.d) = some ((L.filter fun u => decide (u.m = m) && decide (u.t ≤ t)).map Ut.d) := fun ρ e0 e1 => by
    refine compO_filter Ut.d _ (fun d => [.sh d, .sh (.str m), .sh (.int t)]) L fun u _ => ⟨?_, ?_, rfl⟩
    · unfold capD
      simp only [List.map_cons, List.map_nil, e0, e1]
      rfl
    · have i0 : L2.atI [D.str u.m, .int u.t, pr u.p u.q, pr u.x u.y] 0 = some (.str u.m) := rfl
      have i1 : L2.atI [D.str u.m, .int u.t, pr u.p u.q, pr u.x u.y] 1 = some (.int u.t) := rfl
      by_cases z : u.m = m
      · have z' := decide_eq_true z
        iterate 4 (walk_at "den"; try simp only [i0, i1, z', Bool.true_and])
      · have z' := decide_eq_false z
        iterate 4 (walk_at "den"; try simp only [i0, i1, z', Bool.false_and])
  have szl : (L.map Ut.d).length ≤ sizeLine := by rw [List.length_map]; exact size_of (by omega)
  have db : ∀ (F : List D → R D) (fa fb : Ev → R D) (ρ : Ev), dBest false F fa fb ρ = (fa ρ).bind fun l => (fb ρ).bind fun d => bestD false F l d := fun _ _ _ _ => rfl
  have szo : ((L.filter fun u => decide (u.m = m) && decide (u.t ≤ t)).map Ut.d).length ≤ sizeLine := by rw [List.length_map]; exact size_of (Nat.le_trans (List.length_filter_le _ _) (by omega))
  have b1 := best_max (F := fun ds => (d2 ixD (dV 0) (dC (.int 1))) (startD 1 ds)) Ut.d (fun u => u.t) (fun u => rfl) (L.filter fun u => decide (u.m = m) && decide (u.t ≤ t)) (.tup [.str m, .int t, pr 1 1, pr 0 1])
  have e : optD Ut.d (CK.maxC (fun u : Ut => u.t) (L.filter fun u => decide (u.m = m) && decide (u.t ≤ t))) (.tup [.str m, .int t, pr 1 1, pr 0 1]) = (unitOf L m t).d := by
    unfold unitOf
    show optD Ut.d (pickU L m t) _ = _
    cases pickU L m t <;> rfl
  rw [e] at b1
  have l1 : 4 ≤ sizeLine := by decide
  have l2 : 2 ≤ sizeLine := by decide
  unfold g_counting_unit
  generalize (fun ds => (d2 ixD (dV 0) (dC (.int 1))) (startD 1 ds)) = F at b1 ⊢
  have c1' := c1 [.sh (.str m), .sh (.int t), .sh (.lst (L.map Ut.d)), .sh (.tup [.str m, .int t, pr 1 1, pr 0 1]), .no] rfl rfl
  iterate 9 (walk_at "den"; try simp only [c1', if_pos szo, if_pos szl, if_pos l1, if_pos l2, db, b1])
structure Us (a : Ad) (Fc Ff Fm Fx Fp Fo : List D → R D) : Prop where
  c : ∀ (L : List Ut) (m : Str) (t : Int), L.length ≤ 1000 → Fc [.str m, .int t, .lst (L.map Ut.d)] = .ok (unitOf L m t).d
  f : ∀ t b : Int, b ≠ 0 → b.natAbs < 10 ^ 400 → Ff [.int t, .int b] = .ok (fr t b)
  m : ∀ p q x y : Int, Sz 190 p → Sz 190 q → Sz 190 x → Sz 190 y → q ≠ 0 → y ≠ 0 → Fm [pr p q, pr x y] = .ok (fr (p * y - x * q) (q * y))
  x : ∀ p q x y : Int, Sz 190 p → Sz 190 q → Sz 190 x → Sz 190 y → q ≠ 0 → y ≠ 0 → Fx [pr p q, pr x y] = .ok (fr (p * x) (q * y))
  p : ∀ p q x y : Int, Sz 190 p → Sz 190 q → Sz 190 x → Sz 190 y → q ≠ 0 → y ≠ 0 → Fp [pr p q, pr x y] = .ok (fr (p * y + x * q) (q * y))
  o : ∀ p q x y : Int, Sz 190 p → Sz 190 q → Sz 190 x → Sz 190 y → q ≠ 0 → x ≠ 0 → Fo [pr p q, pr x y] = .ok (fr (p * y) (q * x))
theorem fr_same {x y x' y' : Int} (hy : y ≠ 0) (hy' : y' ≠ 0) (h : x * y' = x' * y) : fr x y = fr x' y' := by
  obtain ⟨e1, e2⟩ := CK.fr_eq hy hy' h
  unfold fr
  rw [e1, e2]
theorem fr_one (n : Int) : fr n 1 = pr n 1 := by
  obtain ⟨e1, e2⟩ := CK.fr_low (x := n) (y := 1) (p := n) (q := 1) (by decide) ⟨by decide, by simp⟩ rfl
  unfold fr
  rw [e1, e2]
section
variable {Fc Ff Fm Fx Fp Fo : List D → R D} (U : Us a Fc Ff Fm Fx Fp Fo)
include U
theorem m_meaning {L : List Ut} (hL : ∀ u ∈ L, u.Ok) (hl : L.length ≤ 1000) (m : Str) (t k n : Int) (hn : Sz 60 n) :
    finT (g_meaning a Fc Ff Fx Fp (startD 3 [.tup [.str m, .int t, .int k, .int n], .lst (L.map Ut.d)])) = .ok (fr (n * (unitOf L m t).p * (unitOf L m t).y + (unitOf L m t).x * (unitOf L m t).q) ((unitOf L m t).q * (unitOf L m t).y)) := by
  have c := U.c L m t hl
  have g := unit_good hL m t
  generalize unitOf L m t = u at *
  have f := U.f n 1 (by decide) (by decide)
  rw [fr_one] at f
  have q0 := g.f.low.pos
  have y0 := g.s.low.pos
  have x := U.x n 1 u.p u.q (hn.mono (by decide)) (by unfold Sz; decide) (g.f.p.mono (by decide)) (g.f.q.mono (by decide)) (by decide) (by omega)
  rw [Int.one_mul] at x
  have z1 : Sz 69 (n * u.p) := hn.mul g.f.p
  have q1 : u.q ≠ 0 := by omega
  have B0 := (FM.low_of (t := n * u.p) q1).pos
  have cr := FM.cross (t := n * u.p) q1
  have p := U.p (FM.top (n * u.p) u.q) (FM.bot (n * u.p) u.q) u.x u.y ((z1.top q1).mono (by decide)) ((g.f.q.bot q1).mono (by decide)) (g.s.p.mono (by decide)) (g.s.q.mono (by decide)) (by omega) (by omega)
  have e : fr (FM.top (n * u.p) u.q * u.y + u.x * FM.bot (n * u.p) u.q) (FM.bot (n * u.p) u.q * u.y) = fr (n * u.p * u.y + u.x * u.q) (u.q * u.y) :=
    fr_same (Int.mul_ne_zero (by omega) (by omega)) (Int.mul_ne_zero (by omega) (by omega)) (by grind)
  rw [e] at p
  have i0 : L2.atI [D.str m, .int t, .int k, .int n] 0 = some (.str m) := rfl
  have i1 : L2.atI [D.str m, .int t, .int k, .int n] 1 = some (.int t) := rfl
  have i3 : L2.atI [D.str m, .int t, .int k, .int n] 3 = some (.int n) := rfl
  have j2 : L2.atI [D.str u.m, .int u.t, pr u.p u.q, pr u.x u.y] 2 = some (pr u.p u.q) := rfl
  have j3 : L2.atI [D.str u.m, .int u.t, pr u.p u.q, pr u.x u.y] 3 = some (pr u.x u.y) := rfl
  unfold fr at x p
  unfold g_meaning
  iterate 9 (walk_at "den"; try simp only [i0, i1, i3, j2, j3, c, f, x, p])
end
end WP
namespace P2
open PySem L2
noncomputable def chK (z : D) (r : R D) : R D := match z with
  | .bl true => r
  | .bl false => .ok (.bl false)
  | _ => .bad
theorem q_chK_t {r : R D} : chK (.bl true) r = r := rfl
theorem q_chK_f {r : R D} : chK (.bl false) r = .ok (.bl false) := rfl
theorem q_dChain_a {g g' : D → D → R D} {fa fb fc : Ev → R D} {ρ : Ev} : dChain g g' fa fb fc ρ = (fa ρ).bind fun x => (fb ρ).bind fun y => (g x y).bind fun z => chK z ((fc ρ).bind fun w => g' y w) := rfl
theorem q_sPar3_a {i j k : Nat} {fs : Ev → R (List D)} {ρ : Ev} : sPar3 i j k fs ρ = toS (fs ρ) fun ds => match ds with
  | [d1, d2, d3] => if i < ρ.length ∧ j < ρ.length ∧ k < ρ.length then .nx (((ρ.set i (.sh d1)).set j (.sh d2)).set k (.sh d3)) else .bad
  | _ => .bad := rfl
end P2
namespace WP
open PySem L2 P2 TM T2 PySem.NumText
local macro_rules | `(tactic| walk_at "den") => `(tactic| try simp (disch := first | assumption | decide | exact Nat.le_of_ble_eq_true rfl) only [q_bind_k, q_bind_x, q_bind_b, q_toS_k, q_toS_x, q_toS_b, q_seq_n, q_seq_r, q_seq_x, q_seq_b, q_turn_n, q_turn_c, q_turn_k, q_turn_r, q_turn_b, q_turn_x, q_fin_r, q_fin_n, q_fin_x, q_noEx_k, q_okO_k, q_ofO_s, q_sSeq_a, q_sNil_a, q_sRet_a, q_sExpr_a, q_sSet_a, q_sIf_a, q_dC_a, q_d1_a, q_d2_a, q_b1B_a, q_b1T_a, q_bAnd_a, q_bOr_a, q_bNot_a, q_dAnd_a, q_dOr_a, q_dOrV_a, q_dNot_a, q_dIf_a, q_dA_a, q_aNil_a, q_aCons_a, q_asN_a, q_dMt_a, q_dSl_a, q_dComp_a, q_sFor_a, q_sOwn_a, q_sPar_a, q_app3, q_app4, q_frz3, q_frz4, q_min_i, q_rng1_p, q_toO_s, q_gV_a, q_tB_b, q_tT_b, q_tT_i, q_tT_n, q_tT_l, q_tT_t, q_add_i, q_sub_i, q_fdiv_p, q_mod_p, q_lt_i, q_le_i, q_gt_i, q_ge_i, q_neg_i, q_eq_i, q_eq_s, q_eq_b, q_ne_i, q_ne_s, q_in_s, q_ix_l, q_ix_t, q_ix_s, q_sl_l, q_sl_s, q_pI_i, q_len_s, q_len_l, q_len_t, q_abs_i, q_max_i, q_int_s, q_all_l, q_any_l, q_st_s, q_zf_s, q_hs_s, q_fit_p, q_add_sp, q_add_lp, q_mkT_p, q_asI_l, q_asI_t, q_asI_s, q_fmt_s, q_jNil_a, q_jCons_k, q_isX_i, q_isX_b, q_isX_s, q_isX_t, q_isX_l, q_slW_l, q_slW_s, q_is_bb, q_isn_bb, q_is_nn, q_isn_nn, q_is_tn, q_isn_tn, q_v0, q_v1, q_v2, q_v3, q_v4, q_v5, q_v6, q_v7, q_v8, q_v9, q_v10, q_v11, q_v12, q_v13, startD, List.map_cons, List.map_nil, List.length_cons, List.length_nil, Nat.sub_self, Nat.reduceAdd, Nat.reduceSub, List.replicate_zero, List.replicate_succ, List.append_nil, List.nil_append, List.cons_append, List.set_cons_zero, List.set_cons_succ, if_true, if_false, Nat.reduceLT, Nat.zero_lt_succ, Bool.not_true, Bool.not_false, Bool.false_eq_true, reduceIte, decide_true, decide_false, Int.reduceLT, Int.reduceEq, Int.reduceNeg, Int.reducePow, Int.reduceSub, Int.reduceAdd, Int.reduceMul,  List.length_set])
variable {a : Ad}
noncomputable abbrev Ut.ck (u : Ut) : Ck := ⟨u.m, u.t, 0, 1⟩
noncomputable abbrev Ut.k (u : Ut) : D := .tup [.str u.m, .int u.t]
theorem Ut.Ok.ck {u : Ut} (h : u.Ok) : u.ck.Ok := ⟨⟨by show (0 : Int) < 1; decide, by show Int.gcd 0 1 = 1; decide⟩, by show (0 : Int).natAbs < 10 ^ 9; decide, by show (1 : Int).natAbs < 10 ^ 6; decide, h.t, h.o⟩
theorem has_us {L : List Ut} (hL : ∀ u ∈ L, u.Ok) {m : Str} {t : Int} (hm : PyData.strOk m = true) : hasV (.tup [.str m, .int t]) (L.map Ut.k) = some (L.any fun c => decide (c.m = m) && decide (c.t = t)) := by
  have h := has_ks (L := L.map Ut.ck) (fun c hc => by obtain ⟨u, hu, rfl⟩ := List.mem_map.mp hc; exact (hL u hu).ck) (t := t) hm
  rw [List.map_map, List.any_map] at h
  exact h
noncomputable def UniqU (L : List Ut) : Prop := ∀ c ∈ L, ∀ d ∈ L, c.m = d.m → c.t = d.t → c = d
section
variable {Fm Ft Fs : List D → R D} (hm : ∀ c k : Int, 0 ≤ k ∧ k ≤ 1000 → Fm [.int c, .int k] = .ok (.int (mixZ c k))) (ht : ∀ c near : Int, Ft [.int c, .int near] = .ok (.int (timeZ c near))) (hs : ∀ c : Int, ∃ p q, FOk p q ∧ Fs [.int c] = .ok (pr p q))
include hm ht hs
theorem units_body {ws : List Str} (hw : ws.length = 3) (ho : ∀ w ∈ ws, PyData.strOk w = true) {near : Int} (hn : 0 ≤ near ∧ near < 999999960) {L : List Ut} (hL : ∀ c ∈ L, c.Ok) (hU : UniqU L) (hl : L.length ≤ 1000) (c : Int) (s0 s6 s7 s8 : Sl) :
    ∃ L' s6' s7' s8', (∀ c ∈ L', c.Ok) ∧ UniqU L' ∧ L'.length ≤ L.length + 1 ∧ (∀ c ∈ L', c ∈ L ∨ c.m ∈ ws) ∧
      b1_law_units a Fm Ft Fs [s0, .sh (.lst (ws.map D.str)), .sh (.int near), .ow (L.map Ut.d), .ow (L.map Ut.k), .sh (.int c), s6, s7, s8] = .nx [s0, .sh (.lst (ws.map D.str)), .sh (.int near), .ow (L'.map Ut.d), .ow (L'.map Ut.k), .sh (.int c), s6', s7', s8'] := by
  have h8 := hm c 8 (by decide)
  have h9 := hm c 9 (by decide)
  have h10 := hm c 10 (by decide)
  have h11 := hm c 11 (by decide)
  have r13 := ht (mixZ c 9 / 5) near
  obtain ⟨p0, q0, F0, hpq⟩ := hs (mixZ c 10)
  obtain ⟨x, y, G, hxy⟩ := hs (mixZ c 11)
  have tr := time_rng (c := mixZ c 9 / 5) hn
  generalize timeZ (mixZ c 9 / 5) near = t at *
  obtain ⟨n, en⟩ := Int.eq_ofNat_of_zero_le (show 0 ≤ mixZ c 8 / 5 % 3 by omega)
  have n3 : n < ws.length := by omega
  have ix : L2.atI (ws.map D.str) (n : Int) = some (.str ws[n]) := atI_nat (by rw [List.getElem?_map, List.getElem?_eq_getElem n3]; rfl)
  have mo := ho ws[n] (List.getElem_mem n3)
  have mi := List.getElem_mem n3
  generalize ws[n] = m at ix mo mi
  have hv := has_us hL (t := t) mo
  have l1 : (L.map Ut.k).length < sizeLine := by rw [List.length_map]; exact lt_size (by omega)
  have l2 : (L.map Ut.d).length < sizeLine := by rw [List.length_map]; exact lt_size (by omega)
  have i0 : L2.atI [D.int p0, D.int q0] 0 = some (.int p0) := rfl
  -- the factor
  obtain ⟨p, q, F, pn, hf⟩ : ∃ p q, FOk p q ∧ p ≠ 0 ∧ ∀ s0 s1 s2 s3 s4 s5 s6 s7 : Sl, (sIf (b1 tB (d2 eqSD (d2 ixD (dV 8) (dC (.int 0))) (dC (.int 0)))) (sSet 8 (dA mkT (aCons (dC (.int 1)) (aCons (dC (.int 3)) aNil)))) sNil) [s0, s1, s2, s3, s4, s5, s6, s7, .sh (pr p0 q0)] = .nx [s0, s1, s2, s3, s4, s5, s6, s7, .sh (pr p q)] := by
    by_cases z : p0 = 0
    · refine ⟨1, 3, ⟨⟨by decide, by decide⟩, by unfold Sz; decide, by unfold Sz; decide⟩, by decide, fun s0 s1 s2 s3 s4 s5 s6 s7 => ?_⟩
      have z' := decide_eq_true z
      iterate 4 (walk_at "den"; try simp only [i0, z'])
    · refine ⟨p0, q0, F0, z, fun s0 s1 s2 s3 s4 s5 s6 s7 => ?_⟩
      have z' := decide_eq_false z
      iterate 4 (walk_at "den"; try simp only [i0, z'])
  cases hb : (L.any fun c => decide (c.m = m) && decide (c.t = t)) with
  | true =>
    rw [hb] at hv
    have nin : ninLD (.tup [.str m, .int t]) (.lst (L.map Ut.k)) = .ok (.bl false) := by
      show (match hasV (.tup [.str m, .int t]) (L.map Ut.k) with | some b => R.ok (D.bl (!b)) | none => .bad) = _
      rw [hv]; rfl
    refine ⟨L, .sh (.str m), .sh (.int t), .sh (pr p q), hL, hU, by omega, fun c hc => .inl hc, ?_⟩
    unfold b1_law_units
    generalize (sIf (b1 tB (d2 eqSD (d2 ixD (dV 8) (dC (.int 0))) (dC (.int 0)))) (sSet 8 (dA mkT (aCons (dC (.int 1)) (aCons (dC (.int 3)) aNil)))) sNil) = SI at hf ⊢
    iterate 10 (walk_at "den"; try simp only [h8, h9, h10, en, ix, r13, hpq, hf, nin])
  | false =>
    rw [hb] at hv
    have nin : ninLD (.tup [.str m, .int t]) (.lst (L.map Ut.k)) = .ok (.bl true) := by
      show (match hasV (.tup [.str m, .int t]) (L.map Ut.k) with | some b => R.ok (D.bl (!b)) | none => .bad) = _
      rw [hv]; rfl
    have no : ∀ c ∈ L, ¬ (c.m = m ∧ c.t = t) := fun c hc w => by
      have := List.any_eq_false.mp hb c hc
      simp [w.1, w.2] at this
    refine ⟨L ++ [⟨m, t, p, q, x, y⟩], .sh (.str m), .sh (.int t), .sh (pr p q), fun c hc => ?_, fun c hc d hd e1 e2 => ?_, by simp, fun c hc => ?_, ?_⟩
    · rcases List.mem_append.mp hc with hc | hc
      · exact hL c hc
      · rw [List.mem_singleton.mp hc]; exact ⟨⟨F, pn, G⟩, tr, mo⟩
    · rcases List.mem_append.mp hc with hc | hc <;> rcases List.mem_append.mp hd with hd | hd
      · exact hU c hc d hd e1 e2
      · rw [List.mem_singleton.mp hd] at e1 e2; exact absurd ⟨e1, e2⟩ (no c hc)
      · rw [List.mem_singleton.mp hc] at e1 e2; exact absurd ⟨e1.symm, e2.symm⟩ (no d hd)
      · rw [List.mem_singleton.mp hc, List.mem_singleton.mp hd]
    · rcases List.mem_append.mp hc with hc | hc
      · exact .inl hc
      · rw [List.mem_singleton.mp hc]; exact .inr mi
    · unfold b1_law_units
      generalize (sIf (b1 tB (d2 eqSD (d2 ixD (dV 8) (dC (.int 0))) (dC (.int 0)))) (sSet 8 (dA mkT (aCons (dC (.int 1)) (aCons (dC (.int 3)) aNil)))) sNil) = SI at hf ⊢
      iterate 14 (walk_at "den"; try simp only [h8, h9, h10, h11, en, ix, r13, nin, hpq, hxy, hf, if_pos l1, if_pos l2])
      simp
theorem units_loop {ws : List Str} (hw : ws.length = 3) (ho : ∀ w ∈ ws, PyData.strOk w = true) {near : Int} (hn : 0 ≤ near ∧ near < 999999960) (s0 : Sl) : ∀ (cs : List Int) (L : List Ut) (s5 s6 s7 s8 : Sl), (∀ c ∈ L, c.Ok) → UniqU L → (∀ c ∈ L, c.m ∈ ws) → L.length + cs.length ≤ 1000 →
    ∃ L' s5' s6' s7' s8', (∀ c ∈ L', c.Ok) ∧ UniqU L' ∧ (∀ c ∈ L', c.m ∈ ws) ∧ L'.length ≤ L.length + cs.length ∧
      forD (gV 5) (b1_law_units a Fm Ft Fs) (cs.map D.int) [s0, .sh (.lst (ws.map D.str)), .sh (.int near), .ow (L.map Ut.d), .ow (L.map Ut.k), s5, s6, s7, s8] = .nx [s0, .sh (.lst (ws.map D.str)), .sh (.int near), .ow (L'.map Ut.d), .ow (L'.map Ut.k), s5', s6', s7', s8']
  | [], L, s5, s6, s7, s8, hL, hU, hW, hl => ⟨L, s5, s6, s7, s8, hL, hU, hW, by simp, rfl⟩
  | c :: cs, L, s5, s6, s7, s8, hL, hU, hW, hl => by
    rw [List.length_cons] at hl
    obtain ⟨L1, t6, t7, t8, g1, g2, g3, g4, g5⟩ := units_body (a := a) hm ht hs hw ho hn hL hU (by omega) c s0 s6 s7 s8
    obtain ⟨L2, u5, u6, u7, u8, k1, k2, k3, k4, k5⟩ := units_loop hw ho hn s0 cs L1 (.sh (.int c)) t6 t7 t8 g1 g2 (fun c hc => (g4 c hc).elim (hW c) id) (by omega)
    refine ⟨L2, u5, u6, u7, u8, k1, k2, k3, by rw [List.length_cons]; omega, ?_⟩
    rw [List.map_cons, q_forD_c]
    walk_at "den"
    rw [g5, q_turn_n]
    exact k5
theorem m_units {ws : List Str} (hw : ws.length = 3) (ho : ∀ w ∈ ws, PyData.strOk w = true) {near : Int} (hn : 0 ≤ near ∧ near < 999999960) (cs : List Int) (hl : cs.length ≤ 1000) :
    ∃ L : List Ut, (∀ c ∈ L, c.Ok) ∧ UniqU L ∧ (∀ c ∈ L, c.m ∈ ws) ∧ L.length ≤ cs.length ∧ finT (g_law_units a Fm Ft Fs (startD 9 [.lst (cs.map .int), .lst (ws.map D.str), .int near])) = .ok (.lst (L.map Ut.d)) := by
  obtain ⟨L, u5, u6, u7, u8, k1, k2, k3, k4, k5⟩ := units_loop (a := a) hm ht hs hw ho hn (.sh (.lst (cs.map .int))) cs [] .no .no .no .no (fun c hc => by simp at hc) (fun c hc => by simp at hc) (fun c hc => by simp at hc) (by simpa using hl)
  refine ⟨L, k1, k2, k3, by simpa using k4, ?_⟩
  rw [List.map_nil, List.map_nil] at k5
  have l0 : ([] : List D).length ≤ 1000 := by decide
  unfold g_law_units
  iterate 5 (walk_at "den")
  rw [k5]
  iterate 4 (walk_at "den")
end
noncomputable def stU (m : Str) (t : Int) (o : Option Ut) (c : Ut) : Option Ut := match o with
  | none => if (decide (c.m = m) && decide (c.t ≤ t)) = true then some c else none
  | some b => if (decide (c.m = m) && decide (c.t ≤ t)) = true ∧ b.t < c.t then some c else some b
theorem foldU (L : List Ut) (m : Str) (t : Int) : L.foldl (stU m t) none = pickU L m t := by
  have e := CK.fold_none (fun c : Ut => c.t) (fun c => decide (c.m = m) && decide (c.t ≤ t)) L
  unfold pickU
  rw [← e]
  congr 1
  funext o c
  cases o <;> rfl
noncomputable def bT (o : Option Ut) : Int := match o with
  | some u => u.t
  | none => -1
noncomputable def bF (o : Option Ut) : D := match o with
  | some u => pr u.p u.q
  | none => pr 1 1
noncomputable def bS (o : Option Ut) : D := match o with
  | some u => pr u.x u.y
  | none => pr 0 1
end WP
namespace P2
open PySem L2
theorem q_v14 {x0 x1 x2 x3 x4 x5 x6 x7 x8 x9 x10 x11 x12 x13 : Sl} {d : D} {r : Ev} : dV 14 (x0 :: x1 :: x2 :: x3 :: x4 :: x5 :: x6 :: x7 :: x8 :: x9 :: x10 :: x11 :: x12 :: x13 :: .sh d :: r) = .ok d := rfl
theorem q_v15 {x0 x1 x2 x3 x4 x5 x6 x7 x8 x9 x10 x11 x12 x13 x14 : Sl} {d : D} {r : Ev} : dV 15 (x0 :: x1 :: x2 :: x3 :: x4 :: x5 :: x6 :: x7 :: x8 :: x9 :: x10 :: x11 :: x12 :: x13 :: x14 :: .sh d :: r) = .ok d := rfl
theorem q_v17 {x0 x1 x2 x3 x4 x5 x6 x7 x8 x9 x10 x11 x12 x13 x14 x15 x16 : Sl} {d : D} {r : Ev} : dV 17 (x0 :: x1 :: x2 :: x3 :: x4 :: x5 :: x6 :: x7 :: x8 :: x9 :: x10 :: x11 :: x12 :: x13 :: x14 :: x15 :: x16 :: .sh d :: r) = .ok d := rfl
theorem q_v18 {x0 x1 x2 x3 x4 x5 x6 x7 x8 x9 x10 x11 x12 x13 x14 x15 x16 x17 : Sl} {d : D} {r : Ev} : dV 18 (x0 :: x1 :: x2 :: x3 :: x4 :: x5 :: x6 :: x7 :: x8 :: x9 :: x10 :: x11 :: x12 :: x13 :: x14 :: x15 :: x16 :: x17 :: .sh d :: r) = .ok d := rfl
theorem q_v19 {x0 x1 x2 x3 x4 x5 x6 x7 x8 x9 x10 x11 x12 x13 x14 x15 x16 x17 x18 : Sl} {d : D} {r : Ev} : dV 19 (x0 :: x1 :: x2 :: x3 :: x4 :: x5 :: x6 :: x7 :: x8 :: x9 :: x10 :: x11 :: x12 :: x13 :: x14 :: x15 :: x16 :: x17 :: x18 :: .sh d :: r) = .ok d := rfl
end P2
namespace WP
open PySem L2 P2 TM PySem.NumText
local macro_rules | `(tactic| walk_at "den") => `(tactic| try simp (disch := first | assumption | decide | exact Nat.le_of_ble_eq_true rfl) only [q_bind_k, q_bind_x, q_bind_b, q_toS_k, q_toS_x, q_toS_b, q_seq_n, q_seq_r, q_seq_x, q_seq_b, q_turn_n, q_turn_c, q_turn_k, q_turn_r, q_turn_b, q_turn_x, q_fin_r, q_fin_n, q_fin_x, q_noEx_k, q_okO_k, q_ofO_s, q_sSeq_a, q_sNil_a, q_sRet_a, q_sExpr_a, q_sSet_a, q_sIf_a, q_dC_a, q_d1_a, q_d2_a, q_b1B_a, q_b1T_a, q_bAnd_a, q_bOr_a, q_bNot_a, q_dAnd_a, q_dOr_a, q_dOrV_a, q_dNot_a, q_dIf_a, q_dA_a, q_aNil_a, q_aCons_a, q_asN_a, q_dMt_a, q_dSl_a, q_dComp_a, q_sFor_a, q_sOwn_a, q_sPar_a, q_app3, q_app4, q_frz3, q_frz4, q_min_i, q_rng1_p, q_toO_s, q_gV_a, q_tB_b, q_tT_b, q_tT_i, q_tT_n, q_tT_l, q_tT_t, q_add_i, q_sub_i, q_fdiv_p, q_mod_p, q_lt_i, q_le_i, q_gt_i, q_ge_i, q_neg_i, q_eq_i, q_eq_s, q_eq_b, q_ne_i, q_ne_s, q_in_s, q_ix_l, q_ix_t, q_ix_s, q_sl_l, q_sl_s, q_pI_i, q_len_s, q_len_l, q_len_t, q_abs_i, q_max_i, q_int_s, q_all_l, q_any_l, q_st_s, q_zf_s, q_hs_s, q_fit_p, q_add_sp, q_add_lp, q_mkT_p, q_asI_l, q_asI_t, q_asI_s, q_fmt_s, q_jNil_a, q_jCons_k, q_isX_i, q_isX_b, q_isX_s, q_isX_t, q_isX_l, q_slW_l, q_slW_s, q_is_bb, q_isn_bb, q_is_nn, q_isn_nn, q_is_tn, q_isn_tn, q_v0, q_v1, q_v2, q_v3, q_v4, q_v5, q_v6, q_v7, q_v8, q_v9, q_v10, q_v11, q_v12, q_v13, startD, List.map_cons, List.map_nil, List.length_cons, List.length_nil, Nat.sub_self, Nat.reduceAdd, Nat.reduceSub, List.replicate_zero, List.replicate_succ, List.append_nil, List.nil_append, List.cons_append, List.set_cons_zero, List.set_cons_succ, if_true, if_false, Nat.reduceLT, Nat.zero_lt_succ, Bool.not_true, Bool.not_false, Bool.false_eq_true, reduceIte, decide_true, decide_false, Int.reduceLT, Int.reduceEq, Int.reduceNeg, Int.reducePow, Int.reduceSub, Int.reduceAdd, Int.reduceMul,  List.length_set])
variable {a : Ad}
theorem cut_ints (xs : List Int) (lo hi : Option Int) : ∃ ys : List Int, ys.length ≤ xs.length ∧ cutD (xs.map D.int) lo hi = ys.map D.int := by
  refine ⟨(xs.drop (HT.sIx (xs.map D.int).length 0 lo)).take (HT.sIx (xs.map D.int).length (xs.map D.int).length hi - HT.sIx (xs.map D.int).length 0 lo), ?_, ?_⟩
  · rw [List.length_take, List.length_drop]; omega
  · unfold cutD
    rw [← List.map_drop, ← List.map_take]
theorem t1 (cells : List Int) (ρ : Ev) (v3 : dV 3 ρ = .ok (.lst (cells.map D.int))) : (aCons (dV 3) aNil) ρ = .ok [.lst (cells.map D.int)] := by
  show ((dV 3 ρ).bind fun x => (R.ok []).bind fun xs => R.ok (x :: xs)) = _
  rw [v3]; rfl
theorem t2 (cells : List Int) (ρ : Ev) (v3 : dV 3 ρ = .ok (.lst (cells.map D.int))) : (dA lenD (aCons (dV 3) aNil)) ρ = .ok (.int (cells.length : Int)) := by
  show ((aCons (dV 3) aNil) ρ).bind lenD = _
  rw [t1 cells ρ v3, R.bind_ok, q_len_l, List.length_map]
theorem t3 (cells : List Int) (ρ : Ev) (rr : List D → R (List D)) (n : List D) (v3 : dV 3 ρ = .ok (.lst (cells.map D.int))) (rn : rr [.int (cells.length : Int)] = .ok n) : ((aCons (dA lenD (aCons (dV 3) aNil)) aNil) ρ).bind rr = .ok n := by
  have e : (aCons (dA lenD (aCons (dV 3) aNil)) aNil) ρ = .ok [.int (cells.length : Int)] := by
    show ((dA lenD (aCons (dV 3) aNil) ρ).bind fun x => (R.ok []).bind fun xs => R.ok (x :: xs)) = _
    rw [t2 cells ρ v3]; rfl
  rw [e, R.bind_ok]; exact rn
theorem seq_step {A B : Ev → RT} {ρ ρ' : Ev} {r : R D} (h1 : A ρ = .nx ρ') (h2 : finT (B ρ') = r) : finT (sSeq A B ρ) = r := by
  rw [q_sSeq_a, h1, q_seq_n]; exact h2
theorem words {Fc Fw : List D → R D} {ns : List Int} {x0 : Int} (c0 : Fc [.lst (ns.map .int), .int 0] = .ok (.int x0)) (hw : ∀ c k : Int, 0 ≤ k ∧ k < 26 → ∃ z, PyData.strOk z = true ∧ z.length ≤ 20 ∧ Fw [.int c, .int k] = .ok (.str z)) :
    ∃ w0 w1 w2, PyData.strOk w0 = true ∧ PyData.strOk w1 = true ∧ PyData.strOk w2 = true ∧ ∀ ρ : Ev, ρ[0]? = some (.sh (.lst (ns.map .int))) →
      (asN (dComp (fun ρ => ((aCons (dC (.int 3)) aNil) ρ).bind rng1) 1 [0] (gV 0) (fun _ => .ok true) (dA Fw (aCons (dA Fc (aCons (dV 1) (aCons (dC (.int 0)) aNil))) (aCons (dV 0) aNil))))) ρ = .ok (.lst [.str w0, .str w1, .str w2]) := by
  obtain ⟨w0, a0, b0, e0⟩ := hw x0 0 (by decide)
  obtain ⟨w1, a1, b1', e1⟩ := hw x0 1 (by decide)
  obtain ⟨w2, a2, b2', e2⟩ := hw x0 2 (by decide)
  refine ⟨w0, w1, w2, a0, a1, a2, fun ρ h0 => ?_⟩
  have r3 : rng1 [.int 3] = .ok [.int 0, .int 1, .int 2] := rfl
  have l3 : ([D.int 0, D.int 1, D.int 2] : List D).length ≤ sizeLine := by show 3 ≤ sizeLine; decide
  have cw : compO (gV 0) (fun _ => .ok true) (dA Fw (aCons (dA Fc (aCons (dV 1) (aCons (dC (.int 0)) aNil))) (aCons (dV 0) aNil))) (capD 1 [0] ρ) [.int 0, .int 1, .int 2] = some [.str w0, .str w1, .str w2] := by
    have st : ∀ (k : Int) (z : Str), Fw [.int x0, .int k] = .ok (.str z) → (dA Fw (aCons (dA Fc (aCons (dV 1) (aCons (dC (.int 0)) aNil))) (aCons (dV 0) aNil))) [.sh (.int k), .sh (.lst (ns.map .int))] = .ok (.str z) := fun k z h => by
      iterate 4 (walk_at "den"; try simp only [c0, h])
    have s0 := st 0 w0 e0
    have s1 := st 1 w1 e1
    have s2 := st 2 w2 e2
    have cons : ∀ (d o : D) (r out : List D), (dA Fw (aCons (dA Fc (aCons (dV 1) (aCons (dC (.int 0)) aNil))) (aCons (dV 0) aNil))) [.sh d, .sh (.lst (ns.map .int))] = .ok o → compO (gV 0) (fun _ => .ok true) (dA Fw (aCons (dA Fc (aCons (dV 1) (aCons (dC (.int 0)) aNil))) (aCons (dV 0) aNil))) [.no, .sh (.lst (ns.map .int))] r = some out →
        compO (gV 0) (fun _ => .ok true) (dA Fw (aCons (dA Fc (aCons (dV 1) (aCons (dC (.int 0)) aNil))) (aCons (dV 0) aNil))) [.no, .sh (.lst (ns.map .int))] (d :: r) = some (o :: out) := fun d o r out h1 h2 => by
      show ((okO ((dA Fw (aCons (dA Fc (aCons (dV 1) (aCons (dC (.int 0)) aNil))) (aCons (dV 0) aNil))) [.sh d, .sh (.lst (ns.map .int))])).bind fun v => (compO (gV 0) (fun _ => .ok true) (dA Fw (aCons (dA Fc (aCons (dV 1) (aCons (dC (.int 0)) aNil))) (aCons (dV 0) aNil))) [.no, .sh (.lst (ns.map .int))] r).bind fun vs => some (v :: vs)) = _
      rw [h1, h2]
      rfl
    have cp : capD 1 [0] ρ = [.no, .sh (.lst (ns.map .int))] := by
      unfold capD
      simp only [List.map_cons, List.map_nil, h0]
      rfl
    rw [cp]
    exact cons _ _ _ _ s0 (cons _ _ _ _ s1 (cons _ _ _ _ s2 rfl))
  show ((((R.ok [D.int 3]).bind rng1).bind fun ds => if ds.length ≤ sizeLine then ofO (compO (gV 0) (fun _ => .ok true) (dA Fw (aCons (dA Fc (aCons (dV 1) (aCons (dC (.int 0)) aNil))) (aCons (dV 0) aNil))) (capD 1 [0] ρ) ds) else .bad).bind fun ds => R.ok (D.lst ds)) = _
  rw [R.bind_ok, r3, R.bind_ok, if_pos l3, cw]
  rfl
noncomputable abbrev Ut.y' (c : Ut) : PyData := .tuple [.str c.m, .int c.t, .tuple [.int c.p, .int c.q], .tuple [.int c.x, .int c.y]]
end WP
namespace WP
open PySem L2 P2 TM T2 PySem.NumText
local macro_rules | `(tactic| walk_at "den") => `(tactic| try simp (disch := first | assumption | decide | exact Nat.le_of_ble_eq_true rfl) only [q_bind_k, q_bind_x, q_bind_b, q_toS_k, q_toS_x, q_toS_b, q_seq_n, q_seq_r, q_seq_x, q_seq_b, q_turn_n, q_turn_c, q_turn_k, q_turn_r, q_turn_b, q_turn_x, q_fin_r, q_fin_n, q_fin_x, q_noEx_k, q_okO_k, q_ofO_s, q_sSeq_a, q_sNil_a, q_sRet_a, q_sExpr_a, q_sSet_a, q_sIf_a, q_dC_a, q_d1_a, q_d2_a, q_b1B_a, q_b1T_a, q_bAnd_a, q_bOr_a, q_bNot_a, q_dAnd_a, q_dOr_a, q_dOrV_a, q_dNot_a, q_dIf_a, q_dA_a, q_aNil_a, q_aCons_a, q_asN_a, q_dMt_a, q_dSl_a, q_dComp_a, q_sFor_a, q_sOwn_a, q_sPar_a, q_app3, q_app4, q_frz3, q_frz4, q_min_i, q_rng1_p, q_toO_s, q_gV_a, q_tB_b, q_tT_b, q_tT_i, q_tT_n, q_tT_l, q_tT_t, q_add_i, q_sub_i, q_fdiv_p, q_mod_p, q_lt_i, q_le_i, q_gt_i, q_ge_i, q_neg_i, q_eq_i, q_eq_s, q_eq_b, q_ne_i, q_ne_s, q_in_s, q_ix_l, q_ix_t, q_ix_s, q_sl_l, q_sl_s, q_pI_i, q_len_s, q_len_l, q_len_t, q_abs_i, q_max_i, q_int_s, q_all_l, q_any_l, q_st_s, q_zf_s, q_hs_s, q_fit_p, q_add_sp, q_add_lp, q_mkT_p, q_asI_l, q_asI_t, q_asI_s, q_fmt_s, q_jNil_a, q_jCons_k, q_isX_i, q_isX_b, q_isX_s, q_isX_t, q_isX_l, q_slW_l, q_slW_s, q_is_bb, q_isn_bb, q_is_nn, q_isn_nn, q_is_tn, q_isn_tn, q_v0, q_v1, q_v2, q_v3, q_v4, q_v5, q_v6, q_v7, q_v8, q_v9, q_v10, q_v11, q_v12, q_v13, startD, List.map_cons, List.map_nil, List.length_cons, List.length_nil, Nat.sub_self, Nat.reduceAdd, Nat.reduceSub, List.replicate_zero, List.replicate_succ, List.append_nil, List.nil_append, List.cons_append, List.set_cons_zero, List.set_cons_succ, if_true, if_false, Nat.reduceLT, Nat.zero_lt_succ, Bool.not_true, Bool.not_false, Bool.false_eq_true, reduceIte, decide_true, decide_false, Int.reduceLT, Int.reduceEq, Int.reduceNeg, Int.reducePow, Int.reduceSub, Int.reduceAdd, Int.reduceMul,  List.length_set])
variable {a : Ad}
end WP
namespace W41
open PySem L2 P2 WP
noncomputable def at_ (i : Nat) : Stmt := PySem.Challenge.pw_weather_k41_rows.main.body.getD i (.Pass ⟨0, 0, 0, 0⟩)
noncomputable abbrev s_fraction : Stmt := at_ 4
noncomputable abbrev s_is_whole : Stmt := at_ 5
noncomputable abbrev s_common_divisor : Stmt := at_ 6
noncomputable abbrev s_plus : Stmt := at_ 7
noncomputable abbrev s_minus : Stmt := at_ 8
noncomputable abbrev s_times : Stmt := at_ 9
noncomputable abbrev s_value_at : Stmt := at_ 11
noncomputable abbrev s_share_at : Stmt := at_ 12
noncomputable abbrev s_off_at : Stmt := at_ 14
noncomputable abbrev s_time_of : Stmt := at_ 15
noncomputable abbrev s_put_right : Stmt := at_ 16
noncomputable abbrev s_meaning : Stmt := at_ 18
noncomputable abbrev s_counting_unit : Stmt := at_ 19
noncomputable abbrev s_row_of : Stmt := at_ 21
noncomputable abbrev s_row_reading : Stmt := at_ 22
noncomputable abbrev s_law_cell_at : Stmt := at_ 24
noncomputable abbrev s_law_mixed : Stmt := at_ 25
noncomputable abbrev s_law_low : Stmt := at_ 26
noncomputable abbrev s_law_word : Stmt := at_ 27
noncomputable abbrev s_law_share : Stmt := at_ 28
noncomputable abbrev s_law_time : Stmt := at_ 29
noncomputable abbrev s_law_units : Stmt := at_ 30
noncomputable abbrev s_law_meant : Stmt := at_ 31
noncomputable abbrev s_law_checks : Stmt := at_ 32
noncomputable abbrev s_law_off : Stmt := at_ 33
noncomputable abbrev s_law : Stmt := at_ 34
structure Tx (K : PySem.W.Frag) (mg : Str → Option Value) (a : Ad) : Prop where
  b_abs : mg "abs" = none
  b_bool : mg "bool" = none
  b_int : mg "int" = none
  b_isinstance : mg "isinstance" = none
  b_len : mg "len" = none
  b_list : mg "list" = none
  b_max : mg "max" = none
  b_min : mg "min" = none
  b_range : mg "range" = none
  b_sorted : mg "sorted" = none
  b_tuple : mg "tuple" = none
  c_WeatherError : mg "WeatherError" = some (.ref a.WeatherError)
  c_NoFraction : mg "NoFraction" = some (.ref a.NoFraction)
  z_NoFraction : ZCls K a.NoFraction
  isok : IsOk K a.isx
section
variable {P : Program} {w : World} {K : PySem.W.Frag} {mg : Str → Option Value} {base : Heap} {f : Addr} {fd : FuncData}
theorem sc_common_divisor : FnScope ["one", "other", "rest"] ["one", "other"] (defScope s_common_divisor) := ⟨rfl, rfl, rfl, by decide +kernel, rfl, by decide +kernel, by decide +kernel⟩
theorem ok_common_divisor {a : Ad} (T : Tx K mg a) (F : Fun K "common_divisor" "common_divisor" s_common_divisor f fd) :
    FnOk P w K mg base (CXx P w) 1 f fd ["one", "other"] (spD 2 K fun ds => finT (g_common_divisor a (startD 3 ds))) :=
  fn_den F sc_common_divisor fun cdv A outer s H E hr => (dss_cons (ds_while 10000000000000000000000000000000000000000000000000000000000000000000000000000000000000000000000000000000000000000000000000000000000000000000000000000000000000000000000000000000000000000000000000000000000000000000000000000000000000000000000000000000000000000000000000000000000000000000000000000000000000000000000000000000000000000000000000000000000000000000000000000000000000000000000000000000000000000 pass_cx (dt_cmp op_neSD (de_var 1) de_int) (dss_cons (ds_set 2 sc_common_divisor.nd rfl (Or.inl rfl) (de_op op_modD (de_var 0) (de_var 1)))
    (dss_cons (ds_set 0 sc_common_divisor.nd rfl (Or.inl rfl) (de_var 1))
    (dss_one (ds_set 1 sc_common_divisor.nd rfl (Or.inl rfl) (de_var 2))))))
    (dss_one (ds_ret (de_var 0))))
theorem sc_is_whole : FnScope ["thing"] ["thing"] (defScope s_is_whole) := ⟨rfl, rfl, rfl, by decide +kernel, rfl, by decide +kernel, by decide +kernel⟩
theorem ok_is_whole {a : Ad} (T : Tx K mg a) (F : Fun K "is_whole" "is_whole" s_is_whole f fd) :
    FnOk P w K mg base (CXx P w) 1 f fd ["thing"] (spD 1 K fun ds => finT (g_is_whole a (startD 1 ds))) :=
  fn_den F sc_is_whole fun cdv A outer s H E hr => (dss_one (ds_ret (de_and (de_callB (call_isXD T.isok) rfl T.b_isinstance bt_isinstance (da_cons (de_var 0) (da_cons (de_ty rfl T.b_int bt_int) da_nil))) (de_one (de_not (de_callB (call_isXD T.isok) rfl T.b_isinstance bt_isinstance (da_cons (de_var 0) (da_cons (de_ty rfl T.b_bool bt_bool) da_nil))))))))
theorem sc_fraction : FnScope ["top", "bottom", "divisor"] ["top", "bottom"] (defScope s_fraction) := ⟨rfl, rfl, rfl, by decide +kernel, rfl, by decide +kernel, by decide +kernel⟩
theorem ok_fraction {a : Ad} {F_is_whole : List D → R D} {F_common_divisor : List D → R D} (T : Tx K mg a) (F : Fun K "fraction" "fraction" s_fraction f fd)
    (h_is_whole : Has P w K mg base (CXx P w) 2 "is_whole" ["thing"] (spD 1 K F_is_whole))
    (h_common_divisor : Has P w K mg base (CXx P w) 2 "common_divisor" ["one", "other"] (spD 2 K F_common_divisor)) :
    FnOk P w K mg base (CXx P w) 3 f fd ["top", "bottom"] (spD 2 K fun ds => finT (g_fraction a F_is_whole F_common_divisor (startD 3 ds))) :=
  fn_den F sc_fraction fun cdv A outer s H E hr => (dss_cons (ds_if (DW.dt (dw_or (dt_not (dt_truth (de_call h_is_whole hr rfl passX rfl (da_cons (de_var 0) da_nil)))) (dw_or (dt_not (dt_truth (de_call h_is_whole hr rfl passX rfl (da_cons (de_var 1) da_nil)))) (dw_or1 (dt_cmp op_eqSD (de_var 1) de_int))))) (dss_one (ds_raise0 PySem.F.excBase_ValueError T.z_NoFraction.cls rfl T.c_NoFraction)) dss_nil)
    (dss_cons (ds_set 2 sc_fraction.nd rfl (Or.inl rfl) (de_call h_common_divisor hr rfl passX rfl (da_cons (de_callB call_absD rfl T.b_abs bt_abs (da_cons (de_var 0) da_nil)) (da_cons (de_callB call_absD rfl T.b_abs bt_abs (da_cons (de_var 1) da_nil)) da_nil))))
    (dss_cons (ds_if (dt_cmp op_ltD (de_var 1) de_int) (dss_one (ds_set 2 sc_fraction.nd rfl (Or.inl rfl) (de_un un_negD (de_var 2)))) dss_nil)
    (dss_one (ds_ret (de_tup (da_cons (de_op op_fdivD (de_var 0) (de_var 2)) (da_cons (de_op op_fdivD (de_var 1) (de_var 2)) da_nil))))))))
theorem sc_plus : FnScope ["one", "other"] ["one", "other"] (defScope s_plus) := ⟨rfl, rfl, rfl, by decide +kernel, rfl, by decide +kernel, by decide +kernel⟩
theorem ok_plus {a : Ad} {F_fraction : List D → R D} (T : Tx K mg a) (F : Fun K "plus" "plus" s_plus f fd)
    (h_fraction : Has P w K mg base (CXx P w) 3 "fraction" ["top", "bottom"] (spD 2 K F_fraction)) :
    FnOk P w K mg base (CXx P w) 4 f fd ["one", "other"] (spD 2 K fun ds => finT (g_plus a F_fraction (startD 2 ds))) :=
  fn_den F sc_plus fun cdv A outer s H E hr => (dss_one (ds_ret (de_call h_fraction hr rfl passX rfl (da_cons (de_op op_addD (de_op op_mulUD (de_ix ix_D (de_var 0) de_int) (de_ix ix_D (de_var 1) de_int)) (de_op op_mulUD (de_ix ix_D (de_var 1) de_int) (de_ix ix_D (de_var 0) de_int))) (da_cons (de_op op_mulUD (de_ix ix_D (de_var 0) de_int) (de_ix ix_D (de_var 1) de_int)) da_nil)))))
theorem sc_minus : FnScope ["one", "other"] ["one", "other"] (defScope s_minus) := ⟨rfl, rfl, rfl, by decide +kernel, rfl, by decide +kernel, by decide +kernel⟩
theorem ok_minus {a : Ad} {F_fraction : List D → R D} (T : Tx K mg a) (F : Fun K "minus" "minus" s_minus f fd)
    (h_fraction : Has P w K mg base (CXx P w) 3 "fraction" ["top", "bottom"] (spD 2 K F_fraction)) :
    FnOk P w K mg base (CXx P w) 4 f fd ["one", "other"] (spD 2 K fun ds => finT (g_minus a F_fraction (startD 2 ds))) :=
  fn_den F sc_minus fun cdv A outer s H E hr => (dss_one (ds_ret (de_call h_fraction hr rfl passX rfl (da_cons (de_op op_subD (de_op op_mulUD (de_ix ix_D (de_var 0) de_int) (de_ix ix_D (de_var 1) de_int)) (de_op op_mulUD (de_ix ix_D (de_var 1) de_int) (de_ix ix_D (de_var 0) de_int))) (da_cons (de_op op_mulUD (de_ix ix_D (de_var 0) de_int) (de_ix ix_D (de_var 1) de_int)) da_nil)))))
theorem sc_times : FnScope ["one", "other"] ["one", "other"] (defScope s_times) := ⟨rfl, rfl, rfl, by decide +kernel, rfl, by decide +kernel, by decide +kernel⟩
theorem ok_times {a : Ad} {F_fraction : List D → R D} (T : Tx K mg a) (F : Fun K "times" "times" s_times f fd)
    (h_fraction : Has P w K mg base (CXx P w) 3 "fraction" ["top", "bottom"] (spD 2 K F_fraction)) :
    FnOk P w K mg base (CXx P w) 4 f fd ["one", "other"] (spD 2 K fun ds => finT (g_times a F_fraction (startD 2 ds))) :=
  fn_den F sc_times fun cdv A outer s H E hr => (dss_one (ds_ret (de_call h_fraction hr rfl passX rfl (da_cons (de_op op_mulUD (de_ix ix_D (de_var 0) de_int) (de_ix ix_D (de_var 1) de_int)) (da_cons (de_op op_mulUD (de_ix ix_D (de_var 0) de_int) (de_ix ix_D (de_var 1) de_int)) da_nil)))))
theorem sc_share_at : FnScope ["time", "start", "end"] ["time", "start", "end"] (defScope s_share_at) := ⟨rfl, rfl, rfl, by decide +kernel, rfl, by decide +kernel, by decide +kernel⟩
theorem ok_share_at {a : Ad} {F_fraction : List D → R D} (T : Tx K mg a) (F : Fun K "share_at" "share_at" s_share_at f fd)
    (h_fraction : Has P w K mg base (CXx P w) 3 "fraction" ["top", "bottom"] (spD 2 K F_fraction)) :
    FnOk P w K mg base (CXx P w) 4 f fd ["time", "start", "end"] (spD 3 K fun ds => finT (g_share_at a F_fraction (startD 3 ds))) :=
  fn_den F sc_share_at fun cdv A outer s H E hr => (dss_cons (ds_if (dt_cmp op_eqSD (de_var 1) (de_var 2)) (dss_one (ds_ret (de_call h_fraction hr rfl passX rfl (da_cons de_int (da_cons de_int da_nil))))) dss_nil)
    (dss_one (ds_ret (de_call h_fraction hr rfl passX rfl (da_cons (de_op op_subD (de_var 0) (de_var 1)) (da_cons (de_op op_subD (de_var 2) (de_var 1)) da_nil))))))
theorem sc_value_at : FnScope ["time", "first", "second", "share"] ["time", "first", "second"] (defScope s_value_at) := ⟨rfl, rfl, rfl, by decide +kernel, rfl, by decide +kernel, by decide +kernel⟩
theorem ok_value_at {a : Ad} {F_share_at : List D → R D} {F_minus : List D → R D} {F_times : List D → R D} {F_plus : List D → R D} (T : Tx K mg a) (F : Fun K "value_at" "value_at" s_value_at f fd)
    (h_share_at : Has P w K mg base (CXx P w) 4 "share_at" ["time", "start", "end"] (spD 3 K F_share_at))
    (h_minus : Has P w K mg base (CXx P w) 4 "minus" ["one", "other"] (spD 2 K F_minus))
    (h_times : Has P w K mg base (CXx P w) 4 "times" ["one", "other"] (spD 2 K F_times))
    (h_plus : Has P w K mg base (CXx P w) 4 "plus" ["one", "other"] (spD 2 K F_plus)) :
    FnOk P w K mg base (CXx P w) 5 f fd ["time", "first", "second"] (spD 3 K fun ds => finT (g_value_at a F_share_at F_minus F_times F_plus (startD 4 ds))) :=
  fn_den F sc_value_at fun cdv A outer s H E hr => (dss_cons (ds_set 3 sc_value_at.nd rfl (Or.inl rfl) (de_call h_share_at hr rfl passX rfl (da_cons (de_var 0) (da_cons (de_ix ix_D (de_var 1) de_int) (da_cons (de_ix ix_D (de_var 2) de_int) da_nil)))))
    (dss_one (ds_ret (de_call h_plus hr rfl passX rfl (da_cons (de_ix ix_D (de_var 1) de_int) (da_cons (de_call h_times hr rfl passX rfl (da_cons (de_var 3) (da_cons (de_call h_minus hr rfl passX rfl (da_cons (de_ix ix_D (de_var 2) de_int) (da_cons (de_ix ix_D (de_var 1) de_int) da_nil))) da_nil))) da_nil))))))
theorem sc_time_of : FnScope ["check"] ["check"] (defScope s_time_of) := ⟨rfl, rfl, rfl, by decide +kernel, rfl, by decide +kernel, by decide +kernel⟩
theorem ok_time_of {a : Ad} (T : Tx K mg a) (F : Fun K "time_of" "time_of" s_time_of f fd) :
    FnOk P w K mg base (CXx P w) 1 f fd ["check"] (spD 1 K fun ds => finT (g_time_of a (startD 1 ds))) :=
  fn_den F sc_time_of fun cdv A outer s H E hr => (dss_one (ds_ret (de_ix ix_D (de_var 0) de_int)))
theorem sc_off_at : FnScope ["mast", "time", "checks", "own", "first", "second"] ["mast", "time", "checks"] (defScope s_off_at) := ⟨rfl, rfl, rfl, by decide +kernel, rfl, by decide +kernel, by decide +kernel⟩
theorem ok_off_at {a : Ad} {F_fraction : List D → R D} {F_time_of : List D → R D} {F_value_at : List D → R D} (T : Tx K mg a) (F : Fun K "off_at" "off_at" s_off_at f fd)
    (h_fraction : Has P w K mg base (CXx P w) 5 "fraction" ["top", "bottom"] (spD 2 K F_fraction))
    (h_time_of : Has P w K mg base (CXx P w) 4 "time_of" ["check"] (spD 1 K F_time_of))
    (h_value_at : Has P w K mg base (CXx P w) 5 "value_at" ["time", "first", "second"] (spD 3 K F_value_at)) :
    FnOk P w K mg base (CXx P w) 6 f fd ["mast", "time", "checks"] (spD 3 K fun ds => finT (g_off_at a F_fraction F_time_of F_value_at (startD 6 ds))) :=
  fn_den F sc_off_at fun cdv A outer s H E hr => (dss_cons (ds_setU 3 sc_off_at.nd rfl (Or.inl rfl) (dnu_comp1 (Nt := ["check"]) (tn := 1) (x := "mast") 0 [(".0", .local), ("check", .local), ("mast", .cell)] rfl (di_any (de_var 2)) (fun _ _ _ _ => (dg_name 0 (show List.Nodup (["check", "mast"] : List Str) from by decide +kernel) rfl (Or.inl rfl))) (by simp) (fun _ _ _ _ => df_one (dt_cmp op_eqSD (de_ix ix_D (de_var 0) de_int) (de_var 1))) (fun _ _ _ _ => (de_var 0)) rfl (by decide +kernel) (by decide +kernel) rfl rfl rfl rfl rfl rfl (by decide +kernel) (by decide +kernel)))
    (dss_cons (ds_if (dt_cmp (op_eqDD hr.units) (de_var 3) (DN.de (dn_lst da_nil))) (dss_one (ds_ret (de_call h_fraction hr rfl passX rfl (da_cons de_int (da_cons de_int da_nil))))) dss_nil)
    (dss_cons (ds_set 4 sc_off_at.nd rfl (Or.inl rfl) (de_max h_time_of hr rfl rfl T.b_max rfl (DN.de (dn_comp1 (Nt := ["check"]) (tn := 1) (x := "time") 1 [(".0", .local), ("check", .local), ("time", .cell)] rfl (di_any (de_var 3)) (fun _ _ _ _ => (dg_name 0 (show List.Nodup (["check", "time"] : List Str) from by decide +kernel) rfl (Or.inl rfl))) (by simp) (fun _ _ _ _ => df_one (dt_cmp op_leD (de_ix ix_D (de_var 0) de_int) (de_var 1))) (fun _ _ _ _ => (de_var 0)) rfl (by decide +kernel) (by decide +kernel) rfl rfl rfl rfl rfl rfl (by decide +kernel) (by decide +kernel))) de_non))
    (dss_cons (ds_set 5 sc_off_at.nd rfl (Or.inl rfl) (de_min h_time_of hr rfl rfl T.b_min rfl (DN.de (dn_comp1 (Nt := ["check"]) (tn := 1) (x := "time") 1 [(".0", .local), ("check", .local), ("time", .cell)] rfl (di_any (de_var 3)) (fun _ _ _ _ => (dg_name 0 (show List.Nodup (["check", "time"] : List Str) from by decide +kernel) rfl (Or.inl rfl))) (by simp) (fun _ _ _ _ => df_one (dt_cmp op_geD (de_ix ix_D (de_var 0) de_int) (de_var 1))) (fun _ _ _ _ => (de_var 0)) rfl (by decide +kernel) (by decide +kernel) rfl rfl rfl rfl rfl rfl (by decide +kernel) (by decide +kernel))) de_non))
    (dss_cons (ds_if (dt_cmp op_isD2 (de_var 4) de_non) (dss_one (ds_set 4 sc_off_at.nd rfl (Or.inl rfl) (de_var 5))) dss_nil)
    (dss_cons (ds_if (dt_cmp op_isD2 (de_var 5) de_non) (dss_one (ds_set 5 sc_off_at.nd rfl (Or.inl rfl) (de_var 4))) dss_nil)
    (dss_one (ds_ret (de_call h_value_at hr rfl passX rfl (da_cons (de_var 1) (da_cons (de_var 4) (da_cons (de_var 5) da_nil))))))))))))
theorem sc_put_right : FnScope ["mast", "time", "value", "checks"] ["mast", "time", "value", "checks"] (defScope s_put_right) := ⟨rfl, rfl, rfl, by decide +kernel, rfl, by decide +kernel, by decide +kernel⟩
theorem ok_put_right {a : Ad} {F_off_at : List D → R D} {F_minus : List D → R D} (T : Tx K mg a) (F : Fun K "put_right" "put_right" s_put_right f fd)
    (h_off_at : Has P w K mg base (CXx P w) 6 "off_at" ["mast", "time", "checks"] (spD 3 K F_off_at))
    (h_minus : Has P w K mg base (CXx P w) 6 "minus" ["one", "other"] (spD 2 K F_minus)) :
    FnOk P w K mg base (CXx P w) 7 f fd ["mast", "time", "value", "checks"] (spD 4 K fun ds => finT (g_put_right a F_off_at F_minus (startD 4 ds))) :=
  fn_den F sc_put_right fun cdv A outer s H E hr => (dss_one (ds_ret (de_call h_minus hr rfl passX rfl (da_cons (de_var 2) (da_cons (de_call h_off_at hr rfl passX rfl (da_cons (de_var 0) (da_cons (de_var 1) (da_cons (de_var 3) da_nil)))) da_nil)))))
theorem sc_counting_unit : FnScope ["mast", "time", "units", "without", "begun"] ["mast", "time", "units"] (defScope s_counting_unit) := ⟨rfl, rfl, rfl, by decide +kernel, rfl, by decide +kernel, by decide +kernel⟩
theorem ok_counting_unit {a : Ad} (T : Tx K mg a) (F : Fun K "counting_unit" "counting_unit" s_counting_unit f fd)
    {c0 P0 : Addr} (bm : BM mg base) (hi : lamIn K "counting_unit" c0 P0 = true) (hc0 : fd.code = .ref c0) :
    FnOk P w K mg base (CXx P w) 3 f fd ["mast", "time", "units"] (spD 3 K fun ds => finT (g_counting_unit a (startD 5 ds))) :=
  fn_denL F hc0 sc_counting_unit fun A outer s H E hr => (dss_cons (ds_set 3 sc_counting_unit.nd rfl (Or.inl rfl) (de_tup (da_cons (de_var 0) (da_cons (de_var 1) (da_cons (de_tup (da_cons de_int (da_cons de_int da_nil))) (da_cons (de_tup (da_cons de_int (da_cons de_int da_nil))) da_nil))))))
    (dss_cons (ds_setU 4 sc_counting_unit.nd rfl (Or.inl rfl) (dnu_comp2 (Nt := ["unit"]) (tn := 1) (x := "mast") (y := "time") 0 1 [(".0", .local), ("unit", .local), ("mast", .cell), ("time", .cell)] (by decide) rfl (di_any (de_var 2)) (fun _ _ _ _ => (dg_name 0 (show List.Nodup (["unit", "mast", "time"] : List Str) from by decide +kernel) rfl (Or.inl rfl))) (by simp) (fun _ _ _ _ => df_one (DW.dt (dw_and (dt_cmp op_eqSD (de_ix ix_D (de_var 0) de_int) (de_var 1)) (dw_and1 (dt_cmp op_leD (de_ix ix_D (de_var 0) de_int) (de_var 2)))))) (fun _ _ _ _ => (de_var 0)) rfl (by decide +kernel) (by decide +kernel) rfl rfl rfl rfl rfl rfl rfl rfl rfl (by decide +kernel) (by decide +kernel)))
    (dss_one (ds_ret (de_maxL (k := 0) (N := (["unit"] : List Str)) (p := "unit") (qual := "counting_unit.<locals>.<lambda>") (x := "counting_unit") ⟨by rfl, by rfl, by rfl, by decide +kernel, by rfl, by decide +kernel, by decide +kernel⟩ (fun _ _ _ _ _ _ _ _ => (de_ix ix_D (de_var 0) de_int)) bm hi rfl (hr.mono (by decide)) rfl rfl T.b_max (de_var 4) (de_var 3))))))
theorem sc_meaning : FnScope ["reading", "units", "unit"] ["reading", "units"] (defScope s_meaning) := ⟨rfl, rfl, rfl, by decide +kernel, rfl, by decide +kernel, by decide +kernel⟩
theorem ok_meaning {a : Ad} {F_counting_unit : List D → R D} {F_fraction : List D → R D} {F_times : List D → R D} {F_plus : List D → R D} (T : Tx K mg a) (F : Fun K "meaning" "meaning" s_meaning f fd)
    (h_counting_unit : Has P w K mg base (CXx P w) 4 "counting_unit" ["mast", "time", "units"] (spD 3 K F_counting_unit))
    (h_fraction : Has P w K mg base (CXx P w) 4 "fraction" ["top", "bottom"] (spD 2 K F_fraction))
    (h_times : Has P w K mg base (CXx P w) 4 "times" ["one", "other"] (spD 2 K F_times))
    (h_plus : Has P w K mg base (CXx P w) 4 "plus" ["one", "other"] (spD 2 K F_plus)) :
    FnOk P w K mg base (CXx P w) 5 f fd ["reading", "units"] (spD 2 K fun ds => finT (g_meaning a F_counting_unit F_fraction F_times F_plus (startD 3 ds))) :=
  fn_den F sc_meaning fun cdv A outer s H E hr => (dss_cons (ds_set 2 sc_meaning.nd rfl (Or.inl rfl) (de_call h_counting_unit hr rfl passX rfl (da_cons (de_ix ix_D (de_var 0) de_int) (da_cons (de_ix ix_D (de_var 0) de_int) (da_cons (de_var 1) da_nil)))))
    (dss_one (ds_ret (de_call h_plus hr rfl passX rfl (da_cons (de_call h_times hr rfl passX rfl (da_cons (de_call h_fraction hr rfl passX rfl (da_cons (de_ix ix_D (de_var 0) de_int) (da_cons de_int da_nil))) (da_cons (de_ix ix_D (de_var 2) de_int) da_nil))) (da_cons (de_ix ix_D (de_var 2) de_int) da_nil))))))
theorem sc_row_reading : FnScope ["reading", "units", "checks", "mast", "time"] ["reading", "units", "checks"] (defScope s_row_reading) := ⟨rfl, rfl, rfl, by decide +kernel, rfl, by decide +kernel, by decide +kernel⟩
theorem ok_row_reading {a : Ad} {F_meaning : List D → R D} {F_put_right : List D → R D} (T : Tx K mg a) (F : Fun K "row_reading" "row_reading" s_row_reading f fd)
    (h_meaning : Has P w K mg base (CXx P w) 7 "meaning" ["reading", "units"] (spD 2 K F_meaning))
    (h_put_right : Has P w K mg base (CXx P w) 7 "put_right" ["mast", "time", "value", "checks"] (spD 4 K F_put_right)) :
    FnOk P w K mg base (CXx P w) 8 f fd ["reading", "units", "checks"] (spD 3 K fun ds => finT (g_row_reading a F_meaning F_put_right (startD 5 ds))) :=
  fn_den F sc_row_reading fun cdv A outer s H E hr => (dss_cons (ds_set 3 sc_row_reading.nd rfl (Or.inl rfl) (de_ix ix_D (de_var 0) de_int))
    (dss_cons (ds_set 4 sc_row_reading.nd rfl (Or.inl rfl) (de_ix ix_D (de_var 0) de_int))
    (dss_one (ds_ret (de_tup (da_cons (de_var 3) (da_cons (de_var 4) (da_cons (de_call h_put_right hr rfl passX rfl (da_cons (de_var 3) (da_cons (de_var 4) (da_cons (de_call h_meaning hr rfl passX rfl (da_cons (de_var 0) (da_cons (de_var 1) da_nil))) (da_cons (de_var 2) da_nil))))) da_nil))))))))
theorem sc_row_of : FnScope ["readings", "units", "checks"] ["readings", "units", "checks"] (defScope s_row_of) := ⟨rfl, rfl, rfl, by decide +kernel, rfl, by decide +kernel, by decide +kernel⟩
theorem ok_row_of {a : Ad} {F_row_reading : List D → R D} (T : Tx K mg a) (F : Fun K "row_of" "row_of" s_row_of f fd)
    (h_row_reading : Has P w K mg base (CXx P w) 8 "row_reading" ["reading", "units", "checks"] (spD 3 K F_row_reading)) :
    FnOk P w K mg base (CXx P w) 9 f fd ["readings", "units", "checks"] (spD 3 K fun ds => finT (g_row_of a F_row_reading (startD 3 ds))) :=
  fn_den F sc_row_of fun cdv A outer s H E hr => (dss_one (ds_ret (DN.de (DNU.dn (dnu_comp2 (Nt := ["reading"]) (tn := 1) (x := "checks") (y := "units") 2 1 [(".0", .local), ("reading", .local), ("row_reading", .globalImplicit), ("checks", .cell), ("units", .cell)] (by decide) rfl (di_any (de_var 0)) (fun _ _ _ _ => (dg_name 0 (show List.Nodup (["reading", "checks", "units"] : List Str) from by decide +kernel) rfl (Or.inl rfl))) (by simp) (fun _ _ _ _ => df_nil) (fun _ _ _ _ => (de_call h_row_reading hr rfl passN rfl (da_cons (de_var 0) (da_cons (de_var 2) (da_cons (de_var 1) da_nil))))) rfl (by decide +kernel) (by decide +kernel) rfl rfl rfl rfl rfl rfl rfl rfl rfl (by decide +kernel) (by decide +kernel))))))
theorem sc_law_cell_at : FnScope ["_law_script", "_law_k"] ["_law_script", "_law_k"] (defScope s_law_cell_at) := ⟨rfl, rfl, rfl, by decide +kernel, rfl, by decide +kernel, by decide +kernel⟩
theorem ok_law_cell_at {a : Ad} (T : Tx K mg a) (F : Fun K "_law_cell_at" "_law_cell_at" s_law_cell_at f fd) :
    FnOk P w K mg base (CXx P w) 1 f fd ["_law_script", "_law_k"] (spD 2 K fun ds => finT (g_law_cell_at a (startD 2 ds))) :=
  fn_den F sc_law_cell_at fun cdv A outer s H E hr => (dss_cons (ds_if (dt_cmp op_ltD (de_var 1) (de_callB call_lenD rfl T.b_len bt_len (da_cons (de_var 0) da_nil))) (dss_one (ds_ret (de_ix ix_D (de_var 0) (de_var 1)))) dss_nil)
    (dss_one (ds_ret de_int)))
theorem sc_law_mixed : FnScope ["_law_cell", "_law_k", "_law_some"] ["_law_cell", "_law_k"] (defScope s_law_mixed) := ⟨rfl, rfl, rfl, by decide +kernel, rfl, by decide +kernel, by decide +kernel⟩
theorem ok_law_mixed {a : Ad} (T : Tx K mg a) (F : Fun K "_law_mixed" "_law_mixed" s_law_mixed f fd) :
    FnOk P w K mg base (CXx P w) 1 f fd ["_law_cell", "_law_k"] (spD 2 K fun ds => finT (g_law_mixed a (startD 3 ds))) :=
  fn_den F sc_law_mixed fun cdv A outer s H E hr => (dss_cons (ds_set 2 sc_law_mixed.nd rfl (Or.inl rfl) (de_op op_modD (de_var 0) de_int))
    (dss_one (ds_ret (de_op op_modD (de_op op_mulUD (de_op op_mulUD (de_op op_addD (de_op op_addD (de_var 2) (de_op op_mulUD de_int (de_var 1))) de_int) de_int) (de_op op_addD (de_op op_addD (de_var 2) (de_op op_mulUD de_int (de_var 1))) de_int)) de_int))))
theorem sc_law_low : FnScope ["_law_top", "_law_bottom", "_law_one", "_law_other"] ["_law_top", "_law_bottom"] (defScope s_law_low) := ⟨rfl, rfl, rfl, by decide +kernel, rfl, by decide +kernel, by decide +kernel⟩
theorem ok_law_low {a : Ad} (T : Tx K mg a) (F : Fun K "_law_low" "_law_low" s_law_low f fd) :
    FnOk P w K mg base (CXx P w) 1 f fd ["_law_top", "_law_bottom"] (spD 2 K fun ds => finT (g_law_low a (startD 4 ds))) :=
  fn_den F sc_law_low fun cdv A outer s H E hr => (dss_cons (ds_par 2 3 rfl sc_law_low.nd rfl rfl (by decide) rfl rfl (da_cons (de_callB call_absD rfl T.b_abs bt_abs (da_cons (de_var 0) da_nil)) (da_cons (de_var 1) da_nil)))
    (dss_cons (ds_while 10000000000000000000000000000000000000000000000000000000000000000000000000000000000000000000000000000000000000000000000000000000000000000000000000000000000000000000000000000000000000000000000000000000000000000000000000000000000000000000000000000000000000000000000000000000000000000000000000000000000000000000000000000000000000000000000000000000000000000000000000000000000000000000000000000000000000000 pass_cx (dt_cmp op_gtD (de_var 3) de_int) (dss_one (ds_par 2 3 rfl sc_law_low.nd rfl rfl (by decide) rfl rfl (da_cons (de_var 3) (da_cons (de_op op_modD (de_var 2) (de_var 3)) da_nil)))))
    (dss_one (ds_ret (de_tup (da_cons (de_op op_fdivD (de_var 0) (de_var 2)) (da_cons (de_op op_fdivD (de_var 1) (de_var 2)) da_nil)))))))
theorem sc_law_word : FnScope ["_law_cell", "_law_k", "_law_letters", "_law_stride", "_law_pair", "_law_more", "_law_j"] ["_law_cell", "_law_k"] (defScope s_law_word) := ⟨rfl, rfl, rfl, by decide +kernel, rfl, by decide +kernel, by decide +kernel⟩
theorem ok_law_word {a : Ad} (T : Tx K mg a) (F : Fun K "_law_word" "_law_word" s_law_word f fd) :
    FnOk P w K mg base (CXx P w) 1 f fd ["_law_cell", "_law_k"] (spD 2 K fun ds => finT (g_law_word a (startD 7 ds))) :=
  fn_den F sc_law_word fun cdv A outer s H E hr => (dss_cons (ds_set 2 sc_law_word.nd rfl (Or.inl rfl) de_str)
    (dss_cons (ds_set 3 sc_law_word.nd rfl (Or.inl rfl) (de_ix ix_D (DN.de (dn_lst (da_cons de_int (da_cons de_int (da_cons de_int (da_cons de_int (da_cons de_int (da_cons de_int (da_cons de_int (da_cons de_int (da_cons de_int (da_cons de_int (da_cons de_int (da_cons de_int da_nil)))))))))))))) (de_op op_modD (de_op op_fdivD (de_var 0) de_int) de_int)))
    (dss_cons (ds_set 4 sc_law_word.nd rfl (Or.inl rfl) (de_op op_addD (de_ix ix_D (de_var 2) (de_op op_modD (de_op op_addD (de_var 0) (de_op op_mulUD (de_var 1) (de_var 3))) de_int)) (de_ix ix_D de_str (de_op op_modD (de_op op_fdivD (de_var 1) de_int) de_int))))
    (dss_cons (ds_set 5 sc_law_word.nd rfl (Or.inl rfl) de_str)
    (dss_cons (ds_for pass_cx rfl (di_range1 rfl T.b_range (da_cons (de_op op_modD (de_op op_fdivD (de_var 0) de_int) de_int) da_nil)) (dg_name 6 sc_law_word.nd rfl (Or.inl rfl)) (dss_one (ds_set 5 sc_law_word.nd rfl (Or.inl rfl) (de_op op_addD (de_var 5) (de_ix ix_D de_str (de_op op_modD (de_op op_fdivD (de_var 0) (de_op op_addD de_int (de_var 6))) de_int))))))
    (dss_cons (ds_if (dt_cmp op_eqSD (de_op op_modD (de_op op_fdivD (de_var 0) de_int) de_int) de_int) (dss_one (ds_ret (de_op op_addD (de_var 5) (de_var 4)))) dss_nil)
    (dss_one (ds_ret (de_op op_addD (de_var 4) (de_var 5))))))))))
theorem sc_law_share : FnScope ["_law_cell", "_law_top", "_law_bottom"] ["_law_cell"] (defScope s_law_share) := ⟨rfl, rfl, rfl, by decide +kernel, rfl, by decide +kernel, by decide +kernel⟩
theorem ok_law_share {a : Ad} {F_law_mixed : List D → R D} {F_law_low : List D → R D} (T : Tx K mg a) (F : Fun K "_law_share" "_law_share" s_law_share f fd)
    (h_law_mixed : Has P w K mg base (CXx P w) 1 "_law_mixed" ["_law_cell", "_law_k"] (spD 2 K F_law_mixed))
    (h_law_low : Has P w K mg base (CXx P w) 1 "_law_low" ["_law_top", "_law_bottom"] (spD 2 K F_law_low)) :
    FnOk P w K mg base (CXx P w) 2 f fd ["_law_cell"] (spD 1 K fun ds => finT (g_law_share a F_law_mixed F_law_low (startD 3 ds))) :=
  fn_den F sc_law_share fun cdv A outer s H E hr => (dss_cons (ds_set 1 sc_law_share.nd rfl (Or.inl rfl) (de_op op_subD (de_op op_modD (de_op op_fdivD (de_call h_law_mixed hr rfl passX rfl (da_cons (de_var 0) (da_cons de_int da_nil))) de_int) de_int) de_int))
    (dss_cons (ds_set 2 sc_law_share.nd rfl (Or.inl rfl) (de_op op_addD de_int (de_op op_modD (de_op op_fdivD (de_call h_law_mixed hr rfl passX rfl (da_cons (de_var 0) (da_cons de_int da_nil))) de_int) de_int)))
    (dss_cons (ds_if (dt_cmp op_eqSD (de_op op_modD (de_op op_fdivD (de_call h_law_mixed hr rfl passX rfl (da_cons (de_var 0) (da_cons de_int da_nil))) de_int) de_int) de_int) (dss_cons (ds_set 1 sc_law_share.nd rfl (Or.inl rfl) (de_op op_subD (de_op op_modD (de_call h_law_mixed hr rfl passX rfl (da_cons (de_var 0) (da_cons de_int da_nil))) de_int) de_int))
    (dss_one (ds_set 2 sc_law_share.nd rfl (Or.inl rfl) (de_op op_addD de_int (de_op op_modD (de_call h_law_mixed hr rfl passX rfl (da_cons (de_var 0) (da_cons de_int da_nil))) de_int))))) dss_nil)
    (dss_one (ds_ret (de_call h_law_low hr rfl passX rfl (da_cons (de_var 1) (da_cons (de_var 2) da_nil))))))))
theorem sc_law_time : FnScope ["_law_cell", "_law_near"] ["_law_cell", "_law_near"] (defScope s_law_time) := ⟨rfl, rfl, rfl, by decide +kernel, rfl, by decide +kernel, by decide +kernel⟩
theorem ok_law_time {a : Ad} (T : Tx K mg a) (F : Fun K "_law_time" "_law_time" s_law_time f fd) :
    FnOk P w K mg base (CXx P w) 1 f fd ["_law_cell", "_law_near"] (spD 2 K fun ds => finT (g_law_time a (startD 2 ds))) :=
  fn_den F sc_law_time fun cdv A outer s H E hr => (dss_cons (ds_if (dt_cmp op_eqSD (de_op op_modD (de_var 0) de_int) de_int) (dss_one (ds_ret (de_op op_modD (de_op op_fdivD (de_var 0) de_int) (de_op op_addD (de_op op_powD de_int de_int) de_int)))) dss_nil)
    (dss_one (ds_ret (de_op op_addD (de_var 1) (de_op op_modD (de_op op_fdivD (de_var 0) de_int) de_int)))))
theorem sc_law_units : FnScope ["_law_cells", "_law_words", "_law_near", "_law_found", "_law_taken", "_law_cell", "_law_mast", "_law_time_here", "_law_factor"] ["_law_cells", "_law_words", "_law_near"] (defScope s_law_units) := ⟨rfl, rfl, rfl, by decide +kernel, rfl, by decide +kernel, by decide +kernel⟩
theorem ok_law_units {a : Ad} {F_law_mixed : List D → R D} {F_law_time : List D → R D} {F_law_share : List D → R D} (T : Tx K mg a) (F : Fun K "_law_units" "_law_units" s_law_units f fd)
    (h_law_mixed : Has P w K mg base (CXx P w) 2 "_law_mixed" ["_law_cell", "_law_k"] (spD 2 K F_law_mixed))
    (h_law_time : Has P w K mg base (CXx P w) 2 "_law_time" ["_law_cell", "_law_near"] (spD 2 K F_law_time))
    (h_law_share : Has P w K mg base (CXx P w) 2 "_law_share" ["_law_cell"] (spD 1 K F_law_share)) :
    FnOk P w K mg base (CXx P w) 3 f fd ["_law_cells", "_law_words", "_law_near"] (spD 3 K fun ds => finT (g_law_units a F_law_mixed F_law_time F_law_share (startD 9 ds))) :=
  fn_den F sc_law_units fun cdv A outer s H E hr => (dss_cons (ds_own 3 sc_law_units.nd rfl (Or.inl rfl) (dn_lst da_nil))
    (dss_cons (ds_own 4 sc_law_units.nd rfl (Or.inl rfl) (dn_lst da_nil))
    (dss_cons (ds_for pass_cx rfl (di_any (de_var 0)) (dg_name 5 sc_law_units.nd rfl (Or.inl rfl)) (dss_cons (ds_set 6 sc_law_units.nd rfl (Or.inl rfl) (de_ix ix_D (de_var 1) (de_op op_modD (de_op op_fdivD (de_call h_law_mixed hr rfl passX rfl (da_cons (de_var 5) (da_cons de_int da_nil))) de_int) de_int)))
    (dss_cons (ds_set 7 sc_law_units.nd rfl (Or.inl rfl) (de_call h_law_time hr rfl passX rfl (da_cons (de_op op_fdivD (de_call h_law_mixed hr rfl passX rfl (da_cons (de_var 5) (da_cons de_int da_nil))) de_int) (da_cons (de_var 2) da_nil))))
    (dss_cons (ds_set 8 sc_law_units.nd rfl (Or.inl rfl) (de_call h_law_share hr rfl passX rfl (da_cons (de_call h_law_mixed hr rfl passX rfl (da_cons (de_var 5) (da_cons de_int da_nil))) da_nil)))
    (dss_cons (ds_if (dt_cmp op_eqSD (de_ix ix_D (de_var 8) de_int) de_int) (dss_one (ds_set 8 sc_law_units.nd rfl (Or.inl rfl) (de_tup (da_cons de_int (da_cons de_int da_nil))))) dss_nil)
    (dss_one (ds_if (dt_borrow 4 (dt_cmp (op_ninLD hr.units) (de_tup (da_cons (de_var 6) (da_cons (de_var 7) da_nil))) (de_var 4))) (dss_cons (ds_append 4 (o := .Name "_law_taken" ⟨0, 0, 0, 0⟩) PySem.F.plainAttrs_list PySem.F.slot_list_append PySem.F.type_list_append (de_tup (da_cons (de_var 6) (da_cons (de_var 7) da_nil))))
    (dss_one (ds_append 3 (o := .Name "_law_found" ⟨0, 0, 0, 0⟩) PySem.F.plainAttrs_list PySem.F.slot_list_append PySem.F.type_list_append (de_tup (da_cons (de_var 6) (da_cons (de_var 7) (da_cons (de_var 8) (da_cons (de_call h_law_share hr rfl passX rfl (da_cons (de_call h_law_mixed hr rfl passX rfl (da_cons (de_var 5) (da_cons de_int da_nil))) da_nil)) da_nil)))))))) dss_nil)))))))
    (dss_freeze 3 (dss_one (ds_ret (de_var 3)))))))
theorem sc_law_meant : FnScope ["_law_mast", "_law_time_here", "_law_number", "_law_units_here", "_law_best_time", "_law_factor", "_law_shift", "_law_one", "_law_top"] ["_law_mast", "_law_time_here", "_law_number", "_law_units_here"] (defScope s_law_meant) := ⟨rfl, rfl, rfl, by decide +kernel, rfl, by decide +kernel, by decide +kernel⟩
noncomputable def b1_law_meant (a : Ad) (F_law_low : List D → R D) : Ev → RT := (sIf (bAnd (b1 tB (d2 eqSD (d2 ixD (dV 7) (dC (.int 0))) (dV 0))) (b1 tB (dChain ltD leD (dV 4) (d2 ixD (dV 7) (dC (.int 1))) (dV 1)))) (sPar3 4 5 6 (aCons (d2 ixD (dV 7) (dC (.int 1))) (aCons (d2 ixD (dV 7) (dC (.int 2))) (aCons (d2 ixD (dV 7) (dC (.int 3))) aNil)))) sNil)
noncomputable def g_law_meant (a : Ad) (F_law_low : List D → R D) : Ev → RT := (sSeq (sSet 4 (d1 negD (dC (.int 1))))
    (sSeq (sSet 5 (dA mkT (aCons (dC (.int 1)) (aCons (dC (.int 1)) aNil))))
    (sSeq (sSet 6 (dA mkT (aCons (dC (.int 0)) (aCons (dC (.int 1)) aNil))))
    (sSeq (sFor (fun ρ => ((dV 3) ρ).bind asI) (gV 7) (b1_law_meant a F_law_low))
    (sSeq (sSet 8 (d2 addD (d2 mulUD (d2 mulUD (dV 2) (d2 ixD (dV 5) (dC (.int 0)))) (d2 ixD (dV 6) (dC (.int 1)))) (d2 mulUD (d2 ixD (dV 6) (dC (.int 0))) (d2 ixD (dV 5) (dC (.int 1))))))
    (sRet (dA F_law_low (aCons (dV 8) (aCons (d2 mulUD (d2 ixD (dV 5) (dC (.int 1))) (d2 ixD (dV 6) (dC (.int 1)))) aNil)))))))))
theorem ok_law_meant {a : Ad} {F_law_low : List D → R D} (T : Tx K mg a) (F : Fun K "_law_meant" "_law_meant" s_law_meant f fd)
    (h_law_low : Has P w K mg base (CXx P w) 1 "_law_low" ["_law_top", "_law_bottom"] (spD 2 K F_law_low)) :
    FnOk P w K mg base (CXx P w) 2 f fd ["_law_mast", "_law_time_here", "_law_number", "_law_units_here"] (spD 4 K fun ds => finT (g_law_meant a F_law_low (startD 9 ds))) :=
  fn_den F sc_law_meant fun cdv A outer s H E hr => (dss_cons (ds_set 4 sc_law_meant.nd rfl (Or.inl rfl) (de_un un_negD de_int))
    (dss_cons (ds_set 5 sc_law_meant.nd rfl (Or.inl rfl) (de_tup (da_cons de_int (da_cons de_int da_nil))))
    (dss_cons (ds_set 6 sc_law_meant.nd rfl (Or.inl rfl) (de_tup (da_cons de_int (da_cons de_int da_nil))))
    (dss_cons (ds_for pass_cx rfl (di_any (de_var 3)) (dg_name 7 sc_law_meant.nd rfl (Or.inl rfl)) (dss_one (ds_if (DW.dt (dw_and (dt_cmp op_eqSD (de_ix ix_D (de_var 7) de_int) (de_var 0)) (dw_and1 (dt_chain op_ltD op_leD (de_var 4) (de_ix ix_D (de_var 7) de_int) (de_var 1))))) (dss_one (ds_par3 4 5 6 rfl sc_law_meant.nd rfl rfl rfl (by decide) (by decide) (by decide) rfl rfl rfl (da_cons (de_ix ix_D (de_var 7) de_int) (da_cons (de_ix ix_D (de_var 7) de_int) (da_cons (de_ix ix_D (de_var 7) de_int) da_nil))))) dss_nil)))
    (dss_cons (ds_set 8 sc_law_meant.nd rfl (Or.inl rfl) (de_op op_addD (de_op op_mulUD (de_op op_mulUD (de_var 2) (de_ix ix_D (de_var 5) de_int)) (de_ix ix_D (de_var 6) de_int)) (de_op op_mulUD (de_ix ix_D (de_var 6) de_int) (de_ix ix_D (de_var 5) de_int))))
    (dss_one (ds_ret (de_call h_law_low hr rfl passX rfl (da_cons (de_var 8) (da_cons (de_op op_mulUD (de_ix ix_D (de_var 5) de_int) (de_ix ix_D (de_var 6) de_int)) da_nil))))))))))
theorem sc_law_checks : FnScope ["_law_cells", "_law_words", "_law_near", "_law_found", "_law_taken", "_law_cell", "_law_mast", "_law_time_here"] ["_law_cells", "_law_words", "_law_near"] (defScope s_law_checks) := ⟨rfl, rfl, rfl, by decide +kernel, rfl, by decide +kernel, by decide +kernel⟩
theorem ok_law_checks {a : Ad} {F_law_mixed : List D → R D} {F_law_time : List D → R D} {F_law_share : List D → R D} (T : Tx K mg a) (F : Fun K "_law_checks" "_law_checks" s_law_checks f fd)
    (h_law_mixed : Has P w K mg base (CXx P w) 2 "_law_mixed" ["_law_cell", "_law_k"] (spD 2 K F_law_mixed))
    (h_law_time : Has P w K mg base (CXx P w) 2 "_law_time" ["_law_cell", "_law_near"] (spD 2 K F_law_time))
    (h_law_share : Has P w K mg base (CXx P w) 2 "_law_share" ["_law_cell"] (spD 1 K F_law_share)) :
    FnOk P w K mg base (CXx P w) 3 f fd ["_law_cells", "_law_words", "_law_near"] (spD 3 K fun ds => finT (g_law_checks a F_law_mixed F_law_time F_law_share (startD 8 ds))) :=
  fn_den F sc_law_checks fun cdv A outer s H E hr => (dss_cons (ds_own 3 sc_law_checks.nd rfl (Or.inl rfl) (dn_lst da_nil))
    (dss_cons (ds_own 4 sc_law_checks.nd rfl (Or.inl rfl) (dn_lst da_nil))
    (dss_cons (ds_for pass_cx rfl (di_any (de_var 0)) (dg_name 5 sc_law_checks.nd rfl (Or.inl rfl)) (dss_cons (ds_set 6 sc_law_checks.nd rfl (Or.inl rfl) (de_ix ix_D (de_var 1) (de_op op_modD (de_op op_fdivD (de_call h_law_mixed hr rfl passX rfl (da_cons (de_var 5) (da_cons de_int da_nil))) de_int) de_int)))
    (dss_cons (ds_set 7 sc_law_checks.nd rfl (Or.inl rfl) (de_call h_law_time hr rfl passX rfl (da_cons (de_op op_fdivD (de_call h_law_mixed hr rfl passX rfl (da_cons (de_var 5) (da_cons de_int da_nil))) de_int) (da_cons (de_var 2) da_nil))))
    (dss_one (ds_if (dt_borrow 4 (dt_cmp (op_ninLD hr.units) (de_tup (da_cons (de_var 6) (da_cons (de_var 7) da_nil))) (de_var 4))) (dss_cons (ds_append 4 (o := .Name "_law_taken" ⟨0, 0, 0, 0⟩) PySem.F.plainAttrs_list PySem.F.slot_list_append PySem.F.type_list_append (de_tup (da_cons (de_var 6) (da_cons (de_var 7) da_nil))))
    (dss_one (ds_append 3 (o := .Name "_law_found" ⟨0, 0, 0, 0⟩) PySem.F.plainAttrs_list PySem.F.slot_list_append PySem.F.type_list_append (de_tup (da_cons (de_var 6) (da_cons (de_var 7) (da_cons (de_call h_law_share hr rfl passX rfl (da_cons (de_call h_law_mixed hr rfl passX rfl (da_cons (de_var 5) (da_cons de_int da_nil))) da_nil)) da_nil))))))) dss_nil)))))
    (dss_freeze 3 (dss_one (ds_ret (de_var 3)))))))
theorem sc_law_off : FnScope ["_law_mast", "_law_time_here", "_law_checks_here", "_law_ahead", "_law_behind", "_law_one", "_law_far", "_law_top"] ["_law_mast", "_law_time_here", "_law_checks_here"] (defScope s_law_off) := ⟨rfl, rfl, rfl, by decide +kernel, rfl, by decide +kernel, by decide +kernel⟩
theorem ok_law_off {a : Ad} {F_law_low : List D → R D} (T : Tx K mg a) (F : Fun K "_law_off" "_law_off" s_law_off f fd)
    (h_law_low : Has P w K mg base (CXx P w) 1 "_law_low" ["_law_top", "_law_bottom"] (spD 2 K F_law_low)) :
    FnOk P w K mg base (CXx P w) 2 f fd ["_law_mast", "_law_time_here", "_law_checks_here"] (spD 3 K fun ds => finT (g_law_off a F_law_low (startD 8 ds))) :=
  fn_den F sc_law_off fun cdv A outer s H E hr => (dss_cons (ds_set 3 sc_law_off.nd rfl (Or.inl rfl) de_non)
    (dss_cons (ds_set 4 sc_law_off.nd rfl (Or.inl rfl) de_non)
    (dss_cons (ds_for pass_cx rfl (di_any (de_var 2)) (dg_name 5 sc_law_off.nd rfl (Or.inl rfl)) (dss_cons (ds_if (DW.dt (dw_and (dt_cmp op_eqSD (de_ix ix_D (de_var 5) de_int) (de_var 0)) (dw_and (dt_cmp op_leD (de_ix ix_D (de_var 5) de_int) (de_var 1)) (dw_and1 (DW.dt (dw_or (dt_cmp op_isD2 (de_var 3) de_non) (dw_or1 (dt_cmp op_gtD (de_ix ix_D (de_var 5) de_int) (de_ix ix_D (de_var 3) de_int))))))))) (dss_one (ds_set 3 sc_law_off.nd rfl (Or.inl rfl) (de_var 5))) dss_nil)
    (dss_one (ds_if (DW.dt (dw_and (dt_cmp op_eqSD (de_ix ix_D (de_var 5) de_int) (de_var 0)) (dw_and (dt_cmp op_geD (de_ix ix_D (de_var 5) de_int) (de_var 1)) (dw_and1 (DW.dt (dw_or (dt_cmp op_isD2 (de_var 4) de_non) (dw_or1 (dt_cmp op_ltD (de_ix ix_D (de_var 5) de_int) (de_ix ix_D (de_var 4) de_int))))))))) (dss_one (ds_set 4 sc_law_off.nd rfl (Or.inl rfl) (de_var 5))) dss_nil))))
    (dss_cons (ds_if (DW.dt (dw_and (dt_cmp op_isD2 (de_var 3) de_non) (dw_and1 (dt_cmp op_isD2 (de_var 4) de_non)))) (dss_one (ds_ret (de_tup (da_cons de_int (da_cons de_int da_nil))))) dss_nil)
    (dss_cons (ds_if (DW.dt (dw_or (dt_cmp op_isD2 (de_var 3) de_non) (dw_or (dt_cmp op_isD2 (de_var 4) de_non) (dw_or1 (dt_cmp (op_eqDD hr.units) (de_var 3) (de_var 4)))))) (dss_one (ds_ret (de_ix ix_D (de_orV (de_var 3) (de_one (de_var 4))) de_int))) dss_nil)
    (dss_cons (ds_set 6 sc_law_off.nd rfl (Or.inl rfl) (de_op op_subD (de_ix ix_D (de_var 4) de_int) (de_ix ix_D (de_var 3) de_int)))
    (dss_cons (ds_set 7 sc_law_off.nd rfl (Or.inl rfl) (de_op op_mulUD (de_op op_mulUD (de_ix ix_D (de_ix ix_D (de_var 3) de_int) de_int) (de_op op_subD (de_ix ix_D (de_var 4) de_int) (de_var 1))) (de_ix ix_D (de_ix ix_D (de_var 4) de_int) de_int)))
    (dss_cons (ds_set 7 sc_law_off.nd rfl (Or.inl rfl) (de_op op_addD (de_var 7) (de_op op_mulUD (de_op op_mulUD (de_ix ix_D (de_ix ix_D (de_var 4) de_int) de_int) (de_op op_subD (de_var 1) (de_ix ix_D (de_var 3) de_int))) (de_ix ix_D (de_ix ix_D (de_var 3) de_int) de_int))))
    (dss_one (ds_ret (de_call h_law_low hr rfl passX rfl (da_cons (de_var 7) (da_cons (de_op op_mulUD (de_op op_mulUD (de_var 6) (de_ix ix_D (de_ix ix_D (de_var 3) de_int) de_int)) (de_ix ix_D (de_ix ix_D (de_var 4) de_int) de_int)) da_nil)))))))))))))
theorem sc_law : FnScope ["_law_script", "_law_words", "_law_near", "_law_cells", "_law_units_here", "_law_checks_here", "_law_readings", "_law_time_here", "_law_cell", "_law_word_here", "_law_number", "_law_ordered", "_law_handed", "_law_found", "_law_k", "_law_mast", "_law_turn", "_law_value", "_law_off_here", "_law_right"] ["_law_script"] (defScope s_law) := ⟨rfl, rfl, rfl, by decide +kernel, rfl, by decide +kernel, by decide +kernel⟩
noncomputable def b1_law (a : Ad) (F_law_cell_at : List D → R D) (F_law_word : List D → R D) (F_law_units : List D → R D) (F_law_checks : List D → R D) (F_law_mixed : List D → R D) (F_row_of : List D → R D) (F_law_meant : List D → R D) (F_law_off : List D → R D) (F_law_low : List D → R D) : Ev → RT := (sSeq (sSet 7 (d2 addD (dV 7) (d2 modD (d2 fdivD (dA F_law_mixed (aCons (dV 8) (aCons (dC (.int 1)) aNil))) (dC (.int 5))) (dC (.int 3)))))
    (sSeq (sSet 9 (d2 ixD (dV 1) (d2 modD (d2 fdivD (dA F_law_mixed (aCons (dV 8) (aCons (dC (.int 2)) aNil))) (dC (.int 5))) (dC (.int 3)))))
    (sSeq (sSet 10 (d2 mulUD (d2 modD (dV 8) (d2 powD (dC (.int 10)) (dC (.int 60)))) (d2 subD (dC (.int 1)) (d2 mulUD (dC (.int 2)) (d2 modD (d2 fdivD (dA F_law_mixed (aCons (dV 8) (aCons (dC (.int 3)) aNil))) (dC (.int 5))) (dC (.int 2)))))))
    (sIf (fun ρ => noEx ((b1 tB (d2 eqDD (asN (dComp (fun ρ => ((dV 6) ρ).bind asI) 1 [7, 9] (gV 0) (bAnd (b1 tB (d2 eqSD (d2 ixD (dV 0) (dC (.int 0))) (dV 2))) (b1 tB (d2 eqSD (d2 ixD (dV 0) (dC (.int 1))) (dV 1)))) (dV 0))) (asN (fun ρ => (aNil ρ).bind fitL)))) (frzS 6 ρ))) (sApp 6 (dA mkT (aCons (dV 9) (aCons (dV 7) (aCons (d2 modD (dV 8) (dC (.int 7))) (aCons (dV 10) aNil)))))) sNil))))
noncomputable def b2_law (a : Ad) (F_law_cell_at : List D → R D) (F_law_word : List D → R D) (F_law_units : List D → R D) (F_law_checks : List D → R D) (F_law_mixed : List D → R D) (F_row_of : List D → R D) (F_law_meant : List D → R D) (F_law_off : List D → R D) (F_law_low : List D → R D) : Ev → RT := (sSeq (sGo (d2 ixD (dV 6) (dV 14)) (gT 4 (gC (gV 15) (gC (gV 7) (gC (gV 16) (gC (gV 10) gN))))))
    (sSeq (sSet 17 (dA F_law_meant (aCons (dV 15) (aCons (dV 7) (aCons (dV 10) (aCons (dV 4) aNil))))))
    (sSeq (sSet 18 (dA F_law_off (aCons (dV 15) (aCons (dV 7) (aCons (dV 5) aNil)))))
    (sSeq (sSet 19 (dA F_law_low (aCons (d2 subD (d2 mulUD (d2 ixD (dV 17) (dC (.int 0))) (d2 ixD (dV 18) (dC (.int 1)))) (d2 mulUD (d2 ixD (dV 18) (dC (.int 0))) (d2 ixD (dV 17) (dC (.int 1))))) (aCons (d2 mulUD (d2 ixD (dV 17) (dC (.int 1))) (d2 ixD (dV 18) (dC (.int 1)))) aNil))))
    (sIf (bOr (bNot (b1 tT (dA (isXD a.isx) (aCons (d2 ixD (dV 13) (dV 14)) (aCons (dC (.ty "tuple")) aNil))))) (bOr (bNot (b1 tT (dA (isXD a.isx) (aCons (d2 ixD (d2 ixD (dV 13) (dV 14)) (dC (.int 2))) (aCons (dC (.ty "tuple")) aNil))))) (b1 tB (d2 neDD (d2 ixD (dV 13) (dV 14)) (dA mkT (aCons (dV 15) (aCons (dV 7) (aCons (dV 19) aNil)))))))) (sRet (dC (.bl false))) sNil)))))
noncomputable def g_law (a : Ad) (F_law_cell_at : List D → R D) (F_law_word : List D → R D) (F_law_units : List D → R D) (F_law_checks : List D → R D) (F_law_mixed : List D → R D) (F_row_of : List D → R D) (F_law_meant : List D → R D) (F_law_off : List D → R D) (F_law_low : List D → R D) : Ev → RT := (sSeq (sSet 1 (asN (dComp (fun ρ => ((aCons (dC (.int 3)) aNil) ρ).bind rng1) 1 [0] (gV 0) (fun _ => .ok true) (dA F_law_word (aCons (dA F_law_cell_at (aCons (dV 1) (aCons (dC (.int 0)) aNil))) (aCons (dV 0) aNil))))))
    (sSeq (sSet 2 (d2 modD (dA F_law_cell_at (aCons (dV 0) (aCons (dC (.int 1)) aNil))) (d2 subD (d2 powD (dC (.int 10)) (dC (.int 9))) (d2 powD (dC (.int 10)) (dC (.int 6))))))
    (sSeq (sSet 3 (dSl slWD (dV 0) (fun ρ => ((dC (.int 2)) ρ).bind pI) (fun ρ => ((dC (.int 32)) ρ).bind pI)))
    (sSeq (sSet 4 (dA F_law_units (aCons (dSl slWD (dV 3) (fun _ => .ok none) (fun ρ => ((dC (.int 12)) ρ).bind pI)) (aCons (dV 1) (aCons (dV 2) aNil)))))
    (sSeq (sSet 5 (dA F_law_checks (aCons (dSl slWD (dV 3) (fun _ => .ok none) (fun ρ => ((dC (.int 12)) ρ).bind pI)) (aCons (dV 1) (aCons (dV 2) aNil)))))
    (sSeq (sOwn 6 (fun ρ => (aNil ρ).bind fitL))
    (sSeq (sSet 7 (dV 2))
    (sSeq (sFor (fun ρ => ((dV 3) ρ).bind asI) (gV 8) (b1_law a F_law_cell_at F_law_word F_law_units F_law_checks F_law_mixed F_row_of F_law_meant F_law_off F_law_low))
    (fun ρ => (sSeq (sSet 11 (asN (fun ρ => ((asN (dComp (fun ρ => ((dV 6) ρ).bind asI) 1 [] (gV 0) (fun _ => .ok true) (dA mkT (aCons (d2 ixD (dV 0) (dC (.int 1))) (aCons (d2 ixD (dV 0) (dC (.int 0))) (aCons (d2 ixD (dV 0) (dC (.int 2))) (aCons (d2 ixD (dV 0) (dC (.int 3))) aNil))))))) ρ).bind sortQ)))
    (sSeq (sOwn 6 (dComp (fun ρ => ((dV 11) ρ).bind asI) 4 [] (gT 4 (gC (gV 0) (gC (gV 1) (gC (gV 2) (gC (gV 3) gN))))) (fun _ => .ok true) (dA mkT (aCons (dV 1) (aCons (dV 0) (aCons (dV 2) (aCons (dV 3) aNil)))))))
    (fun ρ => (sSeq (sSet 12 (asN (fun ρ => ((aCons (dA listD (aCons (dV 6) aNil)) (aCons (dA listD (aCons (dV 4) aNil)) (aCons (dA listD (aCons (dV 5) aNil)) aNil))) ρ).bind fitL)))
    (sSeq (sSet 13 (dA F_row_of (aCons (d2 ixD (dV 12) (dC (.int 0))) (aCons (d2 ixD (dV 12) (dC (.int 1))) (aCons (d2 ixD (dV 12) (dC (.int 2))) aNil)))))
    (sSeq (sIf (bOr (b1 tB (d2 neDD (dV 12) (asN (fun ρ => ((aCons (dV 6) (aCons (dV 4) (aCons (dV 5) aNil))) ρ).bind fitL)))) (bOr (bNot (b1 tT (dA (isXD a.isx) (aCons (dV 13) (aCons (dC (.ty "list")) aNil))))) (b1 tB (d2 neSD (dA lenD (aCons (dV 13) aNil)) (dA lenD (aCons (dV 6) aNil)))))) (sRet (dC (.bl false))) sNil)
    (sSeq (sFor (fun ρ => ((aCons (dA lenD (aCons (dV 6) aNil)) aNil) ρ).bind rng1) (gV 14) (b2_law a F_law_cell_at F_law_word F_law_units F_law_checks F_law_mixed F_row_of F_law_meant F_law_off F_law_low))
    (sRet (dC (.bl true))))))) (frzS 6 ρ)))) (frzS 6 ρ))))))))))
theorem ok_law {a : Ad} {F_law_cell_at : List D → R D} {F_law_word : List D → R D} {F_law_units : List D → R D} {F_law_checks : List D → R D} {F_law_mixed : List D → R D} {F_row_of : List D → R D} {F_law_meant : List D → R D} {F_law_off : List D → R D} {F_law_low : List D → R D} (T : Tx K mg a) (F : Fun K "law" "law" s_law f fd)
    (h_law_cell_at : Has P w K mg base (CXx P w) 9 "_law_cell_at" ["_law_script", "_law_k"] (spD 2 K F_law_cell_at))
    (h_law_word : Has P w K mg base (CXx P w) 9 "_law_word" ["_law_cell", "_law_k"] (spD 2 K F_law_word))
    (h_law_units : Has P w K mg base (CXx P w) 9 "_law_units" ["_law_cells", "_law_words", "_law_near"] (spD 3 K F_law_units))
    (h_law_checks : Has P w K mg base (CXx P w) 9 "_law_checks" ["_law_cells", "_law_words", "_law_near"] (spD 3 K F_law_checks))
    (h_law_mixed : Has P w K mg base (CXx P w) 9 "_law_mixed" ["_law_cell", "_law_k"] (spD 2 K F_law_mixed))
    (h_row_of : Has P w K mg base (CXx P w) 9 "row_of" ["readings", "units", "checks"] (spD 3 K F_row_of))
    (h_law_meant : Has P w K mg base (CXx P w) 9 "_law_meant" ["_law_mast", "_law_time_here", "_law_number", "_law_units_here"] (spD 4 K F_law_meant))
    (h_law_off : Has P w K mg base (CXx P w) 9 "_law_off" ["_law_mast", "_law_time_here", "_law_checks_here"] (spD 3 K F_law_off))
    (h_law_low : Has P w K mg base (CXx P w) 9 "_law_low" ["_law_top", "_law_bottom"] (spD 2 K F_law_low)) :
    FnOk P w K mg base (CXx P w) 10 f fd ["_law_script"] (spD 1 K fun ds => finT (g_law a F_law_cell_at F_law_word F_law_units F_law_checks F_law_mixed F_row_of F_law_meant F_law_off F_law_low (startD 20 ds))) :=
  fn_den F sc_law fun cdv A outer s H E hr => (dss_cons (ds_setU 1 sc_law.nd rfl (Or.inl rfl) (dnu_comp1 (Nt := ["_law_k"]) (tn := 1) (x := "_law_script") 0 [(".0", .local), ("_law_k", .local), ("_law_word", .globalImplicit), ("_law_cell_at", .globalImplicit), ("_law_script", .cell)] rfl (di_range1 rfl T.b_range (da_cons de_int da_nil)) (fun _ _ _ _ => (dg_name 0 (show List.Nodup (["_law_k", "_law_script"] : List Str) from by decide +kernel) rfl (Or.inl rfl))) (by simp) (fun _ _ _ _ => df_nil) (fun _ _ _ _ => (de_call h_law_word hr rfl passN rfl (da_cons (de_call h_law_cell_at hr rfl passN rfl (da_cons (de_var 1) (da_cons de_int da_nil))) (da_cons (de_var 0) da_nil)))) rfl (by decide +kernel) (by decide +kernel) rfl rfl rfl rfl rfl rfl (by decide +kernel) (by decide +kernel)))
    (dss_cons (ds_set 2 sc_law.nd rfl (Or.inl rfl) (de_op op_modD (de_call h_law_cell_at hr rfl passX rfl (da_cons (de_var 0) (da_cons de_int da_nil))) (de_op op_subD (de_op op_powD de_int de_int) (de_op op_powD de_int de_int))))
    (dss_cons (ds_set 3 sc_law.nd rfl (Or.inl rfl) (de_slice sl_WD (de_var 0) (do_some de_int) (do_some de_int)))
    (dss_cons (ds_set 4 sc_law.nd rfl (Or.inl rfl) (de_call h_law_units hr rfl passX rfl (da_cons (de_slice sl_WD (de_var 3) do_none (do_some de_int)) (da_cons (de_var 1) (da_cons (de_var 2) da_nil)))))
    (dss_cons (ds_set 5 sc_law.nd rfl (Or.inl rfl) (de_call h_law_checks hr rfl passX rfl (da_cons (de_slice sl_WD (de_var 3) do_none (do_some de_int)) (da_cons (de_var 1) (da_cons (de_var 2) da_nil)))))
    (dss_cons (ds_own 6 sc_law.nd rfl (Or.inl rfl) (dn_lst da_nil))
    (dss_cons (ds_set 7 sc_law.nd rfl (Or.inr rfl) (de_var 2))
    (dss_cons (ds_for pass_cx rfl (di_any (de_var 3)) (dg_name 8 sc_law.nd rfl (Or.inl rfl)) (dss_cons (ds_set 7 sc_law.nd rfl (Or.inr rfl) (de_op op_addD (de_var 7) (de_op op_modD (de_op op_fdivD (de_call h_law_mixed hr rfl passX rfl (da_cons (de_var 8) (da_cons de_int da_nil))) de_int) de_int)))
    (dss_cons (ds_set 9 sc_law.nd rfl (Or.inr rfl) (de_ix ix_D (de_var 1) (de_op op_modD (de_op op_fdivD (de_call h_law_mixed hr rfl passX rfl (da_cons (de_var 8) (da_cons de_int da_nil))) de_int) de_int)))
    (dss_cons (ds_set 10 sc_law.nd rfl (Or.inl rfl) (de_op op_mulUD (de_op op_modD (de_var 8) (de_op op_powD de_int de_int)) (de_op op_subD de_int (de_op op_mulUD de_int (de_op op_modD (de_op op_fdivD (de_call h_law_mixed hr rfl passX rfl (da_cons (de_var 8) (da_cons de_int da_nil))) de_int) de_int)))))
    (dss_one (ds_if (dt_borrow 6 (dt_cmp (op_eqDD hr.units) (DN.de (DNU.dn (dnu_comp2 (Nt := ["_law_one"]) (tn := 1) (x := "_law_time_here") (y := "_law_word_here") 7 9 [(".0", .local), ("_law_one", .local), ("_law_time_here", .cell), ("_law_word_here", .cell)] (by decide) rfl (di_any (de_var 6)) (fun _ _ _ _ => (dg_name 0 (show List.Nodup (["_law_one", "_law_time_here", "_law_word_here"] : List Str) from by decide +kernel) rfl (Or.inl rfl))) (by simp) (fun _ _ _ _ => df_one (DW.dt (dw_and (dt_cmp op_eqSD (de_ix ix_D (de_var 0) de_int) (de_var 2)) (dw_and1 (dt_cmp op_eqSD (de_ix ix_D (de_var 0) de_int) (de_var 1)))))) (fun _ _ _ _ => (de_var 0)) rfl (by decide +kernel) (by decide +kernel) rfl rfl rfl rfl rfl rfl rfl rfl rfl (by decide +kernel) (by decide +kernel)))) (DN.de (dn_lst da_nil)))) (dss_one (ds_append 6 (o := .Name "_law_readings" ⟨0, 0, 0, 0⟩) PySem.F.plainAttrs_list PySem.F.slot_list_append PySem.F.type_list_append (de_tup (da_cons (de_var 9) (da_cons (de_var 7) (da_cons (de_op op_modD (de_var 8) de_int) (da_cons (de_var 10) da_nil))))))) dss_nil))))))
    (dss_freeze 6 (dss_cons (ds_set 11 sc_law.nd rfl (Or.inl rfl) (DN.de (dn_sortedQ rfl T.b_sorted (DN.de (dn_comp0 (Nt := ["_law_one"]) (tn := 1) rfl (di_any (de_var 6)) (fun _ _ _ _ => (dg_name 0 (show List.Nodup (["_law_one"] : List Str) from by decide +kernel) rfl (Or.inl rfl))) (by simp) (fun _ _ _ _ => df_nil) (fun _ _ _ _ => (de_tup (da_cons (de_ix ix_D (de_var 0) de_int) (da_cons (de_ix ix_D (de_var 0) de_int) (da_cons (de_ix ix_D (de_var 0) de_int) (da_cons (de_ix ix_D (de_var 0) de_int) da_nil)))))) (by decide +kernel) rfl (by decide +kernel) (by decide +kernel) rfl)))))
    (dss_cons (ds_ownU 6 sc_law.nd rfl (Or.inl rfl) (dnu_comp0 (Nt := ["_law_time_here", "_law_word_here", "_law_turn", "_law_number"]) (tn := 4) rfl (di_any (de_var 11)) (fun _ _ _ _ => (dg_tup rfl (dgs_cons (dg_name 0 (show List.Nodup (["_law_time_here", "_law_word_here", "_law_turn", "_law_number"] : List Str) from by decide +kernel) rfl (Or.inl rfl)) (dgs_cons (dg_name 1 (show List.Nodup (["_law_time_here", "_law_word_here", "_law_turn", "_law_number"] : List Str) from by decide +kernel) rfl (Or.inl rfl)) (dgs_cons (dg_name 2 (show List.Nodup (["_law_time_here", "_law_word_here", "_law_turn", "_law_number"] : List Str) from by decide +kernel) rfl (Or.inl rfl)) (dgs_cons (dg_name 3 (show List.Nodup (["_law_time_here", "_law_word_here", "_law_turn", "_law_number"] : List Str) from by decide +kernel) rfl (Or.inl rfl)) dgs_nil)))))) (by simp) (fun _ _ _ _ => df_nil) (fun _ _ _ _ => (de_tup (da_cons (de_var 1) (da_cons (de_var 0) (da_cons (de_var 2) (da_cons (de_var 3) da_nil)))))) (by decide +kernel) rfl (by decide +kernel) (by decide +kernel) rfl))
    (dss_freeze 6 (dss_cons (ds_set 12 sc_law.nd rfl (Or.inl rfl) (DN.de (dn_lst (da_cons (de_callTy call_listD rfl T.b_list bt_list (da_cons (de_var 6) da_nil)) (da_cons (de_callTy call_listD rfl T.b_list bt_list (da_cons (de_var 4) da_nil)) (da_cons (de_callTy call_listD rfl T.b_list bt_list (da_cons (de_var 5) da_nil)) da_nil))))))
    (dss_cons (ds_set 13 sc_law.nd rfl (Or.inl rfl) (de_call h_row_of hr rfl passX rfl (da_cons (de_ix ix_D (de_var 12) de_int) (da_cons (de_ix ix_D (de_var 12) de_int) (da_cons (de_ix ix_D (de_var 12) de_int) da_nil)))))
    (dss_cons (ds_if (DW.dt (dw_or (dt_cmp (op_neDD hr.units) (de_var 12) (DN.de (dn_lst (da_cons (de_var 6) (da_cons (de_var 4) (da_cons (de_var 5) da_nil)))))) (dw_or (dt_not (dt_truth (de_callB (call_isXD T.isok) rfl T.b_isinstance bt_isinstance (da_cons (de_var 13) (da_cons (de_ty rfl T.b_list bt_list) da_nil))))) (dw_or1 (dt_cmp op_neSD (de_callB call_lenD rfl T.b_len bt_len (da_cons (de_var 13) da_nil)) (de_callB call_lenD rfl T.b_len bt_len (da_cons (de_var 6) da_nil))))))) (dss_one (ds_ret de_bl)) dss_nil)
    (dss_cons (ds_for pass_cx rfl (di_range1 rfl T.b_range (da_cons (de_callB call_lenD rfl T.b_len bt_len (da_cons (de_var 6) da_nil)) da_nil)) (dg_name 14 sc_law.nd rfl (Or.inl rfl)) (dss_cons (ds_go (de_ix ix_D (de_var 6) (de_var 14)) (dg_tup rfl (dgs_cons (dg_name 15 sc_law.nd rfl (Or.inl rfl)) (dgs_cons (dg_name 7 sc_law.nd rfl (Or.inr rfl)) (dgs_cons (dg_name 16 sc_law.nd rfl (Or.inl rfl)) (dgs_cons (dg_name 10 sc_law.nd rfl (Or.inl rfl)) dgs_nil))))))
    (dss_cons (ds_set 17 sc_law.nd rfl (Or.inl rfl) (de_call h_law_meant hr rfl passX rfl (da_cons (de_var 15) (da_cons (de_var 7) (da_cons (de_var 10) (da_cons (de_var 4) da_nil))))))
    (dss_cons (ds_set 18 sc_law.nd rfl (Or.inl rfl) (de_call h_law_off hr rfl passX rfl (da_cons (de_var 15) (da_cons (de_var 7) (da_cons (de_var 5) da_nil)))))
    (dss_cons (ds_set 19 sc_law.nd rfl (Or.inl rfl) (de_call h_law_low hr rfl passX rfl (da_cons (de_op op_subD (de_op op_mulUD (de_ix ix_D (de_var 17) de_int) (de_ix ix_D (de_var 18) de_int)) (de_op op_mulUD (de_ix ix_D (de_var 18) de_int) (de_ix ix_D (de_var 17) de_int))) (da_cons (de_op op_mulUD (de_ix ix_D (de_var 17) de_int) (de_ix ix_D (de_var 18) de_int)) da_nil))))
    (dss_one (ds_if (DW.dt (dw_or (dt_not (dt_truth (de_callB (call_isXD T.isok) rfl T.b_isinstance bt_isinstance (da_cons (de_ix ix_D (de_var 13) (de_var 14)) (da_cons (de_ty rfl T.b_tuple bt_tuple) da_nil))))) (dw_or (dt_not (dt_truth (de_callB (call_isXD T.isok) rfl T.b_isinstance bt_isinstance (da_cons (de_ix ix_D (de_ix ix_D (de_var 13) (de_var 14)) de_int) (da_cons (de_ty rfl T.b_tuple bt_tuple) da_nil))))) (dw_or1 (dt_cmp (op_neDD hr.units) (de_ix ix_D (de_var 13) (de_var 14)) (de_tup (da_cons (de_var 15) (da_cons (de_var 7) (da_cons (de_var 19) da_nil))))))))) (dss_one (ds_ret de_bl)) dss_nil)))))))
    (dss_one (ds_ret de_bl))))))))))))))))))
end
end W41
namespace W41
open PySem L2 P2 WP TM PySem.NumText
local macro_rules | `(tactic| walk_at "den") => `(tactic| try simp (disch := first | assumption | decide | exact Nat.le_of_ble_eq_true rfl) only [q_bind_k, q_bind_x, q_bind_b, q_toS_k, q_toS_x, q_toS_b, q_seq_n, q_seq_r, q_seq_x, q_seq_b, q_turn_n, q_turn_c, q_turn_k, q_turn_r, q_turn_b, q_turn_x, q_fin_r, q_fin_n, q_fin_x, q_noEx_k, q_okO_k, q_ofO_s, q_sSeq_a, q_sNil_a, q_sRet_a, q_sExpr_a, q_sSet_a, q_sIf_a, q_dC_a, q_d1_a, q_d2_a, q_b1B_a, q_b1T_a, q_bAnd_a, q_bOr_a, q_bNot_a, q_dAnd_a, q_dOr_a, q_dOrV_a, q_dNot_a, q_dIf_a, q_dA_a, q_aNil_a, q_aCons_a, q_asN_a, q_dMt_a, q_dSl_a, q_dComp_a, q_sFor_a, q_sOwn_a, q_sPar_a, q_app3, q_app4, q_frz3, q_frz4, q_min_i, q_rng1_p, q_toO_s, q_gV_a, q_tB_b, q_tT_b, q_tT_i, q_tT_n, q_tT_l, q_tT_t, q_add_i, q_sub_i, q_fdiv_p, q_mod_p, q_lt_i, q_le_i, q_gt_i, q_ge_i, q_neg_i, q_eq_i, q_eq_s, q_eq_b, q_ne_i, q_ne_s, q_in_s, q_ix_l, q_ix_t, q_ix_s, q_sl_l, q_sl_s, q_pI_i, q_len_s, q_len_l, q_len_t, q_abs_i, q_max_i, q_int_s, q_all_l, q_any_l, q_st_s, q_zf_s, q_hs_s, q_fit_p, q_add_sp, q_add_lp, q_mkT_p, q_asI_l, q_asI_t, q_asI_s, q_fmt_s, q_jNil_a, q_jCons_k, q_isX_i, q_isX_b, q_isX_s, q_isX_t, q_isX_l, q_slW_l, q_slW_s, q_is_bb, q_isn_bb, q_is_nn, q_isn_nn, q_is_tn, q_isn_tn, q_v0, q_v1, q_v2, q_v3, q_v4, q_v5, q_v6, q_v7, q_v8, q_v9, q_v10, q_v11, q_v12, q_v13, startD, List.map_cons, List.map_nil, List.length_cons, List.length_nil, Nat.sub_self, Nat.reduceAdd, Nat.reduceSub, List.replicate_zero, List.replicate_succ, List.append_nil, List.nil_append, List.cons_append, List.set_cons_zero, List.set_cons_succ, if_true, if_false, Nat.reduceLT, Nat.zero_lt_succ, Bool.not_true, Bool.not_false, Bool.false_eq_true, reduceIte, decide_true, decide_false, Int.reduceLT, Int.reduceEq, Int.reduceNeg, Int.reducePow, Int.reduceSub, Int.reduceAdd, Int.reduceMul,  List.length_set])
variable {a : Ad}
theorem meant_body {Fl : List D → R D} {m : Str} {t : Int} {c : Ut} (hc : 0 ≤ c.t) (o : Option Ut) (s2 s3 s8 : Sl) : b1_law_meant a Fl [.sh (.str m), .sh (.int t), s2, s3, .sh (.int (bT o)), .sh (bF o), .sh (bS o), .sh c.d, s8] = .nx [.sh (.str m), .sh (.int t), s2, s3, .sh (.int (bT (stU m t o c))), .sh (bF (stU m t o c)), .sh (bS (stU m t o c)), .sh c.d, s8] := by
  have i0 : L2.atI [D.str c.m, .int c.t, pr c.p c.q, pr c.x c.y] 0 = some (.str c.m) := rfl
  have i1 : L2.atI [D.str c.m, .int c.t, pr c.p c.q, pr c.x c.y] 1 = some (.int c.t) := rfl
  have i2 : L2.atI [D.str c.m, .int c.t, pr c.p c.q, pr c.x c.y] 2 = some (pr c.p c.q) := rfl
  have i3 : L2.atI [D.str c.m, .int c.t, pr c.p c.q, pr c.x c.y] 3 = some (pr c.x c.y) := rfl
  have st : stU m t o c = if (decide (c.m = m) && decide (c.t ≤ t)) = true ∧ bT o < c.t then some c else o := by
    unfold stU bT
    cases o with
    | none => by_cases z : (decide (c.m = m) && decide (c.t ≤ t)) = true
              · rw [if_pos z]; dsimp only; rw [if_pos ⟨z, by omega⟩]
              · rw [if_neg z]; dsimp only; rw [if_neg fun w => z w.1]
    | some b => rfl
  rw [st]
  generalize hbt : bT o = b
  by_cases h1' : c.m = m
  · have h1 := decide_eq_true h1'
    by_cases h2' : b < c.t
    · have h2 := decide_eq_true h2'
      by_cases h3' : c.t ≤ t
      · have h3 := decide_eq_true h3'
        rw [if_pos ⟨by rw [h1, h3]; rfl, h2'⟩]
        unfold bT bF bS b1_law_meant
        dsimp only
        iterate 8 (walk_at "den"; try simp only [i0, i1, i2, i3, h1, h2, h3, q_dChain_a, q_chK_t, q_chK_f, q_sPar3_a, and_self])
      · have h3 := decide_eq_false h3'
        rw [if_neg fun w => by rw [h1, h3] at w; exact absurd w.1 (by decide), hbt]
        unfold b1_law_meant
        iterate 8 (walk_at "den"; try simp only [i0, i1, i2, i3, h1, h2, h3, q_dChain_a, q_chK_t, q_chK_f, q_sPar3_a, and_self])
    · have h2 := decide_eq_false h2'
      rw [if_neg fun w => h2' w.2, hbt]
      unfold b1_law_meant
      iterate 8 (walk_at "den"; try simp only [i0, i1, i2, i3, h1, h2, q_dChain_a, q_chK_t, q_chK_f, q_sPar3_a, and_self])
  · have h1 := decide_eq_false h1'
    rw [if_neg fun w => by rw [h1] at w; exact absurd w.1 (by simp), hbt]
    unfold b1_law_meant
    iterate 8 (walk_at "den"; try simp only [i0, i1, i2, i3, h1])
theorem meant_loop {Fl : List D → R D} (m : Str) (t : Int) (s2 s3 s8 : Sl) : ∀ (L : List Ut) (o : Option Ut) (s7 : Sl), (∀ c ∈ L, 0 ≤ c.t) →
    ∃ s7', forD (gV 7) (b1_law_meant a Fl) (L.map Ut.d) [.sh (.str m), .sh (.int t), s2, s3, .sh (.int (bT o)), .sh (bF o), .sh (bS o), s7, s8] = .nx [.sh (.str m), .sh (.int t), s2, s3, .sh (.int (bT (L.foldl (stU m t) o))), .sh (bF (L.foldl (stU m t) o)), .sh (bS (L.foldl (stU m t) o)), s7', s8]
  | [], o, s7, _ => ⟨s7, rfl⟩
  | c :: L, o, s7, h => by
    obtain ⟨s7', e⟩ := meant_loop (Fl := Fl) m t s2 s3 s8 L (stU m t o c) (.sh c.d) fun d hd => h d (List.mem_cons_of_mem _ hd)
    refine ⟨s7', ?_⟩
    rw [List.map_cons, q_forD_c]
    walk_at "den"
    rw [meant_body (h c (List.mem_cons_self ..)), q_turn_n, List.foldl_cons]
    exact e
theorem m_meant {Fl : List D → R D} (hl : ∀ t b : Int, 0 < b → b.natAbs < 10 ^ 400 → Fl [.int t, .int b] = .ok (fr t b)) {L : List Ut} (hL : ∀ c ∈ L, c.Ok) (m : Str) (t n : Int) (hn : Sz 60 n) :
    finT (g_law_meant a Fl (startD 9 [.str m, .int t, .int n, .lst (L.map Ut.d)])) = .ok (fr (n * (unitOf L m t).p * (unitOf L m t).y + (unitOf L m t).x * (unitOf L m t).q) ((unitOf L m t).q * (unitOf L m t).y)) := by
  obtain ⟨s7, e⟩ := meant_loop (a := a) (Fl := Fl) m t (.sh (.int n)) (.sh (.lst (L.map Ut.d))) .no L none .no fun c hc => (hL c hc).t.1
  rw [foldU] at e
  have e' : forD (gV 7) (b1_law_meant a Fl) (L.map Ut.d) [.sh (.str m), .sh (.int t), .sh (.int n), .sh (.lst (L.map Ut.d)), .sh (.int (-1)), .sh (.tup [.int 1, .int 1]), .sh (.tup [.int 0, .int 1]), .no, .no] = _ := e
  have ef : bF (pickU L m t) = pr (unitOf L m t).p (unitOf L m t).q := by unfold unitOf; cases pickU L m t <;> rfl
  have es : bS (pickU L m t) = pr (unitOf L m t).x (unitOf L m t).y := by unfold unitOf; cases pickU L m t <;> rfl
  rw [ef, es] at e'
  have g := unit_good hL m t
  generalize unitOf L m t = u at *
  have l2 : 2 ≤ sizeLine := by decide
  have i0 : L2.atI [D.int u.p, D.int u.q] 0 = some (.int u.p) := rfl
  have i1 : L2.atI [D.int u.p, D.int u.q] 1 = some (.int u.q) := rfl
  have j0 : L2.atI [D.int u.x, D.int u.y] 0 = some (.int u.x) := rfl
  have j1 : L2.atI [D.int u.x, D.int u.y] 1 = some (.int u.y) := rfl
  have q0 := g.f.low.pos
  have y0 := g.s.low.pos
  have m1 := q_mulS (hn.mono (show 60 ≤ 190 by decide)) (g.f.p.mono (by decide))
  have m2 := q_mulS ((hn.mul g.f.p).mono (show _ ≤ 190 by decide)) (g.s.q.mono (by decide))
  have m3 := q_mulS (g.s.p.mono (show _ ≤ 190 by decide)) (g.f.q.mono (by decide))
  have m4 := q_mulS (g.f.q.mono (show _ ≤ 190 by decide)) (g.s.q.mono (by decide))
  have f := hl (n * u.p * u.y + u.x * u.q) (u.q * u.y) (Int.mul_pos q0 y0) ((g.f.q.mul g.s.q).mono (show _ ≤ 400 by decide))
  unfold g_law_meant
  iterate 9 (walk_at "den"; try simp only [if_pos l2])
  rw [e']
  iterate 10 (walk_at "den"; try simp only [i0, i1, j0, j1, m1, m2, m3, m4, f])
structure Rg where
  m : Str
  t : Int
  u : Int
  n : Int
noncomputable abbrev Rg.d (r : Rg) : D := .tup [.str r.m, .int r.t, .int r.u, .int r.n]
noncomputable abbrev Rg.o (r : Rg) : D := .tup [.int r.t, .str r.m, .int r.u, .int r.n]
structure Rg.Ok (r : Rg) : Prop where
  m : PyData.strOk r.m = true
  t : 0 ≤ r.t ∧ r.t ≤ 1000000000
  n : Sz 60 r.n
theorem Rg.Ok.d {r : Rg} (h : r.Ok) : okQ r.d = true := by
  show (PyData.strOk r.m && (true && (true && (true && true)))) = true
  rw [h.m]; rfl
theorem rg_dep (r : Rg) : dpQ r.d ≤ 1 := by show (max 0 (max 0 (max 0 (max 0 0)))) + 1 ≤ 1; decide
theorem sg_o (r : Rg) : sgQ r.o = some [2, 0, 1, 0, 0] := rfl
theorem hom_o (R : List Rg) : homQ (R.map Rg.o) = true := by
  cases R with
  | nil => rfl
  | cons r R =>
    show ((sgQ r.o).isSome && (R.map Rg.o).all fun e => sgQ e == sgQ r.o) = true
    rw [Bool.and_eq_true]
    refine ⟨rfl, List.all_eq_true.mpr fun e he => ?_⟩
    obtain ⟨x, _, rfl⟩ := List.mem_map.mp he
    rw [sg_o, sg_o]; rfl
theorem perm_map {α β : Type} {f : α → β} : ∀ {l : List α} {b : List β}, b.Perm (l.map f) → ∃ l' : List α, b = l'.map f ∧ l'.Perm l := fun {l b} h => by
  generalize hm : l.map f = c at h
  induction h generalizing l with
  | nil =>
    cases l with
    | nil => exact ⟨[], rfl, .refl _⟩
    | cons _ _ => cases hm
  | cons x h ih =>
    cases l with
    | nil => cases hm
    | cons y l =>
      injection hm with e1 e2
      obtain ⟨l', h1, h2⟩ := ih e2
      exact ⟨y :: l', by rw [List.map_cons, ← h1, e1], h2.cons y⟩
  | swap x y r =>
    cases l with
    | nil => cases hm
    | cons p l =>
      cases l with
      | nil => cases hm
      | cons q l =>
        injection hm with e1 e2
        injection e2 with e2 e3
        exact ⟨q :: p :: l, by rw [List.map_cons, List.map_cons, e1, e2, e3], .swap ..⟩
  | trans h1 h2 ih1 ih2 =>
    obtain ⟨l2, e2, p2⟩ := ih2 hm
    obtain ⟨l1, e1, p1⟩ := ih1 e2.symm
    exact ⟨l1, e1, p1.trans p2⟩
theorem sorted_o (R : List Rg) : ∃ S : List Rg, S.Perm R ∧ sortQL (R.map Rg.o) = S.map Rg.o := by
  obtain ⟨S, h1, h2⟩ := perm_map (sortQL_perm (R.map Rg.o))
  exact ⟨S, h2, h1⟩
end W41
namespace W41
open PySem L2 P2 WP TM PySem.NumText
local macro_rules | `(tactic| walk_at "den") => `(tactic| try simp (disch := first | assumption | decide | exact Nat.le_of_ble_eq_true rfl) only [q_bind_k, q_bind_x, q_bind_b, q_toS_k, q_toS_x, q_toS_b, q_seq_n, q_seq_r, q_seq_x, q_seq_b, q_turn_n, q_turn_c, q_turn_k, q_turn_r, q_turn_b, q_turn_x, q_fin_r, q_fin_n, q_fin_x, q_noEx_k, q_okO_k, q_ofO_s, q_sSeq_a, q_sNil_a, q_sRet_a, q_sExpr_a, q_sSet_a, q_sIf_a, q_dC_a, q_d1_a, q_d2_a, q_b1B_a, q_b1T_a, q_bAnd_a, q_bOr_a, q_bNot_a, q_dAnd_a, q_dOr_a, q_dOrV_a, q_dNot_a, q_dIf_a, q_dA_a, q_aNil_a, q_aCons_a, q_asN_a, q_dMt_a, q_dSl_a, q_dComp_a, q_sFor_a, q_sOwn_a, q_sPar_a, q_app3, q_app4, q_frz3, q_frz4, q_min_i, q_rng1_p, q_toO_s, q_gV_a, q_tB_b, q_tT_b, q_tT_i, q_tT_n, q_tT_l, q_tT_t, q_add_i, q_sub_i, q_fdiv_p, q_mod_p, q_lt_i, q_le_i, q_gt_i, q_ge_i, q_neg_i, q_eq_i, q_eq_s, q_eq_b, q_ne_i, q_ne_s, q_in_s, q_ix_l, q_ix_t, q_ix_s, q_sl_l, q_sl_s, q_pI_i, q_len_s, q_len_l, q_len_t, q_abs_i, q_max_i, q_int_s, q_all_l, q_any_l, q_st_s, q_zf_s, q_hs_s, q_fit_p, q_add_sp, q_add_lp, q_mkT_p, q_asI_l, q_asI_t, q_asI_s, q_fmt_s, q_jNil_a, q_jCons_k, q_isX_i, q_isX_b, q_isX_s, q_isX_t, q_isX_l, q_slW_l, q_slW_s, q_is_bb, q_isn_bb, q_is_nn, q_isn_nn, q_is_tn, q_isn_tn, q_v0, q_v1, q_v2, q_v3, q_v4, q_v5, q_v6, q_v7, q_v8, q_v9, q_v10, q_v11, q_v12, q_v13, startD, List.map_cons, List.map_nil, List.length_cons, List.length_nil, Nat.sub_self, Nat.reduceAdd, Nat.reduceSub, List.replicate_zero, List.replicate_succ, List.append_nil, List.nil_append, List.cons_append, List.set_cons_zero, List.set_cons_succ, if_true, if_false, Nat.reduceLT, Nat.zero_lt_succ, Bool.not_true, Bool.not_false, Bool.false_eq_true, reduceIte, decide_true, decide_false, Int.reduceLT, Int.reduceEq, Int.reduceNeg, Int.reducePow, Int.reduceSub, Int.reduceAdd, Int.reduceMul,  List.length_set])
variable {a : Ad}
noncomputable def rowT (L : List Ut) (r : Rg) : Int := FM.top (r.n * (unitOf L r.m r.t).p * (unitOf L r.m r.t).y + (unitOf L r.m r.t).x * (unitOf L r.m r.t).q) ((unitOf L r.m r.t).q * (unitOf L r.m r.t).y)
noncomputable def rowU (L : List Ut) (r : Rg) : Int := FM.bot (r.n * (unitOf L r.m r.t).p * (unitOf L r.m r.t).y + (unitOf L r.m r.t).x * (unitOf L r.m r.t).q) ((unitOf L r.m r.t).q * (unitOf L r.m r.t).y)
noncomputable def rowV (L : List Ut) (C : List Ck) (r : Rg) : D := fr (rowT L r * (offP C r.m r.t).2 - (offP C r.m r.t).1 * rowU L r) (rowU L r * (offP C r.m r.t).2)
noncomputable abbrev rowD (L : List Ut) (C : List Ck) (r : Rg) : D := .tup [.str r.m, .int r.t, rowV L C r]
theorem row_sz {L : List Ut} (hL : ∀ c ∈ L, c.Ok) {r : Rg} (h : r.Ok) : Sz 76 (rowT L r) ∧ Sz 12 (rowU L r) ∧ 0 < rowU L r := by
  have g := unit_good hL r.m r.t
  have q0 := g.f.low.pos
  have y0 := g.s.low.pos
  unfold rowT rowU
  generalize unitOf L r.m r.t = u at *
  have hB : u.q * u.y ≠ 0 := Int.mul_ne_zero (by omega) (by omega)
  have zA : Sz 76 (r.n * u.p * u.y + u.x * u.q) := ((h.n.mul g.f.p).mul g.s.q).add ((g.s.p.mul g.f.q).mono (show 15 ≤ 75 by decide))
  have zB : Sz 12 (u.q * u.y) := g.f.q.mul g.s.q
  exact ⟨zA.top hB, zB.bot hB, (FM.low_of (t := r.n * u.p * u.y + u.x * u.q) hB).pos⟩
theorem m_rowr {Fn Fp : List D → R D} {L : List Ut} {C : List Ck} {r : Rg} (e1 : Fn [r.d, .lst (L.map Ut.d)] = .ok (pr (rowT L r) (rowU L r))) (e2 : Fp [.str r.m, .int r.t, pr (rowT L r) (rowU L r), .lst (C.map Ck.d)] = .ok (rowV L C r)) :
    finT (g_row_reading a Fn Fp (startD 5 [r.d, .lst (L.map Ut.d), .lst (C.map Ck.d)])) = .ok (rowD L C r) := by
  have i0 : L2.atI [D.str r.m, .int r.t, .int r.u, .int r.n] 0 = some (.str r.m) := rfl
  have i1 : L2.atI [D.str r.m, .int r.t, .int r.u, .int r.n] 1 = some (.int r.t) := rfl
  have l3 : 3 ≤ sizeLine := by decide
  generalize L.map Ut.d = ds at *
  generalize C.map Ck.d = es at *
  unfold g_row_reading rowD
  generalize rowV L C r = V at *
  iterate 9 (walk_at "den"; try simp only [i0, i1, e1, e2, if_pos l3])
theorem m_put {Fo Fx : List D → P2.R D} {m : Str} {t v w o1 o2 : Int} {cs : D} (ho : Fo [.str m, .int t, cs] = .ok (pr o1 o2)) {x y : Int} (hx : Fx [pr v w, pr o1 o2] = .ok (fr x y)) : finT (g_put_right a Fo Fx (startD 4 [.str m, .int t, pr v w, cs])) = .ok (fr x y) := by
  unfold g_put_right
  iterate 5 (walk_at "den"; try simp only [ho, hx])
theorem m_rowof {Fr : List D → R D} {L : List Ut} {C : List Ck} {R : List Rg} (h : ∀ r ∈ R, Fr [r.d, .lst (L.map Ut.d), .lst (C.map Ck.d)] = .ok (rowD L C r)) (hl : R.length ≤ 1000) :
    finT (g_row_of a Fr (startD 3 [.lst (R.map Rg.d), .lst (L.map Ut.d), .lst (C.map Ck.d)])) = .ok (.lst (R.map (rowD L C))) := by
  have sz : (R.map Rg.d).length ≤ sizeLine := by rw [List.length_map]; exact size_of (by omega)
  have cp : capD 1 [2, 1] [.sh (.lst (R.map Rg.d)), .sh (.lst (L.map Ut.d)), .sh (.lst (C.map Ck.d))] = [.no, .sh (.lst (C.map Ck.d)), .sh (.lst (L.map Ut.d))] := rfl
  have cm : compO (gV 0) (fun _ => .ok true) (dA Fr (aCons (dV 0) (aCons (dV 2) (aCons (dV 1) aNil)))) [.no, .sh (.lst (C.map Ck.d)), .sh (.lst (L.map Ut.d))] (R.map Rg.d) = some (R.map (rowD L C)) :=
    comp_mp Rg.d (rowD L C) (fun r => [.sh r.d, .sh (.lst (C.map Ck.d)), .sh (.lst (L.map Ut.d))]) R fun r hr => ⟨rfl, by
      have e := h r hr
      generalize L.map Ut.d = ds at *
      generalize C.map Ck.d = es at *
      generalize rowD L C r = V at *
      iterate 4 (walk_at "den"; try simp only [e])⟩
  show finT (sRet (asN (dComp (fun ρ => ((dV 0) ρ).bind asI) 1 [2, 1] (gV 0) (fun _ => .ok true) (dA Fr (aCons (dV 0) (aCons (dV 2) (aCons (dV 1) aNil)))))) [.sh (.lst (R.map Rg.d)), .sh (.lst (L.map Ut.d)), .sh (.lst (C.map Ck.d))]) = _
  show finT (toS (((P2.R.ok (R.map Rg.d)).bind fun ds => if ds.length ≤ sizeLine then ofO (compO (gV 0) (fun _ => .ok true) (dA Fr (aCons (dV 0) (aCons (dV 2) (aCons (dV 1) aNil)))) (capD 1 [2, 1] [.sh (.lst (R.map Rg.d)), .sh (.lst (L.map Ut.d)), .sh (.lst (C.map Ck.d))]) ds) else .bad).bind fun ds => P2.R.ok (D.lst ds)) RT.rt) = _
  rw [P2.R.bind_ok, if_pos sz, cp, cm]
  rfl
structure Fz (a : Ad) (Fc Fw Fu Fk Fm Fr Fn Fo Fl : List D → R D) : Prop where
  c : ∀ (ns : List Int) (k : Nat), Fc [.lst (ns.map .int), .int k] = .ok (.int (ns.getD k 0))
  w : ∀ c k : Int, 0 ≤ k ∧ k < 26 → ∃ z, PyData.strOk z = true ∧ z.length ≤ 20 ∧ Fw [.int c, .int k] = .ok (.str z)
  u : ∀ (ws : List Str) (near : Int) (cs : List Int), ws.length = 3 → (∀ w ∈ ws, PyData.strOk w = true) → 0 ≤ near ∧ near < 999999960 → cs.length ≤ 1000 → ∃ L : List Ut, (∀ c ∈ L, c.Ok) ∧ UniqU L ∧ (∀ c ∈ L, c.m ∈ ws) ∧ L.length ≤ cs.length ∧ Fu [.lst (cs.map .int), .lst (ws.map D.str), .int near] = .ok (.lst (L.map Ut.d))
  k : ∀ (ws : List Str) (near : Int) (cs : List Int), ws.length = 3 → (∀ w ∈ ws, PyData.strOk w = true) → 0 ≤ near ∧ near < 999999960 → cs.length ≤ 1000 → ∃ L : List Ck, (∀ c ∈ L, c.Ok) ∧ Uniq L ∧ (∀ c ∈ L, c.m ∈ ws) ∧ L.length ≤ cs.length ∧ Fk [.lst (cs.map .int), .lst (ws.map D.str), .int near] = .ok (.lst (L.map Ck.d))
  m : ∀ c k : Int, 0 ≤ k ∧ k ≤ 1000 → Fm [.int c, .int k] = .ok (.int (mixZ c k))
  r : ∀ (R : List Rg) (L : List Ut) (C : List Ck), (∀ r ∈ R, r.Ok) → (∀ c ∈ L, c.Ok) → (∀ c ∈ C, c.Ok) → R.length ≤ 1000 → L.length ≤ 1000 → C.length ≤ 1000 → Fr [.lst (R.map Rg.d), .lst (L.map Ut.d), .lst (C.map Ck.d)] = .ok (.lst (R.map (rowD L C)))
  n : ∀ (L : List Ut) (r : Rg), (∀ c ∈ L, c.Ok) → r.Ok → Fn [.str r.m, .int r.t, .int r.n, .lst (L.map Ut.d)] = .ok (pr (rowT L r) (rowU L r))
  o : ∀ (C : List Ck) (m : Str) (t : Int), (∀ c ∈ C, c.Ok) → Uniq C → 0 ≤ t ∧ t ≤ 1000000000 → Fo [.str m, .int t, .lst (C.map Ck.d)] = .ok (pr (offP C m t).1 (offP C m t).2)
  l : ∀ t b : Int, 0 < b → b.natAbs < 10 ^ 400 → Fl [.int t, .int b] = .ok (fr t b)
section
variable {Fc Fw Fu Fk Fm Fr Fn Fo Fl : List D → R D} (H : Fz a Fc Fw Fu Fk Fm Fr Fn Fo Fl)
theorem set_nx {i : Nat} {f : Ev → R D} {ρ : Ev} {d : D} (h : f ρ = .ok d) (hi : i < ρ.length) : sSet i f ρ = .nx (ρ.set i (.sh d)) := by
  show toS (f ρ) _ = _
  rw [h, q_toS_k, if_pos hi]
theorem app_nx {i : Nat} {f : Ev → P2.R D} {ρ : Ev} {ds : List D} {d : D} (h : ρ[i]? = some (.ow ds)) (hf : f ρ = .ok d) (hl : ds.length < sizeLine) : sApp i f ρ = .nx (ρ.set i (.ow (ds ++ [d]))) := by
  unfold sApp
  rw [h]
  show toS (f ρ) _ = _
  rw [hf, q_toS_k, if_pos hl]
include H in
theorem body_1 {R : List Rg} (hR : ∀ r ∈ R, r.Ok) (hl : R.length ≤ 900) {w0 w1 w2 : Str} (h0 : PyData.strOk w0 = true) (h1 : PyData.strOk w1 = true) (h2 : PyData.strOk w2 = true) (t c : Int) (ht : 0 ≤ t ∧ t ≤ 999999900) (s0 s2 s3 s4 s5 s9 s10 s11 s12 s13 s14 s15 s16 s17 s18 s19 : Sl) :
    ∃ (R' : List Rg) (t' : Int) (u9 u10 : Sl), (∀ r ∈ R', r.Ok) ∧ R'.length ≤ R.length + 1 ∧ t ≤ t' ∧ t' ≤ t + 2 ∧ b1_law a Fc Fw Fu Fk Fm Fr Fn Fo Fl [s0, .sh (.lst [.str w0, .str w1, .str w2]), s2, s3, s4, s5, .ow (R.map Rg.d), .sh (.int t), .sh (.int c), s9, s10, s11, s12, s13, s14, s15, s16, s17, s18, s19] = .nx [s0, .sh (.lst [.str w0, .str w1, .str w2]), s2, s3, s4, s5, .ow (R'.map Rg.d), .sh (.int t'), .sh (.int c), u9, u10, s11, s12, s13, s14, s15, s16, s17, s18, s19] := by
  have m1 := H.m c 1 (by decide)
  have m2 := H.m c 2 (by decide)
  have m3 := H.m c 3 (by decide)
  have pw : powD (.int 10) (.int 60) = .ok (.int 1000000000000000000000000000000000000000000000000000000000000) := rfl
  obtain ⟨w, hw, iw⟩ : ∃ w, PyData.strOk w = true ∧ L2.atI [D.str w0, .str w1, .str w2] (mixZ c 2 / 5 % 3) = some (.str w) := by
    have : mixZ c 2 / 5 % 3 = 0 ∨ mixZ c 2 / 5 % 3 = 1 ∨ mixZ c 2 / 5 % 3 = 2 := by omega
    rcases this with e | e | e
    · exact ⟨w0, h0, by rw [e]; rfl⟩
    · exact ⟨w1, h1, by rw [e]; rfl⟩
    · exact ⟨w2, h2, by rw [e]; rfl⟩
  have zk : Sz 190 (mixZ c 3 / 5 % 2) := by
    have : (mixZ c 3 / 5 % 2).natAbs < 10 ^ 1 := by omega
    exact Sz.mono (m := 1) this (by decide)
  have k1 : mulUD (.int 2) (.int (mixZ c 3 / 5 % 2)) = .ok (.int (2 * (mixZ c 3 / 5 % 2))) := q_mulS (Sz.mono (m := 1) (show (2 : Int).natAbs < 10 ^ 1 by decide) (by decide)) zk
  have zc : Sz 60 (c % 1000000000000000000000000000000000000000000000000000000000000) := by unfold Sz; omega
  have zs : Sz 190 (1 - 2 * (mixZ c 3 / 5 % 2)) := by
    have : (1 - 2 * (mixZ c 3 / 5 % 2)).natAbs < 10 ^ 1 := by omega
    exact Sz.mono (m := 1) this (by decide)
  have k2 := q_mulS (zc.mono (by decide)) zs
  obtain ⟨n, hn⟩ : ∃ n, n = c % 1000000000000000000000000000000000000000000000000000000000000 * (1 - 2 * (mixZ c 3 / 5 % 2)) := ⟨_, rfl⟩
  rw [← hn] at k2
  have zn : Sz 60 n := by
    have : mixZ c 3 / 5 % 2 = 0 ∨ mixZ c 3 / 5 % 2 = 1 := by omega
    rw [hn]
    rcases this with e | e
    · rw [e]; simpa using zc
    · rw [e]
      unfold Sz at *
      have : c % 1000000000000000000000000000000000000000000000000000000000000 * (1 - 2 * 1) = -(c % 1000000000000000000000000000000000000000000000000000000000000) := by omega
      rw [this, Int.natAbs_neg]; exact zc
  obtain ⟨t', ht'⟩ : ∃ t', t' = t + mixZ c 1 / 5 % 3 := ⟨_, rfl⟩
  have bt : t ≤ t' ∧ t' ≤ t + 2 := by omega
  -- the test
  have hO : okQs ((R.filter fun r => decide (r.m = w) && decide (r.t = t')).map Rg.d) = true := okQs_map fun r hr => (hR r (List.mem_filter.mp hr).1).d
  have hD : dpQs ((R.filter fun r => decide (r.m = w) && decide (r.t = t')).map Rg.d) ≤ 50 := Nat.le_trans (dpQs_map (k := 1) fun r _ => rg_dep r) (by decide)
  have en := eq_nilQ hO hD
  have sz : (R.map Rg.d).length ≤ sizeLine := by rw [List.length_map]; exact size_of (by omega)
  have cm : compO (gV 0) (bAnd (b1 tB (d2 eqSD (d2 ixD (dV 0) (dC (.int 0))) (dV 2))) (b1 tB (d2 eqSD (d2 ixD (dV 0) (dC (.int 1))) (dV 1)))) (dV 0) [.no, .sh (.int t'), .sh (.str w)] (R.map Rg.d) = some ((R.filter fun r => decide (r.m = w) && decide (r.t = t')).map Rg.d) :=
    comp_fm Rg.d Rg.d (fun r => decide (r.m = w) && decide (r.t = t')) (fun r => [.sh r.d, .sh (.int t'), .sh (.str w)]) R fun r hr => ⟨rfl, by
      have i0 : L2.atI [D.str r.m, .int r.t, .int r.u, .int r.n] 0 = some (.str r.m) := rfl
      have i1 : L2.atI [D.str r.m, .int r.t, .int r.u, .int r.n] 1 = some (.int r.t) := rfl
      by_cases g1 : r.m = w
      · have g2 := decide_eq_true g1
        iterate 6 (walk_at "den"; try simp only [i0, i1, g2, Bool.true_and])
      · have g2 := decide_eq_false g1
        iterate 6 (walk_at "den"; try simp only [i0, i1, g2, Bool.false_and]), fun _ => rfl⟩
  generalize (R.filter fun r => decide (r.m = w) && decide (r.t = t')) = R1 at *
  have test : ∀ ρ : Ev, ρ[6]? = some (.ow (R.map Rg.d)) → ρ[7]? = some (.sh (.int t')) → ρ[9]? = some (.sh (.str w)) → (fun ρ => noEx ((P2.b1 tB (d2 eqDD (asN (dComp (fun ρ => ((dV 6) ρ).bind asI) 1 [7, 9] (gV 0) (bAnd (P2.b1 tB (d2 eqSD (d2 ixD (dV 0) (dC (.int 0))) (dV 2))) (P2.b1 tB (d2 eqSD (d2 ixD (dV 0) (dC (.int 1))) (dV 1)))) (dV 0))) (asN (fun ρ => (aNil ρ).bind fitL)))) (frzS 6 ρ))) ρ = .ok (R1.map Rg.d).isEmpty := fun ρ e6 e7 e9 => by
    have l6 : 6 < ρ.length := (List.getElem?_eq_some_iff.mp e6).1
    have f6 : frzS 6 ρ = ρ.set 6 (.sh (.lst (R.map Rg.d))) := by unfold frzS; rw [e6]
    have g6 : (ρ.set 6 (.sh (.lst (R.map Rg.d))))[6]? = some (.sh (.lst (R.map Rg.d))) := List.getElem?_set_self l6
    have g7 : (ρ.set 6 (.sh (.lst (R.map Rg.d))))[7]? = some (.sh (.int t')) := by rw [List.getElem?_set_ne (by decide)]; exact e7
    have g9 : (ρ.set 6 (.sh (.lst (R.map Rg.d))))[9]? = some (.sh (.str w)) := by rw [List.getElem?_set_ne (by decide)]; exact e9
    have v6 : dV 6 (ρ.set 6 (.sh (.lst (R.map Rg.d)))) = .ok (.lst (R.map Rg.d)) := by unfold dV; rw [g6]
    have cp : capD 1 [7, 9] (ρ.set 6 (.sh (.lst (R.map Rg.d)))) = [.no, .sh (.int t'), .sh (.str w)] := by
      unfold capD
      simp only [List.map_cons, List.map_nil, g7, g9]
      rfl
    dsimp only
    rw [f6]
    generalize ρ.set 6 (.sh (.lst (R.map Rg.d))) = ρ' at *
    generalize (bAnd (P2.b1 tB (d2 eqSD (d2 ixD (dV 0) (dC (.int 0))) (dV 2))) (P2.b1 tB (d2 eqSD (d2 ixD (dV 0) (dC (.int 1))) (dV 1)))) = fc at *
    show noEx ((((((dV 6 ρ').bind asI).bind fun ds => if ds.length ≤ sizeLine then ofO (compO (gV 0) fc (dV 0) (capD 1 [7, 9] ρ') ds) else .bad).bind fun ds => P2.R.ok (D.lst ds)).bind fun x => (P2.R.ok (D.lst [])).bind fun y => eqDD x y).bind tB) = _
    rw [v6, P2.R.bind_ok, q_asI_l, P2.R.bind_ok, if_pos sz, cp, cm]
    show noEx ((eqDD (.lst (R1.map Rg.d)) (.lst [])).bind tB) = _
    rw [en]
    rfl
  generalize htst : (fun ρ => noEx ((P2.b1 tB (d2 eqDD (asN (dComp (fun ρ => ((dV 6) ρ).bind asI) 1 [7, 9] (gV 0) (bAnd (P2.b1 tB (d2 eqSD (d2 ixD (dV 0) (dC (.int 0))) (dV 2))) (P2.b1 tB (d2 eqSD (d2 ixD (dV 0) (dC (.int 1))) (dV 1)))) (dV 0))) (asN (fun ρ => (aNil ρ).bind fitL)))) (frzS 6 ρ))) = tst at test
  have test' := test [s0, .sh (.lst [.str w0, .str w1, .str w2]), s2, s3, s4, s5, .ow (R.map Rg.d), .sh (.int t'), .sh (.int c), .sh (.str w), .sh (.int n), s11, s12, s13, s14, s15, s16, s17, s18, s19] rfl rfl rfl
  have l4 : 4 ≤ sizeLine := by decide
  have la : (R.map Rg.d).length < sizeLine := by rw [List.length_map]; exact Nat.lt_of_lt_of_le (show R.length < 1000 by omega) (size_of (by omega))
  generalize hds : R.map Rg.d = ds at *
  cases hb : (R1.map Rg.d).isEmpty with
  | false =>
    rw [hb] at test'
    refine ⟨R, t', .sh (.str w), .sh (.int n), hR, by omega, bt.1, bt.2, ?_⟩
    unfold b1_law
    rw [htst, hds]
    iterate 12 (walk_at "den"; try simp only [m1, m2, m3, iw, pw, k1, k2, ← ht', test'])
  | true =>
    rw [hb] at test'
    refine ⟨R ++ [⟨w, t', c % 7, n⟩], t', .sh (.str w), .sh (.int n), fun r hr => ?_, by rw [List.length_append]; simp, bt.1, bt.2, ?_⟩
    · rcases List.mem_append.mp hr with h | h
      · exact hR r h
      · simp only [List.mem_cons, List.not_mem_nil, or_false] at h
        subst h
        exact ⟨hw, by show 0 ≤ t' ∧ t' ≤ 1000000000; omega, zn⟩
    unfold b1_law
    rw [htst, List.map_append, hds]
    iterate 12 (walk_at "den"; try simp only [m1, m2, m3, iw, pw, k1, k2, ← ht', test'])
    exact app_nx rfl (by iterate 9 (walk_at "den"; try simp only [if_pos l4])) la
end
end W41
namespace W41
open PySem L2 P2 WP TM PySem.NumText
local macro_rules | `(tactic| walk_at "den") => `(tactic| try simp (disch := first | assumption | decide | exact Nat.le_of_ble_eq_true rfl) only [q_bind_k, q_bind_x, q_bind_b, q_toS_k, q_toS_x, q_toS_b, q_seq_n, q_seq_r, q_seq_x, q_seq_b, q_turn_n, q_turn_c, q_turn_k, q_turn_r, q_turn_b, q_turn_x, q_fin_r, q_fin_n, q_fin_x, q_noEx_k, q_okO_k, q_ofO_s, q_sSeq_a, q_sNil_a, q_sRet_a, q_sExpr_a, q_sSet_a, q_sIf_a, q_dC_a, q_d1_a, q_d2_a, q_b1B_a, q_b1T_a, q_bAnd_a, q_bOr_a, q_bNot_a, q_dAnd_a, q_dOr_a, q_dOrV_a, q_dNot_a, q_dIf_a, q_dA_a, q_aNil_a, q_aCons_a, q_asN_a, q_dMt_a, q_dSl_a, q_dComp_a, q_sFor_a, q_sOwn_a, q_sPar_a, q_app3, q_app4, q_frz3, q_frz4, q_min_i, q_rng1_p, q_toO_s, q_gV_a, q_tB_b, q_tT_b, q_tT_i, q_tT_n, q_tT_l, q_tT_t, q_add_i, q_sub_i, q_fdiv_p, q_mod_p, q_lt_i, q_le_i, q_gt_i, q_ge_i, q_neg_i, q_eq_i, q_eq_s, q_eq_b, q_ne_i, q_ne_s, q_in_s, q_ix_l, q_ix_t, q_ix_s, q_sl_l, q_sl_s, q_pI_i, q_len_s, q_len_l, q_len_t, q_abs_i, q_max_i, q_int_s, q_all_l, q_any_l, q_st_s, q_zf_s, q_hs_s, q_fit_p, q_add_sp, q_add_lp, q_mkT_p, q_asI_l, q_asI_t, q_asI_s, q_fmt_s, q_jNil_a, q_jCons_k, q_isX_i, q_isX_b, q_isX_s, q_isX_t, q_isX_l, q_slW_l, q_slW_s, q_is_bb, q_isn_bb, q_is_nn, q_isn_nn, q_is_tn, q_isn_tn, q_v0, q_v1, q_v2, q_v3, q_v4, q_v5, q_v6, q_v7, q_v8, q_v9, q_v10, q_v11, q_v12, q_v13, startD, List.map_cons, List.map_nil, List.length_cons, List.length_nil, Nat.sub_self, Nat.reduceAdd, Nat.reduceSub, List.replicate_zero, List.replicate_succ, List.append_nil, List.nil_append, List.cons_append, List.set_cons_zero, List.set_cons_succ, if_true, if_false, Nat.reduceLT, Nat.zero_lt_succ, Bool.not_true, Bool.not_false, Bool.false_eq_true, reduceIte, decide_true, decide_false, Int.reduceLT, Int.reduceEq, Int.reduceNeg, Int.reducePow, Int.reduceSub, Int.reduceAdd, Int.reduceMul,  List.length_set])
variable {a : Ad}
theorem go4 {f : Ev → P2.R D} {i j k l : Nat} {ρ : Ev} {x y z w : D} (h : f ρ = .ok (.tup [x, y, z, w])) (hi : i < ρ.length) (hj : j < ρ.length) (hk : k < ρ.length) (hl : l < ρ.length) : sGo f (gT 4 (gC (gV i) (gC (gV j) (gC (gV k) (gC (gV l) gN))))) ρ = .nx ((((ρ.set i (.sh x)).set j (.sh y)).set k (.sh z)).set l (.sh w)) := by
  show toS (f ρ) (fun d => toO (gT 4 (gC (gV i) (gC (gV j) (gC (gV k) (gC (gV l) gN)))) d ρ) .nx) = _
  rw [h, q_toS_k]
  show toO ((gV i x ρ).bind fun ρ1 => (gV j y ρ1).bind fun ρ2 => (gV k z ρ2).bind fun ρ3 => (gV l w ρ3).bind fun ρ4 => some ρ4) .nx = _
  have e : ∀ (i : Nat) (x : D) (ρ : Ev), i < ρ.length → gV i x ρ = some (ρ.set i (.sh x)) := fun i x ρ h => by unfold gV; rw [if_pos h]
  rw [e i x ρ hi, Option.bind_some, e j y _ (by simpa using hj), Option.bind_some, e k z _ (by simpa using hk), Option.bind_some, e l w _ (by simpa using hl)]
  rfl
section
variable {Fc Fw Fu Fk Fm Fr Fn Fo Fl : List D → P2.R D} (H : Fz a Fc Fw Fu Fk Fm Fr Fn Fo Fl)
include H
theorem loop_1 {w0 w1 w2 : Str} (h0 : PyData.strOk w0 = true) (h1 : PyData.strOk w1 = true) (h2 : PyData.strOk w2 = true) (s0 s2 s3 s4 s5 s11 s12 s13 s14 s15 s16 s17 s18 s19 : Sl) : ∀ (cs : List Int) (R : List Rg) (t : Int) (s8 s9 s10 : Sl), (∀ r ∈ R, r.Ok) → R.length + cs.length ≤ 900 → 0 ≤ t → t + 2 * cs.length ≤ 999999900 →
    ∃ (R' : List Rg) (t' : Int) (u8 u9 u10 : Sl), (∀ r ∈ R', r.Ok) ∧ R'.length ≤ R.length + cs.length ∧ forD (gV 8) (b1_law a Fc Fw Fu Fk Fm Fr Fn Fo Fl) (cs.map D.int) [s0, .sh (.lst [.str w0, .str w1, .str w2]), s2, s3, s4, s5, .ow (R.map Rg.d), .sh (.int t), s8, s9, s10, s11, s12, s13, s14, s15, s16, s17, s18, s19] = .nx [s0, .sh (.lst [.str w0, .str w1, .str w2]), s2, s3, s4, s5, .ow (R'.map Rg.d), .sh (.int t'), u8, u9, u10, s11, s12, s13, s14, s15, s16, s17, s18, s19]
  | [], R, t, s8, s9, s10, hR, _, _, _ => ⟨R, t, s8, s9, s10, hR, by simp, rfl⟩
  | c :: cs, R, t, s8, s9, s10, hR, hl, g1, g2 => by
    rw [List.length_cons] at hl g2
    obtain ⟨R1, t1, v9, v10, b1, b2, b3, b4, b5⟩ := body_1 H hR (by omega) h0 h1 h2 t c (by omega) s0 s2 s3 s4 s5 s9 s10 s11 s12 s13 s14 s15 s16 s17 s18 s19
    obtain ⟨R2, t2, u8, u9, u10, c1, c2, c3⟩ := loop_1 h0 h1 h2 s0 s2 s3 s4 s5 s11 s12 s13 s14 s15 s16 s17 s18 s19 cs R1 t1 (.sh (.int c)) v9 v10 b1 (by omega) (by omega) (by omega)
    refine ⟨R2, t2, u8, u9, u10, c1, by rw [List.length_cons]; omega, ?_⟩
    rw [List.map_cons, q_forD_c]
    have eg : gV 8 (.int c) [s0, .sh (.lst [.str w0, .str w1, .str w2]), s2, s3, s4, s5, .ow (R.map Rg.d), .sh (.int t), s8, s9, s10, s11, s12, s13, s14, s15, s16, s17, s18, s19] = some [s0, .sh (.lst [.str w0, .str w1, .str w2]), s2, s3, s4, s5, .ow (R.map Rg.d), .sh (.int t), .sh (.int c), s9, s10, s11, s12, s13, s14, s15, s16, s17, s18, s19] := rfl
    rw [eg]
    show turnT (b1_law a Fc Fw Fu Fk Fm Fr Fn Fo Fl _) _ = _
    rw [b5, q_turn_n]
    exact c3
theorem body_2 {S : List Rg} (hS : ∀ r ∈ S, r.Ok) {L : List Ut} (hL : ∀ c ∈ L, c.Ok) {C : List Ck} (hC : ∀ c ∈ C, c.Ok) (hV : Uniq C) {k : Nat} (hk : k < S.length) (s0 s1 s2 s3 s7 s8 s9 s10 s11 s12 s15 s16 s17 s18 s19 : Sl) :
    ∃ u7 u10 u15 u16 u17 u18 u19, b2_law a Fc Fw Fu Fk Fm Fr Fn Fo Fl [s0, s1, s2, s3, .sh (.lst (L.map Ut.d)), .sh (.lst (C.map Ck.d)), .sh (.lst (S.map Rg.d)), s7, s8, s9, s10, s11, s12, .sh (.lst (S.map (rowD L C))), .sh (.int k), s15, s16, s17, s18, s19] = .nx [s0, s1, s2, s3, .sh (.lst (L.map Ut.d)), .sh (.lst (C.map Ck.d)), .sh (.lst (S.map Rg.d)), u7, s8, s9, u10, s11, s12, .sh (.lst (S.map (rowD L C))), .sh (.int k), u15, u16, u17, u18, u19] := by
  obtain ⟨r, hr⟩ : ∃ r, r = S[k] := ⟨_, rfl⟩
  have rm : r.Ok := hS r (by rw [hr]; exact List.getElem_mem hk)
  have a1 : L2.atI (S.map Rg.d) (k : Int) = some r.d := atI_nat (by rw [List.getElem?_map, List.getElem?_eq_getElem hk, ← hr]; rfl)
  have a2 : L2.atI (S.map (rowD L C)) (k : Int) = some (.tup [.str r.m, .int r.t, rowV L C r]) := atI_nat (by rw [List.getElem?_map, List.getElem?_eq_getElem hk, ← hr]; rfl)
  have h1 := H.n L r hL rm
  have h2 := H.o C r.m r.t hC hV rm.t
  obtain ⟨lowO, zo1, zo2⟩ := off_low hC r.m (t := r.t) rm.t
  obtain ⟨zT, zU, pU⟩ := row_sz hL rm
  have x1 : isXD a.isx [.tup [.str r.m, .int r.t, rowV L C r], .ty "tuple"] = .ok (.bl true) := rfl
  have x2 : isXD a.isx [rowV L C r, .ty "tuple"] = .ok (.bl true) := rfl
  have ne : neDD (.tup [.str r.m, .int r.t, rowV L C r]) (.tup [.str r.m, .int r.t, rowV L C r]) = .ok (.bl false) := ne_self (by show (PyData.strOk r.m && (true && (okQs [.int _, .int _] && true))) = true; rw [rm.m]; rfl) (by show (max 0 (max 0 (max (max 0 (max 0 0) + 1) 0))) + 1 ≤ 60; decide)
  have hV' : rowV L C r = fr (rowT L r * (offP C r.m r.t).2 - (offP C r.m r.t).1 * rowU L r) (rowU L r * (offP C r.m r.t).2) := rfl
  generalize hgs : S.map (rowD L C) = gs at *
  generalize rowV L C r = V at *
  generalize rowT L r = T at *
  generalize rowU L r = U at *
  generalize (offP C r.m r.t).1 = o1 at *
  generalize (offP C r.m r.t).2 = o2 at *
  have o0 := lowO.pos
  have m1 := q_mulS (zT.mono (by decide)) (zo2.mono (by decide))
  have m2 := q_mulS (zo1.mono (by decide)) (zU.mono (by decide))
  have m3 := q_mulS (zU.mono (by decide)) (zo2.mono (by decide))
  have f := H.l (T * o2 - o1 * U) (U * o2) (Int.mul_pos pU o0) ((zU.mul zo2).mono (by decide))
  rw [← hV'] at f
  have i0 : L2.atI [D.int T, D.int U] 0 = some (.int T) := rfl
  have i1 : L2.atI [D.int T, D.int U] 1 = some (.int U) := rfl
  have j0 : L2.atI [D.int o1, D.int o2] 0 = some (.int o1) := rfl
  have j1 : L2.atI [D.int o1, D.int o2] 1 = some (.int o2) := rfl
  have k2 : L2.atI [D.str r.m, .int r.t, V] 2 = some V := rfl
  have l3 : 3 ≤ sizeLine := by decide
  generalize L.map Ut.d = ds at *
  generalize C.map Ck.d = es at *
  generalize S.map Rg.d = fs at *
  refine ⟨.sh (.int r.t), .sh (.int r.n), .sh (.str r.m), .sh (.int r.u), .sh (pr T U), .sh (pr o1 o2), .sh V, ?_⟩
  unfold b2_law
  rw [q_sSeq_a, go4 (x := .str r.m) (y := .int r.t) (z := .int r.u) (w := .int r.n) (by iterate 3 (walk_at "den"; try simp only [q_v14, a1])) (by show 15 < 20; decide) (by show 7 < 20; decide) (by show 16 < 20; decide) (by show 10 < 20; decide), q_seq_n]
  show sSeq _ _ [s0, s1, s2, s3, .sh (.lst ds), .sh (.lst es), .sh (.lst fs), .sh (.int r.t), s8, s9, .sh (.int r.n), s11, s12, .sh (.lst gs), .sh (.int k), .sh (.str r.m), .sh (.int r.u), s17, s18, s19] = _
  rw [q_sSeq_a, set_nx (d := pr T U) (by iterate 4 (walk_at "den"; try simp only [q_v15, h1])) (by show 17 < 20; decide), q_seq_n]
  show sSeq _ _ [s0, s1, s2, s3, .sh (.lst ds), .sh (.lst es), .sh (.lst fs), .sh (.int r.t), s8, s9, .sh (.int r.n), s11, s12, .sh (.lst gs), .sh (.int k), .sh (.str r.m), .sh (.int r.u), .sh (pr T U), s18, s19] = _
  rw [q_sSeq_a, set_nx (d := pr o1 o2) (by iterate 4 (walk_at "den"; try simp only [q_v15, h2])) (by show 18 < 20; decide), q_seq_n]
  show sSeq _ _ [s0, s1, s2, s3, .sh (.lst ds), .sh (.lst es), .sh (.lst fs), .sh (.int r.t), s8, s9, .sh (.int r.n), s11, s12, .sh (.lst gs), .sh (.int k), .sh (.str r.m), .sh (.int r.u), .sh (pr T U), .sh (pr o1 o2), s19] = _
  rw [q_sSeq_a, set_nx (d := V) (by iterate 7 (walk_at "den"; try simp only [q_v17, q_v18, i0, i1, j0, j1, m1, m2, m3, f])) (by show 19 < 20; decide), q_seq_n]
  show sIf _ _ _ [s0, s1, s2, s3, .sh (.lst ds), .sh (.lst es), .sh (.lst fs), .sh (.int r.t), s8, s9, .sh (.int r.n), s11, s12, .sh (.lst gs), .sh (.int k), .sh (.str r.m), .sh (.int r.u), .sh (pr T U), .sh (pr o1 o2), .sh V] = _
  iterate 9 (walk_at "den"; try simp only [q_v14, q_v15, q_v19, a2, x1, x2, k2, if_pos l3, ne])
theorem loop_2 {S : List Rg} (hS : ∀ r ∈ S, r.Ok) {L : List Ut} (hL : ∀ c ∈ L, c.Ok) {C : List Ck} (hC : ∀ c ∈ C, c.Ok) (hV : Uniq C) (s0 s1 s2 s3 s8 s9 s11 s12 : Sl) : ∀ (ks : List Nat) (s7 s10 s14 s15 s16 s17 s18 s19 : Sl), (∀ k ∈ ks, k < S.length) →
    ∃ u7 u10 u14 u15 u16 u17 u18 u19, forD (gV 14) (b2_law a Fc Fw Fu Fk Fm Fr Fn Fo Fl) (ks.map fun (k : Nat) => D.int (0 + (k : Int))) [s0, s1, s2, s3, .sh (.lst (L.map Ut.d)), .sh (.lst (C.map Ck.d)), .sh (.lst (S.map Rg.d)), s7, s8, s9, s10, s11, s12, .sh (.lst (S.map (rowD L C))), s14, s15, s16, s17, s18, s19] = .nx [s0, s1, s2, s3, .sh (.lst (L.map Ut.d)), .sh (.lst (C.map Ck.d)), .sh (.lst (S.map Rg.d)), u7, s8, s9, u10, s11, s12, .sh (.lst (S.map (rowD L C))), u14, u15, u16, u17, u18, u19]
  | [], s7, s10, s14, s15, s16, s17, s18, s19, _ => ⟨_, _, _, _, _, _, _, _, rfl⟩
  | k :: ks, s7, s10, s14, s15, s16, s17, s18, s19, h => by
    obtain ⟨v7, v10, v15, v16, v17, v18, v19, e⟩ := body_2 H hS hL hC hV (h k (.head _)) s0 s1 s2 s3 s7 s8 s9 s10 s11 s12 s15 s16 s17 s18 s19
    obtain ⟨u7, u10, u14, u15, u16, u17, u18, u19, e2⟩ := loop_2 hS hL hC hV s0 s1 s2 s3 s8 s9 s11 s12 ks v7 v10 (.sh (.int k)) v15 v16 v17 v18 v19 fun j hj => h j (.tail _ hj)
    refine ⟨u7, u10, u14, u15, u16, u17, u18, u19, ?_⟩
    rw [List.map_cons, Int.zero_add, q_forD_c]
    have eg : gV 14 (.int (k : Int)) [s0, s1, s2, s3, .sh (.lst (L.map Ut.d)), .sh (.lst (C.map Ck.d)), .sh (.lst (S.map Rg.d)), s7, s8, s9, s10, s11, s12, .sh (.lst (S.map (rowD L C))), s14, s15, s16, s17, s18, s19] = some [s0, s1, s2, s3, .sh (.lst (L.map Ut.d)), .sh (.lst (C.map Ck.d)), .sh (.lst (S.map Rg.d)), s7, s8, s9, s10, s11, s12, .sh (.lst (S.map (rowD L C))), .sh (.int (k : Int)), s15, s16, s17, s18, s19] := rfl
    rw [eg]
    show turnT (b2_law a Fc Fw Fu Fk Fm Fr Fn Fo Fl _) _ = _
    rw [e, q_turn_n]
    exact e2
end
end W41
namespace W41
open PySem L2 P2 WP TM PySem.NumText
local macro_rules | `(tactic| walk_at "den") => `(tactic| try simp (disch := first | assumption | decide | exact Nat.le_of_ble_eq_true rfl) only [q_bind_k, q_bind_x, q_bind_b, q_toS_k, q_toS_x, q_toS_b, q_seq_n, q_seq_r, q_seq_x, q_seq_b, q_turn_n, q_turn_c, q_turn_k, q_turn_r, q_turn_b, q_turn_x, q_fin_r, q_fin_n, q_fin_x, q_noEx_k, q_okO_k, q_ofO_s, q_sSeq_a, q_sNil_a, q_sRet_a, q_sExpr_a, q_sSet_a, q_sIf_a, q_dC_a, q_d1_a, q_d2_a, q_b1B_a, q_b1T_a, q_bAnd_a, q_bOr_a, q_bNot_a, q_dAnd_a, q_dOr_a, q_dOrV_a, q_dNot_a, q_dIf_a, q_dA_a, q_aNil_a, q_aCons_a, q_asN_a, q_dMt_a, q_dSl_a, q_dComp_a, q_sFor_a, q_sOwn_a, q_sPar_a, q_app3, q_app4, q_frz3, q_frz4, q_min_i, q_rng1_p, q_toO_s, q_gV_a, q_tB_b, q_tT_b, q_tT_i, q_tT_n, q_tT_l, q_tT_t, q_add_i, q_sub_i, q_fdiv_p, q_mod_p, q_lt_i, q_le_i, q_gt_i, q_ge_i, q_neg_i, q_eq_i, q_eq_s, q_eq_b, q_ne_i, q_ne_s, q_in_s, q_ix_l, q_ix_t, q_ix_s, q_sl_l, q_sl_s, q_pI_i, q_len_s, q_len_l, q_len_t, q_abs_i, q_max_i, q_int_s, q_all_l, q_any_l, q_st_s, q_zf_s, q_hs_s, q_fit_p, q_add_sp, q_add_lp, q_mkT_p, q_asI_l, q_asI_t, q_asI_s, q_fmt_s, q_jNil_a, q_jCons_k, q_isX_i, q_isX_b, q_isX_s, q_isX_t, q_isX_l, q_slW_l, q_slW_s, q_is_bb, q_isn_bb, q_is_nn, q_isn_nn, q_is_tn, q_isn_tn, q_v0, q_v1, q_v2, q_v3, q_v4, q_v5, q_v6, q_v7, q_v8, q_v9, q_v10, q_v11, q_v12, q_v13, startD, List.map_cons, List.map_nil, List.length_cons, List.length_nil, Nat.sub_self, Nat.reduceAdd, Nat.reduceSub, List.replicate_zero, List.replicate_succ, List.append_nil, List.nil_append, List.cons_append, List.set_cons_zero, List.set_cons_succ, if_true, if_false, Nat.reduceLT, Nat.zero_lt_succ, Bool.not_true, Bool.not_false, Bool.false_eq_true, reduceIte, decide_true, decide_false, Int.reduceLT, Int.reduceEq, Int.reduceNeg, Int.reducePow, Int.reduceSub, Int.reduceAdd, Int.reduceMul,  List.length_set])
variable {a : Ad}
theorem st_step {i : Nat} {f : Ev → P2.R D} {ρ : Ev} {d : D} (h : f ρ = .ok d) (hi : i < ρ.length) : sSet i f ρ = .nx (ρ.set i (.sh d)) := by
  rw [q_sSet_a, h, q_toS_k]
  exact if_pos hi
theorem fr_in {A : Ev → P2.R (List D)} {ga : D → Ev → Option Ev} {bb : Ev → RT} {ρ ρ' : Ev} {xs : List D} (h : A ρ = .ok xs) (e : forD ga bb xs ρ = .nx ρ') : sFor A ga bb ρ = .nx ρ' := by
  rw [q_sFor_a, h, q_toS_k]
  exact e
theorem ow_step {i : Nat} {f : Ev → P2.R (List D)} {ρ : Ev} {ds : List D} (h : f ρ = .ok ds) (hi : i < ρ.length) : sOwn i f ρ = .nx (ρ.set i (.ow ds)) := by
  show toS (f ρ) _ = _
  rw [h, q_toS_k]
  exact if_pos hi
theorem lr1 {i : Nat} {ds : List D} {ρ : Ev} (v : dV i ρ = .ok (.lst ds)) : (aCons (dV i) aNil) ρ = .ok [.lst ds] := by
  show (dV i ρ).bind (fun x => (aNil ρ).bind fun xs => .ok (x :: xs)) = _
  rw [v]; rfl
theorem lr2 {i : Nat} {ds : List D} {ρ : Ev} (v : dV i ρ = .ok (.lst ds)) : (dA lenD (aCons (dV i) aNil)) ρ = .ok (.int (ds.length : Int)) := by
  show ((aCons (dV i) aNil) ρ).bind lenD = _
  rw [lr1 v]; rfl
theorem len_rng {i : Nat} {ds : List D} {ρ : Ev} {out : List D} {rr : List D → P2.R (List D)} (v : dV i ρ = .ok (.lst ds)) (rn : rr [.int (ds.length : Int)] = .ok out) : (fun ρ => ((aCons (dA lenD (aCons (dV i) aNil)) aNil) ρ).bind rr) ρ = .ok out := by
  show (((dA lenD (aCons (dV i) aNil)) ρ).bind fun x => (aNil ρ).bind fun xs => P2.R.ok (x :: xs)).bind rr = _
  rw [lr2 v]
  exact rn
theorem nil_fit {ρ : Ev} : (fun ρ => (aNil ρ).bind fitL) ρ = .ok [] := by
  show fitL [] = _
  unfold fitL
  exact if_pos (Nat.zero_le _)
theorem q_listD {ds : List D} : listD [.lst ds] = .ok (.lst ds) := rfl
theorem q_fit3 {x y z : D} : fitL [x, y, z] = .ok [x, y, z] := by
  unfold fitL
  exact if_pos (show 3 ≤ sizeLine by decide)
theorem ck_ok {c : Ck} (h : c.Ok) : okQ c.d = true := by
  show (PyData.strOk c.m && (true && ((true && (true && true)) && true))) = true
  rw [h.s]; rfl
theorem ut_ok {c : Ut} (h : c.Ok) : okQ c.d = true := by
  show (PyData.strOk c.m && (true && ((true && (true && true)) && ((true && (true && true)) && true)))) = true
  rw [h.o]; rfl
theorem ck_dep (c : Ck) : dpQ c.d ≤ 2 := by show (max 0 (max 0 (max (max 0 (max 0 0) + 1) 0))) + 1 ≤ 2; decide
theorem ut_dep (c : Ut) : dpQ c.d ≤ 2 := by show (max 0 (max 0 (max (max 0 (max 0 0) + 1) (max (max 0 (max 0 0) + 1) 0)))) + 1 ≤ 2; decide
theorem ordered (R : List Rg) (hl : R.length < 64) : ∃ S : List Rg, S.Perm R ∧ ∀ ρ : Ev, ρ[6]? = some (.sh (.lst (R.map Rg.d))) →
    (asN (fun ρ => ((asN (dComp (fun ρ => ((dV 6) ρ).bind asI) 1 [] (gV 0) (fun _ => .ok true) (dA mkT (aCons (d2 ixD (dV 0) (dC (.int 1))) (aCons (d2 ixD (dV 0) (dC (.int 0))) (aCons (d2 ixD (dV 0) (dC (.int 2))) (aCons (d2 ixD (dV 0) (dC (.int 3))) aNil))))))) ρ).bind sortQ)) ρ = .ok (.lst (S.map Rg.o)) := by
  obtain ⟨S, hp, hs⟩ := sorted_o R
  refine ⟨S, hp, fun ρ e6 => ?_⟩
  have v6 : dV 6 ρ = .ok (.lst (R.map Rg.d)) := by unfold dV; rw [e6]
  have sz : (R.map Rg.d).length ≤ sizeLine := by rw [List.length_map]; exact size_of (by omega)
  have cm : compO (gV 0) (fun _ => .ok true) (dA mkT (aCons (d2 ixD (dV 0) (dC (.int 1))) (aCons (d2 ixD (dV 0) (dC (.int 0))) (aCons (d2 ixD (dV 0) (dC (.int 2))) (aCons (d2 ixD (dV 0) (dC (.int 3))) aNil))))) (capD 1 [] ρ) (R.map Rg.d) = some (R.map Rg.o) :=
    comp_mp Rg.d Rg.o (fun r => [.sh r.d]) R fun r hr => ⟨rfl, by
      have i0 : L2.atI [D.str r.m, .int r.t, .int r.u, .int r.n] 0 = some (.str r.m) := rfl
      have i1 : L2.atI [D.str r.m, .int r.t, .int r.u, .int r.n] 1 = some (.int r.t) := rfl
      have i2 : L2.atI [D.str r.m, .int r.t, .int r.u, .int r.n] 2 = some (.int r.u) := rfl
      have i3 : L2.atI [D.str r.m, .int r.t, .int r.u, .int r.n] 3 = some (.int r.n) := rfl
      have l4 : 4 ≤ sizeLine := by decide
      iterate 6 (walk_at "den"; try simp only [i0, i1, i2, i3, if_pos l4])⟩
  have so : sortQ (.lst (R.map Rg.o)) = .ok (S.map Rg.o) := by
    show (if homQ (R.map Rg.o) = true ∧ (R.map Rg.o).length < 64 then P2.R.ok (sortQL (R.map Rg.o)) else .bad) = _
    rw [if_pos ⟨hom_o R, by rw [List.length_map]; exact hl⟩, hs]
  generalize (dA mkT (aCons (d2 ixD (dV 0) (dC (.int 1))) (aCons (d2 ixD (dV 0) (dC (.int 0))) (aCons (d2 ixD (dV 0) (dC (.int 2))) (aCons (d2 ixD (dV 0) (dC (.int 3))) aNil))))) = fe at *
  show ((((((dV 6 ρ).bind asI).bind fun ds => if ds.length ≤ sizeLine then ofO (compO (gV 0) (fun _ => .ok true) fe (capD 1 [] ρ) ds) else .bad).bind fun ds => P2.R.ok (D.lst ds)).bind sortQ).bind fun ds => P2.R.ok (D.lst ds)) = _
  rw [v6, P2.R.bind_ok, q_asI_l, P2.R.bind_ok, if_pos sz, cm]
  show ((sortQ (.lst (R.map Rg.o))).bind fun ds => P2.R.ok (D.lst ds)) = _
  rw [so]
  rfl
theorem back_ones (S : List Rg) (hl : S.length ≤ 900) (ρ : Ev) (e11 : ρ[11]? = some (.sh (.lst (S.map Rg.o)))) :
    (dComp (fun ρ => ((dV 11) ρ).bind asI) 4 [] (gT 4 (gC (gV 0) (gC (gV 1) (gC (gV 2) (gC (gV 3) gN))))) (fun _ => .ok true) (dA mkT (aCons (dV 1) (aCons (dV 0) (aCons (dV 2) (aCons (dV 3) aNil)))))) ρ = .ok (S.map Rg.d) := by
  have v11 : dV 11 ρ = .ok (.lst (S.map Rg.o)) := by unfold dV; rw [e11]
  have sz : (S.map Rg.o).length ≤ sizeLine := by rw [List.length_map]; exact size_of (by omega)
  have cm : compO (gT 4 (gC (gV 0) (gC (gV 1) (gC (gV 2) (gC (gV 3) gN))))) (fun _ => .ok true) (dA mkT (aCons (dV 1) (aCons (dV 0) (aCons (dV 2) (aCons (dV 3) aNil))))) (capD 4 [] ρ) (S.map Rg.o) = some (S.map Rg.d) :=
    comp_mp Rg.o Rg.d (fun r => [.sh (.int r.t), .sh (.str r.m), .sh (.int r.u), .sh (.int r.n)]) S fun r hr => ⟨rfl, by
      have l4 : 4 ≤ sizeLine := by decide
      iterate 6 (walk_at "den"; try simp only [if_pos l4])⟩
  generalize (dA mkT (aCons (dV 1) (aCons (dV 0) (aCons (dV 2) (aCons (dV 3) aNil))))) = fe at *
  show (((dV 11 ρ).bind asI).bind fun ds => if ds.length ≤ sizeLine then ofO (compO (gT 4 (gC (gV 0) (gC (gV 1) (gC (gV 2) (gC (gV 3) gN))))) (fun _ => .ok true) fe (capD 4 [] ρ) ds) else .bad) = _
  rw [v11, P2.R.bind_ok, q_asI_l, P2.R.bind_ok, if_pos sz, cm]
  rfl
theorem m_law {Fc Fw Fu Fk Fm Fr Fn Fo Fl : List D → P2.R D} (H : Fz a Fc Fw Fu Fk Fm Fr Fn Fo Fl) (ns : List Int) (hn : ns.length ≤ 63) :
    finT (g_law a Fc Fw Fu Fk Fm Fr Fn Fo Fl (startD 20 [.lst (ns.map .int)])) = .ok (.bl true) := by
  have c0 : Fc [.lst (ns.map .int), .int 0] = .ok (.int (ns.getD 0 0)) := H.c ns 0
  have c1 : Fc [.lst (ns.map .int), .int 1] = .ok (.int (ns.getD 1 0)) := H.c ns 1
  generalize ns.getD 0 0 = x0 at c0
  generalize ns.getD 1 0 = x1 at c1
  obtain ⟨w0, w1, w2, a0, a1, a2, cw⟩ := words c0 H.w
  have cw := cw [.sh (.lst (ns.map .int)), .no, .no, .no, .no, .no, .no, .no, .no, .no, .no, .no, .no, .no, .no, .no, .no, .no, .no, .no] rfl
  have pw : powD (.int 10) (.int 9) = .ok (.int 1000000000) := rfl
  have pw6 : powD (.int 10) (.int 6) = .ok (.int 1000000) := rfl
  have near : 0 ≤ x1 % 999000000 ∧ x1 % 999000000 < 999000000 := by omega
  obtain ⟨nr, hnr⟩ : ∃ nr, nr = x1 % 999000000 := ⟨_, rfl⟩
  rw [← hnr] at near
  have hws : ∀ w ∈ [w0, w1, w2], PyData.strOk w = true := fun w hw => by
    simp only [List.mem_cons, List.not_mem_nil, or_false] at hw
    rcases hw with h | h | h
    · rw [h]; exact a0
    · rw [h]; exact a1
    · rw [h]; exact a2
  obtain ⟨cells, hc1, hc2⟩ := cut_ints ns (some 2) (some 32)
  obtain ⟨few, hf1, hf2⟩ := cut_ints cells none (some 12)
  obtain ⟨L, hL, hU, _, hl, ek⟩ := H.u [w0, w1, w2] nr few rfl hws (by omega) (by omega)
  have ek' : Fu [.lst (few.map .int), .lst [.str w0, .str w1, .str w2], .int nr] = .ok (.lst (L.map Ut.d)) := ek
  obtain ⟨C, hC, hV, _, hcl, ec⟩ := H.k [w0, w1, w2] nr few rfl hws (by omega) (by omega)
  have ec' : Fk [.lst (few.map .int), .lst [.str w0, .str w1, .str w2], .int nr] = .ok (.lst (C.map Ck.d)) := ec
  obtain ⟨R, t', u8, u9, u10, hR, hRl, e1⟩ := loop_1 H a0 a1 a2 (.sh (.lst (ns.map .int))) (.sh (.int nr)) (.sh (.lst (cells.map D.int))) (.sh (.lst (L.map Ut.d))) (.sh (.lst (C.map Ck.d))) .no .no .no .no .no .no .no .no .no cells [] nr .no .no .no (fun r hr => by simp at hr) (by simp; omega) near.1 (by omega)
  rw [List.length_nil, Nat.zero_add] at hRl
  obtain ⟨S, hp, od⟩ := ordered R (by omega)
  have hS : ∀ r ∈ S, r.Ok := fun r hr => hR r (hp.mem_iff.mp hr)
  have hSl : S.length ≤ 63 := by rw [hp.length_eq]; omega
  have er := H.r S L C hS hL hC (by omega) (by omega) (by omega)
  obtain ⟨v7, v10, v14, v15, v16, v17, v18, v19, e2⟩ := loop_2 H hS hL hC hV (.sh (.lst (ns.map .int))) (.sh (.lst [.str w0, .str w1, .str w2])) (.sh (.int nr)) (.sh (.lst (cells.map D.int))) u8 u9 (.sh (.lst (S.map Rg.o))) (.sh (.lst [.lst (S.map Rg.d), .lst (L.map Ut.d), .lst (C.map Ck.d)])) (List.range S.length) (.sh (.int t')) u10 .no .no .no .no .no .no (fun k hk => List.mem_range.mp hk)
  have ne : neDD (.lst [.lst (S.map Rg.d), .lst (L.map Ut.d), .lst (C.map Ck.d)]) (.lst [.lst (S.map Rg.d), .lst (L.map Ut.d), .lst (C.map Ck.d)]) = .ok (.bl false) := by
    refine ne_self ?_ ?_
    · show (okQs (S.map Rg.d) && (okQs (L.map Ut.d) && (okQs (C.map Ck.d) && true))) = true
      rw [okQs_map fun r hr => (hS r hr).d, okQs_map fun c hc => ut_ok (hL c hc), okQs_map fun c hc => ck_ok (hC c hc)]
      rfl
    · have d1 := dpQs_map (f := Rg.d) (l := S) (k := 1) fun r _ => rg_dep r
      have d2 := dpQs_map (f := Ut.d) (l := L) (k := 2) fun r _ => ut_dep r
      have d3 := dpQs_map (f := Ck.d) (l := C) (k := 2) fun r _ => ck_dep r
      show (max (dpQs (S.map Rg.d) + 1) (max (dpQs (L.map Ut.d) + 1) (max (dpQs (C.map Ck.d) + 1) 0))) + 1 ≤ 60
      omega
  have rn : rng1 [.int (S.length : Int)] = .ok ((List.range S.length).map fun (k : Nat) => D.int (0 + (k : Int))) := by rw [q_rng1_p (by omega) (by omega), Int.toNat_natCast]; rfl
  have x1 : isXD a.isx [.lst (S.map (rowD L C)), .ty "list"] = .ok (.bl true) := rfl
  have l1 : (S.map Rg.d).length = S.length := List.length_map ..
  have l2 : (S.map (rowD L C)).length = S.length := List.length_map ..
  have sz3 : 3 ≤ sizeLine := by decide
  have hh0 : L2.atI [D.lst (S.map Rg.d), .lst (L.map Ut.d), .lst (C.map Ck.d)] 0 = some (.lst (S.map Rg.d)) := rfl
  have hh1 : L2.atI [D.lst (S.map Rg.d), .lst (L.map Ut.d), .lst (C.map Ck.d)] 1 = some (.lst (L.map Ut.d)) := rfl
  have hh2 : L2.atI [D.lst (S.map Rg.d), .lst (L.map Ut.d), .lst (C.map Ck.d)] 2 = some (.lst (C.map Ck.d)) := rfl
  show finT (g_law a Fc Fw Fu Fk Fm Fr Fn Fo Fl [.sh (.lst (ns.map .int)), .no, .no, .no, .no, .no, .no, .no, .no, .no, .no, .no, .no, .no, .no, .no, .no, .no, .no, .no]) = _
  unfold g_law
  refine seq_step (st_step cw (by show 1 < 20; decide)) ?_
  refine seq_step (ρ' := [.sh (.lst (ns.map .int)), .sh (.lst [.str w0, .str w1, .str w2]), .sh (.int nr), .no, .no, .no, .no, .no, .no, .no, .no, .no, .no, .no, .no, .no, .no, .no, .no, .no]) (by
    show sSet 2 _ [.sh (.lst (ns.map .int)), .sh (.lst [.str w0, .str w1, .str w2]), .no, .no, .no, .no, .no, .no, .no, .no, .no, .no, .no, .no, .no, .no, .no, .no, .no, .no] = _
    iterate 9 (walk_at "den"; try simp only [c1, pw, pw6, ← hnr])) ?_
  refine seq_step (ρ' := [.sh (.lst (ns.map .int)), .sh (.lst [.str w0, .str w1, .str w2]), .sh (.int nr), .sh (.lst (cells.map D.int)), .no, .no, .no, .no, .no, .no, .no, .no, .no, .no, .no, .no, .no, .no, .no, .no]) (by iterate 9 (walk_at "den"; try simp only [hc2])) ?_
  refine seq_step (ρ' := [.sh (.lst (ns.map .int)), .sh (.lst [.str w0, .str w1, .str w2]), .sh (.int nr), .sh (.lst (cells.map D.int)), .sh (.lst (L.map Ut.d)), .no, .no, .no, .no, .no, .no, .no, .no, .no, .no, .no, .no, .no, .no, .no]) (by iterate 9 (walk_at "den"; try simp only [hf2, ek'])) ?_
  refine seq_step (ρ' := [.sh (.lst (ns.map .int)), .sh (.lst [.str w0, .str w1, .str w2]), .sh (.int nr), .sh (.lst (cells.map D.int)), .sh (.lst (L.map Ut.d)), .sh (.lst (C.map Ck.d)), .no, .no, .no, .no, .no, .no, .no, .no, .no, .no, .no, .no, .no, .no]) (by iterate 9 (walk_at "den"; try simp only [hf2, ec'])) ?_
  refine seq_step (ow_step (ds := []) nil_fit (by show 6 < 20; decide)) ?_
  show finT (sSeq _ _ [.sh (.lst (ns.map .int)), .sh (.lst [.str w0, .str w1, .str w2]), .sh (.int nr), .sh (.lst (cells.map D.int)), .sh (.lst (L.map Ut.d)), .sh (.lst (C.map Ck.d)), .ow [], .no, .no, .no, .no, .no, .no, .no, .no, .no, .no, .no, .no, .no]) = _
  refine seq_step (ρ' := [.sh (.lst (ns.map .int)), .sh (.lst [.str w0, .str w1, .str w2]), .sh (.int nr), .sh (.lst (cells.map D.int)), .sh (.lst (L.map Ut.d)), .sh (.lst (C.map Ck.d)), .ow [], .sh (.int nr), .no, .no, .no, .no, .no, .no, .no, .no, .no, .no, .no, .no]) (by iterate 3 (walk_at "den")) ?_
  refine seq_step (fr_in (xs := cells.map D.int) rfl e1) ?_
  show finT (sSeq _ _ [.sh (.lst (ns.map .int)), .sh (.lst [.str w0, .str w1, .str w2]), .sh (.int nr), .sh (.lst (cells.map D.int)), .sh (.lst (L.map Ut.d)), .sh (.lst (C.map Ck.d)), .sh (.lst (R.map Rg.d)), .sh (.int t'), u8, u9, u10, .no, .no, .no, .no, .no, .no, .no, .no, .no]) = _
  refine seq_step (st_step (od _ rfl) (by show 11 < 20; decide)) ?_
  show finT (sSeq _ _ [.sh (.lst (ns.map .int)), .sh (.lst [.str w0, .str w1, .str w2]), .sh (.int nr), .sh (.lst (cells.map D.int)), .sh (.lst (L.map Ut.d)), .sh (.lst (C.map Ck.d)), .sh (.lst (R.map Rg.d)), .sh (.int t'), u8, u9, u10, .sh (.lst (S.map Rg.o)), .no, .no, .no, .no, .no, .no, .no, .no]) = _
  refine seq_step (ow_step (back_ones S (by omega) _ rfl) (by show 6 < 20; decide)) ?_
  show finT (sSeq _ _ [.sh (.lst (ns.map .int)), .sh (.lst [.str w0, .str w1, .str w2]), .sh (.int nr), .sh (.lst (cells.map D.int)), .sh (.lst (L.map Ut.d)), .sh (.lst (C.map Ck.d)), .sh (.lst (S.map Rg.d)), .sh (.int t'), u8, u9, u10, .sh (.lst (S.map Rg.o)), .no, .no, .no, .no, .no, .no, .no, .no]) = _
  generalize hfs : S.map Rg.d = fs at *
  generalize hgs : S.map (rowD L C) = gs at *
  generalize hos : S.map Rg.o = os at *
  generalize L.map Ut.d = ds at *
  generalize C.map Ck.d = es at *
  refine seq_step (ρ' := [.sh (.lst (ns.map .int)), .sh (.lst [.str w0, .str w1, .str w2]), .sh (.int nr), .sh (.lst (cells.map D.int)), .sh (.lst ds), .sh (.lst es), .sh (.lst fs), .sh (.int t'), u8, u9, u10, .sh (.lst os), .sh (.lst [.lst fs, .lst ds, .lst es]), .no, .no, .no, .no, .no, .no, .no]) (by iterate 9 (walk_at "den"; try simp only [q_listD, q_fit3])) ?_
  refine seq_step (ρ' := [.sh (.lst (ns.map .int)), .sh (.lst [.str w0, .str w1, .str w2]), .sh (.int nr), .sh (.lst (cells.map D.int)), .sh (.lst ds), .sh (.lst es), .sh (.lst fs), .sh (.int t'), u8, u9, u10, .sh (.lst os), .sh (.lst [.lst fs, .lst ds, .lst es]), .sh (.lst gs), .no, .no, .no, .no, .no, .no]) (by iterate 9 (walk_at "den"; try simp only [hh0, hh1, hh2, er])) ?_
  refine seq_step (ρ' := [.sh (.lst (ns.map .int)), .sh (.lst [.str w0, .str w1, .str w2]), .sh (.int nr), .sh (.lst (cells.map D.int)), .sh (.lst ds), .sh (.lst es), .sh (.lst fs), .sh (.int t'), u8, u9, u10, .sh (.lst os), .sh (.lst [.lst fs, .lst ds, .lst es]), .sh (.lst gs), .no, .no, .no, .no, .no, .no]) (by
    iterate 9 (walk_at "den"; try simp only [ne, x1, l1, l2, decide_true])) ?_
  refine seq_step (fr_in (xs := (List.range S.length).map fun (k : Nat) => D.int (0 + (k : Int))) (len_rng (i := 6) (ds := fs) rfl (by rw [l1]; exact rn)) e2) ?_
  rfl
end W41
namespace W41
open PySem L2 P2 WP TM
noncomputable def spLaw (K : PySem.W.Frag) : Sp := fun vs H Q E => ∃ (al : Addr → Prop) (ns : List Int), vs.length = 1 ∧ (∀ a, H a = none → al a) ∧ ns.length ≤ 63 ∧ Reps K al H vs [.lst (ns.map D.int)] ∧ TbOk K H ∧ ∀ H', Same K H H' → Q (.bl true) H'
theorem reps_ints {K : PySem.W.Frag} {al : Addr → Prop} {H : Hp} : ∀ ns : List Int, Reps K al H (ns.map V.int) (ns.map D.int)
  | [] => .nil
  | _ :: ns => .cons (.int _) (reps_ints ns)
theorem spLaw_of {K : PySem.W.Frag} {H : Hp} {a : Addr} {ns : List Int} (hl : ns.length ≤ 63) (tt : TbOk K H) (r : Rep K (fun _ => True) H (.ref a) (.lst (ns.map D.int))) : spLaw K [.ref a] H (fun v _ => v = .bl true) fun _ _ _ => False :=
  ⟨fun _ => True, ns, rfl, fun _ _ => trivial, hl, .cons r .nil, tt, fun _ _ => rfl⟩
noncomputable def isF (K : PySem.W.Frag) (cs : List Addr) (c : Addr) (u : Value) : Option Bool := if c ∈ cs then PySem.W.kitOne K (.ref c) u else none
theorem isF_ok {K : PySem.W.Frag} {cs : List Addr} (h : ∀ c ∈ cs, YCls K c) : IsOk K (isF K cs) := fun c u b e => by
  unfold isF at e
  split at e
  · rename_i z; exact ⟨h c z, e⟩
  · cases e
section
variable (a : Ad)
noncomputable abbrev M_common_divisor : List D → R D := fun ds => finT (g_common_divisor a (startD 3 ds))
noncomputable abbrev M_is_whole : List D → R D := fun ds => finT (g_is_whole a (startD 1 ds))
noncomputable abbrev M_fraction : List D → R D := fun ds => finT (g_fraction a (M_is_whole a) (M_common_divisor a) (startD 3 ds))
noncomputable abbrev M_plus : List D → R D := fun ds => finT (g_plus a (M_fraction a) (startD 2 ds))
noncomputable abbrev M_minus : List D → R D := fun ds => finT (g_minus a (M_fraction a) (startD 2 ds))
noncomputable abbrev M_times : List D → R D := fun ds => finT (g_times a (M_fraction a) (startD 2 ds))
noncomputable abbrev M_share_at : List D → R D := fun ds => finT (g_share_at a (M_fraction a) (startD 3 ds))
noncomputable abbrev M_value_at : List D → R D := fun ds => finT (g_value_at a (M_share_at a) (M_minus a) (M_times a) (M_plus a) (startD 4 ds))
noncomputable abbrev M_time_of : List D → R D := fun ds => finT (g_time_of a (startD 1 ds))
noncomputable abbrev M_off_at : List D → R D := fun ds => finT (g_off_at a (M_fraction a) (M_time_of a) (M_value_at a) (startD 6 ds))
noncomputable abbrev M_put_right : List D → R D := fun ds => finT (g_put_right a (M_off_at a) (M_minus a) (startD 4 ds))
noncomputable abbrev M_counting_unit : List D → R D := fun ds => finT (g_counting_unit a (startD 5 ds))
noncomputable abbrev M_meaning : List D → R D := fun ds => finT (g_meaning a (M_counting_unit a) (M_fraction a) (M_times a) (M_plus a) (startD 3 ds))
noncomputable abbrev M_row_reading : List D → R D := fun ds => finT (g_row_reading a (M_meaning a) (M_put_right a) (startD 5 ds))
noncomputable abbrev M_row_of : List D → R D := fun ds => finT (g_row_of a (M_row_reading a) (startD 3 ds))
noncomputable abbrev M_law_cell_at : List D → R D := fun ds => finT (g_law_cell_at a (startD 2 ds))
noncomputable abbrev M_law_mixed : List D → R D := fun ds => finT (g_law_mixed a (startD 3 ds))
noncomputable abbrev M_law_low : List D → R D := fun ds => finT (g_law_low a (startD 4 ds))
noncomputable abbrev M_law_word : List D → R D := fun ds => finT (g_law_word a (startD 7 ds))
noncomputable abbrev M_law_share : List D → R D := fun ds => finT (g_law_share a (M_law_mixed a) (M_law_low a) (startD 3 ds))
noncomputable abbrev M_law_time : List D → R D := fun ds => finT (g_law_time a (startD 2 ds))
noncomputable abbrev M_law_units : List D → R D := fun ds => finT (g_law_units a (M_law_mixed a) (M_law_time a) (M_law_share a) (startD 9 ds))
noncomputable abbrev M_law_meant : List D → R D := fun ds => finT (g_law_meant a (M_law_low a) (startD 9 ds))
noncomputable abbrev M_law_checks : List D → R D := fun ds => finT (g_law_checks a (M_law_mixed a) (M_law_time a) (M_law_share a) (startD 8 ds))
noncomputable abbrev M_law_off : List D → R D := fun ds => finT (g_law_off a (M_law_low a) (startD 8 ds))
theorem frM (t b : Int) (hb : b ≠ 0) (h : b.natAbs < 10 ^ 400) : M_fraction a [.int t, .int b] = .ok (fr t b) := m_frac (fun i => m_whole i) (fun x y hx hy h => m_gcd x y hx hy h) t b hb h
theorem us : Us a (M_counting_unit a) (M_fraction a) (M_minus a) (M_times a) (M_plus a) (fun ds => finT (g_over a (M_fraction a) (startD 2 ds))) where
  c := fun L m t hl => m_cu L hl m t
  f := frM a
  m := fun p q x y h1 h2 h3 h4 hq hy => m_minus (frM a) h1 h2 h3 h4 hq hy
  x := fun p q x y h1 h2 h3 h4 hq hy => WP.m_times (frM a) h1 h2 h3 h4 hq hy
  p := fun p q x y h1 h2 h3 h4 hq hy => m_plus (frM a) h1 h2 h3 h4 hq hy
  o := fun p q x y h1 h2 h3 h4 hq hx => m_over (frM a) h1 h2 h3 h4 hq hx
theorem os' : Os a (M_fraction a) (M_time_of a) (M_share_at a) (M_minus a) (M_times a) (M_plus a) where
  f := frM a
  t := m_timeof
  s := fun t t1 t2 h1 h2 => m_share (frM a) t t1 t2 h1 h2
  m := fun p q x y h1 h2 h3 h4 hq hy => m_minus (frM a) h1 h2 h3 h4 hq hy
  x := fun p q x y h1 h2 h3 h4 hq hy => WP.m_times (frM a) h1 h2 h3 h4 hq hy
  p := fun p q x y h1 h2 h3 h4 hq hy => m_plus (frM a) h1 h2 h3 h4 hq hy
theorem os : Ov a (M_fraction a) (M_time_of a) (M_value_at a) where
  f := frM a
  t := m_timeof
  v := fun h _ _ hc hd => m_value (os' a) h hc hd
theorem lowM (t b : Int) (hb : 0 < b) (h : b.natAbs < 10 ^ 400) : M_law_low a [.int t, .int b] = .ok (fr t b) := m_low t b hb h
theorem mixM (c k : Int) (h : 0 ≤ k ∧ k ≤ 1000) : M_law_mixed a [.int c, .int k] = .ok (.int (mixZ c k)) := m_mixed c k h
theorem fz : Fz a (M_law_cell_at a) (M_law_word a) (M_law_units a) (M_law_checks a) (M_law_mixed a) (M_row_of a) (M_law_meant a) (M_law_off a) (M_law_low a) where
  c := m_cell
  w := fun c k h => m_word c k h
  u := fun ws near cs h1 h2 h3 h4 => m_units (mixM a) (fun c n => m_time c n) (fun c => m_lshare (mixM a) (lowM a) c) h1 h2 h3 cs h4
  k := fun ws near cs h1 h2 h3 h4 => m_checks (mixM a) (fun c n => m_time c n) (fun c => m_lshare (mixM a) (lowM a) c) h1 h2 h3 cs h4
  m := mixM a
  r := fun R L C hR hL hC l1 l2 l3 => m_rowof (fun r hr => by
    have rm := hR r hr
    obtain ⟨zT, zU, pU⟩ := row_sz hL rm
    obtain ⟨low, z1, z2⟩ := off_low hC r.m (t := r.t) rm.t
    exact m_rowr (m_meaning (us a) hL l2 r.m r.t r.u r.n rm.n) (m_put (m_off (os a) C hC l3 r.m r.t rm.t) (m_minus (frM a) (zT.mono (by decide)) (zU.mono (by decide)) (z1.mono (by decide)) (z2.mono (by decide)) (by omega) (by have := low.pos; omega)))) l1
  n := fun L r hL hr => m_meant (lowM a) hL r.m r.t r.n hr.n
  o := fun C m t hC hV ht => by rw [off_eq hC]; exact m_loff (lowM a) hC hV m ht
  l := lowM a
end
theorem all_mk {l : PySem.W.OpenLaw} {w : World} {K : PySem.W.Frag} {h : Heap} {mg : Str → Option Value} {fa : Addr} {f1 f2 f3 f4 f5 f6 f7 f8 f9 f10 f11 f12 f13 f14 f15 f16 f17 f18 f19 f20 f21 f22 f23 f24 f25 f26 C_WeatherError C_NoFraction : Addr} (X : K.In h) (G : h.Ns mainGlobals mg) (hfa : mg "law" = some (.ref fa))
    {od1 an1 od2 an2 od3 an3 od4 an4 od5 an5 od6 an6 od7 an7 od8 an8 od9 an9 od10 an10 od11 an11 od12 an12 od13 an13 od14 an14 od15 an15 od16 an16 od17 an17 od18 an18 od19 an19 od20 an20 od21 an21 od22 an22 od23 an23 od24 an24 od25 an25 od26 an26 : Option Addr} {sl1 sl2 sl3 sl4 sl5 sl6 sl7 sl8 sl9 sl10 sl11 sl12 sl13 sl14 sl15 sl16 sl17 sl18 sl19 sl20 sl21 sl22 sl23 sl24 sl25 sl26 : Array (Option Value)} {oc1 kV1 dc1 pm1 cd1 ct1 oc2 kV2 dc2 pm2 cd2 ct2 oc3 kV3 dc3 pm3 cd3 ct3 oc4 kV4 dc4 pm4 cd4 ct4 oc5 kV5 dc5 pm5 cd5 ct5 oc6 kV6 dc6 pm6 cd6 ct6 oc7 kV7 dc7 pm7 cd7 ct7 oc8 kV8 dc8 pm8 cd8 ct8 oc9 kV9 dc9 pm9 cd9 ct9 oc10 kV10 dc10 pm10 cd10 ct10 oc11 kV11 dc11 pm11 cd11 ct11 oc12 kV12 dc12 pm12 cd12 ct12 oc13 kV13 dc13 pm13 cd13 ct13 oc14 kV14 dc14 pm14 cd14 ct14 oc15 kV15 dc15 pm15 cd15 ct15 oc16 kV16 dc16 pm16 cd16 ct16 oc17 kV17 dc17 pm17 cd17 ct17 oc18 kV18 dc18 pm18 cd18 ct18 oc19 kV19 dc19 pm19 cd19 ct19 oc20 kV20 dc20 pm20 cd20 ct20 oc21 kV21 dc21 pm21 cd21 ct21 oc22 kV22 dc22 pm22 cd22 ct22 oc23 kV23 dc23 pm23 cd23 ct23 oc24 kV24 dc24 pm24 cd24 ct24 oc25 kV25 dc25 pm25 cd25 ct25 oc26 kV26 dc26 pm26 cd26 ct26 : Value}
    (a1 : PySem.W.nsIn K mainGlobals "common_divisor" = some (some (.ref f1)))
    (l1 : K.lookup f1 = some ⟨oc1, od1, .func (PySem.W.fnOf "common_divisor" "common_divisor" (defArgs s_common_divisor) (defBody s_common_divisor) (defScope s_common_divisor) .none kV1 dc1 pm1 an1 cd1 ct1), sl1⟩) (c1 : PySem.W.codeIn K cd1 "common_divisor" = true) (k1 : PySem.W.keepIn K (.ref f1) = true)
    (a2 : PySem.W.nsIn K mainGlobals "is_whole" = some (some (.ref f2)))
    (l2 : K.lookup f2 = some ⟨oc2, od2, .func (PySem.W.fnOf "is_whole" "is_whole" (defArgs s_is_whole) (defBody s_is_whole) (defScope s_is_whole) .none kV2 dc2 pm2 an2 cd2 ct2), sl2⟩) (c2 : PySem.W.codeIn K cd2 "is_whole" = true) (k2 : PySem.W.keepIn K (.ref f2) = true)
    (a3 : PySem.W.nsIn K mainGlobals "fraction" = some (some (.ref f3)))
    (l3 : K.lookup f3 = some ⟨oc3, od3, .func (PySem.W.fnOf "fraction" "fraction" (defArgs s_fraction) (defBody s_fraction) (defScope s_fraction) .none kV3 dc3 pm3 an3 cd3 ct3), sl3⟩) (c3 : PySem.W.codeIn K cd3 "fraction" = true) (k3 : PySem.W.keepIn K (.ref f3) = true)
    (a4 : PySem.W.nsIn K mainGlobals "plus" = some (some (.ref f4)))
    (l4 : K.lookup f4 = some ⟨oc4, od4, .func (PySem.W.fnOf "plus" "plus" (defArgs s_plus) (defBody s_plus) (defScope s_plus) .none kV4 dc4 pm4 an4 cd4 ct4), sl4⟩) (c4 : PySem.W.codeIn K cd4 "plus" = true) (k4 : PySem.W.keepIn K (.ref f4) = true)
    (a5 : PySem.W.nsIn K mainGlobals "minus" = some (some (.ref f5)))
    (l5 : K.lookup f5 = some ⟨oc5, od5, .func (PySem.W.fnOf "minus" "minus" (defArgs s_minus) (defBody s_minus) (defScope s_minus) .none kV5 dc5 pm5 an5 cd5 ct5), sl5⟩) (c5 : PySem.W.codeIn K cd5 "minus" = true) (k5 : PySem.W.keepIn K (.ref f5) = true)
    (a6 : PySem.W.nsIn K mainGlobals "times" = some (some (.ref f6)))
    (l6 : K.lookup f6 = some ⟨oc6, od6, .func (PySem.W.fnOf "times" "times" (defArgs s_times) (defBody s_times) (defScope s_times) .none kV6 dc6 pm6 an6 cd6 ct6), sl6⟩) (c6 : PySem.W.codeIn K cd6 "times" = true) (k6 : PySem.W.keepIn K (.ref f6) = true)
    (a7 : PySem.W.nsIn K mainGlobals "share_at" = some (some (.ref f7)))
    (l7 : K.lookup f7 = some ⟨oc7, od7, .func (PySem.W.fnOf "share_at" "share_at" (defArgs s_share_at) (defBody s_share_at) (defScope s_share_at) .none kV7 dc7 pm7 an7 cd7 ct7), sl7⟩) (c7 : PySem.W.codeIn K cd7 "share_at" = true) (k7 : PySem.W.keepIn K (.ref f7) = true)
    (a8 : PySem.W.nsIn K mainGlobals "value_at" = some (some (.ref f8)))
    (l8 : K.lookup f8 = some ⟨oc8, od8, .func (PySem.W.fnOf "value_at" "value_at" (defArgs s_value_at) (defBody s_value_at) (defScope s_value_at) .none kV8 dc8 pm8 an8 cd8 ct8), sl8⟩) (c8 : PySem.W.codeIn K cd8 "value_at" = true) (k8 : PySem.W.keepIn K (.ref f8) = true)
    (a9 : PySem.W.nsIn K mainGlobals "time_of" = some (some (.ref f9)))
    (l9 : K.lookup f9 = some ⟨oc9, od9, .func (PySem.W.fnOf "time_of" "time_of" (defArgs s_time_of) (defBody s_time_of) (defScope s_time_of) .none kV9 dc9 pm9 an9 cd9 ct9), sl9⟩) (c9 : PySem.W.codeIn K cd9 "time_of" = true) (k9 : PySem.W.keepIn K (.ref f9) = true)
    (a10 : PySem.W.nsIn K mainGlobals "off_at" = some (some (.ref f10)))
    (l10 : K.lookup f10 = some ⟨oc10, od10, .func (PySem.W.fnOf "off_at" "off_at" (defArgs s_off_at) (defBody s_off_at) (defScope s_off_at) .none kV10 dc10 pm10 an10 cd10 ct10), sl10⟩) (c10 : PySem.W.codeIn K cd10 "off_at" = true) (k10 : PySem.W.keepIn K (.ref f10) = true)
    (a11 : PySem.W.nsIn K mainGlobals "put_right" = some (some (.ref f11)))
    (l11 : K.lookup f11 = some ⟨oc11, od11, .func (PySem.W.fnOf "put_right" "put_right" (defArgs s_put_right) (defBody s_put_right) (defScope s_put_right) .none kV11 dc11 pm11 an11 cd11 ct11), sl11⟩) (c11 : PySem.W.codeIn K cd11 "put_right" = true) (k11 : PySem.W.keepIn K (.ref f11) = true)
    (a12 : PySem.W.nsIn K mainGlobals "counting_unit" = some (some (.ref f12)))
    (l12 : K.lookup f12 = some ⟨oc12, od12, .func (PySem.W.fnOf "counting_unit" "counting_unit" (defArgs s_counting_unit) (defBody s_counting_unit) (defScope s_counting_unit) .none kV12 dc12 pm12 an12 cd12 ct12), sl12⟩) (c12 : PySem.W.codeIn K cd12 "counting_unit" = true) (k12 : PySem.W.keepIn K (.ref f12) = true)
    (a13 : PySem.W.nsIn K mainGlobals "meaning" = some (some (.ref f13)))
    (l13 : K.lookup f13 = some ⟨oc13, od13, .func (PySem.W.fnOf "meaning" "meaning" (defArgs s_meaning) (defBody s_meaning) (defScope s_meaning) .none kV13 dc13 pm13 an13 cd13 ct13), sl13⟩) (c13 : PySem.W.codeIn K cd13 "meaning" = true) (k13 : PySem.W.keepIn K (.ref f13) = true)
    (a14 : PySem.W.nsIn K mainGlobals "row_reading" = some (some (.ref f14)))
    (l14 : K.lookup f14 = some ⟨oc14, od14, .func (PySem.W.fnOf "row_reading" "row_reading" (defArgs s_row_reading) (defBody s_row_reading) (defScope s_row_reading) .none kV14 dc14 pm14 an14 cd14 ct14), sl14⟩) (c14 : PySem.W.codeIn K cd14 "row_reading" = true) (k14 : PySem.W.keepIn K (.ref f14) = true)
    (a15 : PySem.W.nsIn K mainGlobals "row_of" = some (some (.ref f15)))
    (l15 : K.lookup f15 = some ⟨oc15, od15, .func (PySem.W.fnOf "row_of" "row_of" (defArgs s_row_of) (defBody s_row_of) (defScope s_row_of) .none kV15 dc15 pm15 an15 cd15 ct15), sl15⟩) (c15 : PySem.W.codeIn K cd15 "row_of" = true) (k15 : PySem.W.keepIn K (.ref f15) = true)
    (a16 : PySem.W.nsIn K mainGlobals "_law_cell_at" = some (some (.ref f16)))
    (l16 : K.lookup f16 = some ⟨oc16, od16, .func (PySem.W.fnOf "_law_cell_at" "_law_cell_at" (defArgs s_law_cell_at) (defBody s_law_cell_at) (defScope s_law_cell_at) .none kV16 dc16 pm16 an16 cd16 ct16), sl16⟩) (c16 : PySem.W.codeIn K cd16 "_law_cell_at" = true) (k16 : PySem.W.keepIn K (.ref f16) = true)
    (a17 : PySem.W.nsIn K mainGlobals "_law_mixed" = some (some (.ref f17)))
    (l17 : K.lookup f17 = some ⟨oc17, od17, .func (PySem.W.fnOf "_law_mixed" "_law_mixed" (defArgs s_law_mixed) (defBody s_law_mixed) (defScope s_law_mixed) .none kV17 dc17 pm17 an17 cd17 ct17), sl17⟩) (c17 : PySem.W.codeIn K cd17 "_law_mixed" = true) (k17 : PySem.W.keepIn K (.ref f17) = true)
    (a18 : PySem.W.nsIn K mainGlobals "_law_low" = some (some (.ref f18)))
    (l18 : K.lookup f18 = some ⟨oc18, od18, .func (PySem.W.fnOf "_law_low" "_law_low" (defArgs s_law_low) (defBody s_law_low) (defScope s_law_low) .none kV18 dc18 pm18 an18 cd18 ct18), sl18⟩) (c18 : PySem.W.codeIn K cd18 "_law_low" = true) (k18 : PySem.W.keepIn K (.ref f18) = true)
    (a19 : PySem.W.nsIn K mainGlobals "_law_word" = some (some (.ref f19)))
    (l19 : K.lookup f19 = some ⟨oc19, od19, .func (PySem.W.fnOf "_law_word" "_law_word" (defArgs s_law_word) (defBody s_law_word) (defScope s_law_word) .none kV19 dc19 pm19 an19 cd19 ct19), sl19⟩) (c19 : PySem.W.codeIn K cd19 "_law_word" = true) (k19 : PySem.W.keepIn K (.ref f19) = true)
    (a20 : PySem.W.nsIn K mainGlobals "_law_share" = some (some (.ref f20)))
    (l20 : K.lookup f20 = some ⟨oc20, od20, .func (PySem.W.fnOf "_law_share" "_law_share" (defArgs s_law_share) (defBody s_law_share) (defScope s_law_share) .none kV20 dc20 pm20 an20 cd20 ct20), sl20⟩) (c20 : PySem.W.codeIn K cd20 "_law_share" = true) (k20 : PySem.W.keepIn K (.ref f20) = true)
    (a21 : PySem.W.nsIn K mainGlobals "_law_time" = some (some (.ref f21)))
    (l21 : K.lookup f21 = some ⟨oc21, od21, .func (PySem.W.fnOf "_law_time" "_law_time" (defArgs s_law_time) (defBody s_law_time) (defScope s_law_time) .none kV21 dc21 pm21 an21 cd21 ct21), sl21⟩) (c21 : PySem.W.codeIn K cd21 "_law_time" = true) (k21 : PySem.W.keepIn K (.ref f21) = true)
    (a22 : PySem.W.nsIn K mainGlobals "_law_units" = some (some (.ref f22)))
    (l22 : K.lookup f22 = some ⟨oc22, od22, .func (PySem.W.fnOf "_law_units" "_law_units" (defArgs s_law_units) (defBody s_law_units) (defScope s_law_units) .none kV22 dc22 pm22 an22 cd22 ct22), sl22⟩) (c22 : PySem.W.codeIn K cd22 "_law_units" = true) (k22 : PySem.W.keepIn K (.ref f22) = true)
    (a23 : PySem.W.nsIn K mainGlobals "_law_meant" = some (some (.ref f23)))
    (l23 : K.lookup f23 = some ⟨oc23, od23, .func (PySem.W.fnOf "_law_meant" "_law_meant" (defArgs s_law_meant) (defBody s_law_meant) (defScope s_law_meant) .none kV23 dc23 pm23 an23 cd23 ct23), sl23⟩) (c23 : PySem.W.codeIn K cd23 "_law_meant" = true) (k23 : PySem.W.keepIn K (.ref f23) = true)
    (a24 : PySem.W.nsIn K mainGlobals "_law_checks" = some (some (.ref f24)))
    (l24 : K.lookup f24 = some ⟨oc24, od24, .func (PySem.W.fnOf "_law_checks" "_law_checks" (defArgs s_law_checks) (defBody s_law_checks) (defScope s_law_checks) .none kV24 dc24 pm24 an24 cd24 ct24), sl24⟩) (c24 : PySem.W.codeIn K cd24 "_law_checks" = true) (k24 : PySem.W.keepIn K (.ref f24) = true)
    (a25 : PySem.W.nsIn K mainGlobals "_law_off" = some (some (.ref f25)))
    (l25 : K.lookup f25 = some ⟨oc25, od25, .func (PySem.W.fnOf "_law_off" "_law_off" (defArgs s_law_off) (defBody s_law_off) (defScope s_law_off) .none kV25 dc25 pm25 an25 cd25 ct25), sl25⟩) (c25 : PySem.W.codeIn K cd25 "_law_off" = true) (k25 : PySem.W.keepIn K (.ref f25) = true)
    (a26 : PySem.W.nsIn K mainGlobals "law" = some (some (.ref f26)))
    (l26 : K.lookup f26 = some ⟨oc26, od26, .func (PySem.W.fnOf "law" "law" (defArgs s_law) (defBody s_law) (defScope s_law) .none kV26 dc26 pm26 an26 cd26 ct26), sl26⟩) (c26 : PySem.W.codeIn K cd26 "law" = true) (k26 : PySem.W.keepIn K (.ref f26) = true)
    (lm12 : lamB K "counting_unit" = true)
    (aC_WeatherError : PySem.W.nsIn K mainGlobals "WeatherError" = some (some (.ref C_WeatherError)))
    (aC_NoFraction : PySem.W.nsIn K mainGlobals "NoFraction" = some (some (.ref C_NoFraction)))
    (ze_NoFraction : PySem.W.excIn K C_NoFraction [.type "ValueError", .type "Exception", .type "BaseException", .type "object"] "ValueError.__new__" = true) (zk_NoFraction : PySem.W.keepIn K (.ref C_NoFraction) = true) (zg_NoFraction : PySem.W.findIn K (.ref C_NoFraction) "__getattribute__" = some (some (.builtin "BaseException.__getattribute__"))) (zn_NoFraction : PySem.W.findIn K (.ref C_NoFraction) "__getattr__" = some none)
    (zc_NoFraction : PySem.W.findIn K (.ref C_NoFraction) "__class__" = some (some (.builtin "object.__class__")))
    (z_abs : PySem.W.nsIn K mainGlobals "abs" = some none) (z_bool : PySem.W.nsIn K mainGlobals "bool" = some none) (z_int : PySem.W.nsIn K mainGlobals "int" = some none) (z_isinstance : PySem.W.nsIn K mainGlobals "isinstance" = some none) (z_len : PySem.W.nsIn K mainGlobals "len" = some none) (z_list : PySem.W.nsIn K mainGlobals "list" = some none) (z_max : PySem.W.nsIn K mainGlobals "max" = some none) (z_min : PySem.W.nsIn K mainGlobals "min" = some none) (z_range : PySem.W.nsIn K mainGlobals "range" = some none) (z_sorted : PySem.W.nsIn K mainGlobals "sorted" = some none) (z_tuple : PySem.W.nsIn K mainGlobals "tuple" = some none) :
    ∃ fd : FuncData, (∀ (s : Shared) (v : Value), BindsTo s fd ⟨[v], []⟩ [("_law_script", v)]) ∧ ∀ base : Heap, K.In base → base.Ns mainGlobals mg → BM mg base → FnOk l.prog w K mg base (CXx l.prog w) 10 fa fd ["_law_script"] (spLaw K) := by
  have e := hfa.symm.trans (PySem.W.mg_of X G a26)
  cases e
  have Z_NoFraction : ZCls K C_NoFraction := ⟨ze_NoFraction, zk_NoFraction, zg_NoFraction, zn_NoFraction, zc_NoFraction⟩
  have IS : IsOk K (isF K []) := isF_ok fun c hc => by
    simp only [List.mem_cons, List.not_mem_nil, or_false] at hc
  have T : Tx K mg ({WeatherError := C_WeatherError, NoFraction := C_NoFraction, isx := isF K []} : Ad) := {b_abs := PySem.W.mg_none_of X G z_abs, b_bool := PySem.W.mg_none_of X G z_bool, b_int := PySem.W.mg_none_of X G z_int, b_isinstance := PySem.W.mg_none_of X G z_isinstance, b_len := PySem.W.mg_none_of X G z_len, b_list := PySem.W.mg_none_of X G z_list, b_max := PySem.W.mg_none_of X G z_max, b_min := PySem.W.mg_none_of X G z_min, b_range := PySem.W.mg_none_of X G z_range, b_sorted := PySem.W.mg_none_of X G z_sorted, b_tuple := PySem.W.mg_none_of X G z_tuple, c_WeatherError := PySem.W.mg_of X G aC_WeatherError, c_NoFraction := PySem.W.mg_of X G aC_NoFraction, z_NoFraction := Z_NoFraction, isok := IS}
  have F1 := fun_mk (st := s_common_divisor) l1 c1 k1
  have b1 := F1.binds (ps := ["one", "other"]) fun _ _ _ _ _ _ us hl => match us, hl with | [_, _], _ => rfl
  have m1 := PySem.W.mg_of X G a1
  have F2 := fun_mk (st := s_is_whole) l2 c2 k2
  have b2 := F2.binds (ps := ["thing"]) fun _ _ _ _ _ _ us hl => match us, hl with | [_], _ => rfl
  have m2 := PySem.W.mg_of X G a2
  have F3 := fun_mk (st := s_fraction) l3 c3 k3
  have b3 := F3.binds (ps := ["top", "bottom"]) fun _ _ _ _ _ _ us hl => match us, hl with | [_, _], _ => rfl
  have m3 := PySem.W.mg_of X G a3
  have F4 := fun_mk (st := s_plus) l4 c4 k4
  have b4 := F4.binds (ps := ["one", "other"]) fun _ _ _ _ _ _ us hl => match us, hl with | [_, _], _ => rfl
  have m4 := PySem.W.mg_of X G a4
  have F5 := fun_mk (st := s_minus) l5 c5 k5
  have b5 := F5.binds (ps := ["one", "other"]) fun _ _ _ _ _ _ us hl => match us, hl with | [_, _], _ => rfl
  have m5 := PySem.W.mg_of X G a5
  have F6 := fun_mk (st := s_times) l6 c6 k6
  have b6 := F6.binds (ps := ["one", "other"]) fun _ _ _ _ _ _ us hl => match us, hl with | [_, _], _ => rfl
  have m6 := PySem.W.mg_of X G a6
  have F7 := fun_mk (st := s_share_at) l7 c7 k7
  have b7 := F7.binds (ps := ["time", "start", "end"]) fun _ _ _ _ _ _ us hl => match us, hl with | [_, _, _], _ => rfl
  have m7 := PySem.W.mg_of X G a7
  have F8 := fun_mk (st := s_value_at) l8 c8 k8
  have b8 := F8.binds (ps := ["time", "first", "second"]) fun _ _ _ _ _ _ us hl => match us, hl with | [_, _, _], _ => rfl
  have m8 := PySem.W.mg_of X G a8
  have F9 := fun_mk (st := s_time_of) l9 c9 k9
  have b9 := F9.binds (ps := ["check"]) fun _ _ _ _ _ _ us hl => match us, hl with | [_], _ => rfl
  have m9 := PySem.W.mg_of X G a9
  have F10 := fun_mk (st := s_off_at) l10 c10 k10
  have b10 := F10.binds (ps := ["mast", "time", "checks"]) fun _ _ _ _ _ _ us hl => match us, hl with | [_, _, _], _ => rfl
  have m10 := PySem.W.mg_of X G a10
  have F11 := fun_mk (st := s_put_right) l11 c11 k11
  have b11 := F11.binds (ps := ["mast", "time", "value", "checks"]) fun _ _ _ _ _ _ us hl => match us, hl with | [_, _, _, _], _ => rfl
  have m11 := PySem.W.mg_of X G a11
  have F12 := fun_mk (st := s_counting_unit) l12 c12 k12
  have b12 := F12.binds (ps := ["mast", "time", "units"]) fun _ _ _ _ _ _ us hl => match us, hl with | [_, _, _], _ => rfl
  have m12 := PySem.W.mg_of X G a12
  have F13 := fun_mk (st := s_meaning) l13 c13 k13
  have b13 := F13.binds (ps := ["reading", "units"]) fun _ _ _ _ _ _ us hl => match us, hl with | [_, _], _ => rfl
  have m13 := PySem.W.mg_of X G a13
  have F14 := fun_mk (st := s_row_reading) l14 c14 k14
  have b14 := F14.binds (ps := ["reading", "units", "checks"]) fun _ _ _ _ _ _ us hl => match us, hl with | [_, _, _], _ => rfl
  have m14 := PySem.W.mg_of X G a14
  have F15 := fun_mk (st := s_row_of) l15 c15 k15
  have b15 := F15.binds (ps := ["readings", "units", "checks"]) fun _ _ _ _ _ _ us hl => match us, hl with | [_, _, _], _ => rfl
  have m15 := PySem.W.mg_of X G a15
  have F16 := fun_mk (st := s_law_cell_at) l16 c16 k16
  have b16 := F16.binds (ps := ["_law_script", "_law_k"]) fun _ _ _ _ _ _ us hl => match us, hl with | [_, _], _ => rfl
  have m16 := PySem.W.mg_of X G a16
  have F17 := fun_mk (st := s_law_mixed) l17 c17 k17
  have b17 := F17.binds (ps := ["_law_cell", "_law_k"]) fun _ _ _ _ _ _ us hl => match us, hl with | [_, _], _ => rfl
  have m17 := PySem.W.mg_of X G a17
  have F18 := fun_mk (st := s_law_low) l18 c18 k18
  have b18 := F18.binds (ps := ["_law_top", "_law_bottom"]) fun _ _ _ _ _ _ us hl => match us, hl with | [_, _], _ => rfl
  have m18 := PySem.W.mg_of X G a18
  have F19 := fun_mk (st := s_law_word) l19 c19 k19
  have b19 := F19.binds (ps := ["_law_cell", "_law_k"]) fun _ _ _ _ _ _ us hl => match us, hl with | [_, _], _ => rfl
  have m19 := PySem.W.mg_of X G a19
  have F20 := fun_mk (st := s_law_share) l20 c20 k20
  have b20 := F20.binds (ps := ["_law_cell"]) fun _ _ _ _ _ _ us hl => match us, hl with | [_], _ => rfl
  have m20 := PySem.W.mg_of X G a20
  have F21 := fun_mk (st := s_law_time) l21 c21 k21
  have b21 := F21.binds (ps := ["_law_cell", "_law_near"]) fun _ _ _ _ _ _ us hl => match us, hl with | [_, _], _ => rfl
  have m21 := PySem.W.mg_of X G a21
  have F22 := fun_mk (st := s_law_units) l22 c22 k22
  have b22 := F22.binds (ps := ["_law_cells", "_law_words", "_law_near"]) fun _ _ _ _ _ _ us hl => match us, hl with | [_, _, _], _ => rfl
  have m22 := PySem.W.mg_of X G a22
  have F23 := fun_mk (st := s_law_meant) l23 c23 k23
  have b23 := F23.binds (ps := ["_law_mast", "_law_time_here", "_law_number", "_law_units_here"]) fun _ _ _ _ _ _ us hl => match us, hl with | [_, _, _, _], _ => rfl
  have m23 := PySem.W.mg_of X G a23
  have F24 := fun_mk (st := s_law_checks) l24 c24 k24
  have b24 := F24.binds (ps := ["_law_cells", "_law_words", "_law_near"]) fun _ _ _ _ _ _ us hl => match us, hl with | [_, _, _], _ => rfl
  have m24 := PySem.W.mg_of X G a24
  have F25 := fun_mk (st := s_law_off) l25 c25 k25
  have b25 := F25.binds (ps := ["_law_mast", "_law_time_here", "_law_checks_here"]) fun _ _ _ _ _ _ us hl => match us, hl with | [_, _, _], _ => rfl
  have m25 := PySem.W.mg_of X G a25
  have F26 := fun_mk (st := s_law) l26 c26 k26
  refine ⟨PySem.W.fnOf "law" "law" (defArgs s_law) (defBody s_law) (defScope s_law) .none kV26 dc26 pm26 an26 cd26 ct26, fun s v => .of_eq rfl, fun base _ _ bm => ?_⟩
  obtain ⟨cL12, PL12, hi12, hc12⟩ := lam_of a12 l12 lm12
  have o1 := ok_common_divisor (P := l.prog) (w := w) (base := base) T F1
  have H1 : Has _ _ _ _ _ _ _ _ _ _ := ⟨_, _, o1, b1, k1, m1⟩
  have o2 := ok_is_whole (P := l.prog) (w := w) (base := base) T F2
  have H2 : Has _ _ _ _ _ _ _ _ _ _ := ⟨_, _, o2, b2, k2, m2⟩
  have o3 := ok_fraction (P := l.prog) (w := w) (base := base) T F3 (Has.up H2 (by decide)) (Has.up H1 (by decide))
  have H3 : Has _ _ _ _ _ _ _ _ _ _ := ⟨_, _, o3, b3, k3, m3⟩
  have o4 := ok_plus (P := l.prog) (w := w) (base := base) T F4 (Has.up H3 (by decide))
  have H4 : Has _ _ _ _ _ _ _ _ _ _ := ⟨_, _, o4, b4, k4, m4⟩
  have o5 := ok_minus (P := l.prog) (w := w) (base := base) T F5 (Has.up H3 (by decide))
  have H5 : Has _ _ _ _ _ _ _ _ _ _ := ⟨_, _, o5, b5, k5, m5⟩
  have o6 := ok_times (P := l.prog) (w := w) (base := base) T F6 (Has.up H3 (by decide))
  have H6 : Has _ _ _ _ _ _ _ _ _ _ := ⟨_, _, o6, b6, k6, m6⟩
  have o7 := ok_share_at (P := l.prog) (w := w) (base := base) T F7 (Has.up H3 (by decide))
  have H7 : Has _ _ _ _ _ _ _ _ _ _ := ⟨_, _, o7, b7, k7, m7⟩
  have o8 := ok_value_at (P := l.prog) (w := w) (base := base) T F8 (Has.up H7 (by decide)) (Has.up H5 (by decide)) (Has.up H6 (by decide)) (Has.up H4 (by decide))
  have H8 : Has _ _ _ _ _ _ _ _ _ _ := ⟨_, _, o8, b8, k8, m8⟩
  have o9 := ok_time_of (P := l.prog) (w := w) (base := base) T F9
  have H9 : Has _ _ _ _ _ _ _ _ _ _ := ⟨_, _, o9, b9, k9, m9⟩
  have o10 := ok_off_at (P := l.prog) (w := w) (base := base) T F10 (Has.up H3 (by decide)) (Has.up H9 (by decide)) (Has.up H8 (by decide))
  have H10 : Has _ _ _ _ _ _ _ _ _ _ := ⟨_, _, o10, b10, k10, m10⟩
  have o11 := ok_put_right (P := l.prog) (w := w) (base := base) T F11 (Has.up H10 (by decide)) (Has.up H5 (by decide))
  have H11 : Has _ _ _ _ _ _ _ _ _ _ := ⟨_, _, o11, b11, k11, m11⟩
  have o12 := ok_counting_unit (P := l.prog) (w := w) (base := base) T F12 bm hi12 hc12
  have H12 : Has _ _ _ _ _ _ _ _ _ _ := ⟨_, _, o12, b12, k12, m12⟩
  have o13 := ok_meaning (P := l.prog) (w := w) (base := base) T F13 (Has.up H12 (by decide)) (Has.up H3 (by decide)) (Has.up H6 (by decide)) (Has.up H4 (by decide))
  have H13 : Has _ _ _ _ _ _ _ _ _ _ := ⟨_, _, o13, b13, k13, m13⟩
  have o14 := ok_row_reading (P := l.prog) (w := w) (base := base) T F14 (Has.up H13 (by decide)) (Has.up H11 (by decide))
  have H14 : Has _ _ _ _ _ _ _ _ _ _ := ⟨_, _, o14, b14, k14, m14⟩
  have o15 := ok_row_of (P := l.prog) (w := w) (base := base) T F15 (Has.up H14 (by decide))
  have H15 : Has _ _ _ _ _ _ _ _ _ _ := ⟨_, _, o15, b15, k15, m15⟩
  have o16 := ok_law_cell_at (P := l.prog) (w := w) (base := base) T F16
  have H16 : Has _ _ _ _ _ _ _ _ _ _ := ⟨_, _, o16, b16, k16, m16⟩
  have o17 := ok_law_mixed (P := l.prog) (w := w) (base := base) T F17
  have H17 : Has _ _ _ _ _ _ _ _ _ _ := ⟨_, _, o17, b17, k17, m17⟩
  have o18 := ok_law_low (P := l.prog) (w := w) (base := base) T F18
  have H18 : Has _ _ _ _ _ _ _ _ _ _ := ⟨_, _, o18, b18, k18, m18⟩
  have o19 := ok_law_word (P := l.prog) (w := w) (base := base) T F19
  have H19 : Has _ _ _ _ _ _ _ _ _ _ := ⟨_, _, o19, b19, k19, m19⟩
  have o20 := ok_law_share (P := l.prog) (w := w) (base := base) T F20 (Has.up H17 (by decide)) (Has.up H18 (by decide))
  have H20 : Has _ _ _ _ _ _ _ _ _ _ := ⟨_, _, o20, b20, k20, m20⟩
  have o21 := ok_law_time (P := l.prog) (w := w) (base := base) T F21
  have H21 : Has _ _ _ _ _ _ _ _ _ _ := ⟨_, _, o21, b21, k21, m21⟩
  have o22 := ok_law_units (P := l.prog) (w := w) (base := base) T F22 (Has.up H17 (by decide)) (Has.up H21 (by decide)) (Has.up H20 (by decide))
  have H22 : Has _ _ _ _ _ _ _ _ _ _ := ⟨_, _, o22, b22, k22, m22⟩
  have o23 := ok_law_meant (P := l.prog) (w := w) (base := base) T F23 (Has.up H18 (by decide))
  have H23 : Has _ _ _ _ _ _ _ _ _ _ := ⟨_, _, o23, b23, k23, m23⟩
  have o24 := ok_law_checks (P := l.prog) (w := w) (base := base) T F24 (Has.up H17 (by decide)) (Has.up H21 (by decide)) (Has.up H20 (by decide))
  have H24 : Has _ _ _ _ _ _ _ _ _ _ := ⟨_, _, o24, b24, k24, m24⟩
  have o25 := ok_law_off (P := l.prog) (w := w) (base := base) T F25 (Has.up H18 (by decide))
  have H25 : Has _ _ _ _ _ _ _ _ _ _ := ⟨_, _, o25, b25, k25, m25⟩
  have o26 := ok_law (P := l.prog) (w := w) (base := base) T F26 (Has.up H16 (by decide)) (Has.up H19 (by decide)) (Has.up H22 (by decide)) (Has.up H24 (by decide)) (Has.up H17 (by decide)) (Has.up H15 (by decide)) (Has.up H23 (by decide)) (Has.up H25 (by decide)) (Has.up H18 (by decide))
  refine o26.imp fun vs H Q E q => ?_
  obtain ⟨al, ns, hl, fr, hn, rv, tt, q⟩ := q
  refine ⟨hl, tt, al, _, fr, rv, ?_⟩
  have A : Aft K al E H (R.ok (D.bl true)) (fun d H' => ∀ v, Rep K al H' v d → Q v H') := fun H' sm v rv => by cases rv; exact q H' sm
  rw [← m_law (fz _) ns hn] at A
  exact A
theorem walk {l : PySem.W.OpenLaw} {q : Program} {loose : List Str} {XP : (Str → Option Value) → Heap → Prop} {YP : World → Heap → Prop} {d : DefRec} {K : Params → PySem.W.Frag} (hn : l.most = some 63) (hdf : d.params.defaults = [])
    (hY : ∀ (w : World) (h : Heap), YP w h → (K w.params).In h) (hT : ∀ w : World, (tabsOf (K w.params)).all (fun t => ((PyProof.Rows.recsOf q).find? fun e => e.name == t.1).isSome) = true) (hN : ∀ w : World, PySem.W.noTabs (K w.params) = true)
    (F : ∀ (w : World) (mg : Str → Option Value) (fa : Addr) (h : Heap), (K w.params).In h → h.Ns mainGlobals mg → mg d.name = some (.ref fa) →
      ∃ fd : FuncData, (∀ (s : Shared) (u : Value), BindsTo s fd ⟨[u], []⟩ [("_law_script", u)]) ∧ ∀ base : Heap, (K w.params).In base → base.Ns mainGlobals mg → BM mg base → FnOk l.prog w (K w.params) mg base (CXx l.prog w) 10 fa fd ["_law_script"] (spLaw (K w.params))) :
    PySem.W.WalkO q loose XP YP l.row.toRowW d [] (fun f vs => PySem.call f vs) := by
  refine Att.attach_call hn hdf fun w s₀ s₁ mg mb fa o pm cd doc a vs ns G Y ho hd hcd hmg hobj hints hlen hg => ?_
  have KX := hY w _ Y
  obtain ⟨fd, hb, hF⟩ := F w mg fa _ KX G.T.g hmg
  refine law_callT KX G.T.g G.T.b G.T.builtins G.T.nolimit hg hobj hints (Nat.le_trans hlen (by decide)) ⟨rfl, by decide, by decide⟩ (tabs_of G.T KX (hT w)) (hN w) G.T.bmain hF hb (fun H tt hS => spLaw_of hlen tt ?_) fun H e s' h => ?_
  · rcases hS with h | ⟨o, its, n, h1, h2, h3, h4, h5, h6⟩
    · exact .lst (.inl ⟨trivial, h⟩) (reps_ints _)
    · have e := KX a o h1
      rw [hobj] at e
      cases e
      cases h4
      exact .lst (.inr ⟨vs, _, h1, by simpa using h5, by simpa using h6⟩) (reps_ints _)
  · obtain ⟨_, _, _, _, _, _, _, _, _, _, _, _, z⟩ := h
    exact z
end W41
open PySem PySem.W PyProof.Rows
set_option maxRecDepth 100000 in
set_option maxHeartbeats 0 in
theorem PySem.Challenge.cw_weather_k41_rows_holds : PySem.Challenge.rw_weather_k41_rows.Holds := by
  w_on; o_law; k_head; (case hw => w_witness2)
  k_fill
  refine W41.walk (l := PySem.Challenge.rw_weather_k41_rows) rfl rfl (fun w h Y => by first | exact PySem.W.km_in_of Y | exact PySem.W.kIn_of Y) ?hT ?hN ?F
  case hT => exact fun w => by kernel_rfl
  case hN => exact fun w => by kernel_rfl
  case F =>
    intro w mg fa h KX G hmg
    refine' W41.all_mk KX G hmg ?a1 ?l1 ?c1 ?k1 ?a2 ?l2 ?c2 ?k2 ?a3 ?l3 ?c3 ?k3 ?a4 ?l4 ?c4 ?k4 ?a5 ?l5 ?c5 ?k5 ?a6 ?l6 ?c6 ?k6 ?a7 ?l7 ?c7 ?k7 ?a8 ?l8 ?c8 ?k8 ?a9 ?l9 ?c9 ?k9 ?a10 ?l10 ?c10 ?k10 ?a11 ?l11 ?c11 ?k11 ?a12 ?l12 ?c12 ?k12 ?a13 ?l13 ?c13 ?k13 ?a14 ?l14 ?c14 ?k14 ?a15 ?l15 ?c15 ?k15 ?a16 ?l16 ?c16 ?k16 ?a17 ?l17 ?c17 ?k17 ?a18 ?l18 ?c18 ?k18 ?a19 ?l19 ?c19 ?k19 ?a20 ?l20 ?c20 ?k20 ?a21 ?l21 ?c21 ?k21 ?a22 ?l22 ?c22 ?k22 ?a23 ?l23 ?c23 ?k23 ?a24 ?l24 ?c24 ?k24 ?a25 ?l25 ?c25 ?k25 ?a26 ?l26 ?c26 ?k26 ?lm12 ?aC_WeatherError ?aC_NoFraction ?ze_NoFraction ?zk_NoFraction ?zg_NoFraction ?zn_NoFraction ?zc_NoFraction ?z_abs ?z_bool ?z_int ?z_isinstance ?z_len ?z_list ?z_max ?z_min ?z_range ?z_sorted ?z_tuple
    (case a1 => k_is); (case l1 => k_is); (case c1 => k_is); (case k1 => k_is)
    (case a2 => k_is); (case l2 => k_is); (case c2 => k_is); (case k2 => k_is)
    (case a3 => k_is); (case l3 => k_is); (case c3 => k_is); (case k3 => k_is)
    (case a4 => k_is); (case l4 => k_is); (case c4 => k_is); (case k4 => k_is)
    (case a5 => k_is); (case l5 => k_is); (case c5 => k_is); (case k5 => k_is)
    (case a6 => k_is); (case l6 => k_is); (case c6 => k_is); (case k6 => k_is)
    (case a7 => k_is); (case l7 => k_is); (case c7 => k_is); (case k7 => k_is)
    (case a8 => k_is); (case l8 => k_is); (case c8 => k_is); (case k8 => k_is)
    (case a9 => k_is); (case l9 => k_is); (case c9 => k_is); (case k9 => k_is)
    (case a10 => k_is); (case l10 => k_is); (case c10 => k_is); (case k10 => k_is)
    (case a11 => k_is); (case l11 => k_is); (case c11 => k_is); (case k11 => k_is)
    (case a12 => k_is); (case l12 => k_is); (case c12 => k_is); (case k12 => k_is)
    (case a13 => k_is); (case l13 => k_is); (case c13 => k_is); (case k13 => k_is)
    (case a14 => k_is); (case l14 => k_is); (case c14 => k_is); (case k14 => k_is)
    (case a15 => k_is); (case l15 => k_is); (case c15 => k_is); (case k15 => k_is)
    (case a16 => k_is); (case l16 => k_is); (case c16 => k_is); (case k16 => k_is)
    (case a17 => k_is); (case l17 => k_is); (case c17 => k_is); (case k17 => k_is)
    (case a18 => k_is); (case l18 => k_is); (case c18 => k_is); (case k18 => k_is)
    (case a19 => k_is); (case l19 => k_is); (case c19 => k_is); (case k19 => k_is)
    (case a20 => k_is); (case l20 => k_is); (case c20 => k_is); (case k20 => k_is)
    (case a21 => k_is); (case l21 => k_is); (case c21 => k_is); (case k21 => k_is)
    (case a22 => k_is); (case l22 => k_is); (case c22 => k_is); (case k22 => k_is)
    (case a23 => k_is); (case l23 => k_is); (case c23 => k_is); (case k23 => k_is)
    (case a24 => k_is); (case l24 => k_is); (case c24 => k_is); (case k24 => k_is)
    (case a25 => k_is); (case l25 => k_is); (case c25 => k_is); (case k25 => k_is)
    (case a26 => k_is); (case l26 => k_is); (case c26 => k_is); (case k26 => k_is)
    (case lm12 => kernel_rfl)
    (case aC_WeatherError => k_is)
    (case aC_NoFraction => k_is)
    (case ze_NoFraction => k_exc); (case zk_NoFraction => k_is); (case zg_NoFraction => k_is); (case zn_NoFraction => k_is)
    (case zc_NoFraction => k_is)
    (case z_abs => k_is); (case z_bool => k_is); (case z_int => k_is); (case z_isinstance => k_is); (case z_len => k_is); (case z_list => k_is); (case z_max => k_is); (case z_min => k_is); (case z_range => k_is); (case z_sorted => k_is); (case z_tuple => k_is)
#print axioms PySem.Challenge.cw_weather_k41_rows_holds
