import PyProof.Rows.All
import Wide.All
import OpenK.AllK
import Wide.FinOn
import Lean
import PyProof.EqAt
import PyProof.EqKinds
import PyProof.TupleCall
import PySem.Challenge.RW_turncoins_k55_no_table
set_option Elab.async false
set_option linter.all false
set_option maxRecDepth 100000
/-! THE HAND LAYER, for ints, bools, texts, own classes, LISTS and tuples (index, slices, in, append, pop ..), calls, loops. Paste it whole ahead of your own text; what your proof does not reach may be deleted. -/
namespace L2
open PySem PySem.Spec PyProof.Rows

/-- a key: an int or a str -/
noncomputable abbrev Key := Sum Int Str
noncomputable def keyIs : Key → Value → Bool
  | .inl k, v => Value.isInt k v
  | .inr x, v => Value.isStrOf x v
noncomputable def keyH (w : World) : Key → Int
  | .inl k => hashInt k
  | .inr x => hashStr w x
theorem keyIs_shape : ∀ {k : Key} {v : Value}, keyIs k v = true → (∃ i t, k = Sum.inl i ∧ v = Value.int i t) ∨ (∃ x t, k = Sum.inr x ∧ v = Value.str x t)
  | .inl i, v, h => by
    obtain ⟨t, e⟩ := Value.isInt_shape (k := i) (v := v) h
    exact .inl ⟨i, t, rfl, e⟩
  | .inr x, v, h => by
    obtain ⟨t, e⟩ := Value.isStrOf_shape (x := x) (v := v) h
    exact .inr ⟨x, t, rfl, e⟩
theorem key_ll (a b : Int) : decide ((Sum.inl a : Key) = Sum.inl b) = (a == b) := by
  by_cases e : a = b
  · subst e; simp
  · have h : ¬ (Sum.inl a : Key) = Sum.inl b := fun q => e (Sum.inl.inj q)
    rw [decide_eq_false h]
    exact (beq_eq_false_iff_ne.mpr e).symm
theorem key_rr (a b : Str) : decide ((Sum.inr a : Key) = Sum.inr b) = decide (a = b) := by
  by_cases e : a = b
  · subst e; simp
  · have h : ¬ (Sum.inr a : Key) = Sum.inr b := fun q => e (Sum.inr.inj q)
    rw [decide_eq_false h, decide_eq_false e]
theorem key_lr (a : Int) (b : Str) : decide ((Sum.inl a : Key) = Sum.inr b) = false := decide_eq_false (fun q => nomatch q)
theorem key_rl (a : Str) (b : Int) : decide ((Sum.inr a : Key) = Sum.inl b) = false := decide_eq_false (fun q => nomatch q)

noncomputable def mixKind (prog : Program) (w : World) : PySem.KeyKind prog w Key where
  is := keyIs
  hash := keyH w
  inj := fun v a b ha hb => by
    rcases keyIs_shape ha with ⟨i, t, rfl, rfl⟩ | ⟨x, t, rfl, rfl⟩
    · rcases keyIs_shape hb with ⟨j, u, rfl, e⟩ | ⟨y, u, rfl, e⟩
      · injection e with e1 _; rw [e1]
      · exact nomatch e
    · rcases keyIs_shape hb with ⟨j, u, rfl, e⟩ | ⟨y, u, rfl, e⟩
      · exact nomatch e
      · injection e with e1 _; rw [e1]
  byValue := fun k v h => by
    rcases keyIs_shape h with ⟨i, t, rfl, rfl⟩ | ⟨x, t, rfl, rfl⟩ <;> rfl
  pyHash := fun hv h => by
    rcases keyIs_shape hv with ⟨i, t, rfl, rfl⟩ | ⟨x, t, rfl, rfl⟩
    · exact wpAny_pyHash_int h
    · exact wpAny_pyHash_str h
  eqBool := fun hu hv h => by
    rcases keyIs_shape hu with ⟨i, t, rfl, rfl⟩ | ⟨x, t, rfl, rfl⟩
    · rcases keyIs_shape hv with ⟨j, u, rfl, rfl⟩ | ⟨y, u, rfl, rfl⟩
      · rw [key_ll] at h; exact wpAny_eqBool_int h
      · rw [key_lr] at h; exact SeqAt.EqAt.int_str i t y u _ _ _ _ h
    · rcases keyIs_shape hv with ⟨j, u, rfl, rfl⟩ | ⟨y, u, rfl, rfl⟩
      · rw [key_rl] at h; exact SeqAt.EqAt.str_int x t j u _ _ _ _ h
      · rw [key_rr] at h; exact wpAny_eqBool_str h
  «strs» := fun k x t v h => by
    rcases keyIs_shape h with ⟨i, u, rfl, e⟩ | ⟨y, u, rfl, e⟩
    · exact nomatch e
    · injection e with e1 _
      subst e1
      cases v <;> rfl

end L2

namespace L2
open PySem PySem.Spec PyProof.Rows

/-- a value, without the heap -/
inductive V where
  | non | bl (b : Bool) | int (i : Int) | str (x : Str) | byt (b : Array UInt8) | flt (b : UInt64) | ref (a : Addr) | ty (n : String)
  deriving DecidableEq

noncomputable def RelV : V → Value → Prop
  | .non, u => u = Value.none
  | .bl b, u => u = Value.bool b
  | .int i, u => ∃ t, u = Value.int i t
  | .str x, u => ∃ t, u = Value.str x t
  | .byt b, u => ∃ t, u = Value.bytes b t
  | .flt b, u => ∃ t, u = Value.float b t
  | .ref a, u => u = Value.ref a
  | .ty n, u => u = Value.type n

noncomputable abbrev Vals : List V → List Value → Prop := Paired RelV
theorem Vals.length {xs : List V} {us : List Value} (r : Vals xs us) : xs.length = us.length := Paired.length r
theorem Vals.get : ∀ {xs : List V} {us : List Value} {i : Nat} {x : V}, Vals xs us → xs[i]? = some x → ∃ u, us[i]? = some u ∧ RelV x u
  | _, _, _, _, .nil, e => by simp at e
  | _, _, 0, _, .cons r _, e => by simp at e; subst e; exact ⟨_, rfl, r⟩
  | _, _, i + 1, x, .cons _ t, e => by
    obtain ⟨u, h1, h2⟩ := Vals.get (i := i) (x := x) t (by simpa using e)
    exact ⟨u, by simpa using h1, h2⟩
theorem Vals.set {x : V} {u : Value} (r : RelV x u) : ∀ {xs : List V} {us : List Value} (i : Nat), Vals xs us → Vals (xs.set i x) (us.set i u)
  | _, _, _, .nil => .nil
  | _, _, 0, .cons _ t => .cons r t
  | _, _, i + 1, .cons q t => .cons q (Vals.set r i t)
theorem Vals.append : ∀ {xs ys : List V} {us ws : List Value}, Vals xs us → Vals ys ws → Vals (xs ++ ys) (us ++ ws)
  | _, _, _, _, .nil, s => s
  | _, _, _, _, .cons r t, s => .cons r (Vals.append t s)
theorem Vals.take : ∀ {xs : List V} {us : List Value} (n : Nat), Vals xs us → Vals (xs.take n) (us.take n)
  | _, _, 0, _ => .nil
  | _, _, _ + 1, .nil => .nil
  | _, _, n + 1, .cons r t => .cons r (Vals.take n t)
theorem Vals.drop : ∀ {xs : List V} {us : List Value} (n : Nat), Vals xs us → Vals (xs.drop n) (us.drop n)
  | _, _, 0, r => r
  | _, _, _ + 1, .nil => .nil
  | _, _, n + 1, .cons _ t => Vals.drop n t

noncomputable def RelO : Option V → Option Value → Prop
  | some v, some u => RelV v u
  | none, none => True
  | _, _ => False
noncomputable def KV {κ : Type} : List (κ × V) → List (κ × Value) → Prop := Paired fun (p : κ × V) (q : κ × Value) => p.1 = q.1 ∧ RelV p.2 q.2

/-- a key of a dict (00_mix): an int or a text -/
noncomputable def kV : Key → V
  | .inl i => .int i
  | .inr x => .str x

/-- what stands at a tracked address -/
inductive HO where
  /-- a list -/
  | lst (xs : List V)
  /-- a tuple (never changes) -/
  | tup (xs : List V)
  /-- a dict whose keys are ints and texts; one whose keys are tuples of ints and texts (the empty one is both) -/
  | dK (kvs : List (Key × V)) | dT (kvs : List (List Key × V))
  /-- a set of ints: its members, its size -/
  | set (S : Int → Bool) (n : Nat)
  /-- an instance of the class at C, its dict at dx, its attributes -/
  | ins (C dx : Addr) (fs : List (Str × V))
  /-- the dict of the instance at x -/
  | own (x : Addr)
  /-- the dict of an exception -/
  | xd (fs : List (Str × V))
  /-- a bound method, f of x -/
  | met (f x : Addr)
  /-- a range object lo, lo + 1, .. below hi -/
  | rng (lo hi : Int)
  /-- a thing that is known to the object (the script; a dict while a loop walks it): read, never written while it is so -/
  | frz (o : Obj) (u : HO)
  /-- a code object's table -/
  | tbl (ps : Array Value)
  /-- any other thing, by what is true of its one object (a def of one's own: SetO a S n := HO.ext fun h => ..) -/
  | ext (φ : Heap → Prop)

noncomputable abbrev Hp := Addr → Option HO
noncomputable def upd (H : Hp) (a : Addr) (o : HO) : Hp := fun b => if b = a then some o else H b
theorem upd_same {H : Hp} {a : Addr} {o : HO} : upd H a o a = some o := by unfold upd; rw [if_pos rfl]
theorem upd_ne {H : Hp} {a b : Addr} {o : HO} (h : b ≠ a) : upd H a o b = H b := by unfold upd; rw [if_neg h]
/-- two objects of different content stand apart -/
theorem ne_of {H : Hp} {a b : Addr} {o u : HO} (h : H a = some o) (h' : H b = some u) (d : o ≠ u) : a ≠ b := by
  intro e; subst e; rw [h] at h'; exact d (Option.some.inj h')
theorem ne_of_none {H : Hp} {a b : Addr} {o : HO} (h : H a = some o) (h' : H b = none) : a ≠ b := by
  intro e; subst e; rw [h] at h'; cases h'

section
variable (P : Program) (w : World)
noncomputable def ObjOk (H : Hp) (h : Heap) (a : Addr) : HO → Prop
  | .lst xs => xs.length ≤ sizeLine ∧ ∃ (its : List Value) (n : Nat), Vals xs its ∧ h.get? a = some { cls := .type "list", data := .seq its.toArray n }
  | .tup xs => xs.length ≤ sizeLine ∧ ∃ its : List Value, Vals xs its ∧ IsTup h a its.toArray
  | .dK kvs => kvs.length ≤ sizeLine ∧ (a == sysModules) = false ∧ ∃ vs, KV kvs vs ∧ h.DictOf (mixKind P w) a vs
  | .dT kvs => kvs.length ≤ sizeLine ∧ (a == sysModules) = false ∧ ∃ xs : List (List Key × Addr × Value),
      Paired (fun (p : List Key × V) (q : List Key × Addr × Value) => p.1 = q.1 ∧ H q.2.1 = some (.tup (p.1.map kV)) ∧ RelV p.2 q.2.2) kvs xs ∧
      ∃ o es ep, h.get? a = some o ∧ o.ExactDict ∧ o.data = .dict es ep ∧ es.toList = xs.map (entryOfKey (tupleKind (mixKind P w))) ∧ (xs.map (·.1)).Nodup
  | .set S n => h.SetOf (intKind P w) a S n
  | .ins C dx fs => H dx = some (.own a) ∧ fs.length ≤ 1000 ∧ dx ≠ a ∧ h.get? a = some (PySem.W.instObj C dx) ∧
      ∃ mA, h.Ns1 dx mA ∧ (∀ f, RelO (fs.lookup f) (mA f)) ∧ PySem.Within mA (fs.map (·.1))
  | .own _ => ∃ o, h.get? a = some o
  | .xd fs => ∃ mA, h.Ns1 a mA ∧ ∀ f, RelO (fs.lookup f) (mA f)
  | .rng lo hi => ∃ t u v, h.get? a = some { cls := .type "range", data := .fields #[.int lo t, .int hi u, .int 1 v] }
  | .frz o u => h.get? a = some o ∧ ObjOk H h a u
  | .tbl ps => h.get? a = some { cls := .none, data := .fields ps }
  | .met f x => h.get? a = some (PySem.W.methodObj (.ref f) (.ref x))
  | .ext φ => φ h ∧ (∃ o, h.get? a = some o) ∧ ∀ h1 h2 : Heap, φ h1 → (∀ o, h1.get? a = some o → h2.get? a = some o) → φ h2
/-- the abstract heap is held -/
noncomputable def HOk (H : Hp) (h : Heap) : Prop := ∀ a o, H a = some o → ObjOk P w H h a o
end

section
variable {P : Program} {w : World} {H H' : Hp} {h h' : Heap} {a : Addr} {o : HO}
theorem ObjOk.lt (x : ObjOk P w H h a o) : a < h.objs.size := by
  cases o with
  | lst xs => obtain ⟨_, _, _, _, e⟩ := x; exact Heap.lt_size e
  | tup xs => obtain ⟨_, _, _, p⟩ := x; exact p.lt
  | dK kvs => obtain ⟨_, _, _, _, o, _, _, e, _⟩ := x; exact Heap.lt_size e
  | dT kvs => obtain ⟨_, _, _, _, o, _, _, e, _⟩ := x; exact Heap.lt_size e
  | set S n => obtain ⟨o, _, _, _, e, _⟩ := x; exact Heap.lt_size e
  | ins C dx fs => obtain ⟨_, _, _, e, _⟩ := x; exact Heap.lt_size e
  | own y => obtain ⟨_, e⟩ := x; exact Heap.lt_size e
  | xd fs => obtain ⟨_, ⟨_, _, _, e, _⟩, _⟩ := x; exact Heap.lt_size e
  | rng lo hi => obtain ⟨_, _, _, e⟩ := x; exact Heap.lt_size e
  | frz ob u => obtain ⟨e, _⟩ := x; exact Heap.lt_size e
  | tbl ps => exact Heap.lt_size (show h.get? a = some _ from x)
  | met f y => exact Heap.lt_size (show h.get? a = some _ from x)
  | ext φ => obtain ⟨_, ⟨_, e⟩, _⟩ := x; exact Heap.lt_size e
theorem Paired.mapP {α β : Type} {F G : α → β → Prop} : ∀ {l₁ : List α} {l₂ : List β}, Paired F l₁ l₂ → (∀ a b, F a b → G a b) → Paired G l₁ l₂
  | _, _, .nil, _ => .nil
  | _, _, .cons r t, f => .cons (f _ _ r) (Paired.mapP t f)
/-- what an object's description leans on: its own object, its own dict, the tuples -/
theorem ObjOk.stay (x : ObjOk P w H h a o) (k : ∀ b u, (b = a ∨ H b = some (.own a)) → h.get? b = some u → h'.get? b = some u)
    (ho : ∀ b, H b = some (.own a) → H' b = some (.own a)) (ht : ∀ b xs, H b = some (.tup xs) → H' b = some (.tup xs)) : ObjOk P w H' h' a o := by
  induction o with
  | lst xs => obtain ⟨z, its, n, r, e⟩ := x; exact ⟨z, its, n, r, k _ _ (.inl rfl) e⟩
  | tup xs => obtain ⟨z, its, r, ob, e, c⟩ := x; exact ⟨z, its, r, ob, k _ _ (.inl rfl) e, c⟩
  | dK kvs => obtain ⟨z, y, vs, r, ob, es, ep, e, c⟩ := x; exact ⟨z, y, vs, r, ob, es, ep, k _ _ (.inl rfl) e, c⟩
  | dT kvs =>
    obtain ⟨z, y, xs, r, ob, es, ep, e, c⟩ := x
    exact ⟨z, y, xs, Paired.mapP r fun p q z => ⟨z.1, ht _ _ z.2.1, z.2.2⟩, ob, es, ep, k _ _ (.inl rfl) e, c⟩
  | set S n => obtain ⟨ob, es, ep, t, e, c⟩ := x; exact ⟨ob, es, ep, t, k _ _ (.inl rfl) e, c⟩
  | ins C dx fs =>
    obtain ⟨d, z, ne, e, mA, ⟨od, es, ep, e2, c⟩, r⟩ := x
    exact ⟨ho _ d, z, ne, k _ _ (.inl rfl) e, mA, ⟨od, es, ep, k _ _ (.inr d) e2, c⟩, r⟩
  | own y => obtain ⟨ob, e⟩ := x; exact ⟨ob, k _ _ (.inl rfl) e⟩
  | xd fs => obtain ⟨mA, ⟨od, es, ep, e, c⟩, r⟩ := x; exact ⟨mA, ⟨od, es, ep, k _ _ (.inl rfl) e, c⟩, r⟩
  | rng lo hi => obtain ⟨t, u, v, e⟩ := x; exact ⟨t, u, v, k _ _ (.inl rfl) e⟩
  | frz ob u ih => obtain ⟨e, q⟩ := x; exact ⟨k _ _ (.inl rfl) e, ih q⟩
  | tbl ps =>
    have e : h.get? a = some { cls := .none, data := .fields ps } := x
    show h'.get? a = some { cls := .none, data := .fields ps }
    exact k a _ (.inl rfl) e
  | met f y =>
    have e : h.get? a = some (PySem.W.methodObj (.ref f) (.ref y)) := x
    show h'.get? a = some (PySem.W.methodObj (.ref f) (.ref y))
    exact k a _ (.inl rfl) e
  | ext φ => obtain ⟨p, ⟨o, e⟩, st⟩ := x; exact ⟨st _ _ p fun o q => k _ _ (.inl rfl) q, ⟨o, k _ _ (.inl rfl) e⟩, st⟩
theorem HOk.lt (x : HOk P w H h) (e : H a = some o) : a < h.objs.size := (x a o e).lt
theorem HOk.fresh (x : HOk P w H h) (e : h.objs.size ≤ a) : H a = none := by
  cases q : H a with
  | none => rfl
  | some u => exact absurd (Nat.lt_of_lt_of_le (x.lt q) e) (Nat.lt_irrefl _)
/-- every object of the heap is kept -/
theorem HOk.kept (x : HOk P w H h) (k : ∀ b u, h.get? b = some u → h'.get? b = some u) : HOk P w H h' := fun a o e =>
  (x a o e).stay (fun b u _ q => k b u q) (fun _ q => q) fun _ _ q => q
/-- a new object is laid and tracked -/
theorem HOk.laid (x : HOk P w H h) (k : ∀ b u, h.get? b = some u → h'.get? b = some u) (hp : h.objs.size ≤ a) (new : ObjOk P w (upd H a o) h' a o) : HOk P w (upd H a o) h' := fun b u e => by
  have hn := x.fresh hp
  by_cases hb : b = a
  · subst hb; rw [upd_same] at e; cases e; exact new
  · rw [upd_ne hb] at e
    exact (x b u e).stay (fun c v _ q => k c v q) (fun c q => by rw [upd_ne (ne_of_none q hn)]; exact q) fun c xs q => by rw [upd_ne (ne_of_none q hn)]; exact q
end

/-- what may be read as u: it is u, or a known u -/
noncomputable def Rd (H : Hp) (a : Addr) (u : HO) : Prop := H a = some u ∨ ∃ o, H a = some (.frz o u)
theorem Rd.ok {P : Program} {w : World} {H : Hp} {h : Heap} {a : Addr} {u : HO} (r : Rd H a u) (x : HOk P w H h) : ObjOk P w H h a u := by
  rcases r with r | ⟨o, r⟩
  · exact x a u r
  · obtain ⟨_, q⟩ := x a _ r
    exact q
/-- what may be written -/
noncomputable def Mut : Option HO → Prop
  | some (.lst _) => True
  | some (.dK _) => True
  | some (.dT _) => True
  | some (.set _ _) => True
  | some (.ins _ _ _) => True
  | some (.ext _) => True
  | _ => False
section
variable {P : Program} {w : World} {H : Hp} {h h' : Heap} {x e : Addr} {o' : HO}
/-- the object at e is changed: x itself, or the dict of the instance x -/
theorem HOk.write (ok : HOk P w H h) (mu : Mut (H x)) (he : e = x ∨ H e = some (.own x)) (k : ∀ b u, b ≠ e → h.get? b = some u → h'.get? b = some u) (heo : ∃ u, h'.get? e = some u)
    (new : ObjOk P w (upd H x o') h' x o') : HOk P w (upd H x o') h' := fun b u q => by
  have nown : ∀ c y, H c = some (.own y) → c ≠ x := fun c y r z => by subst z; rw [r] at mu; exact mu
  have ntup : ∀ c xs, H c = some (.tup xs) → c ≠ x := fun c xs r z => by subst z; rw [r] at mu; exact mu
  by_cases hb : b = x
  · subst hb; rw [upd_same] at q; cases q; exact new
  · rw [upd_ne hb] at q
    by_cases hbe : b = e
    · have q' : H b = some (.own x) := by
        rcases he with z | z
        · exact absurd (hbe.trans z) hb
        · rw [hbe]; exact z
      rw [q] at q'; cases q'
      obtain ⟨v, hv⟩ := heo
      exact ⟨v, by rw [hbe]; exact hv⟩
    · refine (ok b u q).stay (fun c v hc r => k c v ?_ r) (fun c r => by rw [upd_ne (nown c b r)]; exact r) fun c xs r => by rw [upd_ne (ntup c xs r)]; exact r
      rcases hc with rfl | hc
      · exact hbe
      · rintro rfl
        rcases he with z | z
        · exact nown c b hc z
        · rw [hc] at z; cases z; exact hb rfl
end

/-! ### kept unless tracked; of the frames at fs (the callers') the slots may change (an exception that passes writes there); of the records at ex (iterators) nothing is said -/
structure Un (fs ex : List Addr) (H H' : Hp) (h h' : Heap) : Prop where
  keep : ∀ b o, h.get? b = some o → H b = none → b ∉ fs → b ∉ ex → h'.get? b = some o
  slot : ∀ b o, h.get? b = some o → H b = none → b ∈ fs → b ∉ ex → ∃ sl, h'.get? b = some { o with slots := sl }
  free : ∀ b o, h.get? b = some o → H b = none → b ∉ ex → H' b = none
  there : ∀ b o, h.get? b = some o → b ∉ ex → ∃ o', h'.get? b = some o'
  tups : ∀ b xs, H b = some (.tup xs) → H' b = some (.tup xs)
  frzs : ∀ b o u, H b = some (.frz o u) → H' b = some (.frz o u)
  tbls : ∀ b ps, H b = some (.tbl ps) → ∃ more, H' b = some (.tbl (ps ++ more))
section
variable {fs fs' ex ex' : List Addr} {H H1 H2 : Hp} {h h1 h2 h' : Heap} {a x e : Addr} {o : HO}
theorem Un.any (u : Un fs ex H H1 h h1) {b : Addr} {ob : Obj} (q : h.get? b = some ob) (n : H b = none) (hx : b ∉ ex) : ∃ sl, h1.get? b = some { ob with slots := sl } := by
  by_cases hb : b ∈ fs
  · exact u.slot b ob q n hb hx
  · exact ⟨ob.slots, u.keep b ob q n hb hx⟩
theorem Un.kept (k : ∀ b u, h.get? b = some u → h'.get? b = some u) : Un fs ex H H h h' :=
  ⟨fun b ob q _ _ _ => k b ob q, fun b ob q _ _ _ => ⟨ob.slots, k b ob q⟩, fun _ _ _ n _ => n, fun b ob q _ => ⟨ob, k b ob q⟩, fun _ _ q => q, fun _ _ _ q => q, fun _ ps q => ⟨#[], by rw [q]; simp⟩⟩
theorem Un.refl : Un fs ex H H h h := Un.kept fun _ _ q => q
theorem Un.laid (k : ∀ b u, h.get? b = some u → h'.get? b = some u) (hp : h.objs.size ≤ a) (hn : H a = none) : Un fs ex H (upd H a o) h h' where
  keep := fun b u q _ _ _ => k b u q
  slot := fun b u q _ _ _ => ⟨u.slots, k b u q⟩
  free := fun b u q n _ => by rw [upd_ne (Nat.ne_of_lt (Nat.lt_of_lt_of_le (Heap.lt_size q) hp))]; exact n
  there := fun b u q _ => ⟨u, k b u q⟩
  tups := fun b xs q => by rw [upd_ne (ne_of_none q hn)]; exact q
  frzs := fun b u xs q => by rw [upd_ne (ne_of_none q hn)]; exact q
  tbls := fun b ps q => ⟨#[], by rw [upd_ne (ne_of_none q hn), q]; simp⟩
theorem Un.write (mu : Mut (H x)) (he : e = x ∨ H e = some (.own x)) (k : ∀ b u, b ≠ e → h.get? b = some u → h'.get? b = some u) (heo : ∃ u, h'.get? e = some u) : Un fs ex H (upd H x o) h h' := by
  have hx : ∀ b, H b = none → b ≠ x := fun b n z => by subst z; rw [n] at mu; exact mu
  have hb : ∀ b, H b = none → b ≠ e := fun b n z => by
    subst z
    rcases he with r | r
    · exact hx b n r
    · rw [n] at r; cases r
  have hm : ∀ b u, H b = some u → ¬ Mut (some u) → b ≠ x := fun b u q nm z => by subst z; rw [q] at mu; exact nm mu
  refine ⟨fun b u q n _ _ => k b u (hb b n) q, fun b u q n _ _ => ⟨u.slots, k b u (hb b n) q⟩, fun b u q n _ => by rw [upd_ne (hx b n)]; exact n, fun b u q _ => ?_,
    fun b xs q => by rw [upd_ne (hm b _ q fun z => z)]; exact q, fun b u xs q => by rw [upd_ne (hm b _ q fun z => z)]; exact q, fun b ps q => ⟨#[], by rw [upd_ne (hm b _ q fun z => z), q]; simp⟩⟩
  by_cases hbe : b = e
  · subst hbe; exact heo
  · exact ⟨u, k b u hbe q⟩
end

/-! ### the heap without what is tracked -/
noncomputable def trk (h : Heap) (H : Hp) : List Addr := (List.range h.objs.size).filter fun a => (H a).isSome
noncomputable def hidT (h : Heap) (H : Hp) : Heap := PySem.W.hideAll h (trk h H)
theorem hidT_size (h : Heap) (H : Hp) : (hidT h H).objs.size = h.objs.size := PySem.W.hideAll_size _ _
theorem hidT_get {h : Heap} {H : Hp} {b : Addr} {o : Obj} (e : h.get? b = some o) (n : H b = none) : (hidT h H).get? b = some o :=
  PySem.W.hideAll_get _ e fun hm => by
    have q : (H b).isSome = true := (List.mem_filter.mp hm).2
    rw [n] at q; simp at q
theorem of_hidT {h : Heap} {H : Hp} {b : Addr} {o : Obj} (e : (hidT h H).get? b = some o) : h.get? b = some o ∧ H b = none := by
  have e' : h.get? b = some o := PySem.W.of_hideAll (trk h H) e
  refine ⟨e', ?_⟩
  cases q : H b with
  | none => rfl
  | some x =>
    have hm : b ∈ trk h H := List.mem_filter.mpr ⟨List.mem_range.mpr (Heap.lt_size e'), by simp [q]⟩
    have z : (hidT h H).get? b = none := PySem.W.hideAll_none (trk h H) hm
    rw [z] at e; cases e

/-! ### OpenK's ledger, filled with every new object but one -/
noncomputable def allNews (g h : Heap) (L : Addr) : List (Addr × Obj) := (List.range h.objs.size).filterMap fun a => if a = L ∨ (g.get? a).isSome = true then none else (h.get? a).map fun o => (a, o)
noncomputable def rest (g h : Heap) (L d : Addr) : List (Addr × Obj) := (allNews g h L).filter fun p => decide (p.1 ≠ d)
end L2

namespace L2
open PySem PySem.Spec PyProof.Rows

/-- the module's facts, over the base: the heap at the law's entry without what is tracked there -/
structure Mod (K : PySem.W.Frag) (mg : Str → Option Value) (base : Heap) : Prop where
  kin : K.In base
  glob : base.Ns mainGlobals mg
  blt : ∃ mb, base.Ns builtinsNs mb ∧ ∀ x : Str, x ≠ "__name__" → mb x = bootBuiltins x
  nolimit : base.NoLimit

/-- the context: a def's body (or a comprehension's block) running. base: fixed through the whole law; s₀, H₀: the entry; outer: the frames whose slots others may change (a def's callers); stack: all frames that run;
   ex: iterators that were made ahead of the entry and are walked here (a comprehension's); fn: the names whose cells were made at the entry (a def: all; a comprehension's block: its own); calm: not within an except suite; pn: pins that every state bears; xe: what is wanted of an exception that leaves the code -/
structure Cx where
  prog : Program
  w : World
  K : PySem.W.Frag
  mg : Str → Option Value
  base : Heap
  A : Around
  N : List Str
  s₀ : Shared
  H₀ : Hp
  env : Env
  outer : List Env
  stack : List Env
  ex : List Addr
  fn : Str → Bool
  calm : Bool
  pn : List (Addr × Obj)
  xe : Value → Shared → Prop
/-- the callers' frames -/
noncomputable def frs (l : List Env) : List Addr := l.filterMap (·.frame)
noncomputable abbrev Cx.fs (X : Cx) : List Addr := frs X.outer

noncomputable def Vis (sc : Scope) (x : Str) : Prop := sc.names.lookup x = some .local ∨ sc.names.lookup x = some .cell ∨ sc.names.lookup x = some .free
noncomputable def Loc (sc : Scope) (x : Str) : Prop := sc.names.lookup x = some .local ∨ sc.names.lookup x = some .cell
noncomputable def Look (env : Env) (h : Heap) (m : Str → Option Value) (x : Str) (u : Value) : Prop :=
  (env.kindOf x = some .local ∧ m x = some u) ∨ ((env.kindOf x = some .cell ∨ env.kindOf x = some .free) ∧ ∃ c, env.cells.lookup x = some c ∧ h.IsCell c (some u))

structure Cx.Ok (X : Cx) : Prop where
  mod : Mod X.K X.mg X.base
  kind : X.env.scope.kind = .function
  glob : X.env.globals = mainGlobals
  blt : X.env.builtins = builtinsNs
  above : X.s₀.heap.objs.size ≤ X.env.locals
  inj : ∀ x y c, X.env.cells.lookup x = some c → X.env.cells.lookup y = some c → x = y
  has : ∀ x, (X.env.kindOf x = some .cell ∨ X.env.kindOf x = some .free) → ∃ c, X.env.cells.lookup x = some c
  cab : ∀ x c, X.fn x = true → X.env.cells.lookup x = some c → X.s₀.heap.objs.size ≤ c
  hd : X.calm = true → X.A.handled = none
  frames : X.A.frames = some X.stack
  stk : X.stack = X.outer ∨ (X.stack = X.env :: X.outer ∧ X.env.frame = some X.env.locals)
  exf : ∀ b ∈ X.ex, b ≠ X.env.locals ∧ ∀ x c, X.env.cells.lookup x = some c → c ≠ b
  bs : ∀ b o, X.base.get? b = some o → X.s₀.heap.get? b = some o ∧ X.H₀ b = none
  bsz : X.base.objs.size ≤ X.s₀.heap.objs.size
  noex : ∀ b o, X.base.get? b = some o → b ∉ X.ex
  exfs : ∀ b ∈ X.ex, b ∉ X.fs
  funs : X.s₀.heap.FunFrames X.base X.outer
  frf : ∀ b ∈ X.fs, X.H₀ b = none

structure Inv (X : Cx) (pins : List (Addr × Obj)) (σ : List (Option V)) (H : Hp) (s : Shared) : Prop where
  ok : X.Ok
  os : s.os = X.s₀.os
  bare : AllBare s.gens
  base : Un X.fs X.ex X.H₀ H X.s₀.heap s.heap
  loc : ∃ m, s.heap.Ns X.env.locals m ∧ ∀ (i : Nat) (x : Str) (v : V), X.N[i]? = some x → σ[i]? = some (some v) → Vis X.env.scope x → ∃ u, RelV v u ∧ Look X.env s.heap m x u
  cell : ∀ x c, X.env.cells.lookup x = some c → ∃ v, s.heap.IsCell c v
  free : H X.env.locals = none
  freeC : ∀ x c, X.env.cells.lookup x = some c → H c = none
  pin : ∀ p ∈ X.pn ++ pins, s.heap.get? p.1 = some p.2 ∧ H p.1 = none ∧ p.1 ≠ X.env.locals ∧ p.1 ∉ X.fs ∧ ∀ v, p.2.data ≠ .cell v
  hok : HOk X.prog X.w H s.heap
  len : σ.length = X.N.length

section
variable {X : Cx} {pins : List (Addr × Obj)} {σ : List (Option V)} {H H' : Hp} {s : Shared} {h' : Heap}

theorem Cx.Ok.nofr (ok : X.Ok) {b : Addr} {o : Obj} (e : X.base.get? b = some o) : b ∉ X.fs := fun hb => by
  have := (ok.funs.mem hb).1
  rw [e] at this; cases this
theorem Inv.bs (I : Inv X pins σ H s) : ∀ b o, X.base.get? b = some o → s.heap.get? b = some o ∧ H b = none := fun b o e =>
  ⟨I.base.keep b o (I.ok.bs b o e).1 (I.ok.bs b o e).2 (I.ok.nofr e) (I.ok.noex b o e), I.base.free b o (I.ok.bs b o e).1 (I.ok.bs b o e).2 (I.ok.noex b o e)⟩
theorem Inv.bk (I : Inv X pins σ H s) : ∀ b o, X.base.get? b = some o → s.heap.get? b = some o := fun b o e => (I.bs b o e).1
theorem Inv.mod (I : Inv X pins σ H s) : Mod X.K X.mg X.base := I.ok.mod
theorem Inv.kIn (I : Inv X pins σ H s) : X.K.In s.heap := I.ok.mod.kin.keeps I.bk
/-- the frame over the base: for OpenK's rules (K.In X.base is I.mod.kin) -/
theorem Inv.fr (I : Inv X pins σ H s) : ∃ m, Fr X.base X.env.locals s.heap m :=
  let ⟨m, hn, _⟩ := I.loc
  ⟨m, hn, I.bk, Nat.le_trans I.ok.bsz I.ok.above⟩
theorem Inv.lt (I : Inv X pins σ H s) : X.env.locals < s.heap.objs.size := let ⟨_, hn, _⟩ := I.loc; hn.lt
theorem Inv.sz (I : Inv X pins σ H s) : X.s₀.heap.objs.size ≤ s.heap.objs.size := Nat.le_trans I.ok.above (Nat.le_of_lt I.lt)
theorem Inv.nofs (I : Inv X pins σ H s) {a : Addr} (h : s.heap.objs.size ≤ a) : a ∉ X.fs := fun hb => by
  obtain ⟨_, o, ho, _⟩ := I.ok.funs.mem hb
  exact absurd (Nat.lt_of_lt_of_le (Heap.lt_size ho) (Nat.le_trans I.sz h)) (Nat.lt_irrefl _)
theorem Inv.cne (I : Inv X pins σ H s) : ∀ x c, X.env.cells.lookup x = some c → c ≠ X.env.locals := fun x c e z => by
  obtain ⟨v, o, ho, hd⟩ := I.cell x c e
  obtain ⟨m, ⟨o', es, ep, ho', hd', _⟩, _⟩ := I.loc
  rw [z, ho'] at ho; cases ho; rw [hd'] at hd; cases hd
theorem Inv.funs (I : Inv X pins σ H s) : s.heap.FunFrames X.base X.outer := by
  have all : ∀ (l : List Env), (∀ b ∈ frs l, b ∈ X.fs) → X.s₀.heap.FunFrames X.base l → s.heap.FunFrames X.base l := by
    intro l
    induction l with
    | nil => intro _ _; trivial
    | cons env r ih =>
      intro hs hl
      obtain ⟨hk, ⟨L, o, hf, hn, ho, hd⟩, hr⟩ := hl
      have hL : L ∈ X.fs := hs L (by unfold frs; rw [List.filterMap_cons, hf]; exact List.mem_cons_self)
      obtain ⟨sl, e⟩ := I.base.slot L o ho (I.ok.frf L hL) hL fun z => I.ok.exfs L z hL
      exact ⟨hk, ⟨L, _, hf, hn, e, hd⟩, ih (fun b hb => hs b (by unfold frs; rw [List.filterMap_cons, hf]; exact List.mem_cons_of_mem _ hb)) hr⟩
  exact all X.outer (fun _ hb => hb) I.ok.funs

/-- the frames that run, for a call -/
theorem Inv.stack (I : Inv X pins σ H s) : s.heap.FunFrames X.base X.stack := by
  rcases I.ok.stk with e | ⟨e, hf⟩
  · rw [e]; exact I.funs
  · rw [e]
    obtain ⟨m, hn, _⟩ := I.loc
    refine .cons (by rw [I.ok.kind]; decide) hf hn ?_ I.funs
    exact Heap.get?_none_of_le (Nat.le_trans I.ok.bsz I.ok.above)
theorem Inv.stkSub (I : Inv X pins σ H s) : ∀ b ∈ frs X.stack, b ∈ X.env.locals :: X.fs := fun b hb => by
  rcases I.ok.stk with e | ⟨e, hf⟩
  · rw [e] at hb; exact List.mem_cons_of_mem _ hb
  · rw [e] at hb
    unfold frs at hb
    rw [List.filterMap_cons, hf] at hb
    exact hb
theorem Inv.stkFree (I : Inv X pins σ H s) : ∀ b ∈ frs X.stack, H b = none := fun b hb => by
  rcases List.mem_cons.mp (I.stkSub b hb) with e | hb
  · rw [e]; exact I.free
  · obtain ⟨_, o, ho, _⟩ := I.ok.funs.mem hb
    exact I.base.free b o ho (I.ok.frf b hb) fun z => I.ok.exfs b z hb

/-- THE STEP: the untracked objects but the frame and the records at ch are kept (the callers' frames up to slots), the frame's map is kept, the new abstract heap is held -/
theorem Inv.step {g' : Array GenState} {t' : Nat} {d' : Drawn} {ch : List Addr} (I : Inv X pins σ H s)
    (hch : ∀ b ∈ ch, (b ∈ X.ex ∨ X.s₀.heap.objs.size ≤ b) ∧ b ≠ X.env.locals ∧ (∀ x c, X.env.cells.lookup x = some c → c ≠ b) ∧ ∀ p ∈ X.pn ++ pins, p.1 ≠ b)
    (keep : ∀ b o, b ≠ X.env.locals → b ∉ X.fs → b ∉ ch → s.heap.get? b = some o → H b = none → h'.get? b = some o)
    (slot : ∀ b o, b ≠ X.env.locals → b ∈ X.fs → b ∉ ch → s.heap.get? b = some o → H b = none → ∃ sl, h'.get? b = some { o with slots := sl }) (free : ∀ b o, b ∉ ch → s.heap.get? b = some o → H b = none → H' b = none)
    (there : ∀ b o, b ∉ ch → s.heap.get? b = some o → ∃ o', h'.get? b = some o')
    (tups : ∀ b xs, H b = some (.tup xs) → H' b = some (.tup xs)) (frzs : ∀ b o u, H b = some (.frz o u) → H' b = some (.frz o u)) (tbls : ∀ b ps, H b = some (.tbl ps) → ∃ more, H' b = some (.tbl (ps ++ more)))
    (ns : ∀ m, s.heap.Ns X.env.locals m → h'.Ns X.env.locals m) (hok : HOk X.prog X.w H' h') (hg : AllBare g') :
    Inv X pins σ H' { s with heap := h', gens := g', drawn := d', toks := t' } := by
  have neL : ∀ b o, X.s₀.heap.get? b = some o → b ≠ X.env.locals := fun b o e => Nat.ne_of_lt (Nat.lt_of_lt_of_le (Heap.lt_size e) I.ok.above)
  have neC : ∀ b o, X.s₀.heap.get? b = some o → b ∉ X.ex → b ∉ ch := fun b o e hx hb => by
    rcases (hch b hb).1 with z | z
    · exact hx z
    · exact absurd (Nat.lt_of_lt_of_le (Heap.lt_size e) z) (Nat.lt_irrefl _)
  have cellK : ∀ x c, X.env.cells.lookup x = some c → ∀ v, s.heap.IsCell c v → h'.IsCell c v := fun x c e v ⟨o, ho, hd⟩ => by
    have nch : c ∉ ch := fun z => (hch c z).2.2.1 x c e rfl
    by_cases hc : c ∈ X.fs
    · obtain ⟨sl, q⟩ := slot c o (I.cne x c e) hc nch ho (I.freeC x c e)
      exact ⟨_, q, hd⟩
    · exact ⟨o, keep c o (I.cne x c e) hc nch ho (I.freeC x c e), hd⟩
  refine ⟨I.ok, I.os, hg, ⟨fun b o e n hb hx => ?_, fun b o e n hb hx => ?_, fun b o e n hx => ?_, fun b o e hx => ?_, fun b xs e => tups b xs (I.base.tups b xs e), fun b o xs e => frzs b o xs (I.base.frzs b o xs e), fun b ps e => ?_⟩, ?_, fun x c e => ?_, ?_, fun x c e => ?_, fun p hp => ?_, hok, I.len⟩
  · exact keep b o (neL b o e) hb (neC b o e hx) (I.base.keep b o e n hb hx) (I.base.free b o e n hx)
  · obtain ⟨sl, e1⟩ := I.base.slot b o e n hb hx
    obtain ⟨sl', e2⟩ := slot b _ (neL b o e) hb (neC b o e hx) e1 (I.base.free b o e n hx)
    exact ⟨sl', e2⟩
  · obtain ⟨o', e1⟩ := I.base.there b o e hx
    exact free b o' (neC b o e hx) e1 (I.base.free b o e n hx)
  · obtain ⟨o', e1⟩ := I.base.there b o e hx
    exact there b o' (neC b o e hx) e1
  · obtain ⟨m1, e1⟩ := I.base.tbls b ps e
    obtain ⟨m2, e2⟩ := tbls b _ e1
    exact ⟨m1 ++ m2, by rw [e2, Array.append_assoc]⟩
  · obtain ⟨m, hn, hl⟩ := I.loc
    refine ⟨m, ns m hn, fun i x v e1 e2 e3 => ?_⟩
    obtain ⟨u, r, l⟩ := hl i x v e1 e2 e3
    refine ⟨u, r, ?_⟩
    rcases l with l | ⟨k, c, e, z⟩
    · exact .inl l
    · exact .inr ⟨k, c, e, cellK x c e _ z⟩
  · obtain ⟨v, z⟩ := I.cell x c e
    exact ⟨v, cellK x c e v z⟩
  · obtain ⟨m, ⟨o, _, _, ho, _⟩, _⟩ := I.loc
    exact free _ o (fun z => (hch _ z).2.1 rfl) ho I.free
  · obtain ⟨v, o, ho, hd⟩ := I.cell x c e
    exact free c o (fun z => (hch c z).2.2.1 x c e rfl) ho (I.freeC x c e)
  · obtain ⟨e, n, ne, nf, d⟩ := I.pin p hp
    have nch : p.1 ∉ ch := fun z => (hch p.1 z).2.2.2 p hp rfl
    exact ⟨keep p.1 p.2 ne nf nch e n, free p.1 p.2 nch e n, ne, nf, d⟩
/-- .. where the frame's own object is kept too -/
theorem Inv.un {t' : Nat} (I : Inv X pins σ H s) (u : Un X.fs [] H H' s.heap h') (hok : HOk X.prog X.w H' h') : Inv X pins σ H' { s with heap := h', toks := t' } := by
  obtain ⟨m, ⟨o, es, ep, ho, r⟩, _⟩ := id I.loc
  obtain ⟨sl, hL⟩ := u.any ho I.free (by simp)
  exact I.step (g' := s.gens) (d' := s.drawn) (ch := []) (fun _ z => nomatch z) (fun b o _ hb _ e n => u.keep b o e n hb (by simp)) (fun b o _ hb _ e n => u.slot b o e n hb (by simp)) (fun b o _ e n => u.free b o e n (by simp)) (fun b o _ e => u.there b o e (by simp)) u.tups u.frzs u.tbls (fun m' hm => by
    obtain ⟨o', es', ep', ho', r'⟩ := hm
    rw [ho] at ho'; cases ho'
    exact ⟨_, es', ep', hL, r'⟩) hok I.bare
/-- behind a call (or a comprehension's block): the slots of this frame may have changed too, the records at ch may have turned -/
theorem Inv.call {g' : Array GenState} {t' : Nat} {d' : Drawn} {ch : List Addr} (I : Inv X pins σ H s) (u : Un (frs X.stack) ch H H' s.heap h') (hok : HOk X.prog X.w H' h') (hg : AllBare g')
    (hch : ∀ b ∈ ch, (b ∈ X.ex ∨ X.s₀.heap.objs.size ≤ b) ∧ b ≠ X.env.locals ∧ (∀ x c, X.env.cells.lookup x = some c → c ≠ b) ∧ ∀ p ∈ X.pn ++ pins, p.1 ≠ b) :
    Inv X pins σ H' { s with heap := h', gens := g', drawn := d', toks := t' } := by
  obtain ⟨m, ⟨o, es, ep, ho, r⟩, _⟩ := id I.loc
  obtain ⟨sl, hL⟩ := u.any ho I.free fun z => (hch _ z).2.1 rfl
  exact I.step (ch := ch) hch (fun b o hL hb hc e n => u.keep b o e n (fun z => (List.mem_cons.mp (I.stkSub b z)).elim hL hb) hc) (fun b o _ _ hc e n => u.any e n hc) (fun b o hc e n => u.free b o e n hc) (fun b o hc e => u.there b o e hc) u.tups u.frzs u.tbls (fun m' hm => by
    obtain ⟨o', es', ep', ho', r'⟩ := hm
    rw [ho] at ho'; cases ho'
    exact ⟨_, es', ep', hL, r'⟩) hok hg
/-- an untracked record of ours (an iterator) has turned -/
theorem Inv.turned {t' : Nat} {it : Addr} (I : Inv X pins σ H s) (k : ∀ b o, b ≠ it → s.heap.get? b = some o → h'.get? b = some o) (hn : H it = none) (hL : it ≠ X.env.locals)
    (h1 : it ∈ X.ex ∨ X.s₀.heap.objs.size ≤ it) (h2 : ∀ x c, X.env.cells.lookup x = some c → c ≠ it) (h3 : ∀ p ∈ X.pn ++ pins, p.1 ≠ it) : Inv X pins σ H { s with heap := h', toks := t' } := by
  have nit : ∀ b u, H b = some u → b ≠ it := fun b u e z => by rw [z, hn] at e; cases e
  refine I.step (g' := s.gens) (d' := s.drawn) (ch := [it]) (fun b hb => ?_) (fun b o _ _ hc e _ => k b o (fun z => hc (by simp [z])) e) (fun b o _ _ hc e _ => ⟨o.slots, k b o (fun z => hc (by simp [z])) e⟩) (fun _ _ _ _ n => n)
    (fun b o hc e => ⟨o, k b o (fun z => hc (by simp [z])) e⟩) (fun _ _ e => e) (fun _ _ _ e => e) (fun b ps e => ⟨#[], by rw [e]; simp⟩) (fun m hm => ?_) (fun b u e => ?_) I.bare
  · have e : b = it := by simpa using hb
    subst e
    exact ⟨h1, hL, h2, h3⟩
  · obtain ⟨o, es, ep, ho, r⟩ := hm
    exact ⟨o, es, ep, k _ o (Ne.symm hL) ho, r⟩
  · refine (I.hok b u e).stay (fun c v hc q => k c v ?_ q) (fun _ q => q) fun _ _ q => q
    rcases hc with z | z
    · rw [z]; exact nit b u e
    · exact nit c _ z
theorem Inv.tok (I : Inv X pins σ H s) (t : Nat) : Inv X pins σ H { s with toks := t } := I.un (h' := s.heap) (t' := t) Un.refl I.hok
/-- all objects kept -/
theorem Inv.kept {t' : Nat} (I : Inv X pins σ H s) (k : ∀ b u, s.heap.get? b = some u → h'.get? b = some u) : Inv X pins σ H { s with heap := h', toks := t' } := I.un (Un.kept k) (I.hok.kept k)
/-- a new object laid and tracked -/
theorem Inv.laid {a : Addr} {o : HO} {t' : Nat} (I : Inv X pins σ H s) (k : ∀ b u, s.heap.get? b = some u → h'.get? b = some u) (hp : s.heap.objs.size ≤ a) (new : ObjOk X.prog X.w (upd H a o) h' a o) :
    Inv X pins σ (upd H a o) { s with heap := h', toks := t' } := I.un (Un.laid k hp (I.hok.fresh hp)) (I.hok.laid k hp new)
/-- an object written -/
theorem Inv.write {x e : Addr} {o : HO} {t' : Nat} (I : Inv X pins σ H s) (mu : Mut (H x)) (he : e = x ∨ H e = some (.own x)) (k : ∀ b u, b ≠ e → s.heap.get? b = some u → h'.get? b = some u) (heo : ∃ u, h'.get? e = some u)
    (new : ObjOk X.prog X.w (upd H x o) h' x o) : Inv X pins σ (upd H x o) { s with heap := h', toks := t' } := I.un (Un.write mu he k heo) (I.hok.write mu he k heo new)
/-- forgetting slots, pins -/
theorem Inv.weak {σ' : List (Option V)} (I : Inv X pins σ H s) (hl : σ'.length = σ.length) (w : ∀ (i : Nat) v, σ'[i]? = some (some v) → σ[i]? = some (some v)) : Inv X pins σ' H s :=
  ⟨I.ok, I.os, I.bare, I.base, let ⟨m, hn, hl'⟩ := I.loc; ⟨m, hn, fun i x v e1 e2 e3 => hl' i x v e1 (w i v e2) e3⟩, I.cell, I.free, I.freeC, I.pin, I.hok, hl.trans I.len⟩
theorem Inv.pins_of {pins' : List (Addr × Obj)} (I : Inv X pins σ H s) (h : ∀ p ∈ pins', s.heap.get? p.1 = some p.2 ∧ H p.1 = none ∧ p.1 ≠ X.env.locals ∧ p.1 ∉ X.fs ∧ ∀ v, p.2.data ≠ .cell v) : Inv X pins' σ H s :=
  ⟨I.ok, I.os, I.bare, I.base, I.loc, I.cell, I.free, I.freeC, fun p hp => (List.mem_append.mp hp).elim (fun z => I.pin p (List.mem_append_left _ z)) (h p), I.hok, I.len⟩

theorem nodup_ix {N : List Str} (hN : N.Nodup) {i j : Nat} {x : Str} (a : N[i]? = some x) (b : N[j]? = some x) : i = j := by
  obtain ⟨h1, e1⟩ := List.getElem?_eq_some_iff.mp a
  obtain ⟨h2, e2⟩ := List.getElem?_eq_some_iff.mp b
  exact (List.getElem_inj hN).mp (e1.trans e2.symm)

/-- a name is stored; what changed -/
theorem store_ok2 {M : Model} {A : Around} {E : Value → Shared → Prop} {i : Nat} {x : Str} {v : V} {u : Value} {Q : Unit → Shared → Prop} (I : Inv X pins σ H s) (hN : X.N.Nodup) (hi : X.N[i]? = some x) (hx : Loc X.env.scope x) (r : RelV v u)
    (h : ∀ s', Inv X pins (σ.set i (some v)) H s' → (∃ a, Heap.SameBut a s.heap s'.heap ∧ (a = X.env.locals ∨ X.env.cells.lookup x = some a)) → Q () s') (hf : X.fn x = true ∨ X.env.scope.names.lookup x = some .local := by first | exact .inl rfl | exact .inr rfl | assumption) : wpAny M A (storeName X.env x u) Q E s := by
  obtain ⟨m, hn, hl⟩ := id I.loc
  have hcls : (X.env.scope.kind == .class || (X.env.scope.kind == .module && X.env.locals != X.env.globals)) = false := by rw [I.ok.kind]; rfl
  have hiσ : i < σ.length := by rw [I.len]; exact (List.getElem?_eq_some_iff.mp hi).1
  have cne := I.cne
  have tracked : ∀ {a : Addr} {h' : Heap}, (∃ o, s.heap.get? a = some o ∧ H a = none) → Heap.SameBut a s.heap h' → HOk X.prog X.w H h' := fun {a h'} ha hs b ob e => by
    obtain ⟨_, _, hfree⟩ := ha
    refine (I.hok b ob e).stay (fun c w' hc q => (hs.2 c ?_).trans q) (fun _ q => q) fun _ _ q => q
    rintro rfl
    rcases hc with rfl | hc
    · rw [hfree] at e; cases e
    · rw [hfree] at hc; cases hc
  rcases hx with hk | hk
  · refine wpAny_storeName_local hk hn (fun h' hn' hs => ?_) hcls
    obtain ⟨oL, _, _, hoL, _⟩ := id hn
    refine h _ ⟨I.ok, I.os, I.bare, ⟨fun b o e n hb hx => ?_, fun b o e n hb hx => ?_, I.base.free, fun b o e hx => ?_, I.base.tups, I.base.frzs, I.base.tbls⟩, ⟨_, hn', fun j y v' e1 e2 e3 => ?_⟩, fun y c e => ?_, I.free, I.freeC, fun p hp => ?_, tracked ⟨oL, hoL, I.free⟩ hs, by simpa using I.len⟩ ⟨_, hs, .inl rfl⟩
    · exact (hs.2 b (Nat.ne_of_lt (Nat.lt_of_lt_of_le (Heap.lt_size e) I.ok.above))).trans (I.base.keep b o e n hb hx)
    · obtain ⟨sl, e1⟩ := I.base.slot b o e n hb hx
      exact ⟨sl, (hs.2 b (Nat.ne_of_lt (Nat.lt_of_lt_of_le (Heap.lt_size e) I.ok.above))).trans e1⟩
    · obtain ⟨o', e1⟩ := I.base.there b o e hx
      exact ⟨o', (hs.2 b (Nat.ne_of_lt (Nat.lt_of_lt_of_le (Heap.lt_size e) I.ok.above))).trans e1⟩
    · by_cases hj : j = i
      · subst hj
        rw [hi] at e1; cases e1
        rw [List.getElem?_set_self hiσ] at e2
        cases e2
        exact ⟨u, r, .inl ⟨hk, by simp⟩⟩
      · rw [List.getElem?_set_ne (Ne.symm hj)] at e2
        obtain ⟨u', r', q⟩ := hl j y v' e1 e2 e3
        refine ⟨u', r', ?_⟩
        rcases q with ⟨k, e⟩ | ⟨k, c, e, z⟩
        · refine .inl ⟨k, ?_⟩
          have : y ≠ x := fun e => hj (nodup_ix hN e1 (e ▸ hi))
          simp [this, e]
        · exact .inr ⟨k, c, e, z.sameBut hs (cne y c e)⟩
    · obtain ⟨w', z⟩ := I.cell y c e
      exact ⟨w', z.sameBut hs (cne y c e)⟩
    · obtain ⟨e, n, ne, nf, d⟩ := I.pin p hp
      exact ⟨(hs.2 p.1 ne).trans e, n, ne, nf, d⟩
  · have hfn : X.fn x = true := by
      rcases hf with z | z
      · exact z
      · rw [z] at hk; cases hk
    obtain ⟨c, hc⟩ := I.ok.has x (.inl hk)
    obtain ⟨w', z⟩ := I.cell x c hc
    refine wpAny_storeName_cell I.ok.kind hk hc z (fun h' hc' hs => ?_)
    obtain ⟨oc, hoc, hocd⟩ := id z
    refine h { s with heap := h' } ⟨I.ok, I.os, I.bare, ⟨fun b o e n hb hx => ?_, fun b o e n hb hx => ?_, I.base.free, fun b o e hx => ?_, I.base.tups, I.base.frzs, I.base.tbls⟩, ⟨m, hn.sameBut hs (Ne.symm (cne x c hc)), fun j y v' e1 e2 e3 => ?_⟩, fun y c' e => ?_, I.free, I.freeC, fun p hp => ?_, tracked ⟨oc, hoc, I.freeC x c hc⟩ hs, by simpa using I.len⟩ ⟨c, hs, .inr hc⟩
    · exact (hs.2 b (Nat.ne_of_lt (Nat.lt_of_lt_of_le (Heap.lt_size e) (I.ok.cab x c hfn hc)))).trans (I.base.keep b o e n hb hx)
    · obtain ⟨sl, e1⟩ := I.base.slot b o e n hb hx
      exact ⟨sl, (hs.2 b (Nat.ne_of_lt (Nat.lt_of_lt_of_le (Heap.lt_size e) (I.ok.cab x c hfn hc)))).trans e1⟩
    · obtain ⟨o', e1⟩ := I.base.there b o e hx
      exact ⟨o', (hs.2 b (Nat.ne_of_lt (Nat.lt_of_lt_of_le (Heap.lt_size e) (I.ok.cab x c hfn hc)))).trans e1⟩
    · by_cases hj : j = i
      · subst hj
        rw [hi] at e1; cases e1
        rw [List.getElem?_set_self hiσ] at e2
        cases e2
        exact ⟨u, r, .inr ⟨.inl hk, c, hc, hc'⟩⟩
      · rw [List.getElem?_set_ne (Ne.symm hj)] at e2
        obtain ⟨u', r', q⟩ := hl j y v' e1 e2 e3
        refine ⟨u', r', ?_⟩
        rcases q with q | ⟨k, c', e, z'⟩
        · exact .inl q
        · refine .inr ⟨k, c', e, z'.sameBut hs ?_⟩
          rintro rfl
          exact hj (nodup_ix hN e1 (I.ok.inj _ _ _ e hc ▸ hi))
    · by_cases hcc : c' = c
      · subst hcc; exact ⟨_, hc'⟩
      · obtain ⟨w2, z2⟩ := I.cell y c' e
        exact ⟨w2, z2.sameBut hs hcc⟩
    · obtain ⟨e, n, ne, nf, d⟩ := I.pin p hp
      refine ⟨(hs.2 p.1 ?_).trans e, n, ne, nf, d⟩
      intro q
      rw [q, hoc] at e
      have q' : oc = p.2 := Option.some.inj e
      exact d w' (by rw [← q']; exact hocd)
theorem store_ok {M : Model} {A : Around} {E : Value → Shared → Prop} {i : Nat} {x : Str} {v : V} {u : Value} {Q : Unit → Shared → Prop} (I : Inv X pins σ H s) (hN : X.N.Nodup) (hi : X.N[i]? = some x) (hx : Loc X.env.scope x) (r : RelV v u)
    (h : ∀ s', Inv X pins (σ.set i (some v)) H s' → Q () s') (hf : X.fn x = true ∨ X.env.scope.names.lookup x = some .local := by first | exact .inl rfl | exact .inr rfl | assumption) : wpAny M A (storeName X.env x u) Q E s :=
  store_ok2 I hN hi hx r (fun s' I' _ => h s' I') hf
/-- behind a call or a block, the state as it is -/
theorem Inv.call' {s' : Shared} {ch : List Addr} (I : Inv X pins σ H s) (ho : s'.os = s.os) (u : Un (frs X.stack) ch H H' s.heap s'.heap) (hok : HOk X.prog X.w H' s'.heap) (hg : AllBare s'.gens)
    (hch : ∀ b ∈ ch, (b ∈ X.ex ∨ X.s₀.heap.objs.size ≤ b) ∧ b ≠ X.env.locals ∧ (∀ x c, X.env.cells.lookup x = some c → c ≠ b) ∧ ∀ p ∈ X.pn ++ pins, p.1 ≠ b) : Inv X pins σ H' s' := by
  obtain ⟨h', g', d', t', o'⟩ := s'
  have e : o' = s.os := ho
  subst e
  exact I.call (g' := g') (t' := t') (d' := d') u hok hg hch
end

/-! ### the judgements -/
/-- an exception: its class, its own dict's address (where it has one), the abstract heap behind it -/
noncomputable abbrev XK := Value → Option Addr → Hp → Prop
noncomputable abbrev St := List (Option V)
noncomputable abbrev VK := V → Hp → Prop
/-- an expression's reading; a test's; an argument list's -/
noncomputable abbrev TE := St → Hp → VK → Prop
noncomputable abbrev TT := St → Hp → (Bool → Hp → Prop) → Prop
noncomputable abbrev TA := St → Hp → (List V → Hp → Prop) → Prop
/-- what is wanted behind a statement -/
structure Ends where
  nx : St → Hp → Prop
  rt : VK
  bk : St → Hp → Prop := fun _ _ => False
  ct : St → Hp → Prop := fun _ _ => False
noncomputable abbrev TS := Ends → St → Hp → Prop

noncomputable def EP (X : Cx) (pins : List (Addr × Obj)) (σ : St) (Q : VK) (u : Value) (s' : Shared) : Prop := ∃ v H', Inv X pins σ H' s' ∧ RelV v u ∧ Q v H'
noncomputable def TP (X : Cx) (pins : List (Addr × Obj)) (σ : St) (Q : Bool → Hp → Prop) (b : Bool) (s' : Shared) : Prop := ∃ H', Inv X pins σ H' s' ∧ Q b H'
noncomputable def AP (X : Cx) (pins : List (Addr × Obj)) (σ : St) (Q : List V → Hp → Prop) (us : List Value) (s' : Shared) : Prop := ∃ vs H', Inv X pins σ H' s' ∧ Vals vs us ∧ Q vs H'
noncomputable def SP (X : Cx) (pins : List (Addr × Obj)) (D : Ends) (f : Flow) (s' : Shared) : Prop :=
  match f with
  | .next => ∃ σ' H', Inv X pins σ' H' s' ∧ D.nx σ' H'
  | .brk => ∃ σ' H', Inv X pins σ' H' s' ∧ D.bk σ' H'
  | .cont => ∃ σ' H', Inv X pins σ' H' s' ∧ D.ct σ' H'
  | .ret u => ∃ v σ' H', Inv X pins σ' H' s' ∧ RelV v u ∧ D.rt v H'

noncomputable def PE (X : Cx) (e : Expr) (t : TE) : Prop :=
  ∀ (pins : List (Addr × Obj)) (s : Shared) (σ : St) (H : Hp) (Q : VK), Inv X pins σ H s → t σ H Q → wpAny (model X.prog X.w) X.A (eval e X.env) (EP X pins σ Q) X.xe s
noncomputable def PT (X : Cx) (e : Expr) (t : TT) : Prop :=
  ∀ (pins : List (Addr × Obj)) (s : Shared) (σ : St) (H : Hp) (Q : Bool → Hp → Prop), Inv X pins σ H s → t σ H Q → wpAny (model X.prog X.w) X.A (isTrue e X.env (eval e X.env)) (TP X pins σ Q) X.xe s
/-- a test whatever its 'whole' is (and, or) -/
noncomputable def PW (X : Cx) (e : Expr) (t : TT) : Prop :=
  ∀ (whole : Sem Value) (pins : List (Addr × Obj)) (s : Shared) (σ : St) (H : Hp) (Q : Bool → Hp → Prop), Inv X pins σ H s → t σ H Q → wpAny (model X.prog X.w) X.A (isTrue e X.env whole) (TP X pins σ Q) X.xe s
theorem PW.pt {X : Cx} {e : Expr} {t : TT} (h : PW X e t) : PT X e t := h _
/-- an argument list (no star), from the left -/
noncomputable def PA (X : Cx) (es : List Expr) (t : TA) : Prop :=
  ∀ (pos : Pos) (pins : List (Addr × Obj)) (s : Shared) (σ : St) (H : Hp) (Q : List V → Hp → Prop), Inv X pins σ H s → t σ H Q → wpAny (model X.prog X.w) X.A (spliced (backTo pos (starEach es X.env))) (AP X pins σ Q) X.xe s
noncomputable def PS (X : Cx) (st : Stmt) (t : TS) : Prop :=
  ∀ (pins : List (Addr × Obj)) (s : Shared) (σ : St) (H : Hp) (D : Ends), Inv X pins σ H s → t D σ H → wpAny (model X.prog X.w) X.A (exec st X.env) (SP X pins D) X.xe s
noncomputable def PSs (X : Cx) (st : List Stmt) (t : TS) : Prop :=
  ∀ (pins : List (Addr × Obj)) (s : Shared) (σ : St) (H : Hp) (D : Ends), Inv X pins σ H s → t D σ H → wpAny (model X.prog X.w) X.A (execs st X.env) (SP X pins D) X.xe s
/-- weaken the end -/
theorem thn {α : Type} {t : Sem α} {Q Q' : α → Shared → Prop} {M : Model} {A : Around} {E : Value → Shared → Prop} {s : Shared} (h : wpAny M A t Q E s) (hQ : ∀ a s, Q a s → Q' a s) : wpAny M A t Q' E s := wpAny_mono h hQ fun _ _ x => x
end L2

namespace L2
open PySem PySem.Spec PyProof.Rows
section
variable {X : Cx}

/-- two expressions in a row -/
theorem bin {a b : Expr} {ta tb : TE} (ha : PE X a ta) (hb : PE X b tb) {pins : List (Addr × Obj)} {s : Shared} {σ : St} {H : Hp} {R : V → V → Hp → Prop} (I : Inv X pins σ H s) (h : ta σ H fun x H1 => tb σ H1 fun y H2 => R x y H2)
    {α : Type} {Q : α → Shared → Prop} {f : Value → Value → Sem α}
    (hf : ∀ v u s2 x y H2, Inv X pins σ H2 s2 → RelV x v → RelV y u → R x y H2 → wpAny (model X.prog X.w) X.A (f v u) Q X.xe s2) :
    wpAny (model X.prog X.w) X.A (eval a X.env) (fun v s₁ => wpAny (model X.prog X.w) X.A (eval b X.env) (fun u s₂ => wpAny (model X.prog X.w) X.A (f v u) Q X.xe s₂) X.xe s₁) X.xe s := by
  refine thn (ha pins s σ H _ I h) fun v s1 ⟨x, H1, I1, r1, q1⟩ => ?_
  refine thn (hb pins s1 σ H1 _ I1 q1) fun u s2 ⟨y, H2, I2, r2, q2⟩ => ?_
  exact hf v u s2 x y H2 I2 r1 r2 q2

/-! ### names and constants -/
noncomputable def tVar (i : Nat) : TE := fun σ H Q => ∃ v, σ[i]? = some (some v) ∧ Q v H
noncomputable def tC (v : V) : TE := fun _ H Q => Q v H
theorem pe_var {i : Nat} {x : Str} {pos : Pos} (hN : X.N[i]? = some x) (hv : Vis X.env.scope x) (hd : (x == ("__debug__" : Str)) = false := by decide) (hcd : (x == ("__classdict__" : Str)) = false := by decide) : PE X (.Name x pos) (tVar i) := by
  intro pins s σ H Q I h
  obtain ⟨v, e, h⟩ := h
  obtain ⟨m, hn, hl⟩ := I.loc
  obtain ⟨u, r, l⟩ := hl i x v hN e hv
  have fin : EP X pins σ Q u s := ⟨v, H, I, r, h⟩
  rcases l with ⟨hk, hm⟩ | ⟨hk, c, hc, hcell⟩
  · exact wpAny_Name (wpAny_loadName_local I.ok.kind hk hn hm fin) hd
  · rcases hk with hk | hk
    · exact wpAny_Name (wpAny_loadName_cell I.ok.kind hk hc hcell fin) hd
    · exact wpAny_Name (wpAny_loadName_free I.ok.kind hk hc hcell fin hcd) hd
theorem pe_int {i j pos} : PE X (.Constant (.int i) j pos) (tC (.int i)) := fun _ _ _ H _ I h => wpAny_Constant_int ⟨.int i, H, I.tok _, ⟨_, rfl⟩, h⟩
theorem pe_bl {b j pos} : PE X (.Constant (.bool b) j pos) (tC (.bl b)) := fun _ _ _ H _ I h => Constant_bool ⟨.bl b, H, I, rfl, h⟩
theorem pe_non {j pos} : PE X (.Constant .none j pos) (tC .non) := fun _ _ _ H _ I h => Constant_none ⟨.non, H, I, rfl, h⟩
theorem pe_str {x j pos} : PE X (.Constant (.str x) j pos) (tC (.str x)) := fun _ _ _ H _ I h => Calls.Constant_str ⟨.str x, H, I.tok _, ⟨_, rfl⟩, h⟩

/-- a global name of the def -/
noncomputable def Gl (X : Cx) (x : Str) : Prop := X.env.kindOf x = some .globalImplicit
theorem ld_glob {E : Value → Shared → Prop} {pins : List (Addr × Obj)} {s : Shared} {σ : St} {H : Hp} {x : Str} {u : Value} {pos : Pos} {Q : Value → Shared → Prop} (I : Inv X pins σ H s) (hg : Gl X x) (hm : X.mg x = some u) (h : Q u s)
    (hd : (x == ("__debug__" : Str)) = false := by decide) : wpAny (model X.prog X.w) X.A (eval (.Name x pos) X.env) Q E s :=
  Calls.Name_function_global I.ok.kind hg (Calls.loadGlobal_global (by rw [I.ok.glob]; exact I.mod.glob.keeps I.bk) hm h) hd
theorem ld_blt {E : Value → Shared → Prop} {pins : List (Addr × Obj)} {s : Shared} {σ : St} {H : Hp} {x : Str} {u : Value} {pos : Pos} {Q : Value → Shared → Prop} (I : Inv X pins σ H s) (hg : Gl X x) (hm : X.mg x = none) (hv : bootBuiltins x = some u) (h : Q u s)
    (hn : x ≠ "__name__" := by decide) (hd : (x == ("__debug__" : Str)) = false := by decide) : wpAny (model X.prog X.w) X.A (eval (.Name x pos) X.env) Q E s := by
  obtain ⟨mb, h1, h2⟩ := I.mod.blt
  exact Calls.Name_function_global I.ok.kind hg (Calls.loadGlobal_builtin (by rw [I.ok.glob]; exact I.mod.glob.keeps I.bk) hm (by rw [I.ok.blt]; exact h1.keeps I.bk) ((h2 x hn).trans hv) h) hd
/-- a module's constant, a class, a function, as a value -/
theorem pe_glob {x : Str} {v : V} {u : Value} {pos : Pos} (hg : Gl X x) (hm : X.mg x = some u) (r : RelV v u) (hd : (x == ("__debug__" : Str)) = false := by decide) : PE X (.Name x pos) (tC v) :=
  fun _ _ _ H _ I h => ld_glob I hg hm ⟨v, H, I, r, h⟩ hd
theorem pe_bltn {x : Str} {v : V} {u : Value} {pos : Pos} (hg : Gl X x) (hm : X.mg x = none) (hv : bootBuiltins x = some u) (r : RelV v u) (hn : x ≠ "__name__" := by decide) (hd : (x == ("__debug__" : Str)) = false := by decide) : PE X (.Name x pos) (tC v) :=
  fun _ _ _ H _ I h => ld_blt I hg hm hv ⟨v, H, I, r, h⟩ hn hd

/-! ### arithmetic -/
/-- two ints -/
noncomputable def t2I (ta tb : TE) (k : Int → Int → Hp → Prop) : St → Hp → Prop := fun σ H => ta σ H fun x H1 => tb σ H1 fun y H2 => ∃ i j, x = .int i ∧ y = .int j ∧ k i j H2
noncomputable def tAdd (ta tb : TE) : TE := fun σ H Q => t2I ta tb (fun i j H2 => Q (.int (i + j)) H2) σ H
noncomputable def tSub (ta tb : TE) : TE := fun σ H Q => t2I ta tb (fun i j H2 => Q (.int (i - j)) H2) σ H
/-- the left factor below 2^64 -/
noncomputable def tMul (ta tb : TE) : TE := fun σ H Q => t2I ta tb (fun i j H2 => (-(2 ^ 64) < i ∧ i < 2 ^ 64) ∧ Q (.int (i * j)) H2) σ H
variable {a b : Expr} {ta tb : TE} {pos : Pos}

/-! ### comparisons -/
noncomputable def PC (X : Cx) (op : CmpOp) (a b : Expr) (t : TE) : Prop :=
  ∀ (pins : List (Addr × Obj)) (s : Shared) (σ : St) (H : Hp) (Q : VK), Inv X pins σ H s → t σ H Q →
    wpAny (model X.prog X.w) X.A (eval a X.env) (fun v s₁ => wpAny (model X.prog X.w) X.A (eval b X.env) (fun u s₂ => wpAny (model X.prog X.w) X.A (compareOp op v u) (EP X pins σ Q) X.xe s₂) X.xe s₁) X.xe s
noncomputable def tCmp (p : Int → Int → Bool) (ta tb : TE) : TE := fun σ H Q => t2I ta tb (fun i j H2 => Q (.bl (p i j)) H2) σ H
noncomputable abbrev tLt : TE → TE → TE := tCmp fun i j => decide (i < j)
noncomputable abbrev tLe : TE → TE → TE := tCmp fun i j => decide (i ≤ j)
noncomputable abbrev tGt : TE → TE → TE := tCmp fun i j => decide (j < i)
noncomputable abbrev tGe : TE → TE → TE := tCmp fun i j => decide (j ≤ i)
noncomputable abbrev tEqI : TE → TE → TE := tCmp fun i j => decide (i = j)
noncomputable abbrev tNeI : TE → TE → TE := tCmp fun i j => !decide (i = j)
/-- is None -/
noncomputable def tIsN (ta : TE) : TE := fun σ H Q => ta σ H fun x H1 => Q (.bl (decide (x = .non))) H1
noncomputable def tNotN (ta : TE) : TE := fun σ H Q => ta σ H fun x H1 => Q (.bl (!decide (x = .non))) H1
/-- a comparison as a value, as a test -/
noncomputable def tB (t : TE) : TT := fun σ H Q => t σ H fun x H1 => ∃ c, x = .bl c ∧ Q c H1
theorem pt_cmp {op : CmpOp} {t : TE} (h : PC X op a b t) (h1 : behindInMarks op b = false := by first | exact nobehind _ (by decide) (by decide) | rfl) : PT X (.Compare a [op] [b] pos) (tB t) := by
  intro pins s σ H Q I hw
  refine wpAny_isTrue_Compare1 (thn (h pins s σ H _ I hw) fun v s1 h1 => thn h1 fun u s2 h2 => thn h2 fun c s3 ⟨x, H1, I1, r1, q1⟩ => ?_) h1
  obtain ⟨d, rfl, q⟩ := q1
  cases r1
  exact wpAny_truthy_bool ⟨H1, I1, q⟩
/-- an expression whose value is a bool, as a test -/
theorem pt_val {e : Expr} {t : TE} (h : PE X e t) (he : ∀ whole, isTrue e X.env whole = (do let v ← whole; standAt e.pos; holding [v] (truthy v)) := by intro _; rfl) : PT X e (tB t) := by
  intro pins s σ H Q I hw
  refine isTrue_plain (thn (h pins s σ H _ I hw) fun v s1 ⟨x, H1, I1, r1, q1⟩ => ?_) (he _)
  obtain ⟨d, rfl, q⟩ := q1
  cases r1
  exact wpAny_truthy_bool ⟨H1, I1, q⟩

/-! ### and, or, not -/
variable {tA tB' : TT} {rest : List Expr}
noncomputable def tAnd (t u : TT) : TT := fun σ H Q => t σ H fun c H1 => if c = true then u σ H1 Q else Q false H1
noncomputable def tOr (t u : TT) : TT := fun σ H Q => t σ H fun c H1 => if c = true then Q true H1 else u σ H1 Q
noncomputable def tNot (t : TT) : TT := fun σ H Q => t σ H fun c H1 => Q (!c) H1
theorem pw_and1 (ha : PT X a tA) : PW X (.BoolOp .And [a] pos) tA := by
  intro wh pins s σ H Q I h
  refine isTrue_and (thn (ha pins s σ H Q I h) fun c s1 e => ?_)
  cases c with
  | true => exact isTrue_and_nil e
  | false => exact e
theorem pw_or1 (ha : PT X a tA) : PW X (.BoolOp .Or [a] pos) tA := by
  intro wh pins s σ H Q I h
  refine isTrue_or (thn (ha pins s σ H Q I h) fun c s1 e => ?_)
  cases c with
  | false => exact isTrue_or_nil e
  | true => exact e
theorem pw_and (ha : PT X a tA) (hb : PW X (.BoolOp .And (b :: rest) pos) tB') : PW X (.BoolOp .And (a :: b :: rest) pos) (tAnd tA tB') := by
  intro wh pins s σ H Q I h
  refine isTrue_and (thn (ha pins s σ H _ I h) fun c s1 ⟨H1, I1, q1⟩ => ?_)
  cases c with
  | true => exact hb wh pins s1 σ H1 Q I1 q1
  | false => exact ⟨H1, I1, q1⟩
theorem pw_or (ha : PT X a tA) (hb : PW X (.BoolOp .Or (b :: rest) pos) tB') : PW X (.BoolOp .Or (a :: b :: rest) pos) (tOr tA tB') := by
  intro wh pins s σ H Q I h
  refine isTrue_or (thn (ha pins s σ H _ I h) fun c s1 ⟨H1, I1, q1⟩ => ?_)
  cases c with
  | true => exact ⟨H1, I1, q1⟩
  | false => exact hb wh pins s1 σ H1 Q I1 q1
theorem pt_not (ha : PT X a tA) : PT X (.UnaryOp .Not a pos) (tNot tA) := by
  intro pins s σ H Q I h
  exact isTrue_not (ha pins s σ H (fun c H1 => Q (!c) H1) I h)
/-- .. as values (bools) -/
noncomputable def tAndV (ta tb : TE) : TE := fun σ H Q => ta σ H fun x H1 => ∃ c, x = .bl c ∧ if c = true then tb σ H1 Q else Q (.bl false) H1
noncomputable def tOrV (ta tb : TE) : TE := fun σ H Q => ta σ H fun x H1 => ∃ c, x = .bl c ∧ if c = true then Q (.bl true) H1 else tb σ H1 Q
noncomputable def tNotV (ta : TE) : TE := fun σ H Q => ta σ H fun x H1 => ∃ c, x = .bl c ∧ Q (.bl (!c)) H1
theorem pe_one {op} {t : TE} (h : PE X a t) : PE X (.BoolOp op [a] pos) t := fun pins s σ H Q I hw => BoolOp_one (h pins s σ H Q I hw)
theorem pe_and (ha : PE X a ta) (hb : PE X (.BoolOp .And (b :: rest) pos) tb) : PE X (.BoolOp .And (a :: b :: rest) pos) (tAndV ta tb) := by
  intro pins s σ H Q I h
  refine BoolOp_and (thn (ha pins s σ H _ I h) fun v s1 ⟨x, H1, I1, r1, q1⟩ => ?_)
  obtain ⟨c, rfl, q1⟩ := q1
  cases r1
  refine wpAny_truthy_bool ?_
  cases c with
  | true => exact hb pins s1 σ H1 Q I1 q1
  | false => exact ⟨.bl false, H1, I1, rfl, q1⟩
theorem pe_not (ha : PE X a ta) : PE X (.UnaryOp .Not a pos) (tNotV ta) := by
  intro pins s σ H Q I h
  refine UnaryOp_ (thn (ha pins s σ H _ I h) fun v s1 ⟨x, H1, I1, r1, q1⟩ => ?_)
  obtain ⟨c, rfl, q1⟩ := q1
  cases r1
  exact not_of (wpAny_truthy_bool ⟨.bl (!c), H1, I1, rfl, q1⟩)
/-- a if t else b -/
noncomputable def tIf (t : TT) (ta tb : TE) : TE := fun σ H Q => t σ H fun c H1 => if c = true then ta σ H1 Q else tb σ H1 Q
theorem pe_ifExp {c : Expr} (hc : PT X c tA) (ha : PE X a ta) (hb : PE X b tb) : PE X (.IfExp c a b pos) (tIf tA ta tb) := by
  intro pins s σ H Q I h
  refine wpAny_IfExp (thn (hc pins s σ H _ I h) fun d s1 ⟨H1, I1, q1⟩ => ?_)
  cases d with
  | true => exact ha pins s1 σ H1 Q I1 q1
  | false => exact hb pins s1 σ H1 Q I1 q1
end
end L2

namespace L2
open PySem PySem.Spec PyProof.Rows

/-! ### a list, a tuple that is read: tracked, frozen, or an object of the module -/
noncomputable def SqL (K : PySem.W.Frag) (H : Hp) (a : Addr) (xs : List V) : Prop :=
  Rd H a (.lst xs) ∨
    ∃ (o : Obj) (its : Array Value) (n : Nat), K.lookup a = some o ∧ o.cls = .type "list" ∧ o.dict = none ∧ o.data = .seq its n ∧ its.size ≤ sizeLine ∧ Vals xs its.toList
noncomputable def SqT (K : PySem.W.Frag) (H : Hp) (a : Addr) (xs : List V) : Prop :=
  Rd H a (.tup xs) ∨
    ∃ (o : Obj) (its : Array Value) (n : Nat), K.lookup a = some o ∧ o.cls = .type "tuple" ∧ o.data = .seq its n ∧ its.size ≤ sizeLine ∧ Vals xs its.toList
noncomputable def absV : Value → Option V
  | .none => some .non
  | .bool b => some (.bl b)
  | .int i _ => some (.int i)
  | .str x _ => some (.str x)
  | .bytes b _ => some (.byt b)
  | .float b _ => some (.flt b)
  | .ref a => some (.ref a)
  | .type n => some (.ty n)
  | _ => none
theorem RelV.abs {x : V} {u : Value} (r : RelV x u) : absV u = some x := by
  cases x with
  | non => cases r; rfl
  | bl _ => cases r; rfl
  | int _ => obtain ⟨t, rfl⟩ := r; rfl
  | str _ => obtain ⟨t, rfl⟩ := r; rfl
  | byt _ => obtain ⟨t, rfl⟩ := r; rfl
  | flt _ => obtain ⟨t, rfl⟩ := r; rfl
  | ref _ => cases r; rfl
  | ty _ => cases r; rfl
theorem RelV.inj {x y : V} {u : Value} (r : RelV x u) (q : RelV y u) : x = y := Option.some.inj (r.abs.symm.trans q.abs)
theorem Vals.inj : ∀ {xs ys : List V} {us : List Value}, Vals xs us → Vals ys us → xs = ys
  | _, _, _, .nil, .nil => rfl
  | _, _, _, .cons r t, .cons r' t' => by rw [r.inj r', Vals.inj t t']
section
variable {X : Cx} {pins : List (Addr × Obj)} {σ : St} {H : Hp} {s : Shared} {a : Addr} {xs ys : List V}
theorem SqL.of {K : PySem.W.Frag} (h : H a = some (.lst xs)) : SqL K H a xs := .inl (.inl h)
theorem Inv.list (I : Inv X pins σ H s) (h : SqL X.K H a xs) : ∃ its : List Value, Vals xs its ∧ PlainL s.heap a its.toArray ∧ xs.length ≤ sizeLine := by
  rcases h with h | ⟨o, its, n, hk, hc, hd, hs, hz, r⟩
  · obtain ⟨z, its, n, r, e⟩ := h.ok I.hok
    exact ⟨its, r, ⟨_, n, e, rfl, rfl, rfl⟩, z⟩
  · refine ⟨its.toList, r, ⟨o, n, I.kIn a o hk, hc, hd, by simpa using hs⟩, ?_⟩
    have e := r.length
    simp only [Array.length_toList] at e
    omega
theorem Inv.tuple (I : Inv X pins σ H s) (h : SqT X.K H a xs) : ∃ its : List Value, Vals xs its ∧ IsTup s.heap a its.toArray ∧ xs.length ≤ sizeLine := by
  rcases h with h | ⟨o, its, n, hk, hc, hs, hz, r⟩
  · obtain ⟨z, its, r, p⟩ := h.ok I.hok
    exact ⟨its, r, p, z⟩
  · refine ⟨its.toList, r, ⟨o, I.kIn a o hk, hc, n, by simpa using hs⟩, ?_⟩
    have e := r.length
    simp only [Array.length_toList] at e
    omega
theorem Inv.list_inj (I : Inv X pins σ H s) (h : SqL X.K H a xs) (h' : SqL X.K H a ys) : xs = ys := by
  obtain ⟨its, r, ⟨o, n, e, _, _, d⟩, _⟩ := I.list h
  obtain ⟨its', r', ⟨o', n', e', _, _, d'⟩, _⟩ := I.list h'
  rw [e] at e'; cases e'
  rw [d] at d'
  injection d' with d1 _
  have : its = its' := by simpa using congrArg Array.toList d1
  subst this
  exact r.inj r'
end

/-! ### another wish about exceptions -/
noncomputable abbrev Cx.wish (X : Cx) (E : Value → Shared → Prop) : Cx := { X with xe := E }
/-- no exception leaves -/
noncomputable abbrev Cx.nox (X : Cx) : Cx := X.wish fun _ _ => False
theorem Cx.Ok.wish {X : Cx} (ok : X.Ok) (E : Value → Shared → Prop) : (X.wish E).Ok :=
  ⟨ok.mod, ok.kind, ok.glob, ok.blt, ok.above, ok.inj, ok.has, ok.cab, ok.hd, ok.frames, ok.stk, ok.exf, ok.bs, ok.bsz, ok.noex, ok.exfs, ok.funs, ok.frf⟩
theorem Cx.Ok.unwish {X : Cx} {E : Value → Shared → Prop} (ok : (X.wish E).Ok) : X.Ok :=
  ⟨ok.mod, ok.kind, ok.glob, ok.blt, ok.above, ok.inj, ok.has, ok.cab, ok.hd, ok.frames, ok.stk, ok.exf, ok.bs, ok.bsz, ok.noex, ok.exfs, ok.funs, ok.frf⟩
section
variable {X : Cx} {pins : List (Addr × Obj)} {σ : St} {H : Hp} {s : Shared} {E : Value → Shared → Prop}
theorem Inv.wish (I : Inv X pins σ H s) (E : Value → Shared → Prop) : Inv (X.wish E) pins σ H s := ⟨I.ok.wish E, I.os, I.bare, I.base, I.loc, I.cell, I.free, I.freeC, I.pin, I.hok, I.len⟩
theorem Inv.unwish (I : Inv (X.wish E) pins σ H s) : Inv X pins σ H s := ⟨I.ok.unwish, I.os, I.bare, I.base, I.loc, I.cell, I.free, I.freeC, I.pin, I.hok, I.len⟩
theorem SP.unwish {D : Ends} {f : Flow} {s' : Shared} (h : SP (X.wish E) pins D f s') : SP X pins D f s' := by
  cases f with
  | next => obtain ⟨σ', H', I, q⟩ := h; exact ⟨σ', H', I.unwish, q⟩
  | brk => obtain ⟨σ', H', I, q⟩ := h; exact ⟨σ', H', I.unwish, q⟩
  | cont => obtain ⟨σ', H', I, q⟩ := h; exact ⟨σ', H', I.unwish, q⟩
  | ret u => obtain ⟨v, σ', H', I, r, q⟩ := h; exact ⟨v, σ', H', I.unwish, r, q⟩
theorem PSs.nox {st : List Stmt} {t : TS} (h : PSs X.nox st t) : PSs X st t := fun pins s σ H D I hw =>
  wpAny_mono (h pins s σ H D (I.wish _) hw) (fun _ _ q => q.unwish) fun _ _ z => False.elim z
end

/-! ### blocks and small statements -/
section
variable {X : Cx} {st : Stmt} {rest : List Stmt} {t u : TS} {e : Expr} {te : TE} {pos : Pos}
noncomputable def tNext : TS := fun D σ H => D.nx σ H
noncomputable def tSeq (t u : TS) : TS := fun D σ H => t { D with nx := u D } σ H
theorem pss_nil : PSs X [] tNext := fun _ _ σ H _ I h => wpAny_execs_nil ⟨σ, H, I, h⟩
theorem pss_cons (h1 : PS X st t) (h2 : PSs X rest u) : PSs X (st :: rest) (tSeq t u) := by
  intro pins s σ H D I h
  refine wpAny_execs_cons (thn (h1 pins s σ H { D with nx := u D } I h) fun f s1 q => ?_)
  cases f with
  | next =>
    obtain ⟨σ', H', I', q⟩ := q
    exact h2 pins s1 σ' H' D I' q
  | ret v => exact q
  | brk => exact q
  | cont => exact q
theorem pss_one (h1 : PS X st t) : PSs X [st] t := by
  intro pins s σ H D I h
  refine wpAny_execs_cons (thn (h1 pins s σ H D I h) fun f s1 q => ?_)
  cases f with
  | next => exact wpAny_execs_nil q
  | ret v => exact q
  | brk => exact q
  | cont => exact q
noncomputable def tBreak : TS := fun D σ H => D.bk σ H
noncomputable def tCont : TS := fun D σ H => D.ct σ H
/-- in a def's body nothing is shown -/
theorem Inv.quiet {pins : List (Addr × Obj)} {σ : St} {H : Hp} {s : Shared} (I : Inv X pins σ H s) : interactive X.env = false := by simp [interactive, I.ok.kind]
/-- an expression whose value is dropped -/
noncomputable def tDrop (te : TE) : TS := fun D σ H => te σ H fun _ H1 => D.nx σ H1
theorem ps_expr (he : PE X e te) (hs : swapsWith e none pos.line X.env = pure false := by rfl) : PS X (.Expr e pos) (tDrop te) := by
  intro pins s σ H D I h
  exact wpAny_Expr_any (thn (he pins s σ H _ I h) fun v s1 ⟨x, H1, I1, r1, q1⟩ => ⟨σ, H1, I1, q1⟩) I.quiet hs
noncomputable def tRet (te : TE) : TS := fun D σ H => te σ H D.rt
theorem ps_ret (he : PE X e te) : PS X (.Return (some e) pos) (tRet te) := by
  intro pins s σ H D I h
  exact wpAny_Return_some (thn (he pins s σ H _ I h) fun v s1 ⟨x, H1, I1, r1, q1⟩ => ⟨x, σ, H1, I1, r1, q1⟩)
noncomputable def tRetN : TS := fun D _ H => D.rt .non H
noncomputable def tIfS (c : TT) (t u : TS) : TS := fun D σ H => c σ H fun b H1 => if b = true then t D σ H1 else u D σ H1
theorem ps_if {c : Expr} {a b : List Stmt} {tc : TT} (hc : PT X c tc) (ha : PSs X a t) (hb : PSs X b u) : PS X (.If c a b pos) (tIfS tc t u) := by
  intro pins s σ H D I h
  refine wpAny_If (thn (hc pins s σ H _ I h) fun d s1 ⟨H1, I1, q1⟩ => ?_)
  cases d with
  | true => exact ha pins s1 σ H1 D I1 q1
  | false => exact hb pins s1 σ H1 D I1 q1
/-- code that the proof never comes to -/
noncomputable def tNever : TS := fun _ _ _ => False
theorem ps_never : PS X st tNever := fun _ _ _ _ _ _ h => h.elim
theorem pss_never {sts : List Stmt} : PSs X sts tNever := fun _ _ _ _ _ _ h => h.elim
end

/-! ### targets -/
noncomputable abbrev TG := V → St → Hp → (St → Hp → Prop) → Prop
noncomputable abbrev TGs := List V → St → Hp → (St → Hp → Prop) → Prop
noncomputable def PG (X : Cx) (target : Expr) (t : TG) : Prop :=
  ∀ (pins : List (Addr × Obj)) (s : Shared) (σ : St) (H : Hp) (v : V) (u : Value) (Q : St → Hp → Prop), Inv X pins σ H s → RelV v u → t v σ H Q →
    wpAny (model X.prog X.w) X.A (assign target X.env u) (fun _ s' => ∃ σ' H', Inv X pins σ' H' s' ∧ Q σ' H') X.xe s
/-- several targets, one after another -/
noncomputable def PGs (X : Cx) (ts : List Expr) (t : TGs) : Prop :=
  ∀ (pins : List (Addr × Obj)) (s : Shared) (σ : St) (H : Hp) (vs : List V) (us : List Value) (Q : St → Hp → Prop), Inv X pins σ H s → Vals vs us → t vs σ H Q →
    wpAny (model X.prog X.w) X.A (assignInOrder ((assignEach ts X.env).map (·.2)) us) (fun _ s' => ∃ σ' H', Inv X pins σ' H' s' ∧ Q σ' H') X.xe s
/-- o[i] = v, by values -/
noncomputable abbrev TSet := V → V → V → Hp → (Hp → Prop) → Prop
noncomputable def PSet (X : Cx) (t : TSet) : Prop :=
  ∀ (pins : List (Addr × Obj)) (s : Shared) (σ : St) (H : Hp) (o i v : V) (ov iv u : Value) (Q : Hp → Prop), Inv X pins σ H s → RelV o ov → RelV i iv → RelV v u → t o i v H Q →
    wpAny (model X.prog X.w) X.A (setItem ov iv u) (fun _ s' => ∃ H', Inv X pins σ H' s' ∧ Q H') X.xe s
/-- a op= b, by values -/
noncomputable abbrev TIp := V → V → Hp → VK → Prop
noncomputable def PIp (X : Cx) (op : Operator) (t : TIp) : Prop :=
  ∀ (pins : List (Addr × Obj)) (s : Shared) (σ : St) (H : Hp) (x y : V) (v u : Value) (Q : VK), Inv X pins σ H s → RelV x v → RelV y u → t x y H Q →
    wpAny (model X.prog X.w) X.A (inplaceOp op v u) (EP X pins σ Q) X.xe s
section
variable {X : Cx} {pos : Pos}
noncomputable def gName (i : Nat) : TG := fun v σ H Q => Q (σ.set i (some v)) H
theorem pg_name {i : Nat} {x : Str} (hN : X.N.Nodup) (hi : X.N[i]? = some x) (hx : Loc X.env.scope x) (hf : X.fn x = true ∨ X.env.scope.names.lookup x = some .local := by first | exact .inl rfl | exact .inr rfl | assumption) : PG X (.Name x pos) (gName i) := by
  intro pins s σ H v u Q I r h
  exact wpAny_assign_Name (store_ok I hN hi hx r (fun s' I' => ⟨_, H, I', h⟩) hf)
noncomputable def gNil : TGs := fun vs σ H Q => vs = [] ∧ Q σ H
noncomputable def gCons (t : TG) (u : TGs) : TGs := fun vs σ H Q => ∃ v r, vs = v :: r ∧ t v σ H fun σ' H' => u r σ' H' Q
theorem pgs_nil : PGs X [] gNil := by
  intro pins s σ H vs us Q I r h
  obtain ⟨e, h⟩ := h
  subst e
  cases r
  exact assignInOrder_nil ⟨σ, H, I, h⟩
theorem pgs_cons {e : Expr} {es : List Expr} {t : TG} {u : TGs} (h1 : PG X e t) (h2 : PGs X es u)
    (hs : (assignEach (e :: es) X.env).map (·.2) = assign e X.env :: (assignEach es X.env).map (·.2) := by rfl) : PGs X (e :: es) (gCons t u) := by
  intro pins s σ H vs us Q I r h
  obtain ⟨v, vr, e1, h⟩ := h
  subst e1
  cases r with
  | cons r rr =>
    rw [hs]
    refine assignInOrder_cons (thn (h1 pins s σ H _ _ _ I r h) fun _ s1 ⟨σ1, H1, I1, q1⟩ => ?_)
    exact h2 pins s1 σ1 H1 _ _ Q I1 rr q1
/-- (a, b, ..) = a tuple of that length -/
noncomputable def gTup (K : PySem.W.Frag) (n : Nat) (t : TGs) : TG := fun v σ H Q => ∃ a xs, v = .ref a ∧ SqT K H a xs ∧ xs.length = n ∧ t xs σ H Q
theorem pg_tup {es : List Expr} {k : Nat} {t : TGs} {n : Nat} (hc : X.calm = true) (h : PGs X es t)
    (hn : (assignEach es X.env).length = n := by rfl) (hst : (assignEach es X.env).findIdx? (·.1) = none := by rfl) : PG X (.Tuple es k pos) (gTup X.K n t) := by
  intro pins s σ H v u Q I r hw
  obtain ⟨a, xs, e1, hq, hl, hw⟩ := hw
  subst e1
  cases r
  obtain ⟨its, rv, ht, hz⟩ := I.tuple hq
  refine assign_Tuple_tuple (I.ok.hd hc) ht (by simp [hn, ← hl, rv.length]) hst fun h' hx => ?_
  have I1 : Inv X pins σ H { s with heap := h' } := I.kept (t' := s.toks) fun b o e => hx b o (Nat.ne_of_lt (Heap.lt_size e)) e
  exact h pins _ σ H xs _ Q I1 (by simpa using rv) hw
/-- o[i] = .. -/
noncomputable def gSub (to ti : TE) (t : TSet) : TG := fun v σ H Q => to σ H fun o H1 => ti σ H1 fun i H2 => t o i v H2 fun H3 => Q σ H3
theorem pg_sub {o i : Expr} {to ti : TE} {t : TSet} (ho : PE X o to) (hi : PE X i ti) (hs : PSet X t)
    (ha : ∀ v, assign (.Subscript o i pos) X.env v = (do
      let ov ← holding [v] (eval o X.env)
      let iv ← holding [v, ov] (eval i X.env)
      standAt pos
      holding [v, ov, iv] (setItem ov iv v)
      release [v, ov, iv] []) := by intro _; rfl) : PG X (.Subscript o i pos) (gSub to ti t) := by
  intro pins s σ H v u Q I r h
  rw [ha]
  refine wpAny_bind (wpAny_holding (thn (ho pins s σ H _ I h) fun ov s1 ⟨x, H1, I1, r1, q1⟩ => ?_))
  refine wpAny_bind (wpAny_holding (thn (hi pins s1 σ H1 _ I1 q1) fun iv s2 ⟨y, H2, I2, r2, q2⟩ => ?_))
  refine wpAny_bind (wpAny_standAt (wpAny_bind (wpAny_holding (thn (hs pins s2 σ H2 x y v ov iv u _ I2 r1 r2 r q2) fun _ s3 ⟨H3, I3, q3⟩ => ?_))))
  exact wpAny_release ⟨σ, H3, I3, q3⟩
/-- target = value -/
noncomputable def tAsg (te : TE) (g : TG) : TS := fun D σ H => te σ H fun x H1 => g x σ H1 D.nx
theorem ps_asg {tg e : Expr} {te : TE} {g : TG} (he : PE X e te) (hg : PG X tg g) (hs : swapsWithSole [tg] e pos.line X.env = pure false := by rfl) (hw : swappedStores [tg] e X.env = pure none := by rfl)
    (h1 : (assignEach [tg] X.env).map (·.2) = [assign tg X.env] := by rfl) : PS X (.Assign [tg] e pos) (tAsg te g) := by
  intro pins s σ H D I h
  refine wpAny_Assign_stores (thn (he pins s σ H _ I h) fun v s1 ⟨x, H1, I1, r1, q1⟩ => ?_) hs hw
  rw [h1]
  exact thn (hg pins s1 σ H1 x v _ I1 r1 q1) fun _ s2 q => q
/-- name = value -/
theorem ps_set {i : Nat} {x : Str} {e : Expr} {te : TE} {pos' : Pos} (hN : X.N.Nodup) (hi : X.N[i]? = some x) (hx : Loc X.env.scope x) (he : PE X e te) (hs : swapsWith e (some (.Name x pos')) pos.line X.env = pure false := by rfl) (hf : X.fn x = true ∨ X.env.scope.names.lookup x = some .local := by first | exact .inl rfl | exact .inr rfl | assumption) :
    PS X (.Assign [.Name x pos'] e pos) (tAsg te (gName i)) := by
  intro pins s σ H D I h
  refine wpAny_Assign_Name (thn (he pins s σ H _ I h) fun v s1 ⟨y, H1, I1, r1, q1⟩ => ?_) hs
  exact store_ok I1 hN hi hx r1 (fun s2 I2 => ⟨_, H1, I2, q1⟩) hf
/-- a, b = x, y with plain local names: stored from the right; the pair itself is not tracked (the opening rows as in PyProof/Rows/TupAssign.lean:23) -/
noncomputable def tPar (i j : Nat) (ta : TA) : TS := fun D σ H => ta σ H fun vs H1 => ∃ v w, vs = [v, w] ∧ D.nx ((σ.set i (some v)).set j (some w)) H1
/-- name op= e -/
noncomputable def tAug (i : Nat) (te : TE) (ti : TIp) : TS := fun D σ H => ∃ x, σ[i]? = some (some x) ∧ te σ H fun y H1 => ti x y H1 fun z H2 => D.nx (σ.set i (some z)) H2
/-- o[i] op= e -/
noncomputable def tAugS (to ti te : TE) (tget : V → V → Hp → VK → Prop) (tip : TIp) (tset : TSet) : TS := fun D σ H => to σ H fun o H1 => ti σ H1 fun i H2 => tget o i H2 fun x H3 => te σ H3 fun y H4 => tip x y H4 fun z H5 => tset o i z H5 fun H6 => D.nx σ H6
/-- o[i], by values -/
noncomputable def PGet (X : Cx) (t : V → V → Hp → VK → Prop) : Prop :=
  ∀ (pins : List (Addr × Obj)) (s : Shared) (σ : St) (H : Hp) (o i : V) (ov iv : Value) (Q : VK), Inv X pins σ H s → RelV o ov → RelV i iv → t o i H Q →
    wpAny (model X.prog X.w) X.A (getItem ov iv) (EP X pins σ Q) X.xe s
/-- ints -/
noncomputable def ipI (f : Int → Int → Int) : TIp := fun x y H Q => ∃ i j, x = .int i ∧ y = .int j ∧ Q (.int (f i j)) H
end

/-! ### while -/
section
variable {X : Cx} {pos : Pos}
/-- the invariant W with its measure -/
noncomputable def tWhile (c : TT) (tb : TS) : TS := fun D σ H => ∃ W : Nat → St → Hp → Prop, (∃ m, W m σ H) ∧ ∀ m σ H, W m σ H →
  c σ H fun b H1 => if b = true then ∃ N : St → Hp → Prop, (∀ σ' H', N σ' H' → ∃ m', m' < m ∧ W m' σ' H') ∧ tb { D with nx := N, ct := N, bk := D.nx } σ H1 else D.nx σ H1
theorem ps_while {c : Expr} {body : List Stmt} {tc : TT} {tb : TS} (hp : PassesOwn (model X.prog X.w) X.A X.env X.xe) (hc : PT X c tc) (hb : PSs X body tb) : PS X (.While c body [] pos) (tWhile tc tb) := by
  intro pins s σ H D I h
  obtain ⟨W, ⟨m0, w0⟩, turn⟩ := h
  refine wpAny_While (codeAny_whileLoop (fun n s' => ∃ σ' H', Inv X pins σ' H' s' ∧ W n σ' H') ?_ m0 ⟨σ, H, I, w0⟩)
  rintro n s1 ⟨σ1, H1, I1, w1⟩
  refine wpAny_passesOwn hp (thn (hc pins s1 σ1 H1 _ I1 (turn n σ1 H1 w1)) fun b s2 ⟨H2, I2, q2⟩ => ?_)
  cases b with
  | true =>
    obtain ⟨N, hN, q2⟩ := q2
    rw [if_pos rfl]
    refine wpAny_passesOwn hp (thn (hb pins s2 σ1 H2 _ I2 q2) fun f s3 q3 => ?_)
    cases f with
    | next =>
      obtain ⟨σ3, H3, I3, n3⟩ := q3
      obtain ⟨m', hm, w3⟩ := hN σ3 H3 n3
      exact ⟨m', hm, σ3, H3, I3, w3⟩
    | cont =>
      obtain ⟨σ3, H3, I3, n3⟩ := q3
      obtain ⟨m', hm, w3⟩ := hN σ3 H3 n3
      exact ⟨m', hm, σ3, H3, I3, w3⟩
    | brk => exact q3
    | ret v => exact q3
  | false =>
    rw [if_neg Bool.false_ne_true]
    exact wpAny_execs_nil ⟨σ1, H2, I2, q2⟩
end

/-! ### what a loop or a comprehension walks -/
/-- at turn i: it yields x (the heap may grow), or it stops -/
structure It where
  go : Nat → Hp → Prop
  yld : Nat → Hp → V → Hp → Prop
  stop : Nat → Hp → Prop
/-- the iterator's own objects may turn: they are not the frame's, not pinned, younger than the entry (or a comprehension's own) -/
noncomputable def FpOk (X : Cx) (pins : List (Addr × Obj)) (H : Hp) (b : Addr) : Prop :=
  H b = none ∧ b ≠ X.env.locals ∧ b ∉ X.fs ∧ (b ∈ X.ex ∨ X.s₀.heap.objs.size ≤ b) ∧ (∀ x c, X.env.cells.lookup x = some c → c ≠ b) ∧ ∀ p ∈ X.pn ++ pins, p.1 ≠ b
theorem Inv.fpOk {X : Cx} {pins : List (Addr × Obj)} {σ : St} {H H' : Hp} {s : Shared} {b : Addr} (I : Inv X pins σ H s) (hb : s.heap.objs.size ≤ b) (hn : H' b = none) : FpOk X pins H' b := by
  refine ⟨hn, Nat.ne_of_gt (Nat.lt_of_lt_of_le I.lt hb), I.nofs hb, .inr (Nat.le_trans I.sz hb), fun x c e z => ?_, fun p hp z => ?_⟩
  · obtain ⟨v, q⟩ := I.cell x c e
    exact absurd (Nat.lt_of_lt_of_le q.lt (by rw [z]; exact hb)) (Nat.lt_irrefl _)
  · exact absurd (Nat.lt_of_lt_of_le (Heap.lt_size (I.pin p hp).1) (by rw [z]; exact hb)) (Nat.lt_irrefl _)
structure Turn (P : Program) (w : World) (K : PySem.W.Frag) (tg : Expr) (J : It) (fp : List Addr) (it : Addr) (tn : Nat → Heap → Prop) : Prop where
  mem : it ∈ fp
  obj : ∀ i h, tn i h → ∀ b ∈ fp, ∃ o, h.get? b = some o ∧ ∀ v, o.data ≠ .cell v
  keep : ∀ i h h', tn i h → (∀ b ∈ fp, ∀ o, h.get? b = some o → h'.get? b = some o) → tn i h'
  item : ∀ (X : Cx), X.prog = P → X.w = w → X.K = K → X.calm = true → ∀ (i : Nat) (pins : List (Addr × Obj)) (s : Shared) (σ : St) (H : Hp) (E : Value → Shared → Prop), Inv X pins σ H s → (∀ b ∈ fp, FpOk X pins H b) → tn i s.heap → J.go i H →
    wpAny (model P w) X.A (pyNext (.ref it)) (fun r s1 => ∃ u, r = some u ∧
      wpAny (model P w) X.A (letOwnedTupleGo tg (.ref it) u) (fun _ s2 => ∃ x H', Inv X pins σ H' s2 ∧ RelV x u ∧ J.yld i H x H' ∧ tn (i + 1) s2.heap ∧ ∀ b ∈ fp, H' b = none) E s1) E s
  done : ∀ (X : Cx), X.prog = P → X.w = w → X.K = K → X.calm = true → ∀ (i : Nat) (pins : List (Addr × Obj)) (s : Shared) (σ : St) (H : Hp) (E : Value → Shared → Prop), Inv X pins σ H s → (∀ b ∈ fp, FpOk X pins H b) → tn i s.heap → J.stop i H →
    wpAny (model P w) X.A (pyNext (.ref it)) (fun r s1 => r = none ∧ Inv X pins σ H s1) E s
  self : ∀ (A : Around) (i : Nat) (s : Shared) (Q : Value → Shared → Prop) (E : Value → Shared → Prop), tn i s.heap → Q (.ref it) s → wpAny (model P w) A (pyIter (.ref it)) Q E s
noncomputable abbrev TI := St → Hp → (It → Hp → Prop) → Prop
/-- an iterator has come -/
noncomputable def PIE (X : Cx) (pins : List (Addr × Obj)) (σ : St) (tg : Expr) (R : It → Hp → Prop) (itv : Value) (s2 : Shared) : Prop :=
  ∃ (it : Addr) (fp : List Addr) (tn : Nat → Heap → Prop) (J : It) (H' : Hp), itv = .ref it ∧ Inv X pins σ H' s2 ∧ Turn X.prog X.w X.K tg J fp it tn ∧ tn 0 s2.heap ∧ (∀ b ∈ fp, FpOk X pins H' b) ∧ R J H'
noncomputable def PI (X : Cx) (tg iter : Expr) (wi : TI) : Prop :=
  ∀ (pins : List (Addr × Obj)) (s : Shared) (σ : St) (H : Hp) (R : It → Hp → Prop), Inv X pins σ H s → wi σ H R →
    wpAny (model X.prog X.w) X.A (eval iter X.env) (fun v s1 => wpAny (model X.prog X.w) X.A (pyIter v) (PIE X pins σ tg R) X.xe s1) X.xe s

/-- the step ahead of the store is nothing for an iterator that keeps no tuple -/
theorem go_of {M : Model} {A : Around} {E : Value → Shared → Prop} {s : Shared} {tg : Expr} {it : Addr} {u : Value} {o : Obj} {n : String} {vs : Array Value} {Q : Unit → Shared → Prop} (ho : s.heap.get? it = some o) (hc : o.cls = .type n) (hd : o.data = .fields vs)
    (hn : ["enumerate", "zip", "dict_itemiterator", "dict_reverseitemiterator", "odict_iterator", "itertools.zip_longest", "itertools.pairwise"].contains n = false) (hQ : Q () s) : wpAny M A (letOwnedTupleGo tg (.ref it) u) Q E s := by
  unfold letOwnedTupleGo
  cases tg <;> first
    | exact wpAny_pure hQ
    | (cases u <;> first
        | exact wpAny_pure hQ
        | (refine wpAny_bind (wpAny_load ho ?_)
           rw [hc, hd]
           show wpAny M A (if (["enumerate", "zip", "dict_itemiterator", "dict_reverseitemiterator", "odict_iterator", "itertools.zip_longest", "itertools.pairwise"].contains n && vs[0]? == some (rawInt _)) = true then _ else _) Q E s
           rw [if_neg (by intro h; rw [hn, Bool.false_and] at h; cases h)]
           exact wpAny_pure hQ))

/-- the list at a, as it stands at each turn (a loop may append to it) -/
noncomputable def Itl (K : PySem.W.Frag) (a : Addr) : It :=
  ⟨fun i H => ∃ xs x, SqL K H a xs ∧ xs[i]? = some x, fun i H x H' => H' = H ∧ ∀ xs, SqL K H a xs → xs[i]? = some x, fun i H => ∃ xs, SqL K H a xs ∧ xs.length ≤ i⟩
noncomputable def Itt (K : PySem.W.Frag) (a : Addr) : It :=
  ⟨fun i H => ∃ xs x, SqT K H a xs ∧ xs[i]? = some x, fun i H x H' => H' = H ∧ ∀ xs, SqT K H a xs → xs[i]? = some x, fun i H => ∃ xs, SqT K H a xs ∧ xs.length ≤ i⟩
/-- lo, lo + 1, .. (n of them) -/
noncomputable def Itr (lo : Int) (n : Nat) : It := ⟨fun i _ => i < n, fun i H x H' => H' = H ∧ x = .int (lo + i), fun i _ => n ≤ i⟩
theorem turn_list {P : Program} {w : World} {K : PySem.W.Frag} {tg : Expr} (a it : Addr) : Turn P w K tg (Itl K a) [it] it (fun i h => h.IsListIter it a i) where
  mem := by simp
  obj := fun i h st b hb => by
    have e : b = it := by simpa using hb
    subst e
    obtain ⟨o, e, c, d⟩ := st
    exact ⟨o, e, fun v z => by rw [d] at z; cases z⟩
  keep := fun i h h' st k => st.at fun o e => k it (by simp) o e
  item := by
    intro X hP hw hK hc i pins s σ H E I hf st hg
    subst hP hw hK
    obtain ⟨xs, x, hq, hx⟩ := hg
    obtain ⟨its, rv, p, hz⟩ := I.list hq
    obtain ⟨u, hu, ru⟩ := rv.get hx
    obtain ⟨f0, f1, f2, f3, f4, f5⟩ := hf it (by simp)
    refine wpAny_pyNext_list_item st p.isList (x := u) (by simpa using hu) fun h' st' sb => ?_
    have I1 : Inv X pins σ H { s with heap := h' } := I.turned (t' := s.toks) (fun b o hb e => (sb.2 b hb).trans e) f0 f1 f3 f4 f5
    obtain ⟨o, e, c, d⟩ := id st'
    exact ⟨u, rfl, go_of (s := { s with heap := h' }) e c d (by decide) ⟨x, H, I1, ru, ⟨rfl, fun ys hy => by rw [I.list_inj hy hq]; exact hx⟩, st', fun b hb => (hf b hb).1⟩⟩
  done := by
    intro X hP hw hK hc i pins s σ H E I hf st hg
    subst hP hw hK
    obtain ⟨xs, hq, hx⟩ := hg
    obtain ⟨its, rv, p, hz⟩ := I.list hq
    obtain ⟨f0, f1, f2, f3, f4, f5⟩ := hf it (by simp)
    have hl := rv.length
    exact wpAny_pyNext_list_end (I.ok.hd hc) st p.isList (by simp; omega) fun h' eb => ⟨rfl, I.turned (t' := s.toks) (fun b o hb e => eb b o hb e) f0 f1 f3 f4 f5⟩
  self := fun _ _ _ _ _ st h => wpAny_pyIter_listiter st h
theorem turn_range {P : Program} {w : World} {K : PySem.W.Frag} {tg : Expr} (it : Addr) (lo : Int) (n : Nat) : Turn P w K tg (Itr lo n) [it] it (fun i h => IsRangeIter h it (lo + (i : Nat) * 1) ((n : Int) - (i : Nat)) 1) where
  mem := by simp
  obj := fun i h st b hb => by
    have e : b = it := by simpa using hb
    subst e
    exact ⟨_, st, fun v z => by
      have z' : Data.fields _ = Data.cell v := z
      cases z'⟩
  keep := fun i h h' st k => k it (by simp) _ st
  item := by
    intro X hP hw hK hc i pins s σ H E I hf st hg
    subst hP hw hK
    obtain ⟨f0, f1, f2, f3, f4, f5⟩ := hf it (by simp)
    have W := Walks.range (prog := X.prog) (w := X.w) (I.ok.hd hc) it lo 1 n
    refine W.item i s _ _ hg st fun v h' tk hv st' kk => ?_
    obtain ⟨t, rfl⟩ := hv
    have I1 : Inv X pins σ H { s with heap := h', toks := tk } := I.turned (fun b o hb e => kk b o (by simpa using hb) e) f0 f1 f3 f4 f5
    refine ⟨_, rfl, go_of (s := { s with heap := h', toks := tk }) (n := "range_iterator") st' rfl rfl (by decide) ⟨.int (lo + i), H, I1, ⟨t, ?_⟩, ⟨rfl, rfl⟩, st', fun b hb => (hf b hb).1⟩⟩
    rw [Int.mul_one]
  done := by
    intro X hP hw hK hc i pins s σ H E I hf st hg
    subst hP hw hK
    obtain ⟨f0, f1, f2, f3, f4, f5⟩ := hf it (by simp)
    exact wpAny_pyNext_range_end (I.ok.hd hc) st (by have : n ≤ i := hg; omega) fun h' eb => ⟨rfl, I.turned (t' := s.toks) (fun b o hb e => eb b o hb e) f0 f1 f3 f4 f5⟩
  self := fun _ _ _ _ _ st h => wpAny_pyIter_rangeiter st h
end L2

namespace L2
open PySem PySem.Spec PyProof.Rows
section
variable {X : Cx} {tg : Expr}
noncomputable def iList (K : PySem.W.Frag) (tl : TE) : TI := fun σ H R => tl σ H fun x H1 => ∃ a, x = .ref a ∧ (∃ xs, SqL K H1 a xs) ∧ R (Itl K a) H1
noncomputable def iTup (K : PySem.W.Frag) (tl : TE) : TI := fun σ H R => tl σ H fun x H1 => ∃ a, x = .ref a ∧ (∃ xs, SqT K H1 a xs) ∧ R (Itt K a) H1
theorem pi_list {l : Expr} {tl : TE} (hl : PE X l tl) : PI X tg l (iList X.K tl) := by
  intro pins s σ H R I h
  refine thn (hl pins s σ H _ I h) fun v s1 ⟨x, H1, I1, r1, q1⟩ => ?_
  obtain ⟨a, e, ⟨xs, hq⟩, q⟩ := q1
  subst e
  cases r1
  obtain ⟨its, rv, p, hz⟩ := I1.list hq
  refine wpAny_pyIter_list p.isList ?_
  refine ⟨s1.heap.objs.size, [s1.heap.objs.size], _, _, H1, rfl, I1.kept (t' := s1.toks) fun b o e => Heap.get?_push_of_some _ e, turn_list a _, ⟨_, Heap.get?_push_size _ rfl, rfl, rfl⟩, fun b hb => ?_, q⟩
  have e : b = s1.heap.objs.size := by simpa using hb
  subst e
  exact I1.fpOk (Nat.le_refl _) (I1.hok.fresh (Nat.le_refl _))
/-- a range object just made, walked -/
theorem range_it {pins : List (Addr × Obj)} {σ : St} {H : Hp} {s : Shared} {R : It → Hp → Prop} {E : Value → Shared → Prop} {lo hi : Int} {t u v : Tok} {tk : Nat} (I : Inv X pins σ H s) (h1 : -(2 ^ 62) ≤ lo) (h2 : lo < 2 ^ 62) (h3 : -(2 ^ 62) ≤ hi) (h4 : hi < 2 ^ 62)
    (q : R (Itr lo (hi - lo).toNat) H) : wpAny (model X.prog X.w) X.A (pyIter (.ref s.heap.objs.size)) (PIE X pins σ tg R) E { s with heap := s.heap.push { cls := .type "range", data := .fields #[.int lo t, .int hi u, .int 1 v] }, toks := tk } := by
  refine wpAny_pyIter_range (IsRange.new ..) (small_one h1 h2 h3 h4) ?_
  have I1 : Inv X pins σ H { s with heap := s.heap.push { cls := .type "range", data := .fields #[.int lo t, .int hi u, .int 1 v] }, toks := tk } := I.kept fun b o e => Heap.get?_push_of_some _ e
  refine ⟨(s.heap.push { cls := .type "range", data := .fields #[.int lo t, .int hi u, .int 1 v] }).objs.size, [(s.heap.push { cls := .type "range", data := .fields #[.int lo t, .int hi u, .int 1 v] }).objs.size], _, _, H, rfl,
    I1.kept (t' := tk) fun b o e => Heap.get?_push_of_some _ e, turn_range _ lo (hi - lo).toNat, ?_, fun b hb => ?_, q⟩
  · have e1 : lo + ((0 : Nat) : Int) * 1 = lo := by simp
    have e2 : (((hi - lo).toNat : Nat) : Int) - ((0 : Nat) : Int) = Builtin.Range.rangeSize lo hi 1 := by rw [rangeSize_one]; split <;> omega
    show IsRangeIter _ _ (lo + ((0 : Nat) : Int) * 1) ((((hi - lo).toNat : Nat) : Int) - ((0 : Nat) : Int)) 1
    rw [e1, e2]
    exact Heap.get?_push_size _ rfl
  · have e : b = (s.heap.push { cls := .type "range", data := .fields #[.int lo t, .int hi u, .int 1 v] }).objs.size := by simpa using hb
    subst e
    exact I1.fpOk (Nat.le_refl _) (I1.hok.fresh (Nat.le_refl _))
noncomputable def iRng1 (ta : TA) : TI := fun σ H R => ta σ H fun vs H1 => ∃ j : Int, vs = [.int j] ∧ -(2 ^ 62) ≤ j ∧ j < 2 ^ 62 ∧ R (Itr 0 j.toNat) H1
noncomputable def iRng2 (ta : TA) : TI := fun σ H R => ta σ H fun vs H1 => ∃ i j : Int, vs = [.int i, .int j] ∧ (-(2 ^ 62) ≤ i ∧ i < 2 ^ 62 ∧ -(2 ^ 62) ≤ j ∧ j < 2 ^ 62) ∧ R (Itr i (j - i).toNat) H1
theorem pi_range1 {a : Expr} {ta : TA} {p pos : Pos} (hg : Gl X "range") (hm : X.mg "range" = none) (ha : PA X [a] ta) (hs : starEach [a] X.env = [(false, eval a X.env)] := by rfl) : PI X tg (.Call (.Name "range" p) [a] [] pos) (iRng1 ta) := by
  intro pins s σ H R I h
  refine Call_ (ld_blt I hg hm boot_range (PyProof.Rows.callWith_type1 (thn (ha pos pins s σ H _ I h) fun us s1 ⟨vs, H1, I1, r1, q1⟩ => ?_) hs rfl))
  obtain ⟨j, e, q1, q2, q⟩ := q1
  subst e
  cases r1 with
  | cons r rr =>
    cases rr
    obtain ⟨t, rfl⟩ := r
    exact call_range_1 (range_it I1 (by omega) (by omega) q1 q2 (by simpa using q))

/-! ### for -/
/-- W: the invariant by the turn and a measure; N: what the body is to reach -/
noncomputable def tFor (wi : TI) (g : TG) (tb : TS) : TS := fun D σ H => wi σ H fun J H1 => ∃ W : Nat → Nat → St → Hp → Prop, (∃ m, W 0 m σ H1) ∧ ∀ i m σ H, W i m σ H →
  (J.stop i H ∧ D.nx σ H) ∨ (J.go i H ∧ ∃ N : St → Hp → Prop, (∀ σ' H', N σ' H' → ∃ m', m' < m ∧ W (i + 1) m' σ' H') ∧ ∀ x H', J.yld i H x H' → g x σ H' fun σ2 H2 => tb { D with nx := N, ct := N, bk := D.nx } σ2 H2)
/-- the records at fp as they stand -/
noncomputable def pinsAt (fp : List Addr) (h : Heap) : List (Addr × Obj) := fp.filterMap fun b => (h.get? b).map fun o => (b, o)
theorem mem_pinsAt {fp : List Addr} {h : Heap} {b : Addr} {o : Obj} (hb : b ∈ fp) (e : h.get? b = some o) : (b, o) ∈ pinsAt fp h := List.mem_filterMap.mpr ⟨b, hb, by rw [e]; rfl⟩
theorem of_pinsAt {fp : List Addr} {h : Heap} {p : Addr × Obj} (hp : p ∈ pinsAt fp h) : p.1 ∈ fp ∧ h.get? p.1 = some p.2 := by
  obtain ⟨b, hb, e⟩ := List.mem_filterMap.mp hp
  cases q : h.get? b with
  | none => rw [q] at e; cases e
  | some o =>
    rw [q] at e
    have e' : (b, o) = p := Option.some.inj e
    subst e'
    exact ⟨hb, q⟩
theorem Inv.pinned {pins : List (Addr × Obj)} {σ : St} {H : Hp} {s : Shared} {fp : List Addr} (I : Inv X pins σ H s) (hf : ∀ b ∈ fp, FpOk X pins H b) (ho : ∀ b ∈ fp, ∃ o, s.heap.get? b = some o ∧ ∀ v, o.data ≠ .cell v) : Inv X (pins ++ pinsAt fp s.heap) σ H s :=
  I.pins_of fun p hp => (List.mem_append.mp hp).elim (fun z => I.pin p (List.mem_append_right _ z)) fun z => by
    obtain ⟨hb, e⟩ := of_pinsAt z
    obtain ⟨f0, f1, f2, _⟩ := hf p.1 hb
    obtain ⟨o, e', d⟩ := ho p.1 hb
    rw [e] at e'; cases e'
    exact ⟨e, f0, f1, f2, d⟩
theorem Inv.unpinned {pins pl : List (Addr × Obj)} {σ : St} {H : Hp} {s : Shared} (I : Inv X (pins ++ pl) σ H s) : Inv X pins σ H s := I.pins_of fun p hp => I.pin p (List.mem_append_right _ (List.mem_append_left _ hp))
theorem ps_for {iter : Expr} {body : List Stmt} {wi : TI} {g : TG} {tb : TS} {pos : Pos} (hp : PassesOwn (model X.prog X.w) X.A X.env X.xe) (hc : X.calm = true) (hi : PI X tg iter wi) (hg : PG X tg g) (hb : PSs X body tb)
    (hs : ∀ x, foldedSetIterable iter X.env x = pure x := by intro _; rfl) : PS X (.For tg iter body [] pos) (tFor wi g tb) := by
  intro pins s σ H D I h
  refine wpAny_For (thn (hi pins s σ H _ I h) fun v s1 h1 => thn h1 fun itv s2 h2 => ?_) hs
  obtain ⟨it, fp, tn, J, H2, e, I2, T, st2, f2, W, ⟨m0, w0⟩, turn⟩ := h2
  subst e
  -- what stays true of the iterator's objects through the loop
  have stat : ∀ {H' : Hp}, (∀ b ∈ fp, H' b = none) → ∀ b ∈ fp, FpOk X pins H' b := fun hn b hb => ⟨hn b hb, (f2 b hb).2⟩
  refine codeAny_forLoop_any (fun n s' => ∃ i σ' H', Inv X pins σ' H' s' ∧ tn i s'.heap ∧ (∀ b ∈ fp, H' b = none) ∧ W i n σ' H') ?_ m0 ⟨0, σ, H2, I2, st2, fun b hb => (f2 b hb).1, w0⟩
  rintro n s3 ⟨i, σ3, H3, I3, st3, fr3, w3⟩
  rcases turn i n σ3 H3 w3 with ⟨stop, qn⟩ | ⟨go, N, hN, step⟩
  · refine wpAny_passesOwn hp (thn (T.done X rfl rfl rfl hc i pins s3 σ3 H3 X.xe I3 (stat fr3) st3 stop) fun r s4 ⟨hr, I4⟩ => ?_)
    subst hr
    exact wpAny_execs_nil ⟨σ3, H3, I4, qn⟩
  · refine wpAny_passesOwn hp (thn (T.item X rfl rfl rfl hc i pins s3 σ3 H3 X.xe I3 (stat fr3) st3 go) fun r s4 ⟨u, hr, h4⟩ => ?_)
    subst hr
    refine wpAny_passesOwn hp (thn h4 fun _ s5 ⟨x, H5, I5, r5, y5, st5, fr5⟩ => ?_)
    have I5' := I5.pinned (stat fr5) (T.obj _ _ st5)
    refine wpAny_passesOwn hp (thn (hg _ s5 σ3 H5 x u _ I5' r5 (step x H5 y5)) fun _ s6 ⟨σ6, H6, I6, q6⟩ => ?_)
    refine wpAny_passesOwn hp (thn (hb _ s6 σ6 H6 _ I6 q6) fun f s7 q7 => ?_)
    have again : ∀ {σ7 : St} {H7 : Hp}, Inv X (pins ++ pinsAt fp s5.heap) σ7 H7 s7 → N σ7 H7 → ∃ m, m < n ∧ ∃ i σ' H', Inv X pins σ' H' s7 ∧ tn i s7.heap ∧ (∀ b ∈ fp, H' b = none) ∧ W i m σ' H' := fun {σ7 H7} I7 n7 => by
      obtain ⟨m', hm, w7⟩ := hN σ7 H7 n7
      refine ⟨m', hm, i + 1, σ7, H7, I7.unpinned, T.keep _ _ _ st5 fun b hb o e => (I7.pin (b, o) (List.mem_append_right _ (List.mem_append_right _ (mem_pinsAt hb e)))).1, fun b hb => ?_, w7⟩
      obtain ⟨o, e, d⟩ := T.obj _ _ st5 b hb
      exact (I7.pin (b, o) (List.mem_append_right _ (List.mem_append_right _ (mem_pinsAt hb e)))).2.1
    cases f with
    | next => obtain ⟨σ7, H7, I7, n7⟩ := q7; exact again I7 n7
    | cont => obtain ⟨σ7, H7, I7, n7⟩ := q7; exact again I7 n7
    | brk => obtain ⟨σ7, H7, I7, q7⟩ := q7; exact ⟨σ7, H7, I7.unpinned, q7⟩
    | ret v => obtain ⟨x7, σ7, H7, I7, r7, q7⟩ := q7; exact ⟨x7, σ7, H7, I7.unpinned, r7, q7⟩
end

/-! ### the forms one uses -/
/-- over a list that the body leaves as it is -/
theorem for_list {K : PySem.W.Frag} {a : Addr} {xs : List V} {g : TG} {tb : TS} {D : Ends} {σ : St} {H : Hp} (Pv : Nat → St → Hp → Prop) (h0 : Pv 0 σ H) (hl : ∀ i σ H, i ≤ xs.length → Pv i σ H → SqL K H a xs)
    (hs : ∀ i x σ H, xs[i]? = some x → Pv i σ H → g x σ H fun σ2 H2 => tb { D with nx := Pv (i + 1), ct := Pv (i + 1), bk := D.nx } σ2 H2) (hd : ∀ σ H, Pv xs.length σ H → D.nx σ H) :
    ∃ W : Nat → Nat → St → Hp → Prop, (∃ m, W 0 m σ H) ∧ ∀ i m σ H, W i m σ H →
      ((Itl K a).stop i H ∧ D.nx σ H) ∨ ((Itl K a).go i H ∧ ∃ N : St → Hp → Prop, (∀ σ' H', N σ' H' → ∃ m', m' < m ∧ W (i + 1) m' σ' H') ∧ ∀ x H', (Itl K a).yld i H x H' → g x σ H' fun σ2 H2 => tb { D with nx := N, ct := N, bk := D.nx } σ2 H2) := by
  refine ⟨fun i m σ H => m = xs.length - i ∧ i ≤ xs.length ∧ Pv i σ H, ⟨xs.length, by simp, Nat.zero_le _, h0⟩, ?_⟩
  rintro i m σ H ⟨rfl, hi, p⟩
  have q := hl i σ H hi p
  by_cases hlt : i < xs.length
  · refine .inr ⟨⟨xs, xs[i], q, by simp [hlt]⟩, Pv (i + 1), fun σ' H' p' => ⟨xs.length - (i + 1), by omega, rfl, hlt, p'⟩, fun x H' y => ?_⟩
    obtain ⟨e, y⟩ := y
    subst e
    exact hs i x σ _ (y xs q) p
  · have e : i = xs.length := by omega
    subst e
    exact .inl ⟨⟨xs, q, Nat.le_refl _⟩, hd σ H p⟩
theorem for_range {lo : Int} {n : Nat} {g : TG} {tb : TS} {D : Ends} {σ : St} {H : Hp} (Pv : Nat → St → Hp → Prop) (h0 : Pv 0 σ H)
    (hs : ∀ i σ H, i < n → Pv i σ H → g (.int (lo + i)) σ H fun σ2 H2 => tb { D with nx := Pv (i + 1), ct := Pv (i + 1), bk := D.nx } σ2 H2) (hd : ∀ σ H, Pv n σ H → D.nx σ H) :
    ∃ W : Nat → Nat → St → Hp → Prop, (∃ m, W 0 m σ H) ∧ ∀ i m σ H, W i m σ H →
      ((Itr lo n).stop i H ∧ D.nx σ H) ∨ ((Itr lo n).go i H ∧ ∃ N : St → Hp → Prop, (∀ σ' H', N σ' H' → ∃ m', m' < m ∧ W (i + 1) m' σ' H') ∧ ∀ x H', (Itr lo n).yld i H x H' → g x σ H' fun σ2 H2 => tb { D with nx := N, ct := N, bk := D.nx } σ2 H2) := by
  refine ⟨fun i m σ H => m = n - i ∧ i ≤ n ∧ Pv i σ H, ⟨n, by simp, Nat.zero_le _, h0⟩, ?_⟩
  rintro i m σ H ⟨rfl, hi, p⟩
  by_cases hlt : i < n
  · refine .inr ⟨hlt, Pv (i + 1), fun σ' H' p' => ⟨n - (i + 1), by omega, rfl, hlt, p'⟩, fun x H' y => ?_⟩
    obtain ⟨e, y⟩ := y
    subst e y
    exact hs i σ _ hlt p
  · have e : i = n := by omega
    subst e
    exact .inl ⟨Nat.le_refl _, hd σ H p⟩
end L2

namespace L2
open PySem PySem.Spec PyProof.Rows

noncomputable abbrev R2 := V → V → Hp → VK → Prop
/-- a two-place operation on values: f is binaryOp op, inplaceOp op or compareOp op -/
noncomputable def OpR (X : Cx) (f : Value → Value → Sem Value) (r : R2) : Prop :=
  ∀ (pins : List (Addr × Obj)) (s : Shared) (σ : St) (H : Hp) (x y : V) (v u : Value) (Q : VK), Inv X pins σ H s → RelV x v → RelV y u → r x y H Q →
    wpAny (model X.prog X.w) X.A (f v u) (EP X pins σ Q) X.xe s
/-- a one-place operation -/
noncomputable def UnR (X : Cx) (f : Value → Sem Value) (r : V → Hp → VK → Prop) : Prop :=
  ∀ (pins : List (Addr × Obj)) (s : Shared) (σ : St) (H : Hp) (x : V) (v : Value) (Q : VK), Inv X pins σ H s → RelV x v → r x H Q →
    wpAny (model X.prog X.w) X.A (f v) (EP X pins σ Q) X.xe s
/-- a call of a value that is known (a builtin, a type) with values -/
noncomputable def CallR (X : Cx) (f : Value) (r : List V → Hp → VK → Prop) : Prop :=
  ∀ (pins : List (Addr × Obj)) (s : Shared) (σ : St) (H : Hp) (xs : List V) (us : List Value) (Q : VK), Inv X pins σ H s → Vals xs us → r xs H Q →
    wpAny (model X.prog X.w) X.A (call f us) (EP X pins σ Q) X.xe s
/-- a value's truth -/
noncomputable def TruR (X : Cx) (r : V → Hp → (Bool → Hp → Prop) → Prop) : Prop :=
  ∀ (pins : List (Addr × Obj)) (s : Shared) (σ : St) (H : Hp) (x : V) (v : Value) (Q : Bool → Hp → Prop), Inv X pins σ H s → RelV x v → r x H Q →
    wpAny (model X.prog X.w) X.A (truthy v) (TP X pins σ Q) X.xe s

noncomputable def tOp (r : R2) (ta tb : TE) : TE := fun σ H Q => ta σ H fun x H1 => tb σ H1 fun y H2 => r x y H2 Q
noncomputable def tUn (r : V → Hp → VK → Prop) (ta : TE) : TE := fun σ H Q => ta σ H fun x H1 => r x H1 Q
/-- ints in, under C, and a value out -/
noncomputable def rI (C : Int → Int → Prop) (g : Int → Int → V) : R2 := fun x y H Q => ∃ i j, x = .int i ∧ y = .int j ∧ C i j ∧ Q (g i j) H
noncomputable def rI0 (g : Int → Int → V) : R2 := fun x y H Q => ∃ i j, x = .int i ∧ y = .int j ∧ Q (g i j) H
noncomputable def rU (g : Int → V) : V → Hp → VK → Prop := fun x H Q => ∃ i, x = .int i ∧ Q (g i) H

section
variable {X : Cx} {a b c : Expr} {ta tb tc : TE} {pos : Pos}

theorem binT (ha : PE X a ta) (hb : PE X b tb) {pins : List (Addr × Obj)} {s : Shared} {σ : St} {H : Hp} {R : V → V → Hp → Prop} (I : Inv X pins σ H s)
    (h : ta σ H fun x H1 => tb σ H1 fun y H2 => R x y H2) {Q : Value → Shared → Prop} {f : Value → Value → Sem Value}
    (hf : ∀ v u s2 x y H2, Inv X pins σ H2 s2 → RelV x v → RelV y u → R x y H2 → wpAny (model X.prog X.w) X.A (f v u) Q X.xe s2) :
    wpAny (model X.prog X.w) X.A (eval a X.env) (fun v s₁ => wpAny (model X.prog X.w) X.A (eval b X.env) (fun u s₂ => wpAny (model X.prog X.w) X.A (f v u) Q X.xe s₂) X.xe s₁) X.xe s := by
  refine thn (ha pins s σ H _ I h) fun v s1 ⟨x, H1, I1, r1, q1⟩ => ?_
  refine thn (hb pins s1 σ H1 _ I1 q1) fun u s2 ⟨y, H2, I2, r2, q2⟩ => ?_
  exact hf v u s2 x y H2 I2 r1 r2 q2

theorem pe_op {op : Operator} {r : R2} (ho : OpR X (binaryOp op) r) (ha : PE X a ta) (hb : PE X b tb) : PE X (.BinOp a op b pos) (tOp r ta tb) := by
  intro pins s σ H Q I h
  exact wpAny_BinOp (binT ha hb I h fun v u s2 x y H2 I2 rx ry q => ho pins s2 σ H2 x y v u Q I2 rx ry q)
theorem pe_un {op : UnaryOp} {r : V → Hp → VK → Prop} (ho : UnR X (unaryOp op) r) (ha : PE X a ta) : PE X (.UnaryOp op a pos) (tUn r ta) := by
  intro pins s σ H Q I h
  exact UnaryOp_ (thn (ha pins s σ H _ I h) fun v s1 ⟨x, H1, I1, r1, q1⟩ => ho pins s1 σ H1 x v Q I1 r1 q1)

/-! ### ints -/
theorem opI {f : Value → Value → Sem Value} {C : Int → Int → Prop} {g : Int → Int → Int}
    (rule : ∀ (i j : Int) (t u : Tok) (s : Shared) (Q : Value → Shared → Prop) (E : Value → Shared → Prop), C i j → Q (.int (g i j) s.toks) { s with toks := s.toks + 1 } → wpAny (model X.prog X.w) X.A (f (.int i t) (.int j u)) Q E s) :
    OpR X f (rI C fun i j => .int (g i j)) := by
  intro pins s σ H x y v u Q I rx ry h
  obtain ⟨i, j, rfl, rfl, hc, q⟩ := h
  obtain ⟨t, rfl⟩ := rx
  obtain ⟨t', rfl⟩ := ry
  exact rule i j t t' s _ _ hc ⟨.int (g i j), H, I.tok _, ⟨_, rfl⟩, q⟩
theorem opI0 {f : Value → Value → Sem Value} {g : Int → Int → Int}
    (rule : ∀ (i j : Int) (t u : Tok) (s : Shared) (Q : Value → Shared → Prop) (E : Value → Shared → Prop), Q (.int (g i j) s.toks) { s with toks := s.toks + 1 } → wpAny (model X.prog X.w) X.A (f (.int i t) (.int j u)) Q E s) :
    OpR X f (rI0 fun i j => .int (g i j)) := by
  intro pins s σ H x y v u Q I rx ry h
  obtain ⟨i, j, rfl, rfl, q⟩ := h
  obtain ⟨t, rfl⟩ := rx
  obtain ⟨t', rfl⟩ := ry
  exact rule i j t t' s _ _ ⟨.int (g i j), H, I.tok _, ⟨_, rfl⟩, q⟩
theorem opB0 {f : Value → Value → Sem Value} {g : Int → Int → Bool}
    (rule : ∀ (i j : Int) (t u : Tok) (s : Shared) (Q : Value → Shared → Prop) (E : Value → Shared → Prop), Q (.bool (g i j)) s → wpAny (model X.prog X.w) X.A (f (.int i t) (.int j u)) Q E s) :
    OpR X f (rI0 fun i j => .bl (g i j)) := by
  intro pins s σ H x y v u Q I rx ry h
  obtain ⟨i, j, rfl, rfl, q⟩ := h
  obtain ⟨t, rfl⟩ := rx
  obtain ⟨t', rfl⟩ := ry
  exact rule i j t t' s _ _ ⟨.bl (g i j), H, I, rfl, q⟩

noncomputable def CDiv (i j : Int) : Prop := 0 < j ∧ j < 1073741824
noncomputable def CDivN (i j : Int) : Prop := j ≠ 0 ∧ j.natAbs < 1073741824
noncomputable def CPow (i j : Int) : Prop := 0 ≤ j ∧ j ≤ 1000000 ∧ i.natAbs < 2 ^ 64
noncomputable def CMul (i j : Int) : Prop := (-(2 ^ 64) < i ∧ i < 2 ^ 64) ∨ (-(2 ^ 64) < j ∧ j < 2 ^ 64)
theorem two_pow_nn (k : Nat) : (0 : Int) ≤ 2 ^ k := by
  rw [two_pow_cast]
  exact Int.natCast_nonneg _

theorem op_add : OpR X (binaryOp .Add) (rI0 fun i j => .int (i + j)) := opI0 fun _ _ _ _ _ _ _ q => add_int q
theorem op_sub : OpR X (binaryOp .Sub) (rI0 fun i j => .int (i - j)) := opI0 fun _ _ _ _ _ _ _ q => sub_int q
/-- % by a positive divisor of any size -/
theorem op_mod : OpR X (binaryOp .Mod) (rI (fun _ j => 0 < j) fun i j => .int (i % j)) := opI fun i j _ _ _ _ _ hc q => by
  have h1 : (0 : Int) < j := hc
  exact mod_int' (by omega) (by rw [Int.fmod_eq_emod_of_nonneg i (by omega)]; exact q)
theorem op_pow : OpR X (binaryOp .Pow) (rI CPow fun i j => .int (i ^ j.toNat)) := opI fun _ _ _ _ _ _ _ hc q => pow_int_small hc.1 hc.2.1 hc.2.2 q
theorem op_shl : OpR X (binaryOp .LShift) (rI CPow fun i j => .int (i * 2 ^ j.toNat)) := opI fun _ _ _ _ _ _ _ hc q => lshift_int_small hc.1 hc.2.1 hc.2.2 q
theorem op_shr : OpR X (binaryOp .RShift) (rI (fun _ j => 0 ≤ j) fun i j => .int (i / 2 ^ j.toNat)) := opI fun i j _ _ _ _ _ hc q =>
  rshift_int hc (by rw [Int.fdiv_eq_ediv_of_nonneg i (two_pow_nn _)]; exact q)
theorem op_and : OpR X (binaryOp .BitAnd) (rI0 fun i j => .int (Builtin.bitAnd i j)) := opI0 fun _ _ _ _ _ _ _ q => and_int q
theorem op_or : OpR X (binaryOp .BitOr) (rI0 fun i j => .int (Builtin.bitOr i j)) := opI0 fun _ _ _ _ _ _ _ q => or_int q
theorem op_xor : OpR X (binaryOp .BitXor) (rI0 fun i j => .int (Builtin.bitXor i j)) := opI0 fun _ _ _ _ _ _ _ q => xor_int q


theorem unI {f : Value → Sem Value} {g : Int → Int}
    (rule : ∀ (i : Int) (t : Tok) (s : Shared) (Q : Value → Shared → Prop) (E : Value → Shared → Prop), Q (.int (g i) s.toks) { s with toks := s.toks + 1 } → wpAny (model X.prog X.w) X.A (f (.int i t)) Q E s) :
    UnR X f (rU fun i => .int (g i)) := by
  intro pins s σ H x v Q I rx h
  obtain ⟨i, rfl, q⟩ := h
  obtain ⟨t, rfl⟩ := rx
  exact rule i t s _ _ ⟨.int (g i), H, I.tok _, ⟨_, rfl⟩, q⟩
theorem un_neg : UnR X (unaryOp .USub) (rU fun i => .int (-i)) := unI fun _ _ _ _ _ q => neg_int q

/-! ### bools among ints: n += (a < b) -/
end

/-! ### comparisons -/
/-- the scalars that == tells apart as data does -/
noncomputable def scal : V → V → Bool
  | .non, .non => true | .non, .int _ => true | .int _, .non => true | .non, .bl _ => true | .bl _, .non => true | .non, .str _ => true | .str _, .non => true
  | .int _, .int _ => true | .bl _, .bl _ => true | .str _, .str _ => true | .byt _, .byt _ => true
  | .int _, .str _ => true | .str _, .int _ => true | .bl _, .str _ => true | .str _, .bl _ => true
  | _, _ => false
noncomputable def rEq : R2 := fun x y H Q => scal x y = true ∧ Q (.bl (decide (x = y))) H
noncomputable def rNe : R2 := fun x y H Q => scal x y = true ∧ Q (.bl (!decide (x = y))) H

theorem dec_int {i j : Int} : decide (V.int i = V.int j) = (i == j) := by
  rw [Bool.eq_iff_iff]
  simp
theorem dec_bl {i j : Bool} : decide (V.bl i = V.bl j) = (i == j) := by
  rw [Bool.eq_iff_iff]
  simp
theorem dec_str {i j : Str} : decide (V.str i = V.str j) = (i == j) := by
  rw [Bool.eq_iff_iff]
  simp
theorem dec_byt {i j : Array UInt8} : decide (V.byt i = V.byt j) = (i.toList == j.toList) := by
  rw [Bool.eq_iff_iff]
  cases i
  cases j
  simp

section
variable {X : Cx} {a b c : Expr} {ta tb tc : TE} {pos : Pos}
theorem fin_bl {pins : List (Addr × Obj)} {σ : St} {H : Hp} {s : Shared} {Q : VK} {k k' : Bool} (I : Inv X pins σ H s) (q : Q (.bl k) H) (e : k = k') : EP X pins σ Q (.bool k') s := by
  subst e
  exact ⟨.bl k, H, I, rfl, q⟩
theorem op_eq : OpR X (compareOp .Eq) rEq := by
  intro pins s σ H x y v u Q I rx ry h
  obtain ⟨hs, q⟩ := h
  cases x with
  | non =>
    cases rx
    cases y with
    | non => cases ry; exact PySem.EqNone.eq_none_none (fin_bl I q (by simp))
    | bl j => cases ry; exact PySem.EqNone.eq_none_bool (fin_bl I q (by simp))
    | int j => obtain ⟨t', rfl⟩ := ry; exact PySem.EqNone.eq_none_int (fin_bl I q (by simp))
    | str j => obtain ⟨t', rfl⟩ := ry; exact PySem.EqNone.eq_none_str (fin_bl I q (by simp))
    | _ => exact absurd (show false = true from hs) Bool.false_ne_true
  | bl i =>
    cases rx
    cases y with
    | non => cases ry; exact PySem.EqNone.eq_bool_none (fin_bl I q (by simp))
    | bl j => cases ry; exact eq_bool (fin_bl I q dec_bl)
    | str j => obtain ⟨t', rfl⟩ := ry; exact PySem.EqMixed.eq_bool_str (fin_bl I q (by simp))
    | _ => exact absurd (show false = true from hs) Bool.false_ne_true
  | int i =>
    obtain ⟨t, rfl⟩ := rx
    cases y with
    | non => cases ry; exact PySem.EqNone.eq_int_none (fin_bl I q (by simp))
    | int j => obtain ⟨t', rfl⟩ := ry; exact eq_int (fin_bl I q dec_int)
    | str j => obtain ⟨t', rfl⟩ := ry; exact PySem.EqMixed.eq_int_str (fin_bl I q (by simp))
    | _ => exact absurd (show false = true from hs) Bool.false_ne_true
  | str i =>
    obtain ⟨t, rfl⟩ := rx
    cases y with
    | non => cases ry; exact PySem.EqNone.eq_str_none (fin_bl I q (by simp))
    | bl j => cases ry; exact PySem.EqMixed.eq_str_bool (fin_bl I q (by simp))
    | int j => obtain ⟨t', rfl⟩ := ry; exact PySem.EqMixed.eq_str_int (fin_bl I q (by simp))
    | str j => obtain ⟨t', rfl⟩ := ry; exact eq_str (fin_bl I q dec_str)
    | _ => exact absurd (show false = true from hs) Bool.false_ne_true
  | byt i =>
    obtain ⟨t, rfl⟩ := rx
    cases y with
    | byt j => obtain ⟨t', rfl⟩ := ry; exact PySem.W.eq_bytes (fin_bl I q dec_byt)
    | _ => exact absurd (show false = true from hs) Bool.false_ne_true
  | _ => cases y <;> exact absurd (show false = true from hs) Bool.false_ne_true
theorem op_ne : OpR X (compareOp .NotEq) rNe := by
  intro pins s σ H x y v u Q I rx ry h
  obtain ⟨hs, q⟩ := h
  cases x with
  | non =>
    cases rx
    cases y with
    | non => cases ry; exact PySem.EqNone.ne_none_none (fin_bl I q (by simp))
    | bl j => cases ry; exact PySem.EqNone.ne_none_bool (fin_bl I q (by simp))
    | int j => obtain ⟨t', rfl⟩ := ry; exact PySem.EqNone.ne_none_int (fin_bl I q (by simp))
    | str j => obtain ⟨t', rfl⟩ := ry; exact PySem.EqNone.ne_none_str (fin_bl I q (by simp))
    | _ => exact absurd (show false = true from hs) Bool.false_ne_true
  | bl i =>
    cases rx
    cases y with
    | non => cases ry; exact PySem.EqNone.ne_bool_none (fin_bl I q (by simp))
    | bl j => cases ry; exact ne_bool (fin_bl I q (congrArg not dec_bl))
    | str j => obtain ⟨t', rfl⟩ := ry; exact PySem.EqMixed.ne_bool_str (fin_bl I q (by simp))
    | _ => exact absurd (show false = true from hs) Bool.false_ne_true
  | int i =>
    obtain ⟨t, rfl⟩ := rx
    cases y with
    | non => cases ry; exact PySem.EqNone.ne_int_none (fin_bl I q (by simp))
    | int j => obtain ⟨t', rfl⟩ := ry; exact ne_int (fin_bl I q (congrArg not dec_int))
    | str j => obtain ⟨t', rfl⟩ := ry; exact PySem.EqMixed.ne_int_str (fin_bl I q (by simp))
    | _ => exact absurd (show false = true from hs) Bool.false_ne_true
  | str i =>
    obtain ⟨t, rfl⟩ := rx
    cases y with
    | non => cases ry; exact PySem.EqNone.ne_str_none (fin_bl I q (by simp))
    | bl j => cases ry; exact PySem.EqMixed.ne_str_bool (fin_bl I q (by simp))
    | int j => obtain ⟨t', rfl⟩ := ry; exact PySem.EqMixed.ne_str_int (fin_bl I q (by simp))
    | str j => obtain ⟨t', rfl⟩ := ry; exact ne_str (fin_bl I q (congrArg not dec_str))
    | _ => exact absurd (show false = true from hs) Bool.false_ne_true
  | byt i =>
    obtain ⟨t, rfl⟩ := rx
    cases y with
    | byt j => obtain ⟨t', rfl⟩ := ry; exact PySem.W.ne_bytes (fin_bl I q (congrArg not dec_byt))
    | _ => exact absurd (show false = true from hs) Bool.false_ne_true
  | _ => cases y <;> exact absurd (show false = true from hs) Bool.false_ne_true

theorem op_lt : OpR X (compareOp .Lt) (rI0 fun i j => .bl (decide (i < j))) := opB0 fun _ _ _ _ _ _ _ q => lt_int q
theorem op_le : OpR X (compareOp .LtE) (rI0 fun i j => .bl (decide (i ≤ j))) := opB0 fun _ _ _ _ _ _ _ q => le_int q
theorem op_gt : OpR X (compareOp .Gt) (rI0 fun i j => .bl (decide (j < i))) := opB0 fun _ _ _ _ _ _ _ q => gt_int q
theorem op_ge : OpR X (compareOp .GtE) (rI0 fun i j => .bl (decide (j ≤ i))) := opB0 fun _ _ _ _ _ _ _ q => ge_int q

/-- is None, is not None: the right side a value none -/
theorem op_isN : OpR X (compareOp .Is) (fun x y H Q => y = .non ∧ Q (.bl (decide (x = .non))) H) := by
  intro pins s σ H x y v u Q I rx ry h
  obtain ⟨rfl, q⟩ := h
  cases ry
  refine is_none_gen (fin_bl I q ?_)
  cases x <;> first
    | (cases rx; rfl)
    | (obtain ⟨t, rfl⟩ := rx; rfl)
theorem op_notN : OpR X (compareOp .IsNot) (fun x y H Q => y = .non ∧ Q (.bl (!decide (x = .non))) H) := by
  intro pins s σ H x y v u Q I rx ry h
  obtain ⟨rfl, q⟩ := h
  cases ry
  refine isnot_none_gen (fin_bl I q ?_)
  cases x <;> first
    | (cases rx; rfl)
    | (obtain ⟨t, rfl⟩ := rx; rfl)

/-- is, is not of two objects that are tracked lists or instances -/
noncomputable def isObj : HO → Bool
  | .lst _ => true
  | .ins _ _ _ => true
  | _ => false


theorem nomark (b : Expr) {op : CmpOp} (h : op ≠ .In := by decide) (h2 : op ≠ .NotIn := by decide) : behindInMarks op b = false := by
  have e1 : (op == CmpOp.In) = false := by cases op <;> first | rfl | exact absurd rfl h
  have e2 : (op == CmpOp.NotIn) = false := by cases op <;> first | rfl | exact absurd rfl h2
  cases b <;> simp [behindInMarks, e1, e2]
/-- a comparison as a value; hm: nomark b, or (for in, not in) by with_unfolding_all rfl -/
theorem pe_cmpR {op : CmpOp} {r : R2} (ho : OpR X (compareOp op) r) (ha : PE X a ta) (hb : PE X b tb) (hm : behindInMarks op b = false) : PE X (.Compare a [op] [b] pos) (tOp r ta tb) := by
  intro pins s σ H Q I h
  exact wpAny_Compare1 (binT ha hb I h fun v u s2 x y H2 I2 rx ry q => ho pins s2 σ H2 x y v u Q I2 rx ry q) hm
/-- a reading of a value as a test -/
noncomputable def tTest (t : TE) : TT := fun σ H Q => t σ H fun x H' => ∃ k, x = .bl k ∧ Q k H'
theorem pt_cmpR {op : CmpOp} {r : R2} (ho : OpR X (compareOp op) r) (ha : PE X a ta) (hb : PE X b tb) (hm : behindInMarks op b = false) : PT X (.Compare a [op] [b] pos) (tTest (tOp r ta tb)) := by
  intro pins s σ H Q I h
  refine wpAny_isTrue_Compare1 (thn (ha pins s σ H _ I h) fun v s1 ⟨x, H1, I1, r1, q1⟩ => thn (hb pins s1 σ H1 _ I1 q1) fun u s2 ⟨y, H2, I2, r2, q2⟩ =>
    thn (ho pins s2 σ H2 x y v u _ I2 r1 r2 q2) fun c s3 ⟨z, H3, I3, r3, k, e, q3⟩ => ?_) hm
  subst e
  cases r3
  exact wpAny_truthy_bool ⟨H3, I3, q3⟩
/-- a op1 b op2 c -/
noncomputable def tChain (r r' : R2) (ta tb tc : TE) : TE := fun σ H Q => ta σ H fun x H1 => tb σ H1 fun y H2 => r x y H2 fun z H3 => ∃ k, z = .bl k ∧
  (if k = true then tc σ H3 fun w' H4 => r' y w' H4 Q else Q (.bl false) H3)
theorem pe_chain {op op' : CmpOp} {r r' : R2} (ho : OpR X (compareOp op) r) (ho' : OpR X (compareOp op') r') (ha : PE X a ta) (hb : PE X b tb) (hc : PE X c tc)
    (hm : lastMarks [op, op'] [b, c] = false := by with_unfolding_all rfl) : PE X (.Compare a [op, op'] [b, c] pos) (tChain r r' ta tb tc) := by
  intro pins s σ H Q I h
  refine Compare_chain (thn (ha pins s σ H _ I h) fun v s1 ⟨x, H1, I1, r1, q1⟩ => chain_link (thn (hb pins s1 σ H1 _ I1 q1) fun u s2 ⟨y, H2, I2, r2, q2⟩ =>
    thn (ho pins s2 σ H2 x y v u _ I2 r1 r2 q2) fun d s3 ⟨z, H3, I3, r3, k, e, q3⟩ => ?_)) hm
  subst e
  cases r3
  refine wpAny_truthy_bool ?_
  cases k with
  | false => exact ite_ff ⟨.bl false, H3, I3, rfl, q3⟩
  | true => exact ite_tt (chain_last (thn (hc pins s3 σ H3 _ I3 q3) fun w' s4 ⟨z', H4, I4, r4, q4⟩ => ho' pins s4 σ H4 y z' u w' Q I4 r2 r4 q4))

/-! ### truth -/
/-- a value's truth by the abstract heap -/
noncomputable def TruV (K : PySem.W.Frag) (x : V) (H : Hp) (k : Bool) : Prop :=
  match x with
  | .non => k = false
  | .bl b => k = b
  | .int i => k = (i != 0)
  | .str y => y.length ≤ sizeLine ∧ k = ((y.length : Int) != 0)
  | .byt y => y.size ≤ sizeLine ∧ k = ((y.size : Int) != 0)
  | .ref p => (∃ xs, SqL K H p xs ∧ k = !xs.isEmpty) ∨ (∃ xs, SqT K H p xs ∧ k = !xs.isEmpty) ∨ ∃ kvs, H p = some (.dK kvs) ∧ k = !kvs.isEmpty
  | _ => False
theorem line63 : (sizeLine : Nat) < 2 ^ 63 := by rw [sizeLine_eq]; decide

/-! ### strs and bytes -/

noncomputable def PlainIxT (b : Expr) : Prop := ∀ o i, subscripted b false o i = operate [o, i] (getItem o i)

/-! ### scalar builtins, by CallR -/
theorem vals1 {x : V} {us : List Value} (r : Vals [x] us) : ∃ u, us = [u] ∧ RelV x u := by
  cases r with
  | cons r1 r2 => cases r2; exact ⟨_, rfl, r1⟩
theorem vals2 {x y : V} {us : List Value} (r : Vals [x, y] us) : ∃ u w', us = [u, w'] ∧ RelV x u ∧ RelV y w' := by
  cases r with
  | cons r1 r2 =>
    cases r2 with
    | cons r3 r4 => cases r4; exact ⟨_, _, rfl, r1, r3⟩
theorem call_max2 (hc : X.calm = true) : CallR X (.builtin "max") (fun xs H Q => ∃ i j, xs = [.int i, .int j] ∧ Q (.int (if j > i then j else i)) H) := by
  intro pins s σ H xs us Q I r h
  obtain ⟨i, j, rfl, q⟩ := h
  obtain ⟨u, w', rfl, ⟨t, rfl⟩, ⟨t', rfl⟩⟩ := vals2 r
  refine max_two_ints (I.ok.hd hc) fun h' tk k => ⟨_, H, I.kept k, ?_, q⟩
  by_cases hj : j > i
  · rw [if_pos hj, if_pos hj]; exact ⟨_, rfl⟩
  · rw [if_neg hj, if_neg hj]; exact ⟨_, rfl⟩
theorem call_min2 (hc : X.calm = true) : CallR X (.builtin "min") (fun xs H Q => ∃ i j, xs = [.int i, .int j] ∧ Q (.int (if j < i then j else i)) H) := by
  intro pins s σ H xs us Q I r h
  obtain ⟨i, j, rfl, q⟩ := h
  obtain ⟨u, w', rfl, ⟨t, rfl⟩, ⟨t', rfl⟩⟩ := vals2 r
  refine min_two_ints (I.ok.hd hc) fun h' tk k => ⟨_, H, I.kept k, ?_, q⟩
  by_cases hj : j < i
  · rw [if_pos hj, if_pos hj]; exact ⟨_, rfl⟩
  · rw [if_neg hj, if_neg hj]; exact ⟨_, rfl⟩
/-- len of a str, a bytes, a list, a tuple -/
noncomputable def LenV (K : PySem.W.Frag) (x : V) (H : Hp) (n : Nat) : Prop :=
  match x with
  | .str y => y.length ≤ sizeLine ∧ n = y.length
  | .byt y => y.size ≤ sizeLine ∧ n = y.size
  | .ref p => (∃ xs, SqL K H p xs ∧ n = xs.length) ∨ ∃ xs, SqT K H p xs ∧ n = xs.length
  | _ => False
end
end L2

namespace L2
open PySem PySem.Spec PyProof.Rows

/-! ### an instance, its attributes a map -/
structure ObjM (h : Heap) (x dx C : Addr) (mA : Str → Option Value) : Prop where
  obj : h.get? x = some (PySem.W.instObj C dx)
  ns : h.Ns1 dx mA
  ne : dx ≠ x

theorem lookIn_ns {h : Heap} {dx : Addr} {mA : Str → Option Value} (n : h.Ns1 dx mA) : ∃ od, h.get? dx = some od ∧ ∀ name, PySem.W.lookIn name od = some (mA name) := by
  obtain ⟨o, es, ep, ho, hd, hk, _, hm⟩ := n
  refine ⟨o, ho, fun name => ?_⟩
  have e := hm name
  unfold nsFind findBy at e
  rw [← Array.find?_toList] at e
  unfold PySem.W.lookIn
  rw [hd]
  dsimp only
  split
  · rename_i y q
    rw [q] at e
    exact congrArg some e
  · rename_i q
    rw [q] at e
    have a : es.toList.any (·.refKey) = false := by
      rw [List.any_eq_false]
      intro y hy
      obtain ⟨z, t, hkey⟩ := hk y (Array.mem_toList_iff.mp hy)
      simp [DictEntry.refKey, hkey]
    have a' : ¬ es.toList.any (·.refKey) = true := by rw [a]; exact Bool.false_ne_true
    rw [if_neg a']
    exact congrArg some e

theorem ObjM.look {h : Heap} {x dx C : Addr} {mA : Str → Option Value} (I : ObjM h x dx C mA) : ∃ od, PySem.W.InstAt h x (PySem.W.instObj C dx) C (some od) ∧ ∀ name, PySem.W.lookIn name od = some (mA name) :=
  let ⟨od, ho, hl⟩ := lookIn_ns I.ns
  ⟨od, ⟨I.obj, rfl, rfl, ho⟩, hl⟩

section
variable {prog : Program} {w : World} {A : Around} {E : Value → Shared → Prop} {s : Shared} {K : PySem.W.Frag} {x dx C f : Addr} {mA : Str → Option Value} {name : Str} {v : Value}





end

/-! ### the attributes as a list of pairs -/
noncomputable def putF (f : Str) (v : V) : List (Str × V) → List (Str × V)
  | [] => [(f, v)]
  | (g, x) :: r => if g = f then (g, v) :: r else (g, x) :: putF f v r


section
variable {P : Program} {w : World} {H H' : Hp} {h h' : Heap} {a C dx : Addr} {fs fs' : List (Str × V)}
theorem ins_get (hok : HOk P w H h) (e : H a = some (.ins C dx fs)) : ∃ mA, ObjM h a dx C mA ∧ (∀ f, RelO (fs.lookup f) (mA f)) ∧ PySem.Within mA (fs.map (·.1)) ∧ fs.length ≤ 1000 ∧ H dx = some (.own a) := by
  obtain ⟨d, z, ne, ob, mA, n, r, q⟩ := (show ObjOk P w H h a (.ins C dx fs) from hok a _ e)
  exact ⟨mA, ⟨ob, n, ne⟩, r, q, z, d⟩
end

/-! ### what of the text a class must have -/
structure Cls (K : PySem.W.Frag) (C : Addr) : Prop where
  pg : PySem.W.plainGet K C Str.empty = true
  hd : PySem.W.hasDictIn K C = true
  po : PySem.W.plainOver K C = true
  sa : PySem.W.findIn K (.ref C) "__setattr__" = some (some (.builtin "object.__setattr__"))
theorem Cls.get {K : PySem.W.Frag} {C : Addr} (c : Cls K C) (f : Str) : PySem.W.plainGet K C f = true := c.pg
/-- no class of it has the name -/
noncomputable def NoAttr (K : PySem.W.Frag) (C : Addr) (f : Str) : Prop := PySem.W.findIn K (.ref C) f = some none
/-- a constant of the class -/
structure Con (K : PySem.W.Frag) (C : Addr) (f : Str) (v : V) (u : Value) : Prop where
  at_ : PySem.W.findIn K (.ref C) f = some (some u)
  rel : RelV v u
  get : PySem.W.specialIn K u "__get__" = some none
  cp : PySem.W.copiedNames.contains f = false
/-- a method: a plain def of the class or of one above it -/
structure Meth (K : PySem.W.Frag) (C : Addr) (m : Str) (f : Addr) : Prop where
  at_ : PySem.W.findIn K (.ref C) m = some (some (.ref f))
  fn : PySem.W.isFn K (.ref f) = true
  kp : PySem.W.keepIn K (.ref f) = true

section
variable {X : Cx} {pins : List (Addr × Obj)} {σ : St} {H : Hp} {s : Shared} {a C dx : Addr} {fs : List (Str × V)} {f : Str} {v : V} {A : Around} {E : Value → Shared → Prop}






end

/-! ### readings and rules -/
/-- e.f, an attribute of the instance -/
noncomputable def tFld (K : PySem.W.Frag) (ta : TE) (f : Str) : TE := fun σ H Q => ta σ H fun x H1 => ∃ a C dx fs v, x = .ref a ∧ H1 a = some (.ins C dx fs) ∧ Cls K C ∧ NoAttr K C f ∧ fs.lookup f = some v ∧ Q v H1
/-- e.f, a constant of the class -/
noncomputable def tCon (K : PySem.W.Frag) (ta : TE) (f : Str) : TE := fun σ H Q => ta σ H fun x H1 => ∃ a C dx fs v u, x = .ref a ∧ H1 a = some (.ins C dx fs) ∧ Cls K C ∧ Con K C f v u ∧ fs.lookup f = none ∧ Q v H1
/-- e.f = value -/
noncomputable def sFld (K : PySem.W.Frag) (ta tv : TE) (f : Str) : TS := fun D σ H => tv σ H fun y H1 => ta σ H1 fun x H2 => ∃ a C dx fs, x = .ref a ∧ H2 a = some (.ins C dx fs) ∧ Cls K C ∧ NoAttr K C f ∧ fs.length < 1000 ∧
  D.nx σ (upd H2 a (.ins C dx (putF f y fs)))
/-- an augmented operator on two values -/
noncomputable def InOp (X : Cx) (op : Operator) (rd : V → V → Hp → VK → Prop) : Prop :=
  ∀ (pins : List (Addr × Obj)) (s : Shared) (σ : St) (H : Hp) (x y : V) (u v : Value) (Q : VK), Inv X pins σ H s → RelV x u → RelV y v → rd x y H Q → wpAny (model X.prog X.w) X.A (inplaceOp op u v) (EP X pins σ Q) X.xe s
/-- e.f op= value -/
noncomputable def sFldAug (K : PySem.W.Frag) (ta tv : TE) (rd : V → V → Hp → VK → Prop) (f : Str) : TS := fun D σ H => ta σ H fun x H1 => ∃ a C dx fs v, x = .ref a ∧ H1 a = some (.ins C dx fs) ∧ Cls K C ∧ NoAttr K C f ∧ fs.lookup f = some v ∧
  tv σ H1 fun y H2 => rd v y H2 fun z H3 => ∃ dx' fs', H3 a = some (.ins C dx' fs') ∧ fs'.length < 1000 ∧ D.nx σ (upd H3 a (.ins C dx' (putF f z fs')))

section
variable {X : Cx} {o e value : Expr} {f : Str} {pos pos' tpos : Pos} {ta tv : TE}
noncomputable def rAdd : V → V → Hp → VK → Prop := fun x y H Q => ∃ i j, x = .int i ∧ y = .int j ∧ Q (.int (i + j)) H
noncomputable def rSub : V → V → Hp → VK → Prop := fun x y H Q => ∃ i j, x = .int i ∧ y = .int j ∧ Q (.int (i - j)) H

end

/-! ### isinstance -/
section
variable {X : Cx} {pins : List (Addr × Obj)} {σ : St} {H : Hp} {s : Shared} {A : Around} {E : Value → Shared → Prop} {Q : Value → Shared → Prop} {c : Value} {b : Bool}
/-- the type of a value, as the fragment's deciders take it; for an instance its class -/
inductive TyOf (K : PySem.W.Frag) (H : Hp) : V → Value → Prop where
  | non : TyOf K H .non (.type "NoneType")
  | bl (x : Bool) : TyOf K H (.bl x) (.type "bool")
  | int (i : Int) : TyOf K H (.int i) (.type "int")
  | str (x : Str) : TyOf K H (.str x) (.type "str")
  | flt (x : UInt64) : TyOf K H (.flt x) (.type "float")
  | lst {a : Addr} {xs : List V} (e : H a = some (.lst xs)) : TyOf K H (.ref a) (.type "list")
  | frz {a : Addr} {o : Obj} {xs : List V} (e : H a = some (.frz o (.lst xs))) : TyOf K H (.ref a) (.type "list")
  | tup {a : Addr} {xs : List V} (e : H a = some (.tup xs)) : TyOf K H (.ref a) (.type "tuple")
  | dK {a : Addr} {kvs : List (Key × V)} (e : H a = some (.dK kvs)) : TyOf K H (.ref a) (.type "dict")
  | dT {a : Addr} {kvs : List (List Key × V)} (e : H a = some (.dT kvs)) : TyOf K H (.ref a) (.type "dict")
  | ins {a C dx : Addr} {fs : List (Str × V)} (e : H a = some (.ins C dx fs)) (cl : Cls K C) (ha : PySem.W.findIn K (.ref C) "__class__" = some (some (.builtin "object.__class__")))
      (hn : PySem.W.specialIn K (.builtin "object.__class__") "__get__" = some (some (.builtin "getset_descriptor.__get__"))) (htk : PySem.W.takesIn K (.builtin "object.__class__") = some true)
      (hm : PySem.W.mroIn K C (.type "object") = some true) : TyOf K H (.ref a) (.ref C)
/-- isinstance(x, c) for one class c, a built-in or an own one: kitOne's answer -/
theorem isinst_ok {x : V} {u t : Value} (I : Inv X pins σ H s) (rx : RelV x u) (ty : TyOf X.K H x t) (e : PySem.W.kitOne X.K t c = some b) (h : ∀ tk, Q (.bool b) { s with toks := tk }) :
    wpAny (model X.prog X.w) A (call (.builtin "isinstance") [u, c]) Q E s := by
  cases ty with
  | non => cases (show u = Value.none from rx); exact PySem.W.kia_one PySem.W.kitx_none I.kIn True.intro e (fun z => nomatch z) h
  | bl y => cases (show u = Value.bool y from rx); exact PySem.W.kia_one PySem.W.kitx_bool I.kIn True.intro e (fun z => nomatch z) h
  | int i => obtain ⟨t, q⟩ := (show ∃ t, u = Value.int i t from rx); cases q; exact PySem.W.kia_one PySem.W.kitx_int I.kIn True.intro e (fun z => nomatch z) h
  | str y => obtain ⟨t, q⟩ := (show ∃ t, u = Value.str y t from rx); cases q; exact PySem.W.kia_one PySem.W.kitx_str I.kIn True.intro e (fun z => nomatch z) h
  | flt y => obtain ⟨t, q⟩ := (show ∃ t, u = Value.float y t from rx); cases q; exact PySem.W.kia_one PySem.W.kitx_float I.kIn True.intro e (fun z => nomatch z) h
  | @lst a xs ea =>
    cases (show u = Value.ref a from rx)
    obtain ⟨_, _, n, _, h1⟩ := (show ObjOk X.prog X.w H s.heap a (.lst xs) from I.hok a _ ea)
    exact PySem.W.kia_one PySem.W.kitx_list I.kIn ⟨_, h1, rfl⟩ e (fun z => nomatch z) h
  | @frz a ob xs ea =>
    cases (show u = Value.ref a from rx)
    obtain ⟨_, _, _, n, _, h1⟩ := (show ObjOk X.prog X.w H s.heap a (.frz ob (.lst xs)) from I.hok a _ ea)
    exact PySem.W.kia_one PySem.W.kitx_list I.kIn ⟨_, h1, rfl⟩ e (fun z => nomatch z) h
  | @tup a xs ea =>
    cases (show u = Value.ref a from rx)
    obtain ⟨_, _, _, p⟩ := (show ObjOk X.prog X.w H s.heap a (.tup xs) from I.hok a _ ea)
    obtain ⟨o, h1, h2, _⟩ := p
    exact PySem.W.kia_one PySem.W.kitx_tuple I.kIn ⟨o, h1, h2⟩ e (fun z => nomatch z) h
  | @dK a kvs ea =>
    cases (show u = Value.ref a from rx)
    obtain ⟨_, _, vs, _, p⟩ := (show ObjOk X.prog X.w H s.heap a (.dK kvs) from I.hok a _ ea)
    obtain ⟨o, es, ep, h1, h2, _⟩ := p
    exact PySem.W.kia_one PySem.W.kitx_dict I.kIn ⟨o, h1, h2.1⟩ e (fun z => nomatch z) h
  | @dT a kvs ea =>
    cases (show u = Value.ref a from rx)
    obtain ⟨_, _, xs, _, o, es, ep, h1, h2, _⟩ := (show ObjOk X.prog X.w H s.heap a (.dT kvs) from I.hok a _ ea)
    exact PySem.W.kia_one PySem.W.kitx_dict I.kIn ⟨o, h1, h2.1⟩ e (fun z => nomatch z) h
  | @ins a C dx fs ea cl ha hn htk hm =>
    cases (show u = Value.ref a from rx)
    obtain ⟨mA, O, _⟩ := ins_get I.hok ea
    obtain ⟨od, J, _⟩ := O.look
    exact PySem.W.kia_one (PySem.W.kitx_own (cl.get _) cl.hd ha hn htk hm) I.kIn J e (fun z => nomatch z) h
end
end L2

namespace L2
open PySem PySem.Spec PyProof.Rows

/-! ### room -/
structure Room (k : Nat) (A : Around) : Prop where
  hd : A.handled = none
  dp : A.depth + 3 * k + 5 < recursionLimit
  un : A.units + 16 * k + 200 < cLine
theorem Room.mono {j k : Nat} {A : Around} (r : Room k A) (h : j ≤ k) : Room j A := ⟨r.hd, by have := r.dp; omega, by have := r.un; omega⟩
theorem Room.deeper {k : Nat} {A : Around} (r : Room (k + 1) A) (env : Env) : Room k (A.deeper env) :=
  ⟨r.hd, by have := r.dp; show A.depth + 1 + 3 * k + 5 < _; omega, by have := r.un; show A.units + 3 + 16 * k + 200 < _; omega⟩
theorem Room.depth {k : Nat} {A : Around} (r : Room k A) : A.depth < recursionLimit := by have := r.dp; omega

/-! ### argument lists and displays -/
noncomputable def tNil : TA := fun _ H Q => Q [] H
noncomputable def tCons (ta : TE) (tr : TA) : TA := fun σ H Q => ta σ H fun x H1 => tr σ H1 fun xs H2 => Q (x :: xs) H2
section
variable {X : Cx} {e : Expr} {es : List Expr} {te : TE} {t : TA} {pos : Pos}
theorem pa_nil : PA X [] tNil := fun _ _ _ _ H Q I h => Calls.spliced_nil ⟨[], H, I, .nil, h⟩
theorem pa_cons (ha : PE X e te) (hr : PA X es t) (hs : starEach (e :: es) X.env = (false, eval e X.env) :: starEach es X.env := by rfl) : PA X (e :: es) (tCons te t) := by
  intro pos pins s σ H Q I h
  rw [hs]
  show wpAny _ _ (spliced ((false, eval e X.env) :: backTo pos (starEach es X.env))) _ _ s
  refine Calls.spliced_cons (thn (ha pins s σ H _ I h) fun u s1 ⟨x, H1, I1, r1, q1⟩ => ?_)
  exact thn (hr pos pins s1 σ H1 _ I1 q1) fun us s2 ⟨xs, H2, I2, r2, q2⟩ => ⟨x :: xs, H2, I2, .cons r1 r2, q2⟩

/-- a tuple, a list of written items -/
noncomputable def tTup (t : TA) : TE := fun σ H Q => t σ H fun xs H1 => xs.length ≤ sizeLine ∧ ∀ p, H1 p = none → Q (.ref p) (upd H1 p (.tup xs))
noncomputable def tLst (t : TA) : TE := fun σ H Q => t σ H fun xs H1 => xs.length ≤ sizeLine ∧ ∀ p, H1 p = none → Q (.ref p) (upd H1 p (.lst xs))
theorem pe_tup {x1} (h : PA X es t) : PE X (.Tuple es x1 pos) (tTup t) := by
  intro pins s σ H Q I hq
  refine wpAny_Tuple_spliced (thn (h pos pins s σ H _ I hq) fun us s1 ⟨xs, H1, I1, r, z, q⟩ => ⟨by rw [← r.length]; exact z, ?_⟩)
  have hf : H1 s1.heap.objs.size = none := I1.hok.fresh (Nat.le_refl _)
  refine ⟨.ref s1.heap.objs.size, upd H1 s1.heap.objs.size (.tup xs), I1.laid (t' := s1.toks) (fun b u e => Heap.get?_push_of_some _ e) (Nat.le_refl _) ?_, rfl, q _ hf⟩
  exact ⟨z, us, r, ⟨_, Heap.get?_push_size _ rfl, rfl, _, rfl⟩⟩
theorem pe_lst (h : PA X es t) : PE X (.List es pos) (tLst t) := by
  intro pins s σ H Q I hq
  refine wpAny_List_spliced (thn (h pos pins s σ H _ I hq) fun us s1 ⟨xs, H1, I1, r, z, q⟩ => ⟨by rw [← r.length]; exact z, ?_⟩)
  have hf : H1 s1.heap.objs.size = none := I1.hok.fresh (Nat.le_refl _)
  refine ⟨.ref s1.heap.objs.size, upd H1 s1.heap.objs.size (.lst xs), I1.laid (t' := s1.toks) (fun b u e => Heap.get?_push_of_some _ e) (Nat.le_refl _) ?_, rfl, q _ hf⟩
  exact ⟨z, us, 0, r, Heap.get?_push_size _ rfl⟩
end

/-! ### what a def promises -/
/-- a def's promise: the bound arguments in the parameters' order, the heap, the wanted end, the wanted exception -/
noncomputable abbrev Sp := List V → Hp → VK → XK → Prop
/-- how an exception lies behind a call (file 08 gives it): the callers' frames, abstract heap and state ahead of the call, the wish, the exception, the state -/
noncomputable abbrev CXT := List Env → Hp → Shared → XK → Value → Shared → Prop

/-- the state at a call -/
structure Env0 (P : Program) (w : World) (K : PySem.W.Frag) (mg : Str → Option Value) (base : Heap) (A : Around) (outer : List Env) (s : Shared) (H : Hp) : Prop where
  frames : A.frames = some outer
  mod : Mod K mg base
  bs : ∀ b o, base.get? b = some o → s.heap.get? b = some o ∧ H b = none
  bsz : base.objs.size ≤ s.heap.objs.size
  funs : s.heap.FunFrames base outer
  frf : ∀ b ∈ frs outer, H b = none
  hok : HOk P w H s.heap
  bare : AllBare s.gens
/-- a call's end -/
noncomputable def CE (outer : List Env) (P : Program) (w : World) (H : Hp) (s : Shared) (Q : VK) (u : Value) (s' : Shared) : Prop :=
  ∃ v H', s'.os = s.os ∧ AllBare s'.gens ∧ Un (frs outer) [] H H' s.heap s'.heap ∧ HOk P w H' s'.heap ∧ RelV v u ∧ Q v H'
noncomputable def CR (CX : CXT) (outer : List Env) (P : Program) (w : World) (H : Hp) (s : Shared) (Q : VK) (E : XK) (r : Result) (s' : Shared) : Prop :=
  match r with
  | .ok (.ret u) => CE outer P w H s Q u s'
  | .ok _ => False
  | .error e => CX outer H s E e s'
structure FnOk (P : Program) (w : World) (K : PySem.W.Frag) (mg : Str → Option Value) (base : Heap) (CX : CXT) (k : Nat) (f : Addr) (fd : FuncData) (ps : List Str) (sp : Sp) : Prop where
  len : ∀ vs H Q E, sp vs H Q E → vs.length = ps.length
  run : ∀ (A : Around) (outer : List Env) (s : Shared) (H : Hp) (args : Args) (us : List Value) (vs : List V) (Q : VK) (E : XK), Room k A → Env0 P w K mg base A outer s H → BindsTo s fd args (ps.zip us) → Vals vs us → sp vs H Q E →
    codeAny (model P w) A (.call (.ref f) args) (CR CX outer P w H s Q E) s
/-- a weaker promise -/
theorem FnOk.imp {P : Program} {w : World} {K : PySem.W.Frag} {mg : Str → Option Value} {base : Heap} {CX : CXT} {k : Nat} {f : Addr} {fd : FuncData} {ps : List Str} {sp sp' : Sp} (F : FnOk P w K mg base CX k f fd ps sp)
    (h : ∀ vs H Q E, sp' vs H Q E → sp vs H Q E) : FnOk P w K mg base CX k f fd ps sp' :=
  ⟨fun vs H Q E q => F.len vs H Q E (h _ _ _ _ q), fun A outer s H args us vs Q E hr he hb hv hs => F.run A outer s H args us vs Q E hr he hb hv (h _ _ _ _ hs)⟩


section
variable {X : Cx} {pins : List (Addr × Obj)} {σ : St} {H : Hp} {s s' : Shared}
/-- from a body: what a callee wants -/
theorem Inv.env0 (I : Inv X pins σ H s) : Env0 X.prog X.w X.K X.mg X.base X.A X.stack s H :=
  ⟨I.ok.frames, I.ok.mod, I.bs, Nat.le_trans I.ok.bsz I.sz, I.stack, I.stkFree, I.hok, I.bare⟩
/-- behind a call -/
theorem Inv.after {Q : VK} {u : Value} (I : Inv X pins σ H s) (h : CE X.stack X.prog X.w H s Q u s') : EP X pins σ Q u s' := by
  obtain ⟨v, H', os, bare, un, hok, r, q⟩ := h
  obtain ⟨hh, g, d, t, os'⟩ := s'
  obtain rfl : os' = s.os := os
  exact ⟨v, H', I.call (h' := hh) (g' := g) (d' := d) (t' := t) (ch := []) un hok bare (fun b z => absurd z (by simp)), r, q⟩
end

/-! ### calls -/
/-- f(..): the written arguments, then the defaults dvs; E: what is wanted of an exception -/
noncomputable def tCall (sp : Sp) (dvs : List V) (E : XK) (t : TA) : TE := fun σ H Q => t σ H fun vs H1 => sp (vs ++ dvs) H1 Q E
/-- o.m(..) of an instance of the class at C -/
noncomputable def tMeth (C : Addr) (m : Str) (sp : Sp) (dvs : List V) (E : XK) (ta : TE) (t : TA) : TE := fun σ H Q => ta σ H fun x H1 => ∃ a dx fs, x = .ref a ∧ H1 a = some (.ins C dx fs) ∧ fs.lookup m = none ∧
  t σ H1 fun vs H2 => sp (x :: (vs ++ dvs)) H2 Q E
/-- C(..): a new instance and its dict, then __init__ -/
noncomputable def tMake (C : Addr) (sp : Sp) (dvs : List V) (E : XK) (t : TA) : TE := fun σ H Q => t σ H fun vs H1 => ∀ x dx, H1 x = none → H1 dx = none → dx ≠ x →
  sp (.ref x :: (vs ++ dvs)) (upd (upd H1 dx (.own x)) x (.ins C dx [])) (fun v H2 => v = .non ∧ Q (.ref x) H2) E

/-- how the parameters are bound: us the positional arguments, kw the keywords' values by name, ds the defaults that fill up -/
noncomputable def Binds (K : PySem.W.Frag) (fd : FuncData) (ps : List Str) (ds : List Value) : Prop :=
  ∀ (s : Shared) (us : List Value), K.In s.heap → (us ++ ds).length = ps.length → BindsTo s fd ⟨us, []⟩ (ps.zip (us ++ ds))
/-- every parameter is given -/
theorem Binds.all {K : PySem.W.Frag} {fd : FuncData} {ps : List Str} (h : ∀ us : List Value, us.length = ps.length → bindArgs fd ⟨us, []⟩ = pure (ps.zip us)) : Binds K fd ps [] := fun s us _ hl => by
  rw [List.append_nil] at hl ⊢
  exact .of_eq (h us hl)

/-- an exception of a callee reaches what this body wants of exceptions -/
noncomputable def Passes (CX : CXT) (X : Cx) (E : XK) : Prop := ∀ (pins : List (Addr × Obj)) (σ : St) (H : Hp) (s : Shared) (e : Value) (s' : Shared), Inv X pins σ H s → CX X.stack H s E e s' → X.xe e s'

section
variable {X : Cx} {CX : CXT} {k : Nat} {f C : Addr} {fd : FuncData} {ps : List Str} {sp : Sp} {dvs : List V} {ds : List Value} {E : XK} {x m : Str} {p pos apos : Pos} {e o : Expr} {es : List Expr} {ta : TE} {t : TA}

/-- the callee runs -/
theorem run_fn {pins : List (Addr × Obj)} {σ : St} {H : Hp} {s : Shared} {Q : VK} {us : List Value} {vs : List V} (F : FnOk X.prog X.w X.K X.mg X.base CX k f fd ps sp) (hr : Room k X.A) (hb : Binds X.K fd ps ds) (hd : Vals dvs ds) (hx : Passes CX X E)
    (I : Inv X pins σ H s) (r : Vals vs us) (h : sp (vs ++ dvs) H Q E) : wpAny (model X.prog X.w) X.A (call (.ref f) us) (EP X pins σ Q) X.xe s := by
  have r2 : Vals (vs ++ dvs) (us ++ ds) := r.append hd
  have hl : (us ++ ds).length = ps.length := by rw [← r2.length]; exact F.len _ _ _ _ h
  refine wpAny_call (codeAny_mono (F.run X.A X.stack s H ⟨us, []⟩ (us ++ ds) (vs ++ dvs) Q E hr I.env0 (hb s us I.kIn hl) r2 h) fun r s' hq => ?_)
  cases r with
  | error e => exact hx pins σ H s e s' I hq
  | ok fl =>
    cases fl with
    | ret u => exact I.after hq
    | next => exact False.elim hq
    | brk => exact False.elim hq
    | cont => exact False.elim hq

theorem pe_call (F : FnOk X.prog X.w X.K X.mg X.base CX k f fd ps sp) (hr : Room k X.A) (hg : Gl X x) (hm : X.mg x = some (.ref f)) (hk : PySem.W.keepIn X.K (.ref f) = true) (hb : Binds X.K fd ps ds) (hd : Vals dvs ds) (hx : Passes CX X E)
    (ha : PA X (e :: es) t) (hdb : (x == ("__debug__" : Str)) = false := by decide) (he : starEach (e :: es) X.env = (false, eval e X.env) :: starEach es X.env := by rfl) (hpl : (backTo pos (starEach es X.env)).any (·.1) = false := by rfl) :
    PE X (.Call (.Name x p) (e :: es) [] pos) (tCall sp dvs E t) := by
  intro pins s σ H Q I h
  refine wpAny_Call_Name_kw (ld_glob I hg hm ?_ hdb)
  refine PySem.W.callWith_K (h₀ := X.base) I.ok.mod.kin hk (thn (ha pos pins s σ H _ I h) fun us s1 ⟨vs, H1, I1, r, q⟩ => ⟨I1.kIn, ?_⟩) he hpl
  exact run_fn F hr hb hd hx I1 r q


/-- what a class must have to be made -/
structure Mk (K : PySem.W.Frag) (C f : Addr) : Prop where
  makes : PySem.W.makesIn K C = true
  init : PySem.W.findIn K (.ref C) "__init__" = some (some (.ref f))
  fn : PySem.W.isFn K (.ref f) = true
  kp : PySem.W.keepIn K (.ref C) = true

end

/-! ### keywords -/
/-- the values of the keywords, from the left -/
noncomputable def PK (X : Cx) (kws : List Keyword) (t : TA) : Prop :=
  ∀ (pos : Pos) (pins : List (Addr × Obj)) (s : Shared) (σ : St) (H : Hp) (Q : List V → Hp → Prop), Inv X pins σ H s → t σ H Q → wpAny (model X.prog X.w) X.A (evalAll ((backToKw pos (keywordEach kws X.env)).map (·.2))) (AP X pins σ Q) X.xe s
section
variable {X : Cx} {CX : CXT} {k : Nat} {f C : Addr} {fd : FuncData} {ps ks : List Str} {sp : Sp} {E : XK} {x m : Str} {p pos apos kpos : Pos} {e o : Expr} {es : List Expr} {kws : List Keyword} {te ta : TE} {t tk : TA} {nm : Option Str}

/-- how a call with keywords binds: g puts the positional values us and the keywords' values ws (names ks) in the parameters' order, defaults among them -/
structure KBinds (K : PySem.W.Frag) (fd : FuncData) (ps ks : List Str) (g : List Value → List Value → List Value) (gV : List V → List V → List V) : Prop where
  to : ∀ (s : Shared) (us ws : List Value), K.In s.heap → (g us ws).length = ps.length → BindsTo s fd ⟨us, ks.zip ws⟩ (ps.zip (g us ws))
  rel : ∀ {vs : List V} {us : List Value} {zs : List V} {ws : List Value}, Vals vs us → Vals zs ws → Vals (gV vs zs) (g us ws)
noncomputable def tCallK (sp : Sp) (gV : List V → List V → List V) (E : XK) (t tk : TA) : TE := fun σ H Q => t σ H fun vs H1 => tk σ H1 fun zs H2 => sp (gV vs zs) H2 Q E
variable {g : List Value → List Value → List Value} {gV : List V → List V → List V}
end

/-! ### a def's body keeps its promise -/
/-- names: the parameters first -/
structure FnScope (N P : List Str) (sc : Scope) : Prop where
  kind : sc.kind = .function
  co : sc.isCoroutine = false
  gen : sc.isGenerator = false
  nd : N.Nodup
  pre : N.take P.length = P
  par : ∀ x ∈ P, sc.names.lookup x = some .local ∨ sc.names.lookup x = some .cell
  nofree : ∀ y ∈ sc.names, y.2 ≠ .free

theorem bindL_out {kindOf : Str → Option NameKind} {x : Str} : ∀ {binds : List (Str × Value)} {m : Str → Option Value}, (∀ v, (x, v) ∉ binds) → bindL kindOf binds m x = m x
  | [], _, _ => rfl
  | (n, v) :: r, m, h => by
    unfold bindL
    rw [bindL_out fun w hw => h w (List.mem_cons_of_mem _ hw)]
    split
    · have : x ≠ n := by rintro rfl; exact h v List.mem_cons_self
      simp [this]
    · rfl
theorem bindC_out {kindOf : Str → Option NameKind} {x : Str} : ∀ {binds : List (Str × Value)} {m : Str → Option Value}, (∀ v, (x, v) ∉ binds) → bindC kindOf binds m x = m x
  | [], _, _ => rfl
  | (n, v) :: r, m, h => by
    unfold bindC
    rw [bindC_out fun w hw => h w (List.mem_cons_of_mem _ hw)]
    split
    · rfl
    · have : x ≠ n := by rintro rfl; exact h v List.mem_cons_self
      simp [this]
theorem bindL_get {kindOf : Str → Option NameKind} {x : Str} {v : Value} : ∀ {P : List Str} {vs : List Value} {i : Nat} {m : Str → Option Value}, P.Nodup → P[i]? = some x → vs[i]? = some v → kindOf x = some .local →
    bindL kindOf (P.zip vs) m x = some v
  | [], _, _, _, _, h, _, _ => by simp at h
  | _ :: _, [], _, _, _, _, h, _ => by simp at h
  | p :: P, w :: vs, 0, m, nd, h1, h2, hk => by
    simp at h1 h2; subst h1; subst h2
    show bindL kindOf ((p, w) :: P.zip vs) m p = _
    unfold bindL
    rw [bindL_out fun v hv => (List.nodup_cons.mp nd).1 (List.of_mem_zip hv).1, if_pos hk]
    simp
  | p :: P, w :: vs, i + 1, m, nd, h1, h2, hk => by
    show bindL kindOf ((p, w) :: P.zip vs) m x = _
    unfold bindL
    exact bindL_get (i := i) (List.nodup_cons.mp nd).2 (by simpa using h1) (by simpa using h2) hk
theorem bindC_get {kindOf : Str → Option NameKind} {x : Str} {v : Value} : ∀ {P : List Str} {vs : List Value} {i : Nat} {m : Str → Option Value}, P.Nodup → P[i]? = some x → vs[i]? = some v → kindOf x ≠ some .local →
    bindC kindOf (P.zip vs) m x = some v
  | [], _, _, _, _, h, _, _ => by simp at h
  | _ :: _, [], _, _, _, _, h, _ => by simp at h
  | p :: P, w :: vs, 0, m, nd, h1, h2, hk => by
    simp at h1 h2; subst h1; subst h2
    show bindC kindOf ((p, w) :: P.zip vs) m p = _
    unfold bindC
    rw [bindC_out fun v hv => (List.nodup_cons.mp nd).1 (List.of_mem_zip hv).1, if_neg hk]
    simp
  | p :: P, w :: vs, i + 1, m, nd, h1, h2, hk => by
    show bindC kindOf ((p, w) :: P.zip vs) m x = _
    unfold bindC
    exact bindC_get (i := i) (List.nodup_cons.mp nd).2 (by simpa using h1) (by simpa using h2) hk

/-- the names' values at the entry -/
noncomputable def start (N : List Str) (vs : List V) : St := vs.map some ++ List.replicate (N.length - vs.length) none

/-- the context of a def's body, at its entry; an exception leaves the frame, then lies as CX says -/
noncomputable def cxOf (CX : CXT) (P : Program) (w : World) (K : PySem.W.Frag) (mg : Str → Option Value) (base : Heap) (N : List Str) (qual : Str) (scope : Scope) (f : Addr) (cd : Value) (A : Around) (outer : List Env) (s : Shared) (H : Hp) (E : XK) : Cx where
  prog := P
  w := w
  K := K
  mg := mg
  base := base
  A := A.deeper (envOfC qual scope s.heap.objs.size f cd)
  N := N
  s₀ := s
  H₀ := H
  env := envOfC qual scope s.heap.objs.size f cd
  outer := outer
  stack := envOfC qual scope s.heap.objs.size f cd :: outer
  ex := []
  calm := true
  fn := fun _ => true
  pn := []
  xe := fun e s' => wpAny (model P w) (A.deeper (envOfC qual scope s.heap.objs.size f cd)) (leaving (envOfC qual scope s.heap.objs.size f cd) e) (fun _ s'' => CX outer H s E e s'') (fun e' s'' => CX outer H s E e' s'') s'

theorem cell_has {sc : Scope} {n : Nat} {x : Str} (h : sc.names.lookup x = some .cell) : ∃ c, (cellsFrom n sc.names []).lookup x = some c := by
  have q := PySem.W.cellsFrom_some sc.names n [] (.inl h)
  exact Option.isSome_iff_exists.mp q

theorem inv_start {CX : CXT} {P : Program} {w : World} {K : PySem.W.Frag} {mg : Str → Option Value} {base : Heap} {N ps : List Str} {qual : Str} {scope : Scope} {f : Addr} {cd : Value} {A : Around} {outer : List Env} {s s1 : Shared} {H : Hp} {E : XK} {us : List Value} {vs : List V}
    (S : FnScope N ps scope) (hd : A.handled = none) (e0 : Env0 P w K mg base A outer s H) (hl : vs.length = ps.length) (r : Vals vs us)
    (x : InCallC s s.heap.objs.size (bindL (envOfC qual scope s.heap.objs.size f cd).kindOf (ps.zip us) fun _ => none) (cellsFrom (s.heap.objs.size + 1) scope.names []) (bindC (envOfC qual scope s.heap.objs.size f cd).kindOf (ps.zip us) fun _ => none) s1) :
    Inv (cxOf CX P w K mg base N qual scope f cd A outer s H E) [] (start N vs) H s1 := by
  have hpl : ps.length ≤ N.length := by have := congrArg List.length S.pre; rw [List.length_take] at this; omega
  obtain ⟨h1, tk, rfl, hk⟩ := x.done
  have noA : ∀ b : Addr, b ∉ (cxOf CX P w K mg base N qual scope f cd A outer s H E).ex := fun b z => absurd (show b ∈ ([] : List Addr) from z) (by simp)
  refine ⟨⟨e0.mod, S.kind, rfl, rfl, Nat.le_refl _, fun y z c h1 h2 => ?_, fun y hy => ?_, fun y c _ h => ?_, fun _ => hd, Around.frames_deeper e0.frames, .inr ⟨rfl, rfl⟩, fun b z => absurd z (noA b), e0.bs, e0.bsz, fun b _ _ => noA b, fun b z => absurd z (noA b), e0.funs, e0.frf⟩,
    rfl, e0.bare, Un.kept hk, ⟨_, x.toInCall.ns, fun i y v h1 h2 h3 => ?_⟩, fun y c h => ⟨_, x.cell y c h⟩, e0.hok.fresh (Nat.le_refl _), fun y c h => ?_, fun p hp => absurd (show p ∈ ([] : List (Addr × Obj)) from hp) (by simp), e0.hok.kept hk, ?_⟩
  · exact name_of_addr x.apart (PySem.mem_of_lookup h1) (PySem.mem_of_lookup h2)
  · have hy : scope.names.lookup y = some .cell ∨ scope.names.lookup y = some .free := hy
    rcases hy with hy | hy
    · exact cell_has hy
    · exact absurd rfl (S.nofree _ (PySem.mem_of_lookup hy))
  · exact Nat.le_of_lt (x.above y c (PySem.mem_of_lookup h))
  · have hi : i < vs.length := by
      unfold start at h2
      by_cases hi : i < vs.length
      · exact hi
      · rw [List.getElem?_append_right (by simpa using hi)] at h2
        rw [List.getElem?_replicate] at h2
        split at h2 <;> cases h2
    have ha : vs[i]? = some v := by
      unfold start at h2
      rw [List.getElem?_append_left (by simpa using hi), List.getElem?_map] at h2
      cases e : vs[i]? with
      | none => rw [e] at h2; cases h2
      | some a => rw [e] at h2; cases h2; rfl
    obtain ⟨u, hu, rv⟩ := r.get ha
    have hp : ps[i]? = some y := by
      rw [← S.pre, List.getElem?_take_of_lt (by omega)]; exact h1
    have ndP : ps.Nodup := by rw [← S.pre]; exact S.nd.sublist (List.take_sublist _ _)
    refine ⟨u, rv, ?_⟩
    rcases S.par y (List.mem_of_getElem? hp) with k | k
    · exact .inl ⟨k, bindL_get ndP hp hu k⟩
    · obtain ⟨c, e⟩ := cell_has (n := s.heap.objs.size + 1) k
      refine .inr ⟨.inl k, c, e, ?_⟩
      have q := x.cell y c e
      rw [bindC_get ndP hp hu (by show scope.names.lookup y ≠ _; rw [k]; decide)] at q
      exact q
  · exact e0.hok.fresh (Nat.le_of_lt (x.above y c (PySem.mem_of_lookup h)))
  · unfold start
    show _ = N.length
    rw [List.length_append, List.length_map, List.length_replicate]
    omega

/-- THE RULE: a def (or a method) of the text, by its body. The body's reading t is chosen for each entry; it is run at the parameters' values -/
theorem fn_of {CX : CXT} {P : Program} {w : World} {K : PySem.W.Frag} {mg : Str → Option Value} {base : Heap} {k : Nat} {f : Addr} {name qual : Str} {params : Arguments} {body : List Stmt} {scope : Scope} {dV kV doc pm cdv ct oc : Value} {an od : Option Addr}
    {osl : Array (Option Value)} {N ps : List Str} {sp : Sp} (lk : K.lookup f = some ⟨oc, od, .func (PySem.W.fnOf name qual params body scope dV kV doc pm an cdv ct), osl⟩) (hcd : PySem.W.codeIn K cdv qual = true) (S : FnScope N ps scope)
    (len : ∀ vs H Q E, sp vs H Q E → vs.length = ps.length)
    (hbody : ∀ (A : Around) (outer : List Env) (s : Shared) (H : Hp) (vs : List V) (Q : VK) (E : XK), Room k (A.deeper (envOfC qual scope s.heap.objs.size f cdv)) → sp vs H Q E →
      ∃ t, PSs (cxOf CX P w K mg base N qual scope f cdv A outer s H E) body t ∧ t { nx := fun _ H' => Q .non H', rt := Q } (start N vs) H) :
    FnOk P w K mg base CX (k + 1) f (PySem.W.fnOf name qual params body scope dV kV doc pm an cdv ct) ps sp := by
  refine ⟨len, fun A outer s H args us vs Q E hr e0 hb r hsp => ?_⟩
  have hl := len _ _ _ _ hsp
  have KX : K.In s.heap := e0.mod.kin.keeps fun b o e => (e0.bs b o e).1
  have lim : s.heap.NoLimit := e0.mod.nolimit.keeps fun b o e => (e0.bs b o e).1
  have hkind : ∀ y ∈ ps.zip us, scope.names.lookup y.1 = some .local ∨ (scope.names.lookup y.1 = some .cell ∧ ((cellsFrom (s.heap.objs.size + 1) scope.names []).lookup y.1).isSome = true) := fun ⟨n, v⟩ hy => by
    rcases S.par n (List.of_mem_zip hy).1 with q | q
    · exact .inl q
    · exact .inr ⟨q, PySem.W.cellsFrom_some _ _ _ (.inl q)⟩
  refine codeAny_call_function hr.depth (KX _ _ lk) rfl S.co S.gen rfl (PySem.W.codeRec_of KX hcd) (hb _ _ _ _ ?_)
  refine wpAny_newFunctionEnv_cells S.kind hkind fun env he s1 x => ?_
  subst he
  refine ⟨lim.keeps x.toInCall.keep, codeAny_func ?_⟩
  obtain ⟨t, ht, hq⟩ := hbody A outer s H vs Q E (hr.deeper _) hsp
  have I : Inv (cxOf CX P w K mg base N qual scope f cdv A outer s H E) [] (start N vs) H s1 := inv_start S hr.hd e0 hl r x
  refine wpAny_mono (ht [] s1 (start N vs) H _ I hq) (fun fl s' hs => ?_) fun e s' hs => hs
  have fin : ∀ {σ' : St} {H' : Hp} {v : V} {u : Value}, Inv (cxOf CX P w K mg base N qual scope f cdv A outer s H E) [] σ' H' s' → RelV v u → Q v H' → CE outer P w H s Q u s' :=
    fun {σ' H' v u} J rv q => ⟨v, H', J.os, J.bare, J.base, J.hok, rv, q⟩
  cases fl with
  | ret u =>
    obtain ⟨v, σ', H', J, rv, q⟩ := hs
    exact fin J rv q
  | next =>
    obtain ⟨σ', H', J, q⟩ := hs
    exact fin (v := V.non) (u := Value.none) J rfl q
  | brk =>
    obtain ⟨_, _, _, q⟩ := hs
    exact False.elim q
  | cont =>
    obtain ⟨_, _, _, q⟩ := hs
    exact False.elim q
end L2

namespace L2
open PySem PySem.Spec PyProof.Rows
section
variable {X : Cx} {x : Str} {p pos : Pos} {e : Expr} {es : List Expr} {t : TA} {id T : String} {r : List V → Hp → VK → Prop}

noncomputable def tCB (r : List V → Hp → VK → Prop) (t : TA) : TE := fun σ H Q => t σ H fun vs H1 => r vs H1 Q
/-- f(e, ..), f a built-in function -/
theorem pe_callB (hc : CallR X (.builtin id) r) (hg : Gl X x) (hm : X.mg x = none) (hv : bootBuiltins x = some (.builtin id)) (ha : PA X (e :: es) t) (hn : x ≠ "__name__" := by decide) (hdb : (x == ("__debug__" : Str)) = false := by decide)
    (he : starEach (e :: es) X.env = (false, eval e X.env) :: starEach es X.env := by rfl) (hpl : (backTo pos (starEach es X.env)).any (·.1) = false := by rfl) : PE X (.Call (.Name x p) (e :: es) [] pos) (tCB r t) := by
  intro pins s σ H Q I h
  refine wpAny_Call_Name_kw (ld_blt I hg hm hv ?_ hn hdb)
  exact PyProof.Rows.callWith_builtin1 (thn (ha pos pins s σ H _ I h) fun us s1 ⟨vs, H1, I1, r1, q1⟩ => hc pins s1 σ H1 vs us Q I1 r1 q1) he hpl
/-- T(e, ..), T a built-in type -/
theorem pe_callTy (hc : CallR X (.type T) r) (hg : Gl X x) (hm : X.mg x = none) (hv : bootBuiltins x = some (.type T)) (ha : PA X (e :: es) t) (hn : x ≠ "__name__" := by decide) (hdb : (x == ("__debug__" : Str)) = false := by decide)
    (he : starEach (e :: es) X.env = (false, eval e X.env) :: starEach es X.env := by rfl) (hpl : (backTo pos (starEach es X.env)).any (·.1) = false := by rfl) : PE X (.Call (.Name x p) (e :: es) [] pos) (tCB r t) := by
  intro pins s σ H Q I h
  refine wpAny_Call_Name_kw (ld_blt I hg hm hv ?_ hn hdb)
  exact PyProof.Rows.callWith_type1 (thn (ha pos pins s σ H _ I h) fun us s1 ⟨vs, H1, I1, r1, q1⟩ => hc pins s1 σ H1 vs us Q I1 r1 q1) he hpl
end
end L2

namespace HT
open PySem PyProof.Rows

/-- t < u of tuples of ints -/
noncomputable def lexLt : List Int → List Int → Bool
  | [], [] => false
  | [], _ :: _ => true
  | _ :: _, [] => false
  | x :: xs, y :: ys => if x = y then lexLt xs ys else decide (x < y)


section
open PySem.SeqAt
open PySem.AutoSeq1 (wpAny_loadPart')
open PySem.MeetsSeq PySem.MeetsSeq2 PySem.MeetsSeq3

end

section
variable {prog : Program} {w : World} {A : Around} {E : Value → Shared → Prop} {s : Shared}



/-! ### t[a:b], not the whole -/
/-- a slice's bound as a place among n (d where it is left out) -/
noncomputable def sIx (n d : Nat) : Option Int → Nat
  | none => d
  | some v => if v < 0 then (v + (n : Int)).toNat else min v.toNat n

end
end HT

namespace L2
open PySem PySem.Spec PyProof.Rows

/-! ### the parts of a slice -/
noncomputable abbrev TO := St → Hp → (Option Int → Hp → Prop) → Prop
/-- a slice's part (left out, or an int) -/
noncomputable def PO (X : Cx) (e : Option Expr) (t : TO) : Prop :=
  ∀ (pins : List (Addr × Obj)) (s : Shared) (σ : St) (H : Hp) (Q : Option Int → Hp → Prop), Inv X pins σ H s → t σ H Q →
    wpAny (model X.prog X.w) X.A (evalPart e X.env) (fun u s' => ∃ o H', Inv X pins σ H' s' ∧ IsPart u o ∧ Q o H') X.xe s
noncomputable def tNoPart : TO := fun _ H Q => Q none H
noncomputable def tPart (t : TE) : TO := fun σ H Q => t σ H fun x H1 => ∃ i, x = .int i ∧ Q (some i) H1


section
variable {X : Cx} {e : Expr} {te : TE} {lo hi : Option Expr} {tl th : TO} {pos p2 : Pos}

theorem po_none : PO X none tNoPart := by
  intro pins s σ H Q I h
  rw [evalPart_none]
  exact wpAny_pure ⟨none, H, I, .none, h⟩
theorem po_some (h : PE X e te) : PO X (some e) (tPart te) := by
  intro pins s σ H Q I hw
  rw [evalPart_some]
  refine thn (h pins s σ H _ I hw) fun u s1 ⟨x, H1, I1, r1, q1⟩ => ?_
  obtain ⟨i, rfl, q⟩ := q1
  obtain ⟨t, rfl⟩ := r1
  exact ⟨some i, H1, I1, .int i t, q⟩

/-- what a slice of a value is, by values: the slice object stands at sl -/
noncomputable def SlR (X : Cx) (r : V → Option Int → Option Int → Hp → VK → Prop) : Prop :=
  ∀ (pins : List (Addr × Obj)) (s : Shared) (σ : St) (H : Hp) (x : V) (v vl vu : Value) (lo hi : Option Int) (sl : Addr) (Q : VK), Inv X pins σ H s → RelV x v → s.heap.IsSliceOf sl vl vu .none → IsPart vl lo → IsPart vu hi → r x lo hi H Q →
    ∃ T id, typeLookup (.type T) "__getitem__" = pure (some (.builtin id)) ∧ s.TypeIs v T ∧ wpAny (model X.prog X.w) X.A (getItem v (.ref sl)) (EP X pins σ Q) X.xe s
noncomputable def tSl (r : V → Option Int → Option Int → Hp → VK → Prop) (te : TE) (tl th : TO) : TE := fun σ H Q => te σ H fun x H1 => tl σ H1 fun l H2 => th σ H2 fun u H3 => r x l u H3 Q
/-- a[lo:hi], any a -/
theorem pe_slice {r : V → Option Int → Option Int → Hp → VK → Prop} (hr : SlR X r) (he : PE X e te) (hl : PO X lo tl) (hu : PO X hi th) : PE X (.Subscript e (.Slice lo hi none p2) pos) (tSl r te tl th) := by
  intro pins s σ H Q I h
  refine Subscript_ (thn (he pins s σ H _ I h) fun v s1 ⟨x, H1, I1, r1, q1⟩ => ?_)
  refine wpAny_Slice (thn (hl pins s1 σ H1 _ I1 q1) fun vl s2 ⟨l, H2, I2, pl, q2⟩ => thn (hu pins s2 σ H2 _ I2 q2) fun vu s3 ⟨u, H3, I3, pu, q3⟩ => ?_)
  rw [evalPart_none]
  refine wpAny_pure ?_
  have I4 : Inv X pins σ H3 { s3 with heap := s3.heap.push { cls := .type "slice", data := .fields #[vl, vu, .none] } } := I3.kept (t' := s3.toks) fun b ob q => Heap.get?_push_of_some _ q
  obtain ⟨T, id, hT, ht, hg⟩ := hr pins { s3 with heap := s3.heap.push { cls := .type "slice", data := .fields #[vl, vu, .none] } } σ H3 x v vl vu l u s3.heap.objs.size Q I4 r1 (Heap.IsSliceOf.new ..) pl pu q3
  show wpAny (model X.prog X.w) X.A (subscriptTail e (.Slice lo hi none p2) v (.ref s3.heap.objs.size)) (EP X pins σ Q) X.xe { s3 with heap := s3.heap.push { cls := .type "slice", data := .fields #[vl, vu, .none] } }
  exact tail_any (ops := [.ref s3.heap.objs.size, v]) ht hT hg (by with_unfolding_all rfl)

/-- the items of xs[lo:hi] -/
noncomputable def cutV (xs : List V) (lo hi : Option Int) : List V := (xs.drop (HT.sIx xs.length 0 lo)).take (HT.sIx xs.length xs.length hi - HT.sIx xs.length 0 lo)
theorem cutV_length (xs : List V) (lo hi : Option Int) : (cutV xs lo hi).length ≤ xs.length := by
  unfold cutV
  rw [List.length_take, List.length_drop]
  omega
/-- t[lo:hi], not the whole of it (the whole would be t itself) -/
noncomputable def rSlT (K : PySem.W.Frag) : V → Option Int → Option Int → Hp → VK → Prop := fun x lo hi H Q => ∃ a xs, x = .ref a ∧ SqT K H a xs ∧
  ¬ (HT.sIx xs.length 0 lo = 0 ∧ HT.sIx xs.length xs.length hi = xs.length) ∧ ∀ p, H p = none → Q (.ref p) (upd H p (.tup (cutV xs lo hi)))

/-! ### t < u, t + u -/
noncomputable def rLtT (K : PySem.W.Frag) : R2 := fun x y H Q => ∃ a b ns ms, x = .ref a ∧ y = .ref b ∧ SqT K H a (ns.map V.int) ∧ SqT K H b (ms.map V.int) ∧ Q (.bl (HT.lexLt ns ms)) H
/-- t + u, t not empty: u empty gives t itself -/
noncomputable def rCatT (K : PySem.W.Frag) : R2 := fun x y H Q => ∃ a b xs ys, x = .ref a ∧ y = .ref b ∧ SqT K H a xs ∧ SqT K H b ys ∧ xs ≠ [] ∧ xs.length + ys.length ≤ sizeLine ∧
  (ys = [] → Q (.ref a) H) ∧ (ys ≠ [] → ∀ p, H p = none → Q (.ref p) (upd H p (.tup (xs ++ ys))))
end
end L2

namespace L2
open PySem PySem.Spec PyProof.Rows

/-! ### places -/
/-- the place that an index of any sign means -/
noncomputable def ixN (n : Nat) (i : Int) : Option Nat := if 0 ≤ i then (if i < n then some i.toNat else none) else if -(n : Int) ≤ i then some (i + n).toNat else none
noncomputable def atI {α : Type} (xs : List α) (i : Int) : Option α := (ixN xs.length i).bind fun j => xs[j]?
theorem ixN_seq {n : Nat} {i : Int} {j : Nat} (h : ixN n i = some j) : seqIndex? i n = some j ∧ j < n ∧ -(n : Int) ≤ i ∧ i < n := by
  unfold ixN at h
  by_cases h0 : 0 ≤ i
  · rw [if_pos h0] at h
    by_cases h1 : i < n
    · rw [if_pos h1] at h
      have e : i.toNat = j := Option.some.inj h
      exact ⟨by rw [seqIndex_of h0 h1, e], by omega, by omega, h1⟩
    · rw [if_neg h1] at h; cases h
  · rw [if_neg h0] at h
    by_cases h1 : -(n : Int) ≤ i
    · rw [if_pos h1] at h
      have e : (i + n).toNat = j := Option.some.inj h
      exact ⟨by rw [seqIndex_neg (by omega) h1, e], by omega, h1, by omega⟩
    · rw [if_neg h1] at h; cases h
theorem atI_get {α : Type} {xs : List α} {i : Int} {v : α} (h : atI xs i = some v) : ∃ j, seqIndex? i xs.length = some j ∧ xs[j]? = some v ∧ j < xs.length ∧ -(xs.length : Int) ≤ i ∧ i < xs.length := by
  unfold atI at h
  cases e : ixN xs.length i with
  | none => rw [e] at h; cases h
  | some j =>
    rw [e] at h
    obtain ⟨h1, h2, h3, h4⟩ := ixN_seq e
    exact ⟨j, h1, h, h2, h3, h4⟩
theorem atI_nat {α : Type} {xs : List α} {j : Nat} {v : α} (h : xs[j]? = some v) : atI xs (j : Int) = some v := by
  have hj : j < xs.length := (List.getElem?_eq_some_iff.mp h).1
  have e : ixN xs.length (j : Int) = some j := by
    unfold ixN
    rw [if_pos (by omega), if_pos (by omega)]; simp
  unfold atI; rw [e]; exact h

/-! ### what may be subscripted -/
/-- what stands as an index of a plain subscript -/
noncomputable def PlainIx (b : Expr) : Prop := ∀ o i, subscripted b false o i = operate [o, i] (getItem o i)
/-- a subscript by values -/
noncomputable def IxR (X : Cx) (r : R2) : Prop :=
  ∀ (value slice : Expr) (pins : List (Addr × Obj)) (s : Shared) (σ : St) (H : Hp) (x y : V) (v u : Value) (Q : VK), Inv X pins σ H s → RelV x v → RelV y u → r x y H Q →
    subscripted slice false v u = operate [v, u] (getItem v u) → wpAny (model X.prog X.w) X.A (subscriptTail value slice v u) (EP X pins σ Q) X.xe s
/-- a call of a builtin's method by values: the receiver, the arguments -/
noncomputable def MtR (X : Cx) (id : String) (r : V → List V → Hp → VK → Prop) : Prop :=
  ∀ (pins : List (Addr × Obj)) (s : Shared) (σ : St) (H : Hp) (x : V) (xs : List V) (v : Value) (us : List Value) (Q : VK), Inv X pins σ H s → RelV x v → Vals xs us → r x xs H Q →
    wpAny (model X.prog X.w) X.A (call (.builtin id) (v :: us)) (EP X pins σ Q) X.xe s
section
variable {X : Cx} {a b : Expr} {ta tb : TE} {pos : Pos}
/-- a[b] -/
theorem pe_ix {r : R2} (hr : IxR X r) (ha : PE X a ta) (hb : PE X b tb) (hs : PlainIx b) : PE X (.Subscript a b pos) (tOp r ta tb) := by
  intro pins s σ H Q I h
  exact Subscript_ (binT ha hb I h fun v u s2 x y H2 I2 rx ry q => hr a b pins s2 σ H2 x y v u Q I2 rx ry q (hs _ _))

noncomputable def rIxL (K : PySem.W.Frag) : R2 := fun x y H Q => ∃ p xs i v, x = .ref p ∧ y = .int i ∧ SqL K H p xs ∧ atI xs i = some v ∧ Q v H
noncomputable def rIxT (K : PySem.W.Frag) : R2 := fun x y H Q => ∃ p xs i v, x = .ref p ∧ y = .int i ∧ SqT K H p xs ∧ atI xs i = some v ∧ Q v H
noncomputable def rIxS : R2 := fun x y H Q => ∃ z i c, x = .str z ∧ y = .int i ∧ z.length ≤ sizeLine ∧ atI z.cps.toList i = some c ∧ Q (.str ⟨#[c]⟩) H
theorem ix_list : IxR X (rIxL X.K) := by
  intro value slice pins s σ H x y v u Q I rx ry h hs
  obtain ⟨p, xs, i, z, rfl, rfl, hq, he, q⟩ := h
  cases rx
  obtain ⟨t, rfl⟩ := ry
  obtain ⟨its, r, pl, hz⟩ := I.list hq
  obtain ⟨j, h1, h2, h3, h4, h5⟩ := atI_get he
  obtain ⟨w, ew, rw'⟩ := r.get h2
  have hl := r.length
  have hn := line63
  have fin : EP X pins σ Q w s := ⟨z, H, I, rw', q⟩
  by_cases h0 : 0 ≤ i
  · have hj : i.toNat = j := by
      rw [seqIndex_of h0 h5] at h1
      exact Option.some.inj h1
    exact item_listR pl.isList h0 (by omega) (by rw [hj]; simpa using ew) fin hs
  · have hj : (i + (its.toArray.size : Int)).toNat = j := by
      rw [seqIndex_neg (by omega) h4] at h1
      rw [List.size_toArray, ← hl]
      exact Option.some.inj h1
    exact subscriptTail_builtinR (x := w) pl.isList.typeIs slot_list_getitem.lookup
      (wpAny_getItem_list_neg (Q := fun r s' => r = w ∧ EP X pins σ Q r s') pl.isList (by omega) (by rw [List.size_toArray] <;> omega) (by omega) (by rw [hj]; simpa using ew) ⟨rfl, fin⟩) hs
theorem ix_tup : IxR X (rIxT X.K) := by
  intro value slice pins s σ H x y v u Q I rx ry h hs
  obtain ⟨p, xs, i, z, rfl, rfl, hq, he, q⟩ := h
  cases rx
  obtain ⟨t, rfl⟩ := ry
  obtain ⟨its, r, pl, hz⟩ := I.tuple hq
  obtain ⟨j, h1, h2, h3, h4, h5⟩ := atI_get he
  obtain ⟨w, ew, rw'⟩ := r.get h2
  have hl := r.length
  have hn := line63
  have fin : EP X pins σ Q w s := ⟨z, H, I, rw', q⟩
  exact subscriptTail_builtinR (x := w) pl.typeIs slot_tuple_getitem.lookup
    (getItem_tuple (j := j) (Q := fun r s' => r = w ∧ EP X pins σ Q r s') pl (by omega) (by omega) (by rw [List.size_toArray, ← hl]; exact h1) (by simpa using ew) ⟨rfl, fin⟩) hs
/-- list, tuple or str -/
noncomputable def rIx (K : PySem.W.Frag) : R2 := fun x y H Q => rIxL K x y H Q ∨ rIxT K x y H Q ∨ rIxS x y H Q

/-! ### xs[i] = v, any sign -/
/-- the list's object behind a store -/
theorem mapSeq_set (its : List Value) (n j : Nat) (u : Value) : Obj.mapSeq (·.setIfInBounds j u) { cls := .type "list", data := .seq its.toArray n } = { cls := .type "list", data := .seq (its.set j u).toArray n } := by
  simp [Obj.mapSeq]
theorem Inv.lst {pins : List (Addr × Obj)} {σ : St} {H : Hp} {s : Shared} {p : Addr} {xs : List V} (I : Inv X pins σ H s) (h : H p = some (.lst xs)) :
    ∃ (its : List Value) (n : Nat), Vals xs its ∧ s.heap.get? p = some { cls := .type "list", data := .seq its.toArray n } ∧ xs.length ≤ sizeLine := by
  obtain ⟨z, its, n, r, e⟩ := I.hok p _ h
  exact ⟨its, n, r, e, z⟩
/-- the list at p is written by an update of its object -/
theorem Inv.lstUpd {pins : List (Addr × Obj)} {σ : St} {H : Hp} {s : Shared} {p : Addr} {xs ys : List V} {its its' : List Value} {n n' : Nat} {f : Obj → Obj} (I : Inv X pins σ H s) (h : H p = some (.lst xs))
    (ho : s.heap.get? p = some { cls := .type "list", data := .seq its.toArray n }) (hf : f { cls := .type "list", data := .seq its.toArray n } = { cls := .type "list", data := .seq its'.toArray n' }) (r : Vals ys its') (hz : ys.length ≤ sizeLine) (t : Nat) :
    Inv X pins σ (upd H p (.lst ys)) { s with heap := s.heap.update p f, toks := t } := by
  have e : (s.heap.update p f).get? p = some { cls := .type "list", data := .seq its'.toArray n' } := by
    rw [Heap.get?_update_self f ho (by rw [hf] <;> rfl), hf]
  refine I.write (x := p) (e := p) (by rw [h]; trivial) (.inl rfl) (fun b u hb q => (Heap.get?_update_other _ _ (Ne.symm hb)).trans q) ⟨_, e⟩ ?_
  exact ⟨hz, its', n', r, e⟩
noncomputable def rSetL : V → V → V → Hp → (Hp → Prop) → Prop := fun o i v H Q => ∃ p xs k j, o = .ref p ∧ i = .int k ∧ H p = some (.lst xs) ∧ ixN xs.length k = some j ∧ Q (upd H p (.lst (xs.set j v)))
theorem set_list : PSet X rSetL := by
  intro pins s σ H o i v ov iv u Q I ro ri rv h
  obtain ⟨p, xs, k, j, rfl, rfl, hp, hj, q⟩ := h
  cases ro
  obtain ⟨t, rfl⟩ := ri
  obtain ⟨its, n, r, ho, hz⟩ := I.lst hp
  obtain ⟨h1, h2, h3, h4⟩ := ixN_seq hj
  have hl := r.length
  have hn := line63
  have I' : Inv X pins σ (upd H p (.lst (xs.set j v))) { s with heap := s.heap.update p (Obj.mapSeq (·.setIfInBounds j u)) } :=
    I.lstUpd hp ho (mapSeq_set its n j u) (r.set rv j) (by rw [List.length_set]; exact hz) s.toks
  by_cases h0 : 0 ≤ k
  · have hk : k.toNat = j := by
      rw [seqIndex_of h0 h4] at h1
      exact Option.some.inj h1
    exact PySem.W.ki_setAt ho h0 (by omega) (by rw [List.size_toArray, ← hl]; exact h4) (by rw [hk]; exact ⟨_, I', q⟩)
  · have hk : (k + (its.toArray.size : Int)).toNat = j := by
      rw [seqIndex_neg (by omega) h3] at h1
      rw [List.size_toArray, ← hl]
      exact Option.some.inj h1
    exact PySem.W.ki_setBack ho (by omega) (by rw [List.size_toArray, ← hl]; exact h3) (by omega) (by rw [hk]; exact ⟨_, I', q⟩)

/-! ### slices -/
theorem slice_bounds (lo hi : Option Int) (n : Nat) : (sliceBounds lo hi none n).1 = ((HT.sIx n 0 lo : Nat) : Int) ∧ (sliceBounds lo hi none n).2.1 = ((HT.sIx n n hi : Nat) : Int) ∧ (sliceBounds lo hi none n).2.2 = 1 := by
  refine ⟨?_, ?_, rfl⟩
  · cases lo with
    | none => simp [sliceBounds, HT.sIx]
    | some i =>
      simp only [sliceBounds, HT.sIx, Option.getD_none, show (1 : Int) > 0 by decide, if_true]
      by_cases h : i < 0
      · simp only [h, if_true] <;> omega
      · simp only [h, if_false] <;> omega
  · cases hi with
    | none => simp [sliceBounds, HT.sIx]
    | some i =>
      simp only [sliceBounds, HT.sIx, Option.getD_none, show (1 : Int) > 0 by decide, if_true]
      by_cases h : i < 0
      · simp only [h, if_true] <;> omega
      · simp only [h, if_false] <;> omega
theorem slicePick_cut (its : List Value) (lo hi : Option Int) : slicePick its.toArray lo hi none = ((its.drop (HT.sIx its.length 0 lo)).take (HT.sIx its.length its.length hi - HT.sIx its.length 0 lo)).toArray := by
  obtain ⟨h1, h2, h3⟩ := slice_bounds lo hi its.toArray.size
  unfold slicePick
  rw [h1, h2, h3]
  simp only [sliceRange_one, pick_run, List.size_toArray] <;> rfl
/-- xs[lo:hi] of a list: a new list -/
noncomputable def rSlL (K : PySem.W.Frag) : V → Option Int → Option Int → Hp → VK → Prop := fun x lo hi H Q => ∃ a xs, x = .ref a ∧ SqL K H a xs ∧ ∀ p, H p = none → Q (.ref p) (upd H p (.lst (cutV xs lo hi)))
theorem sl_list : SlR X (rSlL X.K) := by
  intro pins s σ H x v vl vu lo hi sl Q I rx hs pl pu h
  obtain ⟨a, xs, rfl, hx, q⟩ := h
  cases rx
  obtain ⟨its, r, ht, hz⟩ := I.list hx
  have hlen := r.length
  refine ⟨"list", _, slot_list_getitem.lookup, ht.isList.typeIs, ?_⟩
  refine wpAny_getItem_list_slice ht.isList hs pl pu .none (by simp) ?_ (by rw [List.size_toArray] <;> omega)
  rw [slicePick_cut, ← hlen]
  refine ⟨.ref s.heap.objs.size, _, I.laid (t' := s.toks) (o := .lst (cutV xs lo hi)) (fun b ob q => Heap.get?_push_of_some _ q) (Nat.le_refl _) ?_, rfl, q _ (I.hok.fresh (Nat.le_refl _))⟩
  exact ⟨Nat.le_trans (cutV_length xs lo hi) hz, _, 0, (r.drop (HT.sIx xs.length 0 lo)).take (HT.sIx xs.length xs.length hi - HT.sIx xs.length 0 lo), Heap.get?_push_size _ rfl⟩

/-! ### in, not in: flat items -/
noncomputable def flatV : V → Bool
  | .non => true
  | .bl _ => true
  | .int _ => true
  | .str _ => true
  | _ => false
/-- == of flat values -/
noncomputable def eqV : V → V → Bool
  | .non, .non => true
  | .bl a, .bl b => a == b
  | .bl a, .int b => (if a then 1 else 0) == b
  | .int a, .bl b => a == (if b then 1 else 0)
  | .int a, .int b => a == b
  | .str a, .str b => a == b
  | _, _ => false
theorem eqAt_V {A : Around} {s : Shared} {y x : V} {u v : Value} (ry : RelV y u) (rx : RelV x v) (fy : flatV y = true) (fx : flatV x = true) : SeqAt.EqAt A s u v (eqV y x) := by
  cases y with
  | non =>
    cases ry
    cases x with
    | non => cases rx; exact SeqAt.EqAt.same _
    | bl b => cases rx; exact SeqAt.EqAt.none_bool b
    | int b => obtain ⟨t, rfl⟩ := rx; exact SeqAt.EqAt.none_int b t
    | str b => obtain ⟨t, rfl⟩ := rx; exact SeqAt.EqAt.none_str b t
    | _ => exact absurd (show false = true from fx) Bool.false_ne_true
  | bl a =>
    cases ry
    cases x with
    | non => cases rx; exact SeqAt.EqAt.bool_none a
    | bl b => cases rx; exact SeqAt.EqAt.bool_bool a b
    | int b => obtain ⟨t, rfl⟩ := rx; exact SeqAt.EqAt.bool_int a b t
    | str b => obtain ⟨t, rfl⟩ := rx; exact SeqAt.EqAt.bool_str a b t
    | _ => exact absurd (show false = true from fx) Bool.false_ne_true
  | int a =>
    obtain ⟨t', rfl⟩ := ry
    cases x with
    | non => cases rx; exact SeqAt.EqAt.int_none a t'
    | bl b => cases rx; exact SeqAt.EqAt.int_bool a t' b
    | int b => obtain ⟨t, rfl⟩ := rx; exact SeqAt.EqAt.int_int a t' b t
    | str b => obtain ⟨t, rfl⟩ := rx; exact SeqAt.EqAt.int_str a t' b t
    | _ => exact absurd (show false = true from fx) Bool.false_ne_true
  | str a =>
    obtain ⟨t', rfl⟩ := ry
    cases x with
    | non => cases rx; exact SeqAt.EqAt.str_none a t'
    | bl b => cases rx; exact SeqAt.EqAt.str_bool a t' b
    | int b => obtain ⟨t, rfl⟩ := rx; exact SeqAt.EqAt.str_int a t' b t
    | str b => obtain ⟨t, rfl⟩ := rx; exact SeqAt.EqAt.str_str a t' b t
    | _ => exact absurd (show false = true from fx) Bool.false_ne_true
  | _ => exact absurd (show false = true from fy) Bool.false_ne_true
/-- the items' answers, read off the values (a value's own answer does not lean on its token) -/
noncomputable def eqU (x : V) (u : Value) : Bool := match u with
  | .none => eqV .non x
  | .bool b => eqV (.bl b) x
  | .int i _ => eqV (.int i) x
  | .str z _ => eqV (.str z) x
  | _ => false
theorem eqU_of {x y : V} {u : Value} (r : RelV y u) (f : flatV y = true) : eqU x u = eqV y x := by
  cases y with
  | non => cases r; rfl
  | bl b => cases r; rfl
  | int i => obtain ⟨t, rfl⟩ := r; rfl
  | str z => obtain ⟨t, rfl⟩ := r; rfl
  | _ => exact absurd (show false = true from f) Bool.false_ne_true
theorem any_eqU {x : V} : ∀ {xs : List V} {us : List Value}, Vals xs us → xs.all flatV = true → us.any (eqU x) = xs.any fun y => eqV y x
  | _, _, .nil, _ => rfl
  | y :: xs, u :: us, .cons r t, f => by
    rw [List.all_cons, Bool.and_eq_true] at f
    rw [List.any_cons, List.any_cons, eqU_of r f.1, any_eqU t f.2]
theorem mem_eqAt {A : Around} {s : Shared} {x : V} {v : Value} (rx : RelV x v) (fx : flatV x = true) : ∀ {xs : List V} {us : List Value}, Vals xs us → xs.all flatV = true → ∀ u ∈ us, SeqAt.EqAt A s u v (eqU x u)
  | _, _, .nil, _ => fun u hu => by cases hu
  | y :: xs, u :: us, .cons r t, f => fun u' hu => by
    rw [List.all_cons, Bool.and_eq_true] at f
    rcases List.mem_cons.mp hu with rfl | hu
    · rw [eqU_of r f.1]; exact eqAt_V r rx f.1 fx
    · exact mem_eqAt rx fx t f.2 u' hu
noncomputable def inV (x : V) (xs : List V) : Bool := xs.any fun y => eqV y x
/-- x in a list or tuple of flat items -/
noncomputable def rIn (K : PySem.W.Frag) (neg : Bool) : R2 := fun x y H Q => ∃ p xs, y = .ref p ∧ (SqL K H p xs ∨ SqT K H p xs) ∧ flatV x = true ∧ xs.all flatV = true ∧ Q (.bl (if neg then !inV x xs else inV x xs)) H
theorem op_in_seq : OpR X (compareOp .In) (rIn X.K false) := by
  intro pins s σ H x y v u Q I rx ry h
  obtain ⟨p, xs, rfl, hq, fx, fs, q⟩ := h
  cases ry
  rcases hq with hq | hq
  · obtain ⟨its, r, pl, hz⟩ := I.list hq
    refine SeqAt.in_listAt (eqU x) pl.isList (fun w hw => mem_eqAt rx fx r fs w (by simpa using hw)) ⟨.bl _, H, I, rfl, ?_⟩
    rw [show its.toArray.any (eqU x) = its.any (eqU x) by simp, any_eqU r fs]
    exact q
  · obtain ⟨its, r, pl, hz⟩ := I.tuple hq
    refine SeqAt.in_tupleAt (eqU x) pl (fun w hw => mem_eqAt rx fx r fs w (by simpa using hw)) ⟨.bl _, H, I, rfl, ?_⟩
    rw [show its.toArray.any (eqU x) = its.any (eqU x) by simp, any_eqU r fs]
    exact q
theorem op_notIn_seq : OpR X (compareOp .NotIn) (rIn X.K true) := by
  intro pins s σ H x y v u Q I rx ry h
  obtain ⟨p, xs, rfl, hq, fx, fs, q⟩ := h
  cases ry
  rcases hq with hq | hq
  · obtain ⟨its, r, pl, hz⟩ := I.list hq
    refine SeqAt.notIn_listAt (eqU x) pl.isList (fun w hw => mem_eqAt rx fx r fs w (by simpa using hw)) ⟨.bl _, H, I, rfl, ?_⟩
    rw [show its.toArray.any (eqU x) = its.any (eqU x) by simp, any_eqU r fs]
    exact q
  · obtain ⟨its, r, pl, hz⟩ := I.tuple hq
    refine SeqAt.notIn_tupleAt (eqU x) pl (fun w hw => mem_eqAt rx fx r fs w (by simpa using hw)) ⟨.bl _, H, I, rfl, ?_⟩
    rw [show its.toArray.any (eqU x) = its.any (eqU x) by simp, any_eqU r fs]
    exact q

/-! ### len, list(x), tuple(x) of any list or tuple that is read -/
theorem call_len_seq : CallR X (.builtin "len") (fun xs H Q => ∃ p ys, xs = [.ref p] ∧ (SqL X.K H p ys ∨ SqT X.K H p ys) ∧ Q (.int ys.length) H) := by
  intro pins s σ H xs us Q I r h
  obtain ⟨p, ys, rfl, hq, q⟩ := h
  obtain ⟨u, rfl, rx⟩ := vals1 r
  cases rx
  have hn := line63
  rcases hq with hq | hq
  · obtain ⟨its, r', pl, hz⟩ := I.list hq
    have hlen := r'.length
    exact Calls.call_len_list pl.isList (by simp only [List.size_toArray] <;> omega) ⟨.int ys.length, H, I.tok _, ⟨s.toks + 1, by rw [List.size_toArray, hlen]⟩, q⟩
  · obtain ⟨its, r', pl, hz⟩ := I.tuple hq
    have hlen := r'.length
    exact len_tuple pl (by simp only [List.size_toArray] <;> omega) ⟨.int ys.length, H, I.tok _, ⟨s.toks + 1, by rw [List.size_toArray, hlen]⟩, q⟩
theorem call_list_of : CallR X (.type "list") (fun xs H Q => ∃ p ys, xs = [.ref p] ∧ (SqL X.K H p ys ∨ SqT X.K H p ys) ∧ ∀ l, H l = none → Q (.ref l) (upd H l (.lst ys))) := by
  intro pins s σ H xs us Q I r h
  obtain ⟨p, ys, rfl, hq, q⟩ := h
  obtain ⟨u, rfl, rx⟩ := vals1 r
  cases rx
  have fin : ∀ (its : List Value), Vals ys its → ys.length ≤ sizeLine → ∀ (h' : Heap) (c' : Nat), (∀ b o', s.heap.get? b = some o' → h'.get? b = some o') →
      h'.get? s.heap.objs.size = some { cls := .type "list", dict := none, data := .seq its.toArray c', slots := #[] } → EP X pins σ Q (.ref s.heap.objs.size) { s with heap := h' } := fun its r' hz h' c' kp e =>
    ⟨.ref s.heap.objs.size, _, I.laid (t' := s.toks) kp (Nat.le_refl _) (show ObjOk X.prog X.w _ h' _ (.lst ys) from ⟨hz, its, c', r', e⟩), rfl, q _ (I.hok.fresh (Nat.le_refl _))⟩
  rcases hq with hq | hq
  · obtain ⟨its, r', pl, hz⟩ := I.list hq
    have hlen := r'.length
    obtain ⟨o, ho, hc, n, hd⟩ := pl.isList
    exact call_list_seq p (.inl rfl) ho hc hd (fun h' c' kp e => fin its r' hz h' c' kp e) (by simp only [List.size_toArray] <;> omega)
  · obtain ⟨its, r', pl, hz⟩ := I.tuple hq
    have hlen := r'.length
    obtain ⟨o, ho, hc, n, hd⟩ := pl
    exact call_list_seq p (.inr rfl) ho hc hd (fun h' c' kp e => fin its r' hz h' c' kp e) (by simp only [List.size_toArray] <;> omega)

/-! ### the call of a builtin's method: o.m(..) -/
/-- the value is of that builtin type -/
noncomputable def tyV (K : PySem.W.Frag) (T : String) (x : V) (H : Hp) : Prop := match x with
  | .str _ => T = "str"
  | .int _ => T = "int"
  | .ref p => (T = "list" ∧ ∃ xs, SqL K H p xs) ∨ (T = "tuple" ∧ ∃ o, K.lookup p = some o ∧ o.cls = .type "tuple" ∧ o.dict = none) ∨
      (T = "dict" ∧ ((∃ kvs, H p = some (.dK kvs)) ∨ ∃ kvs, H p = some (.dT kvs))) ∨ (T = "set" ∧ ∃ S n, H p = some (.set S n))
  | _ => False
theorem tyV_is {pins : List (Addr × Obj)} {σ : St} {H : Hp} {s : Shared} {T : String} {x : V} {v : Value} (I : Inv X pins σ H s) (r : RelV x v) (ty : tyV X.K T x H) :
    s.TypeIs v T ∧ ∀ a, v = .ref a → ∃ ob, s.heap.get? a = some ob ∧ ob.dict = none := by
  cases x with
  | str z =>
    obtain ⟨t, rfl⟩ := r
    cases (show T = "str" from ty)
    exact ⟨typeIs_str s z t, fun _ e => nomatch e⟩
  | int i =>
    obtain ⟨t, rfl⟩ := r
    cases (show T = "int" from ty)
    exact ⟨typeIs_int s i t, fun _ e => nomatch e⟩
  | ref p =>
    cases r
    rcases ty with ⟨rfl, xs, hq⟩ | ⟨rfl, o, hk, hc, hd⟩ | ⟨rfl, hk⟩ | ⟨rfl, S, n, hk⟩
    · obtain ⟨its, _, pl, _⟩ := I.list hq
      refine ⟨pl.isList.typeIs, fun a e => ?_⟩
      cases e
      obtain ⟨o, n, e, c, hd, _⟩ := pl
      exact ⟨o, e, hd⟩
    · refine ⟨⟨o, I.kIn p o hk, hc⟩, fun a e => ?_⟩
      cases e
      exact ⟨o, I.kIn _ o hk, hd⟩
    · have z : ∃ o, s.heap.get? p = some o ∧ o.ExactDict := by
        rcases hk with ⟨kvs, hk⟩ | ⟨kvs, hk⟩
        · obtain ⟨_, _, _, _, o, _, _, e, ex, _⟩ := I.hok p _ hk
          exact ⟨o, e, ex⟩
        · obtain ⟨_, _, _, _, o, _, _, e, ex, _⟩ := I.hok p _ hk
          exact ⟨o, e, ex⟩
      obtain ⟨o, e, ex⟩ := z
      refine ⟨⟨o, e, ex.1⟩, fun a e2 => ?_⟩
      cases e2
      exact ⟨o, e, ex.2.1⟩
    · obtain ⟨o, _, _, _, e, ex, _⟩ := I.hok p _ hk
      refine ⟨⟨o, e, ex.1⟩, fun a e2 => ?_⟩
      cases e2
      exact ⟨o, e, ex.2.1⟩
  | _ => exact False.elim ty
noncomputable def tBM0 (K : PySem.W.Frag) (T : String) (r : V → List V → Hp → VK → Prop) (to : TE) : TE := fun σ H Q => to σ H fun x H1 => tyV K T x H1 ∧ r x [] H1 Q
noncomputable def tBM (K : PySem.W.Frag) (T : String) (r : V → List V → Hp → VK → Prop) (to : TE) (t : TA) : TE := fun σ H Q => to σ H fun x H1 => tyV K T x H1 ∧ t σ H1 fun xs H2 => r x xs H2 Q
variable {o e : Expr} {es : List Expr} {to : TE} {t : TA} {name : Str} {apos cpos : Pos} {T id : String} {r : V → List V → Hp → VK → Prop}
theorem pe_bm0 (pa : PlainAttrs T) (slot : Slot T name id) (hty : typeOf (.builtin id) = pure (.type "method_descriptor")) (hm : MtR X id r) (ho : PE X o to)
    (hbase : attributeBase o name X.env (eval o X.env) = eval o X.env := by rfl) (hline : (apos.endLine == cpos.line) = true := by rfl) : PE X (.Call (.Attribute o name apos) [] [] cpos) (tBM0 X.K T r to) := by
  intro pins s σ H Q I h
  refine wpAny_Call_method0_late hbase hline (thn (ho pins s σ H _ I h) fun v s1 ⟨x, H1, I1, r1, ty, q1⟩ => ?_)
  obtain ⟨h1, h2⟩ := tyV_is I1 r1 ty
  exact ⟨T, id, pa, slot, hty, h1, h2, Calls.callWith_builtin rfl (PySem.evalArgs_none (hm pins s1 σ H1 x [] v [] Q I1 r1 .nil q1))⟩
/- xs.append(e), list.index on a module's tuple .. are MtR facts of 06m -/
end
end L2

namespace L2
open PySem PySem.Spec PyProof.Rows

noncomputable def MtM (X : Cx) (id : String) (r : V → List V → Hp → VK → Prop) : Prop :=
  ∀ (pins : List (Addr × Obj)) (s : Shared) (σ : St) (H : Hp) (x : V) (xs : List V) (v : Value) (us : List Value) (Q : VK), Inv X pins σ H s → RelV x v → Vals xs us → r x xs H Q →
    wpAny (model X.prog X.w) X.A (call (.builtin id) (v :: us)) (EP X pins σ Q) X.xe s

/-! ### lists of values -/
theorem Vals.one : ∀ {x : V} {us : List Value}, Vals [x] us → ∃ u, us = [u] ∧ RelV x u
  | _, _, .cons r .nil => ⟨_, rfl, r⟩
theorem Vals.zero : ∀ {us : List Value}, Vals [] us → us = []
  | _, .nil => rfl

section
variable {X : Cx} {pins : List (Addr × Obj)} {σ : St} {H : Hp} {s : Shared} {l b : Addr} {xs ys zs : List V}

/-! ### the two steps: a tracked list is rewritten, a new list is laid -/
theorem Inv.lset {its its' : List Value} {n : Nat} {f : Array Value → Array Value} {t' : Nat} (I : Inv X pins σ H s) (hH : H l = some (.lst xs))
    (e : s.heap.get? l = some { cls := .type "list", data := .seq its.toArray n }) (hf : f its.toArray = its'.toArray) (hv : Vals ys its') (hz : ys.length ≤ sizeLine) :
    Inv X pins σ (upd H l (.lst ys)) { s with heap := s.heap.update l (Obj.mapSeq f), toks := t' } := by
  have q := PySem.IsL.update e f
  rw [hf] at q
  refine I.write (x := l) (e := l) (by rw [hH]; exact trivial) (.inl rfl) (fun b' u hb hu => (Heap.get?_update_other s.heap (Obj.mapSeq f) (Ne.symm hb)).trans hu) ⟨_, q⟩ ?_
  exact ⟨hz, its', _, hv, q⟩
theorem Inv.lnew {its : List Value} {t' : Nat} (I : Inv X pins σ H s) (hv : Vals ys its) (hz : ys.length ≤ sizeLine) :
    Inv X pins σ (upd H s.heap.objs.size (.lst ys)) { s with heap := s.heap.push { cls := .type "list", data := .seq its.toArray }, toks := t' } :=
  I.laid (fun _ _ q => Heap.get?_push_of_some _ q) (Nat.le_refl _) ⟨hz, its, 0, hv, Heap.get?_push_size _ rfl⟩
theorem Inv.fresh (I : Inv X pins σ H s) : H s.heap.objs.size = none := I.hok.fresh (Nat.le_refl _)
theorem Inv.lstM (I : Inv X pins σ H s) (hH : H l = some (.lst xs)) : xs.length ≤ sizeLine ∧ ∃ (its : List Value) (n : Nat), Vals xs its ∧ xs.length = its.length ∧ s.heap.get? l = some { cls := .type "list", data := .seq its.toArray n } := by
  obtain ⟨z, its, n, r, e⟩ := I.hok l _ hH
  exact ⟨z, its, n, r, r.length, e⟩

theorem notLongL {n : Nat} (h : n ≤ sizeLine) : Builtin.List.listTooLong n = false := by
  unfold Builtin.List.listTooLong
  exact decide_eq_false (by omega)
end

section
variable {X : Cx}

/-! ### methods -/
noncomputable def rAppend : V → List V → Hp → VK → Prop := fun x vs H Q => ∃ l xs y, x = .ref l ∧ vs = [y] ∧ H l = some (.lst xs) ∧ xs.length < sizeLine ∧ Q .non (upd H l (.lst (xs ++ [y])))

noncomputable def rExtend : V → List V → Hp → VK → Prop := fun x vs H Q => ∃ l b xs zs, x = .ref l ∧ vs = [.ref b] ∧ H l = some (.lst xs) ∧ H b = some (.lst zs) ∧ xs.length + zs.length ≤ sizeLine ∧ Q .non (upd H l (.lst (xs ++ zs)))
theorem mt_extend : MtM X "list.extend" rExtend := by
  intro pins s σ H x vs v us Q I rx rv h
  obtain ⟨l, b, xs, zs, rfl, rfl, hH, hB, hz, q⟩ := h
  cases rx
  obtain ⟨u, rfl, ru⟩ := rv.one
  cases ru
  obtain ⟨z, its, n, r, hl, e⟩ := I.lstM hH
  obtain ⟨z2, its2, n2, r2, hl2, e2⟩ := I.lstM hB
  have hsz : its.toArray.size + its2.toArray.size ≤ sizeLine := by rw [List.size_toArray, List.size_toArray]; omega
  have hlong : ¬ (!its.toArray.isEmpty && Builtin.List.listTooLong (its.toArray.size + its2.toArray.size)) = true := by
    rw [notLongL hsz, Bool.and_false]
    exact Bool.false_ne_true
  refine call_meets F.slot_list_extend ⟨_, e, rfl⟩ F.entry_list_extend (F.args_list_extend_2 _ _)
    (AutoSeq1.list_extend_list_list_0 l its.toArray n b its2.toArray n2 hlong (by rw [List.size_toArray]; omega) (by omega)) ⟨e, e2, ?_⟩
  refine ⟨.non, _, I.lset (its' := its ++ its2) hH e (by simp) (r.append r2) ?_, rfl, q⟩
  rw [List.length_append]
  omega

noncomputable def rPop : V → List V → Hp → VK → Prop := fun x vs H Q => ∃ l xs y, x = .ref l ∧ vs = [] ∧ H l = some (.lst xs) ∧ xs[xs.length - 1]? = some y ∧ Q y (upd H l (.lst xs.dropLast))

noncomputable def rPopAt : V → List V → Hp → VK → Prop := fun x vs H Q => ∃ l xs i k y, x = .ref l ∧ vs = [.int i] ∧ H l = some (.lst xs) ∧ -(2 ^ 63) ≤ i ∧ i < 2 ^ 63 ∧ seqIndex? i xs.length = some k ∧ xs[k]? = some y ∧ Q y (upd H l (.lst (xs.eraseIdx k)))

noncomputable def rReverse : V → List V → Hp → VK → Prop := fun x vs H Q => ∃ l xs, x = .ref l ∧ vs = [] ∧ H l = some (.lst xs) ∧ Q .non (upd H l (.lst xs.reverse))

noncomputable def rClear : V → List V → Hp → VK → Prop := fun x vs H Q => ∃ l xs, x = .ref l ∧ vs = [] ∧ H l = some (.lst xs) ∧ Q .non (upd H l (.lst []))

/-! ### list + list, list += list, list * int -/
noncomputable def rCat : R2 := fun x y H Q => ∃ l b xs zs, x = .ref l ∧ y = .ref b ∧ H l = some (.lst xs) ∧ H b = some (.lst zs) ∧ xs.length + zs.length ≤ sizeLine ∧ ∀ p, H p = none → Q (.ref p) (upd H p (.lst (xs ++ zs)))
theorem op_cat : OpR X (binaryOp .Add) rCat := by
  intro pins s σ H x y v u Q I rx ry h
  obtain ⟨l, b, xs, zs, rfl, rfl, hH, hB, hz, q⟩ := h
  cases rx
  cases ry
  obtain ⟨z, its, n, r, hl, e⟩ := I.lstM hH
  obtain ⟨z2, its2, n2, r2, hl2, e2⟩ := I.lstM hB
  refine PySem.P.add_list e e2 ?_ (by rw [List.size_toArray, List.size_toArray]; omega)
  have ea : its.toArray ++ its2.toArray = (its ++ its2).toArray := by simp
  rw [ea]
  exact ⟨.ref _, _, I.lnew (t' := s.toks) (r.append r2) (by rw [List.length_append]; omega), rfl, q _ I.fresh⟩
/-- a list times an int (a negative one is nothing) -/
noncomputable def rRep : R2 := fun x y H Q => ∃ l k xs, x = .ref l ∧ y = .int k ∧ H l = some (.lst xs) ∧ -(2 ^ 63) ≤ k ∧ k < 2 ^ 63 ∧ xs.length * k.toNat ≤ sizeLine ∧
  ∀ p, H p = none → Q (.ref p) (upd H p (.lst (List.replicate k.toNat xs).flatten))

/-! ### del xs[i] -/
end

/-! ### xs[a:b] = ys -/
section
variable {prog : Program} {w : World} {A : Around} {E : Value → Shared → Prop} {s : Shared}
theorem bounds_run {a c n : Nat} (hac : a ≤ c) (hc : c ≤ n) : sliceBounds (some (a : Int)) (some (c : Int)) none n = ((a : Int), (c : Int), 1) := by
  simp only [sliceBounds, Option.getD_none]
  have h1 : ¬ ((a : Int) < 0) := by omega
  have h2 : ¬ ((c : Int) < 0) := by omega
  simp only [h1, h2, if_false, show (1 : Int) > 0 by decide, if_true]
  congr 1
  · omega
  · congr 1; omega
set_option maxRecDepth 100000 in
/-- list.__setitem__ with a slice of step one and another list -/
theorem setItem_slice {l b sl : Addr} {items new : Array Value} {n n2 : Nat} {vl vu : Value} {a c : Nat} {Q : Unit → Shared → Prop}
    (e : s.heap.get? l = some { cls := .type "list", data := .seq items n }) (e2 : s.heap.get? b = some { cls := .type "list", data := .seq new n2 }) (hne : l ≠ b)
    (hs : s.heap.IsSliceOf sl vl vu .none) (pl : IsPart vl (some (a : Int))) (pu : IsPart vu (some (c : Int))) (hac : a ≤ c) (hc : c ≤ items.size)
    (hsz : items.size + new.size ≤ sizeLine) (h : Q () { s with heap := s.heap.update l (Obj.mapSeq fun xs => xs.extract 0 a ++ new ++ xs.extract c xs.size) }) :
    wpAny (model prog w) A (setItem (.ref l) (.ref sl) (.ref b)) Q E s := by
  have hl : s.heap.IsList l items := PySem.IsL.isList e
  have hb : s.heap.IsList b new := PySem.IsL.isList e2
  obtain ⟨os, hos, hcs, hds⟩ := id hs
  have hTs : s.TypeIs (.ref sl) "slice" := ⟨os, hos, hcs⟩
  have hstep : ¬ ((rawPart none == rawInt 0) = true) := Bool.false_ne_true
  have hsame : Builtin.List.listSameRef (.ref l) (.ref b) = false := by
    unfold Builtin.List.listSameRef
    exact beq_eq_false_iff_ne.mpr hne
  have hmax : (max (a : Int) (c : Int)).toNat = c := by omega
  have hz' : ((fun xs : Array Value => xs.extract 0 a ++ new ++ xs.extract c xs.size) items).size ≤ sizeLine + 1 := by
    simp only [Array.size_append, Array.size_extract]
    omega
  unfold setItem
  try with_reducible refine wpAny_holding ?_
  first | refine wpAny_bind (wpAny_pure ?_) | skip
  refine wpAny_bind (wpAny_sequenceKey hl.typeIs (by decide) ?_)
  refine wpAny_bind (wpAny_callSpecial?_slot (name := Str.ofString "__setitem__") hl.typeIs slot_list_setitem
    (wpAny_call_entry slot_list_setitem hl.typeIs entry_list_setitem ?_ (args_list_setitem _ _ _)))
  show wpAny _ _ (Builtin.List.listSubscript? (.ref sl) >>= _) _ _ s
  refine wpAny_bind ?_
  unfold Builtin.List.listSubscript?
  refine wpAny_bind (wpAny_specialOf hTs slice_no_index ?_)
  simp only [Option.isNone_none, if_true]
  refine wpAny_pure ?_
  show wpAny _ _ (typeOf (.ref sl) >>= _) _ _ s
  refine wpAny_bind (wpAny_typeOf hTs ?_)
  first
    | rw [if_neg (by decide)]
    | refine PySem.W.KFB.if_not (by decide) ?_
  rw [listSliceParts_eq]
  refine wpAny_bind (wpAny_bind (wpAny_field hos hds (x := .none) rfl (wpAny_bind (wpAny_listPart .none ?_))))
  rw [if_neg hstep]
  refine wpAny_bind (wpAny_field hos hds (x := vl) rfl (wpAny_bind (wpAny_listPart pl ?_)))
  refine wpAny_bind (wpAny_field hos hds (x := vu) rfl (wpAny_bind (wpAny_listPart pu (wpAny_pure ?_))))
  first
    | simp only [hsame, Bool.false_eq_true, if_false]
    | refine PySem.W.KFB.if_not hsame ?_
    | (dsimp only
       rw [if_neg (by rw [hsame]; exact Bool.false_ne_true)])
  refine wpAny_bind (m := Builtin.List.listAllItems (.ref b) "must assign iterable to extended slice") ?_
  unfold Builtin.List.listAllItems
  refine wpAny_bind (wpAny_typeOf hb.typeIs ?_)
  first
    | refine PySem.W.KFB.if_so (by decide) ?_
    | rw [if_pos (by decide)]
    | simp only [beq_self_eq_true, Bool.true_or, if_true]
  unfold Builtin.List.listItems
  refine wpAny_bind (wpAny_seqItems e2 rfl (wpAny_pure ?_))
  refine wpAny_bind (wpAny_bind (wpAny_seqItems e rfl (wpAny_pure ?_)))
  refine wpAny_bind (wpAny_of_eq ((sliceIndices_raw (some (a : Int)) (some (c : Int)) none items.size (by simp)).trans (congrArg (pure : Int × Int × Int → Sem (Int × Int × Int)) (bounds_run hac hc))) ?_)
  show wpAny _ _ (if ((1 : Int) == 1) = true then _ else _) _ _ s
  rw [if_pos (by decide)]
  refine wpAny_bind (wpAny_rule ?_)
  first
    | simp only [notLongL hsz, Bool.false_eq_true, if_false]
    | refine PySem.W.KFB.if_not (notLongL hsz) ?_
  first | refine wpAny_bind (wpAny_pure ?_) | skip
  show wpAny _ _ (updateSeq l (fun xs => xs.extract 0 ((a : Int)).toNat ++ new ++ xs.extract (max (a : Int) (c : Int)).toNat xs.size) >>= _) _ _ s
  rw [hmax, Int.toNat_natCast]
  refine wpAny_bind (wpAny_updateSeq (hz := Nat.le_trans (Nat.le_add_right _ _) hsz) (_hz' := hz') e rfl ?_)
  refine wpAny_bind (wpAny_letGo ?_)
  first
    | exact wpAny_bind (wpAny_pure (wpAny_pure ⟨.none, rfl, wpAny_pure h⟩))
    | exact wpAny_pure ⟨.none, rfl, wpAny_pure h⟩
end

section
variable {X : Cx}
end
end L2

namespace Att
open PySem PySem.W PySem.Calls PyProof.Rows

/-! ### the script -/
theorem ints_of_wellAll {P : Params} {h : Heap} : ∀ (ns : List Int) (vs : List Value), WellAll P h vs (ns.map WData.int) → IntsAre vs ns := by
  intro ns
  induction ns with
  | nil =>
    intro vs w
    rw [List.map_nil] at w
    cases w
    exact .nil
  | cons n ns ih =>
    intro vs w
    rw [List.map_cons] at w
    cases w with
    | cons a b =>
      cases a
      exact .cons _ _ (ih _ b)

theorem script_of {l : OpenLaw} {n : Nat} (hn : l.most = some n) {P : Params} {h : Heap} {args : List WData} {vals : List Value}
    (hpre : l.row.toRowW.claim.pre args = true) (hwl : WellAll P h vals args) :
    ∃ a vs ns, vals = [Value.ref a] ∧ args = [WData.list (ns.map WData.int)] ∧ h.get? a = some { cls := .type "list", data := .seq vs.toArray } ∧ IntsAre vs ns ∧ ns.length ≤ n := by
  have hsh : WShape.hasAll [] args [.list .int] = true := (pre_splitW hpre).1
  have hc : l.pre.holds [] { args := args } = true := (pre_splitW hpre).2
  obtain ⟨d, r, rfl, h1, h2⟩ := hasAllW_cons hsh
  obtain rfl := hasAllW_nil h2
  obtain ⟨xs, rfl, h3⟩ := hasW_list h1
  obtain ⟨ns, rfl⟩ := items_int h3
  have hlen : ns.length ≤ n := by
    unfold OpenLaw.pre at hc
    have h4 : (WTm.not (.lt (.lit (.int (n : Int))) (.len (.arg 0)))).holds [] { args := [.list (ns.map .int)] } = true := by
      have h4 := (holds_andW hc).1
      rw [hn] at h4
      exact h4
    have h5 := condW_of h4 (w_not (w_lt w_lit (w_len_list (w_arg rfl))))
    rw [List.length_map] at h5
    refine Nat.le_of_not_lt fun q => ?_
    have q' : (n : Int) < ((ns.length : Nat) : Int) := by omega
    first
      | (rw [decide_eq_true q'] at h5; exact absurd h5 (by decide))
      | (simp at h5; omega)
  cases hwl with
  | cons w1 w2 =>
    cases w2
    cases w1 with
    | list ho hall => exact ⟨_, _, ns, rfl, rfl, ho, ints_of_wellAll ns _ hall, hlen⟩

theorem post_true (l : OpenLaw) (args : List WData) : l.row.toRowW.claim.post args (.bool true) args = true :=
  postW_of (r := l.row.toRowW) (X := (true == true))
    (show WShape.has [] (.bool true) .bool = true by first | rfl | decide | simp [WShape.has, WShape.arms, WShape.armsAll])
    (show (WTm.eq .res (.lit (.bool true))).value [] { args := args, res := some (.bool true), after := args } = some (.bool (true == true)) from w_eq_bool (w_res rfl) w_lit) rfl

/-! ### the attachment: holds_open's last premise (the goal 'hc' behind k_head) from a wpAny of the law's body -/

/-- the same from a codeAny of the CALL (for a layer whose function contracts speak of calls) -/
theorem attach_call {l : OpenLaw} {n : Nat} {q : Program} {loose : List Str} {XP : (Str → Option Value) → Heap → Prop} {YP : World → Heap → Prop} {d : DefRec}
    (hn : l.most = some n) (hdf : d.params.defaults = [])
    (call : ∀ (w : World) (s₀ s₁ : Shared) (mg mb : Str → Option Value) (fa : Addr) (o : Obj) (pm cd doc : Value) (a : Addr) (vs : List Value) (ns : List Int),
      Ground q loose [] XP w s₀ mg mb s₁.heap → YP w s₁.heap →
      s₁.heap.get? fa = some o → o.data = .func (docDef d.name d.params d.body d.scope pm cd doc) → s₁.heap.CodeRec cd d.name → mg d.name = some (.ref fa) →
      s₁.heap.get? a = some { cls := .type "list", data := .seq vs.toArray } → IntsAre vs ns → ns.length ≤ n → s₁.gens = #[] →
      codeAny (model l.prog w) callerA (.call (.ref fa) ⟨[.ref a], []⟩) (fun r s' => r = .ok (.ret (.bool true)) ∧ OldK s₁.heap s'.heap ∧ s'.os = s₁.os ∧ AllBare s'.gens) s₁) :
    WalkO q loose XP YP l.row.toRowW d [] (fun f vs => PySem.call f vs) := by
  intro w s₀ s₁ mg mb G Y fa o pm cd doc dV kV ho hd hcd hD hmg hg args vals as hpre hlay hrd hwl hlo
  obtain rfl : dV = .none := Dflts.none hD hdf
  obtain rfl : kV = .none := Dflts.noKw hD
  obtain ⟨a, vs, ns, rfl, rfl, hobj, hints, hlen⟩ := script_of hn hpre hwl
  refine enter_call (codeAny_mono (call w s₀ s₁ mg mb fa o pm cd doc a vs ns G Y ho (fd_plain hd) hcd hmg hobj hints hlen hg) fun r s' hq => ?_)
  obtain ⟨rfl, h2, h3, h4⟩ := hq
  exact ⟨.inl ⟨.bool true, .bool true, [], rfl, fun _ => rfl, .bool true, post_true l _, fun _ => ⟨List.Pairwise.nil, fun _ hm => (nomatch hm)⟩⟩, h2, h3, h4⟩


/-! ### rules over ANY heap (no ledger) from facts about the written part K: the library's own take a ledger (News) for what they write -/
section
variable {prog : Program} {w : World} {A : Around} {E : Value → Shared → Prop} {s : Shared} {K : Frag}





/-! the whole heap as the ledger: makes every rule that writes through a ledger a rule over any heap -/
noncomputable def noObjs (h : Heap) : Heap := { h with objs := #[] }
noncomputable def ledger (h : Heap) (L d : Addr) : List (Addr × Obj) := (List.range h.objs.size).filterMap fun a => if a = L ∨ a = d then none else (h.get? a).map fun o => (a, o)

end
end Att

namespace L2
open PySem PySem.Spec PyProof.Rows

theorem vals_ints : ∀ {vs : List Value} {ns : List Int}, IntsAre vs ns → Vals (ns.map V.int) vs
  | _, _, .nil => .nil
  | _, _, .cons n t h => .cons ⟨t, rfl⟩ (vals_ints h)

/-- nothing is tracked but the script, known to the object (or it is an object of the module) -/
noncomputable def Only (H : Hp) : Prop := ∀ b, H b = none ∨ ∃ o xs, H b = some (.frz o (.lst xs))

/-- THE HEAD: the law's promise, at the heap behind the top. F, the promise of the law's def, may use that base is part of the heap (so K.In base, base.Ns mainGlobals mg stand in Mod) -/
theorem law_call {P : Program} {w : World} {K : PySem.W.Frag} {mg mb : Str → Option Value} {CX : CXT} {k : Nat} {fa a : Addr} {fd : FuncData} {x : Str} {sp : Sp} {s₁ : Shared} {vs : List Value} {ns : List Int}
    (KX : K.In s₁.heap) (hns : s₁.heap.Ns mainGlobals mg) (hb : s₁.heap.Ns builtinsNs mb) (hbb : ∀ x : Str, x ≠ "__name__" → mb x = bootBuiltins x) (hlim : s₁.heap.NoLimit) (hg : s₁.gens = #[])
    (ha : s₁.heap.get? a = some { cls := .type "list", data := .seq vs.toArray }) (hi : IntsAre vs ns) (hl : ns.length ≤ sizeLine) (hr : Room k callerA)
    (F : ∀ base : Heap, K.In base → base.Ns mainGlobals mg → FnOk P w K mg base CX k fa fd [x] sp) (hbind : ∀ (s : Shared) (u : Value), BindsTo s fd ⟨[u], []⟩ [(x, u)])
    (hsp : ∀ H : Hp, Only H → SqL K H a (ns.map V.int) → sp [.ref a] H (fun v _ => v = .bl true) fun _ _ _ => False)
    (hCX : ∀ H e s', CX [] H s₁ (fun _ _ _ => False) e s' → False) :
    codeAny (model P w) callerA (.call (.ref fa) ⟨[.ref a], []⟩) (fun r s' => r = .ok (.ret (.bool true)) ∧ OldK s₁.heap s'.heap ∧ s'.os = s₁.os ∧ AllBare s'.gens) s₁ := by
  have rv := vals_ints hi
  have lenV := hi.length
  -- from an abstract heap in which nothing but the script may be tracked
  have core : ∀ H : Hp, Only H → SqL K H a (ns.map V.int) → HOk P w H s₁.heap → (∀ b, H b ≠ none → b = a) → (H a ≠ none → K.lookup a = none) →
      codeAny (model P w) callerA (.call (.ref fa) ⟨[.ref a], []⟩) (fun r s' => r = .ok (.ret (.bool true)) ∧ OldK s₁.heap s'.heap ∧ s'.os = s₁.os ∧ AllBare s'.gens) s₁ := by
    intro H hO hS hok hA hK
    have base_of : ∀ {b : Addr} {o : Obj}, s₁.heap.get? b = some o → H b = none → (hidT s₁.heap H).get? b = some o := fun e n => hidT_get e n
    have noA : ∀ {b : Addr} {o : Obj} {es : Array DictEntry} {ep : Nat}, s₁.heap.get? b = some o → o.data = .dict es ep → H b = none := fun {b o es ep} e d => by
      cases q : H b with
      | none => rfl
      | some u =>
        have e' : b = a := hA b (by rw [q]; simp)
        subst e'
        rw [ha] at e; cases e
        have d' : Data.seq vs.toArray _ = Data.dict es ep := d
        cases d'
    have nsK : ∀ {b : Addr} {m : Str → Option Value}, s₁.heap.Ns b m → (hidT s₁.heap H).Ns b m := fun {b m} ⟨o, es, ep, e, d, r⟩ => ⟨o, es, ep, base_of e (noA e d), d, r⟩
    have hKb : K.In (hidT s₁.heap H) := fun b o e => base_of (KX b o e) (by
      cases q : H b with
      | none => rfl
      | some u =>
        have e' : b = a := hA b (by rw [q]; simp)
        subst e'
        rw [hK (by rw [q]; simp)] at e; cases e)
    have hM : Mod K mg (hidT s₁.heap H) := ⟨hKb, nsK hns, ⟨mb, nsK hb, hbb⟩, let ⟨mc, h1, h2⟩ := hlim; ⟨mc, nsK h1, h2⟩⟩
    have e0 : Env0 P w K mg (hidT s₁.heap H) callerA [] s₁ H := ⟨rfl, hM, fun b o e => of_hidT e, Nat.le_of_eq (hidT_size _ _), trivial, fun b hb => absurd (show b ∈ ([] : List Addr) from hb) (by simp), hok, .of_eq hg⟩
    refine codeAny_mono ((F _ hKb (nsK hns)).run callerA [] s₁ H ⟨[.ref a], []⟩ [.ref a] [.ref a] _ _ hr e0 (hbind s₁ (.ref a)) (.cons rfl .nil) (hsp H hO hS)) fun r s' h => ?_
    cases r with
    | error e => exact (hCX H e s' h).elim
    | ok fl =>
      cases fl with
      | next => exact False.elim h
      | brk => exact False.elim h
      | cont => exact False.elim h
      | ret u =>
        obtain ⟨v, H', os, bare, un, hok', r', q⟩ := h
        have q' : v = .bl true := q
        subst q'
        obtain rfl : u = Value.bool true := r'
        refine ⟨rfl, OldK.of_keep fun b o e => ?_, os, bare⟩
        cases q : H b with
        | none => exact un.keep b o e q (by intro z; exact absurd (show b ∈ ([] : List Addr) from z) (by simp)) (by simp)
        | some u =>
          rcases hO b with z | ⟨ob, xs, z⟩
          · rw [q] at z; cases z
          · have z2 := un.frzs b ob _ z
            obtain ⟨e1, _⟩ := hok b _ z
            obtain ⟨e2, _⟩ := hok' b _ z2
            rw [e] at e1; cases e1
            exact e2
  cases hk : K.lookup a with
  | some o =>
    -- the script is one of the module's own objects
    have e := KX a o hk
    rw [ha] at e
    cases e
    refine core (fun _ => none) (fun _ => .inl rfl) (.inr ⟨_, vs.toArray, _, hk, rfl, rfl, rfl, by rw [List.size_toArray, lenV]; exact hl, by simpa using rv⟩) (fun b u z => by have z' : (none : Option HO) = some u := z; cases z') (fun b z => absurd rfl z) fun z => absurd rfl z
  | none =>
    refine core (fun b => if b = a then some (.frz { cls := .type "list", data := .seq vs.toArray } (.lst (ns.map V.int))) else none) (fun b => ?_) (.inl (.inr ⟨{ cls := .type "list", data := .seq vs.toArray }, if_pos rfl⟩)) (fun b u z => ?_) (fun b z => ?_) fun _ => hk
    · by_cases hb : b = a
      · exact .inr ⟨_, _, if_pos hb⟩
      · exact .inl (if_neg hb)
    · by_cases hb : b = a
      · have z' := (if_pos hb).symm.trans z
        cases z'
        subst hb
        exact ⟨ha, by rw [List.length_map]; exact hl, vs, _, rv, ha⟩
      · have z' := (if_neg hb).symm.trans z
        cases z'
    · by_cases hb : b = a
      · exact hb
      · exact absurd (if_neg hb) z
end L2

namespace L2
open PySem PySem.Spec PyProof.Rows

noncomputable abbrev KOf {K : PySem.W.Frag} {h : Heap} (_ : K.In h) : PySem.W.Frag := K

/-- the goal that k_head leaves (case hc), from the law's promise. F gives the function object fd (K's own) once, then the promise over every base -/
theorem walk_of {l : PySem.W.OpenLaw} {n k : Nat} {q : Program} {loose : List Str} {XP : (Str → Option Value) → Heap → Prop} {YP : World → Heap → Prop} {d : DefRec} {K : Params → PySem.W.Frag} {CX : World → CXT} {sp : World → Sp} {x : Str}
    (hn : l.most = some n) (hn2 : n ≤ sizeLine) (hdf : d.params.defaults = []) (hr : Room k callerA)
    (hY : ∀ (w : World) (h : Heap), YP w h → (K w.params).In h)
    (F : ∀ (w : World) (mg : Str → Option Value) (fa : Addr) (h : Heap), (K w.params).In h → h.Ns mainGlobals mg → mg d.name = some (.ref fa) →
      ∃ fd : FuncData, (∀ (s : Shared) (u : Value), BindsTo s fd ⟨[u], []⟩ [(x, u)]) ∧
        ∀ base : Heap, (K w.params).In base → base.Ns mainGlobals mg → FnOk l.prog w (K w.params) mg base (CX w) k fa fd [x] (sp w))
    (hsp : ∀ (w : World) (H : Hp) (a : Addr) (ns : List Int), ns.length ≤ n → Only H → SqL (K w.params) H a (ns.map V.int) → sp w [.ref a] H (fun v _ => v = .bl true) fun _ _ _ => False)
    (hCX : ∀ (w : World) (H : Hp) (s : Shared) (e : Value) (s' : Shared), CX w [] H s (fun _ _ _ => False) e s' → False) :
    PySem.W.WalkO q loose XP YP l.row.toRowW d [] (fun f vs => PySem.call f vs) := by
  refine Att.attach_call hn hdf fun w s₀ s₁ mg mb fa o pm cd doc a vs ns G Y ho hd hcd hmg hobj hints hlen hg => ?_
  have KX := hY w _ Y
  obtain ⟨fd, hb, hF⟩ := F w mg fa _ KX G.T.g hmg
  exact law_call KX G.T.g G.T.b G.T.builtins G.T.nolimit hg hobj hints (Nat.le_trans hlen hn2) hr hF hb (fun H hO hS => hsp w H a ns hlen hO hS) fun H e s' => hCX w H s₁ e s'
end L2

/- THE LAST THEOREM (shape; LID, My.* are yours):
   My.Adr: a structure of the addresses that your layer names (classes, functions); My.Txt K t: a structure (Prop) of the equations over K;
   My.txt_mk : {K} {implicit addresses ..} (e1 : nsIn K mainGlobals "law" = some (some (.ref f))) (e2 : K.lookup f = some ⟨oc, od, .func (fnOf "law" "law" params body scope dV kV doc pm an cdv ct), sl⟩) (e3 : codeIn K cdv "law" = true) .. : ∃ t, My.Txt K t

set_option maxRecDepth 100000 in
set_option maxHeartbeats 0 in
theorem PySem.Challenge.cw_LID_holds : PySem.Challenge.rw_LID.Holds := by
  w_on; o_law; k_head; (case hw => w_witness2)
  k_fill
  refine L2.walk_of (l := PySem.Challenge.rw_LID) (n := 63) (k := 40) (x := "script") (CX := fun w => ..) (sp := fun _ => My.sp_law) rfl (by decide) rfl ⟨rfl, by decide, by decide⟩ (fun w h Y => PySem.W.kIn_of Y) ?F ?S ?C
  case F =>
    intro w mg fa h KX G hmg
    have T : ∃ t, My.Txt (L2.KOf KX) t := by
      dsimp only [L2.KOf]                          -- K must stand as «<heap const> w.params» for k_is
      refine' My.txt_mk ?e1 ?e2 ?e3 ..
      (case e1 => PySem.W.k_is)                    -- in the order: a name -> its address -> its object -> its parts
      (case e2 => PySem.W.k_is)
      ..
    obtain ⟨t, T⟩ := T
    have e0 := hmg.symm.trans (PySem.W.mg_of KX G T.law)
    cases e0                                       -- fa is the law's own address
    exact ⟨_, fun s u => .of_eq rfl, fun base kb nb => My.law_fn T kb nb⟩     -- if «.of_eq rfl» comes too early: refine' ⟨_, ?b, fun base kb nb => My.law_fn T kb nb⟩; exact fun s u => .of_eq rfl
  case S => exact fun w H a ns hl hO hS => ..
  case C => exact ..
(the tactic k_is has no namespace: write k_is) -/

/-! SHORT WORDS over the layer: a def of the text, its body, what a loop and a test want. -/
namespace L2
open PySem PySem.Spec PyProof.Rows

/-! ### the text by places -/
/-- the j-th statement of a class's body -/
noncomputable def inClass (s : Stmt) (j : Nat) : Stmt := match s with
  | .ClassDef _ _ _ body _ _ _ _ _ _ _ => body.getD j (.Pass ⟨0, 0, 0, 0⟩)
  | _ => .Pass ⟨0, 0, 0, 0⟩
noncomputable def defArgs (s : Stmt) : Arguments := match s with
  | .FunctionDef _ a _ _ _ _ _ _ _ _ => a
  | _ => { posonlyargs := [], args := [], vararg := none, kwonlyargs := [], kw_defaults := [], kwarg := none, defaults := [] }
noncomputable def defBody (s : Stmt) : List Stmt := match s with
  | .FunctionDef _ _ b _ _ _ _ _ _ _ => b
  | _ => []
noncomputable def defScope (s : Stmt) : Scope := match s with
  | .FunctionDef _ _ _ _ _ _ sc _ _ _ => sc
  | _ => { kind := .function, names := [], isGenerator := false, isCoroutine := false }

/-! ### no exception leaves a def -/
noncomputable abbrev CX0 : CXT := fun _ _ _ _ _ _ => False
noncomputable abbrev E0 : XK := fun _ _ _ => False
theorem pass0 {X : Cx} : Passes CX0 X E0 := fun _ _ _ _ _ _ _ h => h.elim

/-! ### a def (or method) of the text as it stands behind the top -/
structure Fun (K : PySem.W.Frag) (x qual : Str) (st : Stmt) (f : Addr) (fd : FuncData) : Prop where
  ex : ∃ (oc : Value) (od : Option Addr) (kV doc pm : Value) (an : Option Addr) (cdv ct : Value) (osl : Array (Option Value)),
    fd = PySem.W.fnOf x qual (defArgs st) (defBody st) (defScope st) .none kV doc pm an cdv ct ∧ K.lookup f = some ⟨oc, od, .func fd, osl⟩ ∧ PySem.W.codeIn K cdv qual = true
  kp : PySem.W.keepIn K (.ref f) = true
section
variable {P : Program} {w : World} {K : PySem.W.Frag} {mg : Str → Option Value} {base : Heap}
/-- THE RULE for a def: its body as a term of rules, and the reading of that term -/
theorem Fun.ok {x qual : Str} {st : Stmt} {f : Addr} {fd : FuncData} {N ps : List Str} {k : Nat} {sp : Sp} (F : Fun K x qual st f fd) (S : FnScope N ps (defScope st)) (len : ∀ vs H Q E, sp vs H Q E → vs.length = ps.length)
    (hbody : ∀ (cdv : Value) (A : Around) (outer : List Env) (s : Shared) (H : Hp) (vs : List V) (Q : VK) (E : XK), Room k (A.deeper (envOfC qual (defScope st) s.heap.objs.size f cdv)) → sp vs H Q E →
      ∃ t, PSs (cxOf CX0 P w K mg base N qual (defScope st) f cdv A outer s H E).nox (defBody st) t ∧ t { nx := fun _ H' => Q .non H', rt := Q } (start N vs) H) : FnOk P w K mg base CX0 (k + 1) f fd ps sp := by
  obtain ⟨oc, od, kV, doc, pm, an, cdv, ct, osl, rfl, lk, hcd⟩ := F.ex
  refine fn_of lk hcd S len fun A outer s H vs Q E hr hsp => ?_
  obtain ⟨t, h, q⟩ := hbody cdv A outer s H vs Q E hr hsp
  exact ⟨t, h.nox, q⟩
/-- how its arguments bind (no defaults): h is «fun _ _ _ _ _ _ us hl => match us, hl with | [_, _], _ => rfl», one _ a parameter -/
theorem Fun.binds {x qual : Str} {st : Stmt} {f : Addr} {fd : FuncData} {ps : List Str} (F : Fun K x qual st f fd)
    (h : ∀ (kV doc pm : Value) (an : Option Addr) (cdv ct : Value) (us : List Value), us.length = ps.length → bindArgs (PySem.W.fnOf x qual (defArgs st) (defBody st) (defScope st) .none kV doc pm an cdv ct) ⟨us, []⟩ = pure (ps.zip us)) : Binds K fd ps [] := by
  obtain ⟨oc, od, kV, doc, pm, an, cdv, ct, osl, rfl, lk, hcd⟩ := F.ex
  exact .all (h kV doc pm an cdv ct)
theorem fun_mk {x qual : Str} {st : Stmt} {f : Addr} {oc : Value} {od an : Option Addr} {osl : Array (Option Value)} {kV doc pm cdv ct : Value} (l : K.lookup f = some ⟨oc, od, .func (PySem.W.fnOf x qual (defArgs st) (defBody st) (defScope st) .none kV doc pm an cdv ct), osl⟩)
    (c : PySem.W.codeIn K cdv qual = true) (k : PySem.W.keepIn K (.ref f) = true) : Fun K x qual st f (PySem.W.fnOf x qual (defArgs st) (defBody st) (defScope st) .none kV doc pm an cdv ct) := ⟨⟨oc, od, kV, doc, pm, an, cdv, ct, osl, rfl, l, c⟩, k⟩
end

/-! ### expressions in short: the name that stands in the i-th slot -/
section
variable {X : Cx}
theorem pv (i : Nat) {x : Str} {pos : Pos} (hN : X.N[i]? = some x := by rfl) (hv : Vis X.env.scope x := by first | exact Or.inl rfl | exact Or.inr (Or.inl rfl) | exact Or.inr (Or.inr rfl)) (hd : (x == ("__debug__" : Str)) = false := by decide)
    (hcd : (x == ("__classdict__" : Str)) = false := by decide) : PE X (.Name x pos) (tVar i) := pe_var hN hv hd hcd
end

/-! ### tests -/
theorem iteF {A B : Prop} (h : B) : if false = true then A else B := by
  rw [if_neg Bool.false_ne_true]
  exact h
theorem iteT {A B : Prop} (h : A) : if true = true then A else B := by
  rw [if_pos rfl]
  exact h
theorem ite2 {c A B : Prop} [Decidable c] (h1 : c → A) (h2 : ¬ c → B) : if c then A else B := by
  by_cases h : c
  · rw [if_pos h]
    exact h1 h
  · rw [if_neg h]
    exact h2 h

/-! ### heaps -/
/-- all that was tracked is as it was -/
noncomputable def Same (H H' : Hp) : Prop := ∀ b o, H b = some o → H' b = some o
theorem Same.refl (H : Hp) : Same H H := fun _ _ h => h
theorem Same.trans {H H1 H2 : Hp} (a : Same H H1) (b : Same H1 H2) : Same H H2 := fun c o h => b c o (a c o h)
theorem Same.free {H H' : Hp} (e : Same H H') {l : Addr} (h : H' l = Option.none) : H l = Option.none := by
  cases q : H l with
  | none => rfl
  | some o =>
    rw [e l o q] at h
    cases h
theorem Same.seq {K : PySem.W.Frag} {H H' : Hp} {a : Addr} {xs : List V} (e : Same H H') (h : SqL K H a xs) : SqL K H' a xs := by
  rcases h with (h | ⟨o, h⟩) | h
  · exact .inl (.inl (e _ _ h))
  · exact .inl (.inr ⟨o, e _ _ h⟩)
  · exact .inr h

end L2

namespace L2
open PySem PySem.Spec PyProof.Rows

/-! ### a list comprehension: its block -/
noncomputable def closOf (names : List (Str × NameKind)) (cells : List (Str × Addr)) : List (Str × Addr) → List (Str × Addr) :=
  fun acc => names.foldl (fun a y => if y.2 == NameKind.free then (match cells.lookup y.1 with | some c => (y.1, c) :: a | none => a) else a) acc

theorem clos_forIn (env : Env) : ∀ (names : List (Str × NameKind)) (acc : List (Str × Addr)), (∀ y ∈ names, y.2 = .free → ∃ c, env.cells.lookup y.1 = some c) →
    (forIn names acc fun (x : Str × NameKind) (r : List (Str × Addr)) => (match x with
      | (name, kind) => if (kind == NameKind.free) = true then (do let c ← cellOf env name; pure (ForInStep.yield ((name, c) :: r))) else pure (ForInStep.yield r) : Sem (ForInStep (List (Str × Addr))))) = (pure (closOf names env.cells acc) : Sem _)
  | [], acc, _ => rfl
  | (n, k) :: r, acc, h => by
    have ih := fun a => clos_forIn env r a fun y hy => h y (List.mem_cons_of_mem _ hy)
    rw [List.forIn_cons]
    by_cases hk : (k == NameKind.free) = true
    · obtain ⟨c, hc⟩ := h (n, k) List.mem_cons_self (by simpa using hk)
      have e1 : cellOf env n = pure c := by unfold cellOf; simp only at hc; rw [hc]
      simp only [hk, if_true, e1]
      have e2 : closOf ((n, k) :: r) env.cells acc = closOf r env.cells ((n, c) :: acc) := by
        unfold closOf; rw [List.foldl_cons]; simp only [hk, if_true]; simp only at hc; rw [hc]
      rw [e2, ← ih]; rfl
    · have e2 : closOf ((n, k) :: r) env.cells acc = closOf r env.cells acc := by
        unfold closOf; rw [List.foldl_cons]; simp only [hk]; rfl
      simp only [hk]
      rw [e2, ← ih]; rfl

theorem closure_eq {scope : Scope} {env : Env} (h : ∀ y ∈ scope.names, y.2 = .free → ∃ c, env.cells.lookup y.1 = some c) : closureFor scope env = pure (closOf scope.names env.cells []) := by
  unfold closureFor
  have e := clos_forIn env scope.names [] h
  first
    | (rw [e]; rfl)
    | (simp only [e]; rfl)
    | (show (forIn _ _ _ >>= _) = _; erw [e]; rfl)

theorem closOf_mem {cells : List (Str × Addr)} : ∀ (names : List (Str × NameKind)) (acc : List (Str × Addr)) {p : Str × Addr}, p ∈ closOf names cells acc → p ∈ acc ∨ (cells.lookup p.1 = some p.2 ∧ (p.1, NameKind.free) ∈ names)
  | [], _, _, h => .inl h
  | (n, k) :: r, acc, p, h => by
    unfold closOf at h
    rw [List.foldl_cons] at h
    by_cases hk : (k == NameKind.free) = true
    · simp only [hk, if_true] at h
      have hk' : k = .free := by simpa using hk
      cases hc : cells.lookup n with
      | none =>
        rw [hc] at h
        rcases closOf_mem r acc h with z | ⟨z, z'⟩
        · exact .inl z
        · exact .inr ⟨z, List.mem_cons_of_mem _ z'⟩
      | some c =>
        rw [hc] at h
        rcases closOf_mem r ((n, c) :: acc) h with z | ⟨z, z'⟩
        · rcases List.mem_cons.mp z with z | z
          · subst z; exact .inr ⟨hc, by rw [hk']; exact List.mem_cons_self⟩
          · exact .inl z
        · exact .inr ⟨z, List.mem_cons_of_mem _ z'⟩
    · simp only [hk] at h
      rcases closOf_mem r acc h with z | ⟨z, z'⟩
      · exact .inl z
      · exact .inr ⟨z, List.mem_cons_of_mem _ z'⟩
theorem closOf_keep {cells : List (Str × Addr)} : ∀ (names : List (Str × NameKind)) (acc : List (Str × Addr)) {p : Str × Addr}, p ∈ acc → p ∈ closOf names cells acc
  | [], _, _, h => h
  | (n, k) :: r, acc, p, h => by
    unfold closOf
    rw [List.foldl_cons]
    by_cases hk : (k == NameKind.free) = true
    · simp only [hk, if_true]
      cases hc : cells.lookup n with
      | none => exact closOf_keep r acc h
      | some c => exact closOf_keep r ((n, c) :: acc) (List.mem_cons_of_mem _ h)
    · simp only [hk]; exact closOf_keep r acc h
theorem closOf_has {cells : List (Str × Addr)} : ∀ (names : List (Str × NameKind)) (acc : List (Str × Addr)) {y : Str} {c : Addr}, (y, NameKind.free) ∈ names → cells.lookup y = some c → (y, c) ∈ closOf names cells acc
  | (n, k) :: r, acc, y, c, h, hc => by
    unfold closOf
    rw [List.foldl_cons]
    rcases List.mem_cons.mp h with z | z
    · cases z
      simp only [beq_self_eq_true, if_true, hc]
      exact closOf_keep r _ List.mem_cons_self
    · by_cases hk : (k == NameKind.free) = true
      · simp only [hk, if_true]
        cases hn : cells.lookup n with
        | none => exact closOf_has r acc z hc
        | some d => exact closOf_has r _ z hc
      · simp only [hk]; exact closOf_has r acc z hc
theorem mem_of_lookup' {α : Type} : ∀ {l : List (Str × α)} {x : Str} {c : α}, l.lookup x = some c → (x, c) ∈ l
  | [], _, _, h => by simp at h
  | (n, d) :: r, x, c, h => by
    rw [List.lookup_cons] at h
    cases hx : x == n with
    | true =>
      rw [hx] at h
      have e : x = n := by simpa using hx
      have e2 : d = c := by simpa using h
      rw [e, e2]; exact List.mem_cons_self
    | false => rw [hx] at h; exact List.mem_cons_of_mem _ (mem_of_lookup' h)
theorem lookup_of_mem' {α : Type} : ∀ {l : List (Str × α)} {x : Str} {c : α}, (x, c) ∈ l → ∃ d, l.lookup x = some d
  | (n, d) :: r, x, c, h => by
    rw [List.lookup_cons]
    cases hx : x == n with
    | true => exact ⟨d, rfl⟩
    | false =>
      rcases List.mem_cons.mp h with z | z
      · have : x = n := congrArg Prod.fst z
        rw [this] at hx; simp at hx
      · exact lookup_of_mem' z

theorem relabel_kind {env : Env} : ∀ {names : List (Str × NameKind)} {x : Str} {k : NameKind}, (∀ y ∈ names, y.2 ≠ .cell) →
    (names.map fun (n, k) => if (k == NameKind.free && env.scope.kind == .function && env.kindOf n == some .cell) then (n, NameKind.cell) else (n, k)).lookup x = some k →
    names.lookup x = some k ∨ (names.lookup x = some .free ∧ k = .cell)
  | [], _, _, _, h => by simp at h
  | (n, k') :: r, x, k, hc, h => by
    have ih := @relabel_kind env r x k fun y hy => hc y (List.mem_cons_of_mem _ hy)
    rw [List.map_cons] at h
    by_cases hcnd : (k' == NameKind.free && env.scope.kind == .function && env.kindOf n == some .cell) = true
    · simp only [hcnd, if_true] at h
      rw [List.lookup_cons] at h ⊢
      cases hx : x == n with
      | true =>
        rw [hx] at h
        have hk' : k' = .free := by
          have := (Bool.and_eq_true_iff.mp (Bool.and_eq_true_iff.mp hcnd).1).1
          simpa using this
        have : NameKind.cell = k := by simpa using h
        exact .inr ⟨by rw [hk'], this.symm⟩
      | false => rw [hx] at h; exact ih h
    · simp only [hcnd] at h
      rw [show (if false = true then (n, NameKind.cell) else (n, k')) = (n, k') from rfl] at h
      rw [List.lookup_cons] at h ⊢
      cases hx : x == n with
      | true => rw [hx] at h; exact .inl h
      | false => rw [hx] at h; exact ih h

/-- what a comprehension's scope must be like: its own name x, the names that it takes from around -/
structure CScope (N N' : List Str) (x : Str) (sc osc : Scope) : Prop where
  kind : sc.kind = .function
  nocell : ∀ y ∈ sc.names, y.2 ≠ .cell
  own : ∀ y ∈ sc.names, y.2 = .local → y.1 = x ∨ y.1 = ".0"
  has : sc.names.lookup x = some .local
  names : ∀ y ∈ sc.names, y.2 = .local → sc.names.lookup y.1 = some .local
  nox : x ∉ N'
  no0 : (".0" : Str) ∉ N'
  nd : N'.Nodup
  len : N'.length = N.length
  sub : ∀ p ∈ N.zip N', p.1 = p.2 ∨ sc.names.lookup p.2 = none
  free : ∀ y ∈ sc.names, y.2 = .free → osc.names.lookup y.1 = some .cell ∨ osc.names.lookup y.1 = some .free
/-- .. looked at by program -/
noncomputable def csOk (N N' : List Str) (x : Str) (sc osc : Scope) : Bool :=
  decide (sc.kind = .function) && decide (∀ y ∈ sc.names, y.2 ≠ .cell) && decide (∀ y ∈ sc.names, y.2 = .local → y.1 = x ∨ y.1 = ".0") && decide (sc.names.lookup x = some .local) &&
    decide (∀ y ∈ sc.names, y.2 = .local → sc.names.lookup y.1 = some .local) && decide (x ∉ N') && decide ((".0" : Str) ∉ N') && decide N'.Nodup && decide (N'.length = N.length) && decide (∀ p ∈ N.zip N', p.1 = p.2 ∨ sc.names.lookup p.2 = none) && decide (∀ y ∈ sc.names, y.2 = .free → osc.names.lookup y.1 = some .cell ∨ osc.names.lookup y.1 = some .free)
/-- .. where names around may be hidden by the comprehension's own -/
theorem csH {N N' : List Str} {x : Str} {sc osc : Scope} (h : csOk N N' x sc osc = true) : CScope N N' x sc osc := by
  unfold csOk at h
  simp only [Bool.and_eq_true, decide_eq_true_eq] at h
  obtain ⟨⟨⟨⟨⟨⟨⟨⟨⟨⟨h1, h2⟩, h3⟩, h4⟩, h5⟩, h6⟩, h7⟩, h9⟩, h10⟩, h11⟩, h8⟩ := h
  exact ⟨h1, h2, h3, h4, h5, h6, h7, h9, h10, h11, h8⟩
theorem cs {N : List Str} {x : Str} {sc osc : Scope} (h : csOk N N x sc osc = true) : CScope N N x sc osc := csH h

noncomputable def blk (X : Cx) (N' : List Str) (x : Str) (sc : Scope) (C : Addr) (s2 : Shared) (H2 : Hp) (fp : List Addr) : Cx :=
  { X with N := x :: N', s₀ := s2, H₀ := H2, env := compEnvC sc (closOf sc.names X.env.cells []) C X.env, outer := X.stack, stack := X.stack, ex := fp, fn := fun _ => false, pn := [], xe := fun _ _ => False }

section
variable {X : Cx} {pins : List (Addr × Obj)} {σ : St} {H H2 : Hp} {s s2 : Shared} {x : Str} {sc : Scope} {C : Addr} {fp : List Addr} {N' : List Str}

theorem blk_cells (S : CScope X.N N' x sc X.env.scope) {y : Str} {c : Addr} (h : (closOf sc.names X.env.cells []).lookup y = some c) : X.env.cells.lookup y = some c ∧ (y, NameKind.free) ∈ sc.names := by
  rcases closOf_mem _ _ (mem_of_lookup' h) with z | z
  · simp at z
  · exact z

theorem blk_ok (I : Inv X pins σ H2 s2) (S : CScope X.N N' x sc X.env.scope) (hC : s2.heap.objs.size ≤ C) (hf : ∀ b ∈ fp, FpOk X pins H2 b) (hfo : ∀ b ∈ fp, ∃ o, s2.heap.get? b = some o ∧ ∀ v, o.data ≠ .cell v) : (blk X N' x sc C s2 H2 fp).Ok where
  mod := I.ok.mod
  kind := S.kind
  glob := I.ok.glob
  blt := I.ok.blt
  above := hC
  inj := fun y z c h1 h2 => I.ok.inj y z c (blk_cells S h1).1 (blk_cells S h2).1
  has := fun y h => by
    have key : ∀ k, (relabel sc X.env).names.lookup y = some k → (k = .cell ∨ k = .free) → ∃ c, (closOf sc.names X.env.cells []).lookup y = some c := fun k hk hkk => by
      have hfree : sc.names.lookup y = some .free := by
        rcases relabel_kind (env := X.env) S.nocell hk with z | ⟨z, _⟩
        · rcases hkk with e | e
          · rw [e] at z; exact absurd rfl (S.nocell _ (mem_of_lookup' z))
          · rw [e] at z; exact z
        · exact z
      have hm := mem_of_lookup' hfree
      obtain ⟨c, hc⟩ := I.ok.has y (S.free _ hm rfl)
      exact lookup_of_mem' (closOf_has sc.names [] hm hc)
    rcases h with h | h
    · exact key _ h (.inl rfl)
    · exact key _ h (.inr rfl)
  cab := fun y c h => by cases h
  hd := fun h => I.ok.hd h
  frames := I.ok.frames
  stk := .inl rfl
  exf := fun b hb => by
    obtain ⟨o, ho, hd⟩ := hfo b hb
    refine ⟨Nat.ne_of_lt (Nat.lt_of_lt_of_le (Heap.lt_size ho) hC), fun y c h => (hf b hb).2.2.2.2.1 y c (blk_cells S h).1⟩
  bs := I.bs
  bsz := Nat.le_trans I.ok.bsz I.sz
  noex := fun b o h hb => by
    have h1 := (hf b hb).2.2.2.1
    rcases h1 with z | z
    · exact I.ok.noex b o h z
    · exact absurd (Nat.lt_of_lt_of_le (Heap.lt_size h) (Nat.le_trans I.ok.bsz z)) (Nat.lt_irrefl _)
  exfs := fun b hb h => by
    rcases List.mem_cons.mp (I.stkSub b h) with e | z
    · exact (hf b hb).2.1 e
    · exact (hf b hb).2.2.1 z
  funs := I.stack
  frf := I.stkFree

theorem blk_start {h4 : Heap} {t4 : Nat} (I : Inv X pins σ H2 s2) (S : CScope X.N N' x sc X.env.scope) (hf : ∀ b ∈ fp, FpOk X pins H2 b) (hfo : ∀ b ∈ fp, ∃ o, s2.heap.get? b = some o ∧ ∀ v, o.data ≠ .cell v)
    (hC : s2.heap.objs.size ≤ C) (hn : h4.Ns C fun _ => none) (hk : ∀ b o, s2.heap.get? b = some o → h4.get? b = some o) {q : List (Addr × Obj)} (hq : ∀ p ∈ q, h4.get? p.1 = some p.2 ∧ H2 p.1 = none ∧ p.1 ≠ C ∧ p.1 ∉ frs X.stack ∧ ∀ v, p.2.data ≠ .cell v) :
    Inv (blk X N' x sc C s2 H2 fp) q (none :: σ) H2 { s2 with heap := h4, toks := t4 } where
  ok := blk_ok I S hC hf hfo
  os := rfl
  bare := I.bare
  base := Un.kept hk
  loc := by
    refine ⟨fun _ => none, hn, fun i y v e1 e2 e3 => ?_⟩
    cases i with
    | zero => simp at e2
    | succ i =>
      have e0' : N'[i]? = some y := by simpa [blk] using e1
      have e2' : σ[i]? = some (some v) := by simpa using e2
      have hm : y ∈ N' := List.mem_of_getElem? e0'
      have e1' : X.N[i]? = some y := by
        have hi : i < X.N.length := by rw [← S.len]; exact (List.getElem?_eq_some_iff.mp e0').1
        have hz : (X.N[i], y) ∈ X.N.zip N' := by
          refine List.mem_of_getElem? (i := i) ?_
          rw [List.getElem?_zip_eq_some]
          exact ⟨List.getElem?_eq_getElem hi, e0'⟩
        rcases S.sub _ hz with z | z
        · rw [List.getElem?_eq_getElem hi]; exact congrArg some z
        · exfalso
          have no : ∀ k, (relabel sc X.env).names.lookup y ≠ some k := fun k hk => by
            rcases relabel_kind (env := X.env) S.nocell hk with w | ⟨w, _⟩
            · rw [show sc.names.lookup y = none from z] at w; cases w
            · rw [show sc.names.lookup y = none from z] at w; cases w
          rcases e3 with w | w | w
          · exact no _ w
          · exact no _ w
          · exact no _ w
      have hfree : sc.names.lookup y = some .free := by
        have case : ∀ k, (relabel sc X.env).names.lookup y = some k → (k = .local ∨ k = .cell ∨ k = .free) → sc.names.lookup y = some .free := fun k hk hkk => by
          rcases relabel_kind (env := X.env) S.nocell hk with z | ⟨z, _⟩
          · rcases hkk with e | e | e
            · rw [e] at z
              rcases S.own _ (mem_of_lookup' z) rfl with w | w
              · exact absurd (w ▸ hm) S.nox
              · exact absurd (w ▸ hm) S.no0
            · rw [e] at z; exact absurd rfl (S.nocell _ (mem_of_lookup' z))
            · rw [e] at z; exact z
          · exact z
        rcases e3 with z | z | z
        · exact case _ z (.inl rfl)
        · exact case _ z (.inr (.inl rfl))
        · exact case _ z (.inr (.inr rfl))
      have hmem := mem_of_lookup' hfree
      have kd : X.env.kindOf y = some .cell ∨ X.env.kindOf y = some .free := S.free _ hmem rfl
      obtain ⟨m, hnm, hl⟩ := I.loc
      obtain ⟨u, r, lk⟩ := hl i y v e1' e2' (by rcases kd with z | z; exact .inr (.inl z); exact .inr (.inr z))
      obtain ⟨c, hc, hcell⟩ : ∃ c, X.env.cells.lookup y = some c ∧ s2.heap.IsCell c (some u) := by
        rcases lk with ⟨z, _⟩ | ⟨_, z⟩
        · rcases kd with w | w
          · rw [w] at z; cases z
          · rw [w] at z; cases z
        · exact z
      refine ⟨u, r, .inr ⟨?_, c, ?_, ?_⟩⟩
      · rcases e3 with z | z | z
        · exfalso
          rcases relabel_kind (env := X.env) S.nocell z with q | ⟨_, q⟩
          · rw [hfree] at q; cases q
          · cases q
        · exact .inl z
        · exact .inr z
      · obtain ⟨d, hd⟩ := lookup_of_mem' (closOf_has sc.names [] hmem hc)
        have := (blk_cells S hd).1
        rw [hc] at this; cases this
        exact hd
      · obtain ⟨o, ho, hd⟩ := hcell
        exact ⟨o, hk _ _ ho, hd⟩
  cell := fun y c e => by
    obtain ⟨v, o, ho, hd⟩ := I.cell y c (blk_cells S e).1
    exact ⟨v, o, hk _ _ ho, hd⟩
  free := I.hok.fresh hC
  freeC := fun y c e => I.freeC y c (blk_cells S e).1
  pin := fun p hp => by
    have hp' : p ∈ q := by simpa [blk] using hp
    exact hq p hp'
  hok := I.hok.kept hk
  len := by show (none :: σ).length = (x :: N').length; simp [I.len, S.len]
end
end L2

namespace L2
open PySem PySem.Spec PyProof.Rows

theorem compLoop_any {prog : Program} {w : World} {A : Around} {R : Result → Shared → Prop} {s : Shared} {elt target iter : Expr} {ifs : List Expr} {scope : Scope} {pos : Pos} {it acc : Value} {env : Env} (I : Nat → Shared → Prop)
    (turn : ∀ n s, I n s → wpAny (model prog w) A (pyNext it) (fun r s₁ => match r with
      | none => R (.ok .next) s₁
      | some v => wpAny (model prog w) A (letOwnedTupleGo target it v) (fun _ s₁' => wpAny (model prog w) A (assign target env v) (fun _ s₂ =>
          wpAny (model prog w) A (forIn ifs true fun c r => if r = true then do let ok ← isTrue c env (eval c env); pure (ForInStep.yield ok) else pure (ForInStep.yield r)) (fun ok s₃ =>
            if ok = true then wpAny (model prog w) A (eval elt env) (fun x s₄ =>
              wpAny (model prog w) A (call (.builtin "list.append") [acc, x]) (fun _ s₅ => ∃ m, m < n ∧ I m s₅) (fun _ _ => False) s₄) (fun _ _ => False) s₃
            else ∃ m, m < n ∧ I m s₃) (fun _ _ => False) s₂) (fun _ _ => False) s₁') (fun _ _ => False) s₁) (fun _ _ => False) s)
    (n : Nat) (h : I n s) :
    codeAny (model prog w) A (.compLoop (.ListComp elt [⟨target, iter, ifs, 0⟩] scope pos) 0 it acc env) R s := by
  refine codeAny_loop rfl I (fun n s hI => ?_) n h
  show wpAny _ A ((compTurn (.ListComp elt [⟨target, iter, ifs, 0⟩] scope pos) 0 it acc env).onRaise (fun x => do noteFrame x env; theTreesLotGoes x)) _ _ s
  refine wpAny_noted ?_
  rw [compTurn_list]
  refine wpAny_bind (wpAny_standAt (wpAny_bind (wpAny_mono (turn n s hI) (fun r s₁ h₁ => ?_) fun _ _ h' => h'.elim)))
  cases r with
  | none => exact wpAny_pure h₁
  | some v =>
    refine wpAny_bind (wpAny_mono h₁ (fun _ s₁' h₁' => ?_) fun _ _ h' => h'.elim)
    refine wpAny_bind (wpAny_mono h₁' (fun _ s₂ h₂ => wpAny_bind (wpAny_mono h₂ (fun ok s₃ h₃ => ?_) fun _ _ h' => h'.elim)) fun _ _ h' => h'.elim)
    cases ok with
    | false => exact wpAny_pure ⟨rfl, h₃⟩
    | true =>
      exact wpAny_bind (wpAny_bind (wpAny_mono h₃ (fun x s₄ h₄ => wpAny_bind (wpAny_mono h₄ (fun _ s₅ h₅ => wpAny_pure (wpAny_pure ⟨rfl, h₅⟩)) fun _ _ h' => h'.elim)) fun _ _ h' => h'.elim))

/-- the tests of a clause -/
noncomputable def PIfs (X : Cx) (ifs : List Expr) (t : TT) : Prop :=
  ∀ (pins : List (Addr × Obj)) (s : Shared) (σ : St) (H : Hp) (Q : Bool → Hp → Prop), Inv X pins σ H s → t σ H Q →
    wpAny (model X.prog X.w) X.A (forIn ifs true fun c r => if r = true then do let ok ← isTrue c X.env (eval c X.env); pure (ForInStep.yield ok) else pure (ForInStep.yield r)) (TP X pins σ Q) X.xe s
noncomputable def tYes : TT := fun _ H Q => Q true H
theorem pifs_nil {X : Cx} : PIfs X [] tYes := fun _ _ _ H _ I h => wpAny_tests_nil ⟨H, I, h⟩
theorem pifs_one {X : Cx} {c : Expr} {t : TT} (hc : PT X c t) : PIfs X [c] t := fun pins s σ H Q I h => wpAny_tests_one (hc pins s σ H Q I h)

theorem HOk.track {P : Program} {w : World} {H : Hp} {h : Heap} {a : Addr} {o : HO} (x : HOk P w H h) (hn : H a = none) (new : ObjOk P w (upd H a o) h a o) : HOk P w (upd H a o) h := fun b u e => by
  by_cases hb : b = a
  · subst hb; rw [upd_same] at e; cases e; exact new
  · rw [upd_ne hb] at e
    exact (x b u e).stay (fun c v _ q => q) (fun c q => by rw [upd_ne (ne_of_none q hn)]; exact q) fun c xs q => by rw [upd_ne (ne_of_none q hn)]; exact q
theorem Un.track {fs ex : List Addr} {H H1 : Hp} {h h1 : Heap} {a : Addr} {o : HO} (u : Un fs ex H H1 h h1) (hn : H1 a = none) (hf : h.get? a = none) : Un fs ex H (upd H1 a o) h h1 where
  keep := u.keep
  slot := u.slot
  free := fun b ob q n hx => by
    rw [upd_ne (by rintro rfl; rw [hf] at q; cases q)]
    exact u.free b ob q n hx
  there := u.there
  tups := fun b xs q => by have := u.tups b xs q; rw [upd_ne (ne_of_none this hn)]; exact this
  frzs := fun b ob y q => by have := u.frzs b ob y q; rw [upd_ne (ne_of_none this hn)]; exact this
  tbls := fun b ps q => by
    obtain ⟨m, e⟩ := u.tbls b ps q
    exact ⟨m, by rw [upd_ne (ne_of_none e hn)]; exact e⟩

/-- the reading of a comprehension: W by the turn, a measure, what is gathered so far, the heap. The clause's own name stands in slot 0, the names around it are one further -/
noncomputable def CompW (J : It) (tt : TT) (te : TE) (σ : St) (Q : VK) (W : Nat → Nat → List V → Hp → Prop) : Prop := ∀ i m ys H, W i m ys H →
  (J.stop i H ∧ ys.length ≤ sizeLine ∧ ∀ p, H p = none → Q (.ref p) (upd H p (.lst ys))) ∨
  (J.go i H ∧ ys.length < sizeLine ∧ ∀ x H', J.yld i H x H' → tt (some x :: σ) H' fun b H3 => if b = true then te (some x :: σ) H3 fun y H4 => ∃ m', m' < m ∧ W (i + 1) m' (ys ++ [y]) H4 else ∃ m', m' < m ∧ W (i + 1) m' ys H3)
noncomputable def tComp (wi : TI) (tt : TT) (te : TE) : TE := fun σ H Q => wi σ H fun J H1 => ∃ W : Nat → Nat → List V → Hp → Prop, (∃ m, W 0 m [] H1) ∧ CompW J tt te σ Q W


section
variable {X : Cx} {pins : List (Addr × Obj)} {σ : St} {x : Str} {sc : Scope} {N' : List Str}
theorem comp_core {s2 : Shared} {H2 : Hp} {elt iter : Expr} {ifs : List Expr} {px pos : Pos} {tt : TT} {te : TE} {Q : VK} {RR : Value → Addr → Result → Shared → Prop} {E : Value → Shared → Prop}
    (hc : X.calm = true) (hN : X.N.Nodup) (S : CScope X.N N' x sc X.env.scope)
    (ht : ∀ C s2 H2 fp, PIfs (blk X N' x sc C s2 H2 fp) ifs tt) (he : ∀ C s2 H2 fp, PE (blk X N' x sc C s2 H2 fp) elt te)
    (I2 : Inv X pins σ H2 s2) {it : Addr} {fp : List Addr} {tn : Nat → Heap → Prop} {J : It} (T : Turn X.prog X.w X.K (.Name x px) J fp it tn) (st2 : tn 0 s2.heap) (f2 : ∀ b ∈ fp, FpOk X pins H2 b)
    (W : Nat → Nat → List V → Hp → Prop) (w0 : ∃ m, W 0 m [] H2)
    (turn : CompW J tt te σ Q W)
    (hRR : ∀ D C s' H', Inv X pins σ H' s' → FpOk X pins H' C → (∃ m, s'.heap.Ns C m) → Q (.ref D) H' → RR (.ref D) C (.ok .next) s') :
    wpAny (model X.prog X.w) X.A (newList []) (fun acc s₃ => wpAny (model X.prog X.w) X.A (newFunctionEnv sc X.env.globals (closOf sc.names X.env.cells []) [] X.env.qual none .none (some X.env)) (fun cenv s₄ =>
      codeAny (model X.prog X.w) X.A (.compStart (.ListComp elt [⟨.Name x px, iter, ifs, 0⟩] sc pos) 0 (.ref it) acc { cenv with scope := relabel sc X.env }) (RR acc cenv.locals) s₄) E s₃) E s2 := by
  have hfo := T.obj _ _ st2
  refine wpAny_newObj_type (wpAny_newFunctionEnv S.nocell (by intro y hy; simp at hy) (fun h₁ hns₁ hsb₁ => ?_) S.kind)
  dsimp only at hns₁ hsb₁ ⊢
  generalize hHP : s2.heap.push { cls := .type "list", dict := none, data := .seq ([] : List Value).toArray } = HP at hns₁ hsb₁ ⊢
  have hC : HP.objs.size = s2.heap.objs.size + 1 := by rw [← hHP, Heap.size_push]
  have hDC : s2.heap.objs.size ≠ HP.objs.size := by rw [hC]; exact Nat.ne_of_lt (Nat.lt_succ_self _)
  have hCle : s2.heap.objs.size ≤ HP.objs.size := by rw [hC]; exact Nat.le_succ _
  have below : ∀ b, b < s2.heap.objs.size → b ≠ HP.objs.size ∧ b ≠ s2.heap.objs.size := fun b hb => ⟨by rw [hC]; exact Nat.ne_of_lt (Nat.lt_succ_of_lt hb), Nat.ne_of_lt hb⟩
  have old : ∀ b o, s2.heap.get? b = some o → h₁.get? b = some o := fun b o e => hsb₁.extBut b o (below b (Heap.lt_size e)).1 (Heap.get?_push_of_some _ (hHP ▸ Heap.get?_push_of_some _ e))
  have hacc : h₁.get? s2.heap.objs.size = some { cls := .type "list", dict := none, data := .seq ([] : List Value).toArray } := hsb₁.extBut _ _ hDC (Heap.get?_push_of_some _ (hHP ▸ Heap.get?_push_size _ rfl))
  have hDn : H2 s2.heap.objs.size = none := I2.hok.fresh (Nat.le_refl _)
  have hDfr : s2.heap.objs.size ∉ frs X.stack := fun hb => by
    obtain ⟨_, o, ho, _⟩ := I2.stack.mem hb
    exact absurd (Heap.lt_size ho) (Nat.lt_irrefl _)
  have hDfp : s2.heap.objs.size ∉ fp := fun hb => by
    obtain ⟨o, ho, _⟩ := hfo _ hb
    exact absurd (Heap.lt_size ho) (Nat.lt_irrefl _)
  have hCfp : HP.objs.size ∉ fp := fun hb => by
    obtain ⟨o, ho, _⟩ := hfo _ hb
    exact absurd (Nat.lt_of_lt_of_le (Heap.lt_size ho) hCle) (Nat.lt_irrefl _)
  obtain ⟨m0, w0⟩ := w0
  -- the iterator's own objects, within the block
  have stat : ∀ {H' : Hp} {o : Obj}, (∀ b ∈ fp, H' b = none) → ∀ b ∈ fp, FpOk (blk X N' x sc HP.objs.size s2 H2 fp) [(s2.heap.objs.size, o)] H' b := fun {H' o} hn b hb => by
    obtain ⟨f0, f1, f2', f3, f4, f5⟩ := f2 b hb
    refine ⟨hn b hb, fun e => hCfp (by rw [← show b = HP.objs.size from e]; exact hb), fun z => ?_, .inl hb, fun y c e => f4 y c (blk_cells S e).1, fun p hp => ?_⟩
    · rcases List.mem_cons.mp (I2.stkSub b z) with e | z
      · exact f1 e
      · exact f2' z
    · have : p = (s2.heap.objs.size, o) := by simpa [blk] using hp
      subst this
      rintro rfl
      exact hDfp hb
  -- the invariant
  let Iv : Nat → Shared → Prop := fun n s' => ∃ i ys its k σx H', Inv (blk X N' x sc HP.objs.size s2 H2 fp) [(s2.heap.objs.size, { cls := .type "list", data := .seq (List.toArray its) k })] (σx :: σ) H' s' ∧
    Vals ys its ∧ tn i s'.heap ∧ (∀ b ∈ fp, H' b = none) ∧ W i n ys H'
  have I4 : Inv (blk X N' x sc HP.objs.size s2 H2 fp) [(s2.heap.objs.size, { cls := .type "list", data := .seq (List.toArray []) 0 })] (none :: σ) H2 { s2 with heap := h₁, toks := s2.toks + ([] : List (Str × Value)).length } := by
    refine blk_start I2 S f2 hfo hCle (by simpa using hns₁) old fun p hp => ?_
    have e : p = (s2.heap.objs.size, { cls := .type "list", data := .seq (List.toArray []) 0 }) := by simpa using hp
    subst e
    exact ⟨hacc, hDn, hDC, hDfr, fun v => by intro z; cases z⟩
  have loop : ∀ s₃ : Shared, s₃ = { s2 with heap := h₁, toks := s2.toks + ([] : List (Str × Value)).length } →
      codeAny (model X.prog X.w) X.A (.compLoop (.ListComp elt [⟨.Name x px, iter, ifs, 0⟩] sc pos) 0 (.ref it) (.ref s2.heap.objs.size) (compEnvC sc (closOf sc.names X.env.cells []) HP.objs.size X.env))
        (RR (.ref s2.heap.objs.size) HP.objs.size) s₃ := by
    rintro s₃ rfl
    refine compLoop_any Iv ?_ m0 ⟨0, [], [], 0, none, H2, I4, .nil, T.keep _ _ _ st2 fun b _ o e => old b o e, fun b hb => (f2 b hb).1, w0⟩
    rintro n s3 ⟨i, ys, its, k, σx, H3, I3, rv, st3, fr3, w3⟩
    have hy := rv.length
    rcases turn i n ys H3 w3 with ⟨stop, hz, q⟩ | ⟨go, hz, step⟩
    · refine thn (T.done (blk X N' x sc HP.objs.size s2 H2 fp) rfl rfl rfl hc i _ s3 _ H3 _ I3 (stat fr3) st3 stop) fun r s4 ⟨hr, I4⟩ => ?_
      subst hr
      -- the end: the list is tracked
      have pD := I4.pin (s2.heap.objs.size, { cls := .type "list", data := .seq (List.toArray its) k }) (by simp [blk])
      have new : ObjOk X.prog X.w (upd H3 s2.heap.objs.size (.lst ys)) s4.heap s2.heap.objs.size (.lst ys) := ⟨hz, its, k, rv, pD.1⟩
      have hok' := I4.hok.track (o := .lst ys) pD.2.1 new
      have un' : Un (frs X.stack) fp H2 (upd H3 s2.heap.objs.size (.lst ys)) s2.heap s4.heap := I4.base.track pD.2.1 (Heap.get?_none_of_le (Nat.le_refl _))
      have IX : Inv X pins σ (upd H3 s2.heap.objs.size (.lst ys)) s4 := I2.call' I4.os un' hok' I4.bare fun b hb => ⟨(f2 b hb).2.2.2.1, (f2 b hb).2.1, (f2 b hb).2.2.2.2.1, (f2 b hb).2.2.2.2.2⟩
      obtain ⟨m, hnm, _⟩ := I4.loc
      refine hRR _ _ s4 _ IX ?_ ⟨m, hnm⟩ (q _ pD.2.1)
      exact I2.fpOk hCle (by rw [upd_ne (Ne.symm hDC)]; exact I4.free)
    · refine thn (T.item (blk X N' x sc HP.objs.size s2 H2 fp) rfl rfl rfl hc i _ s3 _ H3 _ I3 (stat fr3) st3 go) fun r s4 ⟨u, hr, h4⟩ => ?_
      subst hr
      refine thn h4 fun _ s5 ⟨y, H5, I5, r5, y5, st5, fr5⟩ => ?_
      have I5' := I5.pinned (stat fr5) (T.obj _ _ st5)
      have stepq := step y H5 y5
      have I5'' : Inv (blk X N' x sc HP.objs.size s2 H2 fp) ([(s2.heap.objs.size, { cls := .type "list", data := .seq (List.toArray its) k })] ++ pinsAt fp s5.heap) (none :: σ) H5 s5 := I5'.weak rfl fun j v e => by
        cases j with
        | zero => simp at e
        | succ j => simpa using e
      have lx : (relabel sc X.env).names.lookup x = some .local := lookup_relabel_local S.has
      have hgx : PG (blk X N' x sc HP.objs.size s2 H2 fp) (.Name x px) (gName 0) := pg_name (i := 0) (List.nodup_cons.mpr ⟨S.nox, S.nd⟩) rfl (Or.inl lx) (Or.inr lx)
      refine thn (hgx _ s5 (none :: σ) H5 y u (fun σ6 H6 => σ6 = some y :: σ ∧ tt (some y :: σ) H6 fun b H3 => if b = true then te (some y :: σ) H3 fun y H4 => ∃ m', m' < n ∧ W (i + 1) m' (ys ++ [y]) H4 else ∃ m', m' < n ∧ W (i + 1) m' ys H3) I5'' r5 ⟨rfl, stepq⟩) fun _ s6 ⟨σ6, H6, I6, e6, q6⟩ => ?_
      subst e6
      refine thn (ht _ s2 H2 fp _ s6 _ H6 _ I6 q6) fun b s7 ⟨H7, I7, q7⟩ => ?_
      -- what stands behind the turn
      have pinof : ∀ {H8 : Hp} {s8 : Shared}, Inv (blk X N' x sc HP.objs.size s2 H2 fp) ([(s2.heap.objs.size, { cls := .type "list", data := .seq (List.toArray its) k })] ++ pinsAt fp s5.heap) (some y :: σ) H8 s8 →
          tn (i + 1) s8.heap ∧ (∀ b ∈ fp, H8 b = none) := fun {H8 s8} I8 => by
        refine ⟨T.keep _ _ _ st5 fun b hb o e => (I8.pin (b, o) (List.mem_append_right _ (List.mem_append_right _ (mem_pinsAt hb e)))).1, fun b hb => ?_⟩
        obtain ⟨o, e, d⟩ := T.obj _ _ st5 b hb
        exact (I8.pin (b, o) (List.mem_append_right _ (List.mem_append_right _ (mem_pinsAt hb e)))).2.1
      cases b with
      | false =>
        obtain ⟨m', hm, w7⟩ := q7
        obtain ⟨t7, f7⟩ := pinof I7
        exact ⟨m', hm, i + 1, ys, its, k, some y, H7, I7.unpinned, rv, t7, f7, w7⟩
      | true =>
        refine thn (he _ s2 H2 fp _ s7 _ H7 _ I7 q7) fun z s8 ⟨yv, H8, I8, r8, m', hm, w8⟩ => ?_
        obtain ⟨t8, f8⟩ := pinof I8
        have pD := I8.pin (s2.heap.objs.size, { cls := .type "list", data := .seq (List.toArray its) k }) (by simp [blk])
        refine call_meets F.slot_list_append ⟨_, pD.1, rfl⟩ F.entry_list_append (F.args_list_append_2 _ _) (PySem.list_append s2.heap.objs.size its.toArray k z (by rw [List.size_toArray]; omega)) ⟨pD.1, ?_⟩
        have e9 := PySem.IsL.update pD.1 (fun a => a.push z)
        rw [show its.toArray.push z = (its ++ [z]).toArray by simp] at e9
        obtain ⟨k', e9⟩ : ∃ k', (s8.heap.update s2.heap.objs.size (Obj.mapSeq fun a => a.push z)).get? s2.heap.objs.size = some { cls := .type "list", data := .seq (its ++ [z]).toArray k' } := ⟨_, e9⟩
        have other : ∀ b, b ≠ s2.heap.objs.size → (s8.heap.update s2.heap.objs.size (Obj.mapSeq fun a => a.push z)).get? b = s8.heap.get? b := fun b hb => Heap.get?_update_other _ _ (Ne.symm hb)
        have I8' : Inv (blk X N' x sc HP.objs.size s2 H2 fp) [] (some y :: σ) H8 s8 := I8.pins_of fun p hp => nomatch hp
        have I9 : Inv (blk X N' x sc HP.objs.size s2 H2 fp) [] (some y :: σ) H8 { s8 with heap := s8.heap.update s2.heap.objs.size (Obj.mapSeq fun a => a.push z) } := by
          refine I8'.turned (it := s2.heap.objs.size) (fun b o hb e => (other b hb).trans e) pD.2.1 hDC (.inr (Nat.le_refl _)) (fun y c e => ?_) fun p hp => ?_
          · intro hcc
            obtain ⟨v, o, ho, _⟩ := I2.cell y c (blk_cells S e).1
            exact absurd (Heap.lt_size ho) (by rw [hcc]; exact Nat.lt_irrefl _)
          · simp [blk] at hp
        have I10 : Inv (blk X N' x sc HP.objs.size s2 H2 fp) [(s2.heap.objs.size, { cls := .type "list", data := .seq (List.toArray (its ++ [z])) k' })] (some y :: σ) H8 { s8 with heap := s8.heap.update s2.heap.objs.size (Obj.mapSeq fun a => a.push z) } := I9.pins_of fun p hp => by
          have e := List.mem_singleton.mp hp
          subst e
          exact ⟨e9, pD.2.1, hDC, hDfr, fun v => by intro z; cases z⟩
        have t9 : tn (i + 1) (s8.heap.update s2.heap.objs.size (Obj.mapSeq fun a => a.push z)) := T.keep _ _ _ t8 fun b hb o e => by
          rw [other b (by rintro rfl; exact hDfp hb)]; exact e
        exact ⟨m', hm, i + 1, ys ++ [yv], its ++ [z], k', some y, H8, I10, rv.append (.cons r8 .nil), t9, f8, w8⟩
  exact codeAny_compStart_list (loop _ rfl) (T.self X.A 0 _ _ _ (T.keep _ _ _ st2 fun b _ o e => old b o e) (loop _ rfl))


/-- [e for x in it if c], as a value -/
theorem pe_comp {iter elt : Expr} {ifs : List Expr} {px pos : Pos} {wi : TI} {tt : TT} {te : TE} (hc : X.calm = true) (hN : X.N.Nodup) (S : CScope X.N N' x sc X.env.scope) (hi : PI X (.Name x px) iter wi)
    (ht : ∀ C s2 H2 fp, PIfs (blk X N' x sc C s2 H2 fp) ifs tt) (he : ∀ C s2 H2 fp, PE (blk X N' x sc C s2 H2 fp) elt te) (hs : ∀ v, foldedSetIterable iter X.env v = pure v := by intro _; rfl) :
    PE X (.ListComp elt [⟨.Name x px, iter, ifs, 0⟩] sc pos) (tComp wi tt te) := by
  intro pins s σ H Q I h
  have hclos : closureFor sc X.env = pure (closOf sc.names X.env.cells []) := closure_eq fun y hy hk => I.ok.has _ (S.free y hy hk)
  rw [eval_ListComp]
  refine wpAny_comprehension_free (use := none) rfl hs hclos S.kind S.names (thn (hi pins s σ H _ I h) fun v s1 h1 => thn h1 fun itv s2 h2 => ?_)
  obtain ⟨it, fp, tn, J, H2, e, I2, T, st2, f2, W, w0, turn⟩ := h2
  subst e
  refine comp_core (RR := fun acc C => compPost (model X.prog X.w) X.A X.xe none (EP X pins σ Q) acc C) hc hN S ht he I2 T st2 f2 W w0 turn fun D C s' H' I' fC hn q => ?_
  obtain ⟨m, hn⟩ := hn
  refine ⟨m, hn, fun h' hs' => ⟨.ref D, H', ?_, rfl, q⟩⟩
  exact I'.turned (t' := s'.toks) (fun b o hb e => (hs'.2 b hb).trans e) fC.1 fC.2.1 fC.2.2.2.1 fC.2.2.2.2.1 fC.2.2.2.2.2

/-- y = [e for x in it if c] -/
theorem ps_setC {i : Nat} {y : Str} {py spos : Pos} {iter elt : Expr} {ifs : List Expr} {px pos : Pos} {wi : TI} {tt : TT} {te : TE} (hc : X.calm = true) (hN : X.N.Nodup) (hyi : X.N[i]? = some y) (hy : X.env.scope.names.lookup y = some .local)
    (S : CScope X.N N' x sc X.env.scope) (hi : PI X (.Name x px) iter wi)
    (ht : ∀ C s2 H2 fp, PIfs (blk X N' x sc C s2 H2 fp) ifs tt) (he : ∀ C s2 H2 fp, PE (blk X N' x sc C s2 H2 fp) elt te) (hs : ∀ v, foldedSetIterable iter X.env v = pure v := by intro _; rfl)
    (hsw : swapsWith (.ListComp elt [⟨.Name x px, iter, ifs, 0⟩] sc pos) (some (.Name y py)) spos.line X.env = pure true := by rfl) :
    PS X (.Assign [.Name y py] (.ListComp elt [⟨.Name x px, iter, ifs, 0⟩] sc pos) spos) (tAsg (tComp wi tt te) (gName i)) := by
  intro pins s σ H D I h
  have hclos : closureFor sc X.env = pure (closOf sc.names X.env.cells []) := closure_eq fun y hy hk => I.ok.has _ (S.free y hy hk)
  rw [exec_Assign_Name_used _ _ _ _ hsw]
  refine wpAny_bind (wpAny_standAt (wpAny_bind ?_))
  show wpAny _ X.A (do let _ ← comprehension (.ListComp elt [⟨.Name x px, iter, ifs, 0⟩] sc pos) sc X.env _ (newList []) false (eval iter X.env) (some (assign (.Name y py) X.env))) _ _ s
  refine wpAny_bind (wpAny_mono (wpAny_comprehension_free (use := some (assign (.Name y py) X.env)) (Q := fun _ s' => SP X pins D .next s') rfl hs hclos S.kind S.names
    (thn (hi pins s σ H _ I h) fun v s1 h1 => thn h1 fun itv s2 h2 => ?_)) (fun _ s' hq => wpAny_pure (wpAny_pure hq)) fun _ _ e => e)
  obtain ⟨it, fp, tn, J, H2, e, I2, T, st2, f2, W, w0, turn⟩ := h2
  subst e
  refine comp_core (RR := fun acc C => compPost (model X.prog X.w) X.A X.xe (some (assign (.Name y py) X.env)) (fun _ s' => SP X pins D .next s') acc C) hc hN S ht he I2 T st2 f2 W w0 turn fun Da C s' H' I' fC hn q => ?_
  obtain ⟨m, hn⟩ := hn
  show wpAny _ X.A (assign (.Name y py) X.env (.ref Da)) _ _ _
  refine wpAny_assign_Name (store_ok2 I' hN hyi (Or.inl hy) (v := .ref Da) rfl (fun s'' I'' ⟨a, hsb, ha⟩ => ?_) (Or.inr hy))
  have hCa : C ≠ a := by
    rintro rfl
    rcases ha with z | z
    · exact fC.2.1 z
    · exact fC.2.2.2.2.1 _ _ z rfl
  refine ⟨m, hn.sameBut hsb hCa, fun h' hs' => ⟨_, H', ?_, q⟩⟩
  exact I''.turned (t' := s''.toks) (fun b o hb e => (hs'.2 b hb).trans e) fC.1 fC.2.1 fC.2.2.2.1 fC.2.2.2.2.1 fC.2.2.2.2.2
end
end L2

namespace L2
open PySem PySem.Spec PyProof.Rows

/-! ### exceptions -/
/-- an exception's object in flight: young, untracked, apart; its traceback is none yet, or rests -/
noncomputable def XObj (ap : Addr → Prop) (H : Hp) (h : Heap) (e : Addr) (cls : Value) : Prop :=
  H e = none ∧ ap e ∧ ∃ oe vs, h.get? e = some oe ∧ oe.cls = cls ∧ oe.data = .fields vs ∧ 1 < vs.size ∧ vs[2]? = some .none ∧
    (vs[1]? = some .none ∨ ∃ T oT ts, vs[1]? = some (.ref T) ∧ T ≠ e ∧ H T = none ∧ ap T ∧ h.get? T = some oT ∧ oT.data = .fields ts ∧ ts[3]? = some .none)
theorem XObj.weak {ap ap' : Addr → Prop} {H : Hp} {h : Heap} {e : Addr} {cls : Value} (x : XObj ap H h e cls) (ha : ∀ b, ap b → ap' b) : XObj ap' H h e cls := by
  obtain ⟨x2, x3, oe, vs, x4, x5, x6, x7, x9, x8⟩ := x
  refine ⟨x2, ha e x3, oe, vs, x4, x5, x6, x7, x9, ?_⟩
  rcases x8 with z | ⟨T, oT, ts, z1, z3, z4, z5, z6⟩
  · exact .inl z
  · exact .inr ⟨T, oT, ts, z1, z3, z4, ha T z5, z6⟩
theorem ObjOk.there {P : Program} {w : World} {H : Hp} {h : Heap} {a : Addr} {o : HO} (x : ObjOk P w H h a o) : ∃ ob, h.get? a = some ob := by
  cases o with
  | lst xs => obtain ⟨_, _, _, _, e⟩ := x; exact ⟨_, e⟩
  | tup xs => obtain ⟨_, _, _, ⟨o, e, _⟩⟩ := x; exact ⟨_, e⟩
  | dK kvs => obtain ⟨_, _, _, _, o, _, _, e, _⟩ := x; exact ⟨_, e⟩
  | dT kvs => obtain ⟨_, _, _, _, o, _, _, e, _⟩ := x; exact ⟨_, e⟩
  | set S n => obtain ⟨o, _, _, _, e, _⟩ := x; exact ⟨_, e⟩
  | ins C dx fs => obtain ⟨_, _, _, e, _⟩ := x; exact ⟨_, e⟩
  | own y => exact x
  | xd fs => obtain ⟨_, ⟨_, _, _, e, _⟩, _⟩ := x; exact ⟨_, e⟩
  | rng lo hi => obtain ⟨_, _, _, e⟩ := x; exact ⟨_, e⟩
  | frz ob u => obtain ⟨e, _⟩ := x; exact ⟨_, e⟩
  | tbl ps => exact ⟨_, x⟩
  | met f y => exact ⟨_, x⟩
  | ext φ => obtain ⟨_, e, _⟩ := x; exact e

section
variable {M : Model} {A : Around} {E : Value → Shared → Prop} {s : Shared}
/-- a new entry of the traceback: all is kept but e, and the frames' slots -/
theorem entry_X {base : Heap} {env : Env} {outer : List Env} {L e : Addr} {oe : Obj} {vs : Array Value} {head : Value} {hadNext : Bool} {Q : Unit → Shared → Prop}
    (hfr : A.frames = some (env :: outer)) (hl : s.heap.FunFrames base (env :: outer)) (hf : env.frame = some L) (he : s.heap.get? e = some oe) (hd : oe.data = .fields vs) (hsz : 1 < vs.size)
    (h : ∀ h' T oT ts, (∀ b o, b ≠ e → b ∉ frs (env :: outer) → s.heap.get? b = some o → h'.get? b = some o) → (∀ b o, b ≠ e → s.heap.get? b = some o → ∃ sl, h'.get? b = some { o with slots := sl }) →
      h'.get? e = some (oe.mapFields (·.setIfInBounds 1 (.ref T))) → s.heap.objs.size ≤ T → h'.get? T = some oT → oT.data = .fields ts → ts[3]? = some .none → Q () { s with heap := h' }) :
    wpAny M A (do let a ← frameOf env; let pl ← entryPlaceOf L hadNext; let b ← EntryCells.newEntry head a .none (rawInt L) .none pl; setField (.ref e) 1 b) (fun _ s' => wpAny M A (setFlight (.ref e) none) Q E s') E s := by
  have hene : e ∉ (env :: outer).filterMap (·.frame) := fun hm => by
    obtain ⟨_, o, ho, hnf⟩ := hl.mem hm
    rw [he] at ho; injection ho with ho; subst ho; exact hnf vs hd
  refine wpAny_bind (wpAny_frameOf_fun hfr hl hf fun h1 hs1 => ?_)
  refine wpAny_bind (wpAny_entryPlaceOf fun pl hpl => ?_)
  unfold EntryCells.newEntry newFields
  refine wpAny_bind (wpAny_newObj_type ?_ (hpl.sizeOk5 _ _ _ _ _))
  generalize hob : ({ cls := .type "traceback", dict := none, data := .fields ([head, .ref L, .none, rawInt L, .none] ++ (if pl.isEmpty then List.replicate 6 Value.none else pl)).toArray } : Obj) = ob
  have hobd : ob.data = .fields ([head, .ref L, .none, rawInt L, .none] ++ (if pl.isEmpty then List.replicate 6 Value.none else pl)).toArray := by rw [← hob]
  have hobf : ob.isFreed = false := Obj.isFreed_of_fields hobd
  have he1 : h1.get? e = some oe := (hs1.2.1 e hene).trans he
  have he2 := Heap.get?_push_of_some (h := h1) ob he1
  refine wpAny_setField he2 hd hsz ?_
  have hTe : h1.objs.size ≠ e := Nat.ne_of_gt (Heap.lt_size he1)
  have hd3 := Obj.data_mapFields hd (·.setIfInBounds 1 (Value.ref h1.objs.size))
  have he3 := Heap.get?_update_self (Obj.mapFields (·.setIfInBounds 1 (Value.ref h1.objs.size))) he2 (Obj.isFreed_of_fields hd3)
  have hT3 := (Heap.get?_update_other (h1.push ob) (Obj.mapFields (·.setIfInBounds 1 (Value.ref h1.objs.size))) (Ne.symm hTe)).trans (Heap.get?_push_size h1 hobf)
  unfold setFlight
  refine wpAny_bind (wpAny_field he3 hd3 (x := .ref h1.objs.size) (by simp [hsz]) ?_)
  rw [if_pos (show (Value.ref h1.objs.size != Value.none) = true from by simp)]
  have h3sz : 3 < ([head, .ref L, .none, rawInt L, .none] ++ (if pl.isEmpty then List.replicate 6 Value.none else pl)).toArray.size := by
    simp only [List.size_toArray, List.length_append, List.length_cons, List.length_nil]; omega
  refine wpAny_setField hT3 hobd h3sz ?_
  have keep : ∀ b o, b ≠ e → h1.get? b = some o → ((((h1.push ob).update e (Obj.mapFields (·.setIfInBounds 1 (Value.ref h1.objs.size)))).update h1.objs.size
      (Obj.mapFields (·.setIfInBounds 3 ((none : Option Addr).elim Value.none fun f => rawInt f)))).get? b = some o) := fun b o hbe hb => by
    have hbT : h1.objs.size ≠ b := Nat.ne_of_gt (Heap.lt_size hb)
    rw [Heap.get?_update_other _ _ hbT, Heap.get?_update_other _ _ (Ne.symm hbe)]
    exact Heap.get?_push_of_some _ hb
  refine h _ h1.objs.size _ _ (fun b o hbe hbf hb => keep b o hbe ((hs1.2.1 b hbf).trans hb)) (fun b o hbe hb => ?_) ?_ (Nat.le_of_eq hs1.1.symm)
    (Heap.get?_update_self _ hT3 (Obj.isFreed_of_fields (Obj.data_mapFields hobd _))) (Obj.data_mapFields hobd _) ?_
  · obtain ⟨sl, q⟩ := hs1.2.2 b o hb
    exact ⟨sl, keep b _ hbe q⟩
  · rw [Heap.get?_update_other _ _ hTe]; exact he3
  · rw [Array.getElem?_setIfInBounds_self_of_lt h3sz]; rfl

/-- an exception leaves a frame, or is looked at in it -/
theorem leave_X {base : Heap} {env : Env} {outer : List Env} {L e : Addr} {cls : Value} {ap : Addr → Prop} {H : Hp} {Q : Unit → Shared → Prop}
    (hfr : A.frames = some (env :: outer)) (hl : s.heap.FunFrames base (env :: outer)) (hf : env.frame = some L) (x : XObj ap H s.heap e cls) (hfresh : ∀ b, s.heap.objs.size ≤ b → H b = none ∧ ap b)
    (h : ∀ h', (∀ b o, ¬ (H b = none ∧ ap b ∧ ∃ vs, o.data = .fields vs) → b ∉ frs (env :: outer) → s.heap.get? b = some o → h'.get? b = some o) →
      (∀ b o, b ∈ frs (env :: outer) → s.heap.get? b = some o → ∃ sl, h'.get? b = some { o with slots := sl }) → (∀ b o, s.heap.get? b = some o → ∃ o', h'.get? b = some o') → XObj ap H h' e cls → Q () { s with heap := h' }) :
    wpAny M A (noteFrame (.ref e) env) (fun _ s' => wpAny M A (setFlight (.ref e) none) Q E s') E s := by
  obtain ⟨x2, x3, oe, vs, x4, x5, x6, x7, x9, x8⟩ := x
  have frne : ∀ b o vs, s.heap.get? b = some o → o.data = .fields vs → b ∉ frs (env :: outer) := fun b o vs ho hd hb => by
    obtain ⟨_, o', ho', hnf⟩ := hl.mem hb
    rw [ho] at ho'; cases ho'; exact hnf vs hd
  unfold noteFrame
  simp only [hf]
  rcases x8 with z | ⟨T, oT, ts, z1, z3, z4, z5, z6, z7, z8⟩
  · refine wpAny_bind (wpAny_field x4 x6 z ?_)
    rw [if_neg (by decide)]
    refine entry_X hfr hl hf x4 x6 x7 fun h' T oT ts k1 k2 k3 k4 k5 k6 k7 => h h' (fun b o n hb e => ?_) (fun b o hb e => k2 b o (fun q => frne _ _ _ x4 x6 (q ▸ hb)) e) (fun b o q => ?_) ?_
    · refine k1 b o (fun q => n ?_) hb e
      subst q
      rw [x4] at e; cases e
      exact ⟨x2, x3, vs, x6⟩
    · by_cases hb : b = e
      · subst hb; exact ⟨_, k3⟩
      · obtain ⟨sl, q'⟩ := k2 b o hb q; exact ⟨_, q'⟩
    · refine ⟨x2, x3, _, _, k3, (Obj.cls_mapFields _ _).trans x5, Obj.data_mapFields x6 _, by simpa using x7, by rw [Array.getElem?_setIfInBounds_ne (by decide)]; exact x9, .inr ⟨T, oT, ts, by simp [x7], ?_, (hfresh T k4).1, (hfresh T k4).2, k5, k6, k7⟩⟩
      exact Nat.ne_of_gt (Nat.lt_of_lt_of_le (Heap.lt_size x4) k4)
  · refine wpAny_bind (wpAny_field x4 x6 z1 ?_)
    rw [if_pos (show (Value.ref T != Value.none) = true from by simp)]
    refine wpAny_bind (wpAny_field z6 z7 z8 ?_)
    rw [if_neg (show ¬ ((Value.none == rawInt L) = true) from by simp [rawInt])]
    refine wpAny_bind (wpAny_setField z6 z7 (Array.getElem?_eq_some_iff.mp z8).1 ?_)
    have other : ∀ b, b ≠ T → (s.heap.update T (Obj.mapFields (·.setIfInBounds 3 Value.none))).get? b = s.heap.get? b := fun b hb => Heap.get?_update_other _ _ (Ne.symm hb)
    have hTs := Heap.get?_update_self (Obj.mapFields (·.setIfInBounds 3 Value.none)) z6 (Obj.isFreed_of_fields (Obj.data_mapFields z7 _))
    have hTd := Obj.data_mapFields z7 (·.setIfInBounds 3 Value.none)
    have hsz : (s.heap.update T (Obj.mapFields (·.setIfInBounds 3 Value.none))).objs.size = s.heap.objs.size := Heap.size_after_update ..
    refine entry_X (s := { s with heap := s.heap.update T (Obj.mapFields (·.setIfInBounds 3 Value.none)) }) hfr (hl.of_keeps fun b o hb hnf => ⟨o, (other b fun q => hnf ts (by rw [q, z6] at hb; cases hb; exact z7)).trans hb, rfl⟩) hf ((other e (Ne.symm z3)).trans x4) x6 x7
      fun h' T' oT' ts' k1 k2 k3 k4 k5 k6 k7 => h h' (fun b o n hb e => ?_) (fun b o hb q => ?_) (fun b o q => ?_) ?_
    · have hbT : b ≠ T := fun q => n (by subst q; rw [z6] at e; cases e; exact ⟨z4, z5, ts, z7⟩)
      refine k1 b o (fun q => n ?_) hb ((other b hbT).trans e)
      subst q
      rw [x4] at e; cases e
      exact ⟨x2, x3, vs, x6⟩
    · have hbT : b ≠ T := fun q' => frne _ _ _ z6 z7 (q' ▸ hb)
      exact k2 b o (fun q' => frne _ _ _ x4 x6 (q' ▸ hb)) ((other b hbT).trans q)
    · by_cases hb : b = e
      · subst hb; exact ⟨_, k3⟩
      · by_cases hbT : b = T
        · subst hbT
          obtain ⟨sl, q'⟩ := k2 b _ hb hTs; exact ⟨_, q'⟩
        · obtain ⟨sl, q'⟩ := k2 b o hb ((other b hbT).trans q); exact ⟨_, q'⟩
    · have k4' : s.heap.objs.size ≤ T' := by rw [← hsz]; exact k4
      refine ⟨x2, x3, _, _, k3, (Obj.cls_mapFields _ _).trans x5, Obj.data_mapFields x6 _, by simpa using x7, by rw [Array.getElem?_setIfInBounds_ne (by decide)]; exact x9, .inr ⟨T', oT', ts', by simp [x7], ?_, (hfresh T' k4').1, (hfresh T' k4').2, k5, k6, k7⟩⟩
      exact Nat.ne_of_gt (Nat.lt_of_lt_of_le (Heap.lt_size x4) k4')
end
end L2

namespace L2
open PySem PySem.Spec PyProof.Rows

noncomputable abbrev XS := Value → Option Addr → St → Hp → Prop
noncomputable def apart (X : Cx) (pins : List (Addr × Obj)) (b : Addr) : Prop := X.s₀.heap.get? b = none ∧ ∀ p ∈ X.pn ++ pins, p.1 ≠ b
/-- an exception raised here, of which E holds, is what this body wants -/
noncomputable def Rs (X : Cx) (E : XS) : Prop := ∀ (pins : List (Addr × Obj)) (σ : St) (H : Hp) (s : Shared) (e : Addr) (cls : Value), Inv X pins σ H s → XObj (apart X pins) H s.heap e cls → E cls none σ H → X.xe (.ref e) s
/-- how an exception lies behind a call -/
noncomputable def CX1 (P : Program) (w : World) : CXT := fun outer H s E e s' => ∃ a cls H', e = .ref a ∧ s'.os = s.os ∧ AllBare s'.gens ∧ Un (frs outer) [] H H' s.heap s'.heap ∧ HOk P w H' s'.heap ∧ XObj (fun b => s.heap.get? b = none) H' s'.heap a cls ∧ E cls none H'

section
variable {X : Cx} {pins : List (Addr × Obj)} {σ : St} {H H' : Hp} {s s' : Shared} {h' : Heap} {e : Addr} {cls : Value}
theorem Inv.young (I : Inv X pins σ H s) : ∀ b, s.heap.objs.size ≤ b → H b = none ∧ apart X pins b := fun b hb => ⟨I.hok.fresh hb, Heap.get?_none_of_le (Nat.le_trans I.sz hb), fun p hp z => absurd (Nat.lt_of_lt_of_le (Heap.lt_size (I.pin p hp).1) (by rw [z]; exact hb)) (Nat.lt_irrefl _)⟩


/-- as Inv.step, the records at ch not being there at the entry -/
theorem Inv.stepN {g' : Array GenState} {t' : Nat} {d' : Drawn} {ch : List Addr} (I : Inv X pins σ H s)
    (hch : ∀ b ∈ ch, (b ∈ X.ex ∨ X.s₀.heap.get? b = none) ∧ b ≠ X.env.locals ∧ (∀ x c, X.env.cells.lookup x = some c → c ≠ b) ∧ ∀ p ∈ X.pn ++ pins, p.1 ≠ b)
    (keep : ∀ b o, b ≠ X.env.locals → b ∉ X.fs → b ∉ ch → s.heap.get? b = some o → H b = none → h'.get? b = some o)
    (slot : ∀ b o, b ≠ X.env.locals → b ∈ X.fs → b ∉ ch → s.heap.get? b = some o → H b = none → ∃ sl, h'.get? b = some { o with slots := sl }) (free : ∀ b o, b ∉ ch → s.heap.get? b = some o → H b = none → H' b = none)
    (there : ∀ b o, b ∉ ch → s.heap.get? b = some o → ∃ o', h'.get? b = some o')
    (tups : ∀ b xs, H b = some (.tup xs) → H' b = some (.tup xs)) (frzs : ∀ b o u, H b = some (.frz o u) → H' b = some (.frz o u)) (tbls : ∀ b ps, H b = some (.tbl ps) → ∃ more, H' b = some (.tbl (ps ++ more)))
    (ns : ∀ m, s.heap.Ns X.env.locals m → h'.Ns X.env.locals m) (hok : HOk X.prog X.w H' h') (hg : AllBare g') :
    Inv X pins σ H' { s with heap := h', gens := g', drawn := d', toks := t' } := by
  have neL : ∀ b o, X.s₀.heap.get? b = some o → b ≠ X.env.locals := fun b o e => Nat.ne_of_lt (Nat.lt_of_lt_of_le (Heap.lt_size e) I.ok.above)
  have neC : ∀ b o, X.s₀.heap.get? b = some o → b ∉ X.ex → b ∉ ch := fun b o e hx hb => by
    rcases (hch b hb).1 with z | z
    · exact hx z
    · rw [z] at e; cases e
  have cellK : ∀ x c, X.env.cells.lookup x = some c → ∀ v, s.heap.IsCell c v → h'.IsCell c v := fun x c e v ⟨o, ho, hd⟩ => by
    have nch : c ∉ ch := fun z => (hch c z).2.2.1 x c e rfl
    by_cases hc : c ∈ X.fs
    · obtain ⟨sl, q⟩ := slot c o (I.cne x c e) hc nch ho (I.freeC x c e)
      exact ⟨_, q, hd⟩
    · exact ⟨o, keep c o (I.cne x c e) hc nch ho (I.freeC x c e), hd⟩
  have bs : Un X.fs X.ex X.H₀ H' X.s₀.heap h' := by
    refine ⟨fun b o e n hb hx => ?_, fun b o e n hb hx => ?_, fun b o e n hx => ?_, fun b o e hx => ?_, fun b xs e => tups b xs (I.base.tups b xs e), fun b o xs e => frzs b o xs (I.base.frzs b o xs e), fun b ps e => ?_⟩
    · exact keep b o (neL b o e) hb (neC b o e hx) (I.base.keep b o e n hb hx) (I.base.free b o e n hx)
    · obtain ⟨sl, e1⟩ := I.base.slot b o e n hb hx
      exact (slot b _ (neL b o e) hb (neC b o e hx) e1 (I.base.free b o e n hx)).elim fun sl' e2 => ⟨sl', e2⟩
    · obtain ⟨o', e1⟩ := I.base.there b o e hx
      exact free b o' (neC b o e hx) e1 (I.base.free b o e n hx)
    · obtain ⟨o', e1⟩ := I.base.there b o e hx
      exact there b o' (neC b o e hx) e1
    · obtain ⟨m1, e1⟩ := I.base.tbls b ps e
      obtain ⟨m2, e2⟩ := tbls b _ e1
      exact ⟨m1 ++ m2, by rw [e2, Array.append_assoc]⟩
  refine ⟨I.ok, I.os, hg, bs, ?_, fun x c e => ?_, ?_, fun x c e => ?_, fun p hp => ?_, hok, I.len⟩
  · obtain ⟨m, hn, hl⟩ := I.loc
    refine ⟨m, ns m hn, fun i x v e1 e2 e3 => ?_⟩
    obtain ⟨u, r, l⟩ := hl i x v e1 e2 e3
    refine ⟨u, r, ?_⟩
    rcases l with l | ⟨k, c, e, z⟩
    · exact .inl l
    · exact .inr ⟨k, c, e, cellK x c e _ z⟩
  · obtain ⟨v, z⟩ := I.cell x c e
    exact ⟨v, cellK x c e v z⟩
  · obtain ⟨m, ⟨o, _, _, ho, _⟩, _⟩ := I.loc
    exact free _ o (fun z => (hch _ z).2.1 rfl) ho I.free
  · obtain ⟨v, o, ho, hd⟩ := I.cell x c e
    exact free c o (fun z => (hch c z).2.2.1 x c e rfl) ho (I.freeC x c e)
  · obtain ⟨e, n, ne, nf, d⟩ := I.pin p hp
    have nch : p.1 ∉ ch := fun z => (hch p.1 z).2.2.2 p hp rfl
    exact ⟨keep p.1 p.2 ne nf nch e n, free p.1 p.2 nch e n, ne, nf, d⟩

theorem rs_call {E : XS} {v : Value} (R : Rs X E) (hex : X.ex = []) (I : Inv X pins σ H s) (h : CX1 X.prog X.w X.stack H s (fun c od H' => E c od σ H') v s') : X.xe v s' := by
  obtain ⟨a, cls, H', rfl, os, bare, un, hok, x, q⟩ := h
  have I' : Inv X pins σ H' s' := I.call' (ch := []) os un hok bare (fun b z => absurd z (by simp))
  refine R pins σ H' s' a cls I' (x.weak fun b hb => ⟨?_, fun p hp z => ?_⟩) q
  · cases g : X.s₀.heap.get? b with
    | none => rfl
    | some o =>
      obtain ⟨o', e⟩ := I.base.there b o g (by rw [hex]; simp)
      rw [hb] at e; cases e
  · have e := (I.pin p hp).1
    rw [z, hb] at e; cases e

/-- what stays when an exception passes the frames -/
theorem HOk.passed (I : Inv X pins σ H s) (k1 : ∀ b o, ¬ (H b = none ∧ apart X pins b ∧ ∃ vs, o.data = .fields vs) → b ∉ frs X.stack → s.heap.get? b = some o → h'.get? b = some o) : HOk X.prog X.w H h' := fun a o q => by
  refine (I.hok a o q).stay (fun b u hb e => k1 b u ?_ (fun z => ?_) e) (fun _ z => z) fun _ _ z => z
  · rintro ⟨n, _⟩
    rcases hb with rfl | hb
    · rw [q] at n; cases n
    · rw [hb] at n; cases n
  · have n := I.stkFree b z
    rcases hb with rfl | hb
    · rw [q] at n; cases n
    · rw [hb] at n; cases n

theorem rs_fn {P : Program} {w : World} {K : PySem.W.Frag} {mg : Str → Option Value} {base : Heap} {N : List Str} {qual : Str} {scope : Scope} {f : Addr} {cd : Value} {A : Around} {outer : List Env} {s0 : Shared} {H0 : Hp} {E : XK} :
    Rs (cxOf (CX1 P w) P w K mg base N qual scope f cd A outer s0 H0 E) (fun c od _ H' => E c od H') := by
  intro pins σ H s e cls I x q
  show wpAny _ _ (leaving _ (.ref e)) _ _ s
  unfold leaving
  refine wpAny_bind (leave_X (L := s0.heap.objs.size) I.ok.frames I.stack rfl x I.young fun h' k1 k2 k3 x' => ?_)
  refine ⟨e, cls, H, rfl, I.os, I.bare, ⟨fun b o e1 n hb hx => ?_, fun b o e1 n hb hx => ?_, I.base.free, fun b o e1 hx => ?_, I.base.tups, I.base.frzs, I.base.tbls⟩, HOk.passed I k1, x'.weak fun b hb => hb.1, q⟩
  · refine k1 b o (fun z => by have q0 := z.2.1.1; exact absurd (q0.symm.trans (show s0.heap.get? b = some o from e1)) (by simp)) (fun z => ?_) (I.base.keep b o e1 n hb hx)
    rcases List.mem_cons.mp (I.stkSub b z) with y | y
    · exact absurd (Nat.lt_of_lt_of_le (Heap.lt_size e1) (by rw [y]; exact I.ok.above)) (Nat.lt_irrefl _)
    · exact hb y
  · obtain ⟨sl, e2⟩ := I.base.slot b o e1 n hb hx
    obtain ⟨sl', e3⟩ := k2 b _ (List.mem_cons_of_mem _ hb) e2
    exact ⟨sl', e3⟩
  · obtain ⟨o', e2⟩ := I.base.there b o e1 hx
    exact k3 b o' e2

/-- .. and the body goes on (a handler) -/
theorem Inv.passed (I : Inv X pins σ H s) (hfr : X.stack = X.env :: X.outer ∧ X.env.frame = some X.env.locals)
    (k1 : ∀ b o, ¬ (H b = none ∧ apart X pins b ∧ ∃ vs, o.data = .fields vs) → b ∉ frs X.stack → s.heap.get? b = some o → h'.get? b = some o)
    (k2 : ∀ b o, b ∈ frs X.stack → s.heap.get? b = some o → ∃ sl, h'.get? b = some { o with slots := sl }) (k3 : ∀ b o, s.heap.get? b = some o → ∃ o', h'.get? b = some o') {t' : Nat} : Inv X pins σ H { s with heap := h', toks := t' } := by
  classical
  have inL : ∀ b, b = X.env.locals ∨ b ∈ X.fs → b ∈ frs X.stack := fun b hb => by
    rw [hfr.1]; unfold frs; rw [List.filterMap_cons, hfr.2]
    exact List.mem_cons.mpr hb
  let ch : List Addr := (List.range s.heap.objs.size).filter fun b => decide (H b = none ∧ apart X pins b ∧ ∃ o vs, s.heap.get? b = some o ∧ o.data = .fields vs)
  have inch : ∀ b o, b ∉ ch → s.heap.get? b = some o → ¬ (H b = none ∧ apart X pins b ∧ ∃ vs, o.data = .fields vs) := fun b o hb e z =>
    hb (List.mem_filter.mpr ⟨List.mem_range.mpr (Heap.lt_size e), decide_eq_true ⟨z.1, z.2.1, o, z.2.2.choose, e, z.2.2.choose_spec⟩⟩)
  have ofch : ∀ b ∈ ch, H b = none ∧ apart X pins b ∧ ∃ o vs, s.heap.get? b = some o ∧ o.data = .fields vs := fun b hb => of_decide_eq_true (List.mem_filter.mp hb).2
  have fdata : ∀ b ∈ ch, ∀ o, s.heap.get? b = some o → ∃ vs, o.data = .fields vs := fun b hb o e => by
    obtain ⟨_, _, o', vs, e', d⟩ := ofch b hb
    rw [e] at e'; cases e'; exact ⟨vs, d⟩
  refine I.stepN (g' := s.gens) (d' := s.drawn) (ch := ch) (fun b hb => ?_) (fun b o hL hb hc e n => ?_) (fun b o hL hb hc e n => ?_) (fun b o hc e n => n) (fun b o hc e => k3 b o e) (fun _ _ e => e) (fun _ _ _ e => e) (fun b ps e => ⟨#[], by rw [e]; simp⟩) (fun m hm => ?_) (HOk.passed I k1) I.bare
  · obtain ⟨z2, z3, o, vs, e, d⟩ := ofch b hb
    refine ⟨.inr z3.1, fun z => ?_, fun x c hc z => ?_, z3.2⟩
    · obtain ⟨m, ⟨o', es, ep, ho', hd', _⟩, _⟩ := I.loc
      rw [z, ho'] at e; cases e; rw [hd'] at d; cases d
    · obtain ⟨v, o', ho', hd'⟩ := I.cell x c hc
      rw [z, e] at ho'; cases ho'; rw [hd'] at d; cases d
  · refine k1 b o (inch b o hc e) (fun z => ?_) e
    rcases List.mem_cons.mp (I.stkSub b z) with y | y
    · exact hL y
    · exact hb y
  · exact k2 b o (inL b (.inr hb)) e
  · obtain ⟨o, es, ep, ho, r⟩ := hm
    obtain ⟨sl, e⟩ := k2 _ o (inL _ (.inl rfl)) ho
    exact ⟨_, es, ep, e, r⟩

/-- the flight ends -/
theorem land_X {M : Model} {A : Around} {E : Value → Shared → Prop} {ap : Addr → Prop} {Q : Unit → Shared → Prop} (x : XObj ap H s.heap e cls)
    (h : ∀ h', (∀ b o, ¬ (H b = none ∧ ap b ∧ ∃ vs, o.data = .fields vs) → s.heap.get? b = some o → h'.get? b = some o) → (∀ b o, s.heap.get? b = some o → ∃ sl, (¬ ∃ vs, o.data = .fields vs) → h'.get? b = some { o with slots := sl }) →
      (∀ b o, s.heap.get? b = some o → ∃ o', h'.get? b = some o') → XObj ap H h' e cls → Q () { s with heap := h' }) : wpAny M A (setFlight (.ref e) none) Q E s := by
  have x' := x
  obtain ⟨x2, x3, oe, vs, x4, x5, x6, x7, x9, x8⟩ := x
  unfold setFlight
  rcases x8 with z | ⟨T, oT, ts, z1, z3, z4, z5, z6, z7, z8⟩
  · refine wpAny_bind (wpAny_field x4 x6 z ?_)
    rw [if_neg (by decide)]
    exact wpAny_pure (h s.heap (fun _ _ _ q => q) (fun b o q => ⟨o.slots, fun _ => q⟩) (fun b o q => ⟨o, q⟩) x')
  · refine wpAny_bind (wpAny_field x4 x6 z1 ?_)
    rw [if_pos (show (Value.ref T != Value.none) = true from by simp)]
    have h3 : 3 < ts.size := (Array.getElem?_eq_some_iff.mp z8).1
    refine wpAny_setField z6 z7 h3 ?_
    have other : ∀ b, b ≠ T → (s.heap.update T (Obj.mapFields (·.setIfInBounds 3 ((none : Option Addr).elim Value.none fun f => rawInt f)))).get? b = s.heap.get? b := fun b hb => Heap.get?_update_other _ _ (Ne.symm hb)
    have hTs := Heap.get?_update_self (Obj.mapFields (·.setIfInBounds 3 ((none : Option Addr).elim Value.none fun f => rawInt f))) z6 (Obj.isFreed_of_fields (Obj.data_mapFields z7 _))
    refine h _ (fun b o n q => (other b fun y => n ?_).trans q) (fun b o q => ⟨o.slots, fun n => (other b fun y => n ?_).trans q⟩) (fun b o q => ?_) ?_
    · subst y; rw [z6] at q; cases q; exact ⟨z4, z5, ts, z7⟩
    · subst y; rw [z6] at q; cases q; exact ⟨ts, z7⟩
    · by_cases hb : b = T
      · subst hb; exact ⟨_, hTs⟩
      · exact ⟨o, (other b hb).trans q⟩
    · exact ⟨x2, x3, oe, vs, (other e (Ne.symm z3)).trans x4, x5, x6, x7, x9, .inr ⟨T, _, _, z1, z3, z4, z5, hTs, Obj.data_mapFields z7 _, by rw [Array.getElem?_setIfInBounds_self_of_lt h3]; rfl⟩⟩
end

/-! ### calls of a def that may raise -/
noncomputable def tCallX (sp : Sp) (dvs : List V) (E : XS) (t : TA) : TE := fun σ H Q => t σ H fun vs H1 => sp (vs ++ dvs) H1 Q (fun c od H' => E c od σ H')
section
variable {X : Cx} {k : Nat} {f C : Addr} {fd : FuncData} {ps : List Str} {sp : Sp} {dvs : List V} {ds : List Value} {E : XS} {x m : Str} {p pos apos : Pos} {e o : Expr} {es : List Expr} {ta : TE} {t : TA}
theorem run_fnX {pins : List (Addr × Obj)} {σ : St} {H : Hp} {s : Shared} {Q : VK} {us : List Value} {vs : List V} (F : FnOk X.prog X.w X.K X.mg X.base (CX1 X.prog X.w) k f fd ps sp) (hr : Room k X.A) (hb : Binds X.K fd ps ds) (hd : Vals dvs ds) (hx : Rs X E) (hex : X.ex = [])
    (I : Inv X pins σ H s) (r : Vals vs us) (h : sp (vs ++ dvs) H Q (fun c od H' => E c od σ H')) : wpAny (model X.prog X.w) X.A (call (.ref f) us) (EP X pins σ Q) X.xe s := by
  have r2 : Vals (vs ++ dvs) (us ++ ds) := r.append hd
  have hl : (us ++ ds).length = ps.length := by rw [← r2.length]; exact F.len _ _ _ _ h
  refine wpAny_call (codeAny_mono (F.run X.A X.stack s H ⟨us, []⟩ (us ++ ds) (vs ++ dvs) Q _ hr I.env0 (hb s us I.kIn hl) r2 h) fun r s' hq => ?_)
  cases r with
  | error v => exact rs_call hx hex I hq
  | ok fl =>
    cases fl with
    | ret u => exact I.after hq
    | next => exact False.elim hq
    | brk => exact False.elim hq
    | cont => exact False.elim hq
theorem pe_callX (F : FnOk X.prog X.w X.K X.mg X.base (CX1 X.prog X.w) k f fd ps sp) (hr : Room k X.A) (hg : Gl X x) (hm : X.mg x = some (.ref f)) (hk : PySem.W.keepIn X.K (.ref f) = true) (hb : Binds X.K fd ps ds) (hd : Vals dvs ds) (hx : Rs X E) (hex : X.ex = [])
    (ha : PA X (e :: es) t) (hdb : (x == ("__debug__" : Str)) = false := by decide) (he : starEach (e :: es) X.env = (false, eval e X.env) :: starEach es X.env := by rfl) (hpl : (backTo pos (starEach es X.env)).any (·.1) = false := by rfl) :
    PE X (.Call (.Name x p) (e :: es) [] pos) (tCallX sp dvs E t) := by
  intro pins s σ H Q I h
  refine wpAny_Call_Name_kw (ld_glob I hg hm ?_ hdb)
  refine PySem.W.callWith_K (h₀ := X.base) I.ok.mod.kin hk (thn (ha pos pins s σ H _ I h) fun us s1 ⟨vs, H1, I1, r, q⟩ => ⟨I1.kIn, ?_⟩) he hpl
  exact run_fnX F hr hb hd hx hex I1 r q
end

/-! ### a def that may raise, by its body -/
section
variable {P : Program} {w : World} {K : PySem.W.Frag} {mg : Str → Option Value} {base : Heap}
theorem Fun.okX {x qual : Str} {st : Stmt} {f : Addr} {fd : FuncData} {N ps : List Str} {k : Nat} {sp : Sp} (F : Fun K x qual st f fd) (S : FnScope N ps (defScope st)) (len : ∀ vs H Q E, sp vs H Q E → vs.length = ps.length)
    (hbody : ∀ (cdv : Value) (A : Around) (outer : List Env) (s : Shared) (H : Hp) (vs : List V) (Q : VK) (E : XK), Room k (A.deeper (envOfC qual (defScope st) s.heap.objs.size f cdv)) → sp vs H Q E →
      Rs (cxOf (CX1 P w) P w K mg base N qual (defScope st) f cdv A outer s H E) (fun c od _ H' => E c od H') →
      ∃ t, PSs (cxOf (CX1 P w) P w K mg base N qual (defScope st) f cdv A outer s H E) (defBody st) t ∧ t { nx := fun _ H' => Q .non H', rt := Q } (start N vs) H) : FnOk P w K mg base (CX1 P w) (k + 1) f fd ps sp := by
  obtain ⟨oc, od, kV, doc, pm, an, cdv, ct, osl, rfl, lk, hcd⟩ := F.ex
  exact fn_of lk hcd S len fun A outer s H vs Q E hr hsp => hbody cdv A outer s H vs Q E hr hsp rs_fn
end
end L2

namespace L2
open PySem PySem.Spec PyProof.Rows

abbrev bmVE : List Value := [.type "ValueError", .type "Exception", .type "BaseException", .type "object"]

/-! ### raise C(..) of an own class without __init__ -/
noncomputable def tRaise (C : Addr) (E : XS) (t : TA) : TS := fun _ σ H => t σ H fun vs H1 => vs.length ≤ sizeLine ∧ E (.ref C) none σ H1
section
variable {X : Cx} {C : Addr} {x : Str} {np cpos pos : Pos} {e : Expr} {es : List Expr} {t : TA} {E : XS}
theorem exc_facts {K : PySem.W.Frag} {h : Heap} {bmB : List Value} {newId : String} (X : K.In h) (q : PySem.W.excIn K C bmB newId = true) :
    ∃ bm N nm qn bs hdct sn sub ab col dd k0 k1 k2 k3 k5 mN, h.get? C = some (excClassObj nm qn C N bs bm hdct sn sub ab col dd k0 k1 k2 k3 k5 newId) ∧ h.Ns N mN ∧ mN "__init__" = none ∧ OwnTail h bmB bm := by
  unfold PySem.W.excIn at q
  split at q
  · rename_i dd cd sl ho
    split at q
    · rename_i C' bm k0 k1 k2 k3 n k5 hm hs
      simp only [Bool.and_eq_true, beq_iff_eq, Bool.not_eq_true'] at q
      obtain ⟨⟨⟨⟨⟨rfl, rfl⟩, hdel⟩, ht⟩, hok⟩, hni⟩ := q
      obtain ⟨nm, bs, mro, ns, qn, hd, sn, sub, ab, col, del⟩ := cd
      dsimp only at hm hdel hok hni
      subst hm hdel
      have hsl : sl = #[k0, k1, k2, k3, some (.builtin n), k5] := by
        obtain ⟨l⟩ := sl
        simp only at hs
        rw [hs]
      subst hsl
      exact ⟨bm, ns, nm, qn, bs, hd, sn, sub, ab, col, dd, k0, k1, k2, k3, k5, _, X _ _ ho, .of_isNs (PySem.W.isNs_of_in X hok), PySem.W.nsMap_none_of_in X hok hni, PySem.W.tail_of_in X ht⟩
    · cases q
  · cases q

/-- a new object is apart -/
theorem Inv.newApart {pins : List (Addr × Obj)} {σ : St} {H : Hp} {s : Shared} (I : Inv X pins σ H s) (hex : X.ex = []) {b : Addr} (hb : s.heap.get? b = none) : H b = none ∧ apart X pins b := by
  refine ⟨?_, ?_, fun p hp z => ?_⟩
  · cases hH : H b with
    | none => rfl
    | some o =>
      obtain ⟨ob, e⟩ := (I.hok b o hH).there
      rw [hb] at e; cases e
  · cases g : X.s₀.heap.get? b with
    | none => rfl
    | some o =>
      obtain ⟨o', e⟩ := I.base.there b o g (by rw [hex]; simp)
      rw [hb] at e; cases e
  · have e := (I.pin p hp).1
    rw [z, hb] at e; cases e

theorem ps_raise (hc : X.calm = true) (hex : X.ex = []) (hg : Gl X x) (hm : X.mg x = some (.ref C)) (q : PySem.W.excIn X.K C bmVE "ValueError.__new__" = true) (R : Rs X E) (ha : PA X (e :: es) t)
    (hdb : (x == ("__debug__" : Str)) = false := by decide) (he : starEach (e :: es) X.env = (false, eval e X.env) :: starEach es X.env := by rfl) (hpl : (backTo cpos (starEach es X.env)).any (·.1) = false := by rfl) :
    PS X (.Raise (some (.Call (.Name x np) (e :: es) [] cpos)) none pos) (tRaise C E t) := by
  intro pins s σ H D I h
  obtain ⟨tl, N, nm, qn, bs, hdct, sn, sub, ab, col, dd, k0, k1, k2, k3, k5, mN, hC, hN, hni, T⟩ := exc_facts I.ok.mod.kin q
  refine wpAny_Raise_call_subU (C := C) (nm := nm) (q := qn) (N := N) (bs := bs) (bm := tl) (hdct := hdct) (sn := sn) (sub := sub) (ab := ab) (col := col) (dd := dd) (k0 := k0) (k1 := k1) (k2 := k2) (k3 := k3) (k5 := k5)
    F.excBase_ValueError (by decide +kernel) F.excBase_ValueError (mN := mN) (T.hasType F.excBase_ValueError.hasBase) (I.ok.hd hc) (by rw [he]; show (false || (backTo cpos (starEach es X.env)).any (·.1)) = false; rw [hpl]; rfl) hni (ld_glob I hg hm ⟨rfl, ?_⟩ hdb)
  have ha' := ha cpos pins s σ H _ I h
  rw [he] at ha' ⊢
  refine Calls.evalArgs_plain (thn ha' fun us s1 ⟨vs, H1, I1, r, hz, q⟩ => ?_)
  refine ⟨rfl, by show us.length ≤ sizeLine; rw [← r.length]; exact hz, I1.bk _ _ hC, hN.keeps I1.bk, T.keeps I1.bk, fun h' ea me => ?_⟩
  have I2 : Inv X pins σ H1 { s1 with heap := h' } := I1.kept (t' := s1.toks) me.keeps
  obtain ⟨n1, n2⟩ := I1.newApart hex me.new
  obtain ⟨tt, m1, m2, m3⟩ := me.there
  exact R pins σ H1 _ ea _ I2 ⟨n1, n2, _, _, m1, rfl, rfl, by show 1 < 6; decide, rfl, .inl rfl⟩ q
end

/-! ### try .. except C as n: .. -/
/-- an exception that a handler has -/
noncomputable def excO (a : Addr) (cls : Value) : HO := .ext fun h => ∃ o vs, h.get? a = some o ∧ o.cls = cls ∧ o.data = .fields vs ∧ vs[2]? = some .none
noncomputable def tTry (K : PySem.W.Frag) (C : Addr) (i : Nat) (tb : XS → TS) (th : Addr → TS) : TS := fun D σ H =>
  tb (fun cls _ σ' H' => PySem.W.exmOne K cls (.ref C) = some true ∧ ∀ a, H' a = none → th a { nx := fun σ2 H2 => D.nx (σ2.set i none) H2, rt := D.rt, bk := fun σ2 H2 => D.bk (σ2.set i none) H2, ct := fun σ2 H2 => D.ct (σ2.set i none) H2 } (σ'.set i (some (.ref a))) (upd H' a (excO a cls))) D σ H
/-- the context within a handler's suite -/
noncomputable def hnd (X : Cx) (e : Addr) : Cx := { X with A := X.A.mark (some (.ref e)), calm := false, xe := fun _ _ => False }
section
variable {X : Cx} {pins : List (Addr × Obj)} {σ : St} {H : Hp} {s : Shared}
theorem Inv.hnd (I : Inv X pins σ H s) (e : Addr) : Inv (L2.hnd X e) pins σ H s :=
  ⟨⟨I.ok.mod, I.ok.kind, I.ok.glob, I.ok.blt, I.ok.above, I.ok.inj, I.ok.has, I.ok.cab, fun h => (by cases h), I.ok.frames, I.ok.stk, I.ok.exf, I.ok.bs, I.ok.bsz, I.ok.noex, I.ok.exfs, I.ok.funs, I.ok.frf⟩, I.os, I.bare, I.base, I.loc, I.cell, I.free, I.freeC, I.pin, I.hok, I.len⟩
theorem Inv.unhnd {X0 : Cx} (hok : X0.Ok) {e : Addr} (I : Inv (L2.hnd X0 e) pins σ H s) : Inv X0 pins σ H s := ⟨hok, I.os, I.bare, I.base, I.loc, I.cell, I.free, I.freeC, I.pin, I.hok, I.len⟩
/-- another wish, other pins of every state -/
noncomputable abbrev Cx.pinWish (X : Cx) (pn : List (Addr × Obj)) (E : Value → Shared → Prop) : Cx := { X with pn := pn, xe := E }
theorem Inv.pinWish (I : Inv X pins σ H s) (E : Value → Shared → Prop) : Inv (X.pinWish (X.pn ++ pins) E) [] σ H s :=
  ⟨⟨I.ok.mod, I.ok.kind, I.ok.glob, I.ok.blt, I.ok.above, I.ok.inj, I.ok.has, I.ok.cab, I.ok.hd, I.ok.frames, I.ok.stk, I.ok.exf, I.ok.bs, I.ok.bsz, I.ok.noex, I.ok.exfs, I.ok.funs, I.ok.frf⟩, I.os, I.bare, I.base, I.loc, I.cell, I.free, I.freeC, fun p hp => I.pin p (by simpa using hp), I.hok, I.len⟩
theorem Inv.unpinWish {E : Value → Shared → Prop} {q : List (Addr × Obj)} (ok : X.Ok) (I : Inv (X.pinWish (X.pn ++ pins) E) q σ H s) : Inv X pins σ H s :=
  ⟨ok, I.os, I.bare, I.base, I.loc, I.cell, I.free, I.freeC, fun p hp => I.pin p (List.mem_append_left _ hp), I.hok, I.len⟩

/-- a local name is let go -/
theorem Inv.drop {i : Nat} {n : Str} {h' : Heap} {t' : Nat} {v : Option Value} (I : Inv X pins σ H s) (hN : X.N.Nodup) (hi : X.N[i]? = some n) (hk : X.env.scope.names.lookup n = some .local)
    (hn : ∀ m, s.heap.Ns X.env.locals m → ∃ v, h'.Ns X.env.locals fun x => if x = n then v else m x) (hs : Heap.SameBut X.env.locals s.heap h') : Inv X pins (σ.set i none) H { s with heap := h', toks := t' } := by
  obtain ⟨m, hm, hl⟩ := id I.loc
  obtain ⟨v, hn'⟩ := hn m hm
  have cne := I.cne
  have up : ∀ b o, X.s₀.heap.get? b = some o → b ≠ X.env.locals := fun b o e => Nat.ne_of_lt (Nat.lt_of_lt_of_le (Heap.lt_size e) I.ok.above)
  refine ⟨I.ok, I.os, I.bare, ⟨fun b o e n hb hx => (hs.2 b (up b o e)).trans (I.base.keep b o e n hb hx), fun b o e n hb hx => ?_, I.base.free, fun b o e hx => ?_, I.base.tups, I.base.frzs, I.base.tbls⟩, ⟨_, hn', fun j y v' e1 e2 e3 => ?_⟩, fun y c e => ?_, I.free, I.freeC, fun p hp => ?_, fun b ob e => ?_, by simpa using I.len⟩
  · obtain ⟨sl, e1⟩ := I.base.slot b o e n hb hx
    exact ⟨sl, (hs.2 b (up b o e)).trans e1⟩
  · obtain ⟨o', e1⟩ := I.base.there b o e hx
    exact ⟨o', (hs.2 b (up b o e)).trans e1⟩
  · by_cases hj : j = i
    · subst hj
      rw [List.getElem?_set_self' ] at e2
      cases hq : σ[j]? with
      | none => rw [hq] at e2; cases e2
      | some w' => rw [hq] at e2; cases e2
    · rw [List.getElem?_set_ne (Ne.symm hj)] at e2
      obtain ⟨u', r', q⟩ := hl j y v' e1 e2 e3
      refine ⟨u', r', ?_⟩
      rcases q with ⟨k, e⟩ | ⟨k, c, e, z⟩
      · refine .inl ⟨k, ?_⟩
        have : y ≠ n := fun e => hj (nodup_ix hN e1 (e ▸ hi))
        simp [this, e]
      · exact .inr ⟨k, c, e, z.sameBut hs (cne y c e)⟩
  · obtain ⟨w', z⟩ := I.cell y c e
    exact ⟨w', z.sameBut hs (cne y c e)⟩
  · obtain ⟨e, n, ne, nf, d⟩ := I.pin p hp
    exact ⟨(hs.2 p.1 ne).trans e, n, ne, nf, d⟩
  · refine (I.hok b ob e).stay (fun c w' hc q => (hs.2 c ?_).trans q) (fun _ q => q) fun _ _ q => q
    rintro rfl
    have f := I.free
    rcases hc with rfl | hc
    · rw [f] at e; cases e
    · rw [f] at hc; cases hc

theorem ps_try {C : Addr} {x n : Str} {i : Nat} {np hpos pos : Pos} {body : List Stmt} {b₀ : Stmt} {suite : List Stmt} {tb : XS → TS} {th : Addr → TS} (hex : X.ex = []) (hfr : X.stack = X.env :: X.outer ∧ X.env.frame = some X.env.locals) (hN : X.N.Nodup)
    (hi : X.N[i]? = some n) (hk : X.env.scope.names.lookup n = some .local) (hg : Gl X x) (hm : X.mg x = some (.ref C)) (hb : ∀ pn xe E, Rs (X.pinWish pn xe) E → PSs (X.pinWish pn xe) body (tb E)) (hh : ∀ e, PSs (hnd X e) (b₀ :: suite) (th e))
    (hdb : (x == ("__debug__" : Str)) = false := by decide) : PS X (.Try body [.ExceptHandler (some (.Name x np)) (some n) (b₀ :: suite) hpos] [] [] pos) (tTry X.K C i tb th) := by
  intro pins s σ H D I h
  have ok := I.ok
  have hkc : (X.env.scope.kind == .class || (X.env.scope.kind == .module && X.env.locals != X.env.globals)) = false := by rw [I.ok.kind]; rfl
  -- behind the suite the name goes
  have goes : ∀ {σ2 : St} {H2 : Hp} {s2 : Shared} {Q : Unit → Shared → Prop} {A : Around} {E : Value → Shared → Prop} {e : Addr}, Inv (hnd X e) pins σ2 H2 s2 → (∀ s3, Inv X pins (σ2.set i none) H2 s3 → Q () s3) →
      wpAny (model X.prog X.w) A (do bindName X.env n .none; unbindBehindTheSuite X.env n hpos) Q E s2 := fun {σ2 H2 s2 Q A E e} I2 q => by
    have I2' := I2.unhnd ok
    obtain ⟨m, hnm, _⟩ := I2'.loc
    refine wpAny_nameGoes_keeps hk hnm hkc fun h' v hn' hs' => ?_
    refine q _ (I2'.drop (v := v) hN hi hk (fun m' hm' => ⟨v, ?_⟩) hs')
    obtain ⟨o, es, ep, ho, hd, hkk, hmm⟩ := hn'
    obtain ⟨o1, es1, ep1, ho1, hd1, hk1, hm1⟩ := hnm
    obtain ⟨o2, es2, ep2, ho2, hd2, hk2, hm2⟩ := hm'
    rw [ho1] at ho2; cases ho2
    rw [hd1] at hd2; cases hd2
    exact ⟨o, es, ep, ho, hd, hkk, fun y => by rw [hmm y]; by_cases hy : y = n <;> simp [hy, ← hm1, ← hm2]⟩
  let xe' : Value → Shared → Prop := fun e s₁ => wpAny (model X.prog X.w) X.A (noteFrame e X.env) (fun _ s₂ => wpAny (model X.prog X.w) X.A (setFlight e none) (fun _ s₃ => wpAny (model X.prog X.w) X.A (handleBy e X.env [.ExceptHandler (some (.Name x np)) (some n) (b₀ :: suite) hpos]) (SP X pins D) X.xe s₃) X.xe s₂) X.xe s₁
  have R : Rs (X.pinWish (X.pn ++ pins) xe') (fun cls _ σ' H' => PySem.W.exmOne X.K cls (.ref C) = some true ∧ ∀ a, H' a = none → th a { nx := fun σ2 H2 => D.nx (σ2.set i none) H2, rt := D.rt, bk := fun σ2 H2 => D.bk (σ2.set i none) H2, ct := fun σ2 H2 => D.ct (σ2.set i none) H2 } (σ'.set i (some (.ref a))) (upd H' a (excO a cls))) := by
    intro pins' σ' H' s' e cls I' x' ⟨q1, q2⟩
    show wpAny _ _ _ _ _ s'
    refine leave_X (L := X.env.locals) (env := X.env) (outer := X.outer) (by rw [← hfr.1]; exact I.ok.frames) (by rw [← hfr.1]; exact I'.stack) hfr.2 x' I'.young fun h1 k1 k2 k3 x1 => ?_
    have I1 : Inv (X.pinWish (X.pn ++ pins) xe') pins' σ' H' { s' with heap := h1 } := I'.passed (t' := s'.toks) hfr (fun b o n nb => k1 b o n (by rw [← hfr.1]; exact nb)) (fun b o hb => k2 b o (by rw [← hfr.1]; exact hb)) k3
    have J1 : Inv X pins σ' H' { s' with heap := h1 } := I1.unpinWish ok
    refine wpAny_handleBy_cons (codeAny_handlers_test ?_) (by intro z; cases z)
    refine ld_glob (X := hnd X e) (J1.hnd e) hg hm ?_ hdb
    have LT : PySem.W.Looks (model X.prog X.w) h1 (typeOf (.ref e)) cls := by
      obtain ⟨_, _, oe, _, y4, y5, _⟩ := x1
      exact y5 ▸ (PySem.W.Looks.ld y4).andThen .now
    refine (PySem.W.exm_one (M := model X.prog X.w) J1.kIn LT q1).here ?_
    refine codeAny_handlers_suite_as ?_
    refine land_X x1 fun h2 m1 m2 m3 x2 => ?_
    have I2 : Inv (X.pinWish (X.pn ++ pins) xe') pins' σ' H' { s' with heap := h2 } := I1.passed (s := { s' with heap := h1 }) (t' := s'.toks) hfr (fun b o n nb e => m1 b o n e) (fun b o hb e => by
      obtain ⟨sl, z⟩ := m2 b o e
      refine ⟨sl, z ?_⟩
      rintro ⟨vs, hv⟩
      obtain ⟨_, o', ho', hnf⟩ := I1.stack.mem hb
      rw [e] at ho'; cases ho'; exact hnf vs hv) m3
    have J2 : Inv X pins σ' H' { s' with heap := h2 } := I2.unpinWish ok
    -- the exception is tracked
    have new : ObjOk X.prog X.w (upd H' e (excO e cls)) h2 e (excO e cls) := by
      obtain ⟨_, _, oe, vs, y4, y5, y6, _, y7, _⟩ := x2
      exact ⟨⟨oe, vs, y4, y5, y6, y7⟩, ⟨oe, y4⟩, fun ha hb ⟨o, vs, z1, z2, z3, z4⟩ k => ⟨o, vs, k o z1, z2, z3, z4⟩⟩
    have J3 : Inv X pins σ' (upd H' e (excO e cls)) { s' with heap := h2 } := J2.stepN (s := { s' with heap := h2 }) (h' := h2) (g' := s'.gens) (d' := s'.drawn) (t' := s'.toks) (ch := [e]) (fun b hb => ?_) (fun b o _ _ _ q _ => q) (fun b o _ _ _ q _ => ⟨o.slots, q⟩) (fun b o hb q n => ?_)
      (fun b o _ q => ⟨o, q⟩) (fun b xs q => by rw [upd_ne (ne_of_none q x2.1)]; exact q) (fun b o u q => by rw [upd_ne (ne_of_none q x2.1)]; exact q) (fun b ps q => ⟨#[], by rw [upd_ne (ne_of_none q x2.1), q]; simp⟩) (fun m hm => hm) (J2.hok.track x2.1 new) J2.bare
    · refine store_ok (X := hnd X e) (i := i) (J3.hnd e) hN hi (Or.inl hk) (v := .ref e) rfl (fun s4 I4 => ?_) (Or.inr hk)
      refine wpAny_mono (hh e pins s4 _ _ _ I4 (q2 e x2.1)) (fun f s5 q5 => ?_) fun _ _ z => z.elim
      cases f with
      | next => obtain ⟨σ5, H5, I5, q5⟩ := q5; exact goes I5 fun s6 I6 => ⟨_, H5, I6, q5⟩
      | brk => obtain ⟨σ5, H5, I5, q5⟩ := q5; exact goes I5 fun s6 I6 => ⟨_, H5, I6, q5⟩
      | cont => obtain ⟨σ5, H5, I5, q5⟩ := q5; exact goes I5 fun s6 I6 => ⟨_, H5, I6, q5⟩
      | ret u => obtain ⟨v, σ5, H5, I5, r5, q5⟩ := q5; exact goes I5 fun s6 I6 => ⟨v, _, H5, I6, r5, q5⟩
    · have z := List.mem_singleton.mp hb
      subst z
      obtain ⟨y1, y2, oe, vs, y4, y5, y6, _⟩ := x2
      refine ⟨.inr y2.1, fun z => ?_, fun y c hc z => ?_, fun p hp => y2.2 p ?_⟩
      · obtain ⟨m, ⟨o', es, ep, ho', hd', _⟩, _⟩ := J2.loc
        rw [z] at y4
        rw [show h2.get? X.env.locals = some o' from ho'] at y4; cases y4; rw [hd'] at y6; cases y6
      · obtain ⟨v, o', ho', hd'⟩ := J2.cell y c hc
        rw [z] at ho'
        rw [show h2.get? _ = some o' from ho'] at y4; cases y4; rw [hd'] at y6; cases y6
      · exact List.mem_append_left _ hp
    · rw [upd_ne (by intro z; exact hb (by simp [z]))]; exact n
  refine wpAny_Try_except (wpAny_mono (hb (X.pn ++ pins) xe' _ R [] s σ H D (I.pinWish xe') h) (fun f s1 q => ?_) fun _ _ q => q)
  cases f with
  | next => obtain ⟨σ5, H5, I5, q5⟩ := q; exact wpAny_execs_nil ⟨σ5, H5, I5.unpinWish ok, q5⟩
  | brk => obtain ⟨σ5, H5, I5, q5⟩ := q; exact ⟨σ5, H5, I5.unpinWish ok, q5⟩
  | cont => obtain ⟨σ5, H5, I5, q5⟩ := q; exact ⟨σ5, H5, I5.unpinWish ok, q5⟩
  | ret u => obtain ⟨v, σ5, H5, I5, r5, q5⟩ := q; exact ⟨v, σ5, H5, I5.unpinWish ok, r5, q5⟩
end
end L2

namespace L2
open PySem PySem.Spec PyProof.Rows
section
variable {prog : Program} {w : World} {A : Around} {E : Value → Shared → Prop} {h : Heap} {g : Array GenState} {d : Drawn} {t : Nat} {os : OsState} {a C : Addr} {o : Obj} {K : PySem.W.Frag}

/-- what an own exception's class must have, for __class__ -/
structure ExcC (K : PySem.W.Frag) (C : Addr) : Prop where
  ga : PySem.W.findIn K (.ref C) "__getattribute__" = some (some (.builtin "BaseException.__getattribute__"))
  gt : PySem.W.findIn K (.ref C) "__getattr__" = some none
  cl : PySem.W.findIn K (.ref C) "__class__" = some (some (.builtin "object.__class__"))
  be : PySem.W.subIn K (.ref C) (.type "BaseException") = some true
  ob : PySem.W.subIn K (.ref C) (.type "object") = some true
  is : (PySem.W.clsIn K C).isSome = true

theorem xc_get {R : Result → Shared → Prop} (X : K.In h) (c : ExcC K C) (hx : h.get? a = some o) (hc : o.cls = .ref C) (hq : R (.ok (.ret (.ref C))) ⟨h, g, d, t, os⟩) :
    codeAny (model prog w) A (.call (.builtin "getset_descriptor.__get__") ⟨[.builtin "object.__class__", .ref a, .ref C], []⟩) R ⟨h, g, d, t, os⟩ := by
  have hT5 : (⟨h, g, d, t, os⟩ : Shared).TypeIs (.builtin "object.__class__") "getset_descriptor" := F.typeOf_object_class
  have hs : PySem.W.Looks (model prog w) h (isSubtype (.ref C) (.type (".".intercalate ("object.__class__".cutAt '.').dropLast))) true := by
    rw [F.owner_object_class]; exact PySem.W.looks_subIn X c.ob
  refine codeAny_call_builtin F.slot_gs_get.plain F.entry_gs_get (F.slot_gs_get.check _ _ _ _ _ _ _ _ hT5 (F.args_gs_get _ _ _) ?_)
  repeat (any_goals (first | assumption | (with_reducible refine wpAny_loadPart_at hx ?_; rw [hc]) | with_reducible refine hs.at ?_ | wp_step))
  refine ⟨Code.quiet_builtin _ (by decide +kernel), codeAny_builtin F.entry_object_class ?_⟩
  repeat (any_goals (first | assumption | (with_reducible refine wpAny_loadPart_at hx ?_; rw [hc]) | wp_step))

theorem xc_entry {tk : Tok} {Q : Fin → Shared → Prop} (X : K.In h) (c : ExcC K C) (hx : h.get? a = some o) (hc : o.cls = .ref C) (hq : Q (.done (.ret (.ref C))) ⟨h, g, d, t, os⟩) :
    wpAny (model prog w) A (Builtin.«object.__getattribute__» ⟨[.ref a, .str "__class__" tk], []⟩) Q E ⟨h, g, d, t, os⟩ := by
  have hT5 : (⟨h, g, d, t, os⟩ : Shared).TypeIs (.builtin "object.__class__") "getset_descriptor" := F.typeOf_object_class
  have hl : PySem.W.Looks (model prog w) h (typeLookup (.ref C) "__class__") (some (.builtin "object.__class__")) := PySem.W.looks_findIn X c.cl
  have f5 := F.typeOf_object_class
  have f6 := F.slot_gs_get.lookup
  have f7 := F.slot_gs_set.lookup
  repeat (any_goals (first | assumption | (with_reducible refine wpAny_loadPart_at hx ?_; rw [hc]) | with_reducible refine hl.at ?_ | wp_step))
  refine xc_get X c hx hc ?_
  repeat (any_goals (first | assumption | wp_step))

theorem xc_check {M : Model} {nameV : Value} {Q : Unit → Shared → Prop} (X : K.In h) (c : ExcC K C) (hx : h.get? a = some o) (hc : o.cls = .ref C) (hq : Q () ⟨h, g, d, t, os⟩) :
    wpAny M A (checkBuiltinCall "BaseException.__getattribute__" ⟨[.ref a, nameV], []⟩) Q E ⟨h, g, d, t, os⟩ := by
  have hk : builtinKind "BaseException.__getattribute__" = some .slot := by decide +kernel
  have hsplit : splitId "BaseException.__getattribute__" = some ("BaseException", "__getattribute__") := by decide +kernel
  have hs : PySem.W.Looks M h (isSubtype (.ref C) (.type "BaseException")) true := PySem.W.looks_subIn X c.be
  have ha := F.args_bexc_ga (.ref a) nameV
  simp only [checkBuiltinCall, hk, hsplit]
  refine wpAny_bind ?_
  unfold isInstance
  repeat (first | (with_reducible refine wpAny_loadPart_at hx ?_; rw [hc]) | with_reducible refine hs.at ?_ | wp_step)
  exact hq

theorem xc_call {tk : Tok} {R : Result → Shared → Prop} (X : K.In h) (c : ExcC K C) (hx : h.get? a = some o) (hc : o.cls = .ref C) (hq : R (.ok (.ret (.ref C))) ⟨h, g, d, t, os⟩) :
    codeAny (model prog w) A (.call (.builtin "BaseException.__getattribute__") ⟨[.ref a, .str "__class__" tk], []⟩) R ⟨h, g, d, t, os⟩ :=
  codeAny_call_builtin F.attr_ValueError.ga.plain F.entry_bexc_ga (xc_check X c hx hc (xc_entry X c hx hc hq))

theorem xc_by {tk : Tok} {Q : Value → Shared → Prop} (X : K.In h) (c : ExcC K C) (hx : h.get? a = some o) (hc : o.cls = .ref C) (hq : Q (.ref C) ⟨h, g, d, t, os⟩) :
    wpAny (model prog w) A (getAttrBy (.ref a) (.str "__class__" tk) false) Q E ⟨h, g, d, t, os⟩ := by
  have f3 := F.attr_ValueError.ga.bind (.ref a)
  have hx0 : (false && onTheHeap (Value.builtin "BaseException.__getattribute__")) = false := rfl
  have hx2 : (Value.builtin "BaseException.__getattribute__" == Value.builtin "object.__getattribute__") = false := by decide +kernel
  have hx1 : (onTheHeap (Value.ref C) && Value.builtin "BaseException.__getattribute__" == Value.builtin "object.__getattribute__") = false := by rw [hx2]; rfl
  have l1 : PySem.W.Looks (model prog w) h (typeLookup (.ref C) "__getattribute__") (some (.builtin "BaseException.__getattribute__")) := PySem.W.looks_findIn X c.ga
  have l2 : PySem.W.Looks (model prog w) h (typeLookup (.ref C) "__getattr__") none := PySem.W.looks_findIn X c.gt
  repeat (any_goals (first | assumption | (with_reducible refine wpAny_loadPart_at hx ?_; rw [hc]) | with_reducible refine l1.at ?_ | with_reducible refine l2.at ?_ | wp_step))
  refine xc_call X c hx hc ?_
  repeat (any_goals (first | assumption | wp_step))

theorem xc_attr {Q : Option Value → Shared → Prop} (X : K.In h) (c : ExcC K C) (hx : h.get? a = some o) (hc : o.cls = .ref C) (hq : Q (some (.ref C)) ⟨h, g, d, t + 1, os⟩) : wpAny (model prog w) A (getAttr? (.ref a) "__class__") Q E ⟨h, g, d, t, os⟩ := by
  unfold getAttr? getAttrBy?
  repeat (any_goals (first | assumption | with_reducible apply xc_by X c hx hc | wp_step))

theorem kitx_exc (c : ExcC K C) : PySem.W.KitX K (.ref a) (.ref C) (fun h => ∃ o vs, h.get? a = some o ∧ o.cls = .ref C ∧ o.data = .fields vs ∧ vs[2]? = some .none) where
  ty := fun _ _ _ ⟨o, vs, h1, h2, _⟩ => h2 ▸ (PySem.W.Looks.ld h1).andThen .now
  it := fun _ _ X _ => by
    have hcD := c.is
    unfold PySem.W.clsIn at hcD
    split at hcD
    · rename_i c' d' cd' sl' ho
      intro A' Q' E' s' k q
      unfold isType loadHead
      exact wpAny_bind (wpAny_loadPart (k _ _ (X _ _ ho)) (wpAny_pure q))
    · cases hcD
  ne := fun h tp dd its n sl X htp => by
    have hcD := c.is
    refine Bool.eq_false_iff.mpr fun q => ?_
    have e : C = tp := Value.ref.inj (beq_iff_eq.mp q)
    subst e
    unfold PySem.W.clsIn at hcD
    split at hcD
    · rename_i c' d' cd' sl' ho
      have z := (X _ _ ho).symm.trans htp
      cases z
    · cases hcD
  ca := fun {_ _ _ _ _ s} X ⟨o, vs, h1, h2, _⟩ k => by
    obtain ⟨h, g, d, t, os⟩ := s
    exact xc_attr X c h1 h2 k
end
end L2

namespace L2
open PySem PySem.Spec PyProof.Rows
section
variable {X : Cx}

/-! ### isinstance -/
inductive TyX (K : PySem.W.Frag) (H : Hp) : V → Value → Prop where
  | of {x : V} {t : Value} (h : TyOf K H x t) : TyX K H x t
  | exc {a C : Addr} (e : H a = some (excO a (.ref C))) (c : ExcC K C) : TyX K H (.ref a) (.ref C)
noncomputable def clsV : V → Option Value
  | .ref a => some (.ref a)
  | .ty n => some (.type n)
  | _ => none
noncomputable def rIsi (K : PySem.W.Frag) : List V → Hp → VK → Prop := fun xs H Q => ∃ x c t cv b, xs = [x, c] ∧ clsV c = some cv ∧ TyX K H x t ∧ PySem.W.kitOne K t cv = some b ∧ Q (.bl b) H
theorem call_isi : CallR X (.builtin "isinstance") (rIsi X.K) := by
  intro pins s σ H xs us Q I r h
  obtain ⟨x, c, t, cv, b, rfl, rc, ty, kt, q⟩ := h
  obtain ⟨u, w', rfl, ru, rw'⟩ := vals2 r
  have ecv : w' = cv := by
    cases c with
    | ref a => cases rw'; exact Option.some.inj rc
    | ty n => cases rw'; exact Option.some.inj rc
    | non => cases rc
    | bl _ => cases rc
    | int _ => cases rc
    | str _ => cases rc
    | byt _ => cases rc
    | flt _ => cases rc
  subst ecv
  cases ty with
  | of ty => exact isinst_ok I ru ty kt fun tk => ⟨.bl b, H, I.tok tk, rfl, q⟩
  | @exc a C e c =>
    cases (show u = Value.ref a from ru)
    obtain ⟨p, _, _⟩ := (show ObjOk X.prog X.w H s.heap a (excO a (.ref C)) from I.hok a _ e)
    exact PySem.W.kia_one (kitx_exc c) I.kIn p kt (fun z => nomatch z) fun tk => ⟨.bl b, H, I.tok tk, rfl, q⟩

/-! ### == and != of flat lists and tuples -/
noncomputable def eqVs : List V → List V → Bool
  | [], [] => true
  | x :: xs, y :: ys => eqV x y && eqVs xs ys
  | _, _ => false
theorem eqVs_spec : ∀ (xs ys : List V), eqVs xs ys = (xs.length == ys.length && (List.range xs.length).all fun j => match xs[j]?, ys[j]? with | some x, some y => eqV x y | _, _ => true)
  | [], [] => rfl
  | [], _ :: _ => rfl
  | _ :: _, [] => rfl
  | x :: xs, y :: ys => by
    rw [eqVs, eqVs_spec xs ys]
    simp only [List.length_cons, List.range_succ_eq_map, List.all_cons, List.all_map]
    have h1 : (xs.length + 1 == ys.length + 1) = (xs.length == ys.length) := by
      by_cases h : xs.length = ys.length
      · simp [h]
      · have : ¬ xs.length + 1 = ys.length + 1 := by omega
        simp [h]
    rw [h1]
    simp only [List.getElem?_cons_zero, Function.comp_def, List.getElem?_cons_succ]
    cases eqV x y <;> cases (xs.length == ys.length) <;> simp
noncomputable def rEqSq (K : PySem.W.Frag) (neg : Bool) : R2 := fun x y H Q => ∃ p q xs ys, x = .ref p ∧ y = .ref q ∧ ((SqL K H p xs ∧ SqL K H q ys) ∨ (SqT K H p xs ∧ SqT K H q ys)) ∧ xs.all flatV = true ∧ ys.all flatV = true ∧ Q (.bl (if neg then !eqVs xs ys else eqVs xs ys)) H

/-! ### great numbers -/
noncomputable def CDivB (i j : Int) : Prop := j ≠ 0 ∧ j.natAbs < 2 ^ 4000
theorem log2_small {n : Nat} (h : n < 2 ^ 4000) : n.log2 < 9000 := by
  by_cases hn : n = 0
  · subst hn; decide
  · have := (Nat.log2_lt hn).mpr h
    omega
theorem op_fdivB : OpR X (binaryOp .FloorDiv) (rI CDivB fun i j => .int (i.fdiv j)) := opI fun _ _ _ _ _ _ _ hc q => floordiv_int hc.1 q (.inl (PyProof.noPylong_of_log2 (log2_small hc.2)))
noncomputable def CMulB (i j : Int) : Prop := i.natAbs < 2 ^ 4000 ∧ j.natAbs < 2 ^ 4000
theorem op_mulB : OpR X (binaryOp .Mult) (rI CMulB fun i j => .int (i * j)) := opI fun _ _ _ _ _ _ _ hc q => mul_int q (IntMulOk.of_le (PySem.intBits_le_iff.mpr hc.1) (PySem.intBits_le_iff.mpr hc.2) (by decide))
end
end L2

namespace L2
open PySem PySem.Spec PyProof.Rows

/-! ### a def of the text, and what it promises, in short -/
structure Def (K : PySem.W.Frag) (mg : Str → Option Value) (x : Str) (st : Stmt) (ps : List Str) : Prop where
  ex : ∃ (f : Addr) (fd : FuncData), Fun K x x st f fd ∧ mg x = some (.ref f) ∧ Binds K fd ps []
structure Cal (P : Program) (w : World) (K : PySem.W.Frag) (mg : Str → Option Value) (base : Heap) (CX : CXT) (k : Nat) (x : Str) (ps : List Str) (sp : Sp) : Prop where
  ex : ∃ (f : Addr) (fd : FuncData), FnOk P w K mg base CX k f fd ps sp ∧ mg x = some (.ref f) ∧ PySem.W.keepIn K (.ref f) = true ∧ Binds K fd ps []
section
variable {P : Program} {w : World} {K : PySem.W.Frag} {mg : Str → Option Value} {base : Heap} {x : Str} {st : Stmt} {ps N : List Str} {sp : Sp} {k : Nat}
theorem Def.ok (D : Def K mg x st ps) (S : FnScope N ps (defScope st)) (len : ∀ vs H Q E, sp vs H Q E → vs.length = ps.length)
    (hbody : ∀ (f : Addr) (cdv : Value) (A : Around) (outer : List Env) (s : Shared) (H : Hp) (vs : List V) (Q : VK) (E : XK), Room k (A.deeper (envOfC x (defScope st) s.heap.objs.size f cdv)) → sp vs H Q E →
      ∃ t, PSs (cxOf CX0 P w K mg base N x (defScope st) f cdv A outer s H E).nox (defBody st) t ∧ t { nx := fun _ H' => Q .non H', rt := Q } (start N vs) H) : Cal P w K mg base CX0 (k + 1) x ps sp := by
  obtain ⟨f, fd, F, hm, hb⟩ := D.ex
  exact ⟨f, fd, F.ok S len (fun cdv A outer s H vs Q E hr h => hbody f cdv A outer s H vs Q E hr h), hm, F.kp, hb⟩
theorem Def.okX (D : Def K mg x st ps) (S : FnScope N ps (defScope st)) (len : ∀ vs H Q E, sp vs H Q E → vs.length = ps.length)
    (hbody : ∀ (f : Addr) (cdv : Value) (A : Around) (outer : List Env) (s : Shared) (H : Hp) (vs : List V) (Q : VK) (E : XK), Room k (A.deeper (envOfC x (defScope st) s.heap.objs.size f cdv)) → sp vs H Q E →
      Rs (cxOf (CX1 P w) P w K mg base N x (defScope st) f cdv A outer s H E) (fun c od _ H' => E c od H') →
      ∃ t, PSs (cxOf (CX1 P w) P w K mg base N x (defScope st) f cdv A outer s H E) (defBody st) t ∧ t { nx := fun _ H' => Q .non H', rt := Q } (start N vs) H) : Cal P w K mg base (CX1 P w) (k + 1) x ps sp := by
  obtain ⟨f, fd, F, hm, hb⟩ := D.ex
  exact ⟨f, fd, F.okX S len (fun cdv A outer s H vs Q E hr h R => hbody f cdv A outer s H vs Q E hr h R), hm, F.kp, hb⟩
theorem Cal.imp {CX : CXT} {sp' : Sp} (C : Cal P w K mg base CX k x ps sp) (h : ∀ vs H Q E, sp' vs H Q E → sp vs H Q E) : Cal P w K mg base CX k x ps sp' := by
  obtain ⟨f, fd, F, r⟩ := C.ex
  exact ⟨f, fd, F.imp h, r⟩
theorem def_mk {h : Heap} {f : Addr} {oc : Value} {od an : Option Addr} {osl : Array (Option Value)} {kV doc pm cdv ct : Value} (X : K.In h) (G : h.Ns mainGlobals mg) (a : PySem.W.nsIn K mainGlobals x = some (some (.ref f)))
    (l : K.lookup f = some ⟨oc, od, .func (PySem.W.fnOf x x (defArgs st) (defBody st) (defScope st) .none kV doc pm an cdv ct), osl⟩) (c : PySem.W.codeIn K cdv x = true) (kp : PySem.W.keepIn K (.ref f) = true)
    (hb : ∀ (kV doc pm : Value) (an : Option Addr) (cdv ct : Value) (us : List Value), us.length = ps.length → bindArgs (PySem.W.fnOf x x (defArgs st) (defBody st) (defScope st) .none kV doc pm an cdv ct) ⟨us, []⟩ = pure (ps.zip us)) : Def K mg x st ps := by
  have F := fun_mk (st := st) l c kp
  exact ⟨f, _, F, PySem.W.mg_of X G a, F.binds hb⟩
end
section
variable {X : Cx} {k : Nat} {x : Str} {ps : List Str} {sp : Sp} {p pos : Pos} {e : Expr} {es : List Expr} {t : TA}
/-- f(..) of a def that raises nothing -/
theorem pe_cal (C : Cal X.prog X.w X.K X.mg X.base CX0 k x ps sp) (hr : Room k X.A) (ha : PA X (e :: es) t) (hg : Gl X x := by rfl) (hdb : (x == ("__debug__" : Str)) = false := by decide)
    (he : starEach (e :: es) X.env = (false, eval e X.env) :: starEach es X.env := by rfl) (hpl : (backTo pos (starEach es X.env)).any (·.1) = false := by rfl) :
    PE X (.Call (.Name x p) (e :: es) [] pos) (tCall sp [] E0 t) := by
  obtain ⟨f, fd, F, hm, kp, hb⟩ := C.ex
  exact pe_call F hr hg hm kp hb .nil pass0 ha hdb he hpl
theorem pe_calX {E : XS} (C : Cal X.prog X.w X.K X.mg X.base (CX1 X.prog X.w) k x ps sp) (hr : Room k X.A) (R : Rs X E) (ha : PA X (e :: es) t) (hex : X.ex = [] := by rfl) (hg : Gl X x := by rfl) (hdb : (x == ("__debug__" : Str)) = false := by decide)
    (he : starEach (e :: es) X.env = (false, eval e X.env) :: starEach es X.env := by rfl) (hpl : (backTo pos (starEach es X.env)).any (·.1) = false := by rfl) :
    PE X (.Call (.Name x p) (e :: es) [] pos) (tCallX sp [] E t) := by
  obtain ⟨f, fd, F, hm, kp, hb⟩ := C.ex
  exact pe_callX F hr hg hm kp hb .nil R hex ha hdb he hpl
end
/-- the room within a body's frame, for a call -/
theorem Room.sub {j k : Nat} {A : Around} (r : Room k A) (h : j ≤ k := by decide) : Room j A := r.mono h

/-! ### heaps that only grow -/
theorem Same.new {H : Hp} {p : Addr} {o : HO} (h : H p = none) : Same H (upd H p o) := fun b u e => by rw [upd_ne (ne_of_none e h)]; exact e
theorem Same.upd {H H' : Hp} {p : Addr} {o : HO} (s : Same H H') (h : H p = none) : Same H (L2.upd H' p o) := fun b u e => by rw [upd_ne (ne_of_none e h)]; exact s b u e
theorem Same.tup {K : PySem.W.Frag} {H H' : Hp} {a : Addr} {xs : List V} (e : Same H H') (h : SqT K H a xs) : SqT K H' a xs := by
  rcases h with (h | ⟨o, h⟩) | h
  · exact .inl (.inl (e _ _ h))
  · exact .inl (.inr ⟨o, e _ _ h⟩)
  · exact .inr h
/-- a list of ints -/
noncomputable abbrev zV (ns : List Int) : List V := ns.map V.int
theorem zs_at {ns : List Int} {i : Nat} {n : Int} (h : ns[i]? = some n) : atI (zV ns) (i : Int) = some (.int n) := atI_nat (by rw [List.getElem?_map, h]; rfl)

/-! ### comprehensions that only make new things -/
/-- over a range, no test -/
theorem comp_range {n : Nat} {te : TE} {σ : St} {H : Hp} {Q : VK} (f : Nat → V) (hz : n ≤ sizeLine)
    (he : ∀ i H' Q', i < n → Same H H' → (∀ H'', Same H' H'' → Q' (f i) H'') → te (some (.int (0 + (i : Int))) :: σ) H' Q')
    (hd : ∀ p H', Same H H' → H p = none → H' p = some (.lst ((List.range n).map f)) → Q (.ref p) H') : ∃ W, (∃ m, W 0 m [] H) ∧ CompW (Itr 0 n) tYes te σ Q W := by
  refine ⟨fun i m ys H' => m = n - i ∧ i ≤ n ∧ ys = (List.range i).map f ∧ Same H H', ⟨n, by simp, Nat.zero_le _, by simp, .refl H⟩, ?_⟩
  rintro i m ys H' ⟨rfl, hi, rfl, s⟩
  by_cases hlt : i < n
  · refine .inr ⟨hlt, by rw [List.length_map, List.length_range]; omega, fun x H2 y => ?_⟩
    obtain ⟨e, y⟩ := y
    subst e y
    simp only [tYes, if_true]
    refine he i _ _ hlt s fun H'' s' => ⟨n - (i + 1), by omega, rfl, hlt, ?_, s.trans s'⟩
    rw [List.range_succ]; simp
  · have e : i = n := by omega
    subst e
    refine .inl ⟨Nat.le_refl _, by rw [List.length_map, List.length_range]; omega, fun p hp => hd p _ (s.upd (s.free hp)) (s.free hp) ?_⟩
    rw [upd_same]
theorem comp_rangeF {n : Nat} {tt : TT} {te : TE} {σ : St} {H : Hp} {Q : VK} (c : Nat → Bool) (f : Nat → V) (hz : n ≤ sizeLine)
    (ht : ∀ i H' Q', i < n → Same H H' → (∀ H'', Same H' H'' → Q' (c i) H'') → tt (some (.int (0 + (i : Int))) :: σ) H' Q')
    (he : ∀ i H' Q', i < n → c i = true → Same H H' → (∀ H'', Same H' H'' → Q' (f i) H'') → te (some (.int (0 + (i : Int))) :: σ) H' Q')
    (hd : ∀ p H', Same H H' → H p = none → H' p = some (.lst (((List.range n).filter c).map f)) → Q (.ref p) H') : ∃ W, (∃ m, W 0 m [] H) ∧ CompW (Itr 0 n) tt te σ Q W := by
  refine ⟨fun i m ys H' => m = n - i ∧ i ≤ n ∧ ys = ((List.range i).filter c).map f ∧ Same H H', ⟨n, by simp, Nat.zero_le _, by simp, .refl H⟩, ?_⟩
  rintro i m ys H' ⟨rfl, hi, rfl, s⟩
  have hlen : (((List.range i).filter c).map f).length ≤ i := by
    rw [List.length_map]; exact Nat.le_trans (List.length_filter_le _ _) (by rw [List.length_range]; omega)
  by_cases hlt : i < n
  · refine .inr ⟨hlt, by omega, fun x H2 y => ?_⟩
    obtain ⟨e, y⟩ := y
    subst e y
    refine ht i _ _ hlt s fun H3 s3 => ?_
    cases hc : c i with
    | true =>
      rw [if_pos rfl]
      refine he i _ _ hlt hc (s.trans s3) fun H'' s' => ⟨n - (i + 1), by omega, rfl, hlt, ?_, (s.trans s3).trans s'⟩
      rw [List.range_succ]; simp [hc]
    | false =>
      rw [if_neg (by decide)]
      refine ⟨n - (i + 1), by omega, rfl, hlt, ?_, s.trans s3⟩
      rw [List.range_succ]; simp [hc]
  · have e : i = n := by omega
    subst e
    refine .inl ⟨Nat.le_refl _, by omega, fun p hp => hd p _ (s.upd (s.free hp)) (s.free hp) ?_⟩
    rw [upd_same]
end L2

namespace L2
open PySem PySem.Spec PyProof.Rows

theorem bt_len : bootBuiltins "len" = some (.builtin "len") := by decide +kernel
theorem bt_isinstance : bootBuiltins "isinstance" = some (.builtin "isinstance") := by decide +kernel
theorem bt_int : bootBuiltins "int" = some (.type "int") := by decide +kernel
theorem bt_bool : bootBuiltins "bool" = some (.type "bool") := by decide +kernel
theorem bt_str : bootBuiltins "str" = some (.type "str") := by decide +kernel
theorem bt_list : bootBuiltins "list" = some (.type "list") := by decide +kernel
theorem bt_tuple : bootBuiltins "tuple" = some (.type "tuple") := by decide +kernel
theorem bt_ValueError : bootBuiltins "ValueError" = some (.type "ValueError") := by decide +kernel

section
variable {X : Cx} {x : Str} {pos : Pos}
theorem pe_gR {a : Addr} (hm : X.mg x = some (.ref a)) (hg : Gl X x := by rfl) (hd : (x == ("__debug__" : Str)) = false := by decide) : PE X (.Name x pos) (tC (.ref a)) := pe_glob hg hm rfl hd
theorem pe_gI {i : Int} (hm : ∃ t, X.mg x = some (.int i t)) (hg : Gl X x := by rfl) (hd : (x == ("__debug__" : Str)) = false := by decide) : PE X (.Name x pos) (tC (.int i)) := by
  obtain ⟨t, hm⟩ := hm
  exact pe_glob hg hm ⟨_, rfl⟩ hd
theorem pe_bT {T : String} (hm : X.mg x = none) (hv : bootBuiltins x = some (.type T)) (hg : Gl X x := by rfl) (hn : x ≠ "__name__" := by decide) (hd : (x == ("__debug__" : Str)) = false := by decide) : PE X (.Name x pos) (tC (.ty T)) := pe_bltn hg hm hv rfl hn hd

/-! ### any, all of a list; bit_length -/
noncomputable def truV : V → Bool
  | .int i => i != 0
  | .bl b => b
  | _ => false
noncomputable def truAt (ys : List V) (i : Nat) : Bool := match ys[i]? with | some y => truV y | none => false
noncomputable def plainT : V → Bool
  | .int _ => true
  | .bl _ => true
  | _ => false
theorem mt_bit_length : MtR X "int.bit_length" (fun x xs H Q => ∃ i : Int, x = .int i ∧ xs = [] ∧ Q (.int (Builtin.Int.intBits i)) H) := by
  intro pins s σ H x xs v us Q I rx rv h
  obtain ⟨i, rfl, rfl, q⟩ := h
  obtain ⟨t, rfl⟩ := rx
  obtain rfl := rv.zero
  exact PyProof.Rows.call_int_bit_length ⟨.int _, H, I.tok _, ⟨_, rfl⟩, q⟩
end
end L2

namespace L2
open PySem PySem.Spec PyProof.Rows
/-! ### the rules whose readings name the written part, with that part named: for a block's context and a handler's -/
section
variable {X : Cx} {tg : Expr} (K : PySem.W.Frag)
theorem ix_listK (h : X.K = K := by rfl) : IxR X (rIxL K) := h ▸ ix_list
theorem ix_tupK (h : X.K = K := by rfl) : IxR X (rIxT K) := h ▸ ix_tup
theorem call_lenK (h : X.K = K := by rfl) : CallR X (.builtin "len") (fun xs H Q => ∃ p ys, xs = [.ref p] ∧ (SqL K H p ys ∨ SqT K H p ys) ∧ Q (.int ys.length) H) := h ▸ call_len_seq
theorem call_isiK (h : X.K = K := by rfl) : CallR X (.builtin "isinstance") (rIsi K) := h ▸ call_isi
theorem op_inK (h : X.K = K := by rfl) : OpR X (compareOp .In) (rIn K false) := h ▸ op_in_seq
theorem op_notInK (h : X.K = K := by rfl) : OpR X (compareOp .NotIn) (rIn K true) := h ▸ op_notIn_seq
theorem sl_listK (h : X.K = K := by rfl) : SlR X (rSlL K) := h ▸ sl_list
theorem call_listK (h : X.K = K := by rfl) : CallR X (.type "list") (fun xs H Q => ∃ p ys, xs = [.ref p] ∧ (SqL K H p ys ∨ SqT K H p ys) ∧ ∀ l, H l = none → Q (.ref l) (upd H l (.lst ys))) := h ▸ call_list_of
theorem pi_listK {l : Expr} {tl : TE} (hl : PE X l tl) (h : X.K = K := by rfl) : PI X tg l (iList K tl) := h ▸ pi_list hl
end
theorem iteD {c A B : Prop} [Decidable c] (hc : c) (h : A) : if decide c = true then A else B := by rw [decide_eq_true hc]; exact iteT h
theorem iteDN {c A B : Prop} [Decidable c] (hc : ¬ c) (h : B) : if decide c = true then A else B := by rw [decide_eq_false hc]; exact iteF h
theorem iteB {b : Bool} {A B : Prop} (hc : b = true) (h : A) : if b = true then A else B := by rw [hc]; exact iteT h
theorem iteBN {b : Bool} {A B : Prop} (hc : b = false) (h : B) : if b = true then A else B := by rw [hc]; exact iteF h
theorem k_ii (K : PySem.W.Frag) : PySem.W.kitOne K (.type "int") (.type "int") = some true := rfl
theorem k_ib (K : PySem.W.Frag) : PySem.W.kitOne K (.type "int") (.type "bool") = some false := by rfl
theorem line6 : ∀ {n : Nat}, n ≤ 1000 → n ≤ sizeLine := fun h => Nat.le_trans h (by rw [sizeLine_eq]; decide)
end L2
namespace L2
open PySem
/-! ### classes of the text, from what can be looked up -/
structure ClsK (K : PySem.W.Frag) (C : Addr) : Prop where
  cd : ∃ cd, PySem.W.clsIn K C = some cd
  ty : PySem.W.typeIn K (.ref C) = some (.type "type")
theorem kit_of {K : PySem.W.Frag} {a C : Addr} {b : Bool} (s0 : PySem.W.subIn K (.ref a) (.ref a) = some true) (c : ClsK K C) (s : PySem.W.subIn K (.ref a) (.ref C) = some b) : PySem.W.kitOne K (.ref a) (.ref C) = some b := by
  obtain ⟨⟨cd, h1⟩, h2⟩ := c
  unfold PySem.W.kitOne
  by_cases h : a = C
  · subst h
    rw [s0] at s
    rw [if_pos (by simp)]
    exact s
  · rw [if_neg (by simpa using h)]
    unfold PySem.W.kitCls
    simp only [h1, h2]
    rw [if_pos (by rfl)]
    exact s
theorem kit_ty {K : PySem.W.Frag} {a : Addr} {T : String} {b : Bool} (m : PySem.W.kitMeta T = true) (s : PySem.W.subIn K (.ref a) (.type T) = some b) : PySem.W.kitOne K (.ref a) (.type T) = some b := by
  unfold PySem.W.kitOne
  rw [if_neg (by simp)]
  unfold PySem.W.kitCls
  simp only [m, if_true]
  exact s
theorem exm_of {K : PySem.W.Frag} {a C : Addr} {b : Bool} (s0 : PySem.W.subIn K (.ref C) (.type "BaseException") = some true) (c : ClsK K C) (s : PySem.W.subIn K (.ref a) (.ref C) = some b) : PySem.W.exmOne K (.ref a) (.ref C) = some b := by
  obtain ⟨⟨cd, h1⟩, h2⟩ := c
  unfold PySem.W.exmOne
  rw [s0, if_pos (by rfl)]
  unfold PySem.W.kitCls
  simp only [h1, h2]
  rw [if_pos (by rfl)]
  exact s
end L2

namespace L2
open PySem PySem.Spec PyProof.Rows
/-! ### the end of a list's walk within a handler -/
section
variable {prog : Program} {w : World} {A : Around} {E : Value → Shared → Prop} {s : Shared}
end
section
variable {X : Cx} (K : PySem.W.Frag)
end

/-! ### what a text's top has, in common -/
/-- names of Python's own that the text does not bind -/
structure Blt (mg : Str → Option Value) : Prop where
  n_len : mg "len" = none
  n_range : mg "range" = none
  n_abs : mg "abs" = none
  n_any : mg "any" = none
  n_all : mg "all" = none
  n_isinstance : mg "isinstance" = none
  n_int : mg "int" = none
  n_bool : mg "bool" = none
  n_list : mg "list" = none
  n_str : mg "str" = none
  n_tuple : mg "tuple" = none
  n_enumerate : mg "enumerate" = none
  n_ValueError : mg "ValueError" = none
theorem blt_mk {K : PySem.W.Frag} {h : Heap} {mg : Str → Option Value} (X : K.In h) (G : h.Ns mainGlobals mg)
    (z1 : PySem.W.nsIn K mainGlobals "len" = some none) (z2 : PySem.W.nsIn K mainGlobals "range" = some none) (z3 : PySem.W.nsIn K mainGlobals "abs" = some none) (z4 : PySem.W.nsIn K mainGlobals "any" = some none) (z5 : PySem.W.nsIn K mainGlobals "all" = some none)
    (z6 : PySem.W.nsIn K mainGlobals "isinstance" = some none) (z7 : PySem.W.nsIn K mainGlobals "int" = some none) (z8 : PySem.W.nsIn K mainGlobals "bool" = some none) (z9 : PySem.W.nsIn K mainGlobals "list" = some none) (z10 : PySem.W.nsIn K mainGlobals "str" = some none)
    (z11 : PySem.W.nsIn K mainGlobals "tuple" = some none) (z12 : PySem.W.nsIn K mainGlobals "enumerate" = some none) (z13 : PySem.W.nsIn K mainGlobals "ValueError" = some none) : Blt mg :=
  ⟨PySem.W.mg_none_of X G z1, PySem.W.mg_none_of X G z2, PySem.W.mg_none_of X G z3, PySem.W.mg_none_of X G z4, PySem.W.mg_none_of X G z5, PySem.W.mg_none_of X G z6, PySem.W.mg_none_of X G z7, PySem.W.mg_none_of X G z8, PySem.W.mg_none_of X G z9,
    PySem.W.mg_none_of X G z10, PySem.W.mg_none_of X G z11, PySem.W.mg_none_of X G z12, PySem.W.mg_none_of X G z13⟩
/-- a class of the text, by its name -/
structure GCls (K : PySem.W.Frag) (mg : Str → Option Value) (x : Str) (C : Addr) : Prop where
  m : mg x = some (.ref C)
  cl : ClsK K C
theorem gcls_mk {K : PySem.W.Frag} {h : Heap} {mg : Str → Option Value} {x : Str} {C : Addr} {cd : ClassData} (X : K.In h) (G : h.Ns mainGlobals mg) (a : PySem.W.nsIn K mainGlobals x = some (some (.ref C))) (b : PySem.W.clsIn K C = some cd) (c : PySem.W.typeIn K (.ref C) = some (.type "type")) : GCls K mg x C :=
  ⟨PySem.W.mg_of X G a, ⟨_, b⟩, c⟩
/-- an own refusal that is raised -/
structure XCls (K : PySem.W.Frag) (C : Addr) : Prop where
  x : PySem.W.excIn K C bmVE "ValueError.__new__" = true
  c : ExcC K C
  self : PySem.W.subIn K (.ref C) (.ref C) = some true
theorem xcls_mk {K : PySem.W.Frag} {C : Addr} {cd : ClassData} (x : PySem.W.excIn K C bmVE "ValueError.__new__" = true)
    (y1 : PySem.W.findIn K (.ref C) "__getattribute__" = some (some (.builtin "BaseException.__getattribute__"))) (y2 : PySem.W.findIn K (.ref C) "__getattr__" = some none) (y3 : PySem.W.findIn K (.ref C) "__class__" = some (some (.builtin "object.__class__")))
    (y4 : PySem.W.subIn K (.ref C) (.type "BaseException") = some true) (y5 : PySem.W.subIn K (.ref C) (.type "object") = some true) (y6 : PySem.W.clsIn K C = some cd) (y7 : PySem.W.subIn K (.ref C) (.ref C) = some true) : XCls K C :=
  ⟨x, ⟨y1, y2, y3, y4, y5, by rw [y6]; rfl⟩, y7⟩
structure Lens (K : PySem.W.Frag) (mg : Str → Option Value) (aL : Addr) : Prop where
  m : mg "LENGTHS" = some (.ref aL)
  sq : ∀ H, SqT K H aL (zV [2, 4, 8, 16, 32, 64])
end L2
namespace L2
end L2
namespace L2
theorem JoinP {ι : Sort _} {C G : ι → Prop} {A : Prop} (h : (∀ i, C i → G i) → A) (k : ∀ i, C i → G i) : A := h k
end L2

namespace L2
open PySem PySem.Spec PyProof.Rows
/-! ### for i, x in enumerate(list) -/
section
variable {X : Cx} {pins : List (Addr × Obj)} {σ : St} {H : Hp} {s : Shared} {h' : Heap}
/-- two untracked records of ours have turned -/
theorem Inv.turned2 {t' : Nat} {e it : Addr} (I : Inv X pins σ H s) (k : ∀ b o, b ≠ e → b ≠ it → s.heap.get? b = some o → h'.get? b = some o) (fe : FpOk X pins H e) (fi : FpOk X pins H it) : Inv X pins σ H { s with heap := h', toks := t' } := by
  have ne : ∀ b u, H b = some u → b ≠ e ∧ b ≠ it := fun b u q => ⟨fun z => (by rw [z, fe.1] at q; cases q), fun z => (by rw [z, fi.1] at q; cases q)⟩
  refine I.step (g' := s.gens) (d' := s.drawn) (ch := [e, it]) (fun b hb => ?_) (fun b o _ _ hc q _ => k b o (fun z => hc (by simp [z])) (fun z => hc (by simp [z])) q) (fun b o _ _ hc q _ => ⟨o.slots, k b o (fun z => hc (by simp [z])) (fun z => hc (by simp [z])) q⟩) (fun _ _ _ _ n => n)
    (fun b o hc q => ⟨o, k b o (fun z => hc (by simp [z])) (fun z => hc (by simp [z])) q⟩) (fun _ _ q => q) (fun _ _ _ q => q) (fun b ps q => ⟨#[], by rw [q]; simp⟩) (fun m hm => ?_) (fun b u q => ?_) I.bare
  · rcases List.mem_cons.mp hb with rfl | hb
    · exact ⟨fe.2.2.2.1, fe.2.1, fe.2.2.2.2.1, fe.2.2.2.2.2⟩
    · rcases List.mem_cons.mp hb with rfl | hb
      · exact ⟨fi.2.2.2.1, fi.2.1, fi.2.2.2.2.1, fi.2.2.2.2.2⟩
      · cases hb
  · obtain ⟨o, es, ep, ho, r⟩ := hm
    exact ⟨o, es, ep, k _ o (Ne.symm fe.2.1) (Ne.symm fi.2.1) ho, r⟩
  · refine (I.hok b u q).stay (fun c v hc q' => ?_) (fun _ q => q) fun _ _ q => q
    rcases hc with z | z
    · rw [z] at q' ⊢; exact k _ v (ne b u q).1 (ne b u q).2 q'
    · exact k c v (ne c _ z).1 (ne c _ z).2 q'
end
/-- turn i: a new pair of i and the list's i-th item -/
noncomputable def Ite (K : PySem.W.Frag) (a : Addr) : It :=
  ⟨fun i H => ∃ xs x, SqL K H a xs ∧ xs[i]? = some x, fun i H x H' => ∃ p v, H p = none ∧ x = .ref p ∧ H' = upd H p (.tup [.int i, v]) ∧ ∀ xs, SqL K H a xs → xs[i]? = some v, fun i H => ∃ xs, SqL K H a xs ∧ xs.length ≤ i⟩
theorem fpOk_upd {X : Cx} {pins : List (Addr × Obj)} {H : Hp} {b p : Addr} {o : HO} (h : FpOk X pins H b) (hne : b ≠ p) : FpOk X pins (upd H p o) b := ⟨by rw [upd_ne hne]; exact h.1, h.2⟩
theorem turn_enum {P : Program} {w : World} {K : PySem.W.Frag} {es : List Expr} {k : Nat} {pos : Pos} (a e it : Addr) (hei : e ≠ it) : Turn P w K (.Tuple es k pos) (Ite K a) [e, it] e (fun i h => (∃ old, IsEnum h e it i old) ∧ h.IsListIter it a i) where
  mem := by simp
  obj := fun i h st b hb => by
    obtain ⟨⟨old, he⟩, o, e2, c, d⟩ := st
    rcases List.mem_cons.mp hb with rfl | hb
    · exact ⟨_, he, fun v z => by cases z⟩
    · rcases List.mem_cons.mp hb with rfl | hb
      · exact ⟨o, e2, fun v z => by rw [d] at z; cases z⟩
      · cases hb
  keep := fun i h h' st k => by
    obtain ⟨⟨old, he⟩, hit⟩ := st
    exact ⟨⟨old, k e (by simp) _ he⟩, hit.at fun o q => k it (by simp) o q⟩
  item := by
    intro X hP hw hK hc i pins s σ H E I hf st hg
    subst hP hw hK
    obtain ⟨xs, x, hq, hx⟩ := hg
    obtain ⟨its, rv, p, hz⟩ := I.list hq
    obtain ⟨u, hu, ru⟩ := rv.get hx
    obtain ⟨⟨old, he⟩, hit⟩ := st
    have fe := hf e (by simp)
    have fi := hf it (by simp)
    have hle : e < s.heap.objs.size := Heap.lt_size he
    have hli : it < s.heap.objs.size := by obtain ⟨_, q, _⟩ := id hit; exact Heap.lt_size q
    refine wpAny_pyNext_enum_item he hit p.isList (x := u) (by simpa using hu) hei fun h' ho hit' hT hsz hk => ?_
    refine ⟨_, rfl, wpAny_letOwnedTupleGo_enum ho fun h2 he2 hs2 => ?_⟩
    replace hs2 : Heap.SameBut e h' h2 := hs2
    have hn : H s.heap.objs.size = none := I.hok.fresh (Nat.le_refl _)
    have IT : IsTup (s.heap.push { cls := .type "tuple", data := .seq #[.int i s.toks, u] }) s.heap.objs.size [Value.int i s.toks, u].toArray := ⟨_, Heap.get?_push_size s.heap rfl, rfl, 0, rfl⟩
    have I1 : Inv X pins σ (upd H s.heap.objs.size (.tup [.int i, x])) { s with heap := s.heap.push { cls := .type "tuple", data := .seq #[.int i s.toks, u] }, toks := s.toks } :=
      I.laid (fun b o q => Heap.get?_push_of_some _ q) (Nat.le_refl _) ⟨by simp only [List.length_cons, List.length_nil]; rw [sizeLine_eq]; decide, [.int i s.toks, u], .cons ⟨_, rfl⟩ (.cons ru .nil), IT⟩
    have kk : ∀ b o, b ≠ e → b ≠ it → (s.heap.push { cls := .type "tuple", data := .seq #[.int i s.toks, u] }).get? b = some o → h2.get? b = some o := fun b o n1 n2 q => by
      refine (hs2.2 b n1).trans ?_
      rcases Heap.get?_push_cases q with ⟨rfl, rfl⟩ | q
      · exact hT
      · exact hk b o n1 n2 q
    have I2 := I1.turned2 (h' := h2) (e := e) (it := it) (t' := s.toks + 1) kk (fpOk_upd fe (Nat.ne_of_lt hle)) (fpOk_upd fi (Nat.ne_of_lt hli))
    refine ⟨.ref s.heap.objs.size, _, I2, rfl, ⟨_, x, hn, rfl, rfl, fun ys hy => by rw [I.list_inj hy hq]; exact hx⟩, ⟨⟨u, ?_⟩, hit'.at fun o q => (hs2.2 it hei.symm).trans q⟩, fun b hb => ?_⟩
    · have : ((i + 1 : Nat) : Int) = (i : Int) + 1 := by push_cast; rfl
      rw [this]; exact he2
    · rcases List.mem_cons.mp hb with rfl | hb
      · exact (fpOk_upd fe (Nat.ne_of_lt hle)).1
      · rcases List.mem_cons.mp hb with rfl | hb
        · exact (fpOk_upd fi (Nat.ne_of_lt hli)).1
        · cases hb
  done := by
    intro X hP hw hK hc i pins s σ H E I hf st hg
    subst hP hw hK
    obtain ⟨xs, hq, hx⟩ := hg
    obtain ⟨its, rv, p, hz⟩ := I.list hq
    obtain ⟨⟨old, he⟩, hit⟩ := st
    obtain ⟨f0, f1, f2, f3, f4, f5⟩ := hf it (by simp)
    have hl := rv.length
    exact wpAny_pyNext_enum_end (I.ok.hd hc) he hit p.isList (by simp; omega) fun h' eb => ⟨rfl, I.turned (t' := s.toks) (fun b o hb q => eb b o hb q) f0 f1 f3 f4 f5⟩
  self := fun _ _ _ _ _ st h => by
    obtain ⟨⟨old, he⟩, _⟩ := st
    exact wpAny_pyIter_enum he h
section
variable {X : Cx}
noncomputable def iEnum (K : PySem.W.Frag) (ta : TA) : TI := fun σ H R => ta σ H fun vs H1 => ∃ a xs, vs = [.ref a] ∧ SqL K H1 a xs ∧ R (Ite K a) H1
theorem bt_enumerate : bootBuiltins "enumerate" = some (.type "enumerate") := by decide +kernel
theorem pi_enumK (K : PySem.W.Frag) {es : List Expr} {k : Nat} {p' : Pos} {l : Expr} {ta : TA} {p pos : Pos} (hg : Gl X "enumerate") (hm : X.mg "enumerate" = none) (ha : PA X [l] ta) (hs : starEach [l] X.env = [(false, eval l X.env)] := by rfl) (hK : X.K = K := by rfl) :
    PI X (.Tuple es k p') (.Call (.Name "enumerate" p) [l] [] pos) (iEnum K ta) := by
  subst hK
  intro pins s σ H R I h
  refine Call_ (ld_blt I hg hm bt_enumerate (PyProof.Rows.callWith_type1 (thn (ha pos pins s σ H _ I h) fun us s1 ⟨vs, H1, I1, r1, q1⟩ => ?_) hs rfl))
  obtain ⟨a, xs, rfl, hq, q⟩ := q1
  cases r1 with
  | cons r rr =>
    cases rr
    cases r
    obtain ⟨its, rv, pl, hz⟩ := I1.list hq
    refine call_enumerate_list pl.isList fun h' he hit hsz hk => ?_
    refine wpAny_pyIter_enum he ?_
    have hne : s1.heap.objs.size + 1 ≠ s1.heap.objs.size := Nat.succ_ne_self _
    refine ⟨s1.heap.objs.size + 1, [s1.heap.objs.size + 1, s1.heap.objs.size], _, _, H1, rfl, I1.kept (t' := s1.toks) hk, turn_enum a _ _ hne, ⟨⟨_, he⟩, hit⟩, fun b hb => ?_, q⟩
    rcases List.mem_cons.mp hb with rfl | hb
    · exact I1.fpOk (Nat.le_succ _) (I1.hok.fresh (Nat.le_succ _))
    · rcases List.mem_cons.mp hb with rfl | hb
      · exact I1.fpOk (Nat.le_refl _) (I1.hok.fresh (Nat.le_refl _))
      · cases hb
end
/-- over the pairs of a list that the body leaves as it is -/
theorem for_enum {K : PySem.W.Frag} {a : Addr} {xs : List V} {g : TG} {tb : TS} {D : Ends} {σ : St} {H : Hp} (Pv : Nat → St → Hp → Prop) (h0 : Pv 0 σ H) (hl : ∀ i σ H, i ≤ xs.length → Pv i σ H → SqL K H a xs)
    (hs : ∀ i x σ H p, xs[i]? = some x → Pv i σ H → H p = none → g (.ref p) σ (upd H p (.tup [.int i, x])) fun σ2 H2 => tb { D with nx := Pv (i + 1), ct := Pv (i + 1), bk := D.nx } σ2 H2) (hd : ∀ σ H, Pv xs.length σ H → D.nx σ H) :
    ∃ W : Nat → Nat → St → Hp → Prop, (∃ m, W 0 m σ H) ∧ ∀ i m σ H, W i m σ H →
      ((Ite K a).stop i H ∧ D.nx σ H) ∨ ((Ite K a).go i H ∧ ∃ N : St → Hp → Prop, (∀ σ' H', N σ' H' → ∃ m', m' < m ∧ W (i + 1) m' σ' H') ∧ ∀ x H', (Ite K a).yld i H x H' → g x σ H' fun σ2 H2 => tb { D with nx := N, ct := N, bk := D.nx } σ2 H2) := by
  refine ⟨fun i m σ H => m = xs.length - i ∧ i ≤ xs.length ∧ Pv i σ H, ⟨xs.length, by simp, Nat.zero_le _, h0⟩, ?_⟩
  rintro i m σ H ⟨rfl, hi, p⟩
  have q := hl i σ H hi p
  by_cases hlt : i < xs.length
  · refine .inr ⟨⟨xs, xs[i], q, by simp [hlt]⟩, Pv (i + 1), fun σ' H' p' => ⟨xs.length - (i + 1), by omega, rfl, hlt, p'⟩, fun x H' y => ?_⟩
    obtain ⟨pp, v, hn, rfl, rfl, y⟩ := y
    exact hs i v σ _ pp (y xs q) p hn
  · have e : i = xs.length := by omega
    subst e
    exact .inl ⟨⟨xs, q, Nat.le_refl _⟩, hd σ H p⟩
end L2
namespace L2
open PySem
theorem pg_tupK {X : Cx} (K : PySem.W.Frag) {es : List Expr} {k : Nat} {pos : Pos} {t : TGs} {n : Nat} (hc : X.calm = true) (h : PGs X es t)
    (hn : (assignEach es X.env).length = n := by rfl) (hst : (assignEach es X.env).findIdx? (·.1) = none := by rfl) (hK : X.K = K := by rfl) : PG X (.Tuple es k pos) (gTup K n t) := hK ▸ pg_tup hc h hn hst
theorem k_tt (K : PySem.W.Frag) : PySem.W.kitOne K (.type "tuple") (.type "tuple") = some true := rfl
theorem k_ss (K : PySem.W.Frag) : PySem.W.kitOne K (.type "str") (.type "str") = some true := rfl
/-- a tuple of three words among the text's names -/
structure Wrds (K : PySem.W.Frag) (mg : Str → Option Value) (x a b c : Str) (aW : Addr) : Prop where
  m : mg x = some (.ref aW)
  sq : ∀ H, SqT K H aW [.str a, .str b, .str c]
theorem wrds_mk {K : PySem.W.Frag} {h : Heap} {mg : Str → Option Value} {x a b c : Str} {aW : Addr} {od : Option Addr} {sl : Array (Option Value)} {n : Nat} {t1 t2 t3 : Tok} (X : K.In h) (G : h.Ns mainGlobals mg) (g : PySem.W.nsIn K mainGlobals x = some (some (.ref aW)))
    (l : K.lookup aW = some ⟨.type "tuple", od, .seq #[.str a t1, .str b t2, .str c t3] n, sl⟩) : Wrds K mg x a b c aW :=
  ⟨PySem.W.mg_of X G g, fun H => .inr ⟨_, _, n, l, rfl, rfl, line6 (by show 3 ≤ 1000; decide), .cons ⟨_, rfl⟩ (.cons ⟨_, rfl⟩ (.cons ⟨_, rfl⟩ .nil))⟩⟩
end L2

namespace L2
open PySem PySem.Spec PyProof.Rows
/-! ### == and != of lists that hold lists, where they are equal -/
theorem eqV_refl {x : V} (h : flatV x = true) : eqV x x = true := by
  cases x <;> first | rfl | (exact absurd (show false = true from h) Bool.false_ne_true) | simp [eqV]
/-- alike items: flat and the same, or one object -/
inductive Al0 : V → V → Prop where
  | flat {x : V} (h : flatV x = true) : Al0 x x
  | ref (a : Addr) : Al0 (.ref a) (.ref a)
/-- alike items, or two lists of alike items -/
inductive Al1 (K : PySem.W.Frag) (H : Hp) : V → V → Prop where
  | of {x y : V} (h : Al0 x y) : Al1 K H x y
  | lst {p q : Addr} {xs ys : List V} (hne : p ≠ q) (h1 : SqL K H p xs) (h2 : SqL K H q ys) (hl : xs.length = ys.length) (h : ∀ (j : Nat) x y, xs[j]? = some x → ys[j]? = some y → Al0 x y) : Al1 K H (.ref p) (.ref q)
theorem al0_eq {A : Around} {s : Shared} {x y : V} {u v : Value} (h : Al0 x y) (rx : RelV x u) (ry : RelV y v) : SeqAt.EqAt A s u v true := by
  cases h with
  | flat h => have := eqAt_V (A := A) (s := s) rx ry h h; rw [eqV_refl h] at this; exact this
  | ref a => cases rx; cases ry; exact SeqAt.EqAt.same _
theorem als_at {R : V → V → Prop} {S : Value → Value → Prop} {xs ys : List V} {us ws : List Value} (r : Vals xs us) (r' : Vals ys ws) (h : ∀ (j : Nat) x y, xs[j]? = some x → ys[j]? = some y → R x y) (hS : ∀ x y u v, R x y → RelV x u → RelV y v → S u v) :
    ∀ j (h1 : j < us.toArray.size) (h2 : j < ws.toArray.size), S us.toArray[j] ws.toArray[j] := by
  intro j h1 h2
  have l1 := r.length
  have l2 := r'.length
  have h1' : j < us.length := by simpa using h1
  have h2' : j < ws.length := by simpa using h2
  have e1 : xs[j]? = some xs[j] := List.getElem?_eq_getElem (by omega)
  have e2 : ys[j]? = some ys[j] := List.getElem?_eq_getElem (by omega)
  obtain ⟨u, hu, ru⟩ := r.get e1
  obtain ⟨u', hu', ru'⟩ := r'.get e2
  have g1 : us.toArray[j] = u := by
    have := List.getElem?_eq_some_iff.mp hu
    simpa using this.2
  have g2 : ws.toArray[j] = u' := by
    have := List.getElem?_eq_some_iff.mp hu'
    simpa using this.2
  rw [g1, g2]
  exact hS _ _ _ _ (h j _ _ e1 e2) ru ru'
theorem all_tt (n : Nat) : (List.range n).all (fun _ => true) = true := by simp
section
variable {X : Cx}
theorem al1_eq {pins : List (Addr × Obj)} {σ : St} {H : Hp} {s : Shared} {A : Around} {x y : V} {u v : Value} (I : Inv X pins σ H s) (hu : A.units < cLine) (h : Al1 X.K H x y) (rx : RelV x u) (ry : RelV y v) : SeqAt.EqAt A s u v true := by
  cases h with
  | of h => exact al0_eq h rx ry
  | lst hne h1 h2 hl h =>
    cases rx
    cases ry
    obtain ⟨its, r, pl, hz⟩ := I.list h1
    obtain ⟨its', r', pl', hz'⟩ := I.list h2
    have l1 := r.length
    have l2 := r'.length
    have := SeqAt.EqAt.of_refs hne (SeqAt.RcAt.lists (A := A) (e := fun _ => true) pl.isList pl'.isList (by simp; omega) hu (als_at r r' h fun x y u v q ru rv => al0_eq q ru rv))
    rw [all_tt] at this
    exact this
noncomputable def rAlk (K : PySem.W.Frag) (neg : Bool) : R2 := fun x y H Q => ∃ p q xs ys, x = .ref p ∧ y = .ref q ∧ SqL K H p xs ∧ SqL K H q ys ∧ xs.length = ys.length ∧ (∀ (j : Nat) x y, xs[j]? = some x → ys[j]? = some y → Al1 K H x y) ∧ Q (.bl (!neg)) H
end
/-! ### xs[::-1] -/
section
variable {X : Cx} {e : Expr} {te : TE} {pos p1 p2 p3 : Pos} {k : Nat}
noncomputable def tRev (K : PySem.W.Frag) (te : TE) : TE := fun σ H Q => te σ H fun x H1 => ∃ a xs, x = .ref a ∧ SqL K H1 a xs ∧ ∀ p, H1 p = none → Q (.ref p) (upd H1 p (.lst xs.reverse))
theorem vals_rev {xs : List V} {us : List Value} (h : Vals xs us) : Vals xs.reverse us.reverse := by
  induction h with
  | nil => exact .nil
  | cons r _ ih =>
    rw [List.reverse_cons, List.reverse_cons]
    exact ih.append (.cons r .nil)
end
/-! ### a comprehension over a list, by a word of one's own -/
theorem comp_listP {K : PySem.W.Frag} {a : Addr} {xs : List V} {te : TE} {σ : St} {H : Hp} {Q : VK} (Pv : Nat → List V → Hp → Prop) (h0 : Pv 0 [] H) (hl : ∀ i ys H', i ≤ xs.length → Pv i ys H' → SqL K H' a xs ∧ ys.length = i) (hz : xs.length ≤ sizeLine)
    (he : ∀ (i : Nat) x ys H' Q', xs[i]? = some x → Pv i ys H' → (∀ y H4, Pv (i + 1) (ys ++ [y]) H4 → Q' y H4) → te (some x :: σ) H' Q')
    (hd : ∀ ys H' p, Pv xs.length ys H' → H' p = none → Q (.ref p) (upd H' p (.lst ys))) : ∃ W, (∃ m, W 0 m [] H) ∧ CompW (Itl K a) tYes te σ Q W := by
  refine ⟨fun i m ys H' => m = xs.length - i ∧ i ≤ xs.length ∧ Pv i ys H', ⟨xs.length, by simp, Nat.zero_le _, h0⟩, ?_⟩
  rintro i m ys H' ⟨rfl, hi, pv⟩
  obtain ⟨q, hy⟩ := hl i ys H' hi pv
  by_cases hlt : i < xs.length
  · refine .inr ⟨⟨xs, xs[i], q, by simp [hlt]⟩, by omega, fun x H2 y => ?_⟩
    obtain ⟨e, y⟩ := y
    subst e
    have hx := y xs q
    simp only [tYes, if_true]
    exact he i x ys _ _ hx pv fun y H4 q4 => ⟨xs.length - (i + 1), by omega, rfl, hlt, q4⟩
  · have e : i = xs.length := by omega
    subst e
    exact .inl ⟨⟨xs, q, Nat.le_refl _⟩, by omega, fun p hp => hd _ _ p pv hp⟩
end L2
namespace L2
open PySem
theorem Room.units1 {k : Nat} {A : Around} (r : Room k A) : A.units + 1 < cLine := by have := r.un; omega
end L2

namespace L2
open PySem PySem.Spec PyProof.Rows
section
variable {X : Cx}
noncomputable def CPowB (i j : Int) : Prop := 0 ≤ j ∧ j ≤ 8 ∧ i.natAbs < 2 ^ 4000
end
end L2

namespace L2
open PySem PySem.Spec PyProof.Rows
/-! ### comprehensions over ranges and tuples -/
/-- over a range, by a word of one's own -/
theorem comp_rangeP {n : Nat} {te : TE} {σ : St} {H : Hp} {Q : VK} (Pv : Nat → List V → Hp → Prop) (h0 : Pv 0 [] H) (hl : ∀ i ys H', i ≤ n → Pv i ys H' → ys.length = i) (hz : n ≤ sizeLine)
    (he : ∀ (i : Nat) ys H' Q', i < n → Pv i ys H' → (∀ y H4, Pv (i + 1) (ys ++ [y]) H4 → Q' y H4) → te (some (.int (0 + (i : Int))) :: σ) H' Q')
    (hd : ∀ ys H' p, Pv n ys H' → H' p = none → Q (.ref p) (upd H' p (.lst ys))) : ∃ W, (∃ m, W 0 m [] H) ∧ CompW (Itr 0 n) tYes te σ Q W := by
  refine ⟨fun i m ys H' => m = n - i ∧ i ≤ n ∧ Pv i ys H', ⟨n, by simp, Nat.zero_le _, h0⟩, ?_⟩
  rintro i m ys H' ⟨rfl, hi, pv⟩
  have hy := hl i ys H' hi pv
  by_cases hlt : i < n
  · refine .inr ⟨hlt, by omega, fun x H2 y => ?_⟩
    obtain ⟨e, y⟩ := y
    subst e y
    simp only [tYes, if_true]
    exact he i ys _ _ hlt pv fun y H4 q4 => ⟨n - (i + 1), by omega, rfl, hlt, q4⟩
  · have e : i = n := by omega
    subst e
    exact .inl ⟨Nat.le_refl _, by omega, fun p hp => hd _ _ p pv hp⟩
theorem bt_min : bootBuiltins "min" = some (.builtin "min") := by decide +kernel
theorem bt_max : bootBuiltins "max" = some (.builtin "max") := by decide +kernel
theorem bAnd (a b : Nat) : Builtin.bitAnd (a : Int) (b : Int) = ((a &&& b : Nat) : Int) := bitAnd_pp (Int.natCast_nonneg a) (Int.natCast_nonneg b)
end L2
namespace L2
open PySem
end L2
namespace L2
theorem Join0 {G A : Prop} (h : G → A) (k : G) : A := h k
end L2

namespace L2
open PySem PySem.Spec PyProof.Rows
/-! ### a comprehension with two own names -/
/-- what a comprehension's scope must be like: its own name x, the names that it takes from around -/
structure CScope2 (N N' : List Str) (x y : Str) (sc osc : Scope) : Prop where
  kind : sc.kind = .function
  nocell : ∀ y ∈ sc.names, y.2 ≠ .cell
  own : ∀ z ∈ sc.names, z.2 = .local → z.1 = x ∨ z.1 = y ∨ z.1 = ".0"
  has : sc.names.lookup x = some .local
  hasy : sc.names.lookup y = some .local
  ne : x ≠ y
  names : ∀ y ∈ sc.names, y.2 = .local → sc.names.lookup y.1 = some .local
  nox : x ∉ N'
  noy : y ∉ N'
  no0 : (".0" : Str) ∉ N'
  nd : N'.Nodup
  len : N'.length = N.length
  sub : ∀ p ∈ N.zip N', p.1 = p.2 ∨ sc.names.lookup p.2 = none
  free : ∀ y ∈ sc.names, y.2 = .free → osc.names.lookup y.1 = some .cell ∨ osc.names.lookup y.1 = some .free
noncomputable def cs2Ok (N N' : List Str) (x y : Str) (sc osc : Scope) : Bool :=
  decide (sc.kind = .function) && decide (∀ z ∈ sc.names, z.2 ≠ .cell) && decide (∀ z ∈ sc.names, z.2 = .local → z.1 = x ∨ z.1 = y ∨ z.1 = ".0") && decide (sc.names.lookup x = some .local) && decide (sc.names.lookup y = some .local) && decide (x ≠ y) &&
    decide (∀ z ∈ sc.names, z.2 = .local → sc.names.lookup z.1 = some .local) && decide (x ∉ N') && decide (y ∉ N') && decide ((".0" : Str) ∉ N') && decide N'.Nodup && decide (N'.length = N.length) && decide (∀ p ∈ N.zip N', p.1 = p.2 ∨ sc.names.lookup p.2 = none) && decide (∀ z ∈ sc.names, z.2 = .free → osc.names.lookup z.1 = some .cell ∨ osc.names.lookup z.1 = some .free)

noncomputable def blk2 (X : Cx) (N' : List Str) (x y : Str) (sc : Scope) (C : Addr) (s2 : Shared) (H2 : Hp) (fp : List Addr) : Cx :=
  { X with N := x :: y :: N', s₀ := s2, H₀ := H2, env := compEnvC sc (closOf sc.names X.env.cells []) C X.env, outer := X.stack, stack := X.stack, ex := fp, fn := fun _ => false, pn := [], xe := fun _ _ => False }

section
variable {X : Cx} {pins : List (Addr × Obj)} {σ : St} {H H2 : Hp} {s s2 : Shared} {x y : Str} {sc : Scope} {C : Addr} {fp : List Addr} {N' : List Str}



end

noncomputable def CompW2 (K : PySem.W.Frag) (J : It) (tt : TT) (te : TE) (σ : St) (Q : VK) (W : Nat → Nat → List V → Hp → Prop) : Prop := ∀ i m ys H, W i m ys H →
  (J.stop i H ∧ ys.length ≤ sizeLine ∧ ∀ p, H p = none → Q (.ref p) (upd H p (.lst ys))) ∨
  (J.go i H ∧ ys.length < sizeLine ∧ ∀ x H', J.yld i H x H' → ∃ a u v, x = .ref a ∧ SqT K H' a [u, v] ∧ tt (some u :: some v :: σ) H' fun b H3 => if b = true then te (some u :: some v :: σ) H3 fun y H4 => ∃ m', m' < m ∧ W (i + 1) m' (ys ++ [y]) H4 else ∃ m', m' < m ∧ W (i + 1) m' ys H3)
noncomputable def tComp2 (K : PySem.W.Frag) (wi : TI) (tt : TT) (te : TE) : TE := fun σ H Q => wi σ H fun J H1 => ∃ W : Nat → Nat → List V → Hp → Prop, (∃ m, W 0 m [] H1) ∧ CompW2 K J tt te σ Q W
section
variable {X : Cx} {pins : List (Addr × Obj)} {σ : St} {x y : Str} {sc : Scope} {N' : List Str}



end
end L2

namespace L2
open PySem PySem.Spec PyProof.Rows
/-! ### zip of two lists -/
section
variable {X : Cx} {pins : List (Addr × Obj)} {σ : St} {H : Hp} {s : Shared} {h' : Heap}
end
/-- turn i: a new pair of both lists' i-th items -/
noncomputable def Itz (K : PySem.W.Frag) (a b : Addr) : It :=
  ⟨fun i H => ∃ xs x ys y, SqL K H a xs ∧ xs[i]? = some x ∧ SqL K H b ys ∧ ys[i]? = some y, fun i H x H' => ∃ p u v, H p = none ∧ x = .ref p ∧ H' = upd H p (.tup [u, v]) ∧ (∀ xs, SqL K H a xs → xs[i]? = some u) ∧ ∀ ys, SqL K H b ys → ys[i]? = some v,
    fun i H => ∃ xs ys, SqL K H a xs ∧ SqL K H b ys ∧ (xs.length ≤ i ∨ ys.length ≤ i)⟩
section
variable {X : Cx}
noncomputable def iZip (K : PySem.W.Frag) (ta : TA) : TI := fun σ H R => ta σ H fun vs H1 => ∃ a b xs ys, vs = [.ref a, .ref b] ∧ SqL K H1 a xs ∧ SqL K H1 b ys ∧ R (Itz K a b) H1
end
end L2

namespace L2
open PySem PySem.Spec PyProof.Rows
/-! ### a def whose last parameter has the default 0 -/
structure DefD (K : PySem.W.Frag) (mg : Str → Option Value) (x : Str) (st : Stmt) (ps : List Str) : Prop where
  ex : ∃ (f : Addr) (fd : FuncData) (oc : Value) (od : Option Addr) (dV kV doc pm : Value) (an : Option Addr) (cdv ct : Value) (osl : Array (Option Value)),
    fd = PySem.W.fnOf x x (defArgs st) (defBody st) (defScope st) dV kV doc pm an cdv ct ∧ K.lookup f = some ⟨oc, od, .func fd, osl⟩ ∧ PySem.W.codeIn K cdv x = true ∧ PySem.W.keepIn K (.ref f) = true ∧ mg x = some (.ref f) ∧ Binds K fd ps [] ∧ ∃ t, Binds K fd ps [.int 0 t]
structure CalD (P : Program) (w : World) (K : PySem.W.Frag) (mg : Str → Option Value) (base : Heap) (CX : CXT) (k : Nat) (x : Str) (ps : List Str) (sp : Sp) : Prop where
  all : Cal P w K mg base CX k x ps sp
  few : ∃ (f : Addr) (fd : FuncData) (t : Tok), FnOk P w K mg base CX k f fd ps sp ∧ mg x = some (.ref f) ∧ PySem.W.keepIn K (.ref f) = true ∧ Binds K fd ps [.int 0 t]
section
variable {P : Program} {w : World} {K : PySem.W.Frag} {mg : Str → Option Value} {base : Heap} {x : Str} {st : Stmt} {ps N : List Str} {sp : Sp} {k : Nat}
end
section
variable {X : Cx} {k : Nat} {x : Str} {ps : List Str} {sp : Sp} {p pos : Pos} {e : Expr} {es : List Expr} {t : TA}
end
end L2

namespace L2
open PySem PySem.Spec PyProof.Rows
/-! ### != of tuples that hold lists and tuples, where they are equal -/
inductive Al2 (K : PySem.W.Frag) (H : Hp) : V → V → Prop where
  | of {x y : V} (h : Al1 K H x y) : Al2 K H x y
  | tup {p q : Addr} {xs : List V} (hne : p ≠ q) (h1 : SqT K H p xs) (h2 : SqT K H q xs) (h : xs.all flatV = true) : Al2 K H (.ref p) (.ref q)
section
variable {X : Cx}
theorem al2_eq {pins : List (Addr × Obj)} {σ : St} {H : Hp} {s : Shared} {A : Around} {x y : V} {u v : Value} (I : Inv X pins σ H s) (hu : A.units < cLine) (h : Al2 X.K H x y) (rx : RelV x u) (ry : RelV y v) : SeqAt.EqAt A s u v true := by
  cases h with
  | of h => exact al1_eq I hu h rx ry
  | tup hne h1 h2 h =>
    cases rx
    cases ry
    obtain ⟨its, r, pl, hz⟩ := I.tuple h1
    obtain ⟨its', r', pl', hz'⟩ := I.tuple h2
    have l1 := r.length
    have l2 := r'.length
    have := SeqAt.EqAt.of_refs hne (SeqAt.RcAt.tuples (A := A) (e := fun _ => true) pl pl' hu (als_at (R := fun x y => Al0 x y) r r' (fun j x y hx hy => by
      rw [hx] at hy
      cases hy
      exact .flat (List.all_eq_true.mp h _ (List.mem_of_getElem? hx))) fun x y u v q ru rv => al0_eq q ru rv))
    rw [all_tt, Bool.true_and] at this
    have e : (its.toArray.size == its'.toArray.size) = true := by simp; omega
    rw [e] at this
    exact this
noncomputable def rNest (K : PySem.W.Frag) : R2 := fun x y H Q => ∃ p q xs ys, x = .ref p ∧ y = .ref q ∧ SqT K H p xs ∧ SqT K H q ys ∧ xs.length = ys.length ∧ (∀ (j : Nat) x y, xs[j]? = some x → ys[j]? = some y → Al2 K H x y) ∧ Q (.bl false) H
end
end L2

namespace L2
open PySem PySem.Spec PyProof.Rows
/-! ### a def with a default that raises -/
section
variable {P : Program} {w : World} {K : PySem.W.Frag} {mg : Str → Option Value} {base : Heap} {x : Str} {st : Stmt} {ps N : List Str} {sp : Sp} {k : Nat}
end
section
variable {X : Cx} {k : Nat} {x : Str} {ps : List Str} {sp : Sp} {p pos : Pos} {e : Expr} {es : List Expr} {t : TA}
end
end L2

namespace L2
open PySem PySem.Spec PyProof.Rows
/-! ### a list comprehension whose own name is taken by another one within it -/
theorem relabel_kindC {env : Env} : ∀ {names : List (Str × NameKind)} {x : Str} {k : NameKind},
    (names.map fun (n, k) => if (k == NameKind.free && env.scope.kind == .function && env.kindOf n == some .cell) then (n, NameKind.cell) else (n, k)).lookup x = some k →
    names.lookup x = some k ∨ (names.lookup x = some .free ∧ k = .cell)
  | [], _, _, h => by simp at h
  | (n, k') :: r, x, k, h => by
    have ih := @relabel_kindC env r x k
    rw [List.map_cons] at h
    by_cases hcnd : (k' == NameKind.free && env.scope.kind == .function && env.kindOf n == some .cell) = true
    · simp only [hcnd, if_true] at h
      rw [List.lookup_cons] at h ⊢
      cases hx : x == n with
      | true =>
        rw [hx] at h
        have hk' : k' = .free := by
          have := (Bool.and_eq_true_iff.mp (Bool.and_eq_true_iff.mp hcnd).1).1
          simpa using this
        have : NameKind.cell = k := by simpa using h
        exact .inr ⟨by rw [hk'], this.symm⟩
      | false => rw [hx] at h; exact ih h
    · simp only [hcnd] at h
      rw [show (if false = true then (n, NameKind.cell) else (n, k')) = (n, k') from rfl] at h
      rw [List.lookup_cons] at h ⊢
      cases hx : x == n with
      | true => rw [hx] at h; exact .inl h
      | false => rw [hx] at h; exact ih h
structure CScopeC (N N' : List Str) (x : Str) (sc osc : Scope) : Prop where
  kind : sc.kind = .function
  cells : (sc.names.filter fun y => y.2 == .cell) = [(x, .cell)]
  own : ∀ y ∈ sc.names, y.2 = .local → y.1 = ".0"
  has : sc.names.lookup x = some .cell
  names : ∀ y ∈ sc.names, y.2 = .local → sc.names.lookup y.1 = some .local
  nox : x ∉ N'
  no0 : (".0" : Str) ∉ N'
  nd : N'.Nodup
  len : N'.length = N.length
  sub : ∀ p ∈ N.zip N', p.1 = p.2 ∨ sc.names.lookup p.2 = none
  free : ∀ y ∈ sc.names, y.2 = .free → osc.names.lookup y.1 = some .cell ∨ osc.names.lookup y.1 = some .free
noncomputable def csOkC (N N' : List Str) (x : Str) (sc osc : Scope) : Bool :=
  decide (sc.kind = .function) && decide ((sc.names.filter fun y => y.2 == .cell) = [(x, .cell)]) && decide (∀ y ∈ sc.names, y.2 = .local → y.1 = ".0") && decide (sc.names.lookup x = some .cell) &&
    decide (∀ y ∈ sc.names, y.2 = .local → sc.names.lookup y.1 = some .local) && decide (x ∉ N') && decide ((".0" : Str) ∉ N') && decide N'.Nodup && decide (N'.length = N.length) && decide (∀ p ∈ N.zip N', p.1 = p.2 ∨ sc.names.lookup p.2 = none) && decide (∀ y ∈ sc.names, y.2 = .free → osc.names.lookup y.1 = some .cell ∨ osc.names.lookup y.1 = some .free)
noncomputable def blkC (X : Cx) (N' : List Str) (x : Str) (sc : Scope) (C : Addr) (s2 : Shared) (H2 : Hp) (fp : List Addr) : Cx :=
  { X with N := x :: N', s₀ := s2, H₀ := H2, env := compEnvC sc ((x, C + 1) :: closOf sc.names X.env.cells []) C X.env, outer := X.stack, stack := X.stack, ex := fp, fn := fun y => decide (y = x), pn := [], xe := fun _ _ => False }
section
variable {X : Cx} {pins : List (Addr × Obj)} {σ : St} {H H2 : Hp} {s s2 : Shared} {x : Str} {sc : Scope} {C : Addr} {fp : List Addr} {N' : List Str}


end
end L2
namespace L2
open PySem PySem.Spec PyProof.Rows
/-- the scope that a comprehension within another one sees -/
noncomputable def relS (sc osc : Scope) : Scope := { sc with names := sc.names.map fun (n, k) => if (k == .free && osc.kind == .function && osc.names.lookup n == some .cell) then (n, .cell) else (n, k) }
/-! ### == and != of lists that hold tuples, where they are equal -/
section
variable {X : Cx}
noncomputable def rAlt (K : PySem.W.Frag) (neg : Bool) : R2 := fun x y H Q => ∃ p q xs ys, x = .ref p ∧ y = .ref q ∧ SqL K H p xs ∧ SqL K H q ys ∧ xs.length = ys.length ∧ (∀ (j : Nat) x y, xs[j]? = some x → ys[j]? = some y → Al2 K H x y) ∧ Q (.bl (!neg)) H
theorem op_neAltK (K : PySem.W.Frag) (hu : X.A.units + 1 < cLine) (hK : X.K = K := by rfl) : OpR X (compareOp .NotEq) (rAlt K true) := by
  subst hK
  intro pins s σ H x y v u Q I rx ry h
  obtain ⟨p, q, xs, ys, rfl, rfl, h1, h2, hl, hq, hQ⟩ := h
  cases rx
  cases ry
  obtain ⟨its, r, pl, hz⟩ := I.list h1
  obtain ⟨its', r', pl', hz'⟩ := I.list h2
  have l1 := r.length
  have l2 := r'.length
  refine SeqAt.RcNeAt.lists (e := fun _ => true) pl.isList pl'.isList (by simp; omega) (by omega) (als_at r r' hq fun x y u v q ru rv => al2_eq I hu q ru rv) _ _ _ _ ⟨.bl _, H, I, rfl, ?_⟩
  rw [all_tt]; exact hQ
end
end L2

namespace L2
open PySem PySem.Spec PyProof.Rows
/-! ### list(reversed(e)), e a list -/
section
variable {P0 : Program} {w0 : World} {A0 : Around} {E0' : Value → Shared → Prop} {s0 : Shared} {I l : Addr} {its : Array Value}
theorem lri_nolen : typeLookup (.type "list_reverseiterator") "__len__" = pure none := by
  rw [typeLookup_type, builtinLookup_eq_fast]
  kernel_rfl
theorem lri_hint : typeLookup (.type "list_reverseiterator") "__length_hint__" = pure (some (.builtin "list_reverseiterator.__length_hint__")) := by
  rw [typeLookup_type, builtinLookup_eq_fast]
  kernel_rfl
theorem lrv_hint {Q : Bool → Shared → Prop} (hT : s0.TypeIs (.ref I) "list_reverseiterator") (q : Q false s0) : wpAny (model P0 w0) A0 (Builtin.List.listLengthHint (.ref I)) Q E0' s0 := by
  unfold Builtin.List.listLengthHint
  refine wpAny_bind (wpAny_specialOf hT lri_nolen ?_)
  show wpAny _ _ (specialOf (Value.ref I) (Str.ofString "__length_hint__") >>= _) _ _ _
  refine wpAny_bind (wpAny_specialOf hT lri_hint ?_)
  generalize hid : ("list_reverseiterator.__length_hint__" : String) = id0
  wp_delta
  rw [show splitId id0 = some ("list_reverseiterator", "__length_hint__") by subst hid; decide +kernel]
  subst hid
  refine wpAny_bind (wpAny_isInstance (b := true) hT (by rw [isSubtype_type]; kernel_rfl) ?_)
  exact wpAny_pure q
theorem lrv_ext {R : Result → Shared → Prop} (hh : A0.handled = none) (hI : s0.heap.IsRevIter I l ((its.size : Int) - 1)) (hl : s0.heap.IsList l its) (hne : l ≠ I) (hz : its.size ≤ sizeLine) (S : Addr) (hSI : S ≠ I) (hSl : S ≠ l) (res : Value) (k0 : Nat)
    (hS : s0.heap.get? S = some { cls := .type "list", data := .seq #[] k0 })
    (hR : ∀ h' tk acc c', (∀ b o, b ≠ S → b ≠ I → s0.heap.get? b = some o → h'.get? b = some o) → h'.get? S = some { cls := .type "list", dict := none, data := .seq acc c', slots := #[] } →
      ItemsOf (fun i v => its[its.size - 1 - i]? = some v) acc its.size → R (.ok (.ret res)) { s0 with heap := h', toks := tk }) :
    wpAny (model P0 w0) A0.in1 (Builtin.List.listExtendWith (.ref S) (.ref I) res)
      (fun fin s' => match fin with
        | .done f => R (.ok f) s'
        | .again c' => c'.quiet = true ∧ codeAny (model P0 w0) A0 c' R s') (fun e s' => R (.error e) s') s0 := by
  have W := (Walks.listRev (prog := P0) (w := w0) (A := A0.in1) hh I l hne its).toS
  have st : (0 : Nat) ≤ its.size ∧ s0.heap.IsRevIter I l ((its.size : Int) - 1 - ((0 : Nat) : Int)) ∧ s0.heap.IsList l its := ⟨Nat.zero_le _, by rw [show (its.size : Int) - 1 - ((0 : Nat) : Int) = (its.size : Int) - 1 by omega]; exact hI, hl⟩
  have hSf : S ∉ [I, l] := by simp [hSI, hSl]
  have e1 : Builtin.List.listSameRef (.ref S) (.ref I) = false := by simp [Builtin.List.listSameRef, hSI]
  unfold Builtin.List.listExtendWith
  refine wpAny_bind (wpAny_typeOf hI.typeIs ?_)
  rw [if_neg (by rw [e1]; decide)]
  refine wpAny_bind (wpAny_pyIter_revIter hI ?_)
  refine wpAny_bind (wpAny_holding (lrv_hint hI.typeIs ?_))
  rw [if_neg (by decide)]
  refine wpAny_pure ⟨plainId_quiet PySem.F.plain_extend_loop _, codeAny_extend_loopS W hz S hSf res its.size 0 _ #[] k0 rfl (Nat.zero_le _) st hS (ItemsOf.nil _) fun s' acc c' hm hS' ha => ?_⟩
  rw [Moved.eq_with hm]
  refine hR s'.heap s'.toks acc c' (fun b o h1 h2 e => hm.heap b o (fun z => ?_) e) hS' ha
  rcases List.mem_cons.mp z with z | z
  · exact h1 z
  · exact h2 (List.mem_singleton.mp z)
theorem lrv_init {R : Result → Shared → Prop} (hh : A0.handled = none) (hI : s0.heap.IsRevIter I l ((its.size : Int) - 1)) (hl : s0.heap.IsList l its) (hne : l ≠ I) (hz : its.size ≤ sizeLine) (S : Addr) (hSI : S ≠ I) (hSl : S ≠ l)
    (hS : s0.heap.get? S = some { cls := .type "list", data := .seq #[] })
    (hR : ∀ h' tk acc c', (∀ b o, b ≠ S → b ≠ I → s0.heap.get? b = some o → h'.get? b = some o) → h'.get? S = some { cls := .type "list", dict := none, data := .seq acc c', slots := #[] } →
      ItemsOf (fun i v => its[its.size - 1 - i]? = some v) acc its.size → R (.ok (.ret .none)) { s0 with heap := h', toks := tk }) :
    wpAny (model P0 w0) A0.in1 (Builtin.«list.__init__» ⟨[.ref S, .ref I], []⟩)
      (fun fin s' => match fin with
        | .done f => R (.ok f) s'
        | .again c' => c'.quiet = true ∧ codeAny (model P0 w0) A0 c' R s') (fun e s' => R (.error e) s') s0 := by
  show wpAny _ _ (do
    let old ← Builtin.List.listItems (.ref S)
    Builtin.List.listUpdate (.ref S) (fun _ => #[])
    letGo old.toList.reverse
    Builtin.List.listExtendWith (.ref S) (.ref I) .none) _ _ s0
  refine wpAny_bind ?_
  unfold Builtin.List.listItems
  refine wpAny_bind (wpAny_seqItems hS rfl (wpAny_pure ?_))
  show wpAny _ _ (do
    updateSeq S (fun _ => #[])
    letGo (#[] : Array Value).toList.reverse
    Builtin.List.listExtendWith (.ref S) (.ref I) .none) _ _ s0
  refine wpAny_bind (wpAny_updateSeq hS rfl ?_)
  have hS2 := Heap.get?_update_self (Obj.mapSeq (fun _ => (#[] : Array Value))) hS rfl
  have oth : ∀ b o, b ≠ S → s0.heap.get? b = some o → (s0.heap.update S (Obj.mapSeq (fun _ => (#[] : Array Value)))).get? b = some o := fun b o hb e => by
    rw [Heap.get?_update_other _ _ (Ne.symm hb)]; exact e
  refine wpAny_bind (wpAny_letGo ?_)
  refine lrv_ext hh (hI.at fun o e => oth I o hSI.symm e) (hl.at fun o e => oth l o hSl.symm e) hne hz S hSI hSl .none _ hS2 fun h' tk acc c' k e2 ha => ?_
  exact hR h' tk acc c' (fun b o h1 h2 e => k b o h1 h2 (oth b o h1 e)) e2 ha
theorem lrv_list {Q : Value → Shared → Prop} (hh : A0.handled = none) (hI : s0.heap.IsRevIter I l ((its.size : Int) - 1)) (hl : s0.heap.IsList l its) (hne : l ≠ I) (hz : its.size ≤ sizeLine)
    (hQ : ∀ h' tk acc c', (∀ b o, b ≠ I → s0.heap.get? b = some o → h'.get? b = some o) → h'.get? s0.heap.objs.size = some { cls := .type "list", dict := none, data := .seq acc c', slots := #[] } →
      ItemsOf (fun i v => its[its.size - 1 - i]? = some v) acc its.size → Q (.ref s0.heap.objs.size) { s0 with heap := h', toks := tk }) :
    wpAny (model P0 w0) A0 (call (.type "list") [.ref I]) Q E0' s0 := by
  refine callType_codes (Q₁ := fun ob s1 => ob = .ref s0.heap.objs.size ∧ s1 = { s0 with heap := s0.heap.push { cls := .type "list", data := .seq #[] } }) PySem.F.called_list (PySem.F.typeCall_list_1 _) PySem.F.entry_list_init (code_list_new _ ⟨rfl, rfl⟩) fun ob s1 h1 => ?_
  obtain ⟨rfl, rfl⟩ := h1
  have hS : (s0.heap.push { cls := .type "list", data := .seq #[] }).get? s0.heap.objs.size = some { cls := .type "list", data := .seq #[] } := Heap.get?_push_size _ rfl
  obtain ⟨oi, hoi, _⟩ := id hI
  obtain ⟨ol, hol, _⟩ := id hl
  refine ⟨⟨_, hS, rfl⟩, PySem.F.args_list_init_2 _ _, lrv_init (A0 := A0.in1) hh (hI.at fun o e => Heap.get?_push_of_some _ e) (hl.at fun o e => Heap.get?_push_of_some _ e) hne hz _ (Nat.ne_of_gt (Heap.lt_size hoi)) (Nat.ne_of_gt (Heap.lt_size hol)) hS fun h' tk acc c' k e2 ha => ?_⟩
  exact ⟨rfl, hQ h' tk acc c' (fun b o h2 e => k b o (Nat.ne_of_lt (Heap.lt_size e)) h2 (Heap.get?_push_of_some _ e)) e2 ha⟩
end
section
variable {X : Cx} {e : Expr} {te : TE} {p1 p2 pos1 pos2 : Pos}
noncomputable def tLrv (K : PySem.W.Frag) (te : TE) : TE := fun σ H Q => te σ H fun x H1 => ∃ p ys, x = .ref p ∧ SqL K H1 p ys ∧ ∀ q, H1 q = none → Q (.ref q) (upd H1 q (.lst ys.reverse))
theorem pe_lrv (K : PySem.W.Frag) (hc : X.calm = true) (hgl : Gl X "list") (hml : X.mg "list" = none) (hgr : Gl X "reversed") (hmr : X.mg "reversed" = none) (he : PE X e te) (hK : X.K = K := by rfl)
    (h1 : starEach [.Call (.Name "reversed" p2) [e] [] pos2] X.env = [(false, eval (.Call (.Name "reversed" p2) [e] [] pos2) X.env)] := by rfl) (h2 : starEach [e] X.env = [(false, eval e X.env)] := by rfl) :
    PE X (.Call (.Name "list" p1) [.Call (.Name "reversed" p2) [e] [] pos2] [] pos1) (tLrv K te) := by
  subst hK
  intro pins s σ H Q I h
  refine wpAny_Call_Name_kw (ld_blt I hgl hml bt_list (callWith_type1 ?_ h1 rfl) (by decide) (by decide))
  rw [h1]
  show wpAny _ _ (spliced ((false, eval (.Call (.Name "reversed" p2) [e] [] pos2) X.env) :: [])) _ _ s
  refine Calls.spliced_cons ?_
  refine wpAny_Call_Name_kw (ld_blt I hgr hmr boot_reversed (callWith_type1 ?_ h2 rfl) (by decide) (by decide))
  rw [h2]
  show wpAny _ _ (spliced ((false, eval e X.env) :: [])) _ _ s
  refine Calls.spliced_cons (thn (he pins s σ H _ I h) fun u s1 ⟨x, H1, I1, r1, q1⟩ => ?_)
  obtain ⟨p, ys, rfl, hq, q⟩ := q1
  cases r1
  refine Calls.spliced_nil ?_
  obtain ⟨its, rv, pl, hz⟩ := I1.list hq
  have hlen := rv.length
  refine call_reversed_list pl.isList ?_
  refine Calls.spliced_nil ?_
  have hlt : p < s1.heap.objs.size := by obtain ⟨o, ho, _⟩ := pl.isList; exact Heap.lt_size ho
  refine lrv_list (I := s1.heap.objs.size) (l := p) (its := its.toArray) (I1.ok.hd hc) ⟨_, Heap.get?_push_size _ rfl, rfl, rfl⟩ (pl.isList.at fun o e => Heap.get?_push_of_some _ e) (Nat.ne_of_lt hlt) (by rw [List.size_toArray]; omega) fun h' tk acc c' k e2 ha => ?_
  have er : acc.toList = its.reverse := by
    apply List.ext_getElem?
    intro j
    have hs : acc.size = its.length := by have := ha.1; rw [List.size_toArray] at this; exact this
    rcases Nat.lt_or_ge j its.length with hj | hj
    · have hg : acc[j]? = some (acc[j]'(by rw [hs]; exact hj)) := Array.getElem?_eq_getElem _
      have := ha.2 j _ hg
      rw [Array.getElem?_toList, hg, List.getElem?_reverse hj, ← this]
      simp
    · rw [List.getElem?_eq_none (by rw [Array.length_toList, hs]; exact hj), List.getElem?_eq_none (by rw [List.length_reverse]; exact hj)]
  have hf : H1 (s1.heap.push (revObj p ((its.toArray.size : Int) - 1))).objs.size = none := I1.hok.fresh (by rw [Heap.size_push]; exact Nat.le_succ _)
  refine ⟨.ref _, _, I1.laid (t' := tk) (o := .lst ys.reverse) (fun b u e => k b u (Nat.ne_of_lt (Heap.lt_size e)) (Heap.get?_push_of_some _ e)) (by rw [Heap.size_push]; exact Nat.le_succ _) ?_, rfl, q _ hf⟩
  refine ⟨by rw [List.length_reverse]; exact hz, its.reverse, c', vals_rev rv, ?_⟩
  rw [e2, ← er, Array.toArray_toList]
end
end L2

namespace L2
open PySem PySem.Spec PyProof.Rows
/-! ### range(a, b, 2) -/
noncomputable def Itr3 (lo : Int) (n : Nat) : It := ⟨fun i _ => i < n, fun i H x H' => H' = H ∧ x = .int (lo + i * 2), fun i _ => n ≤ i⟩
theorem turn_range3 {P : Program} {w : World} {K : PySem.W.Frag} {tg : Expr} (it : Addr) (lo : Int) (n : Nat) : Turn P w K tg (Itr3 lo n) [it] it (fun i h => IsRangeIter h it (lo + (i : Nat) * 2) ((n : Int) - (i : Nat)) 2) where
  mem := by simp
  obj := fun i h st b hb => by
    have e : b = it := by simpa using hb
    subst e
    refine ⟨_, st, fun v z => ?_⟩
    have z' : Data.fields _ = Data.cell v := z
    cases z'
  keep := fun i h h' st k => k it (by simp) _ st
  item := by
    intro X hP hw hK hc i pins s σ H E I hf st hg
    subst hP hw hK
    obtain ⟨f0, f1, f2, f3, f4, f5⟩ := hf it (by simp)
    have W := Walks.range (prog := X.prog) (w := X.w) (I.ok.hd hc) it lo 2 n
    refine W.item i s _ _ hg st fun v h' tk hv st' kk => ?_
    obtain ⟨t, rfl⟩ := hv
    have I1 : Inv X pins σ H { s with heap := h', toks := tk } := I.turned (fun b o hb e => kk b o (by simpa using hb) e) f0 f1 f3 f4 f5
    exact ⟨_, rfl, go_of (s := { s with heap := h', toks := tk }) (n := "range_iterator") st' rfl rfl (by decide) ⟨.int (lo + i * 2), H, I1, ⟨t, rfl⟩, ⟨rfl, rfl⟩, st', fun b hb => (hf b hb).1⟩⟩
  done := by
    intro X hP hw hK hc i pins s σ H E I hf st hg
    subst hP hw hK
    obtain ⟨f0, f1, f2, f3, f4, f5⟩ := hf it (by simp)
    have hn : n ≤ i := hg
    exact wpAny_pyNext_range_end (I.ok.hd hc) st (by omega) fun h' eb => ⟨rfl, I.turned (t' := s.toks) (fun b o hb e => eb b o hb e) f0 f1 f3 f4 f5⟩
  self := fun _ _ _ _ _ st h => wpAny_pyIter_rangeiter st h
section
variable {X : Cx} {tg : Expr}
theorem size2 {a b : Int} : Builtin.Range.rangeSize a b 2 = if a < b then (b - a - 1) / 2 + 1 else 0 := by
  unfold Builtin.Range.rangeSize
  rw [if_pos (by decide)]
theorem small2 {a b : Int} (ha : -(2 ^ 60) ≤ a) (ha' : a < 2 ^ 60) (hb : -(2 ^ 60) ≤ b) (hb' : b < 2 ^ 60) : Builtin.Range.small a b 2 = true := by
  unfold Builtin.Range.small
  rw [size2]
  simp only [Builtin.Range.rangeFitsLong, Bool.and_eq_true, Bool.or_eq_true, decide_eq_true_eq, beq_iff_eq, show (2 : Int) > 0 by decide, if_true]
  split <;> omega
noncomputable def iRng3 (ta : TA) : TI := fun σ H R => ta σ H fun vs H1 => ∃ (i j : Int) (n : Nat), vs = [.int i, .int j, .int 2] ∧ (-(2 ^ 60) ≤ i ∧ i < 2 ^ 60 ∧ -(2 ^ 60) ≤ j ∧ j < 2 ^ 60) ∧ (n : Int) = (if i < j then (j - i - 1) / 2 + 1 else 0) ∧ R (Itr3 i n) H1
theorem pi_range3 {a b c : Expr} {ta : TA} {p pos : Pos} (hg : Gl X "range") (hm : X.mg "range" = none) (ha : PA X [a, b, c] ta) (hs : starEach [a, b, c] X.env = (false, eval a X.env) :: starEach [b, c] X.env := by rfl) (hs2 : (backTo pos (starEach [b, c] X.env)).any (·.1) = false := by rfl) :
    PI X tg (.Call (.Name "range" p) [a, b, c] [] pos) (iRng3 ta) := by
  intro pins s σ H R I h
  refine Call_ (ld_blt I hg hm boot_range (PyProof.Rows.callWith_type1 (thn (ha pos pins s σ H _ I h) fun us s1 ⟨vs, H1, I1, r1, q1⟩ => ?_) hs hs2))
  obtain ⟨i, j, n, rfl, ⟨q1, q2, q3, q4⟩, hn, q⟩ := q1
  cases r1 with
  | cons r rr =>
  cases rr with
  | cons r' rr =>
  cases rr with
  | cons r'' rr =>
  cases rr
  obtain ⟨t, rfl⟩ := r
  obtain ⟨t', rfl⟩ := r'
  obtain ⟨t'', rfl⟩ := r''
  refine call_range_3 (by decide) ?_ (.inl (PyProof.noPylong_small (by decide)))
  generalize ho : ({ cls := .type "range", data := .fields #[.int i t, .int j t', .int 2 t''] } : Obj) = ob
  have I2 : Inv X pins σ H1 { s1 with heap := s1.heap.push ob, toks := s1.toks } := I1.kept fun b o e => Heap.get?_push_of_some _ e
  have hR : IsRange (s1.heap.push ob) s1.heap.objs.size i j 2 t t' t'' := by rw [← ho]; exact IsRange.new ..
  refine wpAny_pyIter_range hR (small2 q1 q2 q3 q4) ?_
  refine ⟨(s1.heap.push ob).objs.size, [(s1.heap.push ob).objs.size], _, _, H1, rfl, I2.kept (t' := s1.toks) fun b o e => Heap.get?_push_of_some _ e, turn_range3 _ i n, ?_, fun b hb => ?_, q⟩
  · have e1 : i + ((0 : Nat) : Int) * 2 = i := by simp
    have e2 : (n : Int) - ((0 : Nat) : Int) = Builtin.Range.rangeSize i j 2 := by rw [size2, ← hn]; simp
    show IsRangeIter _ _ (i + ((0 : Nat) : Int) * 2) ((n : Int) - ((0 : Nat) : Int)) 2
    rw [e1, e2]
    exact Heap.get?_push_size _ rfl
  · have e : b = (s1.heap.push ob).objs.size := by simpa using hb
    subst e
    exact I2.fpOk (Nat.le_refl _) (I2.hok.fresh (Nat.le_refl _))
end
theorem comp_range3P {lo : Int} {n : Nat} {te : TE} {σ : St} {H : Hp} {Q : VK} (Pv : Nat → List V → Hp → Prop) (h0 : Pv 0 [] H) (hl : ∀ i ys H', i ≤ n → Pv i ys H' → ys.length = i) (hz : n ≤ sizeLine)
    (he : ∀ (i : Nat) ys H' Q', i < n → Pv i ys H' → (∀ y H4, Pv (i + 1) (ys ++ [y]) H4 → Q' y H4) → te (some (.int (lo + (i : Int) * 2)) :: σ) H' Q')
    (hd : ∀ ys H' p, Pv n ys H' → H' p = none → Q (.ref p) (upd H' p (.lst ys))) : ∃ W, (∃ m, W 0 m [] H) ∧ CompW (Itr3 lo n) tYes te σ Q W := by
  refine ⟨fun i m ys H' => m = n - i ∧ i ≤ n ∧ Pv i ys H', ⟨n, by simp, Nat.zero_le _, h0⟩, ?_⟩
  rintro i m ys H' ⟨rfl, hi, pv⟩
  have hy := hl i ys H' hi pv
  by_cases hlt : i < n
  · refine .inr ⟨hlt, by omega, fun x H2 y => ?_⟩
    obtain ⟨rfl, rfl⟩ := y
    exact he i ys _ _ hlt pv fun v H4 pv' => ⟨n - (i + 1), by omega, rfl, hlt, pv'⟩
  · have e : i = n := by omega
    subst e
    exact .inl ⟨Nat.le_refl _, by omega, fun p hp => hd ys H' p pv hp⟩
/-! ### [e for x in it if c] over a range, by a word of one's own -/
theorem comp_rangeFP {n : Nat} {tt : TT} {te : TE} {σ : St} {H : Hp} {Q : VK} (c : Nat → Bool) (Pv : Nat → List V → Hp → Prop) (h0 : Pv 0 [] H) (hl : ∀ i ys H', i ≤ n → Pv i ys H' → ys.length ≤ i) (hz : n ≤ sizeLine)
    (hs : ∀ i ys H' H'', Pv i ys H' → Same H' H'' → Pv i ys H'')
    (ht : ∀ (i : Nat) ys H' Q', i < n → Pv i ys H' → (∀ H'', Same H' H'' → Q' (c i) H'') → tt (some (.int (0 + (i : Int))) :: σ) H' Q')
    (he : ∀ (i : Nat) ys H' Q', i < n → c i = true → Pv i ys H' → (∀ y H4, Pv (i + 1) (ys ++ [y]) H4 → Q' y H4) → te (some (.int (0 + (i : Int))) :: σ) H' Q')
    (hn : ∀ (i : Nat) ys H', i < n → c i = false → Pv i ys H' → Pv (i + 1) ys H')
    (hd : ∀ ys H' p, Pv n ys H' → H' p = none → Q (.ref p) (upd H' p (.lst ys))) : ∃ W, (∃ m, W 0 m [] H) ∧ CompW (Itr 0 n) tt te σ Q W := by
  refine ⟨fun i m ys H' => m = n - i ∧ i ≤ n ∧ Pv i ys H', ⟨n, by simp, Nat.zero_le _, h0⟩, ?_⟩
  rintro i m ys H' ⟨rfl, hi, pv⟩
  have hy := hl i ys H' hi pv
  by_cases hlt : i < n
  · refine .inr ⟨hlt, by omega, fun x H2 y => ?_⟩
    obtain ⟨rfl, rfl⟩ := y
    refine ht i ys _ _ hlt pv fun H3 s3 => ?_
    have pv3 := hs i ys _ H3 pv s3
    cases hc : c i with
    | true => exact iteT (he i ys H3 _ hlt hc pv3 fun v H4 pv' => ⟨n - (i + 1), by omega, rfl, hlt, pv'⟩)
    | false => exact iteF ⟨n - (i + 1), by omega, rfl, hlt, hn i ys H3 hlt hc pv3⟩
  · have e : i = n := by omega
    subst e
    exact .inl ⟨Nat.le_refl _, by omega, fun p hp => hd ys H' p pv hp⟩
end L2

namespace TC
/-! ### the least form of a list, in plain numbers -/
noncomputable def gAll (ns : List Int) : Nat := ns.foldl (fun g n => Nat.gcd g n.natAbs) 0
noncomputable def negFirst : List Int → Bool
  | [] => false
  | n :: r => if n = 0 then negFirst r else decide (n < 0)
noncomputable def divD (ns : List Int) : Int := if negFirst ns = true then -(gAll ns : Int) else (gAll ns : Int)
noncomputable def leastL (ns : List Int) : List Int := ns.map fun n => n.fdiv (divD ns)
noncomputable def some0 (ns : List Int) : Prop := ∃ n ∈ ns, n ≠ 0

/-- small enough to reckon with -/
noncomputable def Small (ns : List Int) : Prop := ∀ n ∈ ns, n.natAbs < 2 ^ 2000
noncomputable def okLen (n : Nat) : Prop := n = 2 ∨ n = 4 ∨ n = 8 ∨ n = 16 ∨ n = 32 ∨ n = 64
end TC
namespace TC
/-! ### numbers that a law draws -/
theorem big {n : Int} (h1 : -1606938044258990275541962092341162602522202993782792835301376 < n) (h2 : n < 1606938044258990275541962092341162602522202993782792835301376) : n.natAbs < 2 ^ 4000 :=
  Nat.lt_of_lt_of_le (show n.natAbs < 1606938044258990275541962092341162602522202993782792835301376 by omega)
    (Nat.le_trans (show 1606938044258990275541962092341162602522202993782792835301376 ≤ 2 ^ 200 by decide) (Nat.pow_le_pow_right (by decide) (by decide)))
/-- at most two hundred bits -/
noncomputable def Med (ns : List Int) : Prop := ∀ n ∈ ns, -1606938044258990275541962092341162602522202993782792835301376 < n ∧ n < 1606938044258990275541962092341162602522202993782792835301376
theorem cpw (k : Int) (h1 : 0 ≤ k) (h2 : k ≤ 1000000) : L2.CPow 10 k := ⟨h1, h2, by decide⟩
theorem em_nn (x : Int) {m : Int} (h : 0 < m) : 0 ≤ x % m := Int.emod_nonneg x (by omega)
theorem em_lt (x : Int) {m : Int} (h : 0 < m) : x % m < m := Int.emod_lt_of_pos x h
theorem fd_pos {x m : Int} (h0 : 0 ≤ x) (h : 0 < m) : x.fdiv m = x / m := Int.fdiv_eq_ediv_of_nonneg x (by omega)
theorem cdB {x m : Int} (h : 0 < m) (h2 : m < 1606938044258990275541962092341162602522202993782792835301376) : L2.CDivB x m := ⟨by omega, big (by omega) h2⟩
end TC

namespace TC
open PySem L2
/-- a gate -/
inductive Gt where
  | mix (c : Nat)
  | flip (c : Nat)
  | sign (c : Nat)
  | follow (a b : Nat)
  | meet (a b : Nat)
  | swap (a b : Nat)
noncomputable def Gt.vals : Gt → List V
  | .mix c => [.str "mix", .int c]
  | .flip c => [.str "flip", .int c]
  | .sign c => [.str "sign", .int c]
  | .follow a b => [.str "follow", .int a, .int b]
  | .meet a b => [.str "meet", .int a, .int b]
  | .swap a b => [.str "swap", .int a, .int b]
noncomputable def Gt.ok (m : Nat) : Gt → Prop
  | .mix c => c < m
  | .flip c => c < m
  | .sign c => c < m
  | .follow a b => a < m ∧ b < m ∧ a ≠ b
  | .meet a b => a < m ∧ b < m ∧ a ≠ b
  | .swap a b => a < m ∧ b < m ∧ a ≠ b
noncomputable def fl (p c : Nat) : Nat := p ^^^ 2 ^ c
noncomputable def bt (p c : Nat) : Bool := p.testBit c
noncomputable def at0 (xs : List Int) (i : Nat) : Int := xs.getD i 0
noncomputable def beh (xs : List Int) (p : Nat) : Gt → Int
  | .mix c => if bt p c = true then at0 xs (fl p c) - at0 xs p else at0 xs p + at0 xs (fl p c)
  | .flip c => at0 xs (fl p c)
  | .sign c => if bt p c = true then - at0 xs p else at0 xs p
  | .follow a b => if bt p a = true then at0 xs (fl p b) else at0 xs p
  | .meet a b => if (bt p a && bt p b) = true then - at0 xs p else at0 xs p
  | .swap a b => if (bt p a != bt p b) = true then at0 xs (fl (fl p a) b) else at0 xs p
noncomputable def gap (g : Gt) (xs : List Int) : List Int := (List.range xs.length).map fun p => beh xs p g
theorem fl_fl (p c : Nat) : fl (fl p c) c = p := by unfold fl; rw [Nat.xor_assoc, Nat.xor_self, Nat.xor_zero]
theorem bt_fl (p c : Nat) : bt (fl p c) c = !bt p c := by unfold bt fl; rw [Nat.testBit_xor, Nat.testBit_two_pow_self]; cases p.testBit c <;> rfl
theorem bt_fl_ne {p a b : Nat} (h : a ≠ b) : bt (fl p b) a = bt p a := by
  unfold bt fl
  rw [Nat.testBit_xor, Nat.testBit_two_pow_of_ne (Ne.symm h)]; cases p.testBit a <;> rfl
theorem fl_lt {m p c : Nat} (hp : p < 2 ^ m) (hc : c < m) : fl p c < 2 ^ m := Nat.xor_lt_two_pow hp (Nat.pow_lt_pow_right (by decide) hc)
/-- what twice the same gate makes of a list -/
noncomputable def Gt.two : Gt → Int
  | .mix _ => 2
  | _ => 1
/-- how wide the numbers are -/
noncomputable def Sz (k : Nat) (xs : List Int) : Prop := ∀ n ∈ xs, n.natAbs < 2 ^ k
/-- one gate, then least form -/
noncomputable def stp (xs : List Int) (g : Gt) : List Int := leastL (gap g xs)
/-- gates in a row, over a list in least form -/
noncomputable def run (gs : List Gt) (xs : List Int) : List Int := gs.foldl stp xs
structure Fit (m k : Nat) (xs : List Int) : Prop where
  l : xs.length = 2 ^ m
  s : some0 xs
  z : Sz k xs
/-- gates that lie in the heap as tuples -/
structure Gts (H : Hp) (m : Nat) (as : List Addr) (gs : List Gt) : Prop where
  l : as.length = gs.length
  g : ∀ (i : Nat) (a : Addr), as[i]? = some a → ∃ g, gs[i]? = some g ∧ H a = some (.tup g.vals) ∧ g.ok m
theorem Gts.same {H H' : Hp} {m : Nat} {as : List Addr} {gs : List Gt} (h : Gts H m as gs) (s : Same H H') : Gts H' m as gs := ⟨h.l, fun i a e => by
  obtain ⟨g, h1, h2, h3⟩ := h.g i a e
  exact ⟨g, h1, s _ _ h2, h3⟩⟩
theorem Gts.all {H : Hp} {m : Nat} {as : List Addr} {gs : List Gt} (h : Gts H m as gs) : ∀ g ∈ gs, g.ok m := fun g hg => by
  obtain ⟨i, hi, rfl⟩ := List.mem_iff_getElem.mp hg
  obtain ⟨g', h1, h2, h3⟩ := h.g i (as[i]'(by rw [h.l]; exact hi)) (List.getElem?_eq_getElem _)
  rw [List.getElem?_eq_getElem hi] at h1
  cases h1
  exact h3
noncomputable abbrev rV (as : List Addr) : List V := as.map V.ref
theorem rs_get {as : List Addr} {i : Nat} {x : V} (h : (rV as)[i]? = some x) : ∃ a, as[i]? = some a ∧ x = .ref a := by
  rw [List.getElem?_map] at h
  cases e : as[i]? with
  | none => rw [e] at h; cases h
  | some z => rw [e] at h; exact ⟨z, rfl, (Option.some.inj h).symm⟩
theorem sqT {K : PySem.W.Frag} {H : Hp} {a : Addr} {xs : List V} (h : H a = some (.tup xs)) : SqT K H a xs := .inl (.inl h)
noncomputable def dbl {α : Type} (as : List α) : List α := as.flatMap fun a => [a, a]
theorem Gts.nil {H : Hp} {m : Nat} : Gts H m [] [] := ⟨rfl, fun i a e => by cases e⟩
theorem Gts.app {H : Hp} {m : Nat} {as bs : List Addr} {gs hs : List Gt} (h : Gts H m as gs) (h' : Gts H m bs hs) : Gts H m (as ++ bs) (gs ++ hs) := by
  refine ⟨by rw [List.length_append, List.length_append, h.l, h'.l], fun i a e => ?_⟩
  by_cases hi : i < as.length
  · rw [List.getElem?_append_left hi] at e
    obtain ⟨g, h1, h2⟩ := h.g i a e
    exact ⟨g, by rw [List.getElem?_append_left (by rw [← h.l]; exact hi)]; exact h1, h2⟩
  · rw [List.getElem?_append_right (by omega)] at e
    obtain ⟨g, h1, h2⟩ := h'.g _ a e
    exact ⟨g, by rw [List.getElem?_append_right (by rw [← h.l]; omega), ← h.l]; exact h1, h2⟩
theorem Gts.one {H : Hp} {m : Nat} {a : Addr} {g : Gt} (h : H a = some (.tup g.vals)) (ok : g.ok m) : Gts H m [a] [g] := ⟨rfl, fun i x e => by
  cases i with
  | zero => cases e; exact ⟨g, rfl, h, ok⟩
  | succ i => cases e⟩
theorem Gts.cons_inv {H : Hp} {m : Nat} {a : Addr} {as : List Addr} {gs : List Gt} (h : Gts H m (a :: as) gs) : ∃ g hs, gs = g :: hs ∧ Gts H m [a] [g] ∧ Gts H m as hs := by
  obtain ⟨g, h1, h2, h3⟩ := h.g 0 a rfl
  match gs, h, h1 with
  | g' :: hs, h, h1 =>
    cases h1
    refine ⟨_, hs, rfl, Gts.one h2 h3, ⟨by have := h.l; simpa using this, fun i x e => ?_⟩⟩
    exact h.g (i + 1) x e
theorem Gts.rev {H : Hp} {m : Nat} : ∀ {as : List Addr} {gs : List Gt}, Gts H m as gs → Gts H m as.reverse gs.reverse
  | [], gs, h => by
    have : gs = [] := List.eq_nil_of_length_eq_zero h.l.symm
    subst this; exact .nil
  | a :: as, gs, h => by
    obtain ⟨g, hs, rfl, h1, h2⟩ := h.cons_inv
    rw [List.reverse_cons, List.reverse_cons]
    exact (Gts.rev h2).app h1
end TC

namespace TC
open PySem L2 PyProof.Rows
/-! ### bits -/
theorem xor_add_and (m : Nat) : ∀ n : Nat, (m ^^^ n) + (m &&& n) = (m ||| n) := fun n => by
  have h := nat_or_add_and (m ^^^ n) (m &&& n)
  have e1 : (m ^^^ n) ||| (m &&& n) = m ||| n := Nat.eq_of_testBit_eq fun i => by
    rw [Nat.testBit_or, Nat.testBit_xor, Nat.testBit_and, Nat.testBit_or]; cases m.testBit i <;> cases n.testBit i <;> rfl
  have e2 : (m ^^^ n) &&& (m &&& n) = 0 := Nat.eq_of_testBit_eq fun i => by
    rw [Nat.testBit_and, Nat.testBit_xor, Nat.testBit_and, Nat.zero_testBit]; cases m.testBit i <;> cases n.testBit i <;> rfl
  rw [e1, e2, Nat.add_zero] at h
  exact h.symm
theorem bOr (a b : Nat) : Builtin.bitOr (a : Int) (b : Int) = ((a ||| b : Nat) : Int) := by
  rw [bitOr_and, bAnd]
  have := nat_or_add_and a b
  omega
theorem bXor (a b : Nat) : Builtin.bitXor (a : Int) (b : Int) = ((a ^^^ b : Nat) : Int) := by
  show Builtin.bitOr (a : Int) (b : Int) - Builtin.bitAnd (a : Int) (b : Int) = _
  rw [bOr, bAnd]
  have := xor_add_and a b
  omega
/-- how many bits, of six -/
noncomputable def pcf : Nat → Nat → Nat
  | 0, _ => 0
  | k + 1, n => n % 2 + pcf k (n / 2)
theorem pcf_zero : ∀ k, pcf k 0 = 0
  | 0 => rfl
  | k + 1 => by rw [pcf, Nat.zero_mod, Nat.zero_div, pcf_zero k]
noncomputable def pc (n : Nat) : Nat := pcf 6 n
noncomputable def par (n : Nat) : Bool := ((bt n 0 ^^ bt n 1) ^^ (bt n 2 ^^ bt n 3)) ^^ (bt n 4 ^^ bt n 5)
theorem pc_par : ∀ n : Nat, n < 64 → (pc n % 2 = if par n then 1 else 0) := by decide +kernel
theorem bt_xor (a b c : Nat) : bt (a ^^^ b) c = (bt a c ^^ bt b c) := by unfold bt; rw [Nat.testBit_xor]
theorem bt_and (a b c : Nat) : bt (a &&& b) c = (bt a c && bt b c) := by unfold bt; rw [Nat.testBit_and]
theorem bt_or (a b c : Nat) : bt (a ||| b) c = (bt a c || bt b c) := by unfold bt; rw [Nat.testBit_or]
theorem par_xor (a b : Nat) : par (a ^^^ b) = (par a ^^ par b) := by
  unfold par
  simp only [bt_xor]
  exact (by decide +kernel : ∀ a0 a1 a2 a3 a4 a5 b0 b1 b2 b3 b4 b5 : Bool, ((((a0 ^^ b0) ^^ (a1 ^^ b1)) ^^ ((a2 ^^ b2) ^^ (a3 ^^ b3))) ^^ ((a4 ^^ b4) ^^ (a5 ^^ b5))) = ((((a0 ^^ a1) ^^ (a2 ^^ a3)) ^^ (a4 ^^ a5)) ^^ (((b0 ^^ b1) ^^ (b2 ^^ b3)) ^^ (b4 ^^ b5)))) _ _ _ _ _ _ _ _ _ _ _ _
theorem and_xor_r (a b c : Nat) : (a ^^^ b) &&& c = (a &&& c) ^^^ (b &&& c) := Nat.and_xor_distrib_right ..
theorem par_r (a b c : Nat) : par ((a ^^^ b) &&& c) = (par (a &&& c) ^^ par (b &&& c)) := by rw [and_xor_r, par_xor]
theorem par_comm (a b : Nat) : par (a &&& b) = par (b &&& a) := by rw [Nat.and_comm]
/-- the sign changed where b -/
noncomputable def chg (n : Int) (b : Bool) : Int := if b = true then -n else n
theorem chg_chg (n : Int) (a b : Bool) : chg (chg n a) b = chg n (a ^^ b) := by cases a <;> cases b <;> simp [chg]
/-! ### rows of signs -/
structure Rw where
  sg : Int
  x : Nat
  z : Nat
noncomputable def Rw.vals (r : Rw) : List V := [.int r.sg, .int r.x, .int r.z]
noncomputable def one (s : Int) : Prop := s = 1 ∨ s = -1
structure Rw.ok (r : Rw) (m : Nat) : Prop where
  s : one r.sg
  x : r.x < 2 ^ m
  z : r.z < 2 ^ m
theorem one_chg {n : Int} (h : one n) (b : Bool) : one (chg n b) := by rcases h with rfl | rfl <;> cases b <;> simp [chg, one]
noncomputable def snt (xs : List Int) (p : Nat) (r : Rw) : Int := chg (r.sg * at0 xs p) (par (p &&& r.z))
noncomputable def lay (r : Rw) (xs : List Int) : List Int := (List.range xs.length).map fun p => snt xs (p ^^^ r.x) r
theorem le64 {m n : Nat} (h : m ≤ 6) (hn : n < 2 ^ m) : n < 64 := Nat.lt_of_lt_of_le hn (Nat.pow_le_pow_right (by decide) h)
noncomputable def prd (a b : Rw) : Rw := ⟨chg (a.sg * b.sg) (par (a.z &&& b.x)), a.x ^^^ b.x, a.z ^^^ b.z⟩
noncomputable def agr (a b : Rw) : Bool := (par (a.x &&& b.z)) == (par (a.z &&& b.x))
noncomputable def evn (a : Rw) : Bool := !par (a.x &&& a.z)
theorem bit0 (n : Nat) : (n &&& 1 : Nat) = n % 2 := by rw [Nat.and_one_is_mod]
end TC
namespace TC
open PySem L2
/-- numbers within b either way -/
noncomputable def Wid (b : Int) (ns : List Int) : Prop := ∀ n ∈ ns, -b ≤ n ∧ n ≤ b
end TC
namespace TC
open PySem L2
theorem shl_is (m : Nat) : (1 : Int) * 2 ^ (m : Int).toNat = ((2 ^ m : Nat) : Int) := by rw [Int.one_mul, Int.toNat_natCast, Int.natCast_pow]; rfl
theorem cp2 {m : Nat} (h : m ≤ 6) : CPow 1 (m : Int) := ⟨Int.natCast_nonneg _, by omega, by decide⟩
/-- where a row sends a place, and its sign -/
noncomputable def gos (r : Rw) (p : Nat) (s : Int) : Int := chg (s * r.sg) (par (p &&& r.z))
noncomputable def spot : Nat → Nat
  | 0 => 0
  | i + 1 => 2 ^ i
end TC

namespace TC
open PySem L2
/-! ### rows moved by gates -/
noncomputable def tg (n c : Nat) (b : Bool) : Nat := if b = true then fl n c else n
theorem bt_pw (c i : Nat) : bt (2 ^ c) i = decide (c = i) := by unfold bt; rw [Nat.testBit_two_pow]
theorem par_pw {c : Nat} (h : c < 6) (z : Nat) : par (2 ^ c &&& z) = bt z c := by
  have : c = 0 ∨ c = 1 ∨ c = 2 ∨ c = 3 ∨ c = 4 ∨ c = 5 := by omega
  rcases this with rfl | rfl | rfl | rfl | rfl | rfl <;> unfold par <;> simp only [bt_and, bt_pw] <;> simp
theorem par_fl {c : Nat} (h : c < 6) (q z : Nat) : par (fl q c &&& z) = (par (q &&& z) ^^ bt z c) := by unfold fl; rw [par_r, par_pw h]
theorem par_tl {c : Nat} (h : c < 6) (q z : Nat) (b : Bool) : par (tg q c b &&& z) = (par (q &&& z) ^^ (b && bt z c)) := by
  cases b
  · simp [tg]
  · simp [tg, par_fl h]
theorem par_tr {c : Nat} (h : c < 6) (q z : Nat) (b : Bool) : par (q &&& tg z c b) = (par (q &&& z) ^^ (b && bt q c)) := by rw [par_comm, par_tl h, par_comm]
theorem tg_lt {m n c : Nat} (h : n < 2 ^ m) (hc : c < m) (b : Bool) : tg n c b < 2 ^ m := by cases b <;> simp [tg] <;> first | exact h | exact fl_lt h hc
theorem bt_tg_ne {n a b : Nat} (h : a ≠ b) (u : Bool) : bt (tg n b u) a = bt n a := by cases u <;> simp [tg, bt_fl_ne h]
theorem bt_tg (n a : Nat) (u : Bool) : bt (tg n a u) a = (bt n a ^^ u) := by cases u <;> simp [tg, bt_fl]
noncomputable def swq (n a b : Nat) : Nat := tg (tg n a (bt n a ^^ bt n b)) b (bt n a ^^ bt n b)
noncomputable def mvd (r : Rw) : Gt → Rw
  | .mix c => ⟨chg r.sg (bt r.x c && bt r.z c), tg r.x c (bt r.x c ^^ bt r.z c), tg r.z c (bt r.x c ^^ bt r.z c)⟩
  | .flip c => ⟨chg r.sg (bt r.z c), r.x, r.z⟩
  | .sign c => ⟨chg r.sg (bt r.x c), r.x, r.z⟩
  | .follow a b => ⟨r.sg, tg r.x b (bt r.x a), tg r.z a (bt r.z b)⟩
  | .meet a b => ⟨chg r.sg (bt r.x a && bt r.x b), r.x, tg (tg r.z b (bt r.x a)) a (bt r.x b)⟩
  | .swap a b => ⟨r.sg, swq r.x a b, swq r.z a b⟩
theorem swq_lt {m n a b : Nat} (h : n < 2 ^ m) (ha : a < m) (hb : b < m) : swq n a b < 2 ^ m := tg_lt (tg_lt h ha _) hb _
theorem mvd_ok {m : Nat} {r : Rw} (h : r.ok m) {g : Gt} (hg : g.ok m) : (mvd r g).ok m := by
  cases g with
  | mix c => exact ⟨one_chg h.s _, tg_lt h.x hg _, tg_lt h.z hg _⟩
  | flip c => exact ⟨one_chg h.s _, h.x, h.z⟩
  | sign c => exact ⟨one_chg h.s _, h.x, h.z⟩
  | follow a b => exact ⟨h.s, tg_lt h.x hg.2.1 _, tg_lt h.z hg.1 _⟩
  | meet a b => exact ⟨one_chg h.s _, h.x, tg_lt (tg_lt h.z hg.2.1 _) hg.1 _⟩
  | swap a b => exact ⟨h.s, swq_lt h.x hg.1 hg.2.1, swq_lt h.z hg.1 hg.2.1⟩
theorem nat_ext {a b : Nat} (h : ∀ i, bt a i = bt b i) : a = b := Nat.eq_of_testBit_eq h
theorem bt_tgg (n c i : Nat) (u : Bool) : bt (tg n c u) i = (bt n i ^^ (u && decide (c = i))) := by
  cases u
  · simp [tg]
  · simp only [tg, if_true]; unfold fl; rw [bt_xor, bt_pw, Bool.true_and]
theorem bt_swq {n a b : Nat} (h : a ≠ b) (i : Nat) : bt (swq n a b) i = if i = a then bt n b else if i = b then bt n a else bt n i := by
  unfold swq
  rw [bt_tgg, bt_tgg]
  by_cases h1 : i = a
  · subst h1
    rw [if_pos rfl, decide_eq_true rfl, decide_eq_false (fun z => h z.symm)]
    cases bt n i <;> cases bt n b <;> rfl
  · rw [if_neg h1, decide_eq_false (fun z => h1 z.symm)]
    by_cases h2 : i = b
    · subst h2
      rw [if_pos rfl, decide_eq_true rfl]
      cases bt n i <;> cases bt n a <;> rfl
    · rw [if_neg h2, decide_eq_false (fun z => h2 z.symm)]
      cases bt n i <;> cases (bt n a ^^ bt n b) <;> rfl
theorem swq_swq {n a b : Nat} (h : a ≠ b) : swq (swq n a b) a b = n := nat_ext fun i => by
  rw [bt_swq h, bt_swq h, bt_swq h, bt_swq h]
  by_cases h1 : i = a
  · subst h1; simp [Ne.symm h]
  · by_cases h2 : i = b
    · subst h2; simp [h, h1]
    · simp [h1, h2]
theorem swq_and {p x a b : Nat} (h : a ≠ b) : swq (p &&& x) a b = swq p a b &&& swq x a b := nat_ext fun i => by
  rw [bt_and, bt_swq h, bt_swq h, bt_swq h, bt_and, bt_and, bt_and]
  split
  · rfl
  · split <;> rfl
theorem par_swq : ∀ n : Nat, n < 64 → ∀ a : Nat, a < 6 → ∀ b : Nat, b < 6 → a ≠ b → par (swq n a b) = par n := by decide +kernel
end TC
namespace TC
open PySem L2
noncomputable def bN (b : Bool) : Nat := if b = true then 1 else 0
theorem bitof_is : ∀ n : Nat, n < 64 → ∀ c : Nat, c < 6 → Builtin.bitAnd ((n : Int) / 2 ^ (c : Int).toNat) 1 = (bN (bt n c) : Nat) := by decide +kernel
theorem xN (a b : Bool) : Builtin.bitXor ((bN a : Nat) : Int) ((bN b : Nat) : Int) = (bN (a ^^ b) : Nat) := by rw [bXor]; cases a <;> cases b <;> rfl
theorem aN (a b : Bool) : Builtin.bitAnd ((bN a : Nat) : Int) ((bN b : Nat) : Int) = (bN (a && b) : Nat) := by rw [bAnd]; cases a <;> cases b <;> rfl
theorem xT (n c : Nat) (b : Bool) : Builtin.bitXor (n : Int) (((bN b : Nat) : Int) * 2 ^ (c : Int).toNat) = (tg n c b : Nat) := by
  cases b
  · show Builtin.bitXor (n : Int) (((0 : Nat) : Int) * 2 ^ (c : Int).toNat) = _
    rw [show ((0 : Nat) : Int) * 2 ^ (c : Int).toNat = ((0 : Nat) : Int) from Int.zero_mul _, bXor, Nat.xor_zero]; rfl
  · show Builtin.bitXor (n : Int) ((1 : Int) * 2 ^ (c : Int).toNat) = _
    rw [shl_is, bXor]; rfl
theorem bN_mod (b : Bool) : bN b % 2 = if b then 1 else 0 := by cases b <;> rfl
theorem cpN {m : Nat} (b : Bool) (h : m ≤ 6) : CPow ((bN b : Nat) : Int) (m : Int) := ⟨Int.natCast_nonneg _, by omega, by cases b <;> decide⟩
end TC
namespace TC
open PySem L2
/-- a list turned so far -/
structure Half (xs ys : List Int) (i : Nat) (g : Gt) : Prop where
  l : ys.length = xs.length
  d : ∀ q, q < i → at0 ys q = beh xs q g
  u : ∀ q, i ≤ q → at0 ys q = at0 xs q
noncomputable def low (q c : Nat) : Nat := if bt q c = true then fl q c else q
structure HalfM (xs ys : List Int) (i c : Nat) : Prop where
  l : ys.length = xs.length
  d : ∀ q, q < xs.length → low q c < i → at0 ys q = beh xs q (.mix c)
/-- a list laid so far -/
structure HalfL (xs ys : List Int) (i : Nat) (r : Rw) : Prop where
  l : ys.length = xs.length
  d : ∀ p, p < i → at0 ys (p ^^^ r.x) = snt xs p r
end TC

namespace TC
open PySem L2
/-! ### rows that lie in the heap as tuples; rows moved by rows of gates -/
structure Rws (H : Hp) (m : Nat) (as : List Addr) (rs : List Rw) : Prop where
  l : as.length = rs.length
  g : ∀ (i : Nat) (a : Addr), as[i]? = some a → ∃ r, rs[i]? = some r ∧ H a = some (.tup r.vals) ∧ r.ok m
theorem Rws.same {H H' : Hp} {m : Nat} {as : List Addr} {rs : List Rw} (h : Rws H m as rs) (s : Same H H') : Rws H' m as rs := ⟨h.l, fun i a e => by
  obtain ⟨r, h1, h2, h3⟩ := h.g i a e
  exact ⟨r, h1, s _ _ h2, h3⟩⟩
theorem Rws.cat {H : Hp} {m : Nat} {as bs : List Addr} {rs qs : List Rw} (h : Rws H m as rs) (h' : Rws H m bs qs) : Rws H m (as ++ bs) (rs ++ qs) := by
  refine ⟨by rw [List.length_append, List.length_append, h.l, h'.l], fun i a e => ?_⟩
  rcases Nat.lt_or_ge i as.length with hi | hi
  · rw [List.getElem?_append_left hi] at e
    obtain ⟨r, h1, h2⟩ := h.g i a e
    exact ⟨r, by rw [List.getElem?_append_left (h.l ▸ hi)]; exact h1, h2⟩
  · rw [List.getElem?_append_right hi] at e
    obtain ⟨r, h1, h2⟩ := h'.g _ a e
    exact ⟨r, by rw [List.getElem?_append_right (h.l ▸ hi), ← h.l]; exact h1, h2⟩
theorem Rws.app {H : Hp} {m : Nat} {as : List Addr} {rs : List Rw} (h : Rws H m as rs) {a : Addr} {r : Rw} (e : H a = some (.tup r.vals)) (ok : r.ok m) : Rws H m (as ++ [a]) (rs ++ [r]) :=
  h.cat ⟨rfl, fun i x z => by
    cases i with
    | zero => cases z; exact ⟨r, rfl, e, ok⟩
    | succ i => cases z⟩
theorem Rws.get {H : Hp} {m : Nat} {as : List Addr} {rs : List Rw} (h : Rws H m as rs) {i : Nat} (hi : i < rs.length) : ∃ a r, as[i]? = some a ∧ rs[i]? = some r ∧ H a = some (.tup r.vals) ∧ r.ok m := by
  have : i < as.length := by rw [h.l]; exact hi
  obtain ⟨r, h1, h2, h3⟩ := h.g i as[i] (List.getElem?_eq_getElem this)
  exact ⟨as[i], r, List.getElem?_eq_getElem this, h1, h2, h3⟩
noncomputable def mvs (gs : List Gt) (r : Rw) : Rw := gs.foldl mvd r
theorem mvs_nil (rs : List Rw) : rs.map (mvs []) = rs := List.map_id'' (fun _ => rfl) rs
theorem mvs_take {gs : List Gt} {g : Gt} {i : Nat} (h : gs[i]? = some g) : mvs (gs.take (i + 1)) = (mvd · g) ∘ mvs (gs.take i) := by
  funext r
  show List.foldl mvd r (gs.take (i + 1)) = mvd (List.foldl mvd r (gs.take i)) g
  rw [List.take_add_one, h, List.foldl_append]; rfl
theorem mvs_ok {m : Nat} : ∀ {gs : List Gt} {r : Rw}, r.ok m → (∀ g ∈ gs, g.ok m) → (mvs gs r).ok m
  | [], _, h, _ => h
  | g :: gs, r, h, hg => mvs_ok (gs := gs) (mvd_ok h (hg g (List.mem_cons_self ..))) fun x hx => hg x (List.mem_cons_of_mem _ hx)
/-- the rows of no gates -/
noncomputable def lets (m : Nat) : List Rw := ((List.range m).map fun c => ⟨1, 2 ^ c, 0⟩) ++ (List.range m).map fun c => ⟨1, 0, 2 ^ c⟩
theorem lets_length (m : Nat) : (lets m).length = 2 * m := by unfold lets; simp; omega
theorem lets_x {m c : Nat} (h : c < m) : (lets m)[c]? = some ⟨1, 2 ^ c, 0⟩ := by
  unfold lets
  rw [List.getElem?_append_left (by simpa using h), List.getElem?_map, List.getElem?_range h]; rfl
theorem lets_z {m c : Nat} (h : c < m) : (lets m)[c + m]? = some ⟨1, 0, 2 ^ c⟩ := by
  unfold lets
  rw [List.getElem?_append_right (by simp), List.getElem?_map]
  simp [List.getElem?_range h]
theorem lets_ok {m : Nat} {r : Rw} (h : r ∈ lets m) : r.ok m := by
  unfold lets at h
  rcases List.mem_append.mp h with h | h <;> obtain ⟨c, hc, rfl⟩ := List.mem_map.mp h
  · exact ⟨.inl rfl, Nat.pow_lt_pow_right (by decide) (List.mem_range.mp hc), Nat.two_pow_pos m⟩
  · exact ⟨.inl rfl, Nat.two_pow_pos m, Nat.pow_lt_pow_right (by decide) (List.mem_range.mp hc)⟩
/-- lists turned by gates, undivided -/
noncomputable def gaps (gs : List Gt) (xs : List Int) : List Int := gs.foldl (fun ys g => gap g ys) xs
end TC

namespace TC
open PySem L2
/-! ### making gates for a table of images -/
theorem tg_tg (n c : Nat) (u : Bool) : tg (tg n c u) c u = n := by cases u <;> simp [tg, fl_fl]
theorem tg_fl (n c d : Nat) (u : Bool) : tg (fl n d) c u = fl (tg n c u) d := by
  cases u
  · rfl
  · show fl (fl n d) c = fl (fl n c) d
    unfold fl; rw [Nat.xor_assoc, Nat.xor_comm (2 ^ d), ← Nat.xor_assoc]
theorem tg_comm (n c d : Nat) (u v : Bool) : tg (tg n c u) d v = tg (tg n d v) c u := by
  cases v
  · rfl
  · exact (tg_fl n c d u).symm
/-- each gate undoes itself -/
theorem mvd_mvd {m : Nat} {g : Gt} (hg : g.ok m) (r : Rw) : mvd (mvd r g) g = r := by
  obtain ⟨s, x, z⟩ := r
  cases g with
  | mix c =>
    show Rw.mk _ _ _ = _
    simp only [mvd, bt_tg]
    congr 1
    · cases bt x c <;> cases bt z c <;> simp [chg]
    · rw [show ((bt x c ^^ (bt x c ^^ bt z c)) ^^ (bt z c ^^ (bt x c ^^ bt z c))) = (bt x c ^^ bt z c) by cases bt x c <;> cases bt z c <;> rfl, tg_tg]
    · rw [show ((bt x c ^^ (bt x c ^^ bt z c)) ^^ (bt z c ^^ (bt x c ^^ bt z c))) = (bt x c ^^ bt z c) by cases bt x c <;> cases bt z c <;> rfl, tg_tg]
  | flip c =>
    show Rw.mk _ _ _ = _
    simp only [mvd]
    congr 1
    cases bt z c <;> simp [chg]
  | sign c =>
    show Rw.mk _ _ _ = _
    simp only [mvd]
    congr 1
    cases bt x c <;> simp [chg]
  | follow a b =>
    obtain ⟨_, _, hne⟩ := hg
    show Rw.mk _ _ _ = _
    simp only [mvd, bt_tg_ne hne, bt_tg_ne (Ne.symm hne), tg_tg]
  | meet a b =>
    obtain ⟨_, _, hne⟩ := hg
    show Rw.mk _ _ _ = _
    simp only [mvd]
    congr 1
    · cases bt x a <;> cases bt x b <;> simp [chg]
    · rw [tg_comm _ b a, tg_tg, tg_tg]
  | swap a b =>
    obtain ⟨_, _, hne⟩ := hg
    show Rw.mk _ _ _ = _
    simp only [mvd, swq_swq hne]
theorem mvs_append (gs hs : List Gt) (r : Rw) : mvs (gs ++ hs) r = mvs hs (mvs gs r) := by unfold mvs; rw [List.foldl_append]
theorem mvs_rev {m : Nat} : ∀ {gs : List Gt}, (∀ g ∈ gs, g.ok m) → ∀ r : Rw, mvs gs.reverse (mvs gs r) = r
  | [], _, _ => rfl
  | g :: gs, h, r => by
    rw [List.reverse_cons, mvs_append]
    show mvs [g] (mvs gs.reverse (mvs gs (mvd r g))) = r
    rw [mvs_rev (gs := gs) fun x hx => h x (List.mem_cons_of_mem _ hx)]
    exact mvd_mvd (h g (List.mem_cons_self ..)) r
/-- moving keeps what agrees -/
noncomputable def sy (a b : Rw) : Bool := par (a.x &&& b.z) ^^ par (a.z &&& b.x)
theorem agr_sy (a b : Rw) : agr a b = !sy a b := by unfold agr sy; cases par (a.x &&& b.z) <;> cases par (a.z &&& b.x) <;> rfl
theorem sy_mvd {m : Nat} (hm : m ≤ 6) {a b : Rw} (ha : a.ok m) (hb : b.ok m) {g : Gt} (hg : g.ok m) : sy (mvd a g) (mvd b g) = sy a b := by
  cases g with
  | mix c =>
    have hc : c < 6 := Nat.lt_of_lt_of_le hg hm
    simp only [sy, mvd, par_tl hc, par_tr hc, bt_tg]
    generalize par (a.x &&& b.z) = p
    generalize par (a.z &&& b.x) = q
    have e1 : par (a.x &&& b.z) = par (a.x &&& b.z) := rfl
    cases bt a.x c <;> cases bt a.z c <;> cases bt b.x c <;> cases bt b.z c <;> cases p <;> cases q <;> rfl
  | flip c => rfl
  | sign c => rfl
  | follow c d =>
    obtain ⟨h1, h2, hne⟩ := hg
    have hc : c < 6 := by omega
    have hd : d < 6 := by omega
    simp only [sy, mvd, par_tl hc, par_tr hc, par_tl hd, par_tr hd, bt_tg_ne hne, bt_tg_ne (Ne.symm hne)]
    generalize par (a.x &&& b.z) = p
    generalize par (a.z &&& b.x) = q
    cases bt a.x c <;> cases bt a.z d <;> cases bt b.x c <;> cases bt b.z d <;> cases p <;> cases q <;> rfl
  | meet c d =>
    obtain ⟨h1, h2, hne⟩ := hg
    have hc : c < 6 := by omega
    have hd : d < 6 := by omega
    simp only [sy, mvd, par_tl hc, par_tr hc, par_tl hd, par_tr hd]
    generalize par (a.x &&& b.z) = p
    generalize par (a.z &&& b.x) = q
    cases bt a.x c <;> cases bt a.x d <;> cases bt b.x c <;> cases bt b.x d <;> cases p <;> cases q <;> rfl
  | swap c d =>
    obtain ⟨h1, h2, hne⟩ := hg
    have hl : ∀ u v : Nat, u < 2 ^ m → par (swq u c d &&& swq v c d) = par (u &&& v) := fun u v hu => by
      rw [← swq_and hne, par_swq _ (Nat.lt_of_le_of_lt Nat.and_le_left (le64 hm hu)) c (by omega) d (by omega) hne]
    simp only [sy, mvd, hl _ _ ha.x, hl _ _ ha.z]
theorem evn_mvd {m : Nat} (hm : m ≤ 6) {a : Rw} (ha : a.ok m) {g : Gt} (hg : g.ok m) : evn (mvd a g) = evn a := by
  cases g with
  | mix c =>
    have hc : c < 6 := Nat.lt_of_lt_of_le hg hm
    simp only [evn, mvd, par_tl hc, par_tr hc, bt_tg]
    generalize par (a.x &&& a.z) = p
    cases bt a.x c <;> cases bt a.z c <;> cases p <;> rfl
  | flip c => rfl
  | sign c => rfl
  | follow c d =>
    obtain ⟨h1, h2, hne⟩ := hg
    have hc : c < 6 := by omega
    have hd : d < 6 := by omega
    simp only [evn, mvd, par_tl hd, par_tr hc, bt_tg_ne (Ne.symm hne)]
    generalize par (a.x &&& a.z) = p
    cases bt a.x c <;> cases bt a.z d <;> cases p <;> rfl
  | meet c d =>
    obtain ⟨h1, h2, hne⟩ := hg
    have hc : c < 6 := by omega
    have hd : d < 6 := by omega
    simp only [evn, mvd, par_tr hc, par_tr hd]
    generalize par (a.x &&& a.z) = p
    cases bt a.x c <;> cases bt a.x d <;> cases p <;> rfl
  | swap c d =>
    obtain ⟨h1, h2, hne⟩ := hg
    simp only [evn, mvd]
    rw [← swq_and hne, par_swq _ (Nat.lt_of_le_of_lt Nat.and_le_left (le64 hm ha.x)) c (by omega) d (by omega) hne]
end TC
namespace TC
open PySem L2
/-- gates that leave a row as it is -/
noncomputable def still (t : Rw) : Gt → Prop
  | .mix c => bt t.x c = false ∧ bt t.z c = false
  | .flip c => bt t.z c = false
  | .sign c => bt t.x c = false
  | .follow a b => bt t.x a = false ∧ bt t.z b = false
  | .meet a b => bt t.x a = false ∧ bt t.x b = false
  | .swap a b => bt t.x a = false ∧ bt t.x b = false ∧ bt t.z a = false ∧ bt t.z b = false
theorem mvd_still {t : Rw} {g : Gt} (h : still t g) : mvd t g = t := by
  obtain ⟨s, x, z⟩ := t
  cases g with
  | mix c => obtain ⟨h1, h2⟩ := h; simp only at h1 h2; simp [mvd, h1, h2, chg, tg]
  | flip c => simp only [still] at h; simp [mvd, h, chg]
  | sign c => simp only [still] at h; simp [mvd, h, chg]
  | follow a b => obtain ⟨h1, h2⟩ := h; simp only at h1 h2; simp [mvd, h1, h2, tg]
  | meet a b => obtain ⟨h1, h2⟩ := h; simp only at h1 h2; simp [mvd, h1, h2, chg, tg]
  | swap a b => obtain ⟨h1, h2, h3, h4⟩ := h; simp only at h1 h2 h3 h4; simp [mvd, swq, h1, h2, h3, h4, tg]
theorem mvs_still {t : Rw} : ∀ {gs : List Gt}, (∀ g ∈ gs, still t g) → mvs gs t = t
  | [], _ => rfl
  | g :: gs, h => by
    show mvs gs (mvd t g) = t
    rw [mvd_still (h g (List.mem_cons_self ..))]
    exact mvs_still fun x hx => h x (List.mem_cons_of_mem _ hx)
/-- meets of two and two -/
noncomputable def meetsP : List Nat → List Gt
  | a :: b :: l => .meet a b :: meetsP l
  | _ => []
noncomputable def evs : List Nat → List Nat
  | a :: b :: l => a :: b :: evs l
  | _ => []
noncomputable def lft : List Nat → List Nat
  | _ :: _ :: l => lft l
  | l => l
theorem evs_lft : ∀ L : List Nat, evs L ++ lft L = L
  | [] => rfl
  | [_] => rfl
  | a :: b :: l => by show a :: b :: (evs l ++ lft l) = _; rw [evs_lft l]
theorem lft_len : ∀ L : List Nat, (lft L).length = L.length % 2
  | [] => rfl
  | [_] => rfl
  | a :: b :: l => by show (lft l).length = (l.length + 1 + 1) % 2; rw [lft_len l]; omega
theorem meetsP_len : ∀ L : List Nat, (meetsP L).length = L.length / 2
  | [] => rfl
  | [_] => by show 0 = (0 + 1) / 2; decide
  | a :: b :: l => by show (meetsP l).length + 1 = (l.length + 1 + 1) / 2; rw [meetsP_len l]; omega
theorem meetsP_mem : ∀ {L : List Nat} {g : Gt}, L.Nodup → g ∈ meetsP L → ∃ a b, g = .meet a b ∧ a ∈ L ∧ b ∈ L ∧ a ≠ b
  | [], _, _, h => nomatch h
  | [_], _, _, h => nomatch h
  | a :: b :: l, g, hn, h => by
    rcases List.mem_cons.mp h with rfl | h
    · exact ⟨a, b, rfl, List.mem_cons_self .., List.mem_cons_of_mem _ (List.mem_cons_self ..), fun e => by
        have := (List.nodup_cons.mp hn).1
        rw [e] at this; exact this (List.mem_cons_self ..)⟩
    · obtain ⟨c, d, e, h1, h2, h3⟩ := meetsP_mem (L := l) (List.nodup_cons.mp (List.nodup_cons.mp hn).2).2 h
      exact ⟨c, d, e, List.mem_cons_of_mem _ (List.mem_cons_of_mem _ h1), List.mem_cons_of_mem _ (List.mem_cons_of_mem _ h2), h3⟩
theorem meetsP_bits : ∀ {L : List Nat} (r : Rw), L.Nodup → (∀ c ∈ L, bt r.x c = true) → (mvs (meetsP L) r).x = r.x ∧ ∀ i, bt (mvs (meetsP L) r).z i = (bt r.z i ^^ decide (i ∈ evs L))
  | [], r, _, _ => ⟨rfl, fun i => by show bt r.z i = (bt r.z i ^^ decide (i ∈ ([] : List Nat))); simp⟩
  | [_], r, _, _ => ⟨rfl, fun i => by show bt r.z i = (bt r.z i ^^ decide (i ∈ ([] : List Nat))); simp⟩
  | a :: b :: l, r, hn, hx => by
    have ha := hx a (List.mem_cons_self ..)
    have hb := hx b (List.mem_cons_of_mem _ (List.mem_cons_self ..))
    have ih := meetsP_bits (L := l) (mvd r (.meet a b)) (List.nodup_cons.mp (List.nodup_cons.mp hn).2).2 (fun c hc => hx c (List.mem_cons_of_mem _ (List.mem_cons_of_mem _ hc)))
    refine ⟨ih.1, fun i => ?_⟩
    show bt (mvs (meetsP l) (mvd r (.meet a b))).z i = (bt r.z i ^^ decide (i ∈ a :: b :: evs l))
    rw [ih.2 i]
    show (bt (tg (tg r.z b (bt r.x a)) a (bt r.x b)) i ^^ decide (i ∈ evs l)) = _
    rw [ha, hb, bt_tgg, bt_tgg, Bool.true_and, Bool.true_and]
    have hab : a ≠ b := fun e => (List.nodup_cons.mp hn).1 (e ▸ List.mem_cons_self ..)
    have sub : ∀ j, j ∈ evs l → j ∈ l := fun j hj => by rw [← evs_lft l]; exact List.mem_append_left _ hj
    have na : a ∉ evs l := fun h => (List.nodup_cons.mp hn).1 (List.mem_cons_of_mem _ (sub a h))
    have nb : b ∉ evs l := fun h => (List.nodup_cons.mp (List.nodup_cons.mp hn).2).1 (sub b h)
    by_cases e1 : a = i
    · subst e1; simp [na, Ne.symm hab]
    · by_cases e2 : b = i
      · subst e2; simp [nb, e1]
      · simp [e1, e2, Ne.symm e1, Ne.symm e2]
theorem mix_bits {r : Rw} {c i : Nat} : bt (mvd r (.mix c)).x i = (if i = c then bt r.z c else bt r.x i) ∧ bt (mvd r (.mix c)).z i = (if i = c then bt r.x c else bt r.z i) := by
  show bt (tg r.x c _) i = _ ∧ bt (tg r.z c _) i = _
  rw [bt_tgg, bt_tgg]
  by_cases e : i = c
  · subst e; simp only [decide_true, Bool.and_true, if_true]
    cases bt r.x i <;> cases bt r.z i <;> exact ⟨rfl, rfl⟩
  · rw [if_neg e, if_neg e, decide_eq_false (fun z => e z.symm)]; simp
theorem mixes_bits : ∀ {L : List Nat} (r : Rw), L.Nodup → ∀ i, bt (mvs (L.map .mix) r).x i = (if i ∈ L then bt r.z i else bt r.x i) ∧ bt (mvs (L.map .mix) r).z i = (if i ∈ L then bt r.x i else bt r.z i)
  | [], r, _, i => by show bt r.x i = _ ∧ bt r.z i = _; simp
  | c :: l, r, hn, i => by
    have ih := mixes_bits (L := l) (mvd r (.mix c)) (List.nodup_cons.mp hn).2 i
    show bt (mvs (l.map .mix) (mvd r (.mix c))).x i = _ ∧ bt (mvs (l.map .mix) (mvd r (.mix c))).z i = _
    rw [ih.1, ih.2, mix_bits.1, mix_bits.2]
    by_cases e : i = c
    · subst e; simp [(List.nodup_cons.mp hn).1]
    · simp [e]
theorem follow_bits {r : Rw} {a b i : Nat} : bt (mvd r (.follow a b)).x i = (bt r.x i ^^ (bt r.x a && decide (b = i))) ∧ bt (mvd r (.follow a b)).z i = (bt r.z i ^^ (bt r.z b && decide (a = i))) := by
  show bt (tg r.x b _) i = _ ∧ bt (tg r.z a _) i = _
  rw [bt_tgg, bt_tgg]; exact ⟨rfl, rfl⟩
/-- one leads all -/
theorem lead_bits {a : Nat} : ∀ {L : List Nat} (r : Rw), L.Nodup → a ∉ L → (∀ c ∈ L, bt r.z c = false) → (∀ i, bt (mvs (L.map (.follow a)) r).z i = bt r.z i) ∧ ∀ i, bt (mvs (L.map (.follow a)) r).x i = (bt r.x i ^^ (bt r.x a && decide (i ∈ L)))
  | [], r, _, _, _ => ⟨fun _ => rfl, fun i => by show bt r.x i = _; simp⟩
  | c :: l, r, hn, ha, hz => by
    have hc := hz c (List.mem_cons_self ..)
    have hac : a ≠ c := fun e => ha (e ▸ List.mem_cons_self ..)
    have ez : ∀ i, bt (mvd r (.follow a c)).z i = bt r.z i := fun i => by rw [follow_bits.2, hc]; simp
    have ih := lead_bits (a := a) (L := l) (mvd r (.follow a c)) (List.nodup_cons.mp hn).2 (fun h => ha (List.mem_cons_of_mem _ h)) (fun d hd => by rw [ez]; exact hz d (List.mem_cons_of_mem _ hd))
    refine ⟨fun i => (ih.1 i).trans (ez i), fun i => ?_⟩
    show bt (mvs (l.map (.follow a)) (mvd r (.follow a c))).x i = _
    have ea : bt (mvd r (.follow a c)).x a = bt r.x a := by rw [follow_bits.1, decide_eq_false (fun e => hac e.symm)]; simp
    rw [ih.2 i, ea, follow_bits.1]
    by_cases e : i = c
    · subst e; simp [(List.nodup_cons.mp hn).1]
    · simp [e, Ne.symm e]
/-- all lead one -/
theorem led_bits {k : Nat} : ∀ {L : List Nat} (r : Rw), L.Nodup → k ∉ L → (∀ c ∈ L, bt r.x c = false) → (∀ i, bt (mvs (L.map (.follow · k)) r).x i = bt r.x i) ∧ ∀ i, bt (mvs (L.map (.follow · k)) r).z i = (bt r.z i ^^ (bt r.z k && decide (i ∈ L)))
  | [], r, _, _, _ => ⟨fun _ => rfl, fun i => by show bt r.z i = _; simp⟩
  | c :: l, r, hn, hk, hx => by
    have hc := hx c (List.mem_cons_self ..)
    have hkc : k ≠ c := fun e => hk (e ▸ List.mem_cons_self ..)
    have ex : ∀ i, bt (mvd r (.follow c k)).x i = bt r.x i := fun i => by rw [follow_bits.1, hc]; simp
    have ih := led_bits (k := k) (L := l) (mvd r (.follow c k)) (List.nodup_cons.mp hn).2 (fun h => hk (List.mem_cons_of_mem _ h)) (fun d hd => by rw [ex]; exact hx d (List.mem_cons_of_mem _ hd))
    refine ⟨fun i => (ih.1 i).trans (ex i), fun i => ?_⟩
    show bt (mvs (l.map (.follow · k)) (mvd r (.follow c k))).z i = _
    have ea : bt (mvd r (.follow c k)).z k = bt r.z k := by rw [follow_bits.2, decide_eq_false (fun e => hkc e.symm)]; simp
    rw [ih.2 i, ea, follow_bits.2]
    by_cases e : i = c
    · subst e; simp [(List.nodup_cons.mp hn).1]
    · simp [e, Ne.symm e]
end TC

namespace TC
open PySem L2
noncomputable def cw (n : Nat) : List Nat := (List.range 6).filter (bt n)
theorem cw_nodup (n : Nat) : (cw n).Nodup := List.Nodup.sublist (List.filter_sublist ..) List.nodup_range
theorem bt_lt {n i : Nat} (h : n < 64) (e : bt n i = true) : i < 6 := by
  refine Decidable.by_contra fun hi => ?_
  have : n.testBit i = false := Nat.testBit_lt_two_pow (Nat.lt_of_lt_of_le h (show 2 ^ 6 ≤ 2 ^ i from Nat.pow_le_pow_right (by decide) (by omega)))
  unfold bt at e
  rw [this] at e; cases e
theorem mem_cw {n i : Nat} (h : n < 64) : i ∈ cw n ↔ bt n i = true := by
  unfold cw
  rw [List.mem_filter, List.mem_range]
  exact ⟨fun z => z.2, fun z => ⟨bt_lt h z, z⟩⟩
theorem dec_cw {n i : Nat} (h : n < 64) : decide (i ∈ cw n) = bt n i := by
  cases e : bt n i with
  | true => exact decide_eq_true ((mem_cw h).mpr e)
  | false => exact decide_eq_false fun z => by rw [(mem_cw h).mp z] at e; cases e
theorem cw_len (n : Nat) : (cw n).length ≤ 6 := Nat.le_trans (List.length_filter_le ..) (Nat.le_of_eq List.length_range)
theorem cw_par : ∀ n : Nat, n < 64 → (cw n).length % 2 = (par n).toNat := by decide +kernel
noncomputable def Gt.al (P : Nat → Prop) : Gt → Prop
  | .mix c => P c
  | .flip c => P c
  | .sign c => P c
  | .follow a b => P a ∧ P b ∧ a ≠ b
  | .meet a b => P a ∧ P b ∧ a ≠ b
  | .swap a b => P a ∧ P b ∧ a ≠ b
theorem al_still {t : Rw} {g : Gt} (h : g.al fun i => bt t.x i = false ∧ bt t.z i = false) : still t g := by
  cases g with
  | mix c => exact h
  | flip c => exact h.2
  | sign c => exact h.1
  | follow a b => exact ⟨h.1.1, h.2.1.2⟩
  | meet a b => exact ⟨h.1.1, h.2.1.1⟩
  | swap a b => exact ⟨h.1.1, h.2.1.1, h.1.2, h.2.1.2⟩
noncomputable def tox (r : Rw) (k : Nat) : List Gt :=
  meetsP (cw (r.x &&& r.z)) ++ (cw (r.z ^^^ (r.x &&& r.z))).map .mix ++ (cw (r.x ||| r.z)).tail.map (.follow ((cw (r.x ||| r.z)).headD 0)) ++
    (if (cw (r.x ||| r.z)).headD 0 ≠ k then [.swap ((cw (r.x ||| r.z)).headD 0) k] else [])
theorem and64 {a b : Nat} (h : a < 64) : a &&& b < 64 := Nat.lt_of_le_of_lt Nat.and_le_left h
theorem or64 {a b : Nat} (h : a < 64) (h' : b < 64) : a ||| b < 64 := Nat.or_lt_two_pow (n := 6) h h'
theorem xor64 {a b : Nat} (h : a < 64) (h' : b < 64) : a ^^^ b < 64 := Nat.xor_lt_two_pow (n := 6) h h'
theorem head_tail {L : List Nat} (h : L ≠ []) : L = L.headD 0 :: L.tail := by cases L with | nil => exact absurd rfl h | cons a l => rfl
theorem tox_bits {r : Rw} (hx : r.x < 64) (hz : r.z < 64) (he : evn r = true) (h0 : cw (r.x ||| r.z) ≠ []) (k : Nat) : (mvs (tox r k) r).x = 2 ^ k ∧ (mvs (tox r k) r).z = 0 := by
  unfold tox
  rw [mvs_append, mvs_append, mvs_append]
  have hxz := and64 (b := r.z) hx
  have hev : lft (cw (r.x &&& r.z)) = [] := by
    apply List.eq_nil_of_length_eq_zero
    rw [lft_len, cw_par _ hxz]
    have : par (r.x &&& r.z) = false := by simpa [evn] using he
    rw [this]; rfl
  have hevs : evs (cw (r.x &&& r.z)) = cw (r.x &&& r.z) := by
    have := evs_lft (cw (r.x &&& r.z))
    rw [hev, List.append_nil] at this
    exact this
  obtain ⟨b1, b2⟩ := meetsP_bits r (cw_nodup (r.x &&& r.z)) (fun c hc => by have := (mem_cw hxz).mp hc; rw [bt_and] at this; exact (Bool.and_eq_true_iff.mp this).1)
  have c2 : ∀ i, bt (mvs (meetsP (cw (r.x &&& r.z))) r).z i = (bt r.z i && !bt r.x i) := fun i => by
    rw [b2 i, hevs, dec_cw hxz, bt_and]
    cases bt r.x i <;> cases bt r.z i <;> rfl
  generalize mvs (meetsP (cw (r.x &&& r.z))) r = r1 at b1 c2 ⊢
  have hm := xor64 hz hxz
  have d := mixes_bits r1 (cw_nodup (r.z ^^^ (r.x &&& r.z)))
  have dx : ∀ i, bt (mvs ((cw (r.z ^^^ (r.x &&& r.z))).map .mix) r1).x i = (bt r.x i || bt r.z i) := fun i => by
    rw [(d i).1, c2 i, b1]
    by_cases hi : i ∈ cw (r.z ^^^ (r.x &&& r.z))
    · rw [if_pos hi]
      have := (mem_cw hm).mp hi
      rw [bt_xor, bt_and] at this
      revert this; cases bt r.x i <;> cases bt r.z i <;> decide
    · rw [if_neg hi]
      have : ¬ bt (r.z ^^^ (r.x &&& r.z)) i = true := fun z => hi ((mem_cw hm).mpr z)
      rw [bt_xor, bt_and] at this
      revert this; cases bt r.x i <;> cases bt r.z i <;> decide
  have dz : ∀ i, bt (mvs ((cw (r.z ^^^ (r.x &&& r.z))).map .mix) r1).z i = false := fun i => by
    rw [(d i).2, c2 i, b1]
    by_cases hi : i ∈ cw (r.z ^^^ (r.x &&& r.z))
    · rw [if_pos hi]
      have := (mem_cw hm).mp hi
      rw [bt_xor, bt_and] at this
      revert this; cases bt r.x i <;> cases bt r.z i <;> decide
    · rw [if_neg hi]
      have : ¬ bt (r.z ^^^ (r.x &&& r.z)) i = true := fun z => hi ((mem_cw hm).mpr z)
      rw [bt_xor, bt_and] at this
      revert this; cases bt r.x i <;> cases bt r.z i <;> decide
  clear d c2 b1 b2
  generalize mvs ((cw (r.z ^^^ (r.x &&& r.z))).map .mix) r1 = r2 at dx dz ⊢
  have hor := or64 hx hz
  have mem : ∀ i, bt r2.x i = decide (i ∈ cw (r.x ||| r.z)) := fun i => by rw [dx, dec_cw hor, bt_or]
  have hnd := cw_nodup (r.x ||| r.z)
  generalize cw (r.x ||| r.z) = t at mem hnd h0 ⊢
  obtain ⟨a, l, rfl⟩ : ∃ a l, t = a :: l := ⟨_, _, head_tail h0⟩
  show (mvs (if a ≠ k then [.swap a k] else []) (mvs (l.map (.follow a)) r2)).x = _ ∧ _
  obtain ⟨hal, hl⟩ := List.nodup_cons.mp hnd
  obtain ⟨e1, e2⟩ := lead_bits (a := a) r2 hl hal fun c _ => dz c
  have ex : (mvs (l.map (.follow a)) r2).x = 2 ^ a := nat_ext fun i => by
    rw [e2 i, mem, mem, bt_pw]
    by_cases h : a = i
    · subst h; simp [hal]
    · simp [h, Ne.symm h]
  have ez : (mvs (l.map (.follow a)) r2).z = 0 := nat_ext fun i => by
    rw [e1 i, dz i]; unfold bt; rw [Nat.zero_testBit]
  show (mvs (if a ≠ k then [.swap a k] else []) (mvs (l.map (.follow a)) r2)).x = _ ∧ (mvs (if a ≠ k then [.swap a k] else []) (mvs (l.map (.follow a)) r2)).z = _
  generalize mvs (l.map (.follow a)) r2 = r3 at ex ez ⊢
  by_cases h : a = k
  · subst h
    rw [if_neg (by simp)]
    exact ⟨ex, ez⟩
  · rw [if_pos h]
    show swq r3.x a k = _ ∧ swq r3.z a k = _
    rw [ex, ez]
    constructor
    · refine nat_ext fun i => ?_
      rw [bt_swq h, bt_pw, bt_pw, bt_pw, bt_pw]
      by_cases h1 : i = a
      · subst h1; simp [h, Ne.symm h]
      · by_cases h2 : i = k
        · subst h2; simp [h1]
        · simp [h1, h2, Ne.symm h1, Ne.symm h2]
    · refine nat_ext fun i => ?_
      rw [bt_swq h]
      unfold bt
      simp
theorem tox_al {r : Rw} (hx : r.x < 64) (hz : r.z < 64) (h0 : cw (r.x ||| r.z) ≠ []) {k : Nat} {P : Nat → Prop} (h : ∀ i, bt (r.x ||| r.z) i = true → P i) (hk : P k) : ∀ g ∈ tox r k, g.al P := by
  intro g hg
  have hor := or64 hx hz
  have hP : ∀ i ∈ cw (r.x ||| r.z), P i := fun i hi => h i ((mem_cw hor).mp hi)
  unfold tox at hg
  rcases List.mem_append.mp hg with hg | hg
  · rcases List.mem_append.mp hg with hg | hg
    · rcases List.mem_append.mp hg with hg | hg
      · obtain ⟨a, b, rfl, ha, hb, hne⟩ := meetsP_mem (cw_nodup _) hg
        have q : ∀ i, i ∈ cw (r.x &&& r.z) → P i := fun i hi => h i (by
          have := (mem_cw (and64 hx)).mp hi
          rw [bt_and] at this
          rw [bt_or, (Bool.and_eq_true_iff.mp this).1]; rfl)
        exact ⟨q a ha, q b hb, hne⟩
      · obtain ⟨c, hc, rfl⟩ := List.mem_map.mp hg
        refine h c ?_
        have := (mem_cw (xor64 hz (and64 hx))).mp hc
        rw [bt_xor, bt_and] at this
        rw [bt_or]
        revert this; cases bt r.x c <;> cases bt r.z c <;> decide
    · obtain ⟨c, hc, rfl⟩ := List.mem_map.mp hg
      have e := head_tail h0
      have hnd := cw_nodup (r.x ||| r.z)
      rw [e] at hnd
      have hh : (cw (r.x ||| r.z)).headD 0 ∈ cw (r.x ||| r.z) := by rw [e]; exact List.mem_cons_self ..
      have hcc : c ∈ cw (r.x ||| r.z) := List.mem_of_mem_tail hc
      exact ⟨hP _ hh, hP _ hcc, fun z => (List.nodup_cons.mp hnd).1 (z ▸ hc)⟩
  · by_cases hk' : (cw (r.x ||| r.z)).headD 0 = k
    · rw [if_neg (fun z => z hk')] at hg; cases hg
    · rw [if_pos hk'] at hg
      have := List.mem_singleton.mp hg
      subst this
      have hh : (cw (r.x ||| r.z)).headD 0 ∈ cw (r.x ||| r.z) := by rw [head_tail h0]; exact List.mem_cons_self ..
      exact ⟨hP _ hh, hk, hk'⟩
theorem tox_len (r : Rw) (k : Nat) : (tox r k).length ≤ 15 := by
  unfold tox
  rw [List.length_append, List.length_append, List.length_append, meetsP_len, List.length_map, List.length_map, List.length_tail]
  have a := cw_len (r.x &&& r.z)
  have b := cw_len (r.z ^^^ (r.x &&& r.z))
  have c := cw_len (r.x ||| r.z)
  have d : (if (cw (r.x ||| r.z)).headD 0 ≠ k then [Gt.swap ((cw (r.x ||| r.z)).headD 0) k] else []).length ≤ 1 := by split <;> simp
  omega
end TC
namespace TC
open PySem L2
/-- the bits elsewhere -/
noncomputable def ws (n k : Nat) : Nat := tg n k (bt n k)
theorem bt_ws (n k i : Nat) : bt (ws n k) i = (bt n i && !decide (k = i)) := by
  unfold ws
  rw [bt_tgg]
  by_cases h : k = i
  · subst h; cases bt n k <;> simp
  · simp [h]
theorem ws64 {n k : Nat} (h : n < 64) (hk : k < 6) : ws n k < 64 := tg_lt (m := 6) h hk _
theorem ws_and (x z k : Nat) : ws x k &&& ws z k = ws (x &&& z) k := nat_ext fun i => by
  rw [bt_and, bt_ws, bt_ws, bt_ws, bt_and]
  cases bt x i <;> cases bt z i <;> cases decide (k = i) <;> rfl
theorem cw_ws : ∀ n : Nat, n < 64 → ∀ k : Nat, k < 6 → (cw (ws n k)).length % 2 = (par n ^^ bt n k).toNat := by decide +kernel
noncomputable def toz (r : Rw) (k : Nat) : List Gt :=
  meetsP (cw (ws r.x k &&& ws r.z k)) ++ (lft (cw (ws r.x k &&& ws r.z k))).map (.follow · k) ++ (cw (ws r.x k)).map .mix ++ (cw (ws r.x k ||| ws r.z k)).map (.follow · k)
theorem lft_mem {L : List Nat} {i : Nat} (h : i ∈ lft L) : i ∈ L := by rw [← evs_lft L]; exact List.mem_append_right _ h
theorem toz_bits {r : Rw} (hx : r.x < 64) (hz : r.z < 64) (he : evn r = true) {k : Nat} (hk : k < 6) (hzk : bt r.z k = true) : (mvs (toz r k) r).x = 0 ∧ (mvs (toz r k) r).z = 2 ^ k := by
  unfold toz
  rw [mvs_append, mvs_append, mvs_append]
  have hX := ws64 hx hk
  have hZ := ws64 hz hk
  have hB := and64 (b := ws r.z k) hX
  have hnd := cw_nodup (ws r.x k &&& ws r.z k)
  have mb : ∀ i, decide (i ∈ cw (ws r.x k &&& ws r.z k)) = (bt r.x i && bt r.z i && !decide (k = i)) := fun i => by
    rw [dec_cw hB, bt_and, bt_ws, bt_ws]
    cases bt r.x i <;> cases bt r.z i <;> cases decide (k = i) <;> rfl
  have hlen : (cw (ws r.x k &&& ws r.z k)).length % 2 = (bt r.x k).toNat := by
    rw [ws_and, cw_ws _ (and64 hx) k hk, bt_and, hzk]
    have : par (r.x &&& r.z) = false := by simpa [evn] using he
    rw [this]; cases bt r.x k <;> rfl
  have hxb : ∀ c ∈ cw (ws r.x k &&& ws r.z k), bt r.x c = true ∧ k ≠ c := fun c hc => by
    have := mb c
    rw [decide_eq_true hc] at this
    revert this
    by_cases e : k = c
    · simp [e]
    · cases bt r.x c <;> simp [e]
  obtain ⟨b1, b2⟩ := meetsP_bits r hnd fun c hc => (hxb c hc).1
  have hsplit := evs_lft (cw (ws r.x k &&& ws r.z k))
  have hlft := lft_len (cw (ws r.x k &&& ws r.z k))
  rw [hlen] at hlft
  generalize cw (ws r.x k &&& ws r.z k) = b at *
  have two : (∀ i, bt (mvs ((lft b).map (.follow · k)) (mvs (meetsP b) r)).x i = (bt r.x i && !decide (k = i))) ∧ ∀ i, bt (mvs ((lft b).map (.follow · k)) (mvs (meetsP b) r)).z i = (bt r.z i ^^ decide (i ∈ b)) := by
    cases hxk : bt r.x k with
    | false =>
      rw [hxk] at hlft
      have e : lft b = [] := List.eq_nil_of_length_eq_zero hlft
      rw [e, List.append_nil] at hsplit
      rw [e]
      refine ⟨fun i => ?_, fun i => ?_⟩
      · show bt (mvs (meetsP b) r).x i = _
        rw [b1]
        by_cases h : k = i
        · subst h; rw [hxk]; rfl
        · simp [h]
      · show bt (mvs (meetsP b) r).z i = _
        rw [b2, hsplit]
    | true =>
      rw [hxk] at hlft
      obtain ⟨o, e⟩ : ∃ o, lft b = [o] := List.length_eq_one_iff.mp hlft
      have ho : o ∈ b := lft_mem (by rw [e]; exact List.mem_cons_self ..)
      obtain ⟨hox, hok⟩ := hxb o ho
      have hke : k ∉ evs b := fun h => (hxb k (by rw [← hsplit]; exact List.mem_append_left _ h)).2 rfl
      have hoe : o ∉ evs b := fun h => by
        rw [← hsplit, e] at hnd
        exact (List.nodup_append.mp hnd).2.2 o h o (List.mem_cons_self ..) rfl
      rw [e]
      refine ⟨fun i => ?_, fun i => ?_⟩
      · show bt (mvd (mvs (meetsP b) r) (.follow o k)).x i = _
        rw [follow_bits.1, b1, hox]
        by_cases h : k = i
        · subst h; rw [hxk]; simp
        · simp [h]
      · show bt (mvd (mvs (meetsP b) r) (.follow o k)).z i = _
        rw [follow_bits.2, b2, b2, hzk, decide_eq_false hke]
        have hi : decide (i ∈ b) = (decide (i ∈ evs b) ^^ decide (o = i)) := by
          have hb : i ∈ b ↔ i ∈ evs b ∨ o = i := by
            conv => lhs; rw [← hsplit, e, List.mem_append, List.mem_singleton]
            exact ⟨fun z => z.imp id Eq.symm, fun z => z.imp id Eq.symm⟩
          by_cases h : o = i
          · subst h; simp [hoe, ho]
          · by_cases h2 : i ∈ evs b
            · simp [h, h2, hb.mpr (.inl h2)]
            · simp [h, h2, mt hb.mp (fun z => z.elim h2 h)]
        rw [hi]
        cases bt r.z i <;> cases decide (i ∈ evs b) <;> cases decide (o = i) <;> rfl
  obtain ⟨x2, z2⟩ := two
  generalize mvs ((lft b).map (.follow · k)) (mvs (meetsP b) r) = r2 at x2 z2 ⊢
  have d := mixes_bits r2 (cw_nodup (ws r.x k))
  have dx : ∀ i, bt (mvs ((cw (ws r.x k)).map .mix) r2).x i = false := fun i => by
    rw [(d i).1]
    by_cases hi : i ∈ cw (ws r.x k)
    · rw [if_pos hi, z2, mb]
      have := (mem_cw hX).mp hi
      rw [bt_ws] at this
      revert this; cases bt r.x i <;> cases bt r.z i <;> cases decide (k = i) <;> decide
    · rw [if_neg hi, x2]
      have : ¬ bt (ws r.x k) i = true := fun z => hi ((mem_cw hX).mpr z)
      rw [bt_ws] at this
      exact Bool.eq_false_iff.mpr this
  have dz : ∀ i, bt (mvs ((cw (ws r.x k)).map .mix) r2).z i = (bt (ws r.x k) i || bt r.z i) := fun i => by
    rw [(d i).2]
    by_cases hi : i ∈ cw (ws r.x k)
    · rw [if_pos hi, x2, (mem_cw hX).mp hi]
      have := (mem_cw hX).mp hi
      rw [bt_ws] at this
      rw [this]; rfl
    · rw [if_neg hi, z2, mb]
      have : ¬ bt (ws r.x k) i = true := fun z => hi ((mem_cw hX).mpr z)
      rw [bt_ws] at this ⊢
      revert this; cases bt r.x i <;> cases bt r.z i <;> cases decide (k = i) <;> decide
  generalize mvs ((cw (ws r.x k)).map .mix) r2 = r3 at dx dz ⊢
  have hO := or64 hX hZ
  have mo : ∀ i, decide (i ∈ cw (ws r.x k ||| ws r.z k)) = ((bt r.x i || bt r.z i) && !decide (k = i)) := fun i => by
    rw [dec_cw hO, bt_or, bt_ws, bt_ws]
    cases bt r.x i <;> cases bt r.z i <;> cases decide (k = i) <;> rfl
  have hko : k ∉ cw (ws r.x k ||| ws r.z k) := fun h => by
    have := mo k
    rw [decide_eq_true h] at this
    simp at this
  obtain ⟨f1, f2⟩ := led_bits (k := k) r3 (cw_nodup (ws r.x k ||| ws r.z k)) hko fun c _ => dx c
  constructor
  · refine nat_ext fun i => ?_
    rw [f1, dx]; unfold bt; rw [Nat.zero_testBit]
  · refine nat_ext fun i => ?_
    rw [f2, mo, dz, dz, hzk, bt_ws, bt_pw, Bool.or_true, Bool.true_and]
    by_cases h : k = i
    · subst h; rw [hzk]; simp
    · simp [h]
theorem toz_al {r : Rw} (hx : r.x < 64) (hz : r.z < 64) {k : Nat} (hk : k < 6) {P : Nat → Prop} (h : ∀ i, bt (r.x ||| r.z) i = true → P i) (hPk : P k) : ∀ g ∈ toz r k, g.al P ∧ still ⟨1, 2 ^ k, 0⟩ g := by
  intro g hg
  have hX := ws64 hx hk
  have hZ := ws64 hz hk
  have ne : ∀ {i}, bt (ws r.x k) i = true ∨ bt (ws r.z k) i = true → P i ∧ k ≠ i := fun {i} hi => by
    rw [bt_ws, bt_ws] at hi
    refine ⟨h i ?_, fun e => ?_⟩
    · rw [bt_or]
      revert hi; cases bt r.x i <;> cases bt r.z i <;> simp
    · subst e; simp at hi
  have s1 : ∀ {i}, k ≠ i → bt (2 ^ k) i = false := fun {i} e => by rw [bt_pw, decide_eq_false e]
  have s0 : ∀ i, bt 0 i = false := fun i => by unfold bt; rw [Nat.zero_testBit]
  unfold toz at hg
  rcases List.mem_append.mp hg with hg | hg
  · rcases List.mem_append.mp hg with hg | hg
    · rcases List.mem_append.mp hg with hg | hg
      · obtain ⟨a, b, rfl, ha, hb, hne⟩ := meetsP_mem (cw_nodup _) hg
        have q : ∀ i, i ∈ cw (ws r.x k &&& ws r.z k) → P i ∧ k ≠ i := fun i hi => ne (.inl (by
          have := (mem_cw (and64 hX)).mp hi
          rw [bt_and] at this
          exact (Bool.and_eq_true_iff.mp this).1))
        exact ⟨⟨(q a ha).1, (q b hb).1, hne⟩, s1 (q a ha).2, s1 (q b hb).2⟩
      · obtain ⟨c, hc, rfl⟩ := List.mem_map.mp hg
        have := (mem_cw (and64 hX)).mp (lft_mem hc)
        rw [bt_and] at this
        have q := ne (.inl (Bool.and_eq_true_iff.mp this).1)
        exact ⟨⟨q.1, hPk, Ne.symm q.2⟩, s1 q.2, s0 k⟩
    · obtain ⟨c, hc, rfl⟩ := List.mem_map.mp hg
      have q := ne (.inl ((mem_cw hX).mp hc))
      exact ⟨q.1, s1 q.2, s0 c⟩
  · obtain ⟨c, hc, rfl⟩ := List.mem_map.mp hg
    have := (mem_cw (or64 hX hZ)).mp hc
    rw [bt_or] at this
    have q := ne (Bool.or_eq_true_iff.mp this)
    exact ⟨⟨q.1, hPk, Ne.symm q.2⟩, s1 q.2, s0 k⟩
theorem toz_len (r : Rw) (k : Nat) : (toz r k).length ≤ 16 := by
  unfold toz
  rw [List.length_append, List.length_append, List.length_append, meetsP_len, List.length_map, List.length_map, List.length_map, lft_len]
  have a := cw_len (ws r.x k &&& ws r.z k)
  have b := cw_len (ws r.x k)
  have c := cw_len (ws r.x k ||| ws r.z k)
  omega
end TC

namespace TC
open PySem L2
/-! ### tables -/
noncomputable def ra (rs : List Rw) (i : Nat) : Rw := rs.getD i ⟨1, 0, 0⟩
theorem ra_some {rs : List Rw} {i : Nat} {r : Rw} (h : rs[i]? = some r) : ra rs i = r := by unfold ra; rw [List.getD_eq_getElem?_getD, h]; rfl
theorem ra_get {rs : List Rw} {i : Nat} (h : i < rs.length) : rs[i]? = some (ra rs i) := by
  unfold ra; rw [List.getD_eq_getElem?_getD, List.getElem?_eq_getElem h]; rfl
theorem ra_map {rs : List Rw} {i : Nat} (h : i < rs.length) (f : Rw → Rw) : ra (rs.map f) i = f (ra rs i) := ra_some (by rw [List.getElem?_map, ra_get h]; rfl)
structure Tb (m : Nat) (rs : List Rw) : Prop where
  l : rs.length = 2 * m
  ok : ∀ i, i < 2 * m → (ra rs i).ok m
  ev : ∀ i, i < 2 * m → evn (ra rs i) = true
  ag : ∀ i j, i < j → j < 2 * m → sy (ra rs i) (ra rs j) = decide (j = i + m)
theorem mvs_sy {m : Nat} (hm : m ≤ 6) : ∀ {gs : List Gt}, (∀ g ∈ gs, g.ok m) → ∀ {a b : Rw}, a.ok m → b.ok m → sy (mvs gs a) (mvs gs b) = sy a b
  | [], _, _, _, _, _ => rfl
  | g :: gs, h, a, b, ha, hb => by
    have hg := h g (List.mem_cons_self ..)
    show sy (mvs gs (mvd a g)) (mvs gs (mvd b g)) = _
    rw [mvs_sy hm (gs := gs) (fun x hx => h x (List.mem_cons_of_mem _ hx)) (mvd_ok ha hg) (mvd_ok hb hg), sy_mvd hm ha hb hg]
theorem mvs_evn {m : Nat} (hm : m ≤ 6) : ∀ {gs : List Gt}, (∀ g ∈ gs, g.ok m) → ∀ {a : Rw}, a.ok m → evn (mvs gs a) = evn a
  | [], _, _, _ => rfl
  | g :: gs, h, a, ha => by
    have hg := h g (List.mem_cons_self ..)
    show evn (mvs gs (mvd a g)) = _
    rw [mvs_evn hm (gs := gs) (fun x hx => h x (List.mem_cons_of_mem _ hx)) (mvd_ok ha hg), evn_mvd hm ha hg]
theorem Tb.mvs {m : Nat} (hm : m ≤ 6) {rs : List Rw} (T : Tb m rs) {gs : List Gt} (hg : ∀ g ∈ gs, g.ok m) : Tb m (rs.map (mvs gs)) := by
  have e : ∀ i, i < 2 * m → ra (rs.map (TC.mvs gs)) i = TC.mvs gs (ra rs i) := fun i hi => ra_map (by rw [T.l]; exact hi) _
  refine ⟨by rw [List.length_map, T.l], fun i hi => ?_, fun i hi => ?_, fun i j hij hj => ?_⟩
  · rw [e i hi]; exact mvs_ok (T.ok i hi) hg
  · rw [e i hi, mvs_evn hm hg (T.ok i hi)]; exact T.ev i hi
  · rw [e i (by omega), e j hj, mvs_sy hm hg (T.ok i (by omega)) (T.ok j hj)]; exact T.ag i j hij hj
theorem sy_px {m c : Nat} (hm : m ≤ 6) (hc : c < m) {a b : Rw} (hx : a.x = 2 ^ c) (hz : a.z = 0) : sy a b = bt b.z c := by
  unfold sy
  rw [hx, hz, Nat.zero_and, par_pw (by omega)]
  show (bt b.z c ^^ par 0) = _
  rw [show par 0 = false from rfl, Bool.xor_false]
theorem sy_pz {m c : Nat} (hm : m ≤ 6) (hc : c < m) {a b : Rw} (hx : a.x = 0) (hz : a.z = 2 ^ c) : sy a b = bt b.x c := by
  unfold sy
  rw [hx, hz, Nat.zero_and, par_pw (by omega)]
  show (par 0 ^^ bt b.x c) = _
  rw [show par 0 = false from rfl, Bool.false_xor]
theorem sy_comm (a b : Rw) : sy a b = sy b a := by unfold sy; rw [par_comm, par_comm a.z, Bool.xor_comm]
/-- the rows of the first k coins are done -/
structure Dn (m k : Nat) (rs : List Rw) : Prop where
  x : ∀ c, c < k → (ra rs c).x = 2 ^ c ∧ (ra rs c).z = 0
  z : ∀ c, c < k → (ra rs (c + m)).x = 0 ∧ (ra rs (c + m)).z = 2 ^ c
theorem low_free {m k : Nat} (hm : m ≤ 6) (hk : k < m) {rs : List Rw} (T : Tb m rs) (D : Dn m k rs) {j : Nat} (hj : j = k ∨ j = k + m) {c : Nat} (hc : c < k) : bt (ra rs j).x c = false ∧ bt (ra rs j).z c = false := by
  have hj2 : j < 2 * m := by omega
  constructor
  · have e := sy_pz (b := ra rs j) hm (by omega : c < m) (D.z c hc).1 (D.z c hc).2
    rw [← e]
    rcases Nat.lt_or_ge j (c + m) with h | h
    · rw [sy_comm, T.ag j (c + m) h (by omega)]
      exact decide_eq_false (by omega)
    · rw [T.ag (c + m) j (by omega) hj2]
      exact decide_eq_false (by omega)
  · have e := sy_px (b := ra rs j) hm (by omega : c < m) (D.x c hc).1 (D.x c hc).2
    rw [← e, T.ag c j (by omega) hj2]
    exact decide_eq_false (by omega)
theorem high {m k : Nat} (hm : m ≤ 6) {r : Rw} (hr : r.ok m) (h : ∀ c, c < k → bt r.x c = false ∧ bt r.z c = false) : ∀ i, bt (r.x ||| r.z) i = true → k ≤ i ∧ i < m := by
  intro i hi
  have hlt : i < m := by
    refine Decidable.by_contra fun hn => ?_
    have h1 : bt r.x i = false := Nat.testBit_lt_two_pow (Nat.lt_of_lt_of_le hr.x (Nat.pow_le_pow_right (by decide) (by omega)))
    have h2 : bt r.z i = false := Nat.testBit_lt_two_pow (Nat.lt_of_lt_of_le hr.z (Nat.pow_le_pow_right (by decide) (by omega)))
    rw [bt_or, h1, h2] at hi; cases hi
  refine ⟨Decidable.by_contra fun hn => ?_, hlt⟩
  have := h i (by omega)
  rw [bt_or, this.1, this.2] at hi; cases hi
/-- gates at coins from k on leave the rows that are done -/
theorem Dn.keep {m k : Nat} {rs : List Rw} (T : Tb m rs) (D : Dn m k rs) (hk : k ≤ m) {gs : List Gt} (h : ∀ g ∈ gs, g.al fun i => k ≤ i ∧ i < m) : Dn m k (rs.map (TC.mvs gs)) := by
  have s0 : ∀ i, bt 0 i = false := fun i => by unfold bt; rw [Nat.zero_testBit]
  have stl : ∀ {t : Rw}, (∀ i, k ≤ i → bt t.x i = false ∧ bt t.z i = false) → TC.mvs gs t = t := fun {t} ht => mvs_still fun g hg => al_still (by
    have := h g hg
    cases g with
    | mix c => exact ht c this.1
    | flip c => exact ht c this.1
    | sign c => exact ht c this.1
    | follow a b => exact ⟨ht a this.1.1, ht b this.2.1.1, this.2.2⟩
    | meet a b => exact ⟨ht a this.1.1, ht b this.2.1.1, this.2.2⟩
    | swap a b => exact ⟨ht a this.1.1, ht b this.2.1.1, this.2.2⟩)
  refine ⟨fun c hc => ?_, fun c hc => ?_⟩
  · rw [ra_map (by rw [T.l]; omega), stl fun i hi => ?_]
    · exact D.x c hc
    · rw [(D.x c hc).1, (D.x c hc).2, bt_pw, decide_eq_false (by omega)]; exact ⟨rfl, s0 i⟩
  · rw [ra_map (by rw [T.l]; omega), stl fun i hi => ?_]
    · exact D.z c hc
    · rw [(D.z c hc).1, (D.z c hc).2, bt_pw, decide_eq_false (by omega)]; exact ⟨s0 i, rfl⟩
theorem cw_ne {n : Nat} (h : n < 64) (h0 : n ≠ 0) : cw n ≠ [] := fun e => h0 (nat_ext fun i => by
  have : ¬ bt n i = true := fun z => by have := (mem_cw h).mpr z; rw [e] at this; cases this
  rw [Bool.eq_false_iff.mpr this]; unfold bt; rw [Nat.zero_testBit])
/-- one coin more -/
theorem Dn.step {m k : Nat} (hm : m ≤ 6) (hk : k < m) {rs : List Rw} (T : Tb m rs) (D : Dn m k rs) :
    (∀ g ∈ tox (ra rs k) k, g.ok m) ∧ (∀ g ∈ toz (ra (rs.map (mvs (tox (ra rs k) k))) (k + m)) k, g.ok m) ∧
    Tb m ((rs.map (mvs (tox (ra rs k) k))).map (mvs (toz (ra (rs.map (mvs (tox (ra rs k) k))) (k + m)) k))) ∧ Dn m (k + 1) ((rs.map (mvs (tox (ra rs k) k))).map (mvs (toz (ra (rs.map (mvs (tox (ra rs k) k))) (k + m)) k))) ∧ (ra rs k).x ||| (ra rs k).z ≠ 0 := by
  have hk2 : k < 2 * m := by omega
  have hkm : k + m < 2 * m := by omega
  have rk := T.ok k hk2
  have x64 := le64 hm rk.x
  have z64 := le64 hm rk.z
  have n0 : (ra rs k).x ||| (ra rs k).z ≠ 0 := fun e => by
    have ex : (ra rs k).x = 0 := Nat.le_zero.mp (e ▸ Nat.left_le_or)
    have ez : (ra rs k).z = 0 := Nat.le_zero.mp (e ▸ Nat.right_le_or)
    have := T.ag k (k + m) (by omega) hkm
    rw [decide_eq_true rfl] at this
    unfold sy at this
    rw [ex, ez, Nat.zero_and, Nat.zero_and] at this
    exact absurd this (by decide)
  have c0 := cw_ne (or64 x64 z64) n0
  have hi := high hm rk fun c hc => low_free hm hk T D (.inl rfl) hc
  have A1 := tox_al x64 z64 c0 hi ⟨Nat.le_refl k, hk⟩
  have alok : ∀ {g : Gt}, (g.al fun i => k ≤ i ∧ i < m) → g.ok m := fun {g} h => by
    cases g with
    | mix c => exact h.2
    | flip c => exact h.2
    | sign c => exact h.2
    | follow a b => exact ⟨h.1.2, h.2.1.2, h.2.2⟩
    | meet a b => exact ⟨h.1.2, h.2.1.2, h.2.2⟩
    | swap a b => exact ⟨h.1.2, h.2.1.2, h.2.2⟩
  have ok1 : ∀ g ∈ tox (ra rs k) k, g.ok m := fun g hg => alok (A1 g hg)
  have T1 := T.mvs hm ok1
  have D1 := D.keep T (by omega) A1
  have X1 : (ra (rs.map (mvs (tox (ra rs k) k))) k).x = 2 ^ k ∧ (ra (rs.map (mvs (tox (ra rs k) k))) k).z = 0 := by
    rw [ra_map (by rw [T.l]; exact hk2)]
    exact tox_bits x64 z64 (T.ev k hk2) c0 k
  generalize rs.map (mvs (tox (ra rs k) k)) = rs1 at T1 D1 X1 ⊢
  have rz := T1.ok (k + m) hkm
  have x64' := le64 hm rz.x
  have z64' := le64 hm rz.z
  have zk : bt (ra rs1 (k + m)).z k = true := by
    rw [← sy_px hm hk X1.1 X1.2, T1.ag k (k + m) (by omega) hkm]
    exact decide_eq_true rfl
  have hi2 := high hm rz fun c hc => low_free hm hk T1 D1 (.inr rfl) hc
  have A2 := toz_al x64' z64' (by omega) hi2 ⟨Nat.le_refl k, hk⟩
  have ok2 : ∀ g ∈ toz (ra rs1 (k + m)) k, g.ok m := fun g hg => alok (A2 g hg).1
  have T2 := T1.mvs hm ok2
  have D2 := D1.keep T1 (by omega) fun g hg => (A2 g hg).1
  have Z2 : (ra (rs1.map (mvs (toz (ra rs1 (k + m)) k))) (k + m)).x = 0 ∧ (ra (rs1.map (mvs (toz (ra rs1 (k + m)) k))) (k + m)).z = 2 ^ k := by
    rw [ra_map (by rw [T1.l]; exact hkm)]
    exact toz_bits x64' z64' (T1.ev (k + m) hkm) (by omega) zk
  have X2 : (ra (rs1.map (mvs (toz (ra rs1 (k + m)) k))) k).x = 2 ^ k ∧ (ra (rs1.map (mvs (toz (ra rs1 (k + m)) k))) k).z = 0 := by
    rw [ra_map (by rw [T1.l]; exact hk2), mvs_still fun g hg => ?_]
    · exact X1
    · have := (A2 g hg).2
      revert X1
      generalize ra rs1 k = t
      intro X1
      cases g with
      | mix c => exact ⟨by rw [X1.1]; exact this.1, by rw [X1.2]; exact this.2⟩
      | flip c => show bt t.z c = false; rw [X1.2]; exact this
      | sign c => show bt t.x c = false; rw [X1.1]; exact this
      | follow a b => exact ⟨by rw [X1.1]; exact this.1, by rw [X1.2]; exact this.2⟩
      | meet a b => exact ⟨by rw [X1.1]; exact this.1, by rw [X1.1]; exact this.2⟩
      | swap a b => exact ⟨by rw [X1.1]; exact this.1, by rw [X1.1]; exact this.2.1, by rw [X1.2]; exact this.2.2.1, by rw [X1.2]; exact this.2.2.2⟩
  refine ⟨ok1, ok2, T2, ⟨fun c hc => ?_, fun c hc => ?_⟩, n0⟩
  · rcases Nat.lt_or_ge c k with h | h
    · exact D2.x c h
    · rw [show c = k by omega]; exact X2
  · rcases Nat.lt_or_ge c k with h | h
    · exact D2.z c h
    · rw [show c = k by omega]; exact Z2
end TC
namespace TC
open PySem L2
theorem signs_row {c : Nat} : ∀ {L : List Nat} (r : Rw), L.Nodup → r.x = 2 ^ c → mvs (L.map .sign) r = ⟨chg r.sg (decide (c ∈ L)), r.x, r.z⟩
  | [], r, _, _ => by show r = _; simp [chg]
  | d :: l, r, hn, hx => by
    show mvs (l.map .sign) (mvd r (.sign d)) = _
    rw [signs_row (c := c) (mvd r (.sign d)) (List.nodup_cons.mp hn).2 hx]
    show Rw.mk (chg (chg r.sg (bt r.x d)) (decide (c ∈ l))) r.x r.z = _
    rw [hx, bt_pw, chg_chg]
    congr 2
    by_cases e : c = d
    · subst e; simp [(List.nodup_cons.mp hn).1]
    · simp [e]
theorem flips_row {c : Nat} : ∀ {L : List Nat} (r : Rw), L.Nodup → r.z = 2 ^ c → mvs (L.map .flip) r = ⟨chg r.sg (decide (c ∈ L)), r.x, r.z⟩
  | [], r, _, _ => by show r = _; simp [chg]
  | d :: l, r, hn, hx => by
    show mvs (l.map .flip) (mvd r (.flip d)) = _
    rw [flips_row (c := c) (mvd r (.flip d)) (List.nodup_cons.mp hn).2 hx]
    show Rw.mk (chg (chg r.sg (bt r.z d)) (decide (c ∈ l))) r.x r.z = _
    rw [hx, bt_pw, chg_chg]
    congr 2
    by_cases e : c = d
    · subst e; simp [(List.nodup_cons.mp hn).1]
    · simp [e]
theorem signs_still {L : List Nat} {r : Rw} (h : r.x = 0) : mvs (L.map .sign) r = r := mvs_still fun g hg => by
  obtain ⟨c, _, rfl⟩ := List.mem_map.mp hg
  show bt r.x c = false
  rw [h]; unfold bt; rw [Nat.zero_testBit]
theorem flips_still {L : List Nat} {r : Rw} (h : r.z = 0) : mvs (L.map .flip) r = r := mvs_still fun g hg => by
  obtain ⟨c, _, rfl⟩ := List.mem_map.mp hg
  show bt r.z c = false
  rw [h]; unfold bt; rw [Nat.zero_testBit]
noncomputable def ngx (rs : List Rw) (m : Nat) : List Nat := (List.range m).filter fun c => decide ((ra rs c).sg = -1)
noncomputable def ngz (rs : List Rw) (m : Nat) : List Nat := (List.range m).filter fun c => decide ((ra rs (c + m)).sg = -1)
noncomputable def gfs (rs : List Rw) (m : Nat) : List Gt := (ngx rs m).map .sign ++ (ngz rs m).map .flip
theorem ng_len (p : Nat → Bool) (m : Nat) : ((List.range m).filter p).length ≤ m := Nat.le_trans (List.length_filter_le ..) (Nat.le_of_eq List.length_range)
theorem gfs_len (rs : List Rw) (m : Nat) : (gfs rs m).length ≤ 2 * m := by
  unfold gfs ngx ngz
  rw [List.length_append, List.length_map, List.length_map]
  have a := ng_len (fun c => decide ((ra rs c).sg = -1)) m
  have b := ng_len (fun c => decide ((ra rs (c + m)).sg = -1)) m
  omega
theorem gfs_ok (rs : List Rw) (m : Nat) : ∀ g ∈ gfs rs m, g.ok m := fun g hg => by
  unfold gfs ngx ngz at hg
  rcases List.mem_append.mp hg with hg | hg <;> obtain ⟨c, hc, rfl⟩ := List.mem_map.mp hg <;> exact List.mem_range.mp (List.mem_filter.mp hc).1
theorem one_sg {s : Int} (h : one s) {b : Bool} (hb : b = decide (s = -1)) : chg s b = 1 := by
  rcases h with rfl | rfl <;> subst hb <;> decide
theorem fin_rows {m : Nat} {rs : List Rw} (T : Tb m rs) (D : Dn m m rs) : rs.map (mvs (gfs rs m)) = lets m := by
  apply List.ext_getElem?
  intro i
  have hl : (rs.map (mvs (gfs rs m))).length = 2 * m := by rw [List.length_map, T.l]
  rcases Nat.lt_or_ge i (2 * m) with hi | hi
  · rw [ra_get (by rw [hl]; exact hi), ra_map (by rw [T.l]; exact hi)]
    unfold gfs
    rw [mvs_append]
    have nx : (ngx rs m).Nodup := List.Nodup.sublist (List.filter_sublist ..) List.nodup_range
    have nz : (ngz rs m).Nodup := List.Nodup.sublist (List.filter_sublist ..) List.nodup_range
    rcases Nat.lt_or_ge i m with h | h
    · rw [lets_x h]
      obtain ⟨e1, e2⟩ := D.x i h
      rw [signs_row (ra rs i) nx e1, flips_still (by exact e2), one_sg (T.ok i hi).s, e1, e2]
      unfold ngx
      by_cases hs : (ra rs i).sg = -1
      · have hm : i ∈ (List.range m).filter fun c => decide ((ra rs c).sg = -1) := List.mem_filter.mpr ⟨List.mem_range.mpr h, decide_eq_true hs⟩
        rw [decide_eq_true hs, decide_eq_true hm]
      · have hm : ¬ i ∈ (List.range m).filter fun c => decide ((ra rs c).sg = -1) := fun z => hs (of_decide_eq_true (List.mem_filter.mp z).2)
        rw [decide_eq_false hs, decide_eq_false hm]
    · obtain ⟨c, rfl⟩ : ∃ c, i = c + m := ⟨i - m, by omega⟩
      have hc : c < m := by omega
      rw [lets_z hc]
      obtain ⟨e1, e2⟩ := D.z c hc
      rw [signs_still e1, flips_row (ra rs (c + m)) nz e2, one_sg (T.ok _ hi).s, e1, e2]
      unfold ngz
      by_cases hs : (ra rs (c + m)).sg = -1
      · have hm : c ∈ (List.range m).filter fun c => decide ((ra rs (c + m)).sg = -1) := List.mem_filter.mpr ⟨List.mem_range.mpr hc, decide_eq_true hs⟩
        rw [decide_eq_true hs, decide_eq_true hm]
      · have hm : ¬ c ∈ (List.range m).filter fun c => decide ((ra rs (c + m)).sg = -1) := fun z => hs (of_decide_eq_true (List.mem_filter.mp z).2)
        rw [decide_eq_false hs, decide_eq_false hm]
  · rw [List.getElem?_eq_none (by omega), List.getElem?_eq_none (by rw [lets_length]; omega)]
theorem undone {m : Nat} {rs : List Rw} {gs : List Gt} (hg : ∀ g ∈ gs, g.ok m) (h : rs.map (mvs gs) = lets m) : (lets m).map (mvs gs.reverse) = rs := by
  rw [← h, List.map_map]
  conv => rhs; rw [← List.map_id rs]
  exact List.map_congr_left fun r _ => mvs_rev hg r
theorem lets_ev : ∀ m : Nat, m ≤ 6 → ∀ i : Nat, i < 2 * m → evn (ra (lets m) i) = true := by decide +kernel
theorem lets_ag : ∀ m : Nat, m ≤ 6 → ∀ j : Nat, j < 2 * m → ∀ i : Nat, i < j → sy (ra (lets m) i) (ra (lets m) j) = decide (j = i + m) := by decide +kernel
theorem lets_tb {m : Nat} (hm : m ≤ 6) : Tb m (lets m) := ⟨lets_length m, fun i hi => lets_ok (List.mem_of_getElem? (ra_get (by rw [lets_length]; exact hi))), lets_ev m hm, fun i j hij hj => lets_ag m hm j hj i hij⟩
theorem lft_drop : ∀ L : List Nat, L.drop (L.length / 2 * 2) = lft L
  | [] => rfl
  | [a] => by show [a].drop ((0 + 1) / 2 * 2) = [a]; rw [show (0 + 1) / 2 * 2 = 0 by decide]; rfl
  | a :: b :: l => by
    show (a :: b :: l).drop ((l.length + 1 + 1) / 2 * 2) = lft l
    rw [show (l.length + 1 + 1) / 2 * 2 = l.length / 2 * 2 + 1 + 1 by omega, List.drop_succ_cons, List.drop_succ_cons, lft_drop l]
end TC

set_option maxHeartbeats 4000000
namespace K55
open PySem L2 TC
noncomputable def top (i : Nat) : Stmt := PySem.Challenge.pw_turncoins_k55_no_table.main.body.getD i (.Pass ⟨0, 0, 0, 0⟩)
noncomputable def sp_iscoin : Sp := fun vs H Q _ => ∃ p m : Nat, vs = [.int p, .int m] ∧ p < m ∧ ∀ H', Same H H' → Q (.bl true) H'
noncomputable def sp_isgate : Sp := fun vs H Q _ => ∃ (g : Addr) (gt : Gt) (m : Nat), vs = [.ref g, .int m] ∧ H g = some (.tup gt.vals) ∧ gt.ok m ∧ ∀ H', Same H H' → Q (.bl true) H'
noncomputable def sp_checkg (K : PySem.W.Frag) : Sp := fun vs H Q _ => ∃ (a : Addr) (as : List Addr) (gs : List Gt) (m : Nat), vs = [.ref a, .int m] ∧ SqL K H a (rV as) ∧ Gts H m as gs ∧ ∀ H', Same H H' → Q .non H'
section
variable {P : Program} {w : World} {K : PySem.W.Frag} {mg : Str → Option Value} {base : Heap} {w1 w2 : Addr}
/- is_coin: 0:part 1:coins -/
noncomputable abbrev s_is_coin : Stmt := top 18
theorem sc_is_coin : FnScope ["part", "coins"] ["part", "coins"] (defScope s_is_coin) := ⟨rfl, rfl, rfl, by decide +kernel, rfl, by decide +kernel, by decide +kernel⟩
theorem ok_iscoin (T : Blt mg) (D : Def K mg "is_coin" s_is_coin ["part", "coins"]) : Cal P w K mg base CX0 1 "is_coin" ["part", "coins"] sp_iscoin := by
  refine D.ok sc_is_coin (fun vs H Q E h => ?_) (fun f cdv A outer s H vs Q E hr h => ?_)
  · obtain ⟨p, m, rfl, _⟩ := h; rfl
  obtain ⟨p, m, rfl, hp, k⟩ := h
  refine ⟨_, (pss_cons (ps_if (PW.pt (pw_or (pt_not (pt_val (pe_callB (call_isiK K) (by rfl) T.n_isinstance bt_isinstance (pa_cons (pv 0) (pa_cons (pe_bT T.n_int bt_int) pa_nil))))) (pw_or1 (pt_val (pe_callB (call_isiK K) (by rfl) T.n_isinstance bt_isinstance (pa_cons (pv 0) (pa_cons (pe_bT T.n_bool bt_bool) pa_nil)))))))
        (pss_one (ps_ret pe_bl))
        pss_nil)
      (pss_one (ps_ret (pe_chain op_le op_lt pe_int (pv 0) (pv 1))))), ?_⟩
  refine ⟨_, rfl, _, _, _, _, _, rfl, rfl, .of (.int p), k_ii K, _, rfl, iteF ?_⟩
  refine ⟨_, rfl, _, _, _, _, _, rfl, rfl, .of (.int p), k_ib K, _, rfl, iteF ?_⟩
  refine ⟨_, rfl, _, _, rfl, rfl, _, rfl, iteD (Int.natCast_nonneg p) ?_⟩
  refine ⟨_, rfl, _, _, rfl, rfl, ?_⟩
  have := k H (.refl H)
  rw [← decide_eq_true (show (p : Int) < (m : Int) by omega)] at this
  exact this
/- is_gate: 0:gate 1:coins -/
noncomputable abbrev s_is_gate : Stmt := top 19
theorem sc_is_gate : FnScope ["gate", "coins"] ["gate", "coins"] (defScope s_is_gate) := ⟨rfl, rfl, rfl, by decide +kernel, rfl, by decide +kernel, by decide +kernel⟩
theorem ok_isgate (T : Blt mg) (W1 : Wrds K mg "ONE_COIN_WORDS" "mix" "flip" "sign" w1) (W2 : Wrds K mg "TWO_COIN_WORDS" "follow" "meet" "swap" w2) (D : Def K mg "is_gate" s_is_gate ["gate", "coins"]) (C_is_coin : Cal P w K mg base CX0 1 "is_coin" ["part", "coins"] sp_iscoin) :
    Cal P w K mg base CX0 2 "is_gate" ["gate", "coins"] sp_isgate := by
  refine D.ok sc_is_gate (fun vs H Q E h => ?_) (fun f cdv A outer s H vs Q E hr h => ?_)
  · obtain ⟨g, gt, m, rfl, _⟩ := h; rfl
  obtain ⟨g, gt, m, rfl, hG, hg, k⟩ := h
  have cs : (∃ (x : Str) (c : Nat), inV (.str x) [.str "mix", .str "flip", .str "sign"] = true ∧ H g = some (.tup [.str x, .int c]) ∧ c < m) ∨
      ∃ (x : Str) (c d : Nat), inV (.str x) [.str "mix", .str "flip", .str "sign"] = false ∧ inV (.str x) [.str "follow", .str "meet", .str "swap"] = true ∧ H g = some (.tup [.str x, .int c, .int d]) ∧ c < m ∧ d < m ∧ c ≠ d := by
    cases gt with
    | mix c => exact .inl ⟨_, c, by decide +kernel, hG, hg⟩
    | flip c => exact .inl ⟨_, c, by decide +kernel, hG, hg⟩
    | sign c => exact .inl ⟨_, c, by decide +kernel, hG, hg⟩
    | follow c d => exact .inr ⟨_, c, d, by decide +kernel, by decide +kernel, hG, hg.1, hg.2.1, hg.2.2⟩
    | meet c d => exact .inr ⟨_, c, d, by decide +kernel, by decide +kernel, hG, hg.1, hg.2.1, hg.2.2⟩
    | swap c d => exact .inr ⟨_, c, d, by decide +kernel, by decide +kernel, hG, hg.1, hg.2.1, hg.2.2⟩
  refine ⟨_, (pss_cons (ps_if (PW.pt (pw_or (pt_not (pt_val (pe_callB (call_isiK K) (by rfl) T.n_isinstance bt_isinstance (pa_cons (pv 0) (pa_cons (pe_bT T.n_tuple bt_tuple) pa_nil))))) (pw_or (pt_cmpR op_eq (pe_callB (call_lenK K) (by rfl) T.n_len bt_len (pa_cons (pv 0) pa_nil)) pe_int (nomark _)) (pw_or1 (pt_not (pt_val (pe_callB (call_isiK K) (by rfl) T.n_isinstance bt_isinstance (pa_cons (pe_ix (ix_tupK K) (pv 0) pe_int (fun _ _ => rfl)) (pa_cons (pe_bT T.n_str bt_str) pa_nil)))))))))
        (pss_one (ps_ret pe_bl))
        pss_nil)
      (pss_cons (ps_if (pt_cmpR (op_inK K) (pe_ix (ix_tupK K) (pv 0) pe_int (fun _ _ => rfl)) (pe_gR W1.m) rfl)
        (pss_one (ps_ret (pe_and (pe_cmpR op_eq (pe_callB (call_lenK K) (by rfl) T.n_len bt_len (pa_cons (pv 0) pa_nil)) pe_int (nomark _)) (pe_one (pe_cal C_is_coin hr.sub (pa_cons (pe_ix (ix_tupK K) (pv 0) pe_int (fun _ _ => rfl)) (pa_cons (pv 1) pa_nil)))))))
        pss_nil)
      (pss_cons (ps_if (pt_cmpR (op_inK K) (pe_ix (ix_tupK K) (pv 0) pe_int (fun _ _ => rfl)) (pe_gR W2.m) rfl)
        (pss_one (ps_ret (pe_and (pe_cmpR op_eq (pe_callB (call_lenK K) (by rfl) T.n_len bt_len (pa_cons (pv 0) pa_nil)) pe_int (nomark _)) (pe_and (pe_cal C_is_coin hr.sub (pa_cons (pe_ix (ix_tupK K) (pv 0) pe_int (fun _ _ => rfl)) (pa_cons (pv 1) pa_nil))) (pe_and (pe_cal C_is_coin hr.sub (pa_cons (pe_ix (ix_tupK K) (pv 0) pe_int (fun _ _ => rfl)) (pa_cons (pv 1) pa_nil))) (pe_one (pe_cmpR op_ne (pe_ix (ix_tupK K) (pv 0) pe_int (fun _ _ => rfl)) (pe_ix (ix_tupK K) (pv 0) pe_int (fun _ _ => rfl)) (nomark _))))))))
        pss_nil)
      (pss_one (ps_ret pe_bl))))), ?_⟩
  rcases cs with ⟨x, c, hx, e, hc⟩ | ⟨x, c, d, hx, hy, e, hc, hd, hne⟩
  · refine ⟨_, rfl, _, _, _, _, _, rfl, rfl, .of (.tup e), k_tt K, _, rfl, iteF ?_⟩
    refine ⟨_, rfl, g, _, rfl, .inr (sqT e), rfl, _, rfl, iteF ?_⟩
    refine ⟨_, rfl, g, _, _, _, rfl, rfl, sqT e, rfl, _, _, _, _, _, rfl, rfl, .of (.str x), k_ss K, _, rfl, iteF ?_⟩
    refine ⟨_, rfl, g, _, _, _, rfl, rfl, sqT e, rfl, w1, _, rfl, .inr (W1.sq H), rfl, rfl, _, rfl, iteB hx ?_⟩
    refine ⟨_, rfl, g, _, rfl, .inr (sqT e), rfl, _, rfl, iteT ?_⟩
    exact ⟨_, rfl, g, _, _, _, rfl, rfl, sqT e, rfl, _, rfl, c, m, rfl, hc, k⟩
  · refine ⟨_, rfl, _, _, _, _, _, rfl, rfl, .of (.tup e), k_tt K, _, rfl, iteF ?_⟩
    refine ⟨_, rfl, g, _, rfl, .inr (sqT e), rfl, _, rfl, iteF ?_⟩
    refine ⟨_, rfl, g, _, _, _, rfl, rfl, sqT e, rfl, _, _, _, _, _, rfl, rfl, .of (.str x), k_ss K, _, rfl, iteF ?_⟩
    refine ⟨_, rfl, g, _, _, _, rfl, rfl, sqT e, rfl, w1, _, rfl, .inr (W1.sq H), rfl, rfl, _, rfl, iteBN hx ?_⟩
    refine ⟨_, rfl, g, _, _, _, rfl, rfl, sqT e, rfl, w2, _, rfl, .inr (W2.sq H), rfl, rfl, _, rfl, iteB hy ?_⟩
    refine ⟨_, rfl, g, _, rfl, .inr (sqT e), rfl, _, rfl, iteT ?_⟩
    refine ⟨_, rfl, g, _, _, _, rfl, rfl, sqT e, rfl, _, rfl, c, m, rfl, hc, fun H1 s1 => ⟨_, rfl, iteT ?_⟩⟩
    refine ⟨_, rfl, g, _, _, _, rfl, rfl, sqT (s1 _ _ e), rfl, _, rfl, d, m, rfl, hd, fun H2 s2 => ⟨_, rfl, iteT ?_⟩⟩
    have e2 := s2 _ _ (s1 _ _ e)
    refine ⟨_, rfl, g, _, _, _, rfl, rfl, sqT e2, rfl, _, rfl, g, _, _, _, rfl, rfl, sqT e2, rfl, rfl, ?_⟩
    have := k H2 (s1.trans s2)
    rw [← (by rw [decide_eq_false (fun z => hne (by injection z with z; omega))]; rfl : (!decide (V.int (c : Int) = V.int (d : Int))) = true)] at this
    exact this
/- check_gates: 0:gates 1:coins 2:at 3:gate -/
noncomputable abbrev s_check_gates : Stmt := top 20
theorem sc_check_gates : FnScope ["gates", "coins", "at", "gate"] ["gates", "coins"] (defScope s_check_gates) := ⟨rfl, rfl, rfl, by decide +kernel, rfl, by decide +kernel, by decide +kernel⟩
theorem ok_checkg (T : Blt mg) (D : Def K mg "check_gates" s_check_gates ["gates", "coins"]) (C_is_gate : Cal P w K mg base CX0 2 "is_gate" ["gate", "coins"] sp_isgate) : Cal P w K mg base CX0 3 "check_gates" ["gates", "coins"] (sp_checkg K) := by
  refine D.ok sc_check_gates (fun vs H Q E h => ?_) (fun f cdv A outer s H vs Q E hr h => ?_)
  · obtain ⟨a, as, gs, m, rfl, _⟩ := h; rfl
  obtain ⟨a, as, gs, m, rfl, hS, hG, k⟩ := h
  refine ⟨_, (pss_one (ps_for PassesOwn.never rfl (pi_enumK K rfl T.n_enumerate (pa_cons (pv 0) pa_nil)) (pg_tupK K rfl (pgs_cons (pg_name (i := 2) sc_check_gates.nd rfl (Or.inl rfl)) (pgs_cons (pg_name (i := 3) sc_check_gates.nd rfl (Or.inl rfl)) pgs_nil)))
        (pss_one (ps_if (pt_not (pt_val (pe_cal C_is_gate hr.sub (pa_cons (pv 3) (pa_cons (pv 1) pa_nil)))))
          (pss_one ps_never)
          pss_nil)))), ?_⟩
  refine ⟨_, rfl, a, _, rfl, hS, for_enum (K := K) (a := a) (xs := rV as) (fun i σ H' => ∃ u v, σ = [some (.ref a), some (.int m), u, v] ∧ Same H H') ⟨_, _, rfl, .refl H⟩ (fun i σ H' _ ⟨_, _, _, s'⟩ => s'.seq hS) ?_ ?_⟩
  · rintro i x σ H' p hi ⟨u, v, rfl, s'⟩ hp
    obtain ⟨ga, hga, rfl⟩ := rs_get hi
    obtain ⟨gt, _, hgt, hok⟩ := hG.g i ga hga
    have s2 := s'.upd (o := .tup [.int i, .ref ga]) (s'.free hp)
    refine ⟨p, _, rfl, sqT upd_same, rfl, _, _, rfl, _, _, rfl, rfl, ?_⟩
    refine ⟨_, rfl, _, rfl, ga, gt, m, rfl, s2 _ _ hgt, hok, fun H3 s3 => ⟨_, rfl, iteF ?_⟩⟩
    exact ⟨_, _, rfl, s2.trans s3⟩
  · rintro σ H' ⟨u, v, rfl, s'⟩
    exact k H' s'
end

noncomputable def sp_count : Sp := fun vs H Q _ => ∃ n : Nat, vs = [.int n] ∧ n < 64 ∧ ∀ H', Same H H' → Q (.int (pc n : Nat)) H'
noncomputable def sp_change : Sp := fun vs H Q _ => ∃ (n : Int) (k : Nat) (b : Bool), vs = [.int n, .int k] ∧ (k % 2 = if b then 1 else 0) ∧ ∀ H', Same H H' → Q (.int (chg n b)) H'
section
variable {P : Program} {w : World} {K : PySem.W.Frag} {mg : Str → Option Value} {base : Heap}
/- count_bits: 0:bits 1:many -/
noncomputable abbrev s_count_bits : Stmt := top 22
theorem sc_count_bits : FnScope ["bits", "many"] ["bits"] (defScope s_count_bits) := ⟨rfl, rfl, rfl, by decide +kernel, rfl, by decide +kernel, by decide +kernel⟩
theorem ok_count (T : Blt mg) (D : Def K mg "count_bits" s_count_bits ["bits"]) : Cal P w K mg base CX0 1 "count_bits" ["bits"] sp_count := by
  refine D.ok sc_count_bits (fun vs H Q E h => ?_) (fun f cdv A outer s H vs Q E hr h => ?_)
  · obtain ⟨n, rfl, _⟩ := h; rfl
  obtain ⟨n, rfl, hn, k⟩ := h
  refine ⟨_, (pss_cons (ps_set (i := 1) sc_count_bits.nd rfl (Or.inl rfl) pe_int)
      (pss_cons (ps_while PassesOwn.never (pt_cmpR op_gt (pv 0) pe_int (nomark _))
        (pss_cons (ps_set (i := 1) sc_count_bits.nd rfl (Or.inl rfl) (pe_op op_add (pv 1) (pe_op op_and (pv 0) pe_int)))
        (pss_one (ps_set (i := 0) sc_count_bits.nd rfl (Or.inl rfl) (pe_op op_shr (pv 0) pe_int)))))
      (pss_one (ps_ret (pv 1))))), ?_⟩
  refine ⟨fun m σ H' => ∃ (j b y : Nat), σ = [some (.int b), some (.int y)] ∧ m = b ∧ b < 2 ^ j ∧ y + pcf j b = pc n ∧ Same H H', ⟨_, 6, n, 0, rfl, rfl, hn, Nat.zero_add _, .refl H⟩, ?_⟩
  rintro m σ H' ⟨j, b, y, rfl, em, hb, hy, s'⟩
  have em' := em.symm
  subst em'
  refine ⟨_, rfl, _, _, rfl, rfl, _, rfl, ?_⟩
  by_cases h0 : b = 0
  · subst h0
    refine iteDN (by decide) ?_
    refine ⟨_, rfl, ?_⟩
    have := k H' s'
    rw [pcf_zero, Nat.add_zero] at hy
    rw [← hy] at this
    exact this
  · refine iteD (by omega) ?_
    refine ⟨fun σ2 H2 => σ2 = [some (.int ((b / 2 : Nat) : Int)), some (.int ((y + b % 2 : Nat) : Int))] ∧ Same H H2, ?_, ?_⟩
    · rintro σ2 H2 ⟨rfl, s2⟩
      cases j with
      | zero => exact absurd hb (by rw [Nat.pow_zero]; omega)
      | succ j =>
        refine ⟨b / 2, Nat.div_lt_self (by omega) (by decide), j, b / 2, y + b % 2, rfl, rfl, ?_, ?_, s2⟩
        · rw [Nat.pow_succ] at hb; omega
        · rw [pcf] at hy; omega
    · refine ⟨_, rfl, _, rfl, _, _, rfl, rfl, _, _, rfl, rfl, ?_⟩
      refine ⟨_, rfl, _, _, rfl, rfl, (by show (0 : Int) ≤ 1; decide), ?_⟩
      refine ⟨?_, s'⟩
      show [some (V.int ((b : Int) / 2 ^ (1 : Int).toNat)), some (V.int ((y : Int) + Builtin.bitAnd (b : Int) ((1 : Nat) : Int)))] = _
      rw [bAnd, bit0]
      have e : (b : Int) / 2 ^ (1 : Int).toNat = ((b / 2 : Nat) : Int) := by
        show (b : Int) / 2 = _
        omega
      rw [e, Int.natCast_add]
/- with_sign_changed: 0:number 1:often -/
noncomputable abbrev s_with_sign_changed : Stmt := top 24
theorem sc_with_sign_changed : FnScope ["number", "often"] ["number", "often"] (defScope s_with_sign_changed) := ⟨rfl, rfl, rfl, by decide +kernel, rfl, by decide +kernel, by decide +kernel⟩
theorem ok_change (T : Blt mg) (D : Def K mg "with_sign_changed" s_with_sign_changed ["number", "often"]) : Cal P w K mg base CX0 1 "with_sign_changed" ["number", "often"] sp_change := by
  refine D.ok sc_with_sign_changed (fun vs H Q E h => ?_) (fun f cdv A outer s H vs Q E hr h => ?_)
  · obtain ⟨n, j, b, rfl, _⟩ := h; rfl
  obtain ⟨n, j, b, rfl, hb, k⟩ := h
  refine ⟨_, (pss_one (ps_ret (pe_ifExp (pt_cmpR op_eq (pe_op op_mod (pv 1) pe_int) pe_int (nomark _)) (pe_un un_neg (pv 0)) (pv 0)))), ?_⟩
  refine ⟨_, rfl, _, _, rfl, rfl, (by show (0 : Int) < _; decide), rfl, _, rfl, ?_⟩
  have := k H (.refl H)
  have e : (j : Int) % 2 = ((j % 2 : Nat) : Int) := by omega
  cases b with
  | true =>
    refine iteB ?_ ⟨_, rfl, _, rfl, this⟩
    show decide (V.int ((j : Int) % 2) = V.int 1) = true
    rw [e, hb]; exact decide_eq_true rfl
  | false =>
    refine iteBN ?_ ⟨_, rfl, this⟩
    show decide (V.int ((j : Int) % 2) = V.int 1) = false
    rw [e, hb]; exact decide_eq_false (fun z => by injection z with z; exact absurd z (by decide))
theorem and_lt64 {a b : Nat} (h : a < 64) : a &&& b < 64 := Nat.lt_of_le_of_lt Nat.and_le_left h
end

noncomputable def sp_bitof : Sp := fun vs H Q _ => ∃ n c : Nat, vs = [.int n, .int c] ∧ n < 64 ∧ c < 6 ∧ ∀ H', Same H H' → Q (.int (bN (bt n c) : Nat)) H'
noncomputable def sp_m1 (K : PySem.W.Frag) (mk : Nat → Gt) : Sp := fun vs H Q _ => ∃ (g : Addr) (r : Rw) (m c : Nat), vs = [.ref g, .int c] ∧ SqT K H g r.vals ∧ m ≤ 6 ∧ r.ok m ∧ c < m ∧ ∀ q H', Same H H' → H q = none → H' q = some (.tup (mvd r (mk c)).vals) → Q (.ref q) H'
noncomputable def sp_m2 (K : PySem.W.Frag) (mk : Nat → Nat → Gt) : Sp := fun vs H Q _ => ∃ (g : Addr) (r : Rw) (m a b : Nat), vs = [.ref g, .int a, .int b] ∧ SqT K H g r.vals ∧ m ≤ 6 ∧ r.ok m ∧ a < m ∧ b < m ∧ ∀ q H', Same H H' → H q = none → H' q = some (.tup (mvd r (mk a b)).vals) → Q (.ref q) H'
noncomputable def sp_swapped : Sp := fun vs H Q _ => ∃ n a b : Nat, vs = [.int n, .int a, .int b] ∧ n < 64 ∧ a < 6 ∧ b < 6 ∧ ∀ H', Same H H' → Q (.int (swq n a b : Nat)) H'
noncomputable def sp_moved (K : PySem.W.Frag) : Sp := fun vs H Q _ => ∃ (g b : Addr) (r : Rw) (m : Nat) (gt : Gt), vs = [.ref g, .ref b] ∧ SqT K H g r.vals ∧ H b = some (.tup gt.vals) ∧ m ≤ 6 ∧ r.ok m ∧ gt.ok m ∧ ∀ q H', Same H H' → H q = none → H' q = some (.tup (mvd r gt).vals) → Q (.ref q) H'
noncomputable def sp_rowsm (K : PySem.W.Frag) : Sp := fun vs H Q _ => ∃ (a b : Addr) (as bs : List Addr) (rs : List Rw) (gs : List Gt) (m : Nat), vs = [.ref a, .ref b] ∧ H a = some (.lst (rV as)) ∧ Rws H m as rs ∧ SqL K H b (rV bs) ∧ Gts H m bs gs ∧ m ≤ 6 ∧ rs.length ≤ 64 ∧ ∀ q qs H', Same H H' → (q = a ∨ H q = none) → H' q = some (.lst (rV qs)) → Rws H' m qs (rs.map (mvs gs)) → Q (.ref q) H'
section
variable {P : Program} {w : World} {K : PySem.W.Frag} {mg : Str → Option Value} {base : Heap}
/- bit_of: 0:bits 1:coin -/
noncomputable abbrev s_bit_of : Stmt := top 23
theorem sc_bit_of : FnScope ["bits", "coin"] ["bits", "coin"] (defScope s_bit_of) := ⟨rfl, rfl, rfl, by decide +kernel, rfl, by decide +kernel, by decide +kernel⟩
theorem ok_bitof (T : Blt mg) (D : Def K mg "bit_of" s_bit_of ["bits", "coin"]) : Cal P w K mg base CX0 1 "bit_of" ["bits", "coin"] sp_bitof := by
  refine D.ok sc_bit_of (fun vs H Q E h => ?_) (fun f cdv A outer s H vs Q E hr h => ?_)
  · obtain ⟨p, c, rfl, _⟩ := h; rfl
  obtain ⟨p, c, rfl, hp, hc, k⟩ := h
  refine ⟨_, (pss_one (ps_ret (pe_op op_and (pe_op op_shr (pv 0) (pv 1)) pe_int))), ?_⟩
  refine ⟨_, rfl, _, rfl, _, _, rfl, rfl, Int.natCast_nonneg c, _, _, rfl, rfl, ?_⟩
  have := k H (.refl H)
  rw [← bitof_is p hp c hc] at this
  exact this
/- moved_by_mix: 0:row 1:coin 2:x 3:z 4:unlike -/
noncomputable abbrev s_moved_by_mix : Stmt := top 28
theorem sc_moved_by_mix : FnScope ["row", "coin", "x", "z", "unlike"] ["row", "coin"] (defScope s_moved_by_mix) := ⟨rfl, rfl, rfl, by decide +kernel, rfl, by decide +kernel, by decide +kernel⟩
theorem ok_mmix (T : Blt mg) (D : Def K mg "moved_by_mix" s_moved_by_mix ["row", "coin"]) (C_bit_of : Cal P w K mg base CX0 1 "bit_of" ["bits", "coin"] sp_bitof) (C_with_sign_changed : Cal P w K mg base CX0 1 "with_sign_changed" ["number", "often"] sp_change) :
    Cal P w K mg base CX0 2 "moved_by_mix" ["row", "coin"] (sp_m1 K .mix) := by
  refine D.ok sc_moved_by_mix (fun vs H Q E h => ?_) (fun f cdv A outer s H vs Q E hr h => ?_)
  · obtain ⟨g, r, m, c, rfl, _⟩ := h; rfl
  obtain ⟨g, r, m, c, rfl, hG, hm, hr', hc, k⟩ := h
  refine ⟨_, (pss_cons (ps_set (i := 2) sc_moved_by_mix.nd rfl (Or.inl rfl) (pe_cal C_bit_of hr.sub (pa_cons (pe_ix (ix_tupK K) (pv 0) pe_int (fun _ _ => rfl)) (pa_cons (pv 1) pa_nil))))
      (pss_cons (ps_set (i := 3) sc_moved_by_mix.nd rfl (Or.inl rfl) (pe_cal C_bit_of hr.sub (pa_cons (pe_ix (ix_tupK K) (pv 0) pe_int (fun _ _ => rfl)) (pa_cons (pv 1) pa_nil))))
      (pss_cons (ps_set (i := 4) sc_moved_by_mix.nd rfl (Or.inl rfl) (pe_op op_shl (pe_op op_xor (pv 2) (pv 3)) (pv 1)))
      (pss_one (ps_ret (pe_tup (pa_cons (pe_cal C_with_sign_changed hr.sub (pa_cons (pe_ix (ix_tupK K) (pv 0) pe_int (fun _ _ => rfl)) (pa_cons (pe_op op_and (pv 2) (pv 3)) pa_nil))) (pa_cons (pe_op op_xor (pe_ix (ix_tupK K) (pv 0) pe_int (fun _ _ => rfl)) (pv 4)) (pa_cons (pe_op op_xor (pe_ix (ix_tupK K) (pv 0) pe_int (fun _ _ => rfl)) (pv 4)) pa_nil))))))))), ?_⟩
  refine ⟨_, rfl, g, _, _, _, rfl, rfl, hG, rfl, _, rfl, r.x, c, rfl, le64 hm hr'.x, by omega, fun H1 s1 => ?_⟩
  refine ⟨_, rfl, g, _, _, _, rfl, rfl, s1.tup hG, rfl, _, rfl, r.z, c, rfl, le64 hm hr'.z, by omega, fun H2 s2 => ?_⟩
  have u := s1.trans s2
  refine ⟨_, rfl, _, rfl, _, _, rfl, rfl, _, rfl, _, _, rfl, rfl, (by show CPow (Builtin.bitXor ((bN (bt r.x c) : Nat) : Int) ((bN (bt r.z c) : Nat) : Int)) (c : Int); rw [xN]; exact cpN _ (by omega)), ?_⟩
  refine ⟨_, rfl, g, _, _, _, rfl, rfl, u.tup hG, rfl, _, rfl, _, rfl, _, _, rfl, rfl, r.sg, bN (bt r.x c && bt r.z c), bt r.x c && bt r.z c, by show [V.int r.sg, V.int (Builtin.bitAnd ((bN (bt r.x c) : Nat) : Int) ((bN (bt r.z c) : Nat) : Int))] = _; rw [aN], bN_mod _, fun H3 s3 => ?_⟩
  have u3 := u.trans s3
  refine ⟨_, rfl, g, _, _, _, rfl, rfl, u3.tup hG, rfl, _, rfl, _, _, rfl, rfl, _, rfl, g, _, _, _, rfl, rfl, u3.tup hG, rfl, _, rfl, _, _, rfl, rfl, line6 (by show 3 ≤ 1000; decide), fun q hq => ?_⟩
  refine k q _ (u3.trans (Same.new hq)) (u3.free hq) ?_
  rw [upd_same]
  show some (HO.tup [V.int (chg r.sg (bt r.x c && bt r.z c)), V.int (Builtin.bitXor (r.x : Int) (Builtin.bitXor ((bN (bt r.x c) : Nat) : Int) ((bN (bt r.z c) : Nat) : Int) * 2 ^ (c : Int).toNat)), V.int (Builtin.bitXor (r.z : Int) (Builtin.bitXor ((bN (bt r.x c) : Nat) : Int) ((bN (bt r.z c) : Nat) : Int) * 2 ^ (c : Int).toNat))]) = _
  rw [xN, xT, xT]; rfl
/- moved_by_flip: 0:row 1:coin -/
noncomputable abbrev s_moved_by_flip : Stmt := top 29
theorem sc_moved_by_flip : FnScope ["row", "coin"] ["row", "coin"] (defScope s_moved_by_flip) := ⟨rfl, rfl, rfl, by decide +kernel, rfl, by decide +kernel, by decide +kernel⟩
theorem ok_mflip (T : Blt mg) (D : Def K mg "moved_by_flip" s_moved_by_flip ["row", "coin"]) (C_bit_of : Cal P w K mg base CX0 1 "bit_of" ["bits", "coin"] sp_bitof) (C_with_sign_changed : Cal P w K mg base CX0 1 "with_sign_changed" ["number", "often"] sp_change) :
    Cal P w K mg base CX0 2 "moved_by_flip" ["row", "coin"] (sp_m1 K .flip) := by
  refine D.ok sc_moved_by_flip (fun vs H Q E h => ?_) (fun f cdv A outer s H vs Q E hr h => ?_)
  · obtain ⟨g, r, m, c, rfl, _⟩ := h; rfl
  obtain ⟨g, r, m, c, rfl, hG, hm, hr', hc, k⟩ := h
  refine ⟨_, (pss_one (ps_ret (pe_tup (pa_cons (pe_cal C_with_sign_changed hr.sub (pa_cons (pe_ix (ix_tupK K) (pv 0) pe_int (fun _ _ => rfl)) (pa_cons (pe_cal C_bit_of hr.sub (pa_cons (pe_ix (ix_tupK K) (pv 0) pe_int (fun _ _ => rfl)) (pa_cons (pv 1) pa_nil))) pa_nil))) (pa_cons (pe_ix (ix_tupK K) (pv 0) pe_int (fun _ _ => rfl)) (pa_cons (pe_ix (ix_tupK K) (pv 0) pe_int (fun _ _ => rfl)) pa_nil)))))), ?_⟩
  refine ⟨_, rfl, g, _, _, _, rfl, rfl, hG, rfl, _, rfl, g, _, _, _, rfl, rfl, hG, rfl, _, rfl, r.z, c, rfl, le64 hm hr'.z, by omega, fun H1 s1 => ?_⟩
  refine ⟨r.sg, bN (bt r.z c), bt r.z c, rfl, bN_mod _, fun H3 s3 => ?_⟩
  have u3 := s1.trans s3
  refine ⟨_, rfl, g, _, _, _, rfl, rfl, u3.tup hG, rfl, _, rfl, g, _, _, _, rfl, rfl, u3.tup hG, rfl, line6 (by show 3 ≤ 1000; decide), fun q hq => ?_⟩
  exact k q _ (u3.trans (Same.new hq)) (u3.free hq) (by rw [upd_same]; rfl)
/- moved_by_sign: 0:row 1:coin -/
noncomputable abbrev s_moved_by_sign : Stmt := top 30
theorem sc_moved_by_sign : FnScope ["row", "coin"] ["row", "coin"] (defScope s_moved_by_sign) := ⟨rfl, rfl, rfl, by decide +kernel, rfl, by decide +kernel, by decide +kernel⟩
theorem ok_msign (T : Blt mg) (D : Def K mg "moved_by_sign" s_moved_by_sign ["row", "coin"]) (C_bit_of : Cal P w K mg base CX0 1 "bit_of" ["bits", "coin"] sp_bitof) (C_with_sign_changed : Cal P w K mg base CX0 1 "with_sign_changed" ["number", "often"] sp_change) :
    Cal P w K mg base CX0 2 "moved_by_sign" ["row", "coin"] (sp_m1 K .sign) := by
  refine D.ok sc_moved_by_sign (fun vs H Q E h => ?_) (fun f cdv A outer s H vs Q E hr h => ?_)
  · obtain ⟨g, r, m, c, rfl, _⟩ := h; rfl
  obtain ⟨g, r, m, c, rfl, hG, hm, hr', hc, k⟩ := h
  refine ⟨_, (pss_one (ps_ret (pe_tup (pa_cons (pe_cal C_with_sign_changed hr.sub (pa_cons (pe_ix (ix_tupK K) (pv 0) pe_int (fun _ _ => rfl)) (pa_cons (pe_cal C_bit_of hr.sub (pa_cons (pe_ix (ix_tupK K) (pv 0) pe_int (fun _ _ => rfl)) (pa_cons (pv 1) pa_nil))) pa_nil))) (pa_cons (pe_ix (ix_tupK K) (pv 0) pe_int (fun _ _ => rfl)) (pa_cons (pe_ix (ix_tupK K) (pv 0) pe_int (fun _ _ => rfl)) pa_nil)))))), ?_⟩
  refine ⟨_, rfl, g, _, _, _, rfl, rfl, hG, rfl, _, rfl, g, _, _, _, rfl, rfl, hG, rfl, _, rfl, r.x, c, rfl, le64 hm hr'.x, by omega, fun H1 s1 => ?_⟩
  refine ⟨r.sg, bN (bt r.x c), bt r.x c, rfl, bN_mod _, fun H3 s3 => ?_⟩
  have u3 := s1.trans s3
  refine ⟨_, rfl, g, _, _, _, rfl, rfl, u3.tup hG, rfl, _, rfl, g, _, _, _, rfl, rfl, u3.tup hG, rfl, line6 (by show 3 ≤ 1000; decide), fun q hq => ?_⟩
  exact k q _ (u3.trans (Same.new hq)) (u3.free hq) (by rw [upd_same]; rfl)
/- moved_by_follow: 0:row 1:leader 2:follower 3:xs 4:zs -/
noncomputable abbrev s_moved_by_follow : Stmt := top 31
theorem sc_moved_by_follow : FnScope ["row", "leader", "follower", "xs", "zs"] ["row", "leader", "follower"] (defScope s_moved_by_follow) := ⟨rfl, rfl, rfl, by decide +kernel, rfl, by decide +kernel, by decide +kernel⟩
theorem ok_mfollow (T : Blt mg) (D : Def K mg "moved_by_follow" s_moved_by_follow ["row", "leader", "follower"]) (C_bit_of : Cal P w K mg base CX0 1 "bit_of" ["bits", "coin"] sp_bitof) :
    Cal P w K mg base CX0 2 "moved_by_follow" ["row", "leader", "follower"] (sp_m2 K .follow) := by
  refine D.ok sc_moved_by_follow (fun vs H Q E h => ?_) (fun f cdv A outer s H vs Q E hr h => ?_)
  · obtain ⟨g, r, m, a, b, rfl, _⟩ := h; rfl
  obtain ⟨g, r, m, a, b, rfl, hG, hm, hr', ha, hb, k⟩ := h
  refine ⟨_, (pss_cons (ps_set (i := 3) sc_moved_by_follow.nd rfl (Or.inl rfl) (pe_op op_xor (pe_ix (ix_tupK K) (pv 0) pe_int (fun _ _ => rfl)) (pe_op op_shl (pe_cal C_bit_of hr.sub (pa_cons (pe_ix (ix_tupK K) (pv 0) pe_int (fun _ _ => rfl)) (pa_cons (pv 1) pa_nil))) (pv 2))))
      (pss_cons (ps_set (i := 4) sc_moved_by_follow.nd rfl (Or.inl rfl) (pe_op op_xor (pe_ix (ix_tupK K) (pv 0) pe_int (fun _ _ => rfl)) (pe_op op_shl (pe_cal C_bit_of hr.sub (pa_cons (pe_ix (ix_tupK K) (pv 0) pe_int (fun _ _ => rfl)) (pa_cons (pv 2) pa_nil))) (pv 1))))
      (pss_one (ps_ret (pe_tup (pa_cons (pe_ix (ix_tupK K) (pv 0) pe_int (fun _ _ => rfl)) (pa_cons (pv 3) (pa_cons (pv 4) pa_nil)))))))), ?_⟩
  refine ⟨_, rfl, g, _, _, _, rfl, rfl, hG, rfl, _, rfl, g, _, _, _, rfl, rfl, hG, rfl, _, rfl, r.x, a, rfl, le64 hm hr'.x, by omega, fun H1 s1 => ?_⟩
  refine ⟨_, rfl, _, _, rfl, rfl, cpN _ (by omega), _, _, rfl, rfl, ?_⟩
  refine ⟨_, rfl, g, _, _, _, rfl, rfl, s1.tup hG, rfl, _, rfl, g, _, _, _, rfl, rfl, s1.tup hG, rfl, _, rfl, r.z, b, rfl, le64 hm hr'.z, by omega, fun H2 s2 => ?_⟩
  have u := s1.trans s2
  refine ⟨_, rfl, _, _, rfl, rfl, cpN _ (by omega), _, _, rfl, rfl, ?_⟩
  refine ⟨_, rfl, g, _, _, _, rfl, rfl, u.tup hG, rfl, _, rfl, _, rfl, line6 (by show 3 ≤ 1000; decide), fun q hq => ?_⟩
  refine k q _ (u.trans (Same.new hq)) (u.free hq) ?_
  rw [upd_same]
  show some (HO.tup [V.int r.sg, V.int (Builtin.bitXor (r.x : Int) (((bN (bt r.x a) : Nat) : Int) * 2 ^ (b : Int).toNat)), V.int (Builtin.bitXor (r.z : Int) (((bN (bt r.z b) : Nat) : Int) * 2 ^ (a : Int).toNat))]) = _
  rw [xT, xT]; rfl
/- moved_by_meet: 0:row 1:one 2:other 3:x_one 4:x_other 5:zs -/
noncomputable abbrev s_moved_by_meet : Stmt := top 32
theorem sc_moved_by_meet : FnScope ["row", "one", "other", "x_one", "x_other", "zs"] ["row", "one", "other"] (defScope s_moved_by_meet) := ⟨rfl, rfl, rfl, by decide +kernel, rfl, by decide +kernel, by decide +kernel⟩
theorem ok_mmeet (T : Blt mg) (D : Def K mg "moved_by_meet" s_moved_by_meet ["row", "one", "other"]) (C_bit_of : Cal P w K mg base CX0 1 "bit_of" ["bits", "coin"] sp_bitof) (C_with_sign_changed : Cal P w K mg base CX0 1 "with_sign_changed" ["number", "often"] sp_change) :
    Cal P w K mg base CX0 2 "moved_by_meet" ["row", "one", "other"] (sp_m2 K .meet) := by
  refine D.ok sc_moved_by_meet (fun vs H Q E h => ?_) (fun f cdv A outer s H vs Q E hr h => ?_)
  · obtain ⟨g, r, m, a, b, rfl, _⟩ := h; rfl
  obtain ⟨g, r, m, a, b, rfl, hG, hm, hr', ha, hb, k⟩ := h
  refine ⟨_, (pss_cons (ps_set (i := 3) sc_moved_by_meet.nd rfl (Or.inl rfl) (pe_cal C_bit_of hr.sub (pa_cons (pe_ix (ix_tupK K) (pv 0) pe_int (fun _ _ => rfl)) (pa_cons (pv 1) pa_nil))))
      (pss_cons (ps_set (i := 4) sc_moved_by_meet.nd rfl (Or.inl rfl) (pe_cal C_bit_of hr.sub (pa_cons (pe_ix (ix_tupK K) (pv 0) pe_int (fun _ _ => rfl)) (pa_cons (pv 2) pa_nil))))
      (pss_cons (ps_set (i := 5) sc_moved_by_meet.nd rfl (Or.inl rfl) (pe_op op_xor (pe_op op_xor (pe_ix (ix_tupK K) (pv 0) pe_int (fun _ _ => rfl)) (pe_op op_shl (pv 3) (pv 2))) (pe_op op_shl (pv 4) (pv 1))))
      (pss_one (ps_ret (pe_tup (pa_cons (pe_cal C_with_sign_changed hr.sub (pa_cons (pe_ix (ix_tupK K) (pv 0) pe_int (fun _ _ => rfl)) (pa_cons (pe_op op_and (pv 3) (pv 4)) pa_nil))) (pa_cons (pe_ix (ix_tupK K) (pv 0) pe_int (fun _ _ => rfl)) (pa_cons (pv 5) pa_nil))))))))), ?_⟩
  refine ⟨_, rfl, g, _, _, _, rfl, rfl, hG, rfl, _, rfl, r.x, a, rfl, le64 hm hr'.x, by omega, fun H1 s1 => ?_⟩
  refine ⟨_, rfl, g, _, _, _, rfl, rfl, s1.tup hG, rfl, _, rfl, r.x, b, rfl, le64 hm hr'.x, by omega, fun H2 s2 => ?_⟩
  have u := s1.trans s2
  refine ⟨_, rfl, g, _, _, _, rfl, rfl, u.tup hG, rfl, _, rfl, _, rfl, _, _, rfl, rfl, cpN _ (by omega), _, _, rfl, rfl, _, rfl, _, rfl, _, _, rfl, rfl, cpN _ (by omega), _, _, rfl, rfl, ?_⟩
  refine ⟨_, rfl, g, _, _, _, rfl, rfl, u.tup hG, rfl, _, rfl, _, rfl, _, _, rfl, rfl, r.sg, bN (bt r.x a && bt r.x b), bt r.x a && bt r.x b, by show [V.int r.sg, V.int (Builtin.bitAnd ((bN (bt r.x a) : Nat) : Int) ((bN (bt r.x b) : Nat) : Int))] = _; rw [aN], bN_mod _, fun H3 s3 => ?_⟩
  have u3 := u.trans s3
  refine ⟨_, rfl, g, _, _, _, rfl, rfl, u3.tup hG, rfl, _, rfl, line6 (by show 3 ≤ 1000; decide), fun q hq => ?_⟩
  refine k q _ (u3.trans (Same.new hq)) (u3.free hq) ?_
  rw [upd_same]
  show some (HO.tup [V.int (chg r.sg (bt r.x a && bt r.x b)), V.int (r.x : Int), V.int (Builtin.bitXor (Builtin.bitXor (r.z : Int) (((bN (bt r.x a) : Nat) : Int) * 2 ^ (b : Int).toNat)) (((bN (bt r.x b) : Nat) : Int) * 2 ^ (a : Int).toNat))]) = _
  rw [xT, xT]; rfl
/- bits_swapped: 0:bits 1:one 2:other 3:unlike -/
noncomputable abbrev s_bits_swapped : Stmt := top 33
theorem sc_bits_swapped : FnScope ["bits", "one", "other", "unlike"] ["bits", "one", "other"] (defScope s_bits_swapped) := ⟨rfl, rfl, rfl, by decide +kernel, rfl, by decide +kernel, by decide +kernel⟩
theorem ok_bswapped (T : Blt mg) (D : Def K mg "bits_swapped" s_bits_swapped ["bits", "one", "other"]) (C_bit_of : Cal P w K mg base CX0 1 "bit_of" ["bits", "coin"] sp_bitof) :
    Cal P w K mg base CX0 2 "bits_swapped" ["bits", "one", "other"] sp_swapped := by
  refine D.ok sc_bits_swapped (fun vs H Q E h => ?_) (fun f cdv A outer s H vs Q E hr h => ?_)
  · obtain ⟨n, a, b, rfl, _⟩ := h; rfl
  obtain ⟨n, a, b, rfl, hn, ha, hb, k⟩ := h
  refine ⟨_, (pss_cons (ps_set (i := 3) sc_bits_swapped.nd rfl (Or.inl rfl) (pe_op op_xor (pe_cal C_bit_of hr.sub (pa_cons (pv 0) (pa_cons (pv 1) pa_nil))) (pe_cal C_bit_of hr.sub (pa_cons (pv 0) (pa_cons (pv 2) pa_nil)))))
      (pss_one (ps_ret (pe_op op_xor (pe_op op_xor (pv 0) (pe_op op_shl (pv 3) (pv 1))) (pe_op op_shl (pv 3) (pv 2)))))), ?_⟩
  refine ⟨_, rfl, _, rfl, n, a, rfl, hn, ha, fun H1 s1 => ?_⟩
  refine ⟨_, rfl, _, rfl, n, b, rfl, hn, hb, fun H2 s2 => ?_⟩
  have hc : ∀ c : Nat, c < 6 → CPow (Builtin.bitXor ((bN (bt n a) : Nat) : Int) ((bN (bt n b) : Nat) : Int)) (c : Int) := fun c h => by rw [xN]; exact cpN _ (by omega)
  refine ⟨_, _, rfl, rfl, ?_⟩
  refine ⟨_, rfl, _, rfl, _, rfl, _, _, rfl, rfl, hc a ha, _, _, rfl, rfl, _, rfl, _, rfl, _, _, rfl, rfl, hc b hb, _, _, rfl, rfl, ?_⟩
  have := k H2 (s1.trans s2)
  show Q (V.int (Builtin.bitXor (Builtin.bitXor (n : Int) (Builtin.bitXor ((bN (bt n a) : Nat) : Int) ((bN (bt n b) : Nat) : Int) * 2 ^ (a : Int).toNat)) (Builtin.bitXor ((bN (bt n a) : Nat) : Int) ((bN (bt n b) : Nat) : Int) * 2 ^ (b : Int).toNat))) H2
  rw [xN, xT, xT]
  exact this
/- moved_by_swap: 0:row 1:one 2:other -/
noncomputable abbrev s_moved_by_swap : Stmt := top 34
theorem sc_moved_by_swap : FnScope ["row", "one", "other"] ["row", "one", "other"] (defScope s_moved_by_swap) := ⟨rfl, rfl, rfl, by decide +kernel, rfl, by decide +kernel, by decide +kernel⟩
theorem ok_mswap (T : Blt mg) (D : Def K mg "moved_by_swap" s_moved_by_swap ["row", "one", "other"]) (C_bits_swapped : Cal P w K mg base CX0 2 "bits_swapped" ["bits", "one", "other"] sp_swapped) :
    Cal P w K mg base CX0 3 "moved_by_swap" ["row", "one", "other"] (sp_m2 K .swap) := by
  refine D.ok sc_moved_by_swap (fun vs H Q E h => ?_) (fun f cdv A outer s H vs Q E hr h => ?_)
  · obtain ⟨g, r, m, a, b, rfl, _⟩ := h; rfl
  obtain ⟨g, r, m, a, b, rfl, hG, hm, hr', ha, hb, k⟩ := h
  refine ⟨_, (pss_one (ps_ret (pe_tup (pa_cons (pe_ix (ix_tupK K) (pv 0) pe_int (fun _ _ => rfl)) (pa_cons (pe_cal C_bits_swapped hr.sub (pa_cons (pe_ix (ix_tupK K) (pv 0) pe_int (fun _ _ => rfl)) (pa_cons (pv 1) (pa_cons (pv 2) pa_nil)))) (pa_cons (pe_cal C_bits_swapped hr.sub (pa_cons (pe_ix (ix_tupK K) (pv 0) pe_int (fun _ _ => rfl)) (pa_cons (pv 1) (pa_cons (pv 2) pa_nil)))) pa_nil)))))), ?_⟩
  refine ⟨_, rfl, g, _, _, _, rfl, rfl, hG, rfl, _, rfl, g, _, _, _, rfl, rfl, hG, rfl, _, rfl, _, rfl, r.x, a, b, rfl, le64 hm hr'.x, by omega, by omega, fun H1 s1 => ?_⟩
  refine ⟨_, rfl, g, _, _, _, rfl, rfl, s1.tup hG, rfl, _, rfl, _, rfl, r.z, a, b, rfl, le64 hm hr'.z, by omega, by omega, fun H2 s2 => ?_⟩
  have u := s1.trans s2
  refine ⟨line6 (by show 3 ≤ 1000; decide), fun q hq => ?_⟩
  exact k q _ (u.trans (Same.new hq)) (u.free hq) (by rw [upd_same]; rfl)
/- row_behind: 0:row 1:gate 2:word -/
noncomputable abbrev s_row_behind : Stmt := top 35
theorem sc_row_behind : FnScope ["row", "gate", "word"] ["row", "gate"] (defScope s_row_behind) := ⟨rfl, rfl, rfl, by decide +kernel, rfl, by decide +kernel, by decide +kernel⟩
theorem ok_behind (T : Blt mg) (D : Def K mg "row_behind" s_row_behind ["row", "gate"])
    (C_moved_by_mix : Cal P w K mg base CX0 2 "moved_by_mix" ["row", "coin"] (sp_m1 K .mix)) (C_moved_by_flip : Cal P w K mg base CX0 2 "moved_by_flip" ["row", "coin"] (sp_m1 K .flip)) (C_moved_by_sign : Cal P w K mg base CX0 2 "moved_by_sign" ["row", "coin"] (sp_m1 K .sign))
    (C_moved_by_follow : Cal P w K mg base CX0 2 "moved_by_follow" ["row", "leader", "follower"] (sp_m2 K .follow)) (C_moved_by_meet : Cal P w K mg base CX0 2 "moved_by_meet" ["row", "one", "other"] (sp_m2 K .meet)) (C_moved_by_swap : Cal P w K mg base CX0 3 "moved_by_swap" ["row", "one", "other"] (sp_m2 K .swap)) :
    Cal P w K mg base CX0 4 "row_behind" ["row", "gate"] (sp_moved K) := by
  refine D.ok sc_row_behind (fun vs H Q E h => ?_) (fun f cdv A outer s H vs Q E hr h => ?_)
  · obtain ⟨g, b, r, m, gt, rfl, _⟩ := h; rfl
  obtain ⟨g, b, r, m, gt, rfl, hA, hB, hm, hr', hg, kk⟩ := h
  refine ⟨_, (pss_cons (ps_set (i := 2) sc_row_behind.nd rfl (Or.inl rfl) (pe_ix (ix_tupK K) (pv 1) pe_int (fun _ _ => rfl)))
      (pss_cons (ps_if (pt_cmpR op_eq (pv 2) pe_str (nomark _))
        (pss_one (ps_ret (pe_cal C_moved_by_mix hr.sub (pa_cons (pv 0) (pa_cons (pe_ix (ix_tupK K) (pv 1) pe_int (fun _ _ => rfl)) pa_nil)))))
        pss_nil)
      (pss_cons (ps_if (pt_cmpR op_eq (pv 2) pe_str (nomark _))
        (pss_one (ps_ret (pe_cal C_moved_by_flip hr.sub (pa_cons (pv 0) (pa_cons (pe_ix (ix_tupK K) (pv 1) pe_int (fun _ _ => rfl)) pa_nil)))))
        pss_nil)
      (pss_cons (ps_if (pt_cmpR op_eq (pv 2) pe_str (nomark _))
        (pss_one (ps_ret (pe_cal C_moved_by_sign hr.sub (pa_cons (pv 0) (pa_cons (pe_ix (ix_tupK K) (pv 1) pe_int (fun _ _ => rfl)) pa_nil)))))
        pss_nil)
      (pss_cons (ps_if (pt_cmpR op_eq (pv 2) pe_str (nomark _))
        (pss_one (ps_ret (pe_cal C_moved_by_follow hr.sub (pa_cons (pv 0) (pa_cons (pe_ix (ix_tupK K) (pv 1) pe_int (fun _ _ => rfl)) (pa_cons (pe_ix (ix_tupK K) (pv 1) pe_int (fun _ _ => rfl)) pa_nil))))))
        pss_nil)
      (pss_cons (ps_if (pt_cmpR op_eq (pv 2) pe_str (nomark _))
        (pss_one (ps_ret (pe_cal C_moved_by_meet hr.sub (pa_cons (pv 0) (pa_cons (pe_ix (ix_tupK K) (pv 1) pe_int (fun _ _ => rfl)) (pa_cons (pe_ix (ix_tupK K) (pv 1) pe_int (fun _ _ => rfl)) pa_nil))))))
        pss_nil)
      (pss_one (ps_ret (pe_cal C_moved_by_swap hr.sub (pa_cons (pv 0) (pa_cons (pe_ix (ix_tupK K) (pv 1) pe_int (fun _ _ => rfl)) (pa_cons (pe_ix (ix_tupK K) (pv 1) pe_int (fun _ _ => rfl)) pa_nil)))))))))))), ?_⟩
  have hG : SqT K H b gt.vals := sqT hB
  have hA1 := hA
  have k := kk
  cases gt with
  | mix c =>
    refine ⟨_, rfl, b, _, _, _, rfl, rfl, hG, rfl, ?_⟩
    refine ⟨_, rfl, rfl, _, rfl, iteB (by decide +kernel) ?_⟩
    exact ⟨_, rfl, _, rfl, b, _, _, _, rfl, rfl, hG, rfl, g, r, m, c, rfl, hA1, hm, hr', hg, k⟩
  | flip c =>
    refine ⟨_, rfl, b, _, _, _, rfl, rfl, hG, rfl, ?_⟩
    refine ⟨_, rfl, rfl, _, rfl, iteBN (by decide +kernel) ?_⟩
    refine ⟨_, rfl, rfl, _, rfl, iteB (by decide +kernel) ?_⟩
    exact ⟨_, rfl, _, rfl, b, _, _, _, rfl, rfl, hG, rfl, g, r, m, c, rfl, hA1, hm, hr', hg, k⟩
  | sign c =>
    refine ⟨_, rfl, b, _, _, _, rfl, rfl, hG, rfl, ?_⟩
    refine ⟨_, rfl, rfl, _, rfl, iteBN (by decide +kernel) ?_⟩
    refine ⟨_, rfl, rfl, _, rfl, iteBN (by decide +kernel) ?_⟩
    refine ⟨_, rfl, rfl, _, rfl, iteB (by decide +kernel) ?_⟩
    exact ⟨_, rfl, _, rfl, b, _, _, _, rfl, rfl, hG, rfl, g, r, m, c, rfl, hA1, hm, hr', hg, k⟩
  | follow c d =>
    refine ⟨_, rfl, b, _, _, _, rfl, rfl, hG, rfl, ?_⟩
    refine ⟨_, rfl, rfl, _, rfl, iteBN (by decide +kernel) ?_⟩
    refine ⟨_, rfl, rfl, _, rfl, iteBN (by decide +kernel) ?_⟩
    refine ⟨_, rfl, rfl, _, rfl, iteBN (by decide +kernel) ?_⟩
    refine ⟨_, rfl, rfl, _, rfl, iteB (by decide +kernel) ?_⟩
    exact ⟨_, rfl, _, rfl, b, _, _, _, rfl, rfl, hG, rfl, _, rfl, b, _, _, _, rfl, rfl, hG, rfl, g, r, m, c, d, rfl, hA1, hm, hr', hg.1, hg.2.1, k⟩
  | meet c d =>
    refine ⟨_, rfl, b, _, _, _, rfl, rfl, hG, rfl, ?_⟩
    refine ⟨_, rfl, rfl, _, rfl, iteBN (by decide +kernel) ?_⟩
    refine ⟨_, rfl, rfl, _, rfl, iteBN (by decide +kernel) ?_⟩
    refine ⟨_, rfl, rfl, _, rfl, iteBN (by decide +kernel) ?_⟩
    refine ⟨_, rfl, rfl, _, rfl, iteBN (by decide +kernel) ?_⟩
    refine ⟨_, rfl, rfl, _, rfl, iteB (by decide +kernel) ?_⟩
    exact ⟨_, rfl, _, rfl, b, _, _, _, rfl, rfl, hG, rfl, _, rfl, b, _, _, _, rfl, rfl, hG, rfl, g, r, m, c, d, rfl, hA1, hm, hr', hg.1, hg.2.1, k⟩
  | swap c d =>
    refine ⟨_, rfl, b, _, _, _, rfl, rfl, hG, rfl, ?_⟩
    refine ⟨_, rfl, rfl, _, rfl, iteBN (by decide +kernel) ?_⟩
    refine ⟨_, rfl, rfl, _, rfl, iteBN (by decide +kernel) ?_⟩
    refine ⟨_, rfl, rfl, _, rfl, iteBN (by decide +kernel) ?_⟩
    refine ⟨_, rfl, rfl, _, rfl, iteBN (by decide +kernel) ?_⟩
    refine ⟨_, rfl, rfl, _, rfl, iteBN (by decide +kernel) ?_⟩
    exact ⟨_, rfl, _, rfl, b, _, _, _, rfl, rfl, hG, rfl, _, rfl, b, _, _, _, rfl, rfl, hG, rfl, g, r, m, c, d, rfl, hA1, hm, hr', hg.1, hg.2.1, k⟩
/- rows_moved: 0:rows 1:gates 2:gate -/
noncomputable abbrev s_rows_moved : Stmt := top 36
theorem sc_rows_moved : FnScope ["rows", "gates", "gate"] ["rows", "gates"] (defScope s_rows_moved) := ⟨rfl, rfl, rfl, by decide +kernel, rfl, by decide +kernel, by decide +kernel⟩
theorem ok_rowsm (T : Blt mg) (D : Def K mg "rows_moved" s_rows_moved ["rows", "gates"]) (C_row_behind : Cal P w K mg base CX0 4 "row_behind" ["row", "gate"] (sp_moved K)) : Cal P w K mg base CX0 5 "rows_moved" ["rows", "gates"] (sp_rowsm K) := by
  refine D.ok sc_rows_moved (fun vs H Q E h => ?_) (fun f cdv A outer s H vs Q E hr h => ?_)
  · obtain ⟨a, b, as, bs, rs, gs, m, rfl, _⟩ := h; rfl
  obtain ⟨a, b, as, bs, rs, gs, m, rfl, eA, hR, hB, hG, hm, hz, k⟩ := h
  refine ⟨_, (pss_cons (ps_for PassesOwn.never rfl (pi_listK K (pv 1)) (pg_name (i := 2) sc_rows_moved.nd rfl (Or.inr rfl))
        (pss_one (ps_setC (i := 0) rfl sc_rows_moved.nd rfl rfl (cs (N := ["rows", "gates", "gate"]) (osc := defScope s_rows_moved) (by decide +kernel)) (pi_listK K (pv 0)) (fun _ _ _ _ => pifs_nil) (fun _ _ _ _ => (pe_cal C_row_behind hr.sub (pa_cons (pv 0) (pa_cons (pv 3) pa_nil)))))))
      (pss_one (ps_ret (pv 0)))), ?_⟩
  refine ⟨_, rfl, b, rfl, ⟨_, hB⟩, for_list (K := K) (a := b) (xs := rV bs) (fun i σ H' => ∃ (q : Addr) (qs : List Addr) (v : Option V), σ = [some (.ref q), some (.ref b), v] ∧ Same H H' ∧ (q = a ∨ H q = none) ∧ H' q = some (.lst (rV qs)) ∧ Rws H' m qs (rs.map (mvs (gs.take i)))) ⟨a, as, _, rfl, .refl H, .inl rfl, eA, by rw [List.take_zero, mvs_nil]; exact hR⟩ (fun i σ H' _ ⟨_, _, _, _, s', _⟩ => s'.seq hB) ?_ ?_⟩
  · rintro i x σ H' hi ⟨q, qs, v, rfl, s', fq, eq, hq⟩
    obtain ⟨ga, hga, rfl⟩ := rs_get hi
    obtain ⟨gt, hgt, egt, hok⟩ := hG.g i ga hga
    have hql : qs.length ≤ 64 := by rw [hq.l, List.length_map]; exact hz
    refine ⟨_, rfl, q, rfl, ⟨_, .of eq⟩, comp_listP (K := K) (a := q) (xs := rV qs) (fun j ys H'' => ∃ cs : List Addr, ys = rV cs ∧ cs.length = j ∧ Same H' H'' ∧ Rws H'' m cs (((rs.map (mvs (gs.take i))).take j).map (mvd · gt))) ⟨[], rfl, rfl, .refl H', ⟨rfl, fun _ _ h => nomatch h⟩⟩ (fun j ys H'' _ ⟨cs, e, hj, s2, _⟩ => ⟨.of (s2 _ _ eq), by rw [e, rV, List.length_map, hj]⟩) (line6 (by rw [rV, List.length_map]; omega)) ?_ ?_⟩
    · rintro j x ys H2 Q' hj ⟨cs, rfl, hcl, s2, hc⟩ q'
      obtain ⟨ra, hra, rfl⟩ := rs_get hj
      obtain ⟨r, hr1, er, rok⟩ := hq.g j ra hra
      refine ⟨_, rfl, _, rfl, ra, ga, r, m, gt, rfl, sqT (s2 _ _ er), (s'.trans s2) _ _ egt, hm, rok, hok, fun p H3 s3 np ep => ?_⟩
      refine q' _ _ ⟨cs ++ [p], by simp [rV], by simp [hcl], s2.trans s3, ?_⟩
      rw [List.take_add_one, hr1, Option.toList_some, List.map_append]
      exact (hc.same s3).app ep (mvd_ok rok hok)
    · rintro ys H2 p ⟨cs, rfl, hcl, s2, hc⟩ np
      have s3 := (s'.trans s2).trans (Same.new (o := .lst (rV cs)) np)
      refine ⟨p, cs, _, rfl, s3, .inr ((s'.trans s2).free np), upd_same, ?_⟩
      have e : ((rs.map (mvs (gs.take i))).take (rV qs).length).map (mvd · gt) = rs.map (mvs (gs.take (i + 1))) := by
        rw [rV, List.length_map, hq.l, List.take_length, List.map_map, mvs_take hgt]
      rw [← e]
      exact hc.same (Same.new np)
  · rintro σ H' ⟨q, qs, v, rfl, s', fq, eq, hq⟩
    refine ⟨_, rfl, k q qs H' s' fq eq ?_⟩
    rw [rV, List.length_map, hG.l, List.take_length] at hq
    exact hq
end

end K55

set_option maxHeartbeats 4000000
namespace K55
open PySem L2 TC
noncomputable abbrev cV (L : List Nat) : List V := L.map fun n : Nat => V.int (n : Int)
theorem cs_get {L : List Nat} {i : Nat} {x : V} (h : (cV L)[i]? = some x) : ∃ n, L[i]? = some n ∧ x = .int (n : Int) := by
  rw [List.getElem?_map] at h
  cases e : L[i]? with
  | none => rw [e] at h; cases h
  | some z => rw [e] at h; exact ⟨z, rfl, (Option.some.inj h).symm⟩
theorem cs_at {L : List Nat} {i n : Nat} (h : L[i]? = some n) : atI (cV L) (i : Int) = some (.int (n : Int)) := atI_nat (by rw [List.getElem?_map, h]; rfl)
theorem cw_bits : ∀ n : Nat, n < 64 → ((List.range (Builtin.Int.intBits (n : Int))).filter (bt n)) = cw n ∧ Builtin.Int.intBits (n : Int) ≤ 6 := by decide +kernel
theorem cut1 (xs : List V) : cutV xs (some 1) none = xs.tail := by
  unfold cutV
  have e1 : HT.sIx xs.length 0 (some 1) = min 1 xs.length := by unfold HT.sIx; simp; try omega
  have e2 : HT.sIx xs.length xs.length none = xs.length := by unfold HT.sIx; rfl
  rw [e1, e2]
  cases xs with
  | nil => rfl
  | cons a l =>
    have : min 1 (a :: l).length = 1 := by simp
    rw [this]
    show l.take _ = l
    exact List.take_of_length_le (by simp)
theorem cutN (xs : List V) (n : Nat) (h : n ≤ xs.length) : cutV xs (some (n : Int)) none = xs.drop n := by
  unfold cutV
  have e1 : HT.sIx xs.length 0 (some (n : Int)) = n := by unfold HT.sIx; simp; rw [if_neg (by omega)]; omega
  have e2 : HT.sIx xs.length xs.length none = xs.length := by unfold HT.sIx; rfl
  rw [e1, e2]
  exact List.take_of_length_le (by rw [List.length_drop]; omega)
theorem meetsP_at : ∀ {L : List Nat} {i a b : Nat}, L[2 * i]? = some a → L[2 * i + 1]? = some b → (meetsP L)[i]? = some (.meet a b)
  | [], i, _, _, h, _ => by simp at h
  | [_], i, _, _, _, h => by simp at h
  | x :: y :: l, 0, a, b, h1, h2 => by cases h1; cases h2; rfl
  | x :: y :: l, i + 1, a, b, h1, h2 => by
    show (meetsP l)[i]? = _
    refine meetsP_at (L := l) ?_ ?_
    · rw [show 2 * (i + 1) = 2 * i + 1 + 1 by omega] at h1; exact h1
    · rw [show 2 * (i + 1) + 1 = 2 * i + 1 + 1 + 1 by omega] at h2; exact h2
noncomputable def sp_cw : Sp := fun vs H Q _ => ∃ n : Nat, vs = [.int n] ∧ n < 64 ∧ ∀ q H', Same H H' → H q = none → H' q = some (.lst (cV (cw n))) → Q (.ref q) H'
noncomputable def sp_meets (K : PySem.W.Frag) : Sp := fun vs H Q _ => ∃ (a : Addr) (L : List Nat) (m : Nat), vs = [.ref a] ∧ SqL K H a (cV L) ∧ L.length ≤ 6 ∧ (∀ g ∈ meetsP L, g.ok m) ∧ ∀ q qs H', Same H H' → H q = none → H' q = some (.lst (rV qs)) → Gts H' m qs (meetsP L) → Q (.ref q) H'
noncomputable def sp_tox (K : PySem.W.Frag) : Sp := fun vs H Q _ => ∃ (g : Addr) (r : Rw) (m k : Nat), vs = [.ref g, .int k] ∧ SqT K H g r.vals ∧ m ≤ 6 ∧ r.ok m ∧ r.x ||| r.z ≠ 0 ∧ (∀ gt ∈ tox r k, gt.ok m) ∧ ∀ q qs H', Same H H' → H q = none → H' q = some (.lst (rV qs)) → Gts H' m qs (tox r k) → Q (.ref q) H'
noncomputable def sp_toz (K : PySem.W.Frag) : Sp := fun vs H Q _ => ∃ (g : Addr) (r : Rw) (m k : Nat), vs = [.ref g, .int k] ∧ SqT K H g r.vals ∧ m ≤ 6 ∧ r.ok m ∧ k < m ∧ (∀ gt ∈ toz r k, gt.ok m) ∧ ∀ q qs H', Same H H' → H q = none → H' q = some (.lst (rV qs)) → Gts H' m qs (toz r k) → Q (.ref q) H'
noncomputable def sp_else : Sp := fun vs H Q _ => ∃ n k : Nat, vs = [.int n, .int k] ∧ n < 64 ∧ k < 6 ∧ ∀ H', Same H H' → Q (.int (ws n k : Nat)) H'
section
variable {P : Program} {w : World} {K : PySem.W.Frag} {mg : Str → Option Value} {base : Heap}
theorem gts_comp {L : List Nat} {m : Nat} {a : Addr} {σ : St} {H : Hp} {te : TE} {Q : VK} (mk : Nat → Gt) (hS : SqL K H a (cV L)) (hn : L.length ≤ 64) (hok : ∀ c ∈ L, (mk c).ok m)
    (ht : ∀ c H' Q', c ∈ L → Same H H' → (∀ g, H' g = none → Q' (.ref g) (upd H' g (.tup (mk c).vals))) → te (some (V.int (c : Int)) :: σ) H' Q')
    (k : ∀ p cs H', Same H H' → H p = none → H' p = some (.lst (rV cs)) → Gts H' m cs (L.map mk) → Q (.ref p) H') : ∃ W, (∃ m, W 0 m [] H) ∧ CompW (Itl K a) tYes te σ Q W := by
  have hl : (cV L).length = L.length := List.length_map ..
  refine comp_listP (K := K) (a := a) (xs := cV L) (fun i ys H' => ∃ cs : List Addr, ys = rV cs ∧ cs.length = i ∧ Same H H' ∧ Gts H' m cs ((L.take i).map mk)) ⟨[], rfl, rfl, .refl H, ⟨rfl, fun _ _ h => nomatch h⟩⟩ (fun i ys H' _ ⟨cs, e, hj, s2, _⟩ => ⟨s2.seq hS, by rw [e, rV, List.length_map, hj]⟩) (line6 (by omega)) ?_ ?_
  · rintro i x ys H' Q' hi ⟨cs, rfl, hcl, s2, hc⟩ q'
    obtain ⟨c, hc', rfl⟩ := cs_get hi
    have hm := List.mem_of_getElem? hc'
    refine ht c H' Q' hm s2 fun g hg => q' _ _ ⟨cs ++ [g], by simp [rV], by simp [hcl], s2.trans (Same.new hg), ?_⟩
    rw [List.take_add_one, hc', Option.toList_some, List.map_append]
    exact (hc.same (Same.new hg)).app (Gts.one upd_same (hok c hm))
  · rintro ys H' p ⟨cs, rfl, hcl, s2, hc⟩ np
    rw [hl, List.take_length] at hc
    exact k p cs _ (s2.trans (Same.new np)) (s2.free np) upd_same (hc.same (Same.new np))
/- coins_with: 0:bits -/
noncomputable abbrev s_coins_with : Stmt := top 41
theorem sc_coins_with : FnScope ["bits"] ["bits"] (defScope s_coins_with) := ⟨rfl, rfl, rfl, by decide +kernel, rfl, by decide +kernel, by decide +kernel⟩
theorem ok_cw (T : Blt mg) (D : Def K mg "coins_with" s_coins_with ["bits"]) (C_bit_of : Cal P w K mg base CX0 1 "bit_of" ["bits", "coin"] sp_bitof) : Cal P w K mg base CX0 2 "coins_with" ["bits"] sp_cw := by
  refine D.ok sc_coins_with (fun vs H Q E h => ?_) (fun f cdv A outer s H vs Q E hr h => ?_)
  · obtain ⟨n, rfl, _⟩ := h; rfl
  obtain ⟨n, rfl, hn, k⟩ := h
  obtain ⟨e1, e3⟩ := cw_bits n hn
  refine ⟨_, (pss_one (ps_ret (pe_comp rfl sc_coins_with.nd (cs (N := ["bits"]) (osc := defScope s_coins_with) (by decide +kernel)) (pi_range1 rfl T.n_range (pa_cons (pe_bm0 PySem.F.plainAttrs_int PySem.F.slot_int_bit_length PySem.F.type_int_bit_length mt_bit_length (pv 0)) pa_nil)) (fun _ _ _ _ => (pifs_one (pt_cmpR op_eq (pe_cal C_bit_of hr.sub (pa_cons (pv 1) (pa_cons (pv 0) pa_nil))) pe_int (nomark _)))) (fun _ _ _ _ => (pv 0))))), ?_⟩
  refine ⟨_, rfl, rfl, (n : Int), rfl, rfl, ((Builtin.Int.intBits (n : Int) : Nat) : Int), rfl, by omega, by omega, ?_⟩
  rw [Int.toNat_natCast]
  refine comp_rangeF (bt n) (fun i => .int (i : Int)) (line6 (by omega)) ?_ ?_ ?_
  · intro i H' Q' hi s' q'
    rw [Int.zero_add]
    refine ⟨_, rfl, _, rfl, n, i, rfl, hn, by omega, fun H2 s2 => ⟨rfl, ?_⟩⟩
    have := q' H2 s2
    rw [show bt n i = decide (V.int ((bN (bt n i) : Nat) : Int) = V.int 1) by cases bt n i <;> rfl] at this
    exact ⟨_, rfl, this⟩
  · intro i H' Q' hi _ s' q'
    rw [Int.zero_add]
    exact ⟨_, rfl, q' H' (.refl H')⟩
  · intro p H' s' np ep
    rw [e1] at ep
    exact k p H' s' np ep
/- meets_in_pairs: 0:coins -/
noncomputable abbrev s_meets_in_pairs : Stmt := top 42
theorem sc_meets_in_pairs : FnScope ["coins"] ["coins"] (defScope s_meets_in_pairs) := ⟨rfl, rfl, rfl, by decide +kernel, rfl, by decide +kernel, by decide +kernel⟩
theorem ok_meets (T : Blt mg) (D : Def K mg "meets_in_pairs" s_meets_in_pairs ["coins"]) : Cal P w K mg base CX0 1 "meets_in_pairs" ["coins"] (sp_meets K) := by
  refine D.ok sc_meets_in_pairs (fun vs H Q E h => ?_) (fun f cdv A outer s H vs Q E hr h => ?_)
  · obtain ⟨a, L, m, rfl, _⟩ := h; rfl
  obtain ⟨a, L, m, rfl, hS, hl, hok, k⟩ := h
  refine ⟨_, (pss_one (ps_ret (pe_comp rfl sc_meets_in_pairs.nd (cs (N := ["coins"]) (osc := defScope s_meets_in_pairs) (by decide +kernel)) (pi_range3 rfl T.n_range (pa_cons pe_int (pa_cons (pe_op op_sub (pe_callB (call_lenK K) (by rfl) T.n_len bt_len (pa_cons (pv 0) pa_nil)) pe_int) (pa_cons pe_int pa_nil)))) (fun _ _ _ _ => pifs_nil) (fun _ _ _ _ => (pe_tup (pa_cons pe_str (pa_cons (pe_ix (ix_listK K) (pv 1) (pv 0) (fun _ _ => rfl)) (pa_cons (pe_ix (ix_listK K) (pv 1) (pe_op op_add (pv 0) pe_int) (fun _ _ => rfl)) pa_nil)))))))), ?_⟩
  have el : ((cV L).length : Int) = (L.length : Int) := by rw [List.length_map]
  refine ⟨_, rfl, a, _, rfl, .inl hS, _, _, rfl, rfl, (0 : Int), ((cV L).length : Int) - 1, L.length / 2, rfl, by rw [el]; omega, by rw [el]; split <;> omega, ?_⟩
  refine comp_range3P (fun i ys H' => ∃ cs : List Addr, ys = rV cs ∧ cs.length = i ∧ Same H H' ∧ Gts H' m cs ((meetsP L).take i)) ⟨[], rfl, rfl, .refl H, ⟨rfl, fun _ _ h => nomatch h⟩⟩ (fun i ys H' _ ⟨cs, e, hj, _⟩ => by rw [e, rV, List.length_map, hj]) (line6 (by omega)) ?_ ?_
  · rintro i ys H' Q' hi ⟨cs, rfl, hcl, s2, hc⟩ q'
    obtain ⟨x, hx⟩ : ∃ x, L[2 * i]? = some x := ⟨_, List.getElem?_eq_getElem (by omega)⟩
    obtain ⟨y, hy⟩ : ∃ y, L[2 * i + 1]? = some y := ⟨_, List.getElem?_eq_getElem (by omega)⟩
    have hg := meetsP_at hx hy
    rw [show (0 : Int) + (i : Int) * 2 = ((2 * i : Nat) : Int) by omega]
    refine ⟨_, rfl, _, rfl, a, _, _, _, rfl, rfl, s2.seq hS, cs_at hx, ?_⟩
    refine ⟨_, rfl, _, rfl, _, _, rfl, rfl, a, _, _, _, rfl, rfl, s2.seq hS, (by show atI (cV L) (((2 * i : Nat) : Int) + 1) = _; rw [show ((2 * i : Nat) : Int) + 1 = ((2 * i + 1 : Nat) : Int) by omega]; exact cs_at hy), line6 (by show 3 ≤ 1000; decide), fun g ng => ?_⟩
    refine q' _ _ ⟨cs ++ [g], by simp [rV], by simp [hcl], s2.trans (Same.new ng), ?_⟩
    rw [List.take_add_one, hg, Option.toList_some]
    exact (hc.same (Same.new ng)).app (Gts.one upd_same (hok _ (List.mem_of_getElem? hg)))
  · rintro ys H' p ⟨cs, rfl, hcl, s2, hc⟩ np
    rw [← meetsP_len, List.take_length] at hc
    exact k p cs _ (s2.trans (Same.new np)) (s2.free np) upd_same (hc.same (Same.new np))
end

end K55

set_option maxHeartbeats 4000000
namespace K55
open PySem L2 TC
theorem Join2 {ι κ : Sort _} {C G : ι → κ → Prop} {A : Prop} (h : (∀ i j, C i j → G i j) → A) (k : ∀ i j, C i j → G i j) : A := h k
section
variable {P : Program} {w : World} {K : PySem.W.Frag} {mg : Str → Option Value} {base : Heap}
theorem hd0 (a : Nat) (l : List Nat) : atI (cV (a :: l)) 0 = some (.int (a : Int)) := cs_at (L := a :: l) (i := 0) rfl
theorem rV_app (as bs : List Addr) : rV as ++ rV bs = rV (as ++ bs) := by simp [rV]
/- gates_to_x: 0:row 1:coin 2:both 3:mixes 4:there 5:follows 6:swaps -/
noncomputable abbrev s_gates_to_x : Stmt := top 43
theorem sc_gates_to_x : FnScope ["row", "coin", "both", "mixes", "there", "follows", "swaps"] ["row", "coin"] (defScope s_gates_to_x) := ⟨rfl, rfl, rfl, by decide +kernel, rfl, by decide +kernel, by decide +kernel⟩
theorem ok_tox (T : Blt mg) (D : Def K mg "gates_to_x" s_gates_to_x ["row", "coin"]) (C_coins_with : Cal P w K mg base CX0 2 "coins_with" ["bits"] sp_cw) (C_meets_in_pairs : Cal P w K mg base CX0 1 "meets_in_pairs" ["coins"] (sp_meets K)) : Cal P w K mg base CX0 3 "gates_to_x" ["row", "coin"] (sp_tox K) := by
  refine D.ok sc_gates_to_x (fun vs H Q E h => ?_) (fun f cdv A outer s H vs Q E hr h => ?_)
  · obtain ⟨g, r, m, k, rfl, _⟩ := h; rfl
  obtain ⟨g, r, m, c, rfl, hA, hm, hr', h0, hok, k⟩ := h
  have x64 := le64 hm hr'.x
  have z64 := le64 hm hr'.z
  have hlen := tox_len r c
  unfold tox at hok k hlen
  have c0 := cw_ne (or64 x64 z64) h0
  have l6 := cw_len (r.x ||| r.z)
  obtain ⟨a, l, hL⟩ : ∃ a l, cw (r.x ||| r.z) = a :: l := ⟨_, _, head_tail c0⟩
  rw [hL] at hok k l6 hlen
  have hlen : (meetsP (cw (r.x &&& r.z)) ++ (cw (r.z ^^^ (r.x &&& r.z))).map Gt.mix ++ l.map (Gt.follow a) ++ (if a ≠ c then [Gt.swap a c] else [])).length ≤ 15 := hlen
  have hoka : ∀ g ∈ meetsP (cw (r.x &&& r.z)), g.ok m := fun g hg => hok g (List.mem_append_left _ (List.mem_append_left _ (List.mem_append_left _ hg)))
  have hokb : ∀ g ∈ (cw (r.z ^^^ (r.x &&& r.z))).map Gt.mix, g.ok m := fun g hg => hok g (List.mem_append_left _ (List.mem_append_left _ (List.mem_append_right _ hg)))
  have hokc : ∀ g ∈ l.map (Gt.follow a), g.ok m := fun g hg => hok g (List.mem_append_left _ (List.mem_append_right _ hg))
  have hokd : ∀ g ∈ (if a ≠ c then [Gt.swap a c] else []), g.ok m := fun g hg => hok g (List.mem_append_right _ hg)
  refine ⟨_, (pss_cons (ps_set (i := 2) sc_gates_to_x.nd rfl (Or.inl rfl) (pe_op op_and (pe_ix (ix_tupK K) (pv 0) pe_int (fun _ _ => rfl)) (pe_ix (ix_tupK K) (pv 0) pe_int (fun _ _ => rfl))))
      (pss_cons (ps_setC (i := 3) rfl sc_gates_to_x.nd rfl rfl (cs (N := ["row", "coin", "both", "mixes", "there", "follows", "swaps"]) (osc := defScope s_gates_to_x) (by decide +kernel)) (pi_listK K (pe_cal C_coins_with hr.sub (pa_cons (pe_op op_xor (pe_ix (ix_tupK K) (pv 0) pe_int (fun _ _ => rfl)) (pv 2)) pa_nil))) (fun _ _ _ _ => pifs_nil) (fun _ _ _ _ => (pe_tup (pa_cons pe_str (pa_cons (pv 0) pa_nil)))))
      (pss_cons (ps_set (i := 4) sc_gates_to_x.nd rfl (Or.inr rfl) (pe_cal C_coins_with hr.sub (pa_cons (pe_op op_or (pe_ix (ix_tupK K) (pv 0) pe_int (fun _ _ => rfl)) (pe_ix (ix_tupK K) (pv 0) pe_int (fun _ _ => rfl))) pa_nil)))
      (pss_cons (ps_setC (i := 5) rfl sc_gates_to_x.nd rfl rfl (cs (N := ["row", "coin", "both", "mixes", "there", "follows", "swaps"]) (osc := defScope s_gates_to_x) (by decide +kernel)) (pi_listK K (pe_slice (sl_listK K) (pv 4) (po_some pe_int) po_none)) (fun _ _ _ _ => pifs_nil) (fun _ _ _ _ => (pe_tup (pa_cons pe_str (pa_cons (pe_ix (ix_listK K) (pv 5) pe_int (fun _ _ => rfl)) (pa_cons (pv 0) pa_nil))))))
      (pss_cons (ps_set (i := 6) sc_gates_to_x.nd rfl (Or.inl rfl) (pe_ifExp (pt_cmpR op_ne (pe_ix (ix_listK K) (pv 4) pe_int (fun _ _ => rfl)) (pv 1) (nomark _)) (pe_lst (pa_cons (pe_tup (pa_cons pe_str (pa_cons (pe_ix (ix_listK K) (pv 4) pe_int (fun _ _ => rfl)) (pa_cons (pv 1) pa_nil)))) pa_nil)) (pe_lst pa_nil)))
      (pss_one (ps_ret (pe_op op_cat (pe_op op_cat (pe_op op_cat (pe_cal C_meets_in_pairs hr.sub (pa_cons (pe_cal C_coins_with hr.sub (pa_cons (pv 2) pa_nil)) pa_nil)) (pv 3)) (pv 5)) (pv 6))))))))), ?_⟩
  refine ⟨_, rfl, g, _, _, _, rfl, rfl, hA, rfl, _, rfl, g, _, _, _, rfl, rfl, hA, rfl, _, _, rfl, rfl, ?_⟩
  dsimp only
  rw [bAnd]
  refine ⟨_, rfl, g, _, _, _, rfl, rfl, hA, rfl, _, rfl, _, _, rfl, rfl, r.z ^^^ (r.x &&& r.z), by show [V.int (Builtin.bitXor (r.z : Int) ((r.x &&& r.z : Nat) : Int))] = _; rw [bXor], xor64 z64 (and64 x64), fun q1 H1 s1 nq1 eq1 => ?_⟩
  refine ⟨q1, rfl, ⟨_, .of eq1⟩, gts_comp (m := m) .mix (.of eq1) (Nat.le_trans (cw_len _) (by decide)) (fun c hc => hokb _ (List.mem_map.mpr ⟨c, hc, rfl⟩)) ?_ ?_⟩
  · intro c H' Q' hc s' q'
    exact ⟨_, rfl, line6 (by show 2 ≤ 1000; decide), q'⟩
  intro qm ms H2 s2 nqm eqm Gm
  have t2 := s1.trans s2
  refine ⟨_, rfl, g, _, _, _, rfl, rfl, t2.tup hA, rfl, _, rfl, g, _, _, _, rfl, rfl, t2.tup hA, rfl, _, _, rfl, rfl, r.x ||| r.z, by show [V.int (Builtin.bitOr (r.x : Int) (r.z : Int))] = _; rw [bOr], or64 x64 z64, fun qt H3 s3 nqt eqt => ?_⟩
  rw [hL] at eqt
  have eqm := s3 _ _ eqm
  have Gm := Gm.same s3
  have t3 := t2.trans s3
  refine ⟨_, rfl, _, rfl, qt, _, rfl, .of eqt, fun qc nqc => ?_⟩
  rw [cut1]
  have s4 := Same.new (o := .lst (cV l)) nqc
  have ec : upd H3 qc (.lst (cV l)) qc = some (.lst (cV l)) := upd_same
  show ∃ a, _
  have eqt := s4 _ _ eqt
  have eqm := s4 _ _ eqm
  have Gm := Gm.same s4
  have t4 := t3.trans s4
  generalize hH4 : upd H3 qc (.lst (cV l)) = H4 at ec eqt eqm Gm t4
  have hH4' : upd H3 qc (HO.lst (cV (a :: l)).tail) = H4 := hH4
  rw [hH4']
  clear hH4 hH4' s4
  refine ⟨qc, rfl, ⟨_, .of ec⟩, gts_comp (m := m) (.follow a) (.of ec) (by simp at l6; omega) (fun c hc => hokc _ (List.mem_map.mpr ⟨c, hc, rfl⟩)) ?_ ?_⟩
  · intro c H' Q' hc s' q'
    exact ⟨_, rfl, qt, _, _, _, rfl, rfl, .of (s' _ _ eqt), hd0 a l, _, rfl, line6 (by show 3 ≤ 1000; decide), q'⟩
  intro qf fs H5 s5 nqf eqf Gf
  have eqt := s5 _ _ eqt
  have eqm := s5 _ _ eqm
  have Gm := Gm.same s5
  have t5 := t4.trans s5
  refine ⟨_, rfl, qt, _, _, _, rfl, rfl, .of eqt, hd0 a l, _, rfl, rfl, ?_⟩
  refine Join2 (ι := Addr) (κ := Hp) (C := fun qs H' => ∃ ss : List Addr, Same H5 H' ∧ H' qs = some (.lst (rV ss)) ∧ Gts H' m ss (if a ≠ c then [Gt.swap a c] else [])) (G := ?G) (fun rest => ?ja) ?jk
  case ja =>
    by_cases hac : a = c
    · refine ⟨_, rfl, iteBN (by rw [decide_eq_true (by rw [hac])]; rfl) ?_⟩
      refine ⟨line6 (by show 0 ≤ 1000; decide), fun e ne => ?_⟩
      have s6 := Same.new (o := .lst []) ne
      have ee : upd H5 e (.lst []) e = some (.lst []) := upd_same
      dsimp only [gName]
      generalize upd H5 e (.lst []) = H6 at s6 ee ⊢
      exact rest e H6 ⟨[], s6, ee, by rw [if_neg (by simp [hac])]; exact .nil⟩
    · refine ⟨_, rfl, iteB (by rw [decide_eq_false (fun z => hac (by injection z with z; omega))]; rfl) ?_⟩
      refine ⟨_, rfl, qt, _, _, _, rfl, rfl, .of eqt, hd0 a l, _, rfl, line6 (by show 3 ≤ 1000; decide), fun g2 ng2 => ?_⟩
      refine ⟨line6 (by show 1 ≤ 1000; decide), fun e ne => ?_⟩
      have s6 : Same H5 (upd (upd H5 g2 (.tup [.str "swap", .int (a : Int), .int (c : Int)])) e (.lst [.ref g2])) := (Same.new ng2).trans (Same.new ne)
      have ee : upd (upd H5 g2 (.tup [.str "swap", .int (a : Int), .int (c : Int)])) e (.lst [.ref g2]) e = some (.lst [.ref g2]) := upd_same
      have eg : upd (upd H5 g2 (.tup [.str "swap", .int (a : Int), .int (c : Int)])) e (.lst [.ref g2]) g2 = some (.tup [.str "swap", .int (a : Int), .int (c : Int)]) := Same.new ne _ _ upd_same
      dsimp only [gName]
      generalize upd (upd H5 g2 (.tup [.str "swap", .int (a : Int), .int (c : Int)])) e (.lst [.ref g2]) = H6 at s6 ee eg ⊢
      refine rest e H6 ⟨[g2], s6, ee, ?_⟩
      rw [if_pos hac] at hokd ⊢
      exact Gts.one eg (hokd _ (List.mem_singleton.mpr rfl))
  case jk =>
  rintro qs H6 ⟨ss, s6, eqs, Gs⟩
  have eqm := s6 _ _ eqm
  have eqf := s6 _ _ eqf
  have Gm := Gm.same s6
  have Gf := Gf.same s6
  have t6 := t5.trans s6
  refine ⟨_, rfl, r.x &&& r.z, rfl, and64 x64, fun qb H7 s7 nqb eqb => ?_⟩
  refine ⟨qb, _, m, rfl, .of eqb, cw_len _, hoka, fun qe es H8 s8 nqe eqe Ge => ?_⟩
  have s78 := s7.trans s8
  have eqm := s78 _ _ eqm
  have eqf := s78 _ _ eqf
  have eqs := s78 _ _ eqs
  have Gm := Gm.same s78
  have Gf := Gf.same s78
  have Gs := Gs.same s78
  have t8 := t6.trans s78
  have b1 := Ge.l
  have b2 := Gm.l
  have b3 := Gf.l
  have b4 := Gs.l
  rw [List.length_append, List.length_append, List.length_append] at hlen
  refine ⟨_, rfl, qe, qm, _, _, rfl, rfl, eqe, eqm, line6 (by simp [rV]; omega), fun z1 nz1 => ?_⟩
  rw [rV_app]
  have s9 := Same.new (o := .lst (rV (es ++ ms))) nz1
  have ez1 : upd H8 z1 (.lst (rV (es ++ ms))) z1 = some (.lst (rV (es ++ ms))) := upd_same
  have eqf := s9 _ _ eqf
  have eqs := s9 _ _ eqs
  have G1 := (Ge.app Gm).same s9
  have Gf := Gf.same s9
  have Gs := Gs.same s9
  have t9 := t8.trans s9
  generalize upd H8 z1 (.lst (rV (es ++ ms))) = H9 at ez1 eqf eqs G1 Gf Gs t9 ⊢
  refine ⟨_, rfl, z1, qf, _, _, rfl, rfl, ez1, eqf, line6 (by simp [rV]; omega), fun z2 nz2 => ?_⟩
  rw [rV_app]
  have s10 := Same.new (o := .lst (rV (es ++ ms ++ fs))) nz2
  have ez2 : upd H9 z2 (.lst (rV (es ++ ms ++ fs))) z2 = some (.lst (rV (es ++ ms ++ fs))) := upd_same
  have eqs := s10 _ _ eqs
  have G2 := (G1.app Gf).same s10
  have Gs := Gs.same s10
  have t10 := t9.trans s10
  generalize upd H9 z2 (.lst (rV (es ++ ms ++ fs))) = H10 at ez2 eqs G2 Gs t10 ⊢
  refine ⟨_, rfl, z2, qs, _, _, rfl, rfl, ez2, eqs, line6 (by simp [rV]; omega), fun z3 nz3 => ?_⟩
  rw [rV_app]
  exact k z3 _ _ (t10.trans (Same.new nz3)) (t10.free nz3) upd_same ((G2.app Gs).same (Same.new nz3))
end

end K55

set_option maxHeartbeats 4000000
namespace K55
open PySem L2 TC
noncomputable def sp_gfs (K : PySem.W.Frag) : Sp := fun vs H Q _ => ∃ (a : Addr) (as : List Addr) (rs : List Rw) (m : Nat), vs = [.ref a, .int m] ∧ SqL K H a (rV as) ∧ Rws H m as rs ∧ rs.length = 2 * m ∧ m ≤ 6 ∧ ∀ q qs H', Same H H' → H q = none → H' q = some (.lst (rV qs)) → Gts H' m qs (gfs rs m) → Q (.ref q) H'
section
variable {P : Program} {w : World} {K : PySem.W.Frag} {mg : Str → Option Value} {base : Heap}
/- bits_elsewhere: 0:bits 1:coin -/
noncomputable abbrev s_bits_elsewhere : Stmt := top 44
theorem sc_bits_elsewhere : FnScope ["bits", "coin"] ["bits", "coin"] (defScope s_bits_elsewhere) := ⟨rfl, rfl, rfl, by decide +kernel, rfl, by decide +kernel, by decide +kernel⟩
theorem ok_else (T : Blt mg) (D : Def K mg "bits_elsewhere" s_bits_elsewhere ["bits", "coin"]) (C_bit_of : Cal P w K mg base CX0 1 "bit_of" ["bits", "coin"] sp_bitof) : Cal P w K mg base CX0 2 "bits_elsewhere" ["bits", "coin"] sp_else := by
  refine D.ok sc_bits_elsewhere (fun vs H Q E h => ?_) (fun f cdv A outer s H vs Q E hr h => ?_)
  · obtain ⟨n, c, rfl, _⟩ := h; rfl
  obtain ⟨n, c, rfl, hn, hc, k⟩ := h
  refine ⟨_, (pss_one (ps_ret (pe_op op_xor (pv 0) (pe_op op_shl (pe_cal C_bit_of hr.sub (pa_cons (pv 0) (pa_cons (pv 1) pa_nil))) (pv 1))))), ?_⟩
  refine ⟨_, rfl, _, rfl, _, rfl, n, c, rfl, hn, hc, fun H1 s1 => ?_⟩
  refine ⟨_, rfl, _, _, rfl, rfl, cpN _ (by omega), _, _, rfl, rfl, ?_⟩
  have := k H1 s1
  unfold ws at this
  rw [← xT] at this
  exact this
/- gates_to_z: 0:row 1:coin 2:xs 3:zs 4:both 5:left_over 6:follows 7:mixes -/
noncomputable abbrev s_gates_to_z : Stmt := top 45
theorem sc_gates_to_z : FnScope ["row", "coin", "xs", "zs", "both", "left_over", "follows", "mixes"] ["row", "coin"] (defScope s_gates_to_z) := ⟨rfl, rfl, rfl, by decide +kernel, rfl, by decide +kernel, by decide +kernel⟩
theorem ok_toz (T : Blt mg) (D : Def K mg "gates_to_z" s_gates_to_z ["row", "coin"]) (C_bits_elsewhere : Cal P w K mg base CX0 2 "bits_elsewhere" ["bits", "coin"] sp_else) (C_coins_with : Cal P w K mg base CX0 2 "coins_with" ["bits"] sp_cw) (C_meets_in_pairs : Cal P w K mg base CX0 1 "meets_in_pairs" ["coins"] (sp_meets K)) : Cal P w K mg base CX0 3 "gates_to_z" ["row", "coin"] (sp_toz K) := by
  refine D.ok sc_gates_to_z (fun vs H Q E h => ?_) (fun f cdv A outer s H vs Q E hr h => ?_)
  · obtain ⟨g, r, m, k, rfl, _⟩ := h; rfl
  obtain ⟨g, r, m, c, rfl, hA, hm, hr', hc, hok, k⟩ := h
  have x64 := le64 hm hr'.x
  have z64 := le64 hm hr'.z
  have hc6 : c < 6 := by omega
  have X64 := ws64 x64 hc6
  have Z64 := ws64 z64 hc6
  have hlen := toz_len r c
  unfold toz at hok k hlen
  have hoka : ∀ g ∈ meetsP (cw (ws r.x c &&& ws r.z c)), g.ok m := fun g hg => hok g (List.mem_append_left _ (List.mem_append_left _ (List.mem_append_left _ hg)))
  have hokb : ∀ g ∈ (lft (cw (ws r.x c &&& ws r.z c))).map (Gt.follow · c), g.ok m := fun g hg => hok g (List.mem_append_left _ (List.mem_append_left _ (List.mem_append_right _ hg)))
  have hokc : ∀ g ∈ (cw (ws r.x c)).map Gt.mix, g.ok m := fun g hg => hok g (List.mem_append_left _ (List.mem_append_right _ hg))
  have hokd : ∀ g ∈ (cw (ws r.x c ||| ws r.z c)).map (Gt.follow · c), g.ok m := fun g hg => hok g (List.mem_append_right _ hg)
  have l6 := cw_len (ws r.x c &&& ws r.z c)
  have ld := lft_drop (cw (ws r.x c &&& ws r.z c))
  refine ⟨_, (pss_cons (ps_set (i := 2) sc_gates_to_z.nd rfl (Or.inl rfl) (pe_cal C_bits_elsewhere hr.sub (pa_cons (pe_ix (ix_tupK K) (pv 0) pe_int (fun _ _ => rfl)) (pa_cons (pv 1) pa_nil))))
      (pss_cons (ps_set (i := 3) sc_gates_to_z.nd rfl (Or.inl rfl) (pe_cal C_bits_elsewhere hr.sub (pa_cons (pe_ix (ix_tupK K) (pv 0) pe_int (fun _ _ => rfl)) (pa_cons (pv 1) pa_nil))))
      (pss_cons (ps_set (i := 4) sc_gates_to_z.nd rfl (Or.inl rfl) (pe_cal C_coins_with hr.sub (pa_cons (pe_op op_and (pv 2) (pv 3)) pa_nil)))
      (pss_cons (ps_set (i := 5) sc_gates_to_z.nd rfl (Or.inl rfl) (pe_slice (sl_listK K) (pv 4) (po_some (pe_op op_mulB (pe_op op_fdivB (pe_callB (call_lenK K) (by rfl) T.n_len bt_len (pa_cons (pv 4) pa_nil)) pe_int) pe_int)) po_none))
      (pss_cons (ps_setC (i := 6) rfl sc_gates_to_z.nd rfl rfl (cs (N := ["row", "coin", "xs", "zs", "both", "left_over", "follows", "mixes"]) (osc := defScope s_gates_to_z) (by decide +kernel)) (pi_listK K (pv 5)) (fun _ _ _ _ => pifs_nil) (fun _ _ _ _ => (pe_tup (pa_cons pe_str (pa_cons (pv 0) (pa_cons (pv 2) pa_nil))))))
      (pss_cons (ps_setC (i := 7) rfl sc_gates_to_z.nd rfl rfl (cs (N := ["row", "coin", "xs", "zs", "both", "left_over", "follows", "mixes"]) (osc := defScope s_gates_to_z) (by decide +kernel)) (pi_listK K (pe_cal C_coins_with hr.sub (pa_cons (pv 2) pa_nil))) (fun _ _ _ _ => pifs_nil) (fun _ _ _ _ => (pe_tup (pa_cons pe_str (pa_cons (pv 0) pa_nil)))))
      (pss_one (ps_ret (pe_op op_cat (pe_op op_cat (pe_op op_cat (pe_cal C_meets_in_pairs hr.sub (pa_cons (pv 4) pa_nil)) (pv 6)) (pv 7)) (pe_comp rfl sc_gates_to_z.nd (cs (N := ["row", "coin", "xs", "zs", "both", "left_over", "follows", "mixes"]) (osc := defScope s_gates_to_z) (by decide +kernel)) (pi_listK K (pe_cal C_coins_with hr.sub (pa_cons (pe_op op_or (pv 2) (pv 3)) pa_nil))) (fun _ _ _ _ => pifs_nil) (fun _ _ _ _ => (pe_tup (pa_cons pe_str (pa_cons (pv 0) (pa_cons (pv 2) pa_nil))))))))))))))), ?_⟩
  refine ⟨_, rfl, g, _, _, _, rfl, rfl, hA, rfl, _, rfl, r.x, c, rfl, x64, hc6, fun H1 s1 => ?_⟩
  refine ⟨_, rfl, g, _, _, _, rfl, rfl, s1.tup hA, rfl, _, rfl, r.z, c, rfl, z64, hc6, fun H2 s2 => ?_⟩
  have t2 := s1.trans s2
  refine ⟨_, rfl, _, rfl, _, _, rfl, rfl, ws r.x c &&& ws r.z c, by show [V.int (Builtin.bitAnd ((ws r.x c : Nat) : Int) ((ws r.z c : Nat) : Int))] = _; rw [bAnd], and64 X64, fun qb H3 s3 nqb eqb => ?_⟩
  have t3 := t2.trans s3
  have eL : ((cV (cw (ws r.x c &&& ws r.z c))).length : Int) = ((cw (ws r.x c &&& ws r.z c)).length : Int) := by rw [List.length_map]
  have hll := lft_len (cw (ws r.x c &&& ws r.z c))
  generalize cw (ws r.x c &&& ws r.z c) = B at hoka hokb l6 ld eL hll eqb k hlen ⊢
  have hfd : (B.length : Int).fdiv 2 = ((B.length / 2 : Nat) : Int) := by rw [Int.fdiv_eq_ediv_of_nonneg _ (by decide)]; omega
  refine ⟨_, rfl, _, rfl, qb, _, rfl, .inl (.of eqb), _, _, rfl, rfl, cdB (by decide) (by decide), _, _, rfl, rfl, ⟨big (by rw [eL, hfd]; omega) (by rw [eL, hfd]; omega), big (by decide) (by decide)⟩, _, rfl, qb, _, rfl, .of eqb, fun ql nql => ?_⟩
  have ecut : cutV (cV B) (some (((cV B).length : Int).fdiv 2 * 2)) none = cV (lft B) := by
    rw [eL, hfd, show ((B.length / 2 : Nat) : Int) * 2 = ((B.length / 2 * 2 : Nat) : Int) by omega, cutN _ _ (by rw [List.length_map]; omega), ← List.map_drop, ld]
  show _
  rw [ecut]
  have s4 := Same.new (o := .lst (cV (lft B))) nql
  have el : upd H3 ql (.lst (cV (lft B))) ql = some (.lst (cV (lft B))) := upd_same
  have eqb := s4 _ _ eqb
  have t4 := t3.trans s4
  dsimp only [gName]
  generalize upd H3 ql (.lst (cV (lft B))) = H4 at el eqb t4 ⊢
  refine ⟨_, rfl, ql, rfl, ⟨_, .of el⟩, gts_comp (m := m) (.follow · c) (.of el) (by omega) (fun d hd => hokb _ (List.mem_map.mpr ⟨d, hd, rfl⟩)) ?_ ?_⟩
  · intro d H' Q' hd s' q'
    exact ⟨_, rfl, _, rfl, line6 (by show 3 ≤ 1000; decide), q'⟩
  intro qf fs H5 s5 nqf eqf Gf
  have eqb := s5 _ _ eqb
  have t5 := t4.trans s5
  refine ⟨_, rfl, ws r.x c, rfl, X64, fun qx H6 s6 nqx eqx => ?_⟩
  refine ⟨qx, rfl, ⟨_, .of eqx⟩, gts_comp (m := m) .mix (.of eqx) (Nat.le_trans (cw_len _) (by decide)) (fun d hd => hokc _ (List.mem_map.mpr ⟨d, hd, rfl⟩)) ?_ ?_⟩
  · intro d H' Q' hd s' q'
    exact ⟨_, rfl, line6 (by show 2 ≤ 1000; decide), q'⟩
  intro qm ms H7 s7 nqm eqm Gm
  have s67 := s6.trans s7
  have eqb := s67 _ _ eqb
  have eqf := s67 _ _ eqf
  have Gf := Gf.same s67
  have t7 := t5.trans s67
  refine ⟨_, rfl, qb, B, m, rfl, .of eqb, l6, hoka, fun qe es H8 s8 nqe eqe Ge => ?_⟩
  have eqf := s8 _ _ eqf
  have eqm := s8 _ _ eqm
  have Gf := Gf.same s8
  have Gm := Gm.same s8
  have t8 := t7.trans s8
  have b1 := Ge.l
  have b2 := Gm.l
  have b3 := Gf.l
  rw [List.length_append, List.length_append, List.length_append] at hlen
  refine ⟨_, rfl, qe, qf, _, _, rfl, rfl, eqe, eqf, line6 (by simp [rV]; omega), fun z1 nz1 => ?_⟩
  rw [rV_app]
  have s9 := Same.new (o := .lst (rV (es ++ fs))) nz1
  have ez1 : upd H8 z1 (.lst (rV (es ++ fs))) z1 = some (.lst (rV (es ++ fs))) := upd_same
  have eqm := s9 _ _ eqm
  have G1 := (Ge.app Gf).same s9
  have Gm := Gm.same s9
  have t9 := t8.trans s9
  generalize upd H8 z1 (.lst (rV (es ++ fs))) = H9 at ez1 eqm G1 Gm t9 ⊢
  refine ⟨_, rfl, z1, qm, _, _, rfl, rfl, ez1, eqm, line6 (by simp [rV]; omega), fun z2 nz2 => ?_⟩
  rw [rV_app]
  have s10 := Same.new (o := .lst (rV (es ++ fs ++ ms))) nz2
  have ez2 : upd H9 z2 (.lst (rV (es ++ fs ++ ms))) z2 = some (.lst (rV (es ++ fs ++ ms))) := upd_same
  have G2 := (G1.app Gm).same s10
  have t10 := t9.trans s10
  generalize upd H9 z2 (.lst (rV (es ++ fs ++ ms))) = H10 at ez2 G2 t10 ⊢
  refine ⟨_, rfl, _, rfl, _, _, rfl, rfl, ws r.x c ||| ws r.z c, by show [V.int (Builtin.bitOr ((ws r.x c : Nat) : Int) ((ws r.z c : Nat) : Int))] = _; rw [bOr], or64 X64 Z64, fun qo H11 s11 nqo eqo => ?_⟩
  refine ⟨qo, rfl, ⟨_, .of eqo⟩, gts_comp (m := m) (.follow · c) (.of eqo) (Nat.le_trans (cw_len _) (by decide)) (fun d hd => hokd _ (List.mem_map.mpr ⟨d, hd, rfl⟩)) ?_ ?_⟩
  · intro d H' Q' hd s' q'
    exact ⟨_, rfl, _, rfl, line6 (by show 3 ≤ 1000; decide), q'⟩
  intro qp ps H12 s12 nqp eqp Gp
  have s1112 := s11.trans s12
  have ez2 := s1112 _ _ ez2
  have G2 := G2.same s1112
  have t12 := t10.trans s1112
  have b4 := Gp.l
  refine ⟨z2, qp, _, _, rfl, rfl, ez2, eqp, line6 (by simp [rV]; omega), fun z3 nz3 => ?_⟩
  rw [rV_app]
  exact k z3 _ _ (t12.trans (Same.new nz3)) (t12.free nz3) upd_same ((G2.app Gp).same (Same.new nz3))
theorem rows_at {H : Hp} {m : Nat} {as : List Addr} {rs : List Rw} (h : Rws H m as rs) {i : Nat} (hi : i < rs.length) : ∃ b, atI (rV as) (i : Int) = some (.ref b) ∧ H b = some (.tup (ra rs i).vals) := by
  obtain ⟨b, r, h1, h2, h3, _⟩ := h.get hi
  rw [ra_some h2]
  exact ⟨b, atI_nat (by rw [rV, List.getElem?_map, h1]; rfl), h3⟩
theorem neg_dec (s : Int) : decide (V.int s = V.int (-1)) = decide (s = -1) := by rw [dec_int]; rfl
/- gates_for_signs: 0:rows 1:coins 2:signs -/
noncomputable abbrev s_gates_for_signs : Stmt := top 46
theorem sc_gates_for_signs : FnScope ["rows", "coins", "signs"] ["rows", "coins"] (defScope s_gates_for_signs) := ⟨rfl, rfl, rfl, by decide +kernel, rfl, by decide +kernel, by decide +kernel⟩
theorem ok_gfs (T : Blt mg) (D : Def K mg "gates_for_signs" s_gates_for_signs ["rows", "coins"]) : Cal P w K mg base CX0 1 "gates_for_signs" ["rows", "coins"] (sp_gfs K) := by
  refine D.ok sc_gates_for_signs (fun vs H Q E h => ?_) (fun f cdv A outer s H vs Q E hr h => ?_)
  · obtain ⟨a, as, rs, m, rfl, _⟩ := h; rfl
  obtain ⟨a, as, rs, m, rfl, hS, hR, hl, hm, k⟩ := h
  have hlen := gfs_len rs m
  have hok := gfs_ok rs m
  unfold gfs ngx ngz at hok k hlen
  have hoka : ∀ g ∈ ((List.range m).filter fun c => decide ((ra rs c).sg = -1)).map Gt.sign, g.ok m := fun g hg => hok g (List.mem_append_left _ hg)
  have hokb : ∀ g ∈ ((List.range m).filter fun c => decide ((ra rs (c + m)).sg = -1)).map Gt.flip, g.ok m := fun g hg => hok g (List.mem_append_right _ hg)
  refine ⟨_, (pss_cons (ps_setC (i := 2) rfl sc_gates_for_signs.nd rfl rfl (cs (N := ["rows", "coins", "signs"]) (osc := defScope s_gates_for_signs) (by decide +kernel)) (pi_range1 rfl T.n_range (pa_cons (pv 1) pa_nil)) (fun _ _ _ _ => (pifs_one (pt_cmpR op_eq (pe_ix (ix_tupK K) (pe_ix (ix_listK K) (pv 1) (pv 0) (fun _ _ => rfl)) pe_int (fun _ _ => rfl)) (pe_un un_neg pe_int) (nomark _)))) (fun _ _ _ _ => (pe_tup (pa_cons pe_str (pa_cons (pv 0) pa_nil)))))
      (pss_one (ps_ret (pe_op op_cat (pv 2) (pe_comp rfl sc_gates_for_signs.nd (cs (N := ["rows", "coins", "signs"]) (osc := defScope s_gates_for_signs) (by decide +kernel)) (pi_range1 rfl T.n_range (pa_cons (pv 1) pa_nil)) (fun _ _ _ _ => (pifs_one (pt_cmpR op_eq (pe_ix (ix_tupK K) (pe_ix (ix_listK K) (pv 1) (pe_op op_add (pv 0) (pv 2)) (fun _ _ => rfl)) pe_int (fun _ _ => rfl)) (pe_un un_neg pe_int) (nomark _)))) (fun _ _ _ _ => (pe_tup (pa_cons pe_str (pa_cons (pv 0) pa_nil))))))))), ?_⟩
  refine ⟨_, rfl, (m : Int), rfl, by omega, by omega, ?_⟩
  rw [Int.toNat_natCast]
  have fl1 : ∀ (p : Nat → Bool) (i : Nat), ((List.range (i + 1)).filter p) = (List.range i).filter p ++ (if p i = true then [i] else []) := fun p i => by
    rw [List.range_succ, List.filter_append, List.filter_cons]; rfl
  refine comp_rangeFP (fun c => decide ((ra rs c).sg = -1)) (fun i ys H' => ∃ cs : List Addr, ys = rV cs ∧ cs.length ≤ i ∧ Same H H' ∧ Gts H' m cs (((List.range i).filter fun c => decide ((ra rs c).sg = -1)).map Gt.sign)) ⟨[], rfl, Nat.le_refl _, .refl H, ⟨rfl, fun _ _ h => nomatch h⟩⟩ (fun i ys H' _ ⟨cs, e, hj, _⟩ => by rw [e, rV, List.length_map]; exact hj) (line6 (by omega)) (fun i ys H' H'' ⟨cs, e, hj, s2, G⟩ s3 => ⟨cs, e, hj, s2.trans s3, G.same s3⟩) ?_ ?_ ?_ ?_
  · rintro i ys H' Q' hi ⟨cs, rfl, hcl, s2, hc⟩ q'
    rw [Int.zero_add]
    obtain ⟨b, hb, eb⟩ := rows_at hR (i := i) (by rw [hl]; omega)
    refine ⟨_, rfl, _, rfl, a, _, _, _, rfl, rfl, s2.seq hS, hb, b, _, _, _, rfl, rfl, sqT (s2 _ _ eb), rfl, _, rfl, rfl, ?_⟩
    have := q' H' (.refl H')
    rw [← neg_dec] at this
    exact ⟨_, rfl, this⟩
  · rintro i ys H' Q' hi hci ⟨cs, rfl, hcl, s2, hc⟩ q'
    rw [Int.zero_add]
    refine ⟨_, rfl, line6 (by show 2 ≤ 1000; decide), fun g ng => q' _ _ ⟨cs ++ [g], by simp [rV], by simp; omega, s2.trans (Same.new ng), ?_⟩⟩
    rw [fl1, if_pos hci, List.map_append]
    exact (hc.same (Same.new ng)).app (Gts.one (g := .sign i) upd_same hi)
  · rintro i ys H' hi hci ⟨cs, rfl, hcl, s2, hc⟩
    refine ⟨cs, rfl, by omega, s2, ?_⟩
    rw [fl1, if_neg (by rw [hci]; decide), List.append_nil]
    exact hc
  rintro ys H1 p1 ⟨cs, rfl, hcl, s1, G1⟩ np1
  have t1 := s1.trans (Same.new (o := .lst (rV cs)) np1)
  have e1 : upd H1 p1 (.lst (rV cs)) p1 = some (.lst (rV cs)) := upd_same
  have G1 := G1.same (Same.new (o := .lst (rV cs)) np1)
  dsimp only [gName]
  generalize upd H1 p1 (.lst (rV cs)) = H2 at t1 e1 G1 ⊢
  refine ⟨_, rfl, _, rfl, (m : Int), rfl, by omega, by omega, ?_⟩
  rw [Int.toNat_natCast]
  refine comp_rangeFP (fun c => decide ((ra rs (c + m)).sg = -1)) (fun i ys H' => ∃ cs : List Addr, ys = rV cs ∧ cs.length ≤ i ∧ Same H2 H' ∧ Gts H' m cs (((List.range i).filter fun c => decide ((ra rs (c + m)).sg = -1)).map Gt.flip)) ⟨[], rfl, Nat.le_refl _, .refl H2, ⟨rfl, fun _ _ h => nomatch h⟩⟩ (fun i ys H' _ ⟨cs, e, hj, _⟩ => by rw [e, rV, List.length_map]; exact hj) (line6 (by omega)) (fun i ys H' H'' ⟨cs, e, hj, s2, G⟩ s3 => ⟨cs, e, hj, s2.trans s3, G.same s3⟩) ?_ ?_ ?_ ?_
  · rintro i ys H' Q' hi ⟨cs, rfl, hcl, s2, hc⟩ q'
    rw [Int.zero_add]
    obtain ⟨b, hb, eb⟩ := rows_at hR (i := i + m) (by rw [hl]; omega)
    have u := t1.trans s2
    refine ⟨_, rfl, _, rfl, _, rfl, _, _, rfl, rfl, a, _, _, _, rfl, rfl, u.seq hS, (by show atI (rV as) ((i : Int) + (m : Int)) = _; rw [← Int.natCast_add]; exact hb), b, _, _, _, rfl, rfl, sqT (u _ _ eb), rfl, _, rfl, rfl, ?_⟩
    have := q' H' (.refl H')
    rw [← neg_dec] at this
    exact ⟨_, rfl, this⟩
  · rintro i ys H' Q' hi hci ⟨cs, rfl, hcl, s2, hc⟩ q'
    rw [Int.zero_add]
    refine ⟨_, rfl, line6 (by show 2 ≤ 1000; decide), fun g ng => q' _ _ ⟨cs ++ [g], by simp [rV], by simp; omega, s2.trans (Same.new ng), ?_⟩⟩
    rw [fl1, if_pos hci, List.map_append]
    exact (hc.same (Same.new ng)).app (Gts.one (g := .flip i) upd_same hi)
  · rintro i ys H' hi hci ⟨cs, rfl, hcl, s2, hc⟩
    refine ⟨cs, rfl, by omega, s2, ?_⟩
    rw [fl1, if_neg (by rw [hci]; decide), List.append_nil]
    exact hc
  rintro ys H3 p2 ⟨ds, rfl, hdl, s3, G2⟩ np2
  have s4 := s3.trans (Same.new (o := .lst (rV ds)) np2)
  have e2 : upd H3 p2 (.lst (rV ds)) p2 = some (.lst (rV ds)) := upd_same
  have G2 := G2.same (Same.new (o := .lst (rV ds)) np2)
  generalize upd H3 p2 (.lst (rV ds)) = H4 at s4 e2 G2 ⊢
  have t4 := t1.trans s4
  refine ⟨p1, p2, _, _, rfl, rfl, s4 _ _ e1, e2, line6 (by simp [rV]; omega), fun z nz => ?_⟩
  rw [rV_app]
  exact k z _ _ (t4.trans (Same.new nz)) (t4.free nz) upd_same (((G1.same s4).app G2).same (Same.new nz))
end

end K55

set_option maxHeartbeats 4000000
namespace K55
open PySem L2 TC
noncomputable def sp_irowG (K : PySem.W.Frag) : Sp := fun vs H Q _ => ∃ (a : Addr) (r : Rw) (m : Nat), vs = [.ref a, .int m] ∧ SqT K H a r.vals ∧ m ≤ 6 ∧ ∀ b : Bool, (b = true ↔ r.ok m) → ∀ H', Same H H' → Q (.bl b) H'
section
variable {P : Program} {w : World} {K : PySem.W.Frag} {mg : Str → Option Value} {base : Heap}
/- is_row: 0:row 1:coins 2:beyond -/
noncomputable abbrev s_is_row : Stmt := top 25
theorem sc_is_row : FnScope ["row", "coins", "beyond"] ["row", "coins"] (defScope s_is_row) := ⟨rfl, rfl, rfl, by decide +kernel, rfl, by decide +kernel, by decide +kernel⟩
theorem ok_irowG (T : Blt mg) (D : Def K mg "is_row" s_is_row ["row", "coins"]) : Cal P w K mg base CX0 1 "is_row" ["row", "coins"] (sp_irowG K) := by
  refine D.ok sc_is_row (fun vs H Q E h => ?_) (fun f cdv A outer s H vs Q E hr h => ?_)
  · obtain ⟨a, r, m, rfl, _⟩ := h; rfl
  obtain ⟨a, r, m, rfl, hA, hm, k⟩ := h
  refine ⟨_, (pss_cons (ps_if (PW.pt (pw_and (pt_cmpR op_ne (pe_ix (ix_tupK K) (pv 0) pe_int (fun _ _ => rfl)) pe_int (nomark _)) (pw_and1 (pt_cmpR op_ne (pe_ix (ix_tupK K) (pv 0) pe_int (fun _ _ => rfl)) (pe_un un_neg pe_int) (nomark _)))))
        (pss_one (ps_ret pe_bl))
        pss_nil)
      (pss_cons (ps_set (i := 2) sc_is_row.nd rfl (Or.inl rfl) (pe_op op_shl pe_int (pv 1)))
      (pss_one (ps_ret (pe_and (pe_chain op_le op_lt pe_int (pe_ix (ix_tupK K) (pv 0) pe_int (fun _ _ => rfl)) (pv 2)) (pe_one (pe_chain op_le op_lt pe_int (pe_ix (ix_tupK K) (pv 0) pe_int (fun _ _ => rfl)) (pv 2)))))))), ?_⟩
  refine ⟨_, rfl, a, _, _, _, rfl, rfl, hA, rfl, rfl, _, rfl, ?_⟩
  by_cases hs : one r.sg
  rotate_left
  · have h1 : r.sg ≠ 1 := fun z => hs (.inl z)
    have h2 : r.sg ≠ -1 := fun z => hs (.inr z)
    refine iteB (by rw [decide_eq_false (fun z => h1 (by injection z))]; rfl) ⟨_, rfl, a, _, _, _, rfl, rfl, hA, rfl, _, rfl, rfl, _, rfl, iteB (by rw [decide_eq_false (fun z => h2 (by injection z))]; rfl) ?_⟩
    exact k false ⟨fun z => (by cases z), fun z => absurd z.s hs⟩ H (.refl H)
  refine Join0 (G := ?G) (fun rest => ?a) ?k
  case a =>
    rcases hs with e | e
    · refine iteBN (by rw [e]; decide) (iteF ?_)
      exact rest
    · refine iteB (by rw [e]; decide) ⟨_, rfl, a, _, _, _, rfl, rfl, hA, rfl, _, rfl, rfl, _, rfl, iteBN (by rw [e]; decide) ?_⟩
      exact rest
  case k =>
  refine ⟨_, rfl, _, _, rfl, rfl, cp2 hm, ?_⟩
  refine ⟨_, rfl, a, _, _, _, rfl, rfl, hA, rfl, _, _, rfl, rfl, _, rfl, iteD (Int.natCast_nonneg _) ?_⟩
  refine ⟨_, rfl, _, _, rfl, rfl, _, rfl, ite2 (fun hx => ?_) (fun hx => ?_)⟩
  rotate_left
  · exact k false ⟨fun z => (by cases z), fun z => absurd (decide_eq_true (by show (r.x : Int) < 1 * 2 ^ (m : Int).toNat; rw [shl_is]; have := z.x; omega)) hx⟩ H (.refl H)
  have hx' : (r.x : Int) < 1 * 2 ^ (m : Int).toNat := of_decide_eq_true hx
  rw [shl_is] at hx'
  refine ⟨_, rfl, a, _, _, _, rfl, rfl, hA, rfl, _, _, rfl, rfl, _, rfl, iteD (Int.natCast_nonneg _) ?_⟩
  refine ⟨_, rfl, _, _, rfl, rfl, ?_⟩
  refine k (decide ((r.z : Int) < 1 * 2 ^ (m : Int).toNat)) ?_ H (.refl H)
  rw [decide_eq_true_iff, shl_is]
  exact ⟨fun z => ⟨hs, by omega, by omega⟩, fun z => by have := z.z; omega⟩
end
noncomputable def sp_irow (K : PySem.W.Frag) : Sp := fun vs H Q _ => ∃ (a : Addr) (r : Rw) (m : Nat), vs = [.ref a, .int m] ∧ SqT K H a r.vals ∧ m ≤ 6 ∧ r.ok m ∧ ∀ H', Same H H' → Q (.bl true) H'
theorem ok_irow {P : Program} {w : World} {K : PySem.W.Frag} {mg : Str → Option Value} {base : Heap} (C : Cal P w K mg base CX0 1 "is_row" ["row", "coins"] (sp_irowG K)) : Cal P w K mg base CX0 1 "is_row" ["row", "coins"] (sp_irow K) :=
  C.imp fun vs H Q E h => by
    obtain ⟨a, r, m, e, h1, h2, h3, k⟩ := h
    refine ⟨a, r, m, e, h1, h2, fun b hb H' s' => ?_⟩
    have : b = true := hb.mpr h3
    rw [this]; exact k H' s'

noncomputable def sp_even (K : PySem.W.Frag) : Sp := fun vs H Q _ => ∃ (a : Addr) (r : Rw) (m : Nat), vs = [.ref a] ∧ SqT K H a r.vals ∧ m ≤ 6 ∧ r.x < 2 ^ m ∧ r.z < 2 ^ m ∧ ∀ H', Same H H' → Q (.bl (evn r)) H'
section
variable {P : Program} {w : World} {K : PySem.W.Frag} {mg : Str → Option Value} {base : Heap}
theorem evn_is : ∀ n : Nat, n < 64 → decide (V.int (((pc n : Nat) : Int) % 2) = V.int 0) = !par n := by
  simp only [dec_int]; decide +kernel
/- is_even: 0:row -/
noncomputable abbrev s_is_even : Stmt := top 27
theorem sc_is_even : FnScope ["row"] ["row"] (defScope s_is_even) := ⟨rfl, rfl, rfl, by decide +kernel, rfl, by decide +kernel, by decide +kernel⟩
theorem ok_even (T : Blt mg) (D : Def K mg "is_even" s_is_even ["row"]) (C_count_bits : Cal P w K mg base CX0 1 "count_bits" ["bits"] sp_count) : Cal P w K mg base CX0 2 "is_even" ["row"] (sp_even K) := by
  refine D.ok sc_is_even (fun vs H Q E h => ?_) (fun f cdv A outer s H vs Q E hr h => ?_)
  · obtain ⟨a, r, m, rfl, _⟩ := h; rfl
  obtain ⟨a, r, m, rfl, hA, hm, hx, hz, k⟩ := h
  refine ⟨_, (pss_one (ps_ret (pe_cmpR op_eq (pe_op op_mod (pe_cal C_count_bits hr.sub (pa_cons (pe_op op_and (pe_ix (ix_tupK K) (pv 0) pe_int (fun _ _ => rfl)) (pe_ix (ix_tupK K) (pv 0) pe_int (fun _ _ => rfl))) pa_nil)) pe_int) pe_int (nomark _)))), ?_⟩
  have h6 : r.x &&& r.z < 64 := and_lt64 (le64 hm hx)
  refine ⟨_, rfl, a, _, _, _, rfl, rfl, hA, rfl, _, rfl, a, _, _, _, rfl, rfl, hA, rfl, _, _, rfl, rfl, r.x &&& r.z, by show [V.int (Builtin.bitAnd (r.x : Int) (r.z : Int))] = _; rw [bAnd], h6, fun H1 s1 => ?_⟩
  refine ⟨_, _, rfl, rfl, (by show (0 : Int) < _; decide), rfl, ?_⟩
  have := k H1 s1
  unfold evn at this
  rw [← evn_is _ h6] at this
  exact this
end

noncomputable def sp_agree (K : PySem.W.Frag) : Sp := fun vs H Q _ => ∃ (a b : Addr) (r t : Rw) (m : Nat), vs = [.ref a, .ref b] ∧ SqT K H a r.vals ∧ SqT K H b t.vals ∧ m ≤ 6 ∧ r.ok m ∧ t.ok m ∧ ∀ H', Same H H' → Q (.bl (agr r t)) H'
section
variable {P : Program} {w : World} {K : PySem.W.Frag} {mg : Str → Option Value} {base : Heap}
theorem agr_is (r t : Rw) {m : Nat} (hm : m ≤ 6) (hr : r.ok m) : decide (V.int ((((pc (r.x &&& t.z) : Nat) : Int) + ((pc (r.z &&& t.x) : Nat) : Int)) % 2) = V.int 0) = agr r t := by
  have h1 := pc_par _ (and_lt64 (b := t.z) (le64 hm hr.x))
  have h2 := pc_par _ (and_lt64 (b := t.x) (le64 hm hr.z))
  rw [dec_int]
  unfold agr
  cases e1 : par (r.x &&& t.z) <;> cases e2 : par (r.z &&& t.x) <;> rw [e1] at h1 <;> rw [e2] at h2 <;> simp only [if_true, if_false, Bool.false_eq_true] at h1 h2
  · exact beq_iff_eq.mpr (by omega)
  · exact beq_eq_false_iff_ne.mpr (by omega)
  · exact beq_eq_false_iff_ne.mpr (by omega)
  · exact beq_iff_eq.mpr (by omega)
/- agree: 0:one 1:other -/
noncomputable abbrev s_agree : Stmt := top 26
theorem sc_agree : FnScope ["one", "other"] ["one", "other"] (defScope s_agree) := ⟨rfl, rfl, rfl, by decide +kernel, rfl, by decide +kernel, by decide +kernel⟩
theorem ok_agree (T : Blt mg) (D : Def K mg "agree" s_agree ["one", "other"]) (C_count_bits : Cal P w K mg base CX0 1 "count_bits" ["bits"] sp_count) :
    Cal P w K mg base CX0 2 "agree" ["one", "other"] (sp_agree K) := by
  refine D.ok sc_agree (fun vs H Q E h => ?_) (fun f cdv A outer s H vs Q E hr h => ?_)
  · obtain ⟨a, b, r, t, m, rfl, _⟩ := h; rfl
  obtain ⟨a, b, r, t, m, rfl, hA, hB, hm, hr', ht, k⟩ := h
  refine ⟨_, (pss_one (ps_ret (pe_cmpR op_eq (pe_op op_mod (pe_op op_add (pe_cal C_count_bits hr.sub (pa_cons (pe_op op_and (pe_ix (ix_tupK K) (pv 0) pe_int (fun _ _ => rfl)) (pe_ix (ix_tupK K) (pv 1) pe_int (fun _ _ => rfl))) pa_nil)) (pe_cal C_count_bits hr.sub (pa_cons (pe_op op_and (pe_ix (ix_tupK K) (pv 0) pe_int (fun _ _ => rfl)) (pe_ix (ix_tupK K) (pv 1) pe_int (fun _ _ => rfl))) pa_nil))) pe_int) pe_int (nomark _)))), ?_⟩
  have h6 : r.x &&& t.z < 64 := and_lt64 (le64 hm hr'.x)
  have h7 : r.z &&& t.x < 64 := and_lt64 (le64 hm hr'.z)
  refine ⟨_, rfl, a, _, _, _, rfl, rfl, hA, rfl, _, rfl, b, _, _, _, rfl, rfl, hB, rfl, _, _, rfl, rfl, r.x &&& t.z, by show [V.int (Builtin.bitAnd (r.x : Int) (t.z : Int))] = _; rw [bAnd], h6, fun H1 s1 => ?_⟩
  refine ⟨_, rfl, a, _, _, _, rfl, rfl, s1.tup hA, rfl, _, rfl, b, _, _, _, rfl, rfl, s1.tup hB, rfl, _, _, rfl, rfl, r.z &&& t.x, by show [V.int (Builtin.bitAnd (r.z : Int) (t.x : Int))] = _; rw [bAnd], h7, fun H2 s2 => ?_⟩
  refine ⟨_, _, rfl, rfl, _, _, rfl, rfl, (by show (0 : Int) < _; decide), rfl, ?_⟩
  have := k H2 (s1.trans s2)
  rw [← agr_is r t hm hr'] at this
  exact this
end

noncomputable def sp_ckt (K : PySem.W.Frag) : Sp := fun vs H Q _ => ∃ (a : Addr) (as : List Addr) (rs : List Rw) (m : Nat), vs = [.ref a, .int m] ∧ SqL K H a (rV as) ∧ Rws H m as rs ∧ Tb m rs ∧ m ≤ 6 ∧ ∀ H', Same H H' → Q .non H'
noncomputable def sp_cktab (K : PySem.W.Frag) : Sp := fun vs H Q _ => ∃ (a : Addr) (as : List Addr) (rs : List Rw) (m : Nat), vs = [.ref a] ∧ SqL K H a (rV as) ∧ Rws H m as rs ∧ Tb m rs ∧ 1 ≤ m ∧ m ≤ 6 ∧ ∀ H', Same H H' → Q .non H'
noncomputable def sp_gatesof (K : PySem.W.Frag) : Sp := fun vs H Q _ => ∃ (a : Addr) (as : List Addr) (rs : List Rw) (m : Nat), vs = [.ref a] ∧ SqL K H a (rV as) ∧ Rws H m as rs ∧ Tb m rs ∧ 1 ≤ m ∧ m ≤ 6 ∧ ∀ q qs gs H', Same H H' → H q = none → H' q = some (.lst (rV qs)) → Gts H' m qs gs → gs.length ≤ 200 → (lets m).map (mvs gs) = rs → Q (.ref q) H'
section
variable {P : Program} {w : World} {K : PySem.W.Frag} {mg : Str → Option Value} {base : Heap}
/- check_rows_of_table: 0:table 1:coins 2:row -/
noncomputable abbrev s_check_rows_of_table : Stmt := top 38
theorem sc_check_rows_of_table : FnScope ["table", "coins", "row"] ["table", "coins"] (defScope s_check_rows_of_table) := ⟨rfl, rfl, rfl, by decide +kernel, rfl, by decide +kernel, by decide +kernel⟩
theorem ok_ckrows (T : Blt mg) (D : Def K mg "check_rows_of_table" s_check_rows_of_table ["table", "coins"]) (C_is_row : Cal P w K mg base CX0 1 "is_row" ["row", "coins"] (sp_irow K)) (C_is_even : Cal P w K mg base CX0 2 "is_even" ["row"] (sp_even K)) : Cal P w K mg base CX0 3 "check_rows_of_table" ["table", "coins"] (sp_ckt K) := by
  refine D.ok sc_check_rows_of_table (fun vs H Q E h => ?_) (fun f cdv A outer s H vs Q E hr h => ?_)
  · obtain ⟨a, as, rs, m, rfl, _⟩ := h; rfl
  obtain ⟨a, as, rs, m, rfl, hS, hR, hT, hm, k⟩ := h
  refine ⟨_, (pss_one (ps_for PassesOwn.never rfl (pi_listK K (pv 0)) (pg_name (i := 2) sc_check_rows_of_table.nd rfl (Or.inl rfl))
        (pss_one (ps_if (PW.pt (pw_or (pt_not (pt_val (pe_cal C_is_row hr.sub (pa_cons (pv 2) (pa_cons (pv 1) pa_nil))))) (pw_or1 (pt_not (pt_val (pe_cal C_is_even hr.sub (pa_cons (pv 2) pa_nil)))))))
          (pss_one ps_never)
          pss_nil)))), ?_⟩
  refine ⟨_, rfl, a, rfl, ⟨_, hS⟩, for_list (K := K) (a := a) (xs := rV as) (fun i σ H' => ∃ v : Option V, σ = [some (.ref a), some (.int m), v] ∧ Same H H') ⟨_, rfl, .refl H⟩ (fun i σ H' _ ⟨_, _, s'⟩ => s'.seq hS) ?_ ?_⟩
  · rintro i x σ H' hi ⟨v, rfl, s'⟩
    obtain ⟨b, hb, rfl⟩ := rs_get hi
    obtain ⟨r, hr1, er, rok⟩ := hR.g i b hb
    have hi2 : i < 2 * m := by rw [← hT.l]; exact (List.getElem?_eq_some_iff.mp hr1).1
    have hev := hT.ev i hi2
    rw [ra_some hr1] at hev
    refine ⟨_, rfl, _, rfl, b, r, m, rfl, sqT (s' _ _ er), hm, rok, fun H2 s2 => ⟨_, rfl, iteF ?_⟩⟩
    have u := s'.trans s2
    refine ⟨_, rfl, b, r, m, rfl, sqT (u _ _ er), hm, rok.x, rok.z, fun H3 s3 => ⟨_, rfl, ?_⟩⟩
    rw [hev]
    exact iteF ⟨_, rfl, u.trans s3⟩
  · rintro σ H' ⟨v, rfl, s'⟩
    exact k H' s'
/- check_agreeing_of_table: 0:table 1:coins 2:at 3:row 4:before -/
noncomputable abbrev s_check_agreeing_of_table : Stmt := top 39
theorem sc_check_agreeing_of_table : FnScope ["table", "coins", "at", "row", "before"] ["table", "coins"] (defScope s_check_agreeing_of_table) := ⟨rfl, rfl, rfl, by decide +kernel, rfl, by decide +kernel, by decide +kernel⟩
theorem ok_ckagr (T : Blt mg) (D : Def K mg "check_agreeing_of_table" s_check_agreeing_of_table ["table", "coins"]) (C_agree : Cal P w K mg base CX0 2 "agree" ["one", "other"] (sp_agree K)) : Cal P w K mg base CX0 3 "check_agreeing_of_table" ["table", "coins"] (sp_ckt K) := by
  refine D.ok sc_check_agreeing_of_table (fun vs H Q E h => ?_) (fun f cdv A outer s H vs Q E hr h => ?_)
  · obtain ⟨a, as, rs, m, rfl, _⟩ := h; rfl
  obtain ⟨a, as, rs, m, rfl, hS, hR, hT, hm, k⟩ := h
  refine ⟨_, (pss_one (ps_for PassesOwn.never rfl (pi_enumK K rfl T.n_enumerate (pa_cons (pv 0) pa_nil)) (pg_tupK K rfl (pgs_cons (pg_name (i := 2) sc_check_agreeing_of_table.nd rfl (Or.inl rfl)) (pgs_cons (pg_name (i := 3) sc_check_agreeing_of_table.nd rfl (Or.inl rfl)) pgs_nil)))
        (pss_one (ps_for PassesOwn.never rfl (pi_range1 rfl T.n_range (pa_cons (pv 2) pa_nil)) (pg_name (i := 4) sc_check_agreeing_of_table.nd rfl (Or.inl rfl))
          (pss_one (ps_if (pt_cmpR op_eq (pe_cal C_agree hr.sub (pa_cons (pe_ix (ix_listK K) (pv 0) (pv 4) (fun _ _ => rfl)) (pa_cons (pv 3) pa_nil))) (pe_cmpR op_eq (pv 2) (pe_op op_add (pv 4) (pv 1)) (nomark _)) (nomark _))
            (pss_one ps_never)
            pss_nil)))))), ?_⟩
  refine ⟨_, rfl, a, _, rfl, hS, for_enum (K := K) (a := a) (xs := rV as) (fun i σ H' => ∃ u v x, σ = [some (.ref a), some (.int m), u, v, x] ∧ Same H H') ⟨_, _, _, rfl, .refl H⟩ (fun i σ H' _ ⟨_, _, _, _, s'⟩ => s'.seq hS) ?_ ?_⟩
  · rintro i x σ H' p hi ⟨u, v, x', rfl, s'⟩ hp
    obtain ⟨b, hb, rfl⟩ := rs_get hi
    obtain ⟨r, hr1, er, rok⟩ := hR.g i b hb
    have hi2 : i < 2 * m := by rw [← hT.l]; exact (List.getElem?_eq_some_iff.mp hr1).1
    have s2 := s'.upd (o := .tup [.int i, .ref b]) (s'.free hp)
    refine ⟨p, _, rfl, sqT upd_same, rfl, _, _, rfl, _, _, rfl, rfl, ?_⟩
    refine ⟨_, rfl, (i : Int), rfl, by omega, by omega, for_range (lo := 0) (n := (i : Int).toNat) (fun j σ H'' => ∃ x, σ = [some (.ref a), some (.int m), some (.int i), some (.ref b), x] ∧ Same H H'') ⟨_, rfl, s2⟩ ?_ ?_⟩
    · rintro j σ H2 hj ⟨x, rfl, s3⟩
      have hj' : j < i := by omega
      rw [Int.zero_add]
      obtain ⟨c, hc, ec⟩ := rows_at hR (i := j) (by rw [hT.l]; omega)
      have er2 := s3 _ _ er
      have ag := hT.ag j i hj' hi2
      refine ⟨_, rfl, _, rfl, a, _, _, _, rfl, rfl, s3.seq hS, hc, _, rfl, c, b, ra rs j, r, m, rfl, sqT (s3 _ _ ec), sqT er2, hm, hT.ok j (by omega), rok, fun H3 s4 => ?_⟩
      refine ⟨_, rfl, _, rfl, _, rfl, _, _, rfl, rfl, rfl, rfl, _, rfl, iteBN ?_ ?_⟩
      · show decide (V.bl (agr (ra rs j) r) = V.bl (decide (V.int (i : Int) = V.int ((j : Int) + (m : Int))))) = false
        rw [ra_some hr1] at ag
        rw [agr_sy, ag, dec_bl, dec_int]
        by_cases e : i = j + m
        · subst e; simp
        · rw [decide_eq_false e]
          have : ((i : Int) == (j : Int) + (m : Int)) = false := by simp; omega
          rw [this]; rfl
      · exact ⟨_, rfl, s3.trans s4⟩
    · rintro σ H2 ⟨x, rfl, s3⟩
      exact ⟨_, _, _, rfl, s3⟩
  · rintro σ H' ⟨u, v, x, rfl, s'⟩
    exact k H' s'
/- check_table: 0:table 1:coins -/
noncomputable abbrev s_check_table : Stmt := top 40
theorem sc_check_table : FnScope ["table", "coins"] ["table"] (defScope s_check_table) := ⟨rfl, rfl, rfl, by decide +kernel, rfl, by decide +kernel, by decide +kernel⟩
theorem ok_cktab (T : Blt mg) (MC : ∃ t, mg "MOST_COINS" = some (.int 6 t)) (D : Def K mg "check_table" s_check_table ["table"]) (C_check_rows_of_table : Cal P w K mg base CX0 3 "check_rows_of_table" ["table", "coins"] (sp_ckt K)) (C_check_agreeing_of_table : Cal P w K mg base CX0 3 "check_agreeing_of_table" ["table", "coins"] (sp_ckt K)) : Cal P w K mg base CX0 4 "check_table" ["table"] (sp_cktab K) := by
  refine D.ok sc_check_table (fun vs H Q E h => ?_) (fun f cdv A outer s H vs Q E hr h => ?_)
  · obtain ⟨a, as, rs, m, rfl, _⟩ := h; rfl
  obtain ⟨a, as, rs, m, rfl, hS, hR, hT, h1, hm, k⟩ := h
  have hl : as.length = 2 * m := by rw [hR.l, hT.l]
  have eL : ((rV as).length : Int) = 2 * (m : Int) := by rw [rV, List.length_map, hl]; omega
  have efd : ((rV as).length : Int).fdiv 2 = (m : Int) := by rw [eL, Int.fdiv_eq_ediv_of_nonneg _ (by decide)]; omega
  refine ⟨_, (pss_cons (ps_set (i := 1) sc_check_table.nd rfl (Or.inl rfl) (pe_op op_fdivB (pe_callB (call_lenK K) (by rfl) T.n_len bt_len (pa_cons (pv 0) pa_nil)) pe_int))
      (pss_cons (ps_if (PW.pt (pw_or (pt_cmpR op_ne (pe_callB (call_lenK K) (by rfl) T.n_len bt_len (pa_cons (pv 0) pa_nil)) (pe_op op_mulB pe_int (pv 1)) (nomark _)) (pw_or (pt_cmpR op_lt (pv 1) pe_int (nomark _)) (pw_or1 (pt_cmpR op_gt (pv 1) (pe_gI MC) (nomark _))))))
        (pss_one ps_never)
        pss_nil)
      (pss_cons (ps_expr (pe_cal C_check_rows_of_table hr.sub (pa_cons (pv 0) (pa_cons (pv 1) pa_nil))))
      (pss_one (ps_expr (pe_cal C_check_agreeing_of_table hr.sub (pa_cons (pv 0) (pa_cons (pv 1) pa_nil)))))))), ?_⟩
  refine ⟨_, rfl, a, _, rfl, .inl hS, _, _, rfl, rfl, cdB (by decide) (by decide), ?_⟩
  dsimp only
  rw [efd]
  refine ⟨_, rfl, a, _, rfl, .inl hS, _, rfl, _, _, rfl, rfl, ⟨big (by decide) (by decide), big (by omega) (by omega)⟩, rfl, _, rfl, iteBN (by show (!decide (V.int ((rV as).length : Int) = V.int (2 * (m : Int)))) = false; rw [eL, decide_eq_true rfl]; rfl) ?_⟩
  refine ⟨_, rfl, _, _, rfl, rfl, _, rfl, iteDN (by omega) ?_⟩
  refine ⟨_, rfl, _, _, rfl, rfl, _, rfl, iteDN (by omega) ?_⟩
  refine ⟨_, rfl, _, rfl, a, as, rs, m, rfl, hS, hR, hT, hm, fun H1 s1 => ?_⟩
  exact ⟨_, rfl, _, rfl, a, as, rs, m, rfl, s1.seq hS, hR.same s1, hT, hm, fun H2 s2 => k H2 (s1.trans s2)⟩
/- gates_of: 0:table 1:coins 2:rows 3:gates 4:coin 5:to_x 6:to_z -/
noncomputable abbrev s_gates_of : Stmt := top 47
theorem sc_gates_of : FnScope ["table", "coins", "rows", "gates", "coin", "to_x", "to_z"] ["table"] (defScope s_gates_of) := ⟨rfl, rfl, rfl, by decide +kernel, rfl, by decide +kernel, by decide +kernel⟩
theorem ok_gatesof (T : Blt mg) (n_reversed : mg "reversed" = none) (D : Def K mg "gates_of" s_gates_of ["table"]) (C_check_table : Cal P w K mg base CX0 4 "check_table" ["table"] (sp_cktab K)) (C_gates_to_x : Cal P w K mg base CX0 3 "gates_to_x" ["row", "coin"] (sp_tox K)) (C_gates_to_z : Cal P w K mg base CX0 3 "gates_to_z" ["row", "coin"] (sp_toz K))
    (C_rows_moved : Cal P w K mg base CX0 5 "rows_moved" ["rows", "gates"] (sp_rowsm K)) (C_gates_for_signs : Cal P w K mg base CX0 1 "gates_for_signs" ["rows", "coins"] (sp_gfs K)) : Cal P w K mg base CX0 6 "gates_of" ["table"] (sp_gatesof K) := by
  refine D.ok sc_gates_of (fun vs H Q E h => ?_) (fun f cdv A outer s H vs Q E hr h => ?_)
  · obtain ⟨a, as, rs, m, rfl, _⟩ := h; rfl
  obtain ⟨a, as, rs, m, rfl, hS, hR, hT, h1, hm, k⟩ := h
  have hl : as.length = 2 * m := by rw [hR.l, hT.l]
  have eL : ((rV as).length : Int) = 2 * (m : Int) := by rw [rV, List.length_map, hl]; omega
  have efd : ((rV as).length : Int).fdiv 2 = (m : Int) := by rw [eL, Int.fdiv_eq_ediv_of_nonneg _ (by decide)]; omega
  refine ⟨_, (pss_cons (ps_expr (pe_cal C_check_table hr.sub (pa_cons (pv 0) pa_nil)))
      (pss_cons (ps_set (i := 1) sc_gates_of.nd rfl (Or.inl rfl) (pe_op op_fdivB (pe_callB (call_lenK K) (by rfl) T.n_len bt_len (pa_cons (pv 0) pa_nil)) pe_int))
      (pss_cons (ps_set (i := 2) sc_gates_of.nd rfl (Or.inl rfl) (pe_callTy (call_listK K) (by rfl) T.n_list bt_list (pa_cons (pv 0) pa_nil)))
      (pss_cons (ps_set (i := 3) sc_gates_of.nd rfl (Or.inl rfl) (pe_lst pa_nil))
      (pss_cons (ps_for PassesOwn.never rfl (pi_range1 rfl T.n_range (pa_cons (pv 1) pa_nil)) (pg_name (i := 4) sc_gates_of.nd rfl (Or.inl rfl))
        (pss_cons (ps_set (i := 5) sc_gates_of.nd rfl (Or.inl rfl) (pe_cal C_gates_to_x hr.sub (pa_cons (pe_ix (ix_listK K) (pv 2) (pv 4) (fun _ _ => rfl)) (pa_cons (pv 4) pa_nil))))
        (pss_cons (ps_set (i := 2) sc_gates_of.nd rfl (Or.inl rfl) (pe_cal C_rows_moved hr.sub (pa_cons (pv 2) (pa_cons (pv 5) pa_nil))))
        (pss_cons (ps_set (i := 6) sc_gates_of.nd rfl (Or.inl rfl) (pe_cal C_gates_to_z hr.sub (pa_cons (pe_ix (ix_listK K) (pv 2) (pe_op op_add (pv 4) (pv 1)) (fun _ _ => rfl)) (pa_cons (pv 4) pa_nil))))
        (pss_cons (ps_set (i := 2) sc_gates_of.nd rfl (Or.inl rfl) (pe_cal C_rows_moved hr.sub (pa_cons (pv 2) (pa_cons (pv 6) pa_nil))))
        (pss_one (ps_set (i := 3) sc_gates_of.nd rfl (Or.inl rfl) (pe_op op_cat (pe_op op_cat (pv 3) (pv 5)) (pv 6)))))))))
      (pss_one (ps_ret (pe_lrv K rfl rfl T.n_list rfl n_reversed (pe_op op_cat (pv 3) (pe_cal C_gates_for_signs hr.sub (pa_cons (pv 2) (pa_cons (pv 1) pa_nil)))))))))))), ?_⟩
  refine ⟨_, rfl, a, as, rs, m, rfl, hS, hR, hT, h1, hm, fun H1 s1 => ?_⟩
  refine ⟨_, rfl, a, _, rfl, .inl (s1.seq hS), _, _, rfl, rfl, cdB (by decide) (by decide), ?_⟩
  dsimp only
  rw [efd]
  refine ⟨_, rfl, a, _, rfl, .inl (s1.seq hS), fun q nq => ?_⟩
  have t2 := s1.trans (Same.new (o := .lst (rV as)) nq)
  have eq : upd H1 q (.lst (rV as)) q = some (.lst (rV as)) := upd_same
  have nq0 : H q = none := s1.free nq
  dsimp only [gName]
  generalize upd H1 q (.lst (rV as)) = H2 at t2 eq ⊢
  refine ⟨line6 (by show 0 ≤ 1000; decide), fun e ne => ?_⟩
  have s3 := Same.new (o := .lst []) ne
  have ee : upd H2 e (.lst []) e = some (.lst []) := upd_same
  have eq := s3 _ _ eq
  have t3 := t2.trans s3
  dsimp only [gName]
  generalize upd H2 e (.lst []) = H3 at s3 ee eq t3 ⊢
  refine ⟨_, rfl, (m : Int), rfl, by omega, by omega, for_range (lo := 0) (n := (m : Int).toNat) (fun i σ H' => ∃ (q eg : Addr) (qs es : List Addr) (gs : List Gt) (v4 v5 v6 : Option V), σ = [some (.ref a), some (.int m), some (.ref q), some (.ref eg), v4, v5, v6] ∧ Same H H' ∧ H' q = some (.lst (rV qs)) ∧ Rws H' m qs (rs.map (mvs gs)) ∧ Tb m (rs.map (mvs gs)) ∧ Dn m i (rs.map (mvs gs)) ∧ H' eg = some (.lst (rV es)) ∧ Gts H' m es gs ∧ gs.length ≤ 31 * i)
    ⟨q, e, as, [], [], _, _, _, rfl, t3, eq, by rw [mvs_nil]; exact hR.same t3, by rw [mvs_nil]; exact hT, ⟨fun c hc => by omega, fun c hc => by omega⟩, ee, .nil, by simp⟩ ?_ ?_⟩
  · clear t3 eq ee s3 nq0
    rintro i σ H4 hi ⟨q, eg, qs, es, gs, v4, v5, v6, rfl, t4, eq, hRq, hTq, hD, eeg, Gg, hgl⟩
    have hi' : i < m := by omega
    rw [Int.zero_add]
    obtain ⟨ok1, ok2, T2, D2, n0⟩ := Dn.step hm hi' hTq hD
    have hql : (rs.map (mvs gs)).length = 2 * m := hTq.l
    obtain ⟨b, hb, eb⟩ := rows_at hRq (i := i) (by rw [hql]; omega)
    refine ⟨_, rfl, _, rfl, q, _, _, _, rfl, rfl, .of eq, hb, _, rfl, b, ra (rs.map (mvs gs)) i, m, i, rfl, sqT eb, hm, hTq.ok i (by omega), n0, ok1, fun qx xs H5 s5 nqx eqx Gx => ?_⟩
    have eq := s5 _ _ eq
    have eeg := s5 _ _ eeg
    have Gg := Gg.same s5
    have t5 := t4.trans s5
    refine ⟨_, rfl, _, rfl, q, qx, qs, xs, _, _, m, rfl, eq, hRq.same s5, .of eqx, Gx, hm, by rw [hql]; omega, fun q1 qs1 H6 s6 _ eq1 hR1 => ?_⟩
    have eeg := s6 _ _ eeg
    have Gg := Gg.same s6
    have eqx := s6 _ _ eqx
    have Gx := Gx.same s6
    have t6 := t5.trans s6
    have T1 := hTq.mvs hm ok1
    have hl1 : ((rs.map (mvs gs)).map (mvs (tox (ra (rs.map (mvs gs)) i) i))).length = 2 * m := T1.l
    obtain ⟨b2, hb2, eb2⟩ := rows_at hR1 (i := i + m) (by rw [hl1]; omega)
    refine ⟨_, rfl, _, rfl, _, rfl, _, _, rfl, rfl, q1, _, _, _, rfl, rfl, .of eq1, (by show atI (rV qs1) ((i : Int) + (m : Int)) = _; rw [← Int.natCast_add]; exact hb2), _, rfl, b2, _, m, i, rfl, sqT eb2, hm, T1.ok (i + m) (by omega), hi', ok2, fun qz zs H7 s7 nqz eqz Gz => ?_⟩
    have eeg := s7 _ _ eeg
    have Gg := Gg.same s7
    have eqx := s7 _ _ eqx
    have Gx := Gx.same s7
    have t7 := t6.trans s7
    refine ⟨_, rfl, _, rfl, q1, qz, qs1, zs, _, _, m, rfl, s7 _ _ eq1, hR1.same s7, .of eqz, Gz, hm, by rw [hl1]; omega, fun q2 qs2 H8 s8 _ eq2 hR2 => ?_⟩
    have eeg := s8 _ _ eeg
    have Gg := Gg.same s8
    have eqx := s8 _ _ eqx
    have Gx := Gx.same s8
    have eqz := s8 _ _ eqz
    have Gz := Gz.same s8
    have t8 := t7.trans s8
    have lx := tox_len (ra (rs.map (mvs gs)) i) i
    have lz := toz_len (ra ((rs.map (mvs gs)).map (mvs (tox (ra (rs.map (mvs gs)) i) i))) (i + m)) i
    have ecomp : ((rs.map (mvs gs)).map (mvs (tox (ra (rs.map (mvs gs)) i) i))).map (mvs (toz (ra ((rs.map (mvs gs)).map (mvs (tox (ra (rs.map (mvs gs)) i) i))) (i + m)) i)) = rs.map (mvs (gs ++ tox (ra (rs.map (mvs gs)) i) i ++ toz (ra ((rs.map (mvs gs)).map (mvs (tox (ra (rs.map (mvs gs)) i) i))) (i + m)) i)) := by
      rw [List.map_map, List.map_map]
      exact List.map_congr_left fun r _ => by simp only [Function.comp]; rw [mvs_append, mvs_append]
    rw [ecomp] at T2 D2 hR2
    generalize tox (ra (rs.map (mvs gs)) i) i = gx at *
    generalize toz (ra ((rs.map (mvs gs)).map (mvs gx)) (i + m)) i = gz at *
    have c1 := Gg.l
    have c2 := Gx.l
    have c3 := Gz.l
    refine ⟨_, rfl, _, rfl, eg, qx, _, _, rfl, rfl, eeg, eqx, line6 (by simp [rV]; omega), fun z1 nz1 => ?_⟩
    rw [rV_app]
    have s9 := Same.new (o := .lst (rV (es ++ xs))) nz1
    have ez1 : upd H8 z1 (.lst (rV (es ++ xs))) z1 = some (.lst (rV (es ++ xs))) := upd_same
    have eqz := s9 _ _ eqz
    have eq2 := s9 _ _ eq2
    have G1 := (Gg.app Gx).same s9
    have Gz := Gz.same s9
    have hR2 := hR2.same s9
    have t9 := t8.trans s9
    generalize upd H8 z1 (.lst (rV (es ++ xs))) = H9 at ez1 eqz eq2 G1 Gz hR2 t9 ⊢
    refine ⟨_, rfl, z1, qz, _, _, rfl, rfl, ez1, eqz, line6 (by simp [rV]; omega), fun z2 nz2 => ?_⟩
    rw [rV_app]
    have s10 := Same.new (o := .lst (rV (es ++ xs ++ zs))) nz2
    exact ⟨q2, z2, qs2, es ++ xs ++ zs, gs ++ gx ++ gz, _, _, _, rfl, t9.trans s10, s10 _ _ eq2, hR2.same s10, T2, D2, upd_same, (G1.app Gz).same s10, by rw [List.length_append, List.length_append]; omega⟩
  · rw [Int.toNat_natCast]
    rintro σ H4 ⟨q, eg, qs, es, gs, v4, v5, v6, rfl, t4, eq, hRq, hTq, hD, eeg, Gg, hgl⟩
    refine ⟨_, rfl, _, rfl, _, rfl, q, qs, _, m, rfl, .of eq, hRq, hTq.l, hm, fun p ps H5 s5 np ep Gp => ?_⟩
    have eeg := s5 _ _ eeg
    have Gg := Gg.same s5
    have t5 := t4.trans s5
    have c1 := Gg.l
    have c2 := Gp.l
    have c3 := gfs_len (rs.map (mvs gs)) m
    refine ⟨eg, p, _, _, rfl, rfl, eeg, ep, line6 (by simp [rV]; omega), fun z nz => ?_⟩
    rw [rV_app]
    have s6 := Same.new (o := .lst (rV (es ++ ps))) nz
    refine ⟨z, _, rfl, .of upd_same, fun l nl => ?_⟩
    rw [show (rV (es ++ ps)).reverse = rV (es ++ ps).reverse by rw [rV, rV, List.map_reverse]]
    have s7 := s6.trans (Same.new (o := .lst (rV (es ++ ps).reverse)) nl)
    have hall : ∀ g ∈ gs ++ gfs (rs.map (mvs gs)) m, g.ok m := (Gg.app Gp).all
    refine k l _ (gs ++ gfs (rs.map (mvs gs)) m).reverse _ (t5.trans s7) ((t5.trans s6).free nl) upd_same ((Gg.app Gp).same s7).rev ?_ ?_
    · rw [List.length_reverse, List.length_append]
      have : 31 * m ≤ 186 := by omega
      omega
    · refine undone hall ?_
      have e := fin_rows hTq hD
      rw [List.map_map] at e
      rw [← e]
      exact List.map_congr_left fun r _ => by rw [mvs_append]; rfl
end

end K55

set_option maxHeartbeats 4000000
namespace K55
open PySem L2 TC
noncomputable def sp_images (K : PySem.W.Frag) : Sp := fun vs H Q _ => ∃ (b : Addr) (bs : List Addr) (gs : List Gt) (m : Nat), vs = [.int m, .ref b] ∧ SqL K H b (rV bs) ∧ Gts H m bs gs ∧ 1 ≤ m ∧ m ≤ 6 ∧ ∀ q qs H', Same H H' → H q = none → H' q = some (.lst (rV qs)) → Rws H' m qs ((lets m).map (mvs gs)) → Q (.ref q) H'
section
variable {P : Program} {w : World} {K : PySem.W.Frag} {mg : Str → Option Value} {base : Heap}
theorem rows_comp {m n : Nat} {a : Addr} {σ : St} {H : Hp} {te : TE} {Q : VK} (f : Nat → Rw) (hS : SqL K H a ((List.range n).map fun c => V.int ((2 ^ c : Nat) : Int))) (hn : n ≤ 6) (hf : ∀ c, c < n → (f c).ok m)
    (ht : ∀ c H' Q', c < n → (∀ g, H' g = none → Q' (.ref g) (upd H' g (.tup (f c).vals))) → te (some (V.int ((2 ^ c : Nat) : Int)) :: σ) H' Q')
    (k : ∀ p cs H', Same H H' → H p = none → H' p = some (.lst (rV cs)) → Rws H' m cs ((List.range n).map f) → Q (.ref p) H') : ∃ W, (∃ m, W 0 m [] H) ∧ CompW (Itl K a) tYes te σ Q W := by
  have hl : ((List.range n).map fun c => V.int ((2 ^ c : Nat) : Int)).length = n := by simp
  refine comp_listP (K := K) (a := a) (xs := (List.range n).map fun c => V.int ((2 ^ c : Nat) : Int)) (fun i ys H' => ∃ cs : List Addr, ys = rV cs ∧ cs.length = i ∧ Same H H' ∧ Rws H' m cs ((List.range i).map f)) ⟨[], rfl, rfl, .refl H, ⟨rfl, fun _ _ h => nomatch h⟩⟩ (fun i ys H' _ ⟨cs, e, hj, s2, _⟩ => ⟨s2.seq hS, by rw [e, rV, List.length_map, hj]⟩) (line6 (by omega)) ?_ ?_
  · rintro i x ys H' Q' hi ⟨cs, rfl, hcl, s2, hc⟩ q'
    have hin : i < n := by rw [← hl]; exact (List.getElem?_eq_some_iff.mp hi).1
    rw [List.getElem?_map, List.getElem?_range hin] at hi
    cases hi
    refine ht i H' Q' hin fun g hg => q' _ _ ⟨cs ++ [g], by simp [rV], by simp [hcl], s2.trans (Same.new hg), ?_⟩
    rw [List.range_succ, List.map_append]
    exact (hc.same (Same.new hg)).app upd_same (hf i hin)
  · rintro ys H' p ⟨cs, rfl, hcl, s2, hc⟩ np
    rw [hl] at hc
    exact k p cs _ (s2.trans (Same.new np)) (s2.free np) upd_same (hc.same (Same.new np))
/- images: 0:coins 1:gates 2:bits -/
noncomputable abbrev s_images : Stmt := top 49
theorem sc_images : FnScope ["coins", "gates", "bits"] ["coins", "gates"] (defScope s_images) := ⟨rfl, rfl, rfl, by decide +kernel, rfl, by decide +kernel, by decide +kernel⟩
theorem ok_images (T : Blt mg) (D : Def K mg "images" s_images ["coins", "gates"]) (C_check_gates : Cal P w K mg base CX0 3 "check_gates" ["gates", "coins"] (sp_checkg K)) (C_rows_moved : Cal P w K mg base CX0 5 "rows_moved" ["rows", "gates"] (sp_rowsm K)) : Cal P w K mg base CX0 6 "images" ["coins", "gates"] (sp_images K) := by
  refine D.ok sc_images (fun vs H Q E h => ?_) (fun f cdv A outer s H vs Q E hr h => ?_)
  · obtain ⟨b, bs, gs, m, rfl, _⟩ := h; rfl
  obtain ⟨b, bs, gs, m, rfl, hB, hG, h1, h6, k⟩ := h
  refine ⟨_, (pss_cons (ps_expr (pe_cal C_check_gates hr.sub (pa_cons (pv 1) (pa_cons (pv 0) pa_nil))))
      (pss_cons (ps_setC (i := 2) rfl sc_images.nd rfl rfl (cs (N := ["coins", "gates", "bits"]) (osc := defScope s_images) (by decide +kernel)) (pi_range1 rfl T.n_range (pa_cons (pv 0) pa_nil)) (fun _ _ _ _ => pifs_nil) (fun _ _ _ _ => (pe_op op_shl pe_int (pv 0))))
      (pss_one (ps_ret (pe_cal C_rows_moved hr.sub (pa_cons (pe_op op_cat (pe_comp rfl sc_images.nd (cs (N := ["coins", "gates", "bits"]) (osc := defScope s_images) (by decide +kernel)) (pi_listK K (pv 2)) (fun _ _ _ _ => pifs_nil) (fun _ _ _ _ => (pe_tup (pa_cons pe_int (pa_cons (pv 0) (pa_cons pe_int pa_nil)))))) (pe_comp rfl sc_images.nd (cs (N := ["coins", "gates", "bits"]) (osc := defScope s_images) (by decide +kernel)) (pi_listK K (pv 2)) (fun _ _ _ _ => pifs_nil) (fun _ _ _ _ => (pe_tup (pa_cons pe_int (pa_cons pe_int (pa_cons (pv 0) pa_nil))))))) (pa_cons (pv 1) pa_nil))))))), ?_⟩
  refine ⟨_, rfl, _, rfl, b, bs, gs, m, rfl, hB, hG, fun H1 s1 => ?_⟩
  refine ⟨_, rfl, (m : Int), rfl, by omega, by omega, ?_⟩
  rw [Int.toNat_natCast]
  refine comp_range (fun i => .int ((2 ^ i : Nat) : Int)) (line6 (by omega)) ?_ ?_
  · intro i H' Q' hi s' q'
    rw [Int.zero_add]
    refine ⟨_, rfl, _, _, rfl, rfl, cp2 (by omega), ?_⟩
    have := q' H' (.refl H')
    rw [← shl_is] at this
    exact this
  intro c H2 s2 nc ec
  have t2 := s1.trans s2
  refine ⟨_, rfl, c, rfl, ⟨_, .of ec⟩, rows_comp (m := m) (fun c => ⟨1, 2 ^ c, 0⟩) (.of ec) h6 (fun c hc => ⟨.inl rfl, Nat.pow_lt_pow_right (by decide) hc, Nat.two_pow_pos m⟩) ?_ ?_⟩
  · intro c H' Q' hc q'
    exact ⟨_, rfl, line6 (by show 3 ≤ 1000; decide), q'⟩
  intro p1 cs1 H3 s3 np1 ep1 R1
  have t3 := t2.trans s3
  refine ⟨_, rfl, c, rfl, ⟨_, .of (s3 _ _ ec)⟩, rows_comp (m := m) (fun c => ⟨1, 0, 2 ^ c⟩) (.of (s3 _ _ ec)) h6 (fun c hc => ⟨.inl rfl, Nat.two_pow_pos m, Nat.pow_lt_pow_right (by decide) hc⟩) ?_ ?_⟩
  · intro c H' Q' hc q'
    exact ⟨_, rfl, line6 (by show 3 ≤ 1000; decide), q'⟩
  intro p2 cs2 H4 s4 np2 ep2 R2
  have t4 := t3.trans s4
  have hl1 : cs1.length = m := by rw [R1.l]; simp
  have hl2 : cs2.length = m := by rw [R2.l]; simp
  refine ⟨p1, p2, _, _, rfl, rfl, s4 _ _ ep1, ep2, line6 (by simp [rV]; omega), fun z nz => ?_⟩
  have e : (rV cs1 ++ rV cs2) = rV (cs1 ++ cs2) := by simp [rV]
  rw [e]
  have t5 := t4.trans (Same.new (o := .lst (rV (cs1 ++ cs2))) nz)
  refine ⟨_, rfl, z, b, cs1 ++ cs2, bs, lets m, gs, m, rfl, upd_same, ((R1.same s4).cat R2).same (Same.new nz), t5.seq hB, hG.same t5, h6, by rw [lets_length]; omega, fun q qs H' s' fq eq hq => ?_⟩
  refine k q qs H' (t5.trans s') ?_ eq hq
  rcases fq with rfl | fq
  · exact t4.free nz
  · exact t5.free fq
end

noncomputable def sp_mixed : Sp := fun vs H Q _ => ∃ c k : Int, vs = [.int c, .int k] ∧ 0 ≤ k ∧ k ≤ 1000 ∧ ∀ d : Int, 0 ≤ d → ∀ H', Same H H' → Q (.int d) H'
noncomputable def sp_cell (K : PySem.W.Frag) : Sp := fun vs H Q _ => ∃ (p : Addr) (ns : List Int) (k : Nat), vs = [.ref p, .int k] ∧ SqL K H p (zV ns) ∧ ns.length ≤ 63 ∧ k ≤ 900 ∧ ∀ c : Int, 0 ≤ c → ∀ H', Same H H' → Q (.int c) H'
noncomputable def sp_part : Sp := fun vs H Q _ => ∃ c k h : Int, vs = [.int c, .int k, .int h] ∧ 0 ≤ c ∧ 0 ≤ k ∧ k ≤ 1000 ∧ 0 ≤ h ∧ h ≤ 1000 ∧ ∀ d : Int, 0 ≤ d → ∀ H', Same H H' → Q (.int d) H'
noncomputable def sp_odd : Sp := fun vs H Q _ => ∃ n : Nat, vs = [.int n] ∧ n < 64 ∧ ∀ H', Same H H' → Q (.int (if par n then 1 else 0)) H'
theorem pw60 : (10 : Int) ^ (60 : Int).toNat = 1000000000000000000000000000000000000000000000000000000000000 := by decide
noncomputable def odI (n : Int) : Int := Builtin.bitXor (Builtin.bitXor n (n / 2 ^ (4 : Int).toNat)) (Builtin.bitXor n (n / 2 ^ (4 : Int).toNat) / 2 ^ (2 : Int).toNat)
theorem odd_is : ∀ n : Nat, n < 64 → Builtin.bitAnd (Builtin.bitXor (odI n) (odI n / 2 ^ (1 : Int).toNat)) 1 = if par n then 1 else 0 := by decide +kernel
section
variable {P : Program} {w : World} {K : PySem.W.Frag} {mg : Str → Option Value} {base : Heap}
/- _law_mixed: 0:_law_cell_here 1:_law_k 2:_law_low 3:_law_high 4:_law_one -/
noncomputable abbrev s_law_mixed : Stmt := top 51
theorem sc_law_mixed : FnScope ["_law_cell_here", "_law_k", "_law_low", "_law_high", "_law_one"] ["_law_cell_here", "_law_k"] (defScope s_law_mixed) := ⟨rfl, rfl, rfl, by decide +kernel, rfl, by decide +kernel, by decide +kernel⟩
theorem ok_mixedL (T : Blt mg) (D : Def K mg "_law_mixed" s_law_mixed ["_law_cell_here", "_law_k"]) : Cal P w K mg base CX0 1 "_law_mixed" ["_law_cell_here", "_law_k"] sp_mixed := by
  refine D.ok sc_law_mixed (fun vs H Q E h => ?_) (fun f cdv A outer s H vs Q E hr h => ?_)
  · obtain ⟨c, k, rfl, _⟩ := h; rfl
  obtain ⟨c, j, rfl, j0, j1, k⟩ := h
  refine ⟨_, (pss_cons (ps_set (i := 2) sc_law_mixed.nd rfl (Or.inl rfl) (pe_op op_mod (pv 0) pe_int))
      (pss_cons (ps_set (i := 3) sc_law_mixed.nd rfl (Or.inl rfl) (pe_op op_mod (pe_op op_fdivB (pv 0) pe_int) pe_int))
      (pss_cons (ps_set (i := 4) sc_law_mixed.nd rfl (Or.inl rfl) (pe_op op_mulB (pe_op op_add (pe_op op_add (pv 2) (pe_op op_mulB pe_int (pv 1))) pe_int) (pe_op op_add (pe_op op_add (pv 3) (pe_op op_mulB (pv 1) (pv 1))) pe_int)))
      (pss_one (ps_ret (pe_op op_mod (pe_op op_mulB (pv 4) (pe_op op_add (pe_op op_add (pe_op op_add (pv 2) (pv 3)) (pe_op op_mulB pe_int (pv 1))) pe_int)) pe_int)))))), ?_⟩
  have a0 := em_nn c (m := 1000003) (by decide)
  have a1 := em_lt c (m := 1000003) (by decide)
  have b0 := em_nn (c.fdiv 1000003) (m := 1000033) (by decide)
  have b1 := em_lt (c.fdiv 1000003) (m := 1000033) (by decide)
  have jj : j * j ≤ 1000000 := by
    have := Int.mul_le_mul j1 j1 j0 (by decide)
    omega
  have jj0 : 0 ≤ j * j := Int.mul_nonneg j0 j0
  refine ⟨_, rfl, _, _, rfl, rfl, (by show (0 : Int) < _; decide), ?_⟩
  refine ⟨_, rfl, _, _, rfl, rfl, cdB (by decide) (by decide), _, _, rfl, rfl, (by show (0 : Int) < _; decide), ?_⟩
  refine ⟨_, rfl, _, rfl, _, _, rfl, rfl, ⟨big (by decide) (by decide), big (by omega) (by omega)⟩, _, _, rfl, rfl, _, _, rfl, rfl, _, rfl, _, rfl, _, rfl, _, _, rfl, rfl, ⟨big (by omega) (by omega), big (by omega) (by omega)⟩, _, _, rfl, rfl, _, _, rfl, rfl, _, _, rfl, rfl, ⟨big (by omega) (by omega), big (by omega) (by omega)⟩, ?_⟩
  have m0 : 0 ≤ (c % 1000003 + 37 * j + 11) * (c.fdiv 1000003 % 1000033 + j * j + 251) := Int.mul_nonneg (by omega) (by omega)
  have m1 : (c % 1000003 + 37 * j + 11) * (c.fdiv 1000003 % 1000033 + j * j + 251) ≤ 2000000 * 3000000 := Int.mul_le_mul (by omega) (by omega) (by omega) (by decide)
  refine ⟨_, rfl, _, rfl, _, rfl, _, _, rfl, rfl, _, rfl, _, _, rfl, rfl, ⟨big (by decide) (by decide), big (by omega) (by omega)⟩, _, _, rfl, rfl, _, _, rfl, rfl, _, _, rfl, rfl, ⟨big (by omega) (by omega), big (by omega) (by omega)⟩, _, _, rfl, rfl, (by show (0 : Int) < _; decide), ?_⟩
  exact k _ (em_nn _ (by decide)) H (.refl H)
/- _law_cell: 0:_law_script 1:_law_k -/
noncomputable abbrev s_law_cell : Stmt := top 52
theorem sc_law_cell : FnScope ["_law_script", "_law_k"] ["_law_script", "_law_k"] (defScope s_law_cell) := ⟨rfl, rfl, rfl, by decide +kernel, rfl, by decide +kernel, by decide +kernel⟩
theorem ok_cell (T : Blt mg) (D : Def K mg "_law_cell" s_law_cell ["_law_script", "_law_k"]) (C_law_mixed : Cal P w K mg base CX0 1 "_law_mixed" ["_law_cell_here", "_law_k"] sp_mixed) : Cal P w K mg base CX0 2 "_law_cell" ["_law_script", "_law_k"] (sp_cell K) := by
  refine D.ok sc_law_cell (fun vs H Q E h => ?_) (fun f cdv A outer s H vs Q E hr h => ?_)
  · obtain ⟨p, ns, k, rfl, _⟩ := h; rfl
  obtain ⟨p, ns, k, rfl, hS, hl, hk, q⟩ := h
  refine ⟨_, (pss_cons (ps_if (pt_cmpR op_lt (pv 1) (pe_callB (call_lenK K) (by rfl) T.n_len bt_len (pa_cons (pv 0) pa_nil)) (nomark _))
        (pss_one (ps_ret (pe_op op_mod (pe_ix (ix_listK K) (pv 0) (pv 1) (fun _ _ => rfl)) (pe_op op_mulB (pe_op op_pow pe_int pe_int) (pe_op op_pow pe_int pe_int)))))
        pss_nil)
      (pss_one (ps_ret (pe_cal C_law_mixed hr.sub (pa_cons (pe_op op_add (pv 1) (pe_callB (call_lenK K) (by rfl) T.n_len bt_len (pa_cons (pv 0) pa_nil))) (pa_cons pe_int pa_nil)))))), ?_⟩
  refine ⟨_, rfl, _, rfl, p, _, rfl, .inl hS, _, _, rfl, rfl, _, rfl, ?_⟩
  refine ite2 (fun c => ?_) (fun c => ?_)
  · have c' : (k : Int) < (ns.length : Int) := by simpa using c
    obtain ⟨n, hn⟩ : ∃ n, ns[k]? = some n := ⟨ns[k]'(by omega), List.getElem?_eq_getElem (by omega)⟩
    refine ⟨_, rfl, _, rfl, p, _, _, _, rfl, rfl, hS, zs_at hn, _, _, rfl, rfl, cpw _ (by decide) (by decide), _, _, rfl, rfl, cpw _ (by decide) (by decide), _, _, rfl, rfl, ⟨big (by rw [pw60]; decide) (by rw [pw60]; decide), big (by rw [pw60]; decide) (by rw [pw60]; decide)⟩, _, _, rfl, rfl, (by show (0 : Int) < _; rw [pw60]; decide), ?_⟩
    exact q _ (em_nn _ (by rw [pw60]; decide)) H (.refl H)
  · refine ⟨_, rfl, _, rfl, p, _, rfl, .inl hS, _, _, rfl, rfl, ?_⟩
    exact ⟨_, 5, rfl, by decide, by decide, fun d d0 H1 s1 => q d d0 H1 s1⟩
/- _law_part: 0:_law_cell_here 1:_law_salt 2:_law_shift -/
noncomputable abbrev s_law_part : Stmt := top 53
theorem sc_law_part : FnScope ["_law_cell_here", "_law_salt", "_law_shift"] ["_law_cell_here", "_law_salt", "_law_shift"] (defScope s_law_part) := ⟨rfl, rfl, rfl, by decide +kernel, rfl, by decide +kernel, by decide +kernel⟩
theorem ok_part (T : Blt mg) (D : Def K mg "_law_part" s_law_part ["_law_cell_here", "_law_salt", "_law_shift"]) (C_law_mixed : Cal P w K mg base CX0 1 "_law_mixed" ["_law_cell_here", "_law_k"] sp_mixed) : Cal P w K mg base CX0 2 "_law_part" ["_law_cell_here", "_law_salt", "_law_shift"] sp_part := by
  refine D.ok sc_law_part (fun vs H Q E h => ?_) (fun f cdv A outer s H vs Q E hr h => ?_)
  · obtain ⟨c, k, h, rfl, _⟩ := h; rfl
  obtain ⟨c, j, h, rfl, c0, j0, j1, h0, h1, q⟩ := h
  refine ⟨_, (pss_cons (ps_if (PW.pt (pw_and (pt_cmpR op_ge (pv 0) (pe_op op_pow pe_int pe_int) (nomark _)) (pw_and1 (pt_cmpR op_gt (pe_op op_shr (pv 0) (pe_op op_add pe_int (pv 2))) pe_int (nomark _)))))
        (pss_one (ps_ret (pe_op op_shr (pv 0) (pe_op op_add pe_int (pv 2)))))
        pss_nil)
      (pss_one (ps_ret (pe_cal C_law_mixed hr.sub (pa_cons (pv 0) (pa_cons (pv 1) pa_nil)))))), ?_⟩
  refine ⟨_, rfl, _, _, rfl, rfl, cpw _ (by decide) (by decide), _, _, rfl, rfl, _, rfl, ?_⟩
  refine ite2 (fun _ => ?_) (fun _ => ?_)
  · refine ⟨_, rfl, _, rfl, _, _, rfl, rfl, _, _, rfl, rfl, (by show (0 : Int) ≤ 10 + h; omega), _, _, rfl, rfl, _, rfl, ?_⟩
    refine ite2 (fun _ => ?_) (fun _ => ?_)
    · refine ⟨_, rfl, _, rfl, _, _, rfl, rfl, _, _, rfl, rfl, (by show (0 : Int) ≤ 10 + h; omega), ?_⟩
      exact q _ (Int.ediv_nonneg c0 (two_pow_nn _)) H (.refl H)
    · exact ⟨_, rfl, _, rfl, _, _, rfl, j0, j1, fun d d0 H2 s2 => q d d0 H2 s2⟩
  · refine iteF ?_
    exact ⟨_, rfl, _, rfl, _, _, rfl, j0, j1, fun d d0 H2 s2 => q d d0 H2 s2⟩
/- _law_odd: 0:_law_number -/
noncomputable abbrev s_law_odd : Stmt := top 54
theorem sc_law_odd : FnScope ["_law_number"] ["_law_number"] (defScope s_law_odd) := ⟨rfl, rfl, rfl, by decide +kernel, rfl, by decide +kernel, by decide +kernel⟩
theorem ok_odd (T : Blt mg) (D : Def K mg "_law_odd" s_law_odd ["_law_number"]) : Cal P w K mg base CX0 1 "_law_odd" ["_law_number"] sp_odd := by
  refine D.ok sc_law_odd (fun vs H Q E h => ?_) (fun f cdv A outer s H vs Q E hr h => ?_)
  · obtain ⟨n, rfl, _⟩ := h; rfl
  obtain ⟨n, rfl, hn, k⟩ := h
  refine ⟨_, (pss_cons (ps_set (i := 0) sc_law_odd.nd rfl (Or.inl rfl) (pe_op op_xor (pv 0) (pe_op op_shr (pv 0) pe_int)))
      (pss_cons (ps_set (i := 0) sc_law_odd.nd rfl (Or.inl rfl) (pe_op op_xor (pv 0) (pe_op op_shr (pv 0) pe_int)))
      (pss_one (ps_ret (pe_op op_and (pe_op op_xor (pv 0) (pe_op op_shr (pv 0) pe_int)) pe_int))))), ?_⟩
  refine ⟨_, rfl, _, rfl, _, _, rfl, rfl, (by show (0 : Int) ≤ 4; decide), _, _, rfl, rfl, ?_⟩
  refine ⟨_, rfl, _, rfl, _, _, rfl, rfl, (by show (0 : Int) ≤ 2; decide), _, _, rfl, rfl, ?_⟩
  refine ⟨_, rfl, _, rfl, _, _, rfl, rfl, (by show (0 : Int) ≤ 1; decide), _, _, rfl, rfl, _, _, rfl, rfl, ?_⟩
  have := k H (.refl H)
  rw [← odd_is n hn] at this
  exact this
end

noncomputable def sp_lgate : Sp := fun vs H Q _ => ∃ (c : Int) (m : Nat), vs = [.int c, .int m] ∧ 0 ≤ c ∧ 1 ≤ m ∧ m ≤ 6 ∧ ∀ (g : Addr) (H' : Hp) (gt : Gt), Same H H' → H g = none → H' g = some (.tup gt.vals) → gt.ok m → Q (.ref g) H'
section
variable {P : Program} {w : World} {K : PySem.W.Frag} {mg : Str → Option Value} {base : Heap}
noncomputable abbrev Wd3 : List V := [.str "mix", .str "flip", .str "sign"]
noncomputable abbrev Wd : List V := [.str "mix", .str "flip", .str "sign", .str "follow", .str "meet", .str "swap"]
theorem pick3 (c : Int) : ∃ x : Str, atI Wd3 (c % 3) = some (.str x) ∧ ∀ n : Nat, ∃ gt : Gt, gt.vals = [.str x, .int n] ∧ ∀ m, n < m → gt.ok m := by
  have a := em_nn c (m := 3) (by decide)
  have b := em_lt c (m := 3) (by decide)
  have : c % 3 = 0 ∨ c % 3 = 1 ∨ c % 3 = 2 := by omega
  rcases this with e | e | e <;> rw [e]
  · exact ⟨"mix", rfl, fun n => ⟨.mix n, rfl, fun m h => h⟩⟩
  · exact ⟨"flip", rfl, fun n => ⟨.flip n, rfl, fun m h => h⟩⟩
  · exact ⟨"sign", rfl, fun n => ⟨.sign n, rfl, fun m h => h⟩⟩
theorem pick6 (c : Int) : (c % 6 < 3 ∧ ∃ x : Str, atI Wd (c % 6) = some (.str x) ∧ ∀ n : Nat, ∃ gt : Gt, gt.vals = [.str x, .int n] ∧ ∀ m, n < m → gt.ok m) ∨
    (¬ c % 6 < 3 ∧ ∃ x : Str, atI Wd (c % 6) = some (.str x) ∧ ∀ a b : Nat, ∃ gt : Gt, gt.vals = [.str x, .int a, .int b] ∧ ∀ m, a < m → b < m → a ≠ b → gt.ok m) := by
  have a := em_nn c (m := 6) (by decide)
  have b := em_lt c (m := 6) (by decide)
  have : c % 6 = 0 ∨ c % 6 = 1 ∨ c % 6 = 2 ∨ c % 6 = 3 ∨ c % 6 = 4 ∨ c % 6 = 5 := by omega
  rcases this with e | e | e | e | e | e <;> rw [e]
  · exact .inl ⟨by decide, "mix", rfl, fun n => ⟨.mix n, rfl, fun m h => h⟩⟩
  · exact .inl ⟨by decide, "flip", rfl, fun n => ⟨.flip n, rfl, fun m h => h⟩⟩
  · exact .inl ⟨by decide, "sign", rfl, fun n => ⟨.sign n, rfl, fun m h => h⟩⟩
  · exact .inr ⟨by decide, "follow", rfl, fun n k => ⟨.follow n k, rfl, fun m h h' h'' => ⟨h, h', h''⟩⟩⟩
  · exact .inr ⟨by decide, "meet", rfl, fun n k => ⟨.meet n k, rfl, fun m h h' h'' => ⟨h, h', h''⟩⟩⟩
  · exact .inr ⟨by decide, "swap", rfl, fun n k => ⟨.swap n k, rfl, fun m h h' h'' => ⟨h, h', h''⟩⟩⟩
theorem third {n r m : Int} (h1 : 2 ≤ m) (h2 : m ≤ 6) (n0 : 0 ≤ n) (n1 : n < m) (r0 : 0 ≤ r) (r1 : r < m - 1) : ∃ k : Nat, (n + 1 + r) % m = k ∧ (k : Int) < m ∧ (k : Int) ≠ n := by
  have : m = 2 ∨ m = 3 ∨ m = 4 ∨ m = 5 ∨ m = 6 := by omega
  rcases this with rfl | rfl | rfl | rfl | rfl <;> exact ⟨_, (Int.toNat_of_nonneg (by omega)).symm, by omega, by omega⟩
/- _law_gate: 0:_law_cell_here 1:_law_coins 2:_law_first 3:_law_word -/
noncomputable abbrev s_law_gate : Stmt := top 55
theorem sc_law_gate : FnScope ["_law_cell_here", "_law_coins", "_law_first", "_law_word"] ["_law_cell_here", "_law_coins"] (defScope s_law_gate) := ⟨rfl, rfl, rfl, by decide +kernel, rfl, by decide +kernel, by decide +kernel⟩
theorem ok_lgate (T : Blt mg) (D : Def K mg "_law_gate" s_law_gate ["_law_cell_here", "_law_coins"]) (C_law_part : Cal P w K mg base CX0 2 "_law_part" ["_law_cell_here", "_law_salt", "_law_shift"] sp_part) : Cal P w K mg base CX0 3 "_law_gate" ["_law_cell_here", "_law_coins"] sp_lgate := by
  refine D.ok sc_law_gate (fun vs H Q E h => ?_) (fun f cdv A outer s H vs Q E hr h => ?_)
  · obtain ⟨c, m, rfl, _⟩ := h; rfl
  obtain ⟨c, m, rfl, c0, m1, m6, k⟩ := h
  refine ⟨_, (pss_cons (ps_set (i := 2) sc_law_gate.nd rfl (Or.inl rfl) (pe_op op_mod (pe_cal C_law_part hr.sub (pa_cons (pv 0) (pa_cons pe_int (pa_cons pe_int pa_nil)))) (pv 1)))
      (pss_cons (ps_if (pt_cmpR op_eq (pv 1) pe_int (nomark _))
        (pss_one (ps_ret (pe_tup (pa_cons (pe_ix (ix_listK K) (pe_lst (pa_cons pe_str (pa_cons pe_str (pa_cons pe_str pa_nil)))) (pe_op op_mod (pv 0) pe_int) (fun _ _ => rfl)) (pa_cons (pv 2) pa_nil)))))
        pss_nil)
      (pss_cons (ps_set (i := 3) sc_law_gate.nd rfl (Or.inl rfl) (pe_ix (ix_listK K) (pe_lst (pa_cons pe_str (pa_cons pe_str (pa_cons pe_str (pa_cons pe_str (pa_cons pe_str (pa_cons pe_str pa_nil))))))) (pe_op op_mod (pv 0) pe_int) (fun _ _ => rfl)))
      (pss_cons (ps_if (pt_cmpR op_lt (pe_op op_mod (pv 0) pe_int) pe_int (nomark _))
        (pss_one (ps_ret (pe_tup (pa_cons (pv 3) (pa_cons (pv 2) pa_nil)))))
        pss_nil)
      (pss_one (ps_ret (pe_tup (pa_cons (pv 3) (pa_cons (pv 2) (pa_cons (pe_op op_mod (pe_op op_add (pe_op op_add (pv 2) pe_int) (pe_op op_mod (pe_cal C_law_part hr.sub (pa_cons (pv 0) (pa_cons pe_int (pa_cons pe_int pa_nil)))) (pe_op op_sub (pv 1) pe_int))) (pv 1)) pa_nil)))))))))), ?_⟩
  refine ⟨_, rfl, _, _, _, rfl, c0, by decide, by decide, by decide, by decide, fun d d0 H1 s1 => ?_⟩
  have hm0 : (0 : Int) < (m : Int) := by omega
  refine ⟨_, rfl, _, _, rfl, rfl, hm0, ?_⟩
  have f0 := em_nn d hm0
  have f1 := em_lt d hm0
  obtain ⟨n, hn⟩ : ∃ n : Nat, d % (m : Int) = n := ⟨_, (Int.toNat_of_nonneg f0).symm⟩
  dsimp only
  rw [hn]
  rw [hn] at f0 f1
  refine ⟨_, rfl, rfl, _, rfl, ?_⟩
  refine ite2 (fun hc => ?_) (fun hc => ?_)
  · have e1 : (m : Int) = 1 := by have := of_decide_eq_true hc; injection this
    obtain ⟨x, hx, hg⟩ := pick3 c
    obtain ⟨gt, hv, hok⟩ := hg n
    refine ⟨line6 (by show 3 ≤ 1000; decide), fun u nu => ?_⟩
    refine ⟨_, rfl, _, _, rfl, rfl, (by show (0 : Int) < _; decide), u, _, _, _, rfl, rfl, .of upd_same, hx, _, rfl, line6 (by show 2 ≤ 1000; decide), fun g ng => ?_⟩
    have s2 := s1.trans (Same.new (o := .lst Wd3) nu)
    exact k g _ gt (s2.trans (Same.new ng)) (s2.free ng) (by rw [upd_same, hv]) (hok _ (by omega))
  have hm2 : 2 ≤ m := by
    have : (m : Int) ≠ 1 := fun z => hc (decide_eq_true (by rw [z]))
    omega
  refine ⟨line6 (by show 6 ≤ 1000; decide), fun u nu => ?_⟩
  have s2 := s1.trans (Same.new (o := .lst Wd) nu)
  rcases pick6 c with ⟨hlt, x, hx, hg⟩ | ⟨hlt, x, hx, hg⟩
  · obtain ⟨gt, hv, hok⟩ := hg n
    refine ⟨_, rfl, _, _, rfl, rfl, (by show (0 : Int) < _; decide), u, _, _, _, rfl, rfl, .of upd_same, hx, ?_⟩
    refine ⟨_, rfl, _, _, rfl, rfl, (by show (0 : Int) < _; decide), _, _, rfl, rfl, _, rfl, iteD hlt ?_⟩
    refine ⟨_, rfl, _, rfl, line6 (by show 2 ≤ 1000; decide), fun g ng => ?_⟩
    exact k g _ gt (s2.trans (Same.new ng)) (s2.free ng) (by rw [upd_same, hv]) (hok _ (by omega))
  · refine ⟨_, rfl, _, _, rfl, rfl, (by show (0 : Int) < _; decide), u, _, _, _, rfl, rfl, .of upd_same, hx, ?_⟩
    refine ⟨_, rfl, _, _, rfl, rfl, (by show (0 : Int) < _; decide), _, _, rfl, rfl, _, rfl, iteDN hlt ?_⟩
    refine ⟨_, rfl, _, rfl, _, rfl, _, _, rfl, rfl, _, rfl, _, _, _, rfl, c0, by decide, by decide, by decide, by decide, fun e e0 H3 s3 => ?_⟩
    have hm1 : (0 : Int) < (m : Int) - 1 := by omega
    have r0 := em_nn e hm1
    have r1 := em_lt e hm1
    obtain ⟨j, hj, hj1, hj2⟩ := third (m := (m : Int)) (by omega) (by omega) f0 f1 r0 r1
    obtain ⟨gt, hv, hok⟩ := hg n j
    refine ⟨_, rfl, _, _, rfl, rfl, _, _, rfl, rfl, hm1, _, _, rfl, rfl, _, rfl, _, _, rfl, rfl, hm0, line6 (by show 3 ≤ 1000; decide), fun g ng => ?_⟩
    have s4 := s2.trans s3
    exact k g _ gt (s4.trans (Same.new ng)) (s4.free ng) (by rw [upd_same, hv, ← hj]) (hok _ (by omega) (by omega) (by omega))
end

end K55

set_option maxHeartbeats 4000000
namespace K55
open PySem L2 TC
/-- rows lying as tuples, whatever they are -/
structure Rwa (H : Hp) (as : List Addr) (rs : List Rw) : Prop where
  l : as.length = rs.length
  g : ∀ (i : Nat) (a : Addr), as[i]? = some a → ∃ r, rs[i]? = some r ∧ H a = some (.tup r.vals)
theorem Rwa.same {H H' : Hp} {as : List Addr} {rs : List Rw} (h : Rwa H as rs) (s : Same H H') : Rwa H' as rs := ⟨h.l, fun i a e => by
  obtain ⟨r, h1, h2⟩ := h.g i a e
  exact ⟨r, h1, s _ _ h2⟩⟩
theorem Rwa.ok {H : Hp} {as : List Addr} {rs : List Rw} {m : Nat} (h : Rwa H as rs) (hr : ∀ r ∈ rs, r.ok m) : Rws H m as rs := ⟨h.l, fun i a e => by
  obtain ⟨r, h1, h2⟩ := h.g i a e
  exact ⟨r, h1, h2, hr r (List.mem_of_getElem? h1)⟩⟩
theorem Rws.any {H : Hp} {as : List Addr} {rs : List Rw} {m : Nat} (h : Rws H m as rs) : Rwa H as rs := ⟨h.l, fun i a e => by
  obtain ⟨r, h1, h2, _⟩ := h.g i a e
  exact ⟨r, h1, h2⟩⟩
/-- all rows well formed -/
noncomputable def Well (m : Nat) (rs : List Rw) : Prop := ∀ r ∈ rs, r.ok m ∧ evn r = true
/-- a table -/
noncomputable def Tab (rs : List Rw) : Prop := ∃ m, 1 ≤ m ∧ m ≤ 6 ∧ Tb m rs
noncomputable def sp_ckX (K : PySem.W.Frag) (n : Addr) (B : Nat → List Rw → Prop) : Sp := fun vs H _ E => ∃ (a : Addr) (as : List Addr) (rs : List Rw) (m : Nat), vs = [.ref a, .int m] ∧ SqL K H a (rV as) ∧ Rwa H as rs ∧ m ≤ 6 ∧ rs.length = 2 * m ∧ B m rs ∧ ∀ H', Same H H' → E (.ref n) none H'
noncomputable def sp_tabX (K : PySem.W.Frag) (n : Addr) : Sp := fun vs H _ E => ∃ (a : Addr) (as : List Addr) (rs : List Rw), vs = [.ref a] ∧ SqL K H a (rV as) ∧ Rwa H as rs ∧ rs.length ≤ 200 ∧ ¬ Tab rs ∧ ∀ H', Same H H' → E (.ref n) none H'
/-- well formed rows, of which two are not as they should be -/
noncomputable def Off (m : Nat) (rs : List Rw) : Prop := Well m rs ∧ ¬ ∀ i j, i < j → j < 2 * m → sy (ra rs i) (ra rs j) = decide (j = i + m)
theorem tb_of {m : Nat} {rs : List Rw} (hl : rs.length = 2 * m) (hw : Well m rs) (h : ∀ i j, i < j → j < 2 * m → sy (ra rs i) (ra rs j) = decide (j = i + m)) : Tb m rs :=
  ⟨hl, fun i hi => (hw _ (List.mem_of_getElem? (ra_get (by rw [hl]; exact hi)))).1, fun i hi => (hw _ (List.mem_of_getElem? (ra_get (by rw [hl]; exact hi)))).2, h⟩
theorem Tb.well {m : Nat} {rs : List Rw} (h : Tb m rs) : Well m rs := fun r hr => by
  obtain ⟨i, hi⟩ := List.mem_iff_getElem?.mp hr
  have hl : i < 2 * m := by rw [← h.l]; exact (List.getElem?_eq_some_iff.mp hi).1
  have a := h.ok i hl
  have b := h.ev i hl
  rw [ra_some hi] at a b
  exact ⟨a, b⟩
section
variable {P : Program} {w : World} {K : PySem.W.Frag} {mg : Str → Option Value} {base : Heap} {nT : Addr}
theorem ok_ckrowsX (T : Blt mg) (GN : GCls K mg "NoTable" nT) (XN : XCls K nT) (D : Def K mg "check_rows_of_table" s_check_rows_of_table ["table", "coins"]) (C_is_row : Cal P w K mg base CX0 1 "is_row" ["row", "coins"] (sp_irowG K)) (C_is_even : Cal P w K mg base CX0 2 "is_even" ["row"] (sp_even K)) :
    Cal P w K mg base (CX1 P w) 3 "check_rows_of_table" ["table", "coins"] (sp_ckX K nT fun m rs => ¬ Well m rs) := by
  refine D.okX sc_check_rows_of_table (fun vs H Q E h => ?_) (fun f cdv A outer s H vs Q E hr h R => ?_)
  · obtain ⟨a, as, rs, m, rfl, _⟩ := h; rfl
  obtain ⟨a, as, rs, m, rfl, hS, hR, hm, hl, hB, k⟩ := h
  refine ⟨_, (pss_one (ps_for PassesOwn.leaving rfl (pi_listK K (pv 0)) (pg_name (i := 2) sc_check_rows_of_table.nd rfl (Or.inl rfl))
        (pss_one (ps_if (PW.pt (pw_or (pt_not (pt_val (pe_cal C_is_row hr.sub (pa_cons (pv 2) (pa_cons (pv 1) pa_nil))))) (pw_or1 (pt_not (pt_val (pe_cal C_is_even hr.sub (pa_cons (pv 2) pa_nil)))))))
          (pss_one (ps_raise rfl rfl rfl GN.m XN.x R (pa_cons pe_str pa_nil)))
          pss_nil)))), ?_⟩
  refine ⟨_, rfl, a, rfl, ⟨_, hS⟩, for_list (K := K) (a := a) (xs := rV as) (fun i σ H' => ∃ v : Option V, σ = [some (.ref a), some (.int m), v] ∧ Same H H' ∧ ∀ j r, j < i → rs[j]? = some r → r.ok m ∧ evn r = true) ⟨_, rfl, .refl H, fun j r hj => absurd hj (Nat.not_lt_zero j)⟩ (fun i σ H' _ ⟨_, _, s', _⟩ => s'.seq hS) ?_ ?_⟩
  · rintro i x σ H' hi ⟨v, rfl, s', hw⟩
    obtain ⟨b, hb, rfl⟩ := rs_get hi
    obtain ⟨r, hr1, er⟩ := hR.g i b hb
    refine ⟨_, rfl, _, rfl, b, r, m, rfl, sqT (s' _ _ er), hm, fun c hc H2 s2 => ⟨_, rfl, ?_⟩⟩
    have u := s'.trans s2
    cases c with
    | false => exact iteT (iteT ⟨line6 (by decide), k H2 u⟩)
    | true =>
      have rok := hc.mp rfl
      refine iteF ⟨_, rfl, b, r, m, rfl, sqT (u _ _ er), hm, rok.x, rok.z, fun H3 s3 => ⟨_, rfl, ?_⟩⟩
      cases hev : evn r with
      | false => exact iteT ⟨line6 (by decide), k H3 (u.trans s3)⟩
      | true =>
        refine iteF ⟨_, rfl, u.trans s3, fun j r' hj hj' => ?_⟩
        rcases Nat.lt_or_ge j i with h | h
        · exact hw j r' h hj'
        · have : j = i := by omega
          subst this
          rw [hr1] at hj'
          cases hj'
          exact ⟨rok, hev⟩
  · rintro σ H' ⟨v, rfl, s', hw⟩
    refine absurd (fun r hr => ?_) hB
    obtain ⟨j, hj⟩ := List.mem_iff_getElem?.mp hr
    exact hw j r (by rw [rV, List.length_map, hR.l]; exact (List.getElem?_eq_some_iff.mp hj).1) hj
theorem ok_ckagrX (T : Blt mg) (GN : GCls K mg "NoTable" nT) (XN : XCls K nT) (D : Def K mg "check_agreeing_of_table" s_check_agreeing_of_table ["table", "coins"]) (C_agree : Cal P w K mg base CX0 2 "agree" ["one", "other"] (sp_agree K)) :
    Cal P w K mg base (CX1 P w) 3 "check_agreeing_of_table" ["table", "coins"] (sp_ckX K nT Off) := by
  refine D.okX sc_check_agreeing_of_table (fun vs H Q E h => ?_) (fun f cdv A outer s H vs Q E hr h R => ?_)
  · obtain ⟨a, as, rs, m, rfl, _⟩ := h; rfl
  obtain ⟨a, as, rs, m, rfl, hS, hRa, hm, hl, ⟨hW, hB⟩, k⟩ := h
  have hR : Rws H m as rs := hRa.ok fun r hr => (hW r hr).1
  have hok : ∀ i, i < 2 * m → (ra rs i).ok m := fun i hi => (hW _ (List.mem_of_getElem? (ra_get (by rw [hl]; exact hi)))).1
  refine ⟨_, (pss_one (ps_for PassesOwn.leaving rfl (pi_enumK K rfl T.n_enumerate (pa_cons (pv 0) pa_nil)) (pg_tupK K rfl (pgs_cons (pg_name (i := 2) sc_check_agreeing_of_table.nd rfl (Or.inl rfl)) (pgs_cons (pg_name (i := 3) sc_check_agreeing_of_table.nd rfl (Or.inl rfl)) pgs_nil)))
        (pss_one (ps_for PassesOwn.leaving rfl (pi_range1 rfl T.n_range (pa_cons (pv 2) pa_nil)) (pg_name (i := 4) sc_check_agreeing_of_table.nd rfl (Or.inl rfl))
          (pss_one (ps_if (pt_cmpR op_eq (pe_cal C_agree hr.sub (pa_cons (pe_ix (ix_listK K) (pv 0) (pv 4) (fun _ _ => rfl)) (pa_cons (pv 3) pa_nil))) (pe_cmpR op_eq (pv 2) (pe_op op_add (pv 4) (pv 1)) (nomark _)) (nomark _))
            (pss_one (ps_raise rfl rfl rfl GN.m XN.x R (pa_cons pe_str pa_nil)))
            pss_nil)))))), ?_⟩
  refine ⟨_, rfl, a, _, rfl, hS, for_enum (K := K) (a := a) (xs := rV as) (fun i σ H' => ∃ u v x, σ = [some (.ref a), some (.int m), u, v, x] ∧ Same H H' ∧ ∀ p q, p < q → q < i → sy (ra rs p) (ra rs q) = decide (q = p + m)) ⟨_, _, _, rfl, .refl H, fun p q _ hq => absurd hq (Nat.not_lt_zero q)⟩ (fun i σ H' _ ⟨_, _, _, _, s', _⟩ => s'.seq hS) ?_ ?_⟩
  · rintro i x σ H' p hi ⟨u, v, x', rfl, s', hg⟩ hp
    obtain ⟨b, hb, rfl⟩ := rs_get hi
    obtain ⟨r, hr1, er, rok⟩ := hR.g i b hb
    have hi2 : i < 2 * m := by rw [← hl]; exact (List.getElem?_eq_some_iff.mp hr1).1
    have s2 := s'.upd (o := .tup [.int i, .ref b]) (s'.free hp)
    refine ⟨p, _, rfl, sqT upd_same, rfl, _, _, rfl, _, _, rfl, rfl, ?_⟩
    refine ⟨_, rfl, (i : Int), rfl, by omega, by omega, for_range (lo := 0) (n := (i : Int).toNat) (fun j σ H'' => ∃ x, σ = [some (.ref a), some (.int m), some (.int i), some (.ref b), x] ∧ Same H H'' ∧ ∀ p, p < j → sy (ra rs p) (ra rs i) = decide (i = p + m)) ⟨_, rfl, s2, fun p hp => absurd hp (Nat.not_lt_zero p)⟩ ?_ ?_⟩
    · rintro j σ H2 hj ⟨x, rfl, s3, hg2⟩
      have hj' : j < i := by omega
      rw [Int.zero_add]
      obtain ⟨c, hc, ec⟩ := rows_at hR (i := j) (by rw [hl]; omega)
      have er2 := s3 _ _ er
      refine ⟨_, rfl, _, rfl, a, _, _, _, rfl, rfl, s3.seq hS, hc, _, rfl, c, b, ra rs j, r, m, rfl, sqT (s3 _ _ ec), sqT er2, hm, hok j (by omega), rok, fun H3 s4 => ?_⟩
      have hra := ra_some hr1
      have ee : decide (V.bl (agr (ra rs j) r) = V.bl (decide (V.int (i : Int) = V.int ((j : Int) + (m : Int))))) = !decide (sy (ra rs j) (ra rs i) = decide (i = j + m)) := by
        rw [hra, agr_sy, dec_bl, dec_int]
        by_cases e : i = j + m
        · subst e
          have : (((j + m : Nat) : Int) == (j : Int) + (m : Int)) = true := by simp
          rw [this]
          cases sy (ra rs j) r <;> simp
        · have : ((i : Int) == (j : Int) + (m : Int)) = false := by simp; omega
          rw [this, decide_eq_false e]
          cases sy (ra rs j) r <;> simp
      refine ⟨_, rfl, _, rfl, _, rfl, _, _, rfl, rfl, rfl, rfl, _, rfl, ?_⟩
      by_cases hgood : sy (ra rs j) (ra rs i) = decide (i = j + m)
      · refine iteBN (ee.trans (by rw [decide_eq_true hgood]; rfl)) ⟨_, rfl, s3.trans s4, fun p hp => ?_⟩
        rcases Nat.lt_or_ge p j with h | h
        · exact hg2 p h
        · have : p = j := by omega
          subst this
          exact hgood
      · exact iteB (ee.trans (by rw [decide_eq_false hgood]; rfl)) ⟨line6 (by decide), k H3 (s3.trans s4)⟩
    · rintro σ H2 ⟨x, rfl, s3, hg2⟩
      refine ⟨_, _, _, rfl, s3, fun p q hpq hq => ?_⟩
      rcases Nat.lt_or_ge q i with h | h
      · exact hg p q hpq h
      · have : q = i := by omega
        subst this
        exact hg2 p (by omega)
  · rintro σ H' ⟨u, v, x, rfl, s', hg⟩
    refine absurd (fun p q hpq hq => hg p q hpq ?_) hB
    rw [rV, List.length_map, hR.l, hl]; exact hq
noncomputable def sp_ckW (K : PySem.W.Frag) : Sp := fun vs H Q _ => ∃ (a : Addr) (as : List Addr) (rs : List Rw) (m : Nat), vs = [.ref a, .int m] ∧ SqL K H a (rV as) ∧ Rwa H as rs ∧ Well m rs ∧ m ≤ 6 ∧ ∀ H', Same H H' → Q .non H'
theorem ok_ckrowsW (T : Blt mg) (D : Def K mg "check_rows_of_table" s_check_rows_of_table ["table", "coins"]) (C_is_row : Cal P w K mg base CX0 1 "is_row" ["row", "coins"] (sp_irow K)) (C_is_even : Cal P w K mg base CX0 2 "is_even" ["row"] (sp_even K)) : Cal P w K mg base CX0 3 "check_rows_of_table" ["table", "coins"] (sp_ckW K) := by
  refine D.ok sc_check_rows_of_table (fun vs H Q E h => ?_) (fun f cdv A outer s H vs Q E hr h => ?_)
  · obtain ⟨a, as, rs, m, rfl, _⟩ := h; rfl
  obtain ⟨a, as, rs, m, rfl, hS, hR, hT, hm, k⟩ := h
  refine ⟨_, (pss_one (ps_for PassesOwn.never rfl (pi_listK K (pv 0)) (pg_name (i := 2) sc_check_rows_of_table.nd rfl (Or.inl rfl))
        (pss_one (ps_if (PW.pt (pw_or (pt_not (pt_val (pe_cal C_is_row hr.sub (pa_cons (pv 2) (pa_cons (pv 1) pa_nil))))) (pw_or1 (pt_not (pt_val (pe_cal C_is_even hr.sub (pa_cons (pv 2) pa_nil)))))))
          (pss_one ps_never)
          pss_nil)))), ?_⟩
  refine ⟨_, rfl, a, rfl, ⟨_, hS⟩, for_list (K := K) (a := a) (xs := rV as) (fun i σ H' => ∃ v : Option V, σ = [some (.ref a), some (.int m), v] ∧ Same H H') ⟨_, rfl, .refl H⟩ (fun i σ H' _ ⟨_, _, s'⟩ => s'.seq hS) ?_ ?_⟩
  · rintro i x σ H' hi ⟨v, rfl, s'⟩
    obtain ⟨b, hb, rfl⟩ := rs_get hi
    obtain ⟨r, hr1, er⟩ := hR.g i b hb
    obtain ⟨rok, hev⟩ := hT r (List.mem_of_getElem? hr1)
    refine ⟨_, rfl, _, rfl, b, r, m, rfl, sqT (s' _ _ er), hm, rok, fun H2 s2 => ⟨_, rfl, iteF ?_⟩⟩
    have u := s'.trans s2
    refine ⟨_, rfl, b, r, m, rfl, sqT (u _ _ er), hm, rok.x, rok.z, fun H3 s3 => ⟨_, rfl, ?_⟩⟩
    rw [hev]
    exact iteF ⟨_, rfl, u.trans s3⟩
  · rintro σ H' ⟨v, rfl, s'⟩
    exact k H' s'
theorem ok_cktabX (T : Blt mg) (MC : ∃ t, mg "MOST_COINS" = some (.int 6 t)) (GN : GCls K mg "NoTable" nT) (XN : XCls K nT) (D : Def K mg "check_table" s_check_table ["table"]) (C_check_rows_of_table : Cal P w K mg base CX0 3 "check_rows_of_table" ["table", "coins"] (sp_ckW K)) (C_check_agreeing_of_table : Cal P w K mg base CX0 3 "check_agreeing_of_table" ["table", "coins"] (sp_ckt K))
    (CX1' : Cal P w K mg base (CX1 P w) 3 "check_rows_of_table" ["table", "coins"] (sp_ckX K nT fun m rs => ¬ Well m rs)) (CX2' : Cal P w K mg base (CX1 P w) 3 "check_agreeing_of_table" ["table", "coins"] (sp_ckX K nT Off)) : Cal P w K mg base (CX1 P w) 4 "check_table" ["table"] (sp_tabX K nT) := by
  refine D.okX sc_check_table (fun vs H Q E h => ?_) (fun f cdv A outer s H vs Q E hr h R => ?_)
  · obtain ⟨a, as, rs, rfl, _⟩ := h; rfl
  obtain ⟨a, as, rs, rfl, hS, hR, hl, hB, k⟩ := h
  have eL : ((rV as).length : Int) = (rs.length : Int) := by rw [rV, List.length_map, hR.l]
  obtain ⟨m, hm⟩ : ∃ m : Nat, m = rs.length / 2 := ⟨_, rfl⟩
  have efd : ((rV as).length : Int).fdiv 2 = (m : Int) := by rw [eL, Int.fdiv_eq_ediv_of_nonneg _ (by decide)]; omega
  have m200 : m ≤ 200 := by omega
  by_cases h1 : rs.length = 2 * m ∧ 1 ≤ m ∧ m ≤ 6
  rotate_left
  · refine ⟨_, (pss_cons (ps_set (i := 1) sc_check_table.nd rfl (Or.inl rfl) (pe_op op_fdivB (pe_callB (call_lenK K) (by rfl) T.n_len bt_len (pa_cons (pv 0) pa_nil)) pe_int))
      (pss_cons (ps_if (PW.pt (pw_or (pt_cmpR op_ne (pe_callB (call_lenK K) (by rfl) T.n_len bt_len (pa_cons (pv 0) pa_nil)) (pe_op op_mulB pe_int (pv 1)) (nomark _)) (pw_or (pt_cmpR op_lt (pv 1) pe_int (nomark _)) (pw_or1 (pt_cmpR op_gt (pv 1) (pe_gI MC) (nomark _))))))
        (pss_one (ps_raise rfl rfl rfl GN.m XN.x R (pa_cons pe_str pa_nil)))
        pss_nil)
      (pss_cons (ps_expr (pe_cal C_check_rows_of_table hr.sub (pa_cons (pv 0) (pa_cons (pv 1) pa_nil))))
      (pss_one (ps_expr (pe_cal C_check_agreeing_of_table hr.sub (pa_cons (pv 0) (pa_cons (pv 1) pa_nil)))))))), ?_⟩
    refine ⟨_, rfl, a, _, rfl, .inl hS, _, _, rfl, rfl, cdB (by decide) (by decide), ?_⟩
    dsimp only
    rw [efd]
    refine ⟨_, rfl, a, _, rfl, .inl hS, _, rfl, _, _, rfl, rfl, ⟨big (by decide) (by decide), big (by omega) (by omega)⟩, rfl, _, rfl, ?_⟩
    rw [eL]
    by_cases c1 : rs.length = 2 * m
    rotate_left
    · refine iteB ?_ ⟨line6 (by decide), k H (.refl H)⟩
      show (!decide (V.int (rs.length : Int) = V.int (2 * (m : Int)))) = true
      rw [decide_eq_false (fun z => c1 (by injection z with z; omega))]; rfl
    refine iteBN (by show (!decide (V.int (rs.length : Int) = V.int (2 * (m : Int)))) = false; rw [decide_eq_true (by congr 1; omega)]; rfl) ?_
    by_cases c2 : m < 1
    · exact ⟨_, rfl, _, _, rfl, rfl, _, rfl, iteD (by omega) ⟨line6 (by decide), k H (.refl H)⟩⟩
    refine ⟨_, rfl, _, _, rfl, rfl, _, rfl, iteDN (by omega) ?_⟩
    exact ⟨_, rfl, _, _, rfl, rfl, _, rfl, iteD (by omega) ⟨line6 (by decide), k H (.refl H)⟩⟩
  obtain ⟨c1, c2, c3⟩ := h1
  by_cases hW : Well m rs
  · refine ⟨_, (pss_cons (ps_set (i := 1) sc_check_table.nd rfl (Or.inl rfl) (pe_op op_fdivB (pe_callB (call_lenK K) (by rfl) T.n_len bt_len (pa_cons (pv 0) pa_nil)) pe_int))
      (pss_cons (ps_if (PW.pt (pw_or (pt_cmpR op_ne (pe_callB (call_lenK K) (by rfl) T.n_len bt_len (pa_cons (pv 0) pa_nil)) (pe_op op_mulB pe_int (pv 1)) (nomark _)) (pw_or (pt_cmpR op_lt (pv 1) pe_int (nomark _)) (pw_or1 (pt_cmpR op_gt (pv 1) (pe_gI MC) (nomark _))))))
        (pss_one ps_never)
        pss_nil)
      (pss_cons (ps_expr (pe_cal C_check_rows_of_table hr.sub (pa_cons (pv 0) (pa_cons (pv 1) pa_nil))))
      (pss_one (ps_expr (pe_calX CX2' hr.sub R (pa_cons (pv 0) (pa_cons (pv 1) pa_nil)))))))), ?_⟩
    refine ⟨_, rfl, a, _, rfl, .inl hS, _, _, rfl, rfl, cdB (by decide) (by decide), ?_⟩
    dsimp only
    rw [efd]
    refine ⟨_, rfl, a, _, rfl, .inl hS, _, rfl, _, _, rfl, rfl, ⟨big (by decide) (by decide), big (by omega) (by omega)⟩, rfl, _, rfl, iteBN (by show (!decide (V.int ((rV as).length : Int) = V.int (2 * (m : Int)))) = false; rw [eL, decide_eq_true (by congr 1; omega)]; rfl) ?_⟩
    refine ⟨_, rfl, _, _, rfl, rfl, _, rfl, iteDN (by omega) ?_⟩
    refine ⟨_, rfl, _, _, rfl, rfl, _, rfl, iteDN (by omega) ?_⟩
    refine ⟨_, rfl, _, rfl, a, as, rs, m, rfl, hS, hR, hW, c3, fun H1 s1 => ?_⟩
    exact ⟨_, rfl, _, rfl, a, as, rs, m, rfl, s1.seq hS, hR.same s1, c3, c1, ⟨hW, fun z => hB ⟨m, c2, c3, tb_of c1 hW z⟩⟩, fun H2 s2 => k H2 (s1.trans s2)⟩
  · refine ⟨_, (pss_cons (ps_set (i := 1) sc_check_table.nd rfl (Or.inl rfl) (pe_op op_fdivB (pe_callB (call_lenK K) (by rfl) T.n_len bt_len (pa_cons (pv 0) pa_nil)) pe_int))
      (pss_cons (ps_if (PW.pt (pw_or (pt_cmpR op_ne (pe_callB (call_lenK K) (by rfl) T.n_len bt_len (pa_cons (pv 0) pa_nil)) (pe_op op_mulB pe_int (pv 1)) (nomark _)) (pw_or (pt_cmpR op_lt (pv 1) pe_int (nomark _)) (pw_or1 (pt_cmpR op_gt (pv 1) (pe_gI MC) (nomark _))))))
        (pss_one ps_never)
        pss_nil)
      (pss_cons (ps_expr (pe_calX CX1' hr.sub R (pa_cons (pv 0) (pa_cons (pv 1) pa_nil))))
      (pss_one (ps_expr (pe_cal C_check_agreeing_of_table hr.sub (pa_cons (pv 0) (pa_cons (pv 1) pa_nil)))))))), ?_⟩
    refine ⟨_, rfl, a, _, rfl, .inl hS, _, _, rfl, rfl, cdB (by decide) (by decide), ?_⟩
    dsimp only
    rw [efd]
    refine ⟨_, rfl, a, _, rfl, .inl hS, _, rfl, _, _, rfl, rfl, ⟨big (by decide) (by decide), big (by omega) (by omega)⟩, rfl, _, rfl, iteBN (by show (!decide (V.int ((rV as).length : Int) = V.int (2 * (m : Int)))) = false; rw [eL, decide_eq_true (by congr 1; omega)]; rfl) ?_⟩
    refine ⟨_, rfl, _, _, rfl, rfl, _, rfl, iteDN (by omega) ?_⟩
    refine ⟨_, rfl, _, _, rfl, rfl, _, rfl, iteDN (by omega) ?_⟩
    exact ⟨_, rfl, _, rfl, a, as, rs, m, rfl, hS, hR, c3, c1, hW, fun H1 s1 => k H1 s1⟩
theorem ok_gatesofX (T : Blt mg) (D : Def K mg "gates_of" s_gates_of ["table"]) (CX3 : Cal P w K mg base (CX1 P w) 4 "check_table" ["table"] (sp_tabX K nT)) : Cal P w K mg base (CX1 P w) 5 "gates_of" ["table"] (sp_tabX K nT) := by
  refine D.okX sc_gates_of (fun vs H Q E h => ?_) (fun f cdv A outer s H vs Q E hr h R => ?_)
  · obtain ⟨a, as, rs, rfl, _⟩ := h; rfl
  obtain ⟨a, as, rs, rfl, hS, hR, hl, hB, k⟩ := h
  refine ⟨_, pss_cons (ps_expr (pe_calX CX3 hr.sub R (pa_cons (pv 0) pa_nil))) pss_never, ?_⟩
  exact ⟨_, rfl, a, as, rs, rfl, hS, hR, hl, hB, fun H1 s1 => k H1 s1⟩
end
end K55

set_option maxHeartbeats 4000000
namespace K55
open PySem L2 TC
noncomputable def sp_lagree (K : PySem.W.Frag) : Sp := fun vs H Q _ => ∃ (a b : Addr) (r t : Rw) (m : Nat), vs = [.ref a, .ref b] ∧ H a = some (.tup r.vals) ∧ H b = some (.tup t.vals) ∧ m ≤ 6 ∧ r.ok m ∧ t.ok m ∧ ∀ H', Same H H' → Q (.bl (agr r t)) H'
noncomputable def sp_istab (K : PySem.W.Frag) : Sp := fun vs H Q _ => ∃ (a : Addr) (as : List Addr) (rs : List Rw), vs = [.ref a] ∧ SqL K H a (rV as) ∧ Rwa H as rs ∧ rs.length ≤ 200 ∧ ∀ b : Bool, (b = true ↔ Tab rs) → ∀ H', Same H H' → Q (.bl b) H'
theorem odd_eq (a b : Bool) : decide (V.int (if a = true then 1 else 0) = V.int (if b = true then 1 else 0)) = (a == b) := by cases a <;> cases b <;> rfl
theorem shr_zero {n m : Nat} : decide (V.int ((n : Int) / 2 ^ (m : Int).toNat) = V.int 0) = decide (n < 2 ^ m) := by
  have e : (n : Int) / 2 ^ (m : Int).toNat = ((n / 2 ^ m : Nat) : Int) := by rw [Int.toNat_natCast, Int.natCast_ediv, Int.natCast_pow]; rfl
  rw [e]
  by_cases h : n < 2 ^ m
  · rw [decide_eq_true h, decide_eq_true (by rw [Nat.div_eq_of_lt h]; rfl)]
  · rw [decide_eq_false h, decide_eq_false]
    intro z
    injection z with z
    have : n / 2 ^ m = 0 := by omega
    exact h ((Nat.div_eq_zero_iff_lt (Nat.two_pow_pos m)).mp this)
theorem agr_par {r t : Rw} : (par (r.x &&& t.z) == par (r.z &&& t.x)) = agr r t := rfl
theorem in12 (n : Nat) : inV (.int (n : Int)) (zV [2, 4, 6, 8, 10, 12]) = true ↔ n = 2 * (n / 2) ∧ 1 ≤ n / 2 ∧ n / 2 ≤ 6 := by
  show ((2 : Int) == (n : Int) || ((4 : Int) == (n : Int) || ((6 : Int) == (n : Int) || ((8 : Int) == (n : Int) || ((10 : Int) == (n : Int) || ((12 : Int) == (n : Int) || false)))))) = true ↔ _
  simp only [Bool.or_eq_true, beq_iff_eq, Bool.or_false]
  omega
theorem tab_m {rs : List Rw} {m : Nat} (h : Tab rs) (hl : rs.length = 2 * m) : Tb m rs := by
  obtain ⟨m', _, _, h'⟩ := h
  have : m' = m := by have := h'.l; omega
  rw [← this]; exact h'
section
variable {P : Program} {w : World} {K : PySem.W.Frag} {mg : Str → Option Value} {base : Heap}
/- _law_agree: 0:_law_one 1:_law_two -/
noncomputable abbrev s_law_agree : Stmt := top 58
theorem sc_law_agree : FnScope ["_law_one", "_law_two"] ["_law_one", "_law_two"] (defScope s_law_agree) := ⟨rfl, rfl, rfl, by decide +kernel, rfl, by decide +kernel, by decide +kernel⟩
theorem ok_lagree (T : Blt mg) (D : Def K mg "_law_agree" s_law_agree ["_law_one", "_law_two"]) (C_law_odd : Cal P w K mg base CX0 1 "_law_odd" ["_law_number"] sp_odd) : Cal P w K mg base CX0 2 "_law_agree" ["_law_one", "_law_two"] (sp_lagree K) := by
  refine D.ok sc_law_agree (fun vs H Q E h => ?_) (fun f cdv A outer s H vs Q E hr h => ?_)
  · obtain ⟨a, b, r, t, m, rfl, _⟩ := h; rfl
  obtain ⟨a, b, r, t, m, rfl, hA, hB, hm, h1, h2, k⟩ := h
  refine ⟨_, (pss_one (ps_ret (pe_cmpR op_eq (pe_cal C_law_odd hr.sub (pa_cons (pe_op op_and (pe_ix (ix_tupK K) (pv 0) pe_int (fun _ _ => rfl)) (pe_ix (ix_tupK K) (pv 1) pe_int (fun _ _ => rfl))) pa_nil)) (pe_cal C_law_odd hr.sub (pa_cons (pe_op op_and (pe_ix (ix_tupK K) (pv 0) pe_int (fun _ _ => rfl)) (pe_ix (ix_tupK K) (pv 1) pe_int (fun _ _ => rfl))) pa_nil)) (nomark _)))), ?_⟩
  have l1 : r.x &&& t.z < 64 := and_lt64 (le64 hm h1.x)
  have l2 : r.z &&& t.x < 64 := and_lt64 (le64 hm h1.z)
  refine ⟨_, rfl, a, _, _, _, rfl, rfl, sqT hA, rfl, _, rfl, b, _, _, _, rfl, rfl, sqT hB, rfl, _, _, rfl, rfl, r.x &&& t.z, by show [V.int (Builtin.bitAnd (r.x : Int) (t.z : Int))] = _; rw [bAnd], l1, fun H1 s1 => ?_⟩
  refine ⟨_, rfl, a, _, _, _, rfl, rfl, sqT (s1 _ _ hA), rfl, _, rfl, b, _, _, _, rfl, rfl, sqT (s1 _ _ hB), rfl, _, _, rfl, rfl, r.z &&& t.x, by show [V.int (Builtin.bitAnd (r.z : Int) (t.x : Int))] = _; rw [bAnd], l2, fun H2 s2 => ⟨rfl, ?_⟩⟩
  have e := odd_eq (par (r.x &&& t.z)) (par (r.z &&& t.x))
  rw [agr_par] at e
  have := k H2 (s1.trans s2)
  rw [← e] at this
  exact this
/- _law_is_table: 0:_law_table 1:_law_coins 2:_law_row 3:_law_j 4:_law_k -/
noncomputable abbrev s_law_is_table : Stmt := top 59
theorem sc_law_is_table : FnScope ["_law_table", "_law_coins", "_law_row", "_law_j", "_law_k"] ["_law_table"] (defScope s_law_is_table) := ⟨rfl, rfl, rfl, by decide +kernel, rfl, by decide +kernel, by decide +kernel⟩
theorem ok_istab (T : Blt mg) (D : Def K mg "_law_is_table" s_law_is_table ["_law_table"]) (C_law_odd : Cal P w K mg base CX0 1 "_law_odd" ["_law_number"] sp_odd) (C_law_agree : Cal P w K mg base CX0 2 "_law_agree" ["_law_one", "_law_two"] (sp_lagree K)) : Cal P w K mg base CX0 3 "_law_is_table" ["_law_table"] (sp_istab K) := by
  refine D.ok sc_law_is_table (fun vs H Q E h => ?_) (fun f cdv A outer s H vs Q E hr h => ?_)
  · obtain ⟨a, as, rs, rfl, _⟩ := h; rfl
  obtain ⟨a, as, rs, rfl, hS, hR, hl, k⟩ := h
  refine ⟨_, (pss_cons (ps_set (i := 1) sc_law_is_table.nd rfl (Or.inl rfl) (pe_op op_fdivB (pe_callB (call_lenK K) (by rfl) T.n_len bt_len (pa_cons (pv 0) pa_nil)) pe_int))
      (pss_cons (ps_if (pt_cmpR (op_notInK K) (pe_callB (call_lenK K) (by rfl) T.n_len bt_len (pa_cons (pv 0) pa_nil)) (pe_lst (pa_cons pe_int (pa_cons pe_int (pa_cons pe_int (pa_cons pe_int (pa_cons pe_int (pa_cons pe_int pa_nil))))))) rfl)
        (pss_one (ps_ret pe_bl))
        pss_nil)
      (pss_cons (ps_for PassesOwn.never rfl (pi_listK K (pv 0)) (pg_name (i := 2) sc_law_is_table.nd rfl (Or.inl rfl))
        (pss_cons (ps_if (PW.pt (pw_or (PW.pt (pw_and (pt_cmpR op_ne (pe_ix (ix_tupK K) (pv 2) pe_int (fun _ _ => rfl)) pe_int (nomark _)) (pw_and1 (pt_cmpR op_ne (pe_ix (ix_tupK K) (pv 2) pe_int (fun _ _ => rfl)) (pe_un un_neg pe_int) (nomark _))))) (pw_or (pt_cmpR op_ne (pe_op op_shr (pe_ix (ix_tupK K) (pv 2) pe_int (fun _ _ => rfl)) (pv 1)) pe_int (nomark _)) (pw_or1 (pt_cmpR op_ne (pe_op op_shr (pe_ix (ix_tupK K) (pv 2) pe_int (fun _ _ => rfl)) (pv 1)) pe_int (nomark _))))))
          (pss_one (ps_ret pe_bl))
          pss_nil)
        (pss_one (ps_if (pt_cmpR op_eq (pe_cal C_law_odd hr.sub (pa_cons (pe_op op_and (pe_ix (ix_tupK K) (pv 2) pe_int (fun _ _ => rfl)) (pe_ix (ix_tupK K) (pv 2) pe_int (fun _ _ => rfl))) pa_nil)) pe_int (nomark _))
          (pss_one (ps_ret pe_bl))
          pss_nil))))
      (pss_cons (ps_for PassesOwn.never rfl (pi_range1 rfl T.n_range (pa_cons (pe_callB (call_lenK K) (by rfl) T.n_len bt_len (pa_cons (pv 0) pa_nil)) pa_nil)) (pg_name (i := 3) sc_law_is_table.nd rfl (Or.inl rfl))
        (pss_one (ps_for PassesOwn.never rfl (pi_range1 rfl T.n_range (pa_cons (pv 3) pa_nil)) (pg_name (i := 4) sc_law_is_table.nd rfl (Or.inl rfl))
          (pss_one (ps_if (pt_cmpR op_eq (pe_cal C_law_agree hr.sub (pa_cons (pe_ix (ix_listK K) (pv 0) (pv 4) (fun _ _ => rfl)) (pa_cons (pe_ix (ix_listK K) (pv 0) (pv 3) (fun _ _ => rfl)) pa_nil))) (pe_cmpR op_eq (pe_op op_sub (pv 3) (pv 4)) (pv 1) (nomark _)) (nomark _))
            (pss_one (ps_ret pe_bl))
            pss_nil)))))
      (pss_one (ps_ret pe_bl)))))), ?_⟩
  have eL : ((rV as).length : Int) = (rs.length : Int) := by rw [rV, List.length_map, hR.l]
  obtain ⟨m, hm⟩ : ∃ m : Nat, m = rs.length / 2 := ⟨_, rfl⟩
  have efd : ((rV as).length : Int).fdiv 2 = (m : Int) := by rw [eL, Int.fdiv_eq_ediv_of_nonneg _ (by decide)]; omega
  have hin := in12 rs.length
  rw [← hm] at hin
  have no : ¬ (rs.length = 2 * m ∧ 1 ≤ m ∧ m ≤ 6) → ¬ Tab rs := fun h ht => by
    obtain ⟨m', h1, h2, h3⟩ := ht
    have := h3.l
    exact h ⟨by omega, by omega, by omega⟩
  have fls : ∀ {H'}, Same H H' → ¬ Tab rs → Q (.bl false) H' := fun s' h => k false ⟨fun z => (by cases z), fun z => absurd z h⟩ _ s'
  refine ⟨_, rfl, a, _, rfl, .inl hS, _, _, rfl, rfl, cdB (by decide) (by decide), ?_⟩
  dsimp only
  rw [efd]
  refine ⟨_, rfl, a, _, rfl, .inl hS, line6 (by show 6 ≤ 1000; decide), fun u nu => ?_⟩
  have s1 := Same.new (o := .lst (zV [2, 4, 6, 8, 10, 12])) nu
  refine ⟨u, _, rfl, .inl (.of upd_same), rfl, rfl, _, rfl, ?_⟩
  rw [eL]
  refine ite2 (fun hc => ?_) (fun hc => ?_)
  · refine fls s1 (no fun z => ?_)
    have hc' : (!inV (.int (rs.length : Int)) (zV [2, 4, 6, 8, 10, 12])) = true := hc
    rw [hin.mpr z] at hc'
    cases hc'
  obtain ⟨c1, c2, c3⟩ := hin.mp (by
    cases e : inV (.int (rs.length : Int)) (zV [2, 4, 6, 8, 10, 12]) with
    | true => rfl
    | false => exact absurd (show (!inV (.int (rs.length : Int)) (zV [2, 4, 6, 8, 10, 12])) = true by rw [e]; rfl) hc)
  clear hc hin no hm
  refine ⟨_, rfl, a, rfl, ⟨_, s1.seq hS⟩, for_list (K := K) (a := a) (xs := rV as) (fun i σ H' => ∃ v2 : Option V, σ = [some (.ref a), some (.int m), v2, none, none] ∧ Same H H' ∧ ∀ j r, j < i → rs[j]? = some r → r.ok m ∧ evn r = true) ⟨_, rfl, s1, fun j r hj => absurd hj (Nat.not_lt_zero j)⟩ (fun i σ H' _ ⟨_, _, s', _⟩ => s'.seq hS) ?_ ?_⟩
  · rintro i x σ H' hi ⟨v, rfl, s', hw⟩
    obtain ⟨b, hb, rfl⟩ := rs_get hi
    obtain ⟨r, hr1, er⟩ := hR.g i b hb
    have er' := s' _ _ er
    have bad : ¬ (r.ok m ∧ evn r = true) → ¬ Tab rs := fun h ht => h (Tb.well (tab_m ht c1) r (List.mem_of_getElem? hr1))
    have d1 := shr_zero (n := r.x) (m := m)
    have d2 := shr_zero (n := r.z) (m := m)
    refine ⟨_, rfl, b, _, _, _, rfl, rfl, sqT er', rfl, rfl, _, rfl, ?_⟩
    by_cases hs : one r.sg
    rotate_left
    · have h1 : r.sg ≠ 1 := fun z => hs (.inl z)
      have h2 : r.sg ≠ -1 := fun z => hs (.inr z)
      refine iteB (by rw [decide_eq_false (fun z => h1 (by injection z))]; rfl) ⟨_, rfl, b, _, _, _, rfl, rfl, sqT er', rfl, _, rfl, rfl, _, rfl, iteB (by rw [decide_eq_false (fun z => h2 (by injection z))]; rfl) (iteT ?_)⟩
      exact fls s' (bad fun z => hs z.1.s)
    refine Join0 (G := ?G2) (fun rest2 => ?b) ?c
    case b =>
      rcases hs with e | e
      · refine iteBN (by rw [e]; decide) (iteF ?_)
        exact rest2
      · refine iteB (by rw [e]; decide) ⟨_, rfl, b, _, _, _, rfl, rfl, sqT er', rfl, _, rfl, rfl, _, rfl, iteBN (by rw [e]; decide) ?_⟩
        exact rest2
    case c =>
    refine ⟨_, rfl, b, _, _, _, rfl, rfl, sqT er', rfl, _, rfl, _, _, rfl, rfl, Int.natCast_nonneg _, rfl, _, rfl, ?_⟩
    by_cases hx : r.x < 2 ^ m
    rotate_left
    · refine iteB (by show (!decide (V.int ((r.x : Int) / 2 ^ (m : Int).toNat) = V.int 0)) = true; rw [d1, decide_eq_false hx]; rfl) ?_
      exact fls s' (bad fun z => hx z.1.x)
    refine iteBN (by show (!decide (V.int ((r.x : Int) / 2 ^ (m : Int).toNat) = V.int 0)) = false; rw [d1, decide_eq_true hx]; rfl) ?_
    refine ⟨_, rfl, b, _, _, _, rfl, rfl, sqT er', rfl, _, rfl, _, _, rfl, rfl, Int.natCast_nonneg _, rfl, _, rfl, ?_⟩
    by_cases hz : r.z < 2 ^ m
    rotate_left
    · refine iteB (by show (!decide (V.int ((r.z : Int) / 2 ^ (m : Int).toNat) = V.int 0)) = true; rw [d2, decide_eq_false hz]; rfl) ?_
      exact fls s' (bad fun z => hz z.1.z)
    refine iteBN (by show (!decide (V.int ((r.z : Int) / 2 ^ (m : Int).toNat) = V.int 0)) = false; rw [d2, decide_eq_true hz]; rfl) ?_
    have rok : r.ok m := ⟨hs, hx, hz⟩
    have l1 : r.x &&& r.z < 64 := and_lt64 (le64 c3 rok.x)
    refine ⟨_, rfl, b, _, _, _, rfl, rfl, sqT er', rfl, _, rfl, b, _, _, _, rfl, rfl, sqT er', rfl, _, _, rfl, rfl, r.x &&& r.z, by show [V.int (Builtin.bitAnd (r.x : Int) (r.z : Int))] = _; rw [bAnd], l1, fun H2 s2 => ⟨rfl, _, rfl, ?_⟩⟩
    have u2 := s'.trans s2
    cases hp : par (r.x &&& r.z) with
    | true =>
      refine iteB (by decide) (fls u2 (bad fun z => ?_))
      have := z.2
      unfold evn at this
      rw [hp] at this
      cases this
    | false =>
      refine iteBN (by decide) ⟨_, rfl, u2, fun j r' hj hj' => ?_⟩
      rcases Nat.lt_or_ge j i with h | h
      · exact hw j r' h hj'
      · have : j = i := by omega
        subst this
        rw [hr1] at hj'
        cases hj'
        exact ⟨rok, by unfold evn; rw [hp]; rfl⟩
  rintro σ H2 ⟨v2, rfl, s2, hw⟩
  have hW : Well m rs := fun r hr => by
    obtain ⟨j, hj⟩ := List.mem_iff_getElem?.mp hr
    exact hw j r (by rw [rV, List.length_map, hR.l]; exact (List.getElem?_eq_some_iff.mp hj).1) hj
  have hRs : Rws H m as rs := hR.ok fun r hr => (hW r hr).1
  have hok : ∀ i, i < 2 * m → (ra rs i).ok m := fun i hi => (hW _ (List.mem_of_getElem? (ra_get (by rw [c1]; exact hi)))).1
  have off : ∀ {p q : Nat}, p < q → q < 2 * m → sy (ra rs p) (ra rs q) ≠ decide (q = p + m) → ¬ Tab rs := fun hpq hq h ht => h ((tab_m ht c1).ag _ _ hpq hq)
  refine ⟨_, rfl, a, _, rfl, .inl (s2.seq hS), (rs.length : Int), by rw [eL], by omega, by omega, for_range (lo := 0) (n := (rs.length : Int).toNat) (fun i σ H' => ∃ v3 v4 : Option V, σ = [some (.ref a), some (.int m), v2, v3, v4] ∧ Same H H' ∧ ∀ p q, p < q → q < i → sy (ra rs p) (ra rs q) = decide (q = p + m)) ⟨_, _, rfl, s2, fun p q _ hq => absurd hq (Nat.not_lt_zero q)⟩ ?_ ?_⟩
  · rintro i σ H3 hi ⟨v3, v4, rfl, s3, hg⟩
    rw [Int.toNat_natCast] at hi
    rw [Int.zero_add]
    refine ⟨_, rfl, (i : Int), rfl, by omega, by omega, for_range (lo := 0) (n := (i : Int).toNat) (fun j σ H'' => ∃ v4 : Option V, σ = [some (.ref a), some (.int m), v2, some (.int i), v4] ∧ Same H H'' ∧ ∀ p, p < j → sy (ra rs p) (ra rs i) = decide (i = p + m)) ⟨_, rfl, s3, fun p hp => absurd hp (Nat.not_lt_zero p)⟩ ?_ ?_⟩
    · rintro j σ H4 hj ⟨v4, rfl, s4, hg2⟩
      have hj' : j < i := by omega
      rw [Int.zero_add]
      obtain ⟨b, hb, eb⟩ := rows_at hRs (i := j) (by omega)
      obtain ⟨c, hc, ec⟩ := rows_at hRs (i := i) (by omega)
      refine ⟨_, rfl, _, rfl, a, _, _, _, rfl, rfl, s4.seq hS, hb, _, rfl, _, rfl, a, _, _, _, rfl, rfl, s4.seq hS, hc, b, c, ra rs j, ra rs i, m, rfl, s4 _ _ eb, s4 _ _ ec, c3, hok j (by omega), hok i (by omega), fun H5 s5 => ?_⟩
      have ee : decide (V.bl (agr (ra rs j) (ra rs i)) = V.bl (decide (V.int ((i : Int) - (j : Int)) = V.int (m : Int)))) = !decide (sy (ra rs j) (ra rs i) = decide (i = j + m)) := by
        rw [agr_sy, dec_bl, dec_int]
        by_cases e : i = j + m
        · subst e
          have : (((j + m : Nat) : Int) - (j : Int) == (m : Int)) = true := by simp; omega
          rw [this]
          cases sy (ra rs j) (ra rs (j + m)) <;> simp
        · have : ((i : Int) - (j : Int) == (m : Int)) = false := by simp; omega
          rw [this, decide_eq_false e]
          cases sy (ra rs j) (ra rs i) <;> simp
      refine ⟨_, rfl, _, rfl, _, _, rfl, rfl, _, rfl, rfl, rfl, _, rfl, ?_⟩
      have u5 := s4.trans s5
      by_cases hgood : sy (ra rs j) (ra rs i) = decide (i = j + m)
      · refine iteBN (ee.trans (by rw [decide_eq_true hgood]; rfl)) ⟨_, rfl, u5, fun p hp => ?_⟩
        rcases Nat.lt_or_ge p j with h | h
        · exact hg2 p h
        · have : p = j := by omega
          subst this
          exact hgood
      · exact iteB (ee.trans (by rw [decide_eq_false hgood]; rfl)) (fls u5 (off hj' (by omega) hgood))
    · rintro σ H4 ⟨v4, rfl, s4, hg2⟩
      refine ⟨_, _, rfl, s4, fun p q hpq hq => ?_⟩
      rcases Nat.lt_or_ge q i with h | h
      · exact hg p q hpq h
      · have : q = i := by omega
        subst this
        exact hg2 p (by omega)
  · rintro σ H3 ⟨v3, v4, rfl, s3, hg⟩
    exact k true ⟨fun _ => ⟨m, c2, c3, tb_of c1 hW fun p q hpq hq => hg p q hpq (by rw [Int.toNat_natCast]; omega)⟩, fun _ => rfl⟩ H3 s3
end
end K55

set_option maxHeartbeats 4000000
namespace K55
open PySem L2 TC
noncomputable def sp_badrow : Sp := fun vs H Q _ => ∃ (g : Addr) (r : Rw) (c : Int) (m : Nat), vs = [.ref g, .int c, .int m] ∧ H g = some (.tup r.vals) ∧ 0 ≤ c ∧ 1 ≤ m ∧ m ≤ 6 ∧ ∀ q r' H', Same H H' → H q = none → H' q = some (.tup (Rw.vals r')) → Q (.ref q) H'
noncomputable def sp_spoil (K : PySem.W.Frag) : Sp := fun vs H Q _ => ∃ (a : Addr) (as : List Addr) (rs : List Rw) (c : Int) (m : Nat), vs = [.ref a, .int c, .int m] ∧ SqL K H a (rV as) ∧ Rwa H as rs ∧ rs.length = 2 * m ∧ 0 ≤ c ∧ 1 ≤ m ∧ m ≤ 6 ∧ ∀ q bs qs H', Same H H' → H' q = some (.lst (rV bs)) → Rwa H' bs qs → qs.length ≤ 200 → Q (.ref q) H'
theorem sgn3 (c : Int) : ∃ d : Int, atI [V.int 0, .int 2, .int (-2)] (c % 3) = some (.int d) := by
  have a := em_nn c (m := 3) (by decide)
  have b := em_lt c (m := 3) (by decide)
  have : c % 3 = 0 ∨ c % 3 = 1 ∨ c % 3 = 2 := by omega
  rcases this with e | e | e <;> rw [e]
  · exact ⟨0, rfl⟩
  · exact ⟨2, rfl⟩
  · exact ⟨-2, rfl⟩
theorem cpj {j : Nat} (h : j ≤ 1000) : CPow 1 (j : Int) := ⟨Int.natCast_nonneg _, by omega, by decide⟩
theorem cutT (xs : List V) (n : Nat) : cutV xs none (some (n : Int)) = xs.take n := by
  unfold cutV
  have e1 : HT.sIx xs.length 0 none = 0 := by unfold HT.sIx; rfl
  have e2 : HT.sIx xs.length xs.length (some (n : Int)) = min n xs.length := by unfold HT.sIx; simp; omega
  rw [e1, e2, List.drop_zero, Nat.sub_zero]
  rcases Nat.le_total n xs.length with h | h
  · rw [Nat.min_eq_left h]
  · rw [Nat.min_eq_right h, List.take_length, List.take_of_length_le h]
theorem cutD (xs : List V) (n : Nat) (h : n ≤ xs.length) : cutV xs (some (n : Int)) none = xs.drop n := by
  unfold cutV
  have e1 : HT.sIx xs.length 0 (some (n : Int)) = n := by unfold HT.sIx; simp; split <;> omega
  have e2 : HT.sIx xs.length xs.length none = xs.length := by unfold HT.sIx; rfl
  rw [e1, e2]
  exact List.take_of_length_le (by rw [List.length_drop]; exact Nat.le_refl _)
theorem Rwa.cat {H : Hp} {as bs : List Addr} {rs qs : List Rw} (h : Rwa H as rs) (h' : Rwa H bs qs) : Rwa H (as ++ bs) (rs ++ qs) := by
  refine ⟨by rw [List.length_append, List.length_append, h.l, h'.l], fun i a e => ?_⟩
  rcases Nat.lt_or_ge i as.length with hi | hi
  · rw [List.getElem?_append_left hi] at e
    rw [List.getElem?_append_left (by rw [← h.l]; exact hi)]
    exact h.g i a e
  · rw [List.getElem?_append_right hi] at e
    rw [List.getElem?_append_right (by rw [← h.l]; exact hi), ← h.l]
    exact h'.g _ a e
theorem Rwa.tk {H : Hp} {as : List Addr} {rs : List Rw} (h : Rwa H as rs) (n : Nat) : Rwa H (as.take n) (rs.take n) := by
  refine ⟨by rw [List.length_take, List.length_take, h.l], fun i a e => ?_⟩
  rw [List.getElem?_take] at e ⊢
  split at e
  · rename_i hi
    rw [if_pos hi]
    exact h.g i a e
  · cases e
theorem Rwa.dp {H : Hp} {as : List Addr} {rs : List Rw} (h : Rwa H as rs) (n : Nat) : Rwa H (as.drop n) (rs.drop n) := by
  refine ⟨by rw [List.length_drop, List.length_drop, h.l], fun i a e => ?_⟩
  rw [List.getElem?_drop] at e ⊢
  exact h.g _ a e
theorem Rwa.put {H : Hp} {as : List Addr} {rs : List Rw} (h : Rwa H as rs) {b : Addr} {r : Rw} (eb : H b = some (.tup r.vals)) (j : Nat) : Rwa H (as.set j b) (rs.set j r) := by
  refine ⟨by rw [List.length_set, List.length_set, h.l], fun i a e => ?_⟩
  by_cases hj : j = i
  · subst hj
    have hl : j < as.length := by have := (List.getElem?_eq_some_iff.mp e).1; rw [List.length_set] at this; exact this
    rw [List.getElem?_set_self hl] at e
    cases e
    exact ⟨r, by rw [List.getElem?_set_self (by rw [← h.l]; exact hl)], eb⟩
  · rw [List.getElem?_set_ne hj] at e
    obtain ⟨r', h1, h2⟩ := h.g i a e
    exact ⟨r', by rw [List.getElem?_set_ne hj]; exact h1, h2⟩
theorem Rwa.upd {H : Hp} {as : List Addr} {rs : List Rw} {l : Addr} {xs : List V} {o : HO} (h : Rwa H as rs) (el : H l = some (.lst xs)) : Rwa (upd H l o) as rs := ⟨h.l, fun i a e => by
  obtain ⟨r, h1, h2⟩ := h.g i a e
  exact ⟨r, h1, by rw [upd_ne (ne_of h2 el (fun z => nomatch z))]; exact h2⟩⟩
theorem Rwa.at {H : Hp} {as : List Addr} {rs : List Rw} (h : Rwa H as rs) {i : Nat} (hi : i < as.length) : ∃ b r, as[i]? = some b ∧ atI (rV as) (i : Int) = some (.ref b) ∧ H b = some (.tup (Rw.vals r)) := by
  obtain ⟨r, _, h2⟩ := h.g i as[i] (List.getElem?_eq_getElem hi)
  exact ⟨as[i], r, List.getElem?_eq_getElem hi, atI_nat (by rw [rV, List.getElem?_map, List.getElem?_eq_getElem hi]; rfl), h2⟩
section
variable {P : Program} {w : World} {K : PySem.W.Frag} {mg : Str → Option Value} {base : Heap}
/- _law_bad_row: 0:_law_row 1:_law_cell_here 2:_law_coins 3:_law_kind 4:_law_sign 5:_law_xs 6:_law_zs -/
noncomputable abbrev s_law_bad_row : Stmt := top 56
theorem sc_law_bad_row : FnScope ["_law_row", "_law_cell_here", "_law_coins", "_law_kind", "_law_sign", "_law_xs", "_law_zs"] ["_law_row", "_law_cell_here", "_law_coins"] (defScope s_law_bad_row) := ⟨rfl, rfl, rfl, by decide +kernel, rfl, by decide +kernel, by decide +kernel⟩
theorem ok_badrow (T : Blt mg) (D : Def K mg "_law_bad_row" s_law_bad_row ["_law_row", "_law_cell_here", "_law_coins"]) : Cal P w K mg base CX0 1 "_law_bad_row" ["_law_row", "_law_cell_here", "_law_coins"] sp_badrow := by
  refine D.ok sc_law_bad_row (fun vs H Q E h => ?_) (fun f cdv A outer s H vs Q E hr h => ?_)
  · obtain ⟨g, r, c, m, rfl, _⟩ := h; rfl
  obtain ⟨g, r, c, m, rfl, hG, c0, m1, m6, k⟩ := h
  refine ⟨_, (pss_cons (ps_asg (pv 0) (pg_tupK K rfl (pgs_cons (pg_name (i := 4) sc_law_bad_row.nd rfl (Or.inl rfl)) (pgs_cons (pg_name (i := 5) sc_law_bad_row.nd rfl (Or.inl rfl)) (pgs_cons (pg_name (i := 6) sc_law_bad_row.nd rfl (Or.inl rfl)) pgs_nil)))))
      (pss_cons (ps_set (i := 3) sc_law_bad_row.nd rfl (Or.inl rfl) (pe_op op_mod (pv 1) pe_int))
      (pss_cons (ps_if (pt_cmpR op_eq (pv 3) pe_int (nomark _))
        (pss_one (ps_ret (pe_tup (pa_cons (pe_ix (ix_listK K) (pe_lst (pa_cons pe_int (pa_cons pe_int (pa_cons (pe_un un_neg pe_int) pa_nil)))) (pe_op op_mod (pe_op op_fdivB (pv 1) pe_int) pe_int) (fun _ _ => rfl)) (pa_cons (pv 5) (pa_cons (pv 6) pa_nil))))))
        pss_nil)
      (pss_cons (ps_if (pt_cmpR op_eq (pv 3) pe_int (nomark _))
        (pss_one (ps_ret (pe_tup (pa_cons (pv 4) (pa_cons (pe_op op_or (pv 5) (pe_op op_shl pe_int (pe_op op_add (pv 2) (pe_op op_mod (pe_op op_fdivB (pv 1) pe_int) pe_int)))) (pa_cons (pv 6) pa_nil))))))
        pss_nil)
      (pss_cons (ps_if (pt_cmpR op_eq (pv 3) pe_int (nomark _))
        (pss_one (ps_ret (pe_tup (pa_cons (pv 4) (pa_cons (pv 5) (pa_cons (pe_op op_or (pv 6) (pe_op op_shl pe_int (pe_op op_add (pv 2) (pe_op op_mod (pe_op op_fdivB (pv 1) pe_int) pe_int)))) pa_nil))))))
        pss_nil)
      (pss_one (ps_ret (pe_tup (pa_cons (pv 4) (pa_cons (pe_op op_shl pe_int (pe_op op_mod (pe_op op_fdivB (pv 1) pe_int) (pv 2))) (pa_cons (pe_op op_shl pe_int (pe_op op_mod (pe_op op_fdivB (pv 1) pe_int) (pv 2))) pa_nil))))))))))), ?_⟩
  refine ⟨_, rfl, g, _, rfl, sqT hG, rfl, _, _, rfl, _, _, rfl, _, _, rfl, rfl, ?_⟩
  refine ⟨_, rfl, _, _, rfl, rfl, (by show (0 : Int) < _; decide), ?_⟩
  have f4 : c.fdiv 4 = c / 4 := fd_pos c0 (by decide)
  have f0 : 0 ≤ c.fdiv 4 := by rw [f4]; omega
  obtain ⟨j, hj, hj6⟩ : ∃ j : Nat, (m : Int) + c.fdiv 4 % 30 = (j : Int) ∧ j ≤ 1000 := by
    have a := em_nn (c.fdiv 4) (m := 30) (by decide)
    have b := em_lt (c.fdiv 4) (m := 30) (by decide)
    exact ⟨((m : Int) + c.fdiv 4 % 30).toNat, by omega, by omega⟩
  obtain ⟨i, hi, hi6⟩ : ∃ i : Nat, c.fdiv 4 % (m : Int) = (i : Int) ∧ i ≤ 1000 := by
    have a := em_nn (c.fdiv 4) (m := (m : Int)) (by omega)
    have b := em_lt (c.fdiv 4) (m := (m : Int)) (by omega)
    exact ⟨(c.fdiv 4 % (m : Int)).toNat, by omega, by omega⟩
  refine ⟨_, rfl, rfl, _, rfl, ite2 (fun _ => ?_) (fun _ => ?_)⟩
  · obtain ⟨d, hd⟩ := sgn3 (c.fdiv 4)
    refine ⟨_, rfl, line6 (by show 3 ≤ 1000; decide), fun u nu => ?_⟩
    refine ⟨_, rfl, _, _, rfl, rfl, cdB (by decide) (by decide), _, _, rfl, rfl, (by show (0 : Int) < _; decide), u, _, _, _, rfl, rfl, .of upd_same, hd, _, rfl, _, rfl, line6 (by show 3 ≤ 1000; decide), fun q nq => ?_⟩
    exact k q ⟨d, r.x, r.z⟩ _ ((Same.new nu).trans (Same.new nq)) ((Same.new (o := .lst [V.int 0, .int 2, .int (-2)]) nu).free nq) upd_same
  refine ⟨_, rfl, rfl, _, rfl, ite2 (fun _ => ?_) (fun _ => ?_)⟩
  · refine ⟨_, rfl, _, rfl, _, rfl, _, rfl, _, _, rfl, rfl, cdB (by decide) (by decide), _, _, rfl, rfl, (by show (0 : Int) < _; decide), _, _, rfl, rfl, _, _, rfl, rfl, (by rw [hj]; exact cpj hj6), _, _, rfl, rfl, _, rfl, line6 (by show 3 ≤ 1000; decide), fun q nq => ?_⟩
    refine k q ⟨r.sg, r.x ||| 2 ^ j, r.z⟩ _ (Same.new nq) nq ?_
    rw [upd_same]
    dsimp only
    rw [hj, shl_is, bOr]; rfl
  refine ⟨_, rfl, rfl, _, rfl, ite2 (fun _ => ?_) (fun _ => ?_)⟩
  · refine ⟨_, rfl, _, rfl, _, rfl, _, rfl, _, rfl, _, _, rfl, rfl, cdB (by decide) (by decide), _, _, rfl, rfl, (by show (0 : Int) < _; decide), _, _, rfl, rfl, _, _, rfl, rfl, (by rw [hj]; exact cpj hj6), _, _, rfl, rfl, line6 (by show 3 ≤ 1000; decide), fun q nq => ?_⟩
    refine k q ⟨r.sg, r.x, r.z ||| 2 ^ j⟩ _ (Same.new nq) nq ?_
    rw [upd_same]
    dsimp only
    rw [hj, shl_is, bOr]; rfl
  refine ⟨_, rfl, _, rfl, _, _, rfl, rfl, cdB (by decide) (by decide), _, rfl, _, _, rfl, rfl, (by show (0 : Int) < (m : Int); omega), _, _, rfl, rfl, (by rw [hi]; exact cpj hi6), _, rfl, _, _, rfl, rfl, cdB (by decide) (by decide), _, rfl, _, _, rfl, rfl, (by show (0 : Int) < (m : Int); omega), _, _, rfl, rfl, (by rw [hi]; exact cpj hi6), line6 (by show 3 ≤ 1000; decide), fun q nq => ?_⟩
  refine k q ⟨r.sg, 2 ^ i, 2 ^ i⟩ _ (Same.new nq) nq ?_
  rw [upd_same]
  dsimp only
  rw [hi, shl_is]; rfl
/- _law_spoiled: 0:_law_table 1:_law_cell_here 2:_law_coins 3:_law_some 4:_law_kind 5:_law_at 6:_law_other -/
noncomputable abbrev s_law_spoiled : Stmt := top 57
theorem sc_law_spoiled : FnScope ["_law_table", "_law_cell_here", "_law_coins", "_law_some", "_law_kind", "_law_at", "_law_other"] ["_law_table", "_law_cell_here", "_law_coins"] (defScope s_law_spoiled) := ⟨rfl, rfl, rfl, by decide +kernel, rfl, by decide +kernel, by decide +kernel⟩
theorem ok_spoil (T : Blt mg) (D : Def K mg "_law_spoiled" s_law_spoiled ["_law_table", "_law_cell_here", "_law_coins"]) (C_law_bad_row : Cal P w K mg base CX0 1 "_law_bad_row" ["_law_row", "_law_cell_here", "_law_coins"] sp_badrow) : Cal P w K mg base CX0 2 "_law_spoiled" ["_law_table", "_law_cell_here", "_law_coins"] (sp_spoil K) := by
  refine D.ok sc_law_spoiled (fun vs H Q E h => ?_) (fun f cdv A outer s H vs Q E hr h => ?_)
  · obtain ⟨a, as, rs, c, m, rfl, _⟩ := h; rfl
  obtain ⟨a, as, rs, c, m, rfl, hS, hR, hrl, c0, m1, m6, k⟩ := h
  refine ⟨_, (pss_cons (ps_set (i := 3) sc_law_spoiled.nd rfl (Or.inl rfl) (pe_callTy (call_listK K) (by rfl) T.n_list bt_list (pa_cons (pv 0) pa_nil)))
      (pss_cons (ps_set (i := 4) sc_law_spoiled.nd rfl (Or.inl rfl) (pe_op op_mod (pv 1) pe_int))
      (pss_cons (ps_set (i := 5) sc_law_spoiled.nd rfl (Or.inl rfl) (pe_op op_mod (pe_op op_fdivB (pv 1) pe_int) (pe_callB (call_lenK K) (by rfl) T.n_len bt_len (pa_cons (pv 0) pa_nil))))
      (pss_cons (ps_set (i := 6) sc_law_spoiled.nd rfl (Or.inl rfl) (pe_op op_mod (pe_op op_fdivB (pv 1) pe_int) (pe_callB (call_lenK K) (by rfl) T.n_len bt_len (pa_cons (pv 0) pa_nil))))
      (pss_cons (ps_if (pt_cmpR op_eq (pv 4) pe_int (nomark _))
        (pss_one (ps_ret (pe_op op_cat (pe_slice (sl_listK K) (pv 3) po_none (po_some (pv 5))) (pe_slice (sl_listK K) (pv 3) (po_some (pe_op op_add (pv 5) pe_int)) po_none))))
        pss_nil)
      (pss_cons (ps_if (pt_cmpR op_eq (pv 4) pe_int (nomark _))
        (pss_one (ps_ret (pe_ix (ix_listK K) (pe_lst (pa_cons (pe_op op_cat (pv 3) (pe_lst (pa_cons (pe_ix (ix_listK K) (pv 3) (pv 5) (fun _ _ => rfl)) pa_nil))) (pa_cons (pe_lst pa_nil) (pa_cons (pe_op op_cat (pv 3) (pv 3)) pa_nil)))) (pe_op op_mod (pe_op op_fdivB (pv 1) pe_int) pe_int) (fun _ _ => rfl))))
        pss_nil)
      (pss_cons (ps_if (pt_cmpR op_lt (pv 4) pe_int (nomark _))
        (pss_one (ps_asg (pe_cal C_law_bad_row hr.sub (pa_cons (pe_ix (ix_listK K) (pv 3) (pv 5) (fun _ _ => rfl)) (pa_cons (pe_op op_fdivB (pv 1) pe_int) (pa_cons (pv 2) pa_nil)))) (pg_sub (pv 3) (pv 5) set_list)))
        pss_nil)
      (pss_cons (ps_if (pt_cmpR op_eq (pv 4) pe_int (nomark _))
        (pss_one (ps_asg (pe_ix (ix_listK K) (pv 3) (pv 6) (fun _ _ => rfl)) (pg_sub (pv 3) (pv 5) set_list)))
        pss_nil)
      (pss_cons (ps_if (pt_cmpR op_eq (pv 4) pe_int (nomark _))
        (pss_one (ps_asg (pe_tup (pa_cons (pe_ix (ix_listK K) (pv 3) (pv 6) (fun _ _ => rfl)) (pa_cons (pe_ix (ix_listK K) (pv 3) (pv 5) (fun _ _ => rfl)) pa_nil))) (pg_tupK K rfl (pgs_cons (pg_sub (pv 3) (pv 5) set_list) (pgs_cons (pg_sub (pv 3) (pv 6) set_list) pgs_nil)))))
        pss_nil)
      (pss_one (ps_ret (pv 3)))))))))))), ?_⟩
  have hal : as.length = 2 * m := by rw [hR.l, hrl]
  have eL : ((rV as).length : Int) = ((2 * m : Nat) : Int) := by rw [rV, List.length_map, hal]
  have pick : ∀ d : Int, ∃ x : Nat, d % ((2 * m : Nat) : Int) = (x : Int) ∧ x < 2 * m := fun d => by
    have a := em_nn d (m := ((2 * m : Nat) : Int)) (by omega)
    have b := em_lt d (m := ((2 * m : Nat) : Int)) (by omega)
    exact ⟨(d % ((2 * m : Nat) : Int)).toNat, by omega, by omega⟩
  refine ⟨_, rfl, a, _, rfl, .inl hS, fun l nl => ?_⟩
  have s1 := Same.new (o := .lst (rV as)) nl
  have el : upd H l (.lst (rV as)) l = some (.lst (rV as)) := upd_same
  have hR1 := hR.same s1
  dsimp only [gName]
  generalize upd H l (.lst (rV as)) = H1 at s1 el hR1 ⊢
  refine ⟨_, rfl, _, _, rfl, rfl, (by show (0 : Int) < _; decide), ?_⟩
  refine ⟨_, rfl, _, _, rfl, rfl, cdB (by decide) (by decide), _, rfl, a, _, rfl, .inl (s1.seq hS), _, _, rfl, rfl, (by show (0 : Int) < ((rV as).length : Int); rw [eL]; omega), ?_⟩
  refine ⟨_, rfl, _, _, rfl, rfl, cdB (by decide) (by decide), _, rfl, a, _, rfl, .inl (s1.seq hS), _, _, rfl, rfl, (by show (0 : Int) < ((rV as).length : Int); rw [eL]; omega), ?_⟩
  dsimp only [gName]
  rw [eL]
  obtain ⟨x, hx, hxl⟩ := pick (c.fdiv 8)
  obtain ⟨y, hy, hyl⟩ := pick (c.fdiv 800)
  rw [hx, hy]
  obtain ⟨bx, rx, hbx, hbx2, ebx⟩ := hR1.at (i := x) (by omega)
  have lA : (rV as).length = 2 * m := by rw [rV, List.length_map, hal]
  refine ⟨_, rfl, rfl, _, rfl, ite2 (fun _ => ?_) (fun _ => ?_)⟩
  · refine ⟨_, rfl, _, rfl, (x : Int), rfl, l, _, rfl, .of el, fun d1 nd1 => ?_⟩
    rw [cutT]
    have s2 := Same.new (o := .lst ((rV as).take x)) nd1
    have e1 : upd H1 d1 (.lst ((rV as).take x)) d1 = some (.lst ((rV as).take x)) := upd_same
    have el2 := s2 _ _ el
    have u2 := s1.trans s2
    have hR2 := hR1.same s2
    generalize upd H1 d1 (.lst ((rV as).take x)) = H2 at e1 el2 u2 hR2 ⊢
    refine ⟨_, rfl, _, rfl, _, _, rfl, rfl, (x + 1 : Nat), by rw [Int.natCast_add]; rfl, l, _, rfl, .of el2, fun d2 nd2 => ?_⟩
    rw [cutD _ _ (by omega)]
    have s3 := Same.new (o := .lst ((rV as).drop (x + 1))) nd2
    refine ⟨d1, d2, _, _, rfl, rfl, s3 _ _ e1, upd_same, line6 (by rw [List.length_drop, List.length_take]; omega), fun q nq => ?_⟩
    have s4 := Same.new (o := .lst ((rV as).take x ++ (rV as).drop (x + 1))) nq
    refine k q (as.take x ++ as.drop (x + 1)) (rs.take x ++ rs.drop (x + 1)) _ ((u2.trans s3).trans s4) ?_ (((hR2.same s3).same s4).tk x |>.cat (((hR2.same s3).same s4).dp (x + 1))) ?_
    · rw [upd_same, rV, rV, List.map_append, List.map_take, List.map_drop]
    · rw [List.length_append, List.length_take, List.length_drop]; omega
  refine ⟨_, rfl, rfl, _, rfl, ite2 (fun _ => ?_) (fun _ => ?_)⟩
  · refine ⟨_, rfl, _, rfl, _, rfl, l, _, _, _, rfl, rfl, .of el, hbx2, line6 (by show 1 ≤ 1000; decide), fun u nu => ?_⟩
    have s2 := Same.new (o := .lst [V.ref bx]) nu
    have eu : upd H1 u (.lst [V.ref bx]) u = some (.lst [V.ref bx]) := upd_same
    have u2 := s1.trans s2
    have el2 := s2 _ _ el
    have hR2 := hR1.same s2
    have ebx2 := s2 _ _ ebx
    generalize upd H1 u (.lst [V.ref bx]) = H2 at eu u2 el2 hR2 ebx2 ⊢
    refine ⟨l, u, _, _, rfl, rfl, el2, eu, line6 (by rw [lA]; show _ + 1 ≤ _; omega), fun p np => ?_⟩
    have s3 := Same.new (o := .lst (rV as ++ [V.ref bx])) np
    have ep : upd H2 p (.lst (rV as ++ [V.ref bx])) p = some (.lst (rV (as ++ [bx]))) := by rw [upd_same, rV, rV, List.map_append]; rfl
    have u3 := u2.trans s3
    have el3 := s3 _ _ el2
    have hR3 := hR2.same s3
    have ebx3 := s3 _ _ ebx2
    generalize upd H2 p (.lst (rV as ++ [V.ref bx])) = H3 at ep u3 el3 hR3 ebx3 ⊢
    refine ⟨line6 (by show 0 ≤ 1000; decide), fun v nv => ?_⟩
    have s4 := Same.new (o := .lst []) nv
    have ev : upd H3 v (.lst []) v = some (.lst (rV [])) := upd_same
    have u4 := u3.trans s4
    have el4 := s4 _ _ el3
    have ep := s4 _ _ ep
    have hR4 := hR3.same s4
    have ebx4 := s4 _ _ ebx3
    generalize upd H3 v (.lst []) = H4 at ep ev u4 el4 hR4 ebx4 ⊢
    refine ⟨_, rfl, _, rfl, l, l, _, _, rfl, rfl, el4, el4, line6 (by rw [lA]; omega), fun w' nw => ?_⟩
    have s5 := Same.new (o := .lst (rV as ++ rV as)) nw
    have ew : upd H4 w' (.lst (rV as ++ rV as)) w' = some (.lst (rV (as ++ as))) := by rw [upd_same, rV, rV, List.map_append]
    have u5 := u4.trans s5
    have ep := s5 _ _ ep
    have ev := s5 _ _ ev
    have hR5 := hR4.same s5
    have ebx5 := s5 _ _ ebx4
    generalize upd H4 w' (.lst (rV as ++ rV as)) = H5 at ep ev ew u5 hR5 ebx5 ⊢
    refine ⟨line6 (by show 3 ≤ 1000; decide), fun z nz => ?_⟩
    have s6 := Same.new (o := .lst [V.ref p, .ref v, .ref w']) nz
    have i0 := em_nn (c.fdiv 100) (m := 3) (by decide)
    have i1 := em_lt (c.fdiv 100) (m := 3) (by decide)
    have fin : ∀ (t : Addr) (bs : List Addr) (qs : List Rw), H5 t = some (.lst (rV bs)) → Rwa H5 bs qs → qs.length ≤ 200 → Q (.ref t) (upd H5 z (.lst [V.ref p, .ref v, .ref w'])) := fun t bs qs e1 e2 e3 => k t bs qs _ (u5.trans s6) (s6 _ _ e1) (e2.same s6) e3
    have three : c.fdiv 100 % 3 = 0 ∨ c.fdiv 100 % 3 = 1 ∨ c.fdiv 100 % 3 = 2 := by omega
    have one1 : Rwa H5 [bx] [rx] := ⟨rfl, fun i b e => by
      match i, e with
      | 0, e => cases e; exact ⟨rx, rfl, ebx5⟩
      | i + 1, e => cases e⟩
    obtain ⟨t, ht, hq⟩ : ∃ t, atI [V.ref p, .ref v, .ref w'] (c.fdiv 100 % 3) = some (.ref t) ∧ Q (.ref t) (upd H5 z (.lst [V.ref p, .ref v, .ref w'])) := by
      rcases three with e | e | e <;> rw [e]
      · exact ⟨p, rfl, fin p (as ++ [bx]) (rs ++ [rx]) ep (hR5.cat one1) (by rw [List.length_append, hrl]; show _ + 1 ≤ _; omega)⟩
      · exact ⟨v, rfl, fin v [] [] ev ⟨rfl, fun i b e => by cases e⟩ (Nat.zero_le _)⟩
      · exact ⟨w', rfl, fin w' (as ++ as) (rs ++ rs) ew (hR5.cat hR5) (by rw [List.length_append, hrl]; omega)⟩
    exact ⟨_, rfl, _, _, rfl, rfl, cdB (by decide) (by decide), _, _, rfl, rfl, (by show (0 : Int) < _; decide), z, _, _, _, rfl, rfl, .of upd_same, ht, hq⟩
  have ixx : ∀ {bs : List Addr} {j : Nat}, bs.length = 2 * m → j < 2 * m → ixN (rV bs).length (j : Int) = some j := fun hb hj => by unfold ixN; rw [if_pos (by omega), if_pos (by rw [rV, List.length_map]; omega)]; rfl
  refine ⟨_, rfl, _, _, rfl, rfl, _, rfl, ?_⟩
  refine JoinP (ι := Hp) (C := fun H' => ∃ (bs : List Addr) (qs : List Rw), Same H H' ∧ H' l = some (.lst (rV bs)) ∧ Rwa H' bs qs ∧ bs.length = 2 * m) (G := ?G) (fun rest => ite2 (fun _ => ?ja) (fun _ => ?jb)) ?jk
  case ja =>
    have f0 : 0 ≤ c.fdiv 97 := by rw [fd_pos c0 (by decide)]; omega
    refine ⟨_, rfl, _, rfl, l, _, _, _, rfl, rfl, .of el, hbx2, _, rfl, _, _, rfl, rfl, cdB (by decide) (by decide), _, rfl, bx, rx, c.fdiv 97, m, rfl, ebx, f0, m1, m6, fun q r' H2 s2 nq eq => ?_⟩
    have el2 := s2 _ _ el
    refine ⟨_, rfl, _, rfl, l, _, (x : Int), x, rfl, rfl, el2, ixx hal hxl, ?_⟩
    have u3 : Same H (upd H2 l (.lst ((rV as).set x (.ref q)))) := (s1.trans s2).upd nl
    have e3 : upd H2 l (.lst ((rV as).set x (.ref q))) l = some (.lst (rV (as.set x q))) := by rw [upd_same, rV, rV, List.map_set]
    have hR3 : Rwa (upd H2 l (.lst ((rV as).set x (.ref q)))) (as.set x q) (rs.set x r') := ((hR1.same s2).put eq x).upd el2
    generalize upd H2 l (.lst ((rV as).set x (.ref q))) = H3 at u3 e3 hR3 ⊢
    exact rest H3 ⟨_, _, u3, e3, hR3, by rw [List.length_set, hal]⟩
  case jb => exact rest H1 ⟨as, rs, s1, el, hR1, hal⟩
  case jk =>
  clear hbx hbx2 ebx el hR1 s1
  rintro H3 ⟨bs, qs, u3, el, hR3, hbl⟩
  obtain ⟨bx, rx, _, hbx2, ebx⟩ := hR3.at (i := x) (by omega)
  obtain ⟨by', ry, _, hby2, eby⟩ := hR3.at (i := y) (by omega)
  refine ⟨_, rfl, rfl, _, rfl, ?_⟩
  refine JoinP (ι := Hp) (C := fun H' => ∃ (bs : List Addr) (qs : List Rw), Same H H' ∧ H' l = some (.lst (rV bs)) ∧ Rwa H' bs qs ∧ bs.length = 2 * m) (G := ?G2) (fun rest => ite2 (fun _ => ?ja2) (fun _ => ?jb2)) ?jk2
  case ja2 =>
    refine ⟨_, rfl, _, rfl, l, _, _, _, rfl, rfl, .of el, hby2, ?_⟩
    refine ⟨_, rfl, _, rfl, l, _, (x : Int), x, rfl, rfl, el, ixx hbl hxl, ?_⟩
    have u4 : Same H (upd H3 l (.lst ((rV bs).set x (.ref by')))) := u3.upd nl
    have e4 : upd H3 l (.lst ((rV bs).set x (.ref by'))) l = some (.lst (rV (bs.set x by'))) := by rw [upd_same, rV, rV, List.map_set]
    have hR4 : Rwa (upd H3 l (.lst ((rV bs).set x (.ref by')))) (bs.set x by') (qs.set x ry) := (hR3.put eby x).upd el
    generalize upd H3 l (.lst ((rV bs).set x (.ref by'))) = H4 at u4 e4 hR4 ⊢
    exact rest H4 ⟨_, _, u4, e4, hR4, by rw [List.length_set, hbl]⟩
  case jb2 => exact rest H3 ⟨bs, qs, u3, el, hR3, hbl⟩
  case jk2 =>
  clear hbx2 ebx hby2 eby el hR3 u3 hbl
  rintro H3 ⟨bs, qs, u3, el, hR3, hbl⟩
  obtain ⟨bx, rx, _, hbx2, ebx⟩ := hR3.at (i := x) (by omega)
  obtain ⟨by', ry, _, hby2, eby⟩ := hR3.at (i := y) (by omega)
  refine ⟨_, rfl, rfl, _, rfl, ite2 (fun _ => ?_) (fun _ => ?_)⟩
  · refine ⟨_, rfl, _, rfl, l, _, _, _, rfl, rfl, .of el, hby2, _, rfl, _, rfl, l, _, _, _, rfl, rfl, .of el, hbx2, line6 (by show 2 ≤ 1000; decide), fun t nt => ?_⟩
    have s4 := Same.new (o := .tup [V.ref by', .ref bx]) nt
    have et : upd H3 t (.tup [V.ref by', .ref bx]) t = some (.tup [V.ref by', .ref bx]) := upd_same
    have el4 := s4 _ _ el
    have hR4 := hR3.same s4
    have u4 := u3.trans s4
    have ebx := s4 _ _ ebx
    have eby := s4 _ _ eby
    generalize upd H3 t (.tup [V.ref by', .ref bx]) = H4 at et el4 hR4 u4 ebx eby ⊢
    refine ⟨t, _, rfl, sqT et, rfl, _, _, rfl, _, rfl, _, rfl, l, _, (x : Int), x, rfl, rfl, el4, ixx hbl hxl, ?_⟩
    have u5 : Same H (upd H4 l (.lst ((rV bs).set x (.ref by')))) := u4.upd nl
    have e5 : upd H4 l (.lst ((rV bs).set x (.ref by'))) l = some (.lst (rV (bs.set x by'))) := by rw [upd_same, rV, rV, List.map_set]
    have hR5 : Rwa (upd H4 l (.lst ((rV bs).set x (.ref by')))) (bs.set x by') (qs.set x ry) := (hR4.put eby x).upd el4
    have ebx5 : upd H4 l (.lst ((rV bs).set x (.ref by'))) bx = some (.tup rx.vals) := by rw [upd_ne (ne_of ebx el4 (fun z => nomatch z))]; exact ebx
    generalize upd H4 l (.lst ((rV bs).set x (.ref by'))) = H5 at u5 e5 hR5 ebx5 ⊢
    have hb5 : (bs.set x by').length = 2 * m := by rw [List.length_set, hbl]
    refine ⟨_, _, rfl, _, rfl, _, rfl, l, _, (y : Int), y, rfl, rfl, e5, ixx hb5 hyl, rfl, ?_⟩
    refine ⟨_, rfl, k l ((bs.set x by').set y bx) ((qs.set x ry).set y rx) _ (u5.upd nl) (by rw [upd_same]; simp only [rV, List.map_set]) ((hR5.put ebx5 y).upd e5) ?_⟩
    rw [List.length_set, List.length_set, ← hR3.l, hbl]; omega
  · exact ⟨_, rfl, k l bs qs H3 u3 el hR3 (by rw [← hR3.l, hbl]; omega)⟩
end
end K55

set_option maxHeartbeats 4000000
namespace K55
open PySem L2 TC
noncomputable def sp_caught (K : PySem.W.Frag) (nT : Addr) : Sp := fun vs H Q _ => ∃ (a : Addr) (as : List Addr) (rs : List Rw), vs = [.ref a] ∧ SqL K H a (rV as) ∧ Rwa H as rs ∧ rs.length ≤ 200 ∧ ((Tab rs ∧ ∀ H', Same H H' → Q .non H') ∨ (¬ Tab rs ∧ ∀ e H', Same H H' → H' e = some (excO e (.ref nT)) → Q (.ref e) H'))
noncomputable def sp_ref (nT : Addr) : Sp := fun vs H Q _ => ∃ (e : Addr), vs = [.ref e] ∧ H e = some (excO e (.ref nT)) ∧ ∀ H', Same H H' → Q (.bl true) H'
structure On (K : PySem.W.Frag) (n c1 c2 c3 c4 c5 c6 c7 c8 c9 c10 c11 : Addr) : Prop where
  x : XCls K n
  v : PySem.W.subIn K (.ref n) (.type "ValueError") = some true
  o1 : PySem.W.subIn K (.ref n) (.ref c1) = some false
  o2 : PySem.W.subIn K (.ref n) (.ref c2) = some false
  o3 : PySem.W.subIn K (.ref n) (.ref c3) = some false
  o4 : PySem.W.subIn K (.ref n) (.ref c4) = some false
  o5 : PySem.W.subIn K (.ref n) (.ref c5) = some false
  o6 : PySem.W.subIn K (.ref n) (.ref c6) = some false
  o7 : PySem.W.subIn K (.ref n) (.ref c7) = some false
  o8 : PySem.W.subIn K (.ref n) (.ref c8) = some false
  o9 : PySem.W.subIn K (.ref n) (.ref c9) = some false
  o10 : PySem.W.subIn K (.ref n) (.ref c10) = some false
  o11 : PySem.W.subIn K (.ref n) (.ref c11) = some false
noncomputable def sp_law (K : PySem.W.Frag) : Sp := fun vs H Q _ => ∃ (a : Addr) (ns : List Int), vs = [.ref a] ∧ SqL K H a (zV ns) ∧ ns.length ≤ 63 ∧ ∀ H', Q (.bl true) H'
section
variable {P : Program} {w : World} {K : PySem.W.Frag} {mg : Str → Option Value} {base : Heap} {nT cE c1 c2 c3 c4 c5 c6 c7 c8 c9 c10 c11 : Addr}
theorem same_alike {H : Hp} {as : List Addr} : ∀ (j : Nat) x y, (rV as)[j]? = some x → (rV as)[j]? = some y → Al2 K H x y := fun j x y hx hy => by
  rw [hx] at hy
  cases hy
  obtain ⟨a, ha, rfl⟩ := rs_get hx
  exact .of (.of (.ref a))
/- _law_caught: 0:_law_table 1:_law_caught_here 2:e -/
noncomputable abbrev s_law_caught : Stmt := top 60
theorem sc_law_caught : FnScope ["_law_table", "_law_caught_here", "e"] ["_law_table"] (defScope s_law_caught) := ⟨rfl, rfl, rfl, by decide +kernel, rfl, by decide +kernel, by decide +kernel⟩
theorem ok_caught (T : Blt mg) (GE : GCls K mg "CoinError" cE) (cb : PySem.W.subIn K (.ref cE) (.type "BaseException") = some true) (ec : PySem.W.subIn K (.ref nT) (.ref cE) = some true) (D : Def K mg "_law_caught" s_law_caught ["_law_table"])
    (C_gates_of : Cal P w K mg base CX0 6 "gates_of" ["table"] (sp_gatesof K)) (C_gates_ofX : Cal P w K mg base (CX1 P w) 5 "gates_of" ["table"] (sp_tabX K nT)) :
    Cal P w K mg base CX0 7 "_law_caught" ["_law_table"] (sp_caught K nT) := by
  refine D.ok sc_law_caught (fun vs H Q E h => ?_) (fun f cdv A outer s H vs Q E hr h => ?_)
  · obtain ⟨a, as, rs, rfl, _⟩ := h; rfl
  obtain ⟨a, as, rs, rfl, hA, hR, hl, h⟩ := h
  rcases h with ⟨⟨m, m1, m6, hT⟩, k⟩ | ⟨hbad, k⟩
  · refine ⟨_, (pss_cons (ps_set (i := 1) sc_law_caught.nd rfl (Or.inl rfl) pe_non)
      (pss_cons (ps_try (i := 2) rfl ⟨rfl, rfl⟩ sc_law_caught.nd rfl rfl rfl GE.m (fun pn xe E R => (pss_one (ps_expr (pe_cal C_gates_of hr.sub (pa_cons (pv 0) pa_nil)))))
        (fun e => (pss_one (ps_set (i := 1) sc_law_caught.nd rfl (Or.inl rfl) (pv 2)))))
      (pss_one (ps_ret (pv 1))))), ?_⟩
    refine ⟨_, rfl, a, as, rs, m, rfl, hA, hR.ok fun r hr => (Tb.well hT r hr).1, hT, m1, m6, fun q qs gs H1 s1 nq eq hG hgl hmv => ?_⟩
    exact ⟨_, rfl, k H1 s1⟩
  · have hr' : Room 5 (A.deeper (PyProof.Rows.envOfC "_law_caught" (defScope s_law_caught) s.heap.objs.size f cdv)) := hr.sub
    refine ⟨_, (pss_cons (ps_set (i := 1) sc_law_caught.nd rfl (Or.inl rfl) pe_non)
      (pss_cons (ps_try (i := 2) rfl ⟨rfl, rfl⟩ sc_law_caught.nd rfl rfl rfl GE.m (fun pn xe E R => (pss_one (ps_expr (pe_calX C_gates_ofX hr.sub R (pa_cons (pv 0) pa_nil)))))
        (fun e => (pss_one (ps_set (i := 1) sc_law_caught.nd rfl (Or.inl rfl) (pv 2)))))
      (pss_one (ps_ret (pv 1))))), ?_⟩
    refine ⟨_, rfl, a, as, rs, rfl, hA, hR, hl, hbad, fun H1 s1 => ⟨exm_of cb GE.cl ec, fun e ne => ?_⟩⟩
    exact ⟨_, rfl, _, rfl, k e _ (s1.trans (Same.new ne)) upd_same⟩
/- _law_refused: 0:_law_caught_here -/
noncomputable abbrev s_law_refused : Stmt := top 61
theorem sc_law_refused : FnScope ["_law_caught_here"] ["_law_caught_here"] (defScope s_law_refused) := ⟨rfl, rfl, rfl, by decide +kernel, rfl, by decide +kernel, by decide +kernel⟩
theorem ok_ref (T : Blt mg) (GT : GCls K mg "NoTable" nT) (G1 : GCls K mg "NoGate" c1) (G2 : GCls K mg "NoList" c2) (G3 : GCls K mg "NoLook" c3) (G4 : GCls K mg "NoRows" c4) (G5 : GCls K mg "NoShort" c5) (G6 : GCls K mg "NotFree" c6) (G7 : GCls K mg "NoCode" c7) (G8 : GCls K mg "CantMend" c8) (G9 : GCls K mg "NoText" c9) (G10 : GCls K mg "NoName" c10) (G11 : GCls K mg "NoLine" c11)
    (O : On K nT c1 c2 c3 c4 c5 c6 c7 c8 c9 c10 c11) (D : Def K mg "_law_refused" s_law_refused ["_law_caught_here"]) : Cal P w K mg base CX0 1 "_law_refused" ["_law_caught_here"] (sp_ref nT) := by
  refine D.ok sc_law_refused (fun vs H Q E h => ?_) (fun f cdv A outer s H vs Q E hr h => ?_)
  · obtain ⟨e, rfl, _⟩ := h; rfl
  obtain ⟨e, rfl, ee, k⟩ := h
  have ty : TyX K H (.ref e) (.ref nT) := .exc ee O.x.c
  have ks := O.x.self
  refine ⟨_, (pss_cons (ps_if (PW.pt (pw_or (pt_not (pt_val (pe_callB (call_isiK K) (by rfl) T.n_isinstance bt_isinstance (pa_cons (pv 0) (pa_cons (pe_gR GT.m) pa_nil))))) (pw_or (pt_not (pt_val (pe_callB (call_isiK K) (by rfl) T.n_isinstance bt_isinstance (pa_cons (pv 0) (pa_cons (pe_bT T.n_ValueError bt_ValueError) pa_nil))))) (pw_or1 (pt_val (pe_callB (call_isiK K) (by rfl) T.n_isinstance bt_isinstance (pa_cons (pv 0) (pa_cons (pe_gR G1.m) pa_nil))))))))
        (pss_one (ps_ret pe_bl))
        pss_nil)
      (pss_cons (ps_if (PW.pt (pw_or (pt_val (pe_callB (call_isiK K) (by rfl) T.n_isinstance bt_isinstance (pa_cons (pv 0) (pa_cons (pe_gR G2.m) pa_nil)))) (pw_or (pt_val (pe_callB (call_isiK K) (by rfl) T.n_isinstance bt_isinstance (pa_cons (pv 0) (pa_cons (pe_gR G3.m) pa_nil)))) (pw_or1 (pt_val (pe_callB (call_isiK K) (by rfl) T.n_isinstance bt_isinstance (pa_cons (pv 0) (pa_cons (pe_gR G4.m) pa_nil))))))))
        (pss_one (ps_ret pe_bl))
        pss_nil)
      (pss_cons (ps_if (PW.pt (pw_or (pt_val (pe_callB (call_isiK K) (by rfl) T.n_isinstance bt_isinstance (pa_cons (pv 0) (pa_cons (pe_gR G5.m) pa_nil)))) (pw_or (pt_val (pe_callB (call_isiK K) (by rfl) T.n_isinstance bt_isinstance (pa_cons (pv 0) (pa_cons (pe_gR G6.m) pa_nil)))) (pw_or1 (pt_val (pe_callB (call_isiK K) (by rfl) T.n_isinstance bt_isinstance (pa_cons (pv 0) (pa_cons (pe_gR G7.m) pa_nil))))))))
        (pss_one (ps_ret pe_bl))
        pss_nil)
      (pss_cons (ps_if (PW.pt (pw_or (pt_val (pe_callB (call_isiK K) (by rfl) T.n_isinstance bt_isinstance (pa_cons (pv 0) (pa_cons (pe_gR G8.m) pa_nil)))) (pw_or (pt_val (pe_callB (call_isiK K) (by rfl) T.n_isinstance bt_isinstance (pa_cons (pv 0) (pa_cons (pe_gR G9.m) pa_nil)))) (pw_or1 (pt_val (pe_callB (call_isiK K) (by rfl) T.n_isinstance bt_isinstance (pa_cons (pv 0) (pa_cons (pe_gR G10.m) pa_nil))))))))
        (pss_one (ps_ret pe_bl))
        pss_nil)
      (pss_one (ps_ret (pe_not (pe_callB (call_isiK K) (by rfl) T.n_isinstance bt_isinstance (pa_cons (pv 0) (pa_cons (pe_gR G11.m) pa_nil)))))))))), ?_⟩
  refine ⟨_, rfl, _, _, _, _, _, rfl, rfl, ty, kit_of ks GT.cl ks, _, rfl, iteF ?_⟩
  refine ⟨_, rfl, _, _, _, _, _, rfl, rfl, ty, kit_ty rfl O.v, _, rfl, iteF ?_⟩
  refine ⟨_, rfl, _, _, _, _, _, rfl, rfl, ty, kit_of ks G1.cl O.o1, _, rfl, iteF ?_⟩
  refine ⟨_, rfl, _, _, _, _, _, rfl, rfl, ty, kit_of ks G2.cl O.o2, _, rfl, iteF ?_⟩
  refine ⟨_, rfl, _, _, _, _, _, rfl, rfl, ty, kit_of ks G3.cl O.o3, _, rfl, iteF ?_⟩
  refine ⟨_, rfl, _, _, _, _, _, rfl, rfl, ty, kit_of ks G4.cl O.o4, _, rfl, iteF ?_⟩
  refine ⟨_, rfl, _, _, _, _, _, rfl, rfl, ty, kit_of ks G5.cl O.o5, _, rfl, iteF ?_⟩
  refine ⟨_, rfl, _, _, _, _, _, rfl, rfl, ty, kit_of ks G6.cl O.o6, _, rfl, iteF ?_⟩
  refine ⟨_, rfl, _, _, _, _, _, rfl, rfl, ty, kit_of ks G7.cl O.o7, _, rfl, iteF ?_⟩
  refine ⟨_, rfl, _, _, _, _, _, rfl, rfl, ty, kit_of ks G8.cl O.o8, _, rfl, iteF ?_⟩
  refine ⟨_, rfl, _, _, _, _, _, rfl, rfl, ty, kit_of ks G9.cl O.o9, _, rfl, iteF ?_⟩
  refine ⟨_, rfl, _, _, _, _, _, rfl, rfl, ty, kit_of ks G10.cl O.o10, _, rfl, iteF ?_⟩
  exact ⟨_, rfl, _, _, _, _, _, rfl, rfl, ty, kit_of ks G11.cl O.o11, _, rfl, k H (.refl H)⟩
/- law: 0:_law_script 1:_law_coins 2:_law_gates 3:_law_table 4:_law_some 5:_law_handed 6:_law_turn 7:_law_caught_here -/
noncomputable abbrev s_law : Stmt := top 62
theorem sc_law : FnScope ["_law_script", "_law_coins", "_law_gates", "_law_table", "_law_some", "_law_handed", "_law_turn", "_law_caught_here"] ["_law_script"] (defScope s_law) := ⟨rfl, rfl, rfl, by decide +kernel, rfl, by decide +kernel, by decide +kernel⟩
theorem ok_law (T : Blt mg) (n_min : mg "min" = none) (n_max : mg "max" = none) {f : Addr} {fd : FuncData} (F : Fun K "law" "law" s_law f fd) (C_law_cell : Cal P w K mg base CX0 2 "_law_cell" ["_law_script", "_law_k"] (sp_cell K)) (C_law_gate : Cal P w K mg base CX0 3 "_law_gate" ["_law_cell_here", "_law_coins"] sp_lgate)
    (C_images : Cal P w K mg base CX0 6 "images" ["coins", "gates"] (sp_images K)) (C_law_spoiled : Cal P w K mg base CX0 2 "_law_spoiled" ["_law_table", "_law_cell_here", "_law_coins"] (sp_spoil K)) (C_law_caught : Cal P w K mg base CX0 7 "_law_caught" ["_law_table"] (sp_caught K nT)) (C_law_is_table : Cal P w K mg base CX0 3 "_law_is_table" ["_law_table"] (sp_istab K)) (C_law_refused : Cal P w K mg base CX0 1 "_law_refused" ["_law_caught_here"] (sp_ref nT)) :
    FnOk P w K mg base CX0 8 f fd ["_law_script"] (sp_law K) := by
  refine F.ok sc_law (fun vs H Q E h => ?_) (fun cdv A outer s H vs Q E hr h => ?_)
  · obtain ⟨a, ns, rfl, _⟩ := h; rfl
  obtain ⟨a, ss, rfl, hS, hl, k⟩ := h
  refine ⟨_, (pss_cons (ps_set (i := 1) sc_law.nd rfl (Or.inr rfl) (pe_op op_add pe_int (pe_op op_mod (pe_cal C_law_cell hr.sub (pa_cons (pv 0) (pa_cons pe_int pa_nil))) pe_int)))
      (pss_cons (ps_setC (i := 2) rfl sc_law.nd rfl rfl (cs (N := ["_law_script", "_law_coins", "_law_gates", "_law_table", "_law_some", "_law_handed", "_law_turn", "_law_caught_here"]) (osc := defScope s_law) (by decide +kernel)) (pi_range1 rfl T.n_range (pa_cons (pe_callB (call_min2 rfl) (by rfl) n_min bt_min (pa_cons pe_int (pa_cons (pe_callB (call_max2 rfl) (by rfl) n_max bt_max (pa_cons pe_int (pa_cons (pe_op op_sub (pe_callB (call_lenK K) (by rfl) T.n_len bt_len (pa_cons (pv 0) pa_nil)) pe_int) pa_nil))) pa_nil))) pa_nil)) (fun _ _ _ _ => pifs_nil) (fun _ _ _ _ => (pe_cal C_law_gate hr.sub (pa_cons (pe_cal C_law_cell hr.sub (pa_cons (pv 1) (pa_cons (pe_op op_add pe_int (pv 0)) pa_nil))) (pa_cons (pv 2) pa_nil)))))
      (pss_cons (ps_set (i := 3) sc_law.nd rfl (Or.inl rfl) (pe_cal C_images hr.sub (pa_cons (pv 1) (pa_cons (pv 2) pa_nil))))
      (pss_cons (ps_set (i := 4) sc_law.nd rfl (Or.inl rfl) (pe_cal C_law_spoiled hr.sub (pa_cons (pv 3) (pa_cons (pe_cal C_law_cell hr.sub (pa_cons (pv 0) (pa_cons pe_int pa_nil))) (pa_cons (pv 1) pa_nil)))))
      (pss_cons (ps_set (i := 5) sc_law.nd rfl (Or.inl rfl) (pe_callTy (call_listK K) (by rfl) T.n_list bt_list (pa_cons (pv 4) pa_nil)))
      (pss_cons (ps_for PassesOwn.never rfl (pi_range1 rfl T.n_range (pa_cons pe_int pa_nil)) (pg_name (i := 6) sc_law.nd rfl (Or.inl rfl))
        (pss_cons (ps_set (i := 7) sc_law.nd rfl (Or.inl rfl) (pe_cal C_law_caught hr.sub (pa_cons (pv 5) pa_nil)))
        (pss_cons (ps_if (PW.pt (pw_or (pt_cmpR (op_neAltK K hr.units1) (pv 5) (pv 4) (nomark _)) (pw_or1 (pt_cmpR op_ne (pe_cmpR op_isN (pv 7) pe_non (nomark _)) (pe_cal C_law_is_table hr.sub (pa_cons (pv 4) pa_nil)) (nomark _)))))
          (pss_one (ps_ret pe_bl))
          pss_nil)
        (pss_one (ps_if (PW.pt (pw_and (pt_cmpR op_notN (pv 7) pe_non (nomark _)) (pw_and1 (pt_not (pt_val (pe_cal C_law_refused hr.sub (pa_cons (pv 7) pa_nil)))))))
          (pss_one (ps_ret pe_bl))
          pss_nil)))))
      (pss_one (ps_ret (pe_cmpR op_isN (pe_cal C_law_caught hr.sub (pa_cons (pe_callTy (call_listK K) (by rfl) T.n_list bt_list (pa_cons (pv 3) pa_nil)) pa_nil)) pe_non (nomark _)))))))))), ?_⟩
  refine ⟨_, rfl, a, ss, 0, rfl, hS, hl, by omega, fun c1 c10 H1 s1 => ?_⟩
  have a0 := em_nn c1 (m := 6) (by decide)
  have a1 := em_lt c1 (m := 6) (by decide)
  obtain ⟨m, hm, m1, m6⟩ : ∃ m : Nat, 1 + c1 % 6 = (m : Int) ∧ 1 ≤ m ∧ m ≤ 6 := ⟨(1 + c1 % 6).toNat, by omega, by omega, by omega⟩
  refine ⟨_, _, rfl, rfl, (by show (0 : Int) < _; decide), _, _, rfl, rfl, ?_⟩
  dsimp only [gName]
  rw [hm]
  refine ⟨_, rfl, a, _, rfl, .inl (s1.seq hS), _, _, rfl, rfl, _, _, rfl, _, _, rfl, ?_⟩
  obtain ⟨n, hn, n0⟩ : ∃ n : Int, (if (if ((zV ss).length : Int) - 3 > 2 then ((zV ss).length : Int) - 3 else 2) < 30 then (if ((zV ss).length : Int) - 3 > 2 then ((zV ss).length : Int) - 3 else 2) else 30) = n ∧ (0 ≤ n ∧ n ≤ 30) := by
    refine ⟨_, rfl, ?_⟩
    split <;> split <;> omega
  refine ⟨n, by rw [hn], by omega, by omega, ?_⟩
  obtain ⟨n, rfl⟩ : ∃ k : Nat, n = (k : Int) := ⟨n.toNat, by omega⟩
  rw [Int.toNat_natCast]
  refine comp_rangeP (fun i ys H' => ∃ (as : List Addr) (gs : List Gt), ys = rV as ∧ as.length = i ∧ Same H1 H' ∧ Gts H' m as gs) ⟨[], [], rfl, rfl, .refl H1, .nil⟩ (fun i ys H' _ ⟨as, gs, e1, e2, _⟩ => by rw [e1, rV, List.length_map, e2]) (line6 (by omega)) ?_ ?_
  · rintro i ys H' Q' hi ⟨as, gs, rfl, hil, s', G⟩ q'
    rw [Int.zero_add]
    refine ⟨_, rfl, _, rfl, _, _, rfl, rfl, a, ss, 3 + i, by show [V.ref a, V.int (3 + (i : Int))] ++ [] = _; rw [Int.natCast_add]; rfl, (s1.trans s').seq hS, hl, by omega, fun ce ce0 H3 s3 => ?_⟩
    refine ⟨_, rfl, ce, m, rfl, ce0, m1, m6, fun g H4 gt s4 ng eg hok => q' _ _ ?_⟩
    exact ⟨as ++ [g], gs ++ [gt], by rw [rV, rV, List.map_append]; rfl, by rw [List.length_append, hil]; rfl, (s'.trans s3).trans s4, ((G.same s3).same s4).app (Gts.one eg hok)⟩
  rintro ys H3 aG ⟨as, gs, rfl, hasl, s3, G⟩ nG
  have t3 := (s1.trans s3).trans (Same.new (o := .lst (rV as)) nG)
  have eG : upd H3 aG (.lst (rV as)) aG = some (.lst (rV as)) := upd_same
  have G := G.same (Same.new (o := .lst (rV as)) nG)
  show tSeq _ _ _ _ (upd H3 aG (.lst (rV as)))
  generalize upd H3 aG (.lst (rV as)) = H4 at t3 eG G ⊢
  refine ⟨_, rfl, _, rfl, aG, as, gs, m, rfl, .of eG, G, m1, m6, fun tb qs H5 s5 ntb etb R => ?_⟩
  have hTi : Tb m ((lets m).map (mvs gs)) := (lets_tb m6).mvs m6 G.all
  generalize (lets m).map (mvs gs) = im at R hTi
  have t5 := t3.trans s5
  clear eG G s5 nG s3
  refine ⟨_, rfl, _, rfl, a, ss, 1, rfl, t5.seq hS, hl, by omega, fun c2 c20 H6 s6 => ?_⟩
  have R := R.same s6
  have etb := s6 _ _ etb
  refine ⟨_, rfl, tb, qs, im, c2, m, rfl, .of etb, Rws.any R, hTi.l, c20, m1, m6, fun so bs ps H7 s7 eso hRb hpl => ?_⟩
  have R := R.same s7
  have etb := s7 _ _ etb
  refine ⟨_, rfl, so, _, rfl, .inl (.of eso), fun h nh => ?_⟩
  have s8 := Same.new (o := .lst (rV bs)) nh
  have eh : upd H7 h (.lst (rV bs)) h = some (.lst (rV bs)) := upd_same
  have R := R.same s8
  have etb := s8 _ _ etb
  have eso := s8 _ _ eso
  have hRb := hRb.same s8
  dsimp only [gName]
  generalize upd H7 h (.lst (rV bs)) = H8 at eh R etb eso hRb ⊢
  clear s8 nh s7 s6
  refine ⟨2, rfl, by decide, by decide, for_range (lo := 0) (n := (2 : Int).toNat) (fun i σ H' => ∃ (v7 v8 : Option V), σ = [some (.ref a), some (.int m), some (.ref aG), some (.ref tb), some (.ref so), some (.ref h), v7, v8] ∧ Same H8 H') ⟨_, _, rfl, .refl H8⟩ ?_ ?_⟩
  · rintro i σ H9 hi ⟨v7, v8, rfl, s9⟩
    have eh9 := s9 _ _ eh
    have eso9 := s9 _ _ eso
    have hRb9 := hRb.same s9
    have hsame : ∀ {H' : Hp}, Same H9 H' → ∀ (j : Nat) x y, (rV bs)[j]? = some x → (rV bs)[j]? = some y → Al2 K H' x y := fun _ => same_alike
    refine ⟨_, rfl, h, bs, ps, rfl, .of eh9, hRb9, hpl, ?_⟩
    by_cases hT : Tab ps
    · refine .inl ⟨hT, fun H10 s10 => ?_⟩
      refine ⟨_, rfl, _, rfl, h, so, _, _, rfl, rfl, .of (s10 _ _ eh9), .of (s10 _ _ eso9), rfl, hsame s10, _, rfl, iteF ?_⟩
      refine ⟨_, rfl, rfl, _, rfl, so, bs, ps, rfl, .of (s10 _ _ eso9), hRb9.same s10, hpl, fun b hb H11 s11 => ?_⟩
      have hbt : b = true := hb.mpr hT
      subst hbt
      refine ⟨rfl, _, rfl, iteBN (by decide) ?_⟩
      refine ⟨_, rfl, rfl, _, rfl, iteBN (by decide) (iteF ?_)⟩
      exact ⟨_, _, rfl, (s9.trans s10).trans s11⟩
    · refine .inr ⟨hT, fun e H10 s10 ee => ?_⟩
      refine ⟨_, rfl, _, rfl, h, so, _, _, rfl, rfl, .of (s10 _ _ eh9), .of (s10 _ _ eso9), rfl, hsame s10, _, rfl, iteF ?_⟩
      refine ⟨_, rfl, rfl, _, rfl, so, bs, ps, rfl, .of (s10 _ _ eso9), hRb9.same s10, hpl, fun b hb H11 s11 => ?_⟩
      have hbf : b = false := by
        cases b with
        | false => rfl
        | true => exact absurd (hb.mp rfl) hT
      subst hbf
      have he0 : decide (V.ref e = V.non) = false := decide_eq_false fun z => by cases z
      refine ⟨rfl, _, rfl, iteBN (by rw [he0]; decide) ?_⟩
      refine ⟨_, rfl, rfl, _, rfl, iteB (by rw [he0]; rfl) ?_⟩
      refine ⟨_, rfl, e, rfl, s11 _ _ ee, fun H12 s12 => ⟨_, rfl, iteF ?_⟩⟩
      exact ⟨_, _, rfl, ((s9.trans s10).trans s11).trans s12⟩
  · rintro σ H9 ⟨v7, v8, rfl, s9⟩
    have etb9 := s9 _ _ etb
    have R9 := R.same s9
    refine ⟨_, rfl, tb, _, rfl, .inl (.of etb9), fun l nl => ?_⟩
    have s10 := Same.new (o := .lst (rV qs)) nl
    refine ⟨l, qs, im, rfl, .of upd_same, (Rws.any R9).same s10, by rw [hTi.l]; omega, .inl ⟨⟨m, m1, m6, hTi⟩, fun H10 s11 => ?_⟩⟩
    exact ⟨rfl, k H10⟩
end
end K55

set_option maxHeartbeats 4000000
namespace K55
open PySem L2 TC
theorem lenS {us : List Value} {n : Nat} (h : us.length = n + 1) : ∃ x vs, us = x :: vs ∧ vs.length = n := by cases us with | nil => cases h | cons x vs => exact ⟨x, vs, rfl, Nat.succ.inj h⟩
theorem len1 {us : List Value} (h : us.length = 1) : ∃ x0, us = [x0] := by obtain ⟨x0, u0, rfl, h0⟩ := lenS h; have e := List.length_eq_zero_iff.mp h0; subst e; exact ⟨x0, rfl⟩
theorem len2 {us : List Value} (h : us.length = 2) : ∃ x0 x1, us = [x0, x1] := by obtain ⟨x0, u0, rfl, h0⟩ := lenS h; obtain ⟨x1, u1, rfl, h1⟩ := lenS h0; have e := List.length_eq_zero_iff.mp h1; subst e; exact ⟨x0, x1, rfl⟩
theorem len3 {us : List Value} (h : us.length = 3) : ∃ x0 x1 x2, us = [x0, x1, x2] := by obtain ⟨x0, u0, rfl, h0⟩ := lenS h; obtain ⟨x1, u1, rfl, h1⟩ := lenS h0; obtain ⟨x2, u2, rfl, h2⟩ := lenS h1; have e := List.length_eq_zero_iff.mp h2; subst e; exact ⟨x0, x1, x2, rfl⟩
theorem all_mk {l : PySem.W.OpenLaw} {w : World} {K : PySem.W.Frag} {h : Heap} {mg : Str → Option Value} {fa : Addr} (X : K.In h) (G : h.Ns mainGlobals mg) (hfa : mg "law" = some (.ref fa))
    {f0 : Addr} {od0 an0 : Option Addr} {sl0 : Array (Option Value)} {oc0 kV0 dc0 pm0 cd0 ct0 : Value}
    {f1 : Addr} {od1 an1 : Option Addr} {sl1 : Array (Option Value)} {oc1 kV1 dc1 pm1 cd1 ct1 : Value}
    {f2 : Addr} {od2 an2 : Option Addr} {sl2 : Array (Option Value)} {oc2 kV2 dc2 pm2 cd2 ct2 : Value}
    {f3 : Addr} {od3 an3 : Option Addr} {sl3 : Array (Option Value)} {oc3 kV3 dc3 pm3 cd3 ct3 : Value}
    {f4 : Addr} {od4 an4 : Option Addr} {sl4 : Array (Option Value)} {oc4 kV4 dc4 pm4 cd4 ct4 : Value}
    {f5 : Addr} {od5 an5 : Option Addr} {sl5 : Array (Option Value)} {oc5 kV5 dc5 pm5 cd5 ct5 : Value}
    {f6 : Addr} {od6 an6 : Option Addr} {sl6 : Array (Option Value)} {oc6 kV6 dc6 pm6 cd6 ct6 : Value}
    {f7 : Addr} {od7 an7 : Option Addr} {sl7 : Array (Option Value)} {oc7 kV7 dc7 pm7 cd7 ct7 : Value}
    {f8 : Addr} {od8 an8 : Option Addr} {sl8 : Array (Option Value)} {oc8 kV8 dc8 pm8 cd8 ct8 : Value}
    {f9 : Addr} {od9 an9 : Option Addr} {sl9 : Array (Option Value)} {oc9 kV9 dc9 pm9 cd9 ct9 : Value}
    {f10 : Addr} {od10 an10 : Option Addr} {sl10 : Array (Option Value)} {oc10 kV10 dc10 pm10 cd10 ct10 : Value}
    {f11 : Addr} {od11 an11 : Option Addr} {sl11 : Array (Option Value)} {oc11 kV11 dc11 pm11 cd11 ct11 : Value}
    {f12 : Addr} {od12 an12 : Option Addr} {sl12 : Array (Option Value)} {oc12 kV12 dc12 pm12 cd12 ct12 : Value}
    {f13 : Addr} {od13 an13 : Option Addr} {sl13 : Array (Option Value)} {oc13 kV13 dc13 pm13 cd13 ct13 : Value}
    {f14 : Addr} {od14 an14 : Option Addr} {sl14 : Array (Option Value)} {oc14 kV14 dc14 pm14 cd14 ct14 : Value}
    {f15 : Addr} {od15 an15 : Option Addr} {sl15 : Array (Option Value)} {oc15 kV15 dc15 pm15 cd15 ct15 : Value}
    {f16 : Addr} {od16 an16 : Option Addr} {sl16 : Array (Option Value)} {oc16 kV16 dc16 pm16 cd16 ct16 : Value}
    {f17 : Addr} {od17 an17 : Option Addr} {sl17 : Array (Option Value)} {oc17 kV17 dc17 pm17 cd17 ct17 : Value}
    {f18 : Addr} {od18 an18 : Option Addr} {sl18 : Array (Option Value)} {oc18 kV18 dc18 pm18 cd18 ct18 : Value}
    {f19 : Addr} {od19 an19 : Option Addr} {sl19 : Array (Option Value)} {oc19 kV19 dc19 pm19 cd19 ct19 : Value}
    {f20 : Addr} {od20 an20 : Option Addr} {sl20 : Array (Option Value)} {oc20 kV20 dc20 pm20 cd20 ct20 : Value}
    {f21 : Addr} {od21 an21 : Option Addr} {sl21 : Array (Option Value)} {oc21 kV21 dc21 pm21 cd21 ct21 : Value}
    {f22 : Addr} {od22 an22 : Option Addr} {sl22 : Array (Option Value)} {oc22 kV22 dc22 pm22 cd22 ct22 : Value}
    {f23 : Addr} {od23 an23 : Option Addr} {sl23 : Array (Option Value)} {oc23 kV23 dc23 pm23 cd23 ct23 : Value}
    {f24 : Addr} {od24 an24 : Option Addr} {sl24 : Array (Option Value)} {oc24 kV24 dc24 pm24 cd24 ct24 : Value}
    {f25 : Addr} {od25 an25 : Option Addr} {sl25 : Array (Option Value)} {oc25 kV25 dc25 pm25 cd25 ct25 : Value}
    {f26 : Addr} {od26 an26 : Option Addr} {sl26 : Array (Option Value)} {oc26 kV26 dc26 pm26 cd26 ct26 : Value}
    {f27 : Addr} {od27 an27 : Option Addr} {sl27 : Array (Option Value)} {oc27 kV27 dc27 pm27 cd27 ct27 : Value}
    {f28 : Addr} {od28 an28 : Option Addr} {sl28 : Array (Option Value)} {oc28 kV28 dc28 pm28 cd28 ct28 : Value}
    {f29 : Addr} {od29 an29 : Option Addr} {sl29 : Array (Option Value)} {oc29 kV29 dc29 pm29 cd29 ct29 : Value}
    {f30 : Addr} {od30 an30 : Option Addr} {sl30 : Array (Option Value)} {oc30 kV30 dc30 pm30 cd30 ct30 : Value}
    {f31 : Addr} {od31 an31 : Option Addr} {sl31 : Array (Option Value)} {oc31 kV31 dc31 pm31 cd31 ct31 : Value}
    {f32 : Addr} {od32 an32 : Option Addr} {sl32 : Array (Option Value)} {oc32 kV32 dc32 pm32 cd32 ct32 : Value}
    {f33 : Addr} {od33 an33 : Option Addr} {sl33 : Array (Option Value)} {oc33 kV33 dc33 pm33 cd33 ct33 : Value}
    {f34 : Addr} {od34 an34 : Option Addr} {sl34 : Array (Option Value)} {oc34 kV34 dc34 pm34 cd34 ct34 : Value}
    {f35 : Addr} {od35 an35 : Option Addr} {sl35 : Array (Option Value)} {oc35 kV35 dc35 pm35 cd35 ct35 : Value}
    {f36 : Addr} {od36 an36 : Option Addr} {sl36 : Array (Option Value)} {oc36 kV36 dc36 pm36 cd36 ct36 : Value}
    {f37 : Addr} {od37 an37 : Option Addr} {sl37 : Array (Option Value)} {oc37 kV37 dc37 pm37 cd37 ct37 : Value}
    {f38 : Addr} {od38 an38 : Option Addr} {sl38 : Array (Option Value)} {oc38 kV38 dc38 pm38 cd38 ct38 : Value}
    {f39 : Addr} {od39 an39 : Option Addr} {sl39 : Array (Option Value)} {oc39 kV39 dc39 pm39 cd39 ct39 : Value}
    {f40 : Addr} {od40 an40 : Option Addr} {sl40 : Array (Option Value)} {oc40 kV40 dc40 pm40 cd40 ct40 : Value}
    {A_CoinError : Addr} {q_CoinError : ClassData}
    {A_NoTable : Addr} {q_NoTable : ClassData}
    {A_NoGate : Addr} {q_NoGate : ClassData}
    {A_NoList : Addr} {q_NoList : ClassData}
    {A_NoLook : Addr} {q_NoLook : ClassData}
    {A_NoRows : Addr} {q_NoRows : ClassData}
    {A_NoShort : Addr} {q_NoShort : ClassData}
    {A_NotFree : Addr} {q_NotFree : ClassData}
    {A_NoCode : Addr} {q_NoCode : ClassData}
    {A_CantMend : Addr} {q_CantMend : ClassData}
    {A_NoText : Addr} {q_NoText : ClassData}
    {A_NoName : Addr} {q_NoName : ClassData}
    {A_NoLine : Addr} {q_NoLine : ClassData}
    {tmc : Tok}
    {aW1 aW2 : Addr} {odW1 odW2 : Option Addr} {slW1 slW2 : Array (Option Value)} {nW1 nW2 : Nat} {tw1 tw2 tw3 tw4 tw5 tw6 : Tok}
    (a0 : PySem.W.nsIn K mainGlobals "is_coin" = some (some (.ref f0)))
    (l0 : K.lookup f0 = some ⟨oc0, od0, .func (PySem.W.fnOf "is_coin" "is_coin" (defArgs s_is_coin) (defBody s_is_coin) (defScope s_is_coin) .none kV0 dc0 pm0 an0 cd0 ct0), sl0⟩)
    (c0 : PySem.W.codeIn K cd0 "is_coin" = true)
    (k0 : PySem.W.keepIn K (.ref f0) = true)
    (a1 : PySem.W.nsIn K mainGlobals "is_gate" = some (some (.ref f1)))
    (l1 : K.lookup f1 = some ⟨oc1, od1, .func (PySem.W.fnOf "is_gate" "is_gate" (defArgs s_is_gate) (defBody s_is_gate) (defScope s_is_gate) .none kV1 dc1 pm1 an1 cd1 ct1), sl1⟩)
    (c1 : PySem.W.codeIn K cd1 "is_gate" = true)
    (k1 : PySem.W.keepIn K (.ref f1) = true)
    (a2 : PySem.W.nsIn K mainGlobals "check_gates" = some (some (.ref f2)))
    (l2 : K.lookup f2 = some ⟨oc2, od2, .func (PySem.W.fnOf "check_gates" "check_gates" (defArgs s_check_gates) (defBody s_check_gates) (defScope s_check_gates) .none kV2 dc2 pm2 an2 cd2 ct2), sl2⟩)
    (c2 : PySem.W.codeIn K cd2 "check_gates" = true)
    (k2 : PySem.W.keepIn K (.ref f2) = true)
    (a3 : PySem.W.nsIn K mainGlobals "count_bits" = some (some (.ref f3)))
    (l3 : K.lookup f3 = some ⟨oc3, od3, .func (PySem.W.fnOf "count_bits" "count_bits" (defArgs s_count_bits) (defBody s_count_bits) (defScope s_count_bits) .none kV3 dc3 pm3 an3 cd3 ct3), sl3⟩)
    (c3 : PySem.W.codeIn K cd3 "count_bits" = true)
    (k3 : PySem.W.keepIn K (.ref f3) = true)
    (a4 : PySem.W.nsIn K mainGlobals "bit_of" = some (some (.ref f4)))
    (l4 : K.lookup f4 = some ⟨oc4, od4, .func (PySem.W.fnOf "bit_of" "bit_of" (defArgs s_bit_of) (defBody s_bit_of) (defScope s_bit_of) .none kV4 dc4 pm4 an4 cd4 ct4), sl4⟩)
    (c4 : PySem.W.codeIn K cd4 "bit_of" = true)
    (k4 : PySem.W.keepIn K (.ref f4) = true)
    (a5 : PySem.W.nsIn K mainGlobals "with_sign_changed" = some (some (.ref f5)))
    (l5 : K.lookup f5 = some ⟨oc5, od5, .func (PySem.W.fnOf "with_sign_changed" "with_sign_changed" (defArgs s_with_sign_changed) (defBody s_with_sign_changed) (defScope s_with_sign_changed) .none kV5 dc5 pm5 an5 cd5 ct5), sl5⟩)
    (c5 : PySem.W.codeIn K cd5 "with_sign_changed" = true)
    (k5 : PySem.W.keepIn K (.ref f5) = true)
    (a6 : PySem.W.nsIn K mainGlobals "is_row" = some (some (.ref f6)))
    (l6 : K.lookup f6 = some ⟨oc6, od6, .func (PySem.W.fnOf "is_row" "is_row" (defArgs s_is_row) (defBody s_is_row) (defScope s_is_row) .none kV6 dc6 pm6 an6 cd6 ct6), sl6⟩)
    (c6 : PySem.W.codeIn K cd6 "is_row" = true)
    (k6 : PySem.W.keepIn K (.ref f6) = true)
    (a7 : PySem.W.nsIn K mainGlobals "agree" = some (some (.ref f7)))
    (l7 : K.lookup f7 = some ⟨oc7, od7, .func (PySem.W.fnOf "agree" "agree" (defArgs s_agree) (defBody s_agree) (defScope s_agree) .none kV7 dc7 pm7 an7 cd7 ct7), sl7⟩)
    (c7 : PySem.W.codeIn K cd7 "agree" = true)
    (k7 : PySem.W.keepIn K (.ref f7) = true)
    (a8 : PySem.W.nsIn K mainGlobals "is_even" = some (some (.ref f8)))
    (l8 : K.lookup f8 = some ⟨oc8, od8, .func (PySem.W.fnOf "is_even" "is_even" (defArgs s_is_even) (defBody s_is_even) (defScope s_is_even) .none kV8 dc8 pm8 an8 cd8 ct8), sl8⟩)
    (c8 : PySem.W.codeIn K cd8 "is_even" = true)
    (k8 : PySem.W.keepIn K (.ref f8) = true)
    (a9 : PySem.W.nsIn K mainGlobals "moved_by_mix" = some (some (.ref f9)))
    (l9 : K.lookup f9 = some ⟨oc9, od9, .func (PySem.W.fnOf "moved_by_mix" "moved_by_mix" (defArgs s_moved_by_mix) (defBody s_moved_by_mix) (defScope s_moved_by_mix) .none kV9 dc9 pm9 an9 cd9 ct9), sl9⟩)
    (c9 : PySem.W.codeIn K cd9 "moved_by_mix" = true)
    (k9 : PySem.W.keepIn K (.ref f9) = true)
    (a10 : PySem.W.nsIn K mainGlobals "moved_by_flip" = some (some (.ref f10)))
    (l10 : K.lookup f10 = some ⟨oc10, od10, .func (PySem.W.fnOf "moved_by_flip" "moved_by_flip" (defArgs s_moved_by_flip) (defBody s_moved_by_flip) (defScope s_moved_by_flip) .none kV10 dc10 pm10 an10 cd10 ct10), sl10⟩)
    (c10 : PySem.W.codeIn K cd10 "moved_by_flip" = true)
    (k10 : PySem.W.keepIn K (.ref f10) = true)
    (a11 : PySem.W.nsIn K mainGlobals "moved_by_sign" = some (some (.ref f11)))
    (l11 : K.lookup f11 = some ⟨oc11, od11, .func (PySem.W.fnOf "moved_by_sign" "moved_by_sign" (defArgs s_moved_by_sign) (defBody s_moved_by_sign) (defScope s_moved_by_sign) .none kV11 dc11 pm11 an11 cd11 ct11), sl11⟩)
    (c11 : PySem.W.codeIn K cd11 "moved_by_sign" = true)
    (k11 : PySem.W.keepIn K (.ref f11) = true)
    (a12 : PySem.W.nsIn K mainGlobals "moved_by_follow" = some (some (.ref f12)))
    (l12 : K.lookup f12 = some ⟨oc12, od12, .func (PySem.W.fnOf "moved_by_follow" "moved_by_follow" (defArgs s_moved_by_follow) (defBody s_moved_by_follow) (defScope s_moved_by_follow) .none kV12 dc12 pm12 an12 cd12 ct12), sl12⟩)
    (c12 : PySem.W.codeIn K cd12 "moved_by_follow" = true)
    (k12 : PySem.W.keepIn K (.ref f12) = true)
    (a13 : PySem.W.nsIn K mainGlobals "moved_by_meet" = some (some (.ref f13)))
    (l13 : K.lookup f13 = some ⟨oc13, od13, .func (PySem.W.fnOf "moved_by_meet" "moved_by_meet" (defArgs s_moved_by_meet) (defBody s_moved_by_meet) (defScope s_moved_by_meet) .none kV13 dc13 pm13 an13 cd13 ct13), sl13⟩)
    (c13 : PySem.W.codeIn K cd13 "moved_by_meet" = true)
    (k13 : PySem.W.keepIn K (.ref f13) = true)
    (a14 : PySem.W.nsIn K mainGlobals "bits_swapped" = some (some (.ref f14)))
    (l14 : K.lookup f14 = some ⟨oc14, od14, .func (PySem.W.fnOf "bits_swapped" "bits_swapped" (defArgs s_bits_swapped) (defBody s_bits_swapped) (defScope s_bits_swapped) .none kV14 dc14 pm14 an14 cd14 ct14), sl14⟩)
    (c14 : PySem.W.codeIn K cd14 "bits_swapped" = true)
    (k14 : PySem.W.keepIn K (.ref f14) = true)
    (a15 : PySem.W.nsIn K mainGlobals "moved_by_swap" = some (some (.ref f15)))
    (l15 : K.lookup f15 = some ⟨oc15, od15, .func (PySem.W.fnOf "moved_by_swap" "moved_by_swap" (defArgs s_moved_by_swap) (defBody s_moved_by_swap) (defScope s_moved_by_swap) .none kV15 dc15 pm15 an15 cd15 ct15), sl15⟩)
    (c15 : PySem.W.codeIn K cd15 "moved_by_swap" = true)
    (k15 : PySem.W.keepIn K (.ref f15) = true)
    (a16 : PySem.W.nsIn K mainGlobals "row_behind" = some (some (.ref f16)))
    (l16 : K.lookup f16 = some ⟨oc16, od16, .func (PySem.W.fnOf "row_behind" "row_behind" (defArgs s_row_behind) (defBody s_row_behind) (defScope s_row_behind) .none kV16 dc16 pm16 an16 cd16 ct16), sl16⟩)
    (c16 : PySem.W.codeIn K cd16 "row_behind" = true)
    (k16 : PySem.W.keepIn K (.ref f16) = true)
    (a17 : PySem.W.nsIn K mainGlobals "rows_moved" = some (some (.ref f17)))
    (l17 : K.lookup f17 = some ⟨oc17, od17, .func (PySem.W.fnOf "rows_moved" "rows_moved" (defArgs s_rows_moved) (defBody s_rows_moved) (defScope s_rows_moved) .none kV17 dc17 pm17 an17 cd17 ct17), sl17⟩)
    (c17 : PySem.W.codeIn K cd17 "rows_moved" = true)
    (k17 : PySem.W.keepIn K (.ref f17) = true)
    (a18 : PySem.W.nsIn K mainGlobals "check_rows_of_table" = some (some (.ref f18)))
    (l18 : K.lookup f18 = some ⟨oc18, od18, .func (PySem.W.fnOf "check_rows_of_table" "check_rows_of_table" (defArgs s_check_rows_of_table) (defBody s_check_rows_of_table) (defScope s_check_rows_of_table) .none kV18 dc18 pm18 an18 cd18 ct18), sl18⟩)
    (c18 : PySem.W.codeIn K cd18 "check_rows_of_table" = true)
    (k18 : PySem.W.keepIn K (.ref f18) = true)
    (a19 : PySem.W.nsIn K mainGlobals "check_agreeing_of_table" = some (some (.ref f19)))
    (l19 : K.lookup f19 = some ⟨oc19, od19, .func (PySem.W.fnOf "check_agreeing_of_table" "check_agreeing_of_table" (defArgs s_check_agreeing_of_table) (defBody s_check_agreeing_of_table) (defScope s_check_agreeing_of_table) .none kV19 dc19 pm19 an19 cd19 ct19), sl19⟩)
    (c19 : PySem.W.codeIn K cd19 "check_agreeing_of_table" = true)
    (k19 : PySem.W.keepIn K (.ref f19) = true)
    (a20 : PySem.W.nsIn K mainGlobals "check_table" = some (some (.ref f20)))
    (l20 : K.lookup f20 = some ⟨oc20, od20, .func (PySem.W.fnOf "check_table" "check_table" (defArgs s_check_table) (defBody s_check_table) (defScope s_check_table) .none kV20 dc20 pm20 an20 cd20 ct20), sl20⟩)
    (c20 : PySem.W.codeIn K cd20 "check_table" = true)
    (k20 : PySem.W.keepIn K (.ref f20) = true)
    (a21 : PySem.W.nsIn K mainGlobals "coins_with" = some (some (.ref f21)))
    (l21 : K.lookup f21 = some ⟨oc21, od21, .func (PySem.W.fnOf "coins_with" "coins_with" (defArgs s_coins_with) (defBody s_coins_with) (defScope s_coins_with) .none kV21 dc21 pm21 an21 cd21 ct21), sl21⟩)
    (c21 : PySem.W.codeIn K cd21 "coins_with" = true)
    (k21 : PySem.W.keepIn K (.ref f21) = true)
    (a22 : PySem.W.nsIn K mainGlobals "meets_in_pairs" = some (some (.ref f22)))
    (l22 : K.lookup f22 = some ⟨oc22, od22, .func (PySem.W.fnOf "meets_in_pairs" "meets_in_pairs" (defArgs s_meets_in_pairs) (defBody s_meets_in_pairs) (defScope s_meets_in_pairs) .none kV22 dc22 pm22 an22 cd22 ct22), sl22⟩)
    (c22 : PySem.W.codeIn K cd22 "meets_in_pairs" = true)
    (k22 : PySem.W.keepIn K (.ref f22) = true)
    (a23 : PySem.W.nsIn K mainGlobals "gates_to_x" = some (some (.ref f23)))
    (l23 : K.lookup f23 = some ⟨oc23, od23, .func (PySem.W.fnOf "gates_to_x" "gates_to_x" (defArgs s_gates_to_x) (defBody s_gates_to_x) (defScope s_gates_to_x) .none kV23 dc23 pm23 an23 cd23 ct23), sl23⟩)
    (c23 : PySem.W.codeIn K cd23 "gates_to_x" = true)
    (k23 : PySem.W.keepIn K (.ref f23) = true)
    (a24 : PySem.W.nsIn K mainGlobals "bits_elsewhere" = some (some (.ref f24)))
    (l24 : K.lookup f24 = some ⟨oc24, od24, .func (PySem.W.fnOf "bits_elsewhere" "bits_elsewhere" (defArgs s_bits_elsewhere) (defBody s_bits_elsewhere) (defScope s_bits_elsewhere) .none kV24 dc24 pm24 an24 cd24 ct24), sl24⟩)
    (c24 : PySem.W.codeIn K cd24 "bits_elsewhere" = true)
    (k24 : PySem.W.keepIn K (.ref f24) = true)
    (a25 : PySem.W.nsIn K mainGlobals "gates_to_z" = some (some (.ref f25)))
    (l25 : K.lookup f25 = some ⟨oc25, od25, .func (PySem.W.fnOf "gates_to_z" "gates_to_z" (defArgs s_gates_to_z) (defBody s_gates_to_z) (defScope s_gates_to_z) .none kV25 dc25 pm25 an25 cd25 ct25), sl25⟩)
    (c25 : PySem.W.codeIn K cd25 "gates_to_z" = true)
    (k25 : PySem.W.keepIn K (.ref f25) = true)
    (a26 : PySem.W.nsIn K mainGlobals "gates_for_signs" = some (some (.ref f26)))
    (l26 : K.lookup f26 = some ⟨oc26, od26, .func (PySem.W.fnOf "gates_for_signs" "gates_for_signs" (defArgs s_gates_for_signs) (defBody s_gates_for_signs) (defScope s_gates_for_signs) .none kV26 dc26 pm26 an26 cd26 ct26), sl26⟩)
    (c26 : PySem.W.codeIn K cd26 "gates_for_signs" = true)
    (k26 : PySem.W.keepIn K (.ref f26) = true)
    (a27 : PySem.W.nsIn K mainGlobals "gates_of" = some (some (.ref f27)))
    (l27 : K.lookup f27 = some ⟨oc27, od27, .func (PySem.W.fnOf "gates_of" "gates_of" (defArgs s_gates_of) (defBody s_gates_of) (defScope s_gates_of) .none kV27 dc27 pm27 an27 cd27 ct27), sl27⟩)
    (c27 : PySem.W.codeIn K cd27 "gates_of" = true)
    (k27 : PySem.W.keepIn K (.ref f27) = true)
    (a28 : PySem.W.nsIn K mainGlobals "images" = some (some (.ref f28)))
    (l28 : K.lookup f28 = some ⟨oc28, od28, .func (PySem.W.fnOf "images" "images" (defArgs s_images) (defBody s_images) (defScope s_images) .none kV28 dc28 pm28 an28 cd28 ct28), sl28⟩)
    (c28 : PySem.W.codeIn K cd28 "images" = true)
    (k28 : PySem.W.keepIn K (.ref f28) = true)
    (a29 : PySem.W.nsIn K mainGlobals "_law_mixed" = some (some (.ref f29)))
    (l29 : K.lookup f29 = some ⟨oc29, od29, .func (PySem.W.fnOf "_law_mixed" "_law_mixed" (defArgs s_law_mixed) (defBody s_law_mixed) (defScope s_law_mixed) .none kV29 dc29 pm29 an29 cd29 ct29), sl29⟩)
    (c29 : PySem.W.codeIn K cd29 "_law_mixed" = true)
    (k29 : PySem.W.keepIn K (.ref f29) = true)
    (a30 : PySem.W.nsIn K mainGlobals "_law_cell" = some (some (.ref f30)))
    (l30 : K.lookup f30 = some ⟨oc30, od30, .func (PySem.W.fnOf "_law_cell" "_law_cell" (defArgs s_law_cell) (defBody s_law_cell) (defScope s_law_cell) .none kV30 dc30 pm30 an30 cd30 ct30), sl30⟩)
    (c30 : PySem.W.codeIn K cd30 "_law_cell" = true)
    (k30 : PySem.W.keepIn K (.ref f30) = true)
    (a31 : PySem.W.nsIn K mainGlobals "_law_part" = some (some (.ref f31)))
    (l31 : K.lookup f31 = some ⟨oc31, od31, .func (PySem.W.fnOf "_law_part" "_law_part" (defArgs s_law_part) (defBody s_law_part) (defScope s_law_part) .none kV31 dc31 pm31 an31 cd31 ct31), sl31⟩)
    (c31 : PySem.W.codeIn K cd31 "_law_part" = true)
    (k31 : PySem.W.keepIn K (.ref f31) = true)
    (a32 : PySem.W.nsIn K mainGlobals "_law_odd" = some (some (.ref f32)))
    (l32 : K.lookup f32 = some ⟨oc32, od32, .func (PySem.W.fnOf "_law_odd" "_law_odd" (defArgs s_law_odd) (defBody s_law_odd) (defScope s_law_odd) .none kV32 dc32 pm32 an32 cd32 ct32), sl32⟩)
    (c32 : PySem.W.codeIn K cd32 "_law_odd" = true)
    (k32 : PySem.W.keepIn K (.ref f32) = true)
    (a33 : PySem.W.nsIn K mainGlobals "_law_gate" = some (some (.ref f33)))
    (l33 : K.lookup f33 = some ⟨oc33, od33, .func (PySem.W.fnOf "_law_gate" "_law_gate" (defArgs s_law_gate) (defBody s_law_gate) (defScope s_law_gate) .none kV33 dc33 pm33 an33 cd33 ct33), sl33⟩)
    (c33 : PySem.W.codeIn K cd33 "_law_gate" = true)
    (k33 : PySem.W.keepIn K (.ref f33) = true)
    (a34 : PySem.W.nsIn K mainGlobals "_law_bad_row" = some (some (.ref f34)))
    (l34 : K.lookup f34 = some ⟨oc34, od34, .func (PySem.W.fnOf "_law_bad_row" "_law_bad_row" (defArgs s_law_bad_row) (defBody s_law_bad_row) (defScope s_law_bad_row) .none kV34 dc34 pm34 an34 cd34 ct34), sl34⟩)
    (c34 : PySem.W.codeIn K cd34 "_law_bad_row" = true)
    (k34 : PySem.W.keepIn K (.ref f34) = true)
    (a35 : PySem.W.nsIn K mainGlobals "_law_spoiled" = some (some (.ref f35)))
    (l35 : K.lookup f35 = some ⟨oc35, od35, .func (PySem.W.fnOf "_law_spoiled" "_law_spoiled" (defArgs s_law_spoiled) (defBody s_law_spoiled) (defScope s_law_spoiled) .none kV35 dc35 pm35 an35 cd35 ct35), sl35⟩)
    (c35 : PySem.W.codeIn K cd35 "_law_spoiled" = true)
    (k35 : PySem.W.keepIn K (.ref f35) = true)
    (a36 : PySem.W.nsIn K mainGlobals "_law_agree" = some (some (.ref f36)))
    (l36 : K.lookup f36 = some ⟨oc36, od36, .func (PySem.W.fnOf "_law_agree" "_law_agree" (defArgs s_law_agree) (defBody s_law_agree) (defScope s_law_agree) .none kV36 dc36 pm36 an36 cd36 ct36), sl36⟩)
    (c36 : PySem.W.codeIn K cd36 "_law_agree" = true)
    (k36 : PySem.W.keepIn K (.ref f36) = true)
    (a37 : PySem.W.nsIn K mainGlobals "_law_is_table" = some (some (.ref f37)))
    (l37 : K.lookup f37 = some ⟨oc37, od37, .func (PySem.W.fnOf "_law_is_table" "_law_is_table" (defArgs s_law_is_table) (defBody s_law_is_table) (defScope s_law_is_table) .none kV37 dc37 pm37 an37 cd37 ct37), sl37⟩)
    (c37 : PySem.W.codeIn K cd37 "_law_is_table" = true)
    (k37 : PySem.W.keepIn K (.ref f37) = true)
    (a38 : PySem.W.nsIn K mainGlobals "_law_caught" = some (some (.ref f38)))
    (l38 : K.lookup f38 = some ⟨oc38, od38, .func (PySem.W.fnOf "_law_caught" "_law_caught" (defArgs s_law_caught) (defBody s_law_caught) (defScope s_law_caught) .none kV38 dc38 pm38 an38 cd38 ct38), sl38⟩)
    (c38 : PySem.W.codeIn K cd38 "_law_caught" = true)
    (k38 : PySem.W.keepIn K (.ref f38) = true)
    (a39 : PySem.W.nsIn K mainGlobals "_law_refused" = some (some (.ref f39)))
    (l39 : K.lookup f39 = some ⟨oc39, od39, .func (PySem.W.fnOf "_law_refused" "_law_refused" (defArgs s_law_refused) (defBody s_law_refused) (defScope s_law_refused) .none kV39 dc39 pm39 an39 cd39 ct39), sl39⟩)
    (c39 : PySem.W.codeIn K cd39 "_law_refused" = true)
    (k39 : PySem.W.keepIn K (.ref f39) = true)
    (a40 : PySem.W.nsIn K mainGlobals "law" = some (some (.ref f40)))
    (l40 : K.lookup f40 = some ⟨oc40, od40, .func (PySem.W.fnOf "law" "law" (defArgs s_law) (defBody s_law) (defScope s_law) .none kV40 dc40 pm40 an40 cd40 ct40), sl40⟩)
    (c40 : PySem.W.codeIn K cd40 "law" = true)
    (k40 : PySem.W.keepIn K (.ref f40) = true)
    (z1 : PySem.W.nsIn K mainGlobals "len" = some none)
    (z2 : PySem.W.nsIn K mainGlobals "range" = some none)
    (z3 : PySem.W.nsIn K mainGlobals "abs" = some none)
    (z4 : PySem.W.nsIn K mainGlobals "any" = some none)
    (z5 : PySem.W.nsIn K mainGlobals "all" = some none)
    (z6 : PySem.W.nsIn K mainGlobals "isinstance" = some none)
    (z7 : PySem.W.nsIn K mainGlobals "int" = some none)
    (z8 : PySem.W.nsIn K mainGlobals "bool" = some none)
    (z9 : PySem.W.nsIn K mainGlobals "list" = some none)
    (z10 : PySem.W.nsIn K mainGlobals "str" = some none)
    (z11 : PySem.W.nsIn K mainGlobals "tuple" = some none)
    (z12 : PySem.W.nsIn K mainGlobals "enumerate" = some none)
    (z13 : PySem.W.nsIn K mainGlobals "ValueError" = some none)
    (u_CoinError : PySem.W.nsIn K mainGlobals "CoinError" = some (some (.ref A_CoinError)))
    (v_CoinError : PySem.W.clsIn K A_CoinError = some q_CoinError)
    (w_CoinError : PySem.W.typeIn K (.ref A_CoinError) = some (.type "type"))
    (u_NoTable : PySem.W.nsIn K mainGlobals "NoTable" = some (some (.ref A_NoTable)))
    (v_NoTable : PySem.W.clsIn K A_NoTable = some q_NoTable)
    (w_NoTable : PySem.W.typeIn K (.ref A_NoTable) = some (.type "type"))
    (u_NoGate : PySem.W.nsIn K mainGlobals "NoGate" = some (some (.ref A_NoGate)))
    (v_NoGate : PySem.W.clsIn K A_NoGate = some q_NoGate)
    (w_NoGate : PySem.W.typeIn K (.ref A_NoGate) = some (.type "type"))
    (u_NoList : PySem.W.nsIn K mainGlobals "NoList" = some (some (.ref A_NoList)))
    (v_NoList : PySem.W.clsIn K A_NoList = some q_NoList)
    (w_NoList : PySem.W.typeIn K (.ref A_NoList) = some (.type "type"))
    (u_NoLook : PySem.W.nsIn K mainGlobals "NoLook" = some (some (.ref A_NoLook)))
    (v_NoLook : PySem.W.clsIn K A_NoLook = some q_NoLook)
    (w_NoLook : PySem.W.typeIn K (.ref A_NoLook) = some (.type "type"))
    (u_NoRows : PySem.W.nsIn K mainGlobals "NoRows" = some (some (.ref A_NoRows)))
    (v_NoRows : PySem.W.clsIn K A_NoRows = some q_NoRows)
    (w_NoRows : PySem.W.typeIn K (.ref A_NoRows) = some (.type "type"))
    (u_NoShort : PySem.W.nsIn K mainGlobals "NoShort" = some (some (.ref A_NoShort)))
    (v_NoShort : PySem.W.clsIn K A_NoShort = some q_NoShort)
    (w_NoShort : PySem.W.typeIn K (.ref A_NoShort) = some (.type "type"))
    (u_NotFree : PySem.W.nsIn K mainGlobals "NotFree" = some (some (.ref A_NotFree)))
    (v_NotFree : PySem.W.clsIn K A_NotFree = some q_NotFree)
    (w_NotFree : PySem.W.typeIn K (.ref A_NotFree) = some (.type "type"))
    (u_NoCode : PySem.W.nsIn K mainGlobals "NoCode" = some (some (.ref A_NoCode)))
    (v_NoCode : PySem.W.clsIn K A_NoCode = some q_NoCode)
    (w_NoCode : PySem.W.typeIn K (.ref A_NoCode) = some (.type "type"))
    (u_CantMend : PySem.W.nsIn K mainGlobals "CantMend" = some (some (.ref A_CantMend)))
    (v_CantMend : PySem.W.clsIn K A_CantMend = some q_CantMend)
    (w_CantMend : PySem.W.typeIn K (.ref A_CantMend) = some (.type "type"))
    (u_NoText : PySem.W.nsIn K mainGlobals "NoText" = some (some (.ref A_NoText)))
    (v_NoText : PySem.W.clsIn K A_NoText = some q_NoText)
    (w_NoText : PySem.W.typeIn K (.ref A_NoText) = some (.type "type"))
    (u_NoName : PySem.W.nsIn K mainGlobals "NoName" = some (some (.ref A_NoName)))
    (v_NoName : PySem.W.clsIn K A_NoName = some q_NoName)
    (w_NoName : PySem.W.typeIn K (.ref A_NoName) = some (.type "type"))
    (u_NoLine : PySem.W.nsIn K mainGlobals "NoLine" = some (some (.ref A_NoLine)))
    (v_NoLine : PySem.W.clsIn K A_NoLine = some q_NoLine)
    (w_NoLine : PySem.W.typeIn K (.ref A_NoLine) = some (.type "type"))
    (x_NoTable : PySem.W.excIn K A_NoTable bmVE "ValueError.__new__" = true)
    (xa_NoTable : PySem.W.findIn K (.ref A_NoTable) "__getattribute__" = some (some (.builtin "BaseException.__getattribute__")))
    (xb_NoTable : PySem.W.findIn K (.ref A_NoTable) "__getattr__" = some none)
    (xc_NoTable : PySem.W.findIn K (.ref A_NoTable) "__class__" = some (some (.builtin "object.__class__")))
    (xd_NoTable : PySem.W.subIn K (.ref A_NoTable) (.type "BaseException") = some true)
    (xe_NoTable : PySem.W.subIn K (.ref A_NoTable) (.type "object") = some true)
    (xf_NoTable : PySem.W.subIn K (.ref A_NoTable) (.ref A_NoTable) = some true)
    (sb : PySem.W.subIn K (.ref A_CoinError) (.type "BaseException") = some true)
    (ecT : PySem.W.subIn K (.ref A_NoTable) (.ref A_CoinError) = some true)
    (vT : PySem.W.subIn K (.ref A_NoTable) (.type "ValueError") = some true)
    (us_NoGate : PySem.W.subIn K (.ref A_NoTable) (.ref A_NoGate) = some false)
    (us_NoList : PySem.W.subIn K (.ref A_NoTable) (.ref A_NoList) = some false)
    (us_NoLook : PySem.W.subIn K (.ref A_NoTable) (.ref A_NoLook) = some false)
    (us_NoRows : PySem.W.subIn K (.ref A_NoTable) (.ref A_NoRows) = some false)
    (us_NoShort : PySem.W.subIn K (.ref A_NoTable) (.ref A_NoShort) = some false)
    (us_NotFree : PySem.W.subIn K (.ref A_NoTable) (.ref A_NotFree) = some false)
    (us_NoCode : PySem.W.subIn K (.ref A_NoTable) (.ref A_NoCode) = some false)
    (us_CantMend : PySem.W.subIn K (.ref A_NoTable) (.ref A_CantMend) = some false)
    (us_NoText : PySem.W.subIn K (.ref A_NoTable) (.ref A_NoText) = some false)
    (us_NoName : PySem.W.subIn K (.ref A_NoTable) (.ref A_NoName) = some false)
    (us_NoLine : PySem.W.subIn K (.ref A_NoTable) (.ref A_NoLine) = some false)
    (zmin : PySem.W.nsIn K mainGlobals "min" = some none)
    (zmax : PySem.W.nsIn K mainGlobals "max" = some none)
    (gmc : PySem.W.nsIn K mainGlobals "MOST_COINS" = some (some (.int 6 tmc)))
    (ww1 : PySem.W.nsIn K mainGlobals "ONE_COIN_WORDS" = some (some (.ref aW1)))
    (ww2 : K.lookup aW1 = some ⟨.type "tuple", odW1, .seq #[.str "mix" tw1, .str "flip" tw2, .str "sign" tw3] nW1, slW1⟩)
    (ww3 : PySem.W.nsIn K mainGlobals "TWO_COIN_WORDS" = some (some (.ref aW2)))
    (ww4 : K.lookup aW2 = some ⟨.type "tuple", odW2, .seq #[.str "follow" tw4, .str "meet" tw5, .str "swap" tw6] nW2, slW2⟩)
    (zrev : PySem.W.nsIn K mainGlobals "reversed" = some none)
    : ∃ fd : FuncData, (∀ (s : Shared) (v : Value), BindsTo s fd ⟨[v], []⟩ [("_law_script", v)]) ∧ ∀ base : Heap, K.In base → base.Ns mainGlobals mg → FnOk l.prog w K mg base CX0 8 fa fd ["_law_script"] (sp_law K) := by
  have D_is_coin : Def K mg "is_coin" s_is_coin ["part", "coins"] := def_mk X G a0 l0 c0 k0 fun _ _ _ _ _ _ us hl => (by obtain ⟨x0, x1, rfl⟩ := len2 hl; rfl)
  have D_is_gate : Def K mg "is_gate" s_is_gate ["gate", "coins"] := def_mk X G a1 l1 c1 k1 fun _ _ _ _ _ _ us hl => (by obtain ⟨x0, x1, rfl⟩ := len2 hl; rfl)
  have D_check_gates : Def K mg "check_gates" s_check_gates ["gates", "coins"] := def_mk X G a2 l2 c2 k2 fun _ _ _ _ _ _ us hl => (by obtain ⟨x0, x1, rfl⟩ := len2 hl; rfl)
  have D_count_bits : Def K mg "count_bits" s_count_bits ["bits"] := def_mk X G a3 l3 c3 k3 fun _ _ _ _ _ _ us hl => (by obtain ⟨x0, rfl⟩ := len1 hl; rfl)
  have D_bit_of : Def K mg "bit_of" s_bit_of ["bits", "coin"] := def_mk X G a4 l4 c4 k4 fun _ _ _ _ _ _ us hl => (by obtain ⟨x0, x1, rfl⟩ := len2 hl; rfl)
  have D_with_sign_changed : Def K mg "with_sign_changed" s_with_sign_changed ["number", "often"] := def_mk X G a5 l5 c5 k5 fun _ _ _ _ _ _ us hl => (by obtain ⟨x0, x1, rfl⟩ := len2 hl; rfl)
  have D_is_row : Def K mg "is_row" s_is_row ["row", "coins"] := def_mk X G a6 l6 c6 k6 fun _ _ _ _ _ _ us hl => (by obtain ⟨x0, x1, rfl⟩ := len2 hl; rfl)
  have D_agree : Def K mg "agree" s_agree ["one", "other"] := def_mk X G a7 l7 c7 k7 fun _ _ _ _ _ _ us hl => (by obtain ⟨x0, x1, rfl⟩ := len2 hl; rfl)
  have D_is_even : Def K mg "is_even" s_is_even ["row"] := def_mk X G a8 l8 c8 k8 fun _ _ _ _ _ _ us hl => (by obtain ⟨x0, rfl⟩ := len1 hl; rfl)
  have D_moved_by_mix : Def K mg "moved_by_mix" s_moved_by_mix ["row", "coin"] := def_mk X G a9 l9 c9 k9 fun _ _ _ _ _ _ us hl => (by obtain ⟨x0, x1, rfl⟩ := len2 hl; rfl)
  have D_moved_by_flip : Def K mg "moved_by_flip" s_moved_by_flip ["row", "coin"] := def_mk X G a10 l10 c10 k10 fun _ _ _ _ _ _ us hl => (by obtain ⟨x0, x1, rfl⟩ := len2 hl; rfl)
  have D_moved_by_sign : Def K mg "moved_by_sign" s_moved_by_sign ["row", "coin"] := def_mk X G a11 l11 c11 k11 fun _ _ _ _ _ _ us hl => (by obtain ⟨x0, x1, rfl⟩ := len2 hl; rfl)
  have D_moved_by_follow : Def K mg "moved_by_follow" s_moved_by_follow ["row", "leader", "follower"] := def_mk X G a12 l12 c12 k12 fun _ _ _ _ _ _ us hl => (by obtain ⟨x0, x1, x2, rfl⟩ := len3 hl; rfl)
  have D_moved_by_meet : Def K mg "moved_by_meet" s_moved_by_meet ["row", "one", "other"] := def_mk X G a13 l13 c13 k13 fun _ _ _ _ _ _ us hl => (by obtain ⟨x0, x1, x2, rfl⟩ := len3 hl; rfl)
  have D_bits_swapped : Def K mg "bits_swapped" s_bits_swapped ["bits", "one", "other"] := def_mk X G a14 l14 c14 k14 fun _ _ _ _ _ _ us hl => (by obtain ⟨x0, x1, x2, rfl⟩ := len3 hl; rfl)
  have D_moved_by_swap : Def K mg "moved_by_swap" s_moved_by_swap ["row", "one", "other"] := def_mk X G a15 l15 c15 k15 fun _ _ _ _ _ _ us hl => (by obtain ⟨x0, x1, x2, rfl⟩ := len3 hl; rfl)
  have D_row_behind : Def K mg "row_behind" s_row_behind ["row", "gate"] := def_mk X G a16 l16 c16 k16 fun _ _ _ _ _ _ us hl => (by obtain ⟨x0, x1, rfl⟩ := len2 hl; rfl)
  have D_rows_moved : Def K mg "rows_moved" s_rows_moved ["rows", "gates"] := def_mk X G a17 l17 c17 k17 fun _ _ _ _ _ _ us hl => (by obtain ⟨x0, x1, rfl⟩ := len2 hl; rfl)
  have D_check_rows_of_table : Def K mg "check_rows_of_table" s_check_rows_of_table ["table", "coins"] := def_mk X G a18 l18 c18 k18 fun _ _ _ _ _ _ us hl => (by obtain ⟨x0, x1, rfl⟩ := len2 hl; rfl)
  have D_check_agreeing_of_table : Def K mg "check_agreeing_of_table" s_check_agreeing_of_table ["table", "coins"] := def_mk X G a19 l19 c19 k19 fun _ _ _ _ _ _ us hl => (by obtain ⟨x0, x1, rfl⟩ := len2 hl; rfl)
  have D_check_table : Def K mg "check_table" s_check_table ["table"] := def_mk X G a20 l20 c20 k20 fun _ _ _ _ _ _ us hl => (by obtain ⟨x0, rfl⟩ := len1 hl; rfl)
  have D_coins_with : Def K mg "coins_with" s_coins_with ["bits"] := def_mk X G a21 l21 c21 k21 fun _ _ _ _ _ _ us hl => (by obtain ⟨x0, rfl⟩ := len1 hl; rfl)
  have D_meets_in_pairs : Def K mg "meets_in_pairs" s_meets_in_pairs ["coins"] := def_mk X G a22 l22 c22 k22 fun _ _ _ _ _ _ us hl => (by obtain ⟨x0, rfl⟩ := len1 hl; rfl)
  have D_gates_to_x : Def K mg "gates_to_x" s_gates_to_x ["row", "coin"] := def_mk X G a23 l23 c23 k23 fun _ _ _ _ _ _ us hl => (by obtain ⟨x0, x1, rfl⟩ := len2 hl; rfl)
  have D_bits_elsewhere : Def K mg "bits_elsewhere" s_bits_elsewhere ["bits", "coin"] := def_mk X G a24 l24 c24 k24 fun _ _ _ _ _ _ us hl => (by obtain ⟨x0, x1, rfl⟩ := len2 hl; rfl)
  have D_gates_to_z : Def K mg "gates_to_z" s_gates_to_z ["row", "coin"] := def_mk X G a25 l25 c25 k25 fun _ _ _ _ _ _ us hl => (by obtain ⟨x0, x1, rfl⟩ := len2 hl; rfl)
  have D_gates_for_signs : Def K mg "gates_for_signs" s_gates_for_signs ["rows", "coins"] := def_mk X G a26 l26 c26 k26 fun _ _ _ _ _ _ us hl => (by obtain ⟨x0, x1, rfl⟩ := len2 hl; rfl)
  have D_gates_of : Def K mg "gates_of" s_gates_of ["table"] := def_mk X G a27 l27 c27 k27 fun _ _ _ _ _ _ us hl => (by obtain ⟨x0, rfl⟩ := len1 hl; rfl)
  have D_images : Def K mg "images" s_images ["coins", "gates"] := def_mk X G a28 l28 c28 k28 fun _ _ _ _ _ _ us hl => (by obtain ⟨x0, x1, rfl⟩ := len2 hl; rfl)
  have D__law_mixed : Def K mg "_law_mixed" s_law_mixed ["_law_cell_here", "_law_k"] := def_mk X G a29 l29 c29 k29 fun _ _ _ _ _ _ us hl => (by obtain ⟨x0, x1, rfl⟩ := len2 hl; rfl)
  have D__law_cell : Def K mg "_law_cell" s_law_cell ["_law_script", "_law_k"] := def_mk X G a30 l30 c30 k30 fun _ _ _ _ _ _ us hl => (by obtain ⟨x0, x1, rfl⟩ := len2 hl; rfl)
  have D__law_part : Def K mg "_law_part" s_law_part ["_law_cell_here", "_law_salt", "_law_shift"] := def_mk X G a31 l31 c31 k31 fun _ _ _ _ _ _ us hl => (by obtain ⟨x0, x1, x2, rfl⟩ := len3 hl; rfl)
  have D__law_odd : Def K mg "_law_odd" s_law_odd ["_law_number"] := def_mk X G a32 l32 c32 k32 fun _ _ _ _ _ _ us hl => (by obtain ⟨x0, rfl⟩ := len1 hl; rfl)
  have D__law_gate : Def K mg "_law_gate" s_law_gate ["_law_cell_here", "_law_coins"] := def_mk X G a33 l33 c33 k33 fun _ _ _ _ _ _ us hl => (by obtain ⟨x0, x1, rfl⟩ := len2 hl; rfl)
  have D__law_bad_row : Def K mg "_law_bad_row" s_law_bad_row ["_law_row", "_law_cell_here", "_law_coins"] := def_mk X G a34 l34 c34 k34 fun _ _ _ _ _ _ us hl => (by obtain ⟨x0, x1, x2, rfl⟩ := len3 hl; rfl)
  have D__law_spoiled : Def K mg "_law_spoiled" s_law_spoiled ["_law_table", "_law_cell_here", "_law_coins"] := def_mk X G a35 l35 c35 k35 fun _ _ _ _ _ _ us hl => (by obtain ⟨x0, x1, x2, rfl⟩ := len3 hl; rfl)
  have D__law_agree : Def K mg "_law_agree" s_law_agree ["_law_one", "_law_two"] := def_mk X G a36 l36 c36 k36 fun _ _ _ _ _ _ us hl => (by obtain ⟨x0, x1, rfl⟩ := len2 hl; rfl)
  have D__law_is_table : Def K mg "_law_is_table" s_law_is_table ["_law_table"] := def_mk X G a37 l37 c37 k37 fun _ _ _ _ _ _ us hl => (by obtain ⟨x0, rfl⟩ := len1 hl; rfl)
  have D__law_caught : Def K mg "_law_caught" s_law_caught ["_law_table"] := def_mk X G a38 l38 c38 k38 fun _ _ _ _ _ _ us hl => (by obtain ⟨x0, rfl⟩ := len1 hl; rfl)
  have D__law_refused : Def K mg "_law_refused" s_law_refused ["_law_caught_here"] := def_mk X G a39 l39 c39 k39 fun _ _ _ _ _ _ us hl => (by obtain ⟨x0, rfl⟩ := len1 hl; rfl)
  have T : Blt mg := blt_mk X G z1 z2 z3 z4 z5 z6 z7 z8 z9 z10 z11 z12 z13
  have G_CoinError : GCls K mg "CoinError" A_CoinError := gcls_mk X G u_CoinError v_CoinError w_CoinError
  have G_NoTable : GCls K mg "NoTable" A_NoTable := gcls_mk X G u_NoTable v_NoTable w_NoTable
  have G_NoGate : GCls K mg "NoGate" A_NoGate := gcls_mk X G u_NoGate v_NoGate w_NoGate
  have G_NoList : GCls K mg "NoList" A_NoList := gcls_mk X G u_NoList v_NoList w_NoList
  have G_NoLook : GCls K mg "NoLook" A_NoLook := gcls_mk X G u_NoLook v_NoLook w_NoLook
  have G_NoRows : GCls K mg "NoRows" A_NoRows := gcls_mk X G u_NoRows v_NoRows w_NoRows
  have G_NoShort : GCls K mg "NoShort" A_NoShort := gcls_mk X G u_NoShort v_NoShort w_NoShort
  have G_NotFree : GCls K mg "NotFree" A_NotFree := gcls_mk X G u_NotFree v_NotFree w_NotFree
  have G_NoCode : GCls K mg "NoCode" A_NoCode := gcls_mk X G u_NoCode v_NoCode w_NoCode
  have G_CantMend : GCls K mg "CantMend" A_CantMend := gcls_mk X G u_CantMend v_CantMend w_CantMend
  have G_NoText : GCls K mg "NoText" A_NoText := gcls_mk X G u_NoText v_NoText w_NoText
  have G_NoName : GCls K mg "NoName" A_NoName := gcls_mk X G u_NoName v_NoName w_NoName
  have G_NoLine : GCls K mg "NoLine" A_NoLine := gcls_mk X G u_NoLine v_NoLine w_NoLine
  have X_NoTable : XCls K A_NoTable := xcls_mk x_NoTable xa_NoTable xb_NoTable xc_NoTable xd_NoTable xe_NoTable v_NoTable xf_NoTable
  have e := hfa.symm.trans (PySem.W.mg_of X G a40)
  cases e
  have F := fun_mk (st := s_law) l40 c40 k40
  have W1 := wrds_mk X G ww1 ww2
  have W2 := wrds_mk X G ww3 ww4
  have MC : ∃ t, mg "MOST_COINS" = some (.int 6 t) := ⟨_, PySem.W.mg_of X G gmc⟩
  exact ⟨PySem.W.fnOf "law" "law" (defArgs s_law) (defBody s_law) (defScope s_law) .none kV40 dc40 pm40 an40 cd40 ct40, fun s v => .of_eq rfl, fun base _ _ => by
    have Cg := fun {base : Heap} => ok_checkg (P := l.prog) (w := w) (base := base) T D_check_gates (ok_isgate T W1 W2 D_is_gate (ok_iscoin T D_is_coin))
    have CB := fun {base : Heap} => ok_bitof (P := l.prog) (w := w) (base := base) T D_bit_of
    have CS := fun {base : Heap} => ok_change (P := l.prog) (w := w) (base := base) T D_with_sign_changed
    have CN := fun {base : Heap} => ok_count (P := l.prog) (w := w) (base := base) T D_count_bits
    have Cb := fun {base : Heap} => ok_behind (P := l.prog) (w := w) (base := base) T D_row_behind (ok_mmix T D_moved_by_mix CB CS) (ok_mflip T D_moved_by_flip CB CS) (ok_msign T D_moved_by_sign CB CS) (ok_mfollow T D_moved_by_follow CB) (ok_mmeet T D_moved_by_meet CB CS) (ok_mswap T D_moved_by_swap (ok_bswapped T D_bits_swapped CB))
    have CR := fun {base : Heap} => ok_rowsm (P := l.prog) (w := w) (base := base) T D_rows_moved Cb
    have CI := fun {base : Heap} => ok_images (P := l.prog) (w := w) (base := base) T D_images Cg CR
    have CW := fun {base : Heap} => ok_cw (P := l.prog) (w := w) (base := base) T D_coins_with CB
    have CM := fun {base : Heap} => ok_meets (P := l.prog) (w := w) (base := base) T D_meets_in_pairs
    have CIG := fun {base : Heap} => ok_irowG (P := l.prog) (w := w) (base := base) T D_is_row
    have CE := fun {base : Heap} => ok_even (P := l.prog) (w := w) (base := base) T D_is_even CN
    have CA := fun {base : Heap} => ok_agree (P := l.prog) (w := w) (base := base) T D_agree CN
    have CKA := fun {base : Heap} => ok_ckagr (P := l.prog) (w := w) (base := base) T D_check_agreeing_of_table CA
    have CT := fun {base : Heap} => ok_cktab (P := l.prog) (w := w) (base := base) T MC D_check_table (ok_ckrows T D_check_rows_of_table (ok_irow CIG) CE) CKA
    have CTX := fun {base : Heap} => ok_cktabX (P := l.prog) (w := w) (base := base) T MC G_NoTable X_NoTable D_check_table (ok_ckrowsW T D_check_rows_of_table (ok_irow CIG) CE) CKA (ok_ckrowsX T G_NoTable X_NoTable D_check_rows_of_table CIG CE) (ok_ckagrX T G_NoTable X_NoTable D_check_agreeing_of_table CA)
    have CGO := fun {base : Heap} => ok_gatesof (P := l.prog) (w := w) (base := base) T (PySem.W.mg_none_of X G zrev) D_gates_of CT (ok_tox T D_gates_to_x CW CM) (ok_toz T D_gates_to_z (ok_else T D_bits_elsewhere CB) CW CM) CR (ok_gfs T D_gates_for_signs)
    have CGX := fun {base : Heap} => ok_gatesofX (P := l.prog) (w := w) (base := base) T D_gates_of CTX
    have Cp := fun {base : Heap} => ok_part (P := l.prog) (w := w) (base := base) T D__law_part (ok_mixedL T D__law_mixed)
    have COd := fun {base : Heap} => ok_odd (P := l.prog) (w := w) (base := base) T D__law_odd
    exact ok_law T (PySem.W.mg_none_of X G zmin) (PySem.W.mg_none_of X G zmax) F (ok_cell T D__law_cell (ok_mixedL T D__law_mixed)) (ok_lgate T D__law_gate Cp) CI (ok_spoil T D__law_spoiled (ok_badrow T D__law_bad_row)) (ok_caught T G_CoinError sb ecT D__law_caught CGO CGX) (ok_istab T D__law_is_table COd (ok_lagree T D__law_agree COd)) (ok_ref T G_NoTable G_NoGate G_NoList G_NoLook G_NoRows G_NoShort G_NotFree G_NoCode G_CantMend G_NoText G_NoName G_NoLine ⟨X_NoTable, vT, us_NoGate, us_NoList, us_NoLook, us_NoRows, us_NoShort, us_NotFree, us_NoCode, us_CantMend, us_NoText, us_NoName, us_NoLine⟩ D__law_refused)⟩
theorem walk {l : PySem.W.OpenLaw} {q : Program} {loose : List Str} {XP : (Str → Option Value) → Heap → Prop} {YP : World → Heap → Prop} {d : DefRec} {K : Params → PySem.W.Frag} (hn : l.most = some 63) (hdf : d.params.defaults = [])
    (hY : ∀ (w : World) (h : Heap), YP w h → (K w.params).In h)
    (F : ∀ (w : World) (mg : Str → Option Value) (fa : Addr) (h : Heap), (K w.params).In h → h.Ns mainGlobals mg → mg d.name = some (.ref fa) →
      ∃ fd : FuncData, (∀ (s : Shared) (u : Value), BindsTo s fd ⟨[u], []⟩ [("_law_script", u)]) ∧ ∀ base : Heap, (K w.params).In base → base.Ns mainGlobals mg → FnOk l.prog w (K w.params) mg base CX0 8 fa fd ["_law_script"] (sp_law (K w.params))) :
    PySem.W.WalkO q loose XP YP l.row.toRowW d [] (fun f vs => PySem.call f vs) :=
  L2.walk_of (n := 63) (k := 8) (x := "_law_script") (CX := fun _ => CX0) (sp := fun w => sp_law (K w.params)) hn (by decide) hdf ⟨rfl, by decide, by decide⟩ hY F (fun _ _ a ns hl _ hS => ⟨a, ns, rfl, hS, hl, fun _ => rfl⟩) fun _ _ _ _ _ z => z
end K55
/-! names kept free: of these the closing tactic would lay lemmas of great size that nothing leans on or that it can do without -/
def PySem.W.Fast.tw8917734814398957506 : Unit := ()
def PySem.W.Fast.tw10744883901541061860 : Unit := ()
def PySem.W.Fast.tw17236213382608327206 : Unit := ()
def PySem.W.Fast.tw12757434742704040518 : Unit := ()
def PySem.W.Fast.tw7848765227596503207 : Unit := ()
def PySem.W.Fast.tw16058130736060698823 : Unit := ()
def PySem.W.Fast.tw5494747497260400936 : Unit := ()
def PySem.W.Fast.tw13538803677621655434 : Unit := ()
def PySem.W.Fast.tw4940337982913300747 : Unit := ()
def PySem.W.Fast.tw12128366509679389259 : Unit := ()
def PySem.W.Fast.tw10655700241664799532 : Unit := ()
def PySem.W.Fast.tw14623595698716230541 : Unit := ()
def PySem.W.Fast.tw15011736332891303246 : Unit := ()
def PySem.W.Fast.tw11788706439304991247 : Unit := ()
def PySem.W.Fast.tw656380369804625170 : Unit := ()
def PySem.W.Fast.tw15806419514303442229 : Unit := ()
def PySem.W.Fast.tw10859201710421859957 : Unit := ()
def PySem.W.Fast.tw13251058187970991192 : Unit := ()
def PySem.W.Fast.tw11326116741858824571 : Unit := ()
def PySem.W.Fast.tw15890070676027384157 : Unit := ()
open PySem PySem.W PyProof.Rows
set_option maxRecDepth 100000 in
set_option maxHeartbeats 0 in
theorem PySem.Challenge.cw_turncoins_k55_no_table_holds : PySem.Challenge.rw_turncoins_k55_no_table.Holds := by
  w_on; o_law; k_head; (case hw => w_witness2)
  k_fill
  refine K55.walk (l := PySem.Challenge.rw_turncoins_k55_no_table) rfl rfl (fun w h Y => PySem.W.kIn_of Y) ?F
  case F =>
    intro w mg fa h KX G hmg
    refine' K55.all_mk KX G hmg ?a0 ?l0 ?c0 ?k0 ?a1 ?l1 ?c1 ?k1 ?a2 ?l2 ?c2 ?k2 ?a3 ?l3 ?c3 ?k3 ?a4 ?l4 ?c4 ?k4 ?a5 ?l5 ?c5 ?k5 ?a6 ?l6 ?c6 ?k6 ?a7 ?l7 ?c7 ?k7 ?a8 ?l8 ?c8 ?k8 ?a9 ?l9 ?c9 ?k9 ?a10 ?l10 ?c10 ?k10 ?a11 ?l11 ?c11 ?k11 ?a12 ?l12 ?c12 ?k12 ?a13 ?l13 ?c13 ?k13 ?a14 ?l14 ?c14 ?k14 ?a15 ?l15 ?c15 ?k15 ?a16 ?l16 ?c16 ?k16 ?a17 ?l17 ?c17 ?k17 ?a18 ?l18 ?c18 ?k18 ?a19 ?l19 ?c19 ?k19 ?a20 ?l20 ?c20 ?k20 ?a21 ?l21 ?c21 ?k21 ?a22 ?l22 ?c22 ?k22 ?a23 ?l23 ?c23 ?k23 ?a24 ?l24 ?c24 ?k24 ?a25 ?l25 ?c25 ?k25 ?a26 ?l26 ?c26 ?k26 ?a27 ?l27 ?c27 ?k27 ?a28 ?l28 ?c28 ?k28 ?a29 ?l29 ?c29 ?k29 ?a30 ?l30 ?c30 ?k30 ?a31 ?l31 ?c31 ?k31 ?a32 ?l32 ?c32 ?k32 ?a33 ?l33 ?c33 ?k33 ?a34 ?l34 ?c34 ?k34 ?a35 ?l35 ?c35 ?k35 ?a36 ?l36 ?c36 ?k36 ?a37 ?l37 ?c37 ?k37 ?a38 ?l38 ?c38 ?k38 ?a39 ?l39 ?c39 ?k39 ?a40 ?l40 ?c40 ?k40 ?z1 ?z2 ?z3 ?z4 ?z5 ?z6 ?z7 ?z8 ?z9 ?z10 ?z11 ?z12 ?z13 ?u_CoinError ?v_CoinError ?w_CoinError ?u_NoTable ?v_NoTable ?w_NoTable ?u_NoGate ?v_NoGate ?w_NoGate ?u_NoList ?v_NoList ?w_NoList ?u_NoLook ?v_NoLook ?w_NoLook ?u_NoRows ?v_NoRows ?w_NoRows ?u_NoShort ?v_NoShort ?w_NoShort ?u_NotFree ?v_NotFree ?w_NotFree ?u_NoCode ?v_NoCode ?w_NoCode ?u_CantMend ?v_CantMend ?w_CantMend ?u_NoText ?v_NoText ?w_NoText ?u_NoName ?v_NoName ?w_NoName ?u_NoLine ?v_NoLine ?w_NoLine ?x_NoTable ?xa_NoTable ?xb_NoTable ?xc_NoTable ?xd_NoTable ?xe_NoTable ?xf_NoTable ?sb ?ecT ?vT ?us_NoGate ?us_NoList ?us_NoLook ?us_NoRows ?us_NoShort ?us_NotFree ?us_NoCode ?us_CantMend ?us_NoText ?us_NoName ?us_NoLine ?zmin ?zmax ?gmc ?ww1 ?ww2 ?ww3 ?ww4 ?zrev
    (case a0 => k_is); (case l0 => k_is); (case c0 => k_is); (case k0 => k_is); (case a1 => k_is); (case l1 => k_is); (case c1 => k_is); (case k1 => k_is)
    (case a2 => k_is); (case l2 => k_is); (case c2 => k_is); (case k2 => k_is); (case a3 => k_is); (case l3 => k_is); (case c3 => k_is); (case k3 => k_is)
    (case a4 => k_is); (case l4 => k_is); (case c4 => k_is); (case k4 => k_is); (case a5 => k_is); (case l5 => k_is); (case c5 => k_is); (case k5 => k_is)
    (case a6 => k_is); (case l6 => k_is); (case c6 => k_is); (case k6 => k_is); (case a7 => k_is); (case l7 => k_is); (case c7 => k_is); (case k7 => k_is)
    (case a8 => k_is); (case l8 => k_is); (case c8 => k_is); (case k8 => k_is); (case a9 => k_is); (case l9 => k_is); (case c9 => k_is); (case k9 => k_is)
    (case a10 => k_is); (case l10 => k_is); (case c10 => k_is); (case k10 => k_is); (case a11 => k_is); (case l11 => k_is); (case c11 => k_is); (case k11 => k_is)
    (case a12 => k_is); (case l12 => k_is); (case c12 => k_is); (case k12 => k_is); (case a13 => k_is); (case l13 => k_is); (case c13 => k_is); (case k13 => k_is)
    (case a14 => k_is); (case l14 => k_is); (case c14 => k_is); (case k14 => k_is); (case a15 => k_is); (case l15 => k_is); (case c15 => k_is); (case k15 => k_is)
    (case a16 => k_is); (case l16 => k_is); (case c16 => k_is); (case k16 => k_is); (case a17 => k_is); (case l17 => k_is); (case c17 => k_is); (case k17 => k_is)
    (case a18 => k_is); (case l18 => k_is); (case c18 => k_is); (case k18 => k_is); (case a19 => k_is); (case l19 => k_is); (case c19 => k_is); (case k19 => k_is)
    (case a20 => k_is); (case l20 => k_is); (case c20 => k_is); (case k20 => k_is); (case a21 => k_is); (case l21 => k_is); (case c21 => k_is); (case k21 => k_is)
    (case a22 => k_is); (case l22 => k_is); (case c22 => k_is); (case k22 => k_is); (case a23 => k_is); (case l23 => k_is); (case c23 => k_is); (case k23 => k_is)
    (case a24 => k_is); (case l24 => k_is); (case c24 => k_is); (case k24 => k_is); (case a25 => k_is); (case l25 => k_is); (case c25 => k_is); (case k25 => k_is)
    (case a26 => k_is); (case l26 => k_is); (case c26 => k_is); (case k26 => k_is); (case a27 => k_is); (case l27 => k_is); (case c27 => k_is); (case k27 => k_is)
    (case a28 => k_is); (case l28 => k_is); (case c28 => k_is); (case k28 => k_is); (case a29 => k_is); (case l29 => k_is); (case c29 => k_is); (case k29 => k_is)
    (case a30 => k_is); (case l30 => k_is); (case c30 => k_is); (case k30 => k_is); (case a31 => k_is); (case l31 => k_is); (case c31 => k_is); (case k31 => k_is)
    (case a32 => k_is); (case l32 => k_is); (case c32 => k_is); (case k32 => k_is); (case a33 => k_is); (case l33 => k_is); (case c33 => k_is); (case k33 => k_is)
    (case a34 => k_is); (case l34 => k_is); (case c34 => k_is); (case k34 => k_is); (case a35 => k_is); (case l35 => k_is); (case c35 => k_is); (case k35 => k_is)
    (case a36 => k_is); (case l36 => k_is); (case c36 => k_is); (case k36 => k_is); (case a37 => k_is); (case l37 => k_is); (case c37 => k_is); (case k37 => k_is)
    (case a38 => k_is); (case l38 => k_is); (case c38 => k_is); (case k38 => k_is); (case a39 => k_is); (case l39 => k_is); (case c39 => k_is); (case k39 => k_is)
    (case a40 => k_is); (case l40 => k_is); (case c40 => k_is); (case k40 => k_is); (case z1 => k_is); (case z2 => k_is); (case z3 => k_is); (case z4 => k_is)
    (case z5 => k_is); (case z6 => k_is); (case z7 => k_is); (case z8 => k_is); (case z9 => k_is); (case z10 => k_is); (case z11 => k_is); (case z12 => k_is)
    (case z13 => k_is); (case u_CoinError => k_is); (case v_CoinError => k_is); (case w_CoinError => k_is); (case u_NoTable => k_is); (case v_NoTable => k_is); (case w_NoTable => k_is); (case u_NoGate => k_is)
    (case v_NoGate => k_is); (case w_NoGate => k_is); (case u_NoList => k_is); (case v_NoList => k_is); (case w_NoList => k_is); (case u_NoLook => k_is); (case v_NoLook => k_is); (case w_NoLook => k_is)
    (case u_NoRows => k_is); (case v_NoRows => k_is); (case w_NoRows => k_is); (case u_NoShort => k_is); (case v_NoShort => k_is); (case w_NoShort => k_is); (case u_NotFree => k_is); (case v_NotFree => k_is)
    (case w_NotFree => k_is); (case u_NoCode => k_is); (case v_NoCode => k_is); (case w_NoCode => k_is); (case u_CantMend => k_is); (case v_CantMend => k_is); (case w_CantMend => k_is); (case u_NoText => k_is)
    (case v_NoText => k_is); (case w_NoText => k_is); (case u_NoName => k_is); (case v_NoName => k_is); (case w_NoName => k_is); (case u_NoLine => k_is); (case v_NoLine => k_is); (case w_NoLine => k_is)
    (case x_NoTable => k_exc); (case xa_NoTable => k_is); (case xb_NoTable => k_is); (case xc_NoTable => k_is); (case xd_NoTable => k_is); (case xe_NoTable => k_is); (case xf_NoTable => k_is); (case sb => k_is)
    (case ecT => k_is); (case vT => k_is); (case us_NoGate => k_is); (case us_NoList => k_is); (case us_NoLook => k_is); (case us_NoRows => k_is); (case us_NoShort => k_is); (case us_NotFree => k_is)
    (case us_NoCode => k_is); (case us_CantMend => k_is); (case us_NoText => k_is); (case us_NoName => k_is); (case us_NoLine => k_is); (case zmin => k_is); (case zmax => k_is); (case gmc => k_is)
    (case ww1 => k_is); (case ww2 => k_is); (case ww3 => k_is); (case ww4 => k_is); (case zrev => k_is)
#print axioms PySem.Challenge.cw_turncoins_k55_no_table_holds

