import PyProof.Rows.All
import Wide.All
import OpenK.AllK
import Wide.FinOn
import Lean
import PyProof.EqAt
import PyProof.EqKinds
import PyProof.TupleCall
import PyProof.InstStoreFacts
import PySem.Challenge.RW_turncoins_k05_no_gates
set_option Elab.async false
set_option linter.all false
set_option maxRecDepth 100000
/-! THE HAND LAYER, for ints, bools, texts, own classes, LISTS and tuples (index, slices, in, append, pop ..), calls, loops. Paste it whole ahead of your own text; what your proof does not reach may be deleted. -/
namespace L2
open PySem PySem.Spec PyProof.Rows

/-- a key: an int or a str -/
noncomputable abbrev Key := Sum Int Str
noncomputable def keyIs : Key → Value → Bool
  | .inl k, v => Value.isInt k v
  | .inr x, v => Value.isStrOf x v
noncomputable def keyH (w : World) : Key → Int
  | .inl k => hashInt k
  | .inr x => hashStr w x
theorem keyIs_shape : ∀ {k : Key} {v : Value}, keyIs k v = true → (∃ i t, k = Sum.inl i ∧ v = Value.int i t) ∨ (∃ x t, k = Sum.inr x ∧ v = Value.str x t)
  | .inl i, v, h => by
    obtain ⟨t, e⟩ := Value.isInt_shape (k := i) (v := v) h
    exact .inl ⟨i, t, rfl, e⟩
  | .inr x, v, h => by
    obtain ⟨t, e⟩ := Value.isStrOf_shape (x := x) (v := v) h
    exact .inr ⟨x, t, rfl, e⟩
theorem key_ll (a b : Int) : decide ((Sum.inl a : Key) = Sum.inl b) = (a == b) := by
  by_cases e : a = b
  · subst e; simp
  · have h : ¬ (Sum.inl a : Key) = Sum.inl b := fun q => e (Sum.inl.inj q)
    rw [decide_eq_false h]
    exact (beq_eq_false_iff_ne.mpr e).symm
theorem key_rr (a b : Str) : decide ((Sum.inr a : Key) = Sum.inr b) = decide (a = b) := by
  by_cases e : a = b
  · subst e; simp
  · have h : ¬ (Sum.inr a : Key) = Sum.inr b := fun q => e (Sum.inr.inj q)
    rw [decide_eq_false h, decide_eq_false e]
theorem key_lr (a : Int) (b : Str) : decide ((Sum.inl a : Key) = Sum.inr b) = false := decide_eq_false (fun q => nomatch q)
theorem key_rl (a : Str) (b : Int) : decide ((Sum.inr a : Key) = Sum.inl b) = false := decide_eq_false (fun q => nomatch q)

noncomputable def mixKind (prog : Program) (w : World) : PySem.KeyKind prog w Key where
  is := keyIs
  hash := keyH w
  inj := fun v a b ha hb => by
    rcases keyIs_shape ha with ⟨i, t, rfl, rfl⟩ | ⟨x, t, rfl, rfl⟩
    · rcases keyIs_shape hb with ⟨j, u, rfl, e⟩ | ⟨y, u, rfl, e⟩
      · injection e with e1 _; rw [e1]
      · exact nomatch e
    · rcases keyIs_shape hb with ⟨j, u, rfl, e⟩ | ⟨y, u, rfl, e⟩
      · exact nomatch e
      · injection e with e1 _; rw [e1]
  byValue := fun k v h => by
    rcases keyIs_shape h with ⟨i, t, rfl, rfl⟩ | ⟨x, t, rfl, rfl⟩ <;> rfl
  pyHash := fun hv h => by
    rcases keyIs_shape hv with ⟨i, t, rfl, rfl⟩ | ⟨x, t, rfl, rfl⟩
    · exact wpAny_pyHash_int h
    · exact wpAny_pyHash_str h
  eqBool := fun hu hv h => by
    rcases keyIs_shape hu with ⟨i, t, rfl, rfl⟩ | ⟨x, t, rfl, rfl⟩
    · rcases keyIs_shape hv with ⟨j, u, rfl, rfl⟩ | ⟨y, u, rfl, rfl⟩
      · rw [key_ll] at h; exact wpAny_eqBool_int h
      · rw [key_lr] at h; exact SeqAt.EqAt.int_str i t y u _ _ _ _ h
    · rcases keyIs_shape hv with ⟨j, u, rfl, rfl⟩ | ⟨y, u, rfl, rfl⟩
      · rw [key_rl] at h; exact SeqAt.EqAt.str_int x t j u _ _ _ _ h
      · rw [key_rr] at h; exact wpAny_eqBool_str h
  «strs» := fun k x t v h => by
    rcases keyIs_shape h with ⟨i, u, rfl, e⟩ | ⟨y, u, rfl, e⟩
    · exact nomatch e
    · injection e with e1 _
      subst e1
      cases v <;> rfl

end L2

namespace L2
open PySem PySem.Spec PyProof.Rows

/-- a value, without the heap -/
inductive V where
  | non | bl (b : Bool) | int (i : Int) | str (x : Str) | byt (b : Array UInt8) | flt (b : UInt64) | ref (a : Addr) | ty (n : String)
  deriving DecidableEq

noncomputable def RelV : V → Value → Prop
  | .non, u => u = Value.none
  | .bl b, u => u = Value.bool b
  | .int i, u => ∃ t, u = Value.int i t
  | .str x, u => ∃ t, u = Value.str x t
  | .byt b, u => ∃ t, u = Value.bytes b t
  | .flt b, u => ∃ t, u = Value.float b t
  | .ref a, u => u = Value.ref a
  | .ty n, u => u = Value.type n

noncomputable abbrev Vals : List V → List Value → Prop := Paired RelV
theorem Vals.length {xs : List V} {us : List Value} (r : Vals xs us) : xs.length = us.length := Paired.length r
theorem Vals.get : ∀ {xs : List V} {us : List Value} {i : Nat} {x : V}, Vals xs us → xs[i]? = some x → ∃ u, us[i]? = some u ∧ RelV x u
  | _, _, _, _, .nil, e => by simp at e
  | _, _, 0, _, .cons r _, e => by simp at e; subst e; exact ⟨_, rfl, r⟩
  | _, _, i + 1, x, .cons _ t, e => by
    obtain ⟨u, h1, h2⟩ := Vals.get (i := i) (x := x) t (by simpa using e)
    exact ⟨u, by simpa using h1, h2⟩
theorem Vals.append : ∀ {xs ys : List V} {us ws : List Value}, Vals xs us → Vals ys ws → Vals (xs ++ ys) (us ++ ws)
  | _, _, _, _, .nil, s => s
  | _, _, _, _, .cons r t, s => .cons r (Vals.append t s)
theorem Vals.take : ∀ {xs : List V} {us : List Value} (n : Nat), Vals xs us → Vals (xs.take n) (us.take n)
  | _, _, 0, _ => .nil
  | _, _, _ + 1, .nil => .nil
  | _, _, n + 1, .cons r t => .cons r (Vals.take n t)
theorem Vals.drop : ∀ {xs : List V} {us : List Value} (n : Nat), Vals xs us → Vals (xs.drop n) (us.drop n)
  | _, _, 0, r => r
  | _, _, _ + 1, .nil => .nil
  | _, _, n + 1, .cons _ t => Vals.drop n t

noncomputable def RelO : Option V → Option Value → Prop
  | some v, some u => RelV v u
  | none, none => True
  | _, _ => False
noncomputable def KV {κ : Type} : List (κ × V) → List (κ × Value) → Prop := Paired fun (p : κ × V) (q : κ × Value) => p.1 = q.1 ∧ RelV p.2 q.2

/-- a key of a dict (00_mix): an int or a text -/
noncomputable def kV : Key → V
  | .inl i => .int i
  | .inr x => .str x

/-- what stands at a tracked address -/
inductive HO where
  /-- a list -/
  | lst (xs : List V)
  /-- a tuple (never changes) -/
  | tup (xs : List V)
  /-- a dict whose keys are ints and texts; one whose keys are tuples of ints and texts (the empty one is both) -/
  | dK (kvs : List (Key × V)) | dT (kvs : List (List Key × V))
  /-- a set of ints: its members, its size -/
  | set (S : Int → Bool) (n : Nat)
  /-- an instance of the class at C, its dict at dx, its attributes -/
  | ins (C dx : Addr) (fs : List (Str × V))
  /-- the dict of the instance at x -/
  | own (x : Addr)
  /-- the dict of an exception -/
  | xd (fs : List (Str × V))
  /-- a bound method, f of x -/
  | met (f x : Addr)
  /-- a range object lo, lo + 1, .. below hi -/
  | rng (lo hi : Int)
  /-- a thing that is known to the object (the script; a dict while a loop walks it): read, never written while it is so -/
  | frz (o : Obj) (u : HO)
  /-- a code object's table -/
  | tbl (ps : Array Value)
  /-- any other thing, by what is true of its one object (a def of one's own: SetO a S n := HO.ext fun h => ..) -/
  | ext (φ : Heap → Prop)

noncomputable abbrev Hp := Addr → Option HO
noncomputable def upd (H : Hp) (a : Addr) (o : HO) : Hp := fun b => if b = a then some o else H b
theorem upd_same {H : Hp} {a : Addr} {o : HO} : upd H a o a = some o := by unfold upd; rw [if_pos rfl]
theorem upd_ne {H : Hp} {a b : Addr} {o : HO} (h : b ≠ a) : upd H a o b = H b := by unfold upd; rw [if_neg h]
/-- two objects of different content stand apart -/
theorem ne_of {H : Hp} {a b : Addr} {o u : HO} (h : H a = some o) (h' : H b = some u) (d : o ≠ u) : a ≠ b := by
  intro e; subst e; rw [h] at h'; exact d (Option.some.inj h')
theorem ne_of_none {H : Hp} {a b : Addr} {o : HO} (h : H a = some o) (h' : H b = none) : a ≠ b := by
  intro e; subst e; rw [h] at h'; cases h'

section
variable (P : Program) (w : World)
noncomputable def ObjOk (H : Hp) (h : Heap) (a : Addr) : HO → Prop
  | .lst xs => xs.length ≤ sizeLine ∧ ∃ (its : List Value) (n : Nat), Vals xs its ∧ h.get? a = some { cls := .type "list", data := .seq its.toArray n }
  | .tup xs => xs.length ≤ sizeLine ∧ ∃ its : List Value, Vals xs its ∧ IsTup h a its.toArray
  | .dK kvs => kvs.length ≤ sizeLine ∧ (a == sysModules) = false ∧ ∃ vs, KV kvs vs ∧ h.DictOf (mixKind P w) a vs
  | .dT kvs => kvs.length ≤ sizeLine ∧ (a == sysModules) = false ∧ ∃ xs : List (List Key × Addr × Value),
      Paired (fun (p : List Key × V) (q : List Key × Addr × Value) => p.1 = q.1 ∧ H q.2.1 = some (.tup (p.1.map kV)) ∧ RelV p.2 q.2.2) kvs xs ∧
      ∃ o es ep, h.get? a = some o ∧ o.ExactDict ∧ o.data = .dict es ep ∧ es.toList = xs.map (entryOfKey (tupleKind (mixKind P w))) ∧ (xs.map (·.1)).Nodup
  | .set S n => h.SetOf (intKind P w) a S n
  | .ins C dx fs => H dx = some (.own a) ∧ fs.length ≤ 1000 ∧ dx ≠ a ∧ h.get? a = some (PySem.W.instObj C dx) ∧
      ∃ mA, h.Ns1 dx mA ∧ (∀ f, RelO (fs.lookup f) (mA f)) ∧ PySem.Within mA (fs.map (·.1))
  | .own _ => ∃ o, h.get? a = some o
  | .xd fs => ∃ mA, h.Ns1 a mA ∧ ∀ f, RelO (fs.lookup f) (mA f)
  | .rng lo hi => ∃ t u v, h.get? a = some { cls := .type "range", data := .fields #[.int lo t, .int hi u, .int 1 v] }
  | .frz o u => h.get? a = some o ∧ ObjOk H h a u
  | .tbl ps => h.get? a = some { cls := .none, data := .fields ps }
  | .met f x => h.get? a = some (PySem.W.methodObj (.ref f) (.ref x))
  | .ext φ => φ h ∧ (∃ o, h.get? a = some o) ∧ ∀ h1 h2 : Heap, φ h1 → (∀ o, h1.get? a = some o → h2.get? a = some o) → φ h2
/-- the abstract heap is held -/
noncomputable def HOk (H : Hp) (h : Heap) : Prop := ∀ a o, H a = some o → ObjOk P w H h a o
end

section
variable {P : Program} {w : World} {H H' : Hp} {h h' : Heap} {a : Addr} {o : HO}
theorem ObjOk.lt (x : ObjOk P w H h a o) : a < h.objs.size := by
  cases o with
  | lst xs => obtain ⟨_, _, _, _, e⟩ := x; exact Heap.lt_size e
  | tup xs => obtain ⟨_, _, _, p⟩ := x; exact p.lt
  | dK kvs => obtain ⟨_, _, _, _, o, _, _, e, _⟩ := x; exact Heap.lt_size e
  | dT kvs => obtain ⟨_, _, _, _, o, _, _, e, _⟩ := x; exact Heap.lt_size e
  | set S n => obtain ⟨o, _, _, _, e, _⟩ := x; exact Heap.lt_size e
  | ins C dx fs => obtain ⟨_, _, _, e, _⟩ := x; exact Heap.lt_size e
  | own y => obtain ⟨_, e⟩ := x; exact Heap.lt_size e
  | xd fs => obtain ⟨_, ⟨_, _, _, e, _⟩, _⟩ := x; exact Heap.lt_size e
  | rng lo hi => obtain ⟨_, _, _, e⟩ := x; exact Heap.lt_size e
  | frz ob u => obtain ⟨e, _⟩ := x; exact Heap.lt_size e
  | tbl ps => exact Heap.lt_size (show h.get? a = some _ from x)
  | met f y => exact Heap.lt_size (show h.get? a = some _ from x)
  | ext φ => obtain ⟨_, ⟨_, e⟩, _⟩ := x; exact Heap.lt_size e
theorem Paired.mapP {α β : Type} {F G : α → β → Prop} : ∀ {l₁ : List α} {l₂ : List β}, Paired F l₁ l₂ → (∀ a b, F a b → G a b) → Paired G l₁ l₂
  | _, _, .nil, _ => .nil
  | _, _, .cons r t, f => .cons (f _ _ r) (Paired.mapP t f)
/-- what an object's description leans on: its own object, its own dict, the tuples -/
theorem ObjOk.stay (x : ObjOk P w H h a o) (k : ∀ b u, (b = a ∨ H b = some (.own a)) → h.get? b = some u → h'.get? b = some u)
    (ho : ∀ b, H b = some (.own a) → H' b = some (.own a)) (ht : ∀ b xs, H b = some (.tup xs) → H' b = some (.tup xs)) : ObjOk P w H' h' a o := by
  induction o with
  | lst xs => obtain ⟨z, its, n, r, e⟩ := x; exact ⟨z, its, n, r, k _ _ (.inl rfl) e⟩
  | tup xs => obtain ⟨z, its, r, ob, e, c⟩ := x; exact ⟨z, its, r, ob, k _ _ (.inl rfl) e, c⟩
  | dK kvs => obtain ⟨z, y, vs, r, ob, es, ep, e, c⟩ := x; exact ⟨z, y, vs, r, ob, es, ep, k _ _ (.inl rfl) e, c⟩
  | dT kvs =>
    obtain ⟨z, y, xs, r, ob, es, ep, e, c⟩ := x
    exact ⟨z, y, xs, Paired.mapP r fun p q z => ⟨z.1, ht _ _ z.2.1, z.2.2⟩, ob, es, ep, k _ _ (.inl rfl) e, c⟩
  | set S n => obtain ⟨ob, es, ep, t, e, c⟩ := x; exact ⟨ob, es, ep, t, k _ _ (.inl rfl) e, c⟩
  | ins C dx fs =>
    obtain ⟨d, z, ne, e, mA, ⟨od, es, ep, e2, c⟩, r⟩ := x
    exact ⟨ho _ d, z, ne, k _ _ (.inl rfl) e, mA, ⟨od, es, ep, k _ _ (.inr d) e2, c⟩, r⟩
  | own y => obtain ⟨ob, e⟩ := x; exact ⟨ob, k _ _ (.inl rfl) e⟩
  | xd fs => obtain ⟨mA, ⟨od, es, ep, e, c⟩, r⟩ := x; exact ⟨mA, ⟨od, es, ep, k _ _ (.inl rfl) e, c⟩, r⟩
  | rng lo hi => obtain ⟨t, u, v, e⟩ := x; exact ⟨t, u, v, k _ _ (.inl rfl) e⟩
  | frz ob u ih => obtain ⟨e, q⟩ := x; exact ⟨k _ _ (.inl rfl) e, ih q⟩
  | tbl ps =>
    have e : h.get? a = some { cls := .none, data := .fields ps } := x
    show h'.get? a = some { cls := .none, data := .fields ps }
    exact k a _ (.inl rfl) e
  | met f y =>
    have e : h.get? a = some (PySem.W.methodObj (.ref f) (.ref y)) := x
    show h'.get? a = some (PySem.W.methodObj (.ref f) (.ref y))
    exact k a _ (.inl rfl) e
  | ext φ => obtain ⟨p, ⟨o, e⟩, st⟩ := x; exact ⟨st _ _ p fun o q => k _ _ (.inl rfl) q, ⟨o, k _ _ (.inl rfl) e⟩, st⟩
theorem HOk.lt (x : HOk P w H h) (e : H a = some o) : a < h.objs.size := (x a o e).lt
theorem HOk.fresh (x : HOk P w H h) (e : h.objs.size ≤ a) : H a = none := by
  cases q : H a with
  | none => rfl
  | some u => exact absurd (Nat.lt_of_lt_of_le (x.lt q) e) (Nat.lt_irrefl _)
/-- every object of the heap is kept -/
theorem HOk.kept (x : HOk P w H h) (k : ∀ b u, h.get? b = some u → h'.get? b = some u) : HOk P w H h' := fun a o e =>
  (x a o e).stay (fun b u _ q => k b u q) (fun _ q => q) fun _ _ q => q
/-- a new object is laid and tracked -/
theorem HOk.laid (x : HOk P w H h) (k : ∀ b u, h.get? b = some u → h'.get? b = some u) (hp : h.objs.size ≤ a) (new : ObjOk P w (upd H a o) h' a o) : HOk P w (upd H a o) h' := fun b u e => by
  have hn := x.fresh hp
  by_cases hb : b = a
  · subst hb; rw [upd_same] at e; cases e; exact new
  · rw [upd_ne hb] at e
    exact (x b u e).stay (fun c v _ q => k c v q) (fun c q => by rw [upd_ne (ne_of_none q hn)]; exact q) fun c xs q => by rw [upd_ne (ne_of_none q hn)]; exact q
end

/-- what may be read as u: it is u, or a known u -/
noncomputable def Rd (H : Hp) (a : Addr) (u : HO) : Prop := H a = some u ∨ ∃ o, H a = some (.frz o u)
theorem Rd.ok {P : Program} {w : World} {H : Hp} {h : Heap} {a : Addr} {u : HO} (r : Rd H a u) (x : HOk P w H h) : ObjOk P w H h a u := by
  rcases r with r | ⟨o, r⟩
  · exact x a u r
  · obtain ⟨_, q⟩ := x a _ r
    exact q
/-- what may be written -/
noncomputable def Mut : Option HO → Prop
  | some (.lst _) => True
  | some (.dK _) => True
  | some (.dT _) => True
  | some (.set _ _) => True
  | some (.ins _ _ _) => True
  | some (.ext _) => True
  | _ => False
section
variable {P : Program} {w : World} {H : Hp} {h h' : Heap} {x e : Addr} {o' : HO}
/-- the object at e is changed: x itself, or the dict of the instance x -/
theorem HOk.write (ok : HOk P w H h) (mu : Mut (H x)) (he : e = x ∨ H e = some (.own x)) (k : ∀ b u, b ≠ e → h.get? b = some u → h'.get? b = some u) (heo : ∃ u, h'.get? e = some u)
    (new : ObjOk P w (upd H x o') h' x o') : HOk P w (upd H x o') h' := fun b u q => by
  have nown : ∀ c y, H c = some (.own y) → c ≠ x := fun c y r z => by subst z; rw [r] at mu; exact mu
  have ntup : ∀ c xs, H c = some (.tup xs) → c ≠ x := fun c xs r z => by subst z; rw [r] at mu; exact mu
  by_cases hb : b = x
  · subst hb; rw [upd_same] at q; cases q; exact new
  · rw [upd_ne hb] at q
    by_cases hbe : b = e
    · have q' : H b = some (.own x) := by
        rcases he with z | z
        · exact absurd (hbe.trans z) hb
        · rw [hbe]; exact z
      rw [q] at q'; cases q'
      obtain ⟨v, hv⟩ := heo
      exact ⟨v, by rw [hbe]; exact hv⟩
    · refine (ok b u q).stay (fun c v hc r => k c v ?_ r) (fun c r => by rw [upd_ne (nown c b r)]; exact r) fun c xs r => by rw [upd_ne (ntup c xs r)]; exact r
      rcases hc with rfl | hc
      · exact hbe
      · rintro rfl
        rcases he with z | z
        · exact nown c b hc z
        · rw [hc] at z; cases z; exact hb rfl
end

/-! ### kept unless tracked; of the frames at fs (the callers') the slots may change (an exception that passes writes there); of the records at ex (iterators) nothing is said -/
structure Un (fs ex : List Addr) (H H' : Hp) (h h' : Heap) : Prop where
  keep : ∀ b o, h.get? b = some o → H b = none → b ∉ fs → b ∉ ex → h'.get? b = some o
  slot : ∀ b o, h.get? b = some o → H b = none → b ∈ fs → b ∉ ex → ∃ sl, h'.get? b = some { o with slots := sl }
  free : ∀ b o, h.get? b = some o → H b = none → b ∉ ex → H' b = none
  there : ∀ b o, h.get? b = some o → b ∉ ex → ∃ o', h'.get? b = some o'
  tups : ∀ b xs, H b = some (.tup xs) → H' b = some (.tup xs)
  frzs : ∀ b o u, H b = some (.frz o u) → H' b = some (.frz o u)
  tbls : ∀ b ps, H b = some (.tbl ps) → ∃ more, H' b = some (.tbl (ps ++ more))
section
variable {fs fs' ex ex' : List Addr} {H H1 H2 : Hp} {h h1 h2 h' : Heap} {a x e : Addr} {o : HO}
theorem Un.any (u : Un fs ex H H1 h h1) {b : Addr} {ob : Obj} (q : h.get? b = some ob) (n : H b = none) (hx : b ∉ ex) : ∃ sl, h1.get? b = some { ob with slots := sl } := by
  by_cases hb : b ∈ fs
  · exact u.slot b ob q n hb hx
  · exact ⟨ob.slots, u.keep b ob q n hb hx⟩
theorem Un.kept (k : ∀ b u, h.get? b = some u → h'.get? b = some u) : Un fs ex H H h h' :=
  ⟨fun b ob q _ _ _ => k b ob q, fun b ob q _ _ _ => ⟨ob.slots, k b ob q⟩, fun _ _ _ n _ => n, fun b ob q _ => ⟨ob, k b ob q⟩, fun _ _ q => q, fun _ _ _ q => q, fun _ ps q => ⟨#[], by rw [q]; simp⟩⟩
theorem Un.refl : Un fs ex H H h h := Un.kept fun _ _ q => q
theorem Un.laid (k : ∀ b u, h.get? b = some u → h'.get? b = some u) (hp : h.objs.size ≤ a) (hn : H a = none) : Un fs ex H (upd H a o) h h' where
  keep := fun b u q _ _ _ => k b u q
  slot := fun b u q _ _ _ => ⟨u.slots, k b u q⟩
  free := fun b u q n _ => by rw [upd_ne (Nat.ne_of_lt (Nat.lt_of_lt_of_le (Heap.lt_size q) hp))]; exact n
  there := fun b u q _ => ⟨u, k b u q⟩
  tups := fun b xs q => by rw [upd_ne (ne_of_none q hn)]; exact q
  frzs := fun b u xs q => by rw [upd_ne (ne_of_none q hn)]; exact q
  tbls := fun b ps q => ⟨#[], by rw [upd_ne (ne_of_none q hn), q]; simp⟩
theorem Un.write (mu : Mut (H x)) (he : e = x ∨ H e = some (.own x)) (k : ∀ b u, b ≠ e → h.get? b = some u → h'.get? b = some u) (heo : ∃ u, h'.get? e = some u) : Un fs ex H (upd H x o) h h' := by
  have hx : ∀ b, H b = none → b ≠ x := fun b n z => by subst z; rw [n] at mu; exact mu
  have hb : ∀ b, H b = none → b ≠ e := fun b n z => by
    subst z
    rcases he with r | r
    · exact hx b n r
    · rw [n] at r; cases r
  have hm : ∀ b u, H b = some u → ¬ Mut (some u) → b ≠ x := fun b u q nm z => by subst z; rw [q] at mu; exact nm mu
  refine ⟨fun b u q n _ _ => k b u (hb b n) q, fun b u q n _ _ => ⟨u.slots, k b u (hb b n) q⟩, fun b u q n _ => by rw [upd_ne (hx b n)]; exact n, fun b u q _ => ?_,
    fun b xs q => by rw [upd_ne (hm b _ q fun z => z)]; exact q, fun b u xs q => by rw [upd_ne (hm b _ q fun z => z)]; exact q, fun b ps q => ⟨#[], by rw [upd_ne (hm b _ q fun z => z), q]; simp⟩⟩
  by_cases hbe : b = e
  · subst hbe; exact heo
  · exact ⟨u, k b u hbe q⟩
end

/-! ### the heap without what is tracked -/
noncomputable def trk (h : Heap) (H : Hp) : List Addr := (List.range h.objs.size).filter fun a => (H a).isSome
noncomputable def hidT (h : Heap) (H : Hp) : Heap := PySem.W.hideAll h (trk h H)
theorem hidT_size (h : Heap) (H : Hp) : (hidT h H).objs.size = h.objs.size := PySem.W.hideAll_size _ _
theorem hidT_get {h : Heap} {H : Hp} {b : Addr} {o : Obj} (e : h.get? b = some o) (n : H b = none) : (hidT h H).get? b = some o :=
  PySem.W.hideAll_get _ e fun hm => by
    have q : (H b).isSome = true := (List.mem_filter.mp hm).2
    rw [n] at q; simp at q
theorem of_hidT {h : Heap} {H : Hp} {b : Addr} {o : Obj} (e : (hidT h H).get? b = some o) : h.get? b = some o ∧ H b = none := by
  have e' : h.get? b = some o := PySem.W.of_hideAll (trk h H) e
  refine ⟨e', ?_⟩
  cases q : H b with
  | none => rfl
  | some x =>
    have hm : b ∈ trk h H := List.mem_filter.mpr ⟨List.mem_range.mpr (Heap.lt_size e'), by simp [q]⟩
    have z : (hidT h H).get? b = none := PySem.W.hideAll_none (trk h H) hm
    rw [z] at e; cases e

/-! ### OpenK's ledger, filled with every new object but one -/
noncomputable def allNews (g h : Heap) (L : Addr) : List (Addr × Obj) := (List.range h.objs.size).filterMap fun a => if a = L ∨ (g.get? a).isSome = true then none else (h.get? a).map fun o => (a, o)
noncomputable def rest (g h : Heap) (L d : Addr) : List (Addr × Obj) := (allNews g h L).filter fun p => decide (p.1 ≠ d)
end L2

namespace L2
open PySem PySem.Spec PyProof.Rows

/-- the module's facts, over the base: the heap at the law's entry without what is tracked there -/
structure Mod (K : PySem.W.Frag) (mg : Str → Option Value) (base : Heap) : Prop where
  kin : K.In base
  glob : base.Ns mainGlobals mg
  blt : ∃ mb, base.Ns builtinsNs mb ∧ ∀ x : Str, x ≠ "__name__" → mb x = bootBuiltins x
  nolimit : base.NoLimit

/-- the context: a def's body (or a comprehension's block) running. base: fixed through the whole law; s₀, H₀: the entry; outer: the frames whose slots others may change (a def's callers); stack: all frames that run;
   ex: iterators that were made ahead of the entry and are walked here (a comprehension's); fn: the names whose cells were made at the entry (a def: all; a comprehension's block: its own); calm: not within an except suite; pn: pins that every state bears; xe: what is wanted of an exception that leaves the code -/
structure Cx where
  prog : Program
  w : World
  K : PySem.W.Frag
  mg : Str → Option Value
  base : Heap
  A : Around
  N : List Str
  s₀ : Shared
  H₀ : Hp
  env : Env
  outer : List Env
  stack : List Env
  ex : List Addr
  fn : Str → Bool
  calm : Bool
  pn : List (Addr × Obj)
  xe : Value → Shared → Prop
/-- the callers' frames -/
noncomputable def frs (l : List Env) : List Addr := l.filterMap (·.frame)
noncomputable abbrev Cx.fs (X : Cx) : List Addr := frs X.outer

noncomputable def Vis (sc : Scope) (x : Str) : Prop := sc.names.lookup x = some .local ∨ sc.names.lookup x = some .cell ∨ sc.names.lookup x = some .free
noncomputable def Loc (sc : Scope) (x : Str) : Prop := sc.names.lookup x = some .local ∨ sc.names.lookup x = some .cell
noncomputable def Look (env : Env) (h : Heap) (m : Str → Option Value) (x : Str) (u : Value) : Prop :=
  (env.kindOf x = some .local ∧ m x = some u) ∨ ((env.kindOf x = some .cell ∨ env.kindOf x = some .free) ∧ ∃ c, env.cells.lookup x = some c ∧ h.IsCell c (some u))

structure Cx.Ok (X : Cx) : Prop where
  mod : Mod X.K X.mg X.base
  kind : X.env.scope.kind = .function
  glob : X.env.globals = mainGlobals
  blt : X.env.builtins = builtinsNs
  above : X.s₀.heap.objs.size ≤ X.env.locals
  inj : ∀ x y c, X.env.cells.lookup x = some c → X.env.cells.lookup y = some c → x = y
  has : ∀ x, (X.env.kindOf x = some .cell ∨ X.env.kindOf x = some .free) → ∃ c, X.env.cells.lookup x = some c
  cab : ∀ x c, X.fn x = true → X.env.cells.lookup x = some c → X.s₀.heap.objs.size ≤ c
  hd : X.calm = true → X.A.handled = none
  frames : X.A.frames = some X.stack
  stk : X.stack = X.outer ∨ (X.stack = X.env :: X.outer ∧ X.env.frame = some X.env.locals)
  exf : ∀ b ∈ X.ex, b ≠ X.env.locals ∧ ∀ x c, X.env.cells.lookup x = some c → c ≠ b
  bs : ∀ b o, X.base.get? b = some o → X.s₀.heap.get? b = some o ∧ X.H₀ b = none
  bsz : X.base.objs.size ≤ X.s₀.heap.objs.size
  noex : ∀ b o, X.base.get? b = some o → b ∉ X.ex
  exfs : ∀ b ∈ X.ex, b ∉ X.fs
  funs : X.s₀.heap.FunFrames X.base X.outer
  frf : ∀ b ∈ X.fs, X.H₀ b = none

structure Inv (X : Cx) (pins : List (Addr × Obj)) (σ : List (Option V)) (H : Hp) (s : Shared) : Prop where
  ok : X.Ok
  os : s.os = X.s₀.os
  bare : AllBare s.gens
  base : Un X.fs X.ex X.H₀ H X.s₀.heap s.heap
  loc : ∃ m, s.heap.Ns X.env.locals m ∧ ∀ (i : Nat) (x : Str) (v : V), X.N[i]? = some x → σ[i]? = some (some v) → Vis X.env.scope x → ∃ u, RelV v u ∧ Look X.env s.heap m x u
  cell : ∀ x c, X.env.cells.lookup x = some c → ∃ v, s.heap.IsCell c v
  free : H X.env.locals = none
  freeC : ∀ x c, X.env.cells.lookup x = some c → H c = none
  pin : ∀ p ∈ X.pn ++ pins, s.heap.get? p.1 = some p.2 ∧ H p.1 = none ∧ p.1 ≠ X.env.locals ∧ p.1 ∉ X.fs ∧ ∀ v, p.2.data ≠ .cell v
  hok : HOk X.prog X.w H s.heap
  len : σ.length = X.N.length

section
variable {X : Cx} {pins : List (Addr × Obj)} {σ : List (Option V)} {H H' : Hp} {s : Shared} {h' : Heap}

theorem Cx.Ok.nofr (ok : X.Ok) {b : Addr} {o : Obj} (e : X.base.get? b = some o) : b ∉ X.fs := fun hb => by
  have := (ok.funs.mem hb).1
  rw [e] at this; cases this
theorem Inv.bs (I : Inv X pins σ H s) : ∀ b o, X.base.get? b = some o → s.heap.get? b = some o ∧ H b = none := fun b o e =>
  ⟨I.base.keep b o (I.ok.bs b o e).1 (I.ok.bs b o e).2 (I.ok.nofr e) (I.ok.noex b o e), I.base.free b o (I.ok.bs b o e).1 (I.ok.bs b o e).2 (I.ok.noex b o e)⟩
theorem Inv.bk (I : Inv X pins σ H s) : ∀ b o, X.base.get? b = some o → s.heap.get? b = some o := fun b o e => (I.bs b o e).1
theorem Inv.mod (I : Inv X pins σ H s) : Mod X.K X.mg X.base := I.ok.mod
theorem Inv.kIn (I : Inv X pins σ H s) : X.K.In s.heap := I.ok.mod.kin.keeps I.bk
/-- the frame over the base: for OpenK's rules (K.In X.base is I.mod.kin) -/
theorem Inv.fr (I : Inv X pins σ H s) : ∃ m, Fr X.base X.env.locals s.heap m :=
  let ⟨m, hn, _⟩ := I.loc
  ⟨m, hn, I.bk, Nat.le_trans I.ok.bsz I.ok.above⟩
theorem Inv.lt (I : Inv X pins σ H s) : X.env.locals < s.heap.objs.size := let ⟨_, hn, _⟩ := I.loc; hn.lt
theorem Inv.sz (I : Inv X pins σ H s) : X.s₀.heap.objs.size ≤ s.heap.objs.size := Nat.le_trans I.ok.above (Nat.le_of_lt I.lt)
theorem Inv.nofs (I : Inv X pins σ H s) {a : Addr} (h : s.heap.objs.size ≤ a) : a ∉ X.fs := fun hb => by
  obtain ⟨_, o, ho, _⟩ := I.ok.funs.mem hb
  exact absurd (Nat.lt_of_lt_of_le (Heap.lt_size ho) (Nat.le_trans I.sz h)) (Nat.lt_irrefl _)
theorem Inv.cne (I : Inv X pins σ H s) : ∀ x c, X.env.cells.lookup x = some c → c ≠ X.env.locals := fun x c e z => by
  obtain ⟨v, o, ho, hd⟩ := I.cell x c e
  obtain ⟨m, ⟨o', es, ep, ho', hd', _⟩, _⟩ := I.loc
  rw [z, ho'] at ho; cases ho; rw [hd'] at hd; cases hd
theorem Inv.funs (I : Inv X pins σ H s) : s.heap.FunFrames X.base X.outer := by
  have all : ∀ (l : List Env), (∀ b ∈ frs l, b ∈ X.fs) → X.s₀.heap.FunFrames X.base l → s.heap.FunFrames X.base l := by
    intro l
    induction l with
    | nil => intro _ _; trivial
    | cons env r ih =>
      intro hs hl
      obtain ⟨hk, ⟨L, o, hf, hn, ho, hd⟩, hr⟩ := hl
      have hL : L ∈ X.fs := hs L (by unfold frs; rw [List.filterMap_cons, hf]; exact List.mem_cons_self)
      obtain ⟨sl, e⟩ := I.base.slot L o ho (I.ok.frf L hL) hL fun z => I.ok.exfs L z hL
      exact ⟨hk, ⟨L, _, hf, hn, e, hd⟩, ih (fun b hb => hs b (by unfold frs; rw [List.filterMap_cons, hf]; exact List.mem_cons_of_mem _ hb)) hr⟩
  exact all X.outer (fun _ hb => hb) I.ok.funs

/-- the frames that run, for a call -/
theorem Inv.stack (I : Inv X pins σ H s) : s.heap.FunFrames X.base X.stack := by
  rcases I.ok.stk with e | ⟨e, hf⟩
  · rw [e]; exact I.funs
  · rw [e]
    obtain ⟨m, hn, _⟩ := I.loc
    refine .cons (by rw [I.ok.kind]; decide) hf hn ?_ I.funs
    exact Heap.get?_none_of_le (Nat.le_trans I.ok.bsz I.ok.above)
theorem Inv.stkSub (I : Inv X pins σ H s) : ∀ b ∈ frs X.stack, b ∈ X.env.locals :: X.fs := fun b hb => by
  rcases I.ok.stk with e | ⟨e, hf⟩
  · rw [e] at hb; exact List.mem_cons_of_mem _ hb
  · rw [e] at hb
    unfold frs at hb
    rw [List.filterMap_cons, hf] at hb
    exact hb
theorem Inv.stkFree (I : Inv X pins σ H s) : ∀ b ∈ frs X.stack, H b = none := fun b hb => by
  rcases List.mem_cons.mp (I.stkSub b hb) with e | hb
  · rw [e]; exact I.free
  · obtain ⟨_, o, ho, _⟩ := I.ok.funs.mem hb
    exact I.base.free b o ho (I.ok.frf b hb) fun z => I.ok.exfs b z hb

/-- THE STEP: the untracked objects but the frame and the records at ch are kept (the callers' frames up to slots), the frame's map is kept, the new abstract heap is held -/
theorem Inv.step {g' : Array GenState} {t' : Nat} {d' : Drawn} {ch : List Addr} (I : Inv X pins σ H s)
    (hch : ∀ b ∈ ch, (b ∈ X.ex ∨ X.s₀.heap.objs.size ≤ b) ∧ b ≠ X.env.locals ∧ (∀ x c, X.env.cells.lookup x = some c → c ≠ b) ∧ ∀ p ∈ X.pn ++ pins, p.1 ≠ b)
    (keep : ∀ b o, b ≠ X.env.locals → b ∉ X.fs → b ∉ ch → s.heap.get? b = some o → H b = none → h'.get? b = some o)
    (slot : ∀ b o, b ≠ X.env.locals → b ∈ X.fs → b ∉ ch → s.heap.get? b = some o → H b = none → ∃ sl, h'.get? b = some { o with slots := sl }) (free : ∀ b o, b ∉ ch → s.heap.get? b = some o → H b = none → H' b = none)
    (there : ∀ b o, b ∉ ch → s.heap.get? b = some o → ∃ o', h'.get? b = some o')
    (tups : ∀ b xs, H b = some (.tup xs) → H' b = some (.tup xs)) (frzs : ∀ b o u, H b = some (.frz o u) → H' b = some (.frz o u)) (tbls : ∀ b ps, H b = some (.tbl ps) → ∃ more, H' b = some (.tbl (ps ++ more)))
    (ns : ∀ m, s.heap.Ns X.env.locals m → h'.Ns X.env.locals m) (hok : HOk X.prog X.w H' h') (hg : AllBare g') :
    Inv X pins σ H' { s with heap := h', gens := g', drawn := d', toks := t' } := by
  have neL : ∀ b o, X.s₀.heap.get? b = some o → b ≠ X.env.locals := fun b o e => Nat.ne_of_lt (Nat.lt_of_lt_of_le (Heap.lt_size e) I.ok.above)
  have neC : ∀ b o, X.s₀.heap.get? b = some o → b ∉ X.ex → b ∉ ch := fun b o e hx hb => by
    rcases (hch b hb).1 with z | z
    · exact hx z
    · exact absurd (Nat.lt_of_lt_of_le (Heap.lt_size e) z) (Nat.lt_irrefl _)
  have cellK : ∀ x c, X.env.cells.lookup x = some c → ∀ v, s.heap.IsCell c v → h'.IsCell c v := fun x c e v ⟨o, ho, hd⟩ => by
    have nch : c ∉ ch := fun z => (hch c z).2.2.1 x c e rfl
    by_cases hc : c ∈ X.fs
    · obtain ⟨sl, q⟩ := slot c o (I.cne x c e) hc nch ho (I.freeC x c e)
      exact ⟨_, q, hd⟩
    · exact ⟨o, keep c o (I.cne x c e) hc nch ho (I.freeC x c e), hd⟩
  refine ⟨I.ok, I.os, hg, ⟨fun b o e n hb hx => ?_, fun b o e n hb hx => ?_, fun b o e n hx => ?_, fun b o e hx => ?_, fun b xs e => tups b xs (I.base.tups b xs e), fun b o xs e => frzs b o xs (I.base.frzs b o xs e), fun b ps e => ?_⟩, ?_, fun x c e => ?_, ?_, fun x c e => ?_, fun p hp => ?_, hok, I.len⟩
  · exact keep b o (neL b o e) hb (neC b o e hx) (I.base.keep b o e n hb hx) (I.base.free b o e n hx)
  · obtain ⟨sl, e1⟩ := I.base.slot b o e n hb hx
    obtain ⟨sl', e2⟩ := slot b _ (neL b o e) hb (neC b o e hx) e1 (I.base.free b o e n hx)
    exact ⟨sl', e2⟩
  · obtain ⟨o', e1⟩ := I.base.there b o e hx
    exact free b o' (neC b o e hx) e1 (I.base.free b o e n hx)
  · obtain ⟨o', e1⟩ := I.base.there b o e hx
    exact there b o' (neC b o e hx) e1
  · obtain ⟨m1, e1⟩ := I.base.tbls b ps e
    obtain ⟨m2, e2⟩ := tbls b _ e1
    exact ⟨m1 ++ m2, by rw [e2, Array.append_assoc]⟩
  · obtain ⟨m, hn, hl⟩ := I.loc
    refine ⟨m, ns m hn, fun i x v e1 e2 e3 => ?_⟩
    obtain ⟨u, r, l⟩ := hl i x v e1 e2 e3
    refine ⟨u, r, ?_⟩
    rcases l with l | ⟨k, c, e, z⟩
    · exact .inl l
    · exact .inr ⟨k, c, e, cellK x c e _ z⟩
  · obtain ⟨v, z⟩ := I.cell x c e
    exact ⟨v, cellK x c e v z⟩
  · obtain ⟨m, ⟨o, _, _, ho, _⟩, _⟩ := I.loc
    exact free _ o (fun z => (hch _ z).2.1 rfl) ho I.free
  · obtain ⟨v, o, ho, hd⟩ := I.cell x c e
    exact free c o (fun z => (hch c z).2.2.1 x c e rfl) ho (I.freeC x c e)
  · obtain ⟨e, n, ne, nf, d⟩ := I.pin p hp
    have nch : p.1 ∉ ch := fun z => (hch p.1 z).2.2.2 p hp rfl
    exact ⟨keep p.1 p.2 ne nf nch e n, free p.1 p.2 nch e n, ne, nf, d⟩
/-- .. where the frame's own object is kept too -/
theorem Inv.un {t' : Nat} (I : Inv X pins σ H s) (u : Un X.fs [] H H' s.heap h') (hok : HOk X.prog X.w H' h') : Inv X pins σ H' { s with heap := h', toks := t' } := by
  obtain ⟨m, ⟨o, es, ep, ho, r⟩, _⟩ := id I.loc
  obtain ⟨sl, hL⟩ := u.any ho I.free (by simp)
  exact I.step (g' := s.gens) (d' := s.drawn) (ch := []) (fun _ z => nomatch z) (fun b o _ hb _ e n => u.keep b o e n hb (by simp)) (fun b o _ hb _ e n => u.slot b o e n hb (by simp)) (fun b o _ e n => u.free b o e n (by simp)) (fun b o _ e => u.there b o e (by simp)) u.tups u.frzs u.tbls (fun m' hm => by
    obtain ⟨o', es', ep', ho', r'⟩ := hm
    rw [ho] at ho'; cases ho'
    exact ⟨_, es', ep', hL, r'⟩) hok I.bare
/-- behind a call (or a comprehension's block): the slots of this frame may have changed too, the records at ch may have turned -/
theorem Inv.call {g' : Array GenState} {t' : Nat} {d' : Drawn} {ch : List Addr} (I : Inv X pins σ H s) (u : Un (frs X.stack) ch H H' s.heap h') (hok : HOk X.prog X.w H' h') (hg : AllBare g')
    (hch : ∀ b ∈ ch, (b ∈ X.ex ∨ X.s₀.heap.objs.size ≤ b) ∧ b ≠ X.env.locals ∧ (∀ x c, X.env.cells.lookup x = some c → c ≠ b) ∧ ∀ p ∈ X.pn ++ pins, p.1 ≠ b) :
    Inv X pins σ H' { s with heap := h', gens := g', drawn := d', toks := t' } := by
  obtain ⟨m, ⟨o, es, ep, ho, r⟩, _⟩ := id I.loc
  obtain ⟨sl, hL⟩ := u.any ho I.free fun z => (hch _ z).2.1 rfl
  exact I.step (ch := ch) hch (fun b o hL hb hc e n => u.keep b o e n (fun z => (List.mem_cons.mp (I.stkSub b z)).elim hL hb) hc) (fun b o _ _ hc e n => u.any e n hc) (fun b o hc e n => u.free b o e n hc) (fun b o hc e => u.there b o e hc) u.tups u.frzs u.tbls (fun m' hm => by
    obtain ⟨o', es', ep', ho', r'⟩ := hm
    rw [ho] at ho'; cases ho'
    exact ⟨_, es', ep', hL, r'⟩) hok hg
/-- an untracked record of ours (an iterator) has turned -/
theorem Inv.turned {t' : Nat} {it : Addr} (I : Inv X pins σ H s) (k : ∀ b o, b ≠ it → s.heap.get? b = some o → h'.get? b = some o) (hn : H it = none) (hL : it ≠ X.env.locals)
    (h1 : it ∈ X.ex ∨ X.s₀.heap.objs.size ≤ it) (h2 : ∀ x c, X.env.cells.lookup x = some c → c ≠ it) (h3 : ∀ p ∈ X.pn ++ pins, p.1 ≠ it) : Inv X pins σ H { s with heap := h', toks := t' } := by
  have nit : ∀ b u, H b = some u → b ≠ it := fun b u e z => by rw [z, hn] at e; cases e
  refine I.step (g' := s.gens) (d' := s.drawn) (ch := [it]) (fun b hb => ?_) (fun b o _ _ hc e _ => k b o (fun z => hc (by simp [z])) e) (fun b o _ _ hc e _ => ⟨o.slots, k b o (fun z => hc (by simp [z])) e⟩) (fun _ _ _ _ n => n)
    (fun b o hc e => ⟨o, k b o (fun z => hc (by simp [z])) e⟩) (fun _ _ e => e) (fun _ _ _ e => e) (fun b ps e => ⟨#[], by rw [e]; simp⟩) (fun m hm => ?_) (fun b u e => ?_) I.bare
  · have e : b = it := by simpa using hb
    subst e
    exact ⟨h1, hL, h2, h3⟩
  · obtain ⟨o, es, ep, ho, r⟩ := hm
    exact ⟨o, es, ep, k _ o (Ne.symm hL) ho, r⟩
  · refine (I.hok b u e).stay (fun c v hc q => k c v ?_ q) (fun _ q => q) fun _ _ q => q
    rcases hc with z | z
    · rw [z]; exact nit b u e
    · exact nit c _ z
theorem Inv.tok (I : Inv X pins σ H s) (t : Nat) : Inv X pins σ H { s with toks := t } := I.un (h' := s.heap) (t' := t) Un.refl I.hok
/-- all objects kept -/
theorem Inv.kept {t' : Nat} (I : Inv X pins σ H s) (k : ∀ b u, s.heap.get? b = some u → h'.get? b = some u) : Inv X pins σ H { s with heap := h', toks := t' } := I.un (Un.kept k) (I.hok.kept k)
/-- a new object laid and tracked -/
theorem Inv.laid {a : Addr} {o : HO} {t' : Nat} (I : Inv X pins σ H s) (k : ∀ b u, s.heap.get? b = some u → h'.get? b = some u) (hp : s.heap.objs.size ≤ a) (new : ObjOk X.prog X.w (upd H a o) h' a o) :
    Inv X pins σ (upd H a o) { s with heap := h', toks := t' } := I.un (Un.laid k hp (I.hok.fresh hp)) (I.hok.laid k hp new)
/-- an object written -/
theorem Inv.write {x e : Addr} {o : HO} {t' : Nat} (I : Inv X pins σ H s) (mu : Mut (H x)) (he : e = x ∨ H e = some (.own x)) (k : ∀ b u, b ≠ e → s.heap.get? b = some u → h'.get? b = some u) (heo : ∃ u, h'.get? e = some u)
    (new : ObjOk X.prog X.w (upd H x o) h' x o) : Inv X pins σ (upd H x o) { s with heap := h', toks := t' } := I.un (Un.write mu he k heo) (I.hok.write mu he k heo new)
/-- forgetting slots, pins -/
theorem Inv.weak {σ' : List (Option V)} (I : Inv X pins σ H s) (hl : σ'.length = σ.length) (w : ∀ (i : Nat) v, σ'[i]? = some (some v) → σ[i]? = some (some v)) : Inv X pins σ' H s :=
  ⟨I.ok, I.os, I.bare, I.base, let ⟨m, hn, hl'⟩ := I.loc; ⟨m, hn, fun i x v e1 e2 e3 => hl' i x v e1 (w i v e2) e3⟩, I.cell, I.free, I.freeC, I.pin, I.hok, hl.trans I.len⟩
theorem Inv.pins_of {pins' : List (Addr × Obj)} (I : Inv X pins σ H s) (h : ∀ p ∈ pins', s.heap.get? p.1 = some p.2 ∧ H p.1 = none ∧ p.1 ≠ X.env.locals ∧ p.1 ∉ X.fs ∧ ∀ v, p.2.data ≠ .cell v) : Inv X pins' σ H s :=
  ⟨I.ok, I.os, I.bare, I.base, I.loc, I.cell, I.free, I.freeC, fun p hp => (List.mem_append.mp hp).elim (fun z => I.pin p (List.mem_append_left _ z)) (h p), I.hok, I.len⟩

theorem nodup_ix {N : List Str} (hN : N.Nodup) {i j : Nat} {x : Str} (a : N[i]? = some x) (b : N[j]? = some x) : i = j := by
  obtain ⟨h1, e1⟩ := List.getElem?_eq_some_iff.mp a
  obtain ⟨h2, e2⟩ := List.getElem?_eq_some_iff.mp b
  exact (List.getElem_inj hN).mp (e1.trans e2.symm)

/-- a name is stored; what changed -/
theorem store_ok2 {M : Model} {A : Around} {E : Value → Shared → Prop} {i : Nat} {x : Str} {v : V} {u : Value} {Q : Unit → Shared → Prop} (I : Inv X pins σ H s) (hN : X.N.Nodup) (hi : X.N[i]? = some x) (hx : Loc X.env.scope x) (r : RelV v u)
    (h : ∀ s', Inv X pins (σ.set i (some v)) H s' → (∃ a, Heap.SameBut a s.heap s'.heap ∧ (a = X.env.locals ∨ X.env.cells.lookup x = some a)) → Q () s') (hf : X.fn x = true ∨ X.env.scope.names.lookup x = some .local := by first | exact .inl rfl | exact .inr rfl | assumption) : wpAny M A (storeName X.env x u) Q E s := by
  obtain ⟨m, hn, hl⟩ := id I.loc
  have hcls : (X.env.scope.kind == .class || (X.env.scope.kind == .module && X.env.locals != X.env.globals)) = false := by rw [I.ok.kind]; rfl
  have hiσ : i < σ.length := by rw [I.len]; exact (List.getElem?_eq_some_iff.mp hi).1
  have cne := I.cne
  have tracked : ∀ {a : Addr} {h' : Heap}, (∃ o, s.heap.get? a = some o ∧ H a = none) → Heap.SameBut a s.heap h' → HOk X.prog X.w H h' := fun {a h'} ha hs b ob e => by
    obtain ⟨_, _, hfree⟩ := ha
    refine (I.hok b ob e).stay (fun c w' hc q => (hs.2 c ?_).trans q) (fun _ q => q) fun _ _ q => q
    rintro rfl
    rcases hc with rfl | hc
    · rw [hfree] at e; cases e
    · rw [hfree] at hc; cases hc
  rcases hx with hk | hk
  · refine wpAny_storeName_local hk hn (fun h' hn' hs => ?_) hcls
    obtain ⟨oL, _, _, hoL, _⟩ := id hn
    refine h _ ⟨I.ok, I.os, I.bare, ⟨fun b o e n hb hx => ?_, fun b o e n hb hx => ?_, I.base.free, fun b o e hx => ?_, I.base.tups, I.base.frzs, I.base.tbls⟩, ⟨_, hn', fun j y v' e1 e2 e3 => ?_⟩, fun y c e => ?_, I.free, I.freeC, fun p hp => ?_, tracked ⟨oL, hoL, I.free⟩ hs, by simpa using I.len⟩ ⟨_, hs, .inl rfl⟩
    · exact (hs.2 b (Nat.ne_of_lt (Nat.lt_of_lt_of_le (Heap.lt_size e) I.ok.above))).trans (I.base.keep b o e n hb hx)
    · obtain ⟨sl, e1⟩ := I.base.slot b o e n hb hx
      exact ⟨sl, (hs.2 b (Nat.ne_of_lt (Nat.lt_of_lt_of_le (Heap.lt_size e) I.ok.above))).trans e1⟩
    · obtain ⟨o', e1⟩ := I.base.there b o e hx
      exact ⟨o', (hs.2 b (Nat.ne_of_lt (Nat.lt_of_lt_of_le (Heap.lt_size e) I.ok.above))).trans e1⟩
    · by_cases hj : j = i
      · subst hj
        rw [hi] at e1; cases e1
        rw [List.getElem?_set_self hiσ] at e2
        cases e2
        exact ⟨u, r, .inl ⟨hk, by simp⟩⟩
      · rw [List.getElem?_set_ne (Ne.symm hj)] at e2
        obtain ⟨u', r', q⟩ := hl j y v' e1 e2 e3
        refine ⟨u', r', ?_⟩
        rcases q with ⟨k, e⟩ | ⟨k, c, e, z⟩
        · refine .inl ⟨k, ?_⟩
          have : y ≠ x := fun e => hj (nodup_ix hN e1 (e ▸ hi))
          simp [this, e]
        · exact .inr ⟨k, c, e, z.sameBut hs (cne y c e)⟩
    · obtain ⟨w', z⟩ := I.cell y c e
      exact ⟨w', z.sameBut hs (cne y c e)⟩
    · obtain ⟨e, n, ne, nf, d⟩ := I.pin p hp
      exact ⟨(hs.2 p.1 ne).trans e, n, ne, nf, d⟩
  · have hfn : X.fn x = true := by
      rcases hf with z | z
      · exact z
      · rw [z] at hk; cases hk
    obtain ⟨c, hc⟩ := I.ok.has x (.inl hk)
    obtain ⟨w', z⟩ := I.cell x c hc
    refine wpAny_storeName_cell I.ok.kind hk hc z (fun h' hc' hs => ?_)
    obtain ⟨oc, hoc, hocd⟩ := id z
    refine h { s with heap := h' } ⟨I.ok, I.os, I.bare, ⟨fun b o e n hb hx => ?_, fun b o e n hb hx => ?_, I.base.free, fun b o e hx => ?_, I.base.tups, I.base.frzs, I.base.tbls⟩, ⟨m, hn.sameBut hs (Ne.symm (cne x c hc)), fun j y v' e1 e2 e3 => ?_⟩, fun y c' e => ?_, I.free, I.freeC, fun p hp => ?_, tracked ⟨oc, hoc, I.freeC x c hc⟩ hs, by simpa using I.len⟩ ⟨c, hs, .inr hc⟩
    · exact (hs.2 b (Nat.ne_of_lt (Nat.lt_of_lt_of_le (Heap.lt_size e) (I.ok.cab x c hfn hc)))).trans (I.base.keep b o e n hb hx)
    · obtain ⟨sl, e1⟩ := I.base.slot b o e n hb hx
      exact ⟨sl, (hs.2 b (Nat.ne_of_lt (Nat.lt_of_lt_of_le (Heap.lt_size e) (I.ok.cab x c hfn hc)))).trans e1⟩
    · obtain ⟨o', e1⟩ := I.base.there b o e hx
      exact ⟨o', (hs.2 b (Nat.ne_of_lt (Nat.lt_of_lt_of_le (Heap.lt_size e) (I.ok.cab x c hfn hc)))).trans e1⟩
    · by_cases hj : j = i
      · subst hj
        rw [hi] at e1; cases e1
        rw [List.getElem?_set_self hiσ] at e2
        cases e2
        exact ⟨u, r, .inr ⟨.inl hk, c, hc, hc'⟩⟩
      · rw [List.getElem?_set_ne (Ne.symm hj)] at e2
        obtain ⟨u', r', q⟩ := hl j y v' e1 e2 e3
        refine ⟨u', r', ?_⟩
        rcases q with q | ⟨k, c', e, z'⟩
        · exact .inl q
        · refine .inr ⟨k, c', e, z'.sameBut hs ?_⟩
          rintro rfl
          exact hj (nodup_ix hN e1 (I.ok.inj _ _ _ e hc ▸ hi))
    · by_cases hcc : c' = c
      · subst hcc; exact ⟨_, hc'⟩
      · obtain ⟨w2, z2⟩ := I.cell y c' e
        exact ⟨w2, z2.sameBut hs hcc⟩
    · obtain ⟨e, n, ne, nf, d⟩ := I.pin p hp
      refine ⟨(hs.2 p.1 ?_).trans e, n, ne, nf, d⟩
      intro q
      rw [q, hoc] at e
      have q' : oc = p.2 := Option.some.inj e
      exact d w' (by rw [← q']; exact hocd)
theorem store_ok {M : Model} {A : Around} {E : Value → Shared → Prop} {i : Nat} {x : Str} {v : V} {u : Value} {Q : Unit → Shared → Prop} (I : Inv X pins σ H s) (hN : X.N.Nodup) (hi : X.N[i]? = some x) (hx : Loc X.env.scope x) (r : RelV v u)
    (h : ∀ s', Inv X pins (σ.set i (some v)) H s' → Q () s') (hf : X.fn x = true ∨ X.env.scope.names.lookup x = some .local := by first | exact .inl rfl | exact .inr rfl | assumption) : wpAny M A (storeName X.env x u) Q E s :=
  store_ok2 I hN hi hx r (fun s' I' _ => h s' I') hf
/-- behind a call or a block, the state as it is -/
theorem Inv.call' {s' : Shared} {ch : List Addr} (I : Inv X pins σ H s) (ho : s'.os = s.os) (u : Un (frs X.stack) ch H H' s.heap s'.heap) (hok : HOk X.prog X.w H' s'.heap) (hg : AllBare s'.gens)
    (hch : ∀ b ∈ ch, (b ∈ X.ex ∨ X.s₀.heap.objs.size ≤ b) ∧ b ≠ X.env.locals ∧ (∀ x c, X.env.cells.lookup x = some c → c ≠ b) ∧ ∀ p ∈ X.pn ++ pins, p.1 ≠ b) : Inv X pins σ H' s' := by
  obtain ⟨h', g', d', t', o'⟩ := s'
  have e : o' = s.os := ho
  subst e
  exact I.call (g' := g') (t' := t') (d' := d') u hok hg hch
end

/-! ### the judgements -/
/-- an exception: its class, its own dict's address (where it has one), the abstract heap behind it -/
noncomputable abbrev XK := Value → Option Addr → Hp → Prop
noncomputable abbrev St := List (Option V)
noncomputable abbrev VK := V → Hp → Prop
/-- an expression's reading; a test's; an argument list's -/
noncomputable abbrev TE := St → Hp → VK → Prop
noncomputable abbrev TT := St → Hp → (Bool → Hp → Prop) → Prop
noncomputable abbrev TA := St → Hp → (List V → Hp → Prop) → Prop
/-- what is wanted behind a statement -/
structure Ends where
  nx : St → Hp → Prop
  rt : VK
  bk : St → Hp → Prop := fun _ _ => False
  ct : St → Hp → Prop := fun _ _ => False
noncomputable abbrev TS := Ends → St → Hp → Prop

noncomputable def EP (X : Cx) (pins : List (Addr × Obj)) (σ : St) (Q : VK) (u : Value) (s' : Shared) : Prop := ∃ v H', Inv X pins σ H' s' ∧ RelV v u ∧ Q v H'
noncomputable def TP (X : Cx) (pins : List (Addr × Obj)) (σ : St) (Q : Bool → Hp → Prop) (b : Bool) (s' : Shared) : Prop := ∃ H', Inv X pins σ H' s' ∧ Q b H'
noncomputable def AP (X : Cx) (pins : List (Addr × Obj)) (σ : St) (Q : List V → Hp → Prop) (us : List Value) (s' : Shared) : Prop := ∃ vs H', Inv X pins σ H' s' ∧ Vals vs us ∧ Q vs H'
noncomputable def SP (X : Cx) (pins : List (Addr × Obj)) (D : Ends) (f : Flow) (s' : Shared) : Prop :=
  match f with
  | .next => ∃ σ' H', Inv X pins σ' H' s' ∧ D.nx σ' H'
  | .brk => ∃ σ' H', Inv X pins σ' H' s' ∧ D.bk σ' H'
  | .cont => ∃ σ' H', Inv X pins σ' H' s' ∧ D.ct σ' H'
  | .ret u => ∃ v σ' H', Inv X pins σ' H' s' ∧ RelV v u ∧ D.rt v H'

noncomputable def PE (X : Cx) (e : Expr) (t : TE) : Prop :=
  ∀ (pins : List (Addr × Obj)) (s : Shared) (σ : St) (H : Hp) (Q : VK), Inv X pins σ H s → t σ H Q → wpAny (model X.prog X.w) X.A (eval e X.env) (EP X pins σ Q) X.xe s
noncomputable def PT (X : Cx) (e : Expr) (t : TT) : Prop :=
  ∀ (pins : List (Addr × Obj)) (s : Shared) (σ : St) (H : Hp) (Q : Bool → Hp → Prop), Inv X pins σ H s → t σ H Q → wpAny (model X.prog X.w) X.A (isTrue e X.env (eval e X.env)) (TP X pins σ Q) X.xe s
/-- a test whatever its 'whole' is (and, or) -/
noncomputable def PW (X : Cx) (e : Expr) (t : TT) : Prop :=
  ∀ (whole : Sem Value) (pins : List (Addr × Obj)) (s : Shared) (σ : St) (H : Hp) (Q : Bool → Hp → Prop), Inv X pins σ H s → t σ H Q → wpAny (model X.prog X.w) X.A (isTrue e X.env whole) (TP X pins σ Q) X.xe s
theorem PW.pt {X : Cx} {e : Expr} {t : TT} (h : PW X e t) : PT X e t := h _
/-- an argument list (no star), from the left -/
noncomputable def PA (X : Cx) (es : List Expr) (t : TA) : Prop :=
  ∀ (pos : Pos) (pins : List (Addr × Obj)) (s : Shared) (σ : St) (H : Hp) (Q : List V → Hp → Prop), Inv X pins σ H s → t σ H Q → wpAny (model X.prog X.w) X.A (spliced (backTo pos (starEach es X.env))) (AP X pins σ Q) X.xe s
noncomputable def PS (X : Cx) (st : Stmt) (t : TS) : Prop :=
  ∀ (pins : List (Addr × Obj)) (s : Shared) (σ : St) (H : Hp) (D : Ends), Inv X pins σ H s → t D σ H → wpAny (model X.prog X.w) X.A (exec st X.env) (SP X pins D) X.xe s
noncomputable def PSs (X : Cx) (st : List Stmt) (t : TS) : Prop :=
  ∀ (pins : List (Addr × Obj)) (s : Shared) (σ : St) (H : Hp) (D : Ends), Inv X pins σ H s → t D σ H → wpAny (model X.prog X.w) X.A (execs st X.env) (SP X pins D) X.xe s
/-- weaken the end -/
theorem thn {α : Type} {t : Sem α} {Q Q' : α → Shared → Prop} {M : Model} {A : Around} {E : Value → Shared → Prop} {s : Shared} (h : wpAny M A t Q E s) (hQ : ∀ a s, Q a s → Q' a s) : wpAny M A t Q' E s := wpAny_mono h hQ fun _ _ x => x
end L2

namespace L2
open PySem PySem.Spec PyProof.Rows
section
variable {X : Cx}

/-- two expressions in a row -/
theorem bin {a b : Expr} {ta tb : TE} (ha : PE X a ta) (hb : PE X b tb) {pins : List (Addr × Obj)} {s : Shared} {σ : St} {H : Hp} {R : V → V → Hp → Prop} (I : Inv X pins σ H s) (h : ta σ H fun x H1 => tb σ H1 fun y H2 => R x y H2)
    {α : Type} {Q : α → Shared → Prop} {f : Value → Value → Sem α}
    (hf : ∀ v u s2 x y H2, Inv X pins σ H2 s2 → RelV x v → RelV y u → R x y H2 → wpAny (model X.prog X.w) X.A (f v u) Q X.xe s2) :
    wpAny (model X.prog X.w) X.A (eval a X.env) (fun v s₁ => wpAny (model X.prog X.w) X.A (eval b X.env) (fun u s₂ => wpAny (model X.prog X.w) X.A (f v u) Q X.xe s₂) X.xe s₁) X.xe s := by
  refine thn (ha pins s σ H _ I h) fun v s1 ⟨x, H1, I1, r1, q1⟩ => ?_
  refine thn (hb pins s1 σ H1 _ I1 q1) fun u s2 ⟨y, H2, I2, r2, q2⟩ => ?_
  exact hf v u s2 x y H2 I2 r1 r2 q2

/-! ### names and constants -/
noncomputable def tVar (i : Nat) : TE := fun σ H Q => ∃ v, σ[i]? = some (some v) ∧ Q v H
noncomputable def tC (v : V) : TE := fun _ H Q => Q v H
theorem pe_var {i : Nat} {x : Str} {pos : Pos} (hN : X.N[i]? = some x) (hv : Vis X.env.scope x) (hd : (x == ("__debug__" : Str)) = false := by decide) (hcd : (x == ("__classdict__" : Str)) = false := by decide) : PE X (.Name x pos) (tVar i) := by
  intro pins s σ H Q I h
  obtain ⟨v, e, h⟩ := h
  obtain ⟨m, hn, hl⟩ := I.loc
  obtain ⟨u, r, l⟩ := hl i x v hN e hv
  have fin : EP X pins σ Q u s := ⟨v, H, I, r, h⟩
  rcases l with ⟨hk, hm⟩ | ⟨hk, c, hc, hcell⟩
  · exact wpAny_Name (wpAny_loadName_local I.ok.kind hk hn hm fin) hd
  · rcases hk with hk | hk
    · exact wpAny_Name (wpAny_loadName_cell I.ok.kind hk hc hcell fin) hd
    · exact wpAny_Name (wpAny_loadName_free I.ok.kind hk hc hcell fin hcd) hd
theorem pe_int {i j pos} : PE X (.Constant (.int i) j pos) (tC (.int i)) := fun _ _ _ H _ I h => wpAny_Constant_int ⟨.int i, H, I.tok _, ⟨_, rfl⟩, h⟩
theorem pe_bl {b j pos} : PE X (.Constant (.bool b) j pos) (tC (.bl b)) := fun _ _ _ H _ I h => Constant_bool ⟨.bl b, H, I, rfl, h⟩
theorem pe_non {j pos} : PE X (.Constant .none j pos) (tC .non) := fun _ _ _ H _ I h => Constant_none ⟨.non, H, I, rfl, h⟩
theorem pe_str {x j pos} : PE X (.Constant (.str x) j pos) (tC (.str x)) := fun _ _ _ H _ I h => Calls.Constant_str ⟨.str x, H, I.tok _, ⟨_, rfl⟩, h⟩

/-- a global name of the def -/
noncomputable def Gl (X : Cx) (x : Str) : Prop := X.env.kindOf x = some .globalImplicit
theorem ld_glob {E : Value → Shared → Prop} {pins : List (Addr × Obj)} {s : Shared} {σ : St} {H : Hp} {x : Str} {u : Value} {pos : Pos} {Q : Value → Shared → Prop} (I : Inv X pins σ H s) (hg : Gl X x) (hm : X.mg x = some u) (h : Q u s)
    (hd : (x == ("__debug__" : Str)) = false := by decide) : wpAny (model X.prog X.w) X.A (eval (.Name x pos) X.env) Q E s :=
  Calls.Name_function_global I.ok.kind hg (Calls.loadGlobal_global (by rw [I.ok.glob]; exact I.mod.glob.keeps I.bk) hm h) hd
theorem ld_blt {E : Value → Shared → Prop} {pins : List (Addr × Obj)} {s : Shared} {σ : St} {H : Hp} {x : Str} {u : Value} {pos : Pos} {Q : Value → Shared → Prop} (I : Inv X pins σ H s) (hg : Gl X x) (hm : X.mg x = none) (hv : bootBuiltins x = some u) (h : Q u s)
    (hn : x ≠ "__name__" := by decide) (hd : (x == ("__debug__" : Str)) = false := by decide) : wpAny (model X.prog X.w) X.A (eval (.Name x pos) X.env) Q E s := by
  obtain ⟨mb, h1, h2⟩ := I.mod.blt
  exact Calls.Name_function_global I.ok.kind hg (Calls.loadGlobal_builtin (by rw [I.ok.glob]; exact I.mod.glob.keeps I.bk) hm (by rw [I.ok.blt]; exact h1.keeps I.bk) ((h2 x hn).trans hv) h) hd
/-- a module's constant, a class, a function, as a value -/
theorem pe_glob {x : Str} {v : V} {u : Value} {pos : Pos} (hg : Gl X x) (hm : X.mg x = some u) (r : RelV v u) (hd : (x == ("__debug__" : Str)) = false := by decide) : PE X (.Name x pos) (tC v) :=
  fun _ _ _ H _ I h => ld_glob I hg hm ⟨v, H, I, r, h⟩ hd
theorem pe_bltn {x : Str} {v : V} {u : Value} {pos : Pos} (hg : Gl X x) (hm : X.mg x = none) (hv : bootBuiltins x = some u) (r : RelV v u) (hn : x ≠ "__name__" := by decide) (hd : (x == ("__debug__" : Str)) = false := by decide) : PE X (.Name x pos) (tC v) :=
  fun _ _ _ H _ I h => ld_blt I hg hm hv ⟨v, H, I, r, h⟩ hn hd

/-! ### arithmetic -/
/-- two ints -/
noncomputable def t2I (ta tb : TE) (k : Int → Int → Hp → Prop) : St → Hp → Prop := fun σ H => ta σ H fun x H1 => tb σ H1 fun y H2 => ∃ i j, x = .int i ∧ y = .int j ∧ k i j H2
noncomputable def tAdd (ta tb : TE) : TE := fun σ H Q => t2I ta tb (fun i j H2 => Q (.int (i + j)) H2) σ H
noncomputable def tSub (ta tb : TE) : TE := fun σ H Q => t2I ta tb (fun i j H2 => Q (.int (i - j)) H2) σ H
/-- the left factor below 2^64 -/
noncomputable def tMul (ta tb : TE) : TE := fun σ H Q => t2I ta tb (fun i j H2 => (-(2 ^ 64) < i ∧ i < 2 ^ 64) ∧ Q (.int (i * j)) H2) σ H
variable {a b : Expr} {ta tb : TE} {pos : Pos}

/-! ### comparisons -/
noncomputable def PC (X : Cx) (op : CmpOp) (a b : Expr) (t : TE) : Prop :=
  ∀ (pins : List (Addr × Obj)) (s : Shared) (σ : St) (H : Hp) (Q : VK), Inv X pins σ H s → t σ H Q →
    wpAny (model X.prog X.w) X.A (eval a X.env) (fun v s₁ => wpAny (model X.prog X.w) X.A (eval b X.env) (fun u s₂ => wpAny (model X.prog X.w) X.A (compareOp op v u) (EP X pins σ Q) X.xe s₂) X.xe s₁) X.xe s
noncomputable def tCmp (p : Int → Int → Bool) (ta tb : TE) : TE := fun σ H Q => t2I ta tb (fun i j H2 => Q (.bl (p i j)) H2) σ H
noncomputable abbrev tLt : TE → TE → TE := tCmp fun i j => decide (i < j)
noncomputable abbrev tLe : TE → TE → TE := tCmp fun i j => decide (i ≤ j)
noncomputable abbrev tGt : TE → TE → TE := tCmp fun i j => decide (j < i)
noncomputable abbrev tGe : TE → TE → TE := tCmp fun i j => decide (j ≤ i)
noncomputable abbrev tEqI : TE → TE → TE := tCmp fun i j => decide (i = j)
noncomputable abbrev tNeI : TE → TE → TE := tCmp fun i j => !decide (i = j)
/-- is None -/
noncomputable def tIsN (ta : TE) : TE := fun σ H Q => ta σ H fun x H1 => Q (.bl (decide (x = .non))) H1
noncomputable def tNotN (ta : TE) : TE := fun σ H Q => ta σ H fun x H1 => Q (.bl (!decide (x = .non))) H1
/-- a comparison as a value, as a test -/
noncomputable def tB (t : TE) : TT := fun σ H Q => t σ H fun x H1 => ∃ c, x = .bl c ∧ Q c H1
theorem pt_cmp {op : CmpOp} {t : TE} (h : PC X op a b t) (h1 : behindInMarks op b = false := by first | exact nobehind _ (by decide) (by decide) | rfl) : PT X (.Compare a [op] [b] pos) (tB t) := by
  intro pins s σ H Q I hw
  refine wpAny_isTrue_Compare1 (thn (h pins s σ H _ I hw) fun v s1 h1 => thn h1 fun u s2 h2 => thn h2 fun c s3 ⟨x, H1, I1, r1, q1⟩ => ?_) h1
  obtain ⟨d, rfl, q⟩ := q1
  cases r1
  exact wpAny_truthy_bool ⟨H1, I1, q⟩
/-- an expression whose value is a bool, as a test -/
theorem pt_val {e : Expr} {t : TE} (h : PE X e t) (he : ∀ whole, isTrue e X.env whole = (do let v ← whole; standAt e.pos; holding [v] (truthy v)) := by intro _; rfl) : PT X e (tB t) := by
  intro pins s σ H Q I hw
  refine isTrue_plain (thn (h pins s σ H _ I hw) fun v s1 ⟨x, H1, I1, r1, q1⟩ => ?_) (he _)
  obtain ⟨d, rfl, q⟩ := q1
  cases r1
  exact wpAny_truthy_bool ⟨H1, I1, q⟩

/-! ### and, or, not -/
variable {tA tB' : TT} {rest : List Expr}
noncomputable def tAnd (t u : TT) : TT := fun σ H Q => t σ H fun c H1 => if c = true then u σ H1 Q else Q false H1
noncomputable def tOr (t u : TT) : TT := fun σ H Q => t σ H fun c H1 => if c = true then Q true H1 else u σ H1 Q
noncomputable def tNot (t : TT) : TT := fun σ H Q => t σ H fun c H1 => Q (!c) H1
theorem pw_and1 (ha : PT X a tA) : PW X (.BoolOp .And [a] pos) tA := by
  intro wh pins s σ H Q I h
  refine isTrue_and (thn (ha pins s σ H Q I h) fun c s1 e => ?_)
  cases c with
  | true => exact isTrue_and_nil e
  | false => exact e
theorem pw_or1 (ha : PT X a tA) : PW X (.BoolOp .Or [a] pos) tA := by
  intro wh pins s σ H Q I h
  refine isTrue_or (thn (ha pins s σ H Q I h) fun c s1 e => ?_)
  cases c with
  | false => exact isTrue_or_nil e
  | true => exact e
theorem pw_and (ha : PT X a tA) (hb : PW X (.BoolOp .And (b :: rest) pos) tB') : PW X (.BoolOp .And (a :: b :: rest) pos) (tAnd tA tB') := by
  intro wh pins s σ H Q I h
  refine isTrue_and (thn (ha pins s σ H _ I h) fun c s1 ⟨H1, I1, q1⟩ => ?_)
  cases c with
  | true => exact hb wh pins s1 σ H1 Q I1 q1
  | false => exact ⟨H1, I1, q1⟩
theorem pw_or (ha : PT X a tA) (hb : PW X (.BoolOp .Or (b :: rest) pos) tB') : PW X (.BoolOp .Or (a :: b :: rest) pos) (tOr tA tB') := by
  intro wh pins s σ H Q I h
  refine isTrue_or (thn (ha pins s σ H _ I h) fun c s1 ⟨H1, I1, q1⟩ => ?_)
  cases c with
  | true => exact ⟨H1, I1, q1⟩
  | false => exact hb wh pins s1 σ H1 Q I1 q1
theorem pt_not (ha : PT X a tA) : PT X (.UnaryOp .Not a pos) (tNot tA) := by
  intro pins s σ H Q I h
  exact isTrue_not (ha pins s σ H (fun c H1 => Q (!c) H1) I h)
/-- .. as values (bools) -/
noncomputable def tAndV (ta tb : TE) : TE := fun σ H Q => ta σ H fun x H1 => ∃ c, x = .bl c ∧ if c = true then tb σ H1 Q else Q (.bl false) H1
noncomputable def tOrV (ta tb : TE) : TE := fun σ H Q => ta σ H fun x H1 => ∃ c, x = .bl c ∧ if c = true then Q (.bl true) H1 else tb σ H1 Q
noncomputable def tNotV (ta : TE) : TE := fun σ H Q => ta σ H fun x H1 => ∃ c, x = .bl c ∧ Q (.bl (!c)) H1
theorem pe_one {op} {t : TE} (h : PE X a t) : PE X (.BoolOp op [a] pos) t := fun pins s σ H Q I hw => BoolOp_one (h pins s σ H Q I hw)
theorem pe_and (ha : PE X a ta) (hb : PE X (.BoolOp .And (b :: rest) pos) tb) : PE X (.BoolOp .And (a :: b :: rest) pos) (tAndV ta tb) := by
  intro pins s σ H Q I h
  refine BoolOp_and (thn (ha pins s σ H _ I h) fun v s1 ⟨x, H1, I1, r1, q1⟩ => ?_)
  obtain ⟨c, rfl, q1⟩ := q1
  cases r1
  refine wpAny_truthy_bool ?_
  cases c with
  | true => exact hb pins s1 σ H1 Q I1 q1
  | false => exact ⟨.bl false, H1, I1, rfl, q1⟩
/-- a if t else b -/
noncomputable def tIf (t : TT) (ta tb : TE) : TE := fun σ H Q => t σ H fun c H1 => if c = true then ta σ H1 Q else tb σ H1 Q
end
end L2

namespace L2
open PySem PySem.Spec PyProof.Rows

/-! ### a list, a tuple that is read: tracked, frozen, or an object of the module -/
noncomputable def SqL (K : PySem.W.Frag) (H : Hp) (a : Addr) (xs : List V) : Prop :=
  Rd H a (.lst xs) ∨
    ∃ (o : Obj) (its : Array Value) (n : Nat), K.lookup a = some o ∧ o.cls = .type "list" ∧ o.dict = none ∧ o.data = .seq its n ∧ its.size ≤ sizeLine ∧ Vals xs its.toList
noncomputable def SqT (K : PySem.W.Frag) (H : Hp) (a : Addr) (xs : List V) : Prop :=
  Rd H a (.tup xs) ∨
    ∃ (o : Obj) (its : Array Value) (n : Nat), K.lookup a = some o ∧ o.cls = .type "tuple" ∧ o.data = .seq its n ∧ its.size ≤ sizeLine ∧ Vals xs its.toList
noncomputable def absV : Value → Option V
  | .none => some .non
  | .bool b => some (.bl b)
  | .int i _ => some (.int i)
  | .str x _ => some (.str x)
  | .bytes b _ => some (.byt b)
  | .float b _ => some (.flt b)
  | .ref a => some (.ref a)
  | .type n => some (.ty n)
  | _ => none
theorem RelV.abs {x : V} {u : Value} (r : RelV x u) : absV u = some x := by
  cases x with
  | non => cases r; rfl
  | bl _ => cases r; rfl
  | int _ => obtain ⟨t, rfl⟩ := r; rfl
  | str _ => obtain ⟨t, rfl⟩ := r; rfl
  | byt _ => obtain ⟨t, rfl⟩ := r; rfl
  | flt _ => obtain ⟨t, rfl⟩ := r; rfl
  | ref _ => cases r; rfl
  | ty _ => cases r; rfl
theorem RelV.inj {x y : V} {u : Value} (r : RelV x u) (q : RelV y u) : x = y := Option.some.inj (r.abs.symm.trans q.abs)
theorem Vals.inj : ∀ {xs ys : List V} {us : List Value}, Vals xs us → Vals ys us → xs = ys
  | _, _, _, .nil, .nil => rfl
  | _, _, _, .cons r t, .cons r' t' => by rw [r.inj r', Vals.inj t t']
section
variable {X : Cx} {pins : List (Addr × Obj)} {σ : St} {H : Hp} {s : Shared} {a : Addr} {xs ys : List V}
theorem SqL.of {K : PySem.W.Frag} (h : H a = some (.lst xs)) : SqL K H a xs := .inl (.inl h)
theorem Inv.list (I : Inv X pins σ H s) (h : SqL X.K H a xs) : ∃ its : List Value, Vals xs its ∧ PlainL s.heap a its.toArray ∧ xs.length ≤ sizeLine := by
  rcases h with h | ⟨o, its, n, hk, hc, hd, hs, hz, r⟩
  · obtain ⟨z, its, n, r, e⟩ := h.ok I.hok
    exact ⟨its, r, ⟨_, n, e, rfl, rfl, rfl⟩, z⟩
  · refine ⟨its.toList, r, ⟨o, n, I.kIn a o hk, hc, hd, by simpa using hs⟩, ?_⟩
    have e := r.length
    simp only [Array.length_toList] at e
    omega
theorem Inv.tuple (I : Inv X pins σ H s) (h : SqT X.K H a xs) : ∃ its : List Value, Vals xs its ∧ IsTup s.heap a its.toArray ∧ xs.length ≤ sizeLine := by
  rcases h with h | ⟨o, its, n, hk, hc, hs, hz, r⟩
  · obtain ⟨z, its, r, p⟩ := h.ok I.hok
    exact ⟨its, r, p, z⟩
  · refine ⟨its.toList, r, ⟨o, I.kIn a o hk, hc, n, by simpa using hs⟩, ?_⟩
    have e := r.length
    simp only [Array.length_toList] at e
    omega
theorem Inv.list_inj (I : Inv X pins σ H s) (h : SqL X.K H a xs) (h' : SqL X.K H a ys) : xs = ys := by
  obtain ⟨its, r, ⟨o, n, e, _, _, d⟩, _⟩ := I.list h
  obtain ⟨its', r', ⟨o', n', e', _, _, d'⟩, _⟩ := I.list h'
  rw [e] at e'; cases e'
  rw [d] at d'
  injection d' with d1 _
  have : its = its' := by simpa using congrArg Array.toList d1
  subst this
  exact r.inj r'
end

/-! ### another wish about exceptions -/
noncomputable abbrev Cx.wish (X : Cx) (E : Value → Shared → Prop) : Cx := { X with xe := E }
/-- no exception leaves -/
noncomputable abbrev Cx.nox (X : Cx) : Cx := X.wish fun _ _ => False
theorem Cx.Ok.wish {X : Cx} (ok : X.Ok) (E : Value → Shared → Prop) : (X.wish E).Ok :=
  ⟨ok.mod, ok.kind, ok.glob, ok.blt, ok.above, ok.inj, ok.has, ok.cab, ok.hd, ok.frames, ok.stk, ok.exf, ok.bs, ok.bsz, ok.noex, ok.exfs, ok.funs, ok.frf⟩
theorem Cx.Ok.unwish {X : Cx} {E : Value → Shared → Prop} (ok : (X.wish E).Ok) : X.Ok :=
  ⟨ok.mod, ok.kind, ok.glob, ok.blt, ok.above, ok.inj, ok.has, ok.cab, ok.hd, ok.frames, ok.stk, ok.exf, ok.bs, ok.bsz, ok.noex, ok.exfs, ok.funs, ok.frf⟩
section
variable {X : Cx} {pins : List (Addr × Obj)} {σ : St} {H : Hp} {s : Shared} {E : Value → Shared → Prop}
theorem Inv.wish (I : Inv X pins σ H s) (E : Value → Shared → Prop) : Inv (X.wish E) pins σ H s := ⟨I.ok.wish E, I.os, I.bare, I.base, I.loc, I.cell, I.free, I.freeC, I.pin, I.hok, I.len⟩
theorem Inv.unwish (I : Inv (X.wish E) pins σ H s) : Inv X pins σ H s := ⟨I.ok.unwish, I.os, I.bare, I.base, I.loc, I.cell, I.free, I.freeC, I.pin, I.hok, I.len⟩
theorem SP.unwish {D : Ends} {f : Flow} {s' : Shared} (h : SP (X.wish E) pins D f s') : SP X pins D f s' := by
  cases f with
  | next => obtain ⟨σ', H', I, q⟩ := h; exact ⟨σ', H', I.unwish, q⟩
  | brk => obtain ⟨σ', H', I, q⟩ := h; exact ⟨σ', H', I.unwish, q⟩
  | cont => obtain ⟨σ', H', I, q⟩ := h; exact ⟨σ', H', I.unwish, q⟩
  | ret u => obtain ⟨v, σ', H', I, r, q⟩ := h; exact ⟨v, σ', H', I.unwish, r, q⟩
theorem PSs.nox {st : List Stmt} {t : TS} (h : PSs X.nox st t) : PSs X st t := fun pins s σ H D I hw =>
  wpAny_mono (h pins s σ H D (I.wish _) hw) (fun _ _ q => q.unwish) fun _ _ z => False.elim z
end

/-! ### blocks and small statements -/
section
variable {X : Cx} {st : Stmt} {rest : List Stmt} {t u : TS} {e : Expr} {te : TE} {pos : Pos}
noncomputable def tNext : TS := fun D σ H => D.nx σ H
noncomputable def tSeq (t u : TS) : TS := fun D σ H => t { D with nx := u D } σ H
theorem pss_nil : PSs X [] tNext := fun _ _ σ H _ I h => wpAny_execs_nil ⟨σ, H, I, h⟩
theorem pss_cons (h1 : PS X st t) (h2 : PSs X rest u) : PSs X (st :: rest) (tSeq t u) := by
  intro pins s σ H D I h
  refine wpAny_execs_cons (thn (h1 pins s σ H { D with nx := u D } I h) fun f s1 q => ?_)
  cases f with
  | next =>
    obtain ⟨σ', H', I', q⟩ := q
    exact h2 pins s1 σ' H' D I' q
  | ret v => exact q
  | brk => exact q
  | cont => exact q
theorem pss_one (h1 : PS X st t) : PSs X [st] t := by
  intro pins s σ H D I h
  refine wpAny_execs_cons (thn (h1 pins s σ H D I h) fun f s1 q => ?_)
  cases f with
  | next => exact wpAny_execs_nil q
  | ret v => exact q
  | brk => exact q
  | cont => exact q
noncomputable def tBreak : TS := fun D σ H => D.bk σ H
noncomputable def tCont : TS := fun D σ H => D.ct σ H
/-- in a def's body nothing is shown -/
theorem Inv.quiet {pins : List (Addr × Obj)} {σ : St} {H : Hp} {s : Shared} (I : Inv X pins σ H s) : interactive X.env = false := by simp [interactive, I.ok.kind]
/-- an expression whose value is dropped -/
noncomputable def tDrop (te : TE) : TS := fun D σ H => te σ H fun _ H1 => D.nx σ H1
theorem ps_expr (he : PE X e te) (hs : swapsWith e none pos.line X.env = pure false := by rfl) : PS X (.Expr e pos) (tDrop te) := by
  intro pins s σ H D I h
  exact wpAny_Expr_any (thn (he pins s σ H _ I h) fun v s1 ⟨x, H1, I1, r1, q1⟩ => ⟨σ, H1, I1, q1⟩) I.quiet hs
noncomputable def tRet (te : TE) : TS := fun D σ H => te σ H D.rt
theorem ps_ret (he : PE X e te) : PS X (.Return (some e) pos) (tRet te) := by
  intro pins s σ H D I h
  exact wpAny_Return_some (thn (he pins s σ H _ I h) fun v s1 ⟨x, H1, I1, r1, q1⟩ => ⟨x, σ, H1, I1, r1, q1⟩)
noncomputable def tRetN : TS := fun D _ H => D.rt .non H
noncomputable def tIfS (c : TT) (t u : TS) : TS := fun D σ H => c σ H fun b H1 => if b = true then t D σ H1 else u D σ H1
theorem ps_if {c : Expr} {a b : List Stmt} {tc : TT} (hc : PT X c tc) (ha : PSs X a t) (hb : PSs X b u) : PS X (.If c a b pos) (tIfS tc t u) := by
  intro pins s σ H D I h
  refine wpAny_If (thn (hc pins s σ H _ I h) fun d s1 ⟨H1, I1, q1⟩ => ?_)
  cases d with
  | true => exact ha pins s1 σ H1 D I1 q1
  | false => exact hb pins s1 σ H1 D I1 q1
/-- code that the proof never comes to -/
noncomputable def tNever : TS := fun _ _ _ => False
theorem ps_never : PS X st tNever := fun _ _ _ _ _ _ h => h.elim
theorem pss_never {sts : List Stmt} : PSs X sts tNever := fun _ _ _ _ _ _ h => h.elim
end

/-! ### targets -/
noncomputable abbrev TG := V → St → Hp → (St → Hp → Prop) → Prop
noncomputable abbrev TGs := List V → St → Hp → (St → Hp → Prop) → Prop
noncomputable def PG (X : Cx) (target : Expr) (t : TG) : Prop :=
  ∀ (pins : List (Addr × Obj)) (s : Shared) (σ : St) (H : Hp) (v : V) (u : Value) (Q : St → Hp → Prop), Inv X pins σ H s → RelV v u → t v σ H Q →
    wpAny (model X.prog X.w) X.A (assign target X.env u) (fun _ s' => ∃ σ' H', Inv X pins σ' H' s' ∧ Q σ' H') X.xe s
/-- several targets, one after another -/
noncomputable def PGs (X : Cx) (ts : List Expr) (t : TGs) : Prop :=
  ∀ (pins : List (Addr × Obj)) (s : Shared) (σ : St) (H : Hp) (vs : List V) (us : List Value) (Q : St → Hp → Prop), Inv X pins σ H s → Vals vs us → t vs σ H Q →
    wpAny (model X.prog X.w) X.A (assignInOrder ((assignEach ts X.env).map (·.2)) us) (fun _ s' => ∃ σ' H', Inv X pins σ' H' s' ∧ Q σ' H') X.xe s
/-- o[i] = v, by values -/
noncomputable abbrev TSet := V → V → V → Hp → (Hp → Prop) → Prop
noncomputable def PSet (X : Cx) (t : TSet) : Prop :=
  ∀ (pins : List (Addr × Obj)) (s : Shared) (σ : St) (H : Hp) (o i v : V) (ov iv u : Value) (Q : Hp → Prop), Inv X pins σ H s → RelV o ov → RelV i iv → RelV v u → t o i v H Q →
    wpAny (model X.prog X.w) X.A (setItem ov iv u) (fun _ s' => ∃ H', Inv X pins σ H' s' ∧ Q H') X.xe s
/-- a op= b, by values -/
noncomputable abbrev TIp := V → V → Hp → VK → Prop
noncomputable def PIp (X : Cx) (op : Operator) (t : TIp) : Prop :=
  ∀ (pins : List (Addr × Obj)) (s : Shared) (σ : St) (H : Hp) (x y : V) (v u : Value) (Q : VK), Inv X pins σ H s → RelV x v → RelV y u → t x y H Q →
    wpAny (model X.prog X.w) X.A (inplaceOp op v u) (EP X pins σ Q) X.xe s
section
variable {X : Cx} {pos : Pos}
noncomputable def gName (i : Nat) : TG := fun v σ H Q => Q (σ.set i (some v)) H
theorem pg_name {i : Nat} {x : Str} (hN : X.N.Nodup) (hi : X.N[i]? = some x) (hx : Loc X.env.scope x) (hf : X.fn x = true ∨ X.env.scope.names.lookup x = some .local := by first | exact .inl rfl | exact .inr rfl | assumption) : PG X (.Name x pos) (gName i) := by
  intro pins s σ H v u Q I r h
  exact wpAny_assign_Name (store_ok I hN hi hx r (fun s' I' => ⟨_, H, I', h⟩) hf)
noncomputable def gNil : TGs := fun vs σ H Q => vs = [] ∧ Q σ H
noncomputable def gCons (t : TG) (u : TGs) : TGs := fun vs σ H Q => ∃ v r, vs = v :: r ∧ t v σ H fun σ' H' => u r σ' H' Q
theorem pgs_nil : PGs X [] gNil := by
  intro pins s σ H vs us Q I r h
  obtain ⟨e, h⟩ := h
  subst e
  cases r
  exact assignInOrder_nil ⟨σ, H, I, h⟩
theorem pgs_cons {e : Expr} {es : List Expr} {t : TG} {u : TGs} (h1 : PG X e t) (h2 : PGs X es u)
    (hs : (assignEach (e :: es) X.env).map (·.2) = assign e X.env :: (assignEach es X.env).map (·.2) := by rfl) : PGs X (e :: es) (gCons t u) := by
  intro pins s σ H vs us Q I r h
  obtain ⟨v, vr, e1, h⟩ := h
  subst e1
  cases r with
  | cons r rr =>
    rw [hs]
    refine assignInOrder_cons (thn (h1 pins s σ H _ _ _ I r h) fun _ s1 ⟨σ1, H1, I1, q1⟩ => ?_)
    exact h2 pins s1 σ1 H1 _ _ Q I1 rr q1
/-- (a, b, ..) = a tuple of that length -/
noncomputable def gTup (K : PySem.W.Frag) (n : Nat) (t : TGs) : TG := fun v σ H Q => ∃ a xs, v = .ref a ∧ SqT K H a xs ∧ xs.length = n ∧ t xs σ H Q
theorem pg_tup {es : List Expr} {k : Nat} {t : TGs} {n : Nat} (hc : X.calm = true) (h : PGs X es t)
    (hn : (assignEach es X.env).length = n := by rfl) (hst : (assignEach es X.env).findIdx? (·.1) = none := by rfl) : PG X (.Tuple es k pos) (gTup X.K n t) := by
  intro pins s σ H v u Q I r hw
  obtain ⟨a, xs, e1, hq, hl, hw⟩ := hw
  subst e1
  cases r
  obtain ⟨its, rv, ht, hz⟩ := I.tuple hq
  refine assign_Tuple_tuple (I.ok.hd hc) ht (by simp [hn, ← hl, rv.length]) hst fun h' hx => ?_
  have I1 : Inv X pins σ H { s with heap := h' } := I.kept (t' := s.toks) fun b o e => hx b o (Nat.ne_of_lt (Heap.lt_size e)) e
  exact h pins _ σ H xs _ Q I1 (by simpa using rv) hw
/-- o[i] = .. -/
noncomputable def gSub (to ti : TE) (t : TSet) : TG := fun v σ H Q => to σ H fun o H1 => ti σ H1 fun i H2 => t o i v H2 fun H3 => Q σ H3
/-- target = value -/
noncomputable def tAsg (te : TE) (g : TG) : TS := fun D σ H => te σ H fun x H1 => g x σ H1 D.nx
/-- name = value -/
theorem ps_set {i : Nat} {x : Str} {e : Expr} {te : TE} {pos' : Pos} (hN : X.N.Nodup) (hi : X.N[i]? = some x) (hx : Loc X.env.scope x) (he : PE X e te) (hs : swapsWith e (some (.Name x pos')) pos.line X.env = pure false := by rfl) (hf : X.fn x = true ∨ X.env.scope.names.lookup x = some .local := by first | exact .inl rfl | exact .inr rfl | assumption) :
    PS X (.Assign [.Name x pos'] e pos) (tAsg te (gName i)) := by
  intro pins s σ H D I h
  refine wpAny_Assign_Name (thn (he pins s σ H _ I h) fun v s1 ⟨y, H1, I1, r1, q1⟩ => ?_) hs
  exact store_ok I1 hN hi hx r1 (fun s2 I2 => ⟨_, H1, I2, q1⟩) hf
/-- a, b = x, y with plain local names: stored from the right; the pair itself is not tracked (the opening rows as in PyProof/Rows/TupAssign.lean:23) -/
noncomputable def tPar (i j : Nat) (ta : TA) : TS := fun D σ H => ta σ H fun vs H1 => ∃ v w, vs = [v, w] ∧ D.nx ((σ.set i (some v)).set j (some w)) H1
/-- name op= e -/
noncomputable def tAug (i : Nat) (te : TE) (ti : TIp) : TS := fun D σ H => ∃ x, σ[i]? = some (some x) ∧ te σ H fun y H1 => ti x y H1 fun z H2 => D.nx (σ.set i (some z)) H2
/-- o[i] op= e -/
noncomputable def tAugS (to ti te : TE) (tget : V → V → Hp → VK → Prop) (tip : TIp) (tset : TSet) : TS := fun D σ H => to σ H fun o H1 => ti σ H1 fun i H2 => tget o i H2 fun x H3 => te σ H3 fun y H4 => tip x y H4 fun z H5 => tset o i z H5 fun H6 => D.nx σ H6
/-- o[i], by values -/
noncomputable def PGet (X : Cx) (t : V → V → Hp → VK → Prop) : Prop :=
  ∀ (pins : List (Addr × Obj)) (s : Shared) (σ : St) (H : Hp) (o i : V) (ov iv : Value) (Q : VK), Inv X pins σ H s → RelV o ov → RelV i iv → t o i H Q →
    wpAny (model X.prog X.w) X.A (getItem ov iv) (EP X pins σ Q) X.xe s
/-- ints -/
noncomputable def ipI (f : Int → Int → Int) : TIp := fun x y H Q => ∃ i j, x = .int i ∧ y = .int j ∧ Q (.int (f i j)) H
end

/-! ### while -/
section
variable {X : Cx} {pos : Pos}
/-- the invariant W with its measure -/
noncomputable def tWhile (c : TT) (tb : TS) : TS := fun D σ H => ∃ W : Nat → St → Hp → Prop, (∃ m, W m σ H) ∧ ∀ m σ H, W m σ H →
  c σ H fun b H1 => if b = true then ∃ N : St → Hp → Prop, (∀ σ' H', N σ' H' → ∃ m', m' < m ∧ W m' σ' H') ∧ tb { D with nx := N, ct := N, bk := D.nx } σ H1 else D.nx σ H1
theorem ps_while {c : Expr} {body : List Stmt} {tc : TT} {tb : TS} (hp : PassesOwn (model X.prog X.w) X.A X.env X.xe) (hc : PT X c tc) (hb : PSs X body tb) : PS X (.While c body [] pos) (tWhile tc tb) := by
  intro pins s σ H D I h
  obtain ⟨W, ⟨m0, w0⟩, turn⟩ := h
  refine wpAny_While (codeAny_whileLoop (fun n s' => ∃ σ' H', Inv X pins σ' H' s' ∧ W n σ' H') ?_ m0 ⟨σ, H, I, w0⟩)
  rintro n s1 ⟨σ1, H1, I1, w1⟩
  refine wpAny_passesOwn hp (thn (hc pins s1 σ1 H1 _ I1 (turn n σ1 H1 w1)) fun b s2 ⟨H2, I2, q2⟩ => ?_)
  cases b with
  | true =>
    obtain ⟨N, hN, q2⟩ := q2
    rw [if_pos rfl]
    refine wpAny_passesOwn hp (thn (hb pins s2 σ1 H2 _ I2 q2) fun f s3 q3 => ?_)
    cases f with
    | next =>
      obtain ⟨σ3, H3, I3, n3⟩ := q3
      obtain ⟨m', hm, w3⟩ := hN σ3 H3 n3
      exact ⟨m', hm, σ3, H3, I3, w3⟩
    | cont =>
      obtain ⟨σ3, H3, I3, n3⟩ := q3
      obtain ⟨m', hm, w3⟩ := hN σ3 H3 n3
      exact ⟨m', hm, σ3, H3, I3, w3⟩
    | brk => exact q3
    | ret v => exact q3
  | false =>
    rw [if_neg Bool.false_ne_true]
    exact wpAny_execs_nil ⟨σ1, H2, I2, q2⟩
end

/-! ### what a loop or a comprehension walks -/
/-- at turn i: it yields x (the heap may grow), or it stops -/
structure It where
  go : Nat → Hp → Prop
  yld : Nat → Hp → V → Hp → Prop
  stop : Nat → Hp → Prop
/-- the iterator's own objects may turn: they are not the frame's, not pinned, younger than the entry (or a comprehension's own) -/
noncomputable def FpOk (X : Cx) (pins : List (Addr × Obj)) (H : Hp) (b : Addr) : Prop :=
  H b = none ∧ b ≠ X.env.locals ∧ b ∉ X.fs ∧ (b ∈ X.ex ∨ X.s₀.heap.objs.size ≤ b) ∧ (∀ x c, X.env.cells.lookup x = some c → c ≠ b) ∧ ∀ p ∈ X.pn ++ pins, p.1 ≠ b
theorem Inv.fpOk {X : Cx} {pins : List (Addr × Obj)} {σ : St} {H H' : Hp} {s : Shared} {b : Addr} (I : Inv X pins σ H s) (hb : s.heap.objs.size ≤ b) (hn : H' b = none) : FpOk X pins H' b := by
  refine ⟨hn, Nat.ne_of_gt (Nat.lt_of_lt_of_le I.lt hb), I.nofs hb, .inr (Nat.le_trans I.sz hb), fun x c e z => ?_, fun p hp z => ?_⟩
  · obtain ⟨v, q⟩ := I.cell x c e
    exact absurd (Nat.lt_of_lt_of_le q.lt (by rw [z]; exact hb)) (Nat.lt_irrefl _)
  · exact absurd (Nat.lt_of_lt_of_le (Heap.lt_size (I.pin p hp).1) (by rw [z]; exact hb)) (Nat.lt_irrefl _)
structure Turn (P : Program) (w : World) (K : PySem.W.Frag) (tg : Expr) (J : It) (fp : List Addr) (it : Addr) (tn : Nat → Heap → Prop) : Prop where
  mem : it ∈ fp
  obj : ∀ i h, tn i h → ∀ b ∈ fp, ∃ o, h.get? b = some o ∧ ∀ v, o.data ≠ .cell v
  keep : ∀ i h h', tn i h → (∀ b ∈ fp, ∀ o, h.get? b = some o → h'.get? b = some o) → tn i h'
  item : ∀ (X : Cx), X.prog = P → X.w = w → X.K = K → X.calm = true → ∀ (i : Nat) (pins : List (Addr × Obj)) (s : Shared) (σ : St) (H : Hp) (E : Value → Shared → Prop), Inv X pins σ H s → (∀ b ∈ fp, FpOk X pins H b) → tn i s.heap → J.go i H →
    wpAny (model P w) X.A (pyNext (.ref it)) (fun r s1 => ∃ u, r = some u ∧
      wpAny (model P w) X.A (letOwnedTupleGo tg (.ref it) u) (fun _ s2 => ∃ x H', Inv X pins σ H' s2 ∧ RelV x u ∧ J.yld i H x H' ∧ tn (i + 1) s2.heap ∧ ∀ b ∈ fp, H' b = none) E s1) E s
  done : ∀ (X : Cx), X.prog = P → X.w = w → X.K = K → X.calm = true → ∀ (i : Nat) (pins : List (Addr × Obj)) (s : Shared) (σ : St) (H : Hp) (E : Value → Shared → Prop), Inv X pins σ H s → (∀ b ∈ fp, FpOk X pins H b) → tn i s.heap → J.stop i H →
    wpAny (model P w) X.A (pyNext (.ref it)) (fun r s1 => r = none ∧ Inv X pins σ H s1) E s
  self : ∀ (A : Around) (i : Nat) (s : Shared) (Q : Value → Shared → Prop) (E : Value → Shared → Prop), tn i s.heap → Q (.ref it) s → wpAny (model P w) A (pyIter (.ref it)) Q E s
noncomputable abbrev TI := St → Hp → (It → Hp → Prop) → Prop
/-- an iterator has come -/
noncomputable def PIE (X : Cx) (pins : List (Addr × Obj)) (σ : St) (tg : Expr) (R : It → Hp → Prop) (itv : Value) (s2 : Shared) : Prop :=
  ∃ (it : Addr) (fp : List Addr) (tn : Nat → Heap → Prop) (J : It) (H' : Hp), itv = .ref it ∧ Inv X pins σ H' s2 ∧ Turn X.prog X.w X.K tg J fp it tn ∧ tn 0 s2.heap ∧ (∀ b ∈ fp, FpOk X pins H' b) ∧ R J H'
noncomputable def PI (X : Cx) (tg iter : Expr) (wi : TI) : Prop :=
  ∀ (pins : List (Addr × Obj)) (s : Shared) (σ : St) (H : Hp) (R : It → Hp → Prop), Inv X pins σ H s → wi σ H R →
    wpAny (model X.prog X.w) X.A (eval iter X.env) (fun v s1 => wpAny (model X.prog X.w) X.A (pyIter v) (PIE X pins σ tg R) X.xe s1) X.xe s

/-- the step ahead of the store is nothing for an iterator that keeps no tuple -/
theorem go_of {M : Model} {A : Around} {E : Value → Shared → Prop} {s : Shared} {tg : Expr} {it : Addr} {u : Value} {o : Obj} {n : String} {vs : Array Value} {Q : Unit → Shared → Prop} (ho : s.heap.get? it = some o) (hc : o.cls = .type n) (hd : o.data = .fields vs)
    (hn : ["enumerate", "zip", "dict_itemiterator", "dict_reverseitemiterator", "odict_iterator", "itertools.zip_longest", "itertools.pairwise"].contains n = false) (hQ : Q () s) : wpAny M A (letOwnedTupleGo tg (.ref it) u) Q E s := by
  unfold letOwnedTupleGo
  cases tg <;> first
    | exact wpAny_pure hQ
    | (cases u <;> first
        | exact wpAny_pure hQ
        | (refine wpAny_bind (wpAny_load ho ?_)
           rw [hc, hd]
           show wpAny M A (if (["enumerate", "zip", "dict_itemiterator", "dict_reverseitemiterator", "odict_iterator", "itertools.zip_longest", "itertools.pairwise"].contains n && vs[0]? == some (rawInt _)) = true then _ else _) Q E s
           rw [if_neg (by intro h; rw [hn, Bool.false_and] at h; cases h)]
           exact wpAny_pure hQ))

/-- the list at a, as it stands at each turn (a loop may append to it) -/
noncomputable def Itl (K : PySem.W.Frag) (a : Addr) : It :=
  ⟨fun i H => ∃ xs x, SqL K H a xs ∧ xs[i]? = some x, fun i H x H' => H' = H ∧ ∀ xs, SqL K H a xs → xs[i]? = some x, fun i H => ∃ xs, SqL K H a xs ∧ xs.length ≤ i⟩
noncomputable def Itt (K : PySem.W.Frag) (a : Addr) : It :=
  ⟨fun i H => ∃ xs x, SqT K H a xs ∧ xs[i]? = some x, fun i H x H' => H' = H ∧ ∀ xs, SqT K H a xs → xs[i]? = some x, fun i H => ∃ xs, SqT K H a xs ∧ xs.length ≤ i⟩
/-- lo, lo + 1, .. (n of them) -/
noncomputable def Itr (lo : Int) (n : Nat) : It := ⟨fun i _ => i < n, fun i H x H' => H' = H ∧ x = .int (lo + i), fun i _ => n ≤ i⟩
theorem turn_list {P : Program} {w : World} {K : PySem.W.Frag} {tg : Expr} (a it : Addr) : Turn P w K tg (Itl K a) [it] it (fun i h => h.IsListIter it a i) where
  mem := by simp
  obj := fun i h st b hb => by
    have e : b = it := by simpa using hb
    subst e
    obtain ⟨o, e, c, d⟩ := st
    exact ⟨o, e, fun v z => by rw [d] at z; cases z⟩
  keep := fun i h h' st k => st.at fun o e => k it (by simp) o e
  item := by
    intro X hP hw hK hc i pins s σ H E I hf st hg
    subst hP hw hK
    obtain ⟨xs, x, hq, hx⟩ := hg
    obtain ⟨its, rv, p, hz⟩ := I.list hq
    obtain ⟨u, hu, ru⟩ := rv.get hx
    obtain ⟨f0, f1, f2, f3, f4, f5⟩ := hf it (by simp)
    refine wpAny_pyNext_list_item st p.isList (x := u) (by simpa using hu) fun h' st' sb => ?_
    have I1 : Inv X pins σ H { s with heap := h' } := I.turned (t' := s.toks) (fun b o hb e => (sb.2 b hb).trans e) f0 f1 f3 f4 f5
    obtain ⟨o, e, c, d⟩ := id st'
    exact ⟨u, rfl, go_of (s := { s with heap := h' }) e c d (by decide) ⟨x, H, I1, ru, ⟨rfl, fun ys hy => by rw [I.list_inj hy hq]; exact hx⟩, st', fun b hb => (hf b hb).1⟩⟩
  done := by
    intro X hP hw hK hc i pins s σ H E I hf st hg
    subst hP hw hK
    obtain ⟨xs, hq, hx⟩ := hg
    obtain ⟨its, rv, p, hz⟩ := I.list hq
    obtain ⟨f0, f1, f2, f3, f4, f5⟩ := hf it (by simp)
    have hl := rv.length
    exact wpAny_pyNext_list_end (I.ok.hd hc) st p.isList (by simp; omega) fun h' eb => ⟨rfl, I.turned (t' := s.toks) (fun b o hb e => eb b o hb e) f0 f1 f3 f4 f5⟩
  self := fun _ _ _ _ _ st h => wpAny_pyIter_listiter st h
theorem turn_range {P : Program} {w : World} {K : PySem.W.Frag} {tg : Expr} (it : Addr) (lo : Int) (n : Nat) : Turn P w K tg (Itr lo n) [it] it (fun i h => IsRangeIter h it (lo + (i : Nat) * 1) ((n : Int) - (i : Nat)) 1) where
  mem := by simp
  obj := fun i h st b hb => by
    have e : b = it := by simpa using hb
    subst e
    exact ⟨_, st, fun v z => by
      have z' : Data.fields _ = Data.cell v := z
      cases z'⟩
  keep := fun i h h' st k => k it (by simp) _ st
  item := by
    intro X hP hw hK hc i pins s σ H E I hf st hg
    subst hP hw hK
    obtain ⟨f0, f1, f2, f3, f4, f5⟩ := hf it (by simp)
    have W := Walks.range (prog := X.prog) (w := X.w) (I.ok.hd hc) it lo 1 n
    refine W.item i s _ _ hg st fun v h' tk hv st' kk => ?_
    obtain ⟨t, rfl⟩ := hv
    have I1 : Inv X pins σ H { s with heap := h', toks := tk } := I.turned (fun b o hb e => kk b o (by simpa using hb) e) f0 f1 f3 f4 f5
    refine ⟨_, rfl, go_of (s := { s with heap := h', toks := tk }) (n := "range_iterator") st' rfl rfl (by decide) ⟨.int (lo + i), H, I1, ⟨t, ?_⟩, ⟨rfl, rfl⟩, st', fun b hb => (hf b hb).1⟩⟩
    rw [Int.mul_one]
  done := by
    intro X hP hw hK hc i pins s σ H E I hf st hg
    subst hP hw hK
    obtain ⟨f0, f1, f2, f3, f4, f5⟩ := hf it (by simp)
    exact wpAny_pyNext_range_end (I.ok.hd hc) st (by have : n ≤ i := hg; omega) fun h' eb => ⟨rfl, I.turned (t' := s.toks) (fun b o hb e => eb b o hb e) f0 f1 f3 f4 f5⟩
  self := fun _ _ _ _ _ st h => wpAny_pyIter_rangeiter st h
end L2

namespace L2
open PySem PySem.Spec PyProof.Rows
section
variable {X : Cx} {tg : Expr}
noncomputable def iList (K : PySem.W.Frag) (tl : TE) : TI := fun σ H R => tl σ H fun x H1 => ∃ a, x = .ref a ∧ (∃ xs, SqL K H1 a xs) ∧ R (Itl K a) H1
noncomputable def iTup (K : PySem.W.Frag) (tl : TE) : TI := fun σ H R => tl σ H fun x H1 => ∃ a, x = .ref a ∧ (∃ xs, SqT K H1 a xs) ∧ R (Itt K a) H1
theorem pi_list {l : Expr} {tl : TE} (hl : PE X l tl) : PI X tg l (iList X.K tl) := by
  intro pins s σ H R I h
  refine thn (hl pins s σ H _ I h) fun v s1 ⟨x, H1, I1, r1, q1⟩ => ?_
  obtain ⟨a, e, ⟨xs, hq⟩, q⟩ := q1
  subst e
  cases r1
  obtain ⟨its, rv, p, hz⟩ := I1.list hq
  refine wpAny_pyIter_list p.isList ?_
  refine ⟨s1.heap.objs.size, [s1.heap.objs.size], _, _, H1, rfl, I1.kept (t' := s1.toks) fun b o e => Heap.get?_push_of_some _ e, turn_list a _, ⟨_, Heap.get?_push_size _ rfl, rfl, rfl⟩, fun b hb => ?_, q⟩
  have e : b = s1.heap.objs.size := by simpa using hb
  subst e
  exact I1.fpOk (Nat.le_refl _) (I1.hok.fresh (Nat.le_refl _))
/-- a range object just made, walked -/
theorem range_it {pins : List (Addr × Obj)} {σ : St} {H : Hp} {s : Shared} {R : It → Hp → Prop} {E : Value → Shared → Prop} {lo hi : Int} {t u v : Tok} {tk : Nat} (I : Inv X pins σ H s) (h1 : -(2 ^ 62) ≤ lo) (h2 : lo < 2 ^ 62) (h3 : -(2 ^ 62) ≤ hi) (h4 : hi < 2 ^ 62)
    (q : R (Itr lo (hi - lo).toNat) H) : wpAny (model X.prog X.w) X.A (pyIter (.ref s.heap.objs.size)) (PIE X pins σ tg R) E { s with heap := s.heap.push { cls := .type "range", data := .fields #[.int lo t, .int hi u, .int 1 v] }, toks := tk } := by
  refine wpAny_pyIter_range (IsRange.new ..) (small_one h1 h2 h3 h4) ?_
  have I1 : Inv X pins σ H { s with heap := s.heap.push { cls := .type "range", data := .fields #[.int lo t, .int hi u, .int 1 v] }, toks := tk } := I.kept fun b o e => Heap.get?_push_of_some _ e
  refine ⟨(s.heap.push { cls := .type "range", data := .fields #[.int lo t, .int hi u, .int 1 v] }).objs.size, [(s.heap.push { cls := .type "range", data := .fields #[.int lo t, .int hi u, .int 1 v] }).objs.size], _, _, H, rfl,
    I1.kept (t' := tk) fun b o e => Heap.get?_push_of_some _ e, turn_range _ lo (hi - lo).toNat, ?_, fun b hb => ?_, q⟩
  · have e1 : lo + ((0 : Nat) : Int) * 1 = lo := by simp
    have e2 : (((hi - lo).toNat : Nat) : Int) - ((0 : Nat) : Int) = Builtin.Range.rangeSize lo hi 1 := by rw [rangeSize_one]; split <;> omega
    show IsRangeIter _ _ (lo + ((0 : Nat) : Int) * 1) ((((hi - lo).toNat : Nat) : Int) - ((0 : Nat) : Int)) 1
    rw [e1, e2]
    exact Heap.get?_push_size _ rfl
  · have e : b = (s.heap.push { cls := .type "range", data := .fields #[.int lo t, .int hi u, .int 1 v] }).objs.size := by simpa using hb
    subst e
    exact I1.fpOk (Nat.le_refl _) (I1.hok.fresh (Nat.le_refl _))
noncomputable def iRng1 (ta : TA) : TI := fun σ H R => ta σ H fun vs H1 => ∃ j : Int, vs = [.int j] ∧ -(2 ^ 62) ≤ j ∧ j < 2 ^ 62 ∧ R (Itr 0 j.toNat) H1
noncomputable def iRng2 (ta : TA) : TI := fun σ H R => ta σ H fun vs H1 => ∃ i j : Int, vs = [.int i, .int j] ∧ (-(2 ^ 62) ≤ i ∧ i < 2 ^ 62 ∧ -(2 ^ 62) ≤ j ∧ j < 2 ^ 62) ∧ R (Itr i (j - i).toNat) H1
theorem pi_range1 {a : Expr} {ta : TA} {p pos : Pos} (hg : Gl X "range") (hm : X.mg "range" = none) (ha : PA X [a] ta) (hs : starEach [a] X.env = [(false, eval a X.env)] := by rfl) : PI X tg (.Call (.Name "range" p) [a] [] pos) (iRng1 ta) := by
  intro pins s σ H R I h
  refine Call_ (ld_blt I hg hm boot_range (PyProof.Rows.callWith_type1 (thn (ha pos pins s σ H _ I h) fun us s1 ⟨vs, H1, I1, r1, q1⟩ => ?_) hs rfl))
  obtain ⟨j, e, q1, q2, q⟩ := q1
  subst e
  cases r1 with
  | cons r rr =>
    cases rr
    obtain ⟨t, rfl⟩ := r
    exact call_range_1 (range_it I1 (by omega) (by omega) q1 q2 (by simpa using q))

/-! ### for -/
/-- W: the invariant by the turn and a measure; N: what the body is to reach -/
noncomputable def tFor (wi : TI) (g : TG) (tb : TS) : TS := fun D σ H => wi σ H fun J H1 => ∃ W : Nat → Nat → St → Hp → Prop, (∃ m, W 0 m σ H1) ∧ ∀ i m σ H, W i m σ H →
  (J.stop i H ∧ D.nx σ H) ∨ (J.go i H ∧ ∃ N : St → Hp → Prop, (∀ σ' H', N σ' H' → ∃ m', m' < m ∧ W (i + 1) m' σ' H') ∧ ∀ x H', J.yld i H x H' → g x σ H' fun σ2 H2 => tb { D with nx := N, ct := N, bk := D.nx } σ2 H2)
/-- the records at fp as they stand -/
noncomputable def pinsAt (fp : List Addr) (h : Heap) : List (Addr × Obj) := fp.filterMap fun b => (h.get? b).map fun o => (b, o)
theorem mem_pinsAt {fp : List Addr} {h : Heap} {b : Addr} {o : Obj} (hb : b ∈ fp) (e : h.get? b = some o) : (b, o) ∈ pinsAt fp h := List.mem_filterMap.mpr ⟨b, hb, by rw [e]; rfl⟩
theorem of_pinsAt {fp : List Addr} {h : Heap} {p : Addr × Obj} (hp : p ∈ pinsAt fp h) : p.1 ∈ fp ∧ h.get? p.1 = some p.2 := by
  obtain ⟨b, hb, e⟩ := List.mem_filterMap.mp hp
  cases q : h.get? b with
  | none => rw [q] at e; cases e
  | some o =>
    rw [q] at e
    have e' : (b, o) = p := Option.some.inj e
    subst e'
    exact ⟨hb, q⟩
theorem Inv.pinned {pins : List (Addr × Obj)} {σ : St} {H : Hp} {s : Shared} {fp : List Addr} (I : Inv X pins σ H s) (hf : ∀ b ∈ fp, FpOk X pins H b) (ho : ∀ b ∈ fp, ∃ o, s.heap.get? b = some o ∧ ∀ v, o.data ≠ .cell v) : Inv X (pins ++ pinsAt fp s.heap) σ H s :=
  I.pins_of fun p hp => (List.mem_append.mp hp).elim (fun z => I.pin p (List.mem_append_right _ z)) fun z => by
    obtain ⟨hb, e⟩ := of_pinsAt z
    obtain ⟨f0, f1, f2, _⟩ := hf p.1 hb
    obtain ⟨o, e', d⟩ := ho p.1 hb
    rw [e] at e'; cases e'
    exact ⟨e, f0, f1, f2, d⟩
theorem Inv.unpinned {pins pl : List (Addr × Obj)} {σ : St} {H : Hp} {s : Shared} (I : Inv X (pins ++ pl) σ H s) : Inv X pins σ H s := I.pins_of fun p hp => I.pin p (List.mem_append_right _ (List.mem_append_left _ hp))
theorem ps_for {iter : Expr} {body : List Stmt} {wi : TI} {g : TG} {tb : TS} {pos : Pos} (hp : PassesOwn (model X.prog X.w) X.A X.env X.xe) (hc : X.calm = true) (hi : PI X tg iter wi) (hg : PG X tg g) (hb : PSs X body tb)
    (hs : ∀ x, foldedSetIterable iter X.env x = pure x := by intro _; rfl) : PS X (.For tg iter body [] pos) (tFor wi g tb) := by
  intro pins s σ H D I h
  refine wpAny_For (thn (hi pins s σ H _ I h) fun v s1 h1 => thn h1 fun itv s2 h2 => ?_) hs
  obtain ⟨it, fp, tn, J, H2, e, I2, T, st2, f2, W, ⟨m0, w0⟩, turn⟩ := h2
  subst e
  -- what stays true of the iterator's objects through the loop
  have stat : ∀ {H' : Hp}, (∀ b ∈ fp, H' b = none) → ∀ b ∈ fp, FpOk X pins H' b := fun hn b hb => ⟨hn b hb, (f2 b hb).2⟩
  refine codeAny_forLoop_any (fun n s' => ∃ i σ' H', Inv X pins σ' H' s' ∧ tn i s'.heap ∧ (∀ b ∈ fp, H' b = none) ∧ W i n σ' H') ?_ m0 ⟨0, σ, H2, I2, st2, fun b hb => (f2 b hb).1, w0⟩
  rintro n s3 ⟨i, σ3, H3, I3, st3, fr3, w3⟩
  rcases turn i n σ3 H3 w3 with ⟨stop, qn⟩ | ⟨go, N, hN, step⟩
  · refine wpAny_passesOwn hp (thn (T.done X rfl rfl rfl hc i pins s3 σ3 H3 X.xe I3 (stat fr3) st3 stop) fun r s4 ⟨hr, I4⟩ => ?_)
    subst hr
    exact wpAny_execs_nil ⟨σ3, H3, I4, qn⟩
  · refine wpAny_passesOwn hp (thn (T.item X rfl rfl rfl hc i pins s3 σ3 H3 X.xe I3 (stat fr3) st3 go) fun r s4 ⟨u, hr, h4⟩ => ?_)
    subst hr
    refine wpAny_passesOwn hp (thn h4 fun _ s5 ⟨x, H5, I5, r5, y5, st5, fr5⟩ => ?_)
    have I5' := I5.pinned (stat fr5) (T.obj _ _ st5)
    refine wpAny_passesOwn hp (thn (hg _ s5 σ3 H5 x u _ I5' r5 (step x H5 y5)) fun _ s6 ⟨σ6, H6, I6, q6⟩ => ?_)
    refine wpAny_passesOwn hp (thn (hb _ s6 σ6 H6 _ I6 q6) fun f s7 q7 => ?_)
    have again : ∀ {σ7 : St} {H7 : Hp}, Inv X (pins ++ pinsAt fp s5.heap) σ7 H7 s7 → N σ7 H7 → ∃ m, m < n ∧ ∃ i σ' H', Inv X pins σ' H' s7 ∧ tn i s7.heap ∧ (∀ b ∈ fp, H' b = none) ∧ W i m σ' H' := fun {σ7 H7} I7 n7 => by
      obtain ⟨m', hm, w7⟩ := hN σ7 H7 n7
      refine ⟨m', hm, i + 1, σ7, H7, I7.unpinned, T.keep _ _ _ st5 fun b hb o e => (I7.pin (b, o) (List.mem_append_right _ (List.mem_append_right _ (mem_pinsAt hb e)))).1, fun b hb => ?_, w7⟩
      obtain ⟨o, e, d⟩ := T.obj _ _ st5 b hb
      exact (I7.pin (b, o) (List.mem_append_right _ (List.mem_append_right _ (mem_pinsAt hb e)))).2.1
    cases f with
    | next => obtain ⟨σ7, H7, I7, n7⟩ := q7; exact again I7 n7
    | cont => obtain ⟨σ7, H7, I7, n7⟩ := q7; exact again I7 n7
    | brk => obtain ⟨σ7, H7, I7, q7⟩ := q7; exact ⟨σ7, H7, I7.unpinned, q7⟩
    | ret v => obtain ⟨x7, σ7, H7, I7, r7, q7⟩ := q7; exact ⟨x7, σ7, H7, I7.unpinned, r7, q7⟩
end

/-! ### the forms one uses -/
/-- over a list that the body leaves as it is -/
theorem for_list {K : PySem.W.Frag} {a : Addr} {xs : List V} {g : TG} {tb : TS} {D : Ends} {σ : St} {H : Hp} (Pv : Nat → St → Hp → Prop) (h0 : Pv 0 σ H) (hl : ∀ i σ H, i ≤ xs.length → Pv i σ H → SqL K H a xs)
    (hs : ∀ i x σ H, xs[i]? = some x → Pv i σ H → g x σ H fun σ2 H2 => tb { D with nx := Pv (i + 1), ct := Pv (i + 1), bk := D.nx } σ2 H2) (hd : ∀ σ H, Pv xs.length σ H → D.nx σ H) :
    ∃ W : Nat → Nat → St → Hp → Prop, (∃ m, W 0 m σ H) ∧ ∀ i m σ H, W i m σ H →
      ((Itl K a).stop i H ∧ D.nx σ H) ∨ ((Itl K a).go i H ∧ ∃ N : St → Hp → Prop, (∀ σ' H', N σ' H' → ∃ m', m' < m ∧ W (i + 1) m' σ' H') ∧ ∀ x H', (Itl K a).yld i H x H' → g x σ H' fun σ2 H2 => tb { D with nx := N, ct := N, bk := D.nx } σ2 H2) := by
  refine ⟨fun i m σ H => m = xs.length - i ∧ i ≤ xs.length ∧ Pv i σ H, ⟨xs.length, by simp, Nat.zero_le _, h0⟩, ?_⟩
  rintro i m σ H ⟨rfl, hi, p⟩
  have q := hl i σ H hi p
  by_cases hlt : i < xs.length
  · refine .inr ⟨⟨xs, xs[i], q, by simp [hlt]⟩, Pv (i + 1), fun σ' H' p' => ⟨xs.length - (i + 1), by omega, rfl, hlt, p'⟩, fun x H' y => ?_⟩
    obtain ⟨e, y⟩ := y
    subst e
    exact hs i x σ _ (y xs q) p
  · have e : i = xs.length := by omega
    subst e
    exact .inl ⟨⟨xs, q, Nat.le_refl _⟩, hd σ H p⟩
theorem for_range {lo : Int} {n : Nat} {g : TG} {tb : TS} {D : Ends} {σ : St} {H : Hp} (Pv : Nat → St → Hp → Prop) (h0 : Pv 0 σ H)
    (hs : ∀ i σ H, i < n → Pv i σ H → g (.int (lo + i)) σ H fun σ2 H2 => tb { D with nx := Pv (i + 1), ct := Pv (i + 1), bk := D.nx } σ2 H2) (hd : ∀ σ H, Pv n σ H → D.nx σ H) :
    ∃ W : Nat → Nat → St → Hp → Prop, (∃ m, W 0 m σ H) ∧ ∀ i m σ H, W i m σ H →
      ((Itr lo n).stop i H ∧ D.nx σ H) ∨ ((Itr lo n).go i H ∧ ∃ N : St → Hp → Prop, (∀ σ' H', N σ' H' → ∃ m', m' < m ∧ W (i + 1) m' σ' H') ∧ ∀ x H', (Itr lo n).yld i H x H' → g x σ H' fun σ2 H2 => tb { D with nx := N, ct := N, bk := D.nx } σ2 H2) := by
  refine ⟨fun i m σ H => m = n - i ∧ i ≤ n ∧ Pv i σ H, ⟨n, by simp, Nat.zero_le _, h0⟩, ?_⟩
  rintro i m σ H ⟨rfl, hi, p⟩
  by_cases hlt : i < n
  · refine .inr ⟨hlt, Pv (i + 1), fun σ' H' p' => ⟨n - (i + 1), by omega, rfl, hlt, p'⟩, fun x H' y => ?_⟩
    obtain ⟨e, y⟩ := y
    subst e y
    exact hs i σ _ hlt p
  · have e : i = n := by omega
    subst e
    exact .inl ⟨Nat.le_refl _, hd σ H p⟩
end L2

namespace L2
open PySem PySem.Spec PyProof.Rows

noncomputable abbrev R2 := V → V → Hp → VK → Prop
/-- a two-place operation on values: f is binaryOp op, inplaceOp op or compareOp op -/
noncomputable def OpR (X : Cx) (f : Value → Value → Sem Value) (r : R2) : Prop :=
  ∀ (pins : List (Addr × Obj)) (s : Shared) (σ : St) (H : Hp) (x y : V) (v u : Value) (Q : VK), Inv X pins σ H s → RelV x v → RelV y u → r x y H Q →
    wpAny (model X.prog X.w) X.A (f v u) (EP X pins σ Q) X.xe s
/-- a one-place operation -/
noncomputable def UnR (X : Cx) (f : Value → Sem Value) (r : V → Hp → VK → Prop) : Prop :=
  ∀ (pins : List (Addr × Obj)) (s : Shared) (σ : St) (H : Hp) (x : V) (v : Value) (Q : VK), Inv X pins σ H s → RelV x v → r x H Q →
    wpAny (model X.prog X.w) X.A (f v) (EP X pins σ Q) X.xe s
/-- a call of a value that is known (a builtin, a type) with values -/
noncomputable def CallR (X : Cx) (f : Value) (r : List V → Hp → VK → Prop) : Prop :=
  ∀ (pins : List (Addr × Obj)) (s : Shared) (σ : St) (H : Hp) (xs : List V) (us : List Value) (Q : VK), Inv X pins σ H s → Vals xs us → r xs H Q →
    wpAny (model X.prog X.w) X.A (call f us) (EP X pins σ Q) X.xe s
/-- a value's truth -/
noncomputable def TruR (X : Cx) (r : V → Hp → (Bool → Hp → Prop) → Prop) : Prop :=
  ∀ (pins : List (Addr × Obj)) (s : Shared) (σ : St) (H : Hp) (x : V) (v : Value) (Q : Bool → Hp → Prop), Inv X pins σ H s → RelV x v → r x H Q →
    wpAny (model X.prog X.w) X.A (truthy v) (TP X pins σ Q) X.xe s

noncomputable def tOp (r : R2) (ta tb : TE) : TE := fun σ H Q => ta σ H fun x H1 => tb σ H1 fun y H2 => r x y H2 Q
noncomputable def tUn (r : V → Hp → VK → Prop) (ta : TE) : TE := fun σ H Q => ta σ H fun x H1 => r x H1 Q
/-- ints in, under C, and a value out -/
noncomputable def rI (C : Int → Int → Prop) (g : Int → Int → V) : R2 := fun x y H Q => ∃ i j, x = .int i ∧ y = .int j ∧ C i j ∧ Q (g i j) H
noncomputable def rI0 (g : Int → Int → V) : R2 := fun x y H Q => ∃ i j, x = .int i ∧ y = .int j ∧ Q (g i j) H
noncomputable def rU (g : Int → V) : V → Hp → VK → Prop := fun x H Q => ∃ i, x = .int i ∧ Q (g i) H

section
variable {X : Cx} {a b c : Expr} {ta tb tc : TE} {pos : Pos}

theorem binT (ha : PE X a ta) (hb : PE X b tb) {pins : List (Addr × Obj)} {s : Shared} {σ : St} {H : Hp} {R : V → V → Hp → Prop} (I : Inv X pins σ H s)
    (h : ta σ H fun x H1 => tb σ H1 fun y H2 => R x y H2) {Q : Value → Shared → Prop} {f : Value → Value → Sem Value}
    (hf : ∀ v u s2 x y H2, Inv X pins σ H2 s2 → RelV x v → RelV y u → R x y H2 → wpAny (model X.prog X.w) X.A (f v u) Q X.xe s2) :
    wpAny (model X.prog X.w) X.A (eval a X.env) (fun v s₁ => wpAny (model X.prog X.w) X.A (eval b X.env) (fun u s₂ => wpAny (model X.prog X.w) X.A (f v u) Q X.xe s₂) X.xe s₁) X.xe s := by
  refine thn (ha pins s σ H _ I h) fun v s1 ⟨x, H1, I1, r1, q1⟩ => ?_
  refine thn (hb pins s1 σ H1 _ I1 q1) fun u s2 ⟨y, H2, I2, r2, q2⟩ => ?_
  exact hf v u s2 x y H2 I2 r1 r2 q2

theorem pe_op {op : Operator} {r : R2} (ho : OpR X (binaryOp op) r) (ha : PE X a ta) (hb : PE X b tb) : PE X (.BinOp a op b pos) (tOp r ta tb) := by
  intro pins s σ H Q I h
  exact wpAny_BinOp (binT ha hb I h fun v u s2 x y H2 I2 rx ry q => ho pins s2 σ H2 x y v u Q I2 rx ry q)
theorem pe_un {op : UnaryOp} {r : V → Hp → VK → Prop} (ho : UnR X (unaryOp op) r) (ha : PE X a ta) : PE X (.UnaryOp op a pos) (tUn r ta) := by
  intro pins s σ H Q I h
  exact UnaryOp_ (thn (ha pins s σ H _ I h) fun v s1 ⟨x, H1, I1, r1, q1⟩ => ho pins s1 σ H1 x v Q I1 r1 q1)

/-! ### ints -/
theorem opI {f : Value → Value → Sem Value} {C : Int → Int → Prop} {g : Int → Int → Int}
    (rule : ∀ (i j : Int) (t u : Tok) (s : Shared) (Q : Value → Shared → Prop) (E : Value → Shared → Prop), C i j → Q (.int (g i j) s.toks) { s with toks := s.toks + 1 } → wpAny (model X.prog X.w) X.A (f (.int i t) (.int j u)) Q E s) :
    OpR X f (rI C fun i j => .int (g i j)) := by
  intro pins s σ H x y v u Q I rx ry h
  obtain ⟨i, j, rfl, rfl, hc, q⟩ := h
  obtain ⟨t, rfl⟩ := rx
  obtain ⟨t', rfl⟩ := ry
  exact rule i j t t' s _ _ hc ⟨.int (g i j), H, I.tok _, ⟨_, rfl⟩, q⟩
theorem opI0 {f : Value → Value → Sem Value} {g : Int → Int → Int}
    (rule : ∀ (i j : Int) (t u : Tok) (s : Shared) (Q : Value → Shared → Prop) (E : Value → Shared → Prop), Q (.int (g i j) s.toks) { s with toks := s.toks + 1 } → wpAny (model X.prog X.w) X.A (f (.int i t) (.int j u)) Q E s) :
    OpR X f (rI0 fun i j => .int (g i j)) := by
  intro pins s σ H x y v u Q I rx ry h
  obtain ⟨i, j, rfl, rfl, q⟩ := h
  obtain ⟨t, rfl⟩ := rx
  obtain ⟨t', rfl⟩ := ry
  exact rule i j t t' s _ _ ⟨.int (g i j), H, I.tok _, ⟨_, rfl⟩, q⟩
theorem opB0 {f : Value → Value → Sem Value} {g : Int → Int → Bool}
    (rule : ∀ (i j : Int) (t u : Tok) (s : Shared) (Q : Value → Shared → Prop) (E : Value → Shared → Prop), Q (.bool (g i j)) s → wpAny (model X.prog X.w) X.A (f (.int i t) (.int j u)) Q E s) :
    OpR X f (rI0 fun i j => .bl (g i j)) := by
  intro pins s σ H x y v u Q I rx ry h
  obtain ⟨i, j, rfl, rfl, q⟩ := h
  obtain ⟨t, rfl⟩ := rx
  obtain ⟨t', rfl⟩ := ry
  exact rule i j t t' s _ _ ⟨.bl (g i j), H, I, rfl, q⟩

noncomputable def CDiv (i j : Int) : Prop := 0 < j ∧ j < 1073741824
noncomputable def CDivN (i j : Int) : Prop := j ≠ 0 ∧ j.natAbs < 1073741824
noncomputable def CPow (i j : Int) : Prop := 0 ≤ j ∧ j ≤ 1000000 ∧ i.natAbs < 2 ^ 64
noncomputable def CMul (i j : Int) : Prop := (-(2 ^ 64) < i ∧ i < 2 ^ 64) ∨ (-(2 ^ 64) < j ∧ j < 2 ^ 64)
theorem two_pow_nn (k : Nat) : (0 : Int) ≤ 2 ^ k := by
  rw [two_pow_cast]
  exact Int.natCast_nonneg _

theorem op_add : OpR X (binaryOp .Add) (rI0 fun i j => .int (i + j)) := opI0 fun _ _ _ _ _ _ _ q => add_int q
theorem op_sub : OpR X (binaryOp .Sub) (rI0 fun i j => .int (i - j)) := opI0 fun _ _ _ _ _ _ _ q => sub_int q
/-- % by a positive divisor of any size -/
theorem op_mod : OpR X (binaryOp .Mod) (rI (fun _ j => 0 < j) fun i j => .int (i % j)) := opI fun i j _ _ _ _ _ hc q => by
  have h1 : (0 : Int) < j := hc
  exact mod_int' (by omega) (by rw [Int.fmod_eq_emod_of_nonneg i (by omega)]; exact q)
theorem op_pow : OpR X (binaryOp .Pow) (rI CPow fun i j => .int (i ^ j.toNat)) := opI fun _ _ _ _ _ _ _ hc q => pow_int_small hc.1 hc.2.1 hc.2.2 q
theorem op_shl : OpR X (binaryOp .LShift) (rI CPow fun i j => .int (i * 2 ^ j.toNat)) := opI fun _ _ _ _ _ _ _ hc q => lshift_int_small hc.1 hc.2.1 hc.2.2 q
theorem op_shr : OpR X (binaryOp .RShift) (rI (fun _ j => 0 ≤ j) fun i j => .int (i / 2 ^ j.toNat)) := opI fun i j _ _ _ _ _ hc q =>
  rshift_int hc (by rw [Int.fdiv_eq_ediv_of_nonneg i (two_pow_nn _)]; exact q)
theorem op_and : OpR X (binaryOp .BitAnd) (rI0 fun i j => .int (Builtin.bitAnd i j)) := opI0 fun _ _ _ _ _ _ _ q => and_int q
theorem op_xor : OpR X (binaryOp .BitXor) (rI0 fun i j => .int (Builtin.bitXor i j)) := opI0 fun _ _ _ _ _ _ _ q => xor_int q


theorem unI {f : Value → Sem Value} {g : Int → Int}
    (rule : ∀ (i : Int) (t : Tok) (s : Shared) (Q : Value → Shared → Prop) (E : Value → Shared → Prop), Q (.int (g i) s.toks) { s with toks := s.toks + 1 } → wpAny (model X.prog X.w) X.A (f (.int i t)) Q E s) :
    UnR X f (rU fun i => .int (g i)) := by
  intro pins s σ H x v Q I rx h
  obtain ⟨i, rfl, q⟩ := h
  obtain ⟨t, rfl⟩ := rx
  exact rule i t s _ _ ⟨.int (g i), H, I.tok _, ⟨_, rfl⟩, q⟩
theorem un_neg : UnR X (unaryOp .USub) (rU fun i => .int (-i)) := unI fun _ _ _ _ _ q => neg_int q

/-! ### bools among ints: n += (a < b) -/
end

/-! ### comparisons -/
/-- the scalars that == tells apart as data does -/
noncomputable def scal : V → V → Bool
  | .non, .non => true | .non, .int _ => true | .int _, .non => true | .non, .bl _ => true | .bl _, .non => true | .non, .str _ => true | .str _, .non => true
  | .int _, .int _ => true | .bl _, .bl _ => true | .str _, .str _ => true | .byt _, .byt _ => true
  | .int _, .str _ => true | .str _, .int _ => true | .bl _, .str _ => true | .str _, .bl _ => true
  | _, _ => false
noncomputable def rEq : R2 := fun x y H Q => scal x y = true ∧ Q (.bl (decide (x = y))) H
noncomputable def rNe : R2 := fun x y H Q => scal x y = true ∧ Q (.bl (!decide (x = y))) H

theorem dec_int {i j : Int} : decide (V.int i = V.int j) = (i == j) := by
  rw [Bool.eq_iff_iff]
  simp
theorem dec_bl {i j : Bool} : decide (V.bl i = V.bl j) = (i == j) := by
  rw [Bool.eq_iff_iff]
  simp
theorem dec_str {i j : Str} : decide (V.str i = V.str j) = (i == j) := by
  rw [Bool.eq_iff_iff]
  simp
theorem dec_byt {i j : Array UInt8} : decide (V.byt i = V.byt j) = (i.toList == j.toList) := by
  rw [Bool.eq_iff_iff]
  cases i
  cases j
  simp

section
variable {X : Cx} {a b c : Expr} {ta tb tc : TE} {pos : Pos}
theorem fin_bl {pins : List (Addr × Obj)} {σ : St} {H : Hp} {s : Shared} {Q : VK} {k k' : Bool} (I : Inv X pins σ H s) (q : Q (.bl k) H) (e : k = k') : EP X pins σ Q (.bool k') s := by
  subst e
  exact ⟨.bl k, H, I, rfl, q⟩
theorem op_eq : OpR X (compareOp .Eq) rEq := by
  intro pins s σ H x y v u Q I rx ry h
  obtain ⟨hs, q⟩ := h
  cases x with
  | non =>
    cases rx
    cases y with
    | non => cases ry; exact PySem.EqNone.eq_none_none (fin_bl I q (by simp))
    | bl j => cases ry; exact PySem.EqNone.eq_none_bool (fin_bl I q (by simp))
    | int j => obtain ⟨t', rfl⟩ := ry; exact PySem.EqNone.eq_none_int (fin_bl I q (by simp))
    | str j => obtain ⟨t', rfl⟩ := ry; exact PySem.EqNone.eq_none_str (fin_bl I q (by simp))
    | _ => exact absurd (show false = true from hs) Bool.false_ne_true
  | bl i =>
    cases rx
    cases y with
    | non => cases ry; exact PySem.EqNone.eq_bool_none (fin_bl I q (by simp))
    | bl j => cases ry; exact eq_bool (fin_bl I q dec_bl)
    | str j => obtain ⟨t', rfl⟩ := ry; exact PySem.EqMixed.eq_bool_str (fin_bl I q (by simp))
    | _ => exact absurd (show false = true from hs) Bool.false_ne_true
  | int i =>
    obtain ⟨t, rfl⟩ := rx
    cases y with
    | non => cases ry; exact PySem.EqNone.eq_int_none (fin_bl I q (by simp))
    | int j => obtain ⟨t', rfl⟩ := ry; exact eq_int (fin_bl I q dec_int)
    | str j => obtain ⟨t', rfl⟩ := ry; exact PySem.EqMixed.eq_int_str (fin_bl I q (by simp))
    | _ => exact absurd (show false = true from hs) Bool.false_ne_true
  | str i =>
    obtain ⟨t, rfl⟩ := rx
    cases y with
    | non => cases ry; exact PySem.EqNone.eq_str_none (fin_bl I q (by simp))
    | bl j => cases ry; exact PySem.EqMixed.eq_str_bool (fin_bl I q (by simp))
    | int j => obtain ⟨t', rfl⟩ := ry; exact PySem.EqMixed.eq_str_int (fin_bl I q (by simp))
    | str j => obtain ⟨t', rfl⟩ := ry; exact eq_str (fin_bl I q dec_str)
    | _ => exact absurd (show false = true from hs) Bool.false_ne_true
  | byt i =>
    obtain ⟨t, rfl⟩ := rx
    cases y with
    | byt j => obtain ⟨t', rfl⟩ := ry; exact PySem.W.eq_bytes (fin_bl I q dec_byt)
    | _ => exact absurd (show false = true from hs) Bool.false_ne_true
  | _ => cases y <;> exact absurd (show false = true from hs) Bool.false_ne_true
theorem op_ne : OpR X (compareOp .NotEq) rNe := by
  intro pins s σ H x y v u Q I rx ry h
  obtain ⟨hs, q⟩ := h
  cases x with
  | non =>
    cases rx
    cases y with
    | non => cases ry; exact PySem.EqNone.ne_none_none (fin_bl I q (by simp))
    | bl j => cases ry; exact PySem.EqNone.ne_none_bool (fin_bl I q (by simp))
    | int j => obtain ⟨t', rfl⟩ := ry; exact PySem.EqNone.ne_none_int (fin_bl I q (by simp))
    | str j => obtain ⟨t', rfl⟩ := ry; exact PySem.EqNone.ne_none_str (fin_bl I q (by simp))
    | _ => exact absurd (show false = true from hs) Bool.false_ne_true
  | bl i =>
    cases rx
    cases y with
    | non => cases ry; exact PySem.EqNone.ne_bool_none (fin_bl I q (by simp))
    | bl j => cases ry; exact ne_bool (fin_bl I q (congrArg not dec_bl))
    | str j => obtain ⟨t', rfl⟩ := ry; exact PySem.EqMixed.ne_bool_str (fin_bl I q (by simp))
    | _ => exact absurd (show false = true from hs) Bool.false_ne_true
  | int i =>
    obtain ⟨t, rfl⟩ := rx
    cases y with
    | non => cases ry; exact PySem.EqNone.ne_int_none (fin_bl I q (by simp))
    | int j => obtain ⟨t', rfl⟩ := ry; exact ne_int (fin_bl I q (congrArg not dec_int))
    | str j => obtain ⟨t', rfl⟩ := ry; exact PySem.EqMixed.ne_int_str (fin_bl I q (by simp))
    | _ => exact absurd (show false = true from hs) Bool.false_ne_true
  | str i =>
    obtain ⟨t, rfl⟩ := rx
    cases y with
    | non => cases ry; exact PySem.EqNone.ne_str_none (fin_bl I q (by simp))
    | bl j => cases ry; exact PySem.EqMixed.ne_str_bool (fin_bl I q (by simp))
    | int j => obtain ⟨t', rfl⟩ := ry; exact PySem.EqMixed.ne_str_int (fin_bl I q (by simp))
    | str j => obtain ⟨t', rfl⟩ := ry; exact ne_str (fin_bl I q (congrArg not dec_str))
    | _ => exact absurd (show false = true from hs) Bool.false_ne_true
  | byt i =>
    obtain ⟨t, rfl⟩ := rx
    cases y with
    | byt j => obtain ⟨t', rfl⟩ := ry; exact PySem.W.ne_bytes (fin_bl I q (congrArg not dec_byt))
    | _ => exact absurd (show false = true from hs) Bool.false_ne_true
  | _ => cases y <;> exact absurd (show false = true from hs) Bool.false_ne_true

theorem op_lt : OpR X (compareOp .Lt) (rI0 fun i j => .bl (decide (i < j))) := opB0 fun _ _ _ _ _ _ _ q => lt_int q
theorem op_le : OpR X (compareOp .LtE) (rI0 fun i j => .bl (decide (i ≤ j))) := opB0 fun _ _ _ _ _ _ _ q => le_int q


/-- is, is not of two objects that are tracked lists or instances -/
noncomputable def isObj : HO → Bool
  | .lst _ => true
  | .ins _ _ _ => true
  | _ => false


theorem nomark (b : Expr) {op : CmpOp} (h : op ≠ .In := by decide) (h2 : op ≠ .NotIn := by decide) : behindInMarks op b = false := by
  have e1 : (op == CmpOp.In) = false := by cases op <;> first | rfl | exact absurd rfl h
  have e2 : (op == CmpOp.NotIn) = false := by cases op <;> first | rfl | exact absurd rfl h2
  cases b <;> simp [behindInMarks, e1, e2]
/-- a comparison as a value; hm: nomark b, or (for in, not in) by with_unfolding_all rfl -/
theorem pe_cmpR {op : CmpOp} {r : R2} (ho : OpR X (compareOp op) r) (ha : PE X a ta) (hb : PE X b tb) (hm : behindInMarks op b = false) : PE X (.Compare a [op] [b] pos) (tOp r ta tb) := by
  intro pins s σ H Q I h
  exact wpAny_Compare1 (binT ha hb I h fun v u s2 x y H2 I2 rx ry q => ho pins s2 σ H2 x y v u Q I2 rx ry q) hm
/-- a reading of a value as a test -/
noncomputable def tTest (t : TE) : TT := fun σ H Q => t σ H fun x H' => ∃ k, x = .bl k ∧ Q k H'
theorem pt_cmpR {op : CmpOp} {r : R2} (ho : OpR X (compareOp op) r) (ha : PE X a ta) (hb : PE X b tb) (hm : behindInMarks op b = false) : PT X (.Compare a [op] [b] pos) (tTest (tOp r ta tb)) := by
  intro pins s σ H Q I h
  refine wpAny_isTrue_Compare1 (thn (ha pins s σ H _ I h) fun v s1 ⟨x, H1, I1, r1, q1⟩ => thn (hb pins s1 σ H1 _ I1 q1) fun u s2 ⟨y, H2, I2, r2, q2⟩ =>
    thn (ho pins s2 σ H2 x y v u _ I2 r1 r2 q2) fun c s3 ⟨z, H3, I3, r3, k, e, q3⟩ => ?_) hm
  subst e
  cases r3
  exact wpAny_truthy_bool ⟨H3, I3, q3⟩
/-- a op1 b op2 c -/
noncomputable def tChain (r r' : R2) (ta tb tc : TE) : TE := fun σ H Q => ta σ H fun x H1 => tb σ H1 fun y H2 => r x y H2 fun z H3 => ∃ k, z = .bl k ∧
  (if k = true then tc σ H3 fun w' H4 => r' y w' H4 Q else Q (.bl false) H3)
theorem pe_chain {op op' : CmpOp} {r r' : R2} (ho : OpR X (compareOp op) r) (ho' : OpR X (compareOp op') r') (ha : PE X a ta) (hb : PE X b tb) (hc : PE X c tc)
    (hm : lastMarks [op, op'] [b, c] = false := by with_unfolding_all rfl) : PE X (.Compare a [op, op'] [b, c] pos) (tChain r r' ta tb tc) := by
  intro pins s σ H Q I h
  refine Compare_chain (thn (ha pins s σ H _ I h) fun v s1 ⟨x, H1, I1, r1, q1⟩ => chain_link (thn (hb pins s1 σ H1 _ I1 q1) fun u s2 ⟨y, H2, I2, r2, q2⟩ =>
    thn (ho pins s2 σ H2 x y v u _ I2 r1 r2 q2) fun d s3 ⟨z, H3, I3, r3, k, e, q3⟩ => ?_)) hm
  subst e
  cases r3
  refine wpAny_truthy_bool ?_
  cases k with
  | false => exact ite_ff ⟨.bl false, H3, I3, rfl, q3⟩
  | true => exact ite_tt (chain_last (thn (hc pins s3 σ H3 _ I3 q3) fun w' s4 ⟨z', H4, I4, r4, q4⟩ => ho' pins s4 σ H4 y z' u w' Q I4 r2 r4 q4))

/-! ### truth -/
/-- a value's truth by the abstract heap -/
noncomputable def TruV (K : PySem.W.Frag) (x : V) (H : Hp) (k : Bool) : Prop :=
  match x with
  | .non => k = false
  | .bl b => k = b
  | .int i => k = (i != 0)
  | .str y => y.length ≤ sizeLine ∧ k = ((y.length : Int) != 0)
  | .byt y => y.size ≤ sizeLine ∧ k = ((y.size : Int) != 0)
  | .ref p => (∃ xs, SqL K H p xs ∧ k = !xs.isEmpty) ∨ (∃ xs, SqT K H p xs ∧ k = !xs.isEmpty) ∨ ∃ kvs, H p = some (.dK kvs) ∧ k = !kvs.isEmpty
  | _ => False
theorem line63 : (sizeLine : Nat) < 2 ^ 63 := by rw [sizeLine_eq]; decide

/-! ### strs and bytes -/

noncomputable def PlainIxT (b : Expr) : Prop := ∀ o i, subscripted b false o i = operate [o, i] (getItem o i)

/-! ### scalar builtins, by CallR -/
theorem vals1 {x : V} {us : List Value} (r : Vals [x] us) : ∃ u, us = [u] ∧ RelV x u := by
  cases r with
  | cons r1 r2 => cases r2; exact ⟨_, rfl, r1⟩
theorem vals2 {x y : V} {us : List Value} (r : Vals [x, y] us) : ∃ u w', us = [u, w'] ∧ RelV x u ∧ RelV y w' := by
  cases r with
  | cons r1 r2 =>
    cases r2 with
    | cons r3 r4 => cases r4; exact ⟨_, _, rfl, r1, r3⟩
theorem call_abs : CallR X (.builtin "abs") (fun xs H Q => ∃ i, xs = [.int i] ∧ Q (.int (if i < 0 then -i else i)) H) := by
  intro pins s σ H xs us Q I r h
  obtain ⟨i, rfl, q⟩ := h
  obtain ⟨u, rfl, t, rfl⟩ := vals1 r
  exact call_abs_int fun u tk => ⟨.int (if i < 0 then -i else i), H, I.tok _, ⟨_, rfl⟩, q⟩
/-- len of a str, a bytes, a list, a tuple -/
noncomputable def LenV (K : PySem.W.Frag) (x : V) (H : Hp) (n : Nat) : Prop :=
  match x with
  | .str y => y.length ≤ sizeLine ∧ n = y.length
  | .byt y => y.size ≤ sizeLine ∧ n = y.size
  | .ref p => (∃ xs, SqL K H p xs ∧ n = xs.length) ∨ ∃ xs, SqT K H p xs ∧ n = xs.length
  | _ => False
end
end L2

namespace L2
open PySem PySem.Spec PyProof.Rows

/-! ### an instance, its attributes a map -/
structure ObjM (h : Heap) (x dx C : Addr) (mA : Str → Option Value) : Prop where
  obj : h.get? x = some (PySem.W.instObj C dx)
  ns : h.Ns1 dx mA
  ne : dx ≠ x

theorem lookIn_ns {h : Heap} {dx : Addr} {mA : Str → Option Value} (n : h.Ns1 dx mA) : ∃ od, h.get? dx = some od ∧ ∀ name, PySem.W.lookIn name od = some (mA name) := by
  obtain ⟨o, es, ep, ho, hd, hk, _, hm⟩ := n
  refine ⟨o, ho, fun name => ?_⟩
  have e := hm name
  unfold nsFind findBy at e
  rw [← Array.find?_toList] at e
  unfold PySem.W.lookIn
  rw [hd]
  dsimp only
  split
  · rename_i y q
    rw [q] at e
    exact congrArg some e
  · rename_i q
    rw [q] at e
    have a : es.toList.any (·.refKey) = false := by
      rw [List.any_eq_false]
      intro y hy
      obtain ⟨z, t, hkey⟩ := hk y (Array.mem_toList_iff.mp hy)
      simp [DictEntry.refKey, hkey]
    have a' : ¬ es.toList.any (·.refKey) = true := by rw [a]; exact Bool.false_ne_true
    rw [if_neg a']
    exact congrArg some e

theorem ObjM.look {h : Heap} {x dx C : Addr} {mA : Str → Option Value} (I : ObjM h x dx C mA) : ∃ od, PySem.W.InstAt h x (PySem.W.instObj C dx) C (some od) ∧ ∀ name, PySem.W.lookIn name od = some (mA name) :=
  let ⟨od, ho, hl⟩ := lookIn_ns I.ns
  ⟨od, ⟨I.obj, rfl, rfl, ho⟩, hl⟩

section
variable {prog : Program} {w : World} {A : Around} {E : Value → Shared → Prop} {s : Shared} {K : PySem.W.Frag} {x dx C f : Addr} {mA : Str → Option Value} {name : Str} {v : Value}





end

/-! ### the attributes as a list of pairs -/
noncomputable def putF (f : Str) (v : V) : List (Str × V) → List (Str × V)
  | [] => [(f, v)]
  | (g, x) :: r => if g = f then (g, v) :: r else (g, x) :: putF f v r
theorem lookup_putF (f g : Str) (v : V) : ∀ fs : List (Str × V), (putF f v fs).lookup g = if g = f then some v else fs.lookup g
  | [] => by
    show List.lookup g [(f, v)] = _
    by_cases h : g = f
    · have hb : (g == f) = true := beq_iff_eq.mpr h
      simp only [List.lookup, hb, if_pos h]
    · have hb : (g == f) = false := beq_eq_false_iff_ne.mpr h
      simp only [List.lookup, hb, if_neg h]
  | (k, x) :: r => by
    have ih := lookup_putF f g v r
    rw [show putF f v ((k, x) :: r) = (if k = f then (k, v) :: r else (k, x) :: putF f v r) from rfl]
    by_cases hk : k = f
    · rw [if_pos hk]
      by_cases h : g = k
      · have hb : (g == k) = true := beq_iff_eq.mpr h
        simp only [List.lookup, hb, if_pos (h.trans hk)]
      · have hb : (g == k) = false := beq_eq_false_iff_ne.mpr h
        simp only [List.lookup, hb, if_neg (fun e : g = f => h (e.trans hk.symm))]
    · rw [if_neg hk]
      by_cases h : g = k
      · have hb : (g == k) = true := beq_iff_eq.mpr h
        simp only [List.lookup, hb, if_neg (fun e : g = f => hk (h.symm.trans e))]
      · have hb : (g == k) = false := beq_eq_false_iff_ne.mpr h
        simp only [List.lookup, hb]
        exact ih

theorem RelO.some_of {v : V} {o : Option Value} (r : RelO (some v) o) : ∃ u, o = some u ∧ RelV v u := by
  cases o with
  | none => exact (show False from r).elim
  | some u => exact ⟨u, rfl, r⟩
theorem RelO.none_of {o : Option Value} (r : RelO none o) : o = none := by
  cases o with
  | none => rfl
  | some u => exact (show False from r).elim
theorem handed_of {v : V} {u : Value} (r : RelV v u) : PySem.W.handedIn u = true := by
  cases v with
  | non => cases (show u = Value.none from r); rfl
  | bl b => cases (show u = Value.bool b from r); rfl
  | int i => obtain ⟨t, e⟩ := (show ∃ t, u = Value.int i t from r); cases e; rfl
  | str x => obtain ⟨t, e⟩ := (show ∃ t, u = Value.str x t from r); cases e; rfl
  | byt b => obtain ⟨t, e⟩ := (show ∃ t, u = Value.bytes b t from r); cases e; rfl
  | flt b => obtain ⟨t, e⟩ := (show ∃ t, u = Value.float b t from r); cases e; rfl
  | ref a => cases (show u = Value.ref a from r); rfl
  | ty n => cases (show u = Value.type n from r); rfl

section
variable {P : Program} {w : World} {H H' : Hp} {h h' : Heap} {a C dx : Addr} {fs fs' : List (Str × V)}
theorem ins_get (hok : HOk P w H h) (e : H a = some (.ins C dx fs)) : ∃ mA, ObjM h a dx C mA ∧ (∀ f, RelO (fs.lookup f) (mA f)) ∧ PySem.Within mA (fs.map (·.1)) ∧ fs.length ≤ 1000 ∧ H dx = some (.own a) := by
  obtain ⟨d, z, ne, ob, mA, n, r, q⟩ := (show ObjOk P w H h a (.ins C dx fs) from hok a _ e)
  exact ⟨mA, ⟨ob, n, ne⟩, r, q, z, d⟩
end

/-! ### what of the text a class must have -/
structure Cls (K : PySem.W.Frag) (C : Addr) : Prop where
  pg : PySem.W.plainGet K C Str.empty = true
  hd : PySem.W.hasDictIn K C = true
  po : PySem.W.plainOver K C = true
  sa : PySem.W.findIn K (.ref C) "__setattr__" = some (some (.builtin "object.__setattr__"))
theorem Cls.get {K : PySem.W.Frag} {C : Addr} (c : Cls K C) (f : Str) : PySem.W.plainGet K C f = true := c.pg
/-- no class of it has the name -/
noncomputable def NoAttr (K : PySem.W.Frag) (C : Addr) (f : Str) : Prop := PySem.W.findIn K (.ref C) f = some none
/-- a constant of the class -/
structure Con (K : PySem.W.Frag) (C : Addr) (f : Str) (v : V) (u : Value) : Prop where
  at_ : PySem.W.findIn K (.ref C) f = some (some u)
  rel : RelV v u
  get : PySem.W.specialIn K u "__get__" = some none
  cp : PySem.W.copiedNames.contains f = false
/-- a method: a plain def of the class or of one above it -/
structure Meth (K : PySem.W.Frag) (C : Addr) (m : Str) (f : Addr) : Prop where
  at_ : PySem.W.findIn K (.ref C) m = some (some (.ref f))
  fn : PySem.W.isFn K (.ref f) = true
  kp : PySem.W.keepIn K (.ref f) = true

section
variable {X : Cx} {pins : List (Addr × Obj)} {σ : St} {H : Hp} {s : Shared} {a C dx : Addr} {fs : List (Str × V)} {f : Str} {v : V} {A : Around} {E : Value → Shared → Prop}






/-- e.f where nothing but the object is asked: through attributeBase (super) and the last hold -/
theorem attr_of {prog : Program} {w : World} {env : Env} {e : Expr} {f : Str} {pos : Pos} {s : Shared} {Q : Value → Shared → Prop} (hb : attributeBase e f env (eval e env) = eval e env)
    (h : wpAny (model prog w) A (eval e env) (fun o s₁ => wpAny (model prog w) A (getAttr o f true) Q E s₁) E s) : wpAny (model prog w) A (eval (.Attribute e f pos) env) Q E s :=
  Attribute_any_ h (by rw [arm_eval_Attribute, hb])
end

/-! ### readings and rules -/
/-- e.f, an attribute of the instance -/
noncomputable def tFld (K : PySem.W.Frag) (ta : TE) (f : Str) : TE := fun σ H Q => ta σ H fun x H1 => ∃ a C dx fs v, x = .ref a ∧ H1 a = some (.ins C dx fs) ∧ Cls K C ∧ NoAttr K C f ∧ fs.lookup f = some v ∧ Q v H1
/-- e.f, a constant of the class -/
noncomputable def tCon (K : PySem.W.Frag) (ta : TE) (f : Str) : TE := fun σ H Q => ta σ H fun x H1 => ∃ a C dx fs v u, x = .ref a ∧ H1 a = some (.ins C dx fs) ∧ Cls K C ∧ Con K C f v u ∧ fs.lookup f = none ∧ Q v H1
/-- e.f = value -/
noncomputable def sFld (K : PySem.W.Frag) (ta tv : TE) (f : Str) : TS := fun D σ H => tv σ H fun y H1 => ta σ H1 fun x H2 => ∃ a C dx fs, x = .ref a ∧ H2 a = some (.ins C dx fs) ∧ Cls K C ∧ NoAttr K C f ∧ fs.length < 1000 ∧
  D.nx σ (upd H2 a (.ins C dx (putF f y fs)))
/-- an augmented operator on two values -/
noncomputable def InOp (X : Cx) (op : Operator) (rd : V → V → Hp → VK → Prop) : Prop :=
  ∀ (pins : List (Addr × Obj)) (s : Shared) (σ : St) (H : Hp) (x y : V) (u v : Value) (Q : VK), Inv X pins σ H s → RelV x u → RelV y v → rd x y H Q → wpAny (model X.prog X.w) X.A (inplaceOp op u v) (EP X pins σ Q) X.xe s
/-- e.f op= value -/
noncomputable def sFldAug (K : PySem.W.Frag) (ta tv : TE) (rd : V → V → Hp → VK → Prop) (f : Str) : TS := fun D σ H => ta σ H fun x H1 => ∃ a C dx fs v, x = .ref a ∧ H1 a = some (.ins C dx fs) ∧ Cls K C ∧ NoAttr K C f ∧ fs.lookup f = some v ∧
  tv σ H1 fun y H2 => rd v y H2 fun z H3 => ∃ dx' fs', H3 a = some (.ins C dx' fs') ∧ fs'.length < 1000 ∧ D.nx σ (upd H3 a (.ins C dx' (putF f z fs')))

section
variable {X : Cx} {o e value : Expr} {f : Str} {pos pos' tpos : Pos} {ta tv : TE}
noncomputable def rAdd : V → V → Hp → VK → Prop := fun x y H Q => ∃ i j, x = .int i ∧ y = .int j ∧ Q (.int (i + j)) H
noncomputable def rSub : V → V → Hp → VK → Prop := fun x y H Q => ∃ i j, x = .int i ∧ y = .int j ∧ Q (.int (i - j)) H

end

/-! ### isinstance -/
section
variable {X : Cx} {pins : List (Addr × Obj)} {σ : St} {H : Hp} {s : Shared} {A : Around} {E : Value → Shared → Prop} {Q : Value → Shared → Prop} {c : Value} {b : Bool}
/-- the type of a value, as the fragment's deciders take it; for an instance its class -/
inductive TyOf (K : PySem.W.Frag) (H : Hp) : V → Value → Prop where
  | non : TyOf K H .non (.type "NoneType")
  | bl (x : Bool) : TyOf K H (.bl x) (.type "bool")
  | int (i : Int) : TyOf K H (.int i) (.type "int")
  | str (x : Str) : TyOf K H (.str x) (.type "str")
  | flt (x : UInt64) : TyOf K H (.flt x) (.type "float")
  | lst {a : Addr} {xs : List V} (e : H a = some (.lst xs)) : TyOf K H (.ref a) (.type "list")
  | frz {a : Addr} {o : Obj} {xs : List V} (e : H a = some (.frz o (.lst xs))) : TyOf K H (.ref a) (.type "list")
  | tup {a : Addr} {xs : List V} (e : H a = some (.tup xs)) : TyOf K H (.ref a) (.type "tuple")
  | dK {a : Addr} {kvs : List (Key × V)} (e : H a = some (.dK kvs)) : TyOf K H (.ref a) (.type "dict")
  | dT {a : Addr} {kvs : List (List Key × V)} (e : H a = some (.dT kvs)) : TyOf K H (.ref a) (.type "dict")
  | ins {a C dx : Addr} {fs : List (Str × V)} (e : H a = some (.ins C dx fs)) (cl : Cls K C) (ha : PySem.W.findIn K (.ref C) "__class__" = some (some (.builtin "object.__class__")))
      (hn : PySem.W.specialIn K (.builtin "object.__class__") "__get__" = some (some (.builtin "getset_descriptor.__get__"))) (htk : PySem.W.takesIn K (.builtin "object.__class__") = some true)
      (hm : PySem.W.mroIn K C (.type "object") = some true) : TyOf K H (.ref a) (.ref C)
/-- isinstance(x, c) for one class c, a built-in or an own one: kitOne's answer -/
theorem isinst_ok {x : V} {u t : Value} (I : Inv X pins σ H s) (rx : RelV x u) (ty : TyOf X.K H x t) (e : PySem.W.kitOne X.K t c = some b) (h : ∀ tk, Q (.bool b) { s with toks := tk }) :
    wpAny (model X.prog X.w) A (call (.builtin "isinstance") [u, c]) Q E s := by
  cases ty with
  | non => cases (show u = Value.none from rx); exact PySem.W.kia_one PySem.W.kitx_none I.kIn True.intro e (fun z => nomatch z) h
  | bl y => cases (show u = Value.bool y from rx); exact PySem.W.kia_one PySem.W.kitx_bool I.kIn True.intro e (fun z => nomatch z) h
  | int i => obtain ⟨t, q⟩ := (show ∃ t, u = Value.int i t from rx); cases q; exact PySem.W.kia_one PySem.W.kitx_int I.kIn True.intro e (fun z => nomatch z) h
  | str y => obtain ⟨t, q⟩ := (show ∃ t, u = Value.str y t from rx); cases q; exact PySem.W.kia_one PySem.W.kitx_str I.kIn True.intro e (fun z => nomatch z) h
  | flt y => obtain ⟨t, q⟩ := (show ∃ t, u = Value.float y t from rx); cases q; exact PySem.W.kia_one PySem.W.kitx_float I.kIn True.intro e (fun z => nomatch z) h
  | @lst a xs ea =>
    cases (show u = Value.ref a from rx)
    obtain ⟨_, _, n, _, h1⟩ := (show ObjOk X.prog X.w H s.heap a (.lst xs) from I.hok a _ ea)
    exact PySem.W.kia_one PySem.W.kitx_list I.kIn ⟨_, h1, rfl⟩ e (fun z => nomatch z) h
  | @frz a ob xs ea =>
    cases (show u = Value.ref a from rx)
    obtain ⟨_, _, _, n, _, h1⟩ := (show ObjOk X.prog X.w H s.heap a (.frz ob (.lst xs)) from I.hok a _ ea)
    exact PySem.W.kia_one PySem.W.kitx_list I.kIn ⟨_, h1, rfl⟩ e (fun z => nomatch z) h
  | @tup a xs ea =>
    cases (show u = Value.ref a from rx)
    obtain ⟨_, _, _, p⟩ := (show ObjOk X.prog X.w H s.heap a (.tup xs) from I.hok a _ ea)
    obtain ⟨o, h1, h2, _⟩ := p
    exact PySem.W.kia_one PySem.W.kitx_tuple I.kIn ⟨o, h1, h2⟩ e (fun z => nomatch z) h
  | @dK a kvs ea =>
    cases (show u = Value.ref a from rx)
    obtain ⟨_, _, vs, _, p⟩ := (show ObjOk X.prog X.w H s.heap a (.dK kvs) from I.hok a _ ea)
    obtain ⟨o, es, ep, h1, h2, _⟩ := p
    exact PySem.W.kia_one PySem.W.kitx_dict I.kIn ⟨o, h1, h2.1⟩ e (fun z => nomatch z) h
  | @dT a kvs ea =>
    cases (show u = Value.ref a from rx)
    obtain ⟨_, _, xs, _, o, es, ep, h1, h2, _⟩ := (show ObjOk X.prog X.w H s.heap a (.dT kvs) from I.hok a _ ea)
    exact PySem.W.kia_one PySem.W.kitx_dict I.kIn ⟨o, h1, h2.1⟩ e (fun z => nomatch z) h
  | @ins a C dx fs ea cl ha hn htk hm =>
    cases (show u = Value.ref a from rx)
    obtain ⟨mA, O, _⟩ := ins_get I.hok ea
    obtain ⟨od, J, _⟩ := O.look
    exact PySem.W.kia_one (PySem.W.kitx_own (cl.get _) cl.hd ha hn htk hm) I.kIn J e (fun z => nomatch z) h
end
end L2

namespace L2
open PySem PySem.Spec PyProof.Rows

/-! ### room -/
structure Room (k : Nat) (A : Around) : Prop where
  hd : A.handled = none
  dp : A.depth + 3 * k + 5 < recursionLimit
  un : A.units + 16 * k + 200 < cLine
theorem Room.mono {j k : Nat} {A : Around} (r : Room k A) (h : j ≤ k) : Room j A := ⟨r.hd, by have := r.dp; omega, by have := r.un; omega⟩
theorem Room.deeper {k : Nat} {A : Around} (r : Room (k + 1) A) (env : Env) : Room k (A.deeper env) :=
  ⟨r.hd, by have := r.dp; show A.depth + 1 + 3 * k + 5 < _; omega, by have := r.un; show A.units + 3 + 16 * k + 200 < _; omega⟩
theorem make_depth {A : Around} {C : Addr} {us : List Value} {kw : List (Str × Value)} : (A.under (.builtin "type.__call__" ⟨.ref C :: us, kw⟩)).depth = A.depth + 1 := by
  first | rfl | simp [Around.under, Code.weight, Code.isCreation, Code.isGuard, Code.isCaller, Code.frames, Code.isFrame, guardIds]
theorem make_units {A : Around} {C : Addr} {us : List Value} {kw : List (Str × Value)} : (A.under (.builtin "type.__call__" ⟨.ref C :: us, kw⟩)).units = A.units + 1 := by
  first | rfl | simp [Around.under, Code.cUnits, Code.frames, Code.isFrame]
theorem Room.make {k : Nat} {A : Around} (r : Room (k + 1) A) (C : Addr) (us : List Value) (kw : List (Str × Value)) : Room k (A.under (.builtin "type.__call__" ⟨.ref C :: us, kw⟩)) :=
  ⟨r.hd, by have := r.dp; rw [make_depth]; omega, by have := r.un; rw [make_units]; omega⟩
theorem Room.depth {k : Nat} {A : Around} (r : Room k A) : A.depth < recursionLimit := by have := r.dp; omega

/-! ### argument lists and displays -/
noncomputable def tNil : TA := fun _ H Q => Q [] H
noncomputable def tCons (ta : TE) (tr : TA) : TA := fun σ H Q => ta σ H fun x H1 => tr σ H1 fun xs H2 => Q (x :: xs) H2
section
variable {X : Cx} {e : Expr} {es : List Expr} {te : TE} {t : TA} {pos : Pos}
theorem pa_nil : PA X [] tNil := fun _ _ _ _ H Q I h => Calls.spliced_nil ⟨[], H, I, .nil, h⟩
theorem pa_cons (ha : PE X e te) (hr : PA X es t) (hs : starEach (e :: es) X.env = (false, eval e X.env) :: starEach es X.env := by rfl) : PA X (e :: es) (tCons te t) := by
  intro pos pins s σ H Q I h
  rw [hs]
  show wpAny _ _ (spliced ((false, eval e X.env) :: backTo pos (starEach es X.env))) _ _ s
  refine Calls.spliced_cons (thn (ha pins s σ H _ I h) fun u s1 ⟨x, H1, I1, r1, q1⟩ => ?_)
  exact thn (hr pos pins s1 σ H1 _ I1 q1) fun us s2 ⟨xs, H2, I2, r2, q2⟩ => ⟨x :: xs, H2, I2, .cons r1 r2, q2⟩

/-- a tuple, a list of written items -/
noncomputable def tTup (t : TA) : TE := fun σ H Q => t σ H fun xs H1 => xs.length ≤ sizeLine ∧ ∀ p, H1 p = none → Q (.ref p) (upd H1 p (.tup xs))
noncomputable def tLst (t : TA) : TE := fun σ H Q => t σ H fun xs H1 => xs.length ≤ sizeLine ∧ ∀ p, H1 p = none → Q (.ref p) (upd H1 p (.lst xs))
theorem pe_tup {x1} (h : PA X es t) : PE X (.Tuple es x1 pos) (tTup t) := by
  intro pins s σ H Q I hq
  refine wpAny_Tuple_spliced (thn (h pos pins s σ H _ I hq) fun us s1 ⟨xs, H1, I1, r, z, q⟩ => ⟨by rw [← r.length]; exact z, ?_⟩)
  have hf : H1 s1.heap.objs.size = none := I1.hok.fresh (Nat.le_refl _)
  refine ⟨.ref s1.heap.objs.size, upd H1 s1.heap.objs.size (.tup xs), I1.laid (t' := s1.toks) (fun b u e => Heap.get?_push_of_some _ e) (Nat.le_refl _) ?_, rfl, q _ hf⟩
  exact ⟨z, us, r, ⟨_, Heap.get?_push_size _ rfl, rfl, _, rfl⟩⟩
theorem pe_lst (h : PA X es t) : PE X (.List es pos) (tLst t) := by
  intro pins s σ H Q I hq
  refine wpAny_List_spliced (thn (h pos pins s σ H _ I hq) fun us s1 ⟨xs, H1, I1, r, z, q⟩ => ⟨by rw [← r.length]; exact z, ?_⟩)
  have hf : H1 s1.heap.objs.size = none := I1.hok.fresh (Nat.le_refl _)
  refine ⟨.ref s1.heap.objs.size, upd H1 s1.heap.objs.size (.lst xs), I1.laid (t' := s1.toks) (fun b u e => Heap.get?_push_of_some _ e) (Nat.le_refl _) ?_, rfl, q _ hf⟩
  exact ⟨z, us, 0, r, Heap.get?_push_size _ rfl⟩
end

/-! ### what a def promises -/
/-- a def's promise: the bound arguments in the parameters' order, the heap, the wanted end, the wanted exception -/
noncomputable abbrev Sp := List V → Hp → VK → XK → Prop
/-- how an exception lies behind a call (file 08 gives it): the callers' frames, abstract heap and state ahead of the call, the wish, the exception, the state -/
noncomputable abbrev CXT := List Env → Hp → Shared → XK → Value → Shared → Prop

/-- the state at a call -/
structure Env0 (P : Program) (w : World) (K : PySem.W.Frag) (mg : Str → Option Value) (base : Heap) (A : Around) (outer : List Env) (s : Shared) (H : Hp) : Prop where
  frames : A.frames = some outer
  mod : Mod K mg base
  bs : ∀ b o, base.get? b = some o → s.heap.get? b = some o ∧ H b = none
  bsz : base.objs.size ≤ s.heap.objs.size
  funs : s.heap.FunFrames base outer
  frf : ∀ b ∈ frs outer, H b = none
  hok : HOk P w H s.heap
  bare : AllBare s.gens
/-- a call's end -/
noncomputable def CE (outer : List Env) (P : Program) (w : World) (H : Hp) (s : Shared) (Q : VK) (u : Value) (s' : Shared) : Prop :=
  ∃ v H', s'.os = s.os ∧ AllBare s'.gens ∧ Un (frs outer) [] H H' s.heap s'.heap ∧ HOk P w H' s'.heap ∧ RelV v u ∧ Q v H'
noncomputable def CR (CX : CXT) (outer : List Env) (P : Program) (w : World) (H : Hp) (s : Shared) (Q : VK) (E : XK) (r : Result) (s' : Shared) : Prop :=
  match r with
  | .ok (.ret u) => CE outer P w H s Q u s'
  | .ok _ => False
  | .error e => CX outer H s E e s'
structure FnOk (P : Program) (w : World) (K : PySem.W.Frag) (mg : Str → Option Value) (base : Heap) (CX : CXT) (k : Nat) (f : Addr) (fd : FuncData) (ps : List Str) (sp : Sp) : Prop where
  len : ∀ vs H Q E, sp vs H Q E → vs.length = ps.length
  run : ∀ (A : Around) (outer : List Env) (s : Shared) (H : Hp) (args : Args) (us : List Value) (vs : List V) (Q : VK) (E : XK), Room k A → Env0 P w K mg base A outer s H → BindsTo s fd args (ps.zip us) → Vals vs us → sp vs H Q E →
    codeAny (model P w) A (.call (.ref f) args) (CR CX outer P w H s Q E) s

theorem Env0.make {P : Program} {w : World} {K : PySem.W.Frag} {mg : Str → Option Value} {base : Heap} {A : Around} {outer : List Env} {s : Shared} {H : Hp} (e : Env0 P w K mg base A outer s H) (C : Addr) (us : List Value) (kw : List (Str × Value)) :
    Env0 P w K mg base (A.under (.builtin "type.__call__" ⟨.ref C :: us, kw⟩)) outer s H := ⟨by first | exact e.frames | (simpa [Around.under, Code.envs, Code.isFrame, pushEnvs] using e.frames), e.mod, e.bs, e.bsz, e.funs, e.frf, e.hok, e.bare⟩

section
variable {X : Cx} {pins : List (Addr × Obj)} {σ : St} {H : Hp} {s s' : Shared}
/-- from a body: what a callee wants -/
theorem Inv.env0 (I : Inv X pins σ H s) : Env0 X.prog X.w X.K X.mg X.base X.A X.stack s H :=
  ⟨I.ok.frames, I.ok.mod, I.bs, Nat.le_trans I.ok.bsz I.sz, I.stack, I.stkFree, I.hok, I.bare⟩
/-- behind a call -/
theorem Inv.after {Q : VK} {u : Value} (I : Inv X pins σ H s) (h : CE X.stack X.prog X.w H s Q u s') : EP X pins σ Q u s' := by
  obtain ⟨v, H', os, bare, un, hok, r, q⟩ := h
  obtain ⟨hh, g, d, t, os'⟩ := s'
  obtain rfl : os' = s.os := os
  exact ⟨v, H', I.call (h' := hh) (g' := g) (d' := d) (t' := t) (ch := []) un hok bare (fun b z => absurd z (by simp)), r, q⟩
end

/-! ### calls -/
/-- f(..): the written arguments, then the defaults dvs; E: what is wanted of an exception -/
noncomputable def tCall (sp : Sp) (dvs : List V) (E : XK) (t : TA) : TE := fun σ H Q => t σ H fun vs H1 => sp (vs ++ dvs) H1 Q E
/-- o.m(..) of an instance of the class at C -/
noncomputable def tMeth (C : Addr) (m : Str) (sp : Sp) (dvs : List V) (E : XK) (ta : TE) (t : TA) : TE := fun σ H Q => ta σ H fun x H1 => ∃ a dx fs, x = .ref a ∧ H1 a = some (.ins C dx fs) ∧ fs.lookup m = none ∧
  t σ H1 fun vs H2 => sp (x :: (vs ++ dvs)) H2 Q E
/-- C(..): a new instance and its dict, then __init__ -/
noncomputable def tMake (C : Addr) (sp : Sp) (dvs : List V) (E : XK) (t : TA) : TE := fun σ H Q => t σ H fun vs H1 => ∀ x dx, H1 x = none → H1 dx = none → dx ≠ x →
  sp (.ref x :: (vs ++ dvs)) (upd (upd H1 dx (.own x)) x (.ins C dx [])) (fun v H2 => v = .non ∧ Q (.ref x) H2) E

/-- how the parameters are bound: us the positional arguments, kw the keywords' values by name, ds the defaults that fill up -/
noncomputable def Binds (K : PySem.W.Frag) (fd : FuncData) (ps : List Str) (ds : List Value) : Prop :=
  ∀ (s : Shared) (us : List Value), K.In s.heap → (us ++ ds).length = ps.length → BindsTo s fd ⟨us, []⟩ (ps.zip (us ++ ds))
/-- every parameter is given -/
theorem Binds.all {K : PySem.W.Frag} {fd : FuncData} {ps : List Str} (h : ∀ us : List Value, us.length = ps.length → bindArgs fd ⟨us, []⟩ = pure (ps.zip us)) : Binds K fd ps [] := fun s us _ hl => by
  rw [List.append_nil] at hl ⊢
  exact .of_eq (h us hl)

/-- an exception of a callee reaches what this body wants of exceptions -/
noncomputable def Passes (CX : CXT) (X : Cx) (E : XK) : Prop := ∀ (pins : List (Addr × Obj)) (σ : St) (H : Hp) (s : Shared) (e : Value) (s' : Shared), Inv X pins σ H s → CX X.stack H s E e s' → X.xe e s'

section
variable {X : Cx} {CX : CXT} {k : Nat} {f C : Addr} {fd : FuncData} {ps : List Str} {sp : Sp} {dvs : List V} {ds : List Value} {E : XK} {x m : Str} {p pos apos : Pos} {e o : Expr} {es : List Expr} {ta : TE} {t : TA}

/-- the callee runs -/
theorem run_fn {pins : List (Addr × Obj)} {σ : St} {H : Hp} {s : Shared} {Q : VK} {us : List Value} {vs : List V} (F : FnOk X.prog X.w X.K X.mg X.base CX k f fd ps sp) (hr : Room k X.A) (hb : Binds X.K fd ps ds) (hd : Vals dvs ds) (hx : Passes CX X E)
    (I : Inv X pins σ H s) (r : Vals vs us) (h : sp (vs ++ dvs) H Q E) : wpAny (model X.prog X.w) X.A (call (.ref f) us) (EP X pins σ Q) X.xe s := by
  have r2 : Vals (vs ++ dvs) (us ++ ds) := r.append hd
  have hl : (us ++ ds).length = ps.length := by rw [← r2.length]; exact F.len _ _ _ _ h
  refine wpAny_call (codeAny_mono (F.run X.A X.stack s H ⟨us, []⟩ (us ++ ds) (vs ++ dvs) Q E hr I.env0 (hb s us I.kIn hl) r2 h) fun r s' hq => ?_)
  cases r with
  | error e => exact hx pins σ H s e s' I hq
  | ok fl =>
    cases fl with
    | ret u => exact I.after hq
    | next => exact False.elim hq
    | brk => exact False.elim hq
    | cont => exact False.elim hq

theorem pe_call (F : FnOk X.prog X.w X.K X.mg X.base CX k f fd ps sp) (hr : Room k X.A) (hg : Gl X x) (hm : X.mg x = some (.ref f)) (hk : PySem.W.keepIn X.K (.ref f) = true) (hb : Binds X.K fd ps ds) (hd : Vals dvs ds) (hx : Passes CX X E)
    (ha : PA X (e :: es) t) (hdb : (x == ("__debug__" : Str)) = false := by decide) (he : starEach (e :: es) X.env = (false, eval e X.env) :: starEach es X.env := by rfl) (hpl : (backTo pos (starEach es X.env)).any (·.1) = false := by rfl) :
    PE X (.Call (.Name x p) (e :: es) [] pos) (tCall sp dvs E t) := by
  intro pins s σ H Q I h
  refine wpAny_Call_Name_kw (ld_glob I hg hm ?_ hdb)
  refine PySem.W.callWith_K (h₀ := X.base) I.ok.mod.kin hk (thn (ha pos pins s σ H _ I h) fun us s1 ⟨vs, H1, I1, r, q⟩ => ⟨I1.kIn, ?_⟩) he hpl
  exact run_fn F hr hb hd hx I1 r q


/-- what a class must have to be made -/
structure Mk (K : PySem.W.Frag) (C f : Addr) : Prop where
  makes : PySem.W.makesIn K C = true
  init : PySem.W.findIn K (.ref C) "__init__" = some (some (.ref f))
  fn : PySem.W.isFn K (.ref f) = true
  kp : PySem.W.keepIn K (.ref C) = true

end

/-! ### keywords -/
/-- the values of the keywords, from the left -/
noncomputable def PK (X : Cx) (kws : List Keyword) (t : TA) : Prop :=
  ∀ (pos : Pos) (pins : List (Addr × Obj)) (s : Shared) (σ : St) (H : Hp) (Q : List V → Hp → Prop), Inv X pins σ H s → t σ H Q → wpAny (model X.prog X.w) X.A (evalAll ((backToKw pos (keywordEach kws X.env)).map (·.2))) (AP X pins σ Q) X.xe s
section
variable {X : Cx} {CX : CXT} {k : Nat} {f C : Addr} {fd : FuncData} {ps ks : List Str} {sp : Sp} {E : XK} {x m : Str} {p pos apos kpos : Pos} {e o : Expr} {es : List Expr} {kws : List Keyword} {te ta : TE} {t tk : TA} {nm : Option Str}

/-- how a call with keywords binds: g puts the positional values us and the keywords' values ws (names ks) in the parameters' order, defaults among them -/
structure KBinds (K : PySem.W.Frag) (fd : FuncData) (ps ks : List Str) (g : List Value → List Value → List Value) (gV : List V → List V → List V) : Prop where
  to : ∀ (s : Shared) (us ws : List Value), K.In s.heap → (g us ws).length = ps.length → BindsTo s fd ⟨us, ks.zip ws⟩ (ps.zip (g us ws))
  rel : ∀ {vs : List V} {us : List Value} {zs : List V} {ws : List Value}, Vals vs us → Vals zs ws → Vals (gV vs zs) (g us ws)
noncomputable def tCallK (sp : Sp) (gV : List V → List V → List V) (E : XK) (t tk : TA) : TE := fun σ H Q => t σ H fun vs H1 => tk σ H1 fun zs H2 => sp (gV vs zs) H2 Q E
variable {g : List Value → List Value → List Value} {gV : List V → List V → List V}
end

/-! ### a def's body keeps its promise -/
/-- names: the parameters first -/
structure FnScope (N P : List Str) (sc : Scope) : Prop where
  kind : sc.kind = .function
  co : sc.isCoroutine = false
  gen : sc.isGenerator = false
  nd : N.Nodup
  pre : N.take P.length = P
  par : ∀ x ∈ P, sc.names.lookup x = some .local ∨ sc.names.lookup x = some .cell
  nofree : ∀ y ∈ sc.names, y.2 ≠ .free

theorem bindL_out {kindOf : Str → Option NameKind} {x : Str} : ∀ {binds : List (Str × Value)} {m : Str → Option Value}, (∀ v, (x, v) ∉ binds) → bindL kindOf binds m x = m x
  | [], _, _ => rfl
  | (n, v) :: r, m, h => by
    unfold bindL
    rw [bindL_out fun w hw => h w (List.mem_cons_of_mem _ hw)]
    split
    · have : x ≠ n := by rintro rfl; exact h v List.mem_cons_self
      simp [this]
    · rfl
theorem bindC_out {kindOf : Str → Option NameKind} {x : Str} : ∀ {binds : List (Str × Value)} {m : Str → Option Value}, (∀ v, (x, v) ∉ binds) → bindC kindOf binds m x = m x
  | [], _, _ => rfl
  | (n, v) :: r, m, h => by
    unfold bindC
    rw [bindC_out fun w hw => h w (List.mem_cons_of_mem _ hw)]
    split
    · rfl
    · have : x ≠ n := by rintro rfl; exact h v List.mem_cons_self
      simp [this]
theorem bindL_get {kindOf : Str → Option NameKind} {x : Str} {v : Value} : ∀ {P : List Str} {vs : List Value} {i : Nat} {m : Str → Option Value}, P.Nodup → P[i]? = some x → vs[i]? = some v → kindOf x = some .local →
    bindL kindOf (P.zip vs) m x = some v
  | [], _, _, _, _, h, _, _ => by simp at h
  | _ :: _, [], _, _, _, _, h, _ => by simp at h
  | p :: P, w :: vs, 0, m, nd, h1, h2, hk => by
    simp at h1 h2; subst h1; subst h2
    show bindL kindOf ((p, w) :: P.zip vs) m p = _
    unfold bindL
    rw [bindL_out fun v hv => (List.nodup_cons.mp nd).1 (List.of_mem_zip hv).1, if_pos hk]
    simp
  | p :: P, w :: vs, i + 1, m, nd, h1, h2, hk => by
    show bindL kindOf ((p, w) :: P.zip vs) m x = _
    unfold bindL
    exact bindL_get (i := i) (List.nodup_cons.mp nd).2 (by simpa using h1) (by simpa using h2) hk
theorem bindC_get {kindOf : Str → Option NameKind} {x : Str} {v : Value} : ∀ {P : List Str} {vs : List Value} {i : Nat} {m : Str → Option Value}, P.Nodup → P[i]? = some x → vs[i]? = some v → kindOf x ≠ some .local →
    bindC kindOf (P.zip vs) m x = some v
  | [], _, _, _, _, h, _, _ => by simp at h
  | _ :: _, [], _, _, _, _, h, _ => by simp at h
  | p :: P, w :: vs, 0, m, nd, h1, h2, hk => by
    simp at h1 h2; subst h1; subst h2
    show bindC kindOf ((p, w) :: P.zip vs) m p = _
    unfold bindC
    rw [bindC_out fun v hv => (List.nodup_cons.mp nd).1 (List.of_mem_zip hv).1, if_neg hk]
    simp
  | p :: P, w :: vs, i + 1, m, nd, h1, h2, hk => by
    show bindC kindOf ((p, w) :: P.zip vs) m x = _
    unfold bindC
    exact bindC_get (i := i) (List.nodup_cons.mp nd).2 (by simpa using h1) (by simpa using h2) hk

/-- the names' values at the entry -/
noncomputable def start (N : List Str) (vs : List V) : St := vs.map some ++ List.replicate (N.length - vs.length) none

/-- the context of a def's body, at its entry; an exception leaves the frame, then lies as CX says -/
noncomputable def cxOf (CX : CXT) (P : Program) (w : World) (K : PySem.W.Frag) (mg : Str → Option Value) (base : Heap) (N : List Str) (qual : Str) (scope : Scope) (f : Addr) (cd : Value) (A : Around) (outer : List Env) (s : Shared) (H : Hp) (E : XK) : Cx where
  prog := P
  w := w
  K := K
  mg := mg
  base := base
  A := A.deeper (envOfC qual scope s.heap.objs.size f cd)
  N := N
  s₀ := s
  H₀ := H
  env := envOfC qual scope s.heap.objs.size f cd
  outer := outer
  stack := envOfC qual scope s.heap.objs.size f cd :: outer
  ex := []
  calm := true
  fn := fun _ => true
  pn := []
  xe := fun e s' => wpAny (model P w) (A.deeper (envOfC qual scope s.heap.objs.size f cd)) (leaving (envOfC qual scope s.heap.objs.size f cd) e) (fun _ s'' => CX outer H s E e s'') (fun e' s'' => CX outer H s E e' s'') s'

theorem cell_has {sc : Scope} {n : Nat} {x : Str} (h : sc.names.lookup x = some .cell) : ∃ c, (cellsFrom n sc.names []).lookup x = some c := by
  have q := PySem.W.cellsFrom_some sc.names n [] (.inl h)
  exact Option.isSome_iff_exists.mp q

theorem inv_start {CX : CXT} {P : Program} {w : World} {K : PySem.W.Frag} {mg : Str → Option Value} {base : Heap} {N ps : List Str} {qual : Str} {scope : Scope} {f : Addr} {cd : Value} {A : Around} {outer : List Env} {s s1 : Shared} {H : Hp} {E : XK} {us : List Value} {vs : List V}
    (S : FnScope N ps scope) (hd : A.handled = none) (e0 : Env0 P w K mg base A outer s H) (hl : vs.length = ps.length) (r : Vals vs us)
    (x : InCallC s s.heap.objs.size (bindL (envOfC qual scope s.heap.objs.size f cd).kindOf (ps.zip us) fun _ => none) (cellsFrom (s.heap.objs.size + 1) scope.names []) (bindC (envOfC qual scope s.heap.objs.size f cd).kindOf (ps.zip us) fun _ => none) s1) :
    Inv (cxOf CX P w K mg base N qual scope f cd A outer s H E) [] (start N vs) H s1 := by
  have hpl : ps.length ≤ N.length := by have := congrArg List.length S.pre; rw [List.length_take] at this; omega
  obtain ⟨h1, tk, rfl, hk⟩ := x.done
  have noA : ∀ b : Addr, b ∉ (cxOf CX P w K mg base N qual scope f cd A outer s H E).ex := fun b z => absurd (show b ∈ ([] : List Addr) from z) (by simp)
  refine ⟨⟨e0.mod, S.kind, rfl, rfl, Nat.le_refl _, fun y z c h1 h2 => ?_, fun y hy => ?_, fun y c _ h => ?_, fun _ => hd, Around.frames_deeper e0.frames, .inr ⟨rfl, rfl⟩, fun b z => absurd z (noA b), e0.bs, e0.bsz, fun b _ _ => noA b, fun b z => absurd z (noA b), e0.funs, e0.frf⟩,
    rfl, e0.bare, Un.kept hk, ⟨_, x.toInCall.ns, fun i y v h1 h2 h3 => ?_⟩, fun y c h => ⟨_, x.cell y c h⟩, e0.hok.fresh (Nat.le_refl _), fun y c h => ?_, fun p hp => absurd (show p ∈ ([] : List (Addr × Obj)) from hp) (by simp), e0.hok.kept hk, ?_⟩
  · exact name_of_addr x.apart (PySem.mem_of_lookup h1) (PySem.mem_of_lookup h2)
  · have hy : scope.names.lookup y = some .cell ∨ scope.names.lookup y = some .free := hy
    rcases hy with hy | hy
    · exact cell_has hy
    · exact absurd rfl (S.nofree _ (PySem.mem_of_lookup hy))
  · exact Nat.le_of_lt (x.above y c (PySem.mem_of_lookup h))
  · have hi : i < vs.length := by
      unfold start at h2
      by_cases hi : i < vs.length
      · exact hi
      · rw [List.getElem?_append_right (by simpa using hi)] at h2
        rw [List.getElem?_replicate] at h2
        split at h2 <;> cases h2
    have ha : vs[i]? = some v := by
      unfold start at h2
      rw [List.getElem?_append_left (by simpa using hi), List.getElem?_map] at h2
      cases e : vs[i]? with
      | none => rw [e] at h2; cases h2
      | some a => rw [e] at h2; cases h2; rfl
    obtain ⟨u, hu, rv⟩ := r.get ha
    have hp : ps[i]? = some y := by
      rw [← S.pre, List.getElem?_take_of_lt (by omega)]; exact h1
    have ndP : ps.Nodup := by rw [← S.pre]; exact S.nd.sublist (List.take_sublist _ _)
    refine ⟨u, rv, ?_⟩
    rcases S.par y (List.mem_of_getElem? hp) with k | k
    · exact .inl ⟨k, bindL_get ndP hp hu k⟩
    · obtain ⟨c, e⟩ := cell_has (n := s.heap.objs.size + 1) k
      refine .inr ⟨.inl k, c, e, ?_⟩
      have q := x.cell y c e
      rw [bindC_get ndP hp hu (by show scope.names.lookup y ≠ _; rw [k]; decide)] at q
      exact q
  · exact e0.hok.fresh (Nat.le_of_lt (x.above y c (PySem.mem_of_lookup h)))
  · unfold start
    show _ = N.length
    rw [List.length_append, List.length_map, List.length_replicate]
    omega

/-- THE RULE: a def (or a method) of the text, by its body. The body's reading t is chosen for each entry; it is run at the parameters' values -/
theorem fn_of {CX : CXT} {P : Program} {w : World} {K : PySem.W.Frag} {mg : Str → Option Value} {base : Heap} {k : Nat} {f : Addr} {name qual : Str} {params : Arguments} {body : List Stmt} {scope : Scope} {dV kV doc pm cdv ct oc : Value} {an od : Option Addr}
    {osl : Array (Option Value)} {N ps : List Str} {sp : Sp} (lk : K.lookup f = some ⟨oc, od, .func (PySem.W.fnOf name qual params body scope dV kV doc pm an cdv ct), osl⟩) (hcd : PySem.W.codeIn K cdv qual = true) (S : FnScope N ps scope)
    (len : ∀ vs H Q E, sp vs H Q E → vs.length = ps.length)
    (hbody : ∀ (A : Around) (outer : List Env) (s : Shared) (H : Hp) (vs : List V) (Q : VK) (E : XK), Room k (A.deeper (envOfC qual scope s.heap.objs.size f cdv)) → sp vs H Q E →
      ∃ t, PSs (cxOf CX P w K mg base N qual scope f cdv A outer s H E) body t ∧ t { nx := fun _ H' => Q .non H', rt := Q } (start N vs) H) :
    FnOk P w K mg base CX (k + 1) f (PySem.W.fnOf name qual params body scope dV kV doc pm an cdv ct) ps sp := by
  refine ⟨len, fun A outer s H args us vs Q E hr e0 hb r hsp => ?_⟩
  have hl := len _ _ _ _ hsp
  have KX : K.In s.heap := e0.mod.kin.keeps fun b o e => (e0.bs b o e).1
  have lim : s.heap.NoLimit := e0.mod.nolimit.keeps fun b o e => (e0.bs b o e).1
  have hkind : ∀ y ∈ ps.zip us, scope.names.lookup y.1 = some .local ∨ (scope.names.lookup y.1 = some .cell ∧ ((cellsFrom (s.heap.objs.size + 1) scope.names []).lookup y.1).isSome = true) := fun ⟨n, v⟩ hy => by
    rcases S.par n (List.of_mem_zip hy).1 with q | q
    · exact .inl q
    · exact .inr ⟨q, PySem.W.cellsFrom_some _ _ _ (.inl q)⟩
  refine codeAny_call_function hr.depth (KX _ _ lk) rfl S.co S.gen rfl (PySem.W.codeRec_of KX hcd) (hb _ _ _ _ ?_)
  refine wpAny_newFunctionEnv_cells S.kind hkind fun env he s1 x => ?_
  subst he
  refine ⟨lim.keeps x.toInCall.keep, codeAny_func ?_⟩
  obtain ⟨t, ht, hq⟩ := hbody A outer s H vs Q E (hr.deeper _) hsp
  have I : Inv (cxOf CX P w K mg base N qual scope f cdv A outer s H E) [] (start N vs) H s1 := inv_start S hr.hd e0 hl r x
  refine wpAny_mono (ht [] s1 (start N vs) H _ I hq) (fun fl s' hs => ?_) fun e s' hs => hs
  have fin : ∀ {σ' : St} {H' : Hp} {v : V} {u : Value}, Inv (cxOf CX P w K mg base N qual scope f cdv A outer s H E) [] σ' H' s' → RelV v u → Q v H' → CE outer P w H s Q u s' :=
    fun {σ' H' v u} J rv q => ⟨v, H', J.os, J.bare, J.base, J.hok, rv, q⟩
  cases fl with
  | ret u =>
    obtain ⟨v, σ', H', J, rv, q⟩ := hs
    exact fin J rv q
  | next =>
    obtain ⟨σ', H', J, q⟩ := hs
    exact fin (v := V.non) (u := Value.none) J rfl q
  | brk =>
    obtain ⟨_, _, _, q⟩ := hs
    exact False.elim q
  | cont =>
    obtain ⟨_, _, _, q⟩ := hs
    exact False.elim q
end L2

namespace L2
open PySem PySem.Spec PyProof.Rows
section
variable {X : Cx} {x : Str} {p pos : Pos} {e : Expr} {es : List Expr} {t : TA} {id T : String} {r : List V → Hp → VK → Prop}

noncomputable def tCB (r : List V → Hp → VK → Prop) (t : TA) : TE := fun σ H Q => t σ H fun vs H1 => r vs H1 Q
/-- f(e, ..), f a built-in function -/
theorem pe_callB (hc : CallR X (.builtin id) r) (hg : Gl X x) (hm : X.mg x = none) (hv : bootBuiltins x = some (.builtin id)) (ha : PA X (e :: es) t) (hn : x ≠ "__name__" := by decide) (hdb : (x == ("__debug__" : Str)) = false := by decide)
    (he : starEach (e :: es) X.env = (false, eval e X.env) :: starEach es X.env := by rfl) (hpl : (backTo pos (starEach es X.env)).any (·.1) = false := by rfl) : PE X (.Call (.Name x p) (e :: es) [] pos) (tCB r t) := by
  intro pins s σ H Q I h
  refine wpAny_Call_Name_kw (ld_blt I hg hm hv ?_ hn hdb)
  exact PyProof.Rows.callWith_builtin1 (thn (ha pos pins s σ H _ I h) fun us s1 ⟨vs, H1, I1, r1, q1⟩ => hc pins s1 σ H1 vs us Q I1 r1 q1) he hpl
/-- T(e, ..), T a built-in type -/
theorem pe_callTy (hc : CallR X (.type T) r) (hg : Gl X x) (hm : X.mg x = none) (hv : bootBuiltins x = some (.type T)) (ha : PA X (e :: es) t) (hn : x ≠ "__name__" := by decide) (hdb : (x == ("__debug__" : Str)) = false := by decide)
    (he : starEach (e :: es) X.env = (false, eval e X.env) :: starEach es X.env := by rfl) (hpl : (backTo pos (starEach es X.env)).any (·.1) = false := by rfl) : PE X (.Call (.Name x p) (e :: es) [] pos) (tCB r t) := by
  intro pins s σ H Q I h
  refine wpAny_Call_Name_kw (ld_blt I hg hm hv ?_ hn hdb)
  exact PyProof.Rows.callWith_type1 (thn (ha pos pins s σ H _ I h) fun us s1 ⟨vs, H1, I1, r1, q1⟩ => hc pins s1 σ H1 vs us Q I1 r1 q1) he hpl
end
end L2

namespace HT
open PySem PyProof.Rows

/-- t < u of tuples of ints -/
noncomputable def lexLt : List Int → List Int → Bool
  | [], [] => false
  | [], _ :: _ => true
  | _ :: _, [] => false
  | x :: xs, y :: ys => if x = y then lexLt xs ys else decide (x < y)


section
open PySem.SeqAt
open PySem.AutoSeq1 (wpAny_loadPart')
open PySem.MeetsSeq PySem.MeetsSeq2 PySem.MeetsSeq3

end

section
variable {prog : Program} {w : World} {A : Around} {E : Value → Shared → Prop} {s : Shared}



/-! ### t[a:b], not the whole -/
/-- a slice's bound as a place among n (d where it is left out) -/
noncomputable def sIx (n d : Nat) : Option Int → Nat
  | none => d
  | some v => if v < 0 then (v + (n : Int)).toNat else min v.toNat n
theorem sIx_nat (n d k : Nat) : sIx n d (some (k : Int)) = min k n := by
  show (if (k : Int) < 0 then ((k : Int) + (n : Int)).toNat else min (k : Int).toNat n) = min k n
  rw [if_neg (by omega), Int.toNat_natCast]

end
end HT

namespace L2
open PySem PySem.Spec PyProof.Rows

/-! ### the parts of a slice -/
noncomputable abbrev TO := St → Hp → (Option Int → Hp → Prop) → Prop
/-- a slice's part (left out, or an int) -/
noncomputable def PO (X : Cx) (e : Option Expr) (t : TO) : Prop :=
  ∀ (pins : List (Addr × Obj)) (s : Shared) (σ : St) (H : Hp) (Q : Option Int → Hp → Prop), Inv X pins σ H s → t σ H Q →
    wpAny (model X.prog X.w) X.A (evalPart e X.env) (fun u s' => ∃ o H', Inv X pins σ H' s' ∧ IsPart u o ∧ Q o H') X.xe s
noncomputable def tNoPart : TO := fun _ H Q => Q none H
noncomputable def tPart (t : TE) : TO := fun σ H Q => t σ H fun x H1 => ∃ i, x = .int i ∧ Q (some i) H1


section
variable {X : Cx} {e : Expr} {te : TE} {lo hi : Option Expr} {tl th : TO} {pos p2 : Pos}

theorem po_none : PO X none tNoPart := by
  intro pins s σ H Q I h
  rw [evalPart_none]
  exact wpAny_pure ⟨none, H, I, .none, h⟩
theorem po_some (h : PE X e te) : PO X (some e) (tPart te) := by
  intro pins s σ H Q I hw
  rw [evalPart_some]
  refine thn (h pins s σ H _ I hw) fun u s1 ⟨x, H1, I1, r1, q1⟩ => ?_
  obtain ⟨i, rfl, q⟩ := q1
  obtain ⟨t, rfl⟩ := r1
  exact ⟨some i, H1, I1, .int i t, q⟩

/-- what a slice of a value is, by values: the slice object stands at sl -/
noncomputable def SlR (X : Cx) (r : V → Option Int → Option Int → Hp → VK → Prop) : Prop :=
  ∀ (pins : List (Addr × Obj)) (s : Shared) (σ : St) (H : Hp) (x : V) (v vl vu : Value) (lo hi : Option Int) (sl : Addr) (Q : VK), Inv X pins σ H s → RelV x v → s.heap.IsSliceOf sl vl vu .none → IsPart vl lo → IsPart vu hi → r x lo hi H Q →
    ∃ T id, typeLookup (.type T) "__getitem__" = pure (some (.builtin id)) ∧ s.TypeIs v T ∧ wpAny (model X.prog X.w) X.A (getItem v (.ref sl)) (EP X pins σ Q) X.xe s
noncomputable def tSl (r : V → Option Int → Option Int → Hp → VK → Prop) (te : TE) (tl th : TO) : TE := fun σ H Q => te σ H fun x H1 => tl σ H1 fun l H2 => th σ H2 fun u H3 => r x l u H3 Q
/-- a[lo:hi], any a -/
theorem pe_slice {r : V → Option Int → Option Int → Hp → VK → Prop} (hr : SlR X r) (he : PE X e te) (hl : PO X lo tl) (hu : PO X hi th) : PE X (.Subscript e (.Slice lo hi none p2) pos) (tSl r te tl th) := by
  intro pins s σ H Q I h
  refine Subscript_ (thn (he pins s σ H _ I h) fun v s1 ⟨x, H1, I1, r1, q1⟩ => ?_)
  refine wpAny_Slice (thn (hl pins s1 σ H1 _ I1 q1) fun vl s2 ⟨l, H2, I2, pl, q2⟩ => thn (hu pins s2 σ H2 _ I2 q2) fun vu s3 ⟨u, H3, I3, pu, q3⟩ => ?_)
  rw [evalPart_none]
  refine wpAny_pure ?_
  have I4 : Inv X pins σ H3 { s3 with heap := s3.heap.push { cls := .type "slice", data := .fields #[vl, vu, .none] } } := I3.kept (t' := s3.toks) fun b ob q => Heap.get?_push_of_some _ q
  obtain ⟨T, id, hT, ht, hg⟩ := hr pins { s3 with heap := s3.heap.push { cls := .type "slice", data := .fields #[vl, vu, .none] } } σ H3 x v vl vu l u s3.heap.objs.size Q I4 r1 (Heap.IsSliceOf.new ..) pl pu q3
  show wpAny (model X.prog X.w) X.A (subscriptTail e (.Slice lo hi none p2) v (.ref s3.heap.objs.size)) (EP X pins σ Q) X.xe { s3 with heap := s3.heap.push { cls := .type "slice", data := .fields #[vl, vu, .none] } }
  exact tail_any (ops := [.ref s3.heap.objs.size, v]) ht hT hg (by with_unfolding_all rfl)

/-- the items of xs[lo:hi] -/
noncomputable def cutV (xs : List V) (lo hi : Option Int) : List V := (xs.drop (HT.sIx xs.length 0 lo)).take (HT.sIx xs.length xs.length hi - HT.sIx xs.length 0 lo)
theorem cutV_length (xs : List V) (lo hi : Option Int) : (cutV xs lo hi).length ≤ xs.length := by
  unfold cutV
  rw [List.length_take, List.length_drop]
  omega
/-- t[lo:hi], not the whole of it (the whole would be t itself) -/
noncomputable def rSlT (K : PySem.W.Frag) : V → Option Int → Option Int → Hp → VK → Prop := fun x lo hi H Q => ∃ a xs, x = .ref a ∧ SqT K H a xs ∧
  ¬ (HT.sIx xs.length 0 lo = 0 ∧ HT.sIx xs.length xs.length hi = xs.length) ∧ ∀ p, H p = none → Q (.ref p) (upd H p (.tup (cutV xs lo hi)))

/-! ### t < u, t + u -/
noncomputable def rLtT (K : PySem.W.Frag) : R2 := fun x y H Q => ∃ a b ns ms, x = .ref a ∧ y = .ref b ∧ SqT K H a (ns.map V.int) ∧ SqT K H b (ms.map V.int) ∧ Q (.bl (HT.lexLt ns ms)) H
/-- t + u, t not empty: u empty gives t itself -/
noncomputable def rCatT (K : PySem.W.Frag) : R2 := fun x y H Q => ∃ a b xs ys, x = .ref a ∧ y = .ref b ∧ SqT K H a xs ∧ SqT K H b ys ∧ xs ≠ [] ∧ xs.length + ys.length ≤ sizeLine ∧
  (ys = [] → Q (.ref a) H) ∧ (ys ≠ [] → ∀ p, H p = none → Q (.ref p) (upd H p (.tup (xs ++ ys))))
end
end L2

namespace L2
open PySem PySem.Spec PyProof.Rows

/-! ### places -/
/-- the place that an index of any sign means -/
noncomputable def ixN (n : Nat) (i : Int) : Option Nat := if 0 ≤ i then (if i < n then some i.toNat else none) else if -(n : Int) ≤ i then some (i + n).toNat else none
noncomputable def atI {α : Type} (xs : List α) (i : Int) : Option α := (ixN xs.length i).bind fun j => xs[j]?
theorem ixN_seq {n : Nat} {i : Int} {j : Nat} (h : ixN n i = some j) : seqIndex? i n = some j ∧ j < n ∧ -(n : Int) ≤ i ∧ i < n := by
  unfold ixN at h
  by_cases h0 : 0 ≤ i
  · rw [if_pos h0] at h
    by_cases h1 : i < n
    · rw [if_pos h1] at h
      have e : i.toNat = j := Option.some.inj h
      exact ⟨by rw [seqIndex_of h0 h1, e], by omega, by omega, h1⟩
    · rw [if_neg h1] at h; cases h
  · rw [if_neg h0] at h
    by_cases h1 : -(n : Int) ≤ i
    · rw [if_pos h1] at h
      have e : (i + n).toNat = j := Option.some.inj h
      exact ⟨by rw [seqIndex_neg (by omega) h1, e], by omega, h1, by omega⟩
    · rw [if_neg h1] at h; cases h
theorem atI_get {α : Type} {xs : List α} {i : Int} {v : α} (h : atI xs i = some v) : ∃ j, seqIndex? i xs.length = some j ∧ xs[j]? = some v ∧ j < xs.length ∧ -(xs.length : Int) ≤ i ∧ i < xs.length := by
  unfold atI at h
  cases e : ixN xs.length i with
  | none => rw [e] at h; cases h
  | some j =>
    rw [e] at h
    obtain ⟨h1, h2, h3, h4⟩ := ixN_seq e
    exact ⟨j, h1, h, h2, h3, h4⟩
theorem atI_nat {α : Type} {xs : List α} {j : Nat} {v : α} (h : xs[j]? = some v) : atI xs (j : Int) = some v := by
  have hj : j < xs.length := (List.getElem?_eq_some_iff.mp h).1
  have e : ixN xs.length (j : Int) = some j := by
    unfold ixN
    rw [if_pos (by omega), if_pos (by omega)]; simp
  unfold atI; rw [e]; exact h

/-! ### what may be subscripted -/
/-- what stands as an index of a plain subscript -/
noncomputable def PlainIx (b : Expr) : Prop := ∀ o i, subscripted b false o i = operate [o, i] (getItem o i)
/-- a subscript by values -/
noncomputable def IxR (X : Cx) (r : R2) : Prop :=
  ∀ (value slice : Expr) (pins : List (Addr × Obj)) (s : Shared) (σ : St) (H : Hp) (x y : V) (v u : Value) (Q : VK), Inv X pins σ H s → RelV x v → RelV y u → r x y H Q →
    subscripted slice false v u = operate [v, u] (getItem v u) → wpAny (model X.prog X.w) X.A (subscriptTail value slice v u) (EP X pins σ Q) X.xe s
/-- a call of a builtin's method by values: the receiver, the arguments -/
noncomputable def MtR (X : Cx) (id : String) (r : V → List V → Hp → VK → Prop) : Prop :=
  ∀ (pins : List (Addr × Obj)) (s : Shared) (σ : St) (H : Hp) (x : V) (xs : List V) (v : Value) (us : List Value) (Q : VK), Inv X pins σ H s → RelV x v → Vals xs us → r x xs H Q →
    wpAny (model X.prog X.w) X.A (call (.builtin id) (v :: us)) (EP X pins σ Q) X.xe s
section
variable {X : Cx} {a b : Expr} {ta tb : TE} {pos : Pos}
/-- a[b] -/
theorem pe_ix {r : R2} (hr : IxR X r) (ha : PE X a ta) (hb : PE X b tb) (hs : PlainIx b) : PE X (.Subscript a b pos) (tOp r ta tb) := by
  intro pins s σ H Q I h
  exact Subscript_ (binT ha hb I h fun v u s2 x y H2 I2 rx ry q => hr a b pins s2 σ H2 x y v u Q I2 rx ry q (hs _ _))

noncomputable def rIxL (K : PySem.W.Frag) : R2 := fun x y H Q => ∃ p xs i v, x = .ref p ∧ y = .int i ∧ SqL K H p xs ∧ atI xs i = some v ∧ Q v H
noncomputable def rIxT (K : PySem.W.Frag) : R2 := fun x y H Q => ∃ p xs i v, x = .ref p ∧ y = .int i ∧ SqT K H p xs ∧ atI xs i = some v ∧ Q v H
noncomputable def rIxS : R2 := fun x y H Q => ∃ z i c, x = .str z ∧ y = .int i ∧ z.length ≤ sizeLine ∧ atI z.cps.toList i = some c ∧ Q (.str ⟨#[c]⟩) H
theorem ix_list : IxR X (rIxL X.K) := by
  intro value slice pins s σ H x y v u Q I rx ry h hs
  obtain ⟨p, xs, i, z, rfl, rfl, hq, he, q⟩ := h
  cases rx
  obtain ⟨t, rfl⟩ := ry
  obtain ⟨its, r, pl, hz⟩ := I.list hq
  obtain ⟨j, h1, h2, h3, h4, h5⟩ := atI_get he
  obtain ⟨w, ew, rw'⟩ := r.get h2
  have hl := r.length
  have hn := line63
  have fin : EP X pins σ Q w s := ⟨z, H, I, rw', q⟩
  by_cases h0 : 0 ≤ i
  · have hj : i.toNat = j := by
      rw [seqIndex_of h0 h5] at h1
      exact Option.some.inj h1
    exact item_listR pl.isList h0 (by omega) (by rw [hj]; simpa using ew) fin hs
  · have hj : (i + (its.toArray.size : Int)).toNat = j := by
      rw [seqIndex_neg (by omega) h4] at h1
      rw [List.size_toArray, ← hl]
      exact Option.some.inj h1
    exact subscriptTail_builtinR (x := w) pl.isList.typeIs slot_list_getitem.lookup
      (wpAny_getItem_list_neg (Q := fun r s' => r = w ∧ EP X pins σ Q r s') pl.isList (by omega) (by rw [List.size_toArray] <;> omega) (by omega) (by rw [hj]; simpa using ew) ⟨rfl, fin⟩) hs
theorem ix_tup : IxR X (rIxT X.K) := by
  intro value slice pins s σ H x y v u Q I rx ry h hs
  obtain ⟨p, xs, i, z, rfl, rfl, hq, he, q⟩ := h
  cases rx
  obtain ⟨t, rfl⟩ := ry
  obtain ⟨its, r, pl, hz⟩ := I.tuple hq
  obtain ⟨j, h1, h2, h3, h4, h5⟩ := atI_get he
  obtain ⟨w, ew, rw'⟩ := r.get h2
  have hl := r.length
  have hn := line63
  have fin : EP X pins σ Q w s := ⟨z, H, I, rw', q⟩
  exact subscriptTail_builtinR (x := w) pl.typeIs slot_tuple_getitem.lookup
    (getItem_tuple (j := j) (Q := fun r s' => r = w ∧ EP X pins σ Q r s') pl (by omega) (by omega) (by rw [List.size_toArray, ← hl]; exact h1) (by simpa using ew) ⟨rfl, fin⟩) hs
/-- list, tuple or str -/
noncomputable def rIx (K : PySem.W.Frag) : R2 := fun x y H Q => rIxL K x y H Q ∨ rIxT K x y H Q ∨ rIxS x y H Q

/-! ### xs[i] = v, any sign -/
noncomputable def rSetL : V → V → V → Hp → (Hp → Prop) → Prop := fun o i v H Q => ∃ p xs k j, o = .ref p ∧ i = .int k ∧ H p = some (.lst xs) ∧ ixN xs.length k = some j ∧ Q (upd H p (.lst (xs.set j v)))

/-! ### slices -/
theorem slice_bounds (lo hi : Option Int) (n : Nat) : (sliceBounds lo hi none n).1 = ((HT.sIx n 0 lo : Nat) : Int) ∧ (sliceBounds lo hi none n).2.1 = ((HT.sIx n n hi : Nat) : Int) ∧ (sliceBounds lo hi none n).2.2 = 1 := by
  refine ⟨?_, ?_, rfl⟩
  · cases lo with
    | none => simp [sliceBounds, HT.sIx]
    | some i =>
      simp only [sliceBounds, HT.sIx, Option.getD_none, show (1 : Int) > 0 by decide, if_true]
      by_cases h : i < 0
      · simp only [h, if_true] <;> omega
      · simp only [h, if_false] <;> omega
  · cases hi with
    | none => simp [sliceBounds, HT.sIx]
    | some i =>
      simp only [sliceBounds, HT.sIx, Option.getD_none, show (1 : Int) > 0 by decide, if_true]
      by_cases h : i < 0
      · simp only [h, if_true] <;> omega
      · simp only [h, if_false] <;> omega
theorem slicePick_cut (its : List Value) (lo hi : Option Int) : slicePick its.toArray lo hi none = ((its.drop (HT.sIx its.length 0 lo)).take (HT.sIx its.length its.length hi - HT.sIx its.length 0 lo)).toArray := by
  obtain ⟨h1, h2, h3⟩ := slice_bounds lo hi its.toArray.size
  unfold slicePick
  rw [h1, h2, h3]
  simp only [sliceRange_one, pick_run, List.size_toArray] <;> rfl
/-- xs[lo:hi] of a list: a new list -/
noncomputable def rSlL (K : PySem.W.Frag) : V → Option Int → Option Int → Hp → VK → Prop := fun x lo hi H Q => ∃ a xs, x = .ref a ∧ SqL K H a xs ∧ ∀ p, H p = none → Q (.ref p) (upd H p (.lst (cutV xs lo hi)))
theorem sl_list : SlR X (rSlL X.K) := by
  intro pins s σ H x v vl vu lo hi sl Q I rx hs pl pu h
  obtain ⟨a, xs, rfl, hx, q⟩ := h
  cases rx
  obtain ⟨its, r, ht, hz⟩ := I.list hx
  have hlen := r.length
  refine ⟨"list", _, slot_list_getitem.lookup, ht.isList.typeIs, ?_⟩
  refine wpAny_getItem_list_slice ht.isList hs pl pu .none (by simp) ?_ (by rw [List.size_toArray] <;> omega)
  rw [slicePick_cut, ← hlen]
  refine ⟨.ref s.heap.objs.size, _, I.laid (t' := s.toks) (o := .lst (cutV xs lo hi)) (fun b ob q => Heap.get?_push_of_some _ q) (Nat.le_refl _) ?_, rfl, q _ (I.hok.fresh (Nat.le_refl _))⟩
  exact ⟨Nat.le_trans (cutV_length xs lo hi) hz, _, 0, (r.drop (HT.sIx xs.length 0 lo)).take (HT.sIx xs.length xs.length hi - HT.sIx xs.length 0 lo), Heap.get?_push_size _ rfl⟩

/-! ### in, not in: flat items -/
noncomputable def flatV : V → Bool
  | .non => true
  | .bl _ => true
  | .int _ => true
  | .str _ => true
  | _ => false
/-- == of flat values -/
noncomputable def eqV : V → V → Bool
  | .non, .non => true
  | .bl a, .bl b => a == b
  | .bl a, .int b => (if a then 1 else 0) == b
  | .int a, .bl b => a == (if b then 1 else 0)
  | .int a, .int b => a == b
  | .str a, .str b => a == b
  | _, _ => false
theorem eqAt_V {A : Around} {s : Shared} {y x : V} {u v : Value} (ry : RelV y u) (rx : RelV x v) (fy : flatV y = true) (fx : flatV x = true) : SeqAt.EqAt A s u v (eqV y x) := by
  cases y with
  | non =>
    cases ry
    cases x with
    | non => cases rx; exact SeqAt.EqAt.same _
    | bl b => cases rx; exact SeqAt.EqAt.none_bool b
    | int b => obtain ⟨t, rfl⟩ := rx; exact SeqAt.EqAt.none_int b t
    | str b => obtain ⟨t, rfl⟩ := rx; exact SeqAt.EqAt.none_str b t
    | _ => exact absurd (show false = true from fx) Bool.false_ne_true
  | bl a =>
    cases ry
    cases x with
    | non => cases rx; exact SeqAt.EqAt.bool_none a
    | bl b => cases rx; exact SeqAt.EqAt.bool_bool a b
    | int b => obtain ⟨t, rfl⟩ := rx; exact SeqAt.EqAt.bool_int a b t
    | str b => obtain ⟨t, rfl⟩ := rx; exact SeqAt.EqAt.bool_str a b t
    | _ => exact absurd (show false = true from fx) Bool.false_ne_true
  | int a =>
    obtain ⟨t', rfl⟩ := ry
    cases x with
    | non => cases rx; exact SeqAt.EqAt.int_none a t'
    | bl b => cases rx; exact SeqAt.EqAt.int_bool a t' b
    | int b => obtain ⟨t, rfl⟩ := rx; exact SeqAt.EqAt.int_int a t' b t
    | str b => obtain ⟨t, rfl⟩ := rx; exact SeqAt.EqAt.int_str a t' b t
    | _ => exact absurd (show false = true from fx) Bool.false_ne_true
  | str a =>
    obtain ⟨t', rfl⟩ := ry
    cases x with
    | non => cases rx; exact SeqAt.EqAt.str_none a t'
    | bl b => cases rx; exact SeqAt.EqAt.str_bool a t' b
    | int b => obtain ⟨t, rfl⟩ := rx; exact SeqAt.EqAt.str_int a t' b t
    | str b => obtain ⟨t, rfl⟩ := rx; exact SeqAt.EqAt.str_str a t' b t
    | _ => exact absurd (show false = true from fx) Bool.false_ne_true
  | _ => exact absurd (show false = true from fy) Bool.false_ne_true
/-- the items' answers, read off the values (a value's own answer does not lean on its token) -/
noncomputable def eqU (x : V) (u : Value) : Bool := match u with
  | .none => eqV .non x
  | .bool b => eqV (.bl b) x
  | .int i _ => eqV (.int i) x
  | .str z _ => eqV (.str z) x
  | _ => false
theorem eqU_of {x y : V} {u : Value} (r : RelV y u) (f : flatV y = true) : eqU x u = eqV y x := by
  cases y with
  | non => cases r; rfl
  | bl b => cases r; rfl
  | int i => obtain ⟨t, rfl⟩ := r; rfl
  | str z => obtain ⟨t, rfl⟩ := r; rfl
  | _ => exact absurd (show false = true from f) Bool.false_ne_true
theorem any_eqU {x : V} : ∀ {xs : List V} {us : List Value}, Vals xs us → xs.all flatV = true → us.any (eqU x) = xs.any fun y => eqV y x
  | _, _, .nil, _ => rfl
  | y :: xs, u :: us, .cons r t, f => by
    rw [List.all_cons, Bool.and_eq_true] at f
    rw [List.any_cons, List.any_cons, eqU_of r f.1, any_eqU t f.2]
theorem mem_eqAt {A : Around} {s : Shared} {x : V} {v : Value} (rx : RelV x v) (fx : flatV x = true) : ∀ {xs : List V} {us : List Value}, Vals xs us → xs.all flatV = true → ∀ u ∈ us, SeqAt.EqAt A s u v (eqU x u)
  | _, _, .nil, _ => fun u hu => by cases hu
  | y :: xs, u :: us, .cons r t, f => fun u' hu => by
    rw [List.all_cons, Bool.and_eq_true] at f
    rcases List.mem_cons.mp hu with rfl | hu
    · rw [eqU_of r f.1]; exact eqAt_V r rx f.1 fx
    · exact mem_eqAt rx fx t f.2 u' hu
noncomputable def inV (x : V) (xs : List V) : Bool := xs.any fun y => eqV y x
/-- x in a list or tuple of flat items -/
noncomputable def rIn (K : PySem.W.Frag) (neg : Bool) : R2 := fun x y H Q => ∃ p xs, y = .ref p ∧ (SqL K H p xs ∨ SqT K H p xs) ∧ flatV x = true ∧ xs.all flatV = true ∧ Q (.bl (if neg then !inV x xs else inV x xs)) H
theorem op_in_seq : OpR X (compareOp .In) (rIn X.K false) := by
  intro pins s σ H x y v u Q I rx ry h
  obtain ⟨p, xs, rfl, hq, fx, fs, q⟩ := h
  cases ry
  rcases hq with hq | hq
  · obtain ⟨its, r, pl, hz⟩ := I.list hq
    refine SeqAt.in_listAt (eqU x) pl.isList (fun w hw => mem_eqAt rx fx r fs w (by simpa using hw)) ⟨.bl _, H, I, rfl, ?_⟩
    rw [show its.toArray.any (eqU x) = its.any (eqU x) by simp, any_eqU r fs]
    exact q
  · obtain ⟨its, r, pl, hz⟩ := I.tuple hq
    refine SeqAt.in_tupleAt (eqU x) pl (fun w hw => mem_eqAt rx fx r fs w (by simpa using hw)) ⟨.bl _, H, I, rfl, ?_⟩
    rw [show its.toArray.any (eqU x) = its.any (eqU x) by simp, any_eqU r fs]
    exact q
theorem op_notIn_seq : OpR X (compareOp .NotIn) (rIn X.K true) := by
  intro pins s σ H x y v u Q I rx ry h
  obtain ⟨p, xs, rfl, hq, fx, fs, q⟩ := h
  cases ry
  rcases hq with hq | hq
  · obtain ⟨its, r, pl, hz⟩ := I.list hq
    refine SeqAt.notIn_listAt (eqU x) pl.isList (fun w hw => mem_eqAt rx fx r fs w (by simpa using hw)) ⟨.bl _, H, I, rfl, ?_⟩
    rw [show its.toArray.any (eqU x) = its.any (eqU x) by simp, any_eqU r fs]
    exact q
  · obtain ⟨its, r, pl, hz⟩ := I.tuple hq
    refine SeqAt.notIn_tupleAt (eqU x) pl (fun w hw => mem_eqAt rx fx r fs w (by simpa using hw)) ⟨.bl _, H, I, rfl, ?_⟩
    rw [show its.toArray.any (eqU x) = its.any (eqU x) by simp, any_eqU r fs]
    exact q

/-! ### len, list(x), tuple(x) of any list or tuple that is read -/
theorem call_len_seq : CallR X (.builtin "len") (fun xs H Q => ∃ p ys, xs = [.ref p] ∧ (SqL X.K H p ys ∨ SqT X.K H p ys) ∧ Q (.int ys.length) H) := by
  intro pins s σ H xs us Q I r h
  obtain ⟨p, ys, rfl, hq, q⟩ := h
  obtain ⟨u, rfl, rx⟩ := vals1 r
  cases rx
  have hn := line63
  rcases hq with hq | hq
  · obtain ⟨its, r', pl, hz⟩ := I.list hq
    have hlen := r'.length
    exact Calls.call_len_list pl.isList (by simp only [List.size_toArray] <;> omega) ⟨.int ys.length, H, I.tok _, ⟨s.toks + 1, by rw [List.size_toArray, hlen]⟩, q⟩
  · obtain ⟨its, r', pl, hz⟩ := I.tuple hq
    have hlen := r'.length
    exact len_tuple pl (by simp only [List.size_toArray] <;> omega) ⟨.int ys.length, H, I.tok _, ⟨s.toks + 1, by rw [List.size_toArray, hlen]⟩, q⟩
theorem call_list_of : CallR X (.type "list") (fun xs H Q => ∃ p ys, xs = [.ref p] ∧ (SqL X.K H p ys ∨ SqT X.K H p ys) ∧ ∀ l, H l = none → Q (.ref l) (upd H l (.lst ys))) := by
  intro pins s σ H xs us Q I r h
  obtain ⟨p, ys, rfl, hq, q⟩ := h
  obtain ⟨u, rfl, rx⟩ := vals1 r
  cases rx
  have fin : ∀ (its : List Value), Vals ys its → ys.length ≤ sizeLine → ∀ (h' : Heap) (c' : Nat), (∀ b o', s.heap.get? b = some o' → h'.get? b = some o') →
      h'.get? s.heap.objs.size = some { cls := .type "list", dict := none, data := .seq its.toArray c', slots := #[] } → EP X pins σ Q (.ref s.heap.objs.size) { s with heap := h' } := fun its r' hz h' c' kp e =>
    ⟨.ref s.heap.objs.size, _, I.laid (t' := s.toks) kp (Nat.le_refl _) (show ObjOk X.prog X.w _ h' _ (.lst ys) from ⟨hz, its, c', r', e⟩), rfl, q _ (I.hok.fresh (Nat.le_refl _))⟩
  rcases hq with hq | hq
  · obtain ⟨its, r', pl, hz⟩ := I.list hq
    have hlen := r'.length
    obtain ⟨o, ho, hc, n, hd⟩ := pl.isList
    exact call_list_seq p (.inl rfl) ho hc hd (fun h' c' kp e => fin its r' hz h' c' kp e) (by simp only [List.size_toArray] <;> omega)
  · obtain ⟨its, r', pl, hz⟩ := I.tuple hq
    have hlen := r'.length
    obtain ⟨o, ho, hc, n, hd⟩ := pl
    exact call_list_seq p (.inr rfl) ho hc hd (fun h' c' kp e => fin its r' hz h' c' kp e) (by simp only [List.size_toArray] <;> omega)

/-! ### the call of a builtin's method: o.m(..) -/
/-- the value is of that builtin type -/
noncomputable def tyV (K : PySem.W.Frag) (T : String) (x : V) (H : Hp) : Prop := match x with
  | .str _ => T = "str"
  | .int _ => T = "int"
  | .ref p => (T = "list" ∧ ∃ xs, SqL K H p xs) ∨ (T = "tuple" ∧ ∃ o, K.lookup p = some o ∧ o.cls = .type "tuple" ∧ o.dict = none) ∨
      (T = "dict" ∧ ((∃ kvs, H p = some (.dK kvs)) ∨ ∃ kvs, H p = some (.dT kvs))) ∨ (T = "set" ∧ ∃ S n, H p = some (.set S n))
  | _ => False
theorem tyV_is {pins : List (Addr × Obj)} {σ : St} {H : Hp} {s : Shared} {T : String} {x : V} {v : Value} (I : Inv X pins σ H s) (r : RelV x v) (ty : tyV X.K T x H) :
    s.TypeIs v T ∧ ∀ a, v = .ref a → ∃ ob, s.heap.get? a = some ob ∧ ob.dict = none := by
  cases x with
  | str z =>
    obtain ⟨t, rfl⟩ := r
    cases (show T = "str" from ty)
    exact ⟨typeIs_str s z t, fun _ e => nomatch e⟩
  | int i =>
    obtain ⟨t, rfl⟩ := r
    cases (show T = "int" from ty)
    exact ⟨typeIs_int s i t, fun _ e => nomatch e⟩
  | ref p =>
    cases r
    rcases ty with ⟨rfl, xs, hq⟩ | ⟨rfl, o, hk, hc, hd⟩ | ⟨rfl, hk⟩ | ⟨rfl, S, n, hk⟩
    · obtain ⟨its, _, pl, _⟩ := I.list hq
      refine ⟨pl.isList.typeIs, fun a e => ?_⟩
      cases e
      obtain ⟨o, n, e, c, hd, _⟩ := pl
      exact ⟨o, e, hd⟩
    · refine ⟨⟨o, I.kIn p o hk, hc⟩, fun a e => ?_⟩
      cases e
      exact ⟨o, I.kIn _ o hk, hd⟩
    · have z : ∃ o, s.heap.get? p = some o ∧ o.ExactDict := by
        rcases hk with ⟨kvs, hk⟩ | ⟨kvs, hk⟩
        · obtain ⟨_, _, _, _, o, _, _, e, ex, _⟩ := I.hok p _ hk
          exact ⟨o, e, ex⟩
        · obtain ⟨_, _, _, _, o, _, _, e, ex, _⟩ := I.hok p _ hk
          exact ⟨o, e, ex⟩
      obtain ⟨o, e, ex⟩ := z
      refine ⟨⟨o, e, ex.1⟩, fun a e2 => ?_⟩
      cases e2
      exact ⟨o, e, ex.2.1⟩
    · obtain ⟨o, _, _, _, e, ex, _⟩ := I.hok p _ hk
      refine ⟨⟨o, e, ex.1⟩, fun a e2 => ?_⟩
      cases e2
      exact ⟨o, e, ex.2.1⟩
  | _ => exact False.elim ty
noncomputable def tBM0 (K : PySem.W.Frag) (T : String) (r : V → List V → Hp → VK → Prop) (to : TE) : TE := fun σ H Q => to σ H fun x H1 => tyV K T x H1 ∧ r x [] H1 Q
noncomputable def tBM (K : PySem.W.Frag) (T : String) (r : V → List V → Hp → VK → Prop) (to : TE) (t : TA) : TE := fun σ H Q => to σ H fun x H1 => tyV K T x H1 ∧ t σ H1 fun xs H2 => r x xs H2 Q
variable {o e : Expr} {es : List Expr} {to : TE} {t : TA} {name : Str} {apos cpos : Pos} {T id : String} {r : V → List V → Hp → VK → Prop}
theorem pe_bm0 (pa : PlainAttrs T) (slot : Slot T name id) (hty : typeOf (.builtin id) = pure (.type "method_descriptor")) (hm : MtR X id r) (ho : PE X o to)
    (hbase : attributeBase o name X.env (eval o X.env) = eval o X.env := by rfl) (hline : (apos.endLine == cpos.line) = true := by rfl) : PE X (.Call (.Attribute o name apos) [] [] cpos) (tBM0 X.K T r to) := by
  intro pins s σ H Q I h
  refine wpAny_Call_method0_late hbase hline (thn (ho pins s σ H _ I h) fun v s1 ⟨x, H1, I1, r1, ty, q1⟩ => ?_)
  obtain ⟨h1, h2⟩ := tyV_is I1 r1 ty
  exact ⟨T, id, pa, slot, hty, h1, h2, Calls.callWith_builtin rfl (PySem.evalArgs_none (hm pins s1 σ H1 x [] v [] Q I1 r1 .nil q1))⟩
theorem pe_bm (pa : PlainAttrs T) (slot : Slot T name id) (hty : typeOf (.builtin id) = pure (.type "method_descriptor")) (hm : MtR X id r) (ho : PE X o to) (ha : PA X (e :: es) t)
    (hbase : attributeBase o name X.env (eval o X.env) = eval o X.env := by rfl)
    (hfew : ((backTo cpos (starEach (e :: es) X.env)).all (fun x => !x.1) && (backToKw cpos (keywordEach [] X.env)).all (fun x => x.1.isSome)
      && decide ((e :: es).length + ([] : List Keyword).length + (if ([] : List Keyword).isEmpty then 0 else 1) < 30)) = true := by rfl)
    (hline : (apos.endLine == cpos.line) = true := by rfl) (hs : starEach (e :: es) X.env = (false, eval e X.env) :: starEach es X.env := by rfl) (hplain : (backTo cpos (starEach es X.env)).any (·.1) = false := by rfl) :
    PE X (.Call (.Attribute o name apos) (e :: es) [] cpos) (tBM X.K T r to t) := by
  intro pins s σ H Q I h
  refine wpAny_Call_method_late hbase hfew hline rfl (thn (ho pins s σ H _ I h) fun v s1 ⟨x, H1, I1, r1, ty, q1⟩ => ?_)
  obtain ⟨h1, h2⟩ := tyV_is I1 r1 ty
  refine ⟨T, id, pa, slot, hty, h1, h2, ?_⟩
  have hA := ha cpos pins s1 σ H1 _ I1 q1
  rw [hs] at hA ⊢
  refine Calls.callWith_builtin (by show (false || (backTo cpos (starEach es X.env)).any (·.1)) = false; rw [hplain] <;> rfl) (Calls.evalArgs_plain ?_)
  exact thn hA fun us s2 ⟨vs, H2, I2, r2, q2⟩ => hm pins s2 σ H2 x vs v us Q I2 r1 r2 q2
/- xs.append(e), list.index on a module's tuple .. are MtR facts of 06m -/
end
end L2

namespace L2
open PySem PySem.Spec PyProof.Rows

noncomputable def MtM (X : Cx) (id : String) (r : V → List V → Hp → VK → Prop) : Prop :=
  ∀ (pins : List (Addr × Obj)) (s : Shared) (σ : St) (H : Hp) (x : V) (xs : List V) (v : Value) (us : List Value) (Q : VK), Inv X pins σ H s → RelV x v → Vals xs us → r x xs H Q →
    wpAny (model X.prog X.w) X.A (call (.builtin id) (v :: us)) (EP X pins σ Q) X.xe s

/-! ### lists of values -/
theorem Vals.one : ∀ {x : V} {us : List Value}, Vals [x] us → ∃ u, us = [u] ∧ RelV x u
  | _, _, .cons r .nil => ⟨_, rfl, r⟩
theorem Vals.zero : ∀ {us : List Value}, Vals [] us → us = []
  | _, .nil => rfl
theorem Vals.rep {xs : List V} {us : List Value} (h : Vals xs us) : ∀ k : Nat, Vals (List.replicate k xs).flatten (List.replicate k us).flatten
  | 0 => .nil
  | k + 1 => by
    rw [List.replicate_succ, List.replicate_succ, List.flatten_cons, List.flatten_cons]
    exact Vals.append h (Vals.rep h k)
theorem foldl_rep (its : List Value) : ∀ (k : Nat) (acc : List Value),
    List.foldl (fun x1 x2 => x1 ++ x2) acc.toArray (List.replicate k its.toArray) = (acc ++ (List.replicate k its).flatten).toArray
  | 0, acc => by simp
  | k + 1, acc => by
    have e : acc.toArray ++ its.toArray = (acc ++ its).toArray := by simp
    have e2 : (acc ++ its) ++ (List.replicate k its).flatten = acc ++ (List.replicate (k + 1) its).flatten := by
      rw [List.replicate_succ, List.flatten_cons, List.append_assoc]
    rw [← e2, ← foldl_rep its k (acc ++ its), ← e, List.replicate_succ, List.foldl_cons]

section
variable {X : Cx} {pins : List (Addr × Obj)} {σ : St} {H : Hp} {s : Shared} {l b : Addr} {xs ys zs : List V}

/-! ### the two steps: a tracked list is rewritten, a new list is laid -/
theorem Inv.lset {its its' : List Value} {n : Nat} {f : Array Value → Array Value} {t' : Nat} (I : Inv X pins σ H s) (hH : H l = some (.lst xs))
    (e : s.heap.get? l = some { cls := .type "list", data := .seq its.toArray n }) (hf : f its.toArray = its'.toArray) (hv : Vals ys its') (hz : ys.length ≤ sizeLine) :
    Inv X pins σ (upd H l (.lst ys)) { s with heap := s.heap.update l (Obj.mapSeq f), toks := t' } := by
  have q := PySem.IsL.update e f
  rw [hf] at q
  refine I.write (x := l) (e := l) (by rw [hH]; exact trivial) (.inl rfl) (fun b' u hb hu => (Heap.get?_update_other s.heap (Obj.mapSeq f) (Ne.symm hb)).trans hu) ⟨_, q⟩ ?_
  exact ⟨hz, its', _, hv, q⟩
theorem Inv.lnew {its : List Value} {t' : Nat} (I : Inv X pins σ H s) (hv : Vals ys its) (hz : ys.length ≤ sizeLine) :
    Inv X pins σ (upd H s.heap.objs.size (.lst ys)) { s with heap := s.heap.push { cls := .type "list", data := .seq its.toArray }, toks := t' } :=
  I.laid (fun _ _ q => Heap.get?_push_of_some _ q) (Nat.le_refl _) ⟨hz, its, 0, hv, Heap.get?_push_size _ rfl⟩
theorem Inv.fresh (I : Inv X pins σ H s) : H s.heap.objs.size = none := I.hok.fresh (Nat.le_refl _)
theorem Inv.lstM (I : Inv X pins σ H s) (hH : H l = some (.lst xs)) : xs.length ≤ sizeLine ∧ ∃ (its : List Value) (n : Nat), Vals xs its ∧ xs.length = its.length ∧ s.heap.get? l = some { cls := .type "list", data := .seq its.toArray n } := by
  obtain ⟨z, its, n, r, e⟩ := I.hok l _ hH
  exact ⟨z, its, n, r, r.length, e⟩

theorem notLongL {n : Nat} (h : n ≤ sizeLine) : Builtin.List.listTooLong n = false := by
  unfold Builtin.List.listTooLong
  exact decide_eq_false (by omega)
end

section
variable {X : Cx}

/-! ### methods -/
noncomputable def rAppend : V → List V → Hp → VK → Prop := fun x vs H Q => ∃ l xs y, x = .ref l ∧ vs = [y] ∧ H l = some (.lst xs) ∧ xs.length < sizeLine ∧ Q .non (upd H l (.lst (xs ++ [y])))
theorem mt_append : MtM X "list.append" rAppend := by
  intro pins s σ H x vs v us Q I rx rv h
  obtain ⟨l, xs, y, rfl, rfl, hH, hz, q⟩ := h
  cases rx
  obtain ⟨u, rfl, ru⟩ := rv.one
  obtain ⟨z, its, n, r, hl, e⟩ := I.lstM hH
  refine call_meets F.slot_list_append ⟨_, e, rfl⟩ F.entry_list_append (F.args_list_append_2 _ _) (PySem.list_append l its.toArray n u (by rw [List.size_toArray]; omega)) ⟨e, ?_⟩
  refine ⟨.non, _, I.lset (its' := its ++ [u]) hH e (by simp) (r.append (.cons ru .nil)) ?_, rfl, q⟩
  rw [List.length_append, List.length_singleton]
  omega

noncomputable def rExtend : V → List V → Hp → VK → Prop := fun x vs H Q => ∃ l b xs zs, x = .ref l ∧ vs = [.ref b] ∧ H l = some (.lst xs) ∧ H b = some (.lst zs) ∧ xs.length + zs.length ≤ sizeLine ∧ Q .non (upd H l (.lst (xs ++ zs)))
theorem mt_extend : MtM X "list.extend" rExtend := by
  intro pins s σ H x vs v us Q I rx rv h
  obtain ⟨l, b, xs, zs, rfl, rfl, hH, hB, hz, q⟩ := h
  cases rx
  obtain ⟨u, rfl, ru⟩ := rv.one
  cases ru
  obtain ⟨z, its, n, r, hl, e⟩ := I.lstM hH
  obtain ⟨z2, its2, n2, r2, hl2, e2⟩ := I.lstM hB
  have hsz : its.toArray.size + its2.toArray.size ≤ sizeLine := by rw [List.size_toArray, List.size_toArray]; omega
  have hlong : ¬ (!its.toArray.isEmpty && Builtin.List.listTooLong (its.toArray.size + its2.toArray.size)) = true := by
    rw [notLongL hsz, Bool.and_false]
    exact Bool.false_ne_true
  refine call_meets F.slot_list_extend ⟨_, e, rfl⟩ F.entry_list_extend (F.args_list_extend_2 _ _)
    (AutoSeq1.list_extend_list_list_0 l its.toArray n b its2.toArray n2 hlong (by rw [List.size_toArray]; omega) (by omega)) ⟨e, e2, ?_⟩
  refine ⟨.non, _, I.lset (its' := its ++ its2) hH e (by simp) (r.append r2) ?_, rfl, q⟩
  rw [List.length_append]
  omega

noncomputable def rPop : V → List V → Hp → VK → Prop := fun x vs H Q => ∃ l xs y, x = .ref l ∧ vs = [] ∧ H l = some (.lst xs) ∧ xs[xs.length - 1]? = some y ∧ Q y (upd H l (.lst xs.dropLast))

noncomputable def rPopAt : V → List V → Hp → VK → Prop := fun x vs H Q => ∃ l xs i k y, x = .ref l ∧ vs = [.int i] ∧ H l = some (.lst xs) ∧ -(2 ^ 63) ≤ i ∧ i < 2 ^ 63 ∧ seqIndex? i xs.length = some k ∧ xs[k]? = some y ∧ Q y (upd H l (.lst (xs.eraseIdx k)))

noncomputable def rReverse : V → List V → Hp → VK → Prop := fun x vs H Q => ∃ l xs, x = .ref l ∧ vs = [] ∧ H l = some (.lst xs) ∧ Q .non (upd H l (.lst xs.reverse))

noncomputable def rClear : V → List V → Hp → VK → Prop := fun x vs H Q => ∃ l xs, x = .ref l ∧ vs = [] ∧ H l = some (.lst xs) ∧ Q .non (upd H l (.lst []))

/-! ### list + list, list += list, list * int -/
noncomputable def rCat : R2 := fun x y H Q => ∃ l b xs zs, x = .ref l ∧ y = .ref b ∧ H l = some (.lst xs) ∧ H b = some (.lst zs) ∧ xs.length + zs.length ≤ sizeLine ∧ ∀ p, H p = none → Q (.ref p) (upd H p (.lst (xs ++ zs)))
theorem op_cat : OpR X (binaryOp .Add) rCat := by
  intro pins s σ H x y v u Q I rx ry h
  obtain ⟨l, b, xs, zs, rfl, rfl, hH, hB, hz, q⟩ := h
  cases rx
  cases ry
  obtain ⟨z, its, n, r, hl, e⟩ := I.lstM hH
  obtain ⟨z2, its2, n2, r2, hl2, e2⟩ := I.lstM hB
  refine PySem.P.add_list e e2 ?_ (by rw [List.size_toArray, List.size_toArray]; omega)
  have ea : its.toArray ++ its2.toArray = (its ++ its2).toArray := by simp
  rw [ea]
  exact ⟨.ref _, _, I.lnew (t' := s.toks) (r.append r2) (by rw [List.length_append]; omega), rfl, q _ I.fresh⟩
/-- a list times an int (a negative one is nothing) -/
noncomputable def rRep : R2 := fun x y H Q => ∃ l k xs, x = .ref l ∧ y = .int k ∧ H l = some (.lst xs) ∧ -(2 ^ 63) ≤ k ∧ k < 2 ^ 63 ∧ xs.length * k.toNat ≤ sizeLine ∧
  ∀ p, H p = none → Q (.ref p) (upd H p (.lst (List.replicate k.toNat xs).flatten))
theorem len_rep {α : Type} (xs : List α) (k : Nat) : (List.replicate k xs).flatten.length = k * xs.length := by
  induction k with
  | zero => simp
  | succ k ih => rw [List.replicate_succ, List.flatten_cons, List.length_append, ih, Nat.succ_mul, Nat.add_comm]
theorem op_rep : OpR X (binaryOp .Mult) rRep := by
  intro pins s σ H x y v u Q I rx ry h
  obtain ⟨l, k, xs, rfl, rfl, hH, h1, h2, hz, q⟩ := h
  cases rx
  obtain ⟨t, rfl⟩ := ry
  obtain ⟨z, its, n, r, hl, e⟩ := I.lstM hH
  have hlen : its.toArray.size * k.toNat ≤ sizeLine := by rw [List.size_toArray, ← hl]; exact hz
  have hcap : ¬ its.toArray.size * k.toNat > (2 ^ 63 - 1) / 8 := by
    have : (sizeLine : Nat) ≤ (2 ^ 63 - 1) / 8 := by decide
    omega
  have hfit : ¬ (!Builtin.List.listFitsIndex k) = true := by
    rw [fitsIndex_both h1 h2]
    exact Bool.false_ne_true
  have hlong : ¬ Builtin.List.listTooLong (its.toArray.size * k.toNat) = true := by
    rw [notLongL hlen]
    exact Bool.false_ne_true
  have hnew : List.foldl (fun x1 x2 => x1 ++ x2) #[] (List.replicate (if its.toArray.isEmpty = true then 0 else k.toNat) its.toArray) = (List.replicate k.toNat its).flatten.toArray := by
    have f0 : ∀ m : Nat, List.foldl (fun x1 x2 => x1 ++ x2) #[] (List.replicate m its.toArray) = (List.replicate m its).flatten.toArray := fun m => by
      have := foldl_rep its m []
      rw [List.nil_append] at this
      exact this
    rw [f0]
    cases its with
    | nil => simp
    | cons a r' => rw [if_neg (by simp)]
  refine wpAny_binaryOp_repeat_ref (T := "list") (U := "int") (by decide) ⟨_, e, rfl⟩ (fun s' => typeIs_int s' k t) noFill_list_mul F.fills_int_mul F.slot_int_rmul repeat_list F.slot_int_index.lookup
    (call_meets F.slot_int_rmul (typeIs_int s k t) F.entry_int_rmul (F.args_int_rmul_2 _ _) (int___rmul___int_list k t l its.toArray n)
      ⟨e, rfl, ⟨_, e, rfl⟩, call_meets F.slot_list_mul ⟨_, e, rfl⟩ F.entry_list_mul (F.args_list_mul_2 _ _) (AutoListH.list___mul___list_int_3 l its.toArray n k t hfit hcap hlong) ⟨e, ?_⟩⟩)
  rw [hnew]
  exact ⟨.ref _, _, I.lnew (t' := s.toks) (r.rep k.toNat) (by rw [len_rep, Nat.mul_comm]; exact hz), rfl, q _ I.fresh⟩

/-! ### del xs[i] -/
end

/-! ### xs[a:b] = ys -/
section
variable {prog : Program} {w : World} {A : Around} {E : Value → Shared → Prop} {s : Shared}
theorem bounds_run {a c n : Nat} (hac : a ≤ c) (hc : c ≤ n) : sliceBounds (some (a : Int)) (some (c : Int)) none n = ((a : Int), (c : Int), 1) := by
  simp only [sliceBounds, Option.getD_none]
  have h1 : ¬ ((a : Int) < 0) := by omega
  have h2 : ¬ ((c : Int) < 0) := by omega
  simp only [h1, h2, if_false, show (1 : Int) > 0 by decide, if_true]
  congr 1
  · omega
  · congr 1; omega
set_option maxRecDepth 100000 in
/-- list.__setitem__ with a slice of step one and another list -/
theorem setItem_slice {l b sl : Addr} {items new : Array Value} {n n2 : Nat} {vl vu : Value} {a c : Nat} {Q : Unit → Shared → Prop}
    (e : s.heap.get? l = some { cls := .type "list", data := .seq items n }) (e2 : s.heap.get? b = some { cls := .type "list", data := .seq new n2 }) (hne : l ≠ b)
    (hs : s.heap.IsSliceOf sl vl vu .none) (pl : IsPart vl (some (a : Int))) (pu : IsPart vu (some (c : Int))) (hac : a ≤ c) (hc : c ≤ items.size)
    (hsz : items.size + new.size ≤ sizeLine) (h : Q () { s with heap := s.heap.update l (Obj.mapSeq fun xs => xs.extract 0 a ++ new ++ xs.extract c xs.size) }) :
    wpAny (model prog w) A (setItem (.ref l) (.ref sl) (.ref b)) Q E s := by
  have hl : s.heap.IsList l items := PySem.IsL.isList e
  have hb : s.heap.IsList b new := PySem.IsL.isList e2
  obtain ⟨os, hos, hcs, hds⟩ := id hs
  have hTs : s.TypeIs (.ref sl) "slice" := ⟨os, hos, hcs⟩
  have hstep : ¬ ((rawPart none == rawInt 0) = true) := Bool.false_ne_true
  have hsame : Builtin.List.listSameRef (.ref l) (.ref b) = false := by
    unfold Builtin.List.listSameRef
    exact beq_eq_false_iff_ne.mpr hne
  have hmax : (max (a : Int) (c : Int)).toNat = c := by omega
  have hz' : ((fun xs : Array Value => xs.extract 0 a ++ new ++ xs.extract c xs.size) items).size ≤ sizeLine + 1 := by
    simp only [Array.size_append, Array.size_extract]
    omega
  unfold setItem
  try with_reducible refine wpAny_holding ?_
  first | refine wpAny_bind (wpAny_pure ?_) | skip
  refine wpAny_bind (wpAny_sequenceKey hl.typeIs (by decide) ?_)
  refine wpAny_bind (wpAny_callSpecial?_slot (name := Str.ofString "__setitem__") hl.typeIs slot_list_setitem
    (wpAny_call_entry slot_list_setitem hl.typeIs entry_list_setitem ?_ (args_list_setitem _ _ _)))
  show wpAny _ _ (Builtin.List.listSubscript? (.ref sl) >>= _) _ _ s
  refine wpAny_bind ?_
  unfold Builtin.List.listSubscript?
  refine wpAny_bind (wpAny_specialOf hTs slice_no_index ?_)
  simp only [Option.isNone_none, if_true]
  refine wpAny_pure ?_
  show wpAny _ _ (typeOf (.ref sl) >>= _) _ _ s
  refine wpAny_bind (wpAny_typeOf hTs ?_)
  first
    | rw [if_neg (by decide)]
    | refine PySem.W.KFB.if_not (by decide) ?_
  rw [listSliceParts_eq]
  refine wpAny_bind (wpAny_bind (wpAny_field hos hds (x := .none) rfl (wpAny_bind (wpAny_listPart .none ?_))))
  rw [if_neg hstep]
  refine wpAny_bind (wpAny_field hos hds (x := vl) rfl (wpAny_bind (wpAny_listPart pl ?_)))
  refine wpAny_bind (wpAny_field hos hds (x := vu) rfl (wpAny_bind (wpAny_listPart pu (wpAny_pure ?_))))
  first
    | simp only [hsame, Bool.false_eq_true, if_false]
    | refine PySem.W.KFB.if_not hsame ?_
    | (dsimp only
       rw [if_neg (by rw [hsame]; exact Bool.false_ne_true)])
  refine wpAny_bind (m := Builtin.List.listAllItems (.ref b) "must assign iterable to extended slice") ?_
  unfold Builtin.List.listAllItems
  refine wpAny_bind (wpAny_typeOf hb.typeIs ?_)
  first
    | refine PySem.W.KFB.if_so (by decide) ?_
    | rw [if_pos (by decide)]
    | simp only [beq_self_eq_true, Bool.true_or, if_true]
  unfold Builtin.List.listItems
  refine wpAny_bind (wpAny_seqItems e2 rfl (wpAny_pure ?_))
  refine wpAny_bind (wpAny_bind (wpAny_seqItems e rfl (wpAny_pure ?_)))
  refine wpAny_bind (wpAny_of_eq ((sliceIndices_raw (some (a : Int)) (some (c : Int)) none items.size (by simp)).trans (congrArg (pure : Int × Int × Int → Sem (Int × Int × Int)) (bounds_run hac hc))) ?_)
  show wpAny _ _ (if ((1 : Int) == 1) = true then _ else _) _ _ s
  rw [if_pos (by decide)]
  refine wpAny_bind (wpAny_rule ?_)
  first
    | simp only [notLongL hsz, Bool.false_eq_true, if_false]
    | refine PySem.W.KFB.if_not (notLongL hsz) ?_
  first | refine wpAny_bind (wpAny_pure ?_) | skip
  show wpAny _ _ (updateSeq l (fun xs => xs.extract 0 ((a : Int)).toNat ++ new ++ xs.extract (max (a : Int) (c : Int)).toNat xs.size) >>= _) _ _ s
  rw [hmax, Int.toNat_natCast]
  refine wpAny_bind (wpAny_updateSeq (hz := Nat.le_trans (Nat.le_add_right _ _) hsz) (_hz' := hz') e rfl ?_)
  refine wpAny_bind (wpAny_letGo ?_)
  first
    | exact wpAny_bind (wpAny_pure (wpAny_pure ⟨.none, rfl, wpAny_pure h⟩))
    | exact wpAny_pure ⟨.none, rfl, wpAny_pure h⟩
end

section
variable {X : Cx}
end
end L2

namespace Att
open PySem PySem.W PySem.Calls PyProof.Rows

/-! ### the script -/
theorem ints_of_wellAll {P : Params} {h : Heap} : ∀ (ns : List Int) (vs : List Value), WellAll P h vs (ns.map WData.int) → IntsAre vs ns := by
  intro ns
  induction ns with
  | nil =>
    intro vs w
    rw [List.map_nil] at w
    cases w
    exact .nil
  | cons n ns ih =>
    intro vs w
    rw [List.map_cons] at w
    cases w with
    | cons a b =>
      cases a
      exact .cons _ _ (ih _ b)

theorem script_of {l : OpenLaw} {n : Nat} (hn : l.most = some n) {P : Params} {h : Heap} {args : List WData} {vals : List Value}
    (hpre : l.row.toRowW.claim.pre args = true) (hwl : WellAll P h vals args) :
    ∃ a vs ns, vals = [Value.ref a] ∧ args = [WData.list (ns.map WData.int)] ∧ h.get? a = some { cls := .type "list", data := .seq vs.toArray } ∧ IntsAre vs ns ∧ ns.length ≤ n := by
  have hsh : WShape.hasAll [] args [.list .int] = true := (pre_splitW hpre).1
  have hc : l.pre.holds [] { args := args } = true := (pre_splitW hpre).2
  obtain ⟨d, r, rfl, h1, h2⟩ := hasAllW_cons hsh
  obtain rfl := hasAllW_nil h2
  obtain ⟨xs, rfl, h3⟩ := hasW_list h1
  obtain ⟨ns, rfl⟩ := items_int h3
  have hlen : ns.length ≤ n := by
    unfold OpenLaw.pre at hc
    have h4 : (WTm.not (.lt (.lit (.int (n : Int))) (.len (.arg 0)))).holds [] { args := [.list (ns.map .int)] } = true := by
      have h4 := (holds_andW hc).1
      rw [hn] at h4
      exact h4
    have h5 := condW_of h4 (w_not (w_lt w_lit (w_len_list (w_arg rfl))))
    rw [List.length_map] at h5
    refine Nat.le_of_not_lt fun q => ?_
    have q' : (n : Int) < ((ns.length : Nat) : Int) := by omega
    first
      | (rw [decide_eq_true q'] at h5; exact absurd h5 (by decide))
      | (simp at h5; omega)
  cases hwl with
  | cons w1 w2 =>
    cases w2
    cases w1 with
    | list ho hall => exact ⟨_, _, ns, rfl, rfl, ho, ints_of_wellAll ns _ hall, hlen⟩

theorem post_true (l : OpenLaw) (args : List WData) : l.row.toRowW.claim.post args (.bool true) args = true :=
  postW_of (r := l.row.toRowW) (X := (true == true))
    (show WShape.has [] (.bool true) .bool = true by first | rfl | decide | simp [WShape.has, WShape.arms, WShape.armsAll])
    (show (WTm.eq .res (.lit (.bool true))).value [] { args := args, res := some (.bool true), after := args } = some (.bool (true == true)) from w_eq_bool (w_res rfl) w_lit) rfl

/-! ### the attachment: holds_open's last premise (the goal 'hc' behind k_head) from a wpAny of the law's body -/

/-- the same from a codeAny of the CALL (for a layer whose function contracts speak of calls) -/
theorem attach_call {l : OpenLaw} {n : Nat} {q : Program} {loose : List Str} {XP : (Str → Option Value) → Heap → Prop} {YP : World → Heap → Prop} {d : DefRec}
    (hn : l.most = some n) (hdf : d.params.defaults = [])
    (call : ∀ (w : World) (s₀ s₁ : Shared) (mg mb : Str → Option Value) (fa : Addr) (o : Obj) (pm cd doc : Value) (a : Addr) (vs : List Value) (ns : List Int),
      Ground q loose [] XP w s₀ mg mb s₁.heap → YP w s₁.heap →
      s₁.heap.get? fa = some o → o.data = .func (docDef d.name d.params d.body d.scope pm cd doc) → s₁.heap.CodeRec cd d.name → mg d.name = some (.ref fa) →
      s₁.heap.get? a = some { cls := .type "list", data := .seq vs.toArray } → IntsAre vs ns → ns.length ≤ n → s₁.gens = #[] →
      codeAny (model l.prog w) callerA (.call (.ref fa) ⟨[.ref a], []⟩) (fun r s' => r = .ok (.ret (.bool true)) ∧ OldK s₁.heap s'.heap ∧ s'.os = s₁.os ∧ AllBare s'.gens) s₁) :
    WalkO q loose XP YP l.row.toRowW d [] (fun f vs => PySem.call f vs) := by
  intro w s₀ s₁ mg mb G Y fa o pm cd doc dV kV ho hd hcd hD hmg hg args vals as hpre hlay hrd hwl hlo
  obtain rfl : dV = .none := Dflts.none hD hdf
  obtain rfl : kV = .none := Dflts.noKw hD
  obtain ⟨a, vs, ns, rfl, rfl, hobj, hints, hlen⟩ := script_of hn hpre hwl
  refine enter_call (codeAny_mono (call w s₀ s₁ mg mb fa o pm cd doc a vs ns G Y ho (fd_plain hd) hcd hmg hobj hints hlen hg) fun r s' hq => ?_)
  obtain ⟨rfl, h2, h3, h4⟩ := hq
  exact ⟨.inl ⟨.bool true, .bool true, [], rfl, fun _ => rfl, .bool true, post_true l _, fun _ => ⟨List.Pairwise.nil, fun _ hm => (nomatch hm)⟩⟩, h2, h3, h4⟩


/-! ### rules over ANY heap (no ledger) from facts about the written part K: the library's own take a ledger (News) for what they write -/
section
variable {prog : Program} {w : World} {A : Around} {E : Value → Shared → Prop} {s : Shared} {K : Frag}





/-! the whole heap as the ledger: makes every rule that writes through a ledger a rule over any heap -/
noncomputable def noObjs (h : Heap) : Heap := { h with objs := #[] }
noncomputable def ledger (h : Heap) (L d : Addr) : List (Addr × Obj) := (List.range h.objs.size).filterMap fun a => if a = L ∨ a = d then none else (h.get? a).map fun o => (a, o)

end
end Att

namespace L2
open PySem PySem.Spec PyProof.Rows

theorem vals_ints : ∀ {vs : List Value} {ns : List Int}, IntsAre vs ns → Vals (ns.map V.int) vs
  | _, _, .nil => .nil
  | _, _, .cons n t h => .cons ⟨t, rfl⟩ (vals_ints h)

/-- nothing is tracked but the script, known to the object (or it is an object of the module) -/
noncomputable def Only (H : Hp) : Prop := ∀ b, H b = none ∨ ∃ o xs, H b = some (.frz o (.lst xs))

/-- THE HEAD: the law's promise, at the heap behind the top. F, the promise of the law's def, may use that base is part of the heap (so K.In base, base.Ns mainGlobals mg stand in Mod) -/
theorem law_call {P : Program} {w : World} {K : PySem.W.Frag} {mg mb : Str → Option Value} {CX : CXT} {k : Nat} {fa a : Addr} {fd : FuncData} {x : Str} {sp : Sp} {s₁ : Shared} {vs : List Value} {ns : List Int}
    (KX : K.In s₁.heap) (hns : s₁.heap.Ns mainGlobals mg) (hb : s₁.heap.Ns builtinsNs mb) (hbb : ∀ x : Str, x ≠ "__name__" → mb x = bootBuiltins x) (hlim : s₁.heap.NoLimit) (hg : s₁.gens = #[])
    (ha : s₁.heap.get? a = some { cls := .type "list", data := .seq vs.toArray }) (hi : IntsAre vs ns) (hl : ns.length ≤ sizeLine) (hr : Room k callerA)
    (F : ∀ base : Heap, K.In base → base.Ns mainGlobals mg → FnOk P w K mg base CX k fa fd [x] sp) (hbind : ∀ (s : Shared) (u : Value), BindsTo s fd ⟨[u], []⟩ [(x, u)])
    (hsp : ∀ H : Hp, Only H → SqL K H a (ns.map V.int) → sp [.ref a] H (fun v _ => v = .bl true) fun _ _ _ => False)
    (hCX : ∀ H e s', CX [] H s₁ (fun _ _ _ => False) e s' → False) :
    codeAny (model P w) callerA (.call (.ref fa) ⟨[.ref a], []⟩) (fun r s' => r = .ok (.ret (.bool true)) ∧ OldK s₁.heap s'.heap ∧ s'.os = s₁.os ∧ AllBare s'.gens) s₁ := by
  have rv := vals_ints hi
  have lenV := hi.length
  -- from an abstract heap in which nothing but the script may be tracked
  have core : ∀ H : Hp, Only H → SqL K H a (ns.map V.int) → HOk P w H s₁.heap → (∀ b, H b ≠ none → b = a) → (H a ≠ none → K.lookup a = none) →
      codeAny (model P w) callerA (.call (.ref fa) ⟨[.ref a], []⟩) (fun r s' => r = .ok (.ret (.bool true)) ∧ OldK s₁.heap s'.heap ∧ s'.os = s₁.os ∧ AllBare s'.gens) s₁ := by
    intro H hO hS hok hA hK
    have base_of : ∀ {b : Addr} {o : Obj}, s₁.heap.get? b = some o → H b = none → (hidT s₁.heap H).get? b = some o := fun e n => hidT_get e n
    have noA : ∀ {b : Addr} {o : Obj} {es : Array DictEntry} {ep : Nat}, s₁.heap.get? b = some o → o.data = .dict es ep → H b = none := fun {b o es ep} e d => by
      cases q : H b with
      | none => rfl
      | some u =>
        have e' : b = a := hA b (by rw [q]; simp)
        subst e'
        rw [ha] at e; cases e
        have d' : Data.seq vs.toArray _ = Data.dict es ep := d
        cases d'
    have nsK : ∀ {b : Addr} {m : Str → Option Value}, s₁.heap.Ns b m → (hidT s₁.heap H).Ns b m := fun {b m} ⟨o, es, ep, e, d, r⟩ => ⟨o, es, ep, base_of e (noA e d), d, r⟩
    have hKb : K.In (hidT s₁.heap H) := fun b o e => base_of (KX b o e) (by
      cases q : H b with
      | none => rfl
      | some u =>
        have e' : b = a := hA b (by rw [q]; simp)
        subst e'
        rw [hK (by rw [q]; simp)] at e; cases e)
    have hM : Mod K mg (hidT s₁.heap H) := ⟨hKb, nsK hns, ⟨mb, nsK hb, hbb⟩, let ⟨mc, h1, h2⟩ := hlim; ⟨mc, nsK h1, h2⟩⟩
    have e0 : Env0 P w K mg (hidT s₁.heap H) callerA [] s₁ H := ⟨rfl, hM, fun b o e => of_hidT e, Nat.le_of_eq (hidT_size _ _), trivial, fun b hb => absurd (show b ∈ ([] : List Addr) from hb) (by simp), hok, .of_eq hg⟩
    refine codeAny_mono ((F _ hKb (nsK hns)).run callerA [] s₁ H ⟨[.ref a], []⟩ [.ref a] [.ref a] _ _ hr e0 (hbind s₁ (.ref a)) (.cons rfl .nil) (hsp H hO hS)) fun r s' h => ?_
    cases r with
    | error e => exact (hCX H e s' h).elim
    | ok fl =>
      cases fl with
      | next => exact False.elim h
      | brk => exact False.elim h
      | cont => exact False.elim h
      | ret u =>
        obtain ⟨v, H', os, bare, un, hok', r', q⟩ := h
        have q' : v = .bl true := q
        subst q'
        obtain rfl : u = Value.bool true := r'
        refine ⟨rfl, OldK.of_keep fun b o e => ?_, os, bare⟩
        cases q : H b with
        | none => exact un.keep b o e q (by intro z; exact absurd (show b ∈ ([] : List Addr) from z) (by simp)) (by simp)
        | some u =>
          rcases hO b with z | ⟨ob, xs, z⟩
          · rw [q] at z; cases z
          · have z2 := un.frzs b ob _ z
            obtain ⟨e1, _⟩ := hok b _ z
            obtain ⟨e2, _⟩ := hok' b _ z2
            rw [e] at e1; cases e1
            exact e2
  cases hk : K.lookup a with
  | some o =>
    -- the script is one of the module's own objects
    have e := KX a o hk
    rw [ha] at e
    cases e
    refine core (fun _ => none) (fun _ => .inl rfl) (.inr ⟨_, vs.toArray, _, hk, rfl, rfl, rfl, by rw [List.size_toArray, lenV]; exact hl, by simpa using rv⟩) (fun b u z => by have z' : (none : Option HO) = some u := z; cases z') (fun b z => absurd rfl z) fun z => absurd rfl z
  | none =>
    refine core (fun b => if b = a then some (.frz { cls := .type "list", data := .seq vs.toArray } (.lst (ns.map V.int))) else none) (fun b => ?_) (.inl (.inr ⟨{ cls := .type "list", data := .seq vs.toArray }, if_pos rfl⟩)) (fun b u z => ?_) (fun b z => ?_) fun _ => hk
    · by_cases hb : b = a
      · exact .inr ⟨_, _, if_pos hb⟩
      · exact .inl (if_neg hb)
    · by_cases hb : b = a
      · have z' := (if_pos hb).symm.trans z
        cases z'
        subst hb
        exact ⟨ha, by rw [List.length_map]; exact hl, vs, _, rv, ha⟩
      · have z' := (if_neg hb).symm.trans z
        cases z'
    · by_cases hb : b = a
      · exact hb
      · exact absurd (if_neg hb) z
end L2

namespace L2
open PySem PySem.Spec PyProof.Rows

noncomputable abbrev KOf {K : PySem.W.Frag} {h : Heap} (_ : K.In h) : PySem.W.Frag := K

/-- the goal that k_head leaves (case hc), from the law's promise. F gives the function object fd (K's own) once, then the promise over every base -/
theorem walk_of {l : PySem.W.OpenLaw} {n k : Nat} {q : Program} {loose : List Str} {XP : (Str → Option Value) → Heap → Prop} {YP : World → Heap → Prop} {d : DefRec} {K : Params → PySem.W.Frag} {CX : World → CXT} {sp : World → Sp} {x : Str}
    (hn : l.most = some n) (hn2 : n ≤ sizeLine) (hdf : d.params.defaults = []) (hr : Room k callerA)
    (hY : ∀ (w : World) (h : Heap), YP w h → (K w.params).In h)
    (F : ∀ (w : World) (mg : Str → Option Value) (fa : Addr) (h : Heap), (K w.params).In h → h.Ns mainGlobals mg → mg d.name = some (.ref fa) →
      ∃ fd : FuncData, (∀ (s : Shared) (u : Value), BindsTo s fd ⟨[u], []⟩ [(x, u)]) ∧
        ∀ base : Heap, (K w.params).In base → base.Ns mainGlobals mg → FnOk l.prog w (K w.params) mg base (CX w) k fa fd [x] (sp w))
    (hsp : ∀ (w : World) (H : Hp) (a : Addr) (ns : List Int), ns.length ≤ n → Only H → SqL (K w.params) H a (ns.map V.int) → sp w [.ref a] H (fun v _ => v = .bl true) fun _ _ _ => False)
    (hCX : ∀ (w : World) (H : Hp) (s : Shared) (e : Value) (s' : Shared), CX w [] H s (fun _ _ _ => False) e s' → False) :
    PySem.W.WalkO q loose XP YP l.row.toRowW d [] (fun f vs => PySem.call f vs) := by
  refine Att.attach_call hn hdf fun w s₀ s₁ mg mb fa o pm cd doc a vs ns G Y ho hd hcd hmg hobj hints hlen hg => ?_
  have KX := hY w _ Y
  obtain ⟨fd, hb, hF⟩ := F w mg fa _ KX G.T.g hmg
  exact law_call KX G.T.g G.T.b G.T.builtins G.T.nolimit hg hobj hints (Nat.le_trans hlen hn2) hr hF hb (fun H hO hS => hsp w H a ns hlen hO hS) fun H e s' => hCX w H s₁ e s'
end L2

/- THE LAST THEOREM (shape; LID, My.* are yours):
   My.Adr: a structure of the addresses that your layer names (classes, functions); My.Txt K t: a structure (Prop) of the equations over K;
   My.txt_mk : {K} {implicit addresses ..} (e1 : nsIn K mainGlobals "law" = some (some (.ref f))) (e2 : K.lookup f = some ⟨oc, od, .func (fnOf "law" "law" params body scope dV kV doc pm an cdv ct), sl⟩) (e3 : codeIn K cdv "law" = true) .. : ∃ t, My.Txt K t

set_option maxRecDepth 100000 in
set_option maxHeartbeats 0 in
theorem PySem.Challenge.cw_LID_holds : PySem.Challenge.rw_LID.Holds := by
  w_on; o_law; k_head; (case hw => w_witness2)
  k_fill
  refine L2.walk_of (l := PySem.Challenge.rw_LID) (n := 63) (k := 40) (x := "script") (CX := fun w => ..) (sp := fun _ => My.sp_law) rfl (by decide) rfl ⟨rfl, by decide, by decide⟩ (fun w h Y => PySem.W.kIn_of Y) ?F ?S ?C
  case F =>
    intro w mg fa h KX G hmg
    have T : ∃ t, My.Txt (L2.KOf KX) t := by
      dsimp only [L2.KOf]                          -- K must stand as «<heap const> w.params» for k_is
      refine' My.txt_mk ?e1 ?e2 ?e3 ..
      (case e1 => PySem.W.k_is)                    -- in the order: a name -> its address -> its object -> its parts
      (case e2 => PySem.W.k_is)
      ..
    obtain ⟨t, T⟩ := T
    have e0 := hmg.symm.trans (PySem.W.mg_of KX G T.law)
    cases e0                                       -- fa is the law's own address
    exact ⟨_, fun s u => .of_eq rfl, fun base kb nb => My.law_fn T kb nb⟩     -- if «.of_eq rfl» comes too early: refine' ⟨_, ?b, fun base kb nb => My.law_fn T kb nb⟩; exact fun s u => .of_eq rfl
  case S => exact fun w H a ns hl hO hS => ..
  case C => exact ..
(the tactic k_is has no namespace: write k_is) -/

/-! SHORT WORDS over the layer: a def of the text, its body, what a loop and a test want. -/
namespace L2
open PySem PySem.Spec PyProof.Rows

/-! ### the text by places -/
/-- the j-th statement of a class's body -/
noncomputable def inClass (s : Stmt) (j : Nat) : Stmt := match s with
  | .ClassDef _ _ _ body _ _ _ _ _ _ _ => body.getD j (.Pass ⟨0, 0, 0, 0⟩)
  | _ => .Pass ⟨0, 0, 0, 0⟩
noncomputable def defArgs (s : Stmt) : Arguments := match s with
  | .FunctionDef _ a _ _ _ _ _ _ _ _ => a
  | _ => { posonlyargs := [], args := [], vararg := none, kwonlyargs := [], kw_defaults := [], kwarg := none, defaults := [] }
noncomputable def defBody (s : Stmt) : List Stmt := match s with
  | .FunctionDef _ _ b _ _ _ _ _ _ _ => b
  | _ => []
noncomputable def defScope (s : Stmt) : Scope := match s with
  | .FunctionDef _ _ _ _ _ _ sc _ _ _ => sc
  | _ => { kind := .function, names := [], isGenerator := false, isCoroutine := false }

/-! ### no exception leaves a def -/
noncomputable abbrev CX0 : CXT := fun _ _ _ _ _ _ => False
noncomputable abbrev E0 : XK := fun _ _ _ => False
theorem pass0 {X : Cx} : Passes CX0 X E0 := fun _ _ _ _ _ _ _ h => h.elim

/-! ### a def (or method) of the text as it stands behind the top -/
structure Fun (K : PySem.W.Frag) (x qual : Str) (st : Stmt) (f : Addr) (fd : FuncData) : Prop where
  ex : ∃ (oc : Value) (od : Option Addr) (kV doc pm : Value) (an : Option Addr) (cdv ct : Value) (osl : Array (Option Value)),
    fd = PySem.W.fnOf x qual (defArgs st) (defBody st) (defScope st) .none kV doc pm an cdv ct ∧ K.lookup f = some ⟨oc, od, .func fd, osl⟩ ∧ PySem.W.codeIn K cdv qual = true
  kp : PySem.W.keepIn K (.ref f) = true
section
variable {P : Program} {w : World} {K : PySem.W.Frag} {mg : Str → Option Value} {base : Heap}
/-- THE RULE for a def: its body as a term of rules, and the reading of that term -/
theorem Fun.ok {x qual : Str} {st : Stmt} {f : Addr} {fd : FuncData} {N ps : List Str} {k : Nat} {sp : Sp} (F : Fun K x qual st f fd) (S : FnScope N ps (defScope st)) (len : ∀ vs H Q E, sp vs H Q E → vs.length = ps.length)
    (hbody : ∀ (cdv : Value) (A : Around) (outer : List Env) (s : Shared) (H : Hp) (vs : List V) (Q : VK) (E : XK), Room k (A.deeper (envOfC qual (defScope st) s.heap.objs.size f cdv)) → sp vs H Q E →
      ∃ t, PSs (cxOf CX0 P w K mg base N qual (defScope st) f cdv A outer s H E).nox (defBody st) t ∧ t { nx := fun _ H' => Q .non H', rt := Q } (start N vs) H) : FnOk P w K mg base CX0 (k + 1) f fd ps sp := by
  obtain ⟨oc, od, kV, doc, pm, an, cdv, ct, osl, rfl, lk, hcd⟩ := F.ex
  refine fn_of lk hcd S len fun A outer s H vs Q E hr hsp => ?_
  obtain ⟨t, h, q⟩ := hbody cdv A outer s H vs Q E hr hsp
  exact ⟨t, h.nox, q⟩
/-- how its arguments bind (no defaults): h is «fun _ _ _ _ _ _ us hl => match us, hl with | [_, _], _ => rfl», one _ a parameter -/
theorem Fun.binds {x qual : Str} {st : Stmt} {f : Addr} {fd : FuncData} {ps : List Str} (F : Fun K x qual st f fd)
    (h : ∀ (kV doc pm : Value) (an : Option Addr) (cdv ct : Value) (us : List Value), us.length = ps.length → bindArgs (PySem.W.fnOf x qual (defArgs st) (defBody st) (defScope st) .none kV doc pm an cdv ct) ⟨us, []⟩ = pure (ps.zip us)) : Binds K fd ps [] := by
  obtain ⟨oc, od, kV, doc, pm, an, cdv, ct, osl, rfl, lk, hcd⟩ := F.ex
  exact .all (h kV doc pm an cdv ct)
theorem fun_mk {x qual : Str} {st : Stmt} {f : Addr} {oc : Value} {od an : Option Addr} {osl : Array (Option Value)} {kV doc pm cdv ct : Value} (l : K.lookup f = some ⟨oc, od, .func (PySem.W.fnOf x qual (defArgs st) (defBody st) (defScope st) .none kV doc pm an cdv ct), osl⟩)
    (c : PySem.W.codeIn K cdv qual = true) (k : PySem.W.keepIn K (.ref f) = true) : Fun K x qual st f (PySem.W.fnOf x qual (defArgs st) (defBody st) (defScope st) .none kV doc pm an cdv ct) := ⟨⟨oc, od, kV, doc, pm, an, cdv, ct, osl, rfl, l, c⟩, k⟩
end

/-! ### expressions in short: the name that stands in the i-th slot -/
section
variable {X : Cx}
theorem pv (i : Nat) {x : Str} {pos : Pos} (hN : X.N[i]? = some x := by rfl) (hv : Vis X.env.scope x := by first | exact Or.inl rfl | exact Or.inr (Or.inl rfl) | exact Or.inr (Or.inr rfl)) (hd : (x == ("__debug__" : Str)) = false := by decide)
    (hcd : (x == ("__classdict__" : Str)) = false := by decide) : PE X (.Name x pos) (tVar i) := pe_var hN hv hd hcd
end

/-! ### tests -/
theorem iteF {A B : Prop} (h : B) : if false = true then A else B := by
  rw [if_neg Bool.false_ne_true]
  exact h
theorem iteT {A B : Prop} (h : A) : if true = true then A else B := by
  rw [if_pos rfl]
  exact h
theorem ite2 {c A B : Prop} [Decidable c] (h1 : c → A) (h2 : ¬ c → B) : if c then A else B := by
  by_cases h : c
  · rw [if_pos h]
    exact h1 h
  · rw [if_neg h]
    exact h2 h
theorem iteNS {c A B : Prop} [Decidable c] (hc : c) (h : B) : if (!decide c) = true then A else B := by
  rw [decide_eq_true hc]
  exact iteF h

/-! ### heaps -/
/-- all that was tracked is as it was -/
noncomputable def Same (H H' : Hp) : Prop := ∀ b o, H b = some o → H' b = some o
theorem Same.refl (H : Hp) : Same H H := fun _ _ h => h
theorem Same.trans {H H1 H2 : Hp} (a : Same H H1) (b : Same H1 H2) : Same H H2 := fun c o h => b c o (a c o h)
theorem Same.free {H H' : Hp} (e : Same H H') {l : Addr} (h : H' l = Option.none) : H l = Option.none := by
  cases q : H l with
  | none => rfl
  | some o =>
    rw [e l o q] at h
    cases h
theorem Same.seq {K : PySem.W.Frag} {H H' : Hp} {a : Addr} {xs : List V} (e : Same H H') (h : SqL K H a xs) : SqL K H' a xs := by
  rcases h with (h | ⟨o, h⟩) | h
  · exact .inl (.inl (e _ _ h))
  · exact .inl (.inr ⟨o, e _ _ h⟩)
  · exact .inr h

end L2

namespace L2
open PySem PySem.Spec PyProof.Rows

/-! ### a list comprehension: its block -/
noncomputable def closOf (names : List (Str × NameKind)) (cells : List (Str × Addr)) : List (Str × Addr) → List (Str × Addr) :=
  fun acc => names.foldl (fun a y => if y.2 == NameKind.free then (match cells.lookup y.1 with | some c => (y.1, c) :: a | none => a) else a) acc

theorem clos_forIn (env : Env) : ∀ (names : List (Str × NameKind)) (acc : List (Str × Addr)), (∀ y ∈ names, y.2 = .free → ∃ c, env.cells.lookup y.1 = some c) →
    (forIn names acc fun (x : Str × NameKind) (r : List (Str × Addr)) => (match x with
      | (name, kind) => if (kind == NameKind.free) = true then (do let c ← cellOf env name; pure (ForInStep.yield ((name, c) :: r))) else pure (ForInStep.yield r) : Sem (ForInStep (List (Str × Addr))))) = (pure (closOf names env.cells acc) : Sem _)
  | [], acc, _ => rfl
  | (n, k) :: r, acc, h => by
    have ih := fun a => clos_forIn env r a fun y hy => h y (List.mem_cons_of_mem _ hy)
    rw [List.forIn_cons]
    by_cases hk : (k == NameKind.free) = true
    · obtain ⟨c, hc⟩ := h (n, k) List.mem_cons_self (by simpa using hk)
      have e1 : cellOf env n = pure c := by unfold cellOf; simp only at hc; rw [hc]
      simp only [hk, if_true, e1]
      have e2 : closOf ((n, k) :: r) env.cells acc = closOf r env.cells ((n, c) :: acc) := by
        unfold closOf; rw [List.foldl_cons]; simp only [hk, if_true]; simp only at hc; rw [hc]
      rw [e2, ← ih]; rfl
    · have e2 : closOf ((n, k) :: r) env.cells acc = closOf r env.cells acc := by
        unfold closOf; rw [List.foldl_cons]; simp only [hk]; rfl
      simp only [hk]
      rw [e2, ← ih]; rfl

theorem closure_eq {scope : Scope} {env : Env} (h : ∀ y ∈ scope.names, y.2 = .free → ∃ c, env.cells.lookup y.1 = some c) : closureFor scope env = pure (closOf scope.names env.cells []) := by
  unfold closureFor
  have e := clos_forIn env scope.names [] h
  first
    | (rw [e]; rfl)
    | (simp only [e]; rfl)
    | (show (forIn _ _ _ >>= _) = _; erw [e]; rfl)

theorem closOf_mem {cells : List (Str × Addr)} : ∀ (names : List (Str × NameKind)) (acc : List (Str × Addr)) {p : Str × Addr}, p ∈ closOf names cells acc → p ∈ acc ∨ (cells.lookup p.1 = some p.2 ∧ (p.1, NameKind.free) ∈ names)
  | [], _, _, h => .inl h
  | (n, k) :: r, acc, p, h => by
    unfold closOf at h
    rw [List.foldl_cons] at h
    by_cases hk : (k == NameKind.free) = true
    · simp only [hk, if_true] at h
      have hk' : k = .free := by simpa using hk
      cases hc : cells.lookup n with
      | none =>
        rw [hc] at h
        rcases closOf_mem r acc h with z | ⟨z, z'⟩
        · exact .inl z
        · exact .inr ⟨z, List.mem_cons_of_mem _ z'⟩
      | some c =>
        rw [hc] at h
        rcases closOf_mem r ((n, c) :: acc) h with z | ⟨z, z'⟩
        · rcases List.mem_cons.mp z with z | z
          · subst z; exact .inr ⟨hc, by rw [hk']; exact List.mem_cons_self⟩
          · exact .inl z
        · exact .inr ⟨z, List.mem_cons_of_mem _ z'⟩
    · simp only [hk] at h
      rcases closOf_mem r acc h with z | ⟨z, z'⟩
      · exact .inl z
      · exact .inr ⟨z, List.mem_cons_of_mem _ z'⟩
theorem closOf_keep {cells : List (Str × Addr)} : ∀ (names : List (Str × NameKind)) (acc : List (Str × Addr)) {p : Str × Addr}, p ∈ acc → p ∈ closOf names cells acc
  | [], _, _, h => h
  | (n, k) :: r, acc, p, h => by
    unfold closOf
    rw [List.foldl_cons]
    by_cases hk : (k == NameKind.free) = true
    · simp only [hk, if_true]
      cases hc : cells.lookup n with
      | none => exact closOf_keep r acc h
      | some c => exact closOf_keep r ((n, c) :: acc) (List.mem_cons_of_mem _ h)
    · simp only [hk]; exact closOf_keep r acc h
theorem closOf_has {cells : List (Str × Addr)} : ∀ (names : List (Str × NameKind)) (acc : List (Str × Addr)) {y : Str} {c : Addr}, (y, NameKind.free) ∈ names → cells.lookup y = some c → (y, c) ∈ closOf names cells acc
  | (n, k) :: r, acc, y, c, h, hc => by
    unfold closOf
    rw [List.foldl_cons]
    rcases List.mem_cons.mp h with z | z
    · cases z
      simp only [beq_self_eq_true, if_true, hc]
      exact closOf_keep r _ List.mem_cons_self
    · by_cases hk : (k == NameKind.free) = true
      · simp only [hk, if_true]
        cases hn : cells.lookup n with
        | none => exact closOf_has r acc z hc
        | some d => exact closOf_has r _ z hc
      · simp only [hk]; exact closOf_has r acc z hc
theorem mem_of_lookup' {α : Type} : ∀ {l : List (Str × α)} {x : Str} {c : α}, l.lookup x = some c → (x, c) ∈ l
  | [], _, _, h => by simp at h
  | (n, d) :: r, x, c, h => by
    rw [List.lookup_cons] at h
    cases hx : x == n with
    | true =>
      rw [hx] at h
      have e : x = n := by simpa using hx
      have e2 : d = c := by simpa using h
      rw [e, e2]; exact List.mem_cons_self
    | false => rw [hx] at h; exact List.mem_cons_of_mem _ (mem_of_lookup' h)
theorem lookup_of_mem' {α : Type} : ∀ {l : List (Str × α)} {x : Str} {c : α}, (x, c) ∈ l → ∃ d, l.lookup x = some d
  | (n, d) :: r, x, c, h => by
    rw [List.lookup_cons]
    cases hx : x == n with
    | true => exact ⟨d, rfl⟩
    | false =>
      rcases List.mem_cons.mp h with z | z
      · have : x = n := congrArg Prod.fst z
        rw [this] at hx; simp at hx
      · exact lookup_of_mem' z

theorem relabel_kind {env : Env} : ∀ {names : List (Str × NameKind)} {x : Str} {k : NameKind}, (∀ y ∈ names, y.2 ≠ .cell) →
    (names.map fun (n, k) => if (k == NameKind.free && env.scope.kind == .function && env.kindOf n == some .cell) then (n, NameKind.cell) else (n, k)).lookup x = some k →
    names.lookup x = some k ∨ (names.lookup x = some .free ∧ k = .cell)
  | [], _, _, _, h => by simp at h
  | (n, k') :: r, x, k, hc, h => by
    have ih := @relabel_kind env r x k fun y hy => hc y (List.mem_cons_of_mem _ hy)
    rw [List.map_cons] at h
    by_cases hcnd : (k' == NameKind.free && env.scope.kind == .function && env.kindOf n == some .cell) = true
    · simp only [hcnd, if_true] at h
      rw [List.lookup_cons] at h ⊢
      cases hx : x == n with
      | true =>
        rw [hx] at h
        have hk' : k' = .free := by
          have := (Bool.and_eq_true_iff.mp (Bool.and_eq_true_iff.mp hcnd).1).1
          simpa using this
        have : NameKind.cell = k := by simpa using h
        exact .inr ⟨by rw [hk'], this.symm⟩
      | false => rw [hx] at h; exact ih h
    · simp only [hcnd] at h
      rw [show (if false = true then (n, NameKind.cell) else (n, k')) = (n, k') from rfl] at h
      rw [List.lookup_cons] at h ⊢
      cases hx : x == n with
      | true => rw [hx] at h; exact .inl h
      | false => rw [hx] at h; exact ih h

/-- what a comprehension's scope must be like: its own name x, the names that it takes from around -/
structure CScope (N N' : List Str) (x : Str) (sc osc : Scope) : Prop where
  kind : sc.kind = .function
  nocell : ∀ y ∈ sc.names, y.2 ≠ .cell
  own : ∀ y ∈ sc.names, y.2 = .local → y.1 = x ∨ y.1 = ".0"
  has : sc.names.lookup x = some .local
  names : ∀ y ∈ sc.names, y.2 = .local → sc.names.lookup y.1 = some .local
  nox : x ∉ N'
  no0 : (".0" : Str) ∉ N'
  nd : N'.Nodup
  len : N'.length = N.length
  sub : ∀ p ∈ N.zip N', p.1 = p.2 ∨ sc.names.lookup p.2 = none
  free : ∀ y ∈ sc.names, y.2 = .free → osc.names.lookup y.1 = some .cell ∨ osc.names.lookup y.1 = some .free
/-- .. looked at by program -/
noncomputable def csOk (N N' : List Str) (x : Str) (sc osc : Scope) : Bool :=
  decide (sc.kind = .function) && decide (∀ y ∈ sc.names, y.2 ≠ .cell) && decide (∀ y ∈ sc.names, y.2 = .local → y.1 = x ∨ y.1 = ".0") && decide (sc.names.lookup x = some .local) &&
    decide (∀ y ∈ sc.names, y.2 = .local → sc.names.lookup y.1 = some .local) && decide (x ∉ N') && decide ((".0" : Str) ∉ N') && decide N'.Nodup && decide (N'.length = N.length) && decide (∀ p ∈ N.zip N', p.1 = p.2 ∨ sc.names.lookup p.2 = none) && decide (∀ y ∈ sc.names, y.2 = .free → osc.names.lookup y.1 = some .cell ∨ osc.names.lookup y.1 = some .free)
/-- .. where names around may be hidden by the comprehension's own -/
theorem csH {N N' : List Str} {x : Str} {sc osc : Scope} (h : csOk N N' x sc osc = true) : CScope N N' x sc osc := by
  unfold csOk at h
  simp only [Bool.and_eq_true, decide_eq_true_eq] at h
  obtain ⟨⟨⟨⟨⟨⟨⟨⟨⟨⟨h1, h2⟩, h3⟩, h4⟩, h5⟩, h6⟩, h7⟩, h9⟩, h10⟩, h11⟩, h8⟩ := h
  exact ⟨h1, h2, h3, h4, h5, h6, h7, h9, h10, h11, h8⟩
theorem cs {N : List Str} {x : Str} {sc osc : Scope} (h : csOk N N x sc osc = true) : CScope N N x sc osc := csH h

noncomputable def blk (X : Cx) (N' : List Str) (x : Str) (sc : Scope) (C : Addr) (s2 : Shared) (H2 : Hp) (fp : List Addr) : Cx :=
  { X with N := x :: N', s₀ := s2, H₀ := H2, env := compEnvC sc (closOf sc.names X.env.cells []) C X.env, outer := X.stack, stack := X.stack, ex := fp, fn := fun _ => false, pn := [], xe := fun _ _ => False }

section
variable {X : Cx} {pins : List (Addr × Obj)} {σ : St} {H H2 : Hp} {s s2 : Shared} {x : Str} {sc : Scope} {C : Addr} {fp : List Addr} {N' : List Str}

theorem blk_cells (S : CScope X.N N' x sc X.env.scope) {y : Str} {c : Addr} (h : (closOf sc.names X.env.cells []).lookup y = some c) : X.env.cells.lookup y = some c ∧ (y, NameKind.free) ∈ sc.names := by
  rcases closOf_mem _ _ (mem_of_lookup' h) with z | z
  · simp at z
  · exact z

theorem blk_ok (I : Inv X pins σ H2 s2) (S : CScope X.N N' x sc X.env.scope) (hC : s2.heap.objs.size ≤ C) (hf : ∀ b ∈ fp, FpOk X pins H2 b) (hfo : ∀ b ∈ fp, ∃ o, s2.heap.get? b = some o ∧ ∀ v, o.data ≠ .cell v) : (blk X N' x sc C s2 H2 fp).Ok where
  mod := I.ok.mod
  kind := S.kind
  glob := I.ok.glob
  blt := I.ok.blt
  above := hC
  inj := fun y z c h1 h2 => I.ok.inj y z c (blk_cells S h1).1 (blk_cells S h2).1
  has := fun y h => by
    have key : ∀ k, (relabel sc X.env).names.lookup y = some k → (k = .cell ∨ k = .free) → ∃ c, (closOf sc.names X.env.cells []).lookup y = some c := fun k hk hkk => by
      have hfree : sc.names.lookup y = some .free := by
        rcases relabel_kind (env := X.env) S.nocell hk with z | ⟨z, _⟩
        · rcases hkk with e | e
          · rw [e] at z; exact absurd rfl (S.nocell _ (mem_of_lookup' z))
          · rw [e] at z; exact z
        · exact z
      have hm := mem_of_lookup' hfree
      obtain ⟨c, hc⟩ := I.ok.has y (S.free _ hm rfl)
      exact lookup_of_mem' (closOf_has sc.names [] hm hc)
    rcases h with h | h
    · exact key _ h (.inl rfl)
    · exact key _ h (.inr rfl)
  cab := fun y c h => by cases h
  hd := fun h => I.ok.hd h
  frames := I.ok.frames
  stk := .inl rfl
  exf := fun b hb => by
    obtain ⟨o, ho, hd⟩ := hfo b hb
    refine ⟨Nat.ne_of_lt (Nat.lt_of_lt_of_le (Heap.lt_size ho) hC), fun y c h => (hf b hb).2.2.2.2.1 y c (blk_cells S h).1⟩
  bs := I.bs
  bsz := Nat.le_trans I.ok.bsz I.sz
  noex := fun b o h hb => by
    have h1 := (hf b hb).2.2.2.1
    rcases h1 with z | z
    · exact I.ok.noex b o h z
    · exact absurd (Nat.lt_of_lt_of_le (Heap.lt_size h) (Nat.le_trans I.ok.bsz z)) (Nat.lt_irrefl _)
  exfs := fun b hb h => by
    rcases List.mem_cons.mp (I.stkSub b h) with e | z
    · exact (hf b hb).2.1 e
    · exact (hf b hb).2.2.1 z
  funs := I.stack
  frf := I.stkFree

theorem blk_start {h4 : Heap} {t4 : Nat} (I : Inv X pins σ H2 s2) (S : CScope X.N N' x sc X.env.scope) (hf : ∀ b ∈ fp, FpOk X pins H2 b) (hfo : ∀ b ∈ fp, ∃ o, s2.heap.get? b = some o ∧ ∀ v, o.data ≠ .cell v)
    (hC : s2.heap.objs.size ≤ C) (hn : h4.Ns C fun _ => none) (hk : ∀ b o, s2.heap.get? b = some o → h4.get? b = some o) {q : List (Addr × Obj)} (hq : ∀ p ∈ q, h4.get? p.1 = some p.2 ∧ H2 p.1 = none ∧ p.1 ≠ C ∧ p.1 ∉ frs X.stack ∧ ∀ v, p.2.data ≠ .cell v) :
    Inv (blk X N' x sc C s2 H2 fp) q (none :: σ) H2 { s2 with heap := h4, toks := t4 } where
  ok := blk_ok I S hC hf hfo
  os := rfl
  bare := I.bare
  base := Un.kept hk
  loc := by
    refine ⟨fun _ => none, hn, fun i y v e1 e2 e3 => ?_⟩
    cases i with
    | zero => simp at e2
    | succ i =>
      have e0' : N'[i]? = some y := by simpa [blk] using e1
      have e2' : σ[i]? = some (some v) := by simpa using e2
      have hm : y ∈ N' := List.mem_of_getElem? e0'
      have e1' : X.N[i]? = some y := by
        have hi : i < X.N.length := by rw [← S.len]; exact (List.getElem?_eq_some_iff.mp e0').1
        have hz : (X.N[i], y) ∈ X.N.zip N' := by
          refine List.mem_of_getElem? (i := i) ?_
          rw [List.getElem?_zip_eq_some]
          exact ⟨List.getElem?_eq_getElem hi, e0'⟩
        rcases S.sub _ hz with z | z
        · rw [List.getElem?_eq_getElem hi]; exact congrArg some z
        · exfalso
          have no : ∀ k, (relabel sc X.env).names.lookup y ≠ some k := fun k hk => by
            rcases relabel_kind (env := X.env) S.nocell hk with w | ⟨w, _⟩
            · rw [show sc.names.lookup y = none from z] at w; cases w
            · rw [show sc.names.lookup y = none from z] at w; cases w
          rcases e3 with w | w | w
          · exact no _ w
          · exact no _ w
          · exact no _ w
      have hfree : sc.names.lookup y = some .free := by
        have case : ∀ k, (relabel sc X.env).names.lookup y = some k → (k = .local ∨ k = .cell ∨ k = .free) → sc.names.lookup y = some .free := fun k hk hkk => by
          rcases relabel_kind (env := X.env) S.nocell hk with z | ⟨z, _⟩
          · rcases hkk with e | e | e
            · rw [e] at z
              rcases S.own _ (mem_of_lookup' z) rfl with w | w
              · exact absurd (w ▸ hm) S.nox
              · exact absurd (w ▸ hm) S.no0
            · rw [e] at z; exact absurd rfl (S.nocell _ (mem_of_lookup' z))
            · rw [e] at z; exact z
          · exact z
        rcases e3 with z | z | z
        · exact case _ z (.inl rfl)
        · exact case _ z (.inr (.inl rfl))
        · exact case _ z (.inr (.inr rfl))
      have hmem := mem_of_lookup' hfree
      have kd : X.env.kindOf y = some .cell ∨ X.env.kindOf y = some .free := S.free _ hmem rfl
      obtain ⟨m, hnm, hl⟩ := I.loc
      obtain ⟨u, r, lk⟩ := hl i y v e1' e2' (by rcases kd with z | z; exact .inr (.inl z); exact .inr (.inr z))
      obtain ⟨c, hc, hcell⟩ : ∃ c, X.env.cells.lookup y = some c ∧ s2.heap.IsCell c (some u) := by
        rcases lk with ⟨z, _⟩ | ⟨_, z⟩
        · rcases kd with w | w
          · rw [w] at z; cases z
          · rw [w] at z; cases z
        · exact z
      refine ⟨u, r, .inr ⟨?_, c, ?_, ?_⟩⟩
      · rcases e3 with z | z | z
        · exfalso
          rcases relabel_kind (env := X.env) S.nocell z with q | ⟨_, q⟩
          · rw [hfree] at q; cases q
          · cases q
        · exact .inl z
        · exact .inr z
      · obtain ⟨d, hd⟩ := lookup_of_mem' (closOf_has sc.names [] hmem hc)
        have := (blk_cells S hd).1
        rw [hc] at this; cases this
        exact hd
      · obtain ⟨o, ho, hd⟩ := hcell
        exact ⟨o, hk _ _ ho, hd⟩
  cell := fun y c e => by
    obtain ⟨v, o, ho, hd⟩ := I.cell y c (blk_cells S e).1
    exact ⟨v, o, hk _ _ ho, hd⟩
  free := I.hok.fresh hC
  freeC := fun y c e => I.freeC y c (blk_cells S e).1
  pin := fun p hp => by
    have hp' : p ∈ q := by simpa [blk] using hp
    exact hq p hp'
  hok := I.hok.kept hk
  len := by show (none :: σ).length = (x :: N').length; simp [I.len, S.len]
end
end L2

namespace L2
open PySem PySem.Spec PyProof.Rows

theorem compLoop_any {prog : Program} {w : World} {A : Around} {R : Result → Shared → Prop} {s : Shared} {elt target iter : Expr} {ifs : List Expr} {scope : Scope} {pos : Pos} {it acc : Value} {env : Env} (I : Nat → Shared → Prop)
    (turn : ∀ n s, I n s → wpAny (model prog w) A (pyNext it) (fun r s₁ => match r with
      | none => R (.ok .next) s₁
      | some v => wpAny (model prog w) A (letOwnedTupleGo target it v) (fun _ s₁' => wpAny (model prog w) A (assign target env v) (fun _ s₂ =>
          wpAny (model prog w) A (forIn ifs true fun c r => if r = true then do let ok ← isTrue c env (eval c env); pure (ForInStep.yield ok) else pure (ForInStep.yield r)) (fun ok s₃ =>
            if ok = true then wpAny (model prog w) A (eval elt env) (fun x s₄ =>
              wpAny (model prog w) A (call (.builtin "list.append") [acc, x]) (fun _ s₅ => ∃ m, m < n ∧ I m s₅) (fun _ _ => False) s₄) (fun _ _ => False) s₃
            else ∃ m, m < n ∧ I m s₃) (fun _ _ => False) s₂) (fun _ _ => False) s₁') (fun _ _ => False) s₁) (fun _ _ => False) s)
    (n : Nat) (h : I n s) :
    codeAny (model prog w) A (.compLoop (.ListComp elt [⟨target, iter, ifs, 0⟩] scope pos) 0 it acc env) R s := by
  refine codeAny_loop rfl I (fun n s hI => ?_) n h
  show wpAny _ A ((compTurn (.ListComp elt [⟨target, iter, ifs, 0⟩] scope pos) 0 it acc env).onRaise (fun x => do noteFrame x env; theTreesLotGoes x)) _ _ s
  refine wpAny_noted ?_
  rw [compTurn_list]
  refine wpAny_bind (wpAny_standAt (wpAny_bind (wpAny_mono (turn n s hI) (fun r s₁ h₁ => ?_) fun _ _ h' => h'.elim)))
  cases r with
  | none => exact wpAny_pure h₁
  | some v =>
    refine wpAny_bind (wpAny_mono h₁ (fun _ s₁' h₁' => ?_) fun _ _ h' => h'.elim)
    refine wpAny_bind (wpAny_mono h₁' (fun _ s₂ h₂ => wpAny_bind (wpAny_mono h₂ (fun ok s₃ h₃ => ?_) fun _ _ h' => h'.elim)) fun _ _ h' => h'.elim)
    cases ok with
    | false => exact wpAny_pure ⟨rfl, h₃⟩
    | true =>
      exact wpAny_bind (wpAny_bind (wpAny_mono h₃ (fun x s₄ h₄ => wpAny_bind (wpAny_mono h₄ (fun _ s₅ h₅ => wpAny_pure (wpAny_pure ⟨rfl, h₅⟩)) fun _ _ h' => h'.elim)) fun _ _ h' => h'.elim))

/-- the tests of a clause -/
noncomputable def PIfs (X : Cx) (ifs : List Expr) (t : TT) : Prop :=
  ∀ (pins : List (Addr × Obj)) (s : Shared) (σ : St) (H : Hp) (Q : Bool → Hp → Prop), Inv X pins σ H s → t σ H Q →
    wpAny (model X.prog X.w) X.A (forIn ifs true fun c r => if r = true then do let ok ← isTrue c X.env (eval c X.env); pure (ForInStep.yield ok) else pure (ForInStep.yield r)) (TP X pins σ Q) X.xe s
noncomputable def tYes : TT := fun _ H Q => Q true H
theorem pifs_nil {X : Cx} : PIfs X [] tYes := fun _ _ _ H _ I h => wpAny_tests_nil ⟨H, I, h⟩
theorem pifs_one {X : Cx} {c : Expr} {t : TT} (hc : PT X c t) : PIfs X [c] t := fun pins s σ H Q I h => wpAny_tests_one (hc pins s σ H Q I h)

theorem HOk.track {P : Program} {w : World} {H : Hp} {h : Heap} {a : Addr} {o : HO} (x : HOk P w H h) (hn : H a = none) (new : ObjOk P w (upd H a o) h a o) : HOk P w (upd H a o) h := fun b u e => by
  by_cases hb : b = a
  · subst hb; rw [upd_same] at e; cases e; exact new
  · rw [upd_ne hb] at e
    exact (x b u e).stay (fun c v _ q => q) (fun c q => by rw [upd_ne (ne_of_none q hn)]; exact q) fun c xs q => by rw [upd_ne (ne_of_none q hn)]; exact q
theorem Un.track {fs ex : List Addr} {H H1 : Hp} {h h1 : Heap} {a : Addr} {o : HO} (u : Un fs ex H H1 h h1) (hn : H1 a = none) (hf : h.get? a = none) : Un fs ex H (upd H1 a o) h h1 where
  keep := u.keep
  slot := u.slot
  free := fun b ob q n hx => by
    rw [upd_ne (by rintro rfl; rw [hf] at q; cases q)]
    exact u.free b ob q n hx
  there := u.there
  tups := fun b xs q => by have := u.tups b xs q; rw [upd_ne (ne_of_none this hn)]; exact this
  frzs := fun b ob y q => by have := u.frzs b ob y q; rw [upd_ne (ne_of_none this hn)]; exact this
  tbls := fun b ps q => by
    obtain ⟨m, e⟩ := u.tbls b ps q
    exact ⟨m, by rw [upd_ne (ne_of_none e hn)]; exact e⟩

/-- the reading of a comprehension: W by the turn, a measure, what is gathered so far, the heap. The clause's own name stands in slot 0, the names around it are one further -/
noncomputable def CompW (J : It) (tt : TT) (te : TE) (σ : St) (Q : VK) (W : Nat → Nat → List V → Hp → Prop) : Prop := ∀ i m ys H, W i m ys H →
  (J.stop i H ∧ ys.length ≤ sizeLine ∧ ∀ p, H p = none → Q (.ref p) (upd H p (.lst ys))) ∨
  (J.go i H ∧ ys.length < sizeLine ∧ ∀ x H', J.yld i H x H' → tt (some x :: σ) H' fun b H3 => if b = true then te (some x :: σ) H3 fun y H4 => ∃ m', m' < m ∧ W (i + 1) m' (ys ++ [y]) H4 else ∃ m', m' < m ∧ W (i + 1) m' ys H3)
noncomputable def tComp (wi : TI) (tt : TT) (te : TE) : TE := fun σ H Q => wi σ H fun J H1 => ∃ W : Nat → Nat → List V → Hp → Prop, (∃ m, W 0 m [] H1) ∧ CompW J tt te σ Q W


section
variable {X : Cx} {pins : List (Addr × Obj)} {σ : St} {x : Str} {sc : Scope} {N' : List Str}
theorem comp_core {s2 : Shared} {H2 : Hp} {elt iter : Expr} {ifs : List Expr} {px pos : Pos} {tt : TT} {te : TE} {Q : VK} {RR : Value → Addr → Result → Shared → Prop} {E : Value → Shared → Prop}
    (hc : X.calm = true) (hN : X.N.Nodup) (S : CScope X.N N' x sc X.env.scope)
    (ht : ∀ C s2 H2 fp, PIfs (blk X N' x sc C s2 H2 fp) ifs tt) (he : ∀ C s2 H2 fp, PE (blk X N' x sc C s2 H2 fp) elt te)
    (I2 : Inv X pins σ H2 s2) {it : Addr} {fp : List Addr} {tn : Nat → Heap → Prop} {J : It} (T : Turn X.prog X.w X.K (.Name x px) J fp it tn) (st2 : tn 0 s2.heap) (f2 : ∀ b ∈ fp, FpOk X pins H2 b)
    (W : Nat → Nat → List V → Hp → Prop) (w0 : ∃ m, W 0 m [] H2)
    (turn : CompW J tt te σ Q W)
    (hRR : ∀ D C s' H', Inv X pins σ H' s' → FpOk X pins H' C → (∃ m, s'.heap.Ns C m) → Q (.ref D) H' → RR (.ref D) C (.ok .next) s') :
    wpAny (model X.prog X.w) X.A (newList []) (fun acc s₃ => wpAny (model X.prog X.w) X.A (newFunctionEnv sc X.env.globals (closOf sc.names X.env.cells []) [] X.env.qual none .none (some X.env)) (fun cenv s₄ =>
      codeAny (model X.prog X.w) X.A (.compStart (.ListComp elt [⟨.Name x px, iter, ifs, 0⟩] sc pos) 0 (.ref it) acc { cenv with scope := relabel sc X.env }) (RR acc cenv.locals) s₄) E s₃) E s2 := by
  have hfo := T.obj _ _ st2
  refine wpAny_newObj_type (wpAny_newFunctionEnv S.nocell (by intro y hy; simp at hy) (fun h₁ hns₁ hsb₁ => ?_) S.kind)
  dsimp only at hns₁ hsb₁ ⊢
  generalize hHP : s2.heap.push { cls := .type "list", dict := none, data := .seq ([] : List Value).toArray } = HP at hns₁ hsb₁ ⊢
  have hC : HP.objs.size = s2.heap.objs.size + 1 := by rw [← hHP, Heap.size_push]
  have hDC : s2.heap.objs.size ≠ HP.objs.size := by rw [hC]; exact Nat.ne_of_lt (Nat.lt_succ_self _)
  have hCle : s2.heap.objs.size ≤ HP.objs.size := by rw [hC]; exact Nat.le_succ _
  have below : ∀ b, b < s2.heap.objs.size → b ≠ HP.objs.size ∧ b ≠ s2.heap.objs.size := fun b hb => ⟨by rw [hC]; exact Nat.ne_of_lt (Nat.lt_succ_of_lt hb), Nat.ne_of_lt hb⟩
  have old : ∀ b o, s2.heap.get? b = some o → h₁.get? b = some o := fun b o e => hsb₁.extBut b o (below b (Heap.lt_size e)).1 (Heap.get?_push_of_some _ (hHP ▸ Heap.get?_push_of_some _ e))
  have hacc : h₁.get? s2.heap.objs.size = some { cls := .type "list", dict := none, data := .seq ([] : List Value).toArray } := hsb₁.extBut _ _ hDC (Heap.get?_push_of_some _ (hHP ▸ Heap.get?_push_size _ rfl))
  have hDn : H2 s2.heap.objs.size = none := I2.hok.fresh (Nat.le_refl _)
  have hDfr : s2.heap.objs.size ∉ frs X.stack := fun hb => by
    obtain ⟨_, o, ho, _⟩ := I2.stack.mem hb
    exact absurd (Heap.lt_size ho) (Nat.lt_irrefl _)
  have hDfp : s2.heap.objs.size ∉ fp := fun hb => by
    obtain ⟨o, ho, _⟩ := hfo _ hb
    exact absurd (Heap.lt_size ho) (Nat.lt_irrefl _)
  have hCfp : HP.objs.size ∉ fp := fun hb => by
    obtain ⟨o, ho, _⟩ := hfo _ hb
    exact absurd (Nat.lt_of_lt_of_le (Heap.lt_size ho) hCle) (Nat.lt_irrefl _)
  obtain ⟨m0, w0⟩ := w0
  -- the iterator's own objects, within the block
  have stat : ∀ {H' : Hp} {o : Obj}, (∀ b ∈ fp, H' b = none) → ∀ b ∈ fp, FpOk (blk X N' x sc HP.objs.size s2 H2 fp) [(s2.heap.objs.size, o)] H' b := fun {H' o} hn b hb => by
    obtain ⟨f0, f1, f2', f3, f4, f5⟩ := f2 b hb
    refine ⟨hn b hb, fun e => hCfp (by rw [← show b = HP.objs.size from e]; exact hb), fun z => ?_, .inl hb, fun y c e => f4 y c (blk_cells S e).1, fun p hp => ?_⟩
    · rcases List.mem_cons.mp (I2.stkSub b z) with e | z
      · exact f1 e
      · exact f2' z
    · have : p = (s2.heap.objs.size, o) := by simpa [blk] using hp
      subst this
      rintro rfl
      exact hDfp hb
  -- the invariant
  let Iv : Nat → Shared → Prop := fun n s' => ∃ i ys its k σx H', Inv (blk X N' x sc HP.objs.size s2 H2 fp) [(s2.heap.objs.size, { cls := .type "list", data := .seq (List.toArray its) k })] (σx :: σ) H' s' ∧
    Vals ys its ∧ tn i s'.heap ∧ (∀ b ∈ fp, H' b = none) ∧ W i n ys H'
  have I4 : Inv (blk X N' x sc HP.objs.size s2 H2 fp) [(s2.heap.objs.size, { cls := .type "list", data := .seq (List.toArray []) 0 })] (none :: σ) H2 { s2 with heap := h₁, toks := s2.toks + ([] : List (Str × Value)).length } := by
    refine blk_start I2 S f2 hfo hCle (by simpa using hns₁) old fun p hp => ?_
    have e : p = (s2.heap.objs.size, { cls := .type "list", data := .seq (List.toArray []) 0 }) := by simpa using hp
    subst e
    exact ⟨hacc, hDn, hDC, hDfr, fun v => by intro z; cases z⟩
  have loop : ∀ s₃ : Shared, s₃ = { s2 with heap := h₁, toks := s2.toks + ([] : List (Str × Value)).length } →
      codeAny (model X.prog X.w) X.A (.compLoop (.ListComp elt [⟨.Name x px, iter, ifs, 0⟩] sc pos) 0 (.ref it) (.ref s2.heap.objs.size) (compEnvC sc (closOf sc.names X.env.cells []) HP.objs.size X.env))
        (RR (.ref s2.heap.objs.size) HP.objs.size) s₃ := by
    rintro s₃ rfl
    refine compLoop_any Iv ?_ m0 ⟨0, [], [], 0, none, H2, I4, .nil, T.keep _ _ _ st2 fun b _ o e => old b o e, fun b hb => (f2 b hb).1, w0⟩
    rintro n s3 ⟨i, ys, its, k, σx, H3, I3, rv, st3, fr3, w3⟩
    have hy := rv.length
    rcases turn i n ys H3 w3 with ⟨stop, hz, q⟩ | ⟨go, hz, step⟩
    · refine thn (T.done (blk X N' x sc HP.objs.size s2 H2 fp) rfl rfl rfl hc i _ s3 _ H3 _ I3 (stat fr3) st3 stop) fun r s4 ⟨hr, I4⟩ => ?_
      subst hr
      -- the end: the list is tracked
      have pD := I4.pin (s2.heap.objs.size, { cls := .type "list", data := .seq (List.toArray its) k }) (by simp [blk])
      have new : ObjOk X.prog X.w (upd H3 s2.heap.objs.size (.lst ys)) s4.heap s2.heap.objs.size (.lst ys) := ⟨hz, its, k, rv, pD.1⟩
      have hok' := I4.hok.track (o := .lst ys) pD.2.1 new
      have un' : Un (frs X.stack) fp H2 (upd H3 s2.heap.objs.size (.lst ys)) s2.heap s4.heap := I4.base.track pD.2.1 (Heap.get?_none_of_le (Nat.le_refl _))
      have IX : Inv X pins σ (upd H3 s2.heap.objs.size (.lst ys)) s4 := I2.call' I4.os un' hok' I4.bare fun b hb => ⟨(f2 b hb).2.2.2.1, (f2 b hb).2.1, (f2 b hb).2.2.2.2.1, (f2 b hb).2.2.2.2.2⟩
      obtain ⟨m, hnm, _⟩ := I4.loc
      refine hRR _ _ s4 _ IX ?_ ⟨m, hnm⟩ (q _ pD.2.1)
      exact I2.fpOk hCle (by rw [upd_ne (Ne.symm hDC)]; exact I4.free)
    · refine thn (T.item (blk X N' x sc HP.objs.size s2 H2 fp) rfl rfl rfl hc i _ s3 _ H3 _ I3 (stat fr3) st3 go) fun r s4 ⟨u, hr, h4⟩ => ?_
      subst hr
      refine thn h4 fun _ s5 ⟨y, H5, I5, r5, y5, st5, fr5⟩ => ?_
      have I5' := I5.pinned (stat fr5) (T.obj _ _ st5)
      have stepq := step y H5 y5
      have I5'' : Inv (blk X N' x sc HP.objs.size s2 H2 fp) ([(s2.heap.objs.size, { cls := .type "list", data := .seq (List.toArray its) k })] ++ pinsAt fp s5.heap) (none :: σ) H5 s5 := I5'.weak rfl fun j v e => by
        cases j with
        | zero => simp at e
        | succ j => simpa using e
      have lx : (relabel sc X.env).names.lookup x = some .local := lookup_relabel_local S.has
      have hgx : PG (blk X N' x sc HP.objs.size s2 H2 fp) (.Name x px) (gName 0) := pg_name (i := 0) (List.nodup_cons.mpr ⟨S.nox, S.nd⟩) rfl (Or.inl lx) (Or.inr lx)
      refine thn (hgx _ s5 (none :: σ) H5 y u (fun σ6 H6 => σ6 = some y :: σ ∧ tt (some y :: σ) H6 fun b H3 => if b = true then te (some y :: σ) H3 fun y H4 => ∃ m', m' < n ∧ W (i + 1) m' (ys ++ [y]) H4 else ∃ m', m' < n ∧ W (i + 1) m' ys H3) I5'' r5 ⟨rfl, stepq⟩) fun _ s6 ⟨σ6, H6, I6, e6, q6⟩ => ?_
      subst e6
      refine thn (ht _ s2 H2 fp _ s6 _ H6 _ I6 q6) fun b s7 ⟨H7, I7, q7⟩ => ?_
      -- what stands behind the turn
      have pinof : ∀ {H8 : Hp} {s8 : Shared}, Inv (blk X N' x sc HP.objs.size s2 H2 fp) ([(s2.heap.objs.size, { cls := .type "list", data := .seq (List.toArray its) k })] ++ pinsAt fp s5.heap) (some y :: σ) H8 s8 →
          tn (i + 1) s8.heap ∧ (∀ b ∈ fp, H8 b = none) := fun {H8 s8} I8 => by
        refine ⟨T.keep _ _ _ st5 fun b hb o e => (I8.pin (b, o) (List.mem_append_right _ (List.mem_append_right _ (mem_pinsAt hb e)))).1, fun b hb => ?_⟩
        obtain ⟨o, e, d⟩ := T.obj _ _ st5 b hb
        exact (I8.pin (b, o) (List.mem_append_right _ (List.mem_append_right _ (mem_pinsAt hb e)))).2.1
      cases b with
      | false =>
        obtain ⟨m', hm, w7⟩ := q7
        obtain ⟨t7, f7⟩ := pinof I7
        exact ⟨m', hm, i + 1, ys, its, k, some y, H7, I7.unpinned, rv, t7, f7, w7⟩
      | true =>
        refine thn (he _ s2 H2 fp _ s7 _ H7 _ I7 q7) fun z s8 ⟨yv, H8, I8, r8, m', hm, w8⟩ => ?_
        obtain ⟨t8, f8⟩ := pinof I8
        have pD := I8.pin (s2.heap.objs.size, { cls := .type "list", data := .seq (List.toArray its) k }) (by simp [blk])
        refine call_meets F.slot_list_append ⟨_, pD.1, rfl⟩ F.entry_list_append (F.args_list_append_2 _ _) (PySem.list_append s2.heap.objs.size its.toArray k z (by rw [List.size_toArray]; omega)) ⟨pD.1, ?_⟩
        have e9 := PySem.IsL.update pD.1 (fun a => a.push z)
        rw [show its.toArray.push z = (its ++ [z]).toArray by simp] at e9
        obtain ⟨k', e9⟩ : ∃ k', (s8.heap.update s2.heap.objs.size (Obj.mapSeq fun a => a.push z)).get? s2.heap.objs.size = some { cls := .type "list", data := .seq (its ++ [z]).toArray k' } := ⟨_, e9⟩
        have other : ∀ b, b ≠ s2.heap.objs.size → (s8.heap.update s2.heap.objs.size (Obj.mapSeq fun a => a.push z)).get? b = s8.heap.get? b := fun b hb => Heap.get?_update_other _ _ (Ne.symm hb)
        have I8' : Inv (blk X N' x sc HP.objs.size s2 H2 fp) [] (some y :: σ) H8 s8 := I8.pins_of fun p hp => nomatch hp
        have I9 : Inv (blk X N' x sc HP.objs.size s2 H2 fp) [] (some y :: σ) H8 { s8 with heap := s8.heap.update s2.heap.objs.size (Obj.mapSeq fun a => a.push z) } := by
          refine I8'.turned (it := s2.heap.objs.size) (fun b o hb e => (other b hb).trans e) pD.2.1 hDC (.inr (Nat.le_refl _)) (fun y c e => ?_) fun p hp => ?_
          · intro hcc
            obtain ⟨v, o, ho, _⟩ := I2.cell y c (blk_cells S e).1
            exact absurd (Heap.lt_size ho) (by rw [hcc]; exact Nat.lt_irrefl _)
          · simp [blk] at hp
        have I10 : Inv (blk X N' x sc HP.objs.size s2 H2 fp) [(s2.heap.objs.size, { cls := .type "list", data := .seq (List.toArray (its ++ [z])) k' })] (some y :: σ) H8 { s8 with heap := s8.heap.update s2.heap.objs.size (Obj.mapSeq fun a => a.push z) } := I9.pins_of fun p hp => by
          have e := List.mem_singleton.mp hp
          subst e
          exact ⟨e9, pD.2.1, hDC, hDfr, fun v => by intro z; cases z⟩
        have t9 : tn (i + 1) (s8.heap.update s2.heap.objs.size (Obj.mapSeq fun a => a.push z)) := T.keep _ _ _ t8 fun b hb o e => by
          rw [other b (by rintro rfl; exact hDfp hb)]; exact e
        exact ⟨m', hm, i + 1, ys ++ [yv], its ++ [z], k', some y, H8, I10, rv.append (.cons r8 .nil), t9, f8, w8⟩
  exact codeAny_compStart_list (loop _ rfl) (T.self X.A 0 _ _ _ (T.keep _ _ _ st2 fun b _ o e => old b o e) (loop _ rfl))


/-- [e for x in it if c], as a value -/
theorem pe_comp {iter elt : Expr} {ifs : List Expr} {px pos : Pos} {wi : TI} {tt : TT} {te : TE} (hc : X.calm = true) (hN : X.N.Nodup) (S : CScope X.N N' x sc X.env.scope) (hi : PI X (.Name x px) iter wi)
    (ht : ∀ C s2 H2 fp, PIfs (blk X N' x sc C s2 H2 fp) ifs tt) (he : ∀ C s2 H2 fp, PE (blk X N' x sc C s2 H2 fp) elt te) (hs : ∀ v, foldedSetIterable iter X.env v = pure v := by intro _; rfl) :
    PE X (.ListComp elt [⟨.Name x px, iter, ifs, 0⟩] sc pos) (tComp wi tt te) := by
  intro pins s σ H Q I h
  have hclos : closureFor sc X.env = pure (closOf sc.names X.env.cells []) := closure_eq fun y hy hk => I.ok.has _ (S.free y hy hk)
  rw [eval_ListComp]
  refine wpAny_comprehension_free (use := none) rfl hs hclos S.kind S.names (thn (hi pins s σ H _ I h) fun v s1 h1 => thn h1 fun itv s2 h2 => ?_)
  obtain ⟨it, fp, tn, J, H2, e, I2, T, st2, f2, W, w0, turn⟩ := h2
  subst e
  refine comp_core (RR := fun acc C => compPost (model X.prog X.w) X.A X.xe none (EP X pins σ Q) acc C) hc hN S ht he I2 T st2 f2 W w0 turn fun D C s' H' I' fC hn q => ?_
  obtain ⟨m, hn⟩ := hn
  refine ⟨m, hn, fun h' hs' => ⟨.ref D, H', ?_, rfl, q⟩⟩
  exact I'.turned (t' := s'.toks) (fun b o hb e => (hs'.2 b hb).trans e) fC.1 fC.2.1 fC.2.2.2.1 fC.2.2.2.2.1 fC.2.2.2.2.2

/-- y = [e for x in it if c] -/
theorem ps_setC {i : Nat} {y : Str} {py spos : Pos} {iter elt : Expr} {ifs : List Expr} {px pos : Pos} {wi : TI} {tt : TT} {te : TE} (hc : X.calm = true) (hN : X.N.Nodup) (hyi : X.N[i]? = some y) (hy : X.env.scope.names.lookup y = some .local)
    (S : CScope X.N N' x sc X.env.scope) (hi : PI X (.Name x px) iter wi)
    (ht : ∀ C s2 H2 fp, PIfs (blk X N' x sc C s2 H2 fp) ifs tt) (he : ∀ C s2 H2 fp, PE (blk X N' x sc C s2 H2 fp) elt te) (hs : ∀ v, foldedSetIterable iter X.env v = pure v := by intro _; rfl)
    (hsw : swapsWith (.ListComp elt [⟨.Name x px, iter, ifs, 0⟩] sc pos) (some (.Name y py)) spos.line X.env = pure true := by rfl) :
    PS X (.Assign [.Name y py] (.ListComp elt [⟨.Name x px, iter, ifs, 0⟩] sc pos) spos) (tAsg (tComp wi tt te) (gName i)) := by
  intro pins s σ H D I h
  have hclos : closureFor sc X.env = pure (closOf sc.names X.env.cells []) := closure_eq fun y hy hk => I.ok.has _ (S.free y hy hk)
  rw [exec_Assign_Name_used _ _ _ _ hsw]
  refine wpAny_bind (wpAny_standAt (wpAny_bind ?_))
  show wpAny _ X.A (do let _ ← comprehension (.ListComp elt [⟨.Name x px, iter, ifs, 0⟩] sc pos) sc X.env _ (newList []) false (eval iter X.env) (some (assign (.Name y py) X.env))) _ _ s
  refine wpAny_bind (wpAny_mono (wpAny_comprehension_free (use := some (assign (.Name y py) X.env)) (Q := fun _ s' => SP X pins D .next s') rfl hs hclos S.kind S.names
    (thn (hi pins s σ H _ I h) fun v s1 h1 => thn h1 fun itv s2 h2 => ?_)) (fun _ s' hq => wpAny_pure (wpAny_pure hq)) fun _ _ e => e)
  obtain ⟨it, fp, tn, J, H2, e, I2, T, st2, f2, W, w0, turn⟩ := h2
  subst e
  refine comp_core (RR := fun acc C => compPost (model X.prog X.w) X.A X.xe (some (assign (.Name y py) X.env)) (fun _ s' => SP X pins D .next s') acc C) hc hN S ht he I2 T st2 f2 W w0 turn fun Da C s' H' I' fC hn q => ?_
  obtain ⟨m, hn⟩ := hn
  show wpAny _ X.A (assign (.Name y py) X.env (.ref Da)) _ _ _
  refine wpAny_assign_Name (store_ok2 I' hN hyi (Or.inl hy) (v := .ref Da) rfl (fun s'' I'' ⟨a, hsb, ha⟩ => ?_) (Or.inr hy))
  have hCa : C ≠ a := by
    rintro rfl
    rcases ha with z | z
    · exact fC.2.1 z
    · exact fC.2.2.2.2.1 _ _ z rfl
  refine ⟨m, hn.sameBut hsb hCa, fun h' hs' => ⟨_, H', ?_, q⟩⟩
  exact I''.turned (t' := s''.toks) (fun b o hb e => (hs'.2 b hb).trans e) fC.1 fC.2.1 fC.2.2.2.1 fC.2.2.2.2.1 fC.2.2.2.2.2
end
end L2

namespace L2
open PySem PySem.Spec PyProof.Rows

/-! ### exceptions -/
/-- what a change of the fields leaves -/
theorem dict_mf (o : Obj) (f : Array Value → Array Value) : (o.mapFields f).dict = o.dict := by unfold Obj.mapFields; split <;> rfl
/-- an exception's object in flight: young, untracked, apart; its traceback is none yet, or rests -/
noncomputable def XObj (ap : Addr → Prop) (H : Hp) (h : Heap) (e : Addr) (cls : Value) (od : Option Addr) : Prop :=
  H e = none ∧ ap e ∧ ∃ oe vs, h.get? e = some oe ∧ oe.cls = cls ∧ oe.dict = od ∧ oe.data = .fields vs ∧ 1 < vs.size ∧ vs[2]? = some .none ∧
    (vs[1]? = some .none ∨ ∃ T oT ts, vs[1]? = some (.ref T) ∧ T ≠ e ∧ H T = none ∧ ap T ∧ h.get? T = some oT ∧ oT.data = .fields ts ∧ ts[3]? = some .none)
theorem XObj.weak {ap ap' : Addr → Prop} {H : Hp} {h : Heap} {e : Addr} {cls : Value} {od : Option Addr} (x : XObj ap H h e cls od) (ha : ∀ b, ap b → ap' b) : XObj ap' H h e cls od := by
  obtain ⟨x2, x3, oe, vs, x4, x5, xd, x6, x7, x9, x8⟩ := x
  refine ⟨x2, ha e x3, oe, vs, x4, x5, xd, x6, x7, x9, ?_⟩
  rcases x8 with z | ⟨T, oT, ts, z1, z3, z4, z5, z6⟩
  · exact .inl z
  · exact .inr ⟨T, oT, ts, z1, z3, z4, ha T z5, z6⟩
theorem ObjOk.there {P : Program} {w : World} {H : Hp} {h : Heap} {a : Addr} {o : HO} (x : ObjOk P w H h a o) : ∃ ob, h.get? a = some ob := by
  cases o with
  | lst xs => obtain ⟨_, _, _, _, e⟩ := x; exact ⟨_, e⟩
  | tup xs => obtain ⟨_, _, _, ⟨o, e, _⟩⟩ := x; exact ⟨_, e⟩
  | dK kvs => obtain ⟨_, _, _, _, o, _, _, e, _⟩ := x; exact ⟨_, e⟩
  | dT kvs => obtain ⟨_, _, _, _, o, _, _, e, _⟩ := x; exact ⟨_, e⟩
  | set S n => obtain ⟨o, _, _, _, e, _⟩ := x; exact ⟨_, e⟩
  | ins C dx fs => obtain ⟨_, _, _, e, _⟩ := x; exact ⟨_, e⟩
  | own y => exact x
  | xd fs => obtain ⟨_, ⟨_, _, _, e, _⟩, _⟩ := x; exact ⟨_, e⟩
  | rng lo hi => obtain ⟨_, _, _, e⟩ := x; exact ⟨_, e⟩
  | frz ob u => obtain ⟨e, _⟩ := x; exact ⟨_, e⟩
  | tbl ps => exact ⟨_, x⟩
  | met f y => exact ⟨_, x⟩
  | ext φ => obtain ⟨_, e, _⟩ := x; exact e

section
variable {M : Model} {A : Around} {E : Value → Shared → Prop} {s : Shared}
/-- a new entry of the traceback: all is kept but e, and the frames' slots -/
theorem entry_X {base : Heap} {env : Env} {outer : List Env} {L e : Addr} {oe : Obj} {vs : Array Value} {head : Value} {hadNext : Bool} {Q : Unit → Shared → Prop}
    (hfr : A.frames = some (env :: outer)) (hl : s.heap.FunFrames base (env :: outer)) (hf : env.frame = some L) (he : s.heap.get? e = some oe) (hd : oe.data = .fields vs) (hsz : 1 < vs.size)
    (h : ∀ h' T oT ts, (∀ b o, b ≠ e → b ∉ frs (env :: outer) → s.heap.get? b = some o → h'.get? b = some o) → (∀ b o, b ≠ e → s.heap.get? b = some o → ∃ sl, h'.get? b = some { o with slots := sl }) →
      h'.get? e = some (oe.mapFields (·.setIfInBounds 1 (.ref T))) → s.heap.objs.size ≤ T → h'.get? T = some oT → oT.data = .fields ts → ts[3]? = some .none → Q () { s with heap := h' }) :
    wpAny M A (do let a ← frameOf env; let pl ← entryPlaceOf L hadNext; let b ← EntryCells.newEntry head a .none (rawInt L) .none pl; setField (.ref e) 1 b) (fun _ s' => wpAny M A (setFlight (.ref e) none) Q E s') E s := by
  have hene : e ∉ (env :: outer).filterMap (·.frame) := fun hm => by
    obtain ⟨_, o, ho, hnf⟩ := hl.mem hm
    rw [he] at ho; injection ho with ho; subst ho; exact hnf vs hd
  refine wpAny_bind (wpAny_frameOf_fun hfr hl hf fun h1 hs1 => ?_)
  refine wpAny_bind (wpAny_entryPlaceOf fun pl hpl => ?_)
  unfold EntryCells.newEntry newFields
  refine wpAny_bind (wpAny_newObj_type ?_ (hpl.sizeOk5 _ _ _ _ _))
  generalize hob : ({ cls := .type "traceback", dict := none, data := .fields ([head, .ref L, .none, rawInt L, .none] ++ (if pl.isEmpty then List.replicate 6 Value.none else pl)).toArray } : Obj) = ob
  have hobd : ob.data = .fields ([head, .ref L, .none, rawInt L, .none] ++ (if pl.isEmpty then List.replicate 6 Value.none else pl)).toArray := by rw [← hob]
  have hobf : ob.isFreed = false := Obj.isFreed_of_fields hobd
  have he1 : h1.get? e = some oe := (hs1.2.1 e hene).trans he
  have he2 := Heap.get?_push_of_some (h := h1) ob he1
  refine wpAny_setField he2 hd hsz ?_
  have hTe : h1.objs.size ≠ e := Nat.ne_of_gt (Heap.lt_size he1)
  have hd3 := Obj.data_mapFields hd (·.setIfInBounds 1 (Value.ref h1.objs.size))
  have he3 := Heap.get?_update_self (Obj.mapFields (·.setIfInBounds 1 (Value.ref h1.objs.size))) he2 (Obj.isFreed_of_fields hd3)
  have hT3 := (Heap.get?_update_other (h1.push ob) (Obj.mapFields (·.setIfInBounds 1 (Value.ref h1.objs.size))) (Ne.symm hTe)).trans (Heap.get?_push_size h1 hobf)
  unfold setFlight
  refine wpAny_bind (wpAny_field he3 hd3 (x := .ref h1.objs.size) (by simp [hsz]) ?_)
  rw [if_pos (show (Value.ref h1.objs.size != Value.none) = true from by simp)]
  have h3sz : 3 < ([head, .ref L, .none, rawInt L, .none] ++ (if pl.isEmpty then List.replicate 6 Value.none else pl)).toArray.size := by
    simp only [List.size_toArray, List.length_append, List.length_cons, List.length_nil]; omega
  refine wpAny_setField hT3 hobd h3sz ?_
  have keep : ∀ b o, b ≠ e → h1.get? b = some o → ((((h1.push ob).update e (Obj.mapFields (·.setIfInBounds 1 (Value.ref h1.objs.size)))).update h1.objs.size
      (Obj.mapFields (·.setIfInBounds 3 ((none : Option Addr).elim Value.none fun f => rawInt f)))).get? b = some o) := fun b o hbe hb => by
    have hbT : h1.objs.size ≠ b := Nat.ne_of_gt (Heap.lt_size hb)
    rw [Heap.get?_update_other _ _ hbT, Heap.get?_update_other _ _ (Ne.symm hbe)]
    exact Heap.get?_push_of_some _ hb
  refine h _ h1.objs.size _ _ (fun b o hbe hbf hb => keep b o hbe ((hs1.2.1 b hbf).trans hb)) (fun b o hbe hb => ?_) ?_ (Nat.le_of_eq hs1.1.symm)
    (Heap.get?_update_self _ hT3 (Obj.isFreed_of_fields (Obj.data_mapFields hobd _))) (Obj.data_mapFields hobd _) ?_
  · obtain ⟨sl, q⟩ := hs1.2.2 b o hb
    exact ⟨sl, keep b _ hbe q⟩
  · rw [Heap.get?_update_other _ _ hTe]; exact he3
  · rw [Array.getElem?_setIfInBounds_self_of_lt h3sz]; rfl

/-- an exception leaves a frame, or is looked at in it -/
theorem leave_X {base : Heap} {env : Env} {outer : List Env} {L e : Addr} {cls : Value} {od : Option Addr} {ap : Addr → Prop} {H : Hp} {Q : Unit → Shared → Prop}
    (hfr : A.frames = some (env :: outer)) (hl : s.heap.FunFrames base (env :: outer)) (hf : env.frame = some L) (x : XObj ap H s.heap e cls od) (hfresh : ∀ b, s.heap.objs.size ≤ b → H b = none ∧ ap b)
    (h : ∀ h', (∀ b o, ¬ (H b = none ∧ ap b ∧ ∃ vs, o.data = .fields vs) → b ∉ frs (env :: outer) → s.heap.get? b = some o → h'.get? b = some o) →
      (∀ b o, b ∈ frs (env :: outer) → s.heap.get? b = some o → ∃ sl, h'.get? b = some { o with slots := sl }) → (∀ b o, s.heap.get? b = some o → ∃ o', h'.get? b = some o') → XObj ap H h' e cls od → Q () { s with heap := h' }) :
    wpAny M A (noteFrame (.ref e) env) (fun _ s' => wpAny M A (setFlight (.ref e) none) Q E s') E s := by
  obtain ⟨x2, x3, oe, vs, x4, x5, xd, x6, x7, x9, x8⟩ := x
  have frne : ∀ b o vs, s.heap.get? b = some o → o.data = .fields vs → b ∉ frs (env :: outer) := fun b o vs ho hd hb => by
    obtain ⟨_, o', ho', hnf⟩ := hl.mem hb
    rw [ho] at ho'; cases ho'; exact hnf vs hd
  unfold noteFrame
  simp only [hf]
  rcases x8 with z | ⟨T, oT, ts, z1, z3, z4, z5, z6, z7, z8⟩
  · refine wpAny_bind (wpAny_field x4 x6 z ?_)
    rw [if_neg (by decide)]
    refine entry_X hfr hl hf x4 x6 x7 fun h' T oT ts k1 k2 k3 k4 k5 k6 k7 => h h' (fun b o n hb e => ?_) (fun b o hb e => k2 b o (fun q => frne _ _ _ x4 x6 (q ▸ hb)) e) (fun b o q => ?_) ?_
    · refine k1 b o (fun q => n ?_) hb e
      subst q
      rw [x4] at e; cases e
      exact ⟨x2, x3, vs, x6⟩
    · by_cases hb : b = e
      · subst hb; exact ⟨_, k3⟩
      · obtain ⟨sl, q'⟩ := k2 b o hb q; exact ⟨_, q'⟩
    · refine ⟨x2, x3, _, _, k3, (Obj.cls_mapFields _ _).trans x5, (dict_mf _ _).trans xd, Obj.data_mapFields x6 _, by simpa using x7, by rw [Array.getElem?_setIfInBounds_ne (by decide)]; exact x9, .inr ⟨T, oT, ts, by simp [x7], ?_, (hfresh T k4).1, (hfresh T k4).2, k5, k6, k7⟩⟩
      exact Nat.ne_of_gt (Nat.lt_of_lt_of_le (Heap.lt_size x4) k4)
  · refine wpAny_bind (wpAny_field x4 x6 z1 ?_)
    rw [if_pos (show (Value.ref T != Value.none) = true from by simp)]
    refine wpAny_bind (wpAny_field z6 z7 z8 ?_)
    rw [if_neg (show ¬ ((Value.none == rawInt L) = true) from by simp [rawInt])]
    refine wpAny_bind (wpAny_setField z6 z7 (Array.getElem?_eq_some_iff.mp z8).1 ?_)
    have other : ∀ b, b ≠ T → (s.heap.update T (Obj.mapFields (·.setIfInBounds 3 Value.none))).get? b = s.heap.get? b := fun b hb => Heap.get?_update_other _ _ (Ne.symm hb)
    have hTs := Heap.get?_update_self (Obj.mapFields (·.setIfInBounds 3 Value.none)) z6 (Obj.isFreed_of_fields (Obj.data_mapFields z7 _))
    have hTd := Obj.data_mapFields z7 (·.setIfInBounds 3 Value.none)
    have hsz : (s.heap.update T (Obj.mapFields (·.setIfInBounds 3 Value.none))).objs.size = s.heap.objs.size := Heap.size_after_update ..
    refine entry_X (s := { s with heap := s.heap.update T (Obj.mapFields (·.setIfInBounds 3 Value.none)) }) hfr (hl.of_keeps fun b o hb hnf => ⟨o, (other b fun q => hnf ts (by rw [q, z6] at hb; cases hb; exact z7)).trans hb, rfl⟩) hf ((other e (Ne.symm z3)).trans x4) x6 x7
      fun h' T' oT' ts' k1 k2 k3 k4 k5 k6 k7 => h h' (fun b o n hb e => ?_) (fun b o hb q => ?_) (fun b o q => ?_) ?_
    · have hbT : b ≠ T := fun q => n (by subst q; rw [z6] at e; cases e; exact ⟨z4, z5, ts, z7⟩)
      refine k1 b o (fun q => n ?_) hb ((other b hbT).trans e)
      subst q
      rw [x4] at e; cases e
      exact ⟨x2, x3, vs, x6⟩
    · have hbT : b ≠ T := fun q' => frne _ _ _ z6 z7 (q' ▸ hb)
      exact k2 b o (fun q' => frne _ _ _ x4 x6 (q' ▸ hb)) ((other b hbT).trans q)
    · by_cases hb : b = e
      · subst hb; exact ⟨_, k3⟩
      · by_cases hbT : b = T
        · subst hbT
          obtain ⟨sl, q'⟩ := k2 b _ hb hTs; exact ⟨_, q'⟩
        · obtain ⟨sl, q'⟩ := k2 b o hb ((other b hbT).trans q); exact ⟨_, q'⟩
    · have k4' : s.heap.objs.size ≤ T' := by rw [← hsz]; exact k4
      refine ⟨x2, x3, _, _, k3, (Obj.cls_mapFields _ _).trans x5, (dict_mf _ _).trans xd, Obj.data_mapFields x6 _, by simpa using x7, by rw [Array.getElem?_setIfInBounds_ne (by decide)]; exact x9, .inr ⟨T', oT', ts', by simp [x7], ?_, (hfresh T' k4').1, (hfresh T' k4').2, k5, k6, k7⟩⟩
      exact Nat.ne_of_gt (Nat.lt_of_lt_of_le (Heap.lt_size x4) k4')
end
end L2

namespace L2
open PySem PySem.Spec PyProof.Rows

noncomputable abbrev XS := Value → Option Addr → St → Hp → Prop
noncomputable def apart (X : Cx) (pins : List (Addr × Obj)) (b : Addr) : Prop := X.s₀.heap.get? b = none ∧ ∀ p ∈ X.pn ++ pins, p.1 ≠ b
/-- an exception raised here, of which E holds, is what this body wants -/
noncomputable def Rs (X : Cx) (E : XS) : Prop := ∀ (pins : List (Addr × Obj)) (σ : St) (H : Hp) (s : Shared) (e : Addr) (cls : Value) (od : Option Addr), Inv X pins σ H s → XObj (apart X pins) H s.heap e cls od → E cls od σ H → X.xe (.ref e) s
/-- how an exception lies behind a call -/
noncomputable def CX1 (P : Program) (w : World) : CXT := fun outer H s E e s' => ∃ a cls od H', e = .ref a ∧ s'.os = s.os ∧ AllBare s'.gens ∧ Un (frs outer) [] H H' s.heap s'.heap ∧ HOk P w H' s'.heap ∧ XObj (fun b => s.heap.get? b = none) H' s'.heap a cls od ∧ E cls od H'

section
variable {X : Cx} {pins : List (Addr × Obj)} {σ : St} {H H' : Hp} {s s' : Shared} {h' : Heap} {e : Addr} {cls : Value} {od : Option Addr}
theorem Inv.young (I : Inv X pins σ H s) : ∀ b, s.heap.objs.size ≤ b → H b = none ∧ apart X pins b := fun b hb => ⟨I.hok.fresh hb, Heap.get?_none_of_le (Nat.le_trans I.sz hb), fun p hp z => absurd (Nat.lt_of_lt_of_le (Heap.lt_size (I.pin p hp).1) (by rw [z]; exact hb)) (Nat.lt_irrefl _)⟩


/-- as Inv.step, the records at ch not being there at the entry -/
theorem Inv.stepN {g' : Array GenState} {t' : Nat} {d' : Drawn} {ch : List Addr} (I : Inv X pins σ H s)
    (hch : ∀ b ∈ ch, (b ∈ X.ex ∨ X.s₀.heap.get? b = none) ∧ b ≠ X.env.locals ∧ (∀ x c, X.env.cells.lookup x = some c → c ≠ b) ∧ ∀ p ∈ X.pn ++ pins, p.1 ≠ b)
    (keep : ∀ b o, b ≠ X.env.locals → b ∉ X.fs → b ∉ ch → s.heap.get? b = some o → H b = none → h'.get? b = some o)
    (slot : ∀ b o, b ≠ X.env.locals → b ∈ X.fs → b ∉ ch → s.heap.get? b = some o → H b = none → ∃ sl, h'.get? b = some { o with slots := sl }) (free : ∀ b o, b ∉ ch → s.heap.get? b = some o → H b = none → H' b = none)
    (there : ∀ b o, b ∉ ch → s.heap.get? b = some o → ∃ o', h'.get? b = some o')
    (tups : ∀ b xs, H b = some (.tup xs) → H' b = some (.tup xs)) (frzs : ∀ b o u, H b = some (.frz o u) → H' b = some (.frz o u)) (tbls : ∀ b ps, H b = some (.tbl ps) → ∃ more, H' b = some (.tbl (ps ++ more)))
    (ns : ∀ m, s.heap.Ns X.env.locals m → h'.Ns X.env.locals m) (hok : HOk X.prog X.w H' h') (hg : AllBare g') :
    Inv X pins σ H' { s with heap := h', gens := g', drawn := d', toks := t' } := by
  have neL : ∀ b o, X.s₀.heap.get? b = some o → b ≠ X.env.locals := fun b o e => Nat.ne_of_lt (Nat.lt_of_lt_of_le (Heap.lt_size e) I.ok.above)
  have neC : ∀ b o, X.s₀.heap.get? b = some o → b ∉ X.ex → b ∉ ch := fun b o e hx hb => by
    rcases (hch b hb).1 with z | z
    · exact hx z
    · rw [z] at e; cases e
  have cellK : ∀ x c, X.env.cells.lookup x = some c → ∀ v, s.heap.IsCell c v → h'.IsCell c v := fun x c e v ⟨o, ho, hd⟩ => by
    have nch : c ∉ ch := fun z => (hch c z).2.2.1 x c e rfl
    by_cases hc : c ∈ X.fs
    · obtain ⟨sl, q⟩ := slot c o (I.cne x c e) hc nch ho (I.freeC x c e)
      exact ⟨_, q, hd⟩
    · exact ⟨o, keep c o (I.cne x c e) hc nch ho (I.freeC x c e), hd⟩
  have bs : Un X.fs X.ex X.H₀ H' X.s₀.heap h' := by
    refine ⟨fun b o e n hb hx => ?_, fun b o e n hb hx => ?_, fun b o e n hx => ?_, fun b o e hx => ?_, fun b xs e => tups b xs (I.base.tups b xs e), fun b o xs e => frzs b o xs (I.base.frzs b o xs e), fun b ps e => ?_⟩
    · exact keep b o (neL b o e) hb (neC b o e hx) (I.base.keep b o e n hb hx) (I.base.free b o e n hx)
    · obtain ⟨sl, e1⟩ := I.base.slot b o e n hb hx
      exact (slot b _ (neL b o e) hb (neC b o e hx) e1 (I.base.free b o e n hx)).elim fun sl' e2 => ⟨sl', e2⟩
    · obtain ⟨o', e1⟩ := I.base.there b o e hx
      exact free b o' (neC b o e hx) e1 (I.base.free b o e n hx)
    · obtain ⟨o', e1⟩ := I.base.there b o e hx
      exact there b o' (neC b o e hx) e1
    · obtain ⟨m1, e1⟩ := I.base.tbls b ps e
      obtain ⟨m2, e2⟩ := tbls b _ e1
      exact ⟨m1 ++ m2, by rw [e2, Array.append_assoc]⟩
  refine ⟨I.ok, I.os, hg, bs, ?_, fun x c e => ?_, ?_, fun x c e => ?_, fun p hp => ?_, hok, I.len⟩
  · obtain ⟨m, hn, hl⟩ := I.loc
    refine ⟨m, ns m hn, fun i x v e1 e2 e3 => ?_⟩
    obtain ⟨u, r, l⟩ := hl i x v e1 e2 e3
    refine ⟨u, r, ?_⟩
    rcases l with l | ⟨k, c, e, z⟩
    · exact .inl l
    · exact .inr ⟨k, c, e, cellK x c e _ z⟩
  · obtain ⟨v, z⟩ := I.cell x c e
    exact ⟨v, cellK x c e v z⟩
  · obtain ⟨m, ⟨o, _, _, ho, _⟩, _⟩ := I.loc
    exact free _ o (fun z => (hch _ z).2.1 rfl) ho I.free
  · obtain ⟨v, o, ho, hd⟩ := I.cell x c e
    exact free c o (fun z => (hch c z).2.2.1 x c e rfl) ho (I.freeC x c e)
  · obtain ⟨e, n, ne, nf, d⟩ := I.pin p hp
    have nch : p.1 ∉ ch := fun z => (hch p.1 z).2.2.2 p hp rfl
    exact ⟨keep p.1 p.2 ne nf nch e n, free p.1 p.2 nch e n, ne, nf, d⟩

theorem rs_call {E : XS} {v : Value} (R : Rs X E) (hex : X.ex = []) (I : Inv X pins σ H s) (h : CX1 X.prog X.w X.stack H s (fun c od H' => E c od σ H') v s') : X.xe v s' := by
  obtain ⟨a, cls, od, H', rfl, os, bare, un, hok, x, q⟩ := h
  have I' : Inv X pins σ H' s' := I.call' (ch := []) os un hok bare (fun b z => absurd z (by simp))
  refine R pins σ H' s' a cls od I' (x.weak fun b hb => ⟨?_, fun p hp z => ?_⟩) q
  · cases g : X.s₀.heap.get? b with
    | none => rfl
    | some o =>
      obtain ⟨o', e⟩ := I.base.there b o g (by rw [hex]; simp)
      rw [hb] at e; cases e
  · have e := (I.pin p hp).1
    rw [z, hb] at e; cases e

/-- what stays when an exception passes the frames -/
theorem HOk.passed (I : Inv X pins σ H s) (k1 : ∀ b o, ¬ (H b = none ∧ apart X pins b ∧ ∃ vs, o.data = .fields vs) → b ∉ frs X.stack → s.heap.get? b = some o → h'.get? b = some o) : HOk X.prog X.w H h' := fun a o q => by
  refine (I.hok a o q).stay (fun b u hb e => k1 b u ?_ (fun z => ?_) e) (fun _ z => z) fun _ _ z => z
  · rintro ⟨n, _⟩
    rcases hb with rfl | hb
    · rw [q] at n; cases n
    · rw [hb] at n; cases n
  · have n := I.stkFree b z
    rcases hb with rfl | hb
    · rw [q] at n; cases n
    · rw [hb] at n; cases n

theorem rs_fn {P : Program} {w : World} {K : PySem.W.Frag} {mg : Str → Option Value} {base : Heap} {N : List Str} {qual : Str} {scope : Scope} {f : Addr} {cd : Value} {A : Around} {outer : List Env} {s0 : Shared} {H0 : Hp} {E : XK} :
    Rs (cxOf (CX1 P w) P w K mg base N qual scope f cd A outer s0 H0 E) (fun c od _ H' => E c od H') := by
  intro pins σ H s e cls od I x q
  show wpAny _ _ (leaving _ (.ref e)) _ _ s
  unfold leaving
  refine wpAny_bind (leave_X (L := s0.heap.objs.size) I.ok.frames I.stack rfl x I.young fun h' k1 k2 k3 x' => ?_)
  refine ⟨e, cls, od, H, rfl, I.os, I.bare, ⟨fun b o e1 n hb hx => ?_, fun b o e1 n hb hx => ?_, I.base.free, fun b o e1 hx => ?_, I.base.tups, I.base.frzs, I.base.tbls⟩, HOk.passed I k1, x'.weak fun b hb => hb.1, q⟩
  · refine k1 b o (fun z => by have q0 := z.2.1.1; exact absurd (q0.symm.trans (show s0.heap.get? b = some o from e1)) (by simp)) (fun z => ?_) (I.base.keep b o e1 n hb hx)
    rcases List.mem_cons.mp (I.stkSub b z) with y | y
    · exact absurd (Nat.lt_of_lt_of_le (Heap.lt_size e1) (by rw [y]; exact I.ok.above)) (Nat.lt_irrefl _)
    · exact hb y
  · obtain ⟨sl, e2⟩ := I.base.slot b o e1 n hb hx
    obtain ⟨sl', e3⟩ := k2 b _ (List.mem_cons_of_mem _ hb) e2
    exact ⟨sl', e3⟩
  · obtain ⟨o', e2⟩ := I.base.there b o e1 hx
    exact k3 b o' e2

/-- .. and the body goes on (a handler) -/
theorem Inv.passed (I : Inv X pins σ H s) (hfr : X.stack = X.env :: X.outer ∧ X.env.frame = some X.env.locals)
    (k1 : ∀ b o, ¬ (H b = none ∧ apart X pins b ∧ ∃ vs, o.data = .fields vs) → b ∉ frs X.stack → s.heap.get? b = some o → h'.get? b = some o)
    (k2 : ∀ b o, b ∈ frs X.stack → s.heap.get? b = some o → ∃ sl, h'.get? b = some { o with slots := sl }) (k3 : ∀ b o, s.heap.get? b = some o → ∃ o', h'.get? b = some o') {t' : Nat} : Inv X pins σ H { s with heap := h', toks := t' } := by
  classical
  have inL : ∀ b, b = X.env.locals ∨ b ∈ X.fs → b ∈ frs X.stack := fun b hb => by
    rw [hfr.1]; unfold frs; rw [List.filterMap_cons, hfr.2]
    exact List.mem_cons.mpr hb
  let ch : List Addr := (List.range s.heap.objs.size).filter fun b => decide (H b = none ∧ apart X pins b ∧ ∃ o vs, s.heap.get? b = some o ∧ o.data = .fields vs)
  have inch : ∀ b o, b ∉ ch → s.heap.get? b = some o → ¬ (H b = none ∧ apart X pins b ∧ ∃ vs, o.data = .fields vs) := fun b o hb e z =>
    hb (List.mem_filter.mpr ⟨List.mem_range.mpr (Heap.lt_size e), decide_eq_true ⟨z.1, z.2.1, o, z.2.2.choose, e, z.2.2.choose_spec⟩⟩)
  have ofch : ∀ b ∈ ch, H b = none ∧ apart X pins b ∧ ∃ o vs, s.heap.get? b = some o ∧ o.data = .fields vs := fun b hb => of_decide_eq_true (List.mem_filter.mp hb).2
  have fdata : ∀ b ∈ ch, ∀ o, s.heap.get? b = some o → ∃ vs, o.data = .fields vs := fun b hb o e => by
    obtain ⟨_, _, o', vs, e', d⟩ := ofch b hb
    rw [e] at e'; cases e'; exact ⟨vs, d⟩
  refine I.stepN (g' := s.gens) (d' := s.drawn) (ch := ch) (fun b hb => ?_) (fun b o hL hb hc e n => ?_) (fun b o hL hb hc e n => ?_) (fun b o hc e n => n) (fun b o hc e => k3 b o e) (fun _ _ e => e) (fun _ _ _ e => e) (fun b ps e => ⟨#[], by rw [e]; simp⟩) (fun m hm => ?_) (HOk.passed I k1) I.bare
  · obtain ⟨z2, z3, o, vs, e, d⟩ := ofch b hb
    refine ⟨.inr z3.1, fun z => ?_, fun x c hc z => ?_, z3.2⟩
    · obtain ⟨m, ⟨o', es, ep, ho', hd', _⟩, _⟩ := I.loc
      rw [z, ho'] at e; cases e; rw [hd'] at d; cases d
    · obtain ⟨v, o', ho', hd'⟩ := I.cell x c hc
      rw [z, e] at ho'; cases ho'; rw [hd'] at d; cases d
  · refine k1 b o (inch b o hc e) (fun z => ?_) e
    rcases List.mem_cons.mp (I.stkSub b z) with y | y
    · exact hL y
    · exact hb y
  · exact k2 b o (inL b (.inr hb)) e
  · obtain ⟨o, es, ep, ho, r⟩ := hm
    obtain ⟨sl, e⟩ := k2 _ o (inL _ (.inl rfl)) ho
    exact ⟨_, es, ep, e, r⟩

/-- the flight ends -/
theorem land_X {M : Model} {A : Around} {E : Value → Shared → Prop} {ap : Addr → Prop} {Q : Unit → Shared → Prop} (x : XObj ap H s.heap e cls od)
    (h : ∀ h', (∀ b o, ¬ (H b = none ∧ ap b ∧ ∃ vs, o.data = .fields vs) → s.heap.get? b = some o → h'.get? b = some o) → (∀ b o, s.heap.get? b = some o → ∃ sl, (¬ ∃ vs, o.data = .fields vs) → h'.get? b = some { o with slots := sl }) →
      (∀ b o, s.heap.get? b = some o → ∃ o', h'.get? b = some o') → XObj ap H h' e cls od → Q () { s with heap := h' }) : wpAny M A (setFlight (.ref e) none) Q E s := by
  have x' := x
  obtain ⟨x2, x3, oe, vs, x4, x5, xd, x6, x7, x9, x8⟩ := x
  unfold setFlight
  rcases x8 with z | ⟨T, oT, ts, z1, z3, z4, z5, z6, z7, z8⟩
  · refine wpAny_bind (wpAny_field x4 x6 z ?_)
    rw [if_neg (by decide)]
    exact wpAny_pure (h s.heap (fun _ _ _ q => q) (fun b o q => ⟨o.slots, fun _ => q⟩) (fun b o q => ⟨o, q⟩) x')
  · refine wpAny_bind (wpAny_field x4 x6 z1 ?_)
    rw [if_pos (show (Value.ref T != Value.none) = true from by simp)]
    have h3 : 3 < ts.size := (Array.getElem?_eq_some_iff.mp z8).1
    refine wpAny_setField z6 z7 h3 ?_
    have other : ∀ b, b ≠ T → (s.heap.update T (Obj.mapFields (·.setIfInBounds 3 ((none : Option Addr).elim Value.none fun f => rawInt f)))).get? b = s.heap.get? b := fun b hb => Heap.get?_update_other _ _ (Ne.symm hb)
    have hTs := Heap.get?_update_self (Obj.mapFields (·.setIfInBounds 3 ((none : Option Addr).elim Value.none fun f => rawInt f))) z6 (Obj.isFreed_of_fields (Obj.data_mapFields z7 _))
    refine h _ (fun b o n q => (other b fun y => n ?_).trans q) (fun b o q => ⟨o.slots, fun n => (other b fun y => n ?_).trans q⟩) (fun b o q => ?_) ?_
    · subst y; rw [z6] at q; cases q; exact ⟨z4, z5, ts, z7⟩
    · subst y; rw [z6] at q; cases q; exact ⟨ts, z7⟩
    · by_cases hb : b = T
      · subst hb; exact ⟨_, hTs⟩
      · exact ⟨o, (other b hb).trans q⟩
    · exact ⟨x2, x3, oe, vs, (other e (Ne.symm z3)).trans x4, x5, xd, x6, x7, x9, .inr ⟨T, _, _, z1, z3, z4, z5, hTs, Obj.data_mapFields z7 _, by rw [Array.getElem?_setIfInBounds_self_of_lt h3]; rfl⟩⟩
end

/-! ### calls of a def that may raise -/
noncomputable def tCallX (sp : Sp) (dvs : List V) (E : XS) (t : TA) : TE := fun σ H Q => t σ H fun vs H1 => sp (vs ++ dvs) H1 Q (fun c od H' => E c od σ H')
section
variable {X : Cx} {k : Nat} {f C : Addr} {fd : FuncData} {ps : List Str} {sp : Sp} {dvs : List V} {ds : List Value} {E : XS} {x m : Str} {p pos apos : Pos} {e o : Expr} {es : List Expr} {ta : TE} {t : TA}
theorem run_fnX {pins : List (Addr × Obj)} {σ : St} {H : Hp} {s : Shared} {Q : VK} {us : List Value} {vs : List V} (F : FnOk X.prog X.w X.K X.mg X.base (CX1 X.prog X.w) k f fd ps sp) (hr : Room k X.A) (hb : Binds X.K fd ps ds) (hd : Vals dvs ds) (hx : Rs X E) (hex : X.ex = [])
    (I : Inv X pins σ H s) (r : Vals vs us) (h : sp (vs ++ dvs) H Q (fun c od H' => E c od σ H')) : wpAny (model X.prog X.w) X.A (call (.ref f) us) (EP X pins σ Q) X.xe s := by
  have r2 : Vals (vs ++ dvs) (us ++ ds) := r.append hd
  have hl : (us ++ ds).length = ps.length := by rw [← r2.length]; exact F.len _ _ _ _ h
  refine wpAny_call (codeAny_mono (F.run X.A X.stack s H ⟨us, []⟩ (us ++ ds) (vs ++ dvs) Q _ hr I.env0 (hb s us I.kIn hl) r2 h) fun r s' hq => ?_)
  cases r with
  | error v => exact rs_call hx hex I hq
  | ok fl =>
    cases fl with
    | ret u => exact I.after hq
    | next => exact False.elim hq
    | brk => exact False.elim hq
    | cont => exact False.elim hq
theorem pe_callX (F : FnOk X.prog X.w X.K X.mg X.base (CX1 X.prog X.w) k f fd ps sp) (hr : Room k X.A) (hg : Gl X x) (hm : X.mg x = some (.ref f)) (hk : PySem.W.keepIn X.K (.ref f) = true) (hb : Binds X.K fd ps ds) (hd : Vals dvs ds) (hx : Rs X E) (hex : X.ex = [])
    (ha : PA X (e :: es) t) (hdb : (x == ("__debug__" : Str)) = false := by decide) (he : starEach (e :: es) X.env = (false, eval e X.env) :: starEach es X.env := by rfl) (hpl : (backTo pos (starEach es X.env)).any (·.1) = false := by rfl) :
    PE X (.Call (.Name x p) (e :: es) [] pos) (tCallX sp dvs E t) := by
  intro pins s σ H Q I h
  refine wpAny_Call_Name_kw (ld_glob I hg hm ?_ hdb)
  refine PySem.W.callWith_K (h₀ := X.base) I.ok.mod.kin hk (thn (ha pos pins s σ H _ I h) fun us s1 ⟨vs, H1, I1, r, q⟩ => ⟨I1.kIn, ?_⟩) he hpl
  exact run_fnX F hr hb hd hx hex I1 r q
end

/-! ### a def that may raise, by its body -/
section
variable {P : Program} {w : World} {K : PySem.W.Frag} {mg : Str → Option Value} {base : Heap}
theorem Fun.okX {x qual : Str} {st : Stmt} {f : Addr} {fd : FuncData} {N ps : List Str} {k : Nat} {sp : Sp} (F : Fun K x qual st f fd) (S : FnScope N ps (defScope st)) (len : ∀ vs H Q E, sp vs H Q E → vs.length = ps.length)
    (hbody : ∀ (cdv : Value) (A : Around) (outer : List Env) (s : Shared) (H : Hp) (vs : List V) (Q : VK) (E : XK), Room k (A.deeper (envOfC qual (defScope st) s.heap.objs.size f cdv)) → sp vs H Q E →
      Rs (cxOf (CX1 P w) P w K mg base N qual (defScope st) f cdv A outer s H E) (fun c od _ H' => E c od H') →
      ∃ t, PSs (cxOf (CX1 P w) P w K mg base N qual (defScope st) f cdv A outer s H E) (defBody st) t ∧ t { nx := fun _ H' => Q .non H', rt := Q } (start N vs) H) : FnOk P w K mg base (CX1 P w) (k + 1) f fd ps sp := by
  obtain ⟨oc, od, kV, doc, pm, an, cdv, ct, osl, rfl, lk, hcd⟩ := F.ex
  exact fn_of lk hcd S len fun A outer s H vs Q E hr hsp => hbody cdv A outer s H vs Q E hr hsp rs_fn
end
end L2

namespace L2
open PySem PySem.Spec PyProof.Rows

abbrev bmVE : List Value := [.type "ValueError", .type "Exception", .type "BaseException", .type "object"]

/-! ### raise C(..) of an own class without __init__ -/
noncomputable def tRaise (C : Addr) (E : XS) (t : TA) : TS := fun _ σ H => t σ H fun vs H1 => vs.length ≤ sizeLine ∧ E (.ref C) none σ H1
section
variable {X : Cx} {C : Addr} {x : Str} {np cpos pos : Pos} {e : Expr} {es : List Expr} {t : TA} {E : XS}
theorem exc_facts {K : PySem.W.Frag} {h : Heap} {bmB : List Value} {newId : String} (X : K.In h) (q : PySem.W.excIn K C bmB newId = true) :
    ∃ bm N nm qn bs hdct sn sub ab col dd k0 k1 k2 k3 k5 mN, h.get? C = some (excClassObj nm qn C N bs bm hdct sn sub ab col dd k0 k1 k2 k3 k5 newId) ∧ h.Ns N mN ∧ mN "__init__" = none ∧ OwnTail h bmB bm := by
  unfold PySem.W.excIn at q
  split at q
  · rename_i dd cd sl ho
    split at q
    · rename_i C' bm k0 k1 k2 k3 n k5 hm hs
      simp only [Bool.and_eq_true, beq_iff_eq, Bool.not_eq_true'] at q
      obtain ⟨⟨⟨⟨⟨rfl, rfl⟩, hdel⟩, ht⟩, hok⟩, hni⟩ := q
      obtain ⟨nm, bs, mro, ns, qn, hd, sn, sub, ab, col, del⟩ := cd
      dsimp only at hm hdel hok hni
      subst hm hdel
      have hsl : sl = #[k0, k1, k2, k3, some (.builtin n), k5] := by
        obtain ⟨l⟩ := sl
        simp only at hs
        rw [hs]
      subst hsl
      exact ⟨bm, ns, nm, qn, bs, hd, sn, sub, ab, col, dd, k0, k1, k2, k3, k5, _, X _ _ ho, .of_isNs (PySem.W.isNs_of_in X hok), PySem.W.nsMap_none_of_in X hok hni, PySem.W.tail_of_in X ht⟩
    · cases q
  · cases q

/-- a new object is apart -/
theorem Inv.newApart {pins : List (Addr × Obj)} {σ : St} {H : Hp} {s : Shared} (I : Inv X pins σ H s) (hex : X.ex = []) {b : Addr} (hb : s.heap.get? b = none) : H b = none ∧ apart X pins b := by
  refine ⟨?_, ?_, fun p hp z => ?_⟩
  · cases hH : H b with
    | none => rfl
    | some o =>
      obtain ⟨ob, e⟩ := (I.hok b o hH).there
      rw [hb] at e; cases e
  · cases g : X.s₀.heap.get? b with
    | none => rfl
    | some o =>
      obtain ⟨o', e⟩ := I.base.there b o g (by rw [hex]; simp)
      rw [hb] at e; cases e
  · have e := (I.pin p hp).1
    rw [z, hb] at e; cases e

theorem ps_raise (hc : X.calm = true) (hex : X.ex = []) (hg : Gl X x) (hm : X.mg x = some (.ref C)) (q : PySem.W.excIn X.K C bmVE "ValueError.__new__" = true) (R : Rs X E) (ha : PA X (e :: es) t)
    (hdb : (x == ("__debug__" : Str)) = false := by decide) (he : starEach (e :: es) X.env = (false, eval e X.env) :: starEach es X.env := by rfl) (hpl : (backTo cpos (starEach es X.env)).any (·.1) = false := by rfl) :
    PS X (.Raise (some (.Call (.Name x np) (e :: es) [] cpos)) none pos) (tRaise C E t) := by
  intro pins s σ H D I h
  obtain ⟨tl, N, nm, qn, bs, hdct, sn, sub, ab, col, dd, k0, k1, k2, k3, k5, mN, hC, hN, hni, T⟩ := exc_facts I.ok.mod.kin q
  refine wpAny_Raise_call_subU (C := C) (nm := nm) (q := qn) (N := N) (bs := bs) (bm := tl) (hdct := hdct) (sn := sn) (sub := sub) (ab := ab) (col := col) (dd := dd) (k0 := k0) (k1 := k1) (k2 := k2) (k3 := k3) (k5 := k5)
    F.excBase_ValueError (by decide +kernel) F.excBase_ValueError (mN := mN) (T.hasType F.excBase_ValueError.hasBase) (I.ok.hd hc) (by rw [he]; show (false || (backTo cpos (starEach es X.env)).any (·.1)) = false; rw [hpl]; rfl) hni (ld_glob I hg hm ⟨rfl, ?_⟩ hdb)
  have ha' := ha cpos pins s σ H _ I h
  rw [he] at ha' ⊢
  refine Calls.evalArgs_plain (thn ha' fun us s1 ⟨vs, H1, I1, r, hz, q⟩ => ?_)
  refine ⟨rfl, by show us.length ≤ sizeLine; rw [← r.length]; exact hz, I1.bk _ _ hC, hN.keeps I1.bk, T.keeps I1.bk, fun h' ea me => ?_⟩
  have I2 : Inv X pins σ H1 { s1 with heap := h' } := I1.kept (t' := s1.toks) me.keeps
  obtain ⟨n1, n2⟩ := I1.newApart hex me.new
  obtain ⟨tt, m1, m2, m3⟩ := me.there
  exact R pins σ H1 _ ea _ none I2 ⟨n1, n2, _, _, m1, rfl, rfl, rfl, by show 1 < 6; decide, rfl, .inl rfl⟩ q
end

/-! ### try .. except C as n: .. -/
/-- an exception that a handler has -/
noncomputable def excO (a : Addr) (cls : Value) (od : Option Addr := none) : HO := .ext fun h => ∃ o vs, h.get? a = some o ∧ o.cls = cls ∧ o.dict = od ∧ o.data = .fields vs ∧ vs[2]? = some .none
noncomputable def tTry (K : PySem.W.Frag) (C : Addr) (i : Nat) (tb : XS → TS) (th : Addr → TS) : TS := fun D σ H =>
  tb (fun cls od σ' H' => PySem.W.exmOne K cls (.ref C) = some true ∧ ∀ a, H' a = none → th a { nx := fun σ2 H2 => D.nx (σ2.set i none) H2, rt := D.rt, bk := fun σ2 H2 => D.bk (σ2.set i none) H2, ct := fun σ2 H2 => D.ct (σ2.set i none) H2 } (σ'.set i (some (.ref a))) (upd H' a (excO a cls od))) D σ H
/-- the context within a handler's suite -/
noncomputable def hnd (X : Cx) (e : Addr) : Cx := { X with A := X.A.mark (some (.ref e)), calm := false, xe := fun _ _ => False }
section
variable {X : Cx} {pins : List (Addr × Obj)} {σ : St} {H : Hp} {s : Shared}
theorem Inv.hnd (I : Inv X pins σ H s) (e : Addr) : Inv (L2.hnd X e) pins σ H s :=
  ⟨⟨I.ok.mod, I.ok.kind, I.ok.glob, I.ok.blt, I.ok.above, I.ok.inj, I.ok.has, I.ok.cab, fun h => (by cases h), I.ok.frames, I.ok.stk, I.ok.exf, I.ok.bs, I.ok.bsz, I.ok.noex, I.ok.exfs, I.ok.funs, I.ok.frf⟩, I.os, I.bare, I.base, I.loc, I.cell, I.free, I.freeC, I.pin, I.hok, I.len⟩
theorem Inv.unhnd {X0 : Cx} (hok : X0.Ok) {e : Addr} (I : Inv (L2.hnd X0 e) pins σ H s) : Inv X0 pins σ H s := ⟨hok, I.os, I.bare, I.base, I.loc, I.cell, I.free, I.freeC, I.pin, I.hok, I.len⟩
/-- another wish, other pins of every state -/
noncomputable abbrev Cx.pinWish (X : Cx) (pn : List (Addr × Obj)) (E : Value → Shared → Prop) : Cx := { X with pn := pn, xe := E }
theorem Inv.pinWish (I : Inv X pins σ H s) (E : Value → Shared → Prop) : Inv (X.pinWish (X.pn ++ pins) E) [] σ H s :=
  ⟨⟨I.ok.mod, I.ok.kind, I.ok.glob, I.ok.blt, I.ok.above, I.ok.inj, I.ok.has, I.ok.cab, I.ok.hd, I.ok.frames, I.ok.stk, I.ok.exf, I.ok.bs, I.ok.bsz, I.ok.noex, I.ok.exfs, I.ok.funs, I.ok.frf⟩, I.os, I.bare, I.base, I.loc, I.cell, I.free, I.freeC, fun p hp => I.pin p (by simpa using hp), I.hok, I.len⟩
theorem Inv.unpinWish {E : Value → Shared → Prop} {q : List (Addr × Obj)} (ok : X.Ok) (I : Inv (X.pinWish (X.pn ++ pins) E) q σ H s) : Inv X pins σ H s :=
  ⟨ok, I.os, I.bare, I.base, I.loc, I.cell, I.free, I.freeC, fun p hp => I.pin p (List.mem_append_left _ hp), I.hok, I.len⟩

/-- a local name is let go -/
theorem Inv.drop {i : Nat} {n : Str} {h' : Heap} {t' : Nat} {v : Option Value} (I : Inv X pins σ H s) (hN : X.N.Nodup) (hi : X.N[i]? = some n) (hk : X.env.scope.names.lookup n = some .local)
    (hn : ∀ m, s.heap.Ns X.env.locals m → ∃ v, h'.Ns X.env.locals fun x => if x = n then v else m x) (hs : Heap.SameBut X.env.locals s.heap h') : Inv X pins (σ.set i none) H { s with heap := h', toks := t' } := by
  obtain ⟨m, hm, hl⟩ := id I.loc
  obtain ⟨v, hn'⟩ := hn m hm
  have cne := I.cne
  have up : ∀ b o, X.s₀.heap.get? b = some o → b ≠ X.env.locals := fun b o e => Nat.ne_of_lt (Nat.lt_of_lt_of_le (Heap.lt_size e) I.ok.above)
  refine ⟨I.ok, I.os, I.bare, ⟨fun b o e n hb hx => (hs.2 b (up b o e)).trans (I.base.keep b o e n hb hx), fun b o e n hb hx => ?_, I.base.free, fun b o e hx => ?_, I.base.tups, I.base.frzs, I.base.tbls⟩, ⟨_, hn', fun j y v' e1 e2 e3 => ?_⟩, fun y c e => ?_, I.free, I.freeC, fun p hp => ?_, fun b ob e => ?_, by simpa using I.len⟩
  · obtain ⟨sl, e1⟩ := I.base.slot b o e n hb hx
    exact ⟨sl, (hs.2 b (up b o e)).trans e1⟩
  · obtain ⟨o', e1⟩ := I.base.there b o e hx
    exact ⟨o', (hs.2 b (up b o e)).trans e1⟩
  · by_cases hj : j = i
    · subst hj
      rw [List.getElem?_set_self' ] at e2
      cases hq : σ[j]? with
      | none => rw [hq] at e2; cases e2
      | some w' => rw [hq] at e2; cases e2
    · rw [List.getElem?_set_ne (Ne.symm hj)] at e2
      obtain ⟨u', r', q⟩ := hl j y v' e1 e2 e3
      refine ⟨u', r', ?_⟩
      rcases q with ⟨k, e⟩ | ⟨k, c, e, z⟩
      · refine .inl ⟨k, ?_⟩
        have : y ≠ n := fun e => hj (nodup_ix hN e1 (e ▸ hi))
        simp [this, e]
      · exact .inr ⟨k, c, e, z.sameBut hs (cne y c e)⟩
  · obtain ⟨w', z⟩ := I.cell y c e
    exact ⟨w', z.sameBut hs (cne y c e)⟩
  · obtain ⟨e, n, ne, nf, d⟩ := I.pin p hp
    exact ⟨(hs.2 p.1 ne).trans e, n, ne, nf, d⟩
  · refine (I.hok b ob e).stay (fun c w' hc q => (hs.2 c ?_).trans q) (fun _ q => q) fun _ _ q => q
    rintro rfl
    have f := I.free
    rcases hc with rfl | hc
    · rw [f] at e; cases e
    · rw [f] at hc; cases hc

theorem ps_try {C : Addr} {x n : Str} {i : Nat} {np hpos pos : Pos} {body : List Stmt} {b₀ : Stmt} {suite : List Stmt} {tb : XS → TS} {th : Addr → TS} (hex : X.ex = []) (hfr : X.stack = X.env :: X.outer ∧ X.env.frame = some X.env.locals) (hN : X.N.Nodup)
    (hi : X.N[i]? = some n) (hk : X.env.scope.names.lookup n = some .local) (hg : Gl X x) (hm : X.mg x = some (.ref C)) (hb : ∀ pn xe E, Rs (X.pinWish pn xe) E → PSs (X.pinWish pn xe) body (tb E)) (hh : ∀ e, PSs (hnd X e) (b₀ :: suite) (th e))
    (hdb : (x == ("__debug__" : Str)) = false := by decide) : PS X (.Try body [.ExceptHandler (some (.Name x np)) (some n) (b₀ :: suite) hpos] [] [] pos) (tTry X.K C i tb th) := by
  intro pins s σ H D I h
  have ok := I.ok
  have hkc : (X.env.scope.kind == .class || (X.env.scope.kind == .module && X.env.locals != X.env.globals)) = false := by rw [I.ok.kind]; rfl
  -- behind the suite the name goes
  have goes : ∀ {σ2 : St} {H2 : Hp} {s2 : Shared} {Q : Unit → Shared → Prop} {A : Around} {E : Value → Shared → Prop} {e : Addr}, Inv (hnd X e) pins σ2 H2 s2 → (∀ s3, Inv X pins (σ2.set i none) H2 s3 → Q () s3) →
      wpAny (model X.prog X.w) A (do bindName X.env n .none; unbindBehindTheSuite X.env n hpos) Q E s2 := fun {σ2 H2 s2 Q A E e} I2 q => by
    have I2' := I2.unhnd ok
    obtain ⟨m, hnm, _⟩ := I2'.loc
    refine wpAny_nameGoes_keeps hk hnm hkc fun h' v hn' hs' => ?_
    refine q _ (I2'.drop (v := v) hN hi hk (fun m' hm' => ⟨v, ?_⟩) hs')
    obtain ⟨o, es, ep, ho, hd, hkk, hmm⟩ := hn'
    obtain ⟨o1, es1, ep1, ho1, hd1, hk1, hm1⟩ := hnm
    obtain ⟨o2, es2, ep2, ho2, hd2, hk2, hm2⟩ := hm'
    rw [ho1] at ho2; cases ho2
    rw [hd1] at hd2; cases hd2
    exact ⟨o, es, ep, ho, hd, hkk, fun y => by rw [hmm y]; by_cases hy : y = n <;> simp [hy, ← hm1, ← hm2]⟩
  let xe' : Value → Shared → Prop := fun e s₁ => wpAny (model X.prog X.w) X.A (noteFrame e X.env) (fun _ s₂ => wpAny (model X.prog X.w) X.A (setFlight e none) (fun _ s₃ => wpAny (model X.prog X.w) X.A (handleBy e X.env [.ExceptHandler (some (.Name x np)) (some n) (b₀ :: suite) hpos]) (SP X pins D) X.xe s₃) X.xe s₂) X.xe s₁
  have R : Rs (X.pinWish (X.pn ++ pins) xe') (fun cls od σ' H' => PySem.W.exmOne X.K cls (.ref C) = some true ∧ ∀ a, H' a = none → th a { nx := fun σ2 H2 => D.nx (σ2.set i none) H2, rt := D.rt, bk := fun σ2 H2 => D.bk (σ2.set i none) H2, ct := fun σ2 H2 => D.ct (σ2.set i none) H2 } (σ'.set i (some (.ref a))) (upd H' a (excO a cls od))) := by
    intro pins' σ' H' s' e cls od I' x' ⟨q1, q2⟩
    show wpAny _ _ _ _ _ s'
    refine leave_X (L := X.env.locals) (env := X.env) (outer := X.outer) (by rw [← hfr.1]; exact I.ok.frames) (by rw [← hfr.1]; exact I'.stack) hfr.2 x' I'.young fun h1 k1 k2 k3 x1 => ?_
    have I1 : Inv (X.pinWish (X.pn ++ pins) xe') pins' σ' H' { s' with heap := h1 } := I'.passed (t' := s'.toks) hfr (fun b o n nb => k1 b o n (by rw [← hfr.1]; exact nb)) (fun b o hb => k2 b o (by rw [← hfr.1]; exact hb)) k3
    have J1 : Inv X pins σ' H' { s' with heap := h1 } := I1.unpinWish ok
    refine wpAny_handleBy_cons (codeAny_handlers_test ?_) (by intro z; cases z)
    refine ld_glob (X := hnd X e) (J1.hnd e) hg hm ?_ hdb
    have LT : PySem.W.Looks (model X.prog X.w) h1 (typeOf (.ref e)) cls := by
      obtain ⟨_, _, oe, _, y4, y5, _⟩ := x1
      exact y5 ▸ (PySem.W.Looks.ld y4).andThen .now
    refine (PySem.W.exm_one (M := model X.prog X.w) J1.kIn LT q1).here ?_
    refine codeAny_handlers_suite_as ?_
    refine land_X x1 fun h2 m1 m2 m3 x2 => ?_
    have I2 : Inv (X.pinWish (X.pn ++ pins) xe') pins' σ' H' { s' with heap := h2 } := I1.passed (s := { s' with heap := h1 }) (t' := s'.toks) hfr (fun b o n nb e => m1 b o n e) (fun b o hb e => by
      obtain ⟨sl, z⟩ := m2 b o e
      refine ⟨sl, z ?_⟩
      rintro ⟨vs, hv⟩
      obtain ⟨_, o', ho', hnf⟩ := I1.stack.mem hb
      rw [e] at ho'; cases ho'; exact hnf vs hv) m3
    have J2 : Inv X pins σ' H' { s' with heap := h2 } := I2.unpinWish ok
    -- the exception is tracked
    have new : ObjOk X.prog X.w (upd H' e (excO e cls od)) h2 e (excO e cls od) := by
      obtain ⟨_, _, oe, vs, y4, y5, yd, y6, _, y7, _⟩ := x2
      exact ⟨⟨oe, vs, y4, y5, yd, y6, y7⟩, ⟨oe, y4⟩, fun ha hb ⟨o, vs, z1, z2, zd, z3, z4⟩ k => ⟨o, vs, k o z1, z2, zd, z3, z4⟩⟩
    have J3 : Inv X pins σ' (upd H' e (excO e cls od)) { s' with heap := h2 } := J2.stepN (s := { s' with heap := h2 }) (h' := h2) (g' := s'.gens) (d' := s'.drawn) (t' := s'.toks) (ch := [e]) (fun b hb => ?_) (fun b o _ _ _ q _ => q) (fun b o _ _ _ q _ => ⟨o.slots, q⟩) (fun b o hb q n => ?_)
      (fun b o _ q => ⟨o, q⟩) (fun b xs q => by rw [upd_ne (ne_of_none q x2.1)]; exact q) (fun b o u q => by rw [upd_ne (ne_of_none q x2.1)]; exact q) (fun b ps q => ⟨#[], by rw [upd_ne (ne_of_none q x2.1), q]; simp⟩) (fun m hm => hm) (J2.hok.track x2.1 new) J2.bare
    · refine store_ok (X := hnd X e) (i := i) (J3.hnd e) hN hi (Or.inl hk) (v := .ref e) rfl (fun s4 I4 => ?_) (Or.inr hk)
      refine wpAny_mono (hh e pins s4 _ _ _ I4 (q2 e x2.1)) (fun f s5 q5 => ?_) fun _ _ z => z.elim
      cases f with
      | next => obtain ⟨σ5, H5, I5, q5⟩ := q5; exact goes I5 fun s6 I6 => ⟨_, H5, I6, q5⟩
      | brk => obtain ⟨σ5, H5, I5, q5⟩ := q5; exact goes I5 fun s6 I6 => ⟨_, H5, I6, q5⟩
      | cont => obtain ⟨σ5, H5, I5, q5⟩ := q5; exact goes I5 fun s6 I6 => ⟨_, H5, I6, q5⟩
      | ret u => obtain ⟨v, σ5, H5, I5, r5, q5⟩ := q5; exact goes I5 fun s6 I6 => ⟨v, _, H5, I6, r5, q5⟩
    · have z := List.mem_singleton.mp hb
      subst z
      obtain ⟨y1, y2, oe, vs, y4, y5, _, y6, _⟩ := x2
      refine ⟨.inr y2.1, fun z => ?_, fun y c hc z => ?_, fun p hp => y2.2 p ?_⟩
      · obtain ⟨m, ⟨o', es, ep, ho', hd', _⟩, _⟩ := J2.loc
        rw [z] at y4
        rw [show h2.get? X.env.locals = some o' from ho'] at y4; cases y4; rw [hd'] at y6; cases y6
      · obtain ⟨v, o', ho', hd'⟩ := J2.cell y c hc
        rw [z] at ho'
        rw [show h2.get? _ = some o' from ho'] at y4; cases y4; rw [hd'] at y6; cases y6
      · exact List.mem_append_left _ hp
    · rw [upd_ne (by intro z; exact hb (by simp [z]))]; exact n
  refine wpAny_Try_except (wpAny_mono (hb (X.pn ++ pins) xe' _ R [] s σ H D (I.pinWish xe') h) (fun f s1 q => ?_) fun _ _ q => q)
  cases f with
  | next => obtain ⟨σ5, H5, I5, q5⟩ := q; exact wpAny_execs_nil ⟨σ5, H5, I5.unpinWish ok, q5⟩
  | brk => obtain ⟨σ5, H5, I5, q5⟩ := q; exact ⟨σ5, H5, I5.unpinWish ok, q5⟩
  | cont => obtain ⟨σ5, H5, I5, q5⟩ := q; exact ⟨σ5, H5, I5.unpinWish ok, q5⟩
  | ret u => obtain ⟨v, σ5, H5, I5, r5, q5⟩ := q; exact ⟨v, σ5, H5, I5.unpinWish ok, r5, q5⟩
end
end L2

namespace L2
open PySem PySem.Spec PyProof.Rows
section
variable {prog : Program} {w : World} {A : Around} {E : Value → Shared → Prop} {h : Heap} {g : Array GenState} {d : Drawn} {t : Nat} {os : OsState} {a C : Addr} {o : Obj} {K : PySem.W.Frag}

/-- what an own exception's class must have, for __class__ -/
structure ExcC (K : PySem.W.Frag) (C : Addr) : Prop where
  ga : PySem.W.findIn K (.ref C) "__getattribute__" = some (some (.builtin "BaseException.__getattribute__"))
  gt : PySem.W.findIn K (.ref C) "__getattr__" = some none
  cl : PySem.W.findIn K (.ref C) "__class__" = some (some (.builtin "object.__class__"))
  be : PySem.W.subIn K (.ref C) (.type "BaseException") = some true
  ob : PySem.W.subIn K (.ref C) (.type "object") = some true
  is : (PySem.W.clsIn K C).isSome = true

theorem xc_get {R : Result → Shared → Prop} (X : K.In h) (c : ExcC K C) (hx : h.get? a = some o) (hc : o.cls = .ref C) (hq : R (.ok (.ret (.ref C))) ⟨h, g, d, t, os⟩) :
    codeAny (model prog w) A (.call (.builtin "getset_descriptor.__get__") ⟨[.builtin "object.__class__", .ref a, .ref C], []⟩) R ⟨h, g, d, t, os⟩ := by
  have hT5 : (⟨h, g, d, t, os⟩ : Shared).TypeIs (.builtin "object.__class__") "getset_descriptor" := F.typeOf_object_class
  have hs : PySem.W.Looks (model prog w) h (isSubtype (.ref C) (.type (".".intercalate ("object.__class__".cutAt '.').dropLast))) true := by
    rw [F.owner_object_class]; exact PySem.W.looks_subIn X c.ob
  refine codeAny_call_builtin F.slot_gs_get.plain F.entry_gs_get (F.slot_gs_get.check _ _ _ _ _ _ _ _ hT5 (F.args_gs_get _ _ _) ?_)
  repeat (any_goals (first | assumption | (with_reducible refine wpAny_loadPart_at hx ?_; rw [hc]) | with_reducible refine hs.at ?_ | wp_step))
  refine ⟨Code.quiet_builtin _ (by decide +kernel), codeAny_builtin F.entry_object_class ?_⟩
  repeat (any_goals (first | assumption | (with_reducible refine wpAny_loadPart_at hx ?_; rw [hc]) | wp_step))

theorem xc_entry {tk : Tok} {Q : Fin → Shared → Prop} (X : K.In h) (c : ExcC K C) (hx : h.get? a = some o) (hc : o.cls = .ref C) (hq : Q (.done (.ret (.ref C))) ⟨h, g, d, t, os⟩) :
    wpAny (model prog w) A (Builtin.«object.__getattribute__» ⟨[.ref a, .str "__class__" tk], []⟩) Q E ⟨h, g, d, t, os⟩ := by
  have hT5 : (⟨h, g, d, t, os⟩ : Shared).TypeIs (.builtin "object.__class__") "getset_descriptor" := F.typeOf_object_class
  have hl : PySem.W.Looks (model prog w) h (typeLookup (.ref C) "__class__") (some (.builtin "object.__class__")) := PySem.W.looks_findIn X c.cl
  have f5 := F.typeOf_object_class
  have f6 := F.slot_gs_get.lookup
  have f7 := F.slot_gs_set.lookup
  repeat (any_goals (first | assumption | (with_reducible refine wpAny_loadPart_at hx ?_; rw [hc]) | with_reducible refine hl.at ?_ | wp_step))
  refine xc_get X c hx hc ?_
  repeat (any_goals (first | assumption | wp_step))

theorem xc_check {M : Model} {nameV : Value} {Q : Unit → Shared → Prop} (X : K.In h) (c : ExcC K C) (hx : h.get? a = some o) (hc : o.cls = .ref C) (hq : Q () ⟨h, g, d, t, os⟩) :
    wpAny M A (checkBuiltinCall "BaseException.__getattribute__" ⟨[.ref a, nameV], []⟩) Q E ⟨h, g, d, t, os⟩ := by
  have hk : builtinKind "BaseException.__getattribute__" = some .slot := by decide +kernel
  have hsplit : splitId "BaseException.__getattribute__" = some ("BaseException", "__getattribute__") := by decide +kernel
  have hs : PySem.W.Looks M h (isSubtype (.ref C) (.type "BaseException")) true := PySem.W.looks_subIn X c.be
  have ha := F.args_bexc_ga (.ref a) nameV
  simp only [checkBuiltinCall, hk, hsplit]
  refine wpAny_bind ?_
  unfold isInstance
  repeat (first | (with_reducible refine wpAny_loadPart_at hx ?_; rw [hc]) | with_reducible refine hs.at ?_ | wp_step)
  exact hq

theorem xc_call {tk : Tok} {R : Result → Shared → Prop} (X : K.In h) (c : ExcC K C) (hx : h.get? a = some o) (hc : o.cls = .ref C) (hq : R (.ok (.ret (.ref C))) ⟨h, g, d, t, os⟩) :
    codeAny (model prog w) A (.call (.builtin "BaseException.__getattribute__") ⟨[.ref a, .str "__class__" tk], []⟩) R ⟨h, g, d, t, os⟩ :=
  codeAny_call_builtin F.attr_ValueError.ga.plain F.entry_bexc_ga (xc_check X c hx hc (xc_entry X c hx hc hq))

theorem xc_by {tk : Tok} {Q : Value → Shared → Prop} (X : K.In h) (c : ExcC K C) (hx : h.get? a = some o) (hc : o.cls = .ref C) (hq : Q (.ref C) ⟨h, g, d, t, os⟩) :
    wpAny (model prog w) A (getAttrBy (.ref a) (.str "__class__" tk) false) Q E ⟨h, g, d, t, os⟩ := by
  have f3 := F.attr_ValueError.ga.bind (.ref a)
  have hx0 : (false && onTheHeap (Value.builtin "BaseException.__getattribute__")) = false := rfl
  have hx2 : (Value.builtin "BaseException.__getattribute__" == Value.builtin "object.__getattribute__") = false := by decide +kernel
  have hx1 : (onTheHeap (Value.ref C) && Value.builtin "BaseException.__getattribute__" == Value.builtin "object.__getattribute__") = false := by rw [hx2]; rfl
  have l1 : PySem.W.Looks (model prog w) h (typeLookup (.ref C) "__getattribute__") (some (.builtin "BaseException.__getattribute__")) := PySem.W.looks_findIn X c.ga
  have l2 : PySem.W.Looks (model prog w) h (typeLookup (.ref C) "__getattr__") none := PySem.W.looks_findIn X c.gt
  repeat (any_goals (first | assumption | (with_reducible refine wpAny_loadPart_at hx ?_; rw [hc]) | with_reducible refine l1.at ?_ | with_reducible refine l2.at ?_ | wp_step))
  refine xc_call X c hx hc ?_
  repeat (any_goals (first | assumption | wp_step))

theorem xc_attr {Q : Option Value → Shared → Prop} (X : K.In h) (c : ExcC K C) (hx : h.get? a = some o) (hc : o.cls = .ref C) (hq : Q (some (.ref C)) ⟨h, g, d, t + 1, os⟩) : wpAny (model prog w) A (getAttr? (.ref a) "__class__") Q E ⟨h, g, d, t, os⟩ := by
  unfold getAttr? getAttrBy?
  repeat (any_goals (first | assumption | with_reducible apply xc_by X c hx hc | wp_step))

theorem kitx_exc {od : Option Addr} (c : ExcC K C) : PySem.W.KitX K (.ref a) (.ref C) (fun h => ∃ o vs, h.get? a = some o ∧ o.cls = .ref C ∧ o.dict = od ∧ o.data = .fields vs ∧ vs[2]? = some .none) where
  ty := fun _ _ _ ⟨o, vs, h1, h2, _⟩ => h2 ▸ (PySem.W.Looks.ld h1).andThen .now
  it := fun _ _ X _ => by
    have hcD := c.is
    unfold PySem.W.clsIn at hcD
    split at hcD
    · rename_i c' d' cd' sl' ho
      intro A' Q' E' s' k q
      unfold isType loadHead
      exact wpAny_bind (wpAny_loadPart (k _ _ (X _ _ ho)) (wpAny_pure q))
    · cases hcD
  ne := fun h tp dd its n sl X htp => by
    have hcD := c.is
    refine Bool.eq_false_iff.mpr fun q => ?_
    have e : C = tp := Value.ref.inj (beq_iff_eq.mp q)
    subst e
    unfold PySem.W.clsIn at hcD
    split at hcD
    · rename_i c' d' cd' sl' ho
      have z := (X _ _ ho).symm.trans htp
      cases z
    · cases hcD
  ca := fun {_ _ _ _ _ s} X ⟨o, vs, h1, h2, _⟩ k => by
    obtain ⟨h, g, d, t, os⟩ := s
    exact xc_attr X c h1 h2 k
end
end L2

namespace L2
open PySem PySem.Spec PyProof.Rows
section
variable {X : Cx}

/-! ### isinstance -/
inductive TyX (K : PySem.W.Frag) (H : Hp) : V → Value → Prop where
  | of {x : V} {t : Value} (h : TyOf K H x t) : TyX K H x t
  | exc {a C : Addr} {od : Option Addr} (e : H a = some (excO a (.ref C) od)) (c : ExcC K C) : TyX K H (.ref a) (.ref C)
noncomputable def clsV : V → Option Value
  | .ref a => some (.ref a)
  | .ty n => some (.type n)
  | _ => none
noncomputable def rIsi (K : PySem.W.Frag) : List V → Hp → VK → Prop := fun xs H Q => ∃ x c t cv b, xs = [x, c] ∧ clsV c = some cv ∧ TyX K H x t ∧ PySem.W.kitOne K t cv = some b ∧ Q (.bl b) H
theorem call_isi : CallR X (.builtin "isinstance") (rIsi X.K) := by
  intro pins s σ H xs us Q I r h
  obtain ⟨x, c, t, cv, b, rfl, rc, ty, kt, q⟩ := h
  obtain ⟨u, w', rfl, ru, rw'⟩ := vals2 r
  have ecv : w' = cv := by
    cases c with
    | ref a => cases rw'; exact Option.some.inj rc
    | ty n => cases rw'; exact Option.some.inj rc
    | non => cases rc
    | bl _ => cases rc
    | int _ => cases rc
    | str _ => cases rc
    | byt _ => cases rc
    | flt _ => cases rc
  subst ecv
  cases ty with
  | of ty => exact isinst_ok I ru ty kt fun tk => ⟨.bl b, H, I.tok tk, rfl, q⟩
  | @exc a C od e c =>
    cases (show u = Value.ref a from ru)
    obtain ⟨p, _, _⟩ := (show ObjOk X.prog X.w H s.heap a (excO a (.ref C) od) from I.hok a _ e)
    exact PySem.W.kia_one (kitx_exc c) I.kIn p kt (fun z => nomatch z) fun tk => ⟨.bl b, H, I.tok tk, rfl, q⟩

/-! ### == and != of flat lists and tuples -/
noncomputable def eqVs : List V → List V → Bool
  | [], [] => true
  | x :: xs, y :: ys => eqV x y && eqVs xs ys
  | _, _ => false
theorem eqVs_spec : ∀ (xs ys : List V), eqVs xs ys = (xs.length == ys.length && (List.range xs.length).all fun j => match xs[j]?, ys[j]? with | some x, some y => eqV x y | _, _ => true)
  | [], [] => rfl
  | [], _ :: _ => rfl
  | _ :: _, [] => rfl
  | x :: xs, y :: ys => by
    rw [eqVs, eqVs_spec xs ys]
    simp only [List.length_cons, List.range_succ_eq_map, List.all_cons, List.all_map]
    have h1 : (xs.length + 1 == ys.length + 1) = (xs.length == ys.length) := by
      by_cases h : xs.length = ys.length
      · simp [h]
      · have : ¬ xs.length + 1 = ys.length + 1 := by omega
        simp [h]
    rw [h1]
    simp only [List.getElem?_cons_zero, Function.comp_def, List.getElem?_cons_succ]
    cases eqV x y <;> cases (xs.length == ys.length) <;> simp
noncomputable def rEqSq (K : PySem.W.Frag) (neg : Bool) : R2 := fun x y H Q => ∃ p q xs ys, x = .ref p ∧ y = .ref q ∧ ((SqL K H p xs ∧ SqL K H q ys) ∨ (SqT K H p xs ∧ SqT K H q ys)) ∧ xs.all flatV = true ∧ ys.all flatV = true ∧ Q (.bl (if neg then !eqVs xs ys else eqVs xs ys)) H

/-! ### great numbers -/
noncomputable def CDivB (i j : Int) : Prop := j ≠ 0 ∧ j.natAbs < 2 ^ 4000
theorem log2_small {n : Nat} (h : n < 2 ^ 4000) : n.log2 < 9000 := by
  by_cases hn : n = 0
  · subst hn; decide
  · have := (Nat.log2_lt hn).mpr h
    omega
theorem op_fdivB : OpR X (binaryOp .FloorDiv) (rI CDivB fun i j => .int (i.fdiv j)) := opI fun _ _ _ _ _ _ _ hc q => floordiv_int hc.1 q (.inl (PyProof.noPylong_of_log2 (log2_small hc.2)))
noncomputable def CMulB (i j : Int) : Prop := i.natAbs < 2 ^ 4000 ∧ j.natAbs < 2 ^ 4000
theorem op_mulB : OpR X (binaryOp .Mult) (rI CMulB fun i j => .int (i * j)) := opI fun _ _ _ _ _ _ _ hc q => mul_int q (IntMulOk.of_le (PySem.intBits_le_iff.mpr hc.1) (PySem.intBits_le_iff.mpr hc.2) (by decide))
end
end L2

namespace L2
open PySem PySem.Spec PyProof.Rows

/-! ### a def of the text, and what it promises, in short -/
structure Def (K : PySem.W.Frag) (mg : Str → Option Value) (x : Str) (st : Stmt) (ps : List Str) : Prop where
  ex : ∃ (f : Addr) (fd : FuncData), Fun K x x st f fd ∧ mg x = some (.ref f) ∧ Binds K fd ps []
structure Cal (P : Program) (w : World) (K : PySem.W.Frag) (mg : Str → Option Value) (base : Heap) (CX : CXT) (k : Nat) (x : Str) (ps : List Str) (sp : Sp) : Prop where
  ex : ∃ (f : Addr) (fd : FuncData), FnOk P w K mg base CX k f fd ps sp ∧ mg x = some (.ref f) ∧ PySem.W.keepIn K (.ref f) = true ∧ Binds K fd ps []
section
variable {P : Program} {w : World} {K : PySem.W.Frag} {mg : Str → Option Value} {base : Heap} {x : Str} {st : Stmt} {ps N : List Str} {sp : Sp} {k : Nat}
theorem Def.ok (D : Def K mg x st ps) (S : FnScope N ps (defScope st)) (len : ∀ vs H Q E, sp vs H Q E → vs.length = ps.length)
    (hbody : ∀ (f : Addr) (cdv : Value) (A : Around) (outer : List Env) (s : Shared) (H : Hp) (vs : List V) (Q : VK) (E : XK), Room k (A.deeper (envOfC x (defScope st) s.heap.objs.size f cdv)) → sp vs H Q E →
      ∃ t, PSs (cxOf CX0 P w K mg base N x (defScope st) f cdv A outer s H E).nox (defBody st) t ∧ t { nx := fun _ H' => Q .non H', rt := Q } (start N vs) H) : Cal P w K mg base CX0 (k + 1) x ps sp := by
  obtain ⟨f, fd, F, hm, hb⟩ := D.ex
  exact ⟨f, fd, F.ok S len (fun cdv A outer s H vs Q E hr h => hbody f cdv A outer s H vs Q E hr h), hm, F.kp, hb⟩
theorem Def.okX (D : Def K mg x st ps) (S : FnScope N ps (defScope st)) (len : ∀ vs H Q E, sp vs H Q E → vs.length = ps.length)
    (hbody : ∀ (f : Addr) (cdv : Value) (A : Around) (outer : List Env) (s : Shared) (H : Hp) (vs : List V) (Q : VK) (E : XK), Room k (A.deeper (envOfC x (defScope st) s.heap.objs.size f cdv)) → sp vs H Q E →
      Rs (cxOf (CX1 P w) P w K mg base N x (defScope st) f cdv A outer s H E) (fun c od _ H' => E c od H') →
      ∃ t, PSs (cxOf (CX1 P w) P w K mg base N x (defScope st) f cdv A outer s H E) (defBody st) t ∧ t { nx := fun _ H' => Q .non H', rt := Q } (start N vs) H) : Cal P w K mg base (CX1 P w) (k + 1) x ps sp := by
  obtain ⟨f, fd, F, hm, hb⟩ := D.ex
  exact ⟨f, fd, F.okX S len (fun cdv A outer s H vs Q E hr h R => hbody f cdv A outer s H vs Q E hr h R), hm, F.kp, hb⟩
theorem def_mk {h : Heap} {f : Addr} {oc : Value} {od an : Option Addr} {osl : Array (Option Value)} {kV doc pm cdv ct : Value} (X : K.In h) (G : h.Ns mainGlobals mg) (a : PySem.W.nsIn K mainGlobals x = some (some (.ref f)))
    (l : K.lookup f = some ⟨oc, od, .func (PySem.W.fnOf x x (defArgs st) (defBody st) (defScope st) .none kV doc pm an cdv ct), osl⟩) (c : PySem.W.codeIn K cdv x = true) (kp : PySem.W.keepIn K (.ref f) = true)
    (hb : ∀ (kV doc pm : Value) (an : Option Addr) (cdv ct : Value) (us : List Value), us.length = ps.length → bindArgs (PySem.W.fnOf x x (defArgs st) (defBody st) (defScope st) .none kV doc pm an cdv ct) ⟨us, []⟩ = pure (ps.zip us)) : Def K mg x st ps := by
  have F := fun_mk (st := st) l c kp
  exact ⟨f, _, F, PySem.W.mg_of X G a, F.binds hb⟩
end
section
variable {X : Cx} {k : Nat} {x : Str} {ps : List Str} {sp : Sp} {p pos : Pos} {e : Expr} {es : List Expr} {t : TA}
/-- f(..) of a def that raises nothing -/
theorem pe_cal (C : Cal X.prog X.w X.K X.mg X.base CX0 k x ps sp) (hr : Room k X.A) (ha : PA X (e :: es) t) (hg : Gl X x := by rfl) (hdb : (x == ("__debug__" : Str)) = false := by decide)
    (he : starEach (e :: es) X.env = (false, eval e X.env) :: starEach es X.env := by rfl) (hpl : (backTo pos (starEach es X.env)).any (·.1) = false := by rfl) :
    PE X (.Call (.Name x p) (e :: es) [] pos) (tCall sp [] E0 t) := by
  obtain ⟨f, fd, F, hm, kp, hb⟩ := C.ex
  exact pe_call F hr hg hm kp hb .nil pass0 ha hdb he hpl
theorem pe_calX {E : XS} (C : Cal X.prog X.w X.K X.mg X.base (CX1 X.prog X.w) k x ps sp) (hr : Room k X.A) (R : Rs X E) (ha : PA X (e :: es) t) (hex : X.ex = [] := by rfl) (hg : Gl X x := by rfl) (hdb : (x == ("__debug__" : Str)) = false := by decide)
    (he : starEach (e :: es) X.env = (false, eval e X.env) :: starEach es X.env := by rfl) (hpl : (backTo pos (starEach es X.env)).any (·.1) = false := by rfl) :
    PE X (.Call (.Name x p) (e :: es) [] pos) (tCallX sp [] E t) := by
  obtain ⟨f, fd, F, hm, kp, hb⟩ := C.ex
  exact pe_callX F hr hg hm kp hb .nil R hex ha hdb he hpl
end
/-- the room within a body's frame, for a call -/
theorem Room.sub {j k : Nat} {A : Around} (r : Room k A) (h : j ≤ k := by decide) : Room j A := r.mono h

/-! ### heaps that only grow -/
theorem Same.new {H : Hp} {p : Addr} {o : HO} (h : H p = none) : Same H (upd H p o) := fun b u e => by rw [upd_ne (ne_of_none e h)]; exact e
theorem Same.upd {H H' : Hp} {p : Addr} {o : HO} (s : Same H H') (h : H p = none) : Same H (L2.upd H' p o) := fun b u e => by rw [upd_ne (ne_of_none e h)]; exact s b u e
/-- a list of ints -/
noncomputable abbrev zV (ns : List Int) : List V := ns.map V.int
theorem zs_get {ns : List Int} {i : Nat} {x : V} (h : (zV ns)[i]? = some x) : ∃ n, ns[i]? = some n ∧ x = .int n := by
  rw [List.getElem?_map] at h
  cases e : ns[i]? with
  | none => rw [e] at h; cases h
  | some z => rw [e] at h; exact ⟨z, rfl, (Option.some.inj h).symm⟩
theorem zs_at {ns : List Int} {i : Nat} {n : Int} (h : ns[i]? = some n) : atI (zV ns) (i : Int) = some (.int n) := atI_nat (by rw [List.getElem?_map, h]; rfl)
theorem zs_flat (ns : List Int) : (zV ns).all flatV = true := by
  rw [List.all_eq_true]
  intro x hx
  obtain ⟨n, _, rfl⟩ := List.mem_map.mp hx
  rfl

/-! ### comprehensions that only make new things -/
/-- over a list, no test -/
theorem comp_list {K : PySem.W.Frag} {a : Addr} {xs : List V} {te : TE} {σ : St} {H : Hp} {Q : VK} (f : V → V) (hl : SqL K H a xs) (hz : xs.length ≤ sizeLine)
    (he : ∀ (i : Nat) x H' Q', xs[i]? = some x → Same H H' → (∀ H'', Same H' H'' → Q' (f x) H'') → te (some x :: σ) H' Q')
    (hd : ∀ p H', Same H H' → H p = none → H' p = some (.lst (xs.map f)) → Q (.ref p) H') : ∃ W, (∃ m, W 0 m [] H) ∧ CompW (Itl K a) tYes te σ Q W := by
  refine ⟨fun i m ys H' => m = xs.length - i ∧ i ≤ xs.length ∧ ys = (xs.take i).map f ∧ Same H H', ⟨xs.length, by simp, Nat.zero_le _, by simp, .refl H⟩, ?_⟩
  rintro i m ys H' ⟨rfl, hi, rfl, s⟩
  have q := s.seq hl
  by_cases hlt : i < xs.length
  · refine .inr ⟨⟨xs, xs[i], q, by simp [hlt]⟩, by rw [List.length_map, List.length_take]; omega, fun x H2 y => ?_⟩
    obtain ⟨e, y⟩ := y
    subst e
    have hx := y xs q
    simp only [tYes, if_true]
    refine he i x _ _ hx s fun H'' s' => ⟨xs.length - (i + 1), by omega, rfl, hlt, ?_, s.trans s'⟩
    rw [List.take_add_one, hx]; simp
  · have e : i = xs.length := by omega
    subst e
    refine .inl ⟨⟨xs, q, Nat.le_refl _⟩, by rw [List.length_map, List.length_take]; omega, fun p hp => hd p _ (s.upd (s.free hp)) (s.free hp) ?_⟩
    rw [upd_same, List.take_length]
/-- over a list, with a test -/
theorem comp_listF {K : PySem.W.Frag} {a : Addr} {xs : List V} {tt : TT} {te : TE} {σ : St} {H : Hp} {Q : VK} (c : V → Bool) (f : V → V) (hl : SqL K H a xs) (hz : xs.length ≤ sizeLine)
    (ht : ∀ (i : Nat) x H' Q', xs[i]? = some x → Same H H' → (∀ H'', Same H' H'' → Q' (c x) H'') → tt (some x :: σ) H' Q')
    (he : ∀ (i : Nat) x H' Q', xs[i]? = some x → c x = true → Same H H' → (∀ H'', Same H' H'' → Q' (f x) H'') → te (some x :: σ) H' Q')
    (hd : ∀ p H', Same H H' → H p = none → H' p = some (.lst ((xs.filter c).map f)) → Q (.ref p) H') : ∃ W, (∃ m, W 0 m [] H) ∧ CompW (Itl K a) tt te σ Q W := by
  refine ⟨fun i m ys H' => m = xs.length - i ∧ i ≤ xs.length ∧ ys = ((xs.take i).filter c).map f ∧ Same H H', ⟨xs.length, by simp, Nat.zero_le _, by simp, .refl H⟩, ?_⟩
  rintro i m ys H' ⟨rfl, hi, rfl, s⟩
  have q := s.seq hl
  have hlen : (((xs.take i).filter c).map f).length ≤ i := by
    rw [List.length_map]; exact Nat.le_trans (List.length_filter_le _ _) (by rw [List.length_take]; omega)
  by_cases hlt : i < xs.length
  · refine .inr ⟨⟨xs, xs[i], q, by simp [hlt]⟩, by omega, fun x H2 y => ?_⟩
    obtain ⟨e, y⟩ := y
    subst e
    have hx := y xs q
    refine ht i x _ _ hx s fun H3 s3 => ?_
    cases hc : c x with
    | true =>
      rw [if_pos rfl]
      refine he i x _ _ hx hc (s.trans s3) fun H'' s' => ⟨xs.length - (i + 1), by omega, rfl, hlt, ?_, (s.trans s3).trans s'⟩
      rw [List.take_add_one, hx]; simp [hc]
    | false =>
      rw [if_neg (by decide)]
      refine ⟨xs.length - (i + 1), by omega, rfl, hlt, ?_, s.trans s3⟩
      rw [List.take_add_one, hx]; simp [hc]
  · have e : i = xs.length := by omega
    subst e
    refine .inl ⟨⟨xs, q, Nat.le_refl _⟩, by omega, fun p hp => hd p _ (s.upd (s.free hp)) (s.free hp) ?_⟩
    rw [upd_same, List.take_length]
/-- over a range, no test -/
theorem comp_range {n : Nat} {te : TE} {σ : St} {H : Hp} {Q : VK} (f : Nat → V) (hz : n ≤ sizeLine)
    (he : ∀ i H' Q', i < n → Same H H' → (∀ H'', Same H' H'' → Q' (f i) H'') → te (some (.int (0 + (i : Int))) :: σ) H' Q')
    (hd : ∀ p H', Same H H' → H p = none → H' p = some (.lst ((List.range n).map f)) → Q (.ref p) H') : ∃ W, (∃ m, W 0 m [] H) ∧ CompW (Itr 0 n) tYes te σ Q W := by
  refine ⟨fun i m ys H' => m = n - i ∧ i ≤ n ∧ ys = (List.range i).map f ∧ Same H H', ⟨n, by simp, Nat.zero_le _, by simp, .refl H⟩, ?_⟩
  rintro i m ys H' ⟨rfl, hi, rfl, s⟩
  by_cases hlt : i < n
  · refine .inr ⟨hlt, by rw [List.length_map, List.length_range]; omega, fun x H2 y => ?_⟩
    obtain ⟨e, y⟩ := y
    subst e y
    simp only [tYes, if_true]
    refine he i _ _ hlt s fun H'' s' => ⟨n - (i + 1), by omega, rfl, hlt, ?_, s.trans s'⟩
    rw [List.range_succ]; simp
  · have e : i = n := by omega
    subst e
    refine .inl ⟨Nat.le_refl _, by rw [List.length_map, List.length_range]; omega, fun p hp => hd p _ (s.upd (s.free hp)) (s.free hp) ?_⟩
    rw [upd_same]
end L2

namespace L2
open PySem PySem.Spec PyProof.Rows

theorem bt_len : bootBuiltins "len" = some (.builtin "len") := by decide +kernel
theorem bt_abs : bootBuiltins "abs" = some (.builtin "abs") := by decide +kernel
theorem bt_isinstance : bootBuiltins "isinstance" = some (.builtin "isinstance") := by decide +kernel
theorem bt_any : bootBuiltins "any" = some (.builtin "any") := by decide +kernel
theorem bt_int : bootBuiltins "int" = some (.type "int") := by decide +kernel
theorem bt_bool : bootBuiltins "bool" = some (.type "bool") := by decide +kernel
theorem bt_str : bootBuiltins "str" = some (.type "str") := by decide +kernel
theorem bt_list : bootBuiltins "list" = some (.type "list") := by decide +kernel
theorem bt_tuple : bootBuiltins "tuple" = some (.type "tuple") := by decide +kernel
theorem bt_ValueError : bootBuiltins "ValueError" = some (.type "ValueError") := by decide +kernel

section
variable {X : Cx} {x : Str} {pos : Pos}
theorem pe_gR {a : Addr} (hm : X.mg x = some (.ref a)) (hg : Gl X x := by rfl) (hd : (x == ("__debug__" : Str)) = false := by decide) : PE X (.Name x pos) (tC (.ref a)) := pe_glob hg hm rfl hd
theorem pe_gI {i : Int} (hm : ∃ t, X.mg x = some (.int i t)) (hg : Gl X x := by rfl) (hd : (x == ("__debug__" : Str)) = false := by decide) : PE X (.Name x pos) (tC (.int i)) := by
  obtain ⟨t, hm⟩ := hm
  exact pe_glob hg hm ⟨_, rfl⟩ hd
theorem pe_bT {T : String} (hm : X.mg x = none) (hv : bootBuiltins x = some (.type T)) (hg : Gl X x := by rfl) (hn : x ≠ "__name__" := by decide) (hd : (x == ("__debug__" : Str)) = false := by decide) : PE X (.Name x pos) (tC (.ty T)) := pe_bltn hg hm hv rfl hn hd

/-! ### any, all of a list; bit_length -/
noncomputable def truV : V → Bool
  | .int i => i != 0
  | .bl b => b
  | _ => false
noncomputable def truAt (ys : List V) (i : Nat) : Bool := match ys[i]? with | some y => truV y | none => false
noncomputable def plainT : V → Bool
  | .int _ => true
  | .bl _ => true
  | _ => false
theorem tru_of {prog : Program} {w : World} {A : Around} {s : Shared} {Q : Bool → Shared → Prop} {E : Value → Shared → Prop} {y : V} {v : Value} (r : RelV y v) (p : plainT y = true) (h : Q (truV y) s) : wpAny (model prog w) A (truthy v) Q E s := by
  cases y with
  | int i => obtain ⟨t, rfl⟩ := r; exact PyProof.Rows.truthy_int h
  | bl b => cases r; exact wpAny_truthy_bool h
  | non => cases p
  | str _ => cases p
  | byt _ => cases p
  | flt _ => cases p
  | ref _ => cases p
  | ty _ => cases p
theorem truths {prog : Program} {w : World} {A : Around} {ys : List V} {its : List Value} (r : Vals ys its) (p : ys.all plainT = true) :
    TruthOf prog w A (fun i v => its.toArray[i]? = some v) (truAt ys) := by
  intro i v s Q E hv hq
  have l := r.length
  have hv' : its[i]? = some v := by simpa using hv
  have hi := (List.getElem?_eq_some_iff.mp hv').1
  have e : ys[i]? = some ys[i] := List.getElem?_eq_getElem (by omega)
  obtain ⟨u, hu, ru⟩ := r.get e
  rw [hv'] at hu; cases hu
  have hq' : Q (truAt ys i) s := hq
  rw [truAt, e] at hq'
  exact tru_of ru (List.all_eq_true.mp p _ (List.getElem_mem _)) hq'
theorem any_ix : ∀ (ys : List V), (List.range ys.length).any (truAt ys) = ys.any truV
  | [] => rfl
  | y :: ys => by
    rw [List.length_cons, List.range_succ_eq_map, List.any_cons, List.any_map, List.any_cons, ← any_ix ys]
    rfl
theorem call_any (hc : X.calm = true) : CallR X (.builtin "any") (fun xs H Q => ∃ p ys, xs = [.ref p] ∧ SqL X.K H p ys ∧ ys.all plainT = true ∧ Q (.bl (ys.any truV)) H) := by
  intro pins s σ H xs us Q I r h
  obtain ⟨p, ys, rfl, hq, hp, q⟩ := h
  obtain ⟨u, rfl, rx⟩ := vals1 r
  cases rx
  obtain ⟨its, r', pl, hz⟩ := I.list hq
  have hl := pl.isList
  have hlt : p < s.heap.objs.size := by obtain ⟨o, ho, _⟩ := hl; exact Heap.lt_size ho
  refine call_any_walk (wpAny_pyIter_list hl ?_)
  refine ⟨_, _, _, its.toArray.size, _, _, _, rfl, Walks.list (show X.A.in1.handled = none from I.ok.hd hc) s.heap.objs.size p (Nat.ne_of_lt hlt) its.toArray, ⟨⟨_, Heap.get?_push_size _ rfl, rfl, rfl⟩, hl.at fun o e => Heap.get?_push_of_some _ e⟩, truths r' hp, fun h' tk k => ?_⟩
  have e : (List.range its.toArray.size).any (truAt ys) = ys.any truV := by rw [List.size_toArray, ← r'.length]; exact any_ix ys
  rw [e]
  exact ⟨.bl _, H, I.kept (t' := tk) fun b o eb => k b o (fun z => absurd (Heap.lt_size eb) (by rw [List.mem_singleton.mp z]; exact Nat.lt_irrefl _)) (Heap.get?_push_of_some _ eb), rfl, q⟩
theorem mt_bit_length : MtR X "int.bit_length" (fun x xs H Q => ∃ i : Int, x = .int i ∧ xs = [] ∧ Q (.int (Builtin.Int.intBits i)) H) := by
  intro pins s σ H x xs v us Q I rx rv h
  obtain ⟨i, rfl, rfl, q⟩ := h
  obtain ⟨t, rfl⟩ := rx
  obtain rfl := rv.zero
  exact PyProof.Rows.call_int_bit_length ⟨.int _, H, I.tok _, ⟨_, rfl⟩, q⟩
theorem zs_plain (ns : List Int) : (zV ns).all plainT = true := by
  rw [List.all_eq_true]
  intro x hx
  obtain ⟨n, _, rfl⟩ := List.mem_map.mp hx
  rfl
theorem zs_any (ns : List Int) : (zV ns).any truV = ns.any (· != 0) := by
  rw [List.any_map]; rfl
end
end L2

namespace L2
open PySem PySem.Spec PyProof.Rows
/-! ### the rules whose readings name the written part, with that part named: for a block's context and a handler's -/
section
variable {X : Cx} {tg : Expr} (K : PySem.W.Frag)
theorem ix_listK (h : X.K = K := by rfl) : IxR X (rIxL K) := h ▸ ix_list
theorem ix_tupK (h : X.K = K := by rfl) : IxR X (rIxT K) := h ▸ ix_tup
theorem call_lenK (h : X.K = K := by rfl) : CallR X (.builtin "len") (fun xs H Q => ∃ p ys, xs = [.ref p] ∧ (SqL K H p ys ∨ SqT K H p ys) ∧ Q (.int ys.length) H) := h ▸ call_len_seq
theorem call_isiK (h : X.K = K := by rfl) : CallR X (.builtin "isinstance") (rIsi K) := h ▸ call_isi
theorem op_inK (h : X.K = K := by rfl) : OpR X (compareOp .In) (rIn K false) := h ▸ op_in_seq
theorem op_notInK (h : X.K = K := by rfl) : OpR X (compareOp .NotIn) (rIn K true) := h ▸ op_notIn_seq
theorem sl_listK (h : X.K = K := by rfl) : SlR X (rSlL K) := h ▸ sl_list
theorem call_listK (h : X.K = K := by rfl) : CallR X (.type "list") (fun xs H Q => ∃ p ys, xs = [.ref p] ∧ (SqL K H p ys ∨ SqT K H p ys) ∧ ∀ l, H l = none → Q (.ref l) (upd H l (.lst ys))) := h ▸ call_list_of
theorem pi_listK {l : Expr} {tl : TE} (hl : PE X l tl) (h : X.K = K := by rfl) : PI X tg l (iList K tl) := h ▸ pi_list hl
theorem call_anyK (hc : X.calm = true := by rfl) (h : X.K = K := by rfl) : CallR X (.builtin "any") (fun xs H Q => ∃ p ys, xs = [.ref p] ∧ SqL K H p ys ∧ ys.all plainT = true ∧ Q (.bl (ys.any truV)) H) := h ▸ call_any hc
end
theorem iteD {c A B : Prop} [Decidable c] (hc : c) (h : A) : if decide c = true then A else B := by rw [decide_eq_true hc]; exact iteT h
theorem iteDN {c A B : Prop} [Decidable c] (hc : ¬ c) (h : B) : if decide c = true then A else B := by rw [decide_eq_false hc]; exact iteF h
theorem iteB {b : Bool} {A B : Prop} (hc : b = true) (h : A) : if b = true then A else B := by rw [hc]; exact iteT h
theorem iteBN {b : Bool} {A B : Prop} (hc : b = false) (h : B) : if b = true then A else B := by rw [hc]; exact iteF h
theorem k_ii (K : PySem.W.Frag) : PySem.W.kitOne K (.type "int") (.type "int") = some true := rfl
theorem k_ib (K : PySem.W.Frag) : PySem.W.kitOne K (.type "int") (.type "bool") = some false := by rfl
theorem line6 : ∀ {n : Nat}, n ≤ 1000 → n ≤ sizeLine := fun h => Nat.le_trans h (by rw [sizeLine_eq]; decide)
end L2
namespace L2
open PySem
/-! ### classes of the text, from what can be looked up -/
structure ClsK (K : PySem.W.Frag) (C : Addr) : Prop where
  cd : ∃ cd, PySem.W.clsIn K C = some cd
  ty : PySem.W.typeIn K (.ref C) = some (.type "type")
theorem kit_of {K : PySem.W.Frag} {a C : Addr} {b : Bool} (s0 : PySem.W.subIn K (.ref a) (.ref a) = some true) (c : ClsK K C) (s : PySem.W.subIn K (.ref a) (.ref C) = some b) : PySem.W.kitOne K (.ref a) (.ref C) = some b := by
  obtain ⟨⟨cd, h1⟩, h2⟩ := c
  unfold PySem.W.kitOne
  by_cases h : a = C
  · subst h
    rw [s0] at s
    rw [if_pos (by simp)]
    exact s
  · rw [if_neg (by simpa using h)]
    unfold PySem.W.kitCls
    simp only [h1, h2]
    rw [if_pos (by rfl)]
    exact s
theorem kit_ty {K : PySem.W.Frag} {a : Addr} {T : String} {b : Bool} (m : PySem.W.kitMeta T = true) (s : PySem.W.subIn K (.ref a) (.type T) = some b) : PySem.W.kitOne K (.ref a) (.type T) = some b := by
  unfold PySem.W.kitOne
  rw [if_neg (by simp)]
  unfold PySem.W.kitCls
  simp only [m, if_true]
  exact s
theorem exm_of {K : PySem.W.Frag} {a C : Addr} {b : Bool} (s0 : PySem.W.subIn K (.ref C) (.type "BaseException") = some true) (c : ClsK K C) (s : PySem.W.subIn K (.ref a) (.ref C) = some b) : PySem.W.exmOne K (.ref a) (.ref C) = some b := by
  obtain ⟨⟨cd, h1⟩, h2⟩ := c
  unfold PySem.W.exmOne
  rw [s0, if_pos (by rfl)]
  unfold PySem.W.kitCls
  simp only [h1, h2]
  rw [if_pos (by rfl)]
  exact s
end L2

namespace L2
open PySem PySem.Spec PyProof.Rows
/-! ### the end of a list's walk within a handler -/
theorem entry_unchain : entryFor table "proto.unchain" = some Builtin.«proto.unchain» := entryFor_of_fast (by kernel_rfl)
section
variable {prog : Program} {w : World} {A : Around} {E : Value → Shared → Prop} {s : Shared}
theorem raiseNew_H {α : Type} {a h : Addr} {oa oh : Obj} {va vh : Array Value} {Q : α → Shared → Prop} (hh : A.handled = some (.ref h)) (ho : s.heap.get? h = some oh) (hd : oh.data = .fields vh) (h2 : vh[2]? = some .none)
    (ha : s.heap.get? a = some oa) (hda : oa.data = .fields va) (hz : 2 < va.size) (hne : h ≠ a) (hQ : E (.ref a) { s with heap := s.heap.update a (Obj.mapFields (·.setIfInBounds 2 (.ref h))) }) : wpAny (model prog w) A (raiseNew (.ref a) : Sem α) Q E s := by
  unfold raiseNew
  refine wpAny_bind (wpAny_handled ?_)
  rw [hh]
  dsimp only
  rw [if_pos (by simpa using hne)]
  refine wpAny_bind (wpAny_holding ?_)
  refine wpAny_runValue ?_
  refine codeAny_builtin entry_unchain ?_
  unfold Builtin.«proto.unchain»
  dsimp only
  refine wpAny_bind (wpAny_field ho hd h2 ?_)
  rw [if_pos (by rfl)]
  refine wpAny_bind (wpAny_pure ?_)
  refine wpAny_pure ?_
  show wpAny (model prog w) A (setField (.ref a) 2 (.ref h) >>= fun _ => throw (Value.ref a)) Q E s
  exact wpAny_bind (wpAny_setField ha hda hz (wpAny_throw hQ))
theorem next_endH {it l h : Addr} {i : Nat} {items} {oh : Obj} {vh : Array Value} {Q : Option Value → Shared → Prop} (hh : A.handled = some (.ref h)) (hoh : s.heap.get? h = some oh) (hdh : oh.data = .fields vh) (h2 : vh[2]? = some .none) (hne : h ≠ it)
    (hit : s.heap.IsListIter it l i) (hl : s.heap.IsList l items) (hx : items[i]? = none)
    (hQ : ∀ h', Heap.ExtBut it s.heap h' → Q none { s with heap := h' }) : wpAny (model prog w) A (pyNext (.ref it)) Q E s := by
  obtain ⟨o, ho, hc, hd⟩ := id hit
  obtain ⟨ol, hol, _, nl, hdl⟩ := hl
  unfold pyNext
  refine wpAny_bind (wpAny_attempt (wpAny_callSpecial?_slot (name := Str.ofString "__next__") hit.typeIs slot_listiter_next
    (wpAny_call_entry slot_listiter_next hit.typeIs entry_listiter_next ?_ (args_listiter_next _))))
  show wpAny _ _ (field (.ref it) 0 >>= _) _ _ s
  refine wpAny_bind (wpAny_field ho hd (x := .ref l) rfl ?_)
  show wpAny _ _ (if (Value.ref l == Value.none) = true then _ else _) _ _ s
  rw [if_neg (show ¬ ((Value.ref l == Value.none) = true) from Bool.false_ne_true)]
  show wpAny _ _ (field (.ref it) 1 >>= _) _ _ s
  refine wpAny_bind (wpAny_field ho hd (x := .int i 0) rfl ?_)
  show wpAny _ _ (seqItems? (.ref l) >>= _) _ _ s
  refine wpAny_bind (wpAny_seqItems hol hdl ?_)
  simp only [Int.toNat_natCast, hx]
  refine wpAny_bind (wpAny_rule (wpAny_bind (wpAny_setField ho hd (by simp) ?_)))
  show wpAny _ _ (newExc (.type "StopIteration") [] >>= _) _ _ _
  refine wpAny_bind ?_
  simp only [newExc, newTuple]
  refine wpAny_bind (wpAny_newObj_type ?_ (by size_fits))
  refine wpAny_bind (m := firstArgMember _ _) (wpAny_of_eq (a := Value.none) (by first | rfl | (simp only [firstArgMember]; rfl)) ?_)
  refine wpAny_newObj_type ?_ (by size_fits)
  have hupd := (Heap.get?_update_other s.heap (Obj.mapFields (·.setIfInBounds 0 Value.none)) (Ne.symm hne)).trans hoh
  generalize hH1 : s.heap.update it (Obj.mapFields fun x => x.setIfInBounds 0 Value.none) = H1 at hupd ⊢
  dsimp only
  generalize hH2 : H1.push { cls := .type "tuple", data := .seq #[] } = H2
  have hh2 : H2.get? h = some oh := hH2 ▸ Heap.get?_push_of_some _ hupd
  have hne2 : h ≠ H2.objs.size := Nat.ne_of_lt (Heap.lt_size hh2)
  refine raiseNew_H (h := h) (oh := oh) (vh := vh) (show A.in1.handled = _ from hh) (Heap.get?_push_of_some _ hh2) hdh h2 (Heap.get?_push_size _ rfl) rfl (by rw [Array.size_append]; show 2 < 6 + _; omega) hne2 ?_
  dsimp only
  refine wpAny_bind (wpAny_isInstance (T := "StopIteration") (b := true) ⟨_, Heap.get?_update_self _ (Heap.get?_push_size _ rfl) rfl, rfl⟩ isSubtype_stop ?_)
  refine wpAny_pure (hQ _ fun b o hb e => ?_)
  have e1 : H1.get? b = some o := by rw [← hH1, Heap.get?_update_other _ _ (Ne.symm hb)]; exact e
  have e2 : H2.get? b = some o := hH2 ▸ Heap.get?_push_of_some _ e1
  rw [Heap.get?_update_other _ _ (Nat.ne_of_gt (Heap.lt_size e2))]
  exact Heap.get?_push_of_some _ e2
/-- the walk of a list within a handler -/
theorem walks_H (h : Addr) (oh : Obj) (vh : Array Value) (hd : oh.data = .fields vh) (h2 : vh[2]? = some .none) (hh : A.handled = some (.ref h)) (I ax : Addr) (hne : ax ≠ I) (hI : h ≠ I) (items : Array Value) :
    Walks prog w A I [I, ax, h] [I] items.size (fun i v => items[i]? = some v) (fun i hp => hp.IsListIter I ax i ∧ hp.IsList ax items ∧ hp.get? h = some oh) where
  sub := fun b hb => by simp at hb; simp [hb]
  frame := fun _ _ _ st hk => ⟨st.1.at fun o e => hk I (by simp) o e, st.2.1.at fun o e => hk ax (by simp) o e, hk h (by simp) _ st.2.2⟩
  item := fun i s Q E hi st hQ => by
    refine wpAny_pyNext_list_item st.1 st.2.1 (x := items[i]) (by simp [hi]) fun h' hit' hs' => ?_
    exact hQ _ h' s.toks (by simp [hi]) ⟨hit', st.2.1.extBut hs'.extBut hne, hs'.extBut _ _ hI st.2.2⟩ fun b o hb e => hs'.extBut b o (fun h => hb (by simp [h])) e
  done := fun s Q E st hQ => next_endH hh st.2.2 hd h2 hI st.1 st.2.1 (by simp) fun h' he' => hQ h' s.toks fun b o hb e => he' b o (fun h => hb (by simp [h])) e
  self := fun _ _ _ _ st hQ => wpAny_pyIter_listiter st.1 hQ
end
section
variable {X : Cx} (K : PySem.W.Frag)
theorem call_anyH (e : Addr) (hK : X.K = K := by rfl) : CallR (hnd X e) (.builtin "any") (fun xs H Q => ∃ p ys cls od, xs = [.ref p] ∧ H e = some (excO e cls od) ∧ SqL K H p ys ∧ ys.all plainT = true ∧ Q (.bl (ys.any truV)) H) := by
  subst hK
  intro pins s σ H xs us Q I r h
  obtain ⟨p, ys, cls, od, rfl, he, hq, hp, q⟩ := h
  obtain ⟨u, rfl, rx⟩ := vals1 r
  cases rx
  obtain ⟨its, r', pl, hz⟩ := I.list hq
  have hl := pl.isList
  have hlt : p < s.heap.objs.size := by obtain ⟨o, ho, _⟩ := hl; exact Heap.lt_size ho
  obtain ⟨⟨oe, ve, e1, e2, _, e3, e4⟩, _, _⟩ := (show ObjOk X.prog X.w H s.heap e (excO e cls od) from I.hok e _ he)
  refine call_any_walk (wpAny_pyIter_list hl ?_)
  refine ⟨_, _, _, its.toArray.size, _, _, _, rfl, walks_H e oe ve e3 e4 (show (hnd X e).A.in1.handled = some (.ref e) from rfl) s.heap.objs.size p (Nat.ne_of_lt hlt) (Nat.ne_of_lt (Heap.lt_size e1)) its.toArray,
    ⟨⟨_, Heap.get?_push_size _ rfl, rfl, rfl⟩, hl.at fun o e => Heap.get?_push_of_some _ e, Heap.get?_push_of_some _ e1⟩, truths r' hp, fun h' tk k => ?_⟩
  have e : (List.range its.toArray.size).any (truAt ys) = ys.any truV := by rw [List.size_toArray, ← r'.length]; exact any_ix ys
  rw [e]
  exact ⟨.bl _, H, I.kept (t' := tk) fun b o eb => k b o (fun z => absurd (Heap.lt_size eb) (by rw [List.mem_singleton.mp z]; exact Nat.lt_irrefl _)) (Heap.get?_push_of_some _ eb), rfl, q⟩
end

/-! ### what a text's top has, in common -/
/-- names of Python's own that the text does not bind -/
structure Blt (mg : Str → Option Value) : Prop where
  n_len : mg "len" = none
  n_range : mg "range" = none
  n_abs : mg "abs" = none
  n_any : mg "any" = none
  n_all : mg "all" = none
  n_isinstance : mg "isinstance" = none
  n_int : mg "int" = none
  n_bool : mg "bool" = none
  n_list : mg "list" = none
  n_str : mg "str" = none
  n_tuple : mg "tuple" = none
  n_enumerate : mg "enumerate" = none
  n_ValueError : mg "ValueError" = none
theorem blt_mk {K : PySem.W.Frag} {h : Heap} {mg : Str → Option Value} (X : K.In h) (G : h.Ns mainGlobals mg)
    (z1 : PySem.W.nsIn K mainGlobals "len" = some none) (z2 : PySem.W.nsIn K mainGlobals "range" = some none) (z3 : PySem.W.nsIn K mainGlobals "abs" = some none) (z4 : PySem.W.nsIn K mainGlobals "any" = some none) (z5 : PySem.W.nsIn K mainGlobals "all" = some none)
    (z6 : PySem.W.nsIn K mainGlobals "isinstance" = some none) (z7 : PySem.W.nsIn K mainGlobals "int" = some none) (z8 : PySem.W.nsIn K mainGlobals "bool" = some none) (z9 : PySem.W.nsIn K mainGlobals "list" = some none) (z10 : PySem.W.nsIn K mainGlobals "str" = some none)
    (z11 : PySem.W.nsIn K mainGlobals "tuple" = some none) (z12 : PySem.W.nsIn K mainGlobals "enumerate" = some none) (z13 : PySem.W.nsIn K mainGlobals "ValueError" = some none) : Blt mg :=
  ⟨PySem.W.mg_none_of X G z1, PySem.W.mg_none_of X G z2, PySem.W.mg_none_of X G z3, PySem.W.mg_none_of X G z4, PySem.W.mg_none_of X G z5, PySem.W.mg_none_of X G z6, PySem.W.mg_none_of X G z7, PySem.W.mg_none_of X G z8, PySem.W.mg_none_of X G z9,
    PySem.W.mg_none_of X G z10, PySem.W.mg_none_of X G z11, PySem.W.mg_none_of X G z12, PySem.W.mg_none_of X G z13⟩
/-- a class of the text, by its name -/
structure GCls (K : PySem.W.Frag) (mg : Str → Option Value) (x : Str) (C : Addr) : Prop where
  m : mg x = some (.ref C)
  cl : ClsK K C
theorem gcls_mk {K : PySem.W.Frag} {h : Heap} {mg : Str → Option Value} {x : Str} {C : Addr} {cd : ClassData} (X : K.In h) (G : h.Ns mainGlobals mg) (a : PySem.W.nsIn K mainGlobals x = some (some (.ref C))) (b : PySem.W.clsIn K C = some cd) (c : PySem.W.typeIn K (.ref C) = some (.type "type")) : GCls K mg x C :=
  ⟨PySem.W.mg_of X G a, ⟨_, b⟩, c⟩
/-- an own refusal that is raised -/
structure XCls (K : PySem.W.Frag) (C : Addr) : Prop where
  x : PySem.W.excIn K C bmVE "ValueError.__new__" = true
  c : ExcC K C
  self : PySem.W.subIn K (.ref C) (.ref C) = some true
theorem xcls_mk {K : PySem.W.Frag} {C : Addr} {cd : ClassData} (x : PySem.W.excIn K C bmVE "ValueError.__new__" = true)
    (y1 : PySem.W.findIn K (.ref C) "__getattribute__" = some (some (.builtin "BaseException.__getattribute__"))) (y2 : PySem.W.findIn K (.ref C) "__getattr__" = some none) (y3 : PySem.W.findIn K (.ref C) "__class__" = some (some (.builtin "object.__class__")))
    (y4 : PySem.W.subIn K (.ref C) (.type "BaseException") = some true) (y5 : PySem.W.subIn K (.ref C) (.type "object") = some true) (y6 : PySem.W.clsIn K C = some cd) (y7 : PySem.W.subIn K (.ref C) (.ref C) = some true) : XCls K C :=
  ⟨x, ⟨y1, y2, y3, y4, y5, by rw [y6]; rfl⟩, y7⟩
structure Lens (K : PySem.W.Frag) (mg : Str → Option Value) (aL : Addr) : Prop where
  m : mg "LENGTHS" = some (.ref aL)
  sq : ∀ H, SqT K H aL (zV [2, 4, 8, 16, 32, 64])
theorem lens_mk {K : PySem.W.Frag} {h : Heap} {mg : Str → Option Value} {a : Addr} {od : Option Addr} {sl : Array (Option Value)} {n : Nat} {t1 t2 t3 t4 t5 t6 : Tok} (X : K.In h) (G : h.Ns mainGlobals mg) (g : PySem.W.nsIn K mainGlobals "LENGTHS" = some (some (.ref a)))
    (l : K.lookup a = some ⟨.type "tuple", od, .seq #[.int 2 t1, .int 4 t2, .int 8 t3, .int 16 t4, .int 32 t5, .int 64 t6] n, sl⟩) : Lens K mg a :=
  ⟨PySem.W.mg_of X G g, fun H => .inr ⟨_, _, n, l, rfl, rfl, line6 (by show 6 ≤ 1000; decide), .cons ⟨_, rfl⟩ (.cons ⟨_, rfl⟩ (.cons ⟨_, rfl⟩ (.cons ⟨_, rfl⟩ (.cons ⟨_, rfl⟩ (.cons ⟨_, rfl⟩ .nil)))))⟩⟩
end L2
namespace L2
end L2
namespace L2
end L2

namespace L2
open PySem PySem.Spec PyProof.Rows
/-! ### for i, x in enumerate(list) -/
section
variable {X : Cx} {pins : List (Addr × Obj)} {σ : St} {H : Hp} {s : Shared} {h' : Heap}
/-- two untracked records of ours have turned -/
theorem Inv.turned2 {t' : Nat} {e it : Addr} (I : Inv X pins σ H s) (k : ∀ b o, b ≠ e → b ≠ it → s.heap.get? b = some o → h'.get? b = some o) (fe : FpOk X pins H e) (fi : FpOk X pins H it) : Inv X pins σ H { s with heap := h', toks := t' } := by
  have ne : ∀ b u, H b = some u → b ≠ e ∧ b ≠ it := fun b u q => ⟨fun z => (by rw [z, fe.1] at q; cases q), fun z => (by rw [z, fi.1] at q; cases q)⟩
  refine I.step (g' := s.gens) (d' := s.drawn) (ch := [e, it]) (fun b hb => ?_) (fun b o _ _ hc q _ => k b o (fun z => hc (by simp [z])) (fun z => hc (by simp [z])) q) (fun b o _ _ hc q _ => ⟨o.slots, k b o (fun z => hc (by simp [z])) (fun z => hc (by simp [z])) q⟩) (fun _ _ _ _ n => n)
    (fun b o hc q => ⟨o, k b o (fun z => hc (by simp [z])) (fun z => hc (by simp [z])) q⟩) (fun _ _ q => q) (fun _ _ _ q => q) (fun b ps q => ⟨#[], by rw [q]; simp⟩) (fun m hm => ?_) (fun b u q => ?_) I.bare
  · rcases List.mem_cons.mp hb with rfl | hb
    · exact ⟨fe.2.2.2.1, fe.2.1, fe.2.2.2.2.1, fe.2.2.2.2.2⟩
    · rcases List.mem_cons.mp hb with rfl | hb
      · exact ⟨fi.2.2.2.1, fi.2.1, fi.2.2.2.2.1, fi.2.2.2.2.2⟩
      · cases hb
  · obtain ⟨o, es, ep, ho, r⟩ := hm
    exact ⟨o, es, ep, k _ o (Ne.symm fe.2.1) (Ne.symm fi.2.1) ho, r⟩
  · refine (I.hok b u q).stay (fun c v hc q' => ?_) (fun _ q => q) fun _ _ q => q
    rcases hc with z | z
    · rw [z] at q' ⊢; exact k _ v (ne b u q).1 (ne b u q).2 q'
    · exact k c v (ne c _ z).1 (ne c _ z).2 q'
end
/-- turn i: a new pair of i and the list's i-th item -/
noncomputable def Ite (K : PySem.W.Frag) (a : Addr) : It :=
  ⟨fun i H => ∃ xs x, SqL K H a xs ∧ xs[i]? = some x, fun i H x H' => ∃ p v, H p = none ∧ x = .ref p ∧ H' = upd H p (.tup [.int i, v]) ∧ ∀ xs, SqL K H a xs → xs[i]? = some v, fun i H => ∃ xs, SqL K H a xs ∧ xs.length ≤ i⟩
theorem fpOk_upd {X : Cx} {pins : List (Addr × Obj)} {H : Hp} {b p : Addr} {o : HO} (h : FpOk X pins H b) (hne : b ≠ p) : FpOk X pins (upd H p o) b := ⟨by rw [upd_ne hne]; exact h.1, h.2⟩
theorem turn_enum {P : Program} {w : World} {K : PySem.W.Frag} {es : List Expr} {k : Nat} {pos : Pos} (a e it : Addr) (hei : e ≠ it) : Turn P w K (.Tuple es k pos) (Ite K a) [e, it] e (fun i h => (∃ old, IsEnum h e it i old) ∧ h.IsListIter it a i) where
  mem := by simp
  obj := fun i h st b hb => by
    obtain ⟨⟨old, he⟩, o, e2, c, d⟩ := st
    rcases List.mem_cons.mp hb with rfl | hb
    · exact ⟨_, he, fun v z => by cases z⟩
    · rcases List.mem_cons.mp hb with rfl | hb
      · exact ⟨o, e2, fun v z => by rw [d] at z; cases z⟩
      · cases hb
  keep := fun i h h' st k => by
    obtain ⟨⟨old, he⟩, hit⟩ := st
    exact ⟨⟨old, k e (by simp) _ he⟩, hit.at fun o q => k it (by simp) o q⟩
  item := by
    intro X hP hw hK hc i pins s σ H E I hf st hg
    subst hP hw hK
    obtain ⟨xs, x, hq, hx⟩ := hg
    obtain ⟨its, rv, p, hz⟩ := I.list hq
    obtain ⟨u, hu, ru⟩ := rv.get hx
    obtain ⟨⟨old, he⟩, hit⟩ := st
    have fe := hf e (by simp)
    have fi := hf it (by simp)
    have hle : e < s.heap.objs.size := Heap.lt_size he
    have hli : it < s.heap.objs.size := by obtain ⟨_, q, _⟩ := id hit; exact Heap.lt_size q
    refine wpAny_pyNext_enum_item he hit p.isList (x := u) (by simpa using hu) hei fun h' ho hit' hT hsz hk => ?_
    refine ⟨_, rfl, wpAny_letOwnedTupleGo_enum ho fun h2 he2 hs2 => ?_⟩
    replace hs2 : Heap.SameBut e h' h2 := hs2
    have hn : H s.heap.objs.size = none := I.hok.fresh (Nat.le_refl _)
    have IT : IsTup (s.heap.push { cls := .type "tuple", data := .seq #[.int i s.toks, u] }) s.heap.objs.size [Value.int i s.toks, u].toArray := ⟨_, Heap.get?_push_size s.heap rfl, rfl, 0, rfl⟩
    have I1 : Inv X pins σ (upd H s.heap.objs.size (.tup [.int i, x])) { s with heap := s.heap.push { cls := .type "tuple", data := .seq #[.int i s.toks, u] }, toks := s.toks } :=
      I.laid (fun b o q => Heap.get?_push_of_some _ q) (Nat.le_refl _) ⟨by simp only [List.length_cons, List.length_nil]; rw [sizeLine_eq]; decide, [.int i s.toks, u], .cons ⟨_, rfl⟩ (.cons ru .nil), IT⟩
    have kk : ∀ b o, b ≠ e → b ≠ it → (s.heap.push { cls := .type "tuple", data := .seq #[.int i s.toks, u] }).get? b = some o → h2.get? b = some o := fun b o n1 n2 q => by
      refine (hs2.2 b n1).trans ?_
      rcases Heap.get?_push_cases q with ⟨rfl, rfl⟩ | q
      · exact hT
      · exact hk b o n1 n2 q
    have I2 := I1.turned2 (h' := h2) (e := e) (it := it) (t' := s.toks + 1) kk (fpOk_upd fe (Nat.ne_of_lt hle)) (fpOk_upd fi (Nat.ne_of_lt hli))
    refine ⟨.ref s.heap.objs.size, _, I2, rfl, ⟨_, x, hn, rfl, rfl, fun ys hy => by rw [I.list_inj hy hq]; exact hx⟩, ⟨⟨u, ?_⟩, hit'.at fun o q => (hs2.2 it hei.symm).trans q⟩, fun b hb => ?_⟩
    · have : ((i + 1 : Nat) : Int) = (i : Int) + 1 := by push_cast; rfl
      rw [this]; exact he2
    · rcases List.mem_cons.mp hb with rfl | hb
      · exact (fpOk_upd fe (Nat.ne_of_lt hle)).1
      · rcases List.mem_cons.mp hb with rfl | hb
        · exact (fpOk_upd fi (Nat.ne_of_lt hli)).1
        · cases hb
  done := by
    intro X hP hw hK hc i pins s σ H E I hf st hg
    subst hP hw hK
    obtain ⟨xs, hq, hx⟩ := hg
    obtain ⟨its, rv, p, hz⟩ := I.list hq
    obtain ⟨⟨old, he⟩, hit⟩ := st
    obtain ⟨f0, f1, f2, f3, f4, f5⟩ := hf it (by simp)
    have hl := rv.length
    exact wpAny_pyNext_enum_end (I.ok.hd hc) he hit p.isList (by simp; omega) fun h' eb => ⟨rfl, I.turned (t' := s.toks) (fun b o hb q => eb b o hb q) f0 f1 f3 f4 f5⟩
  self := fun _ _ _ _ _ st h => by
    obtain ⟨⟨old, he⟩, _⟩ := st
    exact wpAny_pyIter_enum he h
section
variable {X : Cx}
noncomputable def iEnum (K : PySem.W.Frag) (ta : TA) : TI := fun σ H R => ta σ H fun vs H1 => ∃ a xs, vs = [.ref a] ∧ SqL K H1 a xs ∧ R (Ite K a) H1
theorem bt_enumerate : bootBuiltins "enumerate" = some (.type "enumerate") := by decide +kernel
theorem pi_enumK (K : PySem.W.Frag) {es : List Expr} {k : Nat} {p' : Pos} {l : Expr} {ta : TA} {p pos : Pos} (hg : Gl X "enumerate") (hm : X.mg "enumerate" = none) (ha : PA X [l] ta) (hs : starEach [l] X.env = [(false, eval l X.env)] := by rfl) (hK : X.K = K := by rfl) :
    PI X (.Tuple es k p') (.Call (.Name "enumerate" p) [l] [] pos) (iEnum K ta) := by
  subst hK
  intro pins s σ H R I h
  refine Call_ (ld_blt I hg hm bt_enumerate (PyProof.Rows.callWith_type1 (thn (ha pos pins s σ H _ I h) fun us s1 ⟨vs, H1, I1, r1, q1⟩ => ?_) hs rfl))
  obtain ⟨a, xs, rfl, hq, q⟩ := q1
  cases r1 with
  | cons r rr =>
    cases rr
    cases r
    obtain ⟨its, rv, pl, hz⟩ := I1.list hq
    refine call_enumerate_list pl.isList fun h' he hit hsz hk => ?_
    refine wpAny_pyIter_enum he ?_
    have hne : s1.heap.objs.size + 1 ≠ s1.heap.objs.size := Nat.succ_ne_self _
    refine ⟨s1.heap.objs.size + 1, [s1.heap.objs.size + 1, s1.heap.objs.size], _, _, H1, rfl, I1.kept (t' := s1.toks) hk, turn_enum a _ _ hne, ⟨⟨_, he⟩, hit⟩, fun b hb => ?_, q⟩
    rcases List.mem_cons.mp hb with rfl | hb
    · exact I1.fpOk (Nat.le_succ _) (I1.hok.fresh (Nat.le_succ _))
    · rcases List.mem_cons.mp hb with rfl | hb
      · exact I1.fpOk (Nat.le_refl _) (I1.hok.fresh (Nat.le_refl _))
      · cases hb
end
/-- over the pairs of a list that the body leaves as it is -/
theorem for_enum {K : PySem.W.Frag} {a : Addr} {xs : List V} {g : TG} {tb : TS} {D : Ends} {σ : St} {H : Hp} (Pv : Nat → St → Hp → Prop) (h0 : Pv 0 σ H) (hl : ∀ i σ H, i ≤ xs.length → Pv i σ H → SqL K H a xs)
    (hs : ∀ i x σ H p, xs[i]? = some x → Pv i σ H → H p = none → g (.ref p) σ (upd H p (.tup [.int i, x])) fun σ2 H2 => tb { D with nx := Pv (i + 1), ct := Pv (i + 1), bk := D.nx } σ2 H2) (hd : ∀ σ H, Pv xs.length σ H → D.nx σ H) :
    ∃ W : Nat → Nat → St → Hp → Prop, (∃ m, W 0 m σ H) ∧ ∀ i m σ H, W i m σ H →
      ((Ite K a).stop i H ∧ D.nx σ H) ∨ ((Ite K a).go i H ∧ ∃ N : St → Hp → Prop, (∀ σ' H', N σ' H' → ∃ m', m' < m ∧ W (i + 1) m' σ' H') ∧ ∀ x H', (Ite K a).yld i H x H' → g x σ H' fun σ2 H2 => tb { D with nx := N, ct := N, bk := D.nx } σ2 H2) := by
  refine ⟨fun i m σ H => m = xs.length - i ∧ i ≤ xs.length ∧ Pv i σ H, ⟨xs.length, by simp, Nat.zero_le _, h0⟩, ?_⟩
  rintro i m σ H ⟨rfl, hi, p⟩
  have q := hl i σ H hi p
  by_cases hlt : i < xs.length
  · refine .inr ⟨⟨xs, xs[i], q, by simp [hlt]⟩, Pv (i + 1), fun σ' H' p' => ⟨xs.length - (i + 1), by omega, rfl, hlt, p'⟩, fun x H' y => ?_⟩
    obtain ⟨pp, v, hn, rfl, rfl, y⟩ := y
    exact hs i v σ _ pp (y xs q) p hn
  · have e : i = xs.length := by omega
    subst e
    exact .inl ⟨⟨xs, q, Nat.le_refl _⟩, hd σ H p⟩
end L2
namespace L2
open PySem
theorem pg_tupK {X : Cx} (K : PySem.W.Frag) {es : List Expr} {k : Nat} {pos : Pos} {t : TGs} {n : Nat} (hc : X.calm = true) (h : PGs X es t)
    (hn : (assignEach es X.env).length = n := by rfl) (hst : (assignEach es X.env).findIdx? (·.1) = none := by rfl) (hK : X.K = K := by rfl) : PG X (.Tuple es k pos) (gTup K n t) := hK ▸ pg_tup hc h hn hst
theorem k_tt (K : PySem.W.Frag) : PySem.W.kitOne K (.type "tuple") (.type "tuple") = some true := rfl
theorem k_ss (K : PySem.W.Frag) : PySem.W.kitOne K (.type "str") (.type "str") = some true := rfl
/-- a tuple of three words among the text's names -/
structure Wrds (K : PySem.W.Frag) (mg : Str → Option Value) (x a b c : Str) (aW : Addr) : Prop where
  m : mg x = some (.ref aW)
  sq : ∀ H, SqT K H aW [.str a, .str b, .str c]
theorem wrds_mk {K : PySem.W.Frag} {h : Heap} {mg : Str → Option Value} {x a b c : Str} {aW : Addr} {od : Option Addr} {sl : Array (Option Value)} {n : Nat} {t1 t2 t3 : Tok} (X : K.In h) (G : h.Ns mainGlobals mg) (g : PySem.W.nsIn K mainGlobals x = some (some (.ref aW)))
    (l : K.lookup aW = some ⟨.type "tuple", od, .seq #[.str a t1, .str b t2, .str c t3] n, sl⟩) : Wrds K mg x a b c aW :=
  ⟨PySem.W.mg_of X G g, fun H => .inr ⟨_, _, n, l, rfl, rfl, line6 (by show 3 ≤ 1000; decide), .cons ⟨_, rfl⟩ (.cons ⟨_, rfl⟩ (.cons ⟨_, rfl⟩ .nil))⟩⟩
end L2

namespace L2
open PySem PySem.Spec PyProof.Rows
/-! ### == and != of lists that hold lists, where they are equal -/
theorem eqV_refl {x : V} (h : flatV x = true) : eqV x x = true := by
  cases x <;> first | rfl | (exact absurd (show false = true from h) Bool.false_ne_true) | simp [eqV]
/-- alike items: flat and the same, or one object -/
inductive Al0 : V → V → Prop where
  | flat {x : V} (h : flatV x = true) : Al0 x x
  | ref (a : Addr) : Al0 (.ref a) (.ref a)
/-- alike items, or two lists of alike items -/
inductive Al1 (K : PySem.W.Frag) (H : Hp) : V → V → Prop where
  | of {x y : V} (h : Al0 x y) : Al1 K H x y
  | lst {p q : Addr} {xs ys : List V} (hne : p ≠ q) (h1 : SqL K H p xs) (h2 : SqL K H q ys) (hl : xs.length = ys.length) (h : ∀ (j : Nat) x y, xs[j]? = some x → ys[j]? = some y → Al0 x y) : Al1 K H (.ref p) (.ref q)
theorem al0_eq {A : Around} {s : Shared} {x y : V} {u v : Value} (h : Al0 x y) (rx : RelV x u) (ry : RelV y v) : SeqAt.EqAt A s u v true := by
  cases h with
  | flat h => have := eqAt_V (A := A) (s := s) rx ry h h; rw [eqV_refl h] at this; exact this
  | ref a => cases rx; cases ry; exact SeqAt.EqAt.same _
theorem als_at {R : V → V → Prop} {S : Value → Value → Prop} {xs ys : List V} {us ws : List Value} (r : Vals xs us) (r' : Vals ys ws) (h : ∀ (j : Nat) x y, xs[j]? = some x → ys[j]? = some y → R x y) (hS : ∀ x y u v, R x y → RelV x u → RelV y v → S u v) :
    ∀ j (h1 : j < us.toArray.size) (h2 : j < ws.toArray.size), S us.toArray[j] ws.toArray[j] := by
  intro j h1 h2
  have l1 := r.length
  have l2 := r'.length
  have h1' : j < us.length := by simpa using h1
  have h2' : j < ws.length := by simpa using h2
  have e1 : xs[j]? = some xs[j] := List.getElem?_eq_getElem (by omega)
  have e2 : ys[j]? = some ys[j] := List.getElem?_eq_getElem (by omega)
  obtain ⟨u, hu, ru⟩ := r.get e1
  obtain ⟨u', hu', ru'⟩ := r'.get e2
  have g1 : us.toArray[j] = u := by
    have := List.getElem?_eq_some_iff.mp hu
    simpa using this.2
  have g2 : ws.toArray[j] = u' := by
    have := List.getElem?_eq_some_iff.mp hu'
    simpa using this.2
  rw [g1, g2]
  exact hS _ _ _ _ (h j _ _ e1 e2) ru ru'
theorem all_tt (n : Nat) : (List.range n).all (fun _ => true) = true := by simp
section
variable {X : Cx}
theorem al1_eq {pins : List (Addr × Obj)} {σ : St} {H : Hp} {s : Shared} {A : Around} {x y : V} {u v : Value} (I : Inv X pins σ H s) (hu : A.units < cLine) (h : Al1 X.K H x y) (rx : RelV x u) (ry : RelV y v) : SeqAt.EqAt A s u v true := by
  cases h with
  | of h => exact al0_eq h rx ry
  | lst hne h1 h2 hl h =>
    cases rx
    cases ry
    obtain ⟨its, r, pl, hz⟩ := I.list h1
    obtain ⟨its', r', pl', hz'⟩ := I.list h2
    have l1 := r.length
    have l2 := r'.length
    have := SeqAt.EqAt.of_refs hne (SeqAt.RcAt.lists (A := A) (e := fun _ => true) pl.isList pl'.isList (by simp; omega) hu (als_at r r' h fun x y u v q ru rv => al0_eq q ru rv))
    rw [all_tt] at this
    exact this
noncomputable def rAlk (K : PySem.W.Frag) (neg : Bool) : R2 := fun x y H Q => ∃ p q xs ys, x = .ref p ∧ y = .ref q ∧ SqL K H p xs ∧ SqL K H q ys ∧ xs.length = ys.length ∧ (∀ (j : Nat) x y, xs[j]? = some x → ys[j]? = some y → Al1 K H x y) ∧ Q (.bl (!neg)) H
end
/-! ### xs[::-1] -/
section
variable {X : Cx} {e : Expr} {te : TE} {pos p1 p2 p3 : Pos} {k : Nat}
noncomputable def tRev (K : PySem.W.Frag) (te : TE) : TE := fun σ H Q => te σ H fun x H1 => ∃ a xs, x = .ref a ∧ SqL K H1 a xs ∧ ∀ p, H1 p = none → Q (.ref p) (upd H1 p (.lst xs.reverse))
end
/-! ### a comprehension over a list, by a word of one's own -/
theorem comp_listP {K : PySem.W.Frag} {a : Addr} {xs : List V} {te : TE} {σ : St} {H : Hp} {Q : VK} (Pv : Nat → List V → Hp → Prop) (h0 : Pv 0 [] H) (hl : ∀ i ys H', i ≤ xs.length → Pv i ys H' → SqL K H' a xs ∧ ys.length = i) (hz : xs.length ≤ sizeLine)
    (he : ∀ (i : Nat) x ys H' Q', xs[i]? = some x → Pv i ys H' → (∀ y H4, Pv (i + 1) (ys ++ [y]) H4 → Q' y H4) → te (some x :: σ) H' Q')
    (hd : ∀ ys H' p, Pv xs.length ys H' → H' p = none → Q (.ref p) (upd H' p (.lst ys))) : ∃ W, (∃ m, W 0 m [] H) ∧ CompW (Itl K a) tYes te σ Q W := by
  refine ⟨fun i m ys H' => m = xs.length - i ∧ i ≤ xs.length ∧ Pv i ys H', ⟨xs.length, by simp, Nat.zero_le _, h0⟩, ?_⟩
  rintro i m ys H' ⟨rfl, hi, pv⟩
  obtain ⟨q, hy⟩ := hl i ys H' hi pv
  by_cases hlt : i < xs.length
  · refine .inr ⟨⟨xs, xs[i], q, by simp [hlt]⟩, by omega, fun x H2 y => ?_⟩
    obtain ⟨e, y⟩ := y
    subst e
    have hx := y xs q
    simp only [tYes, if_true]
    exact he i x ys _ _ hx pv fun y H4 q4 => ⟨xs.length - (i + 1), by omega, rfl, hlt, q4⟩
  · have e : i = xs.length := by omega
    subst e
    exact .inl ⟨⟨xs, q, Nat.le_refl _⟩, by omega, fun p hp => hd _ _ p pv hp⟩
end L2
namespace L2
open PySem
theorem Room.units1 {k : Nat} {A : Around} (r : Room k A) : A.units + 1 < cLine := by have := r.un; omega
end L2

namespace L2
open PySem PySem.Spec PyProof.Rows
section
variable {X : Cx}
noncomputable def CPowB (i j : Int) : Prop := 0 ≤ j ∧ j ≤ 8 ∧ i.natAbs < 2 ^ 4000
theorem ints_are : ∀ {ns : List Int} {us : List Value}, Vals (ns.map V.int) us → IntsAre us ns
  | [], us, h => by cases h; exact .nil
  | n :: ns, us, h => by
    cases h with
    | cons r rr =>
      obtain ⟨t, rfl⟩ := r
      exact .cons n t (ints_are rr)
end
end L2

namespace L2
open PySem PySem.Spec PyProof.Rows
/-! ### comprehensions over ranges and tuples -/
/-- over a range, by a word of one's own -/
theorem comp_rangeP {n : Nat} {te : TE} {σ : St} {H : Hp} {Q : VK} (Pv : Nat → List V → Hp → Prop) (h0 : Pv 0 [] H) (hl : ∀ i ys H', i ≤ n → Pv i ys H' → ys.length = i) (hz : n ≤ sizeLine)
    (he : ∀ (i : Nat) ys H' Q', i < n → Pv i ys H' → (∀ y H4, Pv (i + 1) (ys ++ [y]) H4 → Q' y H4) → te (some (.int (0 + (i : Int))) :: σ) H' Q')
    (hd : ∀ ys H' p, Pv n ys H' → H' p = none → Q (.ref p) (upd H' p (.lst ys))) : ∃ W, (∃ m, W 0 m [] H) ∧ CompW (Itr 0 n) tYes te σ Q W := by
  refine ⟨fun i m ys H' => m = n - i ∧ i ≤ n ∧ Pv i ys H', ⟨n, by simp, Nat.zero_le _, h0⟩, ?_⟩
  rintro i m ys H' ⟨rfl, hi, pv⟩
  have hy := hl i ys H' hi pv
  by_cases hlt : i < n
  · refine .inr ⟨hlt, by omega, fun x H2 y => ?_⟩
    obtain ⟨e, y⟩ := y
    subst e y
    simp only [tYes, if_true]
    exact he i ys _ _ hlt pv fun y H4 q4 => ⟨n - (i + 1), by omega, rfl, hlt, q4⟩
  · have e : i = n := by omega
    subst e
    exact .inl ⟨Nat.le_refl _, by omega, fun p hp => hd _ _ p pv hp⟩
theorem bt_min : bootBuiltins "min" = some (.builtin "min") := by decide +kernel
end L2
namespace L2
open PySem
theorem k_bb (K : PySem.W.Frag) : PySem.W.kitOne K (.type "bool") (.type "bool") = some true := rfl
end L2
namespace L2
end L2

namespace L2
open PySem PySem.Spec PyProof.Rows
/-! ### f-texts -/
section
variable {X : Cx} {e v1 v2 : Expr} {es : List Expr} {te : TE} {pos : Pos}
/-- {e}, an int -/
noncomputable def tFmtI (te : TE) : TE := fun σ H Q => te σ H fun x H1 => ∃ i, x = .int i ∧ i.natAbs.log2 < 1920 ∧ Q (.str (toString i)) H1
theorem pe_fmtI (he : PE X e te) : PE X (.FormattedValue e (-1) none pos) (tFmtI te) := by
  intro pins s σ H Q I h
  refine FormattedValue_plain (thn (he pins s σ H _ I h) fun v s1 ⟨x, H1, I1, r1, i, ex, hd, q⟩ => ?_)
  subst ex
  obtain ⟨t, rfl⟩ := r1
  exact formatField_int_small hd ⟨.str (toString i), H1, I1.tok _, ⟨_, rfl⟩, q⟩
/-- {e}, a text -/
noncomputable def tFmtS (te : TE) : TE := fun σ H Q => te σ H fun x H1 => ∃ z, x = .str z ∧ z.length ≤ sizeLine ∧ Q (.str z) H1
/-- the parts joined, behind what is there -/
noncomputable def PJ (X : Cx) (es : List Expr) (t : Str → TE) : Prop :=
  ∀ (out : Str) (pins : List (Addr × Obj)) (s : Shared) (σ : St) (H : Hp) (Q : VK), Inv X pins σ H s → t out σ H Q → wpAny (model X.prog X.w) X.A (joinParts out (evalEach es X.env)) (EP X pins σ Q) X.xe s
noncomputable def tJnil : Str → TE := fun out _ H Q => out.length ≤ sizeLine ∧ Q (.str out) H
noncomputable def tJcons (te : TE) (t : Str → TE) : Str → TE := fun out σ H Q => te σ H fun x H1 => ∃ y, x = .str y ∧ (out ++ y).length ≤ sizeLine ∧ t (out ++ y) σ H1 Q
theorem pj_nil : PJ X [] tJnil := fun out pins s σ H Q I h => joinParts_nil ⟨.str out, H, I.tok _, ⟨_, rfl⟩, h.2⟩ h.1
theorem pj_cons {t : Str → TE} (he : PE X e te) (hr : PJ X es t) (hs : evalEach (e :: es) X.env = eval e X.env :: evalEach es X.env := by rfl) : PJ X (e :: es) (tJcons te t) := by
  intro out pins s σ H Q I h
  rw [hs]
  refine joinParts_cons (thn (he pins s σ H _ I h) fun v s1 ⟨x, H1, I1, r1, y, ex, hz, q⟩ => ?_)
  subst ex
  obtain ⟨t', rfl⟩ := r1
  exact ⟨hz, hr _ pins s1 σ H1 Q I1 q⟩
theorem pe_fstr {t : Str → TE} (h : PJ X (v1 :: v2 :: es) t) (hs : evalEach (v1 :: v2 :: es) X.env = eval v1 X.env :: eval v2 X.env :: evalEach es X.env := by rfl) : PE X (.JoinedStr (v1 :: v2 :: es) pos) (t Str.empty) := by
  intro pins s σ H Q I hw
  refine JoinedStr_many ?_
  rw [← hs]
  exact h _ pins s σ H Q I hw
end
end L2

namespace L2
open PySem PySem.Spec PyProof.Rows
/-! ### an own error whose class has an own __init__: the call of the class, and raise (by the rules of the library alone; the promise of __init__ comes from outside) -/
section
variable {prog : Program} {w : World} {A : Around} {E : Value → Shared → Prop} {h : Heap} {g : Array GenState} {d : Drawn} {t : Nat} {os : OsState}
variable {nm q : Str} {C N f : Addr} {bs bm bmB : List Value} {hdct : Bool} {sn : List Str} {sub : List Value} {ab : Bool} {col : Option Bool} {dd : Option Addr} {k0 k1 k2 k3 k5 : Option Value} {B Bn newId nid initId inN : String} {bmN : List Value}
theorem tcall_exi {of : Obj} (Fn : ExcBaseFacts Bn newId inN bmN) (hBn : bmB.contains (.type Bn) = true) (F : ExcBaseFacts B nid initId bmB) (T : OwnTail h bmB bm) {mN : Str → Option Value} {rest : List Value} {Q : Fin → Shared → Prop}
    (hC : h.get? C = some (excClassObj nm q C N bs bm hdct sn sub ab col dd k0 k1 k2 k3 k5 newId)) (hn : h.Ns N mN) (hni : mN "__init__" = some (.ref f)) (hfo : h.get? f = some of) (hfc : of.cls = .type "function") (hrest : rest.length ≤ sizeLine)
    (hq : ∀ h' e, Heap.MadeExcOf h h' e (.ref C) rest → wpAny (model prog w) A (call (.ref f) (.ref e :: rest)) (fun v s' => v = .none ∧ Q (.done (.ret (.ref e))) s') E ⟨h', g, d, t, os⟩) :
    wpAny (model prog w) A (Builtin.«type.__call__» ⟨.ref C :: rest, []⟩) Q E ⟨h, g, d, t, os⟩ := by
  repeat (first | (with_reducible refine wpAny_madeBy_exc hC ?_) | (with_reducible refine wpAny_loadPart_at hC ?_) | wp_step)
  refine codeAny_call_builtin_code (Code.quiet_builtin _ Fn.quiet) (wpAny_check_new_subU Fn hBn T hC ?_)
  refine codeAny_exc_new_subU Fn hBn F T hC ?_ hrest
  have z1 : (h.push { cls := .type "tuple", data := .seq rest.toArray }).objs.size = h.objs.size + 1 := Heap.size_push ..
  have hm : Heap.MadeExcOf h ((h.push { cls := .type "tuple", data := .seq rest.toArray }).push { cls := .ref C, data := .fields #[.ref h.objs.size, .none, .none, .none, .bool false, .none] }) (h.objs.size + 1) (.ref C) rest :=
    ⟨fun b o e => Heap.get?_push_of_some _ (Heap.get?_push_of_some _ e), Heap.get?_none_of_le (Nat.le_succ _), h.objs.size, Heap.get?_push_at z1.symm rfl, Heap.get?_none_of_le (Nat.le_refl _), Heap.get?_push_of_some _ (Heap.get?_push_size _ rfl)⟩
  have hget := Heap.get?_push_at (o := { cls := Value.ref C, data := .fields #[.ref h.objs.size, .none, .none, .none, .bool false, .none] }) z1.symm rfl
  generalize (h.push { cls := .type "tuple", data := .seq rest.toArray }).push { cls := .ref C, data := .fields #[.ref h.objs.size, .none, .none, .none, .bool false, .none] } = h1 at hm hget ⊢
  have hC₁ := hm.keeps _ _ hC
  have hn₁ : h1.Ns N mN := hn.keeps hm.keeps
  have T₁ := T.keeps hm.keeps
  have hf₁ := hm.keeps _ _ hfo
  have hcC : (Value.ref C :: bm).contains (.ref C) = true := by simp
  show wpAny _ _ _ _ _ _
  unfold isInstance
  repeat (first | (with_reducible refine wpAny_isSubtype_exc hC₁ ?_; rw [hcC]) | (with_reducible refine wpAny_loadPart_at hget ?_) | wp_step)
  show wpAny _ _ (typeLookup (.ref C) _) _ _ _
  refine wpAny_typeLookup_tail hC₁ hn₁ T₁ F.mroIs F.init.lookup ?_
  rw [hni]
  refine wpAny_holding (wpAny_bind (wpAny_bindSpecial_def (s := ⟨h1, g, d, t, os⟩) hf₁ hfc ?_))
  refine wpAny_bind (wpAny_mono (hq h1 _ hm) (fun v s' hv => wpAny_pure ?_) fun _ _ z => z)
  obtain ⟨rfl, hv⟩ := hv
  exact wpAny_pure hv
theorem call_exi {of : Obj} (Fn : ExcBaseFacts Bn newId inN bmN) (hBn : bmB.contains (.type Bn) = true) (F : ExcBaseFacts B nid initId bmB) (T : OwnTail h bmB bm) {mN : Str → Option Value} {rest : List Value} {Q : Value → Shared → Prop}
    (hC : h.get? C = some (excClassObj nm q C N bs bm hdct sn sub ab col dd k0 k1 k2 k3 k5 newId)) (hn : h.Ns N mN) (hni : mN "__init__" = some (.ref f)) (hfo : h.get? f = some of) (hfc : of.cls = .type "function") (hrest : rest.length ≤ sizeLine)
    (hq : ∀ h' e, Heap.MadeExcOf h h' e (.ref C) rest → wpAny (model prog w) (A.under (.builtin "type.__call__" ⟨.ref C :: rest, []⟩)) (call (.ref f) (.ref e :: rest)) (fun v s' => v = .none ∧ Q (.ref e) s') E ⟨h', g, d, t, os⟩) :
    wpAny (model prog w) A (call (.ref C) rest) Q E ⟨h, g, d, t, os⟩ := by
  have f1 := tc_lookup
  have f2 := tc_bind (.ref C)
  have hT : (⟨h, g, d, t, os⟩ : Shared).TypeIs (.ref C) "type" := ⟨_, hC, rfl⟩
  refine wpAny_call (codeAny_of_tree ?_)
  show wpAny _ _ (callAny (.ref C) _) _ _ _
  repeat (any_goals (first | (with_reducible refine wpAny_loadPart_at hC ?_) | assumption | wp_step))
  refine ⟨rfl, ?_⟩
  refine codeAny_call_builtin_at (Code.quiet_builtin _ (by decide +kernel)) entry_typeCall (wpAny_check_type_call_sub hC (tcall_exi Fn hBn F T hC hn hni hfo hfc hrest fun h' e hm => ?_))
  exact hq h' e hm
end
section
variable {prog : Program} {w : World} {A : Around} {E : Value → Shared → Prop} {s : Shared} {env : Env}
variable {nm q : Str} {C N f : Addr} {bs bm bmB : List Value} {hdct : Bool} {sn : List Str} {sub : List Value} {ab : Bool} {col : Option Bool} {dd : Option Addr} {k0 k1 k2 k3 k5 : Option Value} {B Bn newId nid initId inN : String} {bmN : List Value}
/-- raise of a made error, whatever its dict -/
theorem raise_exi {M : Model} {x : Sem Value} {Q : Flow → Shared → Prop} (hbase : bm.contains (.type "BaseException") = true) (hh : A.handled = none)
    (h : wpAny M A x (fun v s₁ => ∃ e od vs sl, v = .ref e ∧ s₁.heap.get? C = some (excClassObj nm q C N bs bm hdct sn sub ab col dd k0 k1 k2 k3 k5 newId) ∧ s₁.heap.get? e = some ⟨.ref C, od, .fields vs, sl⟩ ∧ vs[1]? = some .none ∧ E (.ref e) s₁) E s) :
    wpAny M A (raiseStmt env (some x) none) Q E s := by
  have hcB : (Value.ref C :: bm).contains (.type "BaseException") = true := by rw [List.contains_cons, hbase, Bool.or_true]
  unfold raiseStmt
  refine wpAny_bind (wpAny_mono h (fun v s₁ h₁ => ?_) fun _ _ z => z)
  obtain ⟨e, od, vs, sl, rfl, hC, he, hv1, hE⟩ := h₁
  obtain ⟨hp, g, d, tk, os⟩ := s₁
  repeat (first | (with_reducible refine wpAny_isSubtype_exc hC ?_; rw [hcB]) | (with_reducible refine wpAny_loadPart_at he ?_) | (with_reducible refine wpAny_loadPart_at hC ?_) | wp_step)
  rw [hv1]
  refine wpAny_pure ?_
  repeat wp_step
  exact wpAny_raiseNew_none hh hE
/-- raise C(..) -/
theorem Raise_exi {of : Obj} (Fn : ExcBaseFacts Bn newId inN bmN) (hBn : bmB.contains (.type Bn) = true) (F : ExcBaseFacts B nid initId bmB) {mN : Str → Option Value} {x : Str} {np cpos pos : Pos} {args : List Expr} {Q : Flow → Shared → Prop}
    (hbase : bm.contains (.type "BaseException") = true) (hh : A.handled = none) (hplain : (backTo cpos (starEach args env)).any (·.1) = false) (hni : mN "__init__" = some (.ref f)) (hfc : of.cls = .type "function")
    (hw : wpAny (model prog w) A (eval (.Name x np) env) (fun c s₁ => c = .ref C ∧ wpAny (model prog w) A (evalArgs (.ref C) true (backTo cpos (starEach args env)) []) (fun a s₂ => a.kw = [] ∧ a.pos.length ≤ sizeLine ∧
        s₂.heap.get? C = some (excClassObj nm q C N bs bm hdct sn sub ab col dd k0 k1 k2 k3 k5 newId) ∧ s₂.heap.Ns N mN ∧ OwnTail s₂.heap bmB bm ∧ s₂.heap.get? f = some of ∧
        ∀ h' e, Heap.MadeExcOf s₂.heap h' e (.ref C) a.pos → wpAny (model prog w) (A.under (.builtin "type.__call__" ⟨.ref C :: a.pos, []⟩)) (call (.ref f) (.ref e :: a.pos)) (fun v s' => v = .none ∧
          s'.heap.get? C = some (excClassObj nm q C N bs bm hdct sn sub ab col dd k0 k1 k2 k3 k5 newId) ∧ (∃ od vs sl, s'.heap.get? e = some ⟨.ref C, od, .fields vs, sl⟩ ∧ vs[1]? = some .none) ∧ E (.ref e) s') E { s₂ with heap := h' }) E s₁) E s) :
    wpAny (model prog w) A (exec (.Raise (some (.Call (.Name x np) args [] cpos)) none pos) env) Q E s := by
  rw [arm_exec_Raise]
  simp only [evalOpt, Option.map]
  refine wpAny_bind (wpAny_standAt (raise_exi (C := C) (nm := nm) (q := q) (N := N) (bs := bs) (bm := bm) (hdct := hdct) (sn := sn) (sub := sub) (ab := ab) (col := col) (dd := dd) (k0 := k0) (k1 := k1) (k2 := k2) (k3 := k3) (k5 := k5) (newId := newId) hbase hh ?_))
  refine wpAny_bind (wpAny_mono (wpAny_Call_ofName (wpAny_mono hw (fun c s₁ h₁ => ?_) fun _ _ z => z)) (fun v s₃ h₃ => wpAny_bind (wpAny_standAt (wpAny_pure h₃))) fun _ _ z => z)
  obtain ⟨rfl, h₁⟩ := h₁
  unfold callWith
  refine wpAny_bind (wpAny_holding (wpAny_mono h₁ (fun a s₂ h₂ => wpAny_bind (wpAny_standAt ?_)) fun _ _ z => z))
  obtain ⟨apos, akw⟩ := a
  obtain ⟨hkw, hlen, hC, hn, T, hfo, h₂⟩ := h₂
  obtain rfl : akw = [] := hkw
  obtain ⟨hp, g, d, tk, os⟩ := s₂
  simp only [hplain]
  refine wpAny_bind (wpAny_keeperOf_exc hC ?_)
  refine wpAny_bind (call_exi Fn hBn F T hC hn hni hfo hfc hlen fun h' e hm => wpAny_mono (h₂ h' e hm) (fun v s' hv => ?_) fun _ _ z => z)
  obtain ⟨rfl, hC', ⟨od, vs, sl, he, hv1⟩, hE⟩ := hv
  exact ⟨rfl, wpAny_bind (wpAny_holding (wpAny_point (wpAny_pure ⟨e, od, vs, sl, rfl, hC', he, hv1, hE⟩)))⟩
end
end L2

namespace L2
open PySem PySem.Spec PyProof.Rows
/-! ### a comprehension with two own names -/
/-- what a comprehension's scope must be like: its own name x, the names that it takes from around -/
structure CScope2 (N N' : List Str) (x y : Str) (sc osc : Scope) : Prop where
  kind : sc.kind = .function
  nocell : ∀ y ∈ sc.names, y.2 ≠ .cell
  own : ∀ z ∈ sc.names, z.2 = .local → z.1 = x ∨ z.1 = y ∨ z.1 = ".0"
  has : sc.names.lookup x = some .local
  hasy : sc.names.lookup y = some .local
  ne : x ≠ y
  names : ∀ y ∈ sc.names, y.2 = .local → sc.names.lookup y.1 = some .local
  nox : x ∉ N'
  noy : y ∉ N'
  no0 : (".0" : Str) ∉ N'
  nd : N'.Nodup
  len : N'.length = N.length
  sub : ∀ p ∈ N.zip N', p.1 = p.2 ∨ sc.names.lookup p.2 = none
  free : ∀ y ∈ sc.names, y.2 = .free → osc.names.lookup y.1 = some .cell ∨ osc.names.lookup y.1 = some .free
noncomputable def cs2Ok (N N' : List Str) (x y : Str) (sc osc : Scope) : Bool :=
  decide (sc.kind = .function) && decide (∀ z ∈ sc.names, z.2 ≠ .cell) && decide (∀ z ∈ sc.names, z.2 = .local → z.1 = x ∨ z.1 = y ∨ z.1 = ".0") && decide (sc.names.lookup x = some .local) && decide (sc.names.lookup y = some .local) && decide (x ≠ y) &&
    decide (∀ z ∈ sc.names, z.2 = .local → sc.names.lookup z.1 = some .local) && decide (x ∉ N') && decide (y ∉ N') && decide ((".0" : Str) ∉ N') && decide N'.Nodup && decide (N'.length = N.length) && decide (∀ p ∈ N.zip N', p.1 = p.2 ∨ sc.names.lookup p.2 = none) && decide (∀ z ∈ sc.names, z.2 = .free → osc.names.lookup z.1 = some .cell ∨ osc.names.lookup z.1 = some .free)

noncomputable def blk2 (X : Cx) (N' : List Str) (x y : Str) (sc : Scope) (C : Addr) (s2 : Shared) (H2 : Hp) (fp : List Addr) : Cx :=
  { X with N := x :: y :: N', s₀ := s2, H₀ := H2, env := compEnvC sc (closOf sc.names X.env.cells []) C X.env, outer := X.stack, stack := X.stack, ex := fp, fn := fun _ => false, pn := [], xe := fun _ _ => False }

section
variable {X : Cx} {pins : List (Addr × Obj)} {σ : St} {H H2 : Hp} {s s2 : Shared} {x y : Str} {sc : Scope} {C : Addr} {fp : List Addr} {N' : List Str}



end

noncomputable def CompW2 (K : PySem.W.Frag) (J : It) (tt : TT) (te : TE) (σ : St) (Q : VK) (W : Nat → Nat → List V → Hp → Prop) : Prop := ∀ i m ys H, W i m ys H →
  (J.stop i H ∧ ys.length ≤ sizeLine ∧ ∀ p, H p = none → Q (.ref p) (upd H p (.lst ys))) ∨
  (J.go i H ∧ ys.length < sizeLine ∧ ∀ x H', J.yld i H x H' → ∃ a u v, x = .ref a ∧ SqT K H' a [u, v] ∧ tt (some u :: some v :: σ) H' fun b H3 => if b = true then te (some u :: some v :: σ) H3 fun y H4 => ∃ m', m' < m ∧ W (i + 1) m' (ys ++ [y]) H4 else ∃ m', m' < m ∧ W (i + 1) m' ys H3)
noncomputable def tComp2 (K : PySem.W.Frag) (wi : TI) (tt : TT) (te : TE) : TE := fun σ H Q => wi σ H fun J H1 => ∃ W : Nat → Nat → List V → Hp → Prop, (∃ m, W 0 m [] H1) ∧ CompW2 K J tt te σ Q W
section
variable {X : Cx} {pins : List (Addr × Obj)} {σ : St} {x y : Str} {sc : Scope} {N' : List Str}



end
end L2

namespace L2
open PySem PySem.Spec PyProof.Rows
/-! ### zip of two lists -/
section
variable {X : Cx} {pins : List (Addr × Obj)} {σ : St} {H : Hp} {s : Shared} {h' : Heap}
end
/-- turn i: a new pair of both lists' i-th items -/
noncomputable def Itz (K : PySem.W.Frag) (a b : Addr) : It :=
  ⟨fun i H => ∃ xs x ys y, SqL K H a xs ∧ xs[i]? = some x ∧ SqL K H b ys ∧ ys[i]? = some y, fun i H x H' => ∃ p u v, H p = none ∧ x = .ref p ∧ H' = upd H p (.tup [u, v]) ∧ (∀ xs, SqL K H a xs → xs[i]? = some u) ∧ ∀ ys, SqL K H b ys → ys[i]? = some v,
    fun i H => ∃ xs ys, SqL K H a xs ∧ SqL K H b ys ∧ (xs.length ≤ i ∨ ys.length ≤ i)⟩
section
variable {X : Cx}
noncomputable def iZip (K : PySem.W.Frag) (ta : TA) : TI := fun σ H R => ta σ H fun vs H1 => ∃ a b xs ys, vs = [.ref a, .ref b] ∧ SqL K H1 a xs ∧ SqL K H1 b ys ∧ R (Itz K a b) H1
end
end L2

namespace L2
open PySem PySem.Spec PyProof.Rows
/-! ### a def whose last parameter has the default 0 -/
structure DefD (K : PySem.W.Frag) (mg : Str → Option Value) (x : Str) (st : Stmt) (ps : List Str) : Prop where
  ex : ∃ (f : Addr) (fd : FuncData) (oc : Value) (od : Option Addr) (dV kV doc pm : Value) (an : Option Addr) (cdv ct : Value) (osl : Array (Option Value)),
    fd = PySem.W.fnOf x x (defArgs st) (defBody st) (defScope st) dV kV doc pm an cdv ct ∧ K.lookup f = some ⟨oc, od, .func fd, osl⟩ ∧ PySem.W.codeIn K cdv x = true ∧ PySem.W.keepIn K (.ref f) = true ∧ mg x = some (.ref f) ∧ Binds K fd ps [] ∧ ∃ t, Binds K fd ps [.int 0 t]
structure CalD (P : Program) (w : World) (K : PySem.W.Frag) (mg : Str → Option Value) (base : Heap) (CX : CXT) (k : Nat) (x : Str) (ps : List Str) (sp : Sp) : Prop where
  all : Cal P w K mg base CX k x ps sp
  few : ∃ (f : Addr) (fd : FuncData) (t : Tok), FnOk P w K mg base CX k f fd ps sp ∧ mg x = some (.ref f) ∧ PySem.W.keepIn K (.ref f) = true ∧ Binds K fd ps [.int 0 t]
section
variable {P : Program} {w : World} {K : PySem.W.Frag} {mg : Str → Option Value} {base : Heap} {x : Str} {st : Stmt} {ps N : List Str} {sp : Sp} {k : Nat}
end
section
variable {X : Cx} {k : Nat} {x : Str} {ps : List Str} {sp : Sp} {p pos : Pos} {e : Expr} {es : List Expr} {t : TA}
end
end L2

namespace L2
open PySem PySem.Spec PyProof.Rows
/-! ### != of tuples that hold lists and tuples, where they are equal -/
inductive Al2 (K : PySem.W.Frag) (H : Hp) : V → V → Prop where
  | of {x y : V} (h : Al1 K H x y) : Al2 K H x y
  | tup {p q : Addr} {xs : List V} (hne : p ≠ q) (h1 : SqT K H p xs) (h2 : SqT K H q xs) (h : xs.all flatV = true) : Al2 K H (.ref p) (.ref q)
section
variable {X : Cx}
theorem al2_eq {pins : List (Addr × Obj)} {σ : St} {H : Hp} {s : Shared} {A : Around} {x y : V} {u v : Value} (I : Inv X pins σ H s) (hu : A.units < cLine) (h : Al2 X.K H x y) (rx : RelV x u) (ry : RelV y v) : SeqAt.EqAt A s u v true := by
  cases h with
  | of h => exact al1_eq I hu h rx ry
  | tup hne h1 h2 h =>
    cases rx
    cases ry
    obtain ⟨its, r, pl, hz⟩ := I.tuple h1
    obtain ⟨its', r', pl', hz'⟩ := I.tuple h2
    have l1 := r.length
    have l2 := r'.length
    have := SeqAt.EqAt.of_refs hne (SeqAt.RcAt.tuples (A := A) (e := fun _ => true) pl pl' hu (als_at (R := fun x y => Al0 x y) r r' (fun j x y hx hy => by
      rw [hx] at hy
      cases hy
      exact .flat (List.all_eq_true.mp h _ (List.mem_of_getElem? hx))) fun x y u v q ru rv => al0_eq q ru rv))
    rw [all_tt, Bool.true_and] at this
    have e : (its.toArray.size == its'.toArray.size) = true := by simp; omega
    rw [e] at this
    exact this
noncomputable def rNest (K : PySem.W.Frag) : R2 := fun x y H Q => ∃ p q xs ys, x = .ref p ∧ y = .ref q ∧ SqT K H p xs ∧ SqT K H q ys ∧ xs.length = ys.length ∧ (∀ (j : Nat) x y, xs[j]? = some x → ys[j]? = some y → Al2 K H x y) ∧ Q (.bl false) H
theorem op_neNestK (K : PySem.W.Frag) (hu : X.A.units + 1 < cLine) (hK : X.K = K := by rfl) : OpR X (compareOp .NotEq) (rNest K) := by
  subst hK
  intro pins s σ H x y v u Q I rx ry h
  obtain ⟨p, q, xs, ys, rfl, rfl, h1, h2, hl, hq, hQ⟩ := h
  cases rx
  cases ry
  obtain ⟨its, r, pl, hz⟩ := I.tuple h1
  obtain ⟨its', r', pl', hz'⟩ := I.tuple h2
  have l1 := r.length
  have l2 := r'.length
  refine SeqAt.RcNeAt.tuples (e := fun _ => true) pl pl' (by omega) (als_at r r' hq fun x y u v q ru rv => al2_eq I hu q ru rv) _ _ _ _ ⟨.bl _, H, I, rfl, ?_⟩
  have e : (its.toArray.size == its'.toArray.size) = true := by simp; omega
  rw [all_tt, e]
  exact hQ
end
end L2

namespace L2
open PySem PySem.Spec PyProof.Rows
/-! ### a def with a default that raises -/
section
variable {P : Program} {w : World} {K : PySem.W.Frag} {mg : Str → Option Value} {base : Heap} {x : Str} {st : Stmt} {ps N : List Str} {sp : Sp} {k : Nat}
end
section
variable {X : Cx} {k : Nat} {x : Str} {ps : List Str} {sp : Sp} {p pos : Pos} {e : Expr} {es : List Expr} {t : TA}
end
end L2

namespace L2
open PySem PySem.Spec PyProof.Rows
/-! ### a list comprehension whose own name is taken by another one within it -/
theorem relabel_kindC {env : Env} : ∀ {names : List (Str × NameKind)} {x : Str} {k : NameKind},
    (names.map fun (n, k) => if (k == NameKind.free && env.scope.kind == .function && env.kindOf n == some .cell) then (n, NameKind.cell) else (n, k)).lookup x = some k →
    names.lookup x = some k ∨ (names.lookup x = some .free ∧ k = .cell)
  | [], _, _, h => by simp at h
  | (n, k') :: r, x, k, h => by
    have ih := @relabel_kindC env r x k
    rw [List.map_cons] at h
    by_cases hcnd : (k' == NameKind.free && env.scope.kind == .function && env.kindOf n == some .cell) = true
    · simp only [hcnd, if_true] at h
      rw [List.lookup_cons] at h ⊢
      cases hx : x == n with
      | true =>
        rw [hx] at h
        have hk' : k' = .free := by
          have := (Bool.and_eq_true_iff.mp (Bool.and_eq_true_iff.mp hcnd).1).1
          simpa using this
        have : NameKind.cell = k := by simpa using h
        exact .inr ⟨by rw [hk'], this.symm⟩
      | false => rw [hx] at h; exact ih h
    · simp only [hcnd] at h
      rw [show (if false = true then (n, NameKind.cell) else (n, k')) = (n, k') from rfl] at h
      rw [List.lookup_cons] at h ⊢
      cases hx : x == n with
      | true => rw [hx] at h; exact .inl h
      | false => rw [hx] at h; exact ih h
structure CScopeC (N N' : List Str) (x : Str) (sc osc : Scope) : Prop where
  kind : sc.kind = .function
  cells : (sc.names.filter fun y => y.2 == .cell) = [(x, .cell)]
  own : ∀ y ∈ sc.names, y.2 = .local → y.1 = ".0"
  has : sc.names.lookup x = some .cell
  names : ∀ y ∈ sc.names, y.2 = .local → sc.names.lookup y.1 = some .local
  nox : x ∉ N'
  no0 : (".0" : Str) ∉ N'
  nd : N'.Nodup
  len : N'.length = N.length
  sub : ∀ p ∈ N.zip N', p.1 = p.2 ∨ sc.names.lookup p.2 = none
  free : ∀ y ∈ sc.names, y.2 = .free → osc.names.lookup y.1 = some .cell ∨ osc.names.lookup y.1 = some .free
noncomputable def csOkC (N N' : List Str) (x : Str) (sc osc : Scope) : Bool :=
  decide (sc.kind = .function) && decide ((sc.names.filter fun y => y.2 == .cell) = [(x, .cell)]) && decide (∀ y ∈ sc.names, y.2 = .local → y.1 = ".0") && decide (sc.names.lookup x = some .cell) &&
    decide (∀ y ∈ sc.names, y.2 = .local → sc.names.lookup y.1 = some .local) && decide (x ∉ N') && decide ((".0" : Str) ∉ N') && decide N'.Nodup && decide (N'.length = N.length) && decide (∀ p ∈ N.zip N', p.1 = p.2 ∨ sc.names.lookup p.2 = none) && decide (∀ y ∈ sc.names, y.2 = .free → osc.names.lookup y.1 = some .cell ∨ osc.names.lookup y.1 = some .free)
noncomputable def blkC (X : Cx) (N' : List Str) (x : Str) (sc : Scope) (C : Addr) (s2 : Shared) (H2 : Hp) (fp : List Addr) : Cx :=
  { X with N := x :: N', s₀ := s2, H₀ := H2, env := compEnvC sc ((x, C + 1) :: closOf sc.names X.env.cells []) C X.env, outer := X.stack, stack := X.stack, ex := fp, fn := fun y => decide (y = x), pn := [], xe := fun _ _ => False }
section
variable {X : Cx} {pins : List (Addr × Obj)} {σ : St} {H H2 : Hp} {s s2 : Shared} {x : Str} {sc : Scope} {C : Addr} {fp : List Addr} {N' : List Str}


end
end L2
namespace L2
open PySem PySem.Spec PyProof.Rows
/-- the scope that a comprehension within another one sees -/
noncomputable def relS (sc osc : Scope) : Scope := { sc with names := sc.names.map fun (n, k) => if (k == .free && osc.kind == .function && osc.names.lookup n == some .cell) then (n, .cell) else (n, k) }
/-! ### == and != of lists that hold tuples, where they are equal -/
section
variable {X : Cx}
noncomputable def rAlt (K : PySem.W.Frag) (neg : Bool) : R2 := fun x y H Q => ∃ p q xs ys, x = .ref p ∧ y = .ref q ∧ SqL K H p xs ∧ SqL K H q ys ∧ xs.length = ys.length ∧ (∀ (j : Nat) x y, xs[j]? = some x → ys[j]? = some y → Al2 K H x y) ∧ Q (.bl (!neg)) H
end
end L2

namespace L2
open PySem PySem.Spec PyProof.Rows
/-! ### list(reversed(e)), e a list -/
section
variable {P0 : Program} {w0 : World} {A0 : Around} {E0' : Value → Shared → Prop} {s0 : Shared} {I l : Addr} {its : Array Value}
end
section
variable {X : Cx} {e : Expr} {te : TE} {p1 p2 pos1 pos2 : Pos}
noncomputable def tLrv (K : PySem.W.Frag) (te : TE) : TE := fun σ H Q => te σ H fun x H1 => ∃ p ys, x = .ref p ∧ SqL K H1 p ys ∧ ∀ q, H1 q = none → Q (.ref q) (upd H1 q (.lst ys.reverse))
end
end L2

namespace TC
/-! ### the least form of a list, in plain numbers -/
noncomputable def gAll (ns : List Int) : Nat := ns.foldl (fun g n => Nat.gcd g n.natAbs) 0
noncomputable def negFirst : List Int → Bool
  | [] => false
  | n :: r => if n = 0 then negFirst r else decide (n < 0)
noncomputable def divD (ns : List Int) : Int := if negFirst ns = true then -(gAll ns : Int) else (gAll ns : Int)
noncomputable def leastL (ns : List Int) : List Int := ns.map fun n => n.fdiv (divD ns)
noncomputable def some0 (ns : List Int) : Prop := ∃ n ∈ ns, n ≠ 0

theorem foldg_dvd : ∀ (ns : List Int) (g : Nat), ns.foldl (fun g n => Nat.gcd g n.natAbs) g ∣ g ∧ ∀ n ∈ ns, ns.foldl (fun g n => Nat.gcd g n.natAbs) g ∣ n.natAbs
  | [], g => ⟨Nat.dvd_refl _, (fun _ h => nomatch h)⟩
  | n :: r, g => by
    obtain ⟨h1, h2⟩ := foldg_dvd r (Nat.gcd g n.natAbs)
    refine ⟨Nat.dvd_trans h1 (Nat.gcd_dvd_left _ _), fun m hm => ?_⟩
    rcases List.mem_cons.mp hm with rfl | hm
    · exact Nat.dvd_trans h1 (Nat.gcd_dvd_right _ _)
    · exact h2 m hm
theorem gAll_dvd {ns : List Int} {n : Int} (h : n ∈ ns) : (gAll ns : Int) ∣ n := Int.ofNat_dvd_left.mpr ((foldg_dvd ns 0).2 n h)
theorem gAll_pos {ns : List Int} (h : some0 ns) : 0 < gAll ns := by
  obtain ⟨n, hm, hn⟩ := h
  refine Nat.pos_of_ne_zero fun e => hn ?_
  have d := (foldg_dvd ns 0).2 n hm
  have : gAll ns ∣ n.natAbs := d
  rw [e] at this
  have := Nat.eq_zero_of_zero_dvd this
  omega
theorem gAll_le {ns : List Int} {n : Int} (hm : n ∈ ns) (hn : n ≠ 0) : gAll ns ≤ n.natAbs := Nat.le_of_dvd (by omega) ((foldg_dvd ns 0).2 n hm)
theorem divD_natAbs (ns : List Int) : (divD ns).natAbs = gAll ns := by
  unfold divD; split <;> simp
theorem divD_ne {ns : List Int} (h : some0 ns) : divD ns ≠ 0 := by
  have := gAll_pos h
  have e := divD_natAbs ns
  intro z
  rw [z] at e
  simp at e
  omega
theorem divD_dvd {ns : List Int} {n : Int} (h : n ∈ ns) : divD ns ∣ n := by
  have := gAll_dvd h
  unfold divD
  split
  · exact Int.neg_dvd.mpr this
  · exact this
theorem fdiv_of_dvd {a b : Int} (hb : b ≠ 0) (h : b ∣ a) : b * a.fdiv b = a := by
  obtain ⟨c, rfl⟩ := h
  rw [Int.mul_fdiv_cancel_left _ hb]
theorem least_length (ns : List Int) : (leastL ns).length = ns.length := by unfold leastL; rw [List.length_map]
theorem least_some {ns : List Int} (h : some0 ns) : some0 (leastL ns) := by
  obtain ⟨n, hm, hn⟩ := id h
  refine ⟨n.fdiv (divD ns), List.mem_map.mpr ⟨n, hm, rfl⟩, fun z => hn ?_⟩
  have := fdiv_of_dvd (divD_ne h) (divD_dvd hm)
  rw [z, Int.mul_zero] at this
  exact this.symm
/-- what a first number that isn't 0 tells -/
theorem first_split : ∀ {ns : List Int}, some0 ns → ∃ pre n post, ns = pre ++ n :: post ∧ (∀ m ∈ pre, m = 0) ∧ n ≠ 0
  | [], h => by obtain ⟨_, h, _⟩ := h; cases h
  | n :: r, h => by
    by_cases hn : n = 0
    · subst hn
      obtain ⟨m, hm, hm0⟩ := h
      have h' : some0 r := by
        rcases List.mem_cons.mp hm with rfl | hm
        · exact absurd rfl hm0
        · exact ⟨m, hm, hm0⟩
      obtain ⟨pre, k, post, rfl, h1, h2⟩ := first_split h'
      exact ⟨0 :: pre, k, post, rfl, fun m hm => by rcases List.mem_cons.mp hm with rfl | hm; rfl; exact h1 m hm, h2⟩
    · exact ⟨[], n, r, rfl, (fun _ h => nomatch h), hn⟩
theorem negFirst_split {pre post : List Int} {n : Int} (h : ∀ m ∈ pre, m = 0) (hn : n ≠ 0) : negFirst (pre ++ n :: post) = decide (n < 0) := by
  induction pre with
  | nil => rw [List.nil_append, negFirst, if_neg hn]
  | cons m r ih =>
    rw [List.cons_append, negFirst, if_pos (h m List.mem_cons_self)]
    exact ih fun k hk => h k (List.mem_cons_of_mem _ hk)
theorem any_some0 (ns : List Int) : ns.any (· != 0) = true ↔ some0 ns := by
  rw [List.any_eq_true]
  constructor
  · rintro ⟨n, hm, h⟩; exact ⟨n, hm, by simpa using h⟩
  · rintro ⟨n, hm, h⟩; exact ⟨n, hm, by simpa using h⟩
/-- small enough to reckon with -/
noncomputable def Small (ns : List Int) : Prop := ∀ n ∈ ns, n.natAbs < 2 ^ 2000
theorem divD_small {ns : List Int} (h : some0 ns) (s : Small ns) : (divD ns).natAbs < 2 ^ 4000 := by
  rw [divD_natAbs]
  obtain ⟨n, hm, hn⟩ := h
  exact Nat.lt_of_le_of_lt (gAll_le hm hn) (Nat.lt_of_lt_of_le (s n hm) (Nat.pow_le_pow_right (by decide) (by decide)))
noncomputable def okLen (n : Nat) : Prop := n = 2 ∨ n = 4 ∨ n = 8 ∨ n = 16 ∨ n = 32 ∨ n = 64
end TC
namespace TC
/-! ### numbers that a law draws -/
theorem big {n : Int} (h1 : -1606938044258990275541962092341162602522202993782792835301376 < n) (h2 : n < 1606938044258990275541962092341162602522202993782792835301376) : n.natAbs < 2 ^ 4000 :=
  Nat.lt_of_lt_of_le (show n.natAbs < 1606938044258990275541962092341162602522202993782792835301376 by omega)
    (Nat.le_trans (show 1606938044258990275541962092341162602522202993782792835301376 ≤ 2 ^ 200 by decide) (Nat.pow_le_pow_right (by decide) (by decide)))
/-- at most two hundred bits -/
noncomputable def Med (ns : List Int) : Prop := ∀ n ∈ ns, -1606938044258990275541962092341162602522202993782792835301376 < n ∧ n < 1606938044258990275541962092341162602522202993782792835301376
theorem pw40 : (10 : Int) ^ (40 : Int).toNat = 10000000000000000000000000000000000000000 := by decide
theorem cpw (k : Int) (h1 : 0 ≤ k) (h2 : k ≤ 1000000) : L2.CPow 10 k := ⟨h1, h2, by decide⟩
theorem em_nn (x : Int) {m : Int} (h : 0 < m) : 0 ≤ x % m := Int.emod_nonneg x (by omega)
theorem em_lt (x : Int) {m : Int} (h : 0 < m) : x % m < m := Int.emod_lt_of_pos x h
theorem cdB {x m : Int} (h : 0 < m) (h2 : m < 1606938044258990275541962092341162602522202993782792835301376) : L2.CDivB x m := ⟨by omega, big (by omega) h2⟩
end TC

namespace TC
open PySem L2
/-- a gate -/
inductive Gt where
  | mix (c : Nat)
  | flip (c : Nat)
  | sign (c : Nat)
  | follow (a b : Nat)
  | meet (a b : Nat)
  | swap (a b : Nat)
noncomputable def Gt.vals : Gt → List V
  | .mix c => [.str "mix", .int c]
  | .flip c => [.str "flip", .int c]
  | .sign c => [.str "sign", .int c]
  | .follow a b => [.str "follow", .int a, .int b]
  | .meet a b => [.str "meet", .int a, .int b]
  | .swap a b => [.str "swap", .int a, .int b]
noncomputable def Gt.ok (m : Nat) : Gt → Prop
  | .mix c => c < m
  | .flip c => c < m
  | .sign c => c < m
  | .follow a b => a < m ∧ b < m ∧ a ≠ b
  | .meet a b => a < m ∧ b < m ∧ a ≠ b
  | .swap a b => a < m ∧ b < m ∧ a ≠ b
noncomputable def fl (p c : Nat) : Nat := p ^^^ 2 ^ c
noncomputable def bt (p c : Nat) : Bool := p.testBit c
noncomputable def at0 (xs : List Int) (i : Nat) : Int := xs.getD i 0
noncomputable def beh (xs : List Int) (p : Nat) : Gt → Int
  | .mix c => if bt p c = true then at0 xs (fl p c) - at0 xs p else at0 xs p + at0 xs (fl p c)
  | .flip c => at0 xs (fl p c)
  | .sign c => if bt p c = true then - at0 xs p else at0 xs p
  | .follow a b => if bt p a = true then at0 xs (fl p b) else at0 xs p
  | .meet a b => if (bt p a && bt p b) = true then - at0 xs p else at0 xs p
  | .swap a b => if (bt p a != bt p b) = true then at0 xs (fl (fl p a) b) else at0 xs p
noncomputable def gap (g : Gt) (xs : List Int) : List Int := (List.range xs.length).map fun p => beh xs p g
theorem gap_length (g : Gt) (xs : List Int) : (gap g xs).length = xs.length := by unfold gap; rw [List.length_map, List.length_range]
theorem at0_get {xs : List Int} {i : Nat} {n : Int} (h : xs[i]? = some n) : at0 xs i = n := by
  unfold at0; rw [List.getD_eq_getElem?_getD, h]; rfl
theorem get_at0 {xs : List Int} {i : Nat} (h : i < xs.length) : xs[i]? = some (at0 xs i) := by
  unfold at0; rw [List.getD_eq_getElem?_getD, List.getElem?_eq_getElem h]; rfl
theorem at0_gap {g : Gt} {xs : List Int} {i : Nat} (h : i < xs.length) : at0 (gap g xs) i = beh xs i g := by
  apply at0_get
  unfold gap
  rw [List.getElem?_map, List.getElem?_range h]; rfl
theorem fl_fl (p c : Nat) : fl (fl p c) c = p := by unfold fl; rw [Nat.xor_assoc, Nat.xor_self, Nat.xor_zero]
theorem fl_comm (p a b : Nat) : fl (fl p a) b = fl (fl p b) a := by unfold fl; rw [Nat.xor_assoc, Nat.xor_comm (2 ^ a), Nat.xor_assoc]
theorem bt_fl (p c : Nat) : bt (fl p c) c = !bt p c := by unfold bt fl; rw [Nat.testBit_xor, Nat.testBit_two_pow_self]; cases p.testBit c <;> rfl
theorem bt_fl_ne {p a b : Nat} (h : a ≠ b) : bt (fl p b) a = bt p a := by
  unfold bt fl
  rw [Nat.testBit_xor, Nat.testBit_two_pow_of_ne (Ne.symm h)]; cases p.testBit a <;> rfl
theorem fl_lt {m p c : Nat} (hp : p < 2 ^ m) (hc : c < m) : fl p c < 2 ^ m := Nat.xor_lt_two_pow hp (Nat.pow_lt_pow_right (by decide) hc)
/-- what twice the same gate makes of a list -/
noncomputable def Gt.two : Gt → Int
  | .mix _ => 2
  | _ => 1
theorem Gt.two_ne (g : Gt) : g.two ≠ 0 := by cases g <;> simp [Gt.two]
theorem beh_two {m : Nat} {xs : List Int} (hl : xs.length = 2 ^ m) {g : Gt} (hg : g.ok m) {p : Nat} (hp : p < xs.length) : beh (gap g xs) p g = g.two * at0 xs p := by
  rw [hl] at hp
  have L : ∀ {c q : Nat}, q < 2 ^ m → c < m → at0 (gap g xs) (fl q c) = beh xs (fl q c) g := fun hq hc => at0_gap (by rw [hl]; exact fl_lt hq hc)
  have L0 : at0 (gap g xs) p = beh xs p g := at0_gap (by rw [hl]; exact hp)
  cases g with
  | mix c =>
    have hc : c < m := hg
    show (if bt p c = true then at0 (gap (.mix c) xs) (fl p c) - at0 (gap (.mix c) xs) p else at0 (gap (.mix c) xs) p + at0 (gap (.mix c) xs) (fl p c)) = 2 * at0 xs p
    rw [L hp hc, L0]
    simp only [beh, bt_fl, fl_fl]
    cases bt p c <;> simp <;> omega
  | flip c =>
    have hc : c < m := hg
    show at0 (gap (.flip c) xs) (fl p c) = 1 * at0 xs p
    rw [L hp hc]
    simp only [beh, fl_fl, Int.one_mul]
  | sign c =>
    show (if bt p c = true then - at0 (gap (.sign c) xs) p else at0 (gap (.sign c) xs) p) = 1 * at0 xs p
    rw [L0]
    simp only [beh]
    cases bt p c <;> simp
  | follow a b =>
    obtain ⟨ha, hb, hne⟩ := hg
    show (if bt p a = true then at0 (gap (.follow a b) xs) (fl p b) else at0 (gap (.follow a b) xs) p) = 1 * at0 xs p
    rw [L hp hb, L0]
    simp only [beh, bt_fl_ne hne, fl_fl]
    cases bt p a <;> simp
  | meet a b =>
    show (if (bt p a && bt p b) = true then - at0 (gap (.meet a b) xs) p else at0 (gap (.meet a b) xs) p) = 1 * at0 xs p
    rw [L0]
    simp only [beh]
    cases bt p a <;> cases bt p b <;> simp
  | swap a b =>
    obtain ⟨ha, hb, hne⟩ := hg
    show (if (bt p a != bt p b) = true then at0 (gap (.swap a b) xs) (fl (fl p a) b) else at0 (gap (.swap a b) xs) p) = 1 * at0 xs p
    rw [L (fl_lt hp ha) hb, L0]
    have e1 : bt (fl (fl p a) b) a = !bt p a := by rw [bt_fl_ne hne, bt_fl]
    have e2 : bt (fl (fl p a) b) b = !bt p b := by rw [bt_fl, bt_fl_ne (Ne.symm hne)]
    have e3 : fl (fl (fl (fl p a) b) a) b = p := by rw [fl_comm (fl (fl p a) b) a b, fl_fl, fl_fl]
    simp only [beh, e1, e2, e3]
    cases bt p a <;> cases bt p b <;> simp
theorem gap_some {m : Nat} {xs : List Int} (hl : xs.length = 2 ^ m) {g : Gt} (hg : g.ok m) (h : some0 xs) : some0 (gap g xs) := by
  refine Classical.byContradiction fun hn => ?_
  have z : ∀ n ∈ gap g xs, n = 0 := fun n hm => Classical.byContradiction fun hne => hn ⟨n, hm, hne⟩
  have a0 : ∀ i, at0 (gap g xs) i = 0 := fun i => by
    unfold at0
    rw [List.getD_eq_getElem?_getD]
    cases e : (gap g xs)[i]? with
    | none => rfl
    | some n => exact z n (List.mem_of_getElem? e)
  obtain ⟨n, hm, hne⟩ := h
  obtain ⟨i, hi, rfl⟩ := List.mem_iff_getElem.mp hm
  have e := beh_two hl hg hi
  have e2 : beh (gap g xs) i g = 0 := by cases g <;> simp [beh, a0]
  rw [e2] at e
  have e3 : at0 xs i = xs[i] := at0_get (List.getElem?_eq_getElem hi)
  rw [e3] at e
  rcases Int.mul_eq_zero.mp e.symm with q | q
  · exact g.two_ne q
  · exact hne q
/-- how wide the numbers are -/
noncomputable def Sz (k : Nat) (xs : List Int) : Prop := ∀ n ∈ xs, n.natAbs < 2 ^ k
theorem Sz.at {k : Nat} {xs : List Int} (h : Sz k xs) (i : Nat) : (at0 xs i).natAbs < 2 ^ k := by
  unfold at0
  rw [List.getD_eq_getElem?_getD]
  cases e : xs[i]? with
  | none => exact Nat.two_pow_pos k
  | some n => exact h n (List.mem_of_getElem? e)
theorem Sz.beh {k : Nat} {xs : List Int} (h : Sz k xs) (p : Nat) (g : Gt) : (beh xs p g).natAbs < 2 ^ (k + 1) := by
  have a := h.at p
  rw [Nat.pow_succ]
  cases g with
  | mix c => have b := h.at (fl p c); simp only [TC.beh]; split <;> omega
  | flip c => have b := h.at (fl p c); simp only [TC.beh]; omega
  | sign c => simp only [TC.beh]; split <;> omega
  | follow c d => have b := h.at (fl p d); simp only [TC.beh]; split <;> omega
  | meet c d => simp only [TC.beh]; split <;> omega
  | swap c d => have b := h.at (fl (fl p c) d); simp only [TC.beh]; split <;> omega
theorem Sz.gap {k : Nat} {xs : List Int} (h : Sz k xs) (g : Gt) : Sz (k + 1) (gap g xs) := by
  intro n hn
  obtain ⟨p, _, rfl⟩ := List.mem_map.mp hn
  exact h.beh p g
theorem Sz.least {k : Nat} {xs : List Int} (h : Sz k xs) : Sz k (leastL xs) := by
  intro n hn
  obtain ⟨x, hx, rfl⟩ := List.mem_map.mp hn
  refine Nat.lt_of_le_of_lt ?_ (h x hx)
  by_cases h0 : divD xs = 0
  · rw [h0]; simp
  · have e := fdiv_of_dvd h0 (divD_dvd hx)
    have e2 : x.natAbs = (divD xs).natAbs * (x.fdiv (divD xs)).natAbs := by rw [← Int.natAbs_mul, e]
    rw [e2]
    exact Nat.le_mul_of_pos_left _ (by omega)
theorem Sz.small {k : Nat} {xs : List Int} (h : Sz k xs) (hk : k ≤ 2000) : Small xs := fun n hn => Nat.lt_of_lt_of_le (h n hn) (Nat.pow_le_pow_right (by decide) hk)
/-- one gate, then least form -/
noncomputable def stp (xs : List Int) (g : Gt) : List Int := leastL (gap g xs)
theorem stp_length (xs : List Int) (g : Gt) : (stp xs g).length = xs.length := by unfold stp; rw [least_length, gap_length]
/-- gates in a row, over a list in least form -/
noncomputable def run (gs : List Gt) (xs : List Int) : List Int := gs.foldl stp xs
theorem run_take {gs : List Gt} {g : Gt} {i : Nat} {xs : List Int} (h : gs[i]? = some g) : run (gs.take (i + 1)) xs = stp (run (gs.take i) xs) g := by
  unfold run
  rw [List.take_add_one, h]; simp
structure Fit (m k : Nat) (xs : List Int) : Prop where
  l : xs.length = 2 ^ m
  s : some0 xs
  z : Sz k xs
theorem Fit.stp {m k : Nat} {xs : List Int} (f : Fit m k xs) {g : Gt} (hg : g.ok m) : Fit m (k + 1) (stp xs g) :=
  ⟨by rw [stp_length]; exact f.l, least_some (gap_some f.l hg f.s), (f.z.gap g).least⟩
theorem Fit.gap {m k : Nat} {xs : List Int} (f : Fit m k xs) {g : Gt} (hg : g.ok m) : Fit m (k + 1) (gap g xs) :=
  ⟨by rw [gap_length]; exact f.l, gap_some f.l hg f.s, f.z.gap g⟩
theorem Fit.least {m k : Nat} {xs : List Int} (f : Fit m k xs) : Fit m k (leastL xs) := ⟨by rw [least_length]; exact f.l, least_some f.s, f.z.least⟩
theorem Fit.run {m : Nat} : ∀ {gs : List Gt} {k : Nat} {xs : List Int}, Fit m k xs → (∀ g ∈ gs, g.ok m) → Fit m (k + gs.length) (run gs xs)
  | [], _, _, f, _ => f
  | g :: gs, k, xs, f, h => by
    have := Fit.run (f.stp (h g (List.mem_cons_self ..))) fun x hx => h x (List.mem_cons_of_mem _ hx)
    rw [Nat.add_assoc, Nat.add_comm 1] at this
    exact this
theorem Fit.ok {m k : Nat} {xs : List Int} (f : Fit m k xs) (h1 : 1 ≤ m) (h6 : m ≤ 6) : okLen xs.length := by
  rw [f.l]
  have : m = 1 ∨ m = 2 ∨ m = 3 ∨ m = 4 ∨ m = 5 ∨ m = 6 := by omega
  unfold okLen
  rcases this with rfl | rfl | rfl | rfl | rfl | rfl <;> decide
/-- gates that lie in the heap as tuples -/
structure Gts (H : Hp) (m : Nat) (as : List Addr) (gs : List Gt) : Prop where
  l : as.length = gs.length
  g : ∀ (i : Nat) (a : Addr), as[i]? = some a → ∃ g, gs[i]? = some g ∧ H a = some (.tup g.vals) ∧ g.ok m
theorem Gts.same {H H' : Hp} {m : Nat} {as : List Addr} {gs : List Gt} (h : Gts H m as gs) (s : Same H H') : Gts H' m as gs := ⟨h.l, fun i a e => by
  obtain ⟨g, h1, h2, h3⟩ := h.g i a e
  exact ⟨g, h1, s _ _ h2, h3⟩⟩
theorem Gts.all {H : Hp} {m : Nat} {as : List Addr} {gs : List Gt} (h : Gts H m as gs) : ∀ g ∈ gs, g.ok m := fun g hg => by
  obtain ⟨i, hi, rfl⟩ := List.mem_iff_getElem.mp hg
  obtain ⟨g', h1, h2, h3⟩ := h.g i (as[i]'(by rw [h.l]; exact hi)) (List.getElem?_eq_getElem _)
  rw [List.getElem?_eq_getElem hi] at h1
  cases h1
  exact h3
noncomputable abbrev rV (as : List Addr) : List V := as.map V.ref
theorem rs_get {as : List Addr} {i : Nat} {x : V} (h : (rV as)[i]? = some x) : ∃ a, as[i]? = some a ∧ x = .ref a := by
  rw [List.getElem?_map] at h
  cases e : as[i]? with
  | none => rw [e] at h; cases h
  | some z => rw [e] at h; exact ⟨z, rfl, (Option.some.inj h).symm⟩
theorem sqT {K : PySem.W.Frag} {H : Hp} {a : Addr} {xs : List V} (h : H a = some (.tup xs)) : SqT K H a xs := .inl (.inl h)
noncomputable def dbl {α : Type} (as : List α) : List α := as.flatMap fun a => [a, a]
theorem Gts.nil {H : Hp} {m : Nat} : Gts H m [] [] := ⟨rfl, fun i a e => by cases e⟩
theorem Gts.app {H : Hp} {m : Nat} {as bs : List Addr} {gs hs : List Gt} (h : Gts H m as gs) (h' : Gts H m bs hs) : Gts H m (as ++ bs) (gs ++ hs) := by
  refine ⟨by rw [List.length_append, List.length_append, h.l, h'.l], fun i a e => ?_⟩
  by_cases hi : i < as.length
  · rw [List.getElem?_append_left hi] at e
    obtain ⟨g, h1, h2⟩ := h.g i a e
    exact ⟨g, by rw [List.getElem?_append_left (by rw [← h.l]; exact hi)]; exact h1, h2⟩
  · rw [List.getElem?_append_right (by omega)] at e
    obtain ⟨g, h1, h2⟩ := h'.g _ a e
    exact ⟨g, by rw [List.getElem?_append_right (by rw [← h.l]; omega), ← h.l]; exact h1, h2⟩
theorem Gts.one {H : Hp} {m : Nat} {a : Addr} {g : Gt} (h : H a = some (.tup g.vals)) (ok : g.ok m) : Gts H m [a] [g] := ⟨rfl, fun i x e => by
  cases i with
  | zero => cases e; exact ⟨g, rfl, h, ok⟩
  | succ i => cases e⟩
end TC

namespace L2
open PySem PySem.Spec PyProof.Rows
/-! ### lists of pairs as tables -/
section
variable {κ : Type} [DecidableEq κ]
noncomputable def valV (kvs : List (κ × V)) (k : κ) : Option V := (kvs.find? fun kv => decide (kv.1 = k)).map (·.2)
/-- in its place, or at the end -/
noncomputable def putK (kvs : List (κ × V)) (k : κ) (v : V) : List (κ × V) :=
  if (kvs.any fun kv => decide (kv.1 = k)) = true then kvs.map (fun kv => if kv.1 = k then (kv.1, v) else kv) else kvs ++ [(k, v)]
noncomputable def dropK (kvs : List (κ × V)) (k : κ) : List (κ × V) := kvs.filter fun kv => decide (kv.1 ≠ k)



end


/-! ### a tracked dict, its keys ints and texts or tuples of these -/

/-- raw entries of a dict with tuple keys -/
noncomputable abbrev KT (H : Hp) : List (List Key × V) → List (List Key × Addr × Value) → Prop := Paired fun p q => p.1 = q.1 ∧ H q.2.1 = some (.tup (p.1.map kV)) ∧ RelV p.2 q.2.2

section
variable {P : Program} {w : World} {H : Hp} {h : Heap} {a : Addr}
end

/-- what the dict at a holds at the key y -/
noncomputable def DGet (H : Hp) (a : Addr) (y : V) (r : Option V) : Prop :=
  (∃ kvs k, Rd H a (.dK kvs) ∧ y = kV k ∧ r = valV kvs k) ∨ ∃ kvs k b, Rd H a (.dT kvs) ∧ y = .ref b ∧ H b = some (.tup (k.map kV)) ∧ r = valV kvs k
/-- the heap behind a[y] = v -/
noncomputable def DPut (H : Hp) (a : Addr) (y v : V) (H' : Hp) : Prop :=
  (∃ kvs k, H a = some (.dK kvs) ∧ y = kV k ∧ kvs.length < sizeLine ∧ H' = upd H a (.dK (putK kvs k v))) ∨
  ∃ kvs k b, H a = some (.dT kvs) ∧ y = .ref b ∧ H b = some (.tup (k.map kV)) ∧ kvs.length < sizeLine ∧ H' = upd H a (.dT (putK kvs k v))


section
variable {X : Cx} {pins : List (Addr × Obj)} {σ : St} {H : Hp} {s : Shared} {a : Addr} {y v : V} {u r : Value} {o : Option V} {A : Around} {E : Value → Shared → Prop}


end
end L2

namespace L2
open PySem PySem.Spec PyProof.Rows
/-! ### list(d), d a dict whatever its keys are: its keys in their order -/
noncomputable def RawD (h : Heap) (d : Addr) (es : Array DictEntry) (ep : Nat) : Prop := ∃ o, h.get? d = some o ∧ o.ExactDict ∧ o.data = .dict es ep
section
variable {P0 : Program} {w0 : World} {A0 : Around} {E1 : Value → Shared → Prop} {s0 : Shared} {I d : Addr} {es : Array DictEntry} {ep i : Nat}
end
section
variable {X : Cx}
/-- list(d) of a dict whose keys are tuples: a new list of these very tuples -/
noncomputable def rListD : List V → Hp → VK → Prop := fun xs H Q => ∃ (a : Addr) (kvs : List (List Key × V)), xs = [.ref a] ∧ H a = some (.dT kvs) ∧
  ∀ (bs : List Addr) (l : Addr), bs.length = kvs.length → (∀ (i : Nat) b k v, bs[i]? = some b → kvs[i]? = some (k, v) → H b = some (.tup (k.map kV))) → H l = none → Q (.ref l) (upd H l (.lst (bs.map V.ref)))
end
end L2

namespace L2
open PySem PySem.Spec PyProof.Rows
/-! ### a dict whose keys are tuples: k in d, d[k] = v, {k: v} -/
section
variable {X : Cx}
noncomputable def rInD : R2 := fun x y H Q => ∃ (a b : Addr) (kvs : List (List Key × V)) (k : List Key), x = .ref b ∧ y = .ref a ∧ H a = some (.dT kvs) ∧ H b = some (.tup (k.map kV)) ∧ Q (.bl (valV kvs k).isSome) H
noncomputable def rSetD : TSet := fun o i v H Q => ∃ (a b : Addr) (kvs : List (List Key × V)) (k : List Key), o = .ref a ∧ i = .ref b ∧ H a = some (.dT kvs) ∧ H b = some (.tup (k.map kV)) ∧ kvs.length < sizeLine ∧ Q (upd H a (.dT (putK kvs k v)))
noncomputable def tD1 (tk tv : TE) : TE := fun σ H Q => ∀ p, H p = none → tk σ (upd H p (.dT [])) fun x H1 => tv σ H1 fun y H2 => ∃ (b : Addr) (k : List Key), x = .ref b ∧ H2 b = some (.tup (k.map kV)) ∧ H2 p = some (.dT []) ∧ Q (.ref p) (upd H2 p (.dT [(k, y)]))
end
end L2

namespace L2
open PySem PySem.Spec PyProof.Rows
/-! ### == of two lists of as many flat tuples, whether they are alike or not -/
section
variable {X : Cx}
noncomputable def rEqTs (K : PySem.W.Frag) : R2 := fun x y H Q => ∃ (p q : Addr) (as bs : List Addr) (e : Nat → Bool), x = .ref p ∧ y = .ref q ∧ SqL K H p (as.map V.ref) ∧ SqL K H q (bs.map V.ref) ∧ as.length = bs.length ∧
  (∀ (j : Nat) a b, as[j]? = some a → bs[j]? = some b → (a = b ∧ e j = true) ∨ (a ≠ b ∧ ∃ xs ys, SqT K H a xs ∧ SqT K H b ys ∧ xs.all flatV = true ∧ ys.all flatV = true ∧ eqVs xs ys = e j)) ∧ Q (.bl ((List.range as.length).all e)) H
end
end L2

namespace L2
open PySem PySem.Spec PyProof.Rows
/-! ### d[k] of a dict whose keys are tuples; == of tuples that hold lists, where they are alike -/
section
variable {X : Cx}
noncomputable def rIxD : R2 := fun x y H Q => ∃ (a b : Addr) (kvs : List (List Key × V)) (k : List Key) (v : V), x = .ref a ∧ y = .ref b ∧ H a = some (.dT kvs) ∧ H b = some (.tup (k.map kV)) ∧ valV kvs k = some v ∧ Q v H
noncomputable def rNestE (K : PySem.W.Frag) : R2 := fun x y H Q => ∃ p q xs ys, x = .ref p ∧ y = .ref q ∧ SqT K H p xs ∧ SqT K H q ys ∧ xs.length = ys.length ∧ (∀ (j : Nat) x y, xs[j]? = some x → ys[j]? = some y → Al2 K H x y) ∧ Q (.bl true) H
theorem op_eqNestK (K : PySem.W.Frag) (hu : X.A.units + 1 < cLine) (hK : X.K = K := by rfl) : OpR X (compareOp .Eq) (rNestE K) := by
  subst hK
  intro pins s σ H x y v u Q I rx ry h
  obtain ⟨p, q, xs, ys, rfl, rfl, h1, h2, hl, hq, hQ⟩ := h
  cases rx
  cases ry
  obtain ⟨its, r, pl, hz⟩ := I.tuple h1
  obtain ⟨its', r', pl', hz'⟩ := I.tuple h2
  have l1 := r.length
  have l2 := r'.length
  refine SeqAt.RcAt.tuples (e := fun _ => true) pl pl' (by omega) (als_at r r' hq fun x y u v q ru rv => al2_eq I hu q ru rv) _ _ _ _ ⟨.bl _, H, I, rfl, ?_⟩
  have e : (its.toArray.size == its'.toArray.size) = true := by simp; omega
  rw [all_tt, e]
  exact hQ
end
end L2

namespace L2
open PySem PySem.Spec PyProof.Rows

/-! ### own errors with fields: what is tracked while __init__ runs, and let go of when the error flies -/
noncomputable def excN (a : Addr) (cls : Value) (od : Option Addr := none) : HO := .ext fun h => ∃ o vs t, h.get? a = some o ∧ o.cls = cls ∧ o.dict = od ∧ o.data = .fields vs ∧ vs[0]? = some (.ref t) ∧ vs[1]? = some .none ∧ vs[2]? = some .none
theorem excN_ok {P : Program} {w : World} {H : Hp} {h : Heap} {a : Addr} {cls : Value} {od : Option Addr} (x : ∃ o vs t, h.get? a = some o ∧ o.cls = cls ∧ o.dict = od ∧ o.data = .fields vs ∧ vs[0]? = some (Value.ref t) ∧ vs[1]? = some .none ∧ vs[2]? = some .none) : ObjOk P w H h a (excN a cls od) := by
  have x' := x
  obtain ⟨o, vs, t, e, r⟩ := x
  exact ⟨x', ⟨o, e⟩, fun ha hb ⟨o, vs, t, z1, z⟩ k => ⟨o, vs, t, k o z1, z⟩⟩
theorem excN_at {P : Program} {w : World} {H : Hp} {h : Heap} {a : Addr} {cls : Value} {od : Option Addr} (x : ObjOk P w H h a (excN a cls od)) : ∃ o vs t, h.get? a = some o ∧ o.cls = cls ∧ o.dict = od ∧ o.data = .fields vs ∧ vs[0]? = some (Value.ref t) ∧ vs[1]? = some .none ∧ vs[2]? = some .none := x.1
noncomputable def untrk (H : Hp) (e : Addr) : Hp := fun b => if b = e then none else H b
theorem untrk_same {H : Hp} {e : Addr} : untrk H e e = none := if_pos rfl
theorem untrk_ne {H : Hp} {e b : Addr} (h : b ≠ e) : untrk H e b = H b := if_neg h
theorem Same.untrk {H H' : Hp} {e : Addr} (s : Same H H') (n : H e = none) : Same H (L2.untrk H' e) := fun a o h => by
  have : a ≠ e := fun z => by rw [z, n] at h; cases h
  rw [untrk_ne this]; exact s a o h
theorem upd_self {H : Hp} {a : Addr} {o : HO} (h : H a = some o) : upd H a o = H := by
  funext b
  by_cases e : b = a
  · rw [e, upd_same, h]
  · rw [upd_ne e]
section
variable {X : Cx} {pins : List (Addr × Obj)} {σ : St} {H : Hp} {s : Shared} {e : Addr} {φ : Heap → Prop}
theorem HOk.untrk {P : Program} {w : World} {h : Heap} (ok : HOk P w H h) (hx : H e = some (.ext φ)) : HOk P w (L2.untrk H e) h := fun a o q => by
  have ne : a ≠ e := fun z => by rw [z, untrk_same] at q; cases q
  rw [untrk_ne ne] at q
  refine (ok a o q).stay (fun _ _ _ z => z) (fun b z => ?_) fun b xs z => ?_
  · rw [untrk_ne (ne_of z hx (by intro y; cases y))]; exact z
  · rw [untrk_ne (ne_of z hx (by intro y; cases y))]; exact z
theorem Inv.untrk (I : Inv X pins σ H s) (hx : H e = some (.ext φ)) : Inv X pins σ (L2.untrk H e) s := by
  refine I.stepN (h' := s.heap) (g' := s.gens) (d' := s.drawn) (t' := s.toks) (ch := []) (fun b hb => nomatch hb) (fun b o _ _ _ q _ => q) (fun b o _ _ _ q _ => ⟨o.slots, q⟩) (fun b o _ _ n => ?_) (fun b o _ q => ⟨o, q⟩) (fun b xs q => ?_) (fun b o u q => ?_) (fun b ps q => ⟨#[], ?_⟩) (fun m hm => hm) (I.hok.untrk hx) I.bare
  · by_cases z : b = e
    · rw [z]; exact untrk_same
    · rw [untrk_ne z]; exact n
  · rw [untrk_ne (ne_of q hx (by intro y; cases y))]; exact q
  · rw [untrk_ne (ne_of q hx (by intro y; cases y))]; exact q
  · rw [untrk_ne (ne_of q hx (by intro y; cases y)), q]; simp
/-- a new object that isn't at the heap's end is tracked -/
theorem Inv.track {h' : Heap} {o : HO} {t' : Nat} (I : Inv X pins σ H s) (hex : X.ex = []) (k : ∀ b u, s.heap.get? b = some u → h'.get? b = some u) (hn : s.heap.get? e = none) (new : ObjOk X.prog X.w (upd H e o) h' e o) : Inv X pins σ (upd H e o) { s with heap := h', toks := t' } := by
  obtain ⟨n1, n2⟩ := I.newApart hex hn
  have I2 : Inv X pins σ H { s with heap := h', toks := t' } := I.kept k
  refine I2.stepN (s := { s with heap := h', toks := t' }) (h' := h') (g' := s.gens) (d' := s.drawn) (t' := t') (ch := [e]) (fun b hb => ?_) (fun b o _ _ _ q _ => q) (fun b o _ _ _ q _ => ⟨o.slots, q⟩) (fun b o hb q n => ?_)
    (fun b o _ q => ⟨o, q⟩) (fun b xs q => by rw [upd_ne (ne_of_none q n1)]; exact q) (fun b o u q => by rw [upd_ne (ne_of_none q n1)]; exact q) (fun b ps q => ⟨#[], by rw [upd_ne (ne_of_none q n1), q]; simp⟩) (fun m hm => hm) (I2.hok.track n1 new) I2.bare
  · have z := List.mem_singleton.mp hb
    subst z
    refine ⟨.inr n2.1, fun z => ?_, fun y c hc z => ?_, n2.2⟩
    · obtain ⟨m, ⟨o', es, ep, ho', _⟩, _⟩ := I.loc
      rw [z, ho'] at hn; cases hn
    · obtain ⟨v, o', ho', _⟩ := I.cell y c hc
      rw [z, hn] at ho'; cases ho'
  · rw [upd_ne (by intro z; exact hb (by simp [z]))]; exact n
end

/-! ### the class: one's own __init__ -/
noncomputable def exiIn (K : PySem.W.Frag) (C f : Addr) : Bool := match K.lookup C with
  | some ⟨.type "type", _, .cls cd, sl⟩ => (match cd.mro, sl.toList with
    | .ref C' :: bm, [_, _, _, _, some (.builtin n), _] => C' == C && n == "ValueError.__new__" && !cd.hasDel && PySem.W.tailIn K bmVE bm && PySem.W.nsOkIn K cd.ns && PySem.W.nsIn K cd.ns "__init__" == some (some (.ref f))
    | _, _ => false)
  | _ => false
theorem nsMap_some_in {K : PySem.W.Frag} {h : Heap} {N : Addr} {x : Str} {v : Value} (X : K.In h) (e : PySem.W.nsOkIn K N = true) (q : PySem.W.nsIn K N x = some (some v)) : h.nsMap N x = some v := by
  obtain ⟨o, es, ep, ho, hd, _, hf⟩ := Heap.Ns.of_isNs (PySem.W.isNs_of_in X e)
  unfold PySem.W.nsIn at q
  split at q
  · rename_i c d es' n' sl ho'
    have z := (X _ _ ho').symm.trans ho
    cases z
    dsimp only at hd
    cases hd
    split at q
    · rename_i en he
      rw [← hf]
      unfold nsFind findBy
      rw [← Array.find?_toList, he]
      cases q
      rfl
    · split at q <;> cases q
  · cases q
section
variable {X : Cx} {C f : Addr} {x : Str} {np cpos pos : Pos} {e : Expr} {es : List Expr} {t : TA} {E : XS}
theorem exi_facts {K : PySem.W.Frag} {h : Heap} (X : K.In h) (q : exiIn K C f = true) :
    ∃ bm N nm qn bs hdct sn sub ab col dd k0 k1 k2 k3 k5 mN, h.get? C = some (excClassObj nm qn C N bs bm hdct sn sub ab col dd k0 k1 k2 k3 k5 "ValueError.__new__") ∧ h.Ns N mN ∧ mN "__init__" = some (.ref f) ∧ OwnTail h bmVE bm := by
  unfold exiIn at q
  split at q
  · rename_i dd cd sl ho
    split at q
    · rename_i C' bm k0 k1 k2 k3 n k5 hm hs
      simp only [Bool.and_eq_true, beq_iff_eq, Bool.not_eq_true'] at q
      obtain ⟨⟨⟨⟨⟨rfl, rfl⟩, hdel⟩, ht⟩, hok⟩, hni⟩ := q
      obtain ⟨nm, bs, mro, ns, qn, hd, sn, sub, ab, col, del⟩ := cd
      dsimp only at hm hdel hok hni
      subst hm hdel
      have hsl : sl = #[k0, k1, k2, k3, some (.builtin "ValueError.__new__"), k5] := by
        obtain ⟨l⟩ := sl
        simp only at hs
        rw [hs]
      subst hsl
      exact ⟨bm, ns, nm, qn, bs, hd, sn, sub, ab, col, dd, k0, k1, k2, k3, k5, _, X _ _ ho, .of_isNs (PySem.W.isNs_of_in X hok), nsMap_some_in X hok hni, PySem.W.tail_of_in X ht⟩
    · cases q
  · cases q

/-- raise C(..), C's own __init__ keeping the promise sp -/
noncomputable def tRaiseI (C : Addr) (sp : Sp) (E : XS) (t : TA) : TS := fun _ σ H => t σ H fun vs H1 => vs.length ≤ sizeLine ∧ ∀ e, H1 e = none →
  sp (.ref e :: vs) (upd H1 e (excN e (.ref C))) (fun v H2 => v = .non ∧ ∃ od, H2 e = some (excN e (.ref C) od) ∧ E (.ref C) od σ (untrk H2 e)) (fun _ _ _ => False)
theorem ps_raiseI {k : Nat} {fd : FuncData} {ps : List Str} {sp : Sp} (hc : X.calm = true) (hex : X.ex = []) (hg : Gl X x) (hm : X.mg x = some (.ref C)) (q : exiIn X.K C f = true) (qf : PySem.W.typeIn X.K (.ref f) = some (.type "function"))
    (F : FnOk X.prog X.w X.K X.mg X.base CX0 k f fd ps sp) (hr : Room (k + 1) X.A) (hb : Binds X.K fd ps []) (R : Rs X E) (ha : PA X (e :: es) t)
    (hdb : (x == ("__debug__" : Str)) = false := by decide) (he : starEach (e :: es) X.env = (false, eval e X.env) :: starEach es X.env := by rfl) (hpl : (backTo cpos (starEach es X.env)).any (·.1) = false := by rfl) :
    PS X (.Raise (some (.Call (.Name x np) (e :: es) [] cpos)) none pos) (tRaiseI C sp E t) := by
  intro pins s σ H D I h
  obtain ⟨tl, N, nm, qn, bs, hdct, sn, sub, ab, col, dd, k0, k1, k2, k3, k5, mN, hC, hN, hni, T⟩ := exi_facts I.ok.mod.kin q
  obtain ⟨of, hof0, hfc⟩ := Option.map_eq_some_iff.mp (show (X.K.lookup f).map (·.cls) = some (.type "function") from qf)
  have hof : X.base.get? f = some of := I.ok.mod.kin _ _ hof0
  refine Raise_exi (C := C) (nm := nm) (q := qn) (N := N) (bs := bs) (bm := tl) (hdct := hdct) (sn := sn) (sub := sub) (ab := ab) (col := col) (dd := dd) (k0 := k0) (k1 := k1) (k2 := k2) (k3 := k3) (k5 := k5)
    PySem.F.excBase_ValueError (by decide +kernel) PySem.F.excBase_ValueError (mN := mN) (of := of) (f := f) (T.hasType PySem.F.excBase_ValueError.hasBase) (I.ok.hd hc) (by rw [he]; show (false || (backTo cpos (starEach es X.env)).any (·.1)) = false; rw [hpl]; rfl) hni hfc (ld_glob I hg hm ⟨rfl, ?_⟩ hdb)
  have ha' := ha cpos pins s σ H _ I h
  rw [he] at ha' ⊢
  refine Calls.evalArgs_plain (thn ha' fun us s1 ⟨vs, H1, I1, r, hz, q⟩ => ?_)
  refine ⟨rfl, by show us.length ≤ sizeLine; rw [← r.length]; exact hz, I1.bk _ _ hC, hN.keeps I1.bk, T.keeps I1.bk, I1.bk _ _ hof, fun h' ea me => ?_⟩
  obtain ⟨n1, n2⟩ := I1.newApart hex me.new
  obtain ⟨tt, m1, m2, m3⟩ := me.there
  have I3 : Inv X pins σ (upd H1 ea (excN ea (.ref C))) { s1 with heap := h', toks := s1.toks } := I1.track (t' := s1.toks) hex me.keeps me.new (excN_ok ⟨_, _, tt, m1, rfl, rfl, rfl, rfl, rfl, rfl⟩)
  have hq := q ea n1
  have r2 : Vals (V.ref ea :: vs) (Value.ref ea :: us) := .cons rfl r
  have hl : (Value.ref ea :: us ++ []).length = ps.length := by
    rw [List.append_nil, ← r2.length]; exact F.len _ _ _ _ hq
  refine wpAny_call (codeAny_mono (F.run _ X.stack _ _ ⟨Value.ref ea :: us, []⟩ (Value.ref ea :: us) _ _ _ (hr.make C us []) (I3.env0.make C us []) (by have := hb _ (Value.ref ea :: us) I3.kIn hl; rwa [List.append_nil] at this) r2 hq) fun r s' hq' => ?_)
  cases r with
  | error v => exact False.elim hq'
  | ok fl =>
    cases fl with
    | ret u =>
      obtain ⟨v, H2, I4, rv, ev, od, hx, q4⟩ := I3.after hq'
      subst ev
      obtain ⟨o, fs, t4, g1, g2, g3, g4, g5, g6, g7⟩ := excN_at (I4.hok ea _ hx)
      have hob : s'.heap.get? ea = some ⟨.ref C, od, .fields fs, o.slots⟩ := by rw [g1, ← g2, ← g3, ← g4]
      refine ⟨rv, I4.bk _ _ hC, ⟨od, fs, o.slots, hob, g6⟩, ?_⟩
      exact R pins σ (untrk H2 ea) s' ea (.ref C) od (I4.untrk hx) ⟨untrk_same, n2, _, _, hob, rfl, rfl, rfl, (Array.getElem?_eq_some_iff.mp g6).1, g7, .inl g6⟩ q4
    | next => exact False.elim hq'
    | brk => exact False.elim hq'
    | cont => exact False.elim hq'
end
end L2

namespace L2
open PySem PySem.Spec PyProof.Rows Builtin Builtin.ObjectAttr

/-! ### B.__init__(self, ..) of a class above -/
section
variable {X : Cx} {pins : List (Addr × Obj)} {σ : St} {H : Hp} {s : Shared} {a C f : Addr} {od : Option Addr} {A : Around} {E : Value → Shared → Prop}
theorem run_binit {rest : List Value} {Q : Value → Shared → Prop} (I : Inv X pins σ H s) (q : exiIn X.K C f = true) (hx : H a = some (excN a (.ref C) od)) (hl : rest.length ≤ sizeLine) (h : ∀ s', Inv X pins σ H s' → Q .none s') :
    wpAny (model X.prog X.w) A (call (.builtin "ValueError.__init__") (.ref a :: rest)) Q E s := by
  obtain ⟨tl, N, nm, qn, bs, hdct, sn, sub, ab, col, dd, k0, k1, k2, k3, k5, mN, hC, hN, hni, T⟩ := exi_facts I.ok.mod.kin q
  obtain ⟨o, vs, tt, g1, g2, g3, g4, g5, g6, g7⟩ := excN_at (I.hok a _ hx)
  have hC' := I.bk _ _ hC
  have T' := T.keeps I.bk
  have fin : ∀ s', Inv X pins σ H s' → Q .none s' := h
  have I' := I
  obtain ⟨hp, gg, dr, tk, os⟩ := s
  refine wpAny_call (codeAny_call_builtin F.excBase_ValueError.init.plain F.excBase_ValueError.initEntry (wpAny_check_init_subU F.excBase_ValueError T' hC' g1 g2 ?_))
  unfold Builtin.«BaseException.__init__» newTuple Builtin.BaseException.bexcPut
  dsimp only
  rw [if_neg (show ¬ ((!([] : List (Str × Value)).isEmpty) = true) by simp)]
  have sz : 0 < vs.size := (Array.getElem?_eq_some_iff.mp g5).1
  have e1 := Heap.get?_push_of_some (h := hp) { cls := .type "tuple", data := .seq rest.toArray } g1
  refine wpAny_bind (wpAny_newObj_type ?_ (by show rest.toArray.size ≤ sizeLine; rw [List.size_toArray]; exact hl))
  refine wpAny_bind (wpAny_bind (wpAny_field e1 g4 g5 (wpAny_bind (wpAny_setField e1 g4 sz ?_))))
  refine wpAny_letGo (wpAny_pure ?_)
  refine fin _ ?_
  have I1 : Inv X pins σ H ⟨hp.push { cls := .type "tuple", data := .seq rest.toArray }, gg, dr, tk, os⟩ := I'.kept (t' := tk) fun b u e => Heap.get?_push_of_some _ e
  have e2 := Heap.get?_update_self (Obj.mapFields (·.setIfInBounds 0 (Value.ref hp.objs.size))) e1 (Obj.isFreed_of_fields (Obj.data_mapFields g4 _))
  have w := I1.write (x := a) (e := a) (o := excN a (.ref C) od) (t' := tk) (h' := (hp.push { cls := .type "tuple", data := .seq rest.toArray }).update a (Obj.mapFields (·.setIfInBounds 0 (Value.ref hp.objs.size)))) (by rw [hx]; exact True.intro) (.inl rfl) (fun b u hb e => (Heap.get?_update_other _ _ (Ne.symm hb)).trans e) ⟨_, e2⟩
    (excN_ok ⟨_, _, hp.objs.size, e2, (Obj.cls_mapFields _ _).trans g2, (dict_mf _ _).trans g3, Obj.data_mapFields g4 _, by rw [Array.getElem?_setIfInBounds_self_of_lt sz], by rw [Array.getElem?_setIfInBounds_ne (by decide)]; exact g6, by rw [Array.getElem?_setIfInBounds_ne (by decide)]; exact g7⟩)
  rw [upd_self hx] at w
  exact w
end
section
variable {X : Cx} {B C f : Addr} {mc : Value} {x : Str} {np apos pos : Pos} {e : Expr} {es : List Expr} {t : TA} {pl : Sem Bool}
noncomputable def tBInit (C : Addr) (t : TA) : TE := fun σ H Q => t σ H fun vs H1 => ∃ a od rest, vs = .ref a :: rest ∧ H1 a = some (excN a (.ref C) od) ∧ rest.length ≤ sizeLine ∧ Q .non H1
/-- what the class above must have -/
structure XBas (K : PySem.W.Frag) (B : Addr) : Prop where
  ga : PySem.W.specialIn K (.ref B) "__getattribute__" = some (some (.builtin "type.__getattribute__"))
  rd : PySem.W.readsIn K B (.type "type") = true
  ini : PySem.W.findCls K (.ref B) (.type "type") "__init__" = some (.val (.builtin "ValueError.__init__"))
theorem pe_binit (hg : Gl X x) (hm : X.mg x = some (.ref B)) (b : XBas X.K B) (q : exiIn X.K C f = true) (ha : PA X (e :: es) t)
    (hdb : (x == ("__debug__" : Str)) = false := by decide) (hst : starEach (e :: es) X.env = (false, eval e X.env) :: starEach es X.env := by rfl) (hpl : (backTo pos (starEach es X.env)).any (·.1) = false := by rfl)
    (ht : eval (.Call (.Attribute (.Name x np) "__init__" apos) (e :: es) [] pos) X.env = (do
      let ov ← eval (.Name x np) X.env
      standAt apos.atName
      let (f, first) ← holding [ov] (getMethod ov "__init__" pl)
      callWith pos f first (backTo pos (starEach (e :: es) X.env)) (backToKw pos (keywordEach [] X.env))) := by rfl) :
    PE X (.Call (.Attribute (.Name x np) "__init__" apos) (e :: es) [] pos) (tBInit C t) := by
  intro pins s σ H Q I h
  refine PySem.W.methodCall_KW (pl := pl) (ld_glob I hg hm ?_ hdb) ht
  refine PySem.W.method_cls I.kIn b.ga (PySem.W.cls_value I.kIn b.rd b.ini (by decide +kernel) ?_)
  have I0 : Inv X pins σ H { s with toks := s.toks + 1 } := I.tok _
  have hA := ha pos pins _ σ H _ I0 h
  rw [hst] at hA ⊢
  refine Calls.callWith_builtin (by show (false || (backTo pos (starEach es X.env)).any (·.1)) = false; rw [hpl] <;> rfl) (Calls.evalArgs_plain (thn hA fun us s2 ⟨vs, H2, I2, r2, q2⟩ => ?_))
  obtain ⟨a, od, rest, rfl, hx, hl, q2⟩ := q2
  cases r2 with
  | @cons _ u _ us ru r2 =>
    cases (show u = Value.ref a from ru)
    exact run_binit I2 q hx (by rw [← r2.length]; exact hl) fun s' I' => ⟨.non, H2, I', rfl, q2⟩
end
end L2

namespace L2
open PySem PySem.Spec PyProof.Rows Builtin Builtin.ObjectAttr

/-! ### self.f = e in an error's __init__ -/
noncomputable def isRef : Value → Bool
  | .ref _ => true
  | _ => false
noncomputable def tailVE : List Value → Bool
  | [] => false
  | v :: r => (v :: r) == bmVE || (isRef v && tailVE r)
noncomputable def overIn (K : PySem.W.Frag) (C : Addr) : Bool := (PySem.W.clsIn K C).any fun cd => tailVE cd.mro
theorem tailVE_passes (self : Value) : ∀ {l : List Value}, tailVE l = true → refuseLoop self "__setattr__" l = pure ()
  | [], e => by cases e
  | v :: r, e => by
    rcases Bool.or_eq_true_iff.mp e with e | e
    · rw [beq_iff_eq.mp e]; exact F.store_ValueError.passes self
    · obtain ⟨e1, e2⟩ := Bool.and_eq_true_iff.mp e
      cases v with
      | ref c => rw [refuseLoop_ref]; exact tailVE_passes self e2
      | _ => cases e1
theorem tailVE_has : ∀ {l : List Value}, tailVE l = true → l.contains (.type "object") = true
  | [], e => by cases e
  | v :: r, e => by
    rcases Bool.or_eq_true_iff.mp e with e | e
    · rw [beq_iff_eq.mp e]; decide +kernel
    · obtain ⟨e1, e2⟩ := Bool.and_eq_true_iff.mp e
      rw [List.contains_cons, tailVE_has e2, Bool.or_true]
/-- what the class must have for its fields -/
structure XFl (K : PySem.W.Frag) (C : Addr) : Prop where
  sa : PySem.W.findIn K (.ref C) "__setattr__" = some (some (.builtin "object.__setattr__"))
  ov : overIn K C = true
  hd : PySem.W.hasDictIn K C = true
section
variable {prog : Program} {w : World} {A : Around} {E : Value → Shared → Prop} {s : Shared} {K : PySem.W.Frag} {x C : Addr} {name : Str} {v : Value} {ox : Obj}
theorem xsa_open {tk : Tok} {R : Result → Shared → Prop} (X : K.In s.heap) (hx : s.heap.get? x = some ox) (hcl : ox.cls = .ref C) (c : XFl K C) (hn : NoAttr K C name)
    (h : wpAny (model prog w) A.in1 (storeInOwnDict (.ref x) (.ref C) (.str name tk) name v false) (fun fin s' => match fin with | .done f => R (.ok f) s' | .again c' => c'.quiet = true ∧ codeAny (model prog w) A c' R s') (fun e s' => R (.error e) s') s) :
    codeAny (model prog w) A (.call (.builtin "object.__setattr__") ⟨[.ref x, .str name tk, v], []⟩) R s := by
  have SF := F.store_object
  obtain ⟨cd, hc, ho⟩ := PySem.W.any_some c.ov
  have ty : PySem.W.Looks (model prog w) s.heap (typeOf (.ref x)) (.ref C) := hcl ▸ (PySem.W.Looks.ld hx).andThen .now
  have ne : cd.mro.isEmpty = false := by
    cases q : cd.mro with
    | nil => rw [q] at ho; cases ho
    | cons _ _ => rfl
  have sub : PySem.W.Looks (model prog w) s.heap (isInstance (.ref x) (.type "object")) true := ty.andThen (PySem.W.looks_mroIn X (by unfold PySem.W.mroIn; rw [hc, Option.bind_some, if_neg (by rw [ne]; decide), tailVE_has ho]))
  refine codeAny_call_builtin SF.slot.plain SF.entry (@PySem.W.check_slot (model prog w) _ _ s "object.__setattr__" "object" "__setattr__" (.ref x) [.str name tk, v] [] _ SF.kind SF.split sub (SF.args (.ref x) (.str name tk) v) ?_)
  have mro : PySem.W.Looks (model prog w) s.heap (mroOf (.ref C)) cd.mro := (PySem.W.looks_clsIn X hc).andThen .now
  rw [PySem.W.osa_eq, refuse_eq]
  refine wpAny_bind (wpAny_bind (ty.here (wpAny_bind (mro.here ?_))))
  rw [tailVE_passes _ ho]
  have fnd : PySem.W.Looks (model prog w) s.heap (typeLookup (.ref C) name) none := PySem.W.looks_findIn X hn
  refine wpAny_pure (wpAny_bind (ty.here (wpAny_bind (fnd.here (wpAny_bind (wpAny_pure ?_))))))
  exact h
/-- the first field: the dict is made -/
theorem xset_new {vs : Array Value} {Q : Unit → Shared → Prop} (X : K.In s.heap) (hx : s.heap.get? x = some ox) (hcl : ox.cls = .ref C) (hdt : ox.data = .fields vs) (hod : ox.dict = none) (c : XFl K C) (hn : NoAttr K C name)
    (h : ∀ h' d tk, (∀ b o, b ≠ x → s.heap.get? b = some o → h'.get? b = some o) → s.heap.objs.size ≤ d → h'.get? x = some { ox with dict := some d } → h'.Ns1 d (fun y => if y = name then some v else none) → Q () { s with heap := h', toks := tk }) :
    wpAny (model prog w) A (setAttr (.ref x) name v) Q E s := by
  have J : PySem.W.InstAt s.heap x ox C none := ⟨hx, hcl, by unfold PySem.W.notCls; rw [hdt], by rw [hod]; exact True.intro⟩
  refine PySem.W.set_plain X J c.sa (xsa_open (s := { s with toks := s.toks + 1 }) X hx hcl c hn ?_)
  obtain ⟨cd, hc, hd'⟩ := PySem.W.any_some c.hd
  obtain ⟨oc, od, oda, osl⟩ := ox
  dsimp only at hcl hod hdt
  subst hcl hod hdt
  have ne : x ≠ s.heap.objs.size := Nat.ne_of_lt (Heap.lt_size hx)
  refine wpAny_bind (wpAny_pure (wpAny_bind (wpAny_bind (wpAny_loadPart hx (wpAny_bind (PySem.W.Looks.here (s := { s with toks := s.toks + 1 }) (PySem.W.looks_clsIn X hc) ?_))))))
  rw [hd']
  have e1 := Heap.get?_push_of_some (h := s.heap) { cls := .type "dict", data := .dict #[] } hx
  refine wpAny_bind (wpAny_alloc (wpAny_bind (wpAny_update e1 (wpAny_pure ?_))))
  show wpAny _ _ (storeInDict s.heap.objs.size (.str name s.toks) name v) _ _ _
  have e2 : ((s.heap.push { cls := .type "dict", data := .dict #[] }).update x fun o => { cls := o.cls, dict := some s.heap.objs.size, data := o.data, slots := o.slots }).get? x = some { cls := .ref C, dict := some s.heap.objs.size, data := .fields vs, slots := osl } := Heap.get?_update_self _ e1 rfl
  have e3 : ((s.heap.push { cls := .type "dict", data := .dict #[] }).update x fun o => { cls := o.cls, dict := some s.heap.objs.size, data := o.data, slots := o.slots }).get? s.heap.objs.size = some { cls := .type "dict", data := .dict #[] } := (Heap.get?_update_other _ _ ne).trans (Heap.get?_push_size _ rfl)
  have e4 : ∀ b o, b ≠ x → s.heap.get? b = some o → ((s.heap.push { cls := .type "dict", data := .dict #[] }).update x fun o => { cls := o.cls, dict := some s.heap.objs.size, data := o.data, slots := o.slots }).get? b = some o := fun b o hb e => (Heap.get?_update_other _ _ (Ne.symm hb)).trans (Heap.get?_push_of_some _ e)
  dsimp only
  generalize ((s.heap.push { cls := .type "dict", data := .dict #[] }).update x fun o => { cls := o.cls, dict := some s.heap.objs.size, data := o.data, slots := o.slots }) = h1 at e2 e3 e4 ⊢
  have nn : h1.Ns s.heap.objs.size (fun _ => none) := ⟨_, #[], _, e3, rfl, fun e he => absurd he (by simp), fun _ => rfl⟩
  unfold storeInDict newKeyGuard
  refine wpAny_bind (wpAny_pure (wpAny_bind (wpAny_nsSet1 (Heap.Ns1.of_empty nn) fun h2 n2 sb => ?_)))
  obtain ⟨oD, esD, epD, hoD, hdD, hcD⟩ := n2.count (Within.cons name v Within.nil)
  refine wpAny_bind (wpAny_lookBehind hoD (by rw [hdD]; exact pastItsLine_dict (Nat.le_trans hcD (by rw [List.length_cons, List.length_nil, sizeLine_eq]; omega))) (wpAny_pure ?_))
  exact h h2 s.heap.objs.size _ (fun b o hb e => (sb.2 b (Nat.ne_of_lt (Heap.lt_size e))).trans (e4 b o hb e)) (Nat.le_refl _) ((sb.2 x ne).trans e2) n2
/-- a further field -/
theorem xset_more {vs : Array Value} {d : Addr} {mA : Str → Option Value} {ns : List Str} {Q : Unit → Shared → Prop} (X : K.In s.heap) (hx : s.heap.get? x = some ox) (hcl : ox.cls = .ref C) (hdt : ox.data = .fields vs) (hod : ox.dict = some d) (hne : d ≠ x) (hN : s.heap.Ns1 d mA) (hw : Within mA ns) (hz : ns.length < 1000) (c : XFl K C) (hn : NoAttr K C name)
    (h : ∀ h' tk, Heap.SameBut d s.heap h' → h'.Ns1 d (fun y => if y = name then some v else mA y) → Q () { s with heap := h', toks := tk }) :
    wpAny (model prog w) A (setAttr (.ref x) name v) Q E s := by
  obtain ⟨oD, esD, epD, e0, _⟩ := id hN
  have J : PySem.W.InstAt s.heap x ox C (some oD) := ⟨hx, hcl, by unfold PySem.W.notCls; rw [hdt], by rw [hod]; exact e0⟩
  refine PySem.W.set_plain X J c.sa (xsa_open (s := { s with toks := s.toks + 1 }) X hx hcl c hn ?_)
  obtain ⟨cd, hc, hd'⟩ := PySem.W.any_some c.hd
  obtain ⟨oc, od, oda, osl⟩ := ox
  dsimp only at hcl hod hdt
  subst hcl hod hdt
  refine wpAny_bind (wpAny_pure (wpAny_bind (wpAny_bind (wpAny_loadPart hx (wpAny_bind (PySem.W.Looks.here (s := { s with toks := s.toks + 1 }) (PySem.W.looks_clsIn X hc) ?_))))))
  rw [hd']
  refine wpAny_pure ?_
  show wpAny _ _ (storeInDict d (.str name s.toks) name v) _ _ _
  unfold storeInDict newKeyGuard
  refine wpAny_bind (wpAny_pure (wpAny_bind (wpAny_nsSet1 (s := { s with toks := s.toks + 1 }) hN fun h2 n2 sb => ?_)))
  obtain ⟨oE, esE, epE, hoE, hdE, hcE⟩ := n2.count (Within.cons name v hw)
  refine wpAny_bind (wpAny_lookBehind hoE (by rw [hdE]; exact pastItsLine_dict (Nat.le_trans hcE (by rw [List.length_cons, sizeLine_eq]; omega))) (wpAny_pure ?_))
  exact h h2 _ sb n2
end
end L2

namespace L2
open PySem PySem.Spec PyProof.Rows Builtin Builtin.ObjectAttr

section
variable {X : Cx} {pins : List (Addr × Obj)} {σ : St} {H H0 : Hp} {s s0 : Shared} {a d C : Addr} {f : Str}
/-- what was laid behind an earlier state is tracked -/
theorem Inv.trackAt {o : HO} (I0 : Inv X pins σ H0 s0) (I : Inv X pins σ H s) (hd : s0.heap.objs.size ≤ d) (n1 : H d = none) (new : ObjOk X.prog X.w (upd H d o) s.heap d o) : Inv X pins σ (upd H d o) s := by
  obtain ⟨_, n2⟩ := I0.young d hd
  refine I.stepN (h' := s.heap) (g' := s.gens) (d' := s.drawn) (t' := s.toks) (ch := [d]) (fun b hb => ?_) (fun b o _ _ _ q _ => q) (fun b o _ _ _ q _ => ⟨o.slots, q⟩) (fun b o hb q n => ?_)
    (fun b o _ q => ⟨o, q⟩) (fun b xs q => by rw [upd_ne (ne_of_none q n1)]; exact q) (fun b o u q => by rw [upd_ne (ne_of_none q n1)]; exact q) (fun b ps q => ⟨#[], by rw [upd_ne (ne_of_none q n1), q]; simp⟩) (fun m hm => hm) (I.hok.track n1 new) I.bare
  · have z := List.mem_singleton.mp hb
    subst z
    refine ⟨.inr n2.1, fun z => ?_, fun y c hc z => ?_, n2.2⟩
    · exact absurd (Nat.lt_of_lt_of_le I0.lt hd) (by rw [z]; exact Nat.lt_irrefl _)
    · obtain ⟨v, o', ho', _⟩ := I0.cell y c hc
      exact absurd (Nat.lt_of_lt_of_le (Heap.lt_size ho') hd) (by rw [z]; exact Nat.lt_irrefl _)
  · rw [upd_ne (by intro z; exact hb (by simp [z]))]; exact n
/-- an error's dict is written -/
theorem Inv.writeXd {fs fs' : List (Str × V)} {h' : Heap} {t' : Nat} (I : Inv X pins σ H s) (hH : H d = some (.xd fs)) (sb : Heap.SameBut d s.heap h') (new : ObjOk X.prog X.w (upd H d (.xd fs')) h' d (.xd fs')) : Inv X pins σ (upd H d (.xd fs')) { s with heap := h', toks := t' } := by
  have ne : ∀ {b : Addr} {o : HO}, H b = some o → o ≠ .xd fs → b ≠ d := fun hb ho => ne_of hb hH ho
  refine I.stepN (h' := h') (g' := s.gens) (d' := s.drawn) (t' := t') (ch := []) (fun b hb => nomatch hb) (fun b o _ _ _ q n => ?_) (fun b o _ _ _ q n => ⟨o.slots, ?_⟩) (fun b o _ q n => ?_) (fun b o _ q => ?_)
    (fun b xs q => by rw [upd_ne (ne q (by intro y; cases y))]; exact q) (fun b o u q => by rw [upd_ne (ne q (by intro y; cases y))]; exact q) (fun b ps q => ⟨#[], by rw [upd_ne (ne q (by intro y; cases y)), q]; simp⟩) (fun m hm => ?_) (fun b o q => ?_) I.bare
  · exact (sb.2 b (fun z => by rw [z, hH] at n; cases n)).trans q
  · exact (sb.2 b (fun z => by rw [z, hH] at n; cases n)).trans q
  · rw [upd_ne (fun z => by rw [z, hH] at n; cases n)]; exact n
  · by_cases z : b = d
    · subst z; obtain ⟨mA, ⟨od, _, _, e, _⟩, _⟩ := new; exact ⟨od, e⟩
    · exact ⟨o, (sb.2 b z).trans q⟩
  · have nl : X.env.locals ≠ d := fun z => by have := I.free; rw [z, hH] at this; cases this
    obtain ⟨o, es, ep, ho, r⟩ := hm
    exact ⟨o, es, ep, (sb.2 _ nl).trans ho, r⟩
  · by_cases z : b = d
    · subst z; rw [upd_same] at q; cases q; exact new
    · rw [upd_ne z] at q
      refine (I.hok b o q).stay (fun c u hc e => (sb.2 c ?_).trans e) (fun c hc => ?_) fun c xs hc => ?_
      · rcases hc with rfl | hc
        · exact z
        · exact ne hc (by intro y; cases y)
      · rw [upd_ne (ne hc (by intro y; cases y))]; exact hc
      · rw [upd_ne (ne hc (by intro y; cases y))]; exact hc
theorem relO_one {y : V} {u : Value} (ry : RelV y u) (f g : Str) : RelO (([(f, y)] : List (Str × V)).lookup g) (if g = f then some u else none) := by
  by_cases e : g = f
  · rw [if_pos e, e]
    have : ([(f, y)] : List (Str × V)).lookup f = some y := by simp [List.lookup]
    rw [this]; exact ry
  · rw [if_neg e]
    have : ([(f, y)] : List (Str × V)).lookup g = none := by
      have : (g == f) = false := by simpa using e
      simp [List.lookup, this]
    rw [this]; exact True.intro
theorem xstore_new {y : V} {u : Value} {A : Around} {E : Value → Shared → Prop} {Q : Unit → Shared → Prop} (I : Inv X pins σ H s) (hx : H a = some (excN a (.ref C))) (c : XFl X.K C) (n : NoAttr X.K C f) (ry : RelV y u)
    (h : ∀ d s', H d = none → d ≠ a → Inv X pins σ (upd (upd H a (excN a (.ref C) (some d))) d (.xd [(f, y)])) s' → Q () s') : wpAny (model X.prog X.w) A (setAttr (.ref a) f u) Q E s := by
  obtain ⟨o, vs, t, g1, g2, g3, g4, g5, g6, g7⟩ := excN_at (I.hok a _ hx)
  refine xset_new I.kIn g1 g2 g4 g3 c n fun h' d tk k hd e2 nd => ?_
  have hda : d ≠ a := fun z => absurd (Nat.lt_of_lt_of_le (Heap.lt_size g1) hd) (by rw [z]; exact Nat.lt_irrefl _)
  have hn : H d = none := I.hok.fresh hd
  have I2 : Inv X pins σ (upd H a (excN a (.ref C) (some d))) { s with heap := h', toks := tk } := I.write (x := a) (e := a) (t' := tk) (by rw [hx]; exact True.intro) (.inl rfl) (fun b u hb e => k b u hb e) ⟨_, e2⟩ (excN_ok ⟨_, vs, t, e2, g2, rfl, g4, g5, g6, g7⟩)
  exact h d _ hn hda (I.trackAt I2 hd (by rw [upd_ne hda]; exact hn) ⟨_, nd, fun g => relO_one ry f g⟩)
theorem xd_within {fs : List (Str × V)} {mA : Str → Option Value} (r : ∀ g, RelO (fs.lookup g) (mA g)) : Within mA (fs.map (·.1)) := fun y hy => by
  cases e : fs.lookup y with
  | none => exact absurd (RelO.none_of (by rw [← e]; exact r y)) hy
  | some v =>
    have : ∀ {l : List (Str × V)}, l.lookup y = some v → y ∈ l.map (·.1) := fun {l} => by
      induction l with
      | nil => intro h; cases h
      | cons p l ih =>
        intro h
        rw [List.lookup_cons] at h
        split at h
        · rename_i q; rw [List.map_cons, beq_iff_eq.mp q]; exact List.mem_cons_self
        · exact List.mem_cons_of_mem _ (ih h)
    exact this e
theorem xstore_more {y : V} {u : Value} {fs : List (Str × V)} {A : Around} {E : Value → Shared → Prop} {Q : Unit → Shared → Prop} (I : Inv X pins σ H s) (hx : H a = some (excN a (.ref C) (some d))) (hd : H d = some (.xd fs)) (hl : fs.length < 1000) (c : XFl X.K C) (n : NoAttr X.K C f) (ry : RelV y u)
    (h : ∀ s', Inv X pins σ (upd H d (.xd (putF f y fs))) s' → Q () s') : wpAny (model X.prog X.w) A (setAttr (.ref a) f u) Q E s := by
  obtain ⟨o, vs, t, g1, g2, g3, g4, g5, g6, g7⟩ := excN_at (I.hok a _ hx)
  obtain ⟨mA, nA, r⟩ := (show ObjOk X.prog X.w H s.heap d (.xd fs) from I.hok d _ hd)
  refine xset_more I.kIn g1 g2 g4 g3 (ne_of hd hx (by intro z; cases z)) nA (xd_within r) (by rw [List.length_map]; exact hl) c n fun h' tk sb nd => h _ (I.writeXd hd sb ⟨_, nd, fun g => ?_⟩)
  rw [lookup_putF]
  by_cases q : g = f
  · rw [if_pos q, if_pos q]; exact ry
  · rw [if_neg q, if_neg q]; exact r g
end
/-- self.f = e where self is a new error -/
noncomputable def sXFld (K : PySem.W.Frag) (ta tv : TE) (f : Str) : TS := fun D σ H => tv σ H fun y H1 => ta σ H1 fun x H2 => ∃ a C, x = .ref a ∧ XFl K C ∧ NoAttr K C f ∧
  ((H2 a = some (excN a (.ref C)) ∧ ∀ d, H2 d = none → d ≠ a → D.nx σ (upd (upd H2 a (excN a (.ref C) (some d))) d (.xd [(f, y)]))) ∨
   ∃ d fs, H2 a = some (excN a (.ref C) (some d)) ∧ H2 d = some (.xd fs) ∧ fs.length < 1000 ∧ D.nx σ (upd H2 d (.xd (putF f y fs))))
section
variable {X : Cx} {o e value : Expr} {f : Str} {pos pos' : Pos} {ta tv : TE}
theorem ps_xfld (ha : PE X o ta) (hv : PE X value tv) (hs : swapsWith value (some (.Attribute o f pos')) pos.line X.env = pure false := by rfl) : PS X (.Assign [.Attribute o f pos'] value pos) (sXFld X.K ta tv f) := by
  intro pins s σ H D I h
  refine plainObj_wpAny_Assign_Attribute (thn (hv pins s σ H _ I h) fun u s1 ⟨y, H1, I1, ry, q⟩ => thn (ha pins s1 σ H1 _ I1 q) fun ov s2 ⟨x, H2, I2, rx, a, C, ex, c, n, q2⟩ => ?_) hs
  subst ex
  obtain rfl : ov = Value.ref a := rx
  rcases q2 with ⟨hx, q2⟩ | ⟨d, fs, hx, hd, hl, q2⟩
  · exact xstore_new I2 hx c n ry fun d s3 nd hda I3 => ⟨σ, _, I3, q2 d nd hda⟩
  · exact xstore_more I2 hx hd hl c n ry fun s3 I3 => ⟨σ, _, I3, q2⟩
end

/-! ### e.f of an error that was caught -/
section
variable {prog : Program} {w : World} {A : Around} {E : Value → Shared → Prop} {h : Heap} {g : Array GenState} {dr : Drawn} {t : Nat} {os : OsState} {a C d : Addr} {o : Obj} {K : PySem.W.Frag} {name : Str} {v : Value} {mA : Str → Option Value}
theorem xf_entry {tk : Tok} {Q : Fin → Shared → Prop} {vs : Array Value} (X : K.In h) (hh : PySem.W.hasDictIn K C = true) (n : NoAttr K C name) (hx : h.get? a = some o) (hc : o.cls = .ref C) (hdt : o.data = .fields vs) (hod : o.dict = some d) (hN : h.Ns1 d mA) (hv : mA name = some v)
    (hq : Q (.done (.ret v)) ⟨h, g, dr, t, os⟩) : wpAny (model prog w) A (Builtin.«object.__getattribute__» ⟨[.ref a, .str name tk], []⟩) Q E ⟨h, g, dr, t, os⟩ := by
  have hl : PySem.W.Looks (model prog w) h (typeLookup (.ref C) name) none := PySem.W.looks_findIn X n
  obtain ⟨cd, hcd, hd'⟩ := PySem.W.any_some hh
  have hcl : PySem.W.Looks (model prog w) h (classData C) cd := PySem.W.looks_clsIn X hcd
  repeat (any_goals (first | assumption | (with_reducible refine wpAny_loadPart_at hx ?_; rw [hc]) | with_reducible refine hl.at ?_ | wp_step))
  obtain ⟨oc, od, oda, osl⟩ := o
  dsimp only at hc hdt hod ⊢
  subst hc hdt hod
  unfold instanceDict
  refine wpAny_bind (wpAny_loadPart hx (wpAny_bind (hcl.here (s := ⟨h, g, dr, t, os⟩) ?_)))
  rw [hd']
  refine wpAny_pure ?_
  show wpAny _ _ (nsGet d name) _ _ _
  refine wpAny_nsGet (s := ⟨h, g, dr, t, os⟩) hN.ns ?_
  rw [hv]
  exact wpAny_bind (wpAny_rule (wpAny_pure (wpAny_pure hq)))
theorem xf_call {tk : Tok} {R : Result → Shared → Prop} {vs : Array Value} (X : K.In h) (c : ExcC K C) (hh : PySem.W.hasDictIn K C = true) (n : NoAttr K C name) (hx : h.get? a = some o) (hc : o.cls = .ref C) (hdt : o.data = .fields vs) (hod : o.dict = some d) (hN : h.Ns1 d mA) (hv : mA name = some v)
    (hq : R (.ok (.ret v)) ⟨h, g, dr, t, os⟩) : codeAny (model prog w) A (.call (.builtin "BaseException.__getattribute__") ⟨[.ref a, .str name tk], []⟩) R ⟨h, g, dr, t, os⟩ :=
  codeAny_call_builtin F.attr_ValueError.ga.plain F.entry_bexc_ga (xc_check X c hx hc (xf_entry X hh n hx hc hdt hod hN hv hq))
theorem xf_attr {expr : Bool} {Q : Value → Shared → Prop} {vs : Array Value} (X : K.In h) (c : ExcC K C) (hh : PySem.W.hasDictIn K C = true) (n : NoAttr K C name) (hx : h.get? a = some o) (hc : o.cls = .ref C) (hdt : o.data = .fields vs) (hod : o.dict = some d) (hN : h.Ns1 d mA) (hv : mA name = some v) (hho : handedOut v = pure v)
    (hq : Q v ⟨h, g, dr, t + 1, os⟩) : wpAny (model prog w) A (getAttr (.ref a) name expr) Q E ⟨h, g, dr, t, os⟩ := by
  have f3 := F.attr_ValueError.ga.bind (.ref a)
  have hx0 : (expr && onTheHeap (Value.builtin "BaseException.__getattribute__")) = false := by cases expr <;> rfl
  have hx2 : (Value.builtin "BaseException.__getattribute__" == Value.builtin "object.__getattribute__") = false := by decide +kernel
  have hx1 : (onTheHeap (Value.ref C) && Value.builtin "BaseException.__getattribute__" == Value.builtin "object.__getattribute__") = false := by rw [hx2]; rfl
  have l1 : PySem.W.Looks (model prog w) h (typeLookup (.ref C) "__getattribute__") (some (.builtin "BaseException.__getattribute__")) := PySem.W.looks_findIn X c.ga
  have l2 : PySem.W.Looks (model prog w) h (typeLookup (.ref C) "__getattr__") none := PySem.W.looks_findIn X c.gt
  unfold getAttr
  repeat (any_goals (first | assumption | (with_reducible refine wpAny_loadPart_at hx ?_; rw [hc]) | with_reducible refine l1.at ?_ | with_reducible refine l2.at ?_ | wp_step))
  refine xf_call X c hh n hx hc hdt hod hN hv ?_
  repeat (any_goals (first | assumption | wp_step))
end
/-- e.f, a field of an error that was caught -/
noncomputable def tXFld (K : PySem.W.Frag) (ta : TE) (f : Str) : TE := fun σ H Q => ta σ H fun x H1 => ∃ a C d fs v, x = .ref a ∧ H1 a = some (excO a (.ref C) (some d)) ∧ H1 d = some (.xd fs) ∧ ExcC K C ∧ PySem.W.hasDictIn K C = true ∧ NoAttr K C f ∧ fs.lookup f = some v ∧ Q v H1
section
variable {X : Cx} {e : Expr} {f : Str} {pos : Pos} {ta : TE}
theorem pe_xfld (he : PE X e ta) (hb : attributeBase e f X.env (eval e X.env) = eval e X.env := by rfl) : PE X (.Attribute e f pos) (tXFld X.K ta f) := by
  intro pins s σ H Q I h
  refine attr_of hb (thn (he pins s σ H _ I h) fun u s1 ⟨x, H1, I1, rx, a, C, d, fs, v, ex, ea, ed, c, hh, n, l, q⟩ => ?_)
  subst ex
  obtain rfl : u = Value.ref a := rx
  obtain ⟨⟨o, vs, g1, g2, g3, g4, g5⟩, _, _⟩ := (show ObjOk X.prog X.w H1 s1.heap a (excO a (.ref C) (some d)) from I1.hok a _ ea)
  obtain ⟨mA, nA, r⟩ := (show ObjOk X.prog X.w H1 s1.heap d (.xd fs) from I1.hok d _ ed)
  obtain ⟨u', hu, ru⟩ := RelO.some_of (v := v) (o := mA f) (by rw [← l]; exact r f)
  have kin := I1.kIn
  have I1' := I1
  obtain ⟨hp, gg, dr, tk, os⟩ := s1
  exact xf_attr kin c hh n g1 g2 g4 g3 nA hu (PySem.W.handedOut_of (handed_of ru)) ⟨v, H1, I1'.tok _, ru, q⟩
end
end L2

namespace L2
open PySem PySem.Spec PyProof.Rows

/-- the i-th statement of a class's body -/
noncomputable def inCls (s : Stmt) (i : Nat) : Stmt := match s with
  | .ClassDef _ _ _ body .. => body.getD i (.Pass ⟨0, 0, 0, 0⟩)
  | _ => .Pass ⟨0, 0, 0, 0⟩
/-- an own error class, its __init__ being the def st -/
structure XIni (K : PySem.W.Frag) (C : Addr) (qual : Str) (st : Stmt) (ps : List Str) : Prop where
  ex : ∃ f fd, Fun K "__init__" qual st f fd ∧ exiIn K C f = true ∧ PySem.W.typeIn K (.ref f) = some (.type "function") ∧ Binds K fd ps []
  c : ExcC K C
  self : PySem.W.subIn K (.ref C) (.ref C) = some true
  fl : XFl K C
theorem xini_mk {K : PySem.W.Frag} {C f : Addr} {cd : ClassData} {qual : Str} {st : Stmt} {ps : List Str} {oc : Value} {od an : Option Addr} {osl : Array (Option Value)} {kV doc pm cdv ct : Value}
    (l : K.lookup f = some ⟨oc, od, .func (PySem.W.fnOf "__init__" qual (defArgs st) (defBody st) (defScope st) .none kV doc pm an cdv ct), osl⟩) (c : PySem.W.codeIn K cdv qual = true) (kp : PySem.W.keepIn K (.ref f) = true)
    (hb : ∀ (kV doc pm : Value) (an : Option Addr) (cdv ct : Value) (us : List Value), us.length = ps.length → bindArgs (PySem.W.fnOf "__init__" qual (defArgs st) (defBody st) (defScope st) .none kV doc pm an cdv ct) ⟨us, []⟩ = pure (ps.zip us))
    (x : exiIn K C f = true) (fn : PySem.W.typeIn K (.ref f) = some (.type "function"))
    (y1 : PySem.W.findIn K (.ref C) "__getattribute__" = some (some (.builtin "BaseException.__getattribute__"))) (y2 : PySem.W.findIn K (.ref C) "__getattr__" = some none) (y3 : PySem.W.findIn K (.ref C) "__class__" = some (some (.builtin "object.__class__")))
    (y4 : PySem.W.subIn K (.ref C) (.type "BaseException") = some true) (y5 : PySem.W.subIn K (.ref C) (.type "object") = some true) (y6 : PySem.W.clsIn K C = some cd) (y7 : PySem.W.subIn K (.ref C) (.ref C) = some true)
    (y8 : PySem.W.findIn K (.ref C) "__setattr__" = some (some (.builtin "object.__setattr__"))) (y9 : overIn K C = true) (y10 : PySem.W.hasDictIn K C = true) : XIni K C qual st ps := by
  have F := fun_mk (st := st) l c kp
  exact ⟨⟨f, _, F, x, fn, F.binds hb⟩, ⟨y1, y2, y3, y4, y5, by rw [y6]; rfl⟩, y7, ⟨y8, y9, y10⟩⟩
/-- its promise -/
structure CalI (P : Program) (w : World) (K : PySem.W.Frag) (mg : Str → Option Value) (base : Heap) (k : Nat) (C : Addr) (sp : Sp) : Prop where
  ex : ∃ f fd ps, FnOk P w K mg base CX0 k f fd ps sp ∧ exiIn K C f = true ∧ PySem.W.typeIn K (.ref f) = some (.type "function") ∧ Binds K fd ps []
section
variable {P : Program} {w : World} {K : PySem.W.Frag} {mg : Str → Option Value} {base : Heap} {C : Addr} {qual : Str} {st : Stmt} {ps N : List Str} {k : Nat} {sp : Sp}
theorem XIni.ok (D : XIni K C qual st ps) (S : FnScope N ps (defScope st)) (len : ∀ vs H Q E, sp vs H Q E → vs.length = ps.length)
    (hbody : ∀ (f : Addr) (cdv : Value) (A : Around) (outer : List Env) (s : Shared) (H : Hp) (vs : List V) (Q : VK) (E : XK), exiIn K C f = true → Room k (A.deeper (envOfC qual (defScope st) s.heap.objs.size f cdv)) → sp vs H Q E →
      ∃ t, PSs (cxOf CX0 P w K mg base N qual (defScope st) f cdv A outer s H E).nox (defBody st) t ∧ t { nx := fun _ H' => Q .non H', rt := Q } (start N vs) H) : CalI P w K mg base (k + 1) C sp := by
  obtain ⟨f, fd, F, q, t, b⟩ := D.ex
  exact ⟨f, fd, ps, F.ok S len (fun cdv A outer s H vs Q E hr h => hbody f cdv A outer s H vs Q E q hr h), q, t, b⟩
end
section
variable {X : Cx} {C : Addr} {x : Str} {np cpos pos : Pos} {e : Expr} {es : List Expr} {t : TA} {E : XS} {k : Nat} {sp : Sp}
theorem ps_raiseC (hc : X.calm = true) (hex : X.ex = []) (hg : Gl X x) (hm : X.mg x = some (.ref C)) (D : CalI X.prog X.w X.K X.mg X.base k C sp) (hr : Room (k + 1) X.A) (R : Rs X E) (ha : PA X (e :: es) t)
    (hdb : (x == ("__debug__" : Str)) = false := by decide) (he : starEach (e :: es) X.env = (false, eval e X.env) :: starEach es X.env := by rfl) (hpl : (backTo cpos (starEach es X.env)).any (·.1) = false := by rfl) :
    PS X (.Raise (some (.Call (.Name x np) (e :: es) [] cpos)) none pos) (tRaiseI C sp E t) := by
  obtain ⟨f, fd, ps, F, q, t, b⟩ := D.ex
  exact ps_raiseI hc hex hg hm q t F hr b R ha hdb he hpl
end
/-- an error that was made anew, its fields laid, and that flies: what is left of the heap -/
theorem flown {H H3 : Hp} {e d : Addr} {o1 o2 o3 : HO} (s : Same H H3) (ne : H3 e = none) (nd : upd H3 e o1 d = none) (hde : d ≠ e) :
    upd (upd (upd H3 e o1) e o2) d o3 e = some o2 ∧ Same H (untrk (upd (upd (upd H3 e o1) e o2) d o3) e) ∧ H d = none ∧ untrk (upd (upd (upd H3 e o1) e o2) d o3) e d = some o3 := by
  have n3 : H3 d = none := by rw [upd_ne hde] at nd; exact nd
  have he : H e = none := s.free ne
  refine ⟨by rw [upd_ne (Ne.symm hde), upd_same], Same.untrk (fun a o h => ?_) he, s.free n3, by rw [untrk_ne hde, upd_same]⟩
  have h3 := s a o h
  rw [upd_ne (ne_of_none h3 n3), upd_ne (ne_of_none h3 ne), upd_ne (ne_of_none h3 ne)]
  exact h3
end L2

namespace L2
open PySem PySem.Spec PyProof.Rows
/-! ### min(xs) of a list of whole numbers -/
section
variable {X : Cx}
theorem call_minLK (K : PySem.W.Frag) (hc : X.calm = true := by rfl) (hK : X.K = K := by rfl) : CallR X (.builtin "min") (fun xs H Q => ∃ p ns, xs = [.ref p] ∧ SqL K H p (zV ns) ∧ 0 < ns.length ∧ ∀ M, M ∈ ns → (∀ a, a ∈ ns → M ≤ a) → Q (.int M) H) := by
  subst hK
  intro pins s σ H xs us Q I r h
  obtain ⟨p, ns, rfl, hq, hne, q⟩ := h
  obtain ⟨u, rfl, rx⟩ := vals1 r
  cases rx
  obtain ⟨its, r', pl, hz⟩ := I.list hq
  have hi := ints_are r'
  obtain ⟨xs, e⟩ := (hi.allInts).items
  have hl := pl.isList
  have hn : numsOf its = ns := hi.numsOf
  rw [show its = its.toArray.toList from rfl, e, nums_intItems] at hn
  rw [e] at hl
  have hsz : 0 < xs.size := by
    have : (xs.toList.map (·.1)).length = ns.length := by rw [hn]
    rw [List.length_map, Array.length_toList] at this
    omega
  refine min_intList (I.ok.hd hc) hl hsz fun v h' tk hv hk => ?_
  obtain ⟨t, rfl⟩ := intItems_at hv
  obtain ⟨h1, h2⟩ := argBest_lt (numAt xs) (xs.size - 1)
  refine ⟨.int _, H, I.kept (t' := tk) hk, ⟨t, rfl⟩, q _ ?_ fun a ha => ?_⟩
  · rw [numAt_eq, ← hn]; exact getD_mem (by rw [List.length_map, Array.length_toList]; omega)
  · rw [← hn] at ha
    obtain ⟨j, hj, rfl⟩ := mem_getD ha
    rw [List.length_map, Array.length_toList] at hj
    rw [← numAt_eq]; exact h2 j (by omega)
end
end L2

set_option maxHeartbeats 4000000
namespace K05
open PySem L2 TC
noncomputable def top (i : Nat) : Stmt := PySem.Challenge.pw_turncoins_k05_no_gates.main.body.getD i (.Pass ⟨0, 0, 0, 0⟩)
noncomputable def sp_check (K : PySem.W.Frag) : Sp := fun vs H Q _ => ∃ (p : Addr) (ns : List Int), vs = [.ref p] ∧ SqL K H p (zV ns) ∧ okLen ns.length ∧ some0 ns ∧ ∀ H', Same H H' → Q .non H'
noncomputable def sp_checkX (K : PySem.W.Frag) (nL : Addr) : Sp := fun vs H _ E => ∃ (p : Addr) (ns : List Int), vs = [.ref p] ∧ SqL K H p (zV ns) ∧ (¬ okLen ns.length ∨ ¬ some0 ns) ∧ ∀ H', Same H H' → E (.ref nL) none H'
noncomputable def sp_gcd : Sp := fun vs H Q _ => ∃ a b : Nat, vs = [.int a, .int b] ∧ ∀ H', Same H H' → Q (.int (Nat.gcd a b : Nat)) H'
noncomputable def sp_divisor (K : PySem.W.Frag) : Sp := fun vs H Q _ => ∃ (p : Addr) (ns : List Int), vs = [.ref p] ∧ SqL K H p (zV ns) ∧ ∀ H', Same H H' → Q (.int (gAll ns : Nat)) H'
noncomputable def sp_begins (K : PySem.W.Frag) : Sp := fun vs H Q _ => ∃ (p : Addr) (ns : List Int), vs = [.ref p] ∧ SqL K H p (zV ns) ∧ ns.length ≤ 1000 ∧ some0 ns ∧ ∀ H', Same H H' → Q (.bl (negFirst ns)) H'
noncomputable def sp_least (K : PySem.W.Frag) : Sp := fun vs H Q _ => ∃ (p : Addr) (ns : List Int), vs = [.ref p] ∧ SqL K H p (zV ns) ∧ okLen ns.length ∧ some0 ns ∧ Small ns ∧ ∀ q H', Same H H' → H q = none → H' q = some (.lst (zV (leastL ns))) → Q (.ref q) H'
theorem okLen_le {n : Nat} (h : okLen n) : n ≤ 64 ∧ 2 ≤ n := by unfold okLen at h; omega
theorem inLen (n : Nat) : inV (.int (n : Int)) (zV [2, 4, 8, 16, 32, 64]) = true ↔ okLen n := by
  show ((2 : Int) == (n : Int) || ((4 : Int) == (n : Int) || ((8 : Int) == (n : Int) || ((16 : Int) == (n : Int) || ((32 : Int) == (n : Int) || ((64 : Int) == (n : Int) || false)))))) = true ↔ _
  unfold okLen
  simp only [Bool.or_eq_true, beq_iff_eq, Bool.or_false]
  omega
section
variable {P : Program} {w : World} {K : PySem.W.Frag} {mg : Str → Option Value} {base : Heap} {aL nL : Addr}
/- check_list: 0:numbers -/
noncomputable abbrev s_check_list : Stmt := top 17
theorem sc_check_list : FnScope ["numbers"] ["numbers"] (defScope s_check_list) := ⟨rfl, rfl, rfl, by decide +kernel, rfl, by decide +kernel, by decide +kernel⟩
theorem ok_check (T : Blt mg) (LN : Lens K mg aL) (D : Def K mg "check_list" s_check_list ["numbers"]) : Cal P w K mg base CX0 1 "check_list" ["numbers"] (sp_check K) := by
  refine D.ok sc_check_list (fun vs H Q E h => ?_) (fun f cdv A outer s H vs Q E hr h => ?_)
  · obtain ⟨p, ns, rfl, _⟩ := h; rfl
  obtain ⟨p, ns, rfl, hS, h1, h2, k⟩ := h
  refine ⟨_, (pss_cons (ps_if (pt_cmpR (op_notInK K) (pe_callB (call_lenK K) (by rfl) T.n_len bt_len (pa_cons (pv 0) pa_nil)) (pe_gR LN.m) rfl)
        (pss_one ps_never)
        pss_nil)
      (pss_one (ps_if (pt_not (pt_val (pe_callB (call_anyK K) (by rfl) T.n_any bt_any (pa_cons (pv 0) pa_nil))))
        (pss_one ps_never)
        pss_nil))), ?_⟩
  refine ⟨_, rfl, p, _, rfl, .inl hS, aL, _, rfl, .inr (LN.sq _), rfl, zs_flat _, _, rfl, ?_⟩
  refine iteBN ?_ ?_
  · show (!inV _ _) = false
    rw [List.length_map, (inLen _).mpr h1]; rfl
  refine ⟨_, rfl, p, _, rfl, hS, zs_plain ns, _, rfl, ?_⟩
  refine iteBN ?_ (k H (.refl H))
  rw [zs_any, (any_some0 ns).mpr h2]; rfl
theorem ok_checkX (T : Blt mg) (LN : Lens K mg aL) (GN : GCls K mg "NoList" nL) (XN : XCls K nL) (D : Def K mg "check_list" s_check_list ["numbers"]) : Cal P w K mg base (CX1 P w) 1 "check_list" ["numbers"] (sp_checkX K nL) := by
  refine D.okX sc_check_list (fun vs H Q E h => ?_) (fun f cdv A outer s H vs Q E hr h R => ?_)
  · obtain ⟨p, ns, rfl, _⟩ := h; rfl
  obtain ⟨p, ns, rfl, hS, h1, k⟩ := h
  refine ⟨_, (pss_cons (ps_if (pt_cmpR (op_notInK K) (pe_callB (call_lenK K) (by rfl) T.n_len bt_len (pa_cons (pv 0) pa_nil)) (pe_gR LN.m) rfl)
        (pss_one (ps_raise rfl rfl rfl GN.m XN.x R (pa_cons pe_str pa_nil)))
        pss_nil)
      (pss_one (ps_if (pt_not (pt_val (pe_callB (call_anyK K) (by rfl) T.n_any bt_any (pa_cons (pv 0) pa_nil))))
        (pss_one (ps_raise rfl rfl rfl GN.m XN.x R (pa_cons pe_str pa_nil)))
        pss_nil))), ?_⟩
  refine ⟨_, rfl, p, _, rfl, .inl hS, aL, _, rfl, .inr (LN.sq _), rfl, zs_flat _, _, rfl, ?_⟩
  by_cases h0 : okLen ns.length
  · refine iteBN ?_ ?_
    · show (!inV _ _) = false
      rw [List.length_map, (inLen _).mpr h0]; rfl
    refine ⟨_, rfl, p, _, rfl, hS, zs_plain ns, _, rfl, ?_⟩
    refine iteB ?_ ⟨line6 (by decide), k H (.refl H)⟩
    have : (zV ns).any truV = false := by
      rw [zs_any]
      cases e : ns.any (· != 0) with
      | false => rfl
      | true => exact absurd ((any_some0 ns).mp e) (h1.resolve_left (fun z => z h0))
    rw [this]; rfl
  · refine iteB ?_ ⟨line6 (by decide), k H (.refl H)⟩
    show (!inV _ _) = true
    rw [List.length_map]
    cases e : inV (.int (ns.length : Int)) (zV [2, 4, 8, 16, 32, 64]) with
    | false => rfl
    | true => exact absurd ((inLen _).mp e) h0
/- greatest_divisor: 0:one 1:other 2:rest -/
noncomputable abbrev s_greatest_divisor : Stmt := top 19
theorem sc_greatest_divisor : FnScope ["one", "other", "rest"] ["one", "other"] (defScope s_greatest_divisor) := ⟨rfl, rfl, rfl, by decide +kernel, rfl, by decide +kernel, by decide +kernel⟩
theorem ok_gcd (T : Blt mg) (D : Def K mg "greatest_divisor" s_greatest_divisor ["one", "other"]) : Cal P w K mg base CX0 1 "greatest_divisor" ["one", "other"] sp_gcd := by
  refine D.ok sc_greatest_divisor (fun vs H Q E h => ?_) (fun f cdv A outer s H vs Q E hr h => ?_)
  · obtain ⟨a, b, rfl, _⟩ := h; rfl
  obtain ⟨a, b, rfl, k⟩ := h
  refine ⟨_, (pss_cons (ps_while PassesOwn.never (pt_cmpR op_ne (pv 1) pe_int (nomark _))
        (pss_cons (ps_set (i := 2) sc_greatest_divisor.nd rfl (Or.inl rfl) (pe_op op_mod (pv 0) (pv 1)))
        (pss_cons (ps_set (i := 0) sc_greatest_divisor.nd rfl (Or.inl rfl) (pv 1))
        (pss_one (ps_set (i := 1) sc_greatest_divisor.nd rfl (Or.inl rfl) (pv 2))))))
      (pss_one (ps_ret (pv 0)))), ?_⟩
  refine ⟨fun m σ H' => ∃ (x y : Nat) (v : Option V), σ = [some (.int x), some (.int y), v] ∧ m = y ∧ Nat.gcd x y = Nat.gcd a b ∧ Same H H', ⟨_, a, b, _, rfl, rfl, rfl, .refl H⟩, ?_⟩
  rintro m σ H' ⟨x, y, v, rfl, em, hg, s'⟩
  have em' := em.symm
  subst em'
  refine ⟨_, rfl, rfl, _, rfl, ?_⟩
  by_cases hy : y = 0
  · subst hy
    refine iteNS rfl ?_
    refine ⟨_, rfl, ?_⟩
    have := k H' s'
    rw [← hg, Nat.gcd_zero_right] at this
    exact this
  · refine iteB ?_ ?_
    · rw [decide_eq_false (fun z => hy (by injection z with z; omega))]; rfl
    refine ⟨fun σ2 H2 => ∃ v, σ2 = [some (.int (y : Int)), some (.int ((x % y : Nat) : Int)), v] ∧ Same H H2, ?_, ?_⟩
    · rintro σ2 H2 ⟨v2, rfl, s2⟩
      refine ⟨x % y, Nat.mod_lt _ (Nat.pos_of_ne_zero hy), y, x % y, v2, rfl, rfl, ?_, s2⟩
      rw [← hg, Nat.gcd_comm x y, Nat.gcd_rec y x, Nat.gcd_comm]
    · refine ⟨_, rfl, _, rfl, _, _, rfl, rfl, (by omega), ?_⟩
      exact ⟨_, rfl, _, rfl, _, rfl, s'⟩
/- divisor_of_all: 0:numbers 1:divisor 2:number -/
noncomputable abbrev s_divisor_of_all : Stmt := top 20
theorem sc_divisor_of_all : FnScope ["numbers", "divisor", "number"] ["numbers"] (defScope s_divisor_of_all) := ⟨rfl, rfl, rfl, by decide +kernel, rfl, by decide +kernel, by decide +kernel⟩
theorem ok_divisor (T : Blt mg) (D : Def K mg "divisor_of_all" s_divisor_of_all ["numbers"]) (C_greatest_divisor : Cal P w K mg base CX0 1 "greatest_divisor" ["one", "other"] sp_gcd) : Cal P w K mg base CX0 2 "divisor_of_all" ["numbers"] (sp_divisor K) := by
  refine D.ok sc_divisor_of_all (fun vs H Q E h => ?_) (fun f cdv A outer s H vs Q E hr h => ?_)
  · obtain ⟨p, ns, rfl, _⟩ := h; rfl
  obtain ⟨p, ns, rfl, hS, k⟩ := h
  refine ⟨_, (pss_cons (ps_set (i := 1) sc_divisor_of_all.nd rfl (Or.inl rfl) pe_int)
      (pss_cons (ps_for PassesOwn.never rfl (pi_listK K (pv 0)) (pg_name (i := 2) sc_divisor_of_all.nd rfl (Or.inl rfl))
        (pss_one (ps_set (i := 1) sc_divisor_of_all.nd rfl (Or.inl rfl) (pe_cal C_greatest_divisor hr.sub (pa_cons (pv 1) (pa_cons (pe_callB call_abs (by rfl) T.n_abs bt_abs (pa_cons (pv 2) pa_nil)) pa_nil))))))
      (pss_one (ps_ret (pv 1))))), ?_⟩
  refine ⟨_, rfl, p, rfl, ⟨_, hS⟩, for_list (K := K) (a := p) (xs := zV ns) (fun i σ H' => ∃ v, σ = [some (.ref p), some (.int (gAll (ns.take i) : Nat)), v] ∧ Same H H') ⟨_, rfl, .refl H⟩ (fun i σ H' _ ⟨_, _, s'⟩ => s'.seq hS) ?_ ?_⟩
  · rintro i y σ H' hi ⟨v, rfl, s'⟩
    obtain ⟨n, hn, rfl⟩ := zs_get hi
    refine ⟨_, rfl, _, rfl, _, rfl, ?_⟩
    have ea : (if n < 0 then -n else n) = (n.natAbs : Int) := by split <;> omega
    refine ⟨_, n.natAbs, by rw [ea]; rfl, fun H2 s2 => ⟨some (.int n), ?_, s'.trans s2⟩⟩
    have e : gAll (ns.take (i + 1)) = Nat.gcd (gAll (ns.take i)) n.natAbs := by
      unfold gAll
      rw [List.take_add_one, hn]
      simp
    rw [e]; rfl
  · rintro σ H' ⟨v, rfl, s'⟩
    refine ⟨_, rfl, ?_⟩
    have e : ns.take (zV ns).length = ns := by rw [List.length_map, List.take_length]
    rw [e]
    exact k H' s'
/- begins_below_nought: 0:numbers -/
noncomputable abbrev s_begins_below_nought : Stmt := top 21
theorem sc_begins_below_nought : FnScope ["numbers"] ["numbers"] (defScope s_begins_below_nought) := ⟨rfl, rfl, rfl, by decide +kernel, rfl, by decide +kernel, by decide +kernel⟩
theorem ok_begins (T : Blt mg) (D : Def K mg "begins_below_nought" s_begins_below_nought ["numbers"]) : Cal P w K mg base CX0 1 "begins_below_nought" ["numbers"] (sp_begins K) := by
  refine D.ok sc_begins_below_nought (fun vs H Q E h => ?_) (fun f cdv A outer s H vs Q E hr h => ?_)
  · obtain ⟨p, ns, rfl, _⟩ := h; rfl
  obtain ⟨p, ns, rfl, hS, hz, h0, k⟩ := h
  refine ⟨_, (pss_one (ps_ret (pe_cmpR op_lt (pe_ix (ix_listK K) (pe_comp rfl sc_begins_below_nought.nd (cs (N := ["numbers"]) (osc := defScope s_begins_below_nought) (by decide +kernel)) (pi_listK K (pv 0)) (fun _ _ _ _ => (pifs_one (pt_cmpR op_ne (pv 0) pe_int (nomark _)))) (fun _ _ _ _ => (pv 0))) pe_int (fun _ _ => rfl)) pe_int (nomark _)))), ?_⟩
  refine ⟨_, rfl, p, rfl, ⟨_, hS⟩, comp_listF (fun x => !decide (x = V.int 0)) (fun x => x) hS (line6 (by rw [List.length_map]; exact hz)) ?_ ?_ ?_⟩
  · intro i x H' Q' hi s' q
    obtain ⟨n, hn, rfl⟩ := zs_get hi
    exact ⟨_, rfl, rfl, _, rfl, q H' (.refl H')⟩
  · intro i x H' Q' hi hc s' q
    exact ⟨_, rfl, q H' (.refl H')⟩
  · intro q H' s' hq e
    obtain ⟨pre, n, post, rfl, hp, hn⟩ := first_split h0
    have ef : ((zV (pre ++ n :: post)).filter fun x => !decide (x = V.int 0)).map (fun x => x) = V.int n :: ((zV post).filter fun x => !decide (x = V.int 0)) := by
      rw [List.map_id', zV, List.map_append, List.filter_append, List.map_cons]
      have e1 : (pre.map V.int).filter (fun x => !decide (x = V.int 0)) = [] := by
        rw [List.filter_eq_nil_iff]
        intro x hx
        obtain ⟨m, hm, rfl⟩ := List.mem_map.mp hx
        rw [hp m hm]; simp
      rw [e1, List.nil_append, List.filter_cons, if_pos]
      simp [hn]
    rw [ef] at e
    refine ⟨q, _, _, _, rfl, rfl, .of e, atI_nat (j := 0) rfl, _, _, rfl, rfl, ?_⟩
    have := k H' s'
    rw [negFirst_split hp hn] at this
    exact this
/- least: 0:numbers 1:divisor -/
noncomputable abbrev s_least : Stmt := top 22
theorem sc_least : FnScope ["numbers", "divisor"] ["numbers"] (defScope s_least) := ⟨rfl, rfl, rfl, by decide +kernel, rfl, by decide +kernel, by decide +kernel⟩
theorem ok_least (T : Blt mg) (D : Def K mg "least" s_least ["numbers"]) (C_check_list : Cal P w K mg base CX0 1 "check_list" ["numbers"] (sp_check K)) (C_divisor_of_all : Cal P w K mg base CX0 2 "divisor_of_all" ["numbers"] (sp_divisor K))
    (C_begins_below_nought : Cal P w K mg base CX0 1 "begins_below_nought" ["numbers"] (sp_begins K)) : Cal P w K mg base CX0 3 "least" ["numbers"] (sp_least K) := by
  refine D.ok sc_least (fun vs H Q E h => ?_) (fun f cdv A outer s H vs Q E hr h => ?_)
  · obtain ⟨p, ns, rfl, _⟩ := h; rfl
  obtain ⟨p, ns, rfl, hS, h1, h0, sm, k⟩ := h
  have hle := okLen_le h1
  refine ⟨_, (pss_cons (ps_expr (pe_cal C_check_list hr.sub (pa_cons (pv 0) pa_nil)))
      (pss_cons (ps_set (i := 1) sc_least.nd rfl (Or.inr rfl) (pe_cal C_divisor_of_all hr.sub (pa_cons (pv 0) pa_nil)))
      (pss_cons (ps_if (pt_val (pe_cal C_begins_below_nought hr.sub (pa_cons (pv 0) pa_nil)))
        (pss_one (ps_set (i := 1) sc_least.nd rfl (Or.inr rfl) (pe_un un_neg (pv 1))))
        pss_nil)
      (pss_one (ps_ret (pe_comp rfl sc_least.nd (cs (N := ["numbers", "divisor"]) (osc := defScope s_least) (by decide +kernel)) (pi_listK K (pv 0)) (fun _ _ _ _ => pifs_nil) (fun _ _ _ _ => (pe_op op_fdivB (pv 0) (pv 2))))))))), ?_⟩
  refine ⟨_, rfl, p, ns, rfl, hS, h1, h0, fun H1 s1 => ?_⟩
  refine ⟨_, rfl, p, ns, rfl, s1.seq hS, fun H2 s2 => ?_⟩
  have t2 := s1.trans s2
  refine ⟨_, rfl, p, ns, rfl, t2.seq hS, by omega, h0, fun H3 s3 => ⟨_, rfl, ?_⟩⟩
  have t3 := t2.trans s3
  -- behind the test the divisor is divD
  have fin : ∀ d : Int, d = divD ns → tRet (tComp (iList K (tVar 0)) tYes (tOp (rI CDivB fun i j => .int (i.fdiv j)) (tVar 0) (tVar 2))) { nx := fun _ H' => Q .non H', rt := Q } [some (.ref p), some (.int d)] H3 := by
    rintro d rfl
    refine ⟨_, rfl, p, rfl, ⟨_, t3.seq hS⟩, comp_list (fun x => match x with | .int n => .int (n.fdiv (divD ns)) | v => v) (t3.seq hS) (line6 (by rw [List.length_map]; omega)) ?_ ?_⟩
    · intro i x H' Q' hi s' q
      obtain ⟨n, hn, rfl⟩ := zs_get hi
      exact ⟨_, rfl, _, rfl, _, _, rfl, rfl, ⟨divD_ne h0, divD_small h0 sm⟩, q H' (.refl H')⟩
    · intro q H' s' hq e
      refine k q H' (t3.trans s') (t3.free hq) ?_
      rw [e, leastL, zV, zV, List.map_map, List.map_map]
      rfl
  cases hn : negFirst ns with
  | true =>
    refine iteT ⟨_, rfl, _, rfl, ?_⟩
    exact fin _ (by unfold divD; rw [hn, if_pos rfl])
  | false =>
    refine iteF ?_
    exact fin _ (by unfold divD; rw [hn, if_neg (by decide)])
end

end K05

set_option maxHeartbeats 4000000
namespace K05
open PySem L2 TC
noncomputable def sp_bit : Sp := fun vs H Q _ => ∃ p c : Nat, vs = [.int p, .int c] ∧ p < 64 ∧ c < 6 ∧ ∀ H', Same H H' → Q (.bl (bt p c)) H'
noncomputable def sp_way : Sp := fun vs H Q _ => ∃ p c : Nat, vs = [.int p, .int c] ∧ p < 64 ∧ c < 6 ∧ ∀ H', Same H H' → Q (.int (fl p c : Nat)) H'
noncomputable def sp_one (K : PySem.W.Frag) (mk : Nat → Gt) : Sp := fun vs H Q _ => ∃ (a : Addr) (xs : List Int) (m p c : Nat), vs = [.ref a, .int p, .int c] ∧ SqL K H a (zV xs) ∧ xs.length = 2 ^ m ∧ m ≤ 6 ∧ p < xs.length ∧ c < m ∧ ∀ H', Same H H' → Q (.int (beh xs p (mk c))) H'
noncomputable def sp_two (K : PySem.W.Frag) (mk : Nat → Nat → Gt) : Sp := fun vs H Q _ => ∃ (a : Addr) (xs : List Int) (m p c d : Nat), vs = [.ref a, .int p, .int c, .int d] ∧ SqL K H a (zV xs) ∧ xs.length = 2 ^ m ∧ m ≤ 6 ∧ p < xs.length ∧ c < m ∧ d < m ∧ c ≠ d ∧ ∀ H', Same H H' → Q (.int (beh xs p (mk c d))) H'
noncomputable def sp_behind (K : PySem.W.Frag) : Sp := fun vs H Q _ => ∃ (a g : Addr) (xs : List Int) (m p : Nat) (gt : Gt), vs = [.ref a, .int p, .ref g] ∧ SqL K H a (zV xs) ∧ SqT K H g gt.vals ∧ xs.length = 2 ^ m ∧ m ≤ 6 ∧ p < xs.length ∧ gt.ok m ∧ ∀ H', Same H H' → Q (.int (beh xs p gt)) H'
theorem bit_is : ∀ p : Nat, p < 64 → ∀ c : Nat, c < 6 → decide (V.int (Builtin.bitAnd ((p : Int) / 2 ^ (c : Int).toNat) 1) = V.int 1) = bt p c := by
  simp only [dec_int]; decide +kernel
theorem way_is : ∀ p : Nat, p < 64 → ∀ c : Nat, c < 6 → Builtin.bitXor (p : Int) (1 * 2 ^ (c : Int).toNat) = (fl p c : Nat) := by decide +kernel
theorem p64 {n m p : Nat} (h : n = 2 ^ m) (hm : m ≤ 6) (hp : p < n) : p < 64 := Nat.lt_of_lt_of_le (h ▸ hp) (Nat.pow_le_pow_right (by decide) hm)
section
variable {P : Program} {w : World} {K : PySem.W.Frag} {mg : Str → Option Value} {base : Heap}
/- on_back: 0:place 1:coin -/
noncomputable abbrev s_on_back : Stmt := top 29
theorem sc_on_back : FnScope ["place", "coin"] ["place", "coin"] (defScope s_on_back) := ⟨rfl, rfl, rfl, by decide +kernel, rfl, by decide +kernel, by decide +kernel⟩
theorem ok_bit (T : Blt mg) (D : Def K mg "on_back" s_on_back ["place", "coin"]) : Cal P w K mg base CX0 1 "on_back" ["place", "coin"] sp_bit := by
  refine D.ok sc_on_back (fun vs H Q E h => ?_) (fun f cdv A outer s H vs Q E hr h => ?_)
  · obtain ⟨p, c, rfl, _⟩ := h; rfl
  obtain ⟨p, c, rfl, hp, hc, k⟩ := h
  refine ⟨_, (pss_one (ps_ret (pe_cmpR op_eq (pe_op op_and (pe_op op_shr (pv 0) (pv 1)) pe_int) pe_int (nomark _)))), ?_⟩
  refine ⟨_, rfl, _, rfl, _, _, rfl, rfl, Int.natCast_nonneg c, _, _, rfl, rfl, rfl, ?_⟩
  rw [bit_is p hp c hc]
  exact k H (.refl H)
/- other_way: 0:place 1:coin -/
noncomputable abbrev s_other_way : Stmt := top 30
theorem sc_other_way : FnScope ["place", "coin"] ["place", "coin"] (defScope s_other_way) := ⟨rfl, rfl, rfl, by decide +kernel, rfl, by decide +kernel, by decide +kernel⟩
theorem ok_way (T : Blt mg) (D : Def K mg "other_way" s_other_way ["place", "coin"]) : Cal P w K mg base CX0 1 "other_way" ["place", "coin"] sp_way := by
  refine D.ok sc_other_way (fun vs H Q E h => ?_) (fun f cdv A outer s H vs Q E hr h => ?_)
  · obtain ⟨p, c, rfl, _⟩ := h; rfl
  obtain ⟨p, c, rfl, hp, hc, k⟩ := h
  refine ⟨_, (pss_one (ps_ret (pe_op op_xor (pv 0) (pe_op op_shl pe_int (pv 1))))), ?_⟩
  refine ⟨_, rfl, _, rfl, _, _, rfl, rfl, ⟨Int.natCast_nonneg c, by omega, by decide⟩, _, _, rfl, rfl, ?_⟩
  show Q (V.int (Builtin.bitXor (p : Int) (1 * 2 ^ (c : Int).toNat))) H
  rw [way_is p hp c hc]
  exact k H (.refl H)
/- mixed_at: 0:numbers 1:place 2:coin 3:there -/
noncomputable abbrev s_mixed_at : Stmt := top 31
theorem sc_mixed_at : FnScope ["numbers", "place", "coin", "there"] ["numbers", "place", "coin"] (defScope s_mixed_at) := ⟨rfl, rfl, rfl, by decide +kernel, rfl, by decide +kernel, by decide +kernel⟩
theorem ok_mixed (T : Blt mg) (D : Def K mg "mixed_at" s_mixed_at ["numbers", "place", "coin"]) (C_on_back : Cal P w K mg base CX0 1 "on_back" ["place", "coin"] sp_bit) (C_other_way : Cal P w K mg base CX0 1 "other_way" ["place", "coin"] sp_way) :
    Cal P w K mg base CX0 2 "mixed_at" ["numbers", "place", "coin"] (sp_one K .mix) := by
  refine D.ok sc_mixed_at (fun vs H Q E h => ?_) (fun f cdv A outer s H vs Q E hr h => ?_)
  · obtain ⟨a, xs, m, p, c, rfl, _⟩ := h; rfl
  obtain ⟨a, xs, m, p, c, rfl, hS, hl, hm, hp, hc, k⟩ := h
  have p6 := p64 hl hm hp
  have hf : fl p c < xs.length := by rw [hl]; exact fl_lt (hl ▸ hp) hc
  refine ⟨_, (pss_cons (ps_set (i := 3) sc_mixed_at.nd rfl (Or.inl rfl) (pe_ix (ix_listK K) (pv 0) (pe_cal C_other_way hr.sub (pa_cons (pv 1) (pa_cons (pv 2) pa_nil))) (fun _ _ => rfl)))
      (pss_cons (ps_if (pt_val (pe_cal C_on_back hr.sub (pa_cons (pv 1) (pa_cons (pv 2) pa_nil))))
        (pss_one (ps_ret (pe_op op_sub (pv 3) (pe_ix (ix_listK K) (pv 0) (pv 1) (fun _ _ => rfl)))))
        pss_nil)
      (pss_one (ps_ret (pe_op op_add (pe_ix (ix_listK K) (pv 0) (pv 1) (fun _ _ => rfl)) (pv 3)))))), ?_⟩
  refine ⟨_, rfl, _, rfl, _, rfl, p, c, rfl, p6, by omega, fun H1 s1 => ?_⟩
  refine ⟨a, _, _, _, rfl, rfl, s1.seq hS, zs_at (get_at0 hf), ?_⟩
  refine ⟨_, rfl, _, rfl, p, c, rfl, p6, by omega, fun H2 s2 => ⟨_, rfl, ?_⟩⟩
  have s3 := s1.trans s2
  cases hb : bt p c with
  | true =>
    refine iteT ?_
    refine ⟨_, rfl, _, rfl, _, rfl, a, _, _, _, rfl, rfl, s3.seq hS, zs_at (get_at0 hp), _, _, rfl, rfl, ?_⟩
    have := k H2 s3
    simp only [beh, hb, if_true] at this
    exact this
  | false =>
    refine iteF ?_
    refine ⟨_, rfl, _, rfl, a, _, _, _, rfl, rfl, s3.seq hS, zs_at (get_at0 hp), _, rfl, _, _, rfl, rfl, ?_⟩
    have := k H2 s3
    simp only [beh, hb, Bool.false_eq_true, if_false] at this
    exact this
/- signed_at: 0:numbers 1:place 2:coin -/
noncomputable abbrev s_signed_at : Stmt := top 32
theorem sc_signed_at : FnScope ["numbers", "place", "coin"] ["numbers", "place", "coin"] (defScope s_signed_at) := ⟨rfl, rfl, rfl, by decide +kernel, rfl, by decide +kernel, by decide +kernel⟩
theorem ok_signed (T : Blt mg) (D : Def K mg "signed_at" s_signed_at ["numbers", "place", "coin"]) (C_on_back : Cal P w K mg base CX0 1 "on_back" ["place", "coin"] sp_bit) :
    Cal P w K mg base CX0 2 "signed_at" ["numbers", "place", "coin"] (sp_one K .sign) := by
  refine D.ok sc_signed_at (fun vs H Q E h => ?_) (fun f cdv A outer s H vs Q E hr h => ?_)
  · obtain ⟨a, xs, m, p, c, rfl, _⟩ := h; rfl
  obtain ⟨a, xs, m, p, c, rfl, hS, hl, hm, hp, hc, k⟩ := h
  have p6 := p64 hl hm hp
  refine ⟨_, (pss_cons (ps_if (pt_val (pe_cal C_on_back hr.sub (pa_cons (pv 1) (pa_cons (pv 2) pa_nil))))
        (pss_one (ps_ret (pe_un un_neg (pe_ix (ix_listK K) (pv 0) (pv 1) (fun _ _ => rfl)))))
        pss_nil)
      (pss_one (ps_ret (pe_ix (ix_listK K) (pv 0) (pv 1) (fun _ _ => rfl))))), ?_⟩
  refine ⟨_, rfl, _, rfl, p, c, rfl, p6, by omega, fun H2 s2 => ⟨_, rfl, ?_⟩⟩
  cases hb : bt p c with
  | true =>
    refine iteT ?_
    refine ⟨_, rfl, _, rfl, a, _, _, _, rfl, rfl, s2.seq hS, zs_at (get_at0 hp), _, rfl, ?_⟩
    have := k H2 s2
    simp only [beh, hb, if_true] at this
    exact this
  | false =>
    refine iteF ?_
    refine ⟨_, rfl, _, rfl, a, _, _, _, rfl, rfl, s2.seq hS, zs_at (get_at0 hp), ?_⟩
    have := k H2 s2
    simp only [beh, hb, Bool.false_eq_true, if_false] at this
    exact this
/- followed_at: 0:numbers 1:place 2:leader 3:follower -/
noncomputable abbrev s_followed_at : Stmt := top 33
theorem sc_followed_at : FnScope ["numbers", "place", "leader", "follower"] ["numbers", "place", "leader", "follower"] (defScope s_followed_at) := ⟨rfl, rfl, rfl, by decide +kernel, rfl, by decide +kernel, by decide +kernel⟩
theorem ok_followed (T : Blt mg) (D : Def K mg "followed_at" s_followed_at ["numbers", "place", "leader", "follower"]) (C_on_back : Cal P w K mg base CX0 1 "on_back" ["place", "coin"] sp_bit) (C_other_way : Cal P w K mg base CX0 1 "other_way" ["place", "coin"] sp_way) :
    Cal P w K mg base CX0 2 "followed_at" ["numbers", "place", "leader", "follower"] (sp_two K .follow) := by
  refine D.ok sc_followed_at (fun vs H Q E h => ?_) (fun f cdv A outer s H vs Q E hr h => ?_)
  · obtain ⟨a, xs, m, p, c, d, rfl, _⟩ := h; rfl
  obtain ⟨a, xs, m, p, c, d, rfl, hS, hl, hm, hp, hc, hd, hne, k⟩ := h
  have p6 := p64 hl hm hp
  have hf : fl p d < xs.length := by rw [hl]; exact fl_lt (hl ▸ hp) hd
  refine ⟨_, (pss_cons (ps_if (pt_val (pe_cal C_on_back hr.sub (pa_cons (pv 1) (pa_cons (pv 2) pa_nil))))
        (pss_one (ps_ret (pe_ix (ix_listK K) (pv 0) (pe_cal C_other_way hr.sub (pa_cons (pv 1) (pa_cons (pv 3) pa_nil))) (fun _ _ => rfl))))
        pss_nil)
      (pss_one (ps_ret (pe_ix (ix_listK K) (pv 0) (pv 1) (fun _ _ => rfl))))), ?_⟩
  refine ⟨_, rfl, _, rfl, p, c, rfl, p6, by omega, fun H2 s2 => ⟨_, rfl, ?_⟩⟩
  cases hb : bt p c with
  | true =>
    refine iteT ?_
    refine ⟨_, rfl, _, rfl, _, rfl, p, d, rfl, p6, by omega, fun H3 s3 => ?_⟩
    refine ⟨a, _, _, _, rfl, rfl, (s2.trans s3).seq hS, zs_at (get_at0 hf), ?_⟩
    have := k H3 (s2.trans s3)
    simp only [beh, hb, if_true] at this
    exact this
  | false =>
    refine iteF ?_
    refine ⟨_, rfl, _, rfl, a, _, _, _, rfl, rfl, s2.seq hS, zs_at (get_at0 hp), ?_⟩
    have := k H2 s2
    simp only [beh, hb, Bool.false_eq_true, if_false] at this
    exact this
/- met_at: 0:numbers 1:place 2:one 3:other -/
noncomputable abbrev s_met_at : Stmt := top 34
theorem sc_met_at : FnScope ["numbers", "place", "one", "other"] ["numbers", "place", "one", "other"] (defScope s_met_at) := ⟨rfl, rfl, rfl, by decide +kernel, rfl, by decide +kernel, by decide +kernel⟩
theorem ok_met (T : Blt mg) (D : Def K mg "met_at" s_met_at ["numbers", "place", "one", "other"]) (C_on_back : Cal P w K mg base CX0 1 "on_back" ["place", "coin"] sp_bit) :
    Cal P w K mg base CX0 2 "met_at" ["numbers", "place", "one", "other"] (sp_two K .meet) := by
  refine D.ok sc_met_at (fun vs H Q E h => ?_) (fun f cdv A outer s H vs Q E hr h => ?_)
  · obtain ⟨a, xs, m, p, c, d, rfl, _⟩ := h; rfl
  obtain ⟨a, xs, m, p, c, d, rfl, hS, hl, hm, hp, hc, hd, hne, k⟩ := h
  have p6 := p64 hl hm hp
  refine ⟨_, (pss_cons (ps_if (PW.pt (pw_and (pt_val (pe_cal C_on_back hr.sub (pa_cons (pv 1) (pa_cons (pv 2) pa_nil)))) (pw_and1 (pt_val (pe_cal C_on_back hr.sub (pa_cons (pv 1) (pa_cons (pv 3) pa_nil)))))))
        (pss_one (ps_ret (pe_un un_neg (pe_ix (ix_listK K) (pv 0) (pv 1) (fun _ _ => rfl)))))
        pss_nil)
      (pss_one (ps_ret (pe_ix (ix_listK K) (pv 0) (pv 1) (fun _ _ => rfl))))), ?_⟩
  have fin : ∀ H', Same H H' → (bt p c && bt p d) = false → Q (.int (at0 xs p)) H' := fun H' s' e => by
    have := k H' s'
    simp only [beh, e, Bool.false_eq_true, if_false] at this
    exact this
  refine ⟨_, rfl, _, rfl, p, c, rfl, p6, by omega, fun H2 s2 => ⟨_, rfl, ?_⟩⟩
  cases hb : bt p c with
  | true =>
    refine iteT ?_
    refine ⟨_, rfl, _, rfl, p, d, rfl, p6, by omega, fun H3 s3 => ⟨_, rfl, ?_⟩⟩
    cases hd2 : bt p d with
    | true =>
      refine iteT ?_
      refine ⟨_, rfl, _, rfl, a, _, _, _, rfl, rfl, (s2.trans s3).seq hS, zs_at (get_at0 hp), _, rfl, ?_⟩
      have := k H3 (s2.trans s3)
      simp only [beh, hb, hd2, Bool.and_self, if_true] at this
      exact this
    | false =>
      refine iteF ?_
      exact ⟨_, rfl, _, rfl, a, _, _, _, rfl, rfl, (s2.trans s3).seq hS, zs_at (get_at0 hp), fin H3 (s2.trans s3) (by rw [hd2, Bool.and_false])⟩
  | false =>
    refine iteF ?_
    refine iteF ?_
    exact ⟨_, rfl, _, rfl, a, _, _, _, rfl, rfl, s2.seq hS, zs_at (get_at0 hp), fin H2 s2 (by rw [hb, Bool.false_and])⟩
/- swapped_at: 0:numbers 1:place 2:one 3:other -/
noncomputable abbrev s_swapped_at : Stmt := top 35
theorem sc_swapped_at : FnScope ["numbers", "place", "one", "other"] ["numbers", "place", "one", "other"] (defScope s_swapped_at) := ⟨rfl, rfl, rfl, by decide +kernel, rfl, by decide +kernel, by decide +kernel⟩
theorem ok_swapped (T : Blt mg) (D : Def K mg "swapped_at" s_swapped_at ["numbers", "place", "one", "other"]) (C_on_back : Cal P w K mg base CX0 1 "on_back" ["place", "coin"] sp_bit) (C_other_way : Cal P w K mg base CX0 1 "other_way" ["place", "coin"] sp_way) :
    Cal P w K mg base CX0 2 "swapped_at" ["numbers", "place", "one", "other"] (sp_two K .swap) := by
  refine D.ok sc_swapped_at (fun vs H Q E h => ?_) (fun f cdv A outer s H vs Q E hr h => ?_)
  · obtain ⟨a, xs, m, p, c, d, rfl, _⟩ := h; rfl
  obtain ⟨a, xs, m, p, c, d, rfl, hS, hl, hm, hp, hc, hd, hne, k⟩ := h
  have p6 := p64 hl hm hp
  have hf : fl p c < xs.length := by rw [hl]; exact fl_lt (hl ▸ hp) hc
  have hf6 := p64 hl hm hf
  have hff : fl (fl p c) d < xs.length := by rw [hl]; exact fl_lt (hl ▸ hf) hd
  refine ⟨_, (pss_cons (ps_if (pt_cmpR op_ne (pe_cal C_on_back hr.sub (pa_cons (pv 1) (pa_cons (pv 2) pa_nil))) (pe_cal C_on_back hr.sub (pa_cons (pv 1) (pa_cons (pv 3) pa_nil))) (nomark _))
        (pss_one (ps_ret (pe_ix (ix_listK K) (pv 0) (pe_cal C_other_way hr.sub (pa_cons (pe_cal C_other_way hr.sub (pa_cons (pv 1) (pa_cons (pv 2) pa_nil))) (pa_cons (pv 3) pa_nil))) (fun _ _ => rfl))))
        pss_nil)
      (pss_one (ps_ret (pe_ix (ix_listK K) (pv 0) (pv 1) (fun _ _ => rfl))))), ?_⟩
  refine ⟨_, rfl, _, rfl, p, c, rfl, p6, by omega, fun H1 s1 => ?_⟩
  refine ⟨_, rfl, _, rfl, p, d, rfl, p6, by omega, fun H2 s2 => ⟨rfl, _, rfl, ?_⟩⟩
  have s3 := s1.trans s2
  have e : (!decide (V.bl (bt p c) = V.bl (bt p d))) = (bt p c != bt p d) := by rw [dec_bl]; rfl
  rw [e]
  cases hb : (bt p c != bt p d) with
  | true =>
    refine iteT ?_
    refine ⟨_, rfl, _, rfl, _, rfl, p, c, rfl, p6, by omega, fun H3 s4 => ?_⟩
    refine ⟨_, rfl, fl p c, d, rfl, hf6, by omega, fun H4 s5 => ?_⟩
    have s6 := (s3.trans s4).trans s5
    refine ⟨a, _, _, _, rfl, rfl, s6.seq hS, zs_at (get_at0 hff), ?_⟩
    have := k H4 s6
    simp only [beh, hb, if_true] at this
    exact this
  | false =>
    refine iteF ?_
    refine ⟨_, rfl, _, rfl, a, _, _, _, rfl, rfl, s3.seq hS, zs_at (get_at0 hp), ?_⟩
    have := k H2 s3
    simp only [beh, hb, Bool.false_eq_true, if_false] at this
    exact this
/- number_behind: 0:numbers 1:place 2:gate 3:word -/
noncomputable abbrev s_number_behind : Stmt := top 36
theorem sc_number_behind : FnScope ["numbers", "place", "gate", "word"] ["numbers", "place", "gate"] (defScope s_number_behind) := ⟨rfl, rfl, rfl, by decide +kernel, rfl, by decide +kernel, by decide +kernel⟩
theorem ok_behind (T : Blt mg) (D : Def K mg "number_behind" s_number_behind ["numbers", "place", "gate"]) (C_other_way : Cal P w K mg base CX0 1 "other_way" ["place", "coin"] sp_way)
    (C_mixed_at : Cal P w K mg base CX0 2 "mixed_at" ["numbers", "place", "coin"] (sp_one K .mix)) (C_signed_at : Cal P w K mg base CX0 2 "signed_at" ["numbers", "place", "coin"] (sp_one K .sign)) (C_followed_at : Cal P w K mg base CX0 2 "followed_at" ["numbers", "place", "leader", "follower"] (sp_two K .follow))
    (C_met_at : Cal P w K mg base CX0 2 "met_at" ["numbers", "place", "one", "other"] (sp_two K .meet)) (C_swapped_at : Cal P w K mg base CX0 2 "swapped_at" ["numbers", "place", "one", "other"] (sp_two K .swap)) :
    Cal P w K mg base CX0 3 "number_behind" ["numbers", "place", "gate"] (sp_behind K) := by
  refine D.ok sc_number_behind (fun vs H Q E h => ?_) (fun f cdv A outer s H vs Q E hr h => ?_)
  · obtain ⟨a, g, xs, m, p, gt, rfl, _⟩ := h; rfl
  obtain ⟨a, g, xs, m, p, gt, rfl, hS, hG, hl, hm, hp, hg, k⟩ := h
  have p6 := p64 hl hm hp
  refine ⟨_, (pss_cons (ps_set (i := 3) sc_number_behind.nd rfl (Or.inl rfl) (pe_ix (ix_tupK K) (pv 2) pe_int (fun _ _ => rfl)))
      (pss_cons (ps_if (pt_cmpR op_eq (pv 3) pe_str (nomark _))
        (pss_one (ps_ret (pe_cal C_mixed_at hr.sub (pa_cons (pv 0) (pa_cons (pv 1) (pa_cons (pe_ix (ix_tupK K) (pv 2) pe_int (fun _ _ => rfl)) pa_nil))))))
        pss_nil)
      (pss_cons (ps_if (pt_cmpR op_eq (pv 3) pe_str (nomark _))
        (pss_one (ps_ret (pe_ix (ix_listK K) (pv 0) (pe_cal C_other_way hr.sub (pa_cons (pv 1) (pa_cons (pe_ix (ix_tupK K) (pv 2) pe_int (fun _ _ => rfl)) pa_nil))) (fun _ _ => rfl))))
        pss_nil)
      (pss_cons (ps_if (pt_cmpR op_eq (pv 3) pe_str (nomark _))
        (pss_one (ps_ret (pe_cal C_signed_at hr.sub (pa_cons (pv 0) (pa_cons (pv 1) (pa_cons (pe_ix (ix_tupK K) (pv 2) pe_int (fun _ _ => rfl)) pa_nil))))))
        pss_nil)
      (pss_cons (ps_if (pt_cmpR op_eq (pv 3) pe_str (nomark _))
        (pss_one (ps_ret (pe_cal C_followed_at hr.sub (pa_cons (pv 0) (pa_cons (pv 1) (pa_cons (pe_ix (ix_tupK K) (pv 2) pe_int (fun _ _ => rfl)) (pa_cons (pe_ix (ix_tupK K) (pv 2) pe_int (fun _ _ => rfl)) pa_nil)))))))
        pss_nil)
      (pss_cons (ps_if (pt_cmpR op_eq (pv 3) pe_str (nomark _))
        (pss_one (ps_ret (pe_cal C_met_at hr.sub (pa_cons (pv 0) (pa_cons (pv 1) (pa_cons (pe_ix (ix_tupK K) (pv 2) pe_int (fun _ _ => rfl)) (pa_cons (pe_ix (ix_tupK K) (pv 2) pe_int (fun _ _ => rfl)) pa_nil)))))))
        pss_nil)
      (pss_one (ps_ret (pe_cal C_swapped_at hr.sub (pa_cons (pv 0) (pa_cons (pv 1) (pa_cons (pe_ix (ix_tupK K) (pv 2) pe_int (fun _ _ => rfl)) (pa_cons (pe_ix (ix_tupK K) (pv 2) pe_int (fun _ _ => rfl)) pa_nil))))))))))))), ?_⟩
  cases gt with
  | mix c =>
    refine ⟨_, rfl, g, _, _, _, rfl, rfl, hG, rfl, ?_⟩
    refine ⟨_, rfl, rfl, _, rfl, iteB (by decide +kernel) ?_⟩
    exact ⟨_, rfl, _, rfl, _, rfl, g, _, _, _, rfl, rfl, hG, rfl, a, xs, m, p, c, rfl, hS, hl, hm, hp, hg, k⟩
  | flip c =>
    have hc : c < m := hg
    have hf : fl p c < xs.length := by rw [hl]; exact fl_lt (hl ▸ hp) hc
    refine ⟨_, rfl, g, _, _, _, rfl, rfl, hG, rfl, ?_⟩
    refine ⟨_, rfl, rfl, _, rfl, iteBN (by decide +kernel) ?_⟩
    refine ⟨_, rfl, rfl, _, rfl, iteB (by decide +kernel) ?_⟩
    exact ⟨_, rfl, _, rfl, _, rfl, g, _, _, _, rfl, rfl, hG, rfl, p, c, rfl, p6, by omega, fun H1 s1 => ⟨a, _, _, _, rfl, rfl, s1.seq hS, zs_at (get_at0 hf), k H1 s1⟩⟩
  | sign c =>
    refine ⟨_, rfl, g, _, _, _, rfl, rfl, hG, rfl, ?_⟩
    refine ⟨_, rfl, rfl, _, rfl, iteBN (by decide +kernel) ?_⟩
    refine ⟨_, rfl, rfl, _, rfl, iteBN (by decide +kernel) ?_⟩
    refine ⟨_, rfl, rfl, _, rfl, iteB (by decide +kernel) ?_⟩
    exact ⟨_, rfl, _, rfl, _, rfl, g, _, _, _, rfl, rfl, hG, rfl, a, xs, m, p, c, rfl, hS, hl, hm, hp, hg, k⟩
  | follow c d =>
    obtain ⟨h1, h2, h3⟩ := hg
    refine ⟨_, rfl, g, _, _, _, rfl, rfl, hG, rfl, ?_⟩
    refine ⟨_, rfl, rfl, _, rfl, iteBN (by decide +kernel) ?_⟩
    refine ⟨_, rfl, rfl, _, rfl, iteBN (by decide +kernel) ?_⟩
    refine ⟨_, rfl, rfl, _, rfl, iteBN (by decide +kernel) ?_⟩
    refine ⟨_, rfl, rfl, _, rfl, iteB (by decide +kernel) ?_⟩
    exact ⟨_, rfl, _, rfl, _, rfl, g, _, _, _, rfl, rfl, hG, rfl, _, rfl, g, _, _, _, rfl, rfl, hG, rfl, a, xs, m, p, c, d, rfl, hS, hl, hm, hp, h1, h2, h3, k⟩
  | meet c d =>
    obtain ⟨h1, h2, h3⟩ := hg
    refine ⟨_, rfl, g, _, _, _, rfl, rfl, hG, rfl, ?_⟩
    refine ⟨_, rfl, rfl, _, rfl, iteBN (by decide +kernel) ?_⟩
    refine ⟨_, rfl, rfl, _, rfl, iteBN (by decide +kernel) ?_⟩
    refine ⟨_, rfl, rfl, _, rfl, iteBN (by decide +kernel) ?_⟩
    refine ⟨_, rfl, rfl, _, rfl, iteBN (by decide +kernel) ?_⟩
    refine ⟨_, rfl, rfl, _, rfl, iteB (by decide +kernel) ?_⟩
    exact ⟨_, rfl, _, rfl, _, rfl, g, _, _, _, rfl, rfl, hG, rfl, _, rfl, g, _, _, _, rfl, rfl, hG, rfl, a, xs, m, p, c, d, rfl, hS, hl, hm, hp, h1, h2, h3, k⟩
  | swap c d =>
    obtain ⟨h1, h2, h3⟩ := hg
    refine ⟨_, rfl, g, _, _, _, rfl, rfl, hG, rfl, ?_⟩
    refine ⟨_, rfl, rfl, _, rfl, iteBN (by decide +kernel) ?_⟩
    refine ⟨_, rfl, rfl, _, rfl, iteBN (by decide +kernel) ?_⟩
    refine ⟨_, rfl, rfl, _, rfl, iteBN (by decide +kernel) ?_⟩
    refine ⟨_, rfl, rfl, _, rfl, iteBN (by decide +kernel) ?_⟩
    refine ⟨_, rfl, rfl, _, rfl, iteBN (by decide +kernel) ?_⟩
    exact ⟨_, rfl, _, rfl, _, rfl, g, _, _, _, rfl, rfl, hG, rfl, _, rfl, g, _, _, _, rfl, rfl, hG, rfl, a, xs, m, p, c, d, rfl, hS, hl, hm, hp, h1, h2, h3, k⟩
end

end K05

set_option maxHeartbeats 4000000
namespace K05
open PySem L2 TC
noncomputable def sp_iscoin : Sp := fun vs H Q _ => ∃ p m : Nat, vs = [.int p, .int m] ∧ p < m ∧ ∀ H', Same H H' → Q (.bl true) H'
noncomputable def sp_isgate : Sp := fun vs H Q _ => ∃ (g : Addr) (gt : Gt) (m : Nat), vs = [.ref g, .int m] ∧ H g = some (.tup gt.vals) ∧ gt.ok m ∧ ∀ H', Same H H' → Q (.bl true) H'
noncomputable def sp_checkg (K : PySem.W.Frag) : Sp := fun vs H Q _ => ∃ (a : Addr) (as : List Addr) (gs : List Gt) (m : Nat), vs = [.ref a, .int m] ∧ SqL K H a (rV as) ∧ Gts H m as gs ∧ ∀ H', Same H H' → Q .non H'
noncomputable def sp_coinsof (K : PySem.W.Frag) : Sp := fun vs H Q _ => ∃ (a : Addr) (xs : List Int) (m : Nat), vs = [.ref a] ∧ SqL K H a (zV xs) ∧ xs.length = 2 ^ m ∧ m ≤ 6 ∧ ∀ H', Same H H' → Q (.int (m : Nat)) H'
noncomputable def sp_turnedby (K : PySem.W.Frag) : Sp := fun vs H Q _ => ∃ (a b : Addr) (xs : List Int) (as : List Addr) (gs : List Gt) (m k : Nat), vs = [.ref a, .ref b] ∧ SqL K H a (zV xs) ∧ SqL K H b (rV as) ∧ Gts H m as gs ∧ Fit m k xs ∧ 1 ≤ m ∧ m ≤ 6 ∧ k + gs.length ≤ 2000 ∧
  ∀ q H', Same H H' → H q = none → H' q = some (.lst (zV (run gs (leastL xs)))) → Q (.ref q) H'
theorem bits_is : ∀ m : Nat, m ≤ 6 → ((Builtin.Int.intBits ((2 ^ m : Nat) : Int) : Nat) : Int) - 1 = (m : Nat) := by decide +kernel
section
variable {P : Program} {w : World} {K : PySem.W.Frag} {mg : Str → Option Value} {base : Heap} {w1 w2 : Addr}
/- is_coin: 0:part 1:coins -/
noncomputable abbrev s_is_coin : Stmt := top 26
theorem sc_is_coin : FnScope ["part", "coins"] ["part", "coins"] (defScope s_is_coin) := ⟨rfl, rfl, rfl, by decide +kernel, rfl, by decide +kernel, by decide +kernel⟩
theorem ok_iscoin (T : Blt mg) (D : Def K mg "is_coin" s_is_coin ["part", "coins"]) : Cal P w K mg base CX0 1 "is_coin" ["part", "coins"] sp_iscoin := by
  refine D.ok sc_is_coin (fun vs H Q E h => ?_) (fun f cdv A outer s H vs Q E hr h => ?_)
  · obtain ⟨p, m, rfl, _⟩ := h; rfl
  obtain ⟨p, m, rfl, hp, k⟩ := h
  refine ⟨_, (pss_cons (ps_if (PW.pt (pw_or (pt_not (pt_val (pe_callB (call_isiK K) (by rfl) T.n_isinstance bt_isinstance (pa_cons (pv 0) (pa_cons (pe_bT T.n_int bt_int) pa_nil))))) (pw_or1 (pt_val (pe_callB (call_isiK K) (by rfl) T.n_isinstance bt_isinstance (pa_cons (pv 0) (pa_cons (pe_bT T.n_bool bt_bool) pa_nil)))))))
        (pss_one (ps_ret pe_bl))
        pss_nil)
      (pss_one (ps_ret (pe_chain op_le op_lt pe_int (pv 0) (pv 1))))), ?_⟩
  refine ⟨_, rfl, _, _, _, _, _, rfl, rfl, .of (.int p), k_ii K, _, rfl, iteF ?_⟩
  refine ⟨_, rfl, _, _, _, _, _, rfl, rfl, .of (.int p), k_ib K, _, rfl, iteF ?_⟩
  refine ⟨_, rfl, _, _, rfl, rfl, _, rfl, iteD (Int.natCast_nonneg p) ?_⟩
  refine ⟨_, rfl, _, _, rfl, rfl, ?_⟩
  have := k H (.refl H)
  rw [← decide_eq_true (show (p : Int) < (m : Int) by omega)] at this
  exact this
/- is_gate: 0:gate 1:coins -/
noncomputable abbrev s_is_gate : Stmt := top 27
theorem sc_is_gate : FnScope ["gate", "coins"] ["gate", "coins"] (defScope s_is_gate) := ⟨rfl, rfl, rfl, by decide +kernel, rfl, by decide +kernel, by decide +kernel⟩
theorem ok_isgate (T : Blt mg) (W1 : Wrds K mg "ONE_COIN_WORDS" "mix" "flip" "sign" w1) (W2 : Wrds K mg "TWO_COIN_WORDS" "follow" "meet" "swap" w2) (D : Def K mg "is_gate" s_is_gate ["gate", "coins"]) (C_is_coin : Cal P w K mg base CX0 1 "is_coin" ["part", "coins"] sp_iscoin) :
    Cal P w K mg base CX0 2 "is_gate" ["gate", "coins"] sp_isgate := by
  refine D.ok sc_is_gate (fun vs H Q E h => ?_) (fun f cdv A outer s H vs Q E hr h => ?_)
  · obtain ⟨g, gt, m, rfl, _⟩ := h; rfl
  obtain ⟨g, gt, m, rfl, hG, hg, k⟩ := h
  have cs : (∃ (x : Str) (c : Nat), inV (.str x) [.str "mix", .str "flip", .str "sign"] = true ∧ H g = some (.tup [.str x, .int c]) ∧ c < m) ∨
      ∃ (x : Str) (c d : Nat), inV (.str x) [.str "mix", .str "flip", .str "sign"] = false ∧ inV (.str x) [.str "follow", .str "meet", .str "swap"] = true ∧ H g = some (.tup [.str x, .int c, .int d]) ∧ c < m ∧ d < m ∧ c ≠ d := by
    cases gt with
    | mix c => exact .inl ⟨_, c, by decide +kernel, hG, hg⟩
    | flip c => exact .inl ⟨_, c, by decide +kernel, hG, hg⟩
    | sign c => exact .inl ⟨_, c, by decide +kernel, hG, hg⟩
    | follow c d => exact .inr ⟨_, c, d, by decide +kernel, by decide +kernel, hG, hg.1, hg.2.1, hg.2.2⟩
    | meet c d => exact .inr ⟨_, c, d, by decide +kernel, by decide +kernel, hG, hg.1, hg.2.1, hg.2.2⟩
    | swap c d => exact .inr ⟨_, c, d, by decide +kernel, by decide +kernel, hG, hg.1, hg.2.1, hg.2.2⟩
  refine ⟨_, (pss_cons (ps_if (PW.pt (pw_or (pt_not (pt_val (pe_callB (call_isiK K) (by rfl) T.n_isinstance bt_isinstance (pa_cons (pv 0) (pa_cons (pe_bT T.n_tuple bt_tuple) pa_nil))))) (pw_or (pt_cmpR op_eq (pe_callB (call_lenK K) (by rfl) T.n_len bt_len (pa_cons (pv 0) pa_nil)) pe_int (nomark _)) (pw_or1 (pt_not (pt_val (pe_callB (call_isiK K) (by rfl) T.n_isinstance bt_isinstance (pa_cons (pe_ix (ix_tupK K) (pv 0) pe_int (fun _ _ => rfl)) (pa_cons (pe_bT T.n_str bt_str) pa_nil)))))))))
        (pss_one (ps_ret pe_bl))
        pss_nil)
      (pss_cons (ps_if (pt_cmpR (op_inK K) (pe_ix (ix_tupK K) (pv 0) pe_int (fun _ _ => rfl)) (pe_gR W1.m) rfl)
        (pss_one (ps_ret (pe_and (pe_cmpR op_eq (pe_callB (call_lenK K) (by rfl) T.n_len bt_len (pa_cons (pv 0) pa_nil)) pe_int (nomark _)) (pe_one (pe_cal C_is_coin hr.sub (pa_cons (pe_ix (ix_tupK K) (pv 0) pe_int (fun _ _ => rfl)) (pa_cons (pv 1) pa_nil)))))))
        pss_nil)
      (pss_cons (ps_if (pt_cmpR (op_inK K) (pe_ix (ix_tupK K) (pv 0) pe_int (fun _ _ => rfl)) (pe_gR W2.m) rfl)
        (pss_one (ps_ret (pe_and (pe_cmpR op_eq (pe_callB (call_lenK K) (by rfl) T.n_len bt_len (pa_cons (pv 0) pa_nil)) pe_int (nomark _)) (pe_and (pe_cal C_is_coin hr.sub (pa_cons (pe_ix (ix_tupK K) (pv 0) pe_int (fun _ _ => rfl)) (pa_cons (pv 1) pa_nil))) (pe_and (pe_cal C_is_coin hr.sub (pa_cons (pe_ix (ix_tupK K) (pv 0) pe_int (fun _ _ => rfl)) (pa_cons (pv 1) pa_nil))) (pe_one (pe_cmpR op_ne (pe_ix (ix_tupK K) (pv 0) pe_int (fun _ _ => rfl)) (pe_ix (ix_tupK K) (pv 0) pe_int (fun _ _ => rfl)) (nomark _))))))))
        pss_nil)
      (pss_one (ps_ret pe_bl))))), ?_⟩
  rcases cs with ⟨x, c, hx, e, hc⟩ | ⟨x, c, d, hx, hy, e, hc, hd, hne⟩
  · refine ⟨_, rfl, _, _, _, _, _, rfl, rfl, .of (.tup e), k_tt K, _, rfl, iteF ?_⟩
    refine ⟨_, rfl, g, _, rfl, .inr (sqT e), rfl, _, rfl, iteF ?_⟩
    refine ⟨_, rfl, g, _, _, _, rfl, rfl, sqT e, rfl, _, _, _, _, _, rfl, rfl, .of (.str x), k_ss K, _, rfl, iteF ?_⟩
    refine ⟨_, rfl, g, _, _, _, rfl, rfl, sqT e, rfl, w1, _, rfl, .inr (W1.sq H), rfl, rfl, _, rfl, iteB hx ?_⟩
    refine ⟨_, rfl, g, _, rfl, .inr (sqT e), rfl, _, rfl, iteT ?_⟩
    exact ⟨_, rfl, g, _, _, _, rfl, rfl, sqT e, rfl, _, rfl, c, m, rfl, hc, k⟩
  · refine ⟨_, rfl, _, _, _, _, _, rfl, rfl, .of (.tup e), k_tt K, _, rfl, iteF ?_⟩
    refine ⟨_, rfl, g, _, rfl, .inr (sqT e), rfl, _, rfl, iteF ?_⟩
    refine ⟨_, rfl, g, _, _, _, rfl, rfl, sqT e, rfl, _, _, _, _, _, rfl, rfl, .of (.str x), k_ss K, _, rfl, iteF ?_⟩
    refine ⟨_, rfl, g, _, _, _, rfl, rfl, sqT e, rfl, w1, _, rfl, .inr (W1.sq H), rfl, rfl, _, rfl, iteBN hx ?_⟩
    refine ⟨_, rfl, g, _, _, _, rfl, rfl, sqT e, rfl, w2, _, rfl, .inr (W2.sq H), rfl, rfl, _, rfl, iteB hy ?_⟩
    refine ⟨_, rfl, g, _, rfl, .inr (sqT e), rfl, _, rfl, iteT ?_⟩
    refine ⟨_, rfl, g, _, _, _, rfl, rfl, sqT e, rfl, _, rfl, c, m, rfl, hc, fun H1 s1 => ⟨_, rfl, iteT ?_⟩⟩
    refine ⟨_, rfl, g, _, _, _, rfl, rfl, sqT (s1 _ _ e), rfl, _, rfl, d, m, rfl, hd, fun H2 s2 => ⟨_, rfl, iteT ?_⟩⟩
    have e2 := s2 _ _ (s1 _ _ e)
    refine ⟨_, rfl, g, _, _, _, rfl, rfl, sqT e2, rfl, _, rfl, g, _, _, _, rfl, rfl, sqT e2, rfl, rfl, ?_⟩
    have := k H2 (s1.trans s2)
    rw [← (by rw [decide_eq_false (fun z => hne (by injection z with z; omega))]; rfl : (!decide (V.int (c : Int) = V.int (d : Int))) = true)] at this
    exact this
/- check_gates: 0:gates 1:coins 2:at 3:gate -/
noncomputable abbrev s_check_gates : Stmt := top 28
theorem sc_check_gates : FnScope ["gates", "coins", "at", "gate"] ["gates", "coins"] (defScope s_check_gates) := ⟨rfl, rfl, rfl, by decide +kernel, rfl, by decide +kernel, by decide +kernel⟩
theorem ok_checkg (T : Blt mg) (D : Def K mg "check_gates" s_check_gates ["gates", "coins"]) (C_is_gate : Cal P w K mg base CX0 2 "is_gate" ["gate", "coins"] sp_isgate) : Cal P w K mg base CX0 3 "check_gates" ["gates", "coins"] (sp_checkg K) := by
  refine D.ok sc_check_gates (fun vs H Q E h => ?_) (fun f cdv A outer s H vs Q E hr h => ?_)
  · obtain ⟨a, as, gs, m, rfl, _⟩ := h; rfl
  obtain ⟨a, as, gs, m, rfl, hS, hG, k⟩ := h
  refine ⟨_, (pss_one (ps_for PassesOwn.never rfl (pi_enumK K rfl T.n_enumerate (pa_cons (pv 0) pa_nil)) (pg_tupK K rfl (pgs_cons (pg_name (i := 2) sc_check_gates.nd rfl (Or.inl rfl)) (pgs_cons (pg_name (i := 3) sc_check_gates.nd rfl (Or.inl rfl)) pgs_nil)))
        (pss_one (ps_if (pt_not (pt_val (pe_cal C_is_gate hr.sub (pa_cons (pv 3) (pa_cons (pv 1) pa_nil)))))
          (pss_one ps_never)
          pss_nil)))), ?_⟩
  refine ⟨_, rfl, a, _, rfl, hS, for_enum (K := K) (a := a) (xs := rV as) (fun i σ H' => ∃ u v, σ = [some (.ref a), some (.int m), u, v] ∧ Same H H') ⟨_, _, rfl, .refl H⟩ (fun i σ H' _ ⟨_, _, _, s'⟩ => s'.seq hS) ?_ ?_⟩
  · rintro i x σ H' p hi ⟨u, v, rfl, s'⟩ hp
    obtain ⟨ga, hga, rfl⟩ := rs_get hi
    obtain ⟨gt, _, hgt, hok⟩ := hG.g i ga hga
    have s2 := s'.upd (o := .tup [.int i, .ref ga]) (s'.free hp)
    refine ⟨p, _, rfl, sqT upd_same, rfl, _, _, rfl, _, _, rfl, rfl, ?_⟩
    refine ⟨_, rfl, _, rfl, ga, gt, m, rfl, s2 _ _ hgt, hok, fun H3 s3 => ⟨_, rfl, iteF ?_⟩⟩
    exact ⟨_, _, rfl, s2.trans s3⟩
  · rintro σ H' ⟨u, v, rfl, s'⟩
    exact k H' s'
/- coins_of: 0:numbers -/
noncomputable abbrev s_coins_of : Stmt := top 18
theorem sc_coins_of : FnScope ["numbers"] ["numbers"] (defScope s_coins_of) := ⟨rfl, rfl, rfl, by decide +kernel, rfl, by decide +kernel, by decide +kernel⟩
theorem ok_coinsof (T : Blt mg) (D : Def K mg "coins_of" s_coins_of ["numbers"]) : Cal P w K mg base CX0 1 "coins_of" ["numbers"] (sp_coinsof K) := by
  refine D.ok sc_coins_of (fun vs H Q E h => ?_) (fun f cdv A outer s H vs Q E hr h => ?_)
  · obtain ⟨a, xs, m, rfl, _⟩ := h; rfl
  obtain ⟨a, xs, m, rfl, hS, hl, hm, k⟩ := h
  refine ⟨_, (pss_one (ps_ret (pe_op op_sub (pe_bm0 PySem.F.plainAttrs_int PySem.F.slot_int_bit_length PySem.F.type_int_bit_length mt_bit_length (pe_callB (call_lenK K) (by rfl) T.n_len bt_len (pa_cons (pv 0) pa_nil))) pe_int))), ?_⟩
  refine ⟨_, rfl, a, _, rfl, .inl hS, rfl, _, rfl, rfl, _, _, rfl, rfl, ?_⟩
  have := k H (.refl H)
  rw [← bits_is m hm, ← hl, ← List.length_map (f := V.int)] at this
  exact this
/- turned_by: 0:numbers 1:gates 2:coming 3:gate -/
noncomputable abbrev s_turned_by : Stmt := top 37
theorem sc_turned_by : FnScope ["numbers", "gates", "coming", "gate"] ["numbers", "gates"] (defScope s_turned_by) := ⟨rfl, rfl, rfl, by decide +kernel, rfl, by decide +kernel, by decide +kernel⟩
theorem ok_turnedby (T : Blt mg) (D : Def K mg "turned_by" s_turned_by ["numbers", "gates"]) (C_check_list : Cal P w K mg base CX0 1 "check_list" ["numbers"] (sp_check K)) (C_check_gates : Cal P w K mg base CX0 3 "check_gates" ["gates", "coins"] (sp_checkg K))
    (C_coins_of : Cal P w K mg base CX0 1 "coins_of" ["numbers"] (sp_coinsof K)) (C_least : Cal P w K mg base CX0 3 "least" ["numbers"] (sp_least K)) (C_number_behind : Cal P w K mg base CX0 3 "number_behind" ["numbers", "place", "gate"] (sp_behind K)) :
    Cal P w K mg base CX0 4 "turned_by" ["numbers", "gates"] (sp_turnedby K) := by
  refine D.ok sc_turned_by (fun vs H Q E h => ?_) (fun f cdv A outer s H vs Q E hr h => ?_)
  · obtain ⟨a, b, xs, as, gs, m, k, rfl, _⟩ := h; rfl
  obtain ⟨a, b, xs, as, gs, m, kk, rfl, hS, hB, hG, hF, m1, m6, hk, k⟩ := h
  have ho := hF.ok m1 m6
  refine ⟨_, (pss_cons (ps_expr (pe_cal C_check_list hr.sub (pa_cons (pv 0) pa_nil)))
      (pss_cons (ps_expr (pe_cal C_check_gates hr.sub (pa_cons (pv 1) (pa_cons (pe_cal C_coins_of hr.sub (pa_cons (pv 0) pa_nil)) pa_nil))))
      (pss_cons (ps_set (i := 2) sc_turned_by.nd rfl (Or.inr rfl) (pe_cal C_least hr.sub (pa_cons (pv 0) pa_nil)))
      (pss_cons (ps_for PassesOwn.never rfl (pi_listK K (pv 1)) (pg_name (i := 3) sc_turned_by.nd rfl (Or.inr rfl))
        (pss_one (ps_set (i := 2) sc_turned_by.nd rfl (Or.inr rfl) (pe_cal C_least hr.sub (pa_cons (pe_comp rfl sc_turned_by.nd (cs (N := ["numbers", "gates", "coming", "gate"]) (osc := defScope s_turned_by) (by decide +kernel)) (pi_range1 rfl T.n_range (pa_cons (pe_callB (call_lenK K) (by rfl) T.n_len bt_len (pa_cons (pv 2) pa_nil)) pa_nil)) (fun _ _ _ _ => pifs_nil) (fun _ _ _ _ => (pe_cal C_number_behind hr.sub (pa_cons (pv 3) (pa_cons (pv 0) (pa_cons (pv 4) pa_nil)))))) pa_nil)))))
      (pss_one (ps_ret (pv 2))))))), ?_⟩
  refine ⟨_, rfl, a, xs, rfl, hS, ho, hF.s, fun H1 s1 => ?_⟩
  refine ⟨_, rfl, _, rfl, a, xs, m, rfl, s1.seq hS, hF.l, m6, fun H2 s2 => ?_⟩
  have t2 := s1.trans s2
  refine ⟨b, as, gs, m, rfl, t2.seq hB, hG.same t2, fun H3 s3 => ?_⟩
  have t3 := t2.trans s3
  refine ⟨_, rfl, a, xs, rfl, t3.seq hS, ho, hF.s, hF.z.small (by omega), fun q H4 s4 nq eq => ?_⟩
  have t4 := t3.trans s4
  refine ⟨_, rfl, b, rfl, ⟨_, t4.seq hB⟩, for_list (K := K) (a := b) (xs := rV as) (fun i σ H' => ∃ q v, σ = [some (.ref a), some (.ref b), some (.ref q), v] ∧ Same H H' ∧ H q = none ∧ H' q = some (.lst (zV (run (gs.take i) (leastL xs)))))
    ⟨q, _, rfl, t4, t3.free nq, by rw [List.take_zero]; exact eq⟩ (fun i σ H' _ ⟨_, _, _, s', _⟩ => s'.seq hB) ?_ ?_⟩
  · rintro i y σ H' hi ⟨q, v, rfl, s', nq, eq⟩
    obtain ⟨ga, hga, rfl⟩ := rs_get hi
    obtain ⟨gt, hgt, hga2, hok⟩ := hG.g i ga hga
    have hF2 : Fit m (kk + (gs.take i).length) (run (gs.take i) (leastL xs)) := hF.least.run fun g hg => hG.all g (List.mem_of_mem_take hg)
    have hle : kk + (gs.take i).length + 1 ≤ 2000 := by
      have hlt : i < gs.length := (List.getElem?_eq_some_iff.mp hgt).1
      rw [List.length_take]; omega
    have e1 := run_take (xs := leastL xs) hgt
    generalize run (gs.take i) (leastL xs) = ys at eq hF2 e1
    generalize kk + (gs.take i).length = k2 at hF2 hle
    have hyl := okLen_le (hF2.ok m1 m6)
    refine ⟨_, rfl, q, _, rfl, .inl (.of eq), _, rfl, by rw [List.length_map]; omega, by rw [List.length_map]; omega,
      comp_range (n := ((zV ys).length : Int).toNat) (fun p => V.int (beh ys p gt)) (line6 (by rw [List.length_map]; omega)) ?_ ?_⟩
    · intro p H2 Q2 hp s2 q2
      rw [List.length_map, Int.toNat_natCast] at hp
      exact ⟨_, rfl, _, rfl, _, rfl, q, ga, ys, m, p, gt, by rw [Int.zero_add]; rfl, .of (s2 _ _ eq), sqT (s2 _ _ (s' _ _ hga2)), hF2.l, m6, hp, hok, fun H3 s3 => q2 H3 s3⟩
    · intro c H2 s2 hc ec
      have ec' : H2 c = some (.lst (zV (gap gt ys))) := by
        rw [ec, List.length_map, Int.toNat_natCast, gap, zV, List.map_map]; rfl
      have hF3 := hF2.gap hok
      refine ⟨c, _, rfl, .of ec', hF3.ok m1 m6, hF3.s, hF3.z.small (by omega), fun r H5 s5 nr er => ?_⟩
      refine ⟨r, _, rfl, (s'.trans s2).trans s5, (s'.trans s2).free nr, ?_⟩
      rw [er, e1]; rfl
  · rintro σ H' ⟨q, v, rfl, s', nq, eq⟩
    refine ⟨_, rfl, k q H' s' nq ?_⟩
    rw [eq, List.length_map, hG.l, List.take_length]
end

end K05

set_option maxHeartbeats 4000000
namespace K05
open PySem L2 TC
theorem k_si (K : PySem.W.Frag) : PySem.W.kitOne K (.type "str") (.type "int") = some false := by rfl
theorem k_bi (K : PySem.W.Frag) : PySem.W.kitOne K (.type "bool") (.type "int") = some true := by rfl
theorem k_ni (K : PySem.W.Frag) : PySem.W.kitOne K (.type "NoneType") (.type "int") = some false := by rfl
theorem k_li (K : PySem.W.Frag) : PySem.W.kitOne K (.type "list") (.type "int") = some false := by rfl
theorem k_ti (K : PySem.W.Frag) : PySem.W.kitOne K (.type "tuple") (.type "int") = some false := by rfl
theorem k_is' (K : PySem.W.Frag) : PySem.W.kitOne K (.type "int") (.type "str") = some false := by rfl
theorem k_bs (K : PySem.W.Frag) : PySem.W.kitOne K (.type "bool") (.type "str") = some false := by rfl
theorem k_ns (K : PySem.W.Frag) : PySem.W.kitOne K (.type "NoneType") (.type "str") = some false := by rfl
theorem k_ls (K : PySem.W.Frag) : PySem.W.kitOne K (.type "list") (.type "str") = some false := by rfl
theorem k_ts (K : PySem.W.Frag) : PySem.W.kitOne K (.type "tuple") (.type "str") = some false := by rfl
/-- what may stand in a tuple that is perhaps no gate -/
noncomputable def Okv (H : Hp) : V → Prop
  | .int _ => True
  | .str _ => True
  | .bl _ => True
  | .non => True
  | .ref a => ∃ xs, H a = some (.lst xs) ∨ H a = some (.tup xs)
  | _ => False
theorem Okv.same {H H' : Hp} {v : V} (h : Okv H v) (s : Same H H') : Okv H' v := by
  cases v <;> try exact h
  obtain ⟨xs, e⟩ := h
  exact ⟨xs, e.elim (fun e => .inl (s _ _ e)) (fun e => .inr (s _ _ e))⟩
noncomputable def gco (m : Nat) : V → Bool
  | .int n => decide (0 ≤ n) && decide (n < (m : Int))
  | _ => false
noncomputable abbrev One3 : List V := [.str "mix", .str "flip", .str "sign"]
noncomputable abbrev Two3 : List V := [.str "follow", .str "meet", .str "swap"]
/-- is it a gate? -/
noncomputable def gok (m : Nat) : List V → Bool
  | [.str x, a] => inV (.str x) One3 && gco m a
  | [.str x, a, b] => !inV (.str x) One3 && inV (.str x) Two3 && gco m a && gco m b && !decide (a = b)
  | _ => false
theorem gco_int {m : Nat} {v : V} (h : gco m v = true) : ∃ c : Nat, v = .int c ∧ c < m := by
  cases v with
  | int n =>
    simp only [gco, Bool.and_eq_true, decide_eq_true_iff] at h
    exact ⟨n.toNat, by rw [Int.toNat_of_nonneg h.1], by omega⟩
  | _ => cases h
theorem gok_vals {m : Nat} {g : Gt} (h : g.ok m) : gok m g.vals = true := by
  have c1 : ∀ c : Nat, c < m → gco m (.int c) = true := fun c hc => by simp only [gco, Bool.and_eq_true, decide_eq_true_iff]; omega
  have ne : ∀ c d : Nat, c ≠ d → (!decide (V.int (c : Int) = V.int (d : Int))) = true := fun c d h => by
    rw [decide_eq_false (fun z => h (by injection z with z; omega))]; rfl
  cases g with
  | mix c => show (inV (.str "mix") One3 && gco m (.int c)) = true; rw [c1 c h]; decide +kernel
  | flip c => show (inV (.str "flip") One3 && gco m (.int c)) = true; rw [c1 c h]; decide +kernel
  | sign c => show (inV (.str "sign") One3 && gco m (.int c)) = true; rw [c1 c h]; decide +kernel
  | follow c d => show (!inV (.str "follow") One3 && inV (.str "follow") Two3 && gco m (.int c) && gco m (.int d) && !decide (V.int (c : Int) = V.int (d : Int))) = true; rw [c1 c h.1, c1 d h.2.1, ne c d h.2.2]; decide +kernel
  | meet c d => show (!inV (.str "meet") One3 && inV (.str "meet") Two3 && gco m (.int c) && gco m (.int d) && !decide (V.int (c : Int) = V.int (d : Int))) = true; rw [c1 c h.1, c1 d h.2.1, ne c d h.2.2]; decide +kernel
  | swap c d => show (!inV (.str "swap") One3 && inV (.str "swap") Two3 && gco m (.int c) && gco m (.int d) && !decide (V.int (c : Int) = V.int (d : Int))) = true; rw [c1 c h.1, c1 d h.2.1, ne c d h.2.2]; decide +kernel
noncomputable def sp_iscoinB : Sp := fun vs H Q _ => ∃ (v : V) (m : Nat), vs = [v, .int m] ∧ Okv H v ∧ ∀ H', Same H H' → Q (.bl (gco m v)) H'
noncomputable def sp_isgateB : Sp := fun vs H Q _ => ∃ (g : Addr) (xs : List V) (m : Nat), vs = [.ref g, .int m] ∧ H g = some (.tup xs) ∧ (∀ x ∈ xs, Okv H x) ∧ xs.length ≤ 1000 ∧ ∀ H', Same H H' → Q (.bl (gok m xs)) H'
section
variable {P : Program} {w : World} {K : PySem.W.Frag} {mg : Str → Option Value} {base : Heap} {w1 w2 : Addr}
theorem ok_iscoinB (T : Blt mg) (D : Def K mg "is_coin" s_is_coin ["part", "coins"]) : Cal P w K mg base CX0 1 "is_coin" ["part", "coins"] sp_iscoinB := by
  refine D.ok sc_is_coin (fun vs H Q E h => ?_) (fun f cdv A outer s H vs Q E hr h => ?_)
  · obtain ⟨p, m, rfl, _⟩ := h; rfl
  obtain ⟨v, m, rfl, hv, k⟩ := h
  have kk := k H (.refl H)
  refine ⟨_, (pss_cons (ps_if (PW.pt (pw_or (pt_not (pt_val (pe_callB (call_isiK K) (by rfl) T.n_isinstance bt_isinstance (pa_cons (pv 0) (pa_cons (pe_bT T.n_int bt_int) pa_nil))))) (pw_or1 (pt_val (pe_callB (call_isiK K) (by rfl) T.n_isinstance bt_isinstance (pa_cons (pv 0) (pa_cons (pe_bT T.n_bool bt_bool) pa_nil)))))))
        (pss_one (ps_ret pe_bl))
        pss_nil)
      (pss_one (ps_ret (pe_chain op_le op_lt pe_int (pv 0) (pv 1))))), ?_⟩
  cases v with
  | int n =>
    refine ⟨_, rfl, _, _, _, _, _, rfl, rfl, .of (.int n), k_ii K, _, rfl, iteF ?_⟩
    refine ⟨_, rfl, _, _, _, _, _, rfl, rfl, .of (.int n), k_ib K, _, rfl, iteF ?_⟩
    refine ⟨_, rfl, _, _, rfl, rfl, _, rfl, ?_⟩
    by_cases h0 : (0 : Int) ≤ n
    · refine iteD h0 ⟨_, rfl, _, _, rfl, rfl, ?_⟩
      have e : gco m (.int n) = decide (n < (m : Int)) := by simp only [gco, decide_eq_true h0, Bool.true_and]
      rw [e] at kk
      exact kk
    · refine iteDN h0 ?_
      have e : gco m (.int n) = false := by simp only [gco, decide_eq_false h0, Bool.false_and]
      rw [e] at kk
      exact kk
  | str x => exact ⟨_, rfl, _, _, _, _, _, rfl, rfl, .of (.str x), k_si K, _, rfl, iteT kk⟩
  | non => exact ⟨_, rfl, _, _, _, _, _, rfl, rfl, .of .non, k_ni K, _, rfl, iteT kk⟩
  | bl b =>
    refine ⟨_, rfl, _, _, _, _, _, rfl, rfl, .of (.bl b), k_bi K, _, rfl, iteF ?_⟩
    exact ⟨_, rfl, _, _, _, _, _, rfl, rfl, .of (.bl b), k_bb K, _, rfl, iteT kk⟩
  | ref a =>
    obtain ⟨xs, e | e⟩ := hv
    · exact ⟨_, rfl, _, _, _, _, _, rfl, rfl, .of (.lst e), k_li K, _, rfl, iteT kk⟩
    · exact ⟨_, rfl, _, _, _, _, _, rfl, rfl, .of (.tup e), k_ti K, _, rfl, iteT kk⟩
  | byt b => exact hv.elim
  | flt b => exact hv.elim
  | ty n => exact hv.elim
theorem ok_isgateB (T : Blt mg) (W1 : Wrds K mg "ONE_COIN_WORDS" "mix" "flip" "sign" w1) (W2 : Wrds K mg "TWO_COIN_WORDS" "follow" "meet" "swap" w2) (D : Def K mg "is_gate" s_is_gate ["gate", "coins"]) (C_is_coin : Cal P w K mg base CX0 1 "is_coin" ["part", "coins"] sp_iscoinB) :
    Cal P w K mg base CX0 2 "is_gate" ["gate", "coins"] sp_isgateB := by
  refine D.ok sc_is_gate (fun vs H Q E h => ?_) (fun f cdv A outer s H vs Q E hr h => ?_)
  · obtain ⟨g, xs, m, rfl, _⟩ := h; rfl
  obtain ⟨g, xs, m, rfl, e, hok, hxl, k⟩ := h
  have kk := k H (.refl H)
  refine ⟨_, (pss_cons (ps_if (PW.pt (pw_or (pt_not (pt_val (pe_callB (call_isiK K) (by rfl) T.n_isinstance bt_isinstance (pa_cons (pv 0) (pa_cons (pe_bT T.n_tuple bt_tuple) pa_nil))))) (pw_or (pt_cmpR op_eq (pe_callB (call_lenK K) (by rfl) T.n_len bt_len (pa_cons (pv 0) pa_nil)) pe_int (nomark _)) (pw_or1 (pt_not (pt_val (pe_callB (call_isiK K) (by rfl) T.n_isinstance bt_isinstance (pa_cons (pe_ix (ix_tupK K) (pv 0) pe_int (fun _ _ => rfl)) (pa_cons (pe_bT T.n_str bt_str) pa_nil)))))))))
        (pss_one (ps_ret pe_bl))
        pss_nil)
      (pss_cons (ps_if (pt_cmpR (op_inK K) (pe_ix (ix_tupK K) (pv 0) pe_int (fun _ _ => rfl)) (pe_gR W1.m) rfl)
        (pss_one (ps_ret (pe_and (pe_cmpR op_eq (pe_callB (call_lenK K) (by rfl) T.n_len bt_len (pa_cons (pv 0) pa_nil)) pe_int (nomark _)) (pe_one (pe_cal C_is_coin hr.sub (pa_cons (pe_ix (ix_tupK K) (pv 0) pe_int (fun _ _ => rfl)) (pa_cons (pv 1) pa_nil)))))))
        pss_nil)
      (pss_cons (ps_if (pt_cmpR (op_inK K) (pe_ix (ix_tupK K) (pv 0) pe_int (fun _ _ => rfl)) (pe_gR W2.m) rfl)
        (pss_one (ps_ret (pe_and (pe_cmpR op_eq (pe_callB (call_lenK K) (by rfl) T.n_len bt_len (pa_cons (pv 0) pa_nil)) pe_int (nomark _)) (pe_and (pe_cal C_is_coin hr.sub (pa_cons (pe_ix (ix_tupK K) (pv 0) pe_int (fun _ _ => rfl)) (pa_cons (pv 1) pa_nil))) (pe_and (pe_cal C_is_coin hr.sub (pa_cons (pe_ix (ix_tupK K) (pv 0) pe_int (fun _ _ => rfl)) (pa_cons (pv 1) pa_nil))) (pe_one (pe_cmpR op_ne (pe_ix (ix_tupK K) (pv 0) pe_int (fun _ _ => rfl)) (pe_ix (ix_tupK K) (pv 0) pe_int (fun _ _ => rfl)) (nomark _))))))))
        pss_nil)
      (pss_one (ps_ret pe_bl))))), ?_⟩
  refine ⟨_, rfl, _, _, _, _, _, rfl, rfl, .of (.tup e), k_tt K, _, rfl, iteF ?_⟩
  refine ⟨_, rfl, g, _, rfl, .inr (sqT e), rfl, _, rfl, ?_⟩
  cases xs with
  | nil => exact iteT (iteT kk)
  | cons x r =>
    refine iteBN (decide_eq_false (fun z => by injection z with z; rw [List.length_cons] at z; omega)) ?_
    have no : (∀ y, x ≠ .str y) → Q (.bl false) H := fun hn => by
      have : gok m (x :: r) = false := by
        cases x with
        | str y => exact absurd rfl (hn y)
        | _ => rfl
      rw [this] at kk
      exact kk
    have at0' : atI (x :: r) 0 = some x := by
      unfold atI ixN
      rw [if_pos (by decide), if_pos (by rw [List.length_cons]; omega)]; rfl
    have hx := hok x List.mem_cons_self
    cases x with
    | int n => exact ⟨_, rfl, g, _, _, _, rfl, rfl, sqT e, at0', _, _, _, _, _, rfl, rfl, .of (.int n), k_is' K, _, rfl, iteT (no fun y z => by cases z)⟩
    | bl n => exact ⟨_, rfl, g, _, _, _, rfl, rfl, sqT e, at0', _, _, _, _, _, rfl, rfl, .of (.bl n), k_bs K, _, rfl, iteT (no fun y z => by cases z)⟩
    | non => exact ⟨_, rfl, g, _, _, _, rfl, rfl, sqT e, at0', _, _, _, _, _, rfl, rfl, .of .non, k_ns K, _, rfl, iteT (no fun y z => by cases z)⟩
    | ref a =>
      obtain ⟨ys, e' | e'⟩ := hx
      · exact ⟨_, rfl, g, _, _, _, rfl, rfl, sqT e, at0', _, _, _, _, _, rfl, rfl, .of (.lst e'), k_ls K, _, rfl, iteT (no fun y z => by cases z)⟩
      · exact ⟨_, rfl, g, _, _, _, rfl, rfl, sqT e, at0', _, _, _, _, _, rfl, rfl, .of (.tup e'), k_ts K, _, rfl, iteT (no fun y z => by cases z)⟩
    | byt b => exact hx.elim
    | flt b => exact hx.elim
    | ty n => exact hx.elim
    | str y =>
      refine ⟨_, rfl, g, _, _, _, rfl, rfl, sqT e, at0', _, _, _, _, _, rfl, rfl, .of (.str y), k_ss K, _, rfl, iteF ?_⟩
      refine ⟨_, rfl, g, _, _, _, rfl, rfl, sqT e, at0', w1, _, rfl, .inr (W1.sq H), rfl, rfl, _, rfl, ?_⟩
      have ll : ∀ n : Nat, decide (V.int (((V.str y :: r).length : Nat) : Int) = V.int n) = decide (r.length + 1 = n) := fun n => by
        rw [List.length_cons]
        exact decide_eq_decide.mpr ⟨fun z => by injection z with z; omega, fun z => by rw [z]⟩
      cases h1 : inV (.str y) One3 with
      | true =>
        refine iteT ?_
        refine ⟨_, rfl, g, _, rfl, .inr (sqT e), rfl, _, rfl, ?_⟩
        have l2 := ll 2
        by_cases hl : r.length + 1 = 2
        · obtain ⟨a, rfl⟩ := List.length_eq_one_iff.mp (show r.length = 1 by omega)
          refine iteB (l2.trans (decide_eq_true hl)) ?_
          refine ⟨_, rfl, g, _, _, _, rfl, rfl, sqT e, rfl, _, rfl, a, m, rfl, hok a (by simp), fun H1 s1 => ?_⟩
          have := k H1 s1
          have e1 : gok m [V.str y, a] = gco m a := by show (inV (.str y) One3 && gco m a) = _; rw [h1, Bool.true_and]
          rw [e1] at this
          exact this
        · refine iteBN (l2.trans (decide_eq_false hl)) ?_
          have : gok m (V.str y :: r) = false := by
            match r, hl with
            | [], _ => rfl
            | [a], h => exact absurd rfl h
            | [a, b], _ => show (!inV (.str y) One3 && _ && _ && _ && _) = false; rw [h1]; rfl
            | _ :: _ :: _ :: _, _ => rfl
          rw [this] at kk
          exact kk
      | false =>
        refine iteF ?_
        refine ⟨_, rfl, g, _, _, _, rfl, rfl, sqT e, at0', w2, _, rfl, .inr (W2.sq H), rfl, rfl, _, rfl, ?_⟩
        cases h2 : inV (.str y) Two3 with
        | false =>
          refine iteF ?_
          have : gok m (V.str y :: r) = false := by
            match r with
            | [] => rfl
            | [a] => show (inV (.str y) One3 && _) = false; rw [h1]; rfl
            | [a, b] => show (!inV (.str y) One3 && inV (.str y) Two3 && _ && _ && _) = false; rw [h2, Bool.and_false]; rfl
            | _ :: _ :: _ :: _ => rfl
          rw [this] at kk
          exact kk
        | true =>
          refine iteT ?_
          refine ⟨_, rfl, g, _, rfl, .inr (sqT e), rfl, _, rfl, ?_⟩
          have l3 := ll 3
          by_cases hl : r.length + 1 = 3
          · refine iteB (l3.trans (decide_eq_true hl)) ?_
            obtain ⟨a, b, rfl⟩ : ∃ a b, r = [a, b] := by
              match r, hl with
              | [a, b], _ => exact ⟨a, b, rfl⟩
            have eg : gok m [V.str y, a, b] = (gco m a && gco m b && !decide (a = b)) := by
              show (!inV (.str y) One3 && inV (.str y) Two3 && gco m a && gco m b && !decide (a = b)) = _
              rw [h1, h2]; rfl
            refine ⟨_, rfl, g, _, _, _, rfl, rfl, sqT e, rfl, _, rfl, a, m, rfl, hok a (by simp), fun H1 s1 => ⟨_, rfl, ?_⟩⟩
            cases ga : gco m a with
            | false =>
              refine iteF ?_
              have := k H1 s1
              rw [eg, ga] at this
              exact this
            | true =>
              refine iteT ?_
              refine ⟨_, rfl, g, _, _, _, rfl, rfl, sqT (s1 _ _ e), rfl, _, rfl, b, m, rfl, (hok b (by simp)).same s1, fun H2 s2 => ⟨_, rfl, ?_⟩⟩
              have u2 := s1.trans s2
              have k2 := k H2 u2
              cases gb : gco m b with
              | false =>
                refine iteF ?_
                rw [eg, ga, gb] at k2
                exact k2
              | true =>
                refine iteT ?_
                rw [eg, ga, gb] at k2
                obtain ⟨c, rfl, _⟩ := gco_int ga
                obtain ⟨d, rfl, _⟩ := gco_int gb
                have e2 := u2 _ _ e
                exact ⟨_, rfl, g, _, _, _, rfl, rfl, sqT e2, rfl, _, rfl, g, _, _, _, rfl, rfl, sqT e2, rfl, rfl, k2⟩
          · refine iteBN (l3.trans (decide_eq_false hl)) ?_
            have : gok m (V.str y :: r) = false := by
              match r, hl with
              | [], _ => rfl
              | [a], _ => show (inV (.str y) One3 && _) = false; rw [h1]; rfl
              | [a, b], h => exact absurd rfl h
              | _ :: _ :: _ :: _, _ => rfl
            rw [this] at kk
            exact kk
end

end K05

set_option maxHeartbeats 4000000
namespace K05
open PySem L2 TC
structure Tps (H : Hp) (as : List Addr) (gvs : List (List V)) : Prop where
  l : as.length = gvs.length
  g : ∀ (i : Nat) (a : Addr), as[i]? = some a → ∃ xs, gvs[i]? = some xs ∧ H a = some (.tup xs) ∧ (∀ x ∈ xs, Okv H x) ∧ xs.length ≤ 1000
theorem Tps.same {H H' : Hp} {as : List Addr} {gvs : List (List V)} (h : Tps H as gvs) (s : Same H H') : Tps H' as gvs := ⟨h.l, fun i a e => by
  obtain ⟨xs, h1, h2, h3, h4⟩ := h.g i a e
  exact ⟨xs, h1, s _ _ h2, fun x hx => (h3 x hx).same s, h4⟩⟩
theorem num_len : ∀ n : Nat, n < 128 → ((toString (n : Int) : String) : Str).length ≤ 3 := by decide +kernel
theorem num_log : ∀ n : Nat, n < 128 → (n : Int).natAbs.log2 < 1920 := by decide +kernel
noncomputable def sp_iniG (nG : Addr) : Sp := fun vs H Q _ => ∃ (e : Addr) (k : Nat), vs = [.ref e, .int k] ∧ k < 128 ∧ H e = some (excN e (.ref nG)) ∧ ∀ d, H d = none → d ≠ e → Q .non (upd (upd H e (excN e (.ref nG) (some d))) d (.xd [("at", .int k)]))
noncomputable def sp_checkgX (K : PySem.W.Frag) (nG : Addr) : Sp := fun vs H _ E => ∃ (a : Addr) (as : List Addr) (gvs : List (List V)) (m k : Nat) (ys : List V), vs = [.ref a, .int m] ∧ SqL K H a (rV as) ∧ Tps H as gvs ∧ as.length ≤ 127 ∧ (∀ j xs, j < k → gvs[j]? = some xs → gok m xs = true) ∧ gvs[k]? = some ys ∧ gok m ys = false ∧
  ∀ d H', Same H H' → H d = none → H' d = some (.xd [("at", .int k)]) → E (.ref nG) (some d) H'
section
variable {P : Program} {w : World} {K : PySem.W.Frag} {mg : Str → Option Value} {base : Heap} {nG cE : Addr}
/- NoGate.__init__: 0:self 1:at -/
noncomputable abbrev s_NoGate : Stmt := inCls (top 3) 0
theorem sc_NoGate : FnScope ["self", "at"] ["self", "at"] (defScope s_NoGate) := ⟨rfl, rfl, rfl, by decide +kernel, rfl, by decide +kernel, by decide +kernel⟩
theorem ok_iniG (GB : GCls K mg "CoinError" cE) (BB : XBas K cE) (NA : NoAttr K nG "at") (D : XIni K nG "NoGate.__init__" s_NoGate ["self", "at"]) : CalI P w K mg base 1 nG (sp_iniG nG) := by
  have fl := D.fl
  refine D.ok sc_NoGate (fun vs H Q E h => ?_) (fun f cdv A outer s H vs Q E hq hr h => ?_)
  · obtain ⟨e, k, rfl, _⟩ := h; rfl
  obtain ⟨e, n, rfl, hn, he, k⟩ := h
  refine ⟨_, pss_cons (ps_expr (pe_binit rfl GB.m BB hq (pa_cons (pv 0) (pa_cons (pe_fstr (pj_cons pe_str (pj_cons (pe_fmtI (pv 1)) (pj_cons pe_str pj_nil)))) pa_nil)))) (pss_one (ps_xfld (pv 0) (pv 1))), ?_⟩
  have lb : (1000 : Nat) ≤ sizeLine := line6 (by decide)
  have nl := num_len n hn
  have l1 : (Str.empty ++ ("what has the number " : Str)).length ≤ 100 := by decide +kernel
  have l3 : (" is no gate for these coins" : Str).length ≤ 100 := by decide +kernel
  refine ⟨_, rfl, _, rfl, by omega, _, rfl, n, rfl, ?_, _, rfl, ?_, _, rfl, ?_, ?_, ?_⟩
  · exact num_log n hn
  · rw [strLen_append]; omega
  · rw [strLen_append, strLen_append]; omega
  · rw [strLen_append, strLen_append]; omega
  refine ⟨e, none, _, rfl, he, by show 1 ≤ sizeLine; omega, ?_⟩
  exact ⟨_, rfl, _, rfl, e, nG, rfl, fl, NA, .inl ⟨he, fun d nd hde => k d nd hde⟩⟩
theorem ok_checkgX (T : Blt mg) (GG : GCls K mg "NoGate" nG) (CG : CalI P w K mg base 1 nG (sp_iniG nG)) (D : Def K mg "check_gates" s_check_gates ["gates", "coins"]) (C_is_gate : Cal P w K mg base CX0 2 "is_gate" ["gate", "coins"] sp_isgateB) : Cal P w K mg base (CX1 P w) 3 "check_gates" ["gates", "coins"] (sp_checkgX K nG) := by
  refine D.okX sc_check_gates (fun vs H Q E h => ?_) (fun f cdv A outer s H vs Q E hr h R => ?_)
  · obtain ⟨a, as, gvs, m, j, ys, rfl, _⟩ := h; rfl
  obtain ⟨a, as, gvs, m, n, ys, rfl, hS, hT, hal, hlt, hn, hbad, k⟩ := h
  refine ⟨_, (pss_one (ps_for PassesOwn.leaving rfl (pi_enumK K rfl T.n_enumerate (pa_cons (pv 0) pa_nil)) (pg_tupK K rfl (pgs_cons (pg_name (i := 2) sc_check_gates.nd rfl (Or.inl rfl)) (pgs_cons (pg_name (i := 3) sc_check_gates.nd rfl (Or.inl rfl)) pgs_nil)))
        (pss_one (ps_if (pt_not (pt_val (pe_cal C_is_gate hr.sub (pa_cons (pv 3) (pa_cons (pv 1) pa_nil)))))
          (pss_one (ps_raiseC rfl rfl rfl GG.m CG hr.sub R (pa_cons (pv 2) pa_nil)))
          pss_nil)))), ?_⟩
  refine ⟨_, rfl, a, _, rfl, hS, for_enum (K := K) (a := a) (xs := rV as) (fun i σ H' => ∃ u v, σ = [some (.ref a), some (.int m), u, v] ∧ Same H H' ∧ i ≤ n) ⟨_, _, rfl, .refl H, Nat.zero_le _⟩ (fun i σ H' _ ⟨_, _, _, s', _⟩ => s'.seq hS) ?_ ?_⟩
  · rintro i x σ H' p hi ⟨u, v, rfl, s', hin⟩ hp
    obtain ⟨ga, hga, rfl⟩ := rs_get hi
    obtain ⟨xs, hx1, hx2, hx3, hx4⟩ := hT.g i ga hga
    have s2 := s'.upd (o := .tup [.int i, .ref ga]) (s'.free hp)
    refine ⟨p, _, rfl, sqT upd_same, rfl, _, _, rfl, _, _, rfl, rfl, ?_⟩
    refine ⟨_, rfl, _, rfl, ga, xs, m, rfl, s2 _ _ hx2, fun x hx => (hx3 x hx).same s2, hx4, fun H3 s3 => ⟨_, rfl, ?_⟩⟩
    have u3 := s2.trans s3
    by_cases h : i < n
    · rw [hlt i xs h hx1]
      exact iteF ⟨_, _, rfl, u3, h⟩
    · have : i = n := by omega
      subst this
      rw [hn] at hx1
      cases hx1
      rw [hbad]
      refine iteT ?_
      have hil : i < as.length := (List.getElem?_eq_some_iff.mp hga).1
      refine ⟨_, rfl, line6 (by show 1 ≤ 1000; decide), fun e ne => ⟨e, i, rfl, by omega, upd_same, fun d nd hde => ?_⟩⟩
      obtain ⟨f1, f2, f3, f4⟩ := flown (o2 := excN e (.ref nG) (some d)) (o3 := .xd [("at", .int i)]) u3 ne nd hde
      exact ⟨rfl, some d, f1, k d _ f2 f3 f4⟩
  · rintro σ H' ⟨u, v, rfl, s', hin⟩
    have := (List.getElem?_eq_some_iff.mp hn).1
    rw [rV, List.length_map, hT.l] at hin
    omega
end

end K05

set_option maxHeartbeats 4000000
namespace K05
open PySem L2 TC
theorem okLen_pow {n m : Nat} (h : n = 2 ^ m) (m1 : 1 ≤ m) (m6 : m ≤ 6) : okLen n := by
  have : m = 1 ∨ m = 2 ∨ m = 3 ∨ m = 4 ∨ m = 5 ∨ m = 6 := by omega
  subst h
  rcases this with rfl | rfl | rfl | rfl | rfl | rfl <;> (unfold okLen; decide)
/-- the first that is no gate -/
structure Fst (m k : Nat) (gvs : List (List V)) : Prop where
  b : ∀ j xs, j < k → gvs[j]? = some xs → gok m xs = true
  x : ∃ ys, gvs[k]? = some ys ∧ gok m ys = false
/-- a list of numbers that is none -/
noncomputable def NoNs (ns : List Int) : Prop := ¬ okLen ns.length ∨ ¬ some0 ns
/-- turned_by refusing: for the list or for a gate -/
noncomputable def sp_tbyX (K : PySem.W.Frag) (nL nG : Addr) : Sp := fun vs H _ E =>
  (∃ (a : Addr) (ns : List Int) (v : V), vs = [.ref a, v] ∧ SqL K H a (zV ns) ∧ NoNs ns ∧ ∀ H', Same H H' → E (.ref nL) none H') ∨
  ∃ (a b : Addr) (ns : List Int) (as : List Addr) (gvs : List (List V)) (m k : Nat), vs = [.ref a, .ref b] ∧ SqL K H a (zV ns) ∧ ns.length = 2 ^ m ∧ 1 ≤ m ∧ m ≤ 6 ∧ some0 ns ∧ SqL K H b (rV as) ∧ Tps H as gvs ∧ as.length ≤ 127 ∧ Fst m k gvs ∧
    ∀ d H', Same H H' → H d = none → H' d = some (.xd [("at", .int k)]) → E (.ref nG) (some d) H'
noncomputable def sp_turnX (K : PySem.W.Frag) (nL nG : Addr) : Sp := fun vs H _ E =>
  (∃ (a : Addr) (ns : List Int) (v : V), vs = [.ref a, v] ∧ SqL K H a (zV ns) ∧ NoNs ns ∧ ∀ H', Same H H' → E (.ref nL) none H') ∨
  ∃ (a g : Addr) (ns : List Int) (ys : List V) (m : Nat), vs = [.ref a, .ref g] ∧ SqL K H a (zV ns) ∧ ns.length = 2 ^ m ∧ 1 ≤ m ∧ m ≤ 6 ∧ some0 ns ∧ H g = some (.tup ys) ∧ (∀ x ∈ ys, Okv H x) ∧ ys.length ≤ 1000 ∧ gok m ys = false ∧
    ∀ d H', Same H H' → H d = none → H' d = some (.xd [("at", .int 0)]) → E (.ref nG) (some d) H'
noncomputable def sp_movedX (nG : Addr) : Sp := fun vs H _ E => ∃ (r g : Addr) (ys : List V), vs = [.ref r, .ref g] ∧ H g = some (.tup ys) ∧ (∀ x ∈ ys, Okv H x) ∧ ys.length ≤ 1000 ∧ gok 6 ys = false ∧
    ∀ d H', Same H H' → H d = none → H' d = some (.xd [("at", .int 0)]) → E (.ref nG) (some d) H'
theorem Tps.one {H : Hp} {g : Addr} {ys : List V} (e : H g = some (.tup ys)) (ok : ∀ x ∈ ys, Okv H x) (l : ys.length ≤ 1000) : Tps H [g] [ys] := ⟨rfl, fun i b h => by
  cases i with
  | zero => cases h; exact ⟨ys, rfl, e, ok, l⟩
  | succ i => cases h⟩
theorem Fst.one {m : Nat} {ys : List V} (h : gok m ys = false) : Fst m 0 [ys] := ⟨fun j _ hj => absurd hj (Nat.not_lt_zero j), ys, rfl, h⟩
section
variable {P : Program} {w : World} {K : PySem.W.Frag} {mg : Str → Option Value} {base : Heap} {nL nG : Addr}
theorem ok_tbyX (T : Blt mg) (D : Def K mg "turned_by" s_turned_by ["numbers", "gates"]) (C_check_list : Cal P w K mg base CX0 1 "check_list" ["numbers"] (sp_check K)) (C_check_listX : Cal P w K mg base (CX1 P w) 1 "check_list" ["numbers"] (sp_checkX K nL))
    (C_check_gatesX : Cal P w K mg base (CX1 P w) 3 "check_gates" ["gates", "coins"] (sp_checkgX K nG)) (C_coins_of : Cal P w K mg base CX0 1 "coins_of" ["numbers"] (sp_coinsof K)) : Cal P w K mg base (CX1 P w) 4 "turned_by" ["numbers", "gates"] (sp_tbyX K nL nG) := by
  refine D.okX sc_turned_by (fun vs H Q E h => ?_) (fun f cdv A outer s H vs Q E hr h R => ?_)
  · rcases h with ⟨a, ns, v, rfl, _⟩ | ⟨a, b, ns, as, gvs, m, k, rfl, _⟩ <;> rfl
  rcases h with ⟨a, ns, v, rfl, hS, hb, k⟩ | ⟨a, b, ns, as, gvs, m, n, rfl, hS, hl, m1, m6, h0, hB, hT, ha, hF, k⟩
  · refine ⟨_, pss_cons (ps_expr (pe_calX C_check_listX hr.sub R (pa_cons (pv 0) pa_nil))) pss_never, ?_⟩
    exact ⟨_, rfl, a, ns, rfl, hS, hb, k⟩
  · refine ⟨_, pss_cons (ps_expr (pe_cal C_check_list hr.sub (pa_cons (pv 0) pa_nil))) (pss_cons (ps_expr (pe_calX C_check_gatesX hr.sub R (pa_cons (pv 1) (pa_cons (pe_cal C_coins_of hr.sub (pa_cons (pv 0) pa_nil)) pa_nil)))) pss_never), ?_⟩
    refine ⟨_, rfl, a, ns, rfl, hS, okLen_pow hl m1 m6, h0, fun H1 s1 => ?_⟩
    refine ⟨_, rfl, _, rfl, a, ns, m, rfl, s1.seq hS, hl, m6, fun H2 s2 => ?_⟩
    have t2 := s1.trans s2
    obtain ⟨hlt, ys, hn, hbad⟩ := hF
    exact ⟨b, as, gvs, m, n, ys, rfl, t2.seq hB, hT.same t2, ha, hlt, hn, hbad, fun d H3 s3 nd ed => k d H3 (t2.trans s3) (t2.free nd) ed⟩
/- turned: 0:numbers 1:gate -/
noncomputable abbrev s_turned : Stmt := top 38
theorem sc_turned : FnScope ["numbers", "gate"] ["numbers", "gate"] (defScope s_turned) := ⟨rfl, rfl, rfl, by decide +kernel, rfl, by decide +kernel, by decide +kernel⟩
theorem ok_turnX (T : Blt mg) (D : Def K mg "turned" s_turned ["numbers", "gate"]) (C_turned_byX : Cal P w K mg base (CX1 P w) 4 "turned_by" ["numbers", "gates"] (sp_tbyX K nL nG)) : Cal P w K mg base (CX1 P w) 5 "turned" ["numbers", "gate"] (sp_turnX K nL nG) := by
  refine D.okX sc_turned (fun vs H Q E h => ?_) (fun f cdv A outer s H vs Q E hr h R => ?_)
  · rcases h with ⟨a, ns, v, rfl, _⟩ | ⟨a, g, ns, ys, m, rfl, _⟩ <;> rfl
  refine ⟨_, pss_one (ps_ret (pe_calX C_turned_byX hr.sub R (pa_cons (pv 0) (pa_cons (pe_lst (pa_cons (pv 1) pa_nil)) pa_nil)))), ?_⟩
  rcases h with ⟨a, ns, v, rfl, hS, hb, k⟩ | ⟨a, g, ns, ys, m, rfl, hS, hl, m1, m6, h0, eg, hok, hyl, hbad, k⟩
  · refine ⟨_, rfl, _, rfl, line6 (by show 1 ≤ 1000; decide), fun l nl => .inl ⟨a, ns, _, rfl, (Same.new nl).seq hS, hb, fun H1 s1 => k H1 ((Same.new nl).trans s1)⟩⟩
  · refine ⟨_, rfl, _, rfl, line6 (by show 1 ≤ 1000; decide), fun l nl => ?_⟩
    generalize hH2 : upd H l _ = H2
    have s2 : Same H H2 := hH2 ▸ Same.new nl
    have el : H2 l = some (.lst (rV [g])) := by rw [← hH2]; exact upd_same
    clear hH2
    exact .inr ⟨a, l, ns, [g], [ys], m, 0, rfl, s2.seq hS, hl, m1, m6, h0, .of el, .one (s2 _ _ eg) (fun x hx => (hok x hx).same s2) hyl, by show 1 ≤ 127; decide, .one hbad, fun d H3 s3 nd ed => k d H3 (s2.trans s3) (s2.free nd) ed⟩
/- moved: 0:row 1:gate -/
noncomputable abbrev s_moved : Stmt := top 50
theorem sc_moved : FnScope ["row", "gate"] ["row", "gate"] (defScope s_moved) := ⟨rfl, rfl, rfl, by decide +kernel, rfl, by decide +kernel, by decide +kernel⟩
theorem ok_movedX (T : Blt mg) (MC : ∃ t, mg "MOST_COINS" = some (.int 6 t)) (D : Def K mg "moved" s_moved ["row", "gate"]) (C_check_gatesX : Cal P w K mg base (CX1 P w) 3 "check_gates" ["gates", "coins"] (sp_checkgX K nG)) : Cal P w K mg base (CX1 P w) 4 "moved" ["row", "gate"] (sp_movedX nG) := by
  refine D.okX sc_moved (fun vs H Q E h => ?_) (fun f cdv A outer s H vs Q E hr h R => ?_)
  · obtain ⟨r, g, ys, rfl, _⟩ := h; rfl
  obtain ⟨r, g, ys, rfl, eg, hok, hyl, hbad, k⟩ := h
  refine ⟨_, pss_cons (ps_expr (pe_calX C_check_gatesX hr.sub R (pa_cons (pe_lst (pa_cons (pv 1) pa_nil)) (pa_cons (pe_gI MC) pa_nil)))) pss_never, ?_⟩
  refine ⟨_, rfl, line6 (by show 1 ≤ 1000; decide), fun l nl => ?_⟩
  generalize hH2 : upd H l _ = H2
  have s2 : Same H H2 := hH2 ▸ Same.new nl
  have el : H2 l = some (.lst (rV [g])) := by rw [← hH2]; exact upd_same
  clear hH2
  exact ⟨l, [g], [ys], 6, 0, ys, rfl, .of el, .one (s2 _ _ eg) (fun x hx => (hok x hx).same s2) hyl, by show 1 ≤ 127; decide, (fun j _ hj => absurd hj (Nat.not_lt_zero j)), rfl, hbad, fun d H3 s3 nd ed => k d H3 (s2.trans s3) (s2.free nd) ed⟩
end

end K05

set_option maxHeartbeats 4000000
namespace K05
open PySem L2 TC
/-- tuples that are no gates, lying on the heap -/
noncomputable def scl : V → Bool
  | .int _ => true
  | .str _ => true
  | .bl _ => true
  | .non => true
  | _ => false
theorem scl_ok {H : Hp} {v : V} (h : scl v = true) : Okv H v := by cases v <;> first | exact True.intro | cases h
theorem scls {H : Hp} {xs : List V} (h : xs.all scl = true) : ∀ x ∈ xs, Okv H x := fun x hx => scl_ok (List.all_eq_true.mp h x hx)
structure Bd (H : Hp) (m : Nat) (xs : List V) : Prop where
  ok : ∀ x ∈ xs, Okv H x
  l : xs.length ≤ 4
  g : gok m xs = false
theorem Bd.same {H H' : Hp} {m : Nat} {xs : List V} (h : Bd H m xs) (s : Same H H') : Bd H' m xs := ⟨fun x hx => (h.ok x hx).same s, h.l, h.g⟩
structure Bds (H : Hp) (m : Nat) (as : List Addr) : Prop where
  g : ∀ a ∈ as, ∃ xs, H a = some (.tup xs) ∧ Bd H m xs
theorem Bds.nil {H : Hp} {m : Nat} : Bds H m [] := ⟨fun _ h => nomatch h⟩
theorem Bds.same {H H' : Hp} {m : Nat} {as : List Addr} (h : Bds H m as) (s : Same H H') : Bds H' m as := ⟨fun a ha => by
  obtain ⟨xs, h1, h2⟩ := h.g a ha
  exact ⟨xs, s _ _ h1, h2.same s⟩⟩
theorem Bds.new {H : Hp} {m : Nat} {as : List Addr} {t : Addr} {xs : List V} (h : Bds H m as) (n : H t = none) (b : Bd H m xs) : Bds (L2.upd H t (.tup xs)) m (as ++ [t]) := ⟨fun a ha => by
  rcases List.mem_append.mp ha with ha | ha
  · exact (h.same (Same.new n)).g a ha
  · rw [List.mem_singleton.mp ha]; exact ⟨xs, upd_same, b.same (Same.new n)⟩⟩
theorem no_far (m : Nat) : gco m (.int m) = false := by simp [gco]
theorem no_big {m : Nat} {n : Int} (h : (m : Int) ≤ n) : gco m (.int n) = false := by
  show (decide (0 ≤ n) && decide (n < (m : Int))) = false
  rw [show decide (n < (m : Int)) = false from decide_eq_false (by omega), Bool.and_false]
theorem no_low {m : Nat} (n : Int) (h : n < 0) : gco m (.int n) = false := by
  show (decide (0 ≤ n) && decide (n < (m : Int))) = false
  rw [show decide (0 ≤ n) = false from decide_eq_false (by omega), Bool.false_and]
theorem bad_one {m : Nat} {x : Str} {a : V} (h : inV (.str x) One3 = true) (g : gco m a = false) : gok m [.str x, a] = false := by
  show (inV (.str x) One3 && gco m a) = false
  rw [g, Bool.and_false]
theorem bad_word1 {m : Nat} {x : Str} {a : V} (h : inV (.str x) One3 = false) : gok m [.str x, a] = false := by
  show (inV (.str x) One3 && gco m a) = false
  rw [h, Bool.false_and]
theorem bad_word2 {m : Nat} {x : Str} {a b : V} (h : (!inV (.str x) One3 && inV (.str x) Two3) = false) : gok m [.str x, a, b] = false := by
  show (!inV (.str x) One3 && inV (.str x) Two3 && gco m a && gco m b && !decide (a = b)) = false
  rw [h]; rfl
theorem bad_same {m : Nat} {x : Str} {a : V} : gok m [.str x, a, a] = false := by
  show (!inV (.str x) One3 && inV (.str x) Two3 && gco m a && gco m a && !decide (a = a)) = false
  rw [decide_eq_true rfl]; exact Bool.and_false _
theorem bad_fst {m : Nat} {x : Str} {a b : V} (g : gco m a = false) : gok m [.str x, a, b] = false := by
  show (!inV (.str x) One3 && inV (.str x) Two3 && gco m a && gco m b && !decide (a = b)) = false
  rw [g, Bool.and_false]; rfl
theorem bad_snd {m : Nat} {x : Str} {a b : V} (g : gco m b = false) : gok m [.str x, a, b] = false := by
  show (!inV (.str x) One3 && inV (.str x) Two3 && gco m a && gco m b && !decide (a = b)) = false
  rw [g, Bool.and_false]; rfl
theorem pick_ref {as : List Addr} {n : Nat} (hl : as.length = n) (hn : 0 < n) (c : Int) : ∃ a, atI (rV as) (c % (n : Int)) = some (.ref a) ∧ a ∈ as := by
  have a0 := em_nn c (m := (n : Int)) (by omega)
  have a1 := em_lt c (m := (n : Int)) (by omega)
  obtain ⟨j, hj, hj1⟩ : ∃ j : Nat, c % (n : Int) = (j : Int) ∧ j < n := ⟨(c % (n : Int)).toNat, by omega, by omega⟩
  rw [hj]
  have h2 : as[j]? = some (as[j]'(by omega)) := List.getElem?_eq_getElem (by omega)
  exact ⟨as[j]'(by omega), atI_nat (by rw [rV, List.getElem?_map, h2]; rfl), List.getElem_mem _⟩
theorem pick_far {m : Nat} {q v : Int} (q0 : 0 ≤ q) (v0 : 0 ≤ v) (v3 : v < 4) : ∃ F : Int, atI [V.int (-1), .int (m : Nat), .int ((m : Nat) + q), .int (0 - 2 - q)] v = some (.int F) ∧ gco m (.int F) = false := by
  have : v = 0 ∨ v = 1 ∨ v = 2 ∨ v = 3 := by omega
  rcases this with rfl | rfl | rfl | rfl
  · exact ⟨_, rfl, no_low _ (by decide)⟩
  · exact ⟨_, rfl, no_far m⟩
  · exact ⟨_, rfl, no_big (by omega)⟩
  · exact ⟨_, rfl, no_low _ (by omega)⟩
/-! ### the rules of displays under names that are not unfolded: the reader of terms would run a display of constants alone -/
@[irreducible] def QA (X : Cx) (es : List Expr) (t : TA) : Prop := PA X es t
@[irreducible] def QE (X : Cx) (e : Expr) (t : TE) : Prop := PE X e t
theorem qe_of {X : Cx} {e : Expr} {t : TE} (h : PE X e t) : QE X e t := by unfold QE; exact h
theorem qa_nil {X : Cx} : QA X [] tNil := by unfold QA; exact pa_nil
theorem qa_cons {X : Cx} {e : Expr} {es : List Expr} {te : TE} {t : TA} (ha : QE X e te) (hr : QA X es t) (hs : starEach (e :: es) X.env = (false, eval e X.env) :: starEach es X.env := by rfl) : QA X (e :: es) (tCons te t) := by
  unfold QE at ha
  unfold QA at hr ⊢
  exact pa_cons ha hr hs
theorem qe_tup {X : Cx} {es : List Expr} {t : TA} {x1 : Nat} {pos : Pos} (h : QA X es t) : QE X (.Tuple es x1 pos) (tTup t) := by
  unfold QA at h
  unfold QE
  exact pe_tup h
theorem qe_lst {X : Cx} {es : List Expr} {t : TA} {pos : Pos} (h : QA X es t) : QE X (.List es pos) (tLst t) := by
  unfold QA at h
  unfold QE
  exact pe_lst h
theorem qe_op {X : Cx} {a b : Expr} {ta tb : TE} {pos : Pos} {op : Operator} {r : R2} (ho : OpR X (binaryOp op) r) (ha : QE X a ta) (hb : QE X b tb) : QE X (.BinOp a op b pos) (tOp r ta tb) := by
  unfold QE at ha hb ⊢
  exact pe_op ho ha hb
theorem qe_ix {X : Cx} {a b : Expr} {ta tb : TE} {pos : Pos} {r : R2} (hr : IxR X r) (ha : QE X a ta) (hb : QE X b tb) (hs : PlainIx b) : QE X (.Subscript a b pos) (tOp r ta tb) := by
  unfold QE at ha hb ⊢
  exact pe_ix hr ha hb hs
@[irreducible] def QS (X : Cx) (st : Stmt) (t : TS) : Prop := PS X st t
@[irreducible] def QSs (X : Cx) (st : List Stmt) (t : TS) : Prop := PSs X st t
theorem pss_of {X : Cx} {st : List Stmt} {t : TS} (h : QSs X st t) : PSs X st t := by unfold QSs at h; exact h
theorem qss_cons {X : Cx} {st : Stmt} {rest : List Stmt} {t u : TS} (h1 : QS X st t) (h2 : QSs X rest u) : QSs X (st :: rest) (tSeq t u) := by
  unfold QS at h1
  unfold QSs at h2 ⊢
  exact pss_cons h1 h2
theorem qss_one {X : Cx} {st : Stmt} {t : TS} (h1 : QS X st t) : QSs X [st] t := by
  unfold QS at h1
  unfold QSs
  exact pss_one h1
theorem qs_ret {X : Cx} {e : Expr} {te : TE} {pos : Pos} (he : QE X e te) : QS X (.Return (some e) pos) (tRet te) := by
  unfold QE at he
  unfold QS
  exact ps_ret he
theorem qs_set {X : Cx} (i : Nat) {x : Str} {e : Expr} {te : TE} {pos pos' : Pos} (hN : X.N.Nodup) (hi : X.N[i]? = some x) (hx : Loc X.env.scope x) (he : QE X e te) (hs : swapsWith e (some (.Name x pos')) pos.line X.env = pure false := by rfl) (hf : X.fn x = true ∨ X.env.scope.names.lookup x = some .local := by first | exact .inl rfl | exact .inr rfl | assumption) : QS X (.Assign [.Name x pos'] e pos) (tAsg te (gName i)) := by
  unfold QE at he
  unfold QS
  exact ps_set hN hi hx he hs hf
noncomputable def sp_bad : Sp := fun vs H Q _ => ∃ (c : Int) (m : Nat), vs = [.int c, .int m] ∧ 1 ≤ m ∧ m ≤ 6 ∧ ∀ g xs H', Same H H' → H' g = some (.tup xs) → Bd H' m xs → Q (.ref g) H'
section
variable {P : Program} {w : World} {K : PySem.W.Frag} {mg : Str → Option Value} {base : Heap}
/- _law_bad: 0:_law_cell_here 1:_law_coins 2:_law_far 3:_law_some -/
noncomputable abbrev s_law_bad : Stmt := top 54
theorem sc_law_bad : FnScope ["_law_cell_here", "_law_coins", "_law_far", "_law_some"] ["_law_cell_here", "_law_coins"] (defScope s_law_bad) := ⟨rfl, rfl, rfl, by decide +kernel, rfl, by decide +kernel, by decide +kernel⟩
theorem ok_bad (T : Blt mg) (D : Def K mg "_law_bad" s_law_bad ["_law_cell_here", "_law_coins"]) : Cal P w K mg base CX0 1 "_law_bad" ["_law_cell_here", "_law_coins"] sp_bad := by
  refine D.ok sc_law_bad (fun vs H Q E h => ?_) (fun f cdv A outer s H vs Q E hr h => ?_)
  · obtain ⟨n, m, rfl, _⟩ := h; rfl
  obtain ⟨c, m, rfl, m1, m6, k⟩ := h
  have lb : (1000 : Nat) ≤ sizeLine := line6 (by decide)
  refine ⟨_, (pss_of (qss_cons (qs_set 2 sc_law_bad.nd rfl (Or.inl rfl) (qe_ix (ix_listK K) (qe_lst (qa_cons (qe_of (pe_un un_neg pe_int)) (qa_cons (qe_of (pv 1)) (qa_cons (qe_of (pe_op op_add (pv 1) (pe_op op_mod (pe_op op_fdivB (pv 0) pe_int) (pe_op op_pow pe_int pe_int)))) (qa_cons (qe_of (pe_op op_sub (pe_op op_sub pe_int pe_int) (pe_op op_mod (pe_op op_fdivB (pv 0) pe_int) (pe_op op_pow pe_int pe_int)))) qa_nil))))) (qe_of (pe_op op_mod (pe_op op_fdivB (pv 0) pe_int) pe_int)) (fun _ _ => rfl)))
      (qss_cons (qs_set 3 sc_law_bad.nd rfl (Or.inl rfl) (qe_lst (qa_cons (qe_tup (qa_cons (qe_of pe_str) (qa_cons (qe_of pe_int) qa_nil))) (qa_cons (qe_tup (qa_cons (qe_of pe_str) (qa_cons (qe_of pe_int) qa_nil))) (qa_cons (qe_tup (qa_cons (qe_of pe_str) (qa_cons (qe_of pe_int) qa_nil))) (qa_cons (qe_tup (qa_cons (qe_of pe_str) (qa_cons (qe_of pe_int) qa_nil))) (qa_cons (qe_tup (qa_cons (qe_of pe_str) qa_nil)) (qa_cons (qe_tup (qa_cons (qe_of pe_str) (qa_cons (qe_of pe_int) (qa_cons (qe_of pe_int) qa_nil)))) (qa_cons (qe_tup (qa_cons (qe_of pe_str) (qa_cons (qe_of pe_int) (qa_cons (qe_of pe_int) (qa_cons (qe_of pe_int) qa_nil))))) (qa_cons (qe_tup qa_nil) qa_nil))))))))))
      (qss_cons (qs_set 3 sc_law_bad.nd rfl (Or.inl rfl) (qe_op op_cat (qe_of (pv 3)) (qe_lst (qa_cons (qe_tup (qa_cons (qe_of pe_str) (qa_cons (qe_of pe_int) qa_nil))) (qa_cons (qe_tup (qa_cons (qe_of pe_str) (qa_cons (qe_of pe_int) (qa_cons (qe_of pe_int) (qa_cons (qe_of pe_int) qa_nil))))) (qa_cons (qe_tup (qa_cons (qe_of pe_str) (qa_cons (qe_of (pv 2)) qa_nil))) (qa_cons (qe_tup (qa_cons (qe_of pe_str) (qa_cons (qe_of (pv 2)) qa_nil))) (qa_cons (qe_tup (qa_cons (qe_of pe_str) (qa_cons (qe_of pe_int) (qa_cons (qe_of (pv 2)) qa_nil)))) (qa_cons (qe_tup (qa_cons (qe_of pe_str) (qa_cons (qe_of (pv 2)) (qa_cons (qe_of pe_int) qa_nil)))) qa_nil)))))))))
      (qss_cons (qs_set 3 sc_law_bad.nd rfl (Or.inl rfl) (qe_op op_cat (qe_of (pv 3)) (qe_lst (qa_cons (qe_tup (qa_cons (qe_of pe_str) (qa_cons (qe_of (pe_op op_sub (pv 1) pe_int)) (qa_cons (qe_of (pe_op op_sub (pv 1) pe_int)) qa_nil)))) (qa_cons (qe_tup (qa_cons (qe_of pe_str) (qa_cons (qe_of pe_int) (qa_cons (qe_of pe_int) qa_nil)))) (qa_cons (qe_tup (qa_cons (qe_of pe_str) (qa_cons (qe_of pe_bl) qa_nil))) (qa_cons (qe_tup (qa_cons (qe_of pe_str) (qa_cons (qe_of pe_non) qa_nil))) (qa_cons (qe_tup (qa_cons (qe_of pe_str) (qa_cons (qe_of pe_str) qa_nil))) qa_nil))))))))
      (qss_one (qs_ret (qe_ix (ix_listK K) (qe_op op_cat (qe_of (pv 3)) (qe_lst (qa_cons (qe_tup (qa_cons (qe_of pe_non) (qa_cons (qe_of pe_int) qa_nil))) (qa_cons (qe_tup (qa_cons (qe_lst (qa_cons (qe_of pe_str) qa_nil)) (qa_cons (qe_of pe_int) qa_nil))) (qa_cons (qe_tup (qa_cons (qe_of pe_str) (qa_cons (qe_of pe_int) (qa_cons (qe_tup (qa_cons (qe_of pe_int) qa_nil)) qa_nil)))) qa_nil))))) (qe_of (pe_op op_mod (pv 0) pe_int)) (fun _ _ => rfl))))))))), ?_⟩
  have h9 : (0 : Int) < 10 ^ (9 : Int).toNat := by decide
  have q0 := em_nn (c.fdiv 64) h9
  have v0 := em_nn (c.fdiv 16) (m := 4) (by decide)
  have v3 := em_lt (c.fdiv 16) (m := 4) (by decide)
  obtain ⟨F, hpick, hF⟩ := pick_far (m := m) q0 v0 v3
  have b0 : Bds H m [] := .nil
  have s0 : Same H H := .refl H
  refine ⟨_, rfl, _, rfl, _, rfl, _, rfl, _, _, rfl, rfl, cdB (by decide) (by decide), _, _, rfl, rfl, cpw _ (by decide) (by decide), _, _, rfl, rfl, h9, _, _, rfl, rfl, ?_⟩
  refine ⟨_, _, rfl, rfl, _, rfl, _, _, rfl, rfl, cdB (by decide) (by decide), _, _, rfl, rfl, cpw _ (by decide) (by decide), _, _, rfl, rfl, h9, _, _, rfl, rfl, ?_⟩
  refine ⟨by show 4 ≤ sizeLine; omega, fun l9 nl9 => ?_⟩
  refine ⟨_, rfl, _, _, rfl, rfl, cdB (by decide) (by decide), _, _, rfl, rfl, (by show (0 : Int) < _; decide), ?_⟩
  refine ⟨l9, _, _, _, rfl, rfl, .of upd_same, hpick, ?_⟩
  dsimp only [gName]
  generalize hG : upd H l9 _ = H0
  have b0 : Bds H0 m [] := .nil
  have s0 : Same H H0 := hG ▸ Same.new nl9
  clear hG
  refine ⟨by show 2 ≤ sizeLine; omega, fun t1 n1 => ?_⟩
  have b1 := b0.new (xs := [V.str "Mix", .int 0]) n1 ⟨scls rfl, by show 2 ≤ 4; decide, (by exact bad_word1 (by decide +kernel))⟩
  have s1 := s0.trans (Same.new (o := .tup [V.str "Mix", .int 0]) n1)
  generalize upd H0 t1 (.tup [V.str "Mix", .int 0]) = H1 at b1 s1 ⊢
  refine ⟨by show 2 ≤ sizeLine; omega, fun t2 n2 => ?_⟩
  have b2 := b1.new (xs := [V.str "mixes", .int 0]) n2 ⟨scls rfl, by show 2 ≤ 4; decide, (by exact bad_word1 (by decide +kernel))⟩
  have s2 := s1.trans (Same.new (o := .tup [V.str "mixes", .int 0]) n2)
  generalize upd H1 t2 (.tup [V.str "mixes", .int 0]) = H2 at b2 s2 ⊢
  refine ⟨by show 2 ≤ sizeLine; omega, fun t3 n3 => ?_⟩
  have b3 := b2.new (xs := [V.str "", .int 0]) n3 ⟨scls rfl, by show 2 ≤ 4; decide, (by exact bad_word1 (by decide +kernel))⟩
  have s3 := s2.trans (Same.new (o := .tup [V.str "", .int 0]) n3)
  generalize upd H2 t3 (.tup [V.str "", .int 0]) = H3 at b3 s3 ⊢
  refine ⟨by show 2 ≤ sizeLine; omega, fun t4 n4 => ?_⟩
  have b4 := b3.new (xs := [V.str "mix 0", .int 0]) n4 ⟨scls rfl, by show 2 ≤ 4; decide, (by exact bad_word1 (by decide +kernel))⟩
  have s4 := s3.trans (Same.new (o := .tup [V.str "mix 0", .int 0]) n4)
  generalize upd H3 t4 (.tup [V.str "mix 0", .int 0]) = H4 at b4 s4 ⊢
  refine ⟨by show 1 ≤ sizeLine; omega, fun t5 n5 => ?_⟩
  have b5 := b4.new (xs := [V.str "mix"]) n5 ⟨scls rfl, by show 1 ≤ 4; decide, (by exact rfl)⟩
  have s5 := s4.trans (Same.new (o := .tup [V.str "mix"]) n5)
  generalize upd H4 t5 (.tup [V.str "mix"]) = H5 at b5 s5 ⊢
  refine ⟨by show 3 ≤ sizeLine; omega, fun t6 n6 => ?_⟩
  have b6 := b5.new (xs := [V.str "flip", .int 0, .int 0]) n6 ⟨scls rfl, by show 3 ≤ 4; decide, (by exact bad_word2 (by decide +kernel))⟩
  have s6 := s5.trans (Same.new (o := .tup [V.str "flip", .int 0, .int 0]) n6)
  generalize upd H5 t6 (.tup [V.str "flip", .int 0, .int 0]) = H6 at b6 s6 ⊢
  refine ⟨by show 4 ≤ sizeLine; omega, fun t7 n7 => ?_⟩
  have b7 := b6.new (xs := [V.str "sign", .int 0, .int 1, .int 0]) n7 ⟨scls rfl, by show 4 ≤ 4; decide, (by exact rfl)⟩
  have s7 := s6.trans (Same.new (o := .tup [V.str "sign", .int 0, .int 1, .int 0]) n7)
  generalize upd H6 t7 (.tup [V.str "sign", .int 0, .int 1, .int 0]) = H7 at b7 s7 ⊢
  refine ⟨by show 0 ≤ sizeLine; omega, fun t8 n8 => ?_⟩
  have b8 := b7.new (xs := ([] : List V)) n8 ⟨scls rfl, by show 0 ≤ 4; decide, (by exact rfl)⟩
  have s8 := s7.trans (Same.new (o := .tup ([] : List V)) n8)
  generalize upd H7 t8 (.tup ([] : List V)) = H8 at b8 s8 ⊢
  refine ⟨by show 8 ≤ sizeLine; omega, fun l0 nl => ?_⟩
  dsimp only [gName]
  generalize hG : upd H8 l0 _ = H9
  have el : H9 l0 = some (.lst (rV [t1, t2, t3, t4, t5, t6, t7, t8])) := by rw [← hG]; exact upd_same
  have b9 : Bds H9 m _ := hG ▸ b8.same (Same.new nl)
  have s9 : Same H H9 := hG ▸ s8.trans (Same.new nl)
  clear hG
  refine ⟨_, rfl, ?_⟩
  refine ⟨by show 2 ≤ sizeLine; omega, fun t10 n10 => ?_⟩
  have b10 := b9.new (xs := [V.str "follow", .int 0]) n10 ⟨scls rfl, by show 2 ≤ 4; decide, (by exact bad_word1 (by decide +kernel))⟩
  have s10 := s9.trans (Same.new (o := .tup [V.str "follow", .int 0]) n10)
  have el := Same.new (o := .tup [V.str "follow", .int 0]) n10 _ _ el
  generalize upd H9 t10 (.tup [V.str "follow", .int 0]) = H10 at b10 s10 el ⊢
  refine ⟨by show 4 ≤ sizeLine; omega, fun t11 n11 => ?_⟩
  have b11 := b10.new (xs := [V.str "meet", .int 0, .int 1, .int 1]) n11 ⟨scls rfl, by show 4 ≤ 4; decide, (by exact rfl)⟩
  have s11 := s10.trans (Same.new (o := .tup [V.str "meet", .int 0, .int 1, .int 1]) n11)
  have el := Same.new (o := .tup [V.str "meet", .int 0, .int 1, .int 1]) n11 _ _ el
  generalize upd H10 t11 (.tup [V.str "meet", .int 0, .int 1, .int 1]) = H11 at b11 s11 el ⊢
  refine ⟨_, rfl, by show 2 ≤ sizeLine; omega, fun t12 n12 => ?_⟩
  have b12 := b11.new (xs := [V.str "mix", .int F]) n12 ⟨scls rfl, by show 2 ≤ 4; decide, (by exact bad_one (by decide +kernel) hF)⟩
  have s12 := s11.trans (Same.new (o := .tup [V.str "mix", .int F]) n12)
  have el := Same.new (o := .tup [V.str "mix", .int F]) n12 _ _ el
  generalize upd H11 t12 (.tup [V.str "mix", .int F]) = H12 at b12 s12 el ⊢
  refine ⟨_, rfl, by show 2 ≤ sizeLine; omega, fun t13 n13 => ?_⟩
  have b13 := b12.new (xs := [V.str "sign", .int F]) n13 ⟨scls rfl, by show 2 ≤ 4; decide, (by exact bad_one (by decide +kernel) hF)⟩
  have s13 := s12.trans (Same.new (o := .tup [V.str "sign", .int F]) n13)
  have el := Same.new (o := .tup [V.str "sign", .int F]) n13 _ _ el
  generalize upd H12 t13 (.tup [V.str "sign", .int F]) = H13 at b13 s13 el ⊢
  refine ⟨_, rfl, by show 3 ≤ sizeLine; omega, fun t14 n14 => ?_⟩
  have b14 := b13.new (xs := [V.str "follow", .int 0, .int F]) n14 ⟨scls rfl, by show 3 ≤ 4; decide, (by exact bad_snd hF)⟩
  have s14 := s13.trans (Same.new (o := .tup [V.str "follow", .int 0, .int F]) n14)
  have el := Same.new (o := .tup [V.str "follow", .int 0, .int F]) n14 _ _ el
  generalize upd H13 t14 (.tup [V.str "follow", .int 0, .int F]) = H14 at b14 s14 el ⊢
  refine ⟨_, rfl, by show 3 ≤ sizeLine; omega, fun t15 n15 => ?_⟩
  have b15 := b14.new (xs := [V.str "swap", .int F, .int 0]) n15 ⟨scls rfl, by show 3 ≤ 4; decide, (by exact bad_fst hF)⟩
  have s15 := s14.trans (Same.new (o := .tup [V.str "swap", .int F, .int 0]) n15)
  have el := Same.new (o := .tup [V.str "swap", .int F, .int 0]) n15 _ _ el
  generalize upd H14 t15 (.tup [V.str "swap", .int F, .int 0]) = H15 at b15 s15 el ⊢
  refine ⟨by show 6 ≤ sizeLine; omega, fun p0 nl => ?_⟩
  generalize hG : upd H15 p0 _ = H16
  have em : H16 p0 = some (.lst (rV [t10, t11, t12, t13, t14, t15])) := by rw [← hG]; exact upd_same
  have el := hG ▸ Same.new nl _ _ el
  have b16 : Bds H16 m _ := hG ▸ b15.same (Same.new nl)
  have s16 : Same H H16 := hG ▸ s15.trans (Same.new nl)
  clear hG
  refine ⟨l0, p0, _, _, rfl, rfl, el, em, by show 8 + 6 ≤ sizeLine; omega, fun l1 nl => ?_⟩
  dsimp only [gName]
  generalize hG : upd H16 l1 _ = H17
  have el : H17 l1 = some (.lst (rV ([t1, t2, t3, t4, t5, t6, t7, t8] ++ [t10, t11, t12, t13, t14, t15]))) := by rw [← hG]; exact upd_same
  have b17 : Bds H17 m _ := hG ▸ b16.same (Same.new nl)
  have s17 : Same H H17 := hG ▸ s16.trans (Same.new nl)
  clear hG
  refine ⟨_, rfl, ?_⟩
  refine ⟨_, rfl, _, _, rfl, rfl, _, rfl, _, _, rfl, rfl, by show 3 ≤ sizeLine; omega, fun t18 n18 => ?_⟩
  have b18 := b17.new (xs := [V.str "meet", .int ((m : Nat) - 1), .int ((m : Nat) - 1)]) n18 ⟨scls rfl, by show 3 ≤ 4; decide, (by exact bad_same)⟩
  have s18 := s17.trans (Same.new (o := .tup [V.str "meet", .int ((m : Nat) - 1), .int ((m : Nat) - 1)]) n18)
  have el := Same.new (o := .tup [V.str "meet", .int ((m : Nat) - 1), .int ((m : Nat) - 1)]) n18 _ _ el
  generalize upd H17 t18 (.tup [V.str "meet", .int ((m : Nat) - 1), .int ((m : Nat) - 1)]) = H18 at b18 s18 el ⊢
  refine ⟨by show 3 ≤ sizeLine; omega, fun t19 n19 => ?_⟩
  have b19 := b18.new (xs := [V.str "swap", .int 0, .int 0]) n19 ⟨scls rfl, by show 3 ≤ 4; decide, (by exact bad_same)⟩
  have s19 := s18.trans (Same.new (o := .tup [V.str "swap", .int 0, .int 0]) n19)
  have el := Same.new (o := .tup [V.str "swap", .int 0, .int 0]) n19 _ _ el
  generalize upd H18 t19 (.tup [V.str "swap", .int 0, .int 0]) = H19 at b19 s19 el ⊢
  refine ⟨by show 2 ≤ sizeLine; omega, fun t20 n20 => ?_⟩
  have b20 := b19.new (xs := [V.str "mix", .bl true]) n20 ⟨scls rfl, by show 2 ≤ 4; decide, (by exact bad_one (by decide +kernel) rfl)⟩
  have s20 := s19.trans (Same.new (o := .tup [V.str "mix", .bl true]) n20)
  have el := Same.new (o := .tup [V.str "mix", .bl true]) n20 _ _ el
  generalize upd H19 t20 (.tup [V.str "mix", .bl true]) = H20 at b20 s20 el ⊢
  refine ⟨by show 2 ≤ sizeLine; omega, fun t21 n21 => ?_⟩
  have b21 := b20.new (xs := [V.str "flip", .non]) n21 ⟨scls rfl, by show 2 ≤ 4; decide, (by exact bad_one (by decide +kernel) rfl)⟩
  have s21 := s20.trans (Same.new (o := .tup [V.str "flip", .non]) n21)
  have el := Same.new (o := .tup [V.str "flip", .non]) n21 _ _ el
  generalize upd H20 t21 (.tup [V.str "flip", .non]) = H21 at b21 s21 el ⊢
  refine ⟨by show 2 ≤ sizeLine; omega, fun t22 n22 => ?_⟩
  have b22 := b21.new (xs := [V.str "sign", .str "0"]) n22 ⟨scls rfl, by show 2 ≤ 4; decide, (by exact bad_one (by decide +kernel) rfl)⟩
  have s22 := s21.trans (Same.new (o := .tup [V.str "sign", .str "0"]) n22)
  have el := Same.new (o := .tup [V.str "sign", .str "0"]) n22 _ _ el
  generalize upd H21 t22 (.tup [V.str "sign", .str "0"]) = H22 at b22 s22 el ⊢
  refine ⟨by show 5 ≤ sizeLine; omega, fun p1 nl => ?_⟩
  generalize hG : upd H22 p1 _ = H23
  have em : H23 p1 = some (.lst (rV [t18, t19, t20, t21, t22])) := by rw [← hG]; exact upd_same
  have el := hG ▸ Same.new nl _ _ el
  have b23 : Bds H23 m _ := hG ▸ b22.same (Same.new nl)
  have s23 : Same H H23 := hG ▸ s22.trans (Same.new nl)
  clear hG
  refine ⟨l1, p1, _, _, rfl, rfl, el, em, by show 14 + 5 ≤ sizeLine; omega, fun l2 nl => ?_⟩
  dsimp only [gName]
  generalize hG : upd H23 l2 _ = H24
  have el : H24 l2 = some (.lst (rV (([t1, t2, t3, t4, t5, t6, t7, t8] ++ [t10, t11, t12, t13, t14, t15]) ++ [t18, t19, t20, t21, t22]))) := by rw [← hG]; exact upd_same
  have b24 : Bds H24 m _ := hG ▸ b23.same (Same.new nl)
  have s24 : Same H H24 := hG ▸ s23.trans (Same.new nl)
  clear hG
  refine ⟨_, rfl, ?_⟩
  refine ⟨by show 2 ≤ sizeLine; omega, fun t25 n25 => ?_⟩
  have b25 := b24.new (xs := [.non, .int 0]) n25 ⟨scls rfl, by show 2 ≤ 4; decide, (by exact rfl)⟩
  have s25 := s24.trans (Same.new (o := .tup [.non, .int 0]) n25)
  have el := Same.new (o := .tup [.non, .int 0]) n25 _ _ el
  generalize upd H24 t25 (.tup [.non, .int 0]) = H25 at b25 s25 el ⊢
  refine ⟨by show 1 ≤ sizeLine; omega, fun v1 nv => ?_⟩
  have ev : upd H25 v1 (.lst [V.str "mix"]) v1 = some (.lst [V.str "mix"]) := upd_same
  have b26 := b25.same (Same.new (o := .lst [V.str "mix"]) nv)
  have s26 := s25.trans (Same.new (o := .lst [V.str "mix"]) nv)
  have el := Same.new (o := .lst [V.str "mix"]) nv _ _ el
  generalize upd H25 v1 (.lst [V.str "mix"]) = H26 at b26 s26 el ev ⊢
  refine ⟨by show 2 ≤ sizeLine; omega, fun t27 n27 => ?_⟩
  have b27 := b26.new (xs := [.ref v1, .int 0]) n27 ⟨fun x hx => by rcases List.mem_cons.mp hx with rfl | hx; exact ⟨_, .inl ev⟩; exact scls (xs := [.int 0]) rfl x hx, by show 2 ≤ 4; decide, (by exact rfl)⟩
  have s27 := s26.trans (Same.new (o := .tup [.ref v1, .int 0]) n27)
  have el := Same.new (o := .tup [.ref v1, .int 0]) n27 _ _ el
  generalize upd H26 t27 (.tup [.ref v1, .int 0]) = H27 at b27 s27 el ⊢
  refine ⟨by show 1 ≤ sizeLine; omega, fun v2 nv => ?_⟩
  have ev2 : upd H27 v2 (.tup [V.int 1]) v2 = some (.tup [V.int 1]) := upd_same
  have b28 := b27.same (Same.new (o := .tup [V.int 1]) nv)
  have s28 := s27.trans (Same.new (o := .tup [V.int 1]) nv)
  have el := Same.new (o := .tup [V.int 1]) nv _ _ el
  generalize upd H27 v2 (.tup [V.int 1]) = H28 at b28 s28 el ev2 ⊢
  refine ⟨by show 3 ≤ sizeLine; omega, fun t29 n29 => ?_⟩
  have b29 := b28.new (xs := [V.str "follow", .int 0, .ref v2]) n29 ⟨fun x hx => by rcases List.mem_cons.mp hx with rfl | hx; exact True.intro; rcases List.mem_cons.mp hx with rfl | hx; exact True.intro; rw [List.mem_singleton.mp hx]; exact ⟨_, .inr ev2⟩, by show 3 ≤ 4; decide, (by exact bad_snd rfl)⟩
  have s29 := s28.trans (Same.new (o := .tup [V.str "follow", .int 0, .ref v2]) n29)
  have el := Same.new (o := .tup [V.str "follow", .int 0, .ref v2]) n29 _ _ el
  generalize upd H28 t29 (.tup [V.str "follow", .int 0, .ref v2]) = H29 at b29 s29 el ⊢
  refine ⟨by show 3 ≤ sizeLine; omega, fun p2 nl => ?_⟩
  generalize hG : upd H29 p2 _ = H30
  have em : H30 p2 = some (.lst (rV [t25, t27, t29])) := by rw [← hG]; exact upd_same
  have el := hG ▸ Same.new nl _ _ el
  have b30 : Bds H30 m _ := hG ▸ b29.same (Same.new nl)
  have s30 : Same H H30 := hG ▸ s29.trans (Same.new nl)
  clear hG
  refine ⟨l2, p2, _, _, rfl, rfl, el, em, by show 19 + 3 ≤ sizeLine; omega, fun l3 nl => ?_⟩
  dsimp only [gName]
  generalize hG : upd H30 l3 _ = H31
  have el : H31 l3 = some (.lst (rV ((([t1, t2, t3, t4, t5, t6, t7, t8] ++ [t10, t11, t12, t13, t14, t15]) ++ [t18, t19, t20, t21, t22]) ++ [t25, t27, t29]))) := by rw [← hG]; exact upd_same
  have b31 : Bds H31 m _ := hG ▸ b30.same (Same.new nl)
  have s31 : Same H H31 := hG ▸ s30.trans (Same.new nl)
  clear hG
  obtain ⟨g, hg, hgm⟩ := pick_ref (as := ((([t1, t2, t3, t4, t5, t6, t7, t8] ++ [t10, t11, t12, t13, t14, t15]) ++ [t18, t19, t20, t21, t22]) ++ [t25, t27, t29])) (n := 22) rfl (by decide) c
  obtain ⟨xs, h1, h2⟩ := b31.g g (by simpa using hgm)
  exact ⟨_, rfl, _, _, rfl, rfl, (by show (0 : Int) < _; decide), l3, _, _, _, rfl, rfl, .of el, hg, k g xs H31 s31 h1 h2⟩
end

end K05

set_option maxHeartbeats 4000000
namespace K05
open PySem L2 TC
/-- an error's class is none of ten others -/
structure Oth5 (K : PySem.W.Frag) (n c0 c1 c2 c3 c4 c5 c6 c7 c8 c9 : Addr) : Prop where
  c : ExcC K n
  self : PySem.W.subIn K (.ref n) (.ref n) = some true
  o0 : PySem.W.subIn K (.ref n) (.ref c0) = some false
  o1 : PySem.W.subIn K (.ref n) (.ref c1) = some false
  o2 : PySem.W.subIn K (.ref n) (.ref c2) = some false
  o3 : PySem.W.subIn K (.ref n) (.ref c3) = some false
  o4 : PySem.W.subIn K (.ref n) (.ref c4) = some false
  o5 : PySem.W.subIn K (.ref n) (.ref c5) = some false
  o6 : PySem.W.subIn K (.ref n) (.ref c6) = some false
  o7 : PySem.W.subIn K (.ref n) (.ref c7) = some false
  o8 : PySem.W.subIn K (.ref n) (.ref c8) = some false
  o9 : PySem.W.subIn K (.ref n) (.ref c9) = some false
noncomputable def sp_seenN (K : PySem.W.Frag) : Sp := fun vs H Q _ => ∃ (a b : Addr) (xs : List Int) (as : List Addr) (gs : List Gt) (m n : Nat), vs = [.ref a, .ref b, .int 0] ∧ SqL K H a (zV xs) ∧ SqL K H b (rV as) ∧ Gts H m as gs ∧ Fit m n xs ∧ 1 ≤ m ∧ m ≤ 6 ∧ n + gs.length ≤ 2000 ∧
  ∀ p H', Same H H' → H p = none → H' p = some (.tup [.non, .int (-1)]) → Q (.ref p) H'
noncomputable def sp_seenX (K : PySem.W.Frag) : Sp := fun vs H Q _ =>
  (∃ (a b g : Addr) (ns : List Int) (as : List Addr) (y : Int), vs = [.ref a, .ref b, .int y] ∧ (y = 0 ∨ y = 1) ∧ SqL K H a (zV ns) ∧ NoNs ns ∧ SqL K H b (rV (g :: as)) ∧ ∀ p q H', Same H H' → H p = none → H q = none → H' p = some (.tup [.ref q, .int (-1)]) → H' q = some (.lst [.bl true, .bl false, .bl true, .bl false]) → Q (.ref p) H') ∨
  (∃ (a b : Addr) (ns : List Int) (as : List Addr) (gvs : List (List V)) (m n : Nat), vs = [.ref a, .ref b, .int 0] ∧ SqL K H a (zV ns) ∧ ns.length = 2 ^ m ∧ 1 ≤ m ∧ m ≤ 6 ∧ some0 ns ∧ SqL K H b (rV as) ∧ Tps H as gvs ∧ as.length ≤ 127 ∧ Fst m n gvs ∧ ∀ p q H', Same H H' → H p = none → H q = none → H' p = some (.tup [.ref q, .int n]) → H' q = some (.lst [.bl true, .bl true, .bl false, .bl false]) → Q (.ref p) H') ∨
  (∃ (a b g : Addr) (ns : List Int) (ys : List V) (m : Nat), vs = [.ref a, .ref b, .int 1] ∧ SqL K H a (zV ns) ∧ ns.length = 2 ^ m ∧ 1 ≤ m ∧ m ≤ 6 ∧ some0 ns ∧ SqL K H b (rV [g]) ∧ H g = some (.tup ys) ∧ (∀ x ∈ ys, Okv H x) ∧ ys.length ≤ 1000 ∧ gok m ys = false ∧ ∀ p q H', Same H H' → H p = none → H q = none → H' p = some (.tup [.ref q, .int 0]) → H' q = some (.lst [.bl true, .bl true, .bl false, .bl false]) → Q (.ref p) H') ∨
  ∃ (a b g : Addr) (ys : List V), vs = [.ref a, .ref b, .int 2] ∧ SqL K H b (rV [g]) ∧ H g = some (.tup ys) ∧ (∀ x ∈ ys, Okv H x) ∧ ys.length ≤ 1000 ∧ gok 6 ys = false ∧ ∀ p q H', Same H H' → H p = none → H q = none → H' p = some (.tup [.ref q, .int 0]) → H' q = some (.lst [.bl true, .bl true, .bl false, .bl false]) → Q (.ref p) H'
section
variable {P : Program} {w : World} {K : PySem.W.Frag} {mg : Str → Option Value} {base : Heap} {nL nG cE c0 c1 c2 c3 c4 c5 c6 c7 c8 c9 : Addr}
/- _law_seen: 0:_law_numbers 1:_law_gates 2:_law_way 3:_law_seen_here 4:_law_at 5:e 6:_law_others -/
noncomputable abbrev s_law_seen : Stmt := top 55
theorem sc_law_seen : FnScope ["_law_numbers", "_law_gates", "_law_way", "_law_seen_here", "_law_at", "e", "_law_others"] ["_law_numbers", "_law_gates", "_law_way"] (defScope s_law_seen) := ⟨rfl, rfl, rfl, by decide +kernel, rfl, by decide +kernel, by decide +kernel⟩

theorem ok_seenN (T : Blt mg) (GE : GCls K mg "CoinError" cE) (D : Def K mg "_law_seen" s_law_seen ["_law_numbers", "_law_gates", "_law_way"]) (C_turned_by : Cal P w K mg base CX0 4 "turned_by" ["numbers", "gates"] (sp_turnedby K)) : Cal P w K mg base CX0 6 "_law_seen" ["_law_numbers", "_law_gates", "_law_way"] (sp_seenN K) := by
  refine D.ok sc_law_seen (fun vs H Q E h => ?_) (fun f cdv A outer s H vs Q E hr h => ?_)
  · obtain ⟨a, b, xs, as, gs, m, n, rfl, _⟩ := h; rfl
  obtain ⟨a, b, xs, as, gs, m, n, rfl, hS, hB, hG, hF, m1, m6, hn, k⟩ := h
  refine ⟨_, (pss_cons (ps_set (i := 3) sc_law_seen.nd rfl (Or.inl rfl) pe_non) (pss_cons (ps_set (i := 4) sc_law_seen.nd rfl (Or.inl rfl) (pe_un un_neg pe_int))
    (pss_cons (ps_try (i := 5) rfl ⟨rfl, rfl⟩ sc_law_seen.nd rfl rfl rfl GE.m (fun pn xe E R => (pss_cons (ps_if (pt_cmpR op_eq (pv 2) pe_int (nomark _)) (pss_one (ps_expr (pe_cal C_turned_by hr.sub (pa_cons (pv 0) (pa_cons (pv 1) pa_nil))))) pss_nil) (pss_cons (ps_if (pt_cmpR op_eq (pv 2) pe_int (nomark _)) pss_never pss_nil) (pss_one (ps_if (pt_cmpR op_eq (pv 2) pe_int (nomark _)) pss_never pss_nil))))) (fun e => pss_never))
    (pss_one (ps_ret (pe_tup (pa_cons (pv 3) (pa_cons (pv 4) pa_nil)))))))), ?_⟩
  refine ⟨_, rfl, _, rfl, rfl, _, rfl, iteT ?_⟩
  refine ⟨_, rfl, _, rfl, a, b, xs, as, gs, m, n, rfl, hS, hB, hG, hF, m1, m6, hn, fun q H1 s1 nq eq => ?_⟩
  refine ⟨_, rfl, rfl, _, rfl, iteF ?_⟩
  refine ⟨_, rfl, rfl, _, rfl, iteF ?_⟩
  exact ⟨_, rfl, _, rfl, line6 (by show 2 ≤ 1000; decide), fun p np => k p _ (s1.trans (Same.new np)) (s1.free np) upd_same⟩

theorem ok_seenX (T : Blt mg) (GE : GCls K mg "CoinError" cE) (cb : PySem.W.subIn K (.ref cE) (.type "BaseException") = some true) (eG : PySem.W.subIn K (.ref nG) (.ref cE) = some true) (eL : PySem.W.subIn K (.ref nL) (.ref cE) = some true) (vG : PySem.W.subIn K (.ref nG) (.type "ValueError") = some true) (vL : PySem.W.subIn K (.ref nL) (.type "ValueError") = some true)
    (GG : GCls K mg "NoGate" nG) (GL : GCls K mg "NoList" nL) (G0 : GCls K mg "NoLook" c0) (G1 : GCls K mg "NoRows" c1) (G2 : GCls K mg "NoTable" c2) (G3 : GCls K mg "NoText" c3) (G4 : GCls K mg "NotFree" c4) (G5 : GCls K mg "NoShort" c5) (G6 : GCls K mg "NoCode" c6) (G7 : GCls K mg "CantMend" c7) (G8 : GCls K mg "NoName" c8) (G9 : GCls K mg "NoLine" c9) (OG : Oth5 K nG c0 c1 c2 c3 c4 c5 c6 c7 c8 c9) (OL : Oth5 K nL c0 c1 c2 c3 c4 c5 c6 c7 c8 c9) (gl : PySem.W.subIn K (.ref nG) (.ref nL) = some false) (lg : PySem.W.subIn K (.ref nL) (.ref nG) = some false) (hd : PySem.W.hasDictIn K nG = true) (NA : NoAttr K nG "at")
    (D : Def K mg "_law_seen" s_law_seen ["_law_numbers", "_law_gates", "_law_way"]) (C_turned_byX : Cal P w K mg base (CX1 P w) 4 "turned_by" ["numbers", "gates"] (sp_tbyX K nL nG)) (C_turnedX : Cal P w K mg base (CX1 P w) 5 "turned" ["numbers", "gate"] (sp_turnX K nL nG)) (C_movedX : Cal P w K mg base (CX1 P w) 4 "moved" ["row", "gate"] (sp_movedX nG)) : Cal P w K mg base CX0 6 "_law_seen" ["_law_numbers", "_law_gates", "_law_way"] (sp_seenX K) := by
  refine D.ok sc_law_seen (fun vs H Q E h => ?_) (fun f cdv A outer s H vs Q E hr h => ?_)
  · rcases h with ⟨a, b, g, ns, as, y, rfl, _⟩ | ⟨a, b, ns, as, gvs, m, n, rfl, _⟩ | ⟨a, b, g, ns, ys, m, rfl, _⟩ | ⟨a, b, g, ys, rfl, _⟩ <;> rfl
  refine ⟨_, (pss_cons (ps_set (i := 3) sc_law_seen.nd rfl (Or.inl rfl) pe_non)
      (pss_cons (ps_set (i := 4) sc_law_seen.nd rfl (Or.inl rfl) (pe_un un_neg pe_int))
      (pss_cons (ps_try (i := 5) rfl ⟨rfl, rfl⟩ sc_law_seen.nd rfl rfl rfl GE.m (fun pn xe E R => (pss_cons (ps_if (pt_cmpR op_eq (pv 2) pe_int (nomark _))
          (pss_one (ps_expr (pe_calX C_turned_byX hr.sub R (pa_cons (pv 0) (pa_cons (pv 1) pa_nil)))))
          pss_nil)
        (pss_cons (ps_if (pt_cmpR op_eq (pv 2) pe_int (nomark _))
          (pss_one (ps_expr (pe_calX C_turnedX hr.sub R (pa_cons (pv 0) (pa_cons (pe_ix (ix_listK K) (pv 1) pe_int (fun _ _ => rfl)) pa_nil)))))
          pss_nil)
        (pss_one (ps_if (pt_cmpR op_eq (pv 2) pe_int (nomark _))
          (pss_one (ps_expr (pe_calX C_movedX hr.sub R (pa_cons (pe_tup (pa_cons pe_int (pa_cons pe_int (pa_cons pe_int pa_nil)))) (pa_cons (pe_ix (ix_listK K) (pv 1) pe_int (fun _ _ => rfl)) pa_nil)))))
          pss_nil)))))
        (fun e => (pss_cons (ps_set (i := 6) sc_law_seen.nd rfl (Or.inl rfl) (pe_lst (pa_cons (pe_callB (call_isiK K) (by rfl) T.n_isinstance bt_isinstance (pa_cons (pv 5) (pa_cons (pe_gR G0.m) pa_nil))) (pa_cons (pe_callB (call_isiK K) (by rfl) T.n_isinstance bt_isinstance (pa_cons (pv 5) (pa_cons (pe_gR G1.m) pa_nil))) (pa_cons (pe_callB (call_isiK K) (by rfl) T.n_isinstance bt_isinstance (pa_cons (pv 5) (pa_cons (pe_gR G2.m) pa_nil))) (pa_cons (pe_callB (call_isiK K) (by rfl) T.n_isinstance bt_isinstance (pa_cons (pv 5) (pa_cons (pe_gR G3.m) pa_nil))) pa_nil))))))
        (pss_cons (ps_set (i := 6) sc_law_seen.nd rfl (Or.inl rfl) (pe_op op_cat (pv 6) (pe_lst (pa_cons (pe_callB (call_isiK K) (by rfl) T.n_isinstance bt_isinstance (pa_cons (pv 5) (pa_cons (pe_gR G4.m) pa_nil))) (pa_cons (pe_callB (call_isiK K) (by rfl) T.n_isinstance bt_isinstance (pa_cons (pv 5) (pa_cons (pe_gR G5.m) pa_nil))) (pa_cons (pe_callB (call_isiK K) (by rfl) T.n_isinstance bt_isinstance (pa_cons (pv 5) (pa_cons (pe_gR G6.m) pa_nil))) pa_nil))))))
        (pss_cons (ps_set (i := 6) sc_law_seen.nd rfl (Or.inl rfl) (pe_op op_cat (pv 6) (pe_lst (pa_cons (pe_callB (call_isiK K) (by rfl) T.n_isinstance bt_isinstance (pa_cons (pv 5) (pa_cons (pe_gR G7.m) pa_nil))) (pa_cons (pe_callB (call_isiK K) (by rfl) T.n_isinstance bt_isinstance (pa_cons (pv 5) (pa_cons (pe_gR G8.m) pa_nil))) (pa_cons (pe_callB (call_isiK K) (by rfl) T.n_isinstance bt_isinstance (pa_cons (pv 5) (pa_cons (pe_gR G9.m) pa_nil))) pa_nil))))))
        (pss_cons (ps_set (i := 3) sc_law_seen.nd rfl (Or.inl rfl) (pe_lst (pa_cons (pe_callB (call_isiK K) (by rfl) T.n_isinstance bt_isinstance (pa_cons (pv 5) (pa_cons (pe_bT T.n_ValueError bt_ValueError) pa_nil))) (pa_cons (pe_callB (call_isiK K) (by rfl) T.n_isinstance bt_isinstance (pa_cons (pv 5) (pa_cons (pe_gR GG.m) pa_nil))) (pa_cons (pe_callB (call_isiK K) (by rfl) T.n_isinstance bt_isinstance (pa_cons (pv 5) (pa_cons (pe_gR GL.m) pa_nil))) (pa_cons (pe_callB (call_anyH K e) (by rfl) T.n_any bt_any (pa_cons (pv 6) pa_nil)) pa_nil))))))
        (pss_one (ps_if (pt_val (pe_callB (call_isiK K) (by rfl) T.n_isinstance bt_isinstance (pa_cons (pv 5) (pa_cons (pe_gR GG.m) pa_nil))))
          (pss_one (ps_set (i := 4) sc_law_seen.nd rfl (Or.inl rfl) (pe_xfld (pv 5))))
          pss_nil))))))))
      (pss_one (ps_ret (pe_tup (pa_cons (pv 3) (pa_cons (pv 4) pa_nil)))))))), ?_⟩
  refine ⟨_, rfl, ?_⟩
  rcases h with ⟨a, b, g, ns, as, y, rfl, hy, hS, hb, hB, k⟩ | ⟨a, b, ns, as, gvs, m, n, rfl, hS, hl, m1, m6, h0, hB, hT, ha, hF, k⟩ | ⟨a, b, g, ns, ys, m, rfl, hS, hl, m1, m6, h0, hB, eg, hok, hyl, hbad, k⟩ | ⟨a, b, g, ys, rfl, hB, eg, hok, hyl, hbad, k⟩
  · rcases hy with rfl | rfl
    · refine ⟨_, rfl, rfl, _, rfl, iteT ?_⟩
      refine ⟨_, rfl, _, rfl, .inl ⟨a, ns, _, rfl, hS, hb, fun H1 s1 => ⟨exm_of cb GE.cl eL, fun e ne => ?_⟩⟩⟩
      have s2 := Same.new (o := excO e (.ref nL) none) ne
      have ee : upd H1 e (excO e (.ref nL) none) e = some (excO e (.ref nL) none) := upd_same
      have t2 := s1.trans s2
      generalize upd H1 e (excO e (.ref nL) none) = H2 at s2 ee t2 ⊢
      have ty : ∀ {H'}, Same H2 H' → TyX K H' (.ref e) (.ref nL) := fun s' => .exc (s' _ _ ee) OL.c
      refine ⟨_, rfl, _, _, _, _, _, rfl, rfl, ty (.refl _), kit_of OL.self G0.cl OL.o0, _, rfl, _, _, _, _, _, rfl, rfl, ty (.refl _), kit_of OL.self G1.cl OL.o1, _, rfl, _, _, _, _, _, rfl, rfl, ty (.refl _), kit_of OL.self G2.cl OL.o2, _, rfl, _, _, _, _, _, rfl, rfl, ty (.refl _), kit_of OL.self G3.cl OL.o3, line6 (by show 4 ≤ 1000; decide), fun u1 n1 => ?_⟩
      dsimp only [gName]
      generalize hG : upd H2 u1 _ = H3
      have e1 : H3 u1 = some (.lst [V.bl false, V.bl false, V.bl false, V.bl false]) := by rw [← hG]; exact upd_same
      have s3 : Same H2 H3 := hG ▸ Same.new n1
      clear hG
      refine ⟨_, rfl, _, rfl, _, _, _, _, _, rfl, rfl, ty s3, kit_of OL.self G4.cl OL.o4, _, rfl, _, _, _, _, _, rfl, rfl, ty s3, kit_of OL.self G5.cl OL.o5, _, rfl, _, _, _, _, _, rfl, rfl, ty s3, kit_of OL.self G6.cl OL.o6, line6 (by show 3 ≤ 1000; decide), fun v1 m1 => ?_⟩
      refine ⟨u1, v1, _, _, rfl, rfl, Same.new m1 _ _ e1, upd_same, line6 (by show 4 + 3 ≤ 1000; decide), fun u2 n2 => ?_⟩
      dsimp only [gName]
      generalize hG : upd (upd H3 v1 _) u2 _ = H4
      have e2 : H4 u2 = some (.lst ([V.bl false, V.bl false, V.bl false, V.bl false] ++ [V.bl false, V.bl false, V.bl false])) := by rw [← hG]; exact upd_same
      have s4 : Same H2 H4 := hG ▸ (s3.trans (Same.new m1)).trans (Same.new n2)
      clear hG
      refine ⟨_, rfl, _, rfl, _, _, _, _, _, rfl, rfl, ty s4, kit_of OL.self G7.cl OL.o7, _, rfl, _, _, _, _, _, rfl, rfl, ty s4, kit_of OL.self G8.cl OL.o8, _, rfl, _, _, _, _, _, rfl, rfl, ty s4, kit_of OL.self G9.cl OL.o9, line6 (by show 3 ≤ 1000; decide), fun v2 m2 => ?_⟩
      refine ⟨u2, v2, _, _, rfl, rfl, Same.new m2 _ _ e2, upd_same, line6 (by show 7 + 3 ≤ 1000; decide), fun u3 n3 => ?_⟩
      dsimp only [gName]
      generalize hG : upd (upd H4 v2 _) u3 _ = H5
      have e3 : H5 u3 = some (.lst (([V.bl false, V.bl false, V.bl false, V.bl false] ++ [V.bl false, V.bl false, V.bl false]) ++ [V.bl false, V.bl false, V.bl false])) := by rw [← hG]; exact upd_same
      have s5 : Same H2 H5 := hG ▸ (s4.trans (Same.new m2)).trans (Same.new n3)
      clear hG
      have t5 := t2.trans s5
      have ee5 := s5 _ _ ee
      refine ⟨_, rfl, _, _, _, _, _, rfl, rfl, ty s5, kit_ty rfl vL, _, rfl, _, _, _, _, _, rfl, rfl, ty s5, kit_of OL.self GG.cl lg, _, rfl, _, _, _, _, _, rfl, rfl, ty s5, kit_of OL.self GL.cl OL.self, _, rfl, u3, _, _, _, rfl, ee5, .of e3, rfl, line6 (by show 4 ≤ 1000; decide), fun q nq => ?_⟩
      dsimp only [gName]
      generalize hG : upd H5 q _ = H6
      have eq : H6 q = some (.lst [V.bl true, .bl false, .bl true, .bl false]) := by rw [← hG]; exact upd_same
      have s6 : Same H5 H6 := hG ▸ Same.new nq
      clear hG
      have t6 := t5.trans s6
      refine ⟨_, rfl, _, _, _, _, _, rfl, rfl, ty (s5.trans s6), kit_of OL.self GG.cl lg, _, rfl, iteF ?_⟩
      refine ⟨_, rfl, _, rfl, line6 (by show 2 ≤ 1000; decide), fun p np => ?_⟩
      exact k p q _ (t6.trans (Same.new np)) (t6.free np) (t5.free nq) upd_same (Same.new np _ _ eq)
    · refine ⟨_, rfl, rfl, _, rfl, iteF ?_⟩
      refine ⟨_, rfl, rfl, _, rfl, iteT ?_⟩
      refine ⟨_, rfl, _, rfl, b, _, _, _, rfl, rfl, hB, atI_nat (j := 0) rfl, .inl ⟨a, ns, _, rfl, hS, hb, fun H1 s1 => ⟨exm_of cb GE.cl eL, fun e ne => ?_⟩⟩⟩
      have s2 := Same.new (o := excO e (.ref nL) none) ne
      have ee : upd H1 e (excO e (.ref nL) none) e = some (excO e (.ref nL) none) := upd_same
      have t2 := s1.trans s2
      generalize upd H1 e (excO e (.ref nL) none) = H2 at s2 ee t2 ⊢
      have ty : ∀ {H'}, Same H2 H' → TyX K H' (.ref e) (.ref nL) := fun s' => .exc (s' _ _ ee) OL.c
      refine ⟨_, rfl, _, _, _, _, _, rfl, rfl, ty (.refl _), kit_of OL.self G0.cl OL.o0, _, rfl, _, _, _, _, _, rfl, rfl, ty (.refl _), kit_of OL.self G1.cl OL.o1, _, rfl, _, _, _, _, _, rfl, rfl, ty (.refl _), kit_of OL.self G2.cl OL.o2, _, rfl, _, _, _, _, _, rfl, rfl, ty (.refl _), kit_of OL.self G3.cl OL.o3, line6 (by show 4 ≤ 1000; decide), fun u1 n1 => ?_⟩
      dsimp only [gName]
      generalize hG : upd H2 u1 _ = H3
      have e1 : H3 u1 = some (.lst [V.bl false, V.bl false, V.bl false, V.bl false]) := by rw [← hG]; exact upd_same
      have s3 : Same H2 H3 := hG ▸ Same.new n1
      clear hG
      refine ⟨_, rfl, _, rfl, _, _, _, _, _, rfl, rfl, ty s3, kit_of OL.self G4.cl OL.o4, _, rfl, _, _, _, _, _, rfl, rfl, ty s3, kit_of OL.self G5.cl OL.o5, _, rfl, _, _, _, _, _, rfl, rfl, ty s3, kit_of OL.self G6.cl OL.o6, line6 (by show 3 ≤ 1000; decide), fun v1 m1 => ?_⟩
      refine ⟨u1, v1, _, _, rfl, rfl, Same.new m1 _ _ e1, upd_same, line6 (by show 4 + 3 ≤ 1000; decide), fun u2 n2 => ?_⟩
      dsimp only [gName]
      generalize hG : upd (upd H3 v1 _) u2 _ = H4
      have e2 : H4 u2 = some (.lst ([V.bl false, V.bl false, V.bl false, V.bl false] ++ [V.bl false, V.bl false, V.bl false])) := by rw [← hG]; exact upd_same
      have s4 : Same H2 H4 := hG ▸ (s3.trans (Same.new m1)).trans (Same.new n2)
      clear hG
      refine ⟨_, rfl, _, rfl, _, _, _, _, _, rfl, rfl, ty s4, kit_of OL.self G7.cl OL.o7, _, rfl, _, _, _, _, _, rfl, rfl, ty s4, kit_of OL.self G8.cl OL.o8, _, rfl, _, _, _, _, _, rfl, rfl, ty s4, kit_of OL.self G9.cl OL.o9, line6 (by show 3 ≤ 1000; decide), fun v2 m2 => ?_⟩
      refine ⟨u2, v2, _, _, rfl, rfl, Same.new m2 _ _ e2, upd_same, line6 (by show 7 + 3 ≤ 1000; decide), fun u3 n3 => ?_⟩
      dsimp only [gName]
      generalize hG : upd (upd H4 v2 _) u3 _ = H5
      have e3 : H5 u3 = some (.lst (([V.bl false, V.bl false, V.bl false, V.bl false] ++ [V.bl false, V.bl false, V.bl false]) ++ [V.bl false, V.bl false, V.bl false])) := by rw [← hG]; exact upd_same
      have s5 : Same H2 H5 := hG ▸ (s4.trans (Same.new m2)).trans (Same.new n3)
      clear hG
      have t5 := t2.trans s5
      have ee5 := s5 _ _ ee
      refine ⟨_, rfl, _, _, _, _, _, rfl, rfl, ty s5, kit_ty rfl vL, _, rfl, _, _, _, _, _, rfl, rfl, ty s5, kit_of OL.self GG.cl lg, _, rfl, _, _, _, _, _, rfl, rfl, ty s5, kit_of OL.self GL.cl OL.self, _, rfl, u3, _, _, _, rfl, ee5, .of e3, rfl, line6 (by show 4 ≤ 1000; decide), fun q nq => ?_⟩
      dsimp only [gName]
      generalize hG : upd H5 q _ = H6
      have eq : H6 q = some (.lst [V.bl true, .bl false, .bl true, .bl false]) := by rw [← hG]; exact upd_same
      have s6 : Same H5 H6 := hG ▸ Same.new nq
      clear hG
      have t6 := t5.trans s6
      refine ⟨_, rfl, _, _, _, _, _, rfl, rfl, ty (s5.trans s6), kit_of OL.self GG.cl lg, _, rfl, iteF ?_⟩
      refine ⟨_, rfl, _, rfl, line6 (by show 2 ≤ 1000; decide), fun p np => ?_⟩
      exact k p q _ (t6.trans (Same.new np)) (t6.free np) (t5.free nq) upd_same (Same.new np _ _ eq)
  · refine ⟨_, rfl, rfl, _, rfl, iteT ?_⟩
    refine ⟨_, rfl, _, rfl, .inr ⟨a, b, ns, as, gvs, m, n, rfl, hS, hl, m1, m6, h0, hB, hT, ha, hF, fun d H1 s1 nd ed => ⟨exm_of cb GE.cl eG, fun e ne => ?_⟩⟩⟩
    have s2 := Same.new (o := excO e (.ref nG) (some d)) ne
    have ee : upd H1 e (excO e (.ref nG) (some d)) e = some (excO e (.ref nG) (some d)) := upd_same
    have ed := s2 _ _ ed
    have t2 := s1.trans s2
    generalize upd H1 e (excO e (.ref nG) (some d)) = H2 at s2 ee ed t2 ⊢
    have ty : ∀ {H'}, Same H2 H' → TyX K H' (.ref e) (.ref nG) := fun s' => .exc (s' _ _ ee) OG.c
    refine ⟨_, rfl, _, _, _, _, _, rfl, rfl, ty (.refl _), kit_of OG.self G0.cl OG.o0, _, rfl, _, _, _, _, _, rfl, rfl, ty (.refl _), kit_of OG.self G1.cl OG.o1, _, rfl, _, _, _, _, _, rfl, rfl, ty (.refl _), kit_of OG.self G2.cl OG.o2, _, rfl, _, _, _, _, _, rfl, rfl, ty (.refl _), kit_of OG.self G3.cl OG.o3, line6 (by show 4 ≤ 1000; decide), fun u1 n1 => ?_⟩
    dsimp only [gName]
    generalize hG : upd H2 u1 _ = H3
    have e1 : H3 u1 = some (.lst [V.bl false, V.bl false, V.bl false, V.bl false]) := by rw [← hG]; exact upd_same
    have s3 : Same H2 H3 := hG ▸ Same.new n1
    clear hG
    refine ⟨_, rfl, _, rfl, _, _, _, _, _, rfl, rfl, ty s3, kit_of OG.self G4.cl OG.o4, _, rfl, _, _, _, _, _, rfl, rfl, ty s3, kit_of OG.self G5.cl OG.o5, _, rfl, _, _, _, _, _, rfl, rfl, ty s3, kit_of OG.self G6.cl OG.o6, line6 (by show 3 ≤ 1000; decide), fun v1 m1 => ?_⟩
    refine ⟨u1, v1, _, _, rfl, rfl, Same.new m1 _ _ e1, upd_same, line6 (by show 4 + 3 ≤ 1000; decide), fun u2 n2 => ?_⟩
    dsimp only [gName]
    generalize hG : upd (upd H3 v1 _) u2 _ = H4
    have e2 : H4 u2 = some (.lst ([V.bl false, V.bl false, V.bl false, V.bl false] ++ [V.bl false, V.bl false, V.bl false])) := by rw [← hG]; exact upd_same
    have s4 : Same H2 H4 := hG ▸ (s3.trans (Same.new m1)).trans (Same.new n2)
    clear hG
    refine ⟨_, rfl, _, rfl, _, _, _, _, _, rfl, rfl, ty s4, kit_of OG.self G7.cl OG.o7, _, rfl, _, _, _, _, _, rfl, rfl, ty s4, kit_of OG.self G8.cl OG.o8, _, rfl, _, _, _, _, _, rfl, rfl, ty s4, kit_of OG.self G9.cl OG.o9, line6 (by show 3 ≤ 1000; decide), fun v2 m2 => ?_⟩
    refine ⟨u2, v2, _, _, rfl, rfl, Same.new m2 _ _ e2, upd_same, line6 (by show 7 + 3 ≤ 1000; decide), fun u3 n3 => ?_⟩
    dsimp only [gName]
    generalize hG : upd (upd H4 v2 _) u3 _ = H5
    have e3 : H5 u3 = some (.lst (([V.bl false, V.bl false, V.bl false, V.bl false] ++ [V.bl false, V.bl false, V.bl false]) ++ [V.bl false, V.bl false, V.bl false])) := by rw [← hG]; exact upd_same
    have s5 : Same H2 H5 := hG ▸ (s4.trans (Same.new m2)).trans (Same.new n3)
    clear hG
    have t5 := t2.trans s5
    have ee5 := s5 _ _ ee
    refine ⟨_, rfl, _, _, _, _, _, rfl, rfl, ty s5, kit_ty rfl vG, _, rfl, _, _, _, _, _, rfl, rfl, ty s5, kit_of OG.self GG.cl OG.self, _, rfl, _, _, _, _, _, rfl, rfl, ty s5, kit_of OG.self GL.cl gl, _, rfl, u3, _, _, _, rfl, ee5, .of e3, rfl, line6 (by show 4 ≤ 1000; decide), fun q nq => ?_⟩
    dsimp only [gName]
    generalize hG : upd H5 q _ = H6
    have eq : H6 q = some (.lst [V.bl true, .bl true, .bl false, .bl false]) := by rw [← hG]; exact upd_same
    have s6 : Same H5 H6 := hG ▸ Same.new nq
    clear hG
    have t6 := t5.trans s6
    refine ⟨_, rfl, _, _, _, _, _, rfl, rfl, ty (s5.trans s6), kit_of OG.self GG.cl OG.self, _, rfl, iteT ?_⟩
    refine ⟨_, rfl, e, nG, d, _, _, rfl, s6 _ _ ee5, s6 _ _ (s5 _ _ ed), OG.c, hd, NA, rfl, ?_⟩
    refine ⟨_, rfl, _, rfl, line6 (by show 2 ≤ 1000; decide), fun p np => ?_⟩
    exact k p q _ (t6.trans (Same.new np)) (t6.free np) (t5.free nq) upd_same (Same.new np _ _ eq)
  · refine ⟨_, rfl, rfl, _, rfl, iteF ?_⟩
    refine ⟨_, rfl, rfl, _, rfl, iteT ?_⟩
    refine ⟨_, rfl, _, rfl, b, _, _, _, rfl, rfl, hB, atI_nat (j := 0) rfl, .inr ⟨a, g, ns, ys, m, rfl, hS, hl, m1, m6, h0, eg, hok, hyl, hbad, fun d H1 s1 nd ed => ⟨exm_of cb GE.cl eG, fun e ne => ?_⟩⟩⟩
    have s2 := Same.new (o := excO e (.ref nG) (some d)) ne
    have ee : upd H1 e (excO e (.ref nG) (some d)) e = some (excO e (.ref nG) (some d)) := upd_same
    have ed := s2 _ _ ed
    have t2 := s1.trans s2
    generalize upd H1 e (excO e (.ref nG) (some d)) = H2 at s2 ee ed t2 ⊢
    have ty : ∀ {H'}, Same H2 H' → TyX K H' (.ref e) (.ref nG) := fun s' => .exc (s' _ _ ee) OG.c
    refine ⟨_, rfl, _, _, _, _, _, rfl, rfl, ty (.refl _), kit_of OG.self G0.cl OG.o0, _, rfl, _, _, _, _, _, rfl, rfl, ty (.refl _), kit_of OG.self G1.cl OG.o1, _, rfl, _, _, _, _, _, rfl, rfl, ty (.refl _), kit_of OG.self G2.cl OG.o2, _, rfl, _, _, _, _, _, rfl, rfl, ty (.refl _), kit_of OG.self G3.cl OG.o3, line6 (by show 4 ≤ 1000; decide), fun u1 n1 => ?_⟩
    dsimp only [gName]
    generalize hG : upd H2 u1 _ = H3
    have e1 : H3 u1 = some (.lst [V.bl false, V.bl false, V.bl false, V.bl false]) := by rw [← hG]; exact upd_same
    have s3 : Same H2 H3 := hG ▸ Same.new n1
    clear hG
    refine ⟨_, rfl, _, rfl, _, _, _, _, _, rfl, rfl, ty s3, kit_of OG.self G4.cl OG.o4, _, rfl, _, _, _, _, _, rfl, rfl, ty s3, kit_of OG.self G5.cl OG.o5, _, rfl, _, _, _, _, _, rfl, rfl, ty s3, kit_of OG.self G6.cl OG.o6, line6 (by show 3 ≤ 1000; decide), fun v1 m1 => ?_⟩
    refine ⟨u1, v1, _, _, rfl, rfl, Same.new m1 _ _ e1, upd_same, line6 (by show 4 + 3 ≤ 1000; decide), fun u2 n2 => ?_⟩
    dsimp only [gName]
    generalize hG : upd (upd H3 v1 _) u2 _ = H4
    have e2 : H4 u2 = some (.lst ([V.bl false, V.bl false, V.bl false, V.bl false] ++ [V.bl false, V.bl false, V.bl false])) := by rw [← hG]; exact upd_same
    have s4 : Same H2 H4 := hG ▸ (s3.trans (Same.new m1)).trans (Same.new n2)
    clear hG
    refine ⟨_, rfl, _, rfl, _, _, _, _, _, rfl, rfl, ty s4, kit_of OG.self G7.cl OG.o7, _, rfl, _, _, _, _, _, rfl, rfl, ty s4, kit_of OG.self G8.cl OG.o8, _, rfl, _, _, _, _, _, rfl, rfl, ty s4, kit_of OG.self G9.cl OG.o9, line6 (by show 3 ≤ 1000; decide), fun v2 m2 => ?_⟩
    refine ⟨u2, v2, _, _, rfl, rfl, Same.new m2 _ _ e2, upd_same, line6 (by show 7 + 3 ≤ 1000; decide), fun u3 n3 => ?_⟩
    dsimp only [gName]
    generalize hG : upd (upd H4 v2 _) u3 _ = H5
    have e3 : H5 u3 = some (.lst (([V.bl false, V.bl false, V.bl false, V.bl false] ++ [V.bl false, V.bl false, V.bl false]) ++ [V.bl false, V.bl false, V.bl false])) := by rw [← hG]; exact upd_same
    have s5 : Same H2 H5 := hG ▸ (s4.trans (Same.new m2)).trans (Same.new n3)
    clear hG
    have t5 := t2.trans s5
    have ee5 := s5 _ _ ee
    refine ⟨_, rfl, _, _, _, _, _, rfl, rfl, ty s5, kit_ty rfl vG, _, rfl, _, _, _, _, _, rfl, rfl, ty s5, kit_of OG.self GG.cl OG.self, _, rfl, _, _, _, _, _, rfl, rfl, ty s5, kit_of OG.self GL.cl gl, _, rfl, u3, _, _, _, rfl, ee5, .of e3, rfl, line6 (by show 4 ≤ 1000; decide), fun q nq => ?_⟩
    dsimp only [gName]
    generalize hG : upd H5 q _ = H6
    have eq : H6 q = some (.lst [V.bl true, .bl true, .bl false, .bl false]) := by rw [← hG]; exact upd_same
    have s6 : Same H5 H6 := hG ▸ Same.new nq
    clear hG
    have t6 := t5.trans s6
    refine ⟨_, rfl, _, _, _, _, _, rfl, rfl, ty (s5.trans s6), kit_of OG.self GG.cl OG.self, _, rfl, iteT ?_⟩
    refine ⟨_, rfl, e, nG, d, _, _, rfl, s6 _ _ ee5, s6 _ _ (s5 _ _ ed), OG.c, hd, NA, rfl, ?_⟩
    refine ⟨_, rfl, _, rfl, line6 (by show 2 ≤ 1000; decide), fun p np => ?_⟩
    exact k p q _ (t6.trans (Same.new np)) (t6.free np) (t5.free nq) upd_same (Same.new np _ _ eq)
  · refine ⟨_, rfl, rfl, _, rfl, iteF ?_⟩
    refine ⟨_, rfl, rfl, _, rfl, iteF ?_⟩
    refine ⟨_, rfl, rfl, _, rfl, iteT ?_⟩
    refine ⟨line6 (by show 3 ≤ 1000; decide), fun r0 nr => ?_⟩
    refine ⟨_, rfl, b, _, _, _, rfl, rfl, (Same.new nr).seq hB, atI_nat (j := 0) rfl, r0, g, ys, rfl, Same.new nr _ _ eg, fun x hx => (hok x hx).same (Same.new nr), hyl, hbad, fun d H1 s0 nd ed => ⟨exm_of cb GE.cl eG, fun e ne => ?_⟩⟩
    have s1 := (Same.new nr).trans s0
    have s2 := Same.new (o := excO e (.ref nG) (some d)) ne
    have ee : upd H1 e (excO e (.ref nG) (some d)) e = some (excO e (.ref nG) (some d)) := upd_same
    have ed := s2 _ _ ed
    have t2 := s1.trans s2
    generalize upd H1 e (excO e (.ref nG) (some d)) = H2 at s2 ee ed t2 ⊢
    have ty : ∀ {H'}, Same H2 H' → TyX K H' (.ref e) (.ref nG) := fun s' => .exc (s' _ _ ee) OG.c
    refine ⟨_, rfl, _, _, _, _, _, rfl, rfl, ty (.refl _), kit_of OG.self G0.cl OG.o0, _, rfl, _, _, _, _, _, rfl, rfl, ty (.refl _), kit_of OG.self G1.cl OG.o1, _, rfl, _, _, _, _, _, rfl, rfl, ty (.refl _), kit_of OG.self G2.cl OG.o2, _, rfl, _, _, _, _, _, rfl, rfl, ty (.refl _), kit_of OG.self G3.cl OG.o3, line6 (by show 4 ≤ 1000; decide), fun u1 n1 => ?_⟩
    dsimp only [gName]
    generalize hG : upd H2 u1 _ = H3
    have e1 : H3 u1 = some (.lst [V.bl false, V.bl false, V.bl false, V.bl false]) := by rw [← hG]; exact upd_same
    have s3 : Same H2 H3 := hG ▸ Same.new n1
    clear hG
    refine ⟨_, rfl, _, rfl, _, _, _, _, _, rfl, rfl, ty s3, kit_of OG.self G4.cl OG.o4, _, rfl, _, _, _, _, _, rfl, rfl, ty s3, kit_of OG.self G5.cl OG.o5, _, rfl, _, _, _, _, _, rfl, rfl, ty s3, kit_of OG.self G6.cl OG.o6, line6 (by show 3 ≤ 1000; decide), fun v1 m1 => ?_⟩
    refine ⟨u1, v1, _, _, rfl, rfl, Same.new m1 _ _ e1, upd_same, line6 (by show 4 + 3 ≤ 1000; decide), fun u2 n2 => ?_⟩
    dsimp only [gName]
    generalize hG : upd (upd H3 v1 _) u2 _ = H4
    have e2 : H4 u2 = some (.lst ([V.bl false, V.bl false, V.bl false, V.bl false] ++ [V.bl false, V.bl false, V.bl false])) := by rw [← hG]; exact upd_same
    have s4 : Same H2 H4 := hG ▸ (s3.trans (Same.new m1)).trans (Same.new n2)
    clear hG
    refine ⟨_, rfl, _, rfl, _, _, _, _, _, rfl, rfl, ty s4, kit_of OG.self G7.cl OG.o7, _, rfl, _, _, _, _, _, rfl, rfl, ty s4, kit_of OG.self G8.cl OG.o8, _, rfl, _, _, _, _, _, rfl, rfl, ty s4, kit_of OG.self G9.cl OG.o9, line6 (by show 3 ≤ 1000; decide), fun v2 m2 => ?_⟩
    refine ⟨u2, v2, _, _, rfl, rfl, Same.new m2 _ _ e2, upd_same, line6 (by show 7 + 3 ≤ 1000; decide), fun u3 n3 => ?_⟩
    dsimp only [gName]
    generalize hG : upd (upd H4 v2 _) u3 _ = H5
    have e3 : H5 u3 = some (.lst (([V.bl false, V.bl false, V.bl false, V.bl false] ++ [V.bl false, V.bl false, V.bl false]) ++ [V.bl false, V.bl false, V.bl false])) := by rw [← hG]; exact upd_same
    have s5 : Same H2 H5 := hG ▸ (s4.trans (Same.new m2)).trans (Same.new n3)
    clear hG
    have t5 := t2.trans s5
    have ee5 := s5 _ _ ee
    refine ⟨_, rfl, _, _, _, _, _, rfl, rfl, ty s5, kit_ty rfl vG, _, rfl, _, _, _, _, _, rfl, rfl, ty s5, kit_of OG.self GG.cl OG.self, _, rfl, _, _, _, _, _, rfl, rfl, ty s5, kit_of OG.self GL.cl gl, _, rfl, u3, _, _, _, rfl, ee5, .of e3, rfl, line6 (by show 4 ≤ 1000; decide), fun q nq => ?_⟩
    dsimp only [gName]
    generalize hG : upd H5 q _ = H6
    have eq : H6 q = some (.lst [V.bl true, .bl true, .bl false, .bl false]) := by rw [← hG]; exact upd_same
    have s6 : Same H5 H6 := hG ▸ Same.new nq
    clear hG
    have t6 := t5.trans s6
    refine ⟨_, rfl, _, _, _, _, _, rfl, rfl, ty (s5.trans s6), kit_of OG.self GG.cl OG.self, _, rfl, iteT ?_⟩
    refine ⟨_, rfl, e, nG, d, _, _, rfl, s6 _ _ ee5, s6 _ _ (s5 _ _ ed), OG.c, hd, NA, rfl, ?_⟩
    refine ⟨_, rfl, _, rfl, line6 (by show 2 ≤ 1000; decide), fun p np => ?_⟩
    exact k p q _ (t6.trans (Same.new np)) (t6.free np) (t5.free nq) upd_same (Same.new np _ _ eq)
end

end K05

set_option maxHeartbeats 4000000
namespace K05
open PySem L2 TC
noncomputable def sp_lgate : Sp := fun vs H Q _ => ∃ c m : Int, vs = [.int c, .int m] ∧ 1 ≤ m ∧ m ≤ 6 ∧ ∀ (g : Addr) (H' : Hp) (gt : Gt), Same H H' → H g = none → H' g = some (.tup gt.vals) → gt.ok m.toNat → Q (.ref g) H'
section
variable {P : Program} {w : World} {K : PySem.W.Frag} {mg : Str → Option Value} {base : Heap}
noncomputable abbrev Wd : List V := [.str "mix", .str "flip", .str "sign", .str "follow", .str "meet", .str "swap"]
theorem pick3 (c : Int) : ∃ x : Str, atI Wd (c % 3) = some (.str x) ∧ ∀ n : Nat, ∃ gt : Gt, gt.vals = [.str x, .int n] ∧ ∀ m, n < m → gt.ok m := by
  have a := em_nn c (m := 3) (by decide)
  have b := em_lt c (m := 3) (by decide)
  have : c % 3 = 0 ∨ c % 3 = 1 ∨ c % 3 = 2 := by omega
  rcases this with e | e | e <;> rw [e]
  · exact ⟨"mix", rfl, fun n => ⟨.mix n, rfl, fun m h => h⟩⟩
  · exact ⟨"flip", rfl, fun n => ⟨.flip n, rfl, fun m h => h⟩⟩
  · exact ⟨"sign", rfl, fun n => ⟨.sign n, rfl, fun m h => h⟩⟩
theorem pick6 (c : Int) : (c % 6 < 3 ∧ ∃ x : Str, atI Wd (c % 6) = some (.str x) ∧ ∀ n : Nat, ∃ gt : Gt, gt.vals = [.str x, .int n] ∧ ∀ m, n < m → gt.ok m) ∨
    (¬ c % 6 < 3 ∧ ∃ x : Str, atI Wd (c % 6) = some (.str x) ∧ ∀ a b : Nat, ∃ gt : Gt, gt.vals = [.str x, .int a, .int b] ∧ ∀ m, a < m → b < m → a ≠ b → gt.ok m) := by
  have a := em_nn c (m := 6) (by decide)
  have b := em_lt c (m := 6) (by decide)
  have : c % 6 = 0 ∨ c % 6 = 1 ∨ c % 6 = 2 ∨ c % 6 = 3 ∨ c % 6 = 4 ∨ c % 6 = 5 := by omega
  rcases this with e | e | e | e | e | e <;> rw [e]
  · exact .inl ⟨by decide, "mix", rfl, fun n => ⟨.mix n, rfl, fun m h => h⟩⟩
  · exact .inl ⟨by decide, "flip", rfl, fun n => ⟨.flip n, rfl, fun m h => h⟩⟩
  · exact .inl ⟨by decide, "sign", rfl, fun n => ⟨.sign n, rfl, fun m h => h⟩⟩
  · exact .inr ⟨by decide, "follow", rfl, fun n k => ⟨.follow n k, rfl, fun m h h' h'' => ⟨h, h', h''⟩⟩⟩
  · exact .inr ⟨by decide, "meet", rfl, fun n k => ⟨.meet n k, rfl, fun m h h' h'' => ⟨h, h', h''⟩⟩⟩
  · exact .inr ⟨by decide, "swap", rfl, fun n k => ⟨.swap n k, rfl, fun m h h' h'' => ⟨h, h', h''⟩⟩⟩
theorem third {n r m : Int} (h1 : 2 ≤ m) (h2 : m ≤ 6) (n0 : 0 ≤ n) (n1 : n < m) (r0 : 0 ≤ r) (r1 : r < m - 1) : ∃ k : Nat, (n + 1 + r) % m = k ∧ (k : Int) < m ∧ (k : Int) ≠ n := by
  have : m = 2 ∨ m = 3 ∨ m = 4 ∨ m = 5 ∨ m = 6 := by omega
  rcases this with rfl | rfl | rfl | rfl | rfl <;> exact ⟨_, (Int.toNat_of_nonneg (by omega)).symm, by omega, by omega⟩
/- _law_gate: 0:_law_cell_here 1:_law_coins 2:_law_words 3:_law_word 4:_law_first -/
noncomputable abbrev s_law_gate : Stmt := top 53
theorem sc_law_gate : FnScope ["_law_cell_here", "_law_coins", "_law_words", "_law_word", "_law_first"] ["_law_cell_here", "_law_coins"] (defScope s_law_gate) := ⟨rfl, rfl, rfl, by decide +kernel, rfl, by decide +kernel, by decide +kernel⟩
theorem ok_lgate (T : Blt mg) (D : Def K mg "_law_gate" s_law_gate ["_law_cell_here", "_law_coins"]) : Cal P w K mg base CX0 1 "_law_gate" ["_law_cell_here", "_law_coins"] sp_lgate := by
  refine D.ok sc_law_gate (fun vs H Q E h => ?_) (fun f cdv A outer s H vs Q E hr h => ?_)
  · obtain ⟨c, m, rfl, _⟩ := h; rfl
  obtain ⟨c, m, rfl, m1, m6, k⟩ := h
  refine ⟨_, (pss_cons (ps_set (i := 2) sc_law_gate.nd rfl (Or.inl rfl) (pe_lst (pa_cons pe_str (pa_cons pe_str (pa_cons pe_str (pa_cons pe_str (pa_cons pe_str (pa_cons pe_str pa_nil))))))))
      (pss_cons (ps_if (pt_cmpR op_eq (pv 1) pe_int (nomark _))
        (pss_one (ps_ret (pe_tup (pa_cons (pe_ix (ix_listK K) (pv 2) (pe_op op_mod (pv 0) pe_int) (fun _ _ => rfl)) (pa_cons pe_int pa_nil)))))
        pss_nil)
      (pss_cons (ps_set (i := 3) sc_law_gate.nd rfl (Or.inl rfl) (pe_ix (ix_listK K) (pv 2) (pe_op op_mod (pv 0) pe_int) (fun _ _ => rfl)))
      (pss_cons (ps_set (i := 4) sc_law_gate.nd rfl (Or.inl rfl) (pe_op op_mod (pe_op op_fdivB (pv 0) pe_int) (pv 1)))
      (pss_cons (ps_if (pt_cmpR op_lt (pe_op op_mod (pv 0) pe_int) pe_int (nomark _))
        (pss_one (ps_ret (pe_tup (pa_cons (pv 3) (pa_cons (pv 4) pa_nil)))))
        pss_nil)
      (pss_one (ps_ret (pe_tup (pa_cons (pv 3) (pa_cons (pv 4) (pa_cons (pe_op op_mod (pe_op op_add (pe_op op_add (pv 4) pe_int) (pe_op op_mod (pe_op op_fdivB (pv 0) pe_int) (pe_op op_sub (pv 1) pe_int))) (pv 1)) pa_nil))))))))))), ?_⟩
  refine ⟨line6 (by show 6 ≤ 1000; decide), fun u hu => ?_⟩
  have eu : upd H u (.lst Wd) u = some (.lst Wd) := upd_same
  have s1 : Same H (upd H u (.lst Wd)) := Same.new hu
  refine ⟨_, rfl, rfl, _, rfl, ?_⟩
  refine ite2 (fun hc => ?_) (fun hc => ?_)
  · have e1 : m = 1 := by have := of_decide_eq_true hc; injection this
    subst e1
    obtain ⟨x, hx, hg⟩ := pick3 c
    obtain ⟨gt, hv, hok⟩ := hg 0
    refine ⟨_, rfl, _, rfl, _, _, rfl, rfl, (by show (0 : Int) < _; decide), u, _, _, _, rfl, rfl, .of eu, hx, line6 (by show 2 ≤ 1000; decide), fun g hg => ?_⟩
    exact k g _ gt (s1.trans (Same.new hg)) (s1.free hg) (by rw [upd_same, hv]; rfl) (hok _ (by decide))
  have hm2 : 2 ≤ m := by
    have : m ≠ 1 := fun z => hc (decide_eq_true (by rw [z]))
    omega
  have f0 := em_nn (c.fdiv 6) (m := m) (by omega)
  have f1 := em_lt (c.fdiv 6) (m := m) (by omega)
  obtain ⟨n, hn⟩ : ∃ n : Nat, c.fdiv 6 % m = n := ⟨_, (Int.toNat_of_nonneg f0).symm⟩
  have r0 := em_nn (c.fdiv 36) (m := m - 1) (by omega)
  have r1 := em_lt (c.fdiv 36) (m := m - 1) (by omega)
  obtain ⟨j, hj, hj1, hj2⟩ := third hm2 m6 f0 f1 r0 r1
  rcases pick6 c with ⟨hlt, x, hx, hg⟩ | ⟨hlt, x, hx, hg⟩
  · obtain ⟨gt, hv, hok⟩ := hg n
    refine ⟨_, rfl, _, rfl, _, _, rfl, rfl, (by show (0 : Int) < _; decide), u, _, _, _, rfl, rfl, .of eu, hx, ?_⟩
    refine ⟨_, rfl, _, _, rfl, rfl, cdB (by decide) (by decide), _, rfl, _, _, rfl, rfl, (by show (0 : Int) < m; omega), ?_⟩
    refine ⟨_, rfl, _, _, rfl, rfl, (by show (0 : Int) < _; decide), _, _, rfl, rfl, _, rfl, iteD hlt ?_⟩
    refine ⟨_, rfl, _, rfl, line6 (by show 2 ≤ 1000; decide), fun g hg => ?_⟩
    exact k g _ gt (s1.trans (Same.new hg)) (s1.free hg) (by rw [upd_same, hv, ← hn]) (hok _ (by omega))
  · obtain ⟨gt, hv, hok⟩ := hg n j
    refine ⟨_, rfl, _, rfl, _, _, rfl, rfl, (by show (0 : Int) < _; decide), u, _, _, _, rfl, rfl, .of eu, hx, ?_⟩
    refine ⟨_, rfl, _, _, rfl, rfl, cdB (by decide) (by decide), _, rfl, _, _, rfl, rfl, (by show (0 : Int) < m; omega), ?_⟩
    refine ⟨_, rfl, _, _, rfl, rfl, (by show (0 : Int) < _; decide), _, _, rfl, rfl, _, rfl, iteDN hlt ?_⟩
    refine ⟨_, rfl, _, rfl, _, rfl, _, _, rfl, rfl, _, rfl, _, _, rfl, rfl, cdB (by decide) (by decide), _, rfl, _, _, rfl, rfl, _, _, rfl, rfl, (by show (0 : Int) < m - 1; omega), _, _, rfl, rfl, _, rfl, _, _, rfl, rfl, (by show (0 : Int) < m; omega), line6 (by show 3 ≤ 1000; decide), fun g hg => ?_⟩
    exact k g _ gt (s1.trans (Same.new hg)) (s1.free hg) (by rw [upd_same, hv, ← hn, ← hj]) (hok _ (by omega) (by omega) (by omega))
end

noncomputable def sp_cell (K : PySem.W.Frag) : Sp := fun vs H Q _ => ∃ (p : Addr) (ns : List Int) (k : Nat), vs = [.ref p, .int k] ∧ SqL K H p (zV ns) ∧ ns.length ≤ 63 ∧ k ≤ 1000 ∧ ∀ c : Int, 0 ≤ c → c < 10000000000000000000000000000000000000000 → ∀ H', Same H H' → Q (.int c) H'
noncomputable def sp_coins : Sp := fun vs H Q _ => ∃ c : Int, vs = [.int c] ∧ ∀ m : Int, 1 ≤ m → m ≤ 6 → ∀ H', Same H H' → Q (.int m) H'
noncomputable def sp_list (K : PySem.W.Frag) : Sp := fun vs H Q _ => ∃ (p : Addr) (ns : List Int) (at' : Nat) (m y : Int), vs = [.ref p, .int at', .int m, .int y] ∧ SqL K H p (zV ns) ∧ ns.length ≤ 63 ∧ at' ≤ 100 ∧ 1 ≤ m ∧ m ≤ 6 ∧
  ∀ (q : Addr) (H' : Hp) (fs : List Int), Same H H' → H q = none → H' q = some (.lst (zV fs)) → fs.length = 2 ^ m.toNat → some0 fs → Med fs → Q (.ref q) H'
section
variable {P : Program} {w : World} {K : PySem.W.Frag} {mg : Str → Option Value} {base : Heap}
/- _law_cell: 0:_law_script 1:_law_k 2:_law_number 3:_law_cell_here -/
noncomputable abbrev s_law_cell : Stmt := top 52
theorem sc_law_cell : FnScope ["_law_script", "_law_k", "_law_number", "_law_cell_here"] ["_law_script", "_law_k"] (defScope s_law_cell) := ⟨rfl, rfl, rfl, by decide +kernel, rfl, by decide +kernel, by decide +kernel⟩
theorem ok_cell (T : Blt mg) (D : Def K mg "_law_cell" s_law_cell ["_law_script", "_law_k"]) : Cal P w K mg base CX0 1 "_law_cell" ["_law_script", "_law_k"] (sp_cell K) := by
  refine D.ok sc_law_cell (fun vs H Q E h => ?_) (fun f cdv A outer s H vs Q E hr h => ?_)
  · obtain ⟨p, ns, k, rfl, _⟩ := h; rfl
  obtain ⟨p, ns, k, rfl, hS, hl, hk, q⟩ := h
  refine ⟨_, (pss_cons (ps_if (pt_cmpR op_lt (pv 1) (pe_callB (call_lenK K) (by rfl) T.n_len bt_len (pa_cons (pv 0) pa_nil)) (nomark _))
        (pss_one (ps_ret (pe_op op_mod (pe_ix (ix_listK K) (pv 0) (pv 1) (fun _ _ => rfl)) (pe_op op_pow pe_int pe_int))))
        pss_nil)
      (pss_cons (ps_set (i := 2) sc_law_cell.nd rfl (Or.inl rfl) (pe_op op_add pe_int (pe_callB (call_lenK K) (by rfl) T.n_len bt_len (pa_cons (pv 0) pa_nil))))
      (pss_cons (ps_for PassesOwn.never rfl (pi_listK K (pe_slice (sl_listK K) (pv 0) po_none (po_some pe_int))) (pg_name (i := 3) sc_law_cell.nd rfl (Or.inl rfl))
        (pss_one (ps_set (i := 2) sc_law_cell.nd rfl (Or.inl rfl) (pe_op op_mod (pe_op op_add (pe_op op_mulB (pv 2) pe_int) (pe_op op_mod (pv 3) pe_int)) pe_int))))
      (pss_one (ps_ret (pe_op op_mod (pe_op op_mulB (pv 2) (pe_op op_add (pe_op op_add (pe_op op_mulB (pv 1) (pv 1)) (pe_op op_mulB pe_int (pv 1))) pe_int)) pe_int)))))), ?_⟩
  (repeat (first | refine ⟨_, rfl, ?_⟩ | refine ⟨_, _, rfl, rfl, ?_⟩))
  refine ⟨p, _, rfl, .inl hS, ?_⟩
  (repeat (first | refine ⟨_, rfl, ?_⟩ | refine ⟨_, _, rfl, rfl, ?_⟩))
  refine ite2 (fun c => ?_) (fun c => ?_)
  · have c' : (k : Int) < (ns.length : Int) := by simpa using c
    obtain ⟨n, hn⟩ : ∃ n, ns[k]? = some n := ⟨ns[k]'(by omega), List.getElem?_eq_getElem (by omega)⟩
    (repeat (first | refine ⟨_, rfl, ?_⟩ | refine ⟨_, _, rfl, rfl, ?_⟩))
    refine ⟨p, _, _, _, rfl, rfl, hS, zs_at hn, ?_⟩
    (repeat (first | refine ⟨_, rfl, ?_⟩ | refine ⟨_, _, rfl, rfl, ?_⟩))
    refine ⟨cpw _ (by decide) (by decide), ?_⟩
    (repeat (first | refine ⟨_, rfl, ?_⟩ | refine ⟨_, _, rfl, rfl, ?_⟩))
    refine ⟨(by show (0 : Int) < _; rw [pw40]; decide), ?_⟩
    exact q _ (em_nn _ (by rw [pw40]; decide)) (pw40 ▸ em_lt n (m := (10 : Int) ^ (40 : Int).toNat) (by rw [pw40]; decide)) H (.refl H)
  · (repeat (first | refine ⟨_, rfl, ?_⟩ | refine ⟨_, _, rfl, rfl, ?_⟩))
    refine ⟨p, _, rfl, .inl hS, ?_⟩
    (repeat (first | refine ⟨_, rfl, ?_⟩ | refine ⟨_, _, rfl, rfl, ?_⟩))
    refine ⟨p, _, rfl, hS, fun r hr' => ?_⟩
    have s1 := Same.new (o := .lst (cutV (zV ns) none (some 7))) hr'
    obtain ⟨ms, hms⟩ : ∃ ms : List Int, cutV (zV ns) none (some 7) = zV ms := ⟨_, by rw [cutV, ← List.map_drop, ← List.map_take]⟩
    rw [hms] at s1 ⊢
    refine ⟨r, rfl, ⟨_, .of upd_same⟩, for_list (K := K) (a := r) (xs := zV ms) (fun i σ H' => ∃ (x : Int) (v : Option V), σ = [some (.ref p), some (.int k), some (.int x), v] ∧ 0 ≤ x ∧ x < 1000000000000 ∧ Same (upd H r (.lst (zV ms))) H') ⟨40961 + (ns.length : Int), none, ?_, by omega, by omega, .refl _⟩ (fun i σ H' _ ⟨_, _, _, _, _, s'⟩ => .of (s' _ _ upd_same)) ?_ ?_⟩
    · rw [List.length_map]; rfl
    · rintro i y σ H' hi ⟨x, v, rfl, x0, x1, s'⟩
      obtain ⟨n, hn, rfl⟩ := zs_get hi
      (repeat (first | refine ⟨_, rfl, ?_⟩ | refine ⟨_, _, rfl, rfl, ?_⟩))
      refine ⟨⟨big (by omega) (by omega), big (by omega) (by omega)⟩, ?_⟩
      (repeat (first | refine ⟨_, rfl, ?_⟩ | refine ⟨_, _, rfl, rfl, ?_⟩))
      refine ⟨(by show (0 : Int) < _; decide), ?_⟩
      (repeat (first | refine ⟨_, rfl, ?_⟩ | refine ⟨_, _, rfl, rfl, ?_⟩))
      refine ⟨(by show (0 : Int) < _; decide), ?_⟩
      exact ⟨_, some (.int n), rfl, em_nn _ (by decide), Int.lt_trans (em_lt _ (by decide)) (by decide), s'⟩
    · rintro σ H' ⟨x, v, rfl, x0, x1, s'⟩
      have kk : (k : Int) * (k : Int) ≤ 1000000 := by
        have := Nat.mul_le_mul hk hk
        have : ((k * k : Nat) : Int) ≤ 1000000 := by omega
        simpa using this
      have kk0 : 0 ≤ (k : Int) * (k : Int) := Int.mul_nonneg (by omega) (by omega)
      (repeat (first | refine ⟨_, rfl, ?_⟩ | refine ⟨_, _, rfl, rfl, ?_⟩))
      refine ⟨⟨big (by omega) (by omega), big (by omega) (by omega)⟩, ?_⟩
      (repeat (first | refine ⟨_, rfl, ?_⟩ | refine ⟨_, _, rfl, rfl, ?_⟩))
      refine ⟨⟨big (by omega) (by omega), big (by omega) (by omega)⟩, ?_⟩
      (repeat (first | refine ⟨_, rfl, ?_⟩ | refine ⟨_, _, rfl, rfl, ?_⟩))
      refine ⟨⟨big (by omega) (by omega), big (by omega) (by omega)⟩, ?_⟩
      (repeat (first | refine ⟨_, rfl, ?_⟩ | refine ⟨_, _, rfl, rfl, ?_⟩))
      refine ⟨(by show (0 : Int) < _; decide), ?_⟩
      exact q _ (em_nn _ (by decide)) (Int.lt_trans (em_lt _ (by decide)) (by decide)) H' (s1.trans s')
end

end K05

set_option maxHeartbeats 4000000
namespace K05
open PySem L2 TC
theorem sIx_nat {n d s : Nat} (h : s ≤ n) : HT.sIx n d (some (s : Int)) = s := (HT.sIx_nat n d s).trans (Nat.min_eq_left h)
theorem cut_to {xs : List V} {s : Nat} (h : s ≤ xs.length) : cutV xs none (some (s : Int)) = xs.take s := by
  unfold cutV
  rw [sIx_nat h]
  show (xs.drop 0).take (s - 0) = _
  rw [List.drop_zero, Nat.sub_zero]
theorem cut_from {xs : List V} {s : Nat} (h : s ≤ xs.length) : cutV xs (some (s : Int)) none = xs.drop s := by
  unfold cutV
  rw [sIx_nat h]
  show (xs.drop s).take (xs.length - s) = _
  exact List.take_of_length_le (by rw [List.length_drop]; omega)
/-- all are gates -/
noncomputable def Okg (m : Nat) (gvs : List (List V)) : Prop := ∀ xs ∈ gvs, gok m xs = true
noncomputable abbrev ins {α : Type} (l : List α) (s : Nat) (y : α) : List α := (l.take s ++ [y]) ++ l.drop s
theorem ins_lt {α : Type} {l : List α} {s j : Nat} {y : α} (h : s ≤ l.length) (hj : j < s) : (ins l s y)[j]? = l[j]? := by
  have hl : (l.take s).length = s := by rw [List.length_take]; omega
  rw [List.getElem?_append_left (by rw [List.length_append, hl]; show j < s + 1; omega), List.getElem?_append_left (by omega), List.getElem?_take_of_lt hj]
theorem ins_at {α : Type} {l : List α} {s : Nat} {y : α} (h : s ≤ l.length) : (ins l s y)[s]? = some y := by
  have hl : (l.take s).length = s := by rw [List.length_take]; omega
  rw [List.getElem?_append_left (by rw [List.length_append, hl]; show s < s + 1; omega), List.getElem?_append_right (by omega), hl, Nat.sub_self]; rfl
theorem ins_len {α : Type} {l : List α} {s : Nat} {y : α} (h : s ≤ l.length) : (ins l s y).length = l.length + 1 := by
  rw [List.length_append, List.length_append, List.length_take, List.length_drop]; show min s l.length + 1 + (l.length - s) = _; omega
theorem Fst.new {m s : Nat} {gvs : List (List V)} {ys : List V} (h : Okg m gvs) (hs : s ≤ gvs.length) (b : gok m ys = false) : Fst m s (ins gvs s ys) :=
  ⟨fun j xs hj e => h xs (by rw [ins_lt hs hj] at e; exact List.mem_of_getElem? e), ys, ins_at hs, b⟩
theorem Fst.more {m k s : Nat} {gvs : List (List V)} {ys : List V} (h : Fst m k gvs) (hs : s ≤ gvs.length) (b : gok m ys = false) : Fst m (min s k) (ins gvs s ys) := by
  obtain ⟨hb, zs, hz, hzb⟩ := h
  by_cases c : s ≤ k
  · rw [Nat.min_eq_left c]
    exact ⟨fun j xs hj e => hb j xs (by omega) (by rw [ins_lt hs hj] at e; exact e), ys, ins_at hs, b⟩
  · rw [Nat.min_eq_right (by omega)]
    exact ⟨fun j xs hj e => hb j xs hj (by rw [ins_lt hs (by omega)] at e; exact e), zs, by rw [ins_lt hs (by omega)]; exact hz, hzb⟩
theorem Okv.set {H : Hp} {v : V} {p : Addr} {ys : List V} (h : Okv H v) : Okv (L2.upd H p (.lst ys)) v := by
  cases v <;> try exact h
  rename_i a
  obtain ⟨xs, e⟩ := h
  by_cases c : a = p
  · subst c; exact ⟨ys, .inl upd_same⟩
  · exact ⟨xs, by rw [upd_ne c]; exact e⟩
/-- they outlast a list that is written anew -/
theorem Tps.set {H : Hp} {as : List Addr} {gvs : List (List V)} {p : Addr} {xs ys : List V} (h : Tps H as gvs) (e : H p = some (.lst xs)) : Tps (L2.upd H p (.lst ys)) as gvs := ⟨h.l, fun i a ha => by
  obtain ⟨zs, h1, h2, h3, h4⟩ := h.g i a ha
  have c : a ≠ p := fun z => by rw [z, e] at h2; cases h2
  exact ⟨zs, h1, by rw [upd_ne c]; exact h2, fun x hx => (h3 x hx).set, h4⟩⟩
theorem Tps.of {H : Hp} {m : Nat} {as : List Addr} {gs : List Gt} (h : Gts H m as gs) : Tps H as (gs.map Gt.vals) := ⟨by rw [List.length_map]; exact h.l, fun i a ha => by
  obtain ⟨g, h1, h2, h3⟩ := h.g i a ha
  refine ⟨g.vals, by rw [List.getElem?_map, h1]; rfl, h2, ?_, ?_⟩
  · cases g <;> exact scls rfl
  · cases g <;> first | exact (by decide : 2 ≤ 1000) | exact (by decide : 3 ≤ 1000)⟩
theorem Okg.of {H : Hp} {m : Nat} {as : List Addr} {gs : List Gt} (h : Gts H m as gs) : Okg m (gs.map Gt.vals) := fun xs hx => by
  obtain ⟨g, hg, rfl⟩ := List.mem_map.mp hx
  exact gok_vals (h.all g hg)
theorem Tps.ins {H : Hp} {as : List Addr} {gvs : List (List V)} {s : Nat} {g : Addr} {ys : List V} (h : Tps H as gvs) (hs : s ≤ as.length) (e : H g = some (.tup ys)) (ok : ∀ x ∈ ys, Okv H x) (l : ys.length ≤ 1000) : Tps H (K05.ins as s g) (K05.ins gvs s ys) := by
  have hs' : s ≤ gvs.length := by rw [← h.l]; exact hs
  have hl : (as.take s).length = s := by rw [List.length_take]; omega
  have hl' : (gvs.take s).length = s := by rw [List.length_take]; omega
  refine ⟨by rw [ins_len hs, ins_len hs', h.l], fun i a ha => ?_⟩
  rcases Nat.lt_trichotomy i s with c | c | c
  · rw [ins_lt hs c] at ha
    rw [ins_lt hs' c]
    exact h.g i a ha
  · subst c
    rw [ins_at hs] at ha
    cases ha
    exact ⟨ys, ins_at hs', e, ok, l⟩
  · have r1 : (K05.ins as s g)[i]? = as[i - 1]? := by
      rw [List.getElem?_append_right (by rw [List.length_append, hl]; show s + 1 ≤ i; omega), List.length_append, hl, List.getElem?_drop]
      congr 1; show s + (i - (s + 1)) = i - 1; omega
    have r2 : (K05.ins gvs s ys)[i]? = gvs[i - 1]? := by
      rw [List.getElem?_append_right (by rw [List.length_append, hl']; show s + 1 ≤ i; omega), List.length_append, hl', List.getElem?_drop]
      congr 1; show s + (i - (s + 1)) = i - 1; omega
    rw [r1] at ha
    rw [r2]
    exact h.g (i - 1) a ha
end K05

set_option maxHeartbeats 4000000
namespace K05
open PySem L2 TC
noncomputable def sp_law (K : PySem.W.Frag) : Sp := fun vs H Q _ => ∃ (a : Addr) (ns : List Int), vs = [.ref a] ∧ SqL K H a (zV ns) ∧ ns.length ≤ 63 ∧ ∀ H', Q (.bl true) H'
theorem shl1 (m : Nat) : (1 : Int) * 2 ^ (m : Int).toNat - 1 = ((2 ^ m - 1 : Nat) : Int) := by
  have h : ((2 ^ m : Nat) : Int) = (2 : Int) ^ m := Int.natCast_pow 2 m
  have := Nat.one_le_two_pow (n := m)
  rw [Int.toNat_natCast, Int.one_mul, ← h]
  omega
noncomputable abbrev Wr : List V := [.bl true, .bl true, .bl false, .bl false]
/-- what lies there through the whole law -/
structure Bas (K : PySem.W.Frag) (H : Hp) (a aN aG aW w1 : Addr) (ss ns : List Int) (as : List Addr) (gs : List Gt) (m : Nat) : Prop where
  s : SqL K H a (zV ss)
  n : H aN = some (.lst (zV ns))
  g : H aG = some (.lst (rV as))
  G : Gts H m as gs
  w : H aW = some (.tup [.ref w1, .int 0])
  v : H w1 = some (.lst Wr)
theorem Bas.same {K : PySem.W.Frag} {H H' : Hp} {a aN aG aW w1 : Addr} {ss ns : List Int} {as : List Addr} {gs : List Gt} {m : Nat} (h : Bas K H a aN aG aW w1 ss ns as gs m) (s : Same H H') : Bas K H' a aN aG aW w1 ss ns as gs m :=
  ⟨s.seq h.s, s _ _ h.n, s _ _ h.g, h.G.same s, s _ _ h.w, s _ _ h.v⟩
theorem al_pair {K : PySem.W.Frag} {H : Hp} {x y x' y' : V} (h0 : Al2 K H x x') (h1 : Al2 K H y y') : ∀ (j : Nat) u v, [x, y][j]? = some u → [x', y'][j]? = some v → Al2 K H u v := fun j u v hu hv => by
  match j, hu, hv with
  | 0, hu, hv => cases hu; cases hv; exact h0
  | 1, hu, hv => cases hu; cases hv; exact h1
theorem al_flat {K : PySem.W.Frag} {H : Hp} {p q : Addr} {xs : List V} (hf : xs.all flatV = true) (hne : p ≠ q) (h1 : H p = some (.lst xs)) (h2 : H q = some (.lst xs)) : Al2 K H (.ref p) (.ref q) :=
  .of (.lst hne (.of h1) (.of h2) rfl fun j x y hx hy => by
    rw [hx] at hy
    cases hy
    exact .flat (List.all_eq_true.mp hf _ (List.mem_of_getElem? hx)))
theorem pick_L {n : Nat} {v : Int} (h1 : 1 ≤ n) (v0 : 0 ≤ v) (v3 : v < 3) : ∃ L : Nat, atI [V.int (n : Nat), .int ((n : Nat) - 1), .int ((n : Nat) + 1)] v = some (.int (L : Int)) ∧ L ≤ n + 1 := by
  have : v = 0 ∨ v = 1 ∨ v = 2 := by omega
  rcases this with rfl | rfl | rfl
  · exact ⟨n, rfl, by omega⟩
  · exact ⟨n - 1, by show some (V.int ((n : Int) - 1)) = _; rw [show ((n - 1 : Nat) : Int) = (n : Int) - 1 by omega], by omega⟩
  · exact ⟨n + 1, rfl, Nat.le_refl _⟩
theorem rep0 (L : Nat) : (List.replicate L [V.int 0]).flatten = zV (List.replicate L 0) := by
  induction L with
  | zero => rfl
  | succ L ih => rw [List.replicate_succ, List.flatten_cons, ih, List.replicate_succ]; rfl
theorem JoinD {C G : Nat → Prop} {A : Prop} (h : (∀ d, C d → G d) → A) (k : ∀ d, C d → G d) : A := h k
noncomputable def Jd (m i : Nat) (gvs : List (List V)) (sp : List Int) : Prop :=
  (i = 0 ∧ sp = [] ∧ Okg m gvs) ∨ (i = 1 ∧ ∃ s0 : Nat, sp = [(s0 : Int)] ∧ Fst m s0 gvs) ∨ (i = 2 ∧ ∃ s0 s1 : Nat, sp = [(s0 : Int), (s1 : Int)] ∧ Fst m (min s1 s0) gvs)
theorem Jd.len {m i : Nat} {gvs : List (List V)} {sp : List Int} (h : Jd m i gvs sp) : sp.length = i := by
  rcases h with ⟨rfl, rfl, _⟩ | ⟨rfl, s0, rfl, _⟩ | ⟨rfl, s0, s1, rfl, _⟩ <;> rfl
theorem Jd.next {m i s : Nat} {gvs : List (List V)} {sp : List Int} {ys : List V} (h : Jd m i gvs sp) (hi : i < 2) (hs : s ≤ gvs.length) (b : gok m ys = false) : Jd m (i + 1) (ins gvs s ys) (sp ++ [(s : Int)]) := by
  rcases h with ⟨rfl, rfl, h⟩ | ⟨rfl, s0, rfl, h⟩ | ⟨rfl, s0, s1, rfl, h⟩
  · exact .inr (.inl ⟨rfl, s, rfl, .new h hs b⟩)
  · exact .inr (.inr ⟨rfl, s0, s, rfl, h.more hs b⟩)
  · omega
section
variable {P : Program} {w : World} {K : PySem.W.Frag} {mg : Str → Option Value} {base : Heap}
/- law: 0:_law_script 1:_law_first 2:_law_coins 3:_law_numbers 4:_law_gates 5:_law_wrong 6:_law_faulty 7:_law_spots 8:_law_k 9:_law_due 10:_law_told 11:_law_cell_here 12:_law_none 13:_law_first_wrong -/
noncomputable abbrev s_law : Stmt := top 56
theorem sc_law : FnScope ["_law_script", "_law_first", "_law_coins", "_law_numbers", "_law_gates", "_law_wrong", "_law_faulty", "_law_spots", "_law_k", "_law_due", "_law_told", "_law_cell_here", "_law_none", "_law_first_wrong"] ["_law_script"] (defScope s_law) := ⟨rfl, rfl, rfl, by decide +kernel, rfl, by decide +kernel, by decide +kernel⟩

theorem ok_law (T : Blt mg) (n_min : mg "min" = none) {f : Addr} {fd : FuncData} (F : Fun K "law" "law" s_law f fd) (C_law_cell : Cal P w K mg base CX0 1 "_law_cell" ["_law_script", "_law_k"] (sp_cell K)) (C_law_gate : Cal P w K mg base CX0 1 "_law_gate" ["_law_cell_here", "_law_coins"] sp_lgate) (C_law_bad : Cal P w K mg base CX0 1 "_law_bad" ["_law_cell_here", "_law_coins"] sp_bad)
    (C_seenN : Cal P w K mg base CX0 6 "_law_seen" ["_law_numbers", "_law_gates", "_law_way"] (sp_seenN K)) (C_seenX : Cal P w K mg base CX0 6 "_law_seen" ["_law_numbers", "_law_gates", "_law_way"] (sp_seenX K)) : FnOk P w K mg base CX0 7 f fd ["_law_script"] (sp_law K) := by
  refine F.ok sc_law (fun vs H Q E h => ?_) (fun cdv A outer s H vs Q E hr h => ?_)
  · obtain ⟨a, ns, rfl, _⟩ := h; rfl
  obtain ⟨a, ss, rfl, hS, hl, k⟩ := h
  refine ⟨_, (pss_cons (ps_set (i := 1) sc_law.nd rfl (Or.inl rfl) (pe_cal C_law_cell hr.sub (pa_cons (pv 0) (pa_cons pe_int pa_nil))))
      (pss_cons (ps_set (i := 2) sc_law.nd rfl (Or.inr rfl) (pe_op op_add pe_int (pe_op op_mod (pv 1) pe_int)))
      (pss_cons (ps_set (i := 3) sc_law.nd rfl (Or.inl rfl) (pe_op op_cat (pe_lst (pa_cons pe_int pa_nil)) (pe_comp rfl sc_law.nd (csH (N := ["_law_script", "_law_first", "_law_coins", "_law_numbers", "_law_gates", "_law_wrong", "_law_faulty", "_law_spots", "_law_k", "_law_due", "_law_told", "_law_cell_here", "_law_none", "_law_first_wrong"]) (N' := ["_law_script", "_law_first", "_law_coins", "_law_numbers", "_law_gates", "_law_wrong", "_law_faulty", "_law_spots", ".s", "_law_due", "_law_told", "_law_cell_here", "_law_none", "_law_first_wrong"]) (osc := defScope s_law) (by decide +kernel)) (pi_range1 rfl T.n_range (pa_cons (pe_op op_sub (pe_op op_shl pe_int (pv 2)) pe_int) pa_nil)) (fun _ _ _ _ => pifs_nil) (fun _ _ _ _ => (pe_op op_sub (pe_op op_mod (pe_cal C_law_cell hr.sub (pa_cons (pv 1) (pa_cons (pv 0) pa_nil))) pe_int) pe_int)))))
      (pss_cons (ps_setC (i := 4) rfl sc_law.nd rfl rfl (csH (N := ["_law_script", "_law_first", "_law_coins", "_law_numbers", "_law_gates", "_law_wrong", "_law_faulty", "_law_spots", "_law_k", "_law_due", "_law_told", "_law_cell_here", "_law_none", "_law_first_wrong"]) (N' := ["_law_script", "_law_first", "_law_coins", "_law_numbers", "_law_gates", "_law_wrong", "_law_faulty", "_law_spots", "_law_k", "_law_due", "_law_told", ".s", "_law_none", "_law_first_wrong"]) (osc := defScope s_law) (by decide +kernel)) (pi_listK K (pe_slice (sl_listK K) (pv 0) (po_some pe_int) (po_some pe_int))) (fun _ _ _ _ => pifs_nil) (fun _ _ _ _ => (pe_cal C_law_gate hr.sub (pa_cons (pe_op op_fdivB (pe_op op_mod (pv 0) (pe_op op_pow pe_int pe_int)) pe_int) (pa_cons (pv 3) pa_nil)))))
      (pss_cons (ps_set (i := 5) sc_law.nd rfl (Or.inl rfl) (pe_tup (pa_cons (pe_lst (pa_cons pe_bl (pa_cons pe_bl (pa_cons pe_bl (pa_cons pe_bl pa_nil))))) (pa_cons pe_int pa_nil))))
      (pss_cons (ps_if (pt_cmpR (op_neNestK K hr.units1) (pe_cal C_seenN hr.sub (pa_cons (pe_callTy (call_listK K) (by rfl) T.n_list bt_list (pa_cons (pv 3) pa_nil)) (pa_cons (pe_callTy (call_listK K) (by rfl) T.n_list bt_list (pa_cons (pv 4) pa_nil)) (pa_cons pe_int pa_nil)))) (pe_tup (pa_cons pe_non (pa_cons (pe_un un_neg pe_int) pa_nil))) (nomark _))
        (pss_one (ps_ret pe_bl))
        pss_nil)
      (pss_cons (ps_set (i := 6) sc_law.nd rfl (Or.inl rfl) (pe_callTy (call_listK K) (by rfl) T.n_list bt_list (pa_cons (pv 4) pa_nil)))
      (pss_cons (ps_set (i := 7) sc_law.nd rfl (Or.inl rfl) (pe_lst pa_nil))
      (pss_cons (ps_for PassesOwn.never rfl (pi_range1 rfl T.n_range (pa_cons (pe_op op_add pe_int (pe_op op_mod (pe_op op_fdivB (pv 1) pe_int) pe_int)) pa_nil)) (pg_name (i := 8) sc_law.nd rfl (Or.inl rfl))
        (pss_cons (ps_set (i := 11) sc_law.nd rfl (Or.inl rfl) (pe_cal C_law_cell hr.sub (pa_cons (pv 0) (pa_cons (pe_op op_add pe_int (pv 8)) pa_nil))))
        (pss_cons (ps_expr (pe_bm PySem.F.plainAttrs_list PySem.F.slot_list_append PySem.F.type_list_append mt_append (pv 7) (pa_cons (pe_op op_mod (pe_op op_fdivB (pv 11) pe_int) (pe_op op_add (pe_callB (call_lenK K) (by rfl) T.n_len bt_len (pa_cons (pv 4) pa_nil)) pe_int)) pa_nil)))
        (pss_one (ps_set (i := 6) sc_law.nd rfl (Or.inl rfl) (pe_op op_cat (pe_op op_cat (pe_slice (sl_listK K) (pv 6) po_none (po_some (pe_ix (ix_listK K) (pv 7) (pv 8) (fun _ _ => rfl)))) (pe_lst (pa_cons (pe_cal C_law_bad hr.sub (pa_cons (pv 11) (pa_cons (pv 2) pa_nil))) pa_nil))) (pe_slice (sl_listK K) (pv 6) (po_some (pe_ix (ix_listK K) (pv 7) (pv 8) (fun _ _ => rfl))) po_none)))))))
      (pss_cons (ps_set (i := 9) sc_law.nd rfl (Or.inl rfl) (pe_ix (ix_listK K) (pv 7) pe_int (fun _ _ => rfl)))
      (pss_cons (ps_if (pt_cmpR op_eq (pe_callB (call_lenK K) (by rfl) T.n_len bt_len (pa_cons (pv 7) pa_nil)) pe_int (nomark _))
        (pss_one (ps_set (i := 9) sc_law.nd rfl (Or.inl rfl) (pe_callB (call_minLK K) (by rfl) n_min bt_min (pa_cons (pv 7) pa_nil))))
        pss_nil)
      (pss_cons (ps_if (pt_cmpR op_eq (pe_op op_mod (pe_op op_fdivB (pv 1) pe_int) pe_int) pe_int (nomark _))
        (pss_cons (ps_set (i := 12) sc_law.nd rfl (Or.inl rfl) (pe_op op_rep (pe_lst (pa_cons pe_int pa_nil)) (pe_ix (ix_listK K) (pe_lst (pa_cons (pe_callB (call_lenK K) (by rfl) T.n_len bt_len (pa_cons (pv 3) pa_nil)) (pa_cons (pe_op op_sub (pe_callB (call_lenK K) (by rfl) T.n_len bt_len (pa_cons (pv 3) pa_nil)) pe_int) (pa_cons (pe_op op_add (pe_callB (call_lenK K) (by rfl) T.n_len bt_len (pa_cons (pv 3) pa_nil)) pe_int) pa_nil)))) (pe_op op_mod (pe_op op_fdivB (pv 1) pe_int) pe_int) (fun _ _ => rfl))))
        (pss_cons (ps_set (i := 13) sc_law.nd rfl (Or.inl rfl) (pe_tup (pa_cons (pe_lst (pa_cons pe_bl (pa_cons pe_bl (pa_cons pe_bl (pa_cons pe_bl pa_nil))))) (pa_cons (pe_un un_neg pe_int) pa_nil))))
        (pss_one (ps_ret (pe_and (pe_cmpR (op_eqNestK K hr.units1) (pe_cal C_seenX hr.sub (pa_cons (pv 12) (pa_cons (pv 6) (pa_cons pe_int pa_nil)))) (pv 13) (nomark _)) (pe_one (pe_cmpR (op_eqNestK K hr.units1) (pe_cal C_seenX hr.sub (pa_cons (pv 12) (pa_cons (pe_lst (pa_cons (pe_ix (ix_listK K) (pv 6) (pv 9) (fun _ _ => rfl)) pa_nil)) (pa_cons pe_int pa_nil)))) (pv 13) (nomark _))))))))
        pss_nil)
      (pss_cons (ps_set (i := 10) sc_law.nd rfl (Or.inl rfl) (pe_cal C_seenX hr.sub (pa_cons (pe_callTy (call_listK K) (by rfl) T.n_list bt_list (pa_cons (pv 3) pa_nil)) (pa_cons (pv 6) (pa_cons pe_int pa_nil)))))
      (pss_cons (ps_if (PW.pt (pw_or (pt_cmpR (op_neNestK K hr.units1) (pv 10) (pe_tup (pa_cons (pe_lst (pa_cons pe_bl (pa_cons pe_bl (pa_cons pe_bl (pa_cons pe_bl pa_nil))))) (pa_cons (pv 9) pa_nil))) (nomark _)) (pw_or1 (pt_val (pe_callB (call_isiK K) (by rfl) T.n_isinstance bt_isinstance (pa_cons (pe_ix (ix_tupK K) (pv 10) pe_int (fun _ _ => rfl)) (pa_cons (pe_bT T.n_bool bt_bool) pa_nil)))))))
        (pss_one (ps_ret pe_bl))
        pss_nil)
      (pss_cons (ps_if (pt_cmpR (op_neNestK K hr.units1) (pe_cal C_seenX hr.sub (pa_cons (pe_callTy (call_listK K) (by rfl) T.n_list bt_list (pa_cons (pv 3) pa_nil)) (pa_cons (pe_lst (pa_cons (pe_cal C_law_bad hr.sub (pa_cons (pe_cal C_law_cell hr.sub (pa_cons (pv 0) (pa_cons pe_int pa_nil))) (pa_cons pe_int pa_nil))) pa_nil)) (pa_cons pe_int pa_nil)))) (pv 5) (nomark _))
        (pss_one (ps_ret pe_bl))
        pss_nil)
      (pss_one (ps_ret (pe_cmpR (op_eqNestK K hr.units1) (pe_cal C_seenX hr.sub (pa_cons (pe_callTy (call_listK K) (by rfl) T.n_list bt_list (pa_cons (pv 3) pa_nil)) (pa_cons (pe_lst (pa_cons (pe_ix (ix_listK K) (pv 6) (pv 9) (fun _ _ => rfl)) pa_nil)) (pa_cons pe_int pa_nil)))) (pv 5) (nomark _))))))))))))))))))), ?_⟩
  refine ⟨_, rfl, a, ss, 0, rfl, hS, hl, by omega, fun c c0 c1 H1 s1 => ?_⟩
  refine ⟨_, rfl, _, _, rfl, rfl, (by show (0 : Int) < _; decide), _, _, rfl, rfl, ?_⟩
  have z0 := em_nn c (m := 6) (by decide)
  have z1 := em_lt c (m := 6) (by decide)
  obtain ⟨m, hm⟩ : ∃ m : Nat, 1 + c % 6 = (m : Int) := ⟨(1 + c % 6).toNat, by omega⟩
  have m1 : 1 ≤ m := by omega
  have m6 : m ≤ 6 := by omega
  have hp : 2 ^ m ≤ 64 := Nat.le_trans (Nat.pow_le_pow_right (by decide) m6) (by decide)
  have hp1 : 2 ≤ 2 ^ m := Nat.le_trans (by decide : 2 ≤ 2 ^ 1) (Nat.pow_le_pow_right (by decide) m1)
  dsimp only [gName]
  rw [hm]
  refine ⟨line6 (by show 1 ≤ 1000; decide), fun l1 nl1 => ?_⟩
  generalize hG : upd H1 l1 _ = H2
  have e1 : H2 l1 = some (.lst (zV [1])) := by rw [← hG]; exact upd_same
  have s2 : Same H H2 := hG ▸ s1.trans (Same.new nl1)
  clear hG
  refine ⟨_, rfl, _, _, rfl, rfl, ⟨Int.natCast_nonneg m, by omega, by decide⟩, _, _, rfl, rfl, ((2 ^ m - 1 : Nat) : Int), by rw [← shl1], by omega, by omega, ?_⟩
  rw [Int.toNat_natCast]
  refine comp_rangeP (fun i ys H' => ∃ zs : List Int, ys = zV zs ∧ zs.length = i ∧ Sz 10 zs ∧ Same H2 H') ⟨[], rfl, rfl, (fun _ h => nomatch h), .refl H2⟩ (fun i ys H' _ ⟨zs, e, hz, _⟩ => by rw [e, ← hz]; simp [zV]) (line6 (by omega)) ?_ ?_
  · rintro i ys H' Q' hi ⟨zs, rfl, hz, hb, s'⟩ q'
    refine ⟨_, rfl, _, rfl, a, ss, i, by rw [Int.zero_add]; rfl, (s2.trans s').seq hS, hl, by omega, fun x x0 x1 H4 s4 => ⟨_, _, rfl, rfl, (by show (0 : Int) < _; decide), _, _, rfl, rfl, q' _ _ ⟨zs ++ [x % 5 - 2], by simp [zV], by simp [hz], fun n hn => ?_, s'.trans s4⟩⟩⟩
    rcases List.mem_append.mp hn with hn | hn
    · exact hb n hn
    · rw [List.mem_singleton.mp hn]
      have y0 := em_nn x (m := 5) (by decide)
      have y1 := em_lt x (m := 5) (by decide)
      show (x % 5 - 2).natAbs < 2 ^ 10
      omega
  rintro ys H3 p3 ⟨zs, rfl, hz, hzs, s3⟩ np3
  refine ⟨l1, p3, _, _, rfl, rfl, Same.new np3 _ _ (s3 _ _ e1), upd_same, line6 (by rw [List.length_map, List.length_map]; show 1 + zs.length ≤ 1000; omega), fun aN nN => ?_⟩
  dsimp only [gName]
  generalize hG : upd (upd H3 p3 _) aN _ = H5
  have eN : H5 aN = some (.lst (zV (1 :: zs))) := by rw [← hG]; exact upd_same
  have s5 : Same H H5 := hG ▸ ((s2.trans s3).trans (Same.new np3)).trans (Same.new nN)
  clear hG
  have hFit : Fit m 10 (1 :: zs) := ⟨by rw [List.length_cons, hz]; omega, ⟨1, List.mem_cons_self, by decide⟩, fun n hn => by
    rcases List.mem_cons.mp hn with rfl | hn
    · decide
    · exact hzs n hn⟩
  generalize (1 :: zs) = ns at eN hFit
  obtain ⟨ms, hms, hmsl⟩ : ∃ ms : List Int, cutV (zV ss) (some 3) (some 43) = zV ms ∧ ms.length ≤ 63 := by
    refine ⟨_, by rw [cutV, ← List.map_drop, ← List.map_take], ?_⟩
    rw [List.length_take, List.length_drop]; omega
  refine ⟨_, rfl, _, rfl, _, rfl, a, _, rfl, s5.seq hS, fun aS nS => ?_⟩
  rw [hms]
  generalize hG : upd H5 aS _ = H6
  have eS : H6 aS = some (.lst (zV ms)) := by rw [← hG]; exact upd_same
  have eN := hG ▸ Same.new nS _ _ eN
  have s6 : Same H H6 := hG ▸ s5.trans (Same.new nS)
  clear hG
  have mi : (m : Int).toNat = m := Int.toNat_natCast m
  refine ⟨aS, rfl, ⟨_, .of eS⟩, comp_listP (fun i ys H' => ∃ (as : List Addr) (gs : List Gt), ys = rV as ∧ as.length = i ∧ Same H6 H' ∧ Gts H' m as gs) ⟨[], [], rfl, rfl, .refl H6, .nil⟩
    (fun i ys H' _ ⟨as, gs, e1, e2, s', _⟩ => ⟨.of (s' _ _ eS), by rw [e1, List.length_map, e2]⟩) (line6 (by rw [List.length_map]; omega)) ?_ ?_⟩
  · rintro i x ys H' Q' hi ⟨as, gs, rfl, hil, s', G⟩ q'
    obtain ⟨n, hn, rfl⟩ := zs_get hi
    refine ⟨_, rfl, _, _, rfl, rfl, cpw _ (by decide) (by decide), _, _, rfl, rfl, (by show (0 : Int) < 10 ^ (15 : Int).toNat; decide), _, _, rfl, rfl, cdB (by decide) (by decide), _, rfl, _, (m : Int), rfl, by omega, by omega, fun g H4 gt s4 ng eg hok => q' _ _ ?_⟩
    rw [mi] at hok
    exact ⟨as ++ [g], gs ++ [gt], by rw [rV, rV, List.map_append]; rfl, by rw [List.length_append, hil]; rfl, s'.trans s4, (G.same s4).app (Gts.one eg hok)⟩
  rintro ys H7 aG ⟨as, gs, rfl, hasl, s7, G⟩ nG
  rw [List.length_map] at hasl
  have hasl2 : as.length ≤ 63 := by omega
  have hgl : gs.length ≤ 63 := by rw [← G.l]; omega
  refine ⟨line6 (by show 4 ≤ 1000; decide), fun w1 nw1 => ?_⟩
  refine ⟨line6 (by show 2 ≤ 1000; decide), fun aW nW => ?_⟩
  dsimp only [gName]
  generalize hG : upd (upd (upd H7 aG _) w1 _) aW _ = H8
  have B : Bas K H8 a aN aG aW w1 ss ns as gs m := by
    have u1 := Same.new (o := .lst (rV as)) nG
    have u2 := Same.new (o := .lst Wr) nw1
    have u3 := Same.new (o := .tup [.ref w1, .int 0]) nW
    have u := (u1.trans u2).trans u3
    rw [← hG]
    exact ⟨(((s6.trans s7).trans u)).seq hS, u _ _ (s7 _ _ eN), u3 _ _ (u2 _ _ upd_same), (G.same u), upd_same, u3 _ _ upd_same⟩
  clear hG nG nw1 nW G s7 s6 eS eN hms hmsl nS s5 nN np3 s3 hz hzs s2 e1 nl1 s1 hS
  refine ⟨_, rfl, aN, _, rfl, .inl (.of B.n), fun b1 n1 => ?_⟩
  generalize hG : upd H8 b1 _ = H9
  have eb1 : H9 b1 = some (.lst (zV ns)) := by rw [← hG]; exact upd_same
  have B := B.same (hG ▸ Same.new n1 : Same H8 H9)
  clear hG
  refine ⟨_, rfl, aG, _, rfl, .inl (.of B.g), fun b2 n2 => ?_⟩
  generalize hG : upd H9 b2 _ = H10
  have eb2 : H10 b2 = some (.lst (rV as)) := by rw [← hG]; exact upd_same
  have eb1 := (hG ▸ Same.new n2 : Same H9 H10) _ _ eb1
  have B := B.same (hG ▸ Same.new n2 : Same H9 H10)
  clear hG
  refine ⟨b1, b2, ns, as, gs, m, 10, rfl, .of eb1, .of eb2, B.G, hFit, m1, m6, by omega, fun p H11 s11 np ep => ?_⟩
  have B := B.same s11
  refine ⟨_, rfl, line6 (by show 2 ≤ 1000; decide), fun t nt => ?_⟩
  have B := B.same (Same.new (o := .tup [.non, .int (-1)]) nt)
  refine ⟨p, t, _, _, rfl, rfl, sqT (Same.new nt _ _ ep), sqT upd_same, rfl, al_pair (.of (.of (.flat rfl))) (.of (.of (.flat rfl))), _, rfl, iteF ?_⟩
  generalize upd H11 t _ = H12 at B ⊢
  clear nt ep np s11 eb2 eb1 n2 n1
  -- faulty, spots
  refine ⟨_, rfl, aG, _, rfl, .inl (.of B.g), fun aF nF => ?_⟩
  dsimp only [gName]
  generalize hG : upd H12 aF _ = H13
  have eF : H13 aF = some (.lst (rV as)) := by rw [← hG]; exact upd_same
  have B := B.same (hG ▸ Same.new nF : Same H12 H13)
  clear hG
  refine ⟨line6 (by show 0 ≤ 1000; decide), fun aP nP => ?_⟩
  dsimp only [gName]
  generalize hG : upd H13 aP _ = H14
  have eP : H14 aP = some (.lst (zV [])) := by rw [← hG]; exact upd_same
  have s14 : Same H13 H14 := hG ▸ Same.new nP
  have dF : aF ≠ aP := ne_of_none eF nP
  clear hG
  have y0 := em_nn (c.fdiv 6) (m := 2) (by decide)
  have y1 := em_lt (c.fdiv 6) (m := 2) (by decide)
  obtain ⟨N, hN⟩ : ∃ N : Nat, 1 + c.fdiv 6 % 2 = (N : Int) := ⟨(1 + c.fdiv 6 % 2).toNat, by omega⟩
  have hN1 : 1 ≤ N := by omega
  have hN2 : N ≤ 2 := by omega
  refine ⟨_, rfl, _, _, rfl, rfl, cdB (by decide) (by decide), _, _, rfl, rfl, (by show (0 : Int) < _; decide), _, _, rfl, rfl, (N : Int), by rw [← hN], by omega, by omega, ?_⟩
  rw [Int.toNat_natCast]
  have B13 := B
  refine for_range (lo := 0) (n := N) (fun i σ H' => ∃ (aF' : Addr) (fs : List Addr) (gvs : List (List V)) (sp : List Int) (v8 v11 : Option V), σ = [some (.ref a), some (.int c), some (.int m), some (.ref aN), some (.ref aG), some (.ref aW), some (.ref aF'), some (.ref aP), v8, none, none, v11, none, none] ∧
    Same H13 H' ∧ H' aP = some (.lst (zV sp)) ∧ aF' ≠ aP ∧ H' aF' = some (.lst (rV fs)) ∧ Tps H' fs gvs ∧ fs.length = as.length + i ∧ Jd m i gvs sp) ⟨aF, as, _, [], none, none, rfl, s14, eP, dF, s14 _ _ eF, (Tps.of B.G).same s14, rfl, .inl ⟨rfl, rfl, .of B.G⟩⟩ ?_ ?_
  · rintro i σ H' hi ⟨aF', fs, gvs, sp, v8, v11, rfl, s', eP, dF, eF, hT, hfl, hJ⟩
    have B := B.same s'
    have hspl := hJ.len
    refine ⟨_, rfl, _, rfl, _, _, rfl, rfl, a, ss, 1 + i, by rw [Int.zero_add, Int.natCast_add]; rfl, B.s, hl, by omega, fun x x0 x1 H2 s2 => ?_⟩
    dsimp only [gName]
    have B := B.same s2
    have q0 := em_nn (x.fdiv 1000) (m := ((rV as).length : Int) + 1) (by omega)
    have q1 := em_lt (x.fdiv 1000) (m := ((rV as).length : Int) + 1) (by omega)
    obtain ⟨s0, hs0⟩ : ∃ s0 : Nat, x.fdiv 1000 % (((rV as).length : Int) + 1) = (s0 : Int) := ⟨(x.fdiv 1000 % (((rV as).length : Int) + 1)).toNat, by omega⟩
    have hsl : s0 ≤ as.length := by rw [rV, List.length_map] at q1 hs0; omega
    refine ⟨_, rfl, .inl ⟨rfl, _, .of (s2 _ _ eP)⟩, _, rfl, _, _, rfl, rfl, cdB (by decide) (by decide), _, rfl, aG, _, rfl, .inl (.of B.g), _, _, rfl, rfl, _, _, rfl, rfl, (by show (0 : Int) < _; omega), aP, _, _, rfl, rfl, s2 _ _ eP, line6 (by show (zV sp).length + 1 ≤ 1000; rw [List.length_map]; omega), ?_⟩
    dsimp only
    rw [hs0]
    generalize hG : upd H2 aP _ = H3
    have eP3 : H3 aP = some (.lst (zV (sp ++ [(s0 : Int)]))) := by rw [← hG, upd_same]; simp [zV]
    have eF3 : H3 aF' = some (.lst (rV fs)) := by rw [← hG, upd_ne dF]; exact s2 _ _ eF
    have hT3 : Tps H3 fs gvs := hG ▸ (hT.same s2).set (s2 _ _ eP)
    have s3 : Same H13 H3 := hG ▸ (s'.trans s2).upd nP
    clear hG
    have at3 : atI (zV (sp ++ [(s0 : Int)])) (0 + (i : Int)) = some (.int s0) := by
      rw [Int.zero_add]
      exact atI_nat (by rw [zV, List.getElem?_map, List.getElem?_append_right (by omega), hspl, Nat.sub_self]; rfl)
    have hs1 : s0 ≤ (rV fs).length := by rw [rV, List.length_map]; omega
    refine ⟨_, rfl, _, rfl, _, rfl, aP, _, _, _, rfl, rfl, .of eP3, at3, _, rfl, aF', _, rfl, .of eF3, fun q1 nq1 => ?_⟩
    rw [cut_to hs1]
    generalize hG : upd H3 q1 _ = H4
    have e1 : H4 q1 = some (.lst (rV (fs.take s0))) := by rw [← hG, upd_same, rV, rV, List.map_take]
    have u4 : Same H3 H4 := hG ▸ Same.new nq1
    clear hG
    refine ⟨_, rfl, _, rfl, x, m, rfl, m1, m6, fun g ys H5 u5 eg hbd => ?_⟩
    refine ⟨line6 (by show 1 ≤ 1000; decide), fun l nl => ?_⟩
    refine ⟨q1, l, _, _, rfl, rfl, Same.new nl _ _ (u5 _ _ e1), upd_same, line6 (by rw [List.length_map, List.length_take]; show _ + 1 ≤ 1000; omega), fun q2 nq2 => ?_⟩
    generalize hG : upd (upd H5 l _) q2 _ = H6
    have e2 : H6 q2 = some (.lst (rV (fs.take s0 ++ [g]))) := by rw [← hG, upd_same, rV, rV, List.map_append]; rfl
    have v6 : Same H5 H6 := hG ▸ (Same.new nl).trans (Same.new nq2)
    clear hG
    have u6 := (u4.trans u5).trans v6
    refine ⟨_, rfl, _, rfl, _, rfl, aP, _, _, _, rfl, rfl, .of (u6 _ _ eP3), at3, _, rfl, aF', _, rfl, .of (u6 _ _ eF3), fun q3 nq3 => ?_⟩
    rw [cut_from hs1]
    refine ⟨q2, q3, _, _, rfl, rfl, Same.new nq3 _ _ e2, upd_same, line6 (by rw [List.length_map, List.length_append, List.length_take, List.length_drop, rV, List.length_map]; show _ + 1 + _ ≤ 1000; omega), fun q4 nq4 => ?_⟩
    dsimp only [gName]
    have d4 : q4 ≠ aP := (ne_of_none (Same.new nq3 _ _ (u6 _ _ eP3)) nq4).symm
    generalize hG : upd (upd H6 q3 _) q4 _ = H7'
    have e4 : H7' q4 = some (.lst (rV (ins fs s0 g))) := by rw [← hG, upd_same]; simp [rV]
    have u7 : Same H6 H7' := hG ▸ (Same.new nq3).trans (Same.new nq4)
    clear hG
    have w7 := u6.trans u7
    exact ⟨q4, ins fs s0 g, ins gvs s0 ys, sp ++ [(s0 : Int)], _, _, rfl, s3.trans w7, w7 _ _ eP3, d4, e4, (hT3.same w7).ins (by omega) (u7 _ _ (v6 _ _ eg)) (fun x hx => ((hbd.ok x hx).same v6).same u7) (by have := hbd.l; omega), by rw [ins_len (by omega)]; omega, hJ.next (by omega) (by rw [← hT.l]; omega) hbd.g⟩
  rintro σ H15 ⟨aF', fs, gvs, sp, v8, v11, rfl, s15, eP, dF, eF, hT, hfl, hJ⟩
  have B := B13.same s15
  have hgf := hT.l
  refine JoinD (C := fun d => Fst m d gvs) (G := ?G) (fun rest => ?a) ?k
  case a =>
    rcases hJ with ⟨rfl, _⟩ | ⟨rfl, s0, rfl, hF⟩ | ⟨rfl, s0, s1, rfl, hF⟩
    · omega
    · refine ⟨_, rfl, aP, _, _, _, rfl, rfl, .of eP, rfl, ?_⟩
      refine ⟨_, rfl, aP, _, rfl, .inl (.of eP), rfl, _, rfl, iteF ?_⟩
      exact rest s0 hF
    · refine ⟨_, rfl, aP, _, _, _, rfl, rfl, .of eP, rfl, ?_⟩
      refine ⟨_, rfl, aP, _, rfl, .inl (.of eP), rfl, _, rfl, iteT ?_⟩
      refine ⟨_, rfl, aP, _, rfl, .of eP, by show 0 < 2; decide, fun M hM hle => ?_⟩
      have eM : M = ((min s1 s0 : Nat) : Int) := by
        have h0 := hle (s0 : Int) List.mem_cons_self
        have h1 := hle (s1 : Int) (List.mem_cons_of_mem _ List.mem_cons_self)
        rcases List.mem_cons.mp hM with h | h
        · omega
        · have := List.mem_singleton.mp h; omega
      rw [eM]
      exact rest (min s1 s0) hF
  case k =>
  intro d hF
  obtain ⟨ys, hys, hbad⟩ := hF.x
  have hd : d < fs.length := by rw [hgf]; exact (List.getElem?_eq_some_iff.mp hys).1
  obtain ⟨g, hg⟩ : ∃ g, fs[d]? = some g := ⟨fs[d], List.getElem?_eq_getElem hd⟩
  obtain ⟨ys', hy1, eg, hok, hyl⟩ := hT.g d g hg
  rw [hys] at hy1
  cases hy1
  have hat : atI (rV fs) (d : Int) = some (.ref g) := atI_nat (by rw [rV, List.getElem?_map, hg]; rfl)
  have hfs : fs.length ≤ 127 := by omega
  obtain ⟨g0, fr, rfl⟩ : ∃ g0 fr, fs = g0 :: fr := by
    cases fs with
    | nil => cases hg
    | cons g0 fr => exact ⟨g0, fr, rfl⟩
  have nsl := hFit.l
  refine ⟨_, rfl, _, _, rfl, rfl, cdB (by decide) (by decide), _, _, rfl, rfl, (by show (0 : Int) < _; decide), rfl, _, rfl, ?_⟩
  refine ite2 (fun hc => ?_) (fun hc => ?_)
  · -- no list
    have p0 := em_nn (c.fdiv 48) (m := 3) (by decide)
    have p1 := em_lt (c.fdiv 48) (m := 3) (by decide)
    obtain ⟨L, hL, hL2⟩ := pick_L (n := (zV ns).length) (by rw [List.length_map, nsl]; omega) p0 p1
    rw [List.length_map, nsl] at hL2
    refine ⟨line6 (by show 1 ≤ 1000; decide), fun z1 nz1 => ?_⟩
    generalize hG : upd H15 z1 _ = H16
    have ez : H16 z1 = some (.lst [V.int 0]) := by rw [← hG]; exact upd_same
    have u16 : Same H15 H16 := hG ▸ Same.new nz1
    clear hG
    have en := u16 _ _ B.n
    refine ⟨_, rfl, aN, _, rfl, .inl (.of en), _, rfl, aN, _, rfl, .inl (.of en), _, _, rfl, rfl, _, rfl, aN, _, rfl, .inl (.of en), _, _, rfl, rfl, line6 (by show 3 ≤ 1000; decide), fun z2 nz2 => ?_⟩
    refine ⟨_, rfl, _, _, rfl, rfl, cdB (by decide) (by decide), _, _, rfl, rfl, (by show (0 : Int) < _; decide), z2, _, _, _, rfl, rfl, .of upd_same, hL, ?_⟩
    refine ⟨z1, (L : Int), _, rfl, rfl, Same.new nz2 _ _ ez, by omega, by omega, line6 (by rw [Int.toNat_natCast]; show 1 * L ≤ 1000; omega), fun aZ nZ => ?_⟩
    dsimp only [gName]
    generalize hG : upd (upd H16 z2 _) aZ _ = H17
    have eZ : H17 aZ = some (.lst (zV (List.replicate L 0))) := by rw [← hG, upd_same, Int.toNat_natCast, rep0]
    have u17 : Same H15 H17 := hG ▸ (u16.trans (Same.new nz2)).trans (Same.new nZ)
    clear hG
    have hNo : NoNs (List.replicate L 0) := .inr fun ⟨x, hx, hne⟩ => hne (List.eq_of_mem_replicate hx)
    refine ⟨line6 (by show 4 ≤ 1000; decide), fun f1 nf1 => ?_⟩
    refine ⟨_, rfl, line6 (by show 2 ≤ 1000; decide), fun aX nX => ?_⟩
    dsimp only [gName]
    generalize hG : upd (upd H17 f1 _) aX _ = H18
    have ef : H18 f1 = some (.lst [V.bl true, .bl false, .bl true, .bl false]) := by rw [← hG]; exact Same.new nX _ _ upd_same
    have eX : H18 aX = some (.tup [V.ref f1, .int (-1)]) := by rw [← hG]; exact upd_same
    have v18 : Same H17 H18 := hG ▸ (Same.new nf1).trans (Same.new nX)
    clear hG
    have u18 := u17.trans v18
    refine ⟨_, rfl, _, rfl, .inl ⟨aZ, aF', g0, _, fr, 0, rfl, .inl rfl, .of (v18 _ _ eZ), hNo, .of (u18 _ _ eF), fun p q H19 s19 np nq ep eq => ?_⟩⟩
    refine ⟨_, rfl, p, aX, _, _, rfl, rfl, sqT ep, sqT (s19 _ _ eX), rfl, al_pair (al_flat rfl (ne_of_none ef nq).symm eq (s19 _ _ ef)) (.of (.of (.flat rfl))), _, rfl, iteT ?_⟩
    have u19 := u18.trans s19
    refine ⟨_, rfl, _, rfl, _, rfl, aF', _, _, _, rfl, rfl, .of (u19 _ _ eF), hat, line6 (by show 1 ≤ 1000; decide), fun l nl => ?_⟩
    refine .inl ⟨aZ, l, g, _, [], 1, rfl, .inr rfl, .of (Same.new nl _ _ (s19 _ _ (v18 _ _ eZ))), hNo, .of upd_same, fun p2 q2 H20 s20 np2 nq2 ep2 eq2 => ?_⟩
    have ef2 := Same.new (o := .lst [V.ref g]) nl _ _ (s19 _ _ ef)
    refine ⟨_, rfl, p2, aX, _, _, rfl, rfl, sqT ep2, sqT (s20 _ _ (Same.new nl _ _ (s19 _ _ eX))), rfl, al_pair (al_flat rfl (ne_of_none ef2 nq2).symm eq2 (s20 _ _ ef2)) (.of (.of (.flat rfl))), k _⟩
  · -- the first that is no gate
    refine ⟨_, rfl, aN, _, rfl, .inl (.of B.n), fun b1 n1 => ?_⟩
    generalize hG : upd H15 b1 _ = H16
    have eb : H16 b1 = some (.lst (zV ns)) := by rw [← hG]; exact upd_same
    have u16 : Same H15 H16 := hG ▸ Same.new n1
    clear hG
    refine ⟨_, rfl, .inr (.inl ⟨b1, aF', ns, g0 :: fr, gvs, m, d, rfl, .of eb, nsl, m1, m6, hFit.s, .of (u16 _ _ eF), hT.same u16, hfs, hF, fun p q H17 s17 np nq ep eq => ?_⟩)⟩
    dsimp only [gName]
    have u17 := u16.trans s17
    refine ⟨_, rfl, line6 (by show 4 ≤ 1000; decide), fun w2 nw2 => ?_⟩
    refine ⟨_, rfl, line6 (by show 2 ≤ 1000; decide), fun aV nV => ?_⟩
    have v2 := Same.new (o := .lst Wr) nw2
    have v3 := Same.new (o := .tup [.ref w2, .int d]) nV
    refine ⟨p, aV, _, _, rfl, rfl, sqT (v3 _ _ (v2 _ _ ep)), sqT upd_same, rfl, al_pair (al_flat (xs := Wr) rfl (ne_of_none eq nw2) (v3 _ _ (v2 _ _ eq)) (v3 _ _ upd_same)) (.of (.of (.flat rfl))), _, rfl, iteF ?_⟩
    refine ⟨_, rfl, p, _, _, _, rfl, rfl, sqT (v3 _ _ (v2 _ _ ep)), rfl, _, _, _, _, _, rfl, rfl, .of (.int d), k_ib K, _, rfl, iteF ?_⟩
    have u18 := (u17.trans v2).trans v3
    generalize upd (upd H17 w2 _) aV _ = H18 at u18 ⊢
    clear v3 v2 nV nw2 eq ep np nq s17 u17 eb u16
    have B := B.same u18
    have eF := u18 _ _ eF
    have eg := u18 _ _ eg
    have hok : ∀ x ∈ ys, Okv H18 x := fun x hx => (hok x hx).same u18
    refine ⟨_, rfl, aN, _, rfl, .inl (.of B.n), fun b2 n2 => ?_⟩
    generalize hG : upd H18 b2 _ = H19
    have u19 : Same H18 H19 := hG ▸ Same.new n2
    clear hG
    have B := B.same u19
    refine ⟨_, rfl, a, ss, 1, rfl, B.s, hl, by omega, fun x x0 x1 H20 s20 => ?_⟩
    refine ⟨x, 6, rfl, by decide, by decide, fun g2 zs H21 s21 eg2 hbd => ?_⟩
    have B := (B.same s20).same s21
    refine ⟨line6 (by show 1 ≤ 1000; decide), fun l nl => ?_⟩
    have v := Same.new (o := .lst (rV [g2])) nl
    have B := B.same v
    refine .inr (.inr (.inr ⟨b2, l, g2, zs, rfl, .of upd_same, v _ _ eg2, fun x hx => (hbd.ok x hx).same v, by have := hbd.l; omega, hbd.g, fun p q H22 s22 np nq ep eq => ?_⟩))
    have nw : q ≠ w1 := (ne_of_none B.v nq).symm
    have B := B.same s22
    refine ⟨_, rfl, p, aW, _, _, rfl, rfl, sqT ep, sqT B.w, rfl, al_pair (al_flat (xs := Wr) rfl nw eq B.v) (.of (.of (.flat rfl))), _, rfl, iteF ?_⟩
    have u22 := (((u19.trans s20).trans s21).trans v).trans s22
    have eF := u22 _ _ eF
    have eg := u22 _ _ eg
    have hok : ∀ x ∈ ys, Okv H22 x := fun x hx => (hok x hx).same u22
    refine ⟨_, rfl, aN, _, rfl, .inl (.of B.n), fun b3 n3 => ?_⟩
    generalize hG : upd H22 b3 _ = H23
    have eb3 : H23 b3 = some (.lst (zV ns)) := by rw [← hG]; exact upd_same
    have u23 : Same H22 H23 := hG ▸ Same.new n3
    clear hG
    refine ⟨_, rfl, _, rfl, aF', _, _, _, rfl, rfl, .of (u23 _ _ eF), hat, line6 (by show 1 ≤ 1000; decide), fun l2 nl2 => ?_⟩
    have v2 := Same.new (o := .lst (rV [g])) nl2
    have B := (B.same u23).same v2
    refine .inr (.inr (.inl ⟨b3, l2, g, ns, ys, m, rfl, .of (v2 _ _ eb3), nsl, m1, m6, hFit.s, .of upd_same, v2 _ _ (u23 _ _ eg), fun x hx => ((hok x hx).same u23).same v2, hyl, hbad, fun p2 q2 H24 s24 np2 nq2 ep2 eq2 => ?_⟩))
    have nw2 : q2 ≠ w1 := (ne_of_none B.v nq2).symm
    have B := B.same s24
    exact ⟨_, rfl, p2, aW, _, _, rfl, rfl, sqT ep2, sqT B.w, rfl, al_pair (al_flat (xs := Wr) rfl nw2 eq2 B.v) (.of (.of (.flat rfl))), k _⟩
end
end K05

set_option maxHeartbeats 4000000
namespace K05
open PySem L2 TC
theorem lenS {us : List Value} {n : Nat} (h : us.length = n + 1) : ∃ x vs, us = x :: vs ∧ vs.length = n := by cases us with | nil => cases h | cons x vs => exact ⟨x, vs, rfl, Nat.succ.inj h⟩
theorem len1 {us : List Value} (h : us.length = 1) : ∃ x0, us = [x0] := by obtain ⟨x0, u0, rfl, h0⟩ := lenS h; have e := List.length_eq_zero_iff.mp h0; subst e; exact ⟨x0, rfl⟩
theorem len2 {us : List Value} (h : us.length = 2) : ∃ x0 x1, us = [x0, x1] := by obtain ⟨x0, u0, rfl, h0⟩ := lenS h; obtain ⟨x1, u1, rfl, h1⟩ := lenS h0; have e := List.length_eq_zero_iff.mp h1; subst e; exact ⟨x0, x1, rfl⟩
theorem len3 {us : List Value} (h : us.length = 3) : ∃ x0 x1 x2, us = [x0, x1, x2] := by obtain ⟨x0, u0, rfl, h0⟩ := lenS h; obtain ⟨x1, u1, rfl, h1⟩ := lenS h0; obtain ⟨x2, u2, rfl, h2⟩ := lenS h1; have e := List.length_eq_zero_iff.mp h2; subst e; exact ⟨x0, x1, x2, rfl⟩
theorem len4 {us : List Value} (h : us.length = 4) : ∃ x0 x1 x2 x3, us = [x0, x1, x2, x3] := by obtain ⟨x0, u0, rfl, h0⟩ := lenS h; obtain ⟨x1, u1, rfl, h1⟩ := lenS h0; obtain ⟨x2, u2, rfl, h2⟩ := lenS h1; obtain ⟨x3, u3, rfl, h3⟩ := lenS h2; have e := List.length_eq_zero_iff.mp h3; subst e; exact ⟨x0, x1, x2, x3, rfl⟩
theorem all_mk {l : PySem.W.OpenLaw} {w : World} {K : PySem.W.Frag} {h : Heap} {mg : Str → Option Value} {fa : Addr} (X : K.In h) (G : h.Ns mainGlobals mg) (hfa : mg "law" = some (.ref fa))
    {f0 : Addr} {od0 an0 : Option Addr} {sl0 : Array (Option Value)} {oc0 kV0 dc0 pm0 cd0 ct0 : Value}
    {f1 : Addr} {od1 an1 : Option Addr} {sl1 : Array (Option Value)} {oc1 kV1 dc1 pm1 cd1 ct1 : Value}
    {f2 : Addr} {od2 an2 : Option Addr} {sl2 : Array (Option Value)} {oc2 kV2 dc2 pm2 cd2 ct2 : Value}
    {f3 : Addr} {od3 an3 : Option Addr} {sl3 : Array (Option Value)} {oc3 kV3 dc3 pm3 cd3 ct3 : Value}
    {f4 : Addr} {od4 an4 : Option Addr} {sl4 : Array (Option Value)} {oc4 kV4 dc4 pm4 cd4 ct4 : Value}
    {f5 : Addr} {od5 an5 : Option Addr} {sl5 : Array (Option Value)} {oc5 kV5 dc5 pm5 cd5 ct5 : Value}
    {f6 : Addr} {od6 an6 : Option Addr} {sl6 : Array (Option Value)} {oc6 kV6 dc6 pm6 cd6 ct6 : Value}
    {f7 : Addr} {od7 an7 : Option Addr} {sl7 : Array (Option Value)} {oc7 kV7 dc7 pm7 cd7 ct7 : Value}
    {f8 : Addr} {od8 an8 : Option Addr} {sl8 : Array (Option Value)} {oc8 kV8 dc8 pm8 cd8 ct8 : Value}
    {f9 : Addr} {od9 an9 : Option Addr} {sl9 : Array (Option Value)} {oc9 kV9 dc9 pm9 cd9 ct9 : Value}
    {f10 : Addr} {od10 an10 : Option Addr} {sl10 : Array (Option Value)} {oc10 kV10 dc10 pm10 cd10 ct10 : Value}
    {f11 : Addr} {od11 an11 : Option Addr} {sl11 : Array (Option Value)} {oc11 kV11 dc11 pm11 cd11 ct11 : Value}
    {f12 : Addr} {od12 an12 : Option Addr} {sl12 : Array (Option Value)} {oc12 kV12 dc12 pm12 cd12 ct12 : Value}
    {f13 : Addr} {od13 an13 : Option Addr} {sl13 : Array (Option Value)} {oc13 kV13 dc13 pm13 cd13 ct13 : Value}
    {f14 : Addr} {od14 an14 : Option Addr} {sl14 : Array (Option Value)} {oc14 kV14 dc14 pm14 cd14 ct14 : Value}
    {f15 : Addr} {od15 an15 : Option Addr} {sl15 : Array (Option Value)} {oc15 kV15 dc15 pm15 cd15 ct15 : Value}
    {f16 : Addr} {od16 an16 : Option Addr} {sl16 : Array (Option Value)} {oc16 kV16 dc16 pm16 cd16 ct16 : Value}
    {f17 : Addr} {od17 an17 : Option Addr} {sl17 : Array (Option Value)} {oc17 kV17 dc17 pm17 cd17 ct17 : Value}
    {f18 : Addr} {od18 an18 : Option Addr} {sl18 : Array (Option Value)} {oc18 kV18 dc18 pm18 cd18 ct18 : Value}
    {f19 : Addr} {od19 an19 : Option Addr} {sl19 : Array (Option Value)} {oc19 kV19 dc19 pm19 cd19 ct19 : Value}
    {f20 : Addr} {od20 an20 : Option Addr} {sl20 : Array (Option Value)} {oc20 kV20 dc20 pm20 cd20 ct20 : Value}
    {f21 : Addr} {od21 an21 : Option Addr} {sl21 : Array (Option Value)} {oc21 kV21 dc21 pm21 cd21 ct21 : Value}
    {f22 : Addr} {od22 an22 : Option Addr} {sl22 : Array (Option Value)} {oc22 kV22 dc22 pm22 cd22 ct22 : Value}
    {f23 : Addr} {od23 an23 : Option Addr} {sl23 : Array (Option Value)} {oc23 kV23 dc23 pm23 cd23 ct23 : Value}
    {f24 : Addr} {od24 an24 : Option Addr} {sl24 : Array (Option Value)} {oc24 kV24 dc24 pm24 cd24 ct24 : Value}
    {aL : Addr} {odL : Option Addr} {slL : Array (Option Value)} {nLn : Nat} {t1 t2 t3 t4 t5 t6 : Tok}
    {A_CoinError : Addr} {q_CoinError : ClassData}
    {A_NoList : Addr} {q_NoList : ClassData}
    {A_NoGate : Addr} {q_NoGate : ClassData}
    {A_NoLook : Addr} {q_NoLook : ClassData}
    {A_NotFree : Addr} {q_NotFree : ClassData}
    {A_NoRows : Addr} {q_NoRows : ClassData}
    {A_NoShort : Addr} {q_NoShort : ClassData}
    {A_NoTable : Addr} {q_NoTable : ClassData}
    {A_NoCode : Addr} {q_NoCode : ClassData}
    {A_CantMend : Addr} {q_CantMend : ClassData}
    {A_NoText : Addr} {q_NoText : ClassData}
    {A_NoName : Addr} {q_NoName : ClassData}
    {A_NoLine : Addr} {q_NoLine : ClassData}
    {fI_NoGate : Addr} {odI_NoGate anI_NoGate : Option Addr} {slI_NoGate : Array (Option Value)} {ocI_NoGate kVI_NoGate dcI_NoGate pmI_NoGate cdI_NoGate ctI_NoGate : Value}
    {aW1 aW2 : Addr} {odW1 odW2 : Option Addr} {slW1 slW2 : Array (Option Value)} {nW1 nW2 : Nat} {tw1 tw2 tw3 tw4 tw5 tw6 : Tok}
    {tmc : Tok}
    (a0 : PySem.W.nsIn K mainGlobals "check_list" = some (some (.ref f0)))
    (l0 : K.lookup f0 = some ⟨oc0, od0, .func (PySem.W.fnOf "check_list" "check_list" (defArgs s_check_list) (defBody s_check_list) (defScope s_check_list) .none kV0 dc0 pm0 an0 cd0 ct0), sl0⟩)
    (c0 : PySem.W.codeIn K cd0 "check_list" = true)
    (k0 : PySem.W.keepIn K (.ref f0) = true)
    (a1 : PySem.W.nsIn K mainGlobals "coins_of" = some (some (.ref f1)))
    (l1 : K.lookup f1 = some ⟨oc1, od1, .func (PySem.W.fnOf "coins_of" "coins_of" (defArgs s_coins_of) (defBody s_coins_of) (defScope s_coins_of) .none kV1 dc1 pm1 an1 cd1 ct1), sl1⟩)
    (c1 : PySem.W.codeIn K cd1 "coins_of" = true)
    (k1 : PySem.W.keepIn K (.ref f1) = true)
    (a2 : PySem.W.nsIn K mainGlobals "greatest_divisor" = some (some (.ref f2)))
    (l2 : K.lookup f2 = some ⟨oc2, od2, .func (PySem.W.fnOf "greatest_divisor" "greatest_divisor" (defArgs s_greatest_divisor) (defBody s_greatest_divisor) (defScope s_greatest_divisor) .none kV2 dc2 pm2 an2 cd2 ct2), sl2⟩)
    (c2 : PySem.W.codeIn K cd2 "greatest_divisor" = true)
    (k2 : PySem.W.keepIn K (.ref f2) = true)
    (a3 : PySem.W.nsIn K mainGlobals "divisor_of_all" = some (some (.ref f3)))
    (l3 : K.lookup f3 = some ⟨oc3, od3, .func (PySem.W.fnOf "divisor_of_all" "divisor_of_all" (defArgs s_divisor_of_all) (defBody s_divisor_of_all) (defScope s_divisor_of_all) .none kV3 dc3 pm3 an3 cd3 ct3), sl3⟩)
    (c3 : PySem.W.codeIn K cd3 "divisor_of_all" = true)
    (k3 : PySem.W.keepIn K (.ref f3) = true)
    (a4 : PySem.W.nsIn K mainGlobals "begins_below_nought" = some (some (.ref f4)))
    (l4 : K.lookup f4 = some ⟨oc4, od4, .func (PySem.W.fnOf "begins_below_nought" "begins_below_nought" (defArgs s_begins_below_nought) (defBody s_begins_below_nought) (defScope s_begins_below_nought) .none kV4 dc4 pm4 an4 cd4 ct4), sl4⟩)
    (c4 : PySem.W.codeIn K cd4 "begins_below_nought" = true)
    (k4 : PySem.W.keepIn K (.ref f4) = true)
    (a5 : PySem.W.nsIn K mainGlobals "least" = some (some (.ref f5)))
    (l5 : K.lookup f5 = some ⟨oc5, od5, .func (PySem.W.fnOf "least" "least" (defArgs s_least) (defBody s_least) (defScope s_least) .none kV5 dc5 pm5 an5 cd5 ct5), sl5⟩)
    (c5 : PySem.W.codeIn K cd5 "least" = true)
    (k5 : PySem.W.keepIn K (.ref f5) = true)
    (a6 : PySem.W.nsIn K mainGlobals "is_coin" = some (some (.ref f6)))
    (l6 : K.lookup f6 = some ⟨oc6, od6, .func (PySem.W.fnOf "is_coin" "is_coin" (defArgs s_is_coin) (defBody s_is_coin) (defScope s_is_coin) .none kV6 dc6 pm6 an6 cd6 ct6), sl6⟩)
    (c6 : PySem.W.codeIn K cd6 "is_coin" = true)
    (k6 : PySem.W.keepIn K (.ref f6) = true)
    (a7 : PySem.W.nsIn K mainGlobals "is_gate" = some (some (.ref f7)))
    (l7 : K.lookup f7 = some ⟨oc7, od7, .func (PySem.W.fnOf "is_gate" "is_gate" (defArgs s_is_gate) (defBody s_is_gate) (defScope s_is_gate) .none kV7 dc7 pm7 an7 cd7 ct7), sl7⟩)
    (c7 : PySem.W.codeIn K cd7 "is_gate" = true)
    (k7 : PySem.W.keepIn K (.ref f7) = true)
    (a8 : PySem.W.nsIn K mainGlobals "check_gates" = some (some (.ref f8)))
    (l8 : K.lookup f8 = some ⟨oc8, od8, .func (PySem.W.fnOf "check_gates" "check_gates" (defArgs s_check_gates) (defBody s_check_gates) (defScope s_check_gates) .none kV8 dc8 pm8 an8 cd8 ct8), sl8⟩)
    (c8 : PySem.W.codeIn K cd8 "check_gates" = true)
    (k8 : PySem.W.keepIn K (.ref f8) = true)
    (a9 : PySem.W.nsIn K mainGlobals "on_back" = some (some (.ref f9)))
    (l9 : K.lookup f9 = some ⟨oc9, od9, .func (PySem.W.fnOf "on_back" "on_back" (defArgs s_on_back) (defBody s_on_back) (defScope s_on_back) .none kV9 dc9 pm9 an9 cd9 ct9), sl9⟩)
    (c9 : PySem.W.codeIn K cd9 "on_back" = true)
    (k9 : PySem.W.keepIn K (.ref f9) = true)
    (a10 : PySem.W.nsIn K mainGlobals "other_way" = some (some (.ref f10)))
    (l10 : K.lookup f10 = some ⟨oc10, od10, .func (PySem.W.fnOf "other_way" "other_way" (defArgs s_other_way) (defBody s_other_way) (defScope s_other_way) .none kV10 dc10 pm10 an10 cd10 ct10), sl10⟩)
    (c10 : PySem.W.codeIn K cd10 "other_way" = true)
    (k10 : PySem.W.keepIn K (.ref f10) = true)
    (a11 : PySem.W.nsIn K mainGlobals "mixed_at" = some (some (.ref f11)))
    (l11 : K.lookup f11 = some ⟨oc11, od11, .func (PySem.W.fnOf "mixed_at" "mixed_at" (defArgs s_mixed_at) (defBody s_mixed_at) (defScope s_mixed_at) .none kV11 dc11 pm11 an11 cd11 ct11), sl11⟩)
    (c11 : PySem.W.codeIn K cd11 "mixed_at" = true)
    (k11 : PySem.W.keepIn K (.ref f11) = true)
    (a12 : PySem.W.nsIn K mainGlobals "signed_at" = some (some (.ref f12)))
    (l12 : K.lookup f12 = some ⟨oc12, od12, .func (PySem.W.fnOf "signed_at" "signed_at" (defArgs s_signed_at) (defBody s_signed_at) (defScope s_signed_at) .none kV12 dc12 pm12 an12 cd12 ct12), sl12⟩)
    (c12 : PySem.W.codeIn K cd12 "signed_at" = true)
    (k12 : PySem.W.keepIn K (.ref f12) = true)
    (a13 : PySem.W.nsIn K mainGlobals "followed_at" = some (some (.ref f13)))
    (l13 : K.lookup f13 = some ⟨oc13, od13, .func (PySem.W.fnOf "followed_at" "followed_at" (defArgs s_followed_at) (defBody s_followed_at) (defScope s_followed_at) .none kV13 dc13 pm13 an13 cd13 ct13), sl13⟩)
    (c13 : PySem.W.codeIn K cd13 "followed_at" = true)
    (k13 : PySem.W.keepIn K (.ref f13) = true)
    (a14 : PySem.W.nsIn K mainGlobals "met_at" = some (some (.ref f14)))
    (l14 : K.lookup f14 = some ⟨oc14, od14, .func (PySem.W.fnOf "met_at" "met_at" (defArgs s_met_at) (defBody s_met_at) (defScope s_met_at) .none kV14 dc14 pm14 an14 cd14 ct14), sl14⟩)
    (c14 : PySem.W.codeIn K cd14 "met_at" = true)
    (k14 : PySem.W.keepIn K (.ref f14) = true)
    (a15 : PySem.W.nsIn K mainGlobals "swapped_at" = some (some (.ref f15)))
    (l15 : K.lookup f15 = some ⟨oc15, od15, .func (PySem.W.fnOf "swapped_at" "swapped_at" (defArgs s_swapped_at) (defBody s_swapped_at) (defScope s_swapped_at) .none kV15 dc15 pm15 an15 cd15 ct15), sl15⟩)
    (c15 : PySem.W.codeIn K cd15 "swapped_at" = true)
    (k15 : PySem.W.keepIn K (.ref f15) = true)
    (a16 : PySem.W.nsIn K mainGlobals "number_behind" = some (some (.ref f16)))
    (l16 : K.lookup f16 = some ⟨oc16, od16, .func (PySem.W.fnOf "number_behind" "number_behind" (defArgs s_number_behind) (defBody s_number_behind) (defScope s_number_behind) .none kV16 dc16 pm16 an16 cd16 ct16), sl16⟩)
    (c16 : PySem.W.codeIn K cd16 "number_behind" = true)
    (k16 : PySem.W.keepIn K (.ref f16) = true)
    (a17 : PySem.W.nsIn K mainGlobals "turned_by" = some (some (.ref f17)))
    (l17 : K.lookup f17 = some ⟨oc17, od17, .func (PySem.W.fnOf "turned_by" "turned_by" (defArgs s_turned_by) (defBody s_turned_by) (defScope s_turned_by) .none kV17 dc17 pm17 an17 cd17 ct17), sl17⟩)
    (c17 : PySem.W.codeIn K cd17 "turned_by" = true)
    (k17 : PySem.W.keepIn K (.ref f17) = true)
    (a18 : PySem.W.nsIn K mainGlobals "turned" = some (some (.ref f18)))
    (l18 : K.lookup f18 = some ⟨oc18, od18, .func (PySem.W.fnOf "turned" "turned" (defArgs s_turned) (defBody s_turned) (defScope s_turned) .none kV18 dc18 pm18 an18 cd18 ct18), sl18⟩)
    (c18 : PySem.W.codeIn K cd18 "turned" = true)
    (k18 : PySem.W.keepIn K (.ref f18) = true)
    (a19 : PySem.W.nsIn K mainGlobals "moved" = some (some (.ref f19)))
    (l19 : K.lookup f19 = some ⟨oc19, od19, .func (PySem.W.fnOf "moved" "moved" (defArgs s_moved) (defBody s_moved) (defScope s_moved) .none kV19 dc19 pm19 an19 cd19 ct19), sl19⟩)
    (c19 : PySem.W.codeIn K cd19 "moved" = true)
    (k19 : PySem.W.keepIn K (.ref f19) = true)
    (a20 : PySem.W.nsIn K mainGlobals "_law_cell" = some (some (.ref f20)))
    (l20 : K.lookup f20 = some ⟨oc20, od20, .func (PySem.W.fnOf "_law_cell" "_law_cell" (defArgs s_law_cell) (defBody s_law_cell) (defScope s_law_cell) .none kV20 dc20 pm20 an20 cd20 ct20), sl20⟩)
    (c20 : PySem.W.codeIn K cd20 "_law_cell" = true)
    (k20 : PySem.W.keepIn K (.ref f20) = true)
    (a21 : PySem.W.nsIn K mainGlobals "_law_gate" = some (some (.ref f21)))
    (l21 : K.lookup f21 = some ⟨oc21, od21, .func (PySem.W.fnOf "_law_gate" "_law_gate" (defArgs s_law_gate) (defBody s_law_gate) (defScope s_law_gate) .none kV21 dc21 pm21 an21 cd21 ct21), sl21⟩)
    (c21 : PySem.W.codeIn K cd21 "_law_gate" = true)
    (k21 : PySem.W.keepIn K (.ref f21) = true)
    (a22 : PySem.W.nsIn K mainGlobals "_law_bad" = some (some (.ref f22)))
    (l22 : K.lookup f22 = some ⟨oc22, od22, .func (PySem.W.fnOf "_law_bad" "_law_bad" (defArgs s_law_bad) (defBody s_law_bad) (defScope s_law_bad) .none kV22 dc22 pm22 an22 cd22 ct22), sl22⟩)
    (c22 : PySem.W.codeIn K cd22 "_law_bad" = true)
    (k22 : PySem.W.keepIn K (.ref f22) = true)
    (a23 : PySem.W.nsIn K mainGlobals "_law_seen" = some (some (.ref f23)))
    (l23 : K.lookup f23 = some ⟨oc23, od23, .func (PySem.W.fnOf "_law_seen" "_law_seen" (defArgs s_law_seen) (defBody s_law_seen) (defScope s_law_seen) .none kV23 dc23 pm23 an23 cd23 ct23), sl23⟩)
    (c23 : PySem.W.codeIn K cd23 "_law_seen" = true)
    (k23 : PySem.W.keepIn K (.ref f23) = true)
    (a24 : PySem.W.nsIn K mainGlobals "law" = some (some (.ref f24)))
    (l24 : K.lookup f24 = some ⟨oc24, od24, .func (PySem.W.fnOf "law" "law" (defArgs s_law) (defBody s_law) (defScope s_law) .none kV24 dc24 pm24 an24 cd24 ct24), sl24⟩)
    (c24 : PySem.W.codeIn K cd24 "law" = true)
    (k24 : PySem.W.keepIn K (.ref f24) = true)
    (z1 : PySem.W.nsIn K mainGlobals "len" = some none)
    (z2 : PySem.W.nsIn K mainGlobals "range" = some none)
    (z3 : PySem.W.nsIn K mainGlobals "abs" = some none)
    (z4 : PySem.W.nsIn K mainGlobals "any" = some none)
    (z5 : PySem.W.nsIn K mainGlobals "all" = some none)
    (z6 : PySem.W.nsIn K mainGlobals "isinstance" = some none)
    (z7 : PySem.W.nsIn K mainGlobals "int" = some none)
    (z8 : PySem.W.nsIn K mainGlobals "bool" = some none)
    (z9 : PySem.W.nsIn K mainGlobals "list" = some none)
    (z10 : PySem.W.nsIn K mainGlobals "str" = some none)
    (z11 : PySem.W.nsIn K mainGlobals "tuple" = some none)
    (z12 : PySem.W.nsIn K mainGlobals "enumerate" = some none)
    (z13 : PySem.W.nsIn K mainGlobals "ValueError" = some none)
    (g1 : PySem.W.nsIn K mainGlobals "LENGTHS" = some (some (.ref aL)))
    (g2 : K.lookup aL = some ⟨.type "tuple", odL, .seq #[.int 2 t1, .int 4 t2, .int 8 t3, .int 16 t4, .int 32 t5, .int 64 t6] nLn, slL⟩)
    (u_CoinError : PySem.W.nsIn K mainGlobals "CoinError" = some (some (.ref A_CoinError)))
    (v_CoinError : PySem.W.clsIn K A_CoinError = some q_CoinError)
    (w_CoinError : PySem.W.typeIn K (.ref A_CoinError) = some (.type "type"))
    (u_NoList : PySem.W.nsIn K mainGlobals "NoList" = some (some (.ref A_NoList)))
    (v_NoList : PySem.W.clsIn K A_NoList = some q_NoList)
    (w_NoList : PySem.W.typeIn K (.ref A_NoList) = some (.type "type"))
    (u_NoGate : PySem.W.nsIn K mainGlobals "NoGate" = some (some (.ref A_NoGate)))
    (v_NoGate : PySem.W.clsIn K A_NoGate = some q_NoGate)
    (w_NoGate : PySem.W.typeIn K (.ref A_NoGate) = some (.type "type"))
    (u_NoLook : PySem.W.nsIn K mainGlobals "NoLook" = some (some (.ref A_NoLook)))
    (v_NoLook : PySem.W.clsIn K A_NoLook = some q_NoLook)
    (w_NoLook : PySem.W.typeIn K (.ref A_NoLook) = some (.type "type"))
    (u_NotFree : PySem.W.nsIn K mainGlobals "NotFree" = some (some (.ref A_NotFree)))
    (v_NotFree : PySem.W.clsIn K A_NotFree = some q_NotFree)
    (w_NotFree : PySem.W.typeIn K (.ref A_NotFree) = some (.type "type"))
    (u_NoRows : PySem.W.nsIn K mainGlobals "NoRows" = some (some (.ref A_NoRows)))
    (v_NoRows : PySem.W.clsIn K A_NoRows = some q_NoRows)
    (w_NoRows : PySem.W.typeIn K (.ref A_NoRows) = some (.type "type"))
    (u_NoShort : PySem.W.nsIn K mainGlobals "NoShort" = some (some (.ref A_NoShort)))
    (v_NoShort : PySem.W.clsIn K A_NoShort = some q_NoShort)
    (w_NoShort : PySem.W.typeIn K (.ref A_NoShort) = some (.type "type"))
    (u_NoTable : PySem.W.nsIn K mainGlobals "NoTable" = some (some (.ref A_NoTable)))
    (v_NoTable : PySem.W.clsIn K A_NoTable = some q_NoTable)
    (w_NoTable : PySem.W.typeIn K (.ref A_NoTable) = some (.type "type"))
    (u_NoCode : PySem.W.nsIn K mainGlobals "NoCode" = some (some (.ref A_NoCode)))
    (v_NoCode : PySem.W.clsIn K A_NoCode = some q_NoCode)
    (w_NoCode : PySem.W.typeIn K (.ref A_NoCode) = some (.type "type"))
    (u_CantMend : PySem.W.nsIn K mainGlobals "CantMend" = some (some (.ref A_CantMend)))
    (v_CantMend : PySem.W.clsIn K A_CantMend = some q_CantMend)
    (w_CantMend : PySem.W.typeIn K (.ref A_CantMend) = some (.type "type"))
    (u_NoText : PySem.W.nsIn K mainGlobals "NoText" = some (some (.ref A_NoText)))
    (v_NoText : PySem.W.clsIn K A_NoText = some q_NoText)
    (w_NoText : PySem.W.typeIn K (.ref A_NoText) = some (.type "type"))
    (u_NoName : PySem.W.nsIn K mainGlobals "NoName" = some (some (.ref A_NoName)))
    (v_NoName : PySem.W.clsIn K A_NoName = some q_NoName)
    (w_NoName : PySem.W.typeIn K (.ref A_NoName) = some (.type "type"))
    (u_NoLine : PySem.W.nsIn K mainGlobals "NoLine" = some (some (.ref A_NoLine)))
    (v_NoLine : PySem.W.clsIn K A_NoLine = some q_NoLine)
    (w_NoLine : PySem.W.typeIn K (.ref A_NoLine) = some (.type "type"))
    (x_NoList : PySem.W.excIn K A_NoList bmVE "ValueError.__new__" = true)
    (xa_NoList : PySem.W.findIn K (.ref A_NoList) "__getattribute__" = some (some (.builtin "BaseException.__getattribute__")))
    (xb_NoList : PySem.W.findIn K (.ref A_NoList) "__getattr__" = some none)
    (xc_NoList : PySem.W.findIn K (.ref A_NoList) "__class__" = some (some (.builtin "object.__class__")))
    (xd_NoList : PySem.W.subIn K (.ref A_NoList) (.type "BaseException") = some true)
    (xe_NoList : PySem.W.subIn K (.ref A_NoList) (.type "object") = some true)
    (xf_NoList : PySem.W.subIn K (.ref A_NoList) (.ref A_NoList) = some true)
    (ia_NoGate : PySem.W.findIn K (.ref A_NoGate) "__init__" = some (some (.ref fI_NoGate)))
    (il_NoGate : K.lookup fI_NoGate = some ⟨ocI_NoGate, odI_NoGate, .func (PySem.W.fnOf "__init__" "NoGate.__init__" (defArgs s_NoGate) (defBody s_NoGate) (defScope s_NoGate) .none kVI_NoGate dcI_NoGate pmI_NoGate anI_NoGate cdI_NoGate ctI_NoGate), slI_NoGate⟩)
    (ic_NoGate : PySem.W.codeIn K cdI_NoGate "NoGate.__init__" = true)
    (ik_NoGate : PySem.W.keepIn K (.ref fI_NoGate) = true)
    (ix_NoGate : exiIn K A_NoGate fI_NoGate = true)
    (if_NoGate : PySem.W.typeIn K (.ref fI_NoGate) = some (.type "function"))
    (xa_NoGate : PySem.W.findIn K (.ref A_NoGate) "__getattribute__" = some (some (.builtin "BaseException.__getattribute__")))
    (xb_NoGate : PySem.W.findIn K (.ref A_NoGate) "__getattr__" = some none)
    (xc_NoGate : PySem.W.findIn K (.ref A_NoGate) "__class__" = some (some (.builtin "object.__class__")))
    (xd_NoGate : PySem.W.subIn K (.ref A_NoGate) (.type "BaseException") = some true)
    (xe_NoGate : PySem.W.subIn K (.ref A_NoGate) (.type "object") = some true)
    (xf_NoGate : PySem.W.subIn K (.ref A_NoGate) (.ref A_NoGate) = some true)
    (xg_NoGate : PySem.W.findIn K (.ref A_NoGate) "__setattr__" = some (some (.builtin "object.__setattr__")))
    (xh_NoGate : overIn K A_NoGate = true)
    (xi_NoGate : PySem.W.hasDictIn K A_NoGate = true)
    (na_NoGate_at : PySem.W.findIn K (.ref A_NoGate) "at" = some none)
    (ba_CoinError : PySem.W.specialIn K (.ref A_CoinError) "__getattribute__" = some (some (.builtin "type.__getattribute__")))
    (bb_CoinError : PySem.W.readsIn K A_CoinError (.type "type") = true)
    (bc_CoinError : PySem.W.findCls K (.ref A_CoinError) (.type "type") "__init__" = some (.val (.builtin "ValueError.__init__")))
    (cb : PySem.W.subIn K (.ref A_CoinError) (.type "BaseException") = some true)
    (eG : PySem.W.subIn K (.ref A_NoGate) (.ref A_CoinError) = some true)
    (eL : PySem.W.subIn K (.ref A_NoList) (.ref A_CoinError) = some true)
    (vG : PySem.W.subIn K (.ref A_NoGate) (.type "ValueError") = some true)
    (vL : PySem.W.subIn K (.ref A_NoList) (.type "ValueError") = some true)
    (gl : PySem.W.subIn K (.ref A_NoGate) (.ref A_NoList) = some false)
    (lg : PySem.W.subIn K (.ref A_NoList) (.ref A_NoGate) = some false)
    (og0 : PySem.W.subIn K (.ref A_NoGate) (.ref A_NoLook) = some false)
    (og1 : PySem.W.subIn K (.ref A_NoGate) (.ref A_NoRows) = some false)
    (og2 : PySem.W.subIn K (.ref A_NoGate) (.ref A_NoTable) = some false)
    (og3 : PySem.W.subIn K (.ref A_NoGate) (.ref A_NoText) = some false)
    (og4 : PySem.W.subIn K (.ref A_NoGate) (.ref A_NotFree) = some false)
    (og5 : PySem.W.subIn K (.ref A_NoGate) (.ref A_NoShort) = some false)
    (og6 : PySem.W.subIn K (.ref A_NoGate) (.ref A_NoCode) = some false)
    (og7 : PySem.W.subIn K (.ref A_NoGate) (.ref A_CantMend) = some false)
    (og8 : PySem.W.subIn K (.ref A_NoGate) (.ref A_NoName) = some false)
    (og9 : PySem.W.subIn K (.ref A_NoGate) (.ref A_NoLine) = some false)
    (oj0 : PySem.W.subIn K (.ref A_NoList) (.ref A_NoLook) = some false)
    (oj1 : PySem.W.subIn K (.ref A_NoList) (.ref A_NoRows) = some false)
    (oj2 : PySem.W.subIn K (.ref A_NoList) (.ref A_NoTable) = some false)
    (oj3 : PySem.W.subIn K (.ref A_NoList) (.ref A_NoText) = some false)
    (oj4 : PySem.W.subIn K (.ref A_NoList) (.ref A_NotFree) = some false)
    (oj5 : PySem.W.subIn K (.ref A_NoList) (.ref A_NoShort) = some false)
    (oj6 : PySem.W.subIn K (.ref A_NoList) (.ref A_NoCode) = some false)
    (oj7 : PySem.W.subIn K (.ref A_NoList) (.ref A_CantMend) = some false)
    (oj8 : PySem.W.subIn K (.ref A_NoList) (.ref A_NoName) = some false)
    (oj9 : PySem.W.subIn K (.ref A_NoList) (.ref A_NoLine) = some false)
    (ww1 : PySem.W.nsIn K mainGlobals "ONE_COIN_WORDS" = some (some (.ref aW1)))
    (ww2 : K.lookup aW1 = some ⟨.type "tuple", odW1, .seq #[.str "mix" tw1, .str "flip" tw2, .str "sign" tw3] nW1, slW1⟩)
    (ww3 : PySem.W.nsIn K mainGlobals "TWO_COIN_WORDS" = some (some (.ref aW2)))
    (ww4 : K.lookup aW2 = some ⟨.type "tuple", odW2, .seq #[.str "follow" tw4, .str "meet" tw5, .str "swap" tw6] nW2, slW2⟩)
    (gmc : PySem.W.nsIn K mainGlobals "MOST_COINS" = some (some (.int 6 tmc)))
    (zmin : PySem.W.nsIn K mainGlobals "min" = some none)
    : ∃ fd : FuncData, (∀ (s : Shared) (v : Value), BindsTo s fd ⟨[v], []⟩ [("_law_script", v)]) ∧ ∀ base : Heap, K.In base → base.Ns mainGlobals mg → FnOk l.prog w K mg base CX0 7 fa fd ["_law_script"] (sp_law K) := by
  have D_check_list : Def K mg "check_list" s_check_list ["numbers"] := def_mk X G a0 l0 c0 k0 fun _ _ _ _ _ _ us hl => (by obtain ⟨x0, rfl⟩ := len1 hl; rfl)
  have D_coins_of : Def K mg "coins_of" s_coins_of ["numbers"] := def_mk X G a1 l1 c1 k1 fun _ _ _ _ _ _ us hl => (by obtain ⟨x0, rfl⟩ := len1 hl; rfl)
  have D_greatest_divisor : Def K mg "greatest_divisor" s_greatest_divisor ["one", "other"] := def_mk X G a2 l2 c2 k2 fun _ _ _ _ _ _ us hl => (by obtain ⟨x0, x1, rfl⟩ := len2 hl; rfl)
  have D_divisor_of_all : Def K mg "divisor_of_all" s_divisor_of_all ["numbers"] := def_mk X G a3 l3 c3 k3 fun _ _ _ _ _ _ us hl => (by obtain ⟨x0, rfl⟩ := len1 hl; rfl)
  have D_begins_below_nought : Def K mg "begins_below_nought" s_begins_below_nought ["numbers"] := def_mk X G a4 l4 c4 k4 fun _ _ _ _ _ _ us hl => (by obtain ⟨x0, rfl⟩ := len1 hl; rfl)
  have D_least : Def K mg "least" s_least ["numbers"] := def_mk X G a5 l5 c5 k5 fun _ _ _ _ _ _ us hl => (by obtain ⟨x0, rfl⟩ := len1 hl; rfl)
  have D_is_coin : Def K mg "is_coin" s_is_coin ["part", "coins"] := def_mk X G a6 l6 c6 k6 fun _ _ _ _ _ _ us hl => (by obtain ⟨x0, x1, rfl⟩ := len2 hl; rfl)
  have D_is_gate : Def K mg "is_gate" s_is_gate ["gate", "coins"] := def_mk X G a7 l7 c7 k7 fun _ _ _ _ _ _ us hl => (by obtain ⟨x0, x1, rfl⟩ := len2 hl; rfl)
  have D_check_gates : Def K mg "check_gates" s_check_gates ["gates", "coins"] := def_mk X G a8 l8 c8 k8 fun _ _ _ _ _ _ us hl => (by obtain ⟨x0, x1, rfl⟩ := len2 hl; rfl)
  have D_on_back : Def K mg "on_back" s_on_back ["place", "coin"] := def_mk X G a9 l9 c9 k9 fun _ _ _ _ _ _ us hl => (by obtain ⟨x0, x1, rfl⟩ := len2 hl; rfl)
  have D_other_way : Def K mg "other_way" s_other_way ["place", "coin"] := def_mk X G a10 l10 c10 k10 fun _ _ _ _ _ _ us hl => (by obtain ⟨x0, x1, rfl⟩ := len2 hl; rfl)
  have D_mixed_at : Def K mg "mixed_at" s_mixed_at ["numbers", "place", "coin"] := def_mk X G a11 l11 c11 k11 fun _ _ _ _ _ _ us hl => (by obtain ⟨x0, x1, x2, rfl⟩ := len3 hl; rfl)
  have D_signed_at : Def K mg "signed_at" s_signed_at ["numbers", "place", "coin"] := def_mk X G a12 l12 c12 k12 fun _ _ _ _ _ _ us hl => (by obtain ⟨x0, x1, x2, rfl⟩ := len3 hl; rfl)
  have D_followed_at : Def K mg "followed_at" s_followed_at ["numbers", "place", "leader", "follower"] := def_mk X G a13 l13 c13 k13 fun _ _ _ _ _ _ us hl => (by obtain ⟨x0, x1, x2, x3, rfl⟩ := len4 hl; rfl)
  have D_met_at : Def K mg "met_at" s_met_at ["numbers", "place", "one", "other"] := def_mk X G a14 l14 c14 k14 fun _ _ _ _ _ _ us hl => (by obtain ⟨x0, x1, x2, x3, rfl⟩ := len4 hl; rfl)
  have D_swapped_at : Def K mg "swapped_at" s_swapped_at ["numbers", "place", "one", "other"] := def_mk X G a15 l15 c15 k15 fun _ _ _ _ _ _ us hl => (by obtain ⟨x0, x1, x2, x3, rfl⟩ := len4 hl; rfl)
  have D_number_behind : Def K mg "number_behind" s_number_behind ["numbers", "place", "gate"] := def_mk X G a16 l16 c16 k16 fun _ _ _ _ _ _ us hl => (by obtain ⟨x0, x1, x2, rfl⟩ := len3 hl; rfl)
  have D_turned_by : Def K mg "turned_by" s_turned_by ["numbers", "gates"] := def_mk X G a17 l17 c17 k17 fun _ _ _ _ _ _ us hl => (by obtain ⟨x0, x1, rfl⟩ := len2 hl; rfl)
  have D_turned : Def K mg "turned" s_turned ["numbers", "gate"] := def_mk X G a18 l18 c18 k18 fun _ _ _ _ _ _ us hl => (by obtain ⟨x0, x1, rfl⟩ := len2 hl; rfl)
  have D_moved : Def K mg "moved" s_moved ["row", "gate"] := def_mk X G a19 l19 c19 k19 fun _ _ _ _ _ _ us hl => (by obtain ⟨x0, x1, rfl⟩ := len2 hl; rfl)
  have D__law_cell : Def K mg "_law_cell" s_law_cell ["_law_script", "_law_k"] := def_mk X G a20 l20 c20 k20 fun _ _ _ _ _ _ us hl => (by obtain ⟨x0, x1, rfl⟩ := len2 hl; rfl)
  have D__law_gate : Def K mg "_law_gate" s_law_gate ["_law_cell_here", "_law_coins"] := def_mk X G a21 l21 c21 k21 fun _ _ _ _ _ _ us hl => (by obtain ⟨x0, x1, rfl⟩ := len2 hl; rfl)
  have D__law_bad : Def K mg "_law_bad" s_law_bad ["_law_cell_here", "_law_coins"] := def_mk X G a22 l22 c22 k22 fun _ _ _ _ _ _ us hl => (by obtain ⟨x0, x1, rfl⟩ := len2 hl; rfl)
  have D__law_seen : Def K mg "_law_seen" s_law_seen ["_law_numbers", "_law_gates", "_law_way"] := def_mk X G a23 l23 c23 k23 fun _ _ _ _ _ _ us hl => (by obtain ⟨x0, x1, x2, rfl⟩ := len3 hl; rfl)
  have T : Blt mg := blt_mk X G z1 z2 z3 z4 z5 z6 z7 z8 z9 z10 z11 z12 z13
  have LN : Lens K mg aL := lens_mk X G g1 g2
  have G_CoinError : GCls K mg "CoinError" A_CoinError := gcls_mk X G u_CoinError v_CoinError w_CoinError
  have G_NoList : GCls K mg "NoList" A_NoList := gcls_mk X G u_NoList v_NoList w_NoList
  have G_NoGate : GCls K mg "NoGate" A_NoGate := gcls_mk X G u_NoGate v_NoGate w_NoGate
  have G_NoLook : GCls K mg "NoLook" A_NoLook := gcls_mk X G u_NoLook v_NoLook w_NoLook
  have G_NotFree : GCls K mg "NotFree" A_NotFree := gcls_mk X G u_NotFree v_NotFree w_NotFree
  have G_NoRows : GCls K mg "NoRows" A_NoRows := gcls_mk X G u_NoRows v_NoRows w_NoRows
  have G_NoShort : GCls K mg "NoShort" A_NoShort := gcls_mk X G u_NoShort v_NoShort w_NoShort
  have G_NoTable : GCls K mg "NoTable" A_NoTable := gcls_mk X G u_NoTable v_NoTable w_NoTable
  have G_NoCode : GCls K mg "NoCode" A_NoCode := gcls_mk X G u_NoCode v_NoCode w_NoCode
  have G_CantMend : GCls K mg "CantMend" A_CantMend := gcls_mk X G u_CantMend v_CantMend w_CantMend
  have G_NoText : GCls K mg "NoText" A_NoText := gcls_mk X G u_NoText v_NoText w_NoText
  have G_NoName : GCls K mg "NoName" A_NoName := gcls_mk X G u_NoName v_NoName w_NoName
  have G_NoLine : GCls K mg "NoLine" A_NoLine := gcls_mk X G u_NoLine v_NoLine w_NoLine
  have X_NoList : XCls K A_NoList := xcls_mk x_NoList xa_NoList xb_NoList xc_NoList xd_NoList xe_NoList v_NoList xf_NoList
  have I_NoGate : XIni K A_NoGate "NoGate.__init__" s_NoGate ["self", "at"] := xini_mk il_NoGate ic_NoGate ik_NoGate (fun _ _ _ _ _ _ us hl => (by obtain ⟨x0, x1, rfl⟩ := len2 hl; rfl)) ix_NoGate if_NoGate xa_NoGate xb_NoGate xc_NoGate xd_NoGate xe_NoGate v_NoGate xf_NoGate xg_NoGate xh_NoGate xi_NoGate
  have B_CoinError : XBas K A_CoinError := ⟨ba_CoinError, bb_CoinError, bc_CoinError⟩
  have e := hfa.symm.trans (PySem.W.mg_of X G a24)
  cases e
  have F := fun_mk (st := s_law) l24 c24 k24
  have W1 := wrds_mk X G ww1 ww2
  have W2 := wrds_mk X G ww3 ww4
  have MC : ∃ t, mg "MOST_COINS" = some (.int 6 t) := ⟨_, PySem.W.mg_of X G gmc⟩
  have nmin := PySem.W.mg_none_of X G zmin
  exact ⟨PySem.W.fnOf "law" "law" (defArgs s_law) (defBody s_law) (defScope s_law) .none kV24 dc24 pm24 an24 cd24 ct24, fun s v => .of_eq rfl, fun base _ _ => (have CL := ok_check (P := l.prog) (w := w) (base := base) T LN D_check_list; have CLX := ok_checkX (P := l.prog) (w := w) (base := base) T LN G_NoList X_NoList D_check_list; have CE := ok_least (P := l.prog) (w := w) (base := base) T D_least CL (ok_divisor T D_divisor_of_all (ok_gcd T D_greatest_divisor)) (ok_begins T D_begins_below_nought); have CB := ok_bit (P := l.prog) (w := w) (base := base) T D_on_back; have CW := ok_way (P := l.prog) (w := w) (base := base) T D_other_way; have CN := ok_behind (P := l.prog) (w := w) (base := base) T D_number_behind CW (ok_mixed T D_mixed_at CB CW) (ok_signed T D_signed_at CB) (ok_followed T D_followed_at CB CW) (ok_met T D_met_at CB) (ok_swapped T D_swapped_at CB CW); have CO := ok_coinsof (P := l.prog) (w := w) (base := base) T D_coins_of; have CT := ok_turnedby (P := l.prog) (w := w) (base := base) T D_turned_by CL (ok_checkg T D_check_gates (ok_isgate T W1 W2 D_is_gate (ok_iscoin T D_is_coin))) CO CE CN; have CgX := ok_checkgX (P := l.prog) (w := w) (base := base) T G_NoGate (ok_iniG G_CoinError B_CoinError na_NoGate_at I_NoGate) D_check_gates (ok_isgateB T W1 W2 D_is_gate (ok_iscoinB T D_is_coin)); have CTX := ok_tbyX (P := l.prog) (w := w) (base := base) T D_turned_by CL CLX CgX CO; have CUX := ok_turnX (P := l.prog) (w := w) (base := base) T D_turned CTX; have CMX := ok_movedX (P := l.prog) (w := w) (base := base) T MC D_moved CgX; have CSN := ok_seenN (P := l.prog) (w := w) (base := base) T G_CoinError D__law_seen CT; have CSX := ok_seenX (P := l.prog) (w := w) (base := base) T G_CoinError cb eG eL vG vL G_NoGate G_NoList G_NoLook G_NoRows G_NoTable G_NoText G_NotFree G_NoShort G_NoCode G_CantMend G_NoName G_NoLine ⟨I_NoGate.c, I_NoGate.self, og0, og1, og2, og3, og4, og5, og6, og7, og8, og9⟩ ⟨X_NoList.c, X_NoList.self, oj0, oj1, oj2, oj3, oj4, oj5, oj6, oj7, oj8, oj9⟩ gl lg I_NoGate.fl.hd na_NoGate_at D__law_seen CTX CUX CMX; ok_law T nmin F (ok_cell T D__law_cell) (ok_lgate T D__law_gate) (ok_bad T D__law_bad) CSN CSX)⟩
theorem walk {l : PySem.W.OpenLaw} {q : Program} {loose : List Str} {XP : (Str → Option Value) → Heap → Prop} {YP : World → Heap → Prop} {d : DefRec} {K : Params → PySem.W.Frag} (hn : l.most = some 63) (hdf : d.params.defaults = [])
    (hY : ∀ (w : World) (h : Heap), YP w h → (K w.params).In h)
    (F : ∀ (w : World) (mg : Str → Option Value) (fa : Addr) (h : Heap), (K w.params).In h → h.Ns mainGlobals mg → mg d.name = some (.ref fa) →
      ∃ fd : FuncData, (∀ (s : Shared) (u : Value), BindsTo s fd ⟨[u], []⟩ [("_law_script", u)]) ∧ ∀ base : Heap, (K w.params).In base → base.Ns mainGlobals mg → FnOk l.prog w (K w.params) mg base CX0 7 fa fd ["_law_script"] (sp_law (K w.params))) :
    PySem.W.WalkO q loose XP YP l.row.toRowW d [] (fun f vs => PySem.call f vs) :=
  L2.walk_of (n := 63) (k := 7) (x := "_law_script") (CX := fun _ => CX0) (sp := fun w => sp_law (K w.params)) hn (by decide) hdf ⟨rfl, by decide, by decide⟩ hY F (fun _ _ a ns hl _ hS => ⟨a, ns, rfl, hS, hl, fun _ => rfl⟩) fun _ _ _ _ _ z => z
end K05
/-! names kept free: of these the closing tactic would lay lemmas of great size that nothing leans on or that it can do without -/
def PySem.W.Fast.tw8838801235863160387 : Unit := ()
def PySem.W.Fast.tw16553140659425501252 : Unit := ()
def PySem.W.Fast.tw9865369527577384484 : Unit := ()
def PySem.W.Fast.tw10125646631765995749 : Unit := ()
def PySem.W.Fast.tw828893209537296293 : Unit := ()
def PySem.W.Fast.tw13744039562900565480 : Unit := ()
def PySem.W.Fast.tw11454097174060241003 : Unit := ()
def PySem.W.Fast.tw3017388034064211755 : Unit := ()
def PySem.W.Fast.tw11668140408367922412 : Unit := ()
def PySem.W.Fast.tw6018033496276020750 : Unit := ()
def PySem.W.Fast.tw15005859652466644016 : Unit := ()
def PySem.W.Fast.tw12029244737729923344 : Unit := ()
def PySem.W.Fast.tw8486900273143841104 : Unit := ()
def PySem.W.Fast.tw10041002247996218449 : Unit := ()
def PySem.W.Fast.tw7570755585380575955 : Unit := ()
def PySem.W.Fast.tw8844177984341899444 : Unit := ()
def PySem.W.Fast.tw6602591018922372313 : Unit := ()
def PySem.W.Fast.tw13676497860125485497 : Unit := ()
def PySem.W.Fast.tw1850982039419916349 : Unit := ()
def PySem.W.Fast.tw2687928716094008638 : Unit := ()
open PySem PySem.W PyProof.Rows
set_option maxRecDepth 100000 in
set_option maxHeartbeats 0 in
theorem PySem.Challenge.cw_turncoins_k05_no_gates_holds : PySem.Challenge.rw_turncoins_k05_no_gates.Holds := by
  w_on; o_law; k_head; (case hw => w_witness2)
  k_fill
  refine K05.walk (l := PySem.Challenge.rw_turncoins_k05_no_gates) rfl rfl (fun w h Y => PySem.W.kIn_of Y) ?F
  case F =>
    intro w mg fa h KX G hmg
    refine' K05.all_mk KX G hmg ?a0 ?l0 ?c0 ?k0 ?a1 ?l1 ?c1 ?k1 ?a2 ?l2 ?c2 ?k2 ?a3 ?l3 ?c3 ?k3 ?a4 ?l4 ?c4 ?k4 ?a5 ?l5 ?c5 ?k5 ?a6 ?l6 ?c6 ?k6 ?a7 ?l7 ?c7 ?k7 ?a8 ?l8 ?c8 ?k8 ?a9 ?l9 ?c9 ?k9 ?a10 ?l10 ?c10 ?k10 ?a11 ?l11 ?c11 ?k11 ?a12 ?l12 ?c12 ?k12 ?a13 ?l13 ?c13 ?k13 ?a14 ?l14 ?c14 ?k14 ?a15 ?l15 ?c15 ?k15 ?a16 ?l16 ?c16 ?k16 ?a17 ?l17 ?c17 ?k17 ?a18 ?l18 ?c18 ?k18 ?a19 ?l19 ?c19 ?k19 ?a20 ?l20 ?c20 ?k20 ?a21 ?l21 ?c21 ?k21 ?a22 ?l22 ?c22 ?k22 ?a23 ?l23 ?c23 ?k23 ?a24 ?l24 ?c24 ?k24 ?z1 ?z2 ?z3 ?z4 ?z5 ?z6 ?z7 ?z8 ?z9 ?z10 ?z11 ?z12 ?z13 ?g1 ?g2 ?u_CoinError ?v_CoinError ?w_CoinError ?u_NoList ?v_NoList ?w_NoList ?u_NoGate ?v_NoGate ?w_NoGate ?u_NoLook ?v_NoLook ?w_NoLook ?u_NotFree ?v_NotFree ?w_NotFree ?u_NoRows ?v_NoRows ?w_NoRows ?u_NoShort ?v_NoShort ?w_NoShort ?u_NoTable ?v_NoTable ?w_NoTable ?u_NoCode ?v_NoCode ?w_NoCode ?u_CantMend ?v_CantMend ?w_CantMend ?u_NoText ?v_NoText ?w_NoText ?u_NoName ?v_NoName ?w_NoName ?u_NoLine ?v_NoLine ?w_NoLine ?x_NoList ?xa_NoList ?xb_NoList ?xc_NoList ?xd_NoList ?xe_NoList ?xf_NoList ?ia_NoGate ?il_NoGate ?ic_NoGate ?ik_NoGate ?ix_NoGate ?if_NoGate ?xa_NoGate ?xb_NoGate ?xc_NoGate ?xd_NoGate ?xe_NoGate ?xf_NoGate ?xg_NoGate ?xh_NoGate ?xi_NoGate ?na_NoGate_at ?ba_CoinError ?bb_CoinError ?bc_CoinError ?cb ?eG ?eL ?vG ?vL ?gl ?lg ?og0 ?og1 ?og2 ?og3 ?og4 ?og5 ?og6 ?og7 ?og8 ?og9 ?oj0 ?oj1 ?oj2 ?oj3 ?oj4 ?oj5 ?oj6 ?oj7 ?oj8 ?oj9 ?ww1 ?ww2 ?ww3 ?ww4 ?gmc ?zmin
    (case a0 => k_is); (case l0 => k_is); (case c0 => k_is); (case k0 => k_is); (case a1 => k_is); (case l1 => k_is); (case c1 => k_is); (case k1 => k_is)
    (case a2 => k_is); (case l2 => k_is); (case c2 => k_is); (case k2 => k_is); (case a3 => k_is); (case l3 => k_is); (case c3 => k_is); (case k3 => k_is)
    (case a4 => k_is); (case l4 => k_is); (case c4 => k_is); (case k4 => k_is); (case a5 => k_is); (case l5 => k_is); (case c5 => k_is); (case k5 => k_is)
    (case a6 => k_is); (case l6 => k_is); (case c6 => k_is); (case k6 => k_is); (case a7 => k_is); (case l7 => k_is); (case c7 => k_is); (case k7 => k_is)
    (case a8 => k_is); (case l8 => k_is); (case c8 => k_is); (case k8 => k_is); (case a9 => k_is); (case l9 => k_is); (case c9 => k_is); (case k9 => k_is)
    (case a10 => k_is); (case l10 => k_is); (case c10 => k_is); (case k10 => k_is); (case a11 => k_is); (case l11 => k_is); (case c11 => k_is); (case k11 => k_is)
    (case a12 => k_is); (case l12 => k_is); (case c12 => k_is); (case k12 => k_is); (case a13 => k_is); (case l13 => k_is); (case c13 => k_is); (case k13 => k_is)
    (case a14 => k_is); (case l14 => k_is); (case c14 => k_is); (case k14 => k_is); (case a15 => k_is); (case l15 => k_is); (case c15 => k_is); (case k15 => k_is)
    (case a16 => k_is); (case l16 => k_is); (case c16 => k_is); (case k16 => k_is); (case a17 => k_is); (case l17 => k_is); (case c17 => k_is); (case k17 => k_is)
    (case a18 => k_is); (case l18 => k_is); (case c18 => k_is); (case k18 => k_is); (case a19 => k_is); (case l19 => k_is); (case c19 => k_is); (case k19 => k_is)
    (case a20 => k_is); (case l20 => k_is); (case c20 => k_is); (case k20 => k_is); (case a21 => k_is); (case l21 => k_is); (case c21 => k_is); (case k21 => k_is)
    (case a22 => k_is); (case l22 => k_is); (case c22 => k_is); (case k22 => k_is); (case a23 => k_is); (case l23 => k_is); (case c23 => k_is); (case k23 => k_is)
    (case a24 => k_is); (case l24 => k_is); (case c24 => k_is); (case k24 => k_is); (case z1 => k_is); (case z2 => k_is); (case z3 => k_is); (case z4 => k_is)
    (case z5 => k_is); (case z6 => k_is); (case z7 => k_is); (case z8 => k_is); (case z9 => k_is); (case z10 => k_is); (case z11 => k_is); (case z12 => k_is)
    (case z13 => k_is); (case g1 => k_is); (case g2 => k_is); (case u_CoinError => k_is); (case v_CoinError => k_is); (case w_CoinError => k_is); (case u_NoList => k_is); (case v_NoList => k_is)
    (case w_NoList => k_is); (case u_NoGate => k_is); (case v_NoGate => k_is); (case w_NoGate => k_is); (case u_NoLook => k_is); (case v_NoLook => k_is); (case w_NoLook => k_is); (case u_NotFree => k_is)
    (case v_NotFree => k_is); (case w_NotFree => k_is); (case u_NoRows => k_is); (case v_NoRows => k_is); (case w_NoRows => k_is); (case u_NoShort => k_is); (case v_NoShort => k_is); (case w_NoShort => k_is)
    (case u_NoTable => k_is); (case v_NoTable => k_is); (case w_NoTable => k_is); (case u_NoCode => k_is); (case v_NoCode => k_is); (case w_NoCode => k_is); (case u_CantMend => k_is); (case v_CantMend => k_is)
    (case w_CantMend => k_is); (case u_NoText => k_is); (case v_NoText => k_is); (case w_NoText => k_is); (case u_NoName => k_is); (case v_NoName => k_is); (case w_NoName => k_is); (case u_NoLine => k_is)
    (case v_NoLine => k_is); (case w_NoLine => k_is); (case x_NoList => k_exc); (case xa_NoList => k_is); (case xb_NoList => k_is); (case xc_NoList => k_is); (case xd_NoList => k_is); (case xe_NoList => k_is)
    (case xf_NoList => k_is); (case ia_NoGate => k_is); (case il_NoGate => k_is); (case ic_NoGate => k_is); (case ik_NoGate => k_is); (case ix_NoGate => (first | kernel_rfl | decide +kernel)); (case if_NoGate => k_is); (case xa_NoGate => k_is)
    (case xb_NoGate => k_is); (case xc_NoGate => k_is); (case xd_NoGate => k_is); (case xe_NoGate => k_is); (case xf_NoGate => k_is); (case xg_NoGate => k_is); (case xh_NoGate => (first | kernel_rfl | decide +kernel)); (case xi_NoGate => k_is)
    (case na_NoGate_at => k_is); (case ba_CoinError => k_is); (case bb_CoinError => k_is); (case bc_CoinError => k_is); (case cb => k_is); (case eG => k_is); (case eL => k_is); (case vG => k_is)
    (case vL => k_is); (case gl => k_is); (case lg => k_is); (case og0 => k_is); (case og1 => k_is); (case og2 => k_is); (case og3 => k_is); (case og4 => k_is)
    (case og5 => k_is); (case og6 => k_is); (case og7 => k_is); (case og8 => k_is); (case og9 => k_is); (case oj0 => k_is); (case oj1 => k_is); (case oj2 => k_is)
    (case oj3 => k_is); (case oj4 => k_is); (case oj5 => k_is); (case oj6 => k_is); (case oj7 => k_is); (case oj8 => k_is); (case oj9 => k_is); (case ww1 => k_is)
    (case ww2 => k_is); (case ww3 => k_is); (case ww4 => k_is); (case gmc => k_is); (case zmin => k_is)
#print axioms PySem.Challenge.cw_turncoins_k05_no_gates_holds

