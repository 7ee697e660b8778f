import PyProof.Rows.All
import Wide.All
import OpenK.AllK
import Wide.FinOn
import Lean
import PyProof.EqAt
import PyProof.EqKinds
import PyProof.TupleCall
import PySem.Challenge.RW_turncoins_k72_texts_refused
set_option Elab.async false
set_option linter.all false
set_option maxRecDepth 100000
/-! THE HAND LAYER, for ints, bools, texts, own classes, LISTS and tuples (index, slices, in, append, pop ..), calls, loops. Paste it whole ahead of your own text; what your proof does not reach may be deleted. -/
namespace L2
open PySem PySem.Spec PyProof.Rows

/-- a key: an int or a str -/
noncomputable abbrev Key := Sum Int Str
noncomputable def keyIs : Key → Value → Bool
  | .inl k, v => Value.isInt k v
  | .inr x, v => Value.isStrOf x v
noncomputable def keyH (w : World) : Key → Int
  | .inl k => hashInt k
  | .inr x => hashStr w x
theorem keyIs_shape : ∀ {k : Key} {v : Value}, keyIs k v = true → (∃ i t, k = Sum.inl i ∧ v = Value.int i t) ∨ (∃ x t, k = Sum.inr x ∧ v = Value.str x t)
  | .inl i, v, h => by
    obtain ⟨t, e⟩ := Value.isInt_shape (k := i) (v := v) h
    exact .inl ⟨i, t, rfl, e⟩
  | .inr x, v, h => by
    obtain ⟨t, e⟩ := Value.isStrOf_shape (x := x) (v := v) h
    exact .inr ⟨x, t, rfl, e⟩
theorem key_ll (a b : Int) : decide ((Sum.inl a : Key) = Sum.inl b) = (a == b) := by
  by_cases e : a = b
  · subst e; simp
  · have h : ¬ (Sum.inl a : Key) = Sum.inl b := fun q => e (Sum.inl.inj q)
    rw [decide_eq_false h]
    exact (beq_eq_false_iff_ne.mpr e).symm
theorem key_rr (a b : Str) : decide ((Sum.inr a : Key) = Sum.inr b) = decide (a = b) := by
  by_cases e : a = b
  · subst e; simp
  · have h : ¬ (Sum.inr a : Key) = Sum.inr b := fun q => e (Sum.inr.inj q)
    rw [decide_eq_false h, decide_eq_false e]
theorem key_lr (a : Int) (b : Str) : decide ((Sum.inl a : Key) = Sum.inr b) = false := decide_eq_false (fun q => nomatch q)
theorem key_rl (a : Str) (b : Int) : decide ((Sum.inr a : Key) = Sum.inl b) = false := decide_eq_false (fun q => nomatch q)

noncomputable def mixKind (prog : Program) (w : World) : PySem.KeyKind prog w Key where
  is := keyIs
  hash := keyH w
  inj := fun v a b ha hb => by
    rcases keyIs_shape ha with ⟨i, t, rfl, rfl⟩ | ⟨x, t, rfl, rfl⟩
    · rcases keyIs_shape hb with ⟨j, u, rfl, e⟩ | ⟨y, u, rfl, e⟩
      · injection e with e1 _; rw [e1]
      · exact nomatch e
    · rcases keyIs_shape hb with ⟨j, u, rfl, e⟩ | ⟨y, u, rfl, e⟩
      · exact nomatch e
      · injection e with e1 _; rw [e1]
  byValue := fun k v h => by
    rcases keyIs_shape h with ⟨i, t, rfl, rfl⟩ | ⟨x, t, rfl, rfl⟩ <;> rfl
  pyHash := fun hv h => by
    rcases keyIs_shape hv with ⟨i, t, rfl, rfl⟩ | ⟨x, t, rfl, rfl⟩
    · exact wpAny_pyHash_int h
    · exact wpAny_pyHash_str h
  eqBool := fun hu hv h => by
    rcases keyIs_shape hu with ⟨i, t, rfl, rfl⟩ | ⟨x, t, rfl, rfl⟩
    · rcases keyIs_shape hv with ⟨j, u, rfl, rfl⟩ | ⟨y, u, rfl, rfl⟩
      · rw [key_ll] at h; exact wpAny_eqBool_int h
      · rw [key_lr] at h; exact SeqAt.EqAt.int_str i t y u _ _ _ _ h
    · rcases keyIs_shape hv with ⟨j, u, rfl, rfl⟩ | ⟨y, u, rfl, rfl⟩
      · rw [key_rl] at h; exact SeqAt.EqAt.str_int x t j u _ _ _ _ h
      · rw [key_rr] at h; exact wpAny_eqBool_str h
  «strs» := fun k x t v h => by
    rcases keyIs_shape h with ⟨i, u, rfl, e⟩ | ⟨y, u, rfl, e⟩
    · exact nomatch e
    · injection e with e1 _
      subst e1
      cases v <;> rfl

end L2

namespace L2
open PySem PySem.Spec PyProof.Rows

/-- a value, without the heap -/
inductive V where
  | non | bl (b : Bool) | int (i : Int) | str (x : Str) | byt (b : Array UInt8) | flt (b : UInt64) | ref (a : Addr) | ty (n : String)
  deriving DecidableEq

noncomputable def RelV : V → Value → Prop
  | .non, u => u = Value.none
  | .bl b, u => u = Value.bool b
  | .int i, u => ∃ t, u = Value.int i t
  | .str x, u => ∃ t, u = Value.str x t
  | .byt b, u => ∃ t, u = Value.bytes b t
  | .flt b, u => ∃ t, u = Value.float b t
  | .ref a, u => u = Value.ref a
  | .ty n, u => u = Value.type n

noncomputable abbrev Vals : List V → List Value → Prop := Paired RelV
theorem Vals.length {xs : List V} {us : List Value} (r : Vals xs us) : xs.length = us.length := Paired.length r
theorem Vals.get : ∀ {xs : List V} {us : List Value} {i : Nat} {x : V}, Vals xs us → xs[i]? = some x → ∃ u, us[i]? = some u ∧ RelV x u
  | _, _, _, _, .nil, e => by simp at e
  | _, _, 0, _, .cons r _, e => by simp at e; subst e; exact ⟨_, rfl, r⟩
  | _, _, i + 1, x, .cons _ t, e => by
    obtain ⟨u, h1, h2⟩ := Vals.get (i := i) (x := x) t (by simpa using e)
    exact ⟨u, by simpa using h1, h2⟩
theorem Vals.set {x : V} {u : Value} (r : RelV x u) : ∀ {xs : List V} {us : List Value} (i : Nat), Vals xs us → Vals (xs.set i x) (us.set i u)
  | _, _, _, .nil => .nil
  | _, _, 0, .cons _ t => .cons r t
  | _, _, i + 1, .cons q t => .cons q (Vals.set r i t)
theorem Vals.append : ∀ {xs ys : List V} {us ws : List Value}, Vals xs us → Vals ys ws → Vals (xs ++ ys) (us ++ ws)
  | _, _, _, _, .nil, s => s
  | _, _, _, _, .cons r t, s => .cons r (Vals.append t s)
theorem Vals.take : ∀ {xs : List V} {us : List Value} (n : Nat), Vals xs us → Vals (xs.take n) (us.take n)
  | _, _, 0, _ => .nil
  | _, _, _ + 1, .nil => .nil
  | _, _, n + 1, .cons r t => .cons r (Vals.take n t)
theorem Vals.drop : ∀ {xs : List V} {us : List Value} (n : Nat), Vals xs us → Vals (xs.drop n) (us.drop n)
  | _, _, 0, r => r
  | _, _, _ + 1, .nil => .nil
  | _, _, n + 1, .cons _ t => Vals.drop n t

noncomputable def RelO : Option V → Option Value → Prop
  | some v, some u => RelV v u
  | none, none => True
  | _, _ => False
noncomputable def KV {κ : Type} : List (κ × V) → List (κ × Value) → Prop := Paired fun (p : κ × V) (q : κ × Value) => p.1 = q.1 ∧ RelV p.2 q.2

/-- a key of a dict (00_mix): an int or a text -/
noncomputable def kV : Key → V
  | .inl i => .int i
  | .inr x => .str x

/-- what stands at a tracked address -/
inductive HO where
  /-- a list -/
  | lst (xs : List V)
  /-- a tuple (never changes) -/
  | tup (xs : List V)
  /-- a dict whose keys are ints and texts; one whose keys are tuples of ints and texts (the empty one is both) -/
  | dK (kvs : List (Key × V)) | dT (kvs : List (List Key × V))
  /-- a set of ints: its members, its size -/
  | set (S : Int → Bool) (n : Nat)
  /-- an instance of the class at C, its dict at dx, its attributes -/
  | ins (C dx : Addr) (fs : List (Str × V))
  /-- the dict of the instance at x -/
  | own (x : Addr)
  /-- the dict of an exception -/
  | xd (fs : List (Str × V))
  /-- a bound method, f of x -/
  | met (f x : Addr)
  /-- a range object lo, lo + 1, .. below hi -/
  | rng (lo hi : Int)
  /-- a thing that is known to the object (the script; a dict while a loop walks it): read, never written while it is so -/
  | frz (o : Obj) (u : HO)
  /-- a code object's table -/
  | tbl (ps : Array Value)
  /-- any other thing, by what is true of its one object (a def of one's own: SetO a S n := HO.ext fun h => ..) -/
  | ext (φ : Heap → Prop)

noncomputable abbrev Hp := Addr → Option HO
noncomputable def upd (H : Hp) (a : Addr) (o : HO) : Hp := fun b => if b = a then some o else H b
theorem upd_same {H : Hp} {a : Addr} {o : HO} : upd H a o a = some o := by unfold upd; rw [if_pos rfl]
theorem upd_ne {H : Hp} {a b : Addr} {o : HO} (h : b ≠ a) : upd H a o b = H b := by unfold upd; rw [if_neg h]
theorem ne_of_none {H : Hp} {a b : Addr} {o : HO} (h : H a = some o) (h' : H b = none) : a ≠ b := by
  intro e; subst e; rw [h] at h'; cases h'

section
variable (P : Program) (w : World)
noncomputable def ObjOk (H : Hp) (h : Heap) (a : Addr) : HO → Prop
  | .lst xs => xs.length ≤ sizeLine ∧ ∃ (its : List Value) (n : Nat), Vals xs its ∧ h.get? a = some { cls := .type "list", data := .seq its.toArray n }
  | .tup xs => xs.length ≤ sizeLine ∧ ∃ its : List Value, Vals xs its ∧ IsTup h a its.toArray
  | .dK kvs => kvs.length ≤ sizeLine ∧ (a == sysModules) = false ∧ ∃ vs, KV kvs vs ∧ h.DictOf (mixKind P w) a vs
  | .dT kvs => kvs.length ≤ sizeLine ∧ (a == sysModules) = false ∧ ∃ xs : List (List Key × Addr × Value),
      Paired (fun (p : List Key × V) (q : List Key × Addr × Value) => p.1 = q.1 ∧ H q.2.1 = some (.tup (p.1.map kV)) ∧ RelV p.2 q.2.2) kvs xs ∧
      ∃ o es ep, h.get? a = some o ∧ o.ExactDict ∧ o.data = .dict es ep ∧ es.toList = xs.map (entryOfKey (tupleKind (mixKind P w))) ∧ (xs.map (·.1)).Nodup
  | .set S n => h.SetOf (intKind P w) a S n
  | .ins C dx fs => H dx = some (.own a) ∧ fs.length ≤ 1000 ∧ dx ≠ a ∧ h.get? a = some (PySem.W.instObj C dx) ∧
      ∃ mA, h.Ns1 dx mA ∧ (∀ f, RelO (fs.lookup f) (mA f)) ∧ PySem.Within mA (fs.map (·.1))
  | .own _ => ∃ o, h.get? a = some o
  | .xd fs => ∃ mA, h.Ns1 a mA ∧ ∀ f, RelO (fs.lookup f) (mA f)
  | .rng lo hi => ∃ t u v, h.get? a = some { cls := .type "range", data := .fields #[.int lo t, .int hi u, .int 1 v] }
  | .frz o u => h.get? a = some o ∧ ObjOk H h a u
  | .tbl ps => h.get? a = some { cls := .none, data := .fields ps }
  | .met f x => h.get? a = some (PySem.W.methodObj (.ref f) (.ref x))
  | .ext φ => φ h ∧ (∃ o, h.get? a = some o) ∧ ∀ h1 h2 : Heap, φ h1 → (∀ o, h1.get? a = some o → h2.get? a = some o) → φ h2
/-- the abstract heap is held -/
noncomputable def HOk (H : Hp) (h : Heap) : Prop := ∀ a o, H a = some o → ObjOk P w H h a o
end

section
variable {P : Program} {w : World} {H H' : Hp} {h h' : Heap} {a : Addr} {o : HO}
theorem ObjOk.lt (x : ObjOk P w H h a o) : a < h.objs.size := by
  cases o with
  | lst xs => obtain ⟨_, _, _, _, e⟩ := x; exact Heap.lt_size e
  | tup xs => obtain ⟨_, _, _, p⟩ := x; exact p.lt
  | dK kvs => obtain ⟨_, _, _, _, o, _, _, e, _⟩ := x; exact Heap.lt_size e
  | dT kvs => obtain ⟨_, _, _, _, o, _, _, e, _⟩ := x; exact Heap.lt_size e
  | set S n => obtain ⟨o, _, _, _, e, _⟩ := x; exact Heap.lt_size e
  | ins C dx fs => obtain ⟨_, _, _, e, _⟩ := x; exact Heap.lt_size e
  | own y => obtain ⟨_, e⟩ := x; exact Heap.lt_size e
  | xd fs => obtain ⟨_, ⟨_, _, _, e, _⟩, _⟩ := x; exact Heap.lt_size e
  | rng lo hi => obtain ⟨_, _, _, e⟩ := x; exact Heap.lt_size e
  | frz ob u => obtain ⟨e, _⟩ := x; exact Heap.lt_size e
  | tbl ps => exact Heap.lt_size (show h.get? a = some _ from x)
  | met f y => exact Heap.lt_size (show h.get? a = some _ from x)
  | ext φ => obtain ⟨_, ⟨_, e⟩, _⟩ := x; exact Heap.lt_size e
theorem Paired.mapP {α β : Type} {F G : α → β → Prop} : ∀ {l₁ : List α} {l₂ : List β}, Paired F l₁ l₂ → (∀ a b, F a b → G a b) → Paired G l₁ l₂
  | _, _, .nil, _ => .nil
  | _, _, .cons r t, f => .cons (f _ _ r) (Paired.mapP t f)
/-- what an object's description leans on: its own object, its own dict, the tuples -/
theorem ObjOk.stay (x : ObjOk P w H h a o) (k : ∀ b u, (b = a ∨ H b = some (.own a)) → h.get? b = some u → h'.get? b = some u)
    (ho : ∀ b, H b = some (.own a) → H' b = some (.own a)) (ht : ∀ b xs, H b = some (.tup xs) → H' b = some (.tup xs)) : ObjOk P w H' h' a o := by
  induction o with
  | lst xs => obtain ⟨z, its, n, r, e⟩ := x; exact ⟨z, its, n, r, k _ _ (.inl rfl) e⟩
  | tup xs => obtain ⟨z, its, r, ob, e, c⟩ := x; exact ⟨z, its, r, ob, k _ _ (.inl rfl) e, c⟩
  | dK kvs => obtain ⟨z, y, vs, r, ob, es, ep, e, c⟩ := x; exact ⟨z, y, vs, r, ob, es, ep, k _ _ (.inl rfl) e, c⟩
  | dT kvs =>
    obtain ⟨z, y, xs, r, ob, es, ep, e, c⟩ := x
    exact ⟨z, y, xs, Paired.mapP r fun p q z => ⟨z.1, ht _ _ z.2.1, z.2.2⟩, ob, es, ep, k _ _ (.inl rfl) e, c⟩
  | set S n => obtain ⟨ob, es, ep, t, e, c⟩ := x; exact ⟨ob, es, ep, t, k _ _ (.inl rfl) e, c⟩
  | ins C dx fs =>
    obtain ⟨d, z, ne, e, mA, ⟨od, es, ep, e2, c⟩, r⟩ := x
    exact ⟨ho _ d, z, ne, k _ _ (.inl rfl) e, mA, ⟨od, es, ep, k _ _ (.inr d) e2, c⟩, r⟩
  | own y => obtain ⟨ob, e⟩ := x; exact ⟨ob, k _ _ (.inl rfl) e⟩
  | xd fs => obtain ⟨mA, ⟨od, es, ep, e, c⟩, r⟩ := x; exact ⟨mA, ⟨od, es, ep, k _ _ (.inl rfl) e, c⟩, r⟩
  | rng lo hi => obtain ⟨t, u, v, e⟩ := x; exact ⟨t, u, v, k _ _ (.inl rfl) e⟩
  | frz ob u ih => obtain ⟨e, q⟩ := x; exact ⟨k _ _ (.inl rfl) e, ih q⟩
  | tbl ps =>
    have e : h.get? a = some { cls := .none, data := .fields ps } := x
    show h'.get? a = some { cls := .none, data := .fields ps }
    exact k a _ (.inl rfl) e
  | met f y =>
    have e : h.get? a = some (PySem.W.methodObj (.ref f) (.ref y)) := x
    show h'.get? a = some (PySem.W.methodObj (.ref f) (.ref y))
    exact k a _ (.inl rfl) e
  | ext φ => obtain ⟨p, ⟨o, e⟩, st⟩ := x; exact ⟨st _ _ p fun o q => k _ _ (.inl rfl) q, ⟨o, k _ _ (.inl rfl) e⟩, st⟩
theorem HOk.lt (x : HOk P w H h) (e : H a = some o) : a < h.objs.size := (x a o e).lt
theorem HOk.fresh (x : HOk P w H h) (e : h.objs.size ≤ a) : H a = none := by
  cases q : H a with
  | none => rfl
  | some u => exact absurd (Nat.lt_of_lt_of_le (x.lt q) e) (Nat.lt_irrefl _)
/-- every object of the heap is kept -/
theorem HOk.kept (x : HOk P w H h) (k : ∀ b u, h.get? b = some u → h'.get? b = some u) : HOk P w H h' := fun a o e =>
  (x a o e).stay (fun b u _ q => k b u q) (fun _ q => q) fun _ _ q => q
/-- a new object is laid and tracked -/
theorem HOk.laid (x : HOk P w H h) (k : ∀ b u, h.get? b = some u → h'.get? b = some u) (hp : h.objs.size ≤ a) (new : ObjOk P w (upd H a o) h' a o) : HOk P w (upd H a o) h' := fun b u e => by
  have hn := x.fresh hp
  by_cases hb : b = a
  · subst hb; rw [upd_same] at e; cases e; exact new
  · rw [upd_ne hb] at e
    exact (x b u e).stay (fun c v _ q => k c v q) (fun c q => by rw [upd_ne (ne_of_none q hn)]; exact q) fun c xs q => by rw [upd_ne (ne_of_none q hn)]; exact q
end

/-- what may be read as u: it is u, or a known u -/
noncomputable def Rd (H : Hp) (a : Addr) (u : HO) : Prop := H a = some u ∨ ∃ o, H a = some (.frz o u)
theorem Rd.ok {P : Program} {w : World} {H : Hp} {h : Heap} {a : Addr} {u : HO} (r : Rd H a u) (x : HOk P w H h) : ObjOk P w H h a u := by
  rcases r with r | ⟨o, r⟩
  · exact x a u r
  · obtain ⟨_, q⟩ := x a _ r
    exact q
/-- what may be written -/
noncomputable def Mut : Option HO → Prop
  | some (.lst _) => True
  | some (.dK _) => True
  | some (.dT _) => True
  | some (.set _ _) => True
  | some (.ins _ _ _) => True
  | some (.ext _) => True
  | _ => False
section
variable {P : Program} {w : World} {H : Hp} {h h' : Heap} {x e : Addr} {o' : HO}
/-- the object at e is changed: x itself, or the dict of the instance x -/
theorem HOk.write (ok : HOk P w H h) (mu : Mut (H x)) (he : e = x ∨ H e = some (.own x)) (k : ∀ b u, b ≠ e → h.get? b = some u → h'.get? b = some u) (heo : ∃ u, h'.get? e = some u)
    (new : ObjOk P w (upd H x o') h' x o') : HOk P w (upd H x o') h' := fun b u q => by
  have nown : ∀ c y, H c = some (.own y) → c ≠ x := fun c y r z => by subst z; rw [r] at mu; exact mu
  have ntup : ∀ c xs, H c = some (.tup xs) → c ≠ x := fun c xs r z => by subst z; rw [r] at mu; exact mu
  by_cases hb : b = x
  · subst hb; rw [upd_same] at q; cases q; exact new
  · rw [upd_ne hb] at q
    by_cases hbe : b = e
    · have q' : H b = some (.own x) := by
        rcases he with z | z
        · exact absurd (hbe.trans z) hb
        · rw [hbe]; exact z
      rw [q] at q'; cases q'
      obtain ⟨v, hv⟩ := heo
      exact ⟨v, by rw [hbe]; exact hv⟩
    · refine (ok b u q).stay (fun c v hc r => k c v ?_ r) (fun c r => by rw [upd_ne (nown c b r)]; exact r) fun c xs r => by rw [upd_ne (ntup c xs r)]; exact r
      rcases hc with rfl | hc
      · exact hbe
      · rintro rfl
        rcases he with z | z
        · exact nown c b hc z
        · rw [hc] at z; cases z; exact hb rfl
end

/-! ### kept unless tracked; of the frames at fs (the callers') the slots may change (an exception that passes writes there); of the records at ex (iterators) nothing is said -/
structure Un (fs ex : List Addr) (H H' : Hp) (h h' : Heap) : Prop where
  keep : ∀ b o, h.get? b = some o → H b = none → b ∉ fs → b ∉ ex → h'.get? b = some o
  slot : ∀ b o, h.get? b = some o → H b = none → b ∈ fs → b ∉ ex → ∃ sl, h'.get? b = some { o with slots := sl }
  free : ∀ b o, h.get? b = some o → H b = none → b ∉ ex → H' b = none
  there : ∀ b o, h.get? b = some o → b ∉ ex → ∃ o', h'.get? b = some o'
  tups : ∀ b xs, H b = some (.tup xs) → H' b = some (.tup xs)
  frzs : ∀ b o u, H b = some (.frz o u) → H' b = some (.frz o u)
  tbls : ∀ b ps, H b = some (.tbl ps) → ∃ more, H' b = some (.tbl (ps ++ more))
section
variable {fs fs' ex ex' : List Addr} {H H1 H2 : Hp} {h h1 h2 h' : Heap} {a x e : Addr} {o : HO}
theorem Un.any (u : Un fs ex H H1 h h1) {b : Addr} {ob : Obj} (q : h.get? b = some ob) (n : H b = none) (hx : b ∉ ex) : ∃ sl, h1.get? b = some { ob with slots := sl } := by
  by_cases hb : b ∈ fs
  · exact u.slot b ob q n hb hx
  · exact ⟨ob.slots, u.keep b ob q n hb hx⟩
theorem Un.kept (k : ∀ b u, h.get? b = some u → h'.get? b = some u) : Un fs ex H H h h' :=
  ⟨fun b ob q _ _ _ => k b ob q, fun b ob q _ _ _ => ⟨ob.slots, k b ob q⟩, fun _ _ _ n _ => n, fun b ob q _ => ⟨ob, k b ob q⟩, fun _ _ q => q, fun _ _ _ q => q, fun _ ps q => ⟨#[], by rw [q]; simp⟩⟩
theorem Un.refl : Un fs ex H H h h := Un.kept fun _ _ q => q
theorem Un.laid (k : ∀ b u, h.get? b = some u → h'.get? b = some u) (hp : h.objs.size ≤ a) (hn : H a = none) : Un fs ex H (upd H a o) h h' where
  keep := fun b u q _ _ _ => k b u q
  slot := fun b u q _ _ _ => ⟨u.slots, k b u q⟩
  free := fun b u q n _ => by rw [upd_ne (Nat.ne_of_lt (Nat.lt_of_lt_of_le (Heap.lt_size q) hp))]; exact n
  there := fun b u q _ => ⟨u, k b u q⟩
  tups := fun b xs q => by rw [upd_ne (ne_of_none q hn)]; exact q
  frzs := fun b u xs q => by rw [upd_ne (ne_of_none q hn)]; exact q
  tbls := fun b ps q => ⟨#[], by rw [upd_ne (ne_of_none q hn), q]; simp⟩
theorem Un.write (mu : Mut (H x)) (he : e = x ∨ H e = some (.own x)) (k : ∀ b u, b ≠ e → h.get? b = some u → h'.get? b = some u) (heo : ∃ u, h'.get? e = some u) : Un fs ex H (upd H x o) h h' := by
  have hx : ∀ b, H b = none → b ≠ x := fun b n z => by subst z; rw [n] at mu; exact mu
  have hb : ∀ b, H b = none → b ≠ e := fun b n z => by
    subst z
    rcases he with r | r
    · exact hx b n r
    · rw [n] at r; cases r
  have hm : ∀ b u, H b = some u → ¬ Mut (some u) → b ≠ x := fun b u q nm z => by subst z; rw [q] at mu; exact nm mu
  refine ⟨fun b u q n _ _ => k b u (hb b n) q, fun b u q n _ _ => ⟨u.slots, k b u (hb b n) q⟩, fun b u q n _ => by rw [upd_ne (hx b n)]; exact n, fun b u q _ => ?_,
    fun b xs q => by rw [upd_ne (hm b _ q fun z => z)]; exact q, fun b u xs q => by rw [upd_ne (hm b _ q fun z => z)]; exact q, fun b ps q => ⟨#[], by rw [upd_ne (hm b _ q fun z => z), q]; simp⟩⟩
  by_cases hbe : b = e
  · subst hbe; exact heo
  · exact ⟨u, k b u hbe q⟩
end

/-! ### the heap without what is tracked -/
noncomputable def trk (h : Heap) (H : Hp) : List Addr := (List.range h.objs.size).filter fun a => (H a).isSome
noncomputable def hidT (h : Heap) (H : Hp) : Heap := PySem.W.hideAll h (trk h H)
theorem hidT_size (h : Heap) (H : Hp) : (hidT h H).objs.size = h.objs.size := PySem.W.hideAll_size _ _
theorem hidT_get {h : Heap} {H : Hp} {b : Addr} {o : Obj} (e : h.get? b = some o) (n : H b = none) : (hidT h H).get? b = some o :=
  PySem.W.hideAll_get _ e fun hm => by
    have q : (H b).isSome = true := (List.mem_filter.mp hm).2
    rw [n] at q; simp at q
theorem of_hidT {h : Heap} {H : Hp} {b : Addr} {o : Obj} (e : (hidT h H).get? b = some o) : h.get? b = some o ∧ H b = none := by
  have e' : h.get? b = some o := PySem.W.of_hideAll (trk h H) e
  refine ⟨e', ?_⟩
  cases q : H b with
  | none => rfl
  | some x =>
    have hm : b ∈ trk h H := List.mem_filter.mpr ⟨List.mem_range.mpr (Heap.lt_size e'), by simp [q]⟩
    have z : (hidT h H).get? b = none := PySem.W.hideAll_none (trk h H) hm
    rw [z] at e; cases e

/-! ### OpenK's ledger, filled with every new object but one -/
noncomputable def allNews (g h : Heap) (L : Addr) : List (Addr × Obj) := (List.range h.objs.size).filterMap fun a => if a = L ∨ (g.get? a).isSome = true then none else (h.get? a).map fun o => (a, o)
noncomputable def rest (g h : Heap) (L d : Addr) : List (Addr × Obj) := (allNews g h L).filter fun p => decide (p.1 ≠ d)
end L2

namespace L2
open PySem PySem.Spec PyProof.Rows

/-- the module's facts, over the base: the heap at the law's entry without what is tracked there -/
structure Mod (K : PySem.W.Frag) (mg : Str → Option Value) (base : Heap) : Prop where
  kin : K.In base
  glob : base.Ns mainGlobals mg
  blt : ∃ mb, base.Ns builtinsNs mb ∧ ∀ x : Str, x ≠ "__name__" → mb x = bootBuiltins x
  nolimit : base.NoLimit

/-- the context: a def's body (or a comprehension's block) running. base: fixed through the whole law; s₀, H₀: the entry; outer: the frames whose slots others may change (a def's callers); stack: all frames that run;
   ex: iterators that were made ahead of the entry and are walked here (a comprehension's); fn: the names whose cells were made at the entry (a def: all; a comprehension's block: its own); calm: not within an except suite; pn: pins that every state bears; xe: what is wanted of an exception that leaves the code -/
structure Cx where
  prog : Program
  w : World
  K : PySem.W.Frag
  mg : Str → Option Value
  base : Heap
  A : Around
  N : List Str
  s₀ : Shared
  H₀ : Hp
  env : Env
  outer : List Env
  stack : List Env
  ex : List Addr
  fn : Str → Bool
  calm : Bool
  pn : List (Addr × Obj)
  xe : Value → Shared → Prop
/-- the callers' frames -/
noncomputable def frs (l : List Env) : List Addr := l.filterMap (·.frame)
noncomputable abbrev Cx.fs (X : Cx) : List Addr := frs X.outer

noncomputable def Vis (sc : Scope) (x : Str) : Prop := sc.names.lookup x = some .local ∨ sc.names.lookup x = some .cell ∨ sc.names.lookup x = some .free
noncomputable def Loc (sc : Scope) (x : Str) : Prop := sc.names.lookup x = some .local ∨ sc.names.lookup x = some .cell
noncomputable def Look (env : Env) (h : Heap) (m : Str → Option Value) (x : Str) (u : Value) : Prop :=
  (env.kindOf x = some .local ∧ m x = some u) ∨ ((env.kindOf x = some .cell ∨ env.kindOf x = some .free) ∧ ∃ c, env.cells.lookup x = some c ∧ h.IsCell c (some u))

structure Cx.Ok (X : Cx) : Prop where
  mod : Mod X.K X.mg X.base
  kind : X.env.scope.kind = .function
  glob : X.env.globals = mainGlobals
  blt : X.env.builtins = builtinsNs
  above : X.s₀.heap.objs.size ≤ X.env.locals
  inj : ∀ x y c, X.env.cells.lookup x = some c → X.env.cells.lookup y = some c → x = y
  has : ∀ x, (X.env.kindOf x = some .cell ∨ X.env.kindOf x = some .free) → ∃ c, X.env.cells.lookup x = some c
  cab : ∀ x c, X.fn x = true → X.env.cells.lookup x = some c → X.s₀.heap.objs.size ≤ c
  hd : X.calm = true → X.A.handled = none
  frames : X.A.frames = some X.stack
  stk : X.stack = X.outer ∨ (X.stack = X.env :: X.outer ∧ X.env.frame = some X.env.locals)
  exf : ∀ b ∈ X.ex, b ≠ X.env.locals ∧ ∀ x c, X.env.cells.lookup x = some c → c ≠ b
  bs : ∀ b o, X.base.get? b = some o → X.s₀.heap.get? b = some o ∧ X.H₀ b = none
  bsz : X.base.objs.size ≤ X.s₀.heap.objs.size
  noex : ∀ b o, X.base.get? b = some o → b ∉ X.ex
  exfs : ∀ b ∈ X.ex, b ∉ X.fs
  funs : X.s₀.heap.FunFrames X.base X.outer
  frf : ∀ b ∈ X.fs, X.H₀ b = none

structure Inv (X : Cx) (pins : List (Addr × Obj)) (σ : List (Option V)) (H : Hp) (s : Shared) : Prop where
  ok : X.Ok
  os : s.os = X.s₀.os
  bare : AllBare s.gens
  base : Un X.fs X.ex X.H₀ H X.s₀.heap s.heap
  loc : ∃ m, s.heap.Ns X.env.locals m ∧ ∀ (i : Nat) (x : Str) (v : V), X.N[i]? = some x → σ[i]? = some (some v) → Vis X.env.scope x → ∃ u, RelV v u ∧ Look X.env s.heap m x u
  cell : ∀ x c, X.env.cells.lookup x = some c → ∃ v, s.heap.IsCell c v
  free : H X.env.locals = none
  freeC : ∀ x c, X.env.cells.lookup x = some c → H c = none
  pin : ∀ p ∈ X.pn ++ pins, s.heap.get? p.1 = some p.2 ∧ H p.1 = none ∧ p.1 ≠ X.env.locals ∧ p.1 ∉ X.fs ∧ ∀ v, p.2.data ≠ .cell v
  hok : HOk X.prog X.w H s.heap
  len : σ.length = X.N.length

section
variable {X : Cx} {pins : List (Addr × Obj)} {σ : List (Option V)} {H H' : Hp} {s : Shared} {h' : Heap}

theorem Cx.Ok.nofr (ok : X.Ok) {b : Addr} {o : Obj} (e : X.base.get? b = some o) : b ∉ X.fs := fun hb => by
  have := (ok.funs.mem hb).1
  rw [e] at this; cases this
theorem Inv.bs (I : Inv X pins σ H s) : ∀ b o, X.base.get? b = some o → s.heap.get? b = some o ∧ H b = none := fun b o e =>
  ⟨I.base.keep b o (I.ok.bs b o e).1 (I.ok.bs b o e).2 (I.ok.nofr e) (I.ok.noex b o e), I.base.free b o (I.ok.bs b o e).1 (I.ok.bs b o e).2 (I.ok.noex b o e)⟩
theorem Inv.bk (I : Inv X pins σ H s) : ∀ b o, X.base.get? b = some o → s.heap.get? b = some o := fun b o e => (I.bs b o e).1
theorem Inv.mod (I : Inv X pins σ H s) : Mod X.K X.mg X.base := I.ok.mod
theorem Inv.kIn (I : Inv X pins σ H s) : X.K.In s.heap := I.ok.mod.kin.keeps I.bk
/-- the frame over the base: for OpenK's rules (K.In X.base is I.mod.kin) -/
theorem Inv.fr (I : Inv X pins σ H s) : ∃ m, Fr X.base X.env.locals s.heap m :=
  let ⟨m, hn, _⟩ := I.loc
  ⟨m, hn, I.bk, Nat.le_trans I.ok.bsz I.ok.above⟩
theorem Inv.lt (I : Inv X pins σ H s) : X.env.locals < s.heap.objs.size := let ⟨_, hn, _⟩ := I.loc; hn.lt
theorem Inv.sz (I : Inv X pins σ H s) : X.s₀.heap.objs.size ≤ s.heap.objs.size := Nat.le_trans I.ok.above (Nat.le_of_lt I.lt)
theorem Inv.nofs (I : Inv X pins σ H s) {a : Addr} (h : s.heap.objs.size ≤ a) : a ∉ X.fs := fun hb => by
  obtain ⟨_, o, ho, _⟩ := I.ok.funs.mem hb
  exact absurd (Nat.lt_of_lt_of_le (Heap.lt_size ho) (Nat.le_trans I.sz h)) (Nat.lt_irrefl _)
theorem Inv.cne (I : Inv X pins σ H s) : ∀ x c, X.env.cells.lookup x = some c → c ≠ X.env.locals := fun x c e z => by
  obtain ⟨v, o, ho, hd⟩ := I.cell x c e
  obtain ⟨m, ⟨o', es, ep, ho', hd', _⟩, _⟩ := I.loc
  rw [z, ho'] at ho; cases ho; rw [hd'] at hd; cases hd
theorem Inv.funs (I : Inv X pins σ H s) : s.heap.FunFrames X.base X.outer := by
  have all : ∀ (l : List Env), (∀ b ∈ frs l, b ∈ X.fs) → X.s₀.heap.FunFrames X.base l → s.heap.FunFrames X.base l := by
    intro l
    induction l with
    | nil => intro _ _; trivial
    | cons env r ih =>
      intro hs hl
      obtain ⟨hk, ⟨L, o, hf, hn, ho, hd⟩, hr⟩ := hl
      have hL : L ∈ X.fs := hs L (by unfold frs; rw [List.filterMap_cons, hf]; exact List.mem_cons_self)
      obtain ⟨sl, e⟩ := I.base.slot L o ho (I.ok.frf L hL) hL fun z => I.ok.exfs L z hL
      exact ⟨hk, ⟨L, _, hf, hn, e, hd⟩, ih (fun b hb => hs b (by unfold frs; rw [List.filterMap_cons, hf]; exact List.mem_cons_of_mem _ hb)) hr⟩
  exact all X.outer (fun _ hb => hb) I.ok.funs

/-- the frames that run, for a call -/
theorem Inv.stack (I : Inv X pins σ H s) : s.heap.FunFrames X.base X.stack := by
  rcases I.ok.stk with e | ⟨e, hf⟩
  · rw [e]; exact I.funs
  · rw [e]
    obtain ⟨m, hn, _⟩ := I.loc
    refine .cons (by rw [I.ok.kind]; decide) hf hn ?_ I.funs
    exact Heap.get?_none_of_le (Nat.le_trans I.ok.bsz I.ok.above)
theorem Inv.stkSub (I : Inv X pins σ H s) : ∀ b ∈ frs X.stack, b ∈ X.env.locals :: X.fs := fun b hb => by
  rcases I.ok.stk with e | ⟨e, hf⟩
  · rw [e] at hb; exact List.mem_cons_of_mem _ hb
  · rw [e] at hb
    unfold frs at hb
    rw [List.filterMap_cons, hf] at hb
    exact hb
theorem Inv.stkFree (I : Inv X pins σ H s) : ∀ b ∈ frs X.stack, H b = none := fun b hb => by
  rcases List.mem_cons.mp (I.stkSub b hb) with e | hb
  · rw [e]; exact I.free
  · obtain ⟨_, o, ho, _⟩ := I.ok.funs.mem hb
    exact I.base.free b o ho (I.ok.frf b hb) fun z => I.ok.exfs b z hb

/-- THE STEP: the untracked objects but the frame and the records at ch are kept (the callers' frames up to slots), the frame's map is kept, the new abstract heap is held -/
theorem Inv.step {g' : Array GenState} {t' : Nat} {d' : Drawn} {ch : List Addr} (I : Inv X pins σ H s)
    (hch : ∀ b ∈ ch, (b ∈ X.ex ∨ X.s₀.heap.objs.size ≤ b) ∧ b ≠ X.env.locals ∧ (∀ x c, X.env.cells.lookup x = some c → c ≠ b) ∧ ∀ p ∈ X.pn ++ pins, p.1 ≠ b)
    (keep : ∀ b o, b ≠ X.env.locals → b ∉ X.fs → b ∉ ch → s.heap.get? b = some o → H b = none → h'.get? b = some o)
    (slot : ∀ b o, b ≠ X.env.locals → b ∈ X.fs → b ∉ ch → s.heap.get? b = some o → H b = none → ∃ sl, h'.get? b = some { o with slots := sl }) (free : ∀ b o, b ∉ ch → s.heap.get? b = some o → H b = none → H' b = none)
    (there : ∀ b o, b ∉ ch → s.heap.get? b = some o → ∃ o', h'.get? b = some o')
    (tups : ∀ b xs, H b = some (.tup xs) → H' b = some (.tup xs)) (frzs : ∀ b o u, H b = some (.frz o u) → H' b = some (.frz o u)) (tbls : ∀ b ps, H b = some (.tbl ps) → ∃ more, H' b = some (.tbl (ps ++ more)))
    (ns : ∀ m, s.heap.Ns X.env.locals m → h'.Ns X.env.locals m) (hok : HOk X.prog X.w H' h') (hg : AllBare g') :
    Inv X pins σ H' { s with heap := h', gens := g', drawn := d', toks := t' } := by
  have neL : ∀ b o, X.s₀.heap.get? b = some o → b ≠ X.env.locals := fun b o e => Nat.ne_of_lt (Nat.lt_of_lt_of_le (Heap.lt_size e) I.ok.above)
  have neC : ∀ b o, X.s₀.heap.get? b = some o → b ∉ X.ex → b ∉ ch := fun b o e hx hb => by
    rcases (hch b hb).1 with z | z
    · exact hx z
    · exact absurd (Nat.lt_of_lt_of_le (Heap.lt_size e) z) (Nat.lt_irrefl _)
  have cellK : ∀ x c, X.env.cells.lookup x = some c → ∀ v, s.heap.IsCell c v → h'.IsCell c v := fun x c e v ⟨o, ho, hd⟩ => by
    have nch : c ∉ ch := fun z => (hch c z).2.2.1 x c e rfl
    by_cases hc : c ∈ X.fs
    · obtain ⟨sl, q⟩ := slot c o (I.cne x c e) hc nch ho (I.freeC x c e)
      exact ⟨_, q, hd⟩
    · exact ⟨o, keep c o (I.cne x c e) hc nch ho (I.freeC x c e), hd⟩
  refine ⟨I.ok, I.os, hg, ⟨fun b o e n hb hx => ?_, fun b o e n hb hx => ?_, fun b o e n hx => ?_, fun b o e hx => ?_, fun b xs e => tups b xs (I.base.tups b xs e), fun b o xs e => frzs b o xs (I.base.frzs b o xs e), fun b ps e => ?_⟩, ?_, fun x c e => ?_, ?_, fun x c e => ?_, fun p hp => ?_, hok, I.len⟩
  · exact keep b o (neL b o e) hb (neC b o e hx) (I.base.keep b o e n hb hx) (I.base.free b o e n hx)
  · obtain ⟨sl, e1⟩ := I.base.slot b o e n hb hx
    obtain ⟨sl', e2⟩ := slot b _ (neL b o e) hb (neC b o e hx) e1 (I.base.free b o e n hx)
    exact ⟨sl', e2⟩
  · obtain ⟨o', e1⟩ := I.base.there b o e hx
    exact free b o' (neC b o e hx) e1 (I.base.free b o e n hx)
  · obtain ⟨o', e1⟩ := I.base.there b o e hx
    exact there b o' (neC b o e hx) e1
  · obtain ⟨m1, e1⟩ := I.base.tbls b ps e
    obtain ⟨m2, e2⟩ := tbls b _ e1
    exact ⟨m1 ++ m2, by rw [e2, Array.append_assoc]⟩
  · obtain ⟨m, hn, hl⟩ := I.loc
    refine ⟨m, ns m hn, fun i x v e1 e2 e3 => ?_⟩
    obtain ⟨u, r, l⟩ := hl i x v e1 e2 e3
    refine ⟨u, r, ?_⟩
    rcases l with l | ⟨k, c, e, z⟩
    · exact .inl l
    · exact .inr ⟨k, c, e, cellK x c e _ z⟩
  · obtain ⟨v, z⟩ := I.cell x c e
    exact ⟨v, cellK x c e v z⟩
  · obtain ⟨m, ⟨o, _, _, ho, _⟩, _⟩ := I.loc
    exact free _ o (fun z => (hch _ z).2.1 rfl) ho I.free
  · obtain ⟨v, o, ho, hd⟩ := I.cell x c e
    exact free c o (fun z => (hch c z).2.2.1 x c e rfl) ho (I.freeC x c e)
  · obtain ⟨e, n, ne, nf, d⟩ := I.pin p hp
    have nch : p.1 ∉ ch := fun z => (hch p.1 z).2.2.2 p hp rfl
    exact ⟨keep p.1 p.2 ne nf nch e n, free p.1 p.2 nch e n, ne, nf, d⟩
/-- .. where the frame's own object is kept too -/
theorem Inv.un {t' : Nat} (I : Inv X pins σ H s) (u : Un X.fs [] H H' s.heap h') (hok : HOk X.prog X.w H' h') : Inv X pins σ H' { s with heap := h', toks := t' } := by
  obtain ⟨m, ⟨o, es, ep, ho, r⟩, _⟩ := id I.loc
  obtain ⟨sl, hL⟩ := u.any ho I.free (by simp)
  exact I.step (g' := s.gens) (d' := s.drawn) (ch := []) (fun _ z => nomatch z) (fun b o _ hb _ e n => u.keep b o e n hb (by simp)) (fun b o _ hb _ e n => u.slot b o e n hb (by simp)) (fun b o _ e n => u.free b o e n (by simp)) (fun b o _ e => u.there b o e (by simp)) u.tups u.frzs u.tbls (fun m' hm => by
    obtain ⟨o', es', ep', ho', r'⟩ := hm
    rw [ho] at ho'; cases ho'
    exact ⟨_, es', ep', hL, r'⟩) hok I.bare
/-- behind a call (or a comprehension's block): the slots of this frame may have changed too, the records at ch may have turned -/
theorem Inv.call {g' : Array GenState} {t' : Nat} {d' : Drawn} {ch : List Addr} (I : Inv X pins σ H s) (u : Un (frs X.stack) ch H H' s.heap h') (hok : HOk X.prog X.w H' h') (hg : AllBare g')
    (hch : ∀ b ∈ ch, (b ∈ X.ex ∨ X.s₀.heap.objs.size ≤ b) ∧ b ≠ X.env.locals ∧ (∀ x c, X.env.cells.lookup x = some c → c ≠ b) ∧ ∀ p ∈ X.pn ++ pins, p.1 ≠ b) :
    Inv X pins σ H' { s with heap := h', gens := g', drawn := d', toks := t' } := by
  obtain ⟨m, ⟨o, es, ep, ho, r⟩, _⟩ := id I.loc
  obtain ⟨sl, hL⟩ := u.any ho I.free fun z => (hch _ z).2.1 rfl
  exact I.step (ch := ch) hch (fun b o hL hb hc e n => u.keep b o e n (fun z => (List.mem_cons.mp (I.stkSub b z)).elim hL hb) hc) (fun b o _ _ hc e n => u.any e n hc) (fun b o hc e n => u.free b o e n hc) (fun b o hc e => u.there b o e hc) u.tups u.frzs u.tbls (fun m' hm => by
    obtain ⟨o', es', ep', ho', r'⟩ := hm
    rw [ho] at ho'; cases ho'
    exact ⟨_, es', ep', hL, r'⟩) hok hg
/-- an untracked record of ours (an iterator) has turned -/
theorem Inv.turned {t' : Nat} {it : Addr} (I : Inv X pins σ H s) (k : ∀ b o, b ≠ it → s.heap.get? b = some o → h'.get? b = some o) (hn : H it = none) (hL : it ≠ X.env.locals)
    (h1 : it ∈ X.ex ∨ X.s₀.heap.objs.size ≤ it) (h2 : ∀ x c, X.env.cells.lookup x = some c → c ≠ it) (h3 : ∀ p ∈ X.pn ++ pins, p.1 ≠ it) : Inv X pins σ H { s with heap := h', toks := t' } := by
  have nit : ∀ b u, H b = some u → b ≠ it := fun b u e z => by rw [z, hn] at e; cases e
  refine I.step (g' := s.gens) (d' := s.drawn) (ch := [it]) (fun b hb => ?_) (fun b o _ _ hc e _ => k b o (fun z => hc (by simp [z])) e) (fun b o _ _ hc e _ => ⟨o.slots, k b o (fun z => hc (by simp [z])) e⟩) (fun _ _ _ _ n => n)
    (fun b o hc e => ⟨o, k b o (fun z => hc (by simp [z])) e⟩) (fun _ _ e => e) (fun _ _ _ e => e) (fun b ps e => ⟨#[], by rw [e]; simp⟩) (fun m hm => ?_) (fun b u e => ?_) I.bare
  · have e : b = it := by simpa using hb
    subst e
    exact ⟨h1, hL, h2, h3⟩
  · obtain ⟨o, es, ep, ho, r⟩ := hm
    exact ⟨o, es, ep, k _ o (Ne.symm hL) ho, r⟩
  · refine (I.hok b u e).stay (fun c v hc q => k c v ?_ q) (fun _ q => q) fun _ _ q => q
    rcases hc with z | z
    · rw [z]; exact nit b u e
    · exact nit c _ z
theorem Inv.tok (I : Inv X pins σ H s) (t : Nat) : Inv X pins σ H { s with toks := t } := I.un (h' := s.heap) (t' := t) Un.refl I.hok
/-- all objects kept -/
theorem Inv.kept {t' : Nat} (I : Inv X pins σ H s) (k : ∀ b u, s.heap.get? b = some u → h'.get? b = some u) : Inv X pins σ H { s with heap := h', toks := t' } := I.un (Un.kept k) (I.hok.kept k)
/-- a new object laid and tracked -/
theorem Inv.laid {a : Addr} {o : HO} {t' : Nat} (I : Inv X pins σ H s) (k : ∀ b u, s.heap.get? b = some u → h'.get? b = some u) (hp : s.heap.objs.size ≤ a) (new : ObjOk X.prog X.w (upd H a o) h' a o) :
    Inv X pins σ (upd H a o) { s with heap := h', toks := t' } := I.un (Un.laid k hp (I.hok.fresh hp)) (I.hok.laid k hp new)
/-- an object written -/
theorem Inv.write {x e : Addr} {o : HO} {t' : Nat} (I : Inv X pins σ H s) (mu : Mut (H x)) (he : e = x ∨ H e = some (.own x)) (k : ∀ b u, b ≠ e → s.heap.get? b = some u → h'.get? b = some u) (heo : ∃ u, h'.get? e = some u)
    (new : ObjOk X.prog X.w (upd H x o) h' x o) : Inv X pins σ (upd H x o) { s with heap := h', toks := t' } := I.un (Un.write mu he k heo) (I.hok.write mu he k heo new)
/-- forgetting slots, pins -/
theorem Inv.weak {σ' : List (Option V)} (I : Inv X pins σ H s) (hl : σ'.length = σ.length) (w : ∀ (i : Nat) v, σ'[i]? = some (some v) → σ[i]? = some (some v)) : Inv X pins σ' H s :=
  ⟨I.ok, I.os, I.bare, I.base, let ⟨m, hn, hl'⟩ := I.loc; ⟨m, hn, fun i x v e1 e2 e3 => hl' i x v e1 (w i v e2) e3⟩, I.cell, I.free, I.freeC, I.pin, I.hok, hl.trans I.len⟩
theorem Inv.pins_of {pins' : List (Addr × Obj)} (I : Inv X pins σ H s) (h : ∀ p ∈ pins', s.heap.get? p.1 = some p.2 ∧ H p.1 = none ∧ p.1 ≠ X.env.locals ∧ p.1 ∉ X.fs ∧ ∀ v, p.2.data ≠ .cell v) : Inv X pins' σ H s :=
  ⟨I.ok, I.os, I.bare, I.base, I.loc, I.cell, I.free, I.freeC, fun p hp => (List.mem_append.mp hp).elim (fun z => I.pin p (List.mem_append_left _ z)) (h p), I.hok, I.len⟩

theorem nodup_ix {N : List Str} (hN : N.Nodup) {i j : Nat} {x : Str} (a : N[i]? = some x) (b : N[j]? = some x) : i = j := by
  obtain ⟨h1, e1⟩ := List.getElem?_eq_some_iff.mp a
  obtain ⟨h2, e2⟩ := List.getElem?_eq_some_iff.mp b
  exact (List.getElem_inj hN).mp (e1.trans e2.symm)

/-- a name is stored; what changed -/
theorem store_ok2 {M : Model} {A : Around} {E : Value → Shared → Prop} {i : Nat} {x : Str} {v : V} {u : Value} {Q : Unit → Shared → Prop} (I : Inv X pins σ H s) (hN : X.N.Nodup) (hi : X.N[i]? = some x) (hx : Loc X.env.scope x) (r : RelV v u)
    (h : ∀ s', Inv X pins (σ.set i (some v)) H s' → (∃ a, Heap.SameBut a s.heap s'.heap ∧ (a = X.env.locals ∨ X.env.cells.lookup x = some a)) → Q () s') (hf : X.fn x = true ∨ X.env.scope.names.lookup x = some .local := by first | exact .inl rfl | exact .inr rfl | assumption) : wpAny M A (storeName X.env x u) Q E s := by
  obtain ⟨m, hn, hl⟩ := id I.loc
  have hcls : (X.env.scope.kind == .class || (X.env.scope.kind == .module && X.env.locals != X.env.globals)) = false := by rw [I.ok.kind]; rfl
  have hiσ : i < σ.length := by rw [I.len]; exact (List.getElem?_eq_some_iff.mp hi).1
  have cne := I.cne
  have tracked : ∀ {a : Addr} {h' : Heap}, (∃ o, s.heap.get? a = some o ∧ H a = none) → Heap.SameBut a s.heap h' → HOk X.prog X.w H h' := fun {a h'} ha hs b ob e => by
    obtain ⟨_, _, hfree⟩ := ha
    refine (I.hok b ob e).stay (fun c w' hc q => (hs.2 c ?_).trans q) (fun _ q => q) fun _ _ q => q
    rintro rfl
    rcases hc with rfl | hc
    · rw [hfree] at e; cases e
    · rw [hfree] at hc; cases hc
  rcases hx with hk | hk
  · refine wpAny_storeName_local hk hn (fun h' hn' hs => ?_) hcls
    obtain ⟨oL, _, _, hoL, _⟩ := id hn
    refine h _ ⟨I.ok, I.os, I.bare, ⟨fun b o e n hb hx => ?_, fun b o e n hb hx => ?_, I.base.free, fun b o e hx => ?_, I.base.tups, I.base.frzs, I.base.tbls⟩, ⟨_, hn', fun j y v' e1 e2 e3 => ?_⟩, fun y c e => ?_, I.free, I.freeC, fun p hp => ?_, tracked ⟨oL, hoL, I.free⟩ hs, by simpa using I.len⟩ ⟨_, hs, .inl rfl⟩
    · exact (hs.2 b (Nat.ne_of_lt (Nat.lt_of_lt_of_le (Heap.lt_size e) I.ok.above))).trans (I.base.keep b o e n hb hx)
    · obtain ⟨sl, e1⟩ := I.base.slot b o e n hb hx
      exact ⟨sl, (hs.2 b (Nat.ne_of_lt (Nat.lt_of_lt_of_le (Heap.lt_size e) I.ok.above))).trans e1⟩
    · obtain ⟨o', e1⟩ := I.base.there b o e hx
      exact ⟨o', (hs.2 b (Nat.ne_of_lt (Nat.lt_of_lt_of_le (Heap.lt_size e) I.ok.above))).trans e1⟩
    · by_cases hj : j = i
      · subst hj
        rw [hi] at e1; cases e1
        rw [List.getElem?_set_self hiσ] at e2
        cases e2
        exact ⟨u, r, .inl ⟨hk, by simp⟩⟩
      · rw [List.getElem?_set_ne (Ne.symm hj)] at e2
        obtain ⟨u', r', q⟩ := hl j y v' e1 e2 e3
        refine ⟨u', r', ?_⟩
        rcases q with ⟨k, e⟩ | ⟨k, c, e, z⟩
        · refine .inl ⟨k, ?_⟩
          have : y ≠ x := fun e => hj (nodup_ix hN e1 (e ▸ hi))
          simp [this, e]
        · exact .inr ⟨k, c, e, z.sameBut hs (cne y c e)⟩
    · obtain ⟨w', z⟩ := I.cell y c e
      exact ⟨w', z.sameBut hs (cne y c e)⟩
    · obtain ⟨e, n, ne, nf, d⟩ := I.pin p hp
      exact ⟨(hs.2 p.1 ne).trans e, n, ne, nf, d⟩
  · have hfn : X.fn x = true := by
      rcases hf with z | z
      · exact z
      · rw [z] at hk; cases hk
    obtain ⟨c, hc⟩ := I.ok.has x (.inl hk)
    obtain ⟨w', z⟩ := I.cell x c hc
    refine wpAny_storeName_cell I.ok.kind hk hc z (fun h' hc' hs => ?_)
    obtain ⟨oc, hoc, hocd⟩ := id z
    refine h { s with heap := h' } ⟨I.ok, I.os, I.bare, ⟨fun b o e n hb hx => ?_, fun b o e n hb hx => ?_, I.base.free, fun b o e hx => ?_, I.base.tups, I.base.frzs, I.base.tbls⟩, ⟨m, hn.sameBut hs (Ne.symm (cne x c hc)), fun j y v' e1 e2 e3 => ?_⟩, fun y c' e => ?_, I.free, I.freeC, fun p hp => ?_, tracked ⟨oc, hoc, I.freeC x c hc⟩ hs, by simpa using I.len⟩ ⟨c, hs, .inr hc⟩
    · exact (hs.2 b (Nat.ne_of_lt (Nat.lt_of_lt_of_le (Heap.lt_size e) (I.ok.cab x c hfn hc)))).trans (I.base.keep b o e n hb hx)
    · obtain ⟨sl, e1⟩ := I.base.slot b o e n hb hx
      exact ⟨sl, (hs.2 b (Nat.ne_of_lt (Nat.lt_of_lt_of_le (Heap.lt_size e) (I.ok.cab x c hfn hc)))).trans e1⟩
    · obtain ⟨o', e1⟩ := I.base.there b o e hx
      exact ⟨o', (hs.2 b (Nat.ne_of_lt (Nat.lt_of_lt_of_le (Heap.lt_size e) (I.ok.cab x c hfn hc)))).trans e1⟩
    · by_cases hj : j = i
      · subst hj
        rw [hi] at e1; cases e1
        rw [List.getElem?_set_self hiσ] at e2
        cases e2
        exact ⟨u, r, .inr ⟨.inl hk, c, hc, hc'⟩⟩
      · rw [List.getElem?_set_ne (Ne.symm hj)] at e2
        obtain ⟨u', r', q⟩ := hl j y v' e1 e2 e3
        refine ⟨u', r', ?_⟩
        rcases q with q | ⟨k, c', e, z'⟩
        · exact .inl q
        · refine .inr ⟨k, c', e, z'.sameBut hs ?_⟩
          rintro rfl
          exact hj (nodup_ix hN e1 (I.ok.inj _ _ _ e hc ▸ hi))
    · by_cases hcc : c' = c
      · subst hcc; exact ⟨_, hc'⟩
      · obtain ⟨w2, z2⟩ := I.cell y c' e
        exact ⟨w2, z2.sameBut hs hcc⟩
    · obtain ⟨e, n, ne, nf, d⟩ := I.pin p hp
      refine ⟨(hs.2 p.1 ?_).trans e, n, ne, nf, d⟩
      intro q
      rw [q, hoc] at e
      have q' : oc = p.2 := Option.some.inj e
      exact d w' (by rw [← q']; exact hocd)
theorem store_ok {M : Model} {A : Around} {E : Value → Shared → Prop} {i : Nat} {x : Str} {v : V} {u : Value} {Q : Unit → Shared → Prop} (I : Inv X pins σ H s) (hN : X.N.Nodup) (hi : X.N[i]? = some x) (hx : Loc X.env.scope x) (r : RelV v u)
    (h : ∀ s', Inv X pins (σ.set i (some v)) H s' → Q () s') (hf : X.fn x = true ∨ X.env.scope.names.lookup x = some .local := by first | exact .inl rfl | exact .inr rfl | assumption) : wpAny M A (storeName X.env x u) Q E s :=
  store_ok2 I hN hi hx r (fun s' I' _ => h s' I') hf
/-- behind a call or a block, the state as it is -/
theorem Inv.call' {s' : Shared} {ch : List Addr} (I : Inv X pins σ H s) (ho : s'.os = s.os) (u : Un (frs X.stack) ch H H' s.heap s'.heap) (hok : HOk X.prog X.w H' s'.heap) (hg : AllBare s'.gens)
    (hch : ∀ b ∈ ch, (b ∈ X.ex ∨ X.s₀.heap.objs.size ≤ b) ∧ b ≠ X.env.locals ∧ (∀ x c, X.env.cells.lookup x = some c → c ≠ b) ∧ ∀ p ∈ X.pn ++ pins, p.1 ≠ b) : Inv X pins σ H' s' := by
  obtain ⟨h', g', d', t', o'⟩ := s'
  have e : o' = s.os := ho
  subst e
  exact I.call (g' := g') (t' := t') (d' := d') u hok hg hch
end

/-! ### the judgements -/
/-- an exception: its class, its own dict's address (where it has one), the abstract heap behind it -/
noncomputable abbrev XK := Value → Option Addr → Hp → Prop
noncomputable abbrev St := List (Option V)
noncomputable abbrev VK := V → Hp → Prop
/-- an expression's reading; a test's; an argument list's -/
noncomputable abbrev TE := St → Hp → VK → Prop
noncomputable abbrev TT := St → Hp → (Bool → Hp → Prop) → Prop
noncomputable abbrev TA := St → Hp → (List V → Hp → Prop) → Prop
/-- what is wanted behind a statement -/
structure Ends where
  nx : St → Hp → Prop
  rt : VK
  bk : St → Hp → Prop := fun _ _ => False
  ct : St → Hp → Prop := fun _ _ => False
noncomputable abbrev TS := Ends → St → Hp → Prop

noncomputable def EP (X : Cx) (pins : List (Addr × Obj)) (σ : St) (Q : VK) (u : Value) (s' : Shared) : Prop := ∃ v H', Inv X pins σ H' s' ∧ RelV v u ∧ Q v H'
noncomputable def TP (X : Cx) (pins : List (Addr × Obj)) (σ : St) (Q : Bool → Hp → Prop) (b : Bool) (s' : Shared) : Prop := ∃ H', Inv X pins σ H' s' ∧ Q b H'
noncomputable def AP (X : Cx) (pins : List (Addr × Obj)) (σ : St) (Q : List V → Hp → Prop) (us : List Value) (s' : Shared) : Prop := ∃ vs H', Inv X pins σ H' s' ∧ Vals vs us ∧ Q vs H'
noncomputable def SP (X : Cx) (pins : List (Addr × Obj)) (D : Ends) (f : Flow) (s' : Shared) : Prop :=
  match f with
  | .next => ∃ σ' H', Inv X pins σ' H' s' ∧ D.nx σ' H'
  | .brk => ∃ σ' H', Inv X pins σ' H' s' ∧ D.bk σ' H'
  | .cont => ∃ σ' H', Inv X pins σ' H' s' ∧ D.ct σ' H'
  | .ret u => ∃ v σ' H', Inv X pins σ' H' s' ∧ RelV v u ∧ D.rt v H'

noncomputable def PE (X : Cx) (e : Expr) (t : TE) : Prop :=
  ∀ (pins : List (Addr × Obj)) (s : Shared) (σ : St) (H : Hp) (Q : VK), Inv X pins σ H s → t σ H Q → wpAny (model X.prog X.w) X.A (eval e X.env) (EP X pins σ Q) X.xe s
noncomputable def PT (X : Cx) (e : Expr) (t : TT) : Prop :=
  ∀ (pins : List (Addr × Obj)) (s : Shared) (σ : St) (H : Hp) (Q : Bool → Hp → Prop), Inv X pins σ H s → t σ H Q → wpAny (model X.prog X.w) X.A (isTrue e X.env (eval e X.env)) (TP X pins σ Q) X.xe s
/-- a test whatever its 'whole' is (and, or) -/
noncomputable def PW (X : Cx) (e : Expr) (t : TT) : Prop :=
  ∀ (whole : Sem Value) (pins : List (Addr × Obj)) (s : Shared) (σ : St) (H : Hp) (Q : Bool → Hp → Prop), Inv X pins σ H s → t σ H Q → wpAny (model X.prog X.w) X.A (isTrue e X.env whole) (TP X pins σ Q) X.xe s
theorem PW.pt {X : Cx} {e : Expr} {t : TT} (h : PW X e t) : PT X e t := h _
/-- an argument list (no star), from the left -/
noncomputable def PA (X : Cx) (es : List Expr) (t : TA) : Prop :=
  ∀ (pos : Pos) (pins : List (Addr × Obj)) (s : Shared) (σ : St) (H : Hp) (Q : List V → Hp → Prop), Inv X pins σ H s → t σ H Q → wpAny (model X.prog X.w) X.A (spliced (backTo pos (starEach es X.env))) (AP X pins σ Q) X.xe s
noncomputable def PS (X : Cx) (st : Stmt) (t : TS) : Prop :=
  ∀ (pins : List (Addr × Obj)) (s : Shared) (σ : St) (H : Hp) (D : Ends), Inv X pins σ H s → t D σ H → wpAny (model X.prog X.w) X.A (exec st X.env) (SP X pins D) X.xe s
noncomputable def PSs (X : Cx) (st : List Stmt) (t : TS) : Prop :=
  ∀ (pins : List (Addr × Obj)) (s : Shared) (σ : St) (H : Hp) (D : Ends), Inv X pins σ H s → t D σ H → wpAny (model X.prog X.w) X.A (execs st X.env) (SP X pins D) X.xe s
/-- weaken the end -/
theorem thn {α : Type} {t : Sem α} {Q Q' : α → Shared → Prop} {M : Model} {A : Around} {E : Value → Shared → Prop} {s : Shared} (h : wpAny M A t Q E s) (hQ : ∀ a s, Q a s → Q' a s) : wpAny M A t Q' E s := wpAny_mono h hQ fun _ _ x => x
end L2

namespace L2
open PySem PySem.Spec PyProof.Rows
section
variable {X : Cx}

/-- two expressions in a row -/
theorem bin {a b : Expr} {ta tb : TE} (ha : PE X a ta) (hb : PE X b tb) {pins : List (Addr × Obj)} {s : Shared} {σ : St} {H : Hp} {R : V → V → Hp → Prop} (I : Inv X pins σ H s) (h : ta σ H fun x H1 => tb σ H1 fun y H2 => R x y H2)
    {α : Type} {Q : α → Shared → Prop} {f : Value → Value → Sem α}
    (hf : ∀ v u s2 x y H2, Inv X pins σ H2 s2 → RelV x v → RelV y u → R x y H2 → wpAny (model X.prog X.w) X.A (f v u) Q X.xe s2) :
    wpAny (model X.prog X.w) X.A (eval a X.env) (fun v s₁ => wpAny (model X.prog X.w) X.A (eval b X.env) (fun u s₂ => wpAny (model X.prog X.w) X.A (f v u) Q X.xe s₂) X.xe s₁) X.xe s := by
  refine thn (ha pins s σ H _ I h) fun v s1 ⟨x, H1, I1, r1, q1⟩ => ?_
  refine thn (hb pins s1 σ H1 _ I1 q1) fun u s2 ⟨y, H2, I2, r2, q2⟩ => ?_
  exact hf v u s2 x y H2 I2 r1 r2 q2

/-! ### names and constants -/
noncomputable def tVar (i : Nat) : TE := fun σ H Q => ∃ v, σ[i]? = some (some v) ∧ Q v H
noncomputable def tC (v : V) : TE := fun _ H Q => Q v H
theorem pe_var {i : Nat} {x : Str} {pos : Pos} (hN : X.N[i]? = some x) (hv : Vis X.env.scope x) (hd : (x == ("__debug__" : Str)) = false := by decide) (hcd : (x == ("__classdict__" : Str)) = false := by decide) : PE X (.Name x pos) (tVar i) := by
  intro pins s σ H Q I h
  obtain ⟨v, e, h⟩ := h
  obtain ⟨m, hn, hl⟩ := I.loc
  obtain ⟨u, r, l⟩ := hl i x v hN e hv
  have fin : EP X pins σ Q u s := ⟨v, H, I, r, h⟩
  rcases l with ⟨hk, hm⟩ | ⟨hk, c, hc, hcell⟩
  · exact wpAny_Name (wpAny_loadName_local I.ok.kind hk hn hm fin) hd
  · rcases hk with hk | hk
    · exact wpAny_Name (wpAny_loadName_cell I.ok.kind hk hc hcell fin) hd
    · exact wpAny_Name (wpAny_loadName_free I.ok.kind hk hc hcell fin hcd) hd
theorem pe_int {i j pos} : PE X (.Constant (.int i) j pos) (tC (.int i)) := fun _ _ _ H _ I h => wpAny_Constant_int ⟨.int i, H, I.tok _, ⟨_, rfl⟩, h⟩
theorem pe_bl {b j pos} : PE X (.Constant (.bool b) j pos) (tC (.bl b)) := fun _ _ _ H _ I h => Constant_bool ⟨.bl b, H, I, rfl, h⟩
theorem pe_non {j pos} : PE X (.Constant .none j pos) (tC .non) := fun _ _ _ H _ I h => Constant_none ⟨.non, H, I, rfl, h⟩
theorem pe_str {x j pos} : PE X (.Constant (.str x) j pos) (tC (.str x)) := fun _ _ _ H _ I h => Calls.Constant_str ⟨.str x, H, I.tok _, ⟨_, rfl⟩, h⟩

/-- a global name of the def -/
noncomputable def Gl (X : Cx) (x : Str) : Prop := X.env.kindOf x = some .globalImplicit
theorem ld_glob {E : Value → Shared → Prop} {pins : List (Addr × Obj)} {s : Shared} {σ : St} {H : Hp} {x : Str} {u : Value} {pos : Pos} {Q : Value → Shared → Prop} (I : Inv X pins σ H s) (hg : Gl X x) (hm : X.mg x = some u) (h : Q u s)
    (hd : (x == ("__debug__" : Str)) = false := by decide) : wpAny (model X.prog X.w) X.A (eval (.Name x pos) X.env) Q E s :=
  Calls.Name_function_global I.ok.kind hg (Calls.loadGlobal_global (by rw [I.ok.glob]; exact I.mod.glob.keeps I.bk) hm h) hd
theorem ld_blt {E : Value → Shared → Prop} {pins : List (Addr × Obj)} {s : Shared} {σ : St} {H : Hp} {x : Str} {u : Value} {pos : Pos} {Q : Value → Shared → Prop} (I : Inv X pins σ H s) (hg : Gl X x) (hm : X.mg x = none) (hv : bootBuiltins x = some u) (h : Q u s)
    (hn : x ≠ "__name__" := by decide) (hd : (x == ("__debug__" : Str)) = false := by decide) : wpAny (model X.prog X.w) X.A (eval (.Name x pos) X.env) Q E s := by
  obtain ⟨mb, h1, h2⟩ := I.mod.blt
  exact Calls.Name_function_global I.ok.kind hg (Calls.loadGlobal_builtin (by rw [I.ok.glob]; exact I.mod.glob.keeps I.bk) hm (by rw [I.ok.blt]; exact h1.keeps I.bk) ((h2 x hn).trans hv) h) hd
/-- a module's constant, a class, a function, as a value -/
theorem pe_glob {x : Str} {v : V} {u : Value} {pos : Pos} (hg : Gl X x) (hm : X.mg x = some u) (r : RelV v u) (hd : (x == ("__debug__" : Str)) = false := by decide) : PE X (.Name x pos) (tC v) :=
  fun _ _ _ H _ I h => ld_glob I hg hm ⟨v, H, I, r, h⟩ hd
theorem pe_bltn {x : Str} {v : V} {u : Value} {pos : Pos} (hg : Gl X x) (hm : X.mg x = none) (hv : bootBuiltins x = some u) (r : RelV v u) (hn : x ≠ "__name__" := by decide) (hd : (x == ("__debug__" : Str)) = false := by decide) : PE X (.Name x pos) (tC v) :=
  fun _ _ _ H _ I h => ld_blt I hg hm hv ⟨v, H, I, r, h⟩ hn hd

/-! ### arithmetic -/
/-- two ints -/
noncomputable def t2I (ta tb : TE) (k : Int → Int → Hp → Prop) : St → Hp → Prop := fun σ H => ta σ H fun x H1 => tb σ H1 fun y H2 => ∃ i j, x = .int i ∧ y = .int j ∧ k i j H2
noncomputable def tAdd (ta tb : TE) : TE := fun σ H Q => t2I ta tb (fun i j H2 => Q (.int (i + j)) H2) σ H
noncomputable def tSub (ta tb : TE) : TE := fun σ H Q => t2I ta tb (fun i j H2 => Q (.int (i - j)) H2) σ H
/-- the left factor below 2^64 -/
noncomputable def tMul (ta tb : TE) : TE := fun σ H Q => t2I ta tb (fun i j H2 => (-(2 ^ 64) < i ∧ i < 2 ^ 64) ∧ Q (.int (i * j)) H2) σ H
variable {a b : Expr} {ta tb : TE} {pos : Pos}

/-! ### comparisons -/
noncomputable def PC (X : Cx) (op : CmpOp) (a b : Expr) (t : TE) : Prop :=
  ∀ (pins : List (Addr × Obj)) (s : Shared) (σ : St) (H : Hp) (Q : VK), Inv X pins σ H s → t σ H Q →
    wpAny (model X.prog X.w) X.A (eval a X.env) (fun v s₁ => wpAny (model X.prog X.w) X.A (eval b X.env) (fun u s₂ => wpAny (model X.prog X.w) X.A (compareOp op v u) (EP X pins σ Q) X.xe s₂) X.xe s₁) X.xe s
noncomputable def tCmp (p : Int → Int → Bool) (ta tb : TE) : TE := fun σ H Q => t2I ta tb (fun i j H2 => Q (.bl (p i j)) H2) σ H
noncomputable abbrev tLt : TE → TE → TE := tCmp fun i j => decide (i < j)
noncomputable abbrev tLe : TE → TE → TE := tCmp fun i j => decide (i ≤ j)
noncomputable abbrev tGt : TE → TE → TE := tCmp fun i j => decide (j < i)
noncomputable abbrev tGe : TE → TE → TE := tCmp fun i j => decide (j ≤ i)
noncomputable abbrev tEqI : TE → TE → TE := tCmp fun i j => decide (i = j)
noncomputable abbrev tNeI : TE → TE → TE := tCmp fun i j => !decide (i = j)
/-- is None -/
noncomputable def tIsN (ta : TE) : TE := fun σ H Q => ta σ H fun x H1 => Q (.bl (decide (x = .non))) H1
noncomputable def tNotN (ta : TE) : TE := fun σ H Q => ta σ H fun x H1 => Q (.bl (!decide (x = .non))) H1
/-- a comparison as a value, as a test -/
noncomputable def tB (t : TE) : TT := fun σ H Q => t σ H fun x H1 => ∃ c, x = .bl c ∧ Q c H1
theorem pt_cmp {op : CmpOp} {t : TE} (h : PC X op a b t) (h1 : behindInMarks op b = false := by first | exact nobehind _ (by decide) (by decide) | rfl) : PT X (.Compare a [op] [b] pos) (tB t) := by
  intro pins s σ H Q I hw
  refine wpAny_isTrue_Compare1 (thn (h pins s σ H _ I hw) fun v s1 h1 => thn h1 fun u s2 h2 => thn h2 fun c s3 ⟨x, H1, I1, r1, q1⟩ => ?_) h1
  obtain ⟨d, rfl, q⟩ := q1
  cases r1
  exact wpAny_truthy_bool ⟨H1, I1, q⟩
/-- an expression whose value is a bool, as a test -/
theorem pt_val {e : Expr} {t : TE} (h : PE X e t) (he : ∀ whole, isTrue e X.env whole = (do let v ← whole; standAt e.pos; holding [v] (truthy v)) := by intro _; rfl) : PT X e (tB t) := by
  intro pins s σ H Q I hw
  refine isTrue_plain (thn (h pins s σ H _ I hw) fun v s1 ⟨x, H1, I1, r1, q1⟩ => ?_) (he _)
  obtain ⟨d, rfl, q⟩ := q1
  cases r1
  exact wpAny_truthy_bool ⟨H1, I1, q⟩

/-! ### and, or, not -/
variable {tA tB' : TT} {rest : List Expr}
noncomputable def tAnd (t u : TT) : TT := fun σ H Q => t σ H fun c H1 => if c = true then u σ H1 Q else Q false H1
noncomputable def tOr (t u : TT) : TT := fun σ H Q => t σ H fun c H1 => if c = true then Q true H1 else u σ H1 Q
noncomputable def tNot (t : TT) : TT := fun σ H Q => t σ H fun c H1 => Q (!c) H1
theorem pw_or1 (ha : PT X a tA) : PW X (.BoolOp .Or [a] pos) tA := by
  intro wh pins s σ H Q I h
  refine isTrue_or (thn (ha pins s σ H Q I h) fun c s1 e => ?_)
  cases c with
  | false => exact isTrue_or_nil e
  | true => exact e
theorem pw_or (ha : PT X a tA) (hb : PW X (.BoolOp .Or (b :: rest) pos) tB') : PW X (.BoolOp .Or (a :: b :: rest) pos) (tOr tA tB') := by
  intro wh pins s σ H Q I h
  refine isTrue_or (thn (ha pins s σ H _ I h) fun c s1 ⟨H1, I1, q1⟩ => ?_)
  cases c with
  | true => exact ⟨H1, I1, q1⟩
  | false => exact hb wh pins s1 σ H1 Q I1 q1
theorem pt_not (ha : PT X a tA) : PT X (.UnaryOp .Not a pos) (tNot tA) := by
  intro pins s σ H Q I h
  exact isTrue_not (ha pins s σ H (fun c H1 => Q (!c) H1) I h)
/-- .. as values (bools) -/
noncomputable def tAndV (ta tb : TE) : TE := fun σ H Q => ta σ H fun x H1 => ∃ c, x = .bl c ∧ if c = true then tb σ H1 Q else Q (.bl false) H1
noncomputable def tOrV (ta tb : TE) : TE := fun σ H Q => ta σ H fun x H1 => ∃ c, x = .bl c ∧ if c = true then Q (.bl true) H1 else tb σ H1 Q
noncomputable def tNotV (ta : TE) : TE := fun σ H Q => ta σ H fun x H1 => ∃ c, x = .bl c ∧ Q (.bl (!c)) H1
theorem pe_one {op} {t : TE} (h : PE X a t) : PE X (.BoolOp op [a] pos) t := fun pins s σ H Q I hw => BoolOp_one (h pins s σ H Q I hw)
theorem pe_and (ha : PE X a ta) (hb : PE X (.BoolOp .And (b :: rest) pos) tb) : PE X (.BoolOp .And (a :: b :: rest) pos) (tAndV ta tb) := by
  intro pins s σ H Q I h
  refine BoolOp_and (thn (ha pins s σ H _ I h) fun v s1 ⟨x, H1, I1, r1, q1⟩ => ?_)
  obtain ⟨c, rfl, q1⟩ := q1
  cases r1
  refine wpAny_truthy_bool ?_
  cases c with
  | true => exact hb pins s1 σ H1 Q I1 q1
  | false => exact ⟨.bl false, H1, I1, rfl, q1⟩
theorem pe_or (ha : PE X a ta) (hb : PE X (.BoolOp .Or (b :: rest) pos) tb) : PE X (.BoolOp .Or (a :: b :: rest) pos) (tOrV ta tb) := by
  intro pins s σ H Q I h
  refine BoolOp_or (thn (ha pins s σ H _ I h) fun v s1 ⟨x, H1, I1, r1, q1⟩ => ?_)
  obtain ⟨c, rfl, q1⟩ := q1
  cases r1
  refine wpAny_truthy_bool ?_
  cases c with
  | false => exact hb pins s1 σ H1 Q I1 q1
  | true => exact ⟨.bl true, H1, I1, rfl, q1⟩
/-- a if t else b -/
noncomputable def tIf (t : TT) (ta tb : TE) : TE := fun σ H Q => t σ H fun c H1 => if c = true then ta σ H1 Q else tb σ H1 Q
theorem pe_ifExp {c : Expr} (hc : PT X c tA) (ha : PE X a ta) (hb : PE X b tb) : PE X (.IfExp c a b pos) (tIf tA ta tb) := by
  intro pins s σ H Q I h
  refine wpAny_IfExp (thn (hc pins s σ H _ I h) fun d s1 ⟨H1, I1, q1⟩ => ?_)
  cases d with
  | true => exact ha pins s1 σ H1 Q I1 q1
  | false => exact hb pins s1 σ H1 Q I1 q1
end
end L2

namespace L2
open PySem PySem.Spec PyProof.Rows

/-! ### a list, a tuple that is read: tracked, frozen, or an object of the module -/
noncomputable def SqL (K : PySem.W.Frag) (H : Hp) (a : Addr) (xs : List V) : Prop :=
  Rd H a (.lst xs) ∨
    ∃ (o : Obj) (its : Array Value) (n : Nat), K.lookup a = some o ∧ o.cls = .type "list" ∧ o.dict = none ∧ o.data = .seq its n ∧ its.size ≤ sizeLine ∧ Vals xs its.toList
noncomputable def SqT (K : PySem.W.Frag) (H : Hp) (a : Addr) (xs : List V) : Prop :=
  Rd H a (.tup xs) ∨
    ∃ (o : Obj) (its : Array Value) (n : Nat), K.lookup a = some o ∧ o.cls = .type "tuple" ∧ o.data = .seq its n ∧ its.size ≤ sizeLine ∧ Vals xs its.toList
noncomputable def absV : Value → Option V
  | .none => some .non
  | .bool b => some (.bl b)
  | .int i _ => some (.int i)
  | .str x _ => some (.str x)
  | .bytes b _ => some (.byt b)
  | .float b _ => some (.flt b)
  | .ref a => some (.ref a)
  | .type n => some (.ty n)
  | _ => none
theorem RelV.abs {x : V} {u : Value} (r : RelV x u) : absV u = some x := by
  cases x with
  | non => cases r; rfl
  | bl _ => cases r; rfl
  | int _ => obtain ⟨t, rfl⟩ := r; rfl
  | str _ => obtain ⟨t, rfl⟩ := r; rfl
  | byt _ => obtain ⟨t, rfl⟩ := r; rfl
  | flt _ => obtain ⟨t, rfl⟩ := r; rfl
  | ref _ => cases r; rfl
  | ty _ => cases r; rfl
theorem RelV.inj {x y : V} {u : Value} (r : RelV x u) (q : RelV y u) : x = y := Option.some.inj (r.abs.symm.trans q.abs)
theorem Vals.inj : ∀ {xs ys : List V} {us : List Value}, Vals xs us → Vals ys us → xs = ys
  | _, _, _, .nil, .nil => rfl
  | _, _, _, .cons r t, .cons r' t' => by rw [r.inj r', Vals.inj t t']
section
variable {X : Cx} {pins : List (Addr × Obj)} {σ : St} {H : Hp} {s : Shared} {a : Addr} {xs ys : List V}
theorem SqL.of {K : PySem.W.Frag} (h : H a = some (.lst xs)) : SqL K H a xs := .inl (.inl h)
theorem Inv.list (I : Inv X pins σ H s) (h : SqL X.K H a xs) : ∃ its : List Value, Vals xs its ∧ PlainL s.heap a its.toArray ∧ xs.length ≤ sizeLine := by
  rcases h with h | ⟨o, its, n, hk, hc, hd, hs, hz, r⟩
  · obtain ⟨z, its, n, r, e⟩ := h.ok I.hok
    exact ⟨its, r, ⟨_, n, e, rfl, rfl, rfl⟩, z⟩
  · refine ⟨its.toList, r, ⟨o, n, I.kIn a o hk, hc, hd, by simpa using hs⟩, ?_⟩
    have e := r.length
    simp only [Array.length_toList] at e
    omega
theorem Inv.tuple (I : Inv X pins σ H s) (h : SqT X.K H a xs) : ∃ its : List Value, Vals xs its ∧ IsTup s.heap a its.toArray ∧ xs.length ≤ sizeLine := by
  rcases h with h | ⟨o, its, n, hk, hc, hs, hz, r⟩
  · obtain ⟨z, its, r, p⟩ := h.ok I.hok
    exact ⟨its, r, p, z⟩
  · refine ⟨its.toList, r, ⟨o, I.kIn a o hk, hc, n, by simpa using hs⟩, ?_⟩
    have e := r.length
    simp only [Array.length_toList] at e
    omega
theorem Inv.list_inj (I : Inv X pins σ H s) (h : SqL X.K H a xs) (h' : SqL X.K H a ys) : xs = ys := by
  obtain ⟨its, r, ⟨o, n, e, _, _, d⟩, _⟩ := I.list h
  obtain ⟨its', r', ⟨o', n', e', _, _, d'⟩, _⟩ := I.list h'
  rw [e] at e'; cases e'
  rw [d] at d'
  injection d' with d1 _
  have : its = its' := by simpa using congrArg Array.toList d1
  subst this
  exact r.inj r'
theorem Inv.tuple_inj (I : Inv X pins σ H s) (h : SqT X.K H a xs) (h' : SqT X.K H a ys) : xs = ys := by
  obtain ⟨its, r, ⟨o, e, _, n, d⟩, _⟩ := I.tuple h
  obtain ⟨its', r', ⟨o', e', _, n', d'⟩, _⟩ := I.tuple h'
  rw [e] at e'; cases e'
  rw [d] at d'
  injection d' with d1 _
  have : its = its' := by simpa using congrArg Array.toList d1
  subst this
  exact r.inj r'
end

/-! ### another wish about exceptions -/
noncomputable abbrev Cx.wish (X : Cx) (E : Value → Shared → Prop) : Cx := { X with xe := E }
/-- no exception leaves -/
noncomputable abbrev Cx.nox (X : Cx) : Cx := X.wish fun _ _ => False
theorem Cx.Ok.wish {X : Cx} (ok : X.Ok) (E : Value → Shared → Prop) : (X.wish E).Ok :=
  ⟨ok.mod, ok.kind, ok.glob, ok.blt, ok.above, ok.inj, ok.has, ok.cab, ok.hd, ok.frames, ok.stk, ok.exf, ok.bs, ok.bsz, ok.noex, ok.exfs, ok.funs, ok.frf⟩
theorem Cx.Ok.unwish {X : Cx} {E : Value → Shared → Prop} (ok : (X.wish E).Ok) : X.Ok :=
  ⟨ok.mod, ok.kind, ok.glob, ok.blt, ok.above, ok.inj, ok.has, ok.cab, ok.hd, ok.frames, ok.stk, ok.exf, ok.bs, ok.bsz, ok.noex, ok.exfs, ok.funs, ok.frf⟩
section
variable {X : Cx} {pins : List (Addr × Obj)} {σ : St} {H : Hp} {s : Shared} {E : Value → Shared → Prop}
theorem Inv.wish (I : Inv X pins σ H s) (E : Value → Shared → Prop) : Inv (X.wish E) pins σ H s := ⟨I.ok.wish E, I.os, I.bare, I.base, I.loc, I.cell, I.free, I.freeC, I.pin, I.hok, I.len⟩
theorem Inv.unwish (I : Inv (X.wish E) pins σ H s) : Inv X pins σ H s := ⟨I.ok.unwish, I.os, I.bare, I.base, I.loc, I.cell, I.free, I.freeC, I.pin, I.hok, I.len⟩
theorem SP.unwish {D : Ends} {f : Flow} {s' : Shared} (h : SP (X.wish E) pins D f s') : SP X pins D f s' := by
  cases f with
  | next => obtain ⟨σ', H', I, q⟩ := h; exact ⟨σ', H', I.unwish, q⟩
  | brk => obtain ⟨σ', H', I, q⟩ := h; exact ⟨σ', H', I.unwish, q⟩
  | cont => obtain ⟨σ', H', I, q⟩ := h; exact ⟨σ', H', I.unwish, q⟩
  | ret u => obtain ⟨v, σ', H', I, r, q⟩ := h; exact ⟨v, σ', H', I.unwish, r, q⟩
theorem PSs.nox {st : List Stmt} {t : TS} (h : PSs X.nox st t) : PSs X st t := fun pins s σ H D I hw =>
  wpAny_mono (h pins s σ H D (I.wish _) hw) (fun _ _ q => q.unwish) fun _ _ z => False.elim z
end

/-! ### blocks and small statements -/
section
variable {X : Cx} {st : Stmt} {rest : List Stmt} {t u : TS} {e : Expr} {te : TE} {pos : Pos}
noncomputable def tNext : TS := fun D σ H => D.nx σ H
noncomputable def tSeq (t u : TS) : TS := fun D σ H => t { D with nx := u D } σ H
theorem pss_nil : PSs X [] tNext := fun _ _ σ H _ I h => wpAny_execs_nil ⟨σ, H, I, h⟩
theorem pss_cons (h1 : PS X st t) (h2 : PSs X rest u) : PSs X (st :: rest) (tSeq t u) := by
  intro pins s σ H D I h
  refine wpAny_execs_cons (thn (h1 pins s σ H { D with nx := u D } I h) fun f s1 q => ?_)
  cases f with
  | next =>
    obtain ⟨σ', H', I', q⟩ := q
    exact h2 pins s1 σ' H' D I' q
  | ret v => exact q
  | brk => exact q
  | cont => exact q
theorem pss_one (h1 : PS X st t) : PSs X [st] t := by
  intro pins s σ H D I h
  refine wpAny_execs_cons (thn (h1 pins s σ H D I h) fun f s1 q => ?_)
  cases f with
  | next => exact wpAny_execs_nil q
  | ret v => exact q
  | brk => exact q
  | cont => exact q
noncomputable def tBreak : TS := fun D σ H => D.bk σ H
noncomputable def tCont : TS := fun D σ H => D.ct σ H
/-- in a def's body nothing is shown -/
theorem Inv.quiet {pins : List (Addr × Obj)} {σ : St} {H : Hp} {s : Shared} (I : Inv X pins σ H s) : interactive X.env = false := by simp [interactive, I.ok.kind]
/-- an expression whose value is dropped -/
noncomputable def tDrop (te : TE) : TS := fun D σ H => te σ H fun _ H1 => D.nx σ H1
theorem ps_expr (he : PE X e te) (hs : swapsWith e none pos.line X.env = pure false := by rfl) : PS X (.Expr e pos) (tDrop te) := by
  intro pins s σ H D I h
  exact wpAny_Expr_any (thn (he pins s σ H _ I h) fun v s1 ⟨x, H1, I1, r1, q1⟩ => ⟨σ, H1, I1, q1⟩) I.quiet hs
noncomputable def tRet (te : TE) : TS := fun D σ H => te σ H D.rt
theorem ps_ret (he : PE X e te) : PS X (.Return (some e) pos) (tRet te) := by
  intro pins s σ H D I h
  exact wpAny_Return_some (thn (he pins s σ H _ I h) fun v s1 ⟨x, H1, I1, r1, q1⟩ => ⟨x, σ, H1, I1, r1, q1⟩)
noncomputable def tRetN : TS := fun D _ H => D.rt .non H
noncomputable def tIfS (c : TT) (t u : TS) : TS := fun D σ H => c σ H fun b H1 => if b = true then t D σ H1 else u D σ H1
theorem ps_if {c : Expr} {a b : List Stmt} {tc : TT} (hc : PT X c tc) (ha : PSs X a t) (hb : PSs X b u) : PS X (.If c a b pos) (tIfS tc t u) := by
  intro pins s σ H D I h
  refine wpAny_If (thn (hc pins s σ H _ I h) fun d s1 ⟨H1, I1, q1⟩ => ?_)
  cases d with
  | true => exact ha pins s1 σ H1 D I1 q1
  | false => exact hb pins s1 σ H1 D I1 q1
/-- code that the proof never comes to -/
noncomputable def tNever : TS := fun _ _ _ => False
end

/-! ### targets -/
noncomputable abbrev TG := V → St → Hp → (St → Hp → Prop) → Prop
noncomputable abbrev TGs := List V → St → Hp → (St → Hp → Prop) → Prop
noncomputable def PG (X : Cx) (target : Expr) (t : TG) : Prop :=
  ∀ (pins : List (Addr × Obj)) (s : Shared) (σ : St) (H : Hp) (v : V) (u : Value) (Q : St → Hp → Prop), Inv X pins σ H s → RelV v u → t v σ H Q →
    wpAny (model X.prog X.w) X.A (assign target X.env u) (fun _ s' => ∃ σ' H', Inv X pins σ' H' s' ∧ Q σ' H') X.xe s
/-- several targets, one after another -/
noncomputable def PGs (X : Cx) (ts : List Expr) (t : TGs) : Prop :=
  ∀ (pins : List (Addr × Obj)) (s : Shared) (σ : St) (H : Hp) (vs : List V) (us : List Value) (Q : St → Hp → Prop), Inv X pins σ H s → Vals vs us → t vs σ H Q →
    wpAny (model X.prog X.w) X.A (assignInOrder ((assignEach ts X.env).map (·.2)) us) (fun _ s' => ∃ σ' H', Inv X pins σ' H' s' ∧ Q σ' H') X.xe s
/-- o[i] = v, by values -/
noncomputable abbrev TSet := V → V → V → Hp → (Hp → Prop) → Prop
noncomputable def PSet (X : Cx) (t : TSet) : Prop :=
  ∀ (pins : List (Addr × Obj)) (s : Shared) (σ : St) (H : Hp) (o i v : V) (ov iv u : Value) (Q : Hp → Prop), Inv X pins σ H s → RelV o ov → RelV i iv → RelV v u → t o i v H Q →
    wpAny (model X.prog X.w) X.A (setItem ov iv u) (fun _ s' => ∃ H', Inv X pins σ H' s' ∧ Q H') X.xe s
/-- a op= b, by values -/
noncomputable abbrev TIp := V → V → Hp → VK → Prop
noncomputable def PIp (X : Cx) (op : Operator) (t : TIp) : Prop :=
  ∀ (pins : List (Addr × Obj)) (s : Shared) (σ : St) (H : Hp) (x y : V) (v u : Value) (Q : VK), Inv X pins σ H s → RelV x v → RelV y u → t x y H Q →
    wpAny (model X.prog X.w) X.A (inplaceOp op v u) (EP X pins σ Q) X.xe s
section
variable {X : Cx} {pos : Pos}
noncomputable def gName (i : Nat) : TG := fun v σ H Q => Q (σ.set i (some v)) H
theorem pg_name {i : Nat} {x : Str} (hN : X.N.Nodup) (hi : X.N[i]? = some x) (hx : Loc X.env.scope x) (hf : X.fn x = true ∨ X.env.scope.names.lookup x = some .local := by first | exact .inl rfl | exact .inr rfl | assumption) : PG X (.Name x pos) (gName i) := by
  intro pins s σ H v u Q I r h
  exact wpAny_assign_Name (store_ok I hN hi hx r (fun s' I' => ⟨_, H, I', h⟩) hf)
noncomputable def gNil : TGs := fun vs σ H Q => vs = [] ∧ Q σ H
noncomputable def gCons (t : TG) (u : TGs) : TGs := fun vs σ H Q => ∃ v r, vs = v :: r ∧ t v σ H fun σ' H' => u r σ' H' Q
theorem pgs_nil : PGs X [] gNil := by
  intro pins s σ H vs us Q I r h
  obtain ⟨e, h⟩ := h
  subst e
  cases r
  exact assignInOrder_nil ⟨σ, H, I, h⟩
theorem pgs_cons {e : Expr} {es : List Expr} {t : TG} {u : TGs} (h1 : PG X e t) (h2 : PGs X es u)
    (hs : (assignEach (e :: es) X.env).map (·.2) = assign e X.env :: (assignEach es X.env).map (·.2) := by rfl) : PGs X (e :: es) (gCons t u) := by
  intro pins s σ H vs us Q I r h
  obtain ⟨v, vr, e1, h⟩ := h
  subst e1
  cases r with
  | cons r rr =>
    rw [hs]
    refine assignInOrder_cons (thn (h1 pins s σ H _ _ _ I r h) fun _ s1 ⟨σ1, H1, I1, q1⟩ => ?_)
    exact h2 pins s1 σ1 H1 _ _ Q I1 rr q1
/-- (a, b, ..) = a tuple of that length -/
noncomputable def gTup (K : PySem.W.Frag) (n : Nat) (t : TGs) : TG := fun v σ H Q => ∃ a xs, v = .ref a ∧ SqT K H a xs ∧ xs.length = n ∧ t xs σ H Q
theorem pg_tup {es : List Expr} {k : Nat} {t : TGs} {n : Nat} (hc : X.calm = true) (h : PGs X es t)
    (hn : (assignEach es X.env).length = n := by rfl) (hst : (assignEach es X.env).findIdx? (·.1) = none := by rfl) : PG X (.Tuple es k pos) (gTup X.K n t) := by
  intro pins s σ H v u Q I r hw
  obtain ⟨a, xs, e1, hq, hl, hw⟩ := hw
  subst e1
  cases r
  obtain ⟨its, rv, ht, hz⟩ := I.tuple hq
  refine assign_Tuple_tuple (I.ok.hd hc) ht (by simp [hn, ← hl, rv.length]) hst fun h' hx => ?_
  have I1 : Inv X pins σ H { s with heap := h' } := I.kept (t' := s.toks) fun b o e => hx b o (Nat.ne_of_lt (Heap.lt_size e)) e
  exact h pins _ σ H xs _ Q I1 (by simpa using rv) hw
/-- o[i] = .. -/
noncomputable def gSub (to ti : TE) (t : TSet) : TG := fun v σ H Q => to σ H fun o H1 => ti σ H1 fun i H2 => t o i v H2 fun H3 => Q σ H3
theorem pg_sub {o i : Expr} {to ti : TE} {t : TSet} (ho : PE X o to) (hi : PE X i ti) (hs : PSet X t)
    (ha : ∀ v, assign (.Subscript o i pos) X.env v = (do
      let ov ← holding [v] (eval o X.env)
      let iv ← holding [v, ov] (eval i X.env)
      standAt pos
      holding [v, ov, iv] (setItem ov iv v)
      release [v, ov, iv] []) := by intro _; rfl) : PG X (.Subscript o i pos) (gSub to ti t) := by
  intro pins s σ H v u Q I r h
  rw [ha]
  refine wpAny_bind (wpAny_holding (thn (ho pins s σ H _ I h) fun ov s1 ⟨x, H1, I1, r1, q1⟩ => ?_))
  refine wpAny_bind (wpAny_holding (thn (hi pins s1 σ H1 _ I1 q1) fun iv s2 ⟨y, H2, I2, r2, q2⟩ => ?_))
  refine wpAny_bind (wpAny_standAt (wpAny_bind (wpAny_holding (thn (hs pins s2 σ H2 x y v ov iv u _ I2 r1 r2 r q2) fun _ s3 ⟨H3, I3, q3⟩ => ?_))))
  exact wpAny_release ⟨σ, H3, I3, q3⟩
/-- target = value -/
noncomputable def tAsg (te : TE) (g : TG) : TS := fun D σ H => te σ H fun x H1 => g x σ H1 D.nx
theorem ps_asg {tg e : Expr} {te : TE} {g : TG} (he : PE X e te) (hg : PG X tg g) (hs : swapsWithSole [tg] e pos.line X.env = pure false := by rfl) (hw : swappedStores [tg] e X.env = pure none := by rfl)
    (h1 : (assignEach [tg] X.env).map (·.2) = [assign tg X.env] := by rfl) : PS X (.Assign [tg] e pos) (tAsg te g) := by
  intro pins s σ H D I h
  refine wpAny_Assign_stores (thn (he pins s σ H _ I h) fun v s1 ⟨x, H1, I1, r1, q1⟩ => ?_) hs hw
  rw [h1]
  exact thn (hg pins s1 σ H1 x v _ I1 r1 q1) fun _ s2 q => q
/-- name = value -/
theorem ps_set {i : Nat} {x : Str} {e : Expr} {te : TE} {pos' : Pos} (hN : X.N.Nodup) (hi : X.N[i]? = some x) (hx : Loc X.env.scope x) (he : PE X e te) (hs : swapsWith e (some (.Name x pos')) pos.line X.env = pure false := by rfl) (hf : X.fn x = true ∨ X.env.scope.names.lookup x = some .local := by first | exact .inl rfl | exact .inr rfl | assumption) :
    PS X (.Assign [.Name x pos'] e pos) (tAsg te (gName i)) := by
  intro pins s σ H D I h
  refine wpAny_Assign_Name (thn (he pins s σ H _ I h) fun v s1 ⟨y, H1, I1, r1, q1⟩ => ?_) hs
  exact store_ok I1 hN hi hx r1 (fun s2 I2 => ⟨_, H1, I2, q1⟩) hf
/-- a, b = x, y with plain local names: stored from the right; the pair itself is not tracked (the opening rows as in PyProof/Rows/TupAssign.lean:23) -/
noncomputable def tPar (i j : Nat) (ta : TA) : TS := fun D σ H => ta σ H fun vs H1 => ∃ v w, vs = [v, w] ∧ D.nx ((σ.set i (some v)).set j (some w)) H1
/-- name op= e -/
noncomputable def tAug (i : Nat) (te : TE) (ti : TIp) : TS := fun D σ H => ∃ x, σ[i]? = some (some x) ∧ te σ H fun y H1 => ti x y H1 fun z H2 => D.nx (σ.set i (some z)) H2
/-- o[i] op= e -/
noncomputable def tAugS (to ti te : TE) (tget : V → V → Hp → VK → Prop) (tip : TIp) (tset : TSet) : TS := fun D σ H => to σ H fun o H1 => ti σ H1 fun i H2 => tget o i H2 fun x H3 => te σ H3 fun y H4 => tip x y H4 fun z H5 => tset o i z H5 fun H6 => D.nx σ H6
/-- o[i], by values -/
noncomputable def PGet (X : Cx) (t : V → V → Hp → VK → Prop) : Prop :=
  ∀ (pins : List (Addr × Obj)) (s : Shared) (σ : St) (H : Hp) (o i : V) (ov iv : Value) (Q : VK), Inv X pins σ H s → RelV o ov → RelV i iv → t o i H Q →
    wpAny (model X.prog X.w) X.A (getItem ov iv) (EP X pins σ Q) X.xe s
/-- ints -/
noncomputable def ipI (f : Int → Int → Int) : TIp := fun x y H Q => ∃ i j, x = .int i ∧ y = .int j ∧ Q (.int (f i j)) H
end

/-! ### while -/
section
variable {X : Cx} {pos : Pos}
/-- the invariant W with its measure -/
noncomputable def tWhile (c : TT) (tb : TS) : TS := fun D σ H => ∃ W : Nat → St → Hp → Prop, (∃ m, W m σ H) ∧ ∀ m σ H, W m σ H →
  c σ H fun b H1 => if b = true then ∃ N : St → Hp → Prop, (∀ σ' H', N σ' H' → ∃ m', m' < m ∧ W m' σ' H') ∧ tb { D with nx := N, ct := N, bk := D.nx } σ H1 else D.nx σ H1
end

/-! ### what a loop or a comprehension walks -/
/-- at turn i: it yields x (the heap may grow), or it stops -/
structure It where
  go : Nat → Hp → Prop
  yld : Nat → Hp → V → Hp → Prop
  stop : Nat → Hp → Prop
/-- the iterator's own objects may turn: they are not the frame's, not pinned, younger than the entry (or a comprehension's own) -/
noncomputable def FpOk (X : Cx) (pins : List (Addr × Obj)) (H : Hp) (b : Addr) : Prop :=
  H b = none ∧ b ≠ X.env.locals ∧ b ∉ X.fs ∧ (b ∈ X.ex ∨ X.s₀.heap.objs.size ≤ b) ∧ (∀ x c, X.env.cells.lookup x = some c → c ≠ b) ∧ ∀ p ∈ X.pn ++ pins, p.1 ≠ b
theorem Inv.fpOk {X : Cx} {pins : List (Addr × Obj)} {σ : St} {H H' : Hp} {s : Shared} {b : Addr} (I : Inv X pins σ H s) (hb : s.heap.objs.size ≤ b) (hn : H' b = none) : FpOk X pins H' b := by
  refine ⟨hn, Nat.ne_of_gt (Nat.lt_of_lt_of_le I.lt hb), I.nofs hb, .inr (Nat.le_trans I.sz hb), fun x c e z => ?_, fun p hp z => ?_⟩
  · obtain ⟨v, q⟩ := I.cell x c e
    exact absurd (Nat.lt_of_lt_of_le q.lt (by rw [z]; exact hb)) (Nat.lt_irrefl _)
  · exact absurd (Nat.lt_of_lt_of_le (Heap.lt_size (I.pin p hp).1) (by rw [z]; exact hb)) (Nat.lt_irrefl _)
structure Turn (P : Program) (w : World) (K : PySem.W.Frag) (tg : Expr) (J : It) (fp : List Addr) (it : Addr) (tn : Nat → Heap → Prop) : Prop where
  mem : it ∈ fp
  obj : ∀ i h, tn i h → ∀ b ∈ fp, ∃ o, h.get? b = some o ∧ ∀ v, o.data ≠ .cell v
  keep : ∀ i h h', tn i h → (∀ b ∈ fp, ∀ o, h.get? b = some o → h'.get? b = some o) → tn i h'
  item : ∀ (X : Cx), X.prog = P → X.w = w → X.K = K → X.calm = true → ∀ (i : Nat) (pins : List (Addr × Obj)) (s : Shared) (σ : St) (H : Hp) (E : Value → Shared → Prop), Inv X pins σ H s → (∀ b ∈ fp, FpOk X pins H b) → tn i s.heap → J.go i H →
    wpAny (model P w) X.A (pyNext (.ref it)) (fun r s1 => ∃ u, r = some u ∧
      wpAny (model P w) X.A (letOwnedTupleGo tg (.ref it) u) (fun _ s2 => ∃ x H', Inv X pins σ H' s2 ∧ RelV x u ∧ J.yld i H x H' ∧ tn (i + 1) s2.heap ∧ ∀ b ∈ fp, H' b = none) E s1) E s
  done : ∀ (X : Cx), X.prog = P → X.w = w → X.K = K → X.calm = true → ∀ (i : Nat) (pins : List (Addr × Obj)) (s : Shared) (σ : St) (H : Hp) (E : Value → Shared → Prop), Inv X pins σ H s → (∀ b ∈ fp, FpOk X pins H b) → tn i s.heap → J.stop i H →
    wpAny (model P w) X.A (pyNext (.ref it)) (fun r s1 => r = none ∧ Inv X pins σ H s1) E s
  self : ∀ (A : Around) (i : Nat) (s : Shared) (Q : Value → Shared → Prop) (E : Value → Shared → Prop), tn i s.heap → Q (.ref it) s → wpAny (model P w) A (pyIter (.ref it)) Q E s
noncomputable abbrev TI := St → Hp → (It → Hp → Prop) → Prop
/-- an iterator has come -/
noncomputable def PIE (X : Cx) (pins : List (Addr × Obj)) (σ : St) (tg : Expr) (R : It → Hp → Prop) (itv : Value) (s2 : Shared) : Prop :=
  ∃ (it : Addr) (fp : List Addr) (tn : Nat → Heap → Prop) (J : It) (H' : Hp), itv = .ref it ∧ Inv X pins σ H' s2 ∧ Turn X.prog X.w X.K tg J fp it tn ∧ tn 0 s2.heap ∧ (∀ b ∈ fp, FpOk X pins H' b) ∧ R J H'
noncomputable def PI (X : Cx) (tg iter : Expr) (wi : TI) : Prop :=
  ∀ (pins : List (Addr × Obj)) (s : Shared) (σ : St) (H : Hp) (R : It → Hp → Prop), Inv X pins σ H s → wi σ H R →
    wpAny (model X.prog X.w) X.A (eval iter X.env) (fun v s1 => wpAny (model X.prog X.w) X.A (pyIter v) (PIE X pins σ tg R) X.xe s1) X.xe s

/-- the step ahead of the store is nothing for an iterator that keeps no tuple -/
theorem go_of {M : Model} {A : Around} {E : Value → Shared → Prop} {s : Shared} {tg : Expr} {it : Addr} {u : Value} {o : Obj} {n : String} {vs : Array Value} {Q : Unit → Shared → Prop} (ho : s.heap.get? it = some o) (hc : o.cls = .type n) (hd : o.data = .fields vs)
    (hn : ["enumerate", "zip", "dict_itemiterator", "dict_reverseitemiterator", "odict_iterator", "itertools.zip_longest", "itertools.pairwise"].contains n = false) (hQ : Q () s) : wpAny M A (letOwnedTupleGo tg (.ref it) u) Q E s := by
  unfold letOwnedTupleGo
  cases tg <;> first
    | exact wpAny_pure hQ
    | (cases u <;> first
        | exact wpAny_pure hQ
        | (refine wpAny_bind (wpAny_load ho ?_)
           rw [hc, hd]
           show wpAny M A (if (["enumerate", "zip", "dict_itemiterator", "dict_reverseitemiterator", "odict_iterator", "itertools.zip_longest", "itertools.pairwise"].contains n && vs[0]? == some (rawInt _)) = true then _ else _) Q E s
           rw [if_neg (by intro h; rw [hn, Bool.false_and] at h; cases h)]
           exact wpAny_pure hQ))

/-- the list at a, as it stands at each turn (a loop may append to it) -/
noncomputable def Itl (K : PySem.W.Frag) (a : Addr) : It :=
  ⟨fun i H => ∃ xs x, SqL K H a xs ∧ xs[i]? = some x, fun i H x H' => H' = H ∧ ∀ xs, SqL K H a xs → xs[i]? = some x, fun i H => ∃ xs, SqL K H a xs ∧ xs.length ≤ i⟩
noncomputable def Itt (K : PySem.W.Frag) (a : Addr) : It :=
  ⟨fun i H => ∃ xs x, SqT K H a xs ∧ xs[i]? = some x, fun i H x H' => H' = H ∧ ∀ xs, SqT K H a xs → xs[i]? = some x, fun i H => ∃ xs, SqT K H a xs ∧ xs.length ≤ i⟩
/-- lo, lo + 1, .. (n of them) -/
noncomputable def Itr (lo : Int) (n : Nat) : It := ⟨fun i _ => i < n, fun i H x H' => H' = H ∧ x = .int (lo + i), fun i _ => n ≤ i⟩
theorem turn_list {P : Program} {w : World} {K : PySem.W.Frag} {tg : Expr} (a it : Addr) : Turn P w K tg (Itl K a) [it] it (fun i h => h.IsListIter it a i) where
  mem := by simp
  obj := fun i h st b hb => by
    have e : b = it := by simpa using hb
    subst e
    obtain ⟨o, e, c, d⟩ := st
    exact ⟨o, e, fun v z => by rw [d] at z; cases z⟩
  keep := fun i h h' st k => st.at fun o e => k it (by simp) o e
  item := by
    intro X hP hw hK hc i pins s σ H E I hf st hg
    subst hP hw hK
    obtain ⟨xs, x, hq, hx⟩ := hg
    obtain ⟨its, rv, p, hz⟩ := I.list hq
    obtain ⟨u, hu, ru⟩ := rv.get hx
    obtain ⟨f0, f1, f2, f3, f4, f5⟩ := hf it (by simp)
    refine wpAny_pyNext_list_item st p.isList (x := u) (by simpa using hu) fun h' st' sb => ?_
    have I1 : Inv X pins σ H { s with heap := h' } := I.turned (t' := s.toks) (fun b o hb e => (sb.2 b hb).trans e) f0 f1 f3 f4 f5
    obtain ⟨o, e, c, d⟩ := id st'
    exact ⟨u, rfl, go_of (s := { s with heap := h' }) e c d (by decide) ⟨x, H, I1, ru, ⟨rfl, fun ys hy => by rw [I.list_inj hy hq]; exact hx⟩, st', fun b hb => (hf b hb).1⟩⟩
  done := by
    intro X hP hw hK hc i pins s σ H E I hf st hg
    subst hP hw hK
    obtain ⟨xs, hq, hx⟩ := hg
    obtain ⟨its, rv, p, hz⟩ := I.list hq
    obtain ⟨f0, f1, f2, f3, f4, f5⟩ := hf it (by simp)
    have hl := rv.length
    exact wpAny_pyNext_list_end (I.ok.hd hc) st p.isList (by simp; omega) fun h' eb => ⟨rfl, I.turned (t' := s.toks) (fun b o hb e => eb b o hb e) f0 f1 f3 f4 f5⟩
  self := fun _ _ _ _ _ st h => wpAny_pyIter_listiter st h
theorem turn_tuple {P : Program} {w : World} {K : PySem.W.Frag} {tg : Expr} (a it : Addr) : Turn P w K tg (Itt K a) [it] it (fun i h => h.IsTupleIter it a i) where
  mem := by simp
  obj := fun i h st b hb => by
    have e : b = it := by simpa using hb
    subst e
    obtain ⟨o, e, c, d⟩ := st
    exact ⟨o, e, fun v z => by rw [d] at z; cases z⟩
  keep := fun i h h' st k => st.at fun o e => k it (by simp) o e
  item := by
    intro X hP hw hK hc i pins s σ H E I hf st hg
    subst hP hw hK
    obtain ⟨xs, x, hq, hx⟩ := hg
    obtain ⟨its, rv, p, hz⟩ := I.tuple hq
    obtain ⟨u, hu, ru⟩ := rv.get hx
    obtain ⟨f0, f1, f2, f3, f4, f5⟩ := hf it (by simp)
    refine wpAny_pyNext_tuple_item st (show s.heap.IsTuple a its.toArray from p) (x := u) (by simpa using hu) fun h' st' sb => ?_
    have I1 : Inv X pins σ H { s with heap := h' } := I.turned (t' := s.toks) (fun b o hb e => (sb.2 b hb).trans e) f0 f1 f3 f4 f5
    obtain ⟨o, e, c, d⟩ := id st'
    exact ⟨u, rfl, go_of (s := { s with heap := h' }) e c d (by decide) ⟨x, H, I1, ru, ⟨rfl, fun ys hy => by rw [I.tuple_inj hy hq]; exact hx⟩, st', fun b hb => (hf b hb).1⟩⟩
  done := by
    intro X hP hw hK hc i pins s σ H E I hf st hg
    subst hP hw hK
    obtain ⟨xs, hq, hx⟩ := hg
    obtain ⟨its, rv, p, hz⟩ := I.tuple hq
    obtain ⟨f0, f1, f2, f3, f4, f5⟩ := hf it (by simp)
    have hl := rv.length
    exact wpAny_pyNext_tuple_end (I.ok.hd hc) st (show s.heap.IsTuple a its.toArray from p) (by simp; omega) fun h' eb => ⟨rfl, I.turned (t' := s.toks) (fun b o hb e => eb b o hb e) f0 f1 f3 f4 f5⟩
  self := fun _ _ _ _ _ st h => wpAny_pyIter_tupleiter st h
theorem turn_range {P : Program} {w : World} {K : PySem.W.Frag} {tg : Expr} (it : Addr) (lo : Int) (n : Nat) : Turn P w K tg (Itr lo n) [it] it (fun i h => IsRangeIter h it (lo + (i : Nat) * 1) ((n : Int) - (i : Nat)) 1) where
  mem := by simp
  obj := fun i h st b hb => by
    have e : b = it := by simpa using hb
    subst e
    exact ⟨_, st, fun v z => by
      have z' : Data.fields _ = Data.cell v := z
      cases z'⟩
  keep := fun i h h' st k => k it (by simp) _ st
  item := by
    intro X hP hw hK hc i pins s σ H E I hf st hg
    subst hP hw hK
    obtain ⟨f0, f1, f2, f3, f4, f5⟩ := hf it (by simp)
    have W := Walks.range (prog := X.prog) (w := X.w) (I.ok.hd hc) it lo 1 n
    refine W.item i s _ _ hg st fun v h' tk hv st' kk => ?_
    obtain ⟨t, rfl⟩ := hv
    have I1 : Inv X pins σ H { s with heap := h', toks := tk } := I.turned (fun b o hb e => kk b o (by simpa using hb) e) f0 f1 f3 f4 f5
    refine ⟨_, rfl, go_of (s := { s with heap := h', toks := tk }) (n := "range_iterator") st' rfl rfl (by decide) ⟨.int (lo + i), H, I1, ⟨t, ?_⟩, ⟨rfl, rfl⟩, st', fun b hb => (hf b hb).1⟩⟩
    rw [Int.mul_one]
  done := by
    intro X hP hw hK hc i pins s σ H E I hf st hg
    subst hP hw hK
    obtain ⟨f0, f1, f2, f3, f4, f5⟩ := hf it (by simp)
    exact wpAny_pyNext_range_end (I.ok.hd hc) st (by have : n ≤ i := hg; omega) fun h' eb => ⟨rfl, I.turned (t' := s.toks) (fun b o hb e => eb b o hb e) f0 f1 f3 f4 f5⟩
  self := fun _ _ _ _ _ st h => wpAny_pyIter_rangeiter st h
end L2

namespace L2
open PySem PySem.Spec PyProof.Rows
section
variable {X : Cx} {tg : Expr}
noncomputable def iList (K : PySem.W.Frag) (tl : TE) : TI := fun σ H R => tl σ H fun x H1 => ∃ a, x = .ref a ∧ (∃ xs, SqL K H1 a xs) ∧ R (Itl K a) H1
noncomputable def iTup (K : PySem.W.Frag) (tl : TE) : TI := fun σ H R => tl σ H fun x H1 => ∃ a, x = .ref a ∧ (∃ xs, SqT K H1 a xs) ∧ R (Itt K a) H1
theorem pi_list {l : Expr} {tl : TE} (hl : PE X l tl) : PI X tg l (iList X.K tl) := by
  intro pins s σ H R I h
  refine thn (hl pins s σ H _ I h) fun v s1 ⟨x, H1, I1, r1, q1⟩ => ?_
  obtain ⟨a, e, ⟨xs, hq⟩, q⟩ := q1
  subst e
  cases r1
  obtain ⟨its, rv, p, hz⟩ := I1.list hq
  refine wpAny_pyIter_list p.isList ?_
  refine ⟨s1.heap.objs.size, [s1.heap.objs.size], _, _, H1, rfl, I1.kept (t' := s1.toks) fun b o e => Heap.get?_push_of_some _ e, turn_list a _, ⟨_, Heap.get?_push_size _ rfl, rfl, rfl⟩, fun b hb => ?_, q⟩
  have e : b = s1.heap.objs.size := by simpa using hb
  subst e
  exact I1.fpOk (Nat.le_refl _) (I1.hok.fresh (Nat.le_refl _))
theorem pi_tup {l : Expr} {tl : TE} (hl : PE X l tl) : PI X tg l (iTup X.K tl) := by
  intro pins s σ H R I h
  refine thn (hl pins s σ H _ I h) fun v s1 ⟨x, H1, I1, r1, q1⟩ => ?_
  obtain ⟨a, e, ⟨xs, hq⟩, q⟩ := q1
  subst e
  cases r1
  obtain ⟨its, rv, p, hz⟩ := I1.tuple hq
  refine wpAny_pyIter_tuple (show s1.heap.IsTuple a its.toArray from p) ?_
  refine ⟨s1.heap.objs.size, [s1.heap.objs.size], _, _, H1, rfl, I1.kept (t' := s1.toks) fun b o e => Heap.get?_push_of_some _ e, turn_tuple a _, ⟨_, Heap.get?_push_size _ rfl, rfl, rfl⟩, fun b hb => ?_, q⟩
  have e : b = s1.heap.objs.size := by simpa using hb
  subst e
  exact I1.fpOk (Nat.le_refl _) (I1.hok.fresh (Nat.le_refl _))
/-- a range object just made, walked -/
theorem range_it {pins : List (Addr × Obj)} {σ : St} {H : Hp} {s : Shared} {R : It → Hp → Prop} {E : Value → Shared → Prop} {lo hi : Int} {t u v : Tok} {tk : Nat} (I : Inv X pins σ H s) (h1 : -(2 ^ 62) ≤ lo) (h2 : lo < 2 ^ 62) (h3 : -(2 ^ 62) ≤ hi) (h4 : hi < 2 ^ 62)
    (q : R (Itr lo (hi - lo).toNat) H) : wpAny (model X.prog X.w) X.A (pyIter (.ref s.heap.objs.size)) (PIE X pins σ tg R) E { s with heap := s.heap.push { cls := .type "range", data := .fields #[.int lo t, .int hi u, .int 1 v] }, toks := tk } := by
  refine wpAny_pyIter_range (IsRange.new ..) (small_one h1 h2 h3 h4) ?_
  have I1 : Inv X pins σ H { s with heap := s.heap.push { cls := .type "range", data := .fields #[.int lo t, .int hi u, .int 1 v] }, toks := tk } := I.kept fun b o e => Heap.get?_push_of_some _ e
  refine ⟨(s.heap.push { cls := .type "range", data := .fields #[.int lo t, .int hi u, .int 1 v] }).objs.size, [(s.heap.push { cls := .type "range", data := .fields #[.int lo t, .int hi u, .int 1 v] }).objs.size], _, _, H, rfl,
    I1.kept (t' := tk) fun b o e => Heap.get?_push_of_some _ e, turn_range _ lo (hi - lo).toNat, ?_, fun b hb => ?_, q⟩
  · have e1 : lo + ((0 : Nat) : Int) * 1 = lo := by simp
    have e2 : (((hi - lo).toNat : Nat) : Int) - ((0 : Nat) : Int) = Builtin.Range.rangeSize lo hi 1 := by rw [rangeSize_one]; split <;> omega
    show IsRangeIter _ _ (lo + ((0 : Nat) : Int) * 1) ((((hi - lo).toNat : Nat) : Int) - ((0 : Nat) : Int)) 1
    rw [e1, e2]
    exact Heap.get?_push_size _ rfl
  · have e : b = (s.heap.push { cls := .type "range", data := .fields #[.int lo t, .int hi u, .int 1 v] }).objs.size := by simpa using hb
    subst e
    exact I1.fpOk (Nat.le_refl _) (I1.hok.fresh (Nat.le_refl _))
noncomputable def iRng1 (ta : TA) : TI := fun σ H R => ta σ H fun vs H1 => ∃ j : Int, vs = [.int j] ∧ -(2 ^ 62) ≤ j ∧ j < 2 ^ 62 ∧ R (Itr 0 j.toNat) H1
noncomputable def iRng2 (ta : TA) : TI := fun σ H R => ta σ H fun vs H1 => ∃ i j : Int, vs = [.int i, .int j] ∧ (-(2 ^ 62) ≤ i ∧ i < 2 ^ 62 ∧ -(2 ^ 62) ≤ j ∧ j < 2 ^ 62) ∧ R (Itr i (j - i).toNat) H1
theorem pi_range1 {a : Expr} {ta : TA} {p pos : Pos} (hg : Gl X "range") (hm : X.mg "range" = none) (ha : PA X [a] ta) (hs : starEach [a] X.env = [(false, eval a X.env)] := by rfl) : PI X tg (.Call (.Name "range" p) [a] [] pos) (iRng1 ta) := by
  intro pins s σ H R I h
  refine Call_ (ld_blt I hg hm boot_range (PyProof.Rows.callWith_type1 (thn (ha pos pins s σ H _ I h) fun us s1 ⟨vs, H1, I1, r1, q1⟩ => ?_) hs rfl))
  obtain ⟨j, e, q1, q2, q⟩ := q1
  subst e
  cases r1 with
  | cons r rr =>
    cases rr
    obtain ⟨t, rfl⟩ := r
    exact call_range_1 (range_it I1 (by omega) (by omega) q1 q2 (by simpa using q))
theorem pi_range2 {a b : Expr} {ta : TA} {p pos : Pos} (hg : Gl X "range") (hm : X.mg "range" = none) (ha : PA X [a, b] ta) (hs : starEach [a, b] X.env = [(false, eval a X.env), (false, eval b X.env)] := by rfl) (hs2 : starEach [b] X.env = [(false, eval b X.env)] := by rfl) :
    PI X tg (.Call (.Name "range" p) [a, b] [] pos) (iRng2 ta) := by
  intro pins s σ H R I h
  refine Call_ (ld_blt I hg hm boot_range (PyProof.Rows.callWith_type1 (thn (ha pos pins s σ H _ I h) fun us s1 ⟨vs, H1, I1, r1, q1⟩ => ?_) (by rw [hs, hs2]) (by rw [hs2]; rfl)))
  obtain ⟨i, j, e, ⟨q1, q2, q3, q4⟩, q⟩ := q1
  subst e
  cases r1 with
  | cons r rr =>
    cases rr with
    | cons r' rr =>
      cases rr
      obtain ⟨t, rfl⟩ := r
      obtain ⟨t', rfl⟩ := r'
      exact call_range_2 (range_it I1 q1 q2 q3 q4 q)

/-! ### for -/
/-- W: the invariant by the turn and a measure; N: what the body is to reach -/
noncomputable def tFor (wi : TI) (g : TG) (tb : TS) : TS := fun D σ H => wi σ H fun J H1 => ∃ W : Nat → Nat → St → Hp → Prop, (∃ m, W 0 m σ H1) ∧ ∀ i m σ H, W i m σ H →
  (J.stop i H ∧ D.nx σ H) ∨ (J.go i H ∧ ∃ N : St → Hp → Prop, (∀ σ' H', N σ' H' → ∃ m', m' < m ∧ W (i + 1) m' σ' H') ∧ ∀ x H', J.yld i H x H' → g x σ H' fun σ2 H2 => tb { D with nx := N, ct := N, bk := D.nx } σ2 H2)
/-- the records at fp as they stand -/
noncomputable def pinsAt (fp : List Addr) (h : Heap) : List (Addr × Obj) := fp.filterMap fun b => (h.get? b).map fun o => (b, o)
theorem mem_pinsAt {fp : List Addr} {h : Heap} {b : Addr} {o : Obj} (hb : b ∈ fp) (e : h.get? b = some o) : (b, o) ∈ pinsAt fp h := List.mem_filterMap.mpr ⟨b, hb, by rw [e]; rfl⟩
theorem of_pinsAt {fp : List Addr} {h : Heap} {p : Addr × Obj} (hp : p ∈ pinsAt fp h) : p.1 ∈ fp ∧ h.get? p.1 = some p.2 := by
  obtain ⟨b, hb, e⟩ := List.mem_filterMap.mp hp
  cases q : h.get? b with
  | none => rw [q] at e; cases e
  | some o =>
    rw [q] at e
    have e' : (b, o) = p := Option.some.inj e
    subst e'
    exact ⟨hb, q⟩
theorem Inv.pinned {pins : List (Addr × Obj)} {σ : St} {H : Hp} {s : Shared} {fp : List Addr} (I : Inv X pins σ H s) (hf : ∀ b ∈ fp, FpOk X pins H b) (ho : ∀ b ∈ fp, ∃ o, s.heap.get? b = some o ∧ ∀ v, o.data ≠ .cell v) : Inv X (pins ++ pinsAt fp s.heap) σ H s :=
  I.pins_of fun p hp => (List.mem_append.mp hp).elim (fun z => I.pin p (List.mem_append_right _ z)) fun z => by
    obtain ⟨hb, e⟩ := of_pinsAt z
    obtain ⟨f0, f1, f2, _⟩ := hf p.1 hb
    obtain ⟨o, e', d⟩ := ho p.1 hb
    rw [e] at e'; cases e'
    exact ⟨e, f0, f1, f2, d⟩
theorem Inv.unpinned {pins pl : List (Addr × Obj)} {σ : St} {H : Hp} {s : Shared} (I : Inv X (pins ++ pl) σ H s) : Inv X pins σ H s := I.pins_of fun p hp => I.pin p (List.mem_append_right _ (List.mem_append_left _ hp))
theorem ps_for {iter : Expr} {body : List Stmt} {wi : TI} {g : TG} {tb : TS} {pos : Pos} (hp : PassesOwn (model X.prog X.w) X.A X.env X.xe) (hc : X.calm = true) (hi : PI X tg iter wi) (hg : PG X tg g) (hb : PSs X body tb)
    (hs : ∀ x, foldedSetIterable iter X.env x = pure x := by intro _; rfl) : PS X (.For tg iter body [] pos) (tFor wi g tb) := by
  intro pins s σ H D I h
  refine wpAny_For (thn (hi pins s σ H _ I h) fun v s1 h1 => thn h1 fun itv s2 h2 => ?_) hs
  obtain ⟨it, fp, tn, J, H2, e, I2, T, st2, f2, W, ⟨m0, w0⟩, turn⟩ := h2
  subst e
  -- what stays true of the iterator's objects through the loop
  have stat : ∀ {H' : Hp}, (∀ b ∈ fp, H' b = none) → ∀ b ∈ fp, FpOk X pins H' b := fun hn b hb => ⟨hn b hb, (f2 b hb).2⟩
  refine codeAny_forLoop_any (fun n s' => ∃ i σ' H', Inv X pins σ' H' s' ∧ tn i s'.heap ∧ (∀ b ∈ fp, H' b = none) ∧ W i n σ' H') ?_ m0 ⟨0, σ, H2, I2, st2, fun b hb => (f2 b hb).1, w0⟩
  rintro n s3 ⟨i, σ3, H3, I3, st3, fr3, w3⟩
  rcases turn i n σ3 H3 w3 with ⟨stop, qn⟩ | ⟨go, N, hN, step⟩
  · refine wpAny_passesOwn hp (thn (T.done X rfl rfl rfl hc i pins s3 σ3 H3 X.xe I3 (stat fr3) st3 stop) fun r s4 ⟨hr, I4⟩ => ?_)
    subst hr
    exact wpAny_execs_nil ⟨σ3, H3, I4, qn⟩
  · refine wpAny_passesOwn hp (thn (T.item X rfl rfl rfl hc i pins s3 σ3 H3 X.xe I3 (stat fr3) st3 go) fun r s4 ⟨u, hr, h4⟩ => ?_)
    subst hr
    refine wpAny_passesOwn hp (thn h4 fun _ s5 ⟨x, H5, I5, r5, y5, st5, fr5⟩ => ?_)
    have I5' := I5.pinned (stat fr5) (T.obj _ _ st5)
    refine wpAny_passesOwn hp (thn (hg _ s5 σ3 H5 x u _ I5' r5 (step x H5 y5)) fun _ s6 ⟨σ6, H6, I6, q6⟩ => ?_)
    refine wpAny_passesOwn hp (thn (hb _ s6 σ6 H6 _ I6 q6) fun f s7 q7 => ?_)
    have again : ∀ {σ7 : St} {H7 : Hp}, Inv X (pins ++ pinsAt fp s5.heap) σ7 H7 s7 → N σ7 H7 → ∃ m, m < n ∧ ∃ i σ' H', Inv X pins σ' H' s7 ∧ tn i s7.heap ∧ (∀ b ∈ fp, H' b = none) ∧ W i m σ' H' := fun {σ7 H7} I7 n7 => by
      obtain ⟨m', hm, w7⟩ := hN σ7 H7 n7
      refine ⟨m', hm, i + 1, σ7, H7, I7.unpinned, T.keep _ _ _ st5 fun b hb o e => (I7.pin (b, o) (List.mem_append_right _ (List.mem_append_right _ (mem_pinsAt hb e)))).1, fun b hb => ?_, w7⟩
      obtain ⟨o, e, d⟩ := T.obj _ _ st5 b hb
      exact (I7.pin (b, o) (List.mem_append_right _ (List.mem_append_right _ (mem_pinsAt hb e)))).2.1
    cases f with
    | next => obtain ⟨σ7, H7, I7, n7⟩ := q7; exact again I7 n7
    | cont => obtain ⟨σ7, H7, I7, n7⟩ := q7; exact again I7 n7
    | brk => obtain ⟨σ7, H7, I7, q7⟩ := q7; exact ⟨σ7, H7, I7.unpinned, q7⟩
    | ret v => obtain ⟨x7, σ7, H7, I7, r7, q7⟩ := q7; exact ⟨x7, σ7, H7, I7.unpinned, r7, q7⟩
end

/-! ### the forms one uses -/
/-- over a list that the body leaves as it is -/
theorem for_list {K : PySem.W.Frag} {a : Addr} {xs : List V} {g : TG} {tb : TS} {D : Ends} {σ : St} {H : Hp} (Pv : Nat → St → Hp → Prop) (h0 : Pv 0 σ H) (hl : ∀ i σ H, i ≤ xs.length → Pv i σ H → SqL K H a xs)
    (hs : ∀ i x σ H, xs[i]? = some x → Pv i σ H → g x σ H fun σ2 H2 => tb { D with nx := Pv (i + 1), ct := Pv (i + 1), bk := D.nx } σ2 H2) (hd : ∀ σ H, Pv xs.length σ H → D.nx σ H) :
    ∃ W : Nat → Nat → St → Hp → Prop, (∃ m, W 0 m σ H) ∧ ∀ i m σ H, W i m σ H →
      ((Itl K a).stop i H ∧ D.nx σ H) ∨ ((Itl K a).go i H ∧ ∃ N : St → Hp → Prop, (∀ σ' H', N σ' H' → ∃ m', m' < m ∧ W (i + 1) m' σ' H') ∧ ∀ x H', (Itl K a).yld i H x H' → g x σ H' fun σ2 H2 => tb { D with nx := N, ct := N, bk := D.nx } σ2 H2) := by
  refine ⟨fun i m σ H => m = xs.length - i ∧ i ≤ xs.length ∧ Pv i σ H, ⟨xs.length, by simp, Nat.zero_le _, h0⟩, ?_⟩
  rintro i m σ H ⟨rfl, hi, p⟩
  have q := hl i σ H hi p
  by_cases hlt : i < xs.length
  · refine .inr ⟨⟨xs, xs[i], q, by simp [hlt]⟩, Pv (i + 1), fun σ' H' p' => ⟨xs.length - (i + 1), by omega, rfl, hlt, p'⟩, fun x H' y => ?_⟩
    obtain ⟨e, y⟩ := y
    subst e
    exact hs i x σ _ (y xs q) p
  · have e : i = xs.length := by omega
    subst e
    exact .inl ⟨⟨xs, q, Nat.le_refl _⟩, hd σ H p⟩
theorem for_range {lo : Int} {n : Nat} {g : TG} {tb : TS} {D : Ends} {σ : St} {H : Hp} (Pv : Nat → St → Hp → Prop) (h0 : Pv 0 σ H)
    (hs : ∀ i σ H, i < n → Pv i σ H → g (.int (lo + i)) σ H fun σ2 H2 => tb { D with nx := Pv (i + 1), ct := Pv (i + 1), bk := D.nx } σ2 H2) (hd : ∀ σ H, Pv n σ H → D.nx σ H) :
    ∃ W : Nat → Nat → St → Hp → Prop, (∃ m, W 0 m σ H) ∧ ∀ i m σ H, W i m σ H →
      ((Itr lo n).stop i H ∧ D.nx σ H) ∨ ((Itr lo n).go i H ∧ ∃ N : St → Hp → Prop, (∀ σ' H', N σ' H' → ∃ m', m' < m ∧ W (i + 1) m' σ' H') ∧ ∀ x H', (Itr lo n).yld i H x H' → g x σ H' fun σ2 H2 => tb { D with nx := N, ct := N, bk := D.nx } σ2 H2) := by
  refine ⟨fun i m σ H => m = n - i ∧ i ≤ n ∧ Pv i σ H, ⟨n, by simp, Nat.zero_le _, h0⟩, ?_⟩
  rintro i m σ H ⟨rfl, hi, p⟩
  by_cases hlt : i < n
  · refine .inr ⟨hlt, Pv (i + 1), fun σ' H' p' => ⟨n - (i + 1), by omega, rfl, hlt, p'⟩, fun x H' y => ?_⟩
    obtain ⟨e, y⟩ := y
    subst e y
    exact hs i σ _ hlt p
  · have e : i = n := by omega
    subst e
    exact .inl ⟨Nat.le_refl _, hd σ H p⟩
end L2

namespace L2
open PySem PySem.Spec PyProof.Rows

noncomputable abbrev R2 := V → V → Hp → VK → Prop
/-- a two-place operation on values: f is binaryOp op, inplaceOp op or compareOp op -/
noncomputable def OpR (X : Cx) (f : Value → Value → Sem Value) (r : R2) : Prop :=
  ∀ (pins : List (Addr × Obj)) (s : Shared) (σ : St) (H : Hp) (x y : V) (v u : Value) (Q : VK), Inv X pins σ H s → RelV x v → RelV y u → r x y H Q →
    wpAny (model X.prog X.w) X.A (f v u) (EP X pins σ Q) X.xe s
/-- a one-place operation -/
noncomputable def UnR (X : Cx) (f : Value → Sem Value) (r : V → Hp → VK → Prop) : Prop :=
  ∀ (pins : List (Addr × Obj)) (s : Shared) (σ : St) (H : Hp) (x : V) (v : Value) (Q : VK), Inv X pins σ H s → RelV x v → r x H Q →
    wpAny (model X.prog X.w) X.A (f v) (EP X pins σ Q) X.xe s
/-- a call of a value that is known (a builtin, a type) with values -/
noncomputable def CallR (X : Cx) (f : Value) (r : List V → Hp → VK → Prop) : Prop :=
  ∀ (pins : List (Addr × Obj)) (s : Shared) (σ : St) (H : Hp) (xs : List V) (us : List Value) (Q : VK), Inv X pins σ H s → Vals xs us → r xs H Q →
    wpAny (model X.prog X.w) X.A (call f us) (EP X pins σ Q) X.xe s
/-- a value's truth -/
noncomputable def TruR (X : Cx) (r : V → Hp → (Bool → Hp → Prop) → Prop) : Prop :=
  ∀ (pins : List (Addr × Obj)) (s : Shared) (σ : St) (H : Hp) (x : V) (v : Value) (Q : Bool → Hp → Prop), Inv X pins σ H s → RelV x v → r x H Q →
    wpAny (model X.prog X.w) X.A (truthy v) (TP X pins σ Q) X.xe s

noncomputable def tOp (r : R2) (ta tb : TE) : TE := fun σ H Q => ta σ H fun x H1 => tb σ H1 fun y H2 => r x y H2 Q
noncomputable def tUn (r : V → Hp → VK → Prop) (ta : TE) : TE := fun σ H Q => ta σ H fun x H1 => r x H1 Q
/-- ints in, under C, and a value out -/
noncomputable def rI (C : Int → Int → Prop) (g : Int → Int → V) : R2 := fun x y H Q => ∃ i j, x = .int i ∧ y = .int j ∧ C i j ∧ Q (g i j) H
noncomputable def rI0 (g : Int → Int → V) : R2 := fun x y H Q => ∃ i j, x = .int i ∧ y = .int j ∧ Q (g i j) H
noncomputable def rU (g : Int → V) : V → Hp → VK → Prop := fun x H Q => ∃ i, x = .int i ∧ Q (g i) H

section
variable {X : Cx} {a b c : Expr} {ta tb tc : TE} {pos : Pos}

theorem binT (ha : PE X a ta) (hb : PE X b tb) {pins : List (Addr × Obj)} {s : Shared} {σ : St} {H : Hp} {R : V → V → Hp → Prop} (I : Inv X pins σ H s)
    (h : ta σ H fun x H1 => tb σ H1 fun y H2 => R x y H2) {Q : Value → Shared → Prop} {f : Value → Value → Sem Value}
    (hf : ∀ v u s2 x y H2, Inv X pins σ H2 s2 → RelV x v → RelV y u → R x y H2 → wpAny (model X.prog X.w) X.A (f v u) Q X.xe s2) :
    wpAny (model X.prog X.w) X.A (eval a X.env) (fun v s₁ => wpAny (model X.prog X.w) X.A (eval b X.env) (fun u s₂ => wpAny (model X.prog X.w) X.A (f v u) Q X.xe s₂) X.xe s₁) X.xe s := by
  refine thn (ha pins s σ H _ I h) fun v s1 ⟨x, H1, I1, r1, q1⟩ => ?_
  refine thn (hb pins s1 σ H1 _ I1 q1) fun u s2 ⟨y, H2, I2, r2, q2⟩ => ?_
  exact hf v u s2 x y H2 I2 r1 r2 q2

theorem pe_op {op : Operator} {r : R2} (ho : OpR X (binaryOp op) r) (ha : PE X a ta) (hb : PE X b tb) : PE X (.BinOp a op b pos) (tOp r ta tb) := by
  intro pins s σ H Q I h
  exact wpAny_BinOp (binT ha hb I h fun v u s2 x y H2 I2 rx ry q => ho pins s2 σ H2 x y v u Q I2 rx ry q)
theorem pe_un {op : UnaryOp} {r : V → Hp → VK → Prop} (ho : UnR X (unaryOp op) r) (ha : PE X a ta) : PE X (.UnaryOp op a pos) (tUn r ta) := by
  intro pins s σ H Q I h
  exact UnaryOp_ (thn (ha pins s σ H _ I h) fun v s1 ⟨x, H1, I1, r1, q1⟩ => ho pins s1 σ H1 x v Q I1 r1 q1)

/-! ### ints -/
theorem opI {f : Value → Value → Sem Value} {C : Int → Int → Prop} {g : Int → Int → Int}
    (rule : ∀ (i j : Int) (t u : Tok) (s : Shared) (Q : Value → Shared → Prop) (E : Value → Shared → Prop), C i j → Q (.int (g i j) s.toks) { s with toks := s.toks + 1 } → wpAny (model X.prog X.w) X.A (f (.int i t) (.int j u)) Q E s) :
    OpR X f (rI C fun i j => .int (g i j)) := by
  intro pins s σ H x y v u Q I rx ry h
  obtain ⟨i, j, rfl, rfl, hc, q⟩ := h
  obtain ⟨t, rfl⟩ := rx
  obtain ⟨t', rfl⟩ := ry
  exact rule i j t t' s _ _ hc ⟨.int (g i j), H, I.tok _, ⟨_, rfl⟩, q⟩
theorem opI0 {f : Value → Value → Sem Value} {g : Int → Int → Int}
    (rule : ∀ (i j : Int) (t u : Tok) (s : Shared) (Q : Value → Shared → Prop) (E : Value → Shared → Prop), Q (.int (g i j) s.toks) { s with toks := s.toks + 1 } → wpAny (model X.prog X.w) X.A (f (.int i t) (.int j u)) Q E s) :
    OpR X f (rI0 fun i j => .int (g i j)) := by
  intro pins s σ H x y v u Q I rx ry h
  obtain ⟨i, j, rfl, rfl, q⟩ := h
  obtain ⟨t, rfl⟩ := rx
  obtain ⟨t', rfl⟩ := ry
  exact rule i j t t' s _ _ ⟨.int (g i j), H, I.tok _, ⟨_, rfl⟩, q⟩
theorem opB0 {f : Value → Value → Sem Value} {g : Int → Int → Bool}
    (rule : ∀ (i j : Int) (t u : Tok) (s : Shared) (Q : Value → Shared → Prop) (E : Value → Shared → Prop), Q (.bool (g i j)) s → wpAny (model X.prog X.w) X.A (f (.int i t) (.int j u)) Q E s) :
    OpR X f (rI0 fun i j => .bl (g i j)) := by
  intro pins s σ H x y v u Q I rx ry h
  obtain ⟨i, j, rfl, rfl, q⟩ := h
  obtain ⟨t, rfl⟩ := rx
  obtain ⟨t', rfl⟩ := ry
  exact rule i j t t' s _ _ ⟨.bl (g i j), H, I, rfl, q⟩

noncomputable def CDiv (i j : Int) : Prop := 0 < j ∧ j < 1073741824
noncomputable def CDivN (i j : Int) : Prop := j ≠ 0 ∧ j.natAbs < 1073741824
noncomputable def CPow (i j : Int) : Prop := 0 ≤ j ∧ j ≤ 1000000 ∧ i.natAbs < 2 ^ 64
noncomputable def CMul (i j : Int) : Prop := (-(2 ^ 64) < i ∧ i < 2 ^ 64) ∨ (-(2 ^ 64) < j ∧ j < 2 ^ 64)
theorem two_pow_nn (k : Nat) : (0 : Int) ≤ 2 ^ k := by
  rw [two_pow_cast]
  exact Int.natCast_nonneg _

theorem op_add : OpR X (binaryOp .Add) (rI0 fun i j => .int (i + j)) := opI0 fun _ _ _ _ _ _ _ q => add_int q
theorem op_sub : OpR X (binaryOp .Sub) (rI0 fun i j => .int (i - j)) := opI0 fun _ _ _ _ _ _ _ q => sub_int q
/-- % by a positive divisor of any size -/
theorem op_mod : OpR X (binaryOp .Mod) (rI (fun _ j => 0 < j) fun i j => .int (i % j)) := opI fun i j _ _ _ _ _ hc q => by
  have h1 : (0 : Int) < j := hc
  exact mod_int' (by omega) (by rw [Int.fmod_eq_emod_of_nonneg i (by omega)]; exact q)
theorem op_pow : OpR X (binaryOp .Pow) (rI CPow fun i j => .int (i ^ j.toNat)) := opI fun _ _ _ _ _ _ _ hc q => pow_int_small hc.1 hc.2.1 hc.2.2 q
theorem op_shl : OpR X (binaryOp .LShift) (rI CPow fun i j => .int (i * 2 ^ j.toNat)) := opI fun _ _ _ _ _ _ _ hc q => lshift_int_small hc.1 hc.2.1 hc.2.2 q
theorem op_shr : OpR X (binaryOp .RShift) (rI (fun _ j => 0 ≤ j) fun i j => .int (i / 2 ^ j.toNat)) := opI fun i j _ _ _ _ _ hc q =>
  rshift_int hc (by rw [Int.fdiv_eq_ediv_of_nonneg i (two_pow_nn _)]; exact q)
theorem op_and : OpR X (binaryOp .BitAnd) (rI0 fun i j => .int (Builtin.bitAnd i j)) := opI0 fun _ _ _ _ _ _ _ q => and_int q


theorem unI {f : Value → Sem Value} {g : Int → Int}
    (rule : ∀ (i : Int) (t : Tok) (s : Shared) (Q : Value → Shared → Prop) (E : Value → Shared → Prop), Q (.int (g i) s.toks) { s with toks := s.toks + 1 } → wpAny (model X.prog X.w) X.A (f (.int i t)) Q E s) :
    UnR X f (rU fun i => .int (g i)) := by
  intro pins s σ H x v Q I rx h
  obtain ⟨i, rfl, q⟩ := h
  obtain ⟨t, rfl⟩ := rx
  exact rule i t s _ _ ⟨.int (g i), H, I.tok _, ⟨_, rfl⟩, q⟩
theorem un_neg : UnR X (unaryOp .USub) (rU fun i => .int (-i)) := unI fun _ _ _ _ _ q => neg_int q

/-! ### bools among ints: n += (a < b) -/
end

/-! ### comparisons -/
/-- the scalars that == tells apart as data does -/
noncomputable def scal : V → V → Bool
  | .non, .non => true | .non, .int _ => true | .int _, .non => true | .non, .bl _ => true | .bl _, .non => true | .non, .str _ => true | .str _, .non => true
  | .int _, .int _ => true | .bl _, .bl _ => true | .str _, .str _ => true | .byt _, .byt _ => true
  | .int _, .str _ => true | .str _, .int _ => true | .bl _, .str _ => true | .str _, .bl _ => true
  | _, _ => false
noncomputable def rEq : R2 := fun x y H Q => scal x y = true ∧ Q (.bl (decide (x = y))) H
noncomputable def rNe : R2 := fun x y H Q => scal x y = true ∧ Q (.bl (!decide (x = y))) H

theorem dec_int {i j : Int} : decide (V.int i = V.int j) = (i == j) := by
  rw [Bool.eq_iff_iff]
  simp
theorem dec_bl {i j : Bool} : decide (V.bl i = V.bl j) = (i == j) := by
  rw [Bool.eq_iff_iff]
  simp
theorem dec_str {i j : Str} : decide (V.str i = V.str j) = (i == j) := by
  rw [Bool.eq_iff_iff]
  simp
theorem dec_byt {i j : Array UInt8} : decide (V.byt i = V.byt j) = (i.toList == j.toList) := by
  rw [Bool.eq_iff_iff]
  cases i
  cases j
  simp

section
variable {X : Cx} {a b c : Expr} {ta tb tc : TE} {pos : Pos}
theorem fin_bl {pins : List (Addr × Obj)} {σ : St} {H : Hp} {s : Shared} {Q : VK} {k k' : Bool} (I : Inv X pins σ H s) (q : Q (.bl k) H) (e : k = k') : EP X pins σ Q (.bool k') s := by
  subst e
  exact ⟨.bl k, H, I, rfl, q⟩
theorem op_eq : OpR X (compareOp .Eq) rEq := by
  intro pins s σ H x y v u Q I rx ry h
  obtain ⟨hs, q⟩ := h
  cases x with
  | non =>
    cases rx
    cases y with
    | non => cases ry; exact PySem.EqNone.eq_none_none (fin_bl I q (by simp))
    | bl j => cases ry; exact PySem.EqNone.eq_none_bool (fin_bl I q (by simp))
    | int j => obtain ⟨t', rfl⟩ := ry; exact PySem.EqNone.eq_none_int (fin_bl I q (by simp))
    | str j => obtain ⟨t', rfl⟩ := ry; exact PySem.EqNone.eq_none_str (fin_bl I q (by simp))
    | _ => exact absurd (show false = true from hs) Bool.false_ne_true
  | bl i =>
    cases rx
    cases y with
    | non => cases ry; exact PySem.EqNone.eq_bool_none (fin_bl I q (by simp))
    | bl j => cases ry; exact eq_bool (fin_bl I q dec_bl)
    | str j => obtain ⟨t', rfl⟩ := ry; exact PySem.EqMixed.eq_bool_str (fin_bl I q (by simp))
    | _ => exact absurd (show false = true from hs) Bool.false_ne_true
  | int i =>
    obtain ⟨t, rfl⟩ := rx
    cases y with
    | non => cases ry; exact PySem.EqNone.eq_int_none (fin_bl I q (by simp))
    | int j => obtain ⟨t', rfl⟩ := ry; exact eq_int (fin_bl I q dec_int)
    | str j => obtain ⟨t', rfl⟩ := ry; exact PySem.EqMixed.eq_int_str (fin_bl I q (by simp))
    | _ => exact absurd (show false = true from hs) Bool.false_ne_true
  | str i =>
    obtain ⟨t, rfl⟩ := rx
    cases y with
    | non => cases ry; exact PySem.EqNone.eq_str_none (fin_bl I q (by simp))
    | bl j => cases ry; exact PySem.EqMixed.eq_str_bool (fin_bl I q (by simp))
    | int j => obtain ⟨t', rfl⟩ := ry; exact PySem.EqMixed.eq_str_int (fin_bl I q (by simp))
    | str j => obtain ⟨t', rfl⟩ := ry; exact eq_str (fin_bl I q dec_str)
    | _ => exact absurd (show false = true from hs) Bool.false_ne_true
  | byt i =>
    obtain ⟨t, rfl⟩ := rx
    cases y with
    | byt j => obtain ⟨t', rfl⟩ := ry; exact PySem.W.eq_bytes (fin_bl I q dec_byt)
    | _ => exact absurd (show false = true from hs) Bool.false_ne_true
  | _ => cases y <;> exact absurd (show false = true from hs) Bool.false_ne_true
theorem op_ne : OpR X (compareOp .NotEq) rNe := by
  intro pins s σ H x y v u Q I rx ry h
  obtain ⟨hs, q⟩ := h
  cases x with
  | non =>
    cases rx
    cases y with
    | non => cases ry; exact PySem.EqNone.ne_none_none (fin_bl I q (by simp))
    | bl j => cases ry; exact PySem.EqNone.ne_none_bool (fin_bl I q (by simp))
    | int j => obtain ⟨t', rfl⟩ := ry; exact PySem.EqNone.ne_none_int (fin_bl I q (by simp))
    | str j => obtain ⟨t', rfl⟩ := ry; exact PySem.EqNone.ne_none_str (fin_bl I q (by simp))
    | _ => exact absurd (show false = true from hs) Bool.false_ne_true
  | bl i =>
    cases rx
    cases y with
    | non => cases ry; exact PySem.EqNone.ne_bool_none (fin_bl I q (by simp))
    | bl j => cases ry; exact ne_bool (fin_bl I q (congrArg not dec_bl))
    | str j => obtain ⟨t', rfl⟩ := ry; exact PySem.EqMixed.ne_bool_str (fin_bl I q (by simp))
    | _ => exact absurd (show false = true from hs) Bool.false_ne_true
  | int i =>
    obtain ⟨t, rfl⟩ := rx
    cases y with
    | non => cases ry; exact PySem.EqNone.ne_int_none (fin_bl I q (by simp))
    | int j => obtain ⟨t', rfl⟩ := ry; exact ne_int (fin_bl I q (congrArg not dec_int))
    | str j => obtain ⟨t', rfl⟩ := ry; exact PySem.EqMixed.ne_int_str (fin_bl I q (by simp))
    | _ => exact absurd (show false = true from hs) Bool.false_ne_true
  | str i =>
    obtain ⟨t, rfl⟩ := rx
    cases y with
    | non => cases ry; exact PySem.EqNone.ne_str_none (fin_bl I q (by simp))
    | bl j => cases ry; exact PySem.EqMixed.ne_str_bool (fin_bl I q (by simp))
    | int j => obtain ⟨t', rfl⟩ := ry; exact PySem.EqMixed.ne_str_int (fin_bl I q (by simp))
    | str j => obtain ⟨t', rfl⟩ := ry; exact ne_str (fin_bl I q (congrArg not dec_str))
    | _ => exact absurd (show false = true from hs) Bool.false_ne_true
  | byt i =>
    obtain ⟨t, rfl⟩ := rx
    cases y with
    | byt j => obtain ⟨t', rfl⟩ := ry; exact PySem.W.ne_bytes (fin_bl I q (congrArg not dec_byt))
    | _ => exact absurd (show false = true from hs) Bool.false_ne_true
  | _ => cases y <;> exact absurd (show false = true from hs) Bool.false_ne_true

theorem op_lt : OpR X (compareOp .Lt) (rI0 fun i j => .bl (decide (i < j))) := opB0 fun _ _ _ _ _ _ _ q => lt_int q
theorem op_gt : OpR X (compareOp .Gt) (rI0 fun i j => .bl (decide (j < i))) := opB0 fun _ _ _ _ _ _ _ q => gt_int q

/-- is None, is not None: the right side a value none -/
theorem op_isN : OpR X (compareOp .Is) (fun x y H Q => y = .non ∧ Q (.bl (decide (x = .non))) H) := by
  intro pins s σ H x y v u Q I rx ry h
  obtain ⟨rfl, q⟩ := h
  cases ry
  refine is_none_gen (fin_bl I q ?_)
  cases x <;> first
    | (cases rx; rfl)
    | (obtain ⟨t, rfl⟩ := rx; rfl)

/-- is, is not of two objects that are tracked lists or instances -/
noncomputable def isObj : HO → Bool
  | .lst _ => true
  | .ins _ _ _ => true
  | _ => false


theorem nomark (b : Expr) {op : CmpOp} (h : op ≠ .In := by decide) (h2 : op ≠ .NotIn := by decide) : behindInMarks op b = false := by
  have e1 : (op == CmpOp.In) = false := by cases op <;> first | rfl | exact absurd rfl h
  have e2 : (op == CmpOp.NotIn) = false := by cases op <;> first | rfl | exact absurd rfl h2
  cases b <;> simp [behindInMarks, e1, e2]
/-- a comparison as a value; hm: nomark b, or (for in, not in) by with_unfolding_all rfl -/
theorem pe_cmpR {op : CmpOp} {r : R2} (ho : OpR X (compareOp op) r) (ha : PE X a ta) (hb : PE X b tb) (hm : behindInMarks op b = false) : PE X (.Compare a [op] [b] pos) (tOp r ta tb) := by
  intro pins s σ H Q I h
  exact wpAny_Compare1 (binT ha hb I h fun v u s2 x y H2 I2 rx ry q => ho pins s2 σ H2 x y v u Q I2 rx ry q) hm
/-- a reading of a value as a test -/
noncomputable def tTest (t : TE) : TT := fun σ H Q => t σ H fun x H' => ∃ k, x = .bl k ∧ Q k H'
theorem pt_cmpR {op : CmpOp} {r : R2} (ho : OpR X (compareOp op) r) (ha : PE X a ta) (hb : PE X b tb) (hm : behindInMarks op b = false) : PT X (.Compare a [op] [b] pos) (tTest (tOp r ta tb)) := by
  intro pins s σ H Q I h
  refine wpAny_isTrue_Compare1 (thn (ha pins s σ H _ I h) fun v s1 ⟨x, H1, I1, r1, q1⟩ => thn (hb pins s1 σ H1 _ I1 q1) fun u s2 ⟨y, H2, I2, r2, q2⟩ =>
    thn (ho pins s2 σ H2 x y v u _ I2 r1 r2 q2) fun c s3 ⟨z, H3, I3, r3, k, e, q3⟩ => ?_) hm
  subst e
  cases r3
  exact wpAny_truthy_bool ⟨H3, I3, q3⟩
/-- a op1 b op2 c -/
noncomputable def tChain (r r' : R2) (ta tb tc : TE) : TE := fun σ H Q => ta σ H fun x H1 => tb σ H1 fun y H2 => r x y H2 fun z H3 => ∃ k, z = .bl k ∧
  (if k = true then tc σ H3 fun w' H4 => r' y w' H4 Q else Q (.bl false) H3)

/-! ### truth -/
/-- a value's truth by the abstract heap -/
noncomputable def TruV (K : PySem.W.Frag) (x : V) (H : Hp) (k : Bool) : Prop :=
  match x with
  | .non => k = false
  | .bl b => k = b
  | .int i => k = (i != 0)
  | .str y => y.length ≤ sizeLine ∧ k = ((y.length : Int) != 0)
  | .byt y => y.size ≤ sizeLine ∧ k = ((y.size : Int) != 0)
  | .ref p => (∃ xs, SqL K H p xs ∧ k = !xs.isEmpty) ∨ (∃ xs, SqT K H p xs ∧ k = !xs.isEmpty) ∨ ∃ kvs, H p = some (.dK kvs) ∧ k = !kvs.isEmpty
  | _ => False
theorem line63 : (sizeLine : Nat) < 2 ^ 63 := by rw [sizeLine_eq]; decide

/-! ### strs and bytes -/
theorem op_add_str : OpR X (binaryOp .Add) (fun x y H Q => ∃ i j, x = .str i ∧ y = .str j ∧ i.length + j.length ≤ sizeLine ∧ Q (.str (i ++ j)) H) := by
  intro pins s σ H x y v u Q I rx ry h
  obtain ⟨i, j, rfl, rfl, hz, q⟩ := h
  obtain ⟨t, rfl⟩ := rx
  obtain ⟨t', rfl⟩ := ry
  exact add_str (fun t' tk => ⟨.str (i ++ j), H, I.tok _, ⟨_, rfl⟩, q⟩) hz

noncomputable def PlainIxT (b : Expr) : Prop := ∀ o i, subscripted b false o i = operate [o, i] (getItem o i)

/-! ### scalar builtins, by CallR -/
theorem vals1 {x : V} {us : List Value} (r : Vals [x] us) : ∃ u, us = [u] ∧ RelV x u := by
  cases r with
  | cons r1 r2 => cases r2; exact ⟨_, rfl, r1⟩
theorem vals2 {x y : V} {us : List Value} (r : Vals [x, y] us) : ∃ u w', us = [u, w'] ∧ RelV x u ∧ RelV y w' := by
  cases r with
  | cons r1 r2 =>
    cases r2 with
    | cons r3 r4 => cases r4; exact ⟨_, _, rfl, r1, r3⟩
theorem call_int1 : CallR X (.type "int") (fun xs H Q => (∃ i, xs = [.int i] ∧ Q (.int i) H) ∨ ∃ k, xs = [.bl k] ∧ Q (.int (if k then 1 else 0)) H) := by
  intro pins s σ H xs us Q I r h
  rcases h with ⟨i, rfl, q⟩ | ⟨k, rfl, q⟩
  · obtain ⟨u, rfl, t, rfl⟩ := vals1 r
    exact call_int_int ⟨.int i, H, I, ⟨_, rfl⟩, q⟩
  · obtain ⟨u, rfl, r1⟩ := vals1 r
    cases r1
    exact call_int_bool ⟨.int (if k then 1 else 0), H, I.tok _, ⟨_, rfl⟩, q⟩
theorem call_str_int : CallR X (.type "str") (fun xs H Q => ∃ i, xs = [.int i] ∧ i.natAbs.log2 < 1920 ∧ Q (.str (toString i)) H) := by
  intro pins s σ H xs us Q I r h
  obtain ⟨i, rfl, hz, q⟩ := h
  obtain ⟨u, rfl, t, rfl⟩ := vals1 r
  exact PySem.P.str_of_int hz ⟨.str _, H, I.tok _, ⟨_, rfl⟩, q⟩
/-- len of a str, a bytes, a list, a tuple -/
noncomputable def LenV (K : PySem.W.Frag) (x : V) (H : Hp) (n : Nat) : Prop :=
  match x with
  | .str y => y.length ≤ sizeLine ∧ n = y.length
  | .byt y => y.size ≤ sizeLine ∧ n = y.size
  | .ref p => (∃ xs, SqL K H p xs ∧ n = xs.length) ∨ ∃ xs, SqT K H p xs ∧ n = xs.length
  | _ => False
end
end L2

namespace L2
open PySem PySem.Spec PyProof.Rows

/-! ### an instance, its attributes a map -/
structure ObjM (h : Heap) (x dx C : Addr) (mA : Str → Option Value) : Prop where
  obj : h.get? x = some (PySem.W.instObj C dx)
  ns : h.Ns1 dx mA
  ne : dx ≠ x

theorem lookIn_ns {h : Heap} {dx : Addr} {mA : Str → Option Value} (n : h.Ns1 dx mA) : ∃ od, h.get? dx = some od ∧ ∀ name, PySem.W.lookIn name od = some (mA name) := by
  obtain ⟨o, es, ep, ho, hd, hk, _, hm⟩ := n
  refine ⟨o, ho, fun name => ?_⟩
  have e := hm name
  unfold nsFind findBy at e
  rw [← Array.find?_toList] at e
  unfold PySem.W.lookIn
  rw [hd]
  dsimp only
  split
  · rename_i y q
    rw [q] at e
    exact congrArg some e
  · rename_i q
    rw [q] at e
    have a : es.toList.any (·.refKey) = false := by
      rw [List.any_eq_false]
      intro y hy
      obtain ⟨z, t, hkey⟩ := hk y (Array.mem_toList_iff.mp hy)
      simp [DictEntry.refKey, hkey]
    have a' : ¬ es.toList.any (·.refKey) = true := by rw [a]; exact Bool.false_ne_true
    rw [if_neg a']
    exact congrArg some e

theorem ObjM.look {h : Heap} {x dx C : Addr} {mA : Str → Option Value} (I : ObjM h x dx C mA) : ∃ od, PySem.W.InstAt h x (PySem.W.instObj C dx) C (some od) ∧ ∀ name, PySem.W.lookIn name od = some (mA name) :=
  let ⟨od, ho, hl⟩ := lookIn_ns I.ns
  ⟨od, ⟨I.obj, rfl, rfl, ho⟩, hl⟩

section
variable {prog : Program} {w : World} {A : Around} {E : Value → Shared → Prop} {s : Shared} {K : PySem.W.Frag} {x dx C f : Addr} {mA : Str → Option Value} {name : Str} {v : Value}





end

/-! ### the attributes as a list of pairs -/
noncomputable def putF (f : Str) (v : V) : List (Str × V) → List (Str × V)
  | [] => [(f, v)]
  | (g, x) :: r => if g = f then (g, v) :: r else (g, x) :: putF f v r


section
variable {P : Program} {w : World} {H H' : Hp} {h h' : Heap} {a C dx : Addr} {fs fs' : List (Str × V)}
theorem ins_get (hok : HOk P w H h) (e : H a = some (.ins C dx fs)) : ∃ mA, ObjM h a dx C mA ∧ (∀ f, RelO (fs.lookup f) (mA f)) ∧ PySem.Within mA (fs.map (·.1)) ∧ fs.length ≤ 1000 ∧ H dx = some (.own a) := by
  obtain ⟨d, z, ne, ob, mA, n, r, q⟩ := (show ObjOk P w H h a (.ins C dx fs) from hok a _ e)
  exact ⟨mA, ⟨ob, n, ne⟩, r, q, z, d⟩
end

/-! ### what of the text a class must have -/
structure Cls (K : PySem.W.Frag) (C : Addr) : Prop where
  pg : PySem.W.plainGet K C Str.empty = true
  hd : PySem.W.hasDictIn K C = true
  po : PySem.W.plainOver K C = true
  sa : PySem.W.findIn K (.ref C) "__setattr__" = some (some (.builtin "object.__setattr__"))
theorem Cls.get {K : PySem.W.Frag} {C : Addr} (c : Cls K C) (f : Str) : PySem.W.plainGet K C f = true := c.pg
/-- no class of it has the name -/
noncomputable def NoAttr (K : PySem.W.Frag) (C : Addr) (f : Str) : Prop := PySem.W.findIn K (.ref C) f = some none
/-- a constant of the class -/
structure Con (K : PySem.W.Frag) (C : Addr) (f : Str) (v : V) (u : Value) : Prop where
  at_ : PySem.W.findIn K (.ref C) f = some (some u)
  rel : RelV v u
  get : PySem.W.specialIn K u "__get__" = some none
  cp : PySem.W.copiedNames.contains f = false
/-- a method: a plain def of the class or of one above it -/
structure Meth (K : PySem.W.Frag) (C : Addr) (m : Str) (f : Addr) : Prop where
  at_ : PySem.W.findIn K (.ref C) m = some (some (.ref f))
  fn : PySem.W.isFn K (.ref f) = true
  kp : PySem.W.keepIn K (.ref f) = true

section
variable {X : Cx} {pins : List (Addr × Obj)} {σ : St} {H : Hp} {s : Shared} {a C dx : Addr} {fs : List (Str × V)} {f : Str} {v : V} {A : Around} {E : Value → Shared → Prop}






end

/-! ### readings and rules -/
/-- e.f, an attribute of the instance -/
noncomputable def tFld (K : PySem.W.Frag) (ta : TE) (f : Str) : TE := fun σ H Q => ta σ H fun x H1 => ∃ a C dx fs v, x = .ref a ∧ H1 a = some (.ins C dx fs) ∧ Cls K C ∧ NoAttr K C f ∧ fs.lookup f = some v ∧ Q v H1
/-- e.f, a constant of the class -/
noncomputable def tCon (K : PySem.W.Frag) (ta : TE) (f : Str) : TE := fun σ H Q => ta σ H fun x H1 => ∃ a C dx fs v u, x = .ref a ∧ H1 a = some (.ins C dx fs) ∧ Cls K C ∧ Con K C f v u ∧ fs.lookup f = none ∧ Q v H1
/-- e.f = value -/
noncomputable def sFld (K : PySem.W.Frag) (ta tv : TE) (f : Str) : TS := fun D σ H => tv σ H fun y H1 => ta σ H1 fun x H2 => ∃ a C dx fs, x = .ref a ∧ H2 a = some (.ins C dx fs) ∧ Cls K C ∧ NoAttr K C f ∧ fs.length < 1000 ∧
  D.nx σ (upd H2 a (.ins C dx (putF f y fs)))
/-- an augmented operator on two values -/
noncomputable def InOp (X : Cx) (op : Operator) (rd : V → V → Hp → VK → Prop) : Prop :=
  ∀ (pins : List (Addr × Obj)) (s : Shared) (σ : St) (H : Hp) (x y : V) (u v : Value) (Q : VK), Inv X pins σ H s → RelV x u → RelV y v → rd x y H Q → wpAny (model X.prog X.w) X.A (inplaceOp op u v) (EP X pins σ Q) X.xe s
/-- e.f op= value -/
noncomputable def sFldAug (K : PySem.W.Frag) (ta tv : TE) (rd : V → V → Hp → VK → Prop) (f : Str) : TS := fun D σ H => ta σ H fun x H1 => ∃ a C dx fs v, x = .ref a ∧ H1 a = some (.ins C dx fs) ∧ Cls K C ∧ NoAttr K C f ∧ fs.lookup f = some v ∧
  tv σ H1 fun y H2 => rd v y H2 fun z H3 => ∃ dx' fs', H3 a = some (.ins C dx' fs') ∧ fs'.length < 1000 ∧ D.nx σ (upd H3 a (.ins C dx' (putF f z fs')))

section
variable {X : Cx} {o e value : Expr} {f : Str} {pos pos' tpos : Pos} {ta tv : TE}
noncomputable def rAdd : V → V → Hp → VK → Prop := fun x y H Q => ∃ i j, x = .int i ∧ y = .int j ∧ Q (.int (i + j)) H
noncomputable def rSub : V → V → Hp → VK → Prop := fun x y H Q => ∃ i j, x = .int i ∧ y = .int j ∧ Q (.int (i - j)) H

end

/-! ### isinstance -/
section
variable {X : Cx} {pins : List (Addr × Obj)} {σ : St} {H : Hp} {s : Shared} {A : Around} {E : Value → Shared → Prop} {Q : Value → Shared → Prop} {c : Value} {b : Bool}
/-- the type of a value, as the fragment's deciders take it; for an instance its class -/
inductive TyOf (K : PySem.W.Frag) (H : Hp) : V → Value → Prop where
  | non : TyOf K H .non (.type "NoneType")
  | bl (x : Bool) : TyOf K H (.bl x) (.type "bool")
  | int (i : Int) : TyOf K H (.int i) (.type "int")
  | str (x : Str) : TyOf K H (.str x) (.type "str")
  | flt (x : UInt64) : TyOf K H (.flt x) (.type "float")
  | lst {a : Addr} {xs : List V} (e : H a = some (.lst xs)) : TyOf K H (.ref a) (.type "list")
  | frz {a : Addr} {o : Obj} {xs : List V} (e : H a = some (.frz o (.lst xs))) : TyOf K H (.ref a) (.type "list")
  | tup {a : Addr} {xs : List V} (e : H a = some (.tup xs)) : TyOf K H (.ref a) (.type "tuple")
  | dK {a : Addr} {kvs : List (Key × V)} (e : H a = some (.dK kvs)) : TyOf K H (.ref a) (.type "dict")
  | dT {a : Addr} {kvs : List (List Key × V)} (e : H a = some (.dT kvs)) : TyOf K H (.ref a) (.type "dict")
  | ins {a C dx : Addr} {fs : List (Str × V)} (e : H a = some (.ins C dx fs)) (cl : Cls K C) (ha : PySem.W.findIn K (.ref C) "__class__" = some (some (.builtin "object.__class__")))
      (hn : PySem.W.specialIn K (.builtin "object.__class__") "__get__" = some (some (.builtin "getset_descriptor.__get__"))) (htk : PySem.W.takesIn K (.builtin "object.__class__") = some true)
      (hm : PySem.W.mroIn K C (.type "object") = some true) : TyOf K H (.ref a) (.ref C)
/-- isinstance(x, c) for one class c, a built-in or an own one: kitOne's answer -/
theorem isinst_ok {x : V} {u t : Value} (I : Inv X pins σ H s) (rx : RelV x u) (ty : TyOf X.K H x t) (e : PySem.W.kitOne X.K t c = some b) (h : ∀ tk, Q (.bool b) { s with toks := tk }) :
    wpAny (model X.prog X.w) A (call (.builtin "isinstance") [u, c]) Q E s := by
  cases ty with
  | non => cases (show u = Value.none from rx); exact PySem.W.kia_one PySem.W.kitx_none I.kIn True.intro e (fun z => nomatch z) h
  | bl y => cases (show u = Value.bool y from rx); exact PySem.W.kia_one PySem.W.kitx_bool I.kIn True.intro e (fun z => nomatch z) h
  | int i => obtain ⟨t, q⟩ := (show ∃ t, u = Value.int i t from rx); cases q; exact PySem.W.kia_one PySem.W.kitx_int I.kIn True.intro e (fun z => nomatch z) h
  | str y => obtain ⟨t, q⟩ := (show ∃ t, u = Value.str y t from rx); cases q; exact PySem.W.kia_one PySem.W.kitx_str I.kIn True.intro e (fun z => nomatch z) h
  | flt y => obtain ⟨t, q⟩ := (show ∃ t, u = Value.float y t from rx); cases q; exact PySem.W.kia_one PySem.W.kitx_float I.kIn True.intro e (fun z => nomatch z) h
  | @lst a xs ea =>
    cases (show u = Value.ref a from rx)
    obtain ⟨_, _, n, _, h1⟩ := (show ObjOk X.prog X.w H s.heap a (.lst xs) from I.hok a _ ea)
    exact PySem.W.kia_one PySem.W.kitx_list I.kIn ⟨_, h1, rfl⟩ e (fun z => nomatch z) h
  | @frz a ob xs ea =>
    cases (show u = Value.ref a from rx)
    obtain ⟨_, _, _, n, _, h1⟩ := (show ObjOk X.prog X.w H s.heap a (.frz ob (.lst xs)) from I.hok a _ ea)
    exact PySem.W.kia_one PySem.W.kitx_list I.kIn ⟨_, h1, rfl⟩ e (fun z => nomatch z) h
  | @tup a xs ea =>
    cases (show u = Value.ref a from rx)
    obtain ⟨_, _, _, p⟩ := (show ObjOk X.prog X.w H s.heap a (.tup xs) from I.hok a _ ea)
    obtain ⟨o, h1, h2, _⟩ := p
    exact PySem.W.kia_one PySem.W.kitx_tuple I.kIn ⟨o, h1, h2⟩ e (fun z => nomatch z) h
  | @dK a kvs ea =>
    cases (show u = Value.ref a from rx)
    obtain ⟨_, _, vs, _, p⟩ := (show ObjOk X.prog X.w H s.heap a (.dK kvs) from I.hok a _ ea)
    obtain ⟨o, es, ep, h1, h2, _⟩ := p
    exact PySem.W.kia_one PySem.W.kitx_dict I.kIn ⟨o, h1, h2.1⟩ e (fun z => nomatch z) h
  | @dT a kvs ea =>
    cases (show u = Value.ref a from rx)
    obtain ⟨_, _, xs, _, o, es, ep, h1, h2, _⟩ := (show ObjOk X.prog X.w H s.heap a (.dT kvs) from I.hok a _ ea)
    exact PySem.W.kia_one PySem.W.kitx_dict I.kIn ⟨o, h1, h2.1⟩ e (fun z => nomatch z) h
  | @ins a C dx fs ea cl ha hn htk hm =>
    cases (show u = Value.ref a from rx)
    obtain ⟨mA, O, _⟩ := ins_get I.hok ea
    obtain ⟨od, J, _⟩ := O.look
    exact PySem.W.kia_one (PySem.W.kitx_own (cl.get _) cl.hd ha hn htk hm) I.kIn J e (fun z => nomatch z) h
end
end L2

namespace L2
open PySem PySem.Spec PyProof.Rows

/-! ### room -/
structure Room (k : Nat) (A : Around) : Prop where
  hd : A.handled = none
  gd : A.guards = some []
  dp : A.depth + 3 * k + 5 < recursionLimit
  un : A.units + 16 * k + 200 < cLine
theorem Room.mono {j k : Nat} {A : Around} (r : Room k A) (h : j ≤ k) : Room j A := ⟨r.hd, r.gd, by have := r.dp; omega, by have := r.un; omega⟩
theorem Room.deeper {k : Nat} {A : Around} (r : Room (k + 1) A) (env : Env) : Room k (A.deeper env) :=
  ⟨r.hd, r.gd, by have := r.dp; show A.depth + 1 + 3 * k + 5 < _; omega, by have := r.un; show A.units + 3 + 16 * k + 200 < _; omega⟩
theorem Room.depth {k : Nat} {A : Around} (r : Room k A) : A.depth < recursionLimit := by have := r.dp; omega
theorem Room.units0 {k : Nat} {A : Around} (r : Room k A) : A.units < cLine := by have := r.un; omega

/-! ### argument lists and displays -/
noncomputable def tNil : TA := fun _ H Q => Q [] H
noncomputable def tCons (ta : TE) (tr : TA) : TA := fun σ H Q => ta σ H fun x H1 => tr σ H1 fun xs H2 => Q (x :: xs) H2
section
variable {X : Cx} {e : Expr} {es : List Expr} {te : TE} {t : TA} {pos : Pos}
theorem pa_nil : PA X [] tNil := fun _ _ _ _ H Q I h => Calls.spliced_nil ⟨[], H, I, .nil, h⟩
theorem pa_cons (ha : PE X e te) (hr : PA X es t) (hs : starEach (e :: es) X.env = (false, eval e X.env) :: starEach es X.env := by rfl) : PA X (e :: es) (tCons te t) := by
  intro pos pins s σ H Q I h
  rw [hs]
  show wpAny _ _ (spliced ((false, eval e X.env) :: backTo pos (starEach es X.env))) _ _ s
  refine Calls.spliced_cons (thn (ha pins s σ H _ I h) fun u s1 ⟨x, H1, I1, r1, q1⟩ => ?_)
  exact thn (hr pos pins s1 σ H1 _ I1 q1) fun us s2 ⟨xs, H2, I2, r2, q2⟩ => ⟨x :: xs, H2, I2, .cons r1 r2, q2⟩

/-- a tuple, a list of written items -/
noncomputable def tTup (t : TA) : TE := fun σ H Q => t σ H fun xs H1 => xs.length ≤ sizeLine ∧ ∀ p, H1 p = none → Q (.ref p) (upd H1 p (.tup xs))
noncomputable def tLst (t : TA) : TE := fun σ H Q => t σ H fun xs H1 => xs.length ≤ sizeLine ∧ ∀ p, H1 p = none → Q (.ref p) (upd H1 p (.lst xs))
theorem pe_tup {x1} (h : PA X es t) : PE X (.Tuple es x1 pos) (tTup t) := by
  intro pins s σ H Q I hq
  refine wpAny_Tuple_spliced (thn (h pos pins s σ H _ I hq) fun us s1 ⟨xs, H1, I1, r, z, q⟩ => ⟨by rw [← r.length]; exact z, ?_⟩)
  have hf : H1 s1.heap.objs.size = none := I1.hok.fresh (Nat.le_refl _)
  refine ⟨.ref s1.heap.objs.size, upd H1 s1.heap.objs.size (.tup xs), I1.laid (t' := s1.toks) (fun b u e => Heap.get?_push_of_some _ e) (Nat.le_refl _) ?_, rfl, q _ hf⟩
  exact ⟨z, us, r, ⟨_, Heap.get?_push_size _ rfl, rfl, _, rfl⟩⟩
theorem pe_lst (h : PA X es t) : PE X (.List es pos) (tLst t) := by
  intro pins s σ H Q I hq
  refine wpAny_List_spliced (thn (h pos pins s σ H _ I hq) fun us s1 ⟨xs, H1, I1, r, z, q⟩ => ⟨by rw [← r.length]; exact z, ?_⟩)
  have hf : H1 s1.heap.objs.size = none := I1.hok.fresh (Nat.le_refl _)
  refine ⟨.ref s1.heap.objs.size, upd H1 s1.heap.objs.size (.lst xs), I1.laid (t' := s1.toks) (fun b u e => Heap.get?_push_of_some _ e) (Nat.le_refl _) ?_, rfl, q _ hf⟩
  exact ⟨z, us, 0, r, Heap.get?_push_size _ rfl⟩
end

/-! ### what a def promises -/
/-- a def's promise: the bound arguments in the parameters' order, the heap, the wanted end, the wanted exception -/
noncomputable abbrev Sp := List V → Hp → VK → XK → Prop
/-- how an exception lies behind a call (file 08 gives it): the callers' frames, abstract heap and state ahead of the call, the wish, the exception, the state -/
noncomputable abbrev CXT := List Env → Hp → Shared → XK → Value → Shared → Prop

/-- the state at a call -/
structure Env0 (P : Program) (w : World) (K : PySem.W.Frag) (mg : Str → Option Value) (base : Heap) (A : Around) (outer : List Env) (s : Shared) (H : Hp) : Prop where
  frames : A.frames = some outer
  mod : Mod K mg base
  bs : ∀ b o, base.get? b = some o → s.heap.get? b = some o ∧ H b = none
  bsz : base.objs.size ≤ s.heap.objs.size
  funs : s.heap.FunFrames base outer
  frf : ∀ b ∈ frs outer, H b = none
  hok : HOk P w H s.heap
  bare : AllBare s.gens
/-- a call's end -/
noncomputable def CE (outer : List Env) (P : Program) (w : World) (H : Hp) (s : Shared) (Q : VK) (u : Value) (s' : Shared) : Prop :=
  ∃ v H', s'.os = s.os ∧ AllBare s'.gens ∧ Un (frs outer) [] H H' s.heap s'.heap ∧ HOk P w H' s'.heap ∧ RelV v u ∧ Q v H'
noncomputable def CR (CX : CXT) (outer : List Env) (P : Program) (w : World) (H : Hp) (s : Shared) (Q : VK) (E : XK) (r : Result) (s' : Shared) : Prop :=
  match r with
  | .ok (.ret u) => CE outer P w H s Q u s'
  | .ok _ => False
  | .error e => CX outer H s E e s'
structure FnOk (P : Program) (w : World) (K : PySem.W.Frag) (mg : Str → Option Value) (base : Heap) (CX : CXT) (k : Nat) (f : Addr) (fd : FuncData) (ps : List Str) (sp : Sp) : Prop where
  len : ∀ vs H Q E, sp vs H Q E → vs.length = ps.length
  run : ∀ (A : Around) (outer : List Env) (s : Shared) (H : Hp) (args : Args) (us : List Value) (vs : List V) (Q : VK) (E : XK), Room k A → Env0 P w K mg base A outer s H → BindsTo s fd args (ps.zip us) → Vals vs us → sp vs H Q E →
    codeAny (model P w) A (.call (.ref f) args) (CR CX outer P w H s Q E) s


section
variable {X : Cx} {pins : List (Addr × Obj)} {σ : St} {H : Hp} {s s' : Shared}
/-- from a body: what a callee wants -/
theorem Inv.env0 (I : Inv X pins σ H s) : Env0 X.prog X.w X.K X.mg X.base X.A X.stack s H :=
  ⟨I.ok.frames, I.ok.mod, I.bs, Nat.le_trans I.ok.bsz I.sz, I.stack, I.stkFree, I.hok, I.bare⟩
/-- behind a call -/
theorem Inv.after {Q : VK} {u : Value} (I : Inv X pins σ H s) (h : CE X.stack X.prog X.w H s Q u s') : EP X pins σ Q u s' := by
  obtain ⟨v, H', os, bare, un, hok, r, q⟩ := h
  obtain ⟨hh, g, d, t, os'⟩ := s'
  obtain rfl : os' = s.os := os
  exact ⟨v, H', I.call (h' := hh) (g' := g) (d' := d) (t' := t) (ch := []) un hok bare (fun b z => absurd z (by simp)), r, q⟩
end

/-! ### calls -/
/-- f(..): the written arguments, then the defaults dvs; E: what is wanted of an exception -/
noncomputable def tCall (sp : Sp) (dvs : List V) (E : XK) (t : TA) : TE := fun σ H Q => t σ H fun vs H1 => sp (vs ++ dvs) H1 Q E
/-- o.m(..) of an instance of the class at C -/
noncomputable def tMeth (C : Addr) (m : Str) (sp : Sp) (dvs : List V) (E : XK) (ta : TE) (t : TA) : TE := fun σ H Q => ta σ H fun x H1 => ∃ a dx fs, x = .ref a ∧ H1 a = some (.ins C dx fs) ∧ fs.lookup m = none ∧
  t σ H1 fun vs H2 => sp (x :: (vs ++ dvs)) H2 Q E
/-- C(..): a new instance and its dict, then __init__ -/
noncomputable def tMake (C : Addr) (sp : Sp) (dvs : List V) (E : XK) (t : TA) : TE := fun σ H Q => t σ H fun vs H1 => ∀ x dx, H1 x = none → H1 dx = none → dx ≠ x →
  sp (.ref x :: (vs ++ dvs)) (upd (upd H1 dx (.own x)) x (.ins C dx [])) (fun v H2 => v = .non ∧ Q (.ref x) H2) E

/-- how the parameters are bound: us the positional arguments, kw the keywords' values by name, ds the defaults that fill up -/
noncomputable def Binds (K : PySem.W.Frag) (fd : FuncData) (ps : List Str) (ds : List Value) : Prop :=
  ∀ (s : Shared) (us : List Value), K.In s.heap → (us ++ ds).length = ps.length → BindsTo s fd ⟨us, []⟩ (ps.zip (us ++ ds))
/-- every parameter is given -/
theorem Binds.all {K : PySem.W.Frag} {fd : FuncData} {ps : List Str} (h : ∀ us : List Value, us.length = ps.length → bindArgs fd ⟨us, []⟩ = pure (ps.zip us)) : Binds K fd ps [] := fun s us _ hl => by
  rw [List.append_nil] at hl ⊢
  exact .of_eq (h us hl)

/-- an exception of a callee reaches what this body wants of exceptions -/
noncomputable def Passes (CX : CXT) (X : Cx) (E : XK) : Prop := ∀ (pins : List (Addr × Obj)) (σ : St) (H : Hp) (s : Shared) (e : Value) (s' : Shared), Inv X pins σ H s → CX X.stack H s E e s' → X.xe e s'

section
variable {X : Cx} {CX : CXT} {k : Nat} {f C : Addr} {fd : FuncData} {ps : List Str} {sp : Sp} {dvs : List V} {ds : List Value} {E : XK} {x m : Str} {p pos apos : Pos} {e o : Expr} {es : List Expr} {ta : TE} {t : TA}

/-- the callee runs -/
theorem run_fn {pins : List (Addr × Obj)} {σ : St} {H : Hp} {s : Shared} {Q : VK} {us : List Value} {vs : List V} (F : FnOk X.prog X.w X.K X.mg X.base CX k f fd ps sp) (hr : Room k X.A) (hb : Binds X.K fd ps ds) (hd : Vals dvs ds) (hx : Passes CX X E)
    (I : Inv X pins σ H s) (r : Vals vs us) (h : sp (vs ++ dvs) H Q E) : wpAny (model X.prog X.w) X.A (call (.ref f) us) (EP X pins σ Q) X.xe s := by
  have r2 : Vals (vs ++ dvs) (us ++ ds) := r.append hd
  have hl : (us ++ ds).length = ps.length := by rw [← r2.length]; exact F.len _ _ _ _ h
  refine wpAny_call (codeAny_mono (F.run X.A X.stack s H ⟨us, []⟩ (us ++ ds) (vs ++ dvs) Q E hr I.env0 (hb s us I.kIn hl) r2 h) fun r s' hq => ?_)
  cases r with
  | error e => exact hx pins σ H s e s' I hq
  | ok fl =>
    cases fl with
    | ret u => exact I.after hq
    | next => exact False.elim hq
    | brk => exact False.elim hq
    | cont => exact False.elim hq

theorem pe_call (F : FnOk X.prog X.w X.K X.mg X.base CX k f fd ps sp) (hr : Room k X.A) (hg : Gl X x) (hm : X.mg x = some (.ref f)) (hk : PySem.W.keepIn X.K (.ref f) = true) (hb : Binds X.K fd ps ds) (hd : Vals dvs ds) (hx : Passes CX X E)
    (ha : PA X (e :: es) t) (hdb : (x == ("__debug__" : Str)) = false := by decide) (he : starEach (e :: es) X.env = (false, eval e X.env) :: starEach es X.env := by rfl) (hpl : (backTo pos (starEach es X.env)).any (·.1) = false := by rfl) :
    PE X (.Call (.Name x p) (e :: es) [] pos) (tCall sp dvs E t) := by
  intro pins s σ H Q I h
  refine wpAny_Call_Name_kw (ld_glob I hg hm ?_ hdb)
  refine PySem.W.callWith_K (h₀ := X.base) I.ok.mod.kin hk (thn (ha pos pins s σ H _ I h) fun us s1 ⟨vs, H1, I1, r, q⟩ => ⟨I1.kIn, ?_⟩) he hpl
  exact run_fn F hr hb hd hx I1 r q
theorem pe_call0 (F : FnOk X.prog X.w X.K X.mg X.base CX k f fd ps sp) (hr : Room k X.A) (hg : Gl X x) (hm : X.mg x = some (.ref f)) (hk : PySem.W.keepIn X.K (.ref f) = true) (hb : Binds X.K fd ps ds) (hd : Vals dvs ds) (hx : Passes CX X E)
    (hdb : (x == ("__debug__" : Str)) = false := by decide) : PE X (.Call (.Name x p) [] [] pos) (tCall sp dvs E tNil) := by
  intro pins s σ H Q I h
  refine wpAny_Call_Name_kw (ld_glob I hg hm ?_ hdb)
  exact PySem.W.callWith_K0 I.kIn hk (run_fn (us := []) F hr hb hd hx I .nil h)


/-- what a class must have to be made -/
structure Mk (K : PySem.W.Frag) (C f : Addr) : Prop where
  makes : PySem.W.makesIn K C = true
  init : PySem.W.findIn K (.ref C) "__init__" = some (some (.ref f))
  fn : PySem.W.isFn K (.ref f) = true
  kp : PySem.W.keepIn K (.ref C) = true

end

/-! ### keywords -/
/-- the values of the keywords, from the left -/
noncomputable def PK (X : Cx) (kws : List Keyword) (t : TA) : Prop :=
  ∀ (pos : Pos) (pins : List (Addr × Obj)) (s : Shared) (σ : St) (H : Hp) (Q : List V → Hp → Prop), Inv X pins σ H s → t σ H Q → wpAny (model X.prog X.w) X.A (evalAll ((backToKw pos (keywordEach kws X.env)).map (·.2))) (AP X pins σ Q) X.xe s
section
variable {X : Cx} {CX : CXT} {k : Nat} {f C : Addr} {fd : FuncData} {ps ks : List Str} {sp : Sp} {E : XK} {x m : Str} {p pos apos kpos : Pos} {e o : Expr} {es : List Expr} {kws : List Keyword} {te ta : TE} {t tk : TA} {nm : Option Str}

/-- how a call with keywords binds: g puts the positional values us and the keywords' values ws (names ks) in the parameters' order, defaults among them -/
structure KBinds (K : PySem.W.Frag) (fd : FuncData) (ps ks : List Str) (g : List Value → List Value → List Value) (gV : List V → List V → List V) : Prop where
  to : ∀ (s : Shared) (us ws : List Value), K.In s.heap → (g us ws).length = ps.length → BindsTo s fd ⟨us, ks.zip ws⟩ (ps.zip (g us ws))
  rel : ∀ {vs : List V} {us : List Value} {zs : List V} {ws : List Value}, Vals vs us → Vals zs ws → Vals (gV vs zs) (g us ws)
noncomputable def tCallK (sp : Sp) (gV : List V → List V → List V) (E : XK) (t tk : TA) : TE := fun σ H Q => t σ H fun vs H1 => tk σ H1 fun zs H2 => sp (gV vs zs) H2 Q E
variable {g : List Value → List Value → List Value} {gV : List V → List V → List V}
end

/-! ### a def's body keeps its promise -/
/-- names: the parameters first -/
structure FnScope (N P : List Str) (sc : Scope) : Prop where
  kind : sc.kind = .function
  co : sc.isCoroutine = false
  gen : sc.isGenerator = false
  nd : N.Nodup
  pre : N.take P.length = P
  par : ∀ x ∈ P, sc.names.lookup x = some .local ∨ sc.names.lookup x = some .cell
  nofree : ∀ y ∈ sc.names, y.2 ≠ .free

theorem bindL_out {kindOf : Str → Option NameKind} {x : Str} : ∀ {binds : List (Str × Value)} {m : Str → Option Value}, (∀ v, (x, v) ∉ binds) → bindL kindOf binds m x = m x
  | [], _, _ => rfl
  | (n, v) :: r, m, h => by
    unfold bindL
    rw [bindL_out fun w hw => h w (List.mem_cons_of_mem _ hw)]
    split
    · have : x ≠ n := by rintro rfl; exact h v List.mem_cons_self
      simp [this]
    · rfl
theorem bindC_out {kindOf : Str → Option NameKind} {x : Str} : ∀ {binds : List (Str × Value)} {m : Str → Option Value}, (∀ v, (x, v) ∉ binds) → bindC kindOf binds m x = m x
  | [], _, _ => rfl
  | (n, v) :: r, m, h => by
    unfold bindC
    rw [bindC_out fun w hw => h w (List.mem_cons_of_mem _ hw)]
    split
    · rfl
    · have : x ≠ n := by rintro rfl; exact h v List.mem_cons_self
      simp [this]
theorem bindL_get {kindOf : Str → Option NameKind} {x : Str} {v : Value} : ∀ {P : List Str} {vs : List Value} {i : Nat} {m : Str → Option Value}, P.Nodup → P[i]? = some x → vs[i]? = some v → kindOf x = some .local →
    bindL kindOf (P.zip vs) m x = some v
  | [], _, _, _, _, h, _, _ => by simp at h
  | _ :: _, [], _, _, _, _, h, _ => by simp at h
  | p :: P, w :: vs, 0, m, nd, h1, h2, hk => by
    simp at h1 h2; subst h1; subst h2
    show bindL kindOf ((p, w) :: P.zip vs) m p = _
    unfold bindL
    rw [bindL_out fun v hv => (List.nodup_cons.mp nd).1 (List.of_mem_zip hv).1, if_pos hk]
    simp
  | p :: P, w :: vs, i + 1, m, nd, h1, h2, hk => by
    show bindL kindOf ((p, w) :: P.zip vs) m x = _
    unfold bindL
    exact bindL_get (i := i) (List.nodup_cons.mp nd).2 (by simpa using h1) (by simpa using h2) hk
theorem bindC_get {kindOf : Str → Option NameKind} {x : Str} {v : Value} : ∀ {P : List Str} {vs : List Value} {i : Nat} {m : Str → Option Value}, P.Nodup → P[i]? = some x → vs[i]? = some v → kindOf x ≠ some .local →
    bindC kindOf (P.zip vs) m x = some v
  | [], _, _, _, _, h, _, _ => by simp at h
  | _ :: _, [], _, _, _, _, h, _ => by simp at h
  | p :: P, w :: vs, 0, m, nd, h1, h2, hk => by
    simp at h1 h2; subst h1; subst h2
    show bindC kindOf ((p, w) :: P.zip vs) m p = _
    unfold bindC
    rw [bindC_out fun v hv => (List.nodup_cons.mp nd).1 (List.of_mem_zip hv).1, if_neg hk]
    simp
  | p :: P, w :: vs, i + 1, m, nd, h1, h2, hk => by
    show bindC kindOf ((p, w) :: P.zip vs) m x = _
    unfold bindC
    exact bindC_get (i := i) (List.nodup_cons.mp nd).2 (by simpa using h1) (by simpa using h2) hk

/-- the names' values at the entry -/
noncomputable def start (N : List Str) (vs : List V) : St := vs.map some ++ List.replicate (N.length - vs.length) none

/-- the context of a def's body, at its entry; an exception leaves the frame, then lies as CX says -/
noncomputable def cxOf (CX : CXT) (P : Program) (w : World) (K : PySem.W.Frag) (mg : Str → Option Value) (base : Heap) (N : List Str) (qual : Str) (scope : Scope) (f : Addr) (cd : Value) (A : Around) (outer : List Env) (s : Shared) (H : Hp) (E : XK) : Cx where
  prog := P
  w := w
  K := K
  mg := mg
  base := base
  A := A.deeper (envOfC qual scope s.heap.objs.size f cd)
  N := N
  s₀ := s
  H₀ := H
  env := envOfC qual scope s.heap.objs.size f cd
  outer := outer
  stack := envOfC qual scope s.heap.objs.size f cd :: outer
  ex := []
  calm := true
  fn := fun _ => true
  pn := []
  xe := fun e s' => wpAny (model P w) (A.deeper (envOfC qual scope s.heap.objs.size f cd)) (leaving (envOfC qual scope s.heap.objs.size f cd) e) (fun _ s'' => CX outer H s E e s'') (fun e' s'' => CX outer H s E e' s'') s'

theorem cell_has {sc : Scope} {n : Nat} {x : Str} (h : sc.names.lookup x = some .cell) : ∃ c, (cellsFrom n sc.names []).lookup x = some c := by
  have q := PySem.W.cellsFrom_some sc.names n [] (.inl h)
  exact Option.isSome_iff_exists.mp q

theorem inv_start {CX : CXT} {P : Program} {w : World} {K : PySem.W.Frag} {mg : Str → Option Value} {base : Heap} {N ps : List Str} {qual : Str} {scope : Scope} {f : Addr} {cd : Value} {A : Around} {outer : List Env} {s s1 : Shared} {H : Hp} {E : XK} {us : List Value} {vs : List V}
    (S : FnScope N ps scope) (hd : A.handled = none) (e0 : Env0 P w K mg base A outer s H) (hl : vs.length = ps.length) (r : Vals vs us)
    (x : InCallC s s.heap.objs.size (bindL (envOfC qual scope s.heap.objs.size f cd).kindOf (ps.zip us) fun _ => none) (cellsFrom (s.heap.objs.size + 1) scope.names []) (bindC (envOfC qual scope s.heap.objs.size f cd).kindOf (ps.zip us) fun _ => none) s1) :
    Inv (cxOf CX P w K mg base N qual scope f cd A outer s H E) [] (start N vs) H s1 := by
  have hpl : ps.length ≤ N.length := by have := congrArg List.length S.pre; rw [List.length_take] at this; omega
  obtain ⟨h1, tk, rfl, hk⟩ := x.done
  have noA : ∀ b : Addr, b ∉ (cxOf CX P w K mg base N qual scope f cd A outer s H E).ex := fun b z => absurd (show b ∈ ([] : List Addr) from z) (by simp)
  refine ⟨⟨e0.mod, S.kind, rfl, rfl, Nat.le_refl _, fun y z c h1 h2 => ?_, fun y hy => ?_, fun y c _ h => ?_, fun _ => hd, Around.frames_deeper e0.frames, .inr ⟨rfl, rfl⟩, fun b z => absurd z (noA b), e0.bs, e0.bsz, fun b _ _ => noA b, fun b z => absurd z (noA b), e0.funs, e0.frf⟩,
    rfl, e0.bare, Un.kept hk, ⟨_, x.toInCall.ns, fun i y v h1 h2 h3 => ?_⟩, fun y c h => ⟨_, x.cell y c h⟩, e0.hok.fresh (Nat.le_refl _), fun y c h => ?_, fun p hp => absurd (show p ∈ ([] : List (Addr × Obj)) from hp) (by simp), e0.hok.kept hk, ?_⟩
  · exact name_of_addr x.apart (PySem.mem_of_lookup h1) (PySem.mem_of_lookup h2)
  · have hy : scope.names.lookup y = some .cell ∨ scope.names.lookup y = some .free := hy
    rcases hy with hy | hy
    · exact cell_has hy
    · exact absurd rfl (S.nofree _ (PySem.mem_of_lookup hy))
  · exact Nat.le_of_lt (x.above y c (PySem.mem_of_lookup h))
  · have hi : i < vs.length := by
      unfold start at h2
      by_cases hi : i < vs.length
      · exact hi
      · rw [List.getElem?_append_right (by simpa using hi)] at h2
        rw [List.getElem?_replicate] at h2
        split at h2 <;> cases h2
    have ha : vs[i]? = some v := by
      unfold start at h2
      rw [List.getElem?_append_left (by simpa using hi), List.getElem?_map] at h2
      cases e : vs[i]? with
      | none => rw [e] at h2; cases h2
      | some a => rw [e] at h2; cases h2; rfl
    obtain ⟨u, hu, rv⟩ := r.get ha
    have hp : ps[i]? = some y := by
      rw [← S.pre, List.getElem?_take_of_lt (by omega)]; exact h1
    have ndP : ps.Nodup := by rw [← S.pre]; exact S.nd.sublist (List.take_sublist _ _)
    refine ⟨u, rv, ?_⟩
    rcases S.par y (List.mem_of_getElem? hp) with k | k
    · exact .inl ⟨k, bindL_get ndP hp hu k⟩
    · obtain ⟨c, e⟩ := cell_has (n := s.heap.objs.size + 1) k
      refine .inr ⟨.inl k, c, e, ?_⟩
      have q := x.cell y c e
      rw [bindC_get ndP hp hu (by show scope.names.lookup y ≠ _; rw [k]; decide)] at q
      exact q
  · exact e0.hok.fresh (Nat.le_of_lt (x.above y c (PySem.mem_of_lookup h)))
  · unfold start
    show _ = N.length
    rw [List.length_append, List.length_map, List.length_replicate]
    omega

/-- THE RULE: a def (or a method) of the text, by its body. The body's reading t is chosen for each entry; it is run at the parameters' values -/
theorem fn_of {CX : CXT} {P : Program} {w : World} {K : PySem.W.Frag} {mg : Str → Option Value} {base : Heap} {k : Nat} {f : Addr} {name qual : Str} {params : Arguments} {body : List Stmt} {scope : Scope} {dV kV doc pm cdv ct oc : Value} {an od : Option Addr}
    {osl : Array (Option Value)} {N ps : List Str} {sp : Sp} (lk : K.lookup f = some ⟨oc, od, .func (PySem.W.fnOf name qual params body scope dV kV doc pm an cdv ct), osl⟩) (hcd : PySem.W.codeIn K cdv qual = true) (S : FnScope N ps scope)
    (len : ∀ vs H Q E, sp vs H Q E → vs.length = ps.length)
    (hbody : ∀ (A : Around) (outer : List Env) (s : Shared) (H : Hp) (vs : List V) (Q : VK) (E : XK), Room k (A.deeper (envOfC qual scope s.heap.objs.size f cdv)) → sp vs H Q E →
      ∃ t, PSs (cxOf CX P w K mg base N qual scope f cdv A outer s H E) body t ∧ t { nx := fun _ H' => Q .non H', rt := Q } (start N vs) H) :
    FnOk P w K mg base CX (k + 1) f (PySem.W.fnOf name qual params body scope dV kV doc pm an cdv ct) ps sp := by
  refine ⟨len, fun A outer s H args us vs Q E hr e0 hb r hsp => ?_⟩
  have hl := len _ _ _ _ hsp
  have KX : K.In s.heap := e0.mod.kin.keeps fun b o e => (e0.bs b o e).1
  have lim : s.heap.NoLimit := e0.mod.nolimit.keeps fun b o e => (e0.bs b o e).1
  have hkind : ∀ y ∈ ps.zip us, scope.names.lookup y.1 = some .local ∨ (scope.names.lookup y.1 = some .cell ∧ ((cellsFrom (s.heap.objs.size + 1) scope.names []).lookup y.1).isSome = true) := fun ⟨n, v⟩ hy => by
    rcases S.par n (List.of_mem_zip hy).1 with q | q
    · exact .inl q
    · exact .inr ⟨q, PySem.W.cellsFrom_some _ _ _ (.inl q)⟩
  refine codeAny_call_function hr.depth (KX _ _ lk) rfl S.co S.gen rfl (PySem.W.codeRec_of KX hcd) (hb _ _ _ _ ?_)
  refine wpAny_newFunctionEnv_cells S.kind hkind fun env he s1 x => ?_
  subst he
  refine ⟨lim.keeps x.toInCall.keep, codeAny_func ?_⟩
  obtain ⟨t, ht, hq⟩ := hbody A outer s H vs Q E (hr.deeper _) hsp
  have I : Inv (cxOf CX P w K mg base N qual scope f cdv A outer s H E) [] (start N vs) H s1 := inv_start S hr.hd e0 hl r x
  refine wpAny_mono (ht [] s1 (start N vs) H _ I hq) (fun fl s' hs => ?_) fun e s' hs => hs
  have fin : ∀ {σ' : St} {H' : Hp} {v : V} {u : Value}, Inv (cxOf CX P w K mg base N qual scope f cdv A outer s H E) [] σ' H' s' → RelV v u → Q v H' → CE outer P w H s Q u s' :=
    fun {σ' H' v u} J rv q => ⟨v, H', J.os, J.bare, J.base, J.hok, rv, q⟩
  cases fl with
  | ret u =>
    obtain ⟨v, σ', H', J, rv, q⟩ := hs
    exact fin J rv q
  | next =>
    obtain ⟨σ', H', J, q⟩ := hs
    exact fin (v := V.non) (u := Value.none) J rfl q
  | brk =>
    obtain ⟨_, _, _, q⟩ := hs
    exact False.elim q
  | cont =>
    obtain ⟨_, _, _, q⟩ := hs
    exact False.elim q
end L2

namespace L2
open PySem PySem.Spec PyProof.Rows
section
variable {X : Cx} {x : Str} {p pos : Pos} {e : Expr} {es : List Expr} {t : TA} {id T : String} {r : List V → Hp → VK → Prop}

noncomputable def tCB (r : List V → Hp → VK → Prop) (t : TA) : TE := fun σ H Q => t σ H fun vs H1 => r vs H1 Q
/-- f(e, ..), f a built-in function -/
theorem pe_callB (hc : CallR X (.builtin id) r) (hg : Gl X x) (hm : X.mg x = none) (hv : bootBuiltins x = some (.builtin id)) (ha : PA X (e :: es) t) (hn : x ≠ "__name__" := by decide) (hdb : (x == ("__debug__" : Str)) = false := by decide)
    (he : starEach (e :: es) X.env = (false, eval e X.env) :: starEach es X.env := by rfl) (hpl : (backTo pos (starEach es X.env)).any (·.1) = false := by rfl) : PE X (.Call (.Name x p) (e :: es) [] pos) (tCB r t) := by
  intro pins s σ H Q I h
  refine wpAny_Call_Name_kw (ld_blt I hg hm hv ?_ hn hdb)
  exact PyProof.Rows.callWith_builtin1 (thn (ha pos pins s σ H _ I h) fun us s1 ⟨vs, H1, I1, r1, q1⟩ => hc pins s1 σ H1 vs us Q I1 r1 q1) he hpl
/-- T(e, ..), T a built-in type -/
theorem pe_callTy (hc : CallR X (.type T) r) (hg : Gl X x) (hm : X.mg x = none) (hv : bootBuiltins x = some (.type T)) (ha : PA X (e :: es) t) (hn : x ≠ "__name__" := by decide) (hdb : (x == ("__debug__" : Str)) = false := by decide)
    (he : starEach (e :: es) X.env = (false, eval e X.env) :: starEach es X.env := by rfl) (hpl : (backTo pos (starEach es X.env)).any (·.1) = false := by rfl) : PE X (.Call (.Name x p) (e :: es) [] pos) (tCB r t) := by
  intro pins s σ H Q I h
  refine wpAny_Call_Name_kw (ld_blt I hg hm hv ?_ hn hdb)
  exact PyProof.Rows.callWith_type1 (thn (ha pos pins s σ H _ I h) fun us s1 ⟨vs, H1, I1, r1, q1⟩ => hc pins s1 σ H1 vs us Q I1 r1 q1) he hpl
end
end L2

namespace HT
open PySem PyProof.Rows

/-- t < u of tuples of ints -/
noncomputable def lexLt : List Int → List Int → Bool
  | [], [] => false
  | [], _ :: _ => true
  | _ :: _, [] => false
  | x :: xs, y :: ys => if x = y then lexLt xs ys else decide (x < y)


section
open PySem.SeqAt
open PySem.AutoSeq1 (wpAny_loadPart')
open PySem.MeetsSeq PySem.MeetsSeq2 PySem.MeetsSeq3

end

section
variable {prog : Program} {w : World} {A : Around} {E : Value → Shared → Prop} {s : Shared}


/-- t + u, t not empty -/
theorem cat_tup {t b : Addr} {vs ws : List Value} {Q : Value → Shared → Prop} (ht : IsTup s.heap t vs.toArray) (hb : IsTup s.heap b ws.toArray) (hv : vs ≠ [])
    (h1 : ws = [] → Q (.ref t) s) (h2 : ws ≠ [] → Q (.ref s.heap.objs.size) { s with heap := s.heap.push { cls := .type "tuple", data := .seq (vs ++ ws).toArray } })
    (hsz : vs.length + ws.length ≤ sizeLine) : wpAny (model prog w) A (binaryOp .Add (.ref t) (.ref b)) Q E s := by
  obtain ⟨⟨cls, dd, data, sl⟩, ho, hc, n, hd⟩ := id ht
  obtain ⟨⟨cls2, dd2, data2, sl2⟩, ho2, hc2, n2, hd2⟩ := id hb
  simp only at hc hd hc2 hd2
  subst hc hd hc2 hd2
  have e : vs.toArray ++ ws.toArray = (vs ++ ws).toArray := by simp
  by_cases hw : ws = []
  · exact concat_meets ⟨_, ho, rfl⟩ ⟨_, ho2, rfl⟩ noFill_tuple_add seq_tuple_add PySem.F.slot_tuple_add PySem.F.entry_tuple_add (PySem.F.args_tuple_add_2 _ _)
      (tuple_addW1 t b vs.toArray ws.toArray n n2 dd dd2 sl sl2 (by simpa using hv) (by simp [hw])) ⟨ho, ho2, h1 hw⟩
  · refine concat_meets ⟨_, ho, rfl⟩ ⟨_, ho2, rfl⟩ noFill_tuple_add seq_tuple_add PySem.F.slot_tuple_add PySem.F.entry_tuple_add (PySem.F.args_tuple_add_2 _ _)
      (tuple_addW2 t b vs.toArray ws.toArray n n2 dd dd2 sl sl2 (by simpa using hv) (by simpa using hw) (by rw [List.size_toArray, List.size_toArray]; exact hsz)) ⟨ho, ho2, ?_⟩
    rw [e]
    exact h2 hw

/-! ### t[a:b], not the whole -/
/-- a slice's bound as a place among n (d where it is left out) -/
noncomputable def sIx (n d : Nat) : Option Int → Nat
  | none => d
  | some v => if v < 0 then (v + (n : Int)).toNat else min v.toNat n
theorem sIx_nat (n d k : Nat) : sIx n d (some (k : Int)) = min k n := by
  show (if (k : Int) < 0 then ((k : Int) + (n : Int)).toNat else min (k : Int).toNat n) = min k n
  rw [if_neg (by omega), Int.toNat_natCast]
theorem sIx_le (n d : Nat) (hd : d ≤ n) (o : Option Int) : sIx n d o ≤ n := by
  cases o with
  | none => exact hd
  | some v =>
    show (if v < 0 then (v + (n : Int)).toNat else min v.toNat n) ≤ n
    by_cases hv : v < 0
    · rw [if_pos hv]; omega
    · rw [if_neg hv]; exact Nat.min_le_right _ _
theorem clip_eq (v : Int) (n d : Nat) : (if v < 0 then max (v + (n : Int)) 0 else min v (n : Int)) = ((sIx n d (some v) : Nat) : Int) := by
  show (if v < 0 then max (v + (n : Int)) 0 else min v (n : Int)) = (((if v < 0 then (v + (n : Int)).toNat else min v.toNat n) : Nat) : Int)
  by_cases hv : v < 0
  · simp only [if_pos hv]; omega
  · simp only [if_neg hv]; omega
theorem adjust_gen (lo hi : Option Int) (n : Nat) : Builtin.Slice.sliceAdjust lo hi 1 (n : Int) = (((sIx n 0 lo : Nat) : Int), ((sIx n n hi : Nat) : Int)) := by
  have h1 : ¬ ((1 : Int) < 0) := by omega
  unfold Builtin.Slice.sliceAdjust
  simp only [h1, if_false]
  refine Prod.ext ?_ ?_
  · cases lo with
    | none => rfl
    | some v => exact clip_eq v n 0
  · cases hi with
    | none => rfl
    | some v => exact clip_eq v n n
theorem places_gen (i j : Nat) : Builtin.Slice.slicePlaces (i : Int) (j : Int) 1 = j - i := by
  unfold Builtin.Slice.slicePlaces
  have h1 : (1 : Int) > 0 := by omega
  simp only [h1, if_true, Int.ediv_one]
  split <;> omega
theorem slicePart_ {v : Value} {o : Option Int} {Q : Option Int → Shared → Prop} (p : IsPart v o) (h : Q o s) : wpAny (model prog w) A (Builtin.Slice.slicePartIndex v) Q E s := by
  cases p with
  | none => exact slicePart_none h
  | int i t => exact slicePart_int h
theorem sliceApplied_gen {sl : Addr} {vl vu : Value} {lo hi : Option Int} {n : Nat} {Q : Int × Int × Nat → Shared → Prop} (hs : s.heap.IsSliceOf sl vl vu .none) (pl : IsPart vl lo) (pu : IsPart vu hi)
    (h : Q (((sIx n 0 lo : Nat) : Int), 1, sIx n n hi - sIx n 0 lo) s) : wpAny (model prog w) A (Builtin.Slice.sliceApplied (.ref sl) (pure (n : Int))) Q E s := by
  obtain ⟨os, hos, hcs, hds⟩ := id hs
  unfold Builtin.Slice.sliceApplied Builtin.Slice.sliceFields
  refine wpAny_bind (wpAny_bind (wpAny_field hos hds (x := vl) rfl (wpAny_bind (wpAny_field hos hds (x := vu) rfl (wpAny_bind (wpAny_field hos hds (x := .none) rfl (wpAny_pure ?_)))))))
  refine wpAny_bind (slicePart_none ?_)
  show wpAny _ _ (if ((1 : Int) == 0) = true then _ else _) _ _ s
  rw [if_neg (by decide)]
  refine wpAny_bind (slicePart_ pl (wpAny_bind (slicePart_ pu (wpAny_bind (wpAny_pure ?_)))))
  show wpAny _ _ (match Builtin.Slice.sliceAdjust lo hi 1 (n : Int) with | (lo, hi) => pure (lo, (1 : Int), Builtin.Slice.slicePlaces lo hi 1)) _ _ s
  rw [adjust_gen lo hi n]
  show wpAny _ _ (pure (((sIx n 0 lo : Nat) : Int), (1 : Int), Builtin.Slice.slicePlaces ((sIx n 0 lo : Nat) : Int) ((sIx n n hi : Nat) : Int) 1)) _ _ s
  rw [places_gen]
  exact wpAny_pure h
theorem pick_gen (xs : Array Value) (i k : Nat) : ((List.range k).filterMap fun (m : Nat) => xs[((i : Int) + (m : Int) * 1).toNat]?).toArray = ((xs.toList.drop i).take k).toArray := by
  have e : (fun (m : Nat) => xs[((i : Int) + (m : Int) * 1).toNat]?) = fun m => xs[i + m]? := by
    funext m
    have : ((i : Int) + (m : Int) * 1).toNat = i + m := by omega
    rw [this]
  rw [e]
  have := pick_run xs i k
  rw [List.filterMap_map] at this
  have e2 : ((fun x => xs[x]?) ∘ fun x => i + x) = fun m => xs[i + m]? := rfl
  rw [e2] at this
  rw [this]

theorem getItem_tuple_cut {t sl : Addr} {items : Array Value} {vl vu : Value} {lo hi : Option Int} {Q : Value → Shared → Prop} (ht : IsTup s.heap t items) (hs : s.heap.IsSliceOf sl vl vu .none) (pl : IsPart vl lo) (pu : IsPart vu hi)
    (hw : ¬ (sIx items.size 0 lo = 0 ∧ sIx items.size items.size hi = items.size))
    (h : Q (.ref s.heap.objs.size) { s with heap := s.heap.push { cls := .type "tuple", data := .seq ((items.toList.drop (sIx items.size 0 lo)).take (sIx items.size items.size hi - sIx items.size 0 lo)).toArray } })
    (hsz : items.size ≤ sizeLine) : wpAny (model prog w) A (getItem (.ref t) (.ref sl)) Q E s := by
  have htake : sizeOk (.seq ((items.toList.drop (sIx items.size 0 lo)).take (sIx items.size items.size hi - sIx items.size 0 lo)).toArray) := by
    show ((items.toList.drop (sIx items.size 0 lo)).take (sIx items.size items.size hi - sIx items.size 0 lo)).toArray.size ≤ sizeLine
    rw [List.size_toArray, List.length_take, List.length_drop, Array.length_toList]
    omega
  have hj : sIx items.size items.size hi ≤ items.size := sIx_le _ _ (Nat.le_refl _) hi
  obtain ⟨os, hos, hcs, hds⟩ := id hs
  have hTs : s.TypeIs (.ref sl) "slice" := ⟨os, hos, hcs⟩
  unfold getItem
  try with_reducible refine wpAny_holding ?_
  first | refine wpAny_bind (wpAny_pure ?_) | skip
  refine wpAny_bind (wpAny_sequenceKey ht.typeIs (by decide) ?_)
  refine wpAny_bind (wpAny_callSpecial?_slot (name := Str.ofString "__getitem__") ht.typeIs PyProof.Rows.slot_tuple_getitem
    (wpAny_call_entry PyProof.Rows.slot_tuple_getitem ht.typeIs entry_tuple_getitem ?_ (args_tuple_getitem _ _)))
  show wpAny _ _ (Builtin.Tuple.tupleItemsOf (.ref t) >>= _) _ _ s
  refine wpAny_bind (tupleItemsOf_ ht ?_)
  refine wpAny_bind (wpAny_typeOf hTs ?_)
  rw [if_pos (by decide)]
  refine wpAny_bind (sliceApplied_gen hs pl pu ?_)
  have hno : ¬ ((((sIx items.size 0 lo : Nat) : Int) == 0 && (1 : Int) == 1 && (sIx items.size items.size hi - sIx items.size 0 lo) == items.size) = true) := by
    intro q
    rw [Bool.and_eq_true, Bool.and_eq_true] at q
    have q1 : ((sIx items.size 0 lo : Nat) : Int) = 0 := eq_of_beq q.1.1
    have q2 : sIx items.size items.size hi - sIx items.size 0 lo = items.size := eq_of_beq q.2
    exact hw ⟨by omega, by omega⟩
  show wpAny _ _ (if (((sIx items.size 0 lo : Nat) : Int) == 0 && (1 : Int) == 1 && (sIx items.size items.size hi - sIx items.size 0 lo) == items.size) = true then _ else _) _ _ s
  rw [if_neg hno, pick_gen]
  first
    | exact wpAny_bind (m := Builtin.Tuple.tupleExact _) (wpAny_newObj_type (wpAny_pure ⟨_, rfl, wpAny_pure h⟩) htake)
    | exact wpAny_bind (m := Builtin.Tuple.tupleExact _) (wpAny_newObj_type (wpAny_bind (wpAny_pure (wpAny_pure ⟨_, rfl, wpAny_pure h⟩))) htake)
    | exact wpAny_bind (wpAny_bind (m := Builtin.Tuple.tupleExact _) (wpAny_newObj_type (wpAny_pure (wpAny_pure ⟨_, rfl, wpAny_pure h⟩)) htake))
    | exact wpAny_bind (wpAny_bind (m := Builtin.Tuple.tupleExact _) (wpAny_newObj_type (wpAny_pure ⟨_, rfl, wpAny_pure h⟩) htake))
end
end HT

namespace L2
open PySem PySem.Spec PyProof.Rows

/-! ### the parts of a slice -/
noncomputable abbrev TO := St → Hp → (Option Int → Hp → Prop) → Prop
/-- a slice's part (left out, or an int) -/
noncomputable def PO (X : Cx) (e : Option Expr) (t : TO) : Prop :=
  ∀ (pins : List (Addr × Obj)) (s : Shared) (σ : St) (H : Hp) (Q : Option Int → Hp → Prop), Inv X pins σ H s → t σ H Q →
    wpAny (model X.prog X.w) X.A (evalPart e X.env) (fun u s' => ∃ o H', Inv X pins σ H' s' ∧ IsPart u o ∧ Q o H') X.xe s
noncomputable def tNoPart : TO := fun _ H Q => Q none H
noncomputable def tPart (t : TE) : TO := fun σ H Q => t σ H fun x H1 => ∃ i, x = .int i ∧ Q (some i) H1


section
variable {X : Cx} {e : Expr} {te : TE} {lo hi : Option Expr} {tl th : TO} {pos p2 : Pos}

theorem po_none : PO X none tNoPart := by
  intro pins s σ H Q I h
  rw [evalPart_none]
  exact wpAny_pure ⟨none, H, I, .none, h⟩
theorem po_some (h : PE X e te) : PO X (some e) (tPart te) := by
  intro pins s σ H Q I hw
  rw [evalPart_some]
  refine thn (h pins s σ H _ I hw) fun u s1 ⟨x, H1, I1, r1, q1⟩ => ?_
  obtain ⟨i, rfl, q⟩ := q1
  obtain ⟨t, rfl⟩ := r1
  exact ⟨some i, H1, I1, .int i t, q⟩

/-- what a slice of a value is, by values: the slice object stands at sl -/
noncomputable def SlR (X : Cx) (r : V → Option Int → Option Int → Hp → VK → Prop) : Prop :=
  ∀ (pins : List (Addr × Obj)) (s : Shared) (σ : St) (H : Hp) (x : V) (v vl vu : Value) (lo hi : Option Int) (sl : Addr) (Q : VK), Inv X pins σ H s → RelV x v → s.heap.IsSliceOf sl vl vu .none → IsPart vl lo → IsPart vu hi → r x lo hi H Q →
    ∃ T id, typeLookup (.type T) "__getitem__" = pure (some (.builtin id)) ∧ s.TypeIs v T ∧ wpAny (model X.prog X.w) X.A (getItem v (.ref sl)) (EP X pins σ Q) X.xe s
noncomputable def tSl (r : V → Option Int → Option Int → Hp → VK → Prop) (te : TE) (tl th : TO) : TE := fun σ H Q => te σ H fun x H1 => tl σ H1 fun l H2 => th σ H2 fun u H3 => r x l u H3 Q
/-- a[lo:hi], any a -/
theorem pe_slice {r : V → Option Int → Option Int → Hp → VK → Prop} (hr : SlR X r) (he : PE X e te) (hl : PO X lo tl) (hu : PO X hi th) : PE X (.Subscript e (.Slice lo hi none p2) pos) (tSl r te tl th) := by
  intro pins s σ H Q I h
  refine Subscript_ (thn (he pins s σ H _ I h) fun v s1 ⟨x, H1, I1, r1, q1⟩ => ?_)
  refine wpAny_Slice (thn (hl pins s1 σ H1 _ I1 q1) fun vl s2 ⟨l, H2, I2, pl, q2⟩ => thn (hu pins s2 σ H2 _ I2 q2) fun vu s3 ⟨u, H3, I3, pu, q3⟩ => ?_)
  rw [evalPart_none]
  refine wpAny_pure ?_
  have I4 : Inv X pins σ H3 { s3 with heap := s3.heap.push { cls := .type "slice", data := .fields #[vl, vu, .none] } } := I3.kept (t' := s3.toks) fun b ob q => Heap.get?_push_of_some _ q
  obtain ⟨T, id, hT, ht, hg⟩ := hr pins { s3 with heap := s3.heap.push { cls := .type "slice", data := .fields #[vl, vu, .none] } } σ H3 x v vl vu l u s3.heap.objs.size Q I4 r1 (Heap.IsSliceOf.new ..) pl pu q3
  show wpAny (model X.prog X.w) X.A (subscriptTail e (.Slice lo hi none p2) v (.ref s3.heap.objs.size)) (EP X pins σ Q) X.xe { s3 with heap := s3.heap.push { cls := .type "slice", data := .fields #[vl, vu, .none] } }
  exact tail_any (ops := [.ref s3.heap.objs.size, v]) ht hT hg (by with_unfolding_all rfl)

/-- the items of xs[lo:hi] -/
noncomputable def cutV (xs : List V) (lo hi : Option Int) : List V := (xs.drop (HT.sIx xs.length 0 lo)).take (HT.sIx xs.length xs.length hi - HT.sIx xs.length 0 lo)
theorem cutV_length (xs : List V) (lo hi : Option Int) : (cutV xs lo hi).length ≤ xs.length := by
  unfold cutV
  rw [List.length_take, List.length_drop]
  omega
/-- t[lo:hi], not the whole of it (the whole would be t itself) -/
noncomputable def rSlT (K : PySem.W.Frag) : V → Option Int → Option Int → Hp → VK → Prop := fun x lo hi H Q => ∃ a xs, x = .ref a ∧ SqT K H a xs ∧
  ¬ (HT.sIx xs.length 0 lo = 0 ∧ HT.sIx xs.length xs.length hi = xs.length) ∧ ∀ p, H p = none → Q (.ref p) (upd H p (.tup (cutV xs lo hi)))
theorem sl_tup : SlR X (rSlT X.K) := by
  intro pins s σ H x v vl vu lo hi sl Q I rx hs pl pu h
  obtain ⟨a, xs, rfl, hx, hw, q⟩ := h
  cases rx
  obtain ⟨its, r, ht, hz⟩ := I.tuple hx
  have hlen : its.toArray.size = xs.length := by rw [List.size_toArray]; exact r.length.symm
  refine ⟨"tuple", _, PyProof.Rows.slot_tuple_getitem.lookup, ht.typeIs, ?_⟩
  refine HT.getItem_tuple_cut ht hs pl pu (by rw [hlen]; exact hw) ?_ (by rw [hlen]; exact hz)
  rw [hlen]
  refine ⟨.ref s.heap.objs.size, _, I.laid (t' := s.toks) (o := .tup (cutV xs lo hi)) (fun b ob q => Heap.get?_push_of_some _ q) (Nat.le_refl _) ?_, rfl, q _ (I.hok.fresh (Nat.le_refl _))⟩
  exact ⟨Nat.le_trans (cutV_length xs lo hi) hz, _, (r.drop (HT.sIx xs.length 0 lo)).take (HT.sIx xs.length xs.length hi - HT.sIx xs.length 0 lo), IsTup.new _ _⟩

/-! ### t < u, t + u -/
noncomputable def rLtT (K : PySem.W.Frag) : R2 := fun x y H Q => ∃ a b ns ms, x = .ref a ∧ y = .ref b ∧ SqT K H a (ns.map V.int) ∧ SqT K H b (ms.map V.int) ∧ Q (.bl (HT.lexLt ns ms)) H
/-- t + u, t not empty: u empty gives t itself -/
noncomputable def rCatT (K : PySem.W.Frag) : R2 := fun x y H Q => ∃ a b xs ys, x = .ref a ∧ y = .ref b ∧ SqT K H a xs ∧ SqT K H b ys ∧ xs ≠ [] ∧ xs.length + ys.length ≤ sizeLine ∧
  (ys = [] → Q (.ref a) H) ∧ (ys ≠ [] → ∀ p, H p = none → Q (.ref p) (upd H p (.tup (xs ++ ys))))
theorem Vals.nil_iff {xs : List V} {us : List Value} (r : Vals xs us) : us = [] ↔ xs = [] := by
  cases r with
  | nil => simp
  | cons _ _ => simp
theorem op_catT : OpR X (binaryOp .Add) (rCatT X.K) := by
  intro pins s σ H x y v u Q I rx ry h
  obtain ⟨a, b, xs, ys, rfl, rfl, ha, hb, hx, hz, q1, q2⟩ := h
  cases rx
  cases ry
  obtain ⟨its, r1, p1, _⟩ := I.tuple ha
  obtain ⟨its2, r2, p2, _⟩ := I.tuple hb
  refine HT.cat_tup p1 p2 (fun z => hx (r1.nil_iff.mp z)) (fun z => ⟨.ref a, H, I, rfl, q1 (r2.nil_iff.mp z)⟩) (fun z => ?_) (by rw [← r1.length, ← r2.length]; exact hz)
  refine ⟨.ref s.heap.objs.size, _, I.laid (t' := s.toks) (o := .tup (xs ++ ys)) (fun b ob q => Heap.get?_push_of_some _ q) (Nat.le_refl _) ?_, rfl, q2 (fun w => z (r2.nil_iff.mpr w)) _ (I.hok.fresh (Nat.le_refl _))⟩
  exact ⟨by rw [List.length_append]; exact hz, _, r1.append r2, IsTup.new _ _⟩
end
end L2

namespace L2
open PySem PySem.Spec PyProof.Rows

/-! ### places -/
/-- the place that an index of any sign means -/
noncomputable def ixN (n : Nat) (i : Int) : Option Nat := if 0 ≤ i then (if i < n then some i.toNat else none) else if -(n : Int) ≤ i then some (i + n).toNat else none
noncomputable def atI {α : Type} (xs : List α) (i : Int) : Option α := (ixN xs.length i).bind fun j => xs[j]?
theorem ixN_seq {n : Nat} {i : Int} {j : Nat} (h : ixN n i = some j) : seqIndex? i n = some j ∧ j < n ∧ -(n : Int) ≤ i ∧ i < n := by
  unfold ixN at h
  by_cases h0 : 0 ≤ i
  · rw [if_pos h0] at h
    by_cases h1 : i < n
    · rw [if_pos h1] at h
      have e : i.toNat = j := Option.some.inj h
      exact ⟨by rw [seqIndex_of h0 h1, e], by omega, by omega, h1⟩
    · rw [if_neg h1] at h; cases h
  · rw [if_neg h0] at h
    by_cases h1 : -(n : Int) ≤ i
    · rw [if_pos h1] at h
      have e : (i + n).toNat = j := Option.some.inj h
      exact ⟨by rw [seqIndex_neg (by omega) h1, e], by omega, h1, by omega⟩
    · rw [if_neg h1] at h; cases h
theorem atI_get {α : Type} {xs : List α} {i : Int} {v : α} (h : atI xs i = some v) : ∃ j, seqIndex? i xs.length = some j ∧ xs[j]? = some v ∧ j < xs.length ∧ -(xs.length : Int) ≤ i ∧ i < xs.length := by
  unfold atI at h
  cases e : ixN xs.length i with
  | none => rw [e] at h; cases h
  | some j =>
    rw [e] at h
    obtain ⟨h1, h2, h3, h4⟩ := ixN_seq e
    exact ⟨j, h1, h, h2, h3, h4⟩
theorem atI_nat {α : Type} {xs : List α} {j : Nat} {v : α} (h : xs[j]? = some v) : atI xs (j : Int) = some v := by
  have hj : j < xs.length := (List.getElem?_eq_some_iff.mp h).1
  have e : ixN xs.length (j : Int) = some j := by
    unfold ixN
    rw [if_pos (by omega), if_pos (by omega)]; simp
  unfold atI; rw [e]; exact h

/-! ### what may be subscripted -/
/-- what stands as an index of a plain subscript -/
noncomputable def PlainIx (b : Expr) : Prop := ∀ o i, subscripted b false o i = operate [o, i] (getItem o i)
/-- a subscript by values -/
noncomputable def IxR (X : Cx) (r : R2) : Prop :=
  ∀ (value slice : Expr) (pins : List (Addr × Obj)) (s : Shared) (σ : St) (H : Hp) (x y : V) (v u : Value) (Q : VK), Inv X pins σ H s → RelV x v → RelV y u → r x y H Q →
    subscripted slice false v u = operate [v, u] (getItem v u) → wpAny (model X.prog X.w) X.A (subscriptTail value slice v u) (EP X pins σ Q) X.xe s
/-- a call of a builtin's method by values: the receiver, the arguments -/
noncomputable def MtR (X : Cx) (id : String) (r : V → List V → Hp → VK → Prop) : Prop :=
  ∀ (pins : List (Addr × Obj)) (s : Shared) (σ : St) (H : Hp) (x : V) (xs : List V) (v : Value) (us : List Value) (Q : VK), Inv X pins σ H s → RelV x v → Vals xs us → r x xs H Q →
    wpAny (model X.prog X.w) X.A (call (.builtin id) (v :: us)) (EP X pins σ Q) X.xe s
section
variable {X : Cx} {a b : Expr} {ta tb : TE} {pos : Pos}
/-- a[b] -/
theorem pe_ix {r : R2} (hr : IxR X r) (ha : PE X a ta) (hb : PE X b tb) (hs : PlainIx b) : PE X (.Subscript a b pos) (tOp r ta tb) := by
  intro pins s σ H Q I h
  exact Subscript_ (binT ha hb I h fun v u s2 x y H2 I2 rx ry q => hr a b pins s2 σ H2 x y v u Q I2 rx ry q (hs _ _))

noncomputable def rIxL (K : PySem.W.Frag) : R2 := fun x y H Q => ∃ p xs i v, x = .ref p ∧ y = .int i ∧ SqL K H p xs ∧ atI xs i = some v ∧ Q v H
noncomputable def rIxT (K : PySem.W.Frag) : R2 := fun x y H Q => ∃ p xs i v, x = .ref p ∧ y = .int i ∧ SqT K H p xs ∧ atI xs i = some v ∧ Q v H
noncomputable def rIxS : R2 := fun x y H Q => ∃ z i c, x = .str z ∧ y = .int i ∧ z.length ≤ sizeLine ∧ atI z.cps.toList i = some c ∧ Q (.str ⟨#[c]⟩) H
theorem ix_list : IxR X (rIxL X.K) := by
  intro value slice pins s σ H x y v u Q I rx ry h hs
  obtain ⟨p, xs, i, z, rfl, rfl, hq, he, q⟩ := h
  cases rx
  obtain ⟨t, rfl⟩ := ry
  obtain ⟨its, r, pl, hz⟩ := I.list hq
  obtain ⟨j, h1, h2, h3, h4, h5⟩ := atI_get he
  obtain ⟨w, ew, rw'⟩ := r.get h2
  have hl := r.length
  have hn := line63
  have fin : EP X pins σ Q w s := ⟨z, H, I, rw', q⟩
  by_cases h0 : 0 ≤ i
  · have hj : i.toNat = j := by
      rw [seqIndex_of h0 h5] at h1
      exact Option.some.inj h1
    exact item_listR pl.isList h0 (by omega) (by rw [hj]; simpa using ew) fin hs
  · have hj : (i + (its.toArray.size : Int)).toNat = j := by
      rw [seqIndex_neg (by omega) h4] at h1
      rw [List.size_toArray, ← hl]
      exact Option.some.inj h1
    exact subscriptTail_builtinR (x := w) pl.isList.typeIs slot_list_getitem.lookup
      (wpAny_getItem_list_neg (Q := fun r s' => r = w ∧ EP X pins σ Q r s') pl.isList (by omega) (by rw [List.size_toArray] <;> omega) (by omega) (by rw [hj]; simpa using ew) ⟨rfl, fin⟩) hs
theorem ix_tup : IxR X (rIxT X.K) := by
  intro value slice pins s σ H x y v u Q I rx ry h hs
  obtain ⟨p, xs, i, z, rfl, rfl, hq, he, q⟩ := h
  cases rx
  obtain ⟨t, rfl⟩ := ry
  obtain ⟨its, r, pl, hz⟩ := I.tuple hq
  obtain ⟨j, h1, h2, h3, h4, h5⟩ := atI_get he
  obtain ⟨w, ew, rw'⟩ := r.get h2
  have hl := r.length
  have hn := line63
  have fin : EP X pins σ Q w s := ⟨z, H, I, rw', q⟩
  exact subscriptTail_builtinR (x := w) pl.typeIs slot_tuple_getitem.lookup
    (getItem_tuple (j := j) (Q := fun r s' => r = w ∧ EP X pins σ Q r s') pl (by omega) (by omega) (by rw [List.size_toArray, ← hl]; exact h1) (by simpa using ew) ⟨rfl, fin⟩) hs
theorem ix_str : IxR X rIxS := by
  intro value slice pins s σ H x y v u Q I rx ry h hs
  obtain ⟨z, i, c, rfl, rfl, hz, he, q⟩ := h
  obtain ⟨t, rfl⟩ := rx
  obtain ⟨t', rfl⟩ := ry
  obtain ⟨j, h1, h2, h3, h4, h5⟩ := atI_get he
  have hl : z.cps.toList.length = z.length := by simp [Str.length]
  rw [hl] at h1 h4 h5
  have hn := line63
  exact tail_any (typeIs_str s z t) slot_str_getitem.lookup (getItem_str (c := c) (by
    have e1 : decide (i < -(2 ^ 63 : Int)) = false := decide_eq_false (by omega)
    have e2 : decide (i ≥ 2 ^ 63) = false := decide_eq_false (by omega)
    rw [e1, e2, Bool.or_false]) (by rw [h1]; simpa using h2) ⟨.str ⟨#[c]⟩, H, I.tok _, ⟨_, rfl⟩, q⟩) hs
/-- list, tuple or str -/
noncomputable def rIx (K : PySem.W.Frag) : R2 := fun x y H Q => rIxL K x y H Q ∨ rIxT K x y H Q ∨ rIxS x y H Q

/-! ### xs[i] = v, any sign -/
/-- the list's object behind a store -/
theorem mapSeq_set (its : List Value) (n j : Nat) (u : Value) : Obj.mapSeq (·.setIfInBounds j u) { cls := .type "list", data := .seq its.toArray n } = { cls := .type "list", data := .seq (its.set j u).toArray n } := by
  simp [Obj.mapSeq]
theorem Inv.lst {pins : List (Addr × Obj)} {σ : St} {H : Hp} {s : Shared} {p : Addr} {xs : List V} (I : Inv X pins σ H s) (h : H p = some (.lst xs)) :
    ∃ (its : List Value) (n : Nat), Vals xs its ∧ s.heap.get? p = some { cls := .type "list", data := .seq its.toArray n } ∧ xs.length ≤ sizeLine := by
  obtain ⟨z, its, n, r, e⟩ := I.hok p _ h
  exact ⟨its, n, r, e, z⟩
/-- the list at p is written by an update of its object -/
theorem Inv.lstUpd {pins : List (Addr × Obj)} {σ : St} {H : Hp} {s : Shared} {p : Addr} {xs ys : List V} {its its' : List Value} {n n' : Nat} {f : Obj → Obj} (I : Inv X pins σ H s) (h : H p = some (.lst xs))
    (ho : s.heap.get? p = some { cls := .type "list", data := .seq its.toArray n }) (hf : f { cls := .type "list", data := .seq its.toArray n } = { cls := .type "list", data := .seq its'.toArray n' }) (r : Vals ys its') (hz : ys.length ≤ sizeLine) (t : Nat) :
    Inv X pins σ (upd H p (.lst ys)) { s with heap := s.heap.update p f, toks := t } := by
  have e : (s.heap.update p f).get? p = some { cls := .type "list", data := .seq its'.toArray n' } := by
    rw [Heap.get?_update_self f ho (by rw [hf] <;> rfl), hf]
  refine I.write (x := p) (e := p) (by rw [h]; trivial) (.inl rfl) (fun b u hb q => (Heap.get?_update_other _ _ (Ne.symm hb)).trans q) ⟨_, e⟩ ?_
  exact ⟨hz, its', n', r, e⟩
noncomputable def rSetL : V → V → V → Hp → (Hp → Prop) → Prop := fun o i v H Q => ∃ p xs k j, o = .ref p ∧ i = .int k ∧ H p = some (.lst xs) ∧ ixN xs.length k = some j ∧ Q (upd H p (.lst (xs.set j v)))
theorem set_list : PSet X rSetL := by
  intro pins s σ H o i v ov iv u Q I ro ri rv h
  obtain ⟨p, xs, k, j, rfl, rfl, hp, hj, q⟩ := h
  cases ro
  obtain ⟨t, rfl⟩ := ri
  obtain ⟨its, n, r, ho, hz⟩ := I.lst hp
  obtain ⟨h1, h2, h3, h4⟩ := ixN_seq hj
  have hl := r.length
  have hn := line63
  have I' : Inv X pins σ (upd H p (.lst (xs.set j v))) { s with heap := s.heap.update p (Obj.mapSeq (·.setIfInBounds j u)) } :=
    I.lstUpd hp ho (mapSeq_set its n j u) (r.set rv j) (by rw [List.length_set]; exact hz) s.toks
  by_cases h0 : 0 ≤ k
  · have hk : k.toNat = j := by
      rw [seqIndex_of h0 h4] at h1
      exact Option.some.inj h1
    exact PySem.W.ki_setAt ho h0 (by omega) (by rw [List.size_toArray, ← hl]; exact h4) (by rw [hk]; exact ⟨_, I', q⟩)
  · have hk : (k + (its.toArray.size : Int)).toNat = j := by
      rw [seqIndex_neg (by omega) h3] at h1
      rw [List.size_toArray, ← hl]
      exact Option.some.inj h1
    exact PySem.W.ki_setBack ho (by omega) (by rw [List.size_toArray, ← hl]; exact h3) (by omega) (by rw [hk]; exact ⟨_, I', q⟩)

/-! ### slices -/
theorem slice_bounds (lo hi : Option Int) (n : Nat) : (sliceBounds lo hi none n).1 = ((HT.sIx n 0 lo : Nat) : Int) ∧ (sliceBounds lo hi none n).2.1 = ((HT.sIx n n hi : Nat) : Int) ∧ (sliceBounds lo hi none n).2.2 = 1 := by
  refine ⟨?_, ?_, rfl⟩
  · cases lo with
    | none => simp [sliceBounds, HT.sIx]
    | some i =>
      simp only [sliceBounds, HT.sIx, Option.getD_none, show (1 : Int) > 0 by decide, if_true]
      by_cases h : i < 0
      · simp only [h, if_true] <;> omega
      · simp only [h, if_false] <;> omega
  · cases hi with
    | none => simp [sliceBounds, HT.sIx]
    | some i =>
      simp only [sliceBounds, HT.sIx, Option.getD_none, show (1 : Int) > 0 by decide, if_true]
      by_cases h : i < 0
      · simp only [h, if_true] <;> omega
      · simp only [h, if_false] <;> omega
theorem slicePick_cut (its : List Value) (lo hi : Option Int) : slicePick its.toArray lo hi none = ((its.drop (HT.sIx its.length 0 lo)).take (HT.sIx its.length its.length hi - HT.sIx its.length 0 lo)).toArray := by
  obtain ⟨h1, h2, h3⟩ := slice_bounds lo hi its.toArray.size
  unfold slicePick
  rw [h1, h2, h3]
  simp only [sliceRange_one, pick_run, List.size_toArray] <;> rfl
/-- xs[lo:hi] of a list: a new list -/
noncomputable def rSlL (K : PySem.W.Frag) : V → Option Int → Option Int → Hp → VK → Prop := fun x lo hi H Q => ∃ a xs, x = .ref a ∧ SqL K H a xs ∧ ∀ p, H p = none → Q (.ref p) (upd H p (.lst (cutV xs lo hi)))
theorem sl_list : SlR X (rSlL X.K) := by
  intro pins s σ H x v vl vu lo hi sl Q I rx hs pl pu h
  obtain ⟨a, xs, rfl, hx, q⟩ := h
  cases rx
  obtain ⟨its, r, ht, hz⟩ := I.list hx
  have hlen := r.length
  refine ⟨"list", _, slot_list_getitem.lookup, ht.isList.typeIs, ?_⟩
  refine wpAny_getItem_list_slice ht.isList hs pl pu .none (by simp) ?_ (by rw [List.size_toArray] <;> omega)
  rw [slicePick_cut, ← hlen]
  refine ⟨.ref s.heap.objs.size, _, I.laid (t' := s.toks) (o := .lst (cutV xs lo hi)) (fun b ob q => Heap.get?_push_of_some _ q) (Nat.le_refl _) ?_, rfl, q _ (I.hok.fresh (Nat.le_refl _))⟩
  exact ⟨Nat.le_trans (cutV_length xs lo hi) hz, _, 0, (r.drop (HT.sIx xs.length 0 lo)).take (HT.sIx xs.length xs.length hi - HT.sIx xs.length 0 lo), Heap.get?_push_size _ rfl⟩

/-! ### in, not in: flat items -/
noncomputable def flatV : V → Bool
  | .non => true
  | .bl _ => true
  | .int _ => true
  | .str _ => true
  | _ => false
/-- == of flat values -/
noncomputable def eqV : V → V → Bool
  | .non, .non => true
  | .bl a, .bl b => a == b
  | .bl a, .int b => (if a then 1 else 0) == b
  | .int a, .bl b => a == (if b then 1 else 0)
  | .int a, .int b => a == b
  | .str a, .str b => a == b
  | _, _ => false
theorem eqAt_V {A : Around} {s : Shared} {y x : V} {u v : Value} (ry : RelV y u) (rx : RelV x v) (fy : flatV y = true) (fx : flatV x = true) : SeqAt.EqAt A s u v (eqV y x) := by
  cases y with
  | non =>
    cases ry
    cases x with
    | non => cases rx; exact SeqAt.EqAt.same _
    | bl b => cases rx; exact SeqAt.EqAt.none_bool b
    | int b => obtain ⟨t, rfl⟩ := rx; exact SeqAt.EqAt.none_int b t
    | str b => obtain ⟨t, rfl⟩ := rx; exact SeqAt.EqAt.none_str b t
    | _ => exact absurd (show false = true from fx) Bool.false_ne_true
  | bl a =>
    cases ry
    cases x with
    | non => cases rx; exact SeqAt.EqAt.bool_none a
    | bl b => cases rx; exact SeqAt.EqAt.bool_bool a b
    | int b => obtain ⟨t, rfl⟩ := rx; exact SeqAt.EqAt.bool_int a b t
    | str b => obtain ⟨t, rfl⟩ := rx; exact SeqAt.EqAt.bool_str a b t
    | _ => exact absurd (show false = true from fx) Bool.false_ne_true
  | int a =>
    obtain ⟨t', rfl⟩ := ry
    cases x with
    | non => cases rx; exact SeqAt.EqAt.int_none a t'
    | bl b => cases rx; exact SeqAt.EqAt.int_bool a t' b
    | int b => obtain ⟨t, rfl⟩ := rx; exact SeqAt.EqAt.int_int a t' b t
    | str b => obtain ⟨t, rfl⟩ := rx; exact SeqAt.EqAt.int_str a t' b t
    | _ => exact absurd (show false = true from fx) Bool.false_ne_true
  | str a =>
    obtain ⟨t', rfl⟩ := ry
    cases x with
    | non => cases rx; exact SeqAt.EqAt.str_none a t'
    | bl b => cases rx; exact SeqAt.EqAt.str_bool a t' b
    | int b => obtain ⟨t, rfl⟩ := rx; exact SeqAt.EqAt.str_int a t' b t
    | str b => obtain ⟨t, rfl⟩ := rx; exact SeqAt.EqAt.str_str a t' b t
    | _ => exact absurd (show false = true from fx) Bool.false_ne_true
  | _ => exact absurd (show false = true from fy) Bool.false_ne_true
/-- the items' answers, read off the values (a value's own answer does not lean on its token) -/
noncomputable def eqU (x : V) (u : Value) : Bool := match u with
  | .none => eqV .non x
  | .bool b => eqV (.bl b) x
  | .int i _ => eqV (.int i) x
  | .str z _ => eqV (.str z) x
  | _ => false
theorem eqU_of {x y : V} {u : Value} (r : RelV y u) (f : flatV y = true) : eqU x u = eqV y x := by
  cases y with
  | non => cases r; rfl
  | bl b => cases r; rfl
  | int i => obtain ⟨t, rfl⟩ := r; rfl
  | str z => obtain ⟨t, rfl⟩ := r; rfl
  | _ => exact absurd (show false = true from f) Bool.false_ne_true
theorem any_eqU {x : V} : ∀ {xs : List V} {us : List Value}, Vals xs us → xs.all flatV = true → us.any (eqU x) = xs.any fun y => eqV y x
  | _, _, .nil, _ => rfl
  | y :: xs, u :: us, .cons r t, f => by
    rw [List.all_cons, Bool.and_eq_true] at f
    rw [List.any_cons, List.any_cons, eqU_of r f.1, any_eqU t f.2]
theorem mem_eqAt {A : Around} {s : Shared} {x : V} {v : Value} (rx : RelV x v) (fx : flatV x = true) : ∀ {xs : List V} {us : List Value}, Vals xs us → xs.all flatV = true → ∀ u ∈ us, SeqAt.EqAt A s u v (eqU x u)
  | _, _, .nil, _ => fun u hu => by cases hu
  | y :: xs, u :: us, .cons r t, f => fun u' hu => by
    rw [List.all_cons, Bool.and_eq_true] at f
    rcases List.mem_cons.mp hu with rfl | hu
    · rw [eqU_of r f.1]; exact eqAt_V r rx f.1 fx
    · exact mem_eqAt rx fx t f.2 u' hu
noncomputable def inV (x : V) (xs : List V) : Bool := xs.any fun y => eqV y x
/-- x in a list or tuple of flat items -/
noncomputable def rIn (K : PySem.W.Frag) (neg : Bool) : R2 := fun x y H Q => ∃ p xs, y = .ref p ∧ (SqL K H p xs ∨ SqT K H p xs) ∧ flatV x = true ∧ xs.all flatV = true ∧ Q (.bl (if neg then !inV x xs else inV x xs)) H
theorem op_in_seq : OpR X (compareOp .In) (rIn X.K false) := by
  intro pins s σ H x y v u Q I rx ry h
  obtain ⟨p, xs, rfl, hq, fx, fs, q⟩ := h
  cases ry
  rcases hq with hq | hq
  · obtain ⟨its, r, pl, hz⟩ := I.list hq
    refine SeqAt.in_listAt (eqU x) pl.isList (fun w hw => mem_eqAt rx fx r fs w (by simpa using hw)) ⟨.bl _, H, I, rfl, ?_⟩
    rw [show its.toArray.any (eqU x) = its.any (eqU x) by simp, any_eqU r fs]
    exact q
  · obtain ⟨its, r, pl, hz⟩ := I.tuple hq
    refine SeqAt.in_tupleAt (eqU x) pl (fun w hw => mem_eqAt rx fx r fs w (by simpa using hw)) ⟨.bl _, H, I, rfl, ?_⟩
    rw [show its.toArray.any (eqU x) = its.any (eqU x) by simp, any_eqU r fs]
    exact q
theorem op_notIn_seq : OpR X (compareOp .NotIn) (rIn X.K true) := by
  intro pins s σ H x y v u Q I rx ry h
  obtain ⟨p, xs, rfl, hq, fx, fs, q⟩ := h
  cases ry
  rcases hq with hq | hq
  · obtain ⟨its, r, pl, hz⟩ := I.list hq
    refine SeqAt.notIn_listAt (eqU x) pl.isList (fun w hw => mem_eqAt rx fx r fs w (by simpa using hw)) ⟨.bl _, H, I, rfl, ?_⟩
    rw [show its.toArray.any (eqU x) = its.any (eqU x) by simp, any_eqU r fs]
    exact q
  · obtain ⟨its, r, pl, hz⟩ := I.tuple hq
    refine SeqAt.notIn_tupleAt (eqU x) pl (fun w hw => mem_eqAt rx fx r fs w (by simpa using hw)) ⟨.bl _, H, I, rfl, ?_⟩
    rw [show its.toArray.any (eqU x) = its.any (eqU x) by simp, any_eqU r fs]
    exact q
theorem op_notIn_str : OpR X (compareOp .NotIn) (fun x y H Q => ∃ i j, x = .str i ∧ y = .str j ∧ Q (.bl (!(!(Builtin.Str.occurrences j i 0 j.length 1).isEmpty))) H) := by
  intro pins s σ H x y v u Q I rx ry h
  obtain ⟨i, j, rfl, rfl, q⟩ := h
  obtain ⟨t, rfl⟩ := rx
  obtain ⟨t', rfl⟩ := ry
  exact notIn_str ⟨.bl _, H, I, rfl, q⟩

/-! ### len, list(x), tuple(x) of any list or tuple that is read -/
theorem call_len_seq : CallR X (.builtin "len") (fun xs H Q => ∃ p ys, xs = [.ref p] ∧ (SqL X.K H p ys ∨ SqT X.K H p ys) ∧ Q (.int ys.length) H) := by
  intro pins s σ H xs us Q I r h
  obtain ⟨p, ys, rfl, hq, q⟩ := h
  obtain ⟨u, rfl, rx⟩ := vals1 r
  cases rx
  have hn := line63
  rcases hq with hq | hq
  · obtain ⟨its, r', pl, hz⟩ := I.list hq
    have hlen := r'.length
    exact Calls.call_len_list pl.isList (by simp only [List.size_toArray] <;> omega) ⟨.int ys.length, H, I.tok _, ⟨s.toks + 1, by rw [List.size_toArray, hlen]⟩, q⟩
  · obtain ⟨its, r', pl, hz⟩ := I.tuple hq
    have hlen := r'.length
    exact len_tuple pl (by simp only [List.size_toArray] <;> omega) ⟨.int ys.length, H, I.tok _, ⟨s.toks + 1, by rw [List.size_toArray, hlen]⟩, q⟩
theorem call_len_str : CallR X (.builtin "len") (fun xs H Q => ∃ z, xs = [.str z] ∧ z.length ≤ sizeLine ∧ Q (.int z.length) H) := by
  intro pins s σ H xs us Q I r h
  obtain ⟨z, rfl, hz, q⟩ := h
  obtain ⟨u, rfl, t, rfl⟩ := vals1 r
  have hn := line63
  exact len_str (by omega) ⟨.int z.length, H, I.tok _, ⟨_, rfl⟩, q⟩
theorem call_list_of : CallR X (.type "list") (fun xs H Q => ∃ p ys, xs = [.ref p] ∧ (SqL X.K H p ys ∨ SqT X.K H p ys) ∧ ∀ l, H l = none → Q (.ref l) (upd H l (.lst ys))) := by
  intro pins s σ H xs us Q I r h
  obtain ⟨p, ys, rfl, hq, q⟩ := h
  obtain ⟨u, rfl, rx⟩ := vals1 r
  cases rx
  have fin : ∀ (its : List Value), Vals ys its → ys.length ≤ sizeLine → ∀ (h' : Heap) (c' : Nat), (∀ b o', s.heap.get? b = some o' → h'.get? b = some o') →
      h'.get? s.heap.objs.size = some { cls := .type "list", dict := none, data := .seq its.toArray c', slots := #[] } → EP X pins σ Q (.ref s.heap.objs.size) { s with heap := h' } := fun its r' hz h' c' kp e =>
    ⟨.ref s.heap.objs.size, _, I.laid (t' := s.toks) kp (Nat.le_refl _) (show ObjOk X.prog X.w _ h' _ (.lst ys) from ⟨hz, its, c', r', e⟩), rfl, q _ (I.hok.fresh (Nat.le_refl _))⟩
  rcases hq with hq | hq
  · obtain ⟨its, r', pl, hz⟩ := I.list hq
    have hlen := r'.length
    obtain ⟨o, ho, hc, n, hd⟩ := pl.isList
    exact call_list_seq p (.inl rfl) ho hc hd (fun h' c' kp e => fin its r' hz h' c' kp e) (by simp only [List.size_toArray] <;> omega)
  · obtain ⟨its, r', pl, hz⟩ := I.tuple hq
    have hlen := r'.length
    obtain ⟨o, ho, hc, n, hd⟩ := pl
    exact call_list_seq p (.inr rfl) ho hc hd (fun h' c' kp e => fin its r' hz h' c' kp e) (by simp only [List.size_toArray] <;> omega)
theorem call_tuple_of : CallR X (.type "tuple") (fun xs H Q => ∃ p ys, xs = [.ref p] ∧ ((SqL X.K H p ys ∧ ∀ l, H l = none → Q (.ref l) (upd H l (.tup ys))) ∨ (SqT X.K H p ys ∧ Q (.ref p) H))) := by
  intro pins s σ H xs us Q I r h
  obtain ⟨p, ys, rfl, h⟩ := h
  obtain ⟨u, rfl, rx⟩ := vals1 r
  cases rx
  rcases h with ⟨hq, q⟩ | ⟨hq, q⟩
  · obtain ⟨its, r', pl, hz⟩ := I.list hq
    have hlen := r'.length
    refine call_tuple_list pl.isList (fun h' kp => ?_) (by simp only [List.size_toArray] <;> omega)
    have I1 : Inv X pins σ H { s with heap := h' } := I.kept (t' := s.toks) kp
    have I2 : Inv X pins σ (upd H h'.objs.size (.tup ys)) { s with heap := h'.push { cls := .type "tuple", data := .seq its.toArray } } :=
      I1.laid (t' := s.toks) (fun b o e => Heap.get?_push_of_some _ e) (Nat.le_refl _) (show ObjOk X.prog X.w _ _ _ (.tup ys) from ⟨hz, its, r', IsTup.new _ _⟩)
    exact ⟨.ref h'.objs.size, _, I2, rfl, q _ (I1.hok.fresh (Nat.le_refl _))⟩
  · obtain ⟨its, r', pl, hz⟩ := I.tuple hq
    exact call_tuple_same pl ⟨.ref p, H, I, rfl, q⟩

/-! ### the call of a builtin's method: o.m(..) -/
/-- the value is of that builtin type -/
noncomputable def tyV (K : PySem.W.Frag) (T : String) (x : V) (H : Hp) : Prop := match x with
  | .str _ => T = "str"
  | .int _ => T = "int"
  | .ref p => (T = "list" ∧ ∃ xs, SqL K H p xs) ∨ (T = "tuple" ∧ ∃ o, K.lookup p = some o ∧ o.cls = .type "tuple" ∧ o.dict = none) ∨
      (T = "dict" ∧ ((∃ kvs, H p = some (.dK kvs)) ∨ ∃ kvs, H p = some (.dT kvs))) ∨ (T = "set" ∧ ∃ S n, H p = some (.set S n))
  | _ => False
theorem tyV_is {pins : List (Addr × Obj)} {σ : St} {H : Hp} {s : Shared} {T : String} {x : V} {v : Value} (I : Inv X pins σ H s) (r : RelV x v) (ty : tyV X.K T x H) :
    s.TypeIs v T ∧ ∀ a, v = .ref a → ∃ ob, s.heap.get? a = some ob ∧ ob.dict = none := by
  cases x with
  | str z =>
    obtain ⟨t, rfl⟩ := r
    cases (show T = "str" from ty)
    exact ⟨typeIs_str s z t, fun _ e => nomatch e⟩
  | int i =>
    obtain ⟨t, rfl⟩ := r
    cases (show T = "int" from ty)
    exact ⟨typeIs_int s i t, fun _ e => nomatch e⟩
  | ref p =>
    cases r
    rcases ty with ⟨rfl, xs, hq⟩ | ⟨rfl, o, hk, hc, hd⟩ | ⟨rfl, hk⟩ | ⟨rfl, S, n, hk⟩
    · obtain ⟨its, _, pl, _⟩ := I.list hq
      refine ⟨pl.isList.typeIs, fun a e => ?_⟩
      cases e
      obtain ⟨o, n, e, c, hd, _⟩ := pl
      exact ⟨o, e, hd⟩
    · refine ⟨⟨o, I.kIn p o hk, hc⟩, fun a e => ?_⟩
      cases e
      exact ⟨o, I.kIn _ o hk, hd⟩
    · have z : ∃ o, s.heap.get? p = some o ∧ o.ExactDict := by
        rcases hk with ⟨kvs, hk⟩ | ⟨kvs, hk⟩
        · obtain ⟨_, _, _, _, o, _, _, e, ex, _⟩ := I.hok p _ hk
          exact ⟨o, e, ex⟩
        · obtain ⟨_, _, _, _, o, _, _, e, ex, _⟩ := I.hok p _ hk
          exact ⟨o, e, ex⟩
      obtain ⟨o, e, ex⟩ := z
      refine ⟨⟨o, e, ex.1⟩, fun a e2 => ?_⟩
      cases e2
      exact ⟨o, e, ex.2.1⟩
    · obtain ⟨o, _, _, _, e, ex, _⟩ := I.hok p _ hk
      refine ⟨⟨o, e, ex.1⟩, fun a e2 => ?_⟩
      cases e2
      exact ⟨o, e, ex.2.1⟩
  | _ => exact False.elim ty
noncomputable def tBM0 (K : PySem.W.Frag) (T : String) (r : V → List V → Hp → VK → Prop) (to : TE) : TE := fun σ H Q => to σ H fun x H1 => tyV K T x H1 ∧ r x [] H1 Q
noncomputable def tBM (K : PySem.W.Frag) (T : String) (r : V → List V → Hp → VK → Prop) (to : TE) (t : TA) : TE := fun σ H Q => to σ H fun x H1 => tyV K T x H1 ∧ t σ H1 fun xs H2 => r x xs H2 Q
variable {o e : Expr} {es : List Expr} {to : TE} {t : TA} {name : Str} {apos cpos : Pos} {T id : String} {r : V → List V → Hp → VK → Prop}
theorem pe_bm (pa : PlainAttrs T) (slot : Slot T name id) (hty : typeOf (.builtin id) = pure (.type "method_descriptor")) (hm : MtR X id r) (ho : PE X o to) (ha : PA X (e :: es) t)
    (hbase : attributeBase o name X.env (eval o X.env) = eval o X.env := by rfl)
    (hfew : ((backTo cpos (starEach (e :: es) X.env)).all (fun x => !x.1) && (backToKw cpos (keywordEach [] X.env)).all (fun x => x.1.isSome)
      && decide ((e :: es).length + ([] : List Keyword).length + (if ([] : List Keyword).isEmpty then 0 else 1) < 30)) = true := by rfl)
    (hline : (apos.endLine == cpos.line) = true := by rfl) (hs : starEach (e :: es) X.env = (false, eval e X.env) :: starEach es X.env := by rfl) (hplain : (backTo cpos (starEach es X.env)).any (·.1) = false := by rfl) :
    PE X (.Call (.Attribute o name apos) (e :: es) [] cpos) (tBM X.K T r to t) := by
  intro pins s σ H Q I h
  refine wpAny_Call_method_late hbase hfew hline rfl (thn (ho pins s σ H _ I h) fun v s1 ⟨x, H1, I1, r1, ty, q1⟩ => ?_)
  obtain ⟨h1, h2⟩ := tyV_is I1 r1 ty
  refine ⟨T, id, pa, slot, hty, h1, h2, ?_⟩
  have hA := ha cpos pins s1 σ H1 _ I1 q1
  rw [hs] at hA ⊢
  refine Calls.callWith_builtin (by show (false || (backTo cpos (starEach es X.env)).any (·.1)) = false; rw [hplain] <;> rfl) (Calls.evalArgs_plain ?_)
  exact thn hA fun us s2 ⟨vs, H2, I2, r2, q2⟩ => hm pins s2 σ H2 x vs v us Q I2 r1 r2 q2
/- xs.append(e), list.index on a module's tuple .. are MtR facts of 06m -/
end
end L2

namespace L2
open PySem PySem.Spec PyProof.Rows

noncomputable def MtM (X : Cx) (id : String) (r : V → List V → Hp → VK → Prop) : Prop :=
  ∀ (pins : List (Addr × Obj)) (s : Shared) (σ : St) (H : Hp) (x : V) (xs : List V) (v : Value) (us : List Value) (Q : VK), Inv X pins σ H s → RelV x v → Vals xs us → r x xs H Q →
    wpAny (model X.prog X.w) X.A (call (.builtin id) (v :: us)) (EP X pins σ Q) X.xe s

/-! ### lists of values -/
theorem Vals.one : ∀ {x : V} {us : List Value}, Vals [x] us → ∃ u, us = [u] ∧ RelV x u
  | _, _, .cons r .nil => ⟨_, rfl, r⟩

section
variable {X : Cx} {pins : List (Addr × Obj)} {σ : St} {H : Hp} {s : Shared} {l b : Addr} {xs ys zs : List V}

/-! ### the two steps: a tracked list is rewritten, a new list is laid -/
theorem Inv.lset {its its' : List Value} {n : Nat} {f : Array Value → Array Value} {t' : Nat} (I : Inv X pins σ H s) (hH : H l = some (.lst xs))
    (e : s.heap.get? l = some { cls := .type "list", data := .seq its.toArray n }) (hf : f its.toArray = its'.toArray) (hv : Vals ys its') (hz : ys.length ≤ sizeLine) :
    Inv X pins σ (upd H l (.lst ys)) { s with heap := s.heap.update l (Obj.mapSeq f), toks := t' } := by
  have q := PySem.IsL.update e f
  rw [hf] at q
  refine I.write (x := l) (e := l) (by rw [hH]; exact trivial) (.inl rfl) (fun b' u hb hu => (Heap.get?_update_other s.heap (Obj.mapSeq f) (Ne.symm hb)).trans hu) ⟨_, q⟩ ?_
  exact ⟨hz, its', _, hv, q⟩
theorem Inv.lnew {its : List Value} {t' : Nat} (I : Inv X pins σ H s) (hv : Vals ys its) (hz : ys.length ≤ sizeLine) :
    Inv X pins σ (upd H s.heap.objs.size (.lst ys)) { s with heap := s.heap.push { cls := .type "list", data := .seq its.toArray }, toks := t' } :=
  I.laid (fun _ _ q => Heap.get?_push_of_some _ q) (Nat.le_refl _) ⟨hz, its, 0, hv, Heap.get?_push_size _ rfl⟩
theorem Inv.fresh (I : Inv X pins σ H s) : H s.heap.objs.size = none := I.hok.fresh (Nat.le_refl _)
theorem Inv.lstM (I : Inv X pins σ H s) (hH : H l = some (.lst xs)) : xs.length ≤ sizeLine ∧ ∃ (its : List Value) (n : Nat), Vals xs its ∧ xs.length = its.length ∧ s.heap.get? l = some { cls := .type "list", data := .seq its.toArray n } := by
  obtain ⟨z, its, n, r, e⟩ := I.hok l _ hH
  exact ⟨z, its, n, r, r.length, e⟩

theorem notLongL {n : Nat} (h : n ≤ sizeLine) : Builtin.List.listTooLong n = false := by
  unfold Builtin.List.listTooLong
  exact decide_eq_false (by omega)
end

section
variable {X : Cx}

/-! ### methods -/
noncomputable def rAppend : V → List V → Hp → VK → Prop := fun x vs H Q => ∃ l xs y, x = .ref l ∧ vs = [y] ∧ H l = some (.lst xs) ∧ xs.length < sizeLine ∧ Q .non (upd H l (.lst (xs ++ [y])))
theorem mt_append : MtM X "list.append" rAppend := by
  intro pins s σ H x vs v us Q I rx rv h
  obtain ⟨l, xs, y, rfl, rfl, hH, hz, q⟩ := h
  cases rx
  obtain ⟨u, rfl, ru⟩ := rv.one
  obtain ⟨z, its, n, r, hl, e⟩ := I.lstM hH
  refine call_meets F.slot_list_append ⟨_, e, rfl⟩ F.entry_list_append (F.args_list_append_2 _ _) (PySem.list_append l its.toArray n u (by rw [List.size_toArray]; omega)) ⟨e, ?_⟩
  refine ⟨.non, _, I.lset (its' := its ++ [u]) hH e (by simp) (r.append (.cons ru .nil)) ?_, rfl, q⟩
  rw [List.length_append, List.length_singleton]
  omega

noncomputable def rExtend : V → List V → Hp → VK → Prop := fun x vs H Q => ∃ l b xs zs, x = .ref l ∧ vs = [.ref b] ∧ H l = some (.lst xs) ∧ H b = some (.lst zs) ∧ xs.length + zs.length ≤ sizeLine ∧ Q .non (upd H l (.lst (xs ++ zs)))
theorem mt_extend : MtM X "list.extend" rExtend := by
  intro pins s σ H x vs v us Q I rx rv h
  obtain ⟨l, b, xs, zs, rfl, rfl, hH, hB, hz, q⟩ := h
  cases rx
  obtain ⟨u, rfl, ru⟩ := rv.one
  cases ru
  obtain ⟨z, its, n, r, hl, e⟩ := I.lstM hH
  obtain ⟨z2, its2, n2, r2, hl2, e2⟩ := I.lstM hB
  have hsz : its.toArray.size + its2.toArray.size ≤ sizeLine := by rw [List.size_toArray, List.size_toArray]; omega
  have hlong : ¬ (!its.toArray.isEmpty && Builtin.List.listTooLong (its.toArray.size + its2.toArray.size)) = true := by
    rw [notLongL hsz, Bool.and_false]
    exact Bool.false_ne_true
  refine call_meets F.slot_list_extend ⟨_, e, rfl⟩ F.entry_list_extend (F.args_list_extend_2 _ _)
    (AutoSeq1.list_extend_list_list_0 l its.toArray n b its2.toArray n2 hlong (by rw [List.size_toArray]; omega) (by omega)) ⟨e, e2, ?_⟩
  refine ⟨.non, _, I.lset (its' := its ++ its2) hH e (by simp) (r.append r2) ?_, rfl, q⟩
  rw [List.length_append]
  omega

noncomputable def rPop : V → List V → Hp → VK → Prop := fun x vs H Q => ∃ l xs y, x = .ref l ∧ vs = [] ∧ H l = some (.lst xs) ∧ xs[xs.length - 1]? = some y ∧ Q y (upd H l (.lst xs.dropLast))

noncomputable def rPopAt : V → List V → Hp → VK → Prop := fun x vs H Q => ∃ l xs i k y, x = .ref l ∧ vs = [.int i] ∧ H l = some (.lst xs) ∧ -(2 ^ 63) ≤ i ∧ i < 2 ^ 63 ∧ seqIndex? i xs.length = some k ∧ xs[k]? = some y ∧ Q y (upd H l (.lst (xs.eraseIdx k)))

noncomputable def rReverse : V → List V → Hp → VK → Prop := fun x vs H Q => ∃ l xs, x = .ref l ∧ vs = [] ∧ H l = some (.lst xs) ∧ Q .non (upd H l (.lst xs.reverse))

noncomputable def rClear : V → List V → Hp → VK → Prop := fun x vs H Q => ∃ l xs, x = .ref l ∧ vs = [] ∧ H l = some (.lst xs) ∧ Q .non (upd H l (.lst []))

/-! ### list + list, list += list, list * int -/
noncomputable def rCat : R2 := fun x y H Q => ∃ l b xs zs, x = .ref l ∧ y = .ref b ∧ H l = some (.lst xs) ∧ H b = some (.lst zs) ∧ xs.length + zs.length ≤ sizeLine ∧ ∀ p, H p = none → Q (.ref p) (upd H p (.lst (xs ++ zs)))
theorem op_cat : OpR X (binaryOp .Add) rCat := by
  intro pins s σ H x y v u Q I rx ry h
  obtain ⟨l, b, xs, zs, rfl, rfl, hH, hB, hz, q⟩ := h
  cases rx
  cases ry
  obtain ⟨z, its, n, r, hl, e⟩ := I.lstM hH
  obtain ⟨z2, its2, n2, r2, hl2, e2⟩ := I.lstM hB
  refine PySem.P.add_list e e2 ?_ (by rw [List.size_toArray, List.size_toArray]; omega)
  have ea : its.toArray ++ its2.toArray = (its ++ its2).toArray := by simp
  rw [ea]
  exact ⟨.ref _, _, I.lnew (t' := s.toks) (r.append r2) (by rw [List.length_append]; omega), rfl, q _ I.fresh⟩
/-- a list times an int (a negative one is nothing) -/
noncomputable def rRep : R2 := fun x y H Q => ∃ l k xs, x = .ref l ∧ y = .int k ∧ H l = some (.lst xs) ∧ -(2 ^ 63) ≤ k ∧ k < 2 ^ 63 ∧ xs.length * k.toNat ≤ sizeLine ∧
  ∀ p, H p = none → Q (.ref p) (upd H p (.lst (List.replicate k.toNat xs).flatten))

/-! ### del xs[i] -/
end

/-! ### xs[a:b] = ys -/
section
variable {prog : Program} {w : World} {A : Around} {E : Value → Shared → Prop} {s : Shared}
theorem bounds_run {a c n : Nat} (hac : a ≤ c) (hc : c ≤ n) : sliceBounds (some (a : Int)) (some (c : Int)) none n = ((a : Int), (c : Int), 1) := by
  simp only [sliceBounds, Option.getD_none]
  have h1 : ¬ ((a : Int) < 0) := by omega
  have h2 : ¬ ((c : Int) < 0) := by omega
  simp only [h1, h2, if_false, show (1 : Int) > 0 by decide, if_true]
  congr 1
  · omega
  · congr 1; omega
set_option maxRecDepth 100000 in
/-- list.__setitem__ with a slice of step one and another list -/
theorem setItem_slice {l b sl : Addr} {items new : Array Value} {n n2 : Nat} {vl vu : Value} {a c : Nat} {Q : Unit → Shared → Prop}
    (e : s.heap.get? l = some { cls := .type "list", data := .seq items n }) (e2 : s.heap.get? b = some { cls := .type "list", data := .seq new n2 }) (hne : l ≠ b)
    (hs : s.heap.IsSliceOf sl vl vu .none) (pl : IsPart vl (some (a : Int))) (pu : IsPart vu (some (c : Int))) (hac : a ≤ c) (hc : c ≤ items.size)
    (hsz : items.size + new.size ≤ sizeLine) (h : Q () { s with heap := s.heap.update l (Obj.mapSeq fun xs => xs.extract 0 a ++ new ++ xs.extract c xs.size) }) :
    wpAny (model prog w) A (setItem (.ref l) (.ref sl) (.ref b)) Q E s := by
  have hl : s.heap.IsList l items := PySem.IsL.isList e
  have hb : s.heap.IsList b new := PySem.IsL.isList e2
  obtain ⟨os, hos, hcs, hds⟩ := id hs
  have hTs : s.TypeIs (.ref sl) "slice" := ⟨os, hos, hcs⟩
  have hstep : ¬ ((rawPart none == rawInt 0) = true) := Bool.false_ne_true
  have hsame : Builtin.List.listSameRef (.ref l) (.ref b) = false := by
    unfold Builtin.List.listSameRef
    exact beq_eq_false_iff_ne.mpr hne
  have hmax : (max (a : Int) (c : Int)).toNat = c := by omega
  have hz' : ((fun xs : Array Value => xs.extract 0 a ++ new ++ xs.extract c xs.size) items).size ≤ sizeLine + 1 := by
    simp only [Array.size_append, Array.size_extract]
    omega
  unfold setItem
  try with_reducible refine wpAny_holding ?_
  first | refine wpAny_bind (wpAny_pure ?_) | skip
  refine wpAny_bind (wpAny_sequenceKey hl.typeIs (by decide) ?_)
  refine wpAny_bind (wpAny_callSpecial?_slot (name := Str.ofString "__setitem__") hl.typeIs slot_list_setitem
    (wpAny_call_entry slot_list_setitem hl.typeIs entry_list_setitem ?_ (args_list_setitem _ _ _)))
  show wpAny _ _ (Builtin.List.listSubscript? (.ref sl) >>= _) _ _ s
  refine wpAny_bind ?_
  unfold Builtin.List.listSubscript?
  refine wpAny_bind (wpAny_specialOf hTs slice_no_index ?_)
  simp only [Option.isNone_none, if_true]
  refine wpAny_pure ?_
  show wpAny _ _ (typeOf (.ref sl) >>= _) _ _ s
  refine wpAny_bind (wpAny_typeOf hTs ?_)
  first
    | rw [if_neg (by decide)]
    | refine PySem.W.KFB.if_not (by decide) ?_
  rw [listSliceParts_eq]
  refine wpAny_bind (wpAny_bind (wpAny_field hos hds (x := .none) rfl (wpAny_bind (wpAny_listPart .none ?_))))
  rw [if_neg hstep]
  refine wpAny_bind (wpAny_field hos hds (x := vl) rfl (wpAny_bind (wpAny_listPart pl ?_)))
  refine wpAny_bind (wpAny_field hos hds (x := vu) rfl (wpAny_bind (wpAny_listPart pu (wpAny_pure ?_))))
  first
    | simp only [hsame, Bool.false_eq_true, if_false]
    | refine PySem.W.KFB.if_not hsame ?_
    | (dsimp only
       rw [if_neg (by rw [hsame]; exact Bool.false_ne_true)])
  refine wpAny_bind (m := Builtin.List.listAllItems (.ref b) "must assign iterable to extended slice") ?_
  unfold Builtin.List.listAllItems
  refine wpAny_bind (wpAny_typeOf hb.typeIs ?_)
  first
    | refine PySem.W.KFB.if_so (by decide) ?_
    | rw [if_pos (by decide)]
    | simp only [beq_self_eq_true, Bool.true_or, if_true]
  unfold Builtin.List.listItems
  refine wpAny_bind (wpAny_seqItems e2 rfl (wpAny_pure ?_))
  refine wpAny_bind (wpAny_bind (wpAny_seqItems e rfl (wpAny_pure ?_)))
  refine wpAny_bind (wpAny_of_eq ((sliceIndices_raw (some (a : Int)) (some (c : Int)) none items.size (by simp)).trans (congrArg (pure : Int × Int × Int → Sem (Int × Int × Int)) (bounds_run hac hc))) ?_)
  show wpAny _ _ (if ((1 : Int) == 1) = true then _ else _) _ _ s
  rw [if_pos (by decide)]
  refine wpAny_bind (wpAny_rule ?_)
  first
    | simp only [notLongL hsz, Bool.false_eq_true, if_false]
    | refine PySem.W.KFB.if_not (notLongL hsz) ?_
  first | refine wpAny_bind (wpAny_pure ?_) | skip
  show wpAny _ _ (updateSeq l (fun xs => xs.extract 0 ((a : Int)).toNat ++ new ++ xs.extract (max (a : Int) (c : Int)).toNat xs.size) >>= _) _ _ s
  rw [hmax, Int.toNat_natCast]
  refine wpAny_bind (wpAny_updateSeq (hz := Nat.le_trans (Nat.le_add_right _ _) hsz) (_hz' := hz') e rfl ?_)
  refine wpAny_bind (wpAny_letGo ?_)
  first
    | exact wpAny_bind (wpAny_pure (wpAny_pure ⟨.none, rfl, wpAny_pure h⟩))
    | exact wpAny_pure ⟨.none, rfl, wpAny_pure h⟩
end

section
variable {X : Cx}
end
end L2

namespace Att
open PySem PySem.W PySem.Calls PyProof.Rows

/-! ### the script -/
theorem ints_of_wellAll {P : Params} {h : Heap} : ∀ (ns : List Int) (vs : List Value), WellAll P h vs (ns.map WData.int) → IntsAre vs ns := by
  intro ns
  induction ns with
  | nil =>
    intro vs w
    rw [List.map_nil] at w
    cases w
    exact .nil
  | cons n ns ih =>
    intro vs w
    rw [List.map_cons] at w
    cases w with
    | cons a b =>
      cases a
      exact .cons _ _ (ih _ b)

theorem script_of {l : OpenLaw} {n : Nat} (hn : l.most = some n) {P : Params} {h : Heap} {args : List WData} {vals : List Value}
    (hpre : l.row.toRowW.claim.pre args = true) (hwl : WellAll P h vals args) :
    ∃ a vs ns, vals = [Value.ref a] ∧ args = [WData.list (ns.map WData.int)] ∧ h.get? a = some { cls := .type "list", data := .seq vs.toArray } ∧ IntsAre vs ns ∧ ns.length ≤ n := by
  have hsh : WShape.hasAll [] args [.list .int] = true := (pre_splitW hpre).1
  have hc : l.pre.holds [] { args := args } = true := (pre_splitW hpre).2
  obtain ⟨d, r, rfl, h1, h2⟩ := hasAllW_cons hsh
  obtain rfl := hasAllW_nil h2
  obtain ⟨xs, rfl, h3⟩ := hasW_list h1
  obtain ⟨ns, rfl⟩ := items_int h3
  have hlen : ns.length ≤ n := by
    unfold OpenLaw.pre at hc
    have h4 : (WTm.not (.lt (.lit (.int (n : Int))) (.len (.arg 0)))).holds [] { args := [.list (ns.map .int)] } = true := by
      have h4 := (holds_andW hc).1
      rw [hn] at h4
      exact h4
    have h5 := condW_of h4 (w_not (w_lt w_lit (w_len_list (w_arg rfl))))
    rw [List.length_map] at h5
    refine Nat.le_of_not_lt fun q => ?_
    have q' : (n : Int) < ((ns.length : Nat) : Int) := by omega
    first
      | (rw [decide_eq_true q'] at h5; exact absurd h5 (by decide))
      | (simp at h5; omega)
  cases hwl with
  | cons w1 w2 =>
    cases w2
    cases w1 with
    | list ho hall => exact ⟨_, _, ns, rfl, rfl, ho, ints_of_wellAll ns _ hall, hlen⟩

theorem post_true (l : OpenLaw) (args : List WData) : l.row.toRowW.claim.post args (.bool true) args = true :=
  postW_of (r := l.row.toRowW) (X := (true == true))
    (show WShape.has [] (.bool true) .bool = true by first | rfl | decide | simp [WShape.has, WShape.arms, WShape.armsAll])
    (show (WTm.eq .res (.lit (.bool true))).value [] { args := args, res := some (.bool true), after := args } = some (.bool (true == true)) from w_eq_bool (w_res rfl) w_lit) rfl

/-! ### the attachment: holds_open's last premise (the goal 'hc' behind k_head) from a wpAny of the law's body -/

/-- the same from a codeAny of the CALL (for a layer whose function contracts speak of calls) -/
theorem attach_call {l : OpenLaw} {n : Nat} {q : Program} {loose : List Str} {XP : (Str → Option Value) → Heap → Prop} {YP : World → Heap → Prop} {d : DefRec}
    (hn : l.most = some n) (hdf : d.params.defaults = [])
    (call : ∀ (w : World) (s₀ s₁ : Shared) (mg mb : Str → Option Value) (fa : Addr) (o : Obj) (pm cd doc : Value) (a : Addr) (vs : List Value) (ns : List Int),
      Ground q loose [] XP w s₀ mg mb s₁.heap → YP w s₁.heap →
      s₁.heap.get? fa = some o → o.data = .func (docDef d.name d.params d.body d.scope pm cd doc) → s₁.heap.CodeRec cd d.name → mg d.name = some (.ref fa) →
      s₁.heap.get? a = some { cls := .type "list", data := .seq vs.toArray } → IntsAre vs ns → ns.length ≤ n → s₁.gens = #[] →
      codeAny (model l.prog w) callerA (.call (.ref fa) ⟨[.ref a], []⟩) (fun r s' => r = .ok (.ret (.bool true)) ∧ OldK s₁.heap s'.heap ∧ s'.os = s₁.os ∧ AllBare s'.gens) s₁) :
    WalkO q loose XP YP l.row.toRowW d [] (fun f vs => PySem.call f vs) := by
  intro w s₀ s₁ mg mb G Y fa o pm cd doc dV kV ho hd hcd hD hmg hg args vals as hpre hlay hrd hwl hlo
  obtain rfl : dV = .none := Dflts.none hD hdf
  obtain rfl : kV = .none := Dflts.noKw hD
  obtain ⟨a, vs, ns, rfl, rfl, hobj, hints, hlen⟩ := script_of hn hpre hwl
  refine enter_call (codeAny_mono (call w s₀ s₁ mg mb fa o pm cd doc a vs ns G Y ho (fd_plain hd) hcd hmg hobj hints hlen hg) fun r s' hq => ?_)
  obtain ⟨rfl, h2, h3, h4⟩ := hq
  exact ⟨.inl ⟨.bool true, .bool true, [], rfl, fun _ => rfl, .bool true, post_true l _, fun _ => ⟨List.Pairwise.nil, fun _ hm => (nomatch hm)⟩⟩, h2, h3, h4⟩


/-! ### rules over ANY heap (no ledger) from facts about the written part K: the library's own take a ledger (News) for what they write -/
section
variable {prog : Program} {w : World} {A : Around} {E : Value → Shared → Prop} {s : Shared} {K : Frag}





/-! the whole heap as the ledger: makes every rule that writes through a ledger a rule over any heap -/
noncomputable def noObjs (h : Heap) : Heap := { h with objs := #[] }
noncomputable def ledger (h : Heap) (L d : Addr) : List (Addr × Obj) := (List.range h.objs.size).filterMap fun a => if a = L ∨ a = d then none else (h.get? a).map fun o => (a, o)

end
end Att

namespace L2
open PySem PySem.Spec PyProof.Rows

theorem vals_ints : ∀ {vs : List Value} {ns : List Int}, IntsAre vs ns → Vals (ns.map V.int) vs
  | _, _, .nil => .nil
  | _, _, .cons n t h => .cons ⟨t, rfl⟩ (vals_ints h)

/-- nothing is tracked but the script, known to the object (or it is an object of the module) -/
noncomputable def Only (H : Hp) : Prop := ∀ b, H b = none ∨ ∃ o xs, H b = some (.frz o (.lst xs))

/-- THE HEAD: the law's promise, at the heap behind the top. F, the promise of the law's def, may use that base is part of the heap (so K.In base, base.Ns mainGlobals mg stand in Mod) -/
theorem law_call {P : Program} {w : World} {K : PySem.W.Frag} {mg mb : Str → Option Value} {CX : CXT} {k : Nat} {fa a : Addr} {fd : FuncData} {x : Str} {sp : Sp} {s₁ : Shared} {vs : List Value} {ns : List Int}
    (KX : K.In s₁.heap) (hns : s₁.heap.Ns mainGlobals mg) (hb : s₁.heap.Ns builtinsNs mb) (hbb : ∀ x : Str, x ≠ "__name__" → mb x = bootBuiltins x) (hlim : s₁.heap.NoLimit) (hg : s₁.gens = #[])
    (ha : s₁.heap.get? a = some { cls := .type "list", data := .seq vs.toArray }) (hi : IntsAre vs ns) (hl : ns.length ≤ sizeLine) (hr : Room k callerA)
    (F : ∀ base : Heap, K.In base → base.Ns mainGlobals mg → FnOk P w K mg base CX k fa fd [x] sp) (hbind : ∀ (s : Shared) (u : Value), BindsTo s fd ⟨[u], []⟩ [(x, u)])
    (hsp : ∀ H : Hp, Only H → SqL K H a (ns.map V.int) → sp [.ref a] H (fun v _ => v = .bl true) fun _ _ _ => False)
    (hCX : ∀ H e s', CX [] H s₁ (fun _ _ _ => False) e s' → False) :
    codeAny (model P w) callerA (.call (.ref fa) ⟨[.ref a], []⟩) (fun r s' => r = .ok (.ret (.bool true)) ∧ OldK s₁.heap s'.heap ∧ s'.os = s₁.os ∧ AllBare s'.gens) s₁ := by
  have rv := vals_ints hi
  have lenV := hi.length
  -- from an abstract heap in which nothing but the script may be tracked
  have core : ∀ H : Hp, Only H → SqL K H a (ns.map V.int) → HOk P w H s₁.heap → (∀ b, H b ≠ none → b = a) → (H a ≠ none → K.lookup a = none) →
      codeAny (model P w) callerA (.call (.ref fa) ⟨[.ref a], []⟩) (fun r s' => r = .ok (.ret (.bool true)) ∧ OldK s₁.heap s'.heap ∧ s'.os = s₁.os ∧ AllBare s'.gens) s₁ := by
    intro H hO hS hok hA hK
    have base_of : ∀ {b : Addr} {o : Obj}, s₁.heap.get? b = some o → H b = none → (hidT s₁.heap H).get? b = some o := fun e n => hidT_get e n
    have noA : ∀ {b : Addr} {o : Obj} {es : Array DictEntry} {ep : Nat}, s₁.heap.get? b = some o → o.data = .dict es ep → H b = none := fun {b o es ep} e d => by
      cases q : H b with
      | none => rfl
      | some u =>
        have e' : b = a := hA b (by rw [q]; simp)
        subst e'
        rw [ha] at e; cases e
        have d' : Data.seq vs.toArray _ = Data.dict es ep := d
        cases d'
    have nsK : ∀ {b : Addr} {m : Str → Option Value}, s₁.heap.Ns b m → (hidT s₁.heap H).Ns b m := fun {b m} ⟨o, es, ep, e, d, r⟩ => ⟨o, es, ep, base_of e (noA e d), d, r⟩
    have hKb : K.In (hidT s₁.heap H) := fun b o e => base_of (KX b o e) (by
      cases q : H b with
      | none => rfl
      | some u =>
        have e' : b = a := hA b (by rw [q]; simp)
        subst e'
        rw [hK (by rw [q]; simp)] at e; cases e)
    have hM : Mod K mg (hidT s₁.heap H) := ⟨hKb, nsK hns, ⟨mb, nsK hb, hbb⟩, let ⟨mc, h1, h2⟩ := hlim; ⟨mc, nsK h1, h2⟩⟩
    have e0 : Env0 P w K mg (hidT s₁.heap H) callerA [] s₁ H := ⟨rfl, hM, fun b o e => of_hidT e, Nat.le_of_eq (hidT_size _ _), trivial, fun b hb => absurd (show b ∈ ([] : List Addr) from hb) (by simp), hok, .of_eq hg⟩
    refine codeAny_mono ((F _ hKb (nsK hns)).run callerA [] s₁ H ⟨[.ref a], []⟩ [.ref a] [.ref a] _ _ hr e0 (hbind s₁ (.ref a)) (.cons rfl .nil) (hsp H hO hS)) fun r s' h => ?_
    cases r with
    | error e => exact (hCX H e s' h).elim
    | ok fl =>
      cases fl with
      | next => exact False.elim h
      | brk => exact False.elim h
      | cont => exact False.elim h
      | ret u =>
        obtain ⟨v, H', os, bare, un, hok', r', q⟩ := h
        have q' : v = .bl true := q
        subst q'
        obtain rfl : u = Value.bool true := r'
        refine ⟨rfl, OldK.of_keep fun b o e => ?_, os, bare⟩
        cases q : H b with
        | none => exact un.keep b o e q (by intro z; exact absurd (show b ∈ ([] : List Addr) from z) (by simp)) (by simp)
        | some u =>
          rcases hO b with z | ⟨ob, xs, z⟩
          · rw [q] at z; cases z
          · have z2 := un.frzs b ob _ z
            obtain ⟨e1, _⟩ := hok b _ z
            obtain ⟨e2, _⟩ := hok' b _ z2
            rw [e] at e1; cases e1
            exact e2
  cases hk : K.lookup a with
  | some o =>
    -- the script is one of the module's own objects
    have e := KX a o hk
    rw [ha] at e
    cases e
    refine core (fun _ => none) (fun _ => .inl rfl) (.inr ⟨_, vs.toArray, _, hk, rfl, rfl, rfl, by rw [List.size_toArray, lenV]; exact hl, by simpa using rv⟩) (fun b u z => by have z' : (none : Option HO) = some u := z; cases z') (fun b z => absurd rfl z) fun z => absurd rfl z
  | none =>
    refine core (fun b => if b = a then some (.frz { cls := .type "list", data := .seq vs.toArray } (.lst (ns.map V.int))) else none) (fun b => ?_) (.inl (.inr ⟨{ cls := .type "list", data := .seq vs.toArray }, if_pos rfl⟩)) (fun b u z => ?_) (fun b z => ?_) fun _ => hk
    · by_cases hb : b = a
      · exact .inr ⟨_, _, if_pos hb⟩
      · exact .inl (if_neg hb)
    · by_cases hb : b = a
      · have z' := (if_pos hb).symm.trans z
        cases z'
        subst hb
        exact ⟨ha, by rw [List.length_map]; exact hl, vs, _, rv, ha⟩
      · have z' := (if_neg hb).symm.trans z
        cases z'
    · by_cases hb : b = a
      · exact hb
      · exact absurd (if_neg hb) z
end L2

namespace L2
open PySem PySem.Spec PyProof.Rows

noncomputable abbrev KOf {K : PySem.W.Frag} {h : Heap} (_ : K.In h) : PySem.W.Frag := K

/-- the goal that k_head leaves (case hc), from the law's promise. F gives the function object fd (K's own) once, then the promise over every base -/
theorem walk_of {l : PySem.W.OpenLaw} {n k : Nat} {q : Program} {loose : List Str} {XP : (Str → Option Value) → Heap → Prop} {YP : World → Heap → Prop} {d : DefRec} {K : Params → PySem.W.Frag} {CX : World → CXT} {sp : World → Sp} {x : Str}
    (hn : l.most = some n) (hn2 : n ≤ sizeLine) (hdf : d.params.defaults = []) (hr : Room k callerA)
    (hY : ∀ (w : World) (h : Heap), YP w h → (K w.params).In h)
    (F : ∀ (w : World) (mg : Str → Option Value) (fa : Addr) (h : Heap), (K w.params).In h → h.Ns mainGlobals mg → mg d.name = some (.ref fa) →
      ∃ fd : FuncData, (∀ (s : Shared) (u : Value), BindsTo s fd ⟨[u], []⟩ [(x, u)]) ∧
        ∀ base : Heap, (K w.params).In base → base.Ns mainGlobals mg → FnOk l.prog w (K w.params) mg base (CX w) k fa fd [x] (sp w))
    (hsp : ∀ (w : World) (H : Hp) (a : Addr) (ns : List Int), ns.length ≤ n → Only H → SqL (K w.params) H a (ns.map V.int) → sp w [.ref a] H (fun v _ => v = .bl true) fun _ _ _ => False)
    (hCX : ∀ (w : World) (H : Hp) (s : Shared) (e : Value) (s' : Shared), CX w [] H s (fun _ _ _ => False) e s' → False) :
    PySem.W.WalkO q loose XP YP l.row.toRowW d [] (fun f vs => PySem.call f vs) := by
  refine Att.attach_call hn hdf fun w s₀ s₁ mg mb fa o pm cd doc a vs ns G Y ho hd hcd hmg hobj hints hlen hg => ?_
  have KX := hY w _ Y
  obtain ⟨fd, hb, hF⟩ := F w mg fa _ KX G.T.g hmg
  exact law_call KX G.T.g G.T.b G.T.builtins G.T.nolimit hg hobj hints (Nat.le_trans hlen hn2) hr hF hb (fun H hO hS => hsp w H a ns hlen hO hS) fun H e s' => hCX w H s₁ e s'
end L2

/- THE LAST THEOREM (shape; LID, My.* are yours):
   My.Adr: a structure of the addresses that your layer names (classes, functions); My.Txt K t: a structure (Prop) of the equations over K;
   My.txt_mk : {K} {implicit addresses ..} (e1 : nsIn K mainGlobals "law" = some (some (.ref f))) (e2 : K.lookup f = some ⟨oc, od, .func (fnOf "law" "law" params body scope dV kV doc pm an cdv ct), sl⟩) (e3 : codeIn K cdv "law" = true) .. : ∃ t, My.Txt K t

set_option maxRecDepth 100000 in
set_option maxHeartbeats 0 in
theorem PySem.Challenge.cw_LID_holds : PySem.Challenge.rw_LID.Holds := by
  w_on; o_law; k_head; (case hw => w_witness2)
  k_fill
  refine L2.walk_of (l := PySem.Challenge.rw_LID) (n := 63) (k := 40) (x := "script") (CX := fun w => ..) (sp := fun _ => My.sp_law) rfl (by decide) rfl ⟨rfl, by decide, by decide⟩ (fun w h Y => PySem.W.kIn_of Y) ?F ?S ?C
  case F =>
    intro w mg fa h KX G hmg
    have T : ∃ t, My.Txt (L2.KOf KX) t := by
      dsimp only [L2.KOf]                          -- K must stand as «<heap const> w.params» for k_is
      refine' My.txt_mk ?e1 ?e2 ?e3 ..
      (case e1 => PySem.W.k_is)                    -- in the order: a name -> its address -> its object -> its parts
      (case e2 => PySem.W.k_is)
      ..
    obtain ⟨t, T⟩ := T
    have e0 := hmg.symm.trans (PySem.W.mg_of KX G T.law)
    cases e0                                       -- fa is the law's own address
    exact ⟨_, fun s u => .of_eq rfl, fun base kb nb => My.law_fn T kb nb⟩     -- if «.of_eq rfl» comes too early: refine' ⟨_, ?b, fun base kb nb => My.law_fn T kb nb⟩; exact fun s u => .of_eq rfl
  case S => exact fun w H a ns hl hO hS => ..
  case C => exact ..
(the tactic k_is has no namespace: write k_is) -/

/-! SHORT WORDS over the layer: a def of the text, its body, what a loop and a test want. -/
namespace L2
open PySem PySem.Spec PyProof.Rows

/-! ### the text by places -/
/-- the j-th statement of a class's body -/
noncomputable def inClass (s : Stmt) (j : Nat) : Stmt := match s with
  | .ClassDef _ _ _ body _ _ _ _ _ _ _ => body.getD j (.Pass ⟨0, 0, 0, 0⟩)
  | _ => .Pass ⟨0, 0, 0, 0⟩
noncomputable def defArgs (s : Stmt) : Arguments := match s with
  | .FunctionDef _ a _ _ _ _ _ _ _ _ => a
  | _ => { posonlyargs := [], args := [], vararg := none, kwonlyargs := [], kw_defaults := [], kwarg := none, defaults := [] }
noncomputable def defBody (s : Stmt) : List Stmt := match s with
  | .FunctionDef _ _ b _ _ _ _ _ _ _ => b
  | _ => []
noncomputable def defScope (s : Stmt) : Scope := match s with
  | .FunctionDef _ _ _ _ _ _ sc _ _ _ => sc
  | _ => { kind := .function, names := [], isGenerator := false, isCoroutine := false }

/-! ### no exception leaves a def -/
noncomputable abbrev CX0 : CXT := fun _ _ _ _ _ _ => False
noncomputable abbrev E0 : XK := fun _ _ _ => False
theorem pass0 {X : Cx} : Passes CX0 X E0 := fun _ _ _ _ _ _ _ h => h.elim

/-! ### a def (or method) of the text as it stands behind the top -/
structure Fun (K : PySem.W.Frag) (x qual : Str) (st : Stmt) (f : Addr) (fd : FuncData) : Prop where
  ex : ∃ (oc : Value) (od : Option Addr) (kV doc pm : Value) (an : Option Addr) (cdv ct : Value) (osl : Array (Option Value)),
    fd = PySem.W.fnOf x qual (defArgs st) (defBody st) (defScope st) .none kV doc pm an cdv ct ∧ K.lookup f = some ⟨oc, od, .func fd, osl⟩ ∧ PySem.W.codeIn K cdv qual = true
  kp : PySem.W.keepIn K (.ref f) = true
section
variable {P : Program} {w : World} {K : PySem.W.Frag} {mg : Str → Option Value} {base : Heap}
/-- THE RULE for a def: its body as a term of rules, and the reading of that term -/
theorem Fun.ok {x qual : Str} {st : Stmt} {f : Addr} {fd : FuncData} {N ps : List Str} {k : Nat} {sp : Sp} (F : Fun K x qual st f fd) (S : FnScope N ps (defScope st)) (len : ∀ vs H Q E, sp vs H Q E → vs.length = ps.length)
    (hbody : ∀ (cdv : Value) (A : Around) (outer : List Env) (s : Shared) (H : Hp) (vs : List V) (Q : VK) (E : XK), Room k (A.deeper (envOfC qual (defScope st) s.heap.objs.size f cdv)) → sp vs H Q E →
      ∃ t, PSs (cxOf CX0 P w K mg base N qual (defScope st) f cdv A outer s H E).nox (defBody st) t ∧ t { nx := fun _ H' => Q .non H', rt := Q } (start N vs) H) : FnOk P w K mg base CX0 (k + 1) f fd ps sp := by
  obtain ⟨oc, od, kV, doc, pm, an, cdv, ct, osl, rfl, lk, hcd⟩ := F.ex
  refine fn_of lk hcd S len fun A outer s H vs Q E hr hsp => ?_
  obtain ⟨t, h, q⟩ := hbody cdv A outer s H vs Q E hr hsp
  exact ⟨t, h.nox, q⟩
/-- how its arguments bind (no defaults): h is «fun _ _ _ _ _ _ us hl => match us, hl with | [_, _], _ => rfl», one _ a parameter -/
theorem Fun.binds {x qual : Str} {st : Stmt} {f : Addr} {fd : FuncData} {ps : List Str} (F : Fun K x qual st f fd)
    (h : ∀ (kV doc pm : Value) (an : Option Addr) (cdv ct : Value) (us : List Value), us.length = ps.length → bindArgs (PySem.W.fnOf x qual (defArgs st) (defBody st) (defScope st) .none kV doc pm an cdv ct) ⟨us, []⟩ = pure (ps.zip us)) : Binds K fd ps [] := by
  obtain ⟨oc, od, kV, doc, pm, an, cdv, ct, osl, rfl, lk, hcd⟩ := F.ex
  exact .all (h kV doc pm an cdv ct)
theorem fun_mk {x qual : Str} {st : Stmt} {f : Addr} {oc : Value} {od an : Option Addr} {osl : Array (Option Value)} {kV doc pm cdv ct : Value} (l : K.lookup f = some ⟨oc, od, .func (PySem.W.fnOf x qual (defArgs st) (defBody st) (defScope st) .none kV doc pm an cdv ct), osl⟩)
    (c : PySem.W.codeIn K cdv qual = true) (k : PySem.W.keepIn K (.ref f) = true) : Fun K x qual st f (PySem.W.fnOf x qual (defArgs st) (defBody st) (defScope st) .none kV doc pm an cdv ct) := ⟨⟨oc, od, kV, doc, pm, an, cdv, ct, osl, rfl, l, c⟩, k⟩
end

/-! ### expressions in short: the name that stands in the i-th slot -/
section
variable {X : Cx}
theorem pv (i : Nat) {x : Str} {pos : Pos} (hN : X.N[i]? = some x := by rfl) (hv : Vis X.env.scope x := by first | exact Or.inl rfl | exact Or.inr (Or.inl rfl) | exact Or.inr (Or.inr rfl)) (hd : (x == ("__debug__" : Str)) = false := by decide)
    (hcd : (x == ("__classdict__" : Str)) = false := by decide) : PE X (.Name x pos) (tVar i) := pe_var hN hv hd hcd
end

/-! ### tests -/
theorem iteF {A B : Prop} (h : B) : if false = true then A else B := by
  rw [if_neg Bool.false_ne_true]
  exact h
theorem iteT {A B : Prop} (h : A) : if true = true then A else B := by
  rw [if_pos rfl]
  exact h
theorem ite2 {c A B : Prop} [Decidable c] (h1 : c → A) (h2 : ¬ c → B) : if c then A else B := by
  by_cases h : c
  · rw [if_pos h]
    exact h1 h
  · rw [if_neg h]
    exact h2 h

/-! ### heaps -/
/-- all that was tracked is as it was -/
noncomputable def Same (H H' : Hp) : Prop := ∀ b o, H b = some o → H' b = some o
theorem Same.refl (H : Hp) : Same H H := fun _ _ h => h
theorem Same.trans {H H1 H2 : Hp} (a : Same H H1) (b : Same H1 H2) : Same H H2 := fun c o h => b c o (a c o h)
theorem Same.free {H H' : Hp} (e : Same H H') {l : Addr} (h : H' l = Option.none) : H l = Option.none := by
  cases q : H l with
  | none => rfl
  | some o =>
    rw [e l o q] at h
    cases h
theorem Same.seq {K : PySem.W.Frag} {H H' : Hp} {a : Addr} {xs : List V} (e : Same H H') (h : SqL K H a xs) : SqL K H' a xs := by
  rcases h with (h | ⟨o, h⟩) | h
  · exact .inl (.inl (e _ _ h))
  · exact .inl (.inr ⟨o, e _ _ h⟩)
  · exact .inr h

end L2

namespace L2
open PySem PySem.Spec PyProof.Rows

/-! ### a list comprehension: its block -/
noncomputable def closOf (names : List (Str × NameKind)) (cells : List (Str × Addr)) : List (Str × Addr) → List (Str × Addr) :=
  fun acc => names.foldl (fun a y => if y.2 == NameKind.free then (match cells.lookup y.1 with | some c => (y.1, c) :: a | none => a) else a) acc

theorem clos_forIn (env : Env) : ∀ (names : List (Str × NameKind)) (acc : List (Str × Addr)), (∀ y ∈ names, y.2 = .free → ∃ c, env.cells.lookup y.1 = some c) →
    (forIn names acc fun (x : Str × NameKind) (r : List (Str × Addr)) => (match x with
      | (name, kind) => if (kind == NameKind.free) = true then (do let c ← cellOf env name; pure (ForInStep.yield ((name, c) :: r))) else pure (ForInStep.yield r) : Sem (ForInStep (List (Str × Addr))))) = (pure (closOf names env.cells acc) : Sem _)
  | [], acc, _ => rfl
  | (n, k) :: r, acc, h => by
    have ih := fun a => clos_forIn env r a fun y hy => h y (List.mem_cons_of_mem _ hy)
    rw [List.forIn_cons]
    by_cases hk : (k == NameKind.free) = true
    · obtain ⟨c, hc⟩ := h (n, k) List.mem_cons_self (by simpa using hk)
      have e1 : cellOf env n = pure c := by unfold cellOf; simp only at hc; rw [hc]
      simp only [hk, if_true, e1]
      have e2 : closOf ((n, k) :: r) env.cells acc = closOf r env.cells ((n, c) :: acc) := by
        unfold closOf; rw [List.foldl_cons]; simp only [hk, if_true]; simp only at hc; rw [hc]
      rw [e2, ← ih]; rfl
    · have e2 : closOf ((n, k) :: r) env.cells acc = closOf r env.cells acc := by
        unfold closOf; rw [List.foldl_cons]; simp only [hk]; rfl
      simp only [hk]
      rw [e2, ← ih]; rfl

theorem closure_eq {scope : Scope} {env : Env} (h : ∀ y ∈ scope.names, y.2 = .free → ∃ c, env.cells.lookup y.1 = some c) : closureFor scope env = pure (closOf scope.names env.cells []) := by
  unfold closureFor
  have e := clos_forIn env scope.names [] h
  first
    | (rw [e]; rfl)
    | (simp only [e]; rfl)
    | (show (forIn _ _ _ >>= _) = _; erw [e]; rfl)

theorem closOf_mem {cells : List (Str × Addr)} : ∀ (names : List (Str × NameKind)) (acc : List (Str × Addr)) {p : Str × Addr}, p ∈ closOf names cells acc → p ∈ acc ∨ (cells.lookup p.1 = some p.2 ∧ (p.1, NameKind.free) ∈ names)
  | [], _, _, h => .inl h
  | (n, k) :: r, acc, p, h => by
    unfold closOf at h
    rw [List.foldl_cons] at h
    by_cases hk : (k == NameKind.free) = true
    · simp only [hk, if_true] at h
      have hk' : k = .free := by simpa using hk
      cases hc : cells.lookup n with
      | none =>
        rw [hc] at h
        rcases closOf_mem r acc h with z | ⟨z, z'⟩
        · exact .inl z
        · exact .inr ⟨z, List.mem_cons_of_mem _ z'⟩
      | some c =>
        rw [hc] at h
        rcases closOf_mem r ((n, c) :: acc) h with z | ⟨z, z'⟩
        · rcases List.mem_cons.mp z with z | z
          · subst z; exact .inr ⟨hc, by rw [hk']; exact List.mem_cons_self⟩
          · exact .inl z
        · exact .inr ⟨z, List.mem_cons_of_mem _ z'⟩
    · simp only [hk] at h
      rcases closOf_mem r acc h with z | ⟨z, z'⟩
      · exact .inl z
      · exact .inr ⟨z, List.mem_cons_of_mem _ z'⟩
theorem closOf_keep {cells : List (Str × Addr)} : ∀ (names : List (Str × NameKind)) (acc : List (Str × Addr)) {p : Str × Addr}, p ∈ acc → p ∈ closOf names cells acc
  | [], _, _, h => h
  | (n, k) :: r, acc, p, h => by
    unfold closOf
    rw [List.foldl_cons]
    by_cases hk : (k == NameKind.free) = true
    · simp only [hk, if_true]
      cases hc : cells.lookup n with
      | none => exact closOf_keep r acc h
      | some c => exact closOf_keep r ((n, c) :: acc) (List.mem_cons_of_mem _ h)
    · simp only [hk]; exact closOf_keep r acc h
theorem closOf_has {cells : List (Str × Addr)} : ∀ (names : List (Str × NameKind)) (acc : List (Str × Addr)) {y : Str} {c : Addr}, (y, NameKind.free) ∈ names → cells.lookup y = some c → (y, c) ∈ closOf names cells acc
  | (n, k) :: r, acc, y, c, h, hc => by
    unfold closOf
    rw [List.foldl_cons]
    rcases List.mem_cons.mp h with z | z
    · cases z
      simp only [beq_self_eq_true, if_true, hc]
      exact closOf_keep r _ List.mem_cons_self
    · by_cases hk : (k == NameKind.free) = true
      · simp only [hk, if_true]
        cases hn : cells.lookup n with
        | none => exact closOf_has r acc z hc
        | some d => exact closOf_has r _ z hc
      · simp only [hk]; exact closOf_has r acc z hc
theorem mem_of_lookup' {α : Type} : ∀ {l : List (Str × α)} {x : Str} {c : α}, l.lookup x = some c → (x, c) ∈ l
  | [], _, _, h => by simp at h
  | (n, d) :: r, x, c, h => by
    rw [List.lookup_cons] at h
    cases hx : x == n with
    | true =>
      rw [hx] at h
      have e : x = n := by simpa using hx
      have e2 : d = c := by simpa using h
      rw [e, e2]; exact List.mem_cons_self
    | false => rw [hx] at h; exact List.mem_cons_of_mem _ (mem_of_lookup' h)
theorem lookup_of_mem' {α : Type} : ∀ {l : List (Str × α)} {x : Str} {c : α}, (x, c) ∈ l → ∃ d, l.lookup x = some d
  | (n, d) :: r, x, c, h => by
    rw [List.lookup_cons]
    cases hx : x == n with
    | true => exact ⟨d, rfl⟩
    | false =>
      rcases List.mem_cons.mp h with z | z
      · have : x = n := congrArg Prod.fst z
        rw [this] at hx; simp at hx
      · exact lookup_of_mem' z

theorem relabel_kind {env : Env} : ∀ {names : List (Str × NameKind)} {x : Str} {k : NameKind}, (∀ y ∈ names, y.2 ≠ .cell) →
    (names.map fun (n, k) => if (k == NameKind.free && env.scope.kind == .function && env.kindOf n == some .cell) then (n, NameKind.cell) else (n, k)).lookup x = some k →
    names.lookup x = some k ∨ (names.lookup x = some .free ∧ k = .cell)
  | [], _, _, _, h => by simp at h
  | (n, k') :: r, x, k, hc, h => by
    have ih := @relabel_kind env r x k fun y hy => hc y (List.mem_cons_of_mem _ hy)
    rw [List.map_cons] at h
    by_cases hcnd : (k' == NameKind.free && env.scope.kind == .function && env.kindOf n == some .cell) = true
    · simp only [hcnd, if_true] at h
      rw [List.lookup_cons] at h ⊢
      cases hx : x == n with
      | true =>
        rw [hx] at h
        have hk' : k' = .free := by
          have := (Bool.and_eq_true_iff.mp (Bool.and_eq_true_iff.mp hcnd).1).1
          simpa using this
        have : NameKind.cell = k := by simpa using h
        exact .inr ⟨by rw [hk'], this.symm⟩
      | false => rw [hx] at h; exact ih h
    · simp only [hcnd] at h
      rw [show (if false = true then (n, NameKind.cell) else (n, k')) = (n, k') from rfl] at h
      rw [List.lookup_cons] at h ⊢
      cases hx : x == n with
      | true => rw [hx] at h; exact .inl h
      | false => rw [hx] at h; exact ih h

/-- what a comprehension's scope must be like: its own name x, the names that it takes from around -/
structure CScope (N N' : List Str) (x : Str) (sc osc : Scope) : Prop where
  kind : sc.kind = .function
  nocell : ∀ y ∈ sc.names, y.2 ≠ .cell
  own : ∀ y ∈ sc.names, y.2 = .local → y.1 = x ∨ y.1 = ".0"
  has : sc.names.lookup x = some .local
  names : ∀ y ∈ sc.names, y.2 = .local → sc.names.lookup y.1 = some .local
  nox : x ∉ N'
  no0 : (".0" : Str) ∉ N'
  nd : N'.Nodup
  len : N'.length = N.length
  sub : ∀ p ∈ N.zip N', p.1 = p.2 ∨ sc.names.lookup p.2 = none
  free : ∀ y ∈ sc.names, y.2 = .free → osc.names.lookup y.1 = some .cell ∨ osc.names.lookup y.1 = some .free
/-- .. looked at by program -/
noncomputable def csOk (N N' : List Str) (x : Str) (sc osc : Scope) : Bool :=
  decide (sc.kind = .function) && decide (∀ y ∈ sc.names, y.2 ≠ .cell) && decide (∀ y ∈ sc.names, y.2 = .local → y.1 = x ∨ y.1 = ".0") && decide (sc.names.lookup x = some .local) &&
    decide (∀ y ∈ sc.names, y.2 = .local → sc.names.lookup y.1 = some .local) && decide (x ∉ N') && decide ((".0" : Str) ∉ N') && decide N'.Nodup && decide (N'.length = N.length) && decide (∀ p ∈ N.zip N', p.1 = p.2 ∨ sc.names.lookup p.2 = none) && decide (∀ y ∈ sc.names, y.2 = .free → osc.names.lookup y.1 = some .cell ∨ osc.names.lookup y.1 = some .free)
/-- .. where names around may be hidden by the comprehension's own -/
theorem csH {N N' : List Str} {x : Str} {sc osc : Scope} (h : csOk N N' x sc osc = true) : CScope N N' x sc osc := by
  unfold csOk at h
  simp only [Bool.and_eq_true, decide_eq_true_eq] at h
  obtain ⟨⟨⟨⟨⟨⟨⟨⟨⟨⟨h1, h2⟩, h3⟩, h4⟩, h5⟩, h6⟩, h7⟩, h9⟩, h10⟩, h11⟩, h8⟩ := h
  exact ⟨h1, h2, h3, h4, h5, h6, h7, h9, h10, h11, h8⟩
theorem cs {N : List Str} {x : Str} {sc osc : Scope} (h : csOk N N x sc osc = true) : CScope N N x sc osc := csH h

noncomputable def blk (X : Cx) (N' : List Str) (x : Str) (sc : Scope) (C : Addr) (s2 : Shared) (H2 : Hp) (fp : List Addr) : Cx :=
  { X with N := x :: N', s₀ := s2, H₀ := H2, env := compEnvC sc (closOf sc.names X.env.cells []) C X.env, outer := X.stack, stack := X.stack, ex := fp, fn := fun _ => false, pn := [], xe := fun _ _ => False }

section
variable {X : Cx} {pins : List (Addr × Obj)} {σ : St} {H H2 : Hp} {s s2 : Shared} {x : Str} {sc : Scope} {C : Addr} {fp : List Addr} {N' : List Str}

theorem blk_cells (S : CScope X.N N' x sc X.env.scope) {y : Str} {c : Addr} (h : (closOf sc.names X.env.cells []).lookup y = some c) : X.env.cells.lookup y = some c ∧ (y, NameKind.free) ∈ sc.names := by
  rcases closOf_mem _ _ (mem_of_lookup' h) with z | z
  · simp at z
  · exact z

theorem blk_ok (I : Inv X pins σ H2 s2) (S : CScope X.N N' x sc X.env.scope) (hC : s2.heap.objs.size ≤ C) (hf : ∀ b ∈ fp, FpOk X pins H2 b) (hfo : ∀ b ∈ fp, ∃ o, s2.heap.get? b = some o ∧ ∀ v, o.data ≠ .cell v) : (blk X N' x sc C s2 H2 fp).Ok where
  mod := I.ok.mod
  kind := S.kind
  glob := I.ok.glob
  blt := I.ok.blt
  above := hC
  inj := fun y z c h1 h2 => I.ok.inj y z c (blk_cells S h1).1 (blk_cells S h2).1
  has := fun y h => by
    have key : ∀ k, (relabel sc X.env).names.lookup y = some k → (k = .cell ∨ k = .free) → ∃ c, (closOf sc.names X.env.cells []).lookup y = some c := fun k hk hkk => by
      have hfree : sc.names.lookup y = some .free := by
        rcases relabel_kind (env := X.env) S.nocell hk with z | ⟨z, _⟩
        · rcases hkk with e | e
          · rw [e] at z; exact absurd rfl (S.nocell _ (mem_of_lookup' z))
          · rw [e] at z; exact z
        · exact z
      have hm := mem_of_lookup' hfree
      obtain ⟨c, hc⟩ := I.ok.has y (S.free _ hm rfl)
      exact lookup_of_mem' (closOf_has sc.names [] hm hc)
    rcases h with h | h
    · exact key _ h (.inl rfl)
    · exact key _ h (.inr rfl)
  cab := fun y c h => by cases h
  hd := fun h => I.ok.hd h
  frames := I.ok.frames
  stk := .inl rfl
  exf := fun b hb => by
    obtain ⟨o, ho, hd⟩ := hfo b hb
    refine ⟨Nat.ne_of_lt (Nat.lt_of_lt_of_le (Heap.lt_size ho) hC), fun y c h => (hf b hb).2.2.2.2.1 y c (blk_cells S h).1⟩
  bs := I.bs
  bsz := Nat.le_trans I.ok.bsz I.sz
  noex := fun b o h hb => by
    have h1 := (hf b hb).2.2.2.1
    rcases h1 with z | z
    · exact I.ok.noex b o h z
    · exact absurd (Nat.lt_of_lt_of_le (Heap.lt_size h) (Nat.le_trans I.ok.bsz z)) (Nat.lt_irrefl _)
  exfs := fun b hb h => by
    rcases List.mem_cons.mp (I.stkSub b h) with e | z
    · exact (hf b hb).2.1 e
    · exact (hf b hb).2.2.1 z
  funs := I.stack
  frf := I.stkFree

theorem blk_start {h4 : Heap} {t4 : Nat} (I : Inv X pins σ H2 s2) (S : CScope X.N N' x sc X.env.scope) (hf : ∀ b ∈ fp, FpOk X pins H2 b) (hfo : ∀ b ∈ fp, ∃ o, s2.heap.get? b = some o ∧ ∀ v, o.data ≠ .cell v)
    (hC : s2.heap.objs.size ≤ C) (hn : h4.Ns C fun _ => none) (hk : ∀ b o, s2.heap.get? b = some o → h4.get? b = some o) {q : List (Addr × Obj)} (hq : ∀ p ∈ q, h4.get? p.1 = some p.2 ∧ H2 p.1 = none ∧ p.1 ≠ C ∧ p.1 ∉ frs X.stack ∧ ∀ v, p.2.data ≠ .cell v) :
    Inv (blk X N' x sc C s2 H2 fp) q (none :: σ) H2 { s2 with heap := h4, toks := t4 } where
  ok := blk_ok I S hC hf hfo
  os := rfl
  bare := I.bare
  base := Un.kept hk
  loc := by
    refine ⟨fun _ => none, hn, fun i y v e1 e2 e3 => ?_⟩
    cases i with
    | zero => simp at e2
    | succ i =>
      have e0' : N'[i]? = some y := by simpa [blk] using e1
      have e2' : σ[i]? = some (some v) := by simpa using e2
      have hm : y ∈ N' := List.mem_of_getElem? e0'
      have e1' : X.N[i]? = some y := by
        have hi : i < X.N.length := by rw [← S.len]; exact (List.getElem?_eq_some_iff.mp e0').1
        have hz : (X.N[i], y) ∈ X.N.zip N' := by
          refine List.mem_of_getElem? (i := i) ?_
          rw [List.getElem?_zip_eq_some]
          exact ⟨List.getElem?_eq_getElem hi, e0'⟩
        rcases S.sub _ hz with z | z
        · rw [List.getElem?_eq_getElem hi]; exact congrArg some z
        · exfalso
          have no : ∀ k, (relabel sc X.env).names.lookup y ≠ some k := fun k hk => by
            rcases relabel_kind (env := X.env) S.nocell hk with w | ⟨w, _⟩
            · rw [show sc.names.lookup y = none from z] at w; cases w
            · rw [show sc.names.lookup y = none from z] at w; cases w
          rcases e3 with w | w | w
          · exact no _ w
          · exact no _ w
          · exact no _ w
      have hfree : sc.names.lookup y = some .free := by
        have case : ∀ k, (relabel sc X.env).names.lookup y = some k → (k = .local ∨ k = .cell ∨ k = .free) → sc.names.lookup y = some .free := fun k hk hkk => by
          rcases relabel_kind (env := X.env) S.nocell hk with z | ⟨z, _⟩
          · rcases hkk with e | e | e
            · rw [e] at z
              rcases S.own _ (mem_of_lookup' z) rfl with w | w
              · exact absurd (w ▸ hm) S.nox
              · exact absurd (w ▸ hm) S.no0
            · rw [e] at z; exact absurd rfl (S.nocell _ (mem_of_lookup' z))
            · rw [e] at z; exact z
          · exact z
        rcases e3 with z | z | z
        · exact case _ z (.inl rfl)
        · exact case _ z (.inr (.inl rfl))
        · exact case _ z (.inr (.inr rfl))
      have hmem := mem_of_lookup' hfree
      have kd : X.env.kindOf y = some .cell ∨ X.env.kindOf y = some .free := S.free _ hmem rfl
      obtain ⟨m, hnm, hl⟩ := I.loc
      obtain ⟨u, r, lk⟩ := hl i y v e1' e2' (by rcases kd with z | z; exact .inr (.inl z); exact .inr (.inr z))
      obtain ⟨c, hc, hcell⟩ : ∃ c, X.env.cells.lookup y = some c ∧ s2.heap.IsCell c (some u) := by
        rcases lk with ⟨z, _⟩ | ⟨_, z⟩
        · rcases kd with w | w
          · rw [w] at z; cases z
          · rw [w] at z; cases z
        · exact z
      refine ⟨u, r, .inr ⟨?_, c, ?_, ?_⟩⟩
      · rcases e3 with z | z | z
        · exfalso
          rcases relabel_kind (env := X.env) S.nocell z with q | ⟨_, q⟩
          · rw [hfree] at q; cases q
          · cases q
        · exact .inl z
        · exact .inr z
      · obtain ⟨d, hd⟩ := lookup_of_mem' (closOf_has sc.names [] hmem hc)
        have := (blk_cells S hd).1
        rw [hc] at this; cases this
        exact hd
      · obtain ⟨o, ho, hd⟩ := hcell
        exact ⟨o, hk _ _ ho, hd⟩
  cell := fun y c e => by
    obtain ⟨v, o, ho, hd⟩ := I.cell y c (blk_cells S e).1
    exact ⟨v, o, hk _ _ ho, hd⟩
  free := I.hok.fresh hC
  freeC := fun y c e => I.freeC y c (blk_cells S e).1
  pin := fun p hp => by
    have hp' : p ∈ q := by simpa [blk] using hp
    exact hq p hp'
  hok := I.hok.kept hk
  len := by show (none :: σ).length = (x :: N').length; simp [I.len, S.len]
end
end L2

namespace L2
open PySem PySem.Spec PyProof.Rows

theorem compLoop_any {prog : Program} {w : World} {A : Around} {R : Result → Shared → Prop} {s : Shared} {elt target iter : Expr} {ifs : List Expr} {scope : Scope} {pos : Pos} {it acc : Value} {env : Env} (I : Nat → Shared → Prop)
    (turn : ∀ n s, I n s → wpAny (model prog w) A (pyNext it) (fun r s₁ => match r with
      | none => R (.ok .next) s₁
      | some v => wpAny (model prog w) A (letOwnedTupleGo target it v) (fun _ s₁' => wpAny (model prog w) A (assign target env v) (fun _ s₂ =>
          wpAny (model prog w) A (forIn ifs true fun c r => if r = true then do let ok ← isTrue c env (eval c env); pure (ForInStep.yield ok) else pure (ForInStep.yield r)) (fun ok s₃ =>
            if ok = true then wpAny (model prog w) A (eval elt env) (fun x s₄ =>
              wpAny (model prog w) A (call (.builtin "list.append") [acc, x]) (fun _ s₅ => ∃ m, m < n ∧ I m s₅) (fun _ _ => False) s₄) (fun _ _ => False) s₃
            else ∃ m, m < n ∧ I m s₃) (fun _ _ => False) s₂) (fun _ _ => False) s₁') (fun _ _ => False) s₁) (fun _ _ => False) s)
    (n : Nat) (h : I n s) :
    codeAny (model prog w) A (.compLoop (.ListComp elt [⟨target, iter, ifs, 0⟩] scope pos) 0 it acc env) R s := by
  refine codeAny_loop rfl I (fun n s hI => ?_) n h
  show wpAny _ A ((compTurn (.ListComp elt [⟨target, iter, ifs, 0⟩] scope pos) 0 it acc env).onRaise (fun x => do noteFrame x env; theTreesLotGoes x)) _ _ s
  refine wpAny_noted ?_
  rw [compTurn_list]
  refine wpAny_bind (wpAny_standAt (wpAny_bind (wpAny_mono (turn n s hI) (fun r s₁ h₁ => ?_) fun _ _ h' => h'.elim)))
  cases r with
  | none => exact wpAny_pure h₁
  | some v =>
    refine wpAny_bind (wpAny_mono h₁ (fun _ s₁' h₁' => ?_) fun _ _ h' => h'.elim)
    refine wpAny_bind (wpAny_mono h₁' (fun _ s₂ h₂ => wpAny_bind (wpAny_mono h₂ (fun ok s₃ h₃ => ?_) fun _ _ h' => h'.elim)) fun _ _ h' => h'.elim)
    cases ok with
    | false => exact wpAny_pure ⟨rfl, h₃⟩
    | true =>
      exact wpAny_bind (wpAny_bind (wpAny_mono h₃ (fun x s₄ h₄ => wpAny_bind (wpAny_mono h₄ (fun _ s₅ h₅ => wpAny_pure (wpAny_pure ⟨rfl, h₅⟩)) fun _ _ h' => h'.elim)) fun _ _ h' => h'.elim))

/-- the tests of a clause -/
noncomputable def PIfs (X : Cx) (ifs : List Expr) (t : TT) : Prop :=
  ∀ (pins : List (Addr × Obj)) (s : Shared) (σ : St) (H : Hp) (Q : Bool → Hp → Prop), Inv X pins σ H s → t σ H Q →
    wpAny (model X.prog X.w) X.A (forIn ifs true fun c r => if r = true then do let ok ← isTrue c X.env (eval c X.env); pure (ForInStep.yield ok) else pure (ForInStep.yield r)) (TP X pins σ Q) X.xe s
noncomputable def tYes : TT := fun _ H Q => Q true H
theorem pifs_nil {X : Cx} : PIfs X [] tYes := fun _ _ _ H _ I h => wpAny_tests_nil ⟨H, I, h⟩

theorem HOk.track {P : Program} {w : World} {H : Hp} {h : Heap} {a : Addr} {o : HO} (x : HOk P w H h) (hn : H a = none) (new : ObjOk P w (upd H a o) h a o) : HOk P w (upd H a o) h := fun b u e => by
  by_cases hb : b = a
  · subst hb; rw [upd_same] at e; cases e; exact new
  · rw [upd_ne hb] at e
    exact (x b u e).stay (fun c v _ q => q) (fun c q => by rw [upd_ne (ne_of_none q hn)]; exact q) fun c xs q => by rw [upd_ne (ne_of_none q hn)]; exact q
theorem Un.track {fs ex : List Addr} {H H1 : Hp} {h h1 : Heap} {a : Addr} {o : HO} (u : Un fs ex H H1 h h1) (hn : H1 a = none) (hf : h.get? a = none) : Un fs ex H (upd H1 a o) h h1 where
  keep := u.keep
  slot := u.slot
  free := fun b ob q n hx => by
    rw [upd_ne (by rintro rfl; rw [hf] at q; cases q)]
    exact u.free b ob q n hx
  there := u.there
  tups := fun b xs q => by have := u.tups b xs q; rw [upd_ne (ne_of_none this hn)]; exact this
  frzs := fun b ob y q => by have := u.frzs b ob y q; rw [upd_ne (ne_of_none this hn)]; exact this
  tbls := fun b ps q => by
    obtain ⟨m, e⟩ := u.tbls b ps q
    exact ⟨m, by rw [upd_ne (ne_of_none e hn)]; exact e⟩

/-- the reading of a comprehension: W by the turn, a measure, what is gathered so far, the heap. The clause's own name stands in slot 0, the names around it are one further -/
noncomputable def CompW (J : It) (tt : TT) (te : TE) (σ : St) (Q : VK) (W : Nat → Nat → List V → Hp → Prop) : Prop := ∀ i m ys H, W i m ys H →
  (J.stop i H ∧ ys.length ≤ sizeLine ∧ ∀ p, H p = none → Q (.ref p) (upd H p (.lst ys))) ∨
  (J.go i H ∧ ys.length < sizeLine ∧ ∀ x H', J.yld i H x H' → tt (some x :: σ) H' fun b H3 => if b = true then te (some x :: σ) H3 fun y H4 => ∃ m', m' < m ∧ W (i + 1) m' (ys ++ [y]) H4 else ∃ m', m' < m ∧ W (i + 1) m' ys H3)
noncomputable def tComp (wi : TI) (tt : TT) (te : TE) : TE := fun σ H Q => wi σ H fun J H1 => ∃ W : Nat → Nat → List V → Hp → Prop, (∃ m, W 0 m [] H1) ∧ CompW J tt te σ Q W


section
variable {X : Cx} {pins : List (Addr × Obj)} {σ : St} {x : Str} {sc : Scope} {N' : List Str}
theorem comp_core {s2 : Shared} {H2 : Hp} {elt iter : Expr} {ifs : List Expr} {px pos : Pos} {tt : TT} {te : TE} {Q : VK} {RR : Value → Addr → Result → Shared → Prop} {E : Value → Shared → Prop}
    (hc : X.calm = true) (hN : X.N.Nodup) (S : CScope X.N N' x sc X.env.scope)
    (ht : ∀ C s2 H2 fp, PIfs (blk X N' x sc C s2 H2 fp) ifs tt) (he : ∀ C s2 H2 fp, PE (blk X N' x sc C s2 H2 fp) elt te)
    (I2 : Inv X pins σ H2 s2) {it : Addr} {fp : List Addr} {tn : Nat → Heap → Prop} {J : It} (T : Turn X.prog X.w X.K (.Name x px) J fp it tn) (st2 : tn 0 s2.heap) (f2 : ∀ b ∈ fp, FpOk X pins H2 b)
    (W : Nat → Nat → List V → Hp → Prop) (w0 : ∃ m, W 0 m [] H2)
    (turn : CompW J tt te σ Q W)
    (hRR : ∀ D C s' H', Inv X pins σ H' s' → FpOk X pins H' C → (∃ m, s'.heap.Ns C m) → Q (.ref D) H' → RR (.ref D) C (.ok .next) s') :
    wpAny (model X.prog X.w) X.A (newList []) (fun acc s₃ => wpAny (model X.prog X.w) X.A (newFunctionEnv sc X.env.globals (closOf sc.names X.env.cells []) [] X.env.qual none .none (some X.env)) (fun cenv s₄ =>
      codeAny (model X.prog X.w) X.A (.compStart (.ListComp elt [⟨.Name x px, iter, ifs, 0⟩] sc pos) 0 (.ref it) acc { cenv with scope := relabel sc X.env }) (RR acc cenv.locals) s₄) E s₃) E s2 := by
  have hfo := T.obj _ _ st2
  refine wpAny_newObj_type (wpAny_newFunctionEnv S.nocell (by intro y hy; simp at hy) (fun h₁ hns₁ hsb₁ => ?_) S.kind)
  dsimp only at hns₁ hsb₁ ⊢
  generalize hHP : s2.heap.push { cls := .type "list", dict := none, data := .seq ([] : List Value).toArray } = HP at hns₁ hsb₁ ⊢
  have hC : HP.objs.size = s2.heap.objs.size + 1 := by rw [← hHP, Heap.size_push]
  have hDC : s2.heap.objs.size ≠ HP.objs.size := by rw [hC]; exact Nat.ne_of_lt (Nat.lt_succ_self _)
  have hCle : s2.heap.objs.size ≤ HP.objs.size := by rw [hC]; exact Nat.le_succ _
  have below : ∀ b, b < s2.heap.objs.size → b ≠ HP.objs.size ∧ b ≠ s2.heap.objs.size := fun b hb => ⟨by rw [hC]; exact Nat.ne_of_lt (Nat.lt_succ_of_lt hb), Nat.ne_of_lt hb⟩
  have old : ∀ b o, s2.heap.get? b = some o → h₁.get? b = some o := fun b o e => hsb₁.extBut b o (below b (Heap.lt_size e)).1 (Heap.get?_push_of_some _ (hHP ▸ Heap.get?_push_of_some _ e))
  have hacc : h₁.get? s2.heap.objs.size = some { cls := .type "list", dict := none, data := .seq ([] : List Value).toArray } := hsb₁.extBut _ _ hDC (Heap.get?_push_of_some _ (hHP ▸ Heap.get?_push_size _ rfl))
  have hDn : H2 s2.heap.objs.size = none := I2.hok.fresh (Nat.le_refl _)
  have hDfr : s2.heap.objs.size ∉ frs X.stack := fun hb => by
    obtain ⟨_, o, ho, _⟩ := I2.stack.mem hb
    exact absurd (Heap.lt_size ho) (Nat.lt_irrefl _)
  have hDfp : s2.heap.objs.size ∉ fp := fun hb => by
    obtain ⟨o, ho, _⟩ := hfo _ hb
    exact absurd (Heap.lt_size ho) (Nat.lt_irrefl _)
  have hCfp : HP.objs.size ∉ fp := fun hb => by
    obtain ⟨o, ho, _⟩ := hfo _ hb
    exact absurd (Nat.lt_of_lt_of_le (Heap.lt_size ho) hCle) (Nat.lt_irrefl _)
  obtain ⟨m0, w0⟩ := w0
  -- the iterator's own objects, within the block
  have stat : ∀ {H' : Hp} {o : Obj}, (∀ b ∈ fp, H' b = none) → ∀ b ∈ fp, FpOk (blk X N' x sc HP.objs.size s2 H2 fp) [(s2.heap.objs.size, o)] H' b := fun {H' o} hn b hb => by
    obtain ⟨f0, f1, f2', f3, f4, f5⟩ := f2 b hb
    refine ⟨hn b hb, fun e => hCfp (by rw [← show b = HP.objs.size from e]; exact hb), fun z => ?_, .inl hb, fun y c e => f4 y c (blk_cells S e).1, fun p hp => ?_⟩
    · rcases List.mem_cons.mp (I2.stkSub b z) with e | z
      · exact f1 e
      · exact f2' z
    · have : p = (s2.heap.objs.size, o) := by simpa [blk] using hp
      subst this
      rintro rfl
      exact hDfp hb
  -- the invariant
  let Iv : Nat → Shared → Prop := fun n s' => ∃ i ys its k σx H', Inv (blk X N' x sc HP.objs.size s2 H2 fp) [(s2.heap.objs.size, { cls := .type "list", data := .seq (List.toArray its) k })] (σx :: σ) H' s' ∧
    Vals ys its ∧ tn i s'.heap ∧ (∀ b ∈ fp, H' b = none) ∧ W i n ys H'
  have I4 : Inv (blk X N' x sc HP.objs.size s2 H2 fp) [(s2.heap.objs.size, { cls := .type "list", data := .seq (List.toArray []) 0 })] (none :: σ) H2 { s2 with heap := h₁, toks := s2.toks + ([] : List (Str × Value)).length } := by
    refine blk_start I2 S f2 hfo hCle (by simpa using hns₁) old fun p hp => ?_
    have e : p = (s2.heap.objs.size, { cls := .type "list", data := .seq (List.toArray []) 0 }) := by simpa using hp
    subst e
    exact ⟨hacc, hDn, hDC, hDfr, fun v => by intro z; cases z⟩
  have loop : ∀ s₃ : Shared, s₃ = { s2 with heap := h₁, toks := s2.toks + ([] : List (Str × Value)).length } →
      codeAny (model X.prog X.w) X.A (.compLoop (.ListComp elt [⟨.Name x px, iter, ifs, 0⟩] sc pos) 0 (.ref it) (.ref s2.heap.objs.size) (compEnvC sc (closOf sc.names X.env.cells []) HP.objs.size X.env))
        (RR (.ref s2.heap.objs.size) HP.objs.size) s₃ := by
    rintro s₃ rfl
    refine compLoop_any Iv ?_ m0 ⟨0, [], [], 0, none, H2, I4, .nil, T.keep _ _ _ st2 fun b _ o e => old b o e, fun b hb => (f2 b hb).1, w0⟩
    rintro n s3 ⟨i, ys, its, k, σx, H3, I3, rv, st3, fr3, w3⟩
    have hy := rv.length
    rcases turn i n ys H3 w3 with ⟨stop, hz, q⟩ | ⟨go, hz, step⟩
    · refine thn (T.done (blk X N' x sc HP.objs.size s2 H2 fp) rfl rfl rfl hc i _ s3 _ H3 _ I3 (stat fr3) st3 stop) fun r s4 ⟨hr, I4⟩ => ?_
      subst hr
      -- the end: the list is tracked
      have pD := I4.pin (s2.heap.objs.size, { cls := .type "list", data := .seq (List.toArray its) k }) (by simp [blk])
      have new : ObjOk X.prog X.w (upd H3 s2.heap.objs.size (.lst ys)) s4.heap s2.heap.objs.size (.lst ys) := ⟨hz, its, k, rv, pD.1⟩
      have hok' := I4.hok.track (o := .lst ys) pD.2.1 new
      have un' : Un (frs X.stack) fp H2 (upd H3 s2.heap.objs.size (.lst ys)) s2.heap s4.heap := I4.base.track pD.2.1 (Heap.get?_none_of_le (Nat.le_refl _))
      have IX : Inv X pins σ (upd H3 s2.heap.objs.size (.lst ys)) s4 := I2.call' I4.os un' hok' I4.bare fun b hb => ⟨(f2 b hb).2.2.2.1, (f2 b hb).2.1, (f2 b hb).2.2.2.2.1, (f2 b hb).2.2.2.2.2⟩
      obtain ⟨m, hnm, _⟩ := I4.loc
      refine hRR _ _ s4 _ IX ?_ ⟨m, hnm⟩ (q _ pD.2.1)
      exact I2.fpOk hCle (by rw [upd_ne (Ne.symm hDC)]; exact I4.free)
    · refine thn (T.item (blk X N' x sc HP.objs.size s2 H2 fp) rfl rfl rfl hc i _ s3 _ H3 _ I3 (stat fr3) st3 go) fun r s4 ⟨u, hr, h4⟩ => ?_
      subst hr
      refine thn h4 fun _ s5 ⟨y, H5, I5, r5, y5, st5, fr5⟩ => ?_
      have I5' := I5.pinned (stat fr5) (T.obj _ _ st5)
      have stepq := step y H5 y5
      have I5'' : Inv (blk X N' x sc HP.objs.size s2 H2 fp) ([(s2.heap.objs.size, { cls := .type "list", data := .seq (List.toArray its) k })] ++ pinsAt fp s5.heap) (none :: σ) H5 s5 := I5'.weak rfl fun j v e => by
        cases j with
        | zero => simp at e
        | succ j => simpa using e
      have lx : (relabel sc X.env).names.lookup x = some .local := lookup_relabel_local S.has
      have hgx : PG (blk X N' x sc HP.objs.size s2 H2 fp) (.Name x px) (gName 0) := pg_name (i := 0) (List.nodup_cons.mpr ⟨S.nox, S.nd⟩) rfl (Or.inl lx) (Or.inr lx)
      refine thn (hgx _ s5 (none :: σ) H5 y u (fun σ6 H6 => σ6 = some y :: σ ∧ tt (some y :: σ) H6 fun b H3 => if b = true then te (some y :: σ) H3 fun y H4 => ∃ m', m' < n ∧ W (i + 1) m' (ys ++ [y]) H4 else ∃ m', m' < n ∧ W (i + 1) m' ys H3) I5'' r5 ⟨rfl, stepq⟩) fun _ s6 ⟨σ6, H6, I6, e6, q6⟩ => ?_
      subst e6
      refine thn (ht _ s2 H2 fp _ s6 _ H6 _ I6 q6) fun b s7 ⟨H7, I7, q7⟩ => ?_
      -- what stands behind the turn
      have pinof : ∀ {H8 : Hp} {s8 : Shared}, Inv (blk X N' x sc HP.objs.size s2 H2 fp) ([(s2.heap.objs.size, { cls := .type "list", data := .seq (List.toArray its) k })] ++ pinsAt fp s5.heap) (some y :: σ) H8 s8 →
          tn (i + 1) s8.heap ∧ (∀ b ∈ fp, H8 b = none) := fun {H8 s8} I8 => by
        refine ⟨T.keep _ _ _ st5 fun b hb o e => (I8.pin (b, o) (List.mem_append_right _ (List.mem_append_right _ (mem_pinsAt hb e)))).1, fun b hb => ?_⟩
        obtain ⟨o, e, d⟩ := T.obj _ _ st5 b hb
        exact (I8.pin (b, o) (List.mem_append_right _ (List.mem_append_right _ (mem_pinsAt hb e)))).2.1
      cases b with
      | false =>
        obtain ⟨m', hm, w7⟩ := q7
        obtain ⟨t7, f7⟩ := pinof I7
        exact ⟨m', hm, i + 1, ys, its, k, some y, H7, I7.unpinned, rv, t7, f7, w7⟩
      | true =>
        refine thn (he _ s2 H2 fp _ s7 _ H7 _ I7 q7) fun z s8 ⟨yv, H8, I8, r8, m', hm, w8⟩ => ?_
        obtain ⟨t8, f8⟩ := pinof I8
        have pD := I8.pin (s2.heap.objs.size, { cls := .type "list", data := .seq (List.toArray its) k }) (by simp [blk])
        refine call_meets F.slot_list_append ⟨_, pD.1, rfl⟩ F.entry_list_append (F.args_list_append_2 _ _) (PySem.list_append s2.heap.objs.size its.toArray k z (by rw [List.size_toArray]; omega)) ⟨pD.1, ?_⟩
        have e9 := PySem.IsL.update pD.1 (fun a => a.push z)
        rw [show its.toArray.push z = (its ++ [z]).toArray by simp] at e9
        obtain ⟨k', e9⟩ : ∃ k', (s8.heap.update s2.heap.objs.size (Obj.mapSeq fun a => a.push z)).get? s2.heap.objs.size = some { cls := .type "list", data := .seq (its ++ [z]).toArray k' } := ⟨_, e9⟩
        have other : ∀ b, b ≠ s2.heap.objs.size → (s8.heap.update s2.heap.objs.size (Obj.mapSeq fun a => a.push z)).get? b = s8.heap.get? b := fun b hb => Heap.get?_update_other _ _ (Ne.symm hb)
        have I8' : Inv (blk X N' x sc HP.objs.size s2 H2 fp) [] (some y :: σ) H8 s8 := I8.pins_of fun p hp => nomatch hp
        have I9 : Inv (blk X N' x sc HP.objs.size s2 H2 fp) [] (some y :: σ) H8 { s8 with heap := s8.heap.update s2.heap.objs.size (Obj.mapSeq fun a => a.push z) } := by
          refine I8'.turned (it := s2.heap.objs.size) (fun b o hb e => (other b hb).trans e) pD.2.1 hDC (.inr (Nat.le_refl _)) (fun y c e => ?_) fun p hp => ?_
          · intro hcc
            obtain ⟨v, o, ho, _⟩ := I2.cell y c (blk_cells S e).1
            exact absurd (Heap.lt_size ho) (by rw [hcc]; exact Nat.lt_irrefl _)
          · simp [blk] at hp
        have I10 : Inv (blk X N' x sc HP.objs.size s2 H2 fp) [(s2.heap.objs.size, { cls := .type "list", data := .seq (List.toArray (its ++ [z])) k' })] (some y :: σ) H8 { s8 with heap := s8.heap.update s2.heap.objs.size (Obj.mapSeq fun a => a.push z) } := I9.pins_of fun p hp => by
          have e := List.mem_singleton.mp hp
          subst e
          exact ⟨e9, pD.2.1, hDC, hDfr, fun v => by intro z; cases z⟩
        have t9 : tn (i + 1) (s8.heap.update s2.heap.objs.size (Obj.mapSeq fun a => a.push z)) := T.keep _ _ _ t8 fun b hb o e => by
          rw [other b (by rintro rfl; exact hDfp hb)]; exact e
        exact ⟨m', hm, i + 1, ys ++ [yv], its ++ [z], k', some y, H8, I10, rv.append (.cons r8 .nil), t9, f8, w8⟩
  exact codeAny_compStart_list (loop _ rfl) (T.self X.A 0 _ _ _ (T.keep _ _ _ st2 fun b _ o e => old b o e) (loop _ rfl))


/-- [e for x in it if c], as a value -/
theorem pe_comp {iter elt : Expr} {ifs : List Expr} {px pos : Pos} {wi : TI} {tt : TT} {te : TE} (hc : X.calm = true) (hN : X.N.Nodup) (S : CScope X.N N' x sc X.env.scope) (hi : PI X (.Name x px) iter wi)
    (ht : ∀ C s2 H2 fp, PIfs (blk X N' x sc C s2 H2 fp) ifs tt) (he : ∀ C s2 H2 fp, PE (blk X N' x sc C s2 H2 fp) elt te) (hs : ∀ v, foldedSetIterable iter X.env v = pure v := by intro _; rfl) :
    PE X (.ListComp elt [⟨.Name x px, iter, ifs, 0⟩] sc pos) (tComp wi tt te) := by
  intro pins s σ H Q I h
  have hclos : closureFor sc X.env = pure (closOf sc.names X.env.cells []) := closure_eq fun y hy hk => I.ok.has _ (S.free y hy hk)
  rw [eval_ListComp]
  refine wpAny_comprehension_free (use := none) rfl hs hclos S.kind S.names (thn (hi pins s σ H _ I h) fun v s1 h1 => thn h1 fun itv s2 h2 => ?_)
  obtain ⟨it, fp, tn, J, H2, e, I2, T, st2, f2, W, w0, turn⟩ := h2
  subst e
  refine comp_core (RR := fun acc C => compPost (model X.prog X.w) X.A X.xe none (EP X pins σ Q) acc C) hc hN S ht he I2 T st2 f2 W w0 turn fun D C s' H' I' fC hn q => ?_
  obtain ⟨m, hn⟩ := hn
  refine ⟨m, hn, fun h' hs' => ⟨.ref D, H', ?_, rfl, q⟩⟩
  exact I'.turned (t' := s'.toks) (fun b o hb e => (hs'.2 b hb).trans e) fC.1 fC.2.1 fC.2.2.2.1 fC.2.2.2.2.1 fC.2.2.2.2.2

/-- y = [e for x in it if c] -/
theorem ps_setC {i : Nat} {y : Str} {py spos : Pos} {iter elt : Expr} {ifs : List Expr} {px pos : Pos} {wi : TI} {tt : TT} {te : TE} (hc : X.calm = true) (hN : X.N.Nodup) (hyi : X.N[i]? = some y) (hy : X.env.scope.names.lookup y = some .local)
    (S : CScope X.N N' x sc X.env.scope) (hi : PI X (.Name x px) iter wi)
    (ht : ∀ C s2 H2 fp, PIfs (blk X N' x sc C s2 H2 fp) ifs tt) (he : ∀ C s2 H2 fp, PE (blk X N' x sc C s2 H2 fp) elt te) (hs : ∀ v, foldedSetIterable iter X.env v = pure v := by intro _; rfl)
    (hsw : swapsWith (.ListComp elt [⟨.Name x px, iter, ifs, 0⟩] sc pos) (some (.Name y py)) spos.line X.env = pure true := by rfl) :
    PS X (.Assign [.Name y py] (.ListComp elt [⟨.Name x px, iter, ifs, 0⟩] sc pos) spos) (tAsg (tComp wi tt te) (gName i)) := by
  intro pins s σ H D I h
  have hclos : closureFor sc X.env = pure (closOf sc.names X.env.cells []) := closure_eq fun y hy hk => I.ok.has _ (S.free y hy hk)
  rw [exec_Assign_Name_used _ _ _ _ hsw]
  refine wpAny_bind (wpAny_standAt (wpAny_bind ?_))
  show wpAny _ X.A (do let _ ← comprehension (.ListComp elt [⟨.Name x px, iter, ifs, 0⟩] sc pos) sc X.env _ (newList []) false (eval iter X.env) (some (assign (.Name y py) X.env))) _ _ s
  refine wpAny_bind (wpAny_mono (wpAny_comprehension_free (use := some (assign (.Name y py) X.env)) (Q := fun _ s' => SP X pins D .next s') rfl hs hclos S.kind S.names
    (thn (hi pins s σ H _ I h) fun v s1 h1 => thn h1 fun itv s2 h2 => ?_)) (fun _ s' hq => wpAny_pure (wpAny_pure hq)) fun _ _ e => e)
  obtain ⟨it, fp, tn, J, H2, e, I2, T, st2, f2, W, w0, turn⟩ := h2
  subst e
  refine comp_core (RR := fun acc C => compPost (model X.prog X.w) X.A X.xe (some (assign (.Name y py) X.env)) (fun _ s' => SP X pins D .next s') acc C) hc hN S ht he I2 T st2 f2 W w0 turn fun Da C s' H' I' fC hn q => ?_
  obtain ⟨m, hn⟩ := hn
  show wpAny _ X.A (assign (.Name y py) X.env (.ref Da)) _ _ _
  refine wpAny_assign_Name (store_ok2 I' hN hyi (Or.inl hy) (v := .ref Da) rfl (fun s'' I'' ⟨a, hsb, ha⟩ => ?_) (Or.inr hy))
  have hCa : C ≠ a := by
    rintro rfl
    rcases ha with z | z
    · exact fC.2.1 z
    · exact fC.2.2.2.2.1 _ _ z rfl
  refine ⟨m, hn.sameBut hsb hCa, fun h' hs' => ⟨_, H', ?_, q⟩⟩
  exact I''.turned (t' := s''.toks) (fun b o hb e => (hs'.2 b hb).trans e) fC.1 fC.2.1 fC.2.2.2.1 fC.2.2.2.2.1 fC.2.2.2.2.2
end
end L2

namespace L2
open PySem PySem.Spec PyProof.Rows

/-! ### exceptions -/
/-- what a change of the fields leaves -/
theorem dict_mf (o : Obj) (f : Array Value → Array Value) : (o.mapFields f).dict = o.dict := by unfold Obj.mapFields; split <;> rfl
/-- an exception's object in flight: young, untracked, apart; its traceback is none yet, or rests -/
noncomputable def XObj (ap : Addr → Prop) (H : Hp) (h : Heap) (e : Addr) (cls : Value) (od : Option Addr) : Prop :=
  H e = none ∧ ap e ∧ ∃ oe vs, h.get? e = some oe ∧ oe.cls = cls ∧ oe.dict = od ∧ oe.data = .fields vs ∧ 1 < vs.size ∧ vs[2]? = some .none ∧
    (vs[1]? = some .none ∨ ∃ T oT ts, vs[1]? = some (.ref T) ∧ T ≠ e ∧ H T = none ∧ ap T ∧ h.get? T = some oT ∧ oT.data = .fields ts ∧ ts[3]? = some .none)
theorem XObj.weak {ap ap' : Addr → Prop} {H : Hp} {h : Heap} {e : Addr} {cls : Value} {od : Option Addr} (x : XObj ap H h e cls od) (ha : ∀ b, ap b → ap' b) : XObj ap' H h e cls od := by
  obtain ⟨x2, x3, oe, vs, x4, x5, xd, x6, x7, x9, x8⟩ := x
  refine ⟨x2, ha e x3, oe, vs, x4, x5, xd, x6, x7, x9, ?_⟩
  rcases x8 with z | ⟨T, oT, ts, z1, z3, z4, z5, z6⟩
  · exact .inl z
  · exact .inr ⟨T, oT, ts, z1, z3, z4, ha T z5, z6⟩
theorem ObjOk.there {P : Program} {w : World} {H : Hp} {h : Heap} {a : Addr} {o : HO} (x : ObjOk P w H h a o) : ∃ ob, h.get? a = some ob := by
  cases o with
  | lst xs => obtain ⟨_, _, _, _, e⟩ := x; exact ⟨_, e⟩
  | tup xs => obtain ⟨_, _, _, ⟨o, e, _⟩⟩ := x; exact ⟨_, e⟩
  | dK kvs => obtain ⟨_, _, _, _, o, _, _, e, _⟩ := x; exact ⟨_, e⟩
  | dT kvs => obtain ⟨_, _, _, _, o, _, _, e, _⟩ := x; exact ⟨_, e⟩
  | set S n => obtain ⟨o, _, _, _, e, _⟩ := x; exact ⟨_, e⟩
  | ins C dx fs => obtain ⟨_, _, _, e, _⟩ := x; exact ⟨_, e⟩
  | own y => exact x
  | xd fs => obtain ⟨_, ⟨_, _, _, e, _⟩, _⟩ := x; exact ⟨_, e⟩
  | rng lo hi => obtain ⟨_, _, _, e⟩ := x; exact ⟨_, e⟩
  | frz ob u => obtain ⟨e, _⟩ := x; exact ⟨_, e⟩
  | tbl ps => exact ⟨_, x⟩
  | met f y => exact ⟨_, x⟩
  | ext φ => obtain ⟨_, e, _⟩ := x; exact e

section
variable {M : Model} {A : Around} {E : Value → Shared → Prop} {s : Shared}
/-- a new entry of the traceback: all is kept but e, and the frames' slots -/
theorem entry_X {base : Heap} {env : Env} {outer : List Env} {L e : Addr} {oe : Obj} {vs : Array Value} {head : Value} {hadNext : Bool} {Q : Unit → Shared → Prop}
    (hfr : A.frames = some (env :: outer)) (hl : s.heap.FunFrames base (env :: outer)) (hf : env.frame = some L) (he : s.heap.get? e = some oe) (hd : oe.data = .fields vs) (hsz : 1 < vs.size)
    (h : ∀ h' T oT ts, (∀ b o, b ≠ e → b ∉ frs (env :: outer) → s.heap.get? b = some o → h'.get? b = some o) → (∀ b o, b ≠ e → s.heap.get? b = some o → ∃ sl, h'.get? b = some { o with slots := sl }) →
      h'.get? e = some (oe.mapFields (·.setIfInBounds 1 (.ref T))) → s.heap.objs.size ≤ T → h'.get? T = some oT → oT.data = .fields ts → ts[3]? = some .none → Q () { s with heap := h' }) :
    wpAny M A (do let a ← frameOf env; let pl ← entryPlaceOf L hadNext; let b ← EntryCells.newEntry head a .none (rawInt L) .none pl; setField (.ref e) 1 b) (fun _ s' => wpAny M A (setFlight (.ref e) none) Q E s') E s := by
  have hene : e ∉ (env :: outer).filterMap (·.frame) := fun hm => by
    obtain ⟨_, o, ho, hnf⟩ := hl.mem hm
    rw [he] at ho; injection ho with ho; subst ho; exact hnf vs hd
  refine wpAny_bind (wpAny_frameOf_fun hfr hl hf fun h1 hs1 => ?_)
  refine wpAny_bind (wpAny_entryPlaceOf fun pl hpl => ?_)
  unfold EntryCells.newEntry newFields
  refine wpAny_bind (wpAny_newObj_type ?_ (hpl.sizeOk5 _ _ _ _ _))
  generalize hob : ({ cls := .type "traceback", dict := none, data := .fields ([head, .ref L, .none, rawInt L, .none] ++ (if pl.isEmpty then List.replicate 6 Value.none else pl)).toArray } : Obj) = ob
  have hobd : ob.data = .fields ([head, .ref L, .none, rawInt L, .none] ++ (if pl.isEmpty then List.replicate 6 Value.none else pl)).toArray := by rw [← hob]
  have hobf : ob.isFreed = false := Obj.isFreed_of_fields hobd
  have he1 : h1.get? e = some oe := (hs1.2.1 e hene).trans he
  have he2 := Heap.get?_push_of_some (h := h1) ob he1
  refine wpAny_setField he2 hd hsz ?_
  have hTe : h1.objs.size ≠ e := Nat.ne_of_gt (Heap.lt_size he1)
  have hd3 := Obj.data_mapFields hd (·.setIfInBounds 1 (Value.ref h1.objs.size))
  have he3 := Heap.get?_update_self (Obj.mapFields (·.setIfInBounds 1 (Value.ref h1.objs.size))) he2 (Obj.isFreed_of_fields hd3)
  have hT3 := (Heap.get?_update_other (h1.push ob) (Obj.mapFields (·.setIfInBounds 1 (Value.ref h1.objs.size))) (Ne.symm hTe)).trans (Heap.get?_push_size h1 hobf)
  unfold setFlight
  refine wpAny_bind (wpAny_field he3 hd3 (x := .ref h1.objs.size) (by simp [hsz]) ?_)
  rw [if_pos (show (Value.ref h1.objs.size != Value.none) = true from by simp)]
  have h3sz : 3 < ([head, .ref L, .none, rawInt L, .none] ++ (if pl.isEmpty then List.replicate 6 Value.none else pl)).toArray.size := by
    simp only [List.size_toArray, List.length_append, List.length_cons, List.length_nil]; omega
  refine wpAny_setField hT3 hobd h3sz ?_
  have keep : ∀ b o, b ≠ e → h1.get? b = some o → ((((h1.push ob).update e (Obj.mapFields (·.setIfInBounds 1 (Value.ref h1.objs.size)))).update h1.objs.size
      (Obj.mapFields (·.setIfInBounds 3 ((none : Option Addr).elim Value.none fun f => rawInt f)))).get? b = some o) := fun b o hbe hb => by
    have hbT : h1.objs.size ≠ b := Nat.ne_of_gt (Heap.lt_size hb)
    rw [Heap.get?_update_other _ _ hbT, Heap.get?_update_other _ _ (Ne.symm hbe)]
    exact Heap.get?_push_of_some _ hb
  refine h _ h1.objs.size _ _ (fun b o hbe hbf hb => keep b o hbe ((hs1.2.1 b hbf).trans hb)) (fun b o hbe hb => ?_) ?_ (Nat.le_of_eq hs1.1.symm)
    (Heap.get?_update_self _ hT3 (Obj.isFreed_of_fields (Obj.data_mapFields hobd _))) (Obj.data_mapFields hobd _) ?_
  · obtain ⟨sl, q⟩ := hs1.2.2 b o hb
    exact ⟨sl, keep b _ hbe q⟩
  · rw [Heap.get?_update_other _ _ hTe]; exact he3
  · rw [Array.getElem?_setIfInBounds_self_of_lt h3sz]; rfl

/-- an exception leaves a frame, or is looked at in it -/
theorem leave_X {base : Heap} {env : Env} {outer : List Env} {L e : Addr} {cls : Value} {od : Option Addr} {ap : Addr → Prop} {H : Hp} {Q : Unit → Shared → Prop}
    (hfr : A.frames = some (env :: outer)) (hl : s.heap.FunFrames base (env :: outer)) (hf : env.frame = some L) (x : XObj ap H s.heap e cls od) (hfresh : ∀ b, s.heap.objs.size ≤ b → H b = none ∧ ap b)
    (h : ∀ h', (∀ b o, ¬ (H b = none ∧ ap b ∧ ∃ vs, o.data = .fields vs) → b ∉ frs (env :: outer) → s.heap.get? b = some o → h'.get? b = some o) →
      (∀ b o, b ∈ frs (env :: outer) → s.heap.get? b = some o → ∃ sl, h'.get? b = some { o with slots := sl }) → (∀ b o, s.heap.get? b = some o → ∃ o', h'.get? b = some o') → XObj ap H h' e cls od → Q () { s with heap := h' }) :
    wpAny M A (noteFrame (.ref e) env) (fun _ s' => wpAny M A (setFlight (.ref e) none) Q E s') E s := by
  obtain ⟨x2, x3, oe, vs, x4, x5, xd, x6, x7, x9, x8⟩ := x
  have frne : ∀ b o vs, s.heap.get? b = some o → o.data = .fields vs → b ∉ frs (env :: outer) := fun b o vs ho hd hb => by
    obtain ⟨_, o', ho', hnf⟩ := hl.mem hb
    rw [ho] at ho'; cases ho'; exact hnf vs hd
  unfold noteFrame
  simp only [hf]
  rcases x8 with z | ⟨T, oT, ts, z1, z3, z4, z5, z6, z7, z8⟩
  · refine wpAny_bind (wpAny_field x4 x6 z ?_)
    rw [if_neg (by decide)]
    refine entry_X hfr hl hf x4 x6 x7 fun h' T oT ts k1 k2 k3 k4 k5 k6 k7 => h h' (fun b o n hb e => ?_) (fun b o hb e => k2 b o (fun q => frne _ _ _ x4 x6 (q ▸ hb)) e) (fun b o q => ?_) ?_
    · refine k1 b o (fun q => n ?_) hb e
      subst q
      rw [x4] at e; cases e
      exact ⟨x2, x3, vs, x6⟩
    · by_cases hb : b = e
      · subst hb; exact ⟨_, k3⟩
      · obtain ⟨sl, q'⟩ := k2 b o hb q; exact ⟨_, q'⟩
    · refine ⟨x2, x3, _, _, k3, (Obj.cls_mapFields _ _).trans x5, (dict_mf _ _).trans xd, Obj.data_mapFields x6 _, by simpa using x7, by rw [Array.getElem?_setIfInBounds_ne (by decide)]; exact x9, .inr ⟨T, oT, ts, by simp [x7], ?_, (hfresh T k4).1, (hfresh T k4).2, k5, k6, k7⟩⟩
      exact Nat.ne_of_gt (Nat.lt_of_lt_of_le (Heap.lt_size x4) k4)
  · refine wpAny_bind (wpAny_field x4 x6 z1 ?_)
    rw [if_pos (show (Value.ref T != Value.none) = true from by simp)]
    refine wpAny_bind (wpAny_field z6 z7 z8 ?_)
    rw [if_neg (show ¬ ((Value.none == rawInt L) = true) from by simp [rawInt])]
    refine wpAny_bind (wpAny_setField z6 z7 (Array.getElem?_eq_some_iff.mp z8).1 ?_)
    have other : ∀ b, b ≠ T → (s.heap.update T (Obj.mapFields (·.setIfInBounds 3 Value.none))).get? b = s.heap.get? b := fun b hb => Heap.get?_update_other _ _ (Ne.symm hb)
    have hTs := Heap.get?_update_self (Obj.mapFields (·.setIfInBounds 3 Value.none)) z6 (Obj.isFreed_of_fields (Obj.data_mapFields z7 _))
    have hTd := Obj.data_mapFields z7 (·.setIfInBounds 3 Value.none)
    have hsz : (s.heap.update T (Obj.mapFields (·.setIfInBounds 3 Value.none))).objs.size = s.heap.objs.size := Heap.size_after_update ..
    refine entry_X (s := { s with heap := s.heap.update T (Obj.mapFields (·.setIfInBounds 3 Value.none)) }) hfr (hl.of_keeps fun b o hb hnf => ⟨o, (other b fun q => hnf ts (by rw [q, z6] at hb; cases hb; exact z7)).trans hb, rfl⟩) hf ((other e (Ne.symm z3)).trans x4) x6 x7
      fun h' T' oT' ts' k1 k2 k3 k4 k5 k6 k7 => h h' (fun b o n hb e => ?_) (fun b o hb q => ?_) (fun b o q => ?_) ?_
    · have hbT : b ≠ T := fun q => n (by subst q; rw [z6] at e; cases e; exact ⟨z4, z5, ts, z7⟩)
      refine k1 b o (fun q => n ?_) hb ((other b hbT).trans e)
      subst q
      rw [x4] at e; cases e
      exact ⟨x2, x3, vs, x6⟩
    · have hbT : b ≠ T := fun q' => frne _ _ _ z6 z7 (q' ▸ hb)
      exact k2 b o (fun q' => frne _ _ _ x4 x6 (q' ▸ hb)) ((other b hbT).trans q)
    · by_cases hb : b = e
      · subst hb; exact ⟨_, k3⟩
      · by_cases hbT : b = T
        · subst hbT
          obtain ⟨sl, q'⟩ := k2 b _ hb hTs; exact ⟨_, q'⟩
        · obtain ⟨sl, q'⟩ := k2 b o hb ((other b hbT).trans q); exact ⟨_, q'⟩
    · have k4' : s.heap.objs.size ≤ T' := by rw [← hsz]; exact k4
      refine ⟨x2, x3, _, _, k3, (Obj.cls_mapFields _ _).trans x5, (dict_mf _ _).trans xd, Obj.data_mapFields x6 _, by simpa using x7, by rw [Array.getElem?_setIfInBounds_ne (by decide)]; exact x9, .inr ⟨T', oT', ts', by simp [x7], ?_, (hfresh T' k4').1, (hfresh T' k4').2, k5, k6, k7⟩⟩
      exact Nat.ne_of_gt (Nat.lt_of_lt_of_le (Heap.lt_size x4) k4')
end
end L2

namespace L2
open PySem PySem.Spec PyProof.Rows

noncomputable abbrev XS := Value → Option Addr → St → Hp → Prop
noncomputable def apart (X : Cx) (pins : List (Addr × Obj)) (b : Addr) : Prop := X.s₀.heap.get? b = none ∧ ∀ p ∈ X.pn ++ pins, p.1 ≠ b
/-- an exception raised here, of which E holds, is what this body wants -/
noncomputable def Rs (X : Cx) (E : XS) : Prop := ∀ (pins : List (Addr × Obj)) (σ : St) (H : Hp) (s : Shared) (e : Addr) (cls : Value) (od : Option Addr), Inv X pins σ H s → XObj (apart X pins) H s.heap e cls od → E cls od σ H → X.xe (.ref e) s
/-- how an exception lies behind a call -/
noncomputable def CX1 (P : Program) (w : World) : CXT := fun outer H s E e s' => ∃ a cls od H', e = .ref a ∧ s'.os = s.os ∧ AllBare s'.gens ∧ Un (frs outer) [] H H' s.heap s'.heap ∧ HOk P w H' s'.heap ∧ XObj (fun b => s.heap.get? b = none) H' s'.heap a cls od ∧ E cls od H'

section
variable {X : Cx} {pins : List (Addr × Obj)} {σ : St} {H H' : Hp} {s s' : Shared} {h' : Heap} {e : Addr} {cls : Value} {od : Option Addr}
theorem Inv.young (I : Inv X pins σ H s) : ∀ b, s.heap.objs.size ≤ b → H b = none ∧ apart X pins b := fun b hb => ⟨I.hok.fresh hb, Heap.get?_none_of_le (Nat.le_trans I.sz hb), fun p hp z => absurd (Nat.lt_of_lt_of_le (Heap.lt_size (I.pin p hp).1) (by rw [z]; exact hb)) (Nat.lt_irrefl _)⟩


/-- as Inv.step, the records at ch not being there at the entry -/
theorem Inv.stepN {g' : Array GenState} {t' : Nat} {d' : Drawn} {ch : List Addr} (I : Inv X pins σ H s)
    (hch : ∀ b ∈ ch, (b ∈ X.ex ∨ X.s₀.heap.get? b = none) ∧ b ≠ X.env.locals ∧ (∀ x c, X.env.cells.lookup x = some c → c ≠ b) ∧ ∀ p ∈ X.pn ++ pins, p.1 ≠ b)
    (keep : ∀ b o, b ≠ X.env.locals → b ∉ X.fs → b ∉ ch → s.heap.get? b = some o → H b = none → h'.get? b = some o)
    (slot : ∀ b o, b ≠ X.env.locals → b ∈ X.fs → b ∉ ch → s.heap.get? b = some o → H b = none → ∃ sl, h'.get? b = some { o with slots := sl }) (free : ∀ b o, b ∉ ch → s.heap.get? b = some o → H b = none → H' b = none)
    (there : ∀ b o, b ∉ ch → s.heap.get? b = some o → ∃ o', h'.get? b = some o')
    (tups : ∀ b xs, H b = some (.tup xs) → H' b = some (.tup xs)) (frzs : ∀ b o u, H b = some (.frz o u) → H' b = some (.frz o u)) (tbls : ∀ b ps, H b = some (.tbl ps) → ∃ more, H' b = some (.tbl (ps ++ more)))
    (ns : ∀ m, s.heap.Ns X.env.locals m → h'.Ns X.env.locals m) (hok : HOk X.prog X.w H' h') (hg : AllBare g') :
    Inv X pins σ H' { s with heap := h', gens := g', drawn := d', toks := t' } := by
  have neL : ∀ b o, X.s₀.heap.get? b = some o → b ≠ X.env.locals := fun b o e => Nat.ne_of_lt (Nat.lt_of_lt_of_le (Heap.lt_size e) I.ok.above)
  have neC : ∀ b o, X.s₀.heap.get? b = some o → b ∉ X.ex → b ∉ ch := fun b o e hx hb => by
    rcases (hch b hb).1 with z | z
    · exact hx z
    · rw [z] at e; cases e
  have cellK : ∀ x c, X.env.cells.lookup x = some c → ∀ v, s.heap.IsCell c v → h'.IsCell c v := fun x c e v ⟨o, ho, hd⟩ => by
    have nch : c ∉ ch := fun z => (hch c z).2.2.1 x c e rfl
    by_cases hc : c ∈ X.fs
    · obtain ⟨sl, q⟩ := slot c o (I.cne x c e) hc nch ho (I.freeC x c e)
      exact ⟨_, q, hd⟩
    · exact ⟨o, keep c o (I.cne x c e) hc nch ho (I.freeC x c e), hd⟩
  have bs : Un X.fs X.ex X.H₀ H' X.s₀.heap h' := by
    refine ⟨fun b o e n hb hx => ?_, fun b o e n hb hx => ?_, fun b o e n hx => ?_, fun b o e hx => ?_, fun b xs e => tups b xs (I.base.tups b xs e), fun b o xs e => frzs b o xs (I.base.frzs b o xs e), fun b ps e => ?_⟩
    · exact keep b o (neL b o e) hb (neC b o e hx) (I.base.keep b o e n hb hx) (I.base.free b o e n hx)
    · obtain ⟨sl, e1⟩ := I.base.slot b o e n hb hx
      exact (slot b _ (neL b o e) hb (neC b o e hx) e1 (I.base.free b o e n hx)).elim fun sl' e2 => ⟨sl', e2⟩
    · obtain ⟨o', e1⟩ := I.base.there b o e hx
      exact free b o' (neC b o e hx) e1 (I.base.free b o e n hx)
    · obtain ⟨o', e1⟩ := I.base.there b o e hx
      exact there b o' (neC b o e hx) e1
    · obtain ⟨m1, e1⟩ := I.base.tbls b ps e
      obtain ⟨m2, e2⟩ := tbls b _ e1
      exact ⟨m1 ++ m2, by rw [e2, Array.append_assoc]⟩
  refine ⟨I.ok, I.os, hg, bs, ?_, fun x c e => ?_, ?_, fun x c e => ?_, fun p hp => ?_, hok, I.len⟩
  · obtain ⟨m, hn, hl⟩ := I.loc
    refine ⟨m, ns m hn, fun i x v e1 e2 e3 => ?_⟩
    obtain ⟨u, r, l⟩ := hl i x v e1 e2 e3
    refine ⟨u, r, ?_⟩
    rcases l with l | ⟨k, c, e, z⟩
    · exact .inl l
    · exact .inr ⟨k, c, e, cellK x c e _ z⟩
  · obtain ⟨v, z⟩ := I.cell x c e
    exact ⟨v, cellK x c e v z⟩
  · obtain ⟨m, ⟨o, _, _, ho, _⟩, _⟩ := I.loc
    exact free _ o (fun z => (hch _ z).2.1 rfl) ho I.free
  · obtain ⟨v, o, ho, hd⟩ := I.cell x c e
    exact free c o (fun z => (hch c z).2.2.1 x c e rfl) ho (I.freeC x c e)
  · obtain ⟨e, n, ne, nf, d⟩ := I.pin p hp
    have nch : p.1 ∉ ch := fun z => (hch p.1 z).2.2.2 p hp rfl
    exact ⟨keep p.1 p.2 ne nf nch e n, free p.1 p.2 nch e n, ne, nf, d⟩

theorem rs_call {E : XS} {v : Value} (R : Rs X E) (hex : X.ex = []) (I : Inv X pins σ H s) (h : CX1 X.prog X.w X.stack H s (fun c od H' => E c od σ H') v s') : X.xe v s' := by
  obtain ⟨a, cls, od, H', rfl, os, bare, un, hok, x, q⟩ := h
  have I' : Inv X pins σ H' s' := I.call' (ch := []) os un hok bare (fun b z => absurd z (by simp))
  refine R pins σ H' s' a cls od I' (x.weak fun b hb => ⟨?_, fun p hp z => ?_⟩) q
  · cases g : X.s₀.heap.get? b with
    | none => rfl
    | some o =>
      obtain ⟨o', e⟩ := I.base.there b o g (by rw [hex]; simp)
      rw [hb] at e; cases e
  · have e := (I.pin p hp).1
    rw [z, hb] at e; cases e

/-- what stays when an exception passes the frames -/
theorem HOk.passed (I : Inv X pins σ H s) (k1 : ∀ b o, ¬ (H b = none ∧ apart X pins b ∧ ∃ vs, o.data = .fields vs) → b ∉ frs X.stack → s.heap.get? b = some o → h'.get? b = some o) : HOk X.prog X.w H h' := fun a o q => by
  refine (I.hok a o q).stay (fun b u hb e => k1 b u ?_ (fun z => ?_) e) (fun _ z => z) fun _ _ z => z
  · rintro ⟨n, _⟩
    rcases hb with rfl | hb
    · rw [q] at n; cases n
    · rw [hb] at n; cases n
  · have n := I.stkFree b z
    rcases hb with rfl | hb
    · rw [q] at n; cases n
    · rw [hb] at n; cases n

theorem rs_fn {P : Program} {w : World} {K : PySem.W.Frag} {mg : Str → Option Value} {base : Heap} {N : List Str} {qual : Str} {scope : Scope} {f : Addr} {cd : Value} {A : Around} {outer : List Env} {s0 : Shared} {H0 : Hp} {E : XK} :
    Rs (cxOf (CX1 P w) P w K mg base N qual scope f cd A outer s0 H0 E) (fun c od _ H' => E c od H') := by
  intro pins σ H s e cls od I x q
  show wpAny _ _ (leaving _ (.ref e)) _ _ s
  unfold leaving
  refine wpAny_bind (leave_X (L := s0.heap.objs.size) I.ok.frames I.stack rfl x I.young fun h' k1 k2 k3 x' => ?_)
  refine ⟨e, cls, od, H, rfl, I.os, I.bare, ⟨fun b o e1 n hb hx => ?_, fun b o e1 n hb hx => ?_, I.base.free, fun b o e1 hx => ?_, I.base.tups, I.base.frzs, I.base.tbls⟩, HOk.passed I k1, x'.weak fun b hb => hb.1, q⟩
  · refine k1 b o (fun z => by have q0 := z.2.1.1; exact absurd (q0.symm.trans (show s0.heap.get? b = some o from e1)) (by simp)) (fun z => ?_) (I.base.keep b o e1 n hb hx)
    rcases List.mem_cons.mp (I.stkSub b z) with y | y
    · exact absurd (Nat.lt_of_lt_of_le (Heap.lt_size e1) (by rw [y]; exact I.ok.above)) (Nat.lt_irrefl _)
    · exact hb y
  · obtain ⟨sl, e2⟩ := I.base.slot b o e1 n hb hx
    obtain ⟨sl', e3⟩ := k2 b _ (List.mem_cons_of_mem _ hb) e2
    exact ⟨sl', e3⟩
  · obtain ⟨o', e2⟩ := I.base.there b o e1 hx
    exact k3 b o' e2

/-- .. and the body goes on (a handler) -/
theorem Inv.passed (I : Inv X pins σ H s) (hfr : X.stack = X.env :: X.outer ∧ X.env.frame = some X.env.locals)
    (k1 : ∀ b o, ¬ (H b = none ∧ apart X pins b ∧ ∃ vs, o.data = .fields vs) → b ∉ frs X.stack → s.heap.get? b = some o → h'.get? b = some o)
    (k2 : ∀ b o, b ∈ frs X.stack → s.heap.get? b = some o → ∃ sl, h'.get? b = some { o with slots := sl }) (k3 : ∀ b o, s.heap.get? b = some o → ∃ o', h'.get? b = some o') {t' : Nat} : Inv X pins σ H { s with heap := h', toks := t' } := by
  classical
  have inL : ∀ b, b = X.env.locals ∨ b ∈ X.fs → b ∈ frs X.stack := fun b hb => by
    rw [hfr.1]; unfold frs; rw [List.filterMap_cons, hfr.2]
    exact List.mem_cons.mpr hb
  let ch : List Addr := (List.range s.heap.objs.size).filter fun b => decide (H b = none ∧ apart X pins b ∧ ∃ o vs, s.heap.get? b = some o ∧ o.data = .fields vs)
  have inch : ∀ b o, b ∉ ch → s.heap.get? b = some o → ¬ (H b = none ∧ apart X pins b ∧ ∃ vs, o.data = .fields vs) := fun b o hb e z =>
    hb (List.mem_filter.mpr ⟨List.mem_range.mpr (Heap.lt_size e), decide_eq_true ⟨z.1, z.2.1, o, z.2.2.choose, e, z.2.2.choose_spec⟩⟩)
  have ofch : ∀ b ∈ ch, H b = none ∧ apart X pins b ∧ ∃ o vs, s.heap.get? b = some o ∧ o.data = .fields vs := fun b hb => of_decide_eq_true (List.mem_filter.mp hb).2
  have fdata : ∀ b ∈ ch, ∀ o, s.heap.get? b = some o → ∃ vs, o.data = .fields vs := fun b hb o e => by
    obtain ⟨_, _, o', vs, e', d⟩ := ofch b hb
    rw [e] at e'; cases e'; exact ⟨vs, d⟩
  refine I.stepN (g' := s.gens) (d' := s.drawn) (ch := ch) (fun b hb => ?_) (fun b o hL hb hc e n => ?_) (fun b o hL hb hc e n => ?_) (fun b o hc e n => n) (fun b o hc e => k3 b o e) (fun _ _ e => e) (fun _ _ _ e => e) (fun b ps e => ⟨#[], by rw [e]; simp⟩) (fun m hm => ?_) (HOk.passed I k1) I.bare
  · obtain ⟨z2, z3, o, vs, e, d⟩ := ofch b hb
    refine ⟨.inr z3.1, fun z => ?_, fun x c hc z => ?_, z3.2⟩
    · obtain ⟨m, ⟨o', es, ep, ho', hd', _⟩, _⟩ := I.loc
      rw [z, ho'] at e; cases e; rw [hd'] at d; cases d
    · obtain ⟨v, o', ho', hd'⟩ := I.cell x c hc
      rw [z, e] at ho'; cases ho'; rw [hd'] at d; cases d
  · refine k1 b o (inch b o hc e) (fun z => ?_) e
    rcases List.mem_cons.mp (I.stkSub b z) with y | y
    · exact hL y
    · exact hb y
  · exact k2 b o (inL b (.inr hb)) e
  · obtain ⟨o, es, ep, ho, r⟩ := hm
    obtain ⟨sl, e⟩ := k2 _ o (inL _ (.inl rfl)) ho
    exact ⟨_, es, ep, e, r⟩

/-- the flight ends -/
theorem land_X {M : Model} {A : Around} {E : Value → Shared → Prop} {ap : Addr → Prop} {Q : Unit → Shared → Prop} (x : XObj ap H s.heap e cls od)
    (h : ∀ h', (∀ b o, ¬ (H b = none ∧ ap b ∧ ∃ vs, o.data = .fields vs) → s.heap.get? b = some o → h'.get? b = some o) → (∀ b o, s.heap.get? b = some o → ∃ sl, (¬ ∃ vs, o.data = .fields vs) → h'.get? b = some { o with slots := sl }) →
      (∀ b o, s.heap.get? b = some o → ∃ o', h'.get? b = some o') → XObj ap H h' e cls od → Q () { s with heap := h' }) : wpAny M A (setFlight (.ref e) none) Q E s := by
  have x' := x
  obtain ⟨x2, x3, oe, vs, x4, x5, xd, x6, x7, x9, x8⟩ := x
  unfold setFlight
  rcases x8 with z | ⟨T, oT, ts, z1, z3, z4, z5, z6, z7, z8⟩
  · refine wpAny_bind (wpAny_field x4 x6 z ?_)
    rw [if_neg (by decide)]
    exact wpAny_pure (h s.heap (fun _ _ _ q => q) (fun b o q => ⟨o.slots, fun _ => q⟩) (fun b o q => ⟨o, q⟩) x')
  · refine wpAny_bind (wpAny_field x4 x6 z1 ?_)
    rw [if_pos (show (Value.ref T != Value.none) = true from by simp)]
    have h3 : 3 < ts.size := (Array.getElem?_eq_some_iff.mp z8).1
    refine wpAny_setField z6 z7 h3 ?_
    have other : ∀ b, b ≠ T → (s.heap.update T (Obj.mapFields (·.setIfInBounds 3 ((none : Option Addr).elim Value.none fun f => rawInt f)))).get? b = s.heap.get? b := fun b hb => Heap.get?_update_other _ _ (Ne.symm hb)
    have hTs := Heap.get?_update_self (Obj.mapFields (·.setIfInBounds 3 ((none : Option Addr).elim Value.none fun f => rawInt f))) z6 (Obj.isFreed_of_fields (Obj.data_mapFields z7 _))
    refine h _ (fun b o n q => (other b fun y => n ?_).trans q) (fun b o q => ⟨o.slots, fun n => (other b fun y => n ?_).trans q⟩) (fun b o q => ?_) ?_
    · subst y; rw [z6] at q; cases q; exact ⟨z4, z5, ts, z7⟩
    · subst y; rw [z6] at q; cases q; exact ⟨ts, z7⟩
    · by_cases hb : b = T
      · subst hb; exact ⟨_, hTs⟩
      · exact ⟨o, (other b hb).trans q⟩
    · exact ⟨x2, x3, oe, vs, (other e (Ne.symm z3)).trans x4, x5, xd, x6, x7, x9, .inr ⟨T, _, _, z1, z3, z4, z5, hTs, Obj.data_mapFields z7 _, by rw [Array.getElem?_setIfInBounds_self_of_lt h3]; rfl⟩⟩
end

/-! ### calls of a def that may raise -/
noncomputable def tCallX (sp : Sp) (dvs : List V) (E : XS) (t : TA) : TE := fun σ H Q => t σ H fun vs H1 => sp (vs ++ dvs) H1 Q (fun c od H' => E c od σ H')
section
variable {X : Cx} {k : Nat} {f C : Addr} {fd : FuncData} {ps : List Str} {sp : Sp} {dvs : List V} {ds : List Value} {E : XS} {x m : Str} {p pos apos : Pos} {e o : Expr} {es : List Expr} {ta : TE} {t : TA}
theorem run_fnX {pins : List (Addr × Obj)} {σ : St} {H : Hp} {s : Shared} {Q : VK} {us : List Value} {vs : List V} (F : FnOk X.prog X.w X.K X.mg X.base (CX1 X.prog X.w) k f fd ps sp) (hr : Room k X.A) (hb : Binds X.K fd ps ds) (hd : Vals dvs ds) (hx : Rs X E) (hex : X.ex = [])
    (I : Inv X pins σ H s) (r : Vals vs us) (h : sp (vs ++ dvs) H Q (fun c od H' => E c od σ H')) : wpAny (model X.prog X.w) X.A (call (.ref f) us) (EP X pins σ Q) X.xe s := by
  have r2 : Vals (vs ++ dvs) (us ++ ds) := r.append hd
  have hl : (us ++ ds).length = ps.length := by rw [← r2.length]; exact F.len _ _ _ _ h
  refine wpAny_call (codeAny_mono (F.run X.A X.stack s H ⟨us, []⟩ (us ++ ds) (vs ++ dvs) Q _ hr I.env0 (hb s us I.kIn hl) r2 h) fun r s' hq => ?_)
  cases r with
  | error v => exact rs_call hx hex I hq
  | ok fl =>
    cases fl with
    | ret u => exact I.after hq
    | next => exact False.elim hq
    | brk => exact False.elim hq
    | cont => exact False.elim hq
theorem pe_callX (F : FnOk X.prog X.w X.K X.mg X.base (CX1 X.prog X.w) k f fd ps sp) (hr : Room k X.A) (hg : Gl X x) (hm : X.mg x = some (.ref f)) (hk : PySem.W.keepIn X.K (.ref f) = true) (hb : Binds X.K fd ps ds) (hd : Vals dvs ds) (hx : Rs X E) (hex : X.ex = [])
    (ha : PA X (e :: es) t) (hdb : (x == ("__debug__" : Str)) = false := by decide) (he : starEach (e :: es) X.env = (false, eval e X.env) :: starEach es X.env := by rfl) (hpl : (backTo pos (starEach es X.env)).any (·.1) = false := by rfl) :
    PE X (.Call (.Name x p) (e :: es) [] pos) (tCallX sp dvs E t) := by
  intro pins s σ H Q I h
  refine wpAny_Call_Name_kw (ld_glob I hg hm ?_ hdb)
  refine PySem.W.callWith_K (h₀ := X.base) I.ok.mod.kin hk (thn (ha pos pins s σ H _ I h) fun us s1 ⟨vs, H1, I1, r, q⟩ => ⟨I1.kIn, ?_⟩) he hpl
  exact run_fnX F hr hb hd hx hex I1 r q
end

/-! ### a def that may raise, by its body -/
section
variable {P : Program} {w : World} {K : PySem.W.Frag} {mg : Str → Option Value} {base : Heap}
theorem Fun.okX {x qual : Str} {st : Stmt} {f : Addr} {fd : FuncData} {N ps : List Str} {k : Nat} {sp : Sp} (F : Fun K x qual st f fd) (S : FnScope N ps (defScope st)) (len : ∀ vs H Q E, sp vs H Q E → vs.length = ps.length)
    (hbody : ∀ (cdv : Value) (A : Around) (outer : List Env) (s : Shared) (H : Hp) (vs : List V) (Q : VK) (E : XK), Room k (A.deeper (envOfC qual (defScope st) s.heap.objs.size f cdv)) → sp vs H Q E →
      Rs (cxOf (CX1 P w) P w K mg base N qual (defScope st) f cdv A outer s H E) (fun c od _ H' => E c od H') →
      ∃ t, PSs (cxOf (CX1 P w) P w K mg base N qual (defScope st) f cdv A outer s H E) (defBody st) t ∧ t { nx := fun _ H' => Q .non H', rt := Q } (start N vs) H) : FnOk P w K mg base (CX1 P w) (k + 1) f fd ps sp := by
  obtain ⟨oc, od, kV, doc, pm, an, cdv, ct, osl, rfl, lk, hcd⟩ := F.ex
  exact fn_of lk hcd S len fun A outer s H vs Q E hr hsp => hbody cdv A outer s H vs Q E hr hsp rs_fn
end
end L2

namespace L2
open PySem PySem.Spec PyProof.Rows

abbrev bmVE : List Value := [.type "ValueError", .type "Exception", .type "BaseException", .type "object"]

/-! ### raise C(..) of an own class without __init__ -/
noncomputable def tRaise (C : Addr) (E : XS) (t : TA) : TS := fun _ σ H => t σ H fun vs H1 => vs.length ≤ sizeLine ∧ E (.ref C) none σ H1
section
variable {X : Cx} {C : Addr} {x : Str} {np cpos pos : Pos} {e : Expr} {es : List Expr} {t : TA} {E : XS}
theorem exc_facts {K : PySem.W.Frag} {h : Heap} {bmB : List Value} {newId : String} (X : K.In h) (q : PySem.W.excIn K C bmB newId = true) :
    ∃ bm N nm qn bs hdct sn sub ab col dd k0 k1 k2 k3 k5 mN, h.get? C = some (excClassObj nm qn C N bs bm hdct sn sub ab col dd k0 k1 k2 k3 k5 newId) ∧ h.Ns N mN ∧ mN "__init__" = none ∧ OwnTail h bmB bm := by
  unfold PySem.W.excIn at q
  split at q
  · rename_i dd cd sl ho
    split at q
    · rename_i C' bm k0 k1 k2 k3 n k5 hm hs
      simp only [Bool.and_eq_true, beq_iff_eq, Bool.not_eq_true'] at q
      obtain ⟨⟨⟨⟨⟨rfl, rfl⟩, hdel⟩, ht⟩, hok⟩, hni⟩ := q
      obtain ⟨nm, bs, mro, ns, qn, hd, sn, sub, ab, col, del⟩ := cd
      dsimp only at hm hdel hok hni
      subst hm hdel
      have hsl : sl = #[k0, k1, k2, k3, some (.builtin n), k5] := by
        obtain ⟨l⟩ := sl
        simp only at hs
        rw [hs]
      subst hsl
      exact ⟨bm, ns, nm, qn, bs, hd, sn, sub, ab, col, dd, k0, k1, k2, k3, k5, _, X _ _ ho, .of_isNs (PySem.W.isNs_of_in X hok), PySem.W.nsMap_none_of_in X hok hni, PySem.W.tail_of_in X ht⟩
    · cases q
  · cases q

/-- a new object is apart -/
theorem Inv.newApart {pins : List (Addr × Obj)} {σ : St} {H : Hp} {s : Shared} (I : Inv X pins σ H s) (hex : X.ex = []) {b : Addr} (hb : s.heap.get? b = none) : H b = none ∧ apart X pins b := by
  refine ⟨?_, ?_, fun p hp z => ?_⟩
  · cases hH : H b with
    | none => rfl
    | some o =>
      obtain ⟨ob, e⟩ := (I.hok b o hH).there
      rw [hb] at e; cases e
  · cases g : X.s₀.heap.get? b with
    | none => rfl
    | some o =>
      obtain ⟨o', e⟩ := I.base.there b o g (by rw [hex]; simp)
      rw [hb] at e; cases e
  · have e := (I.pin p hp).1
    rw [z, hb] at e; cases e

theorem ps_raise (hc : X.calm = true) (hex : X.ex = []) (hg : Gl X x) (hm : X.mg x = some (.ref C)) (q : PySem.W.excIn X.K C bmVE "ValueError.__new__" = true) (R : Rs X E) (ha : PA X (e :: es) t)
    (hdb : (x == ("__debug__" : Str)) = false := by decide) (he : starEach (e :: es) X.env = (false, eval e X.env) :: starEach es X.env := by rfl) (hpl : (backTo cpos (starEach es X.env)).any (·.1) = false := by rfl) :
    PS X (.Raise (some (.Call (.Name x np) (e :: es) [] cpos)) none pos) (tRaise C E t) := by
  intro pins s σ H D I h
  obtain ⟨tl, N, nm, qn, bs, hdct, sn, sub, ab, col, dd, k0, k1, k2, k3, k5, mN, hC, hN, hni, T⟩ := exc_facts I.ok.mod.kin q
  refine wpAny_Raise_call_subU (C := C) (nm := nm) (q := qn) (N := N) (bs := bs) (bm := tl) (hdct := hdct) (sn := sn) (sub := sub) (ab := ab) (col := col) (dd := dd) (k0 := k0) (k1 := k1) (k2 := k2) (k3 := k3) (k5 := k5)
    F.excBase_ValueError (by decide +kernel) F.excBase_ValueError (mN := mN) (T.hasType F.excBase_ValueError.hasBase) (I.ok.hd hc) (by rw [he]; show (false || (backTo cpos (starEach es X.env)).any (·.1)) = false; rw [hpl]; rfl) hni (ld_glob I hg hm ⟨rfl, ?_⟩ hdb)
  have ha' := ha cpos pins s σ H _ I h
  rw [he] at ha' ⊢
  refine Calls.evalArgs_plain (thn ha' fun us s1 ⟨vs, H1, I1, r, hz, q⟩ => ?_)
  refine ⟨rfl, by show us.length ≤ sizeLine; rw [← r.length]; exact hz, I1.bk _ _ hC, hN.keeps I1.bk, T.keeps I1.bk, fun h' ea me => ?_⟩
  have I2 : Inv X pins σ H1 { s1 with heap := h' } := I1.kept (t' := s1.toks) me.keeps
  obtain ⟨n1, n2⟩ := I1.newApart hex me.new
  obtain ⟨tt, m1, m2, m3⟩ := me.there
  exact R pins σ H1 _ ea _ none I2 ⟨n1, n2, _, _, m1, rfl, rfl, rfl, by show 1 < 6; decide, rfl, .inl rfl⟩ q
end

/-! ### try .. except C as n: .. -/
/-- an exception that a handler has -/
noncomputable def excO (a : Addr) (cls : Value) (od : Option Addr := none) : HO := .ext fun h => ∃ o vs, h.get? a = some o ∧ o.cls = cls ∧ o.dict = od ∧ o.data = .fields vs ∧ vs[2]? = some .none
noncomputable def tTry (K : PySem.W.Frag) (C : Addr) (i : Nat) (tb : XS → TS) (th : Addr → TS) : TS := fun D σ H =>
  tb (fun cls od σ' H' => PySem.W.exmOne K cls (.ref C) = some true ∧ ∀ a, H' a = none → th a { nx := fun σ2 H2 => D.nx (σ2.set i none) H2, rt := D.rt, bk := fun σ2 H2 => D.bk (σ2.set i none) H2, ct := fun σ2 H2 => D.ct (σ2.set i none) H2 } (σ'.set i (some (.ref a))) (upd H' a (excO a cls od))) D σ H
/-- the context within a handler's suite -/
noncomputable def hnd (X : Cx) (e : Addr) : Cx := { X with A := X.A.mark (some (.ref e)), calm := false, xe := fun _ _ => False }
section
variable {X : Cx} {pins : List (Addr × Obj)} {σ : St} {H : Hp} {s : Shared}
theorem Inv.hnd (I : Inv X pins σ H s) (e : Addr) : Inv (L2.hnd X e) pins σ H s :=
  ⟨⟨I.ok.mod, I.ok.kind, I.ok.glob, I.ok.blt, I.ok.above, I.ok.inj, I.ok.has, I.ok.cab, fun h => (by cases h), I.ok.frames, I.ok.stk, I.ok.exf, I.ok.bs, I.ok.bsz, I.ok.noex, I.ok.exfs, I.ok.funs, I.ok.frf⟩, I.os, I.bare, I.base, I.loc, I.cell, I.free, I.freeC, I.pin, I.hok, I.len⟩
theorem Inv.unhnd {X0 : Cx} (hok : X0.Ok) {e : Addr} (I : Inv (L2.hnd X0 e) pins σ H s) : Inv X0 pins σ H s := ⟨hok, I.os, I.bare, I.base, I.loc, I.cell, I.free, I.freeC, I.pin, I.hok, I.len⟩
/-- another wish, other pins of every state -/
noncomputable abbrev Cx.pinWish (X : Cx) (pn : List (Addr × Obj)) (E : Value → Shared → Prop) : Cx := { X with pn := pn, xe := E }
theorem Inv.pinWish (I : Inv X pins σ H s) (E : Value → Shared → Prop) : Inv (X.pinWish (X.pn ++ pins) E) [] σ H s :=
  ⟨⟨I.ok.mod, I.ok.kind, I.ok.glob, I.ok.blt, I.ok.above, I.ok.inj, I.ok.has, I.ok.cab, I.ok.hd, I.ok.frames, I.ok.stk, I.ok.exf, I.ok.bs, I.ok.bsz, I.ok.noex, I.ok.exfs, I.ok.funs, I.ok.frf⟩, I.os, I.bare, I.base, I.loc, I.cell, I.free, I.freeC, fun p hp => I.pin p (by simpa using hp), I.hok, I.len⟩
theorem Inv.unpinWish {E : Value → Shared → Prop} {q : List (Addr × Obj)} (ok : X.Ok) (I : Inv (X.pinWish (X.pn ++ pins) E) q σ H s) : Inv X pins σ H s :=
  ⟨ok, I.os, I.bare, I.base, I.loc, I.cell, I.free, I.freeC, fun p hp => I.pin p (List.mem_append_left _ hp), I.hok, I.len⟩

/-- a local name is let go -/
theorem Inv.drop {i : Nat} {n : Str} {h' : Heap} {t' : Nat} {v : Option Value} (I : Inv X pins σ H s) (hN : X.N.Nodup) (hi : X.N[i]? = some n) (hk : X.env.scope.names.lookup n = some .local)
    (hn : ∀ m, s.heap.Ns X.env.locals m → ∃ v, h'.Ns X.env.locals fun x => if x = n then v else m x) (hs : Heap.SameBut X.env.locals s.heap h') : Inv X pins (σ.set i none) H { s with heap := h', toks := t' } := by
  obtain ⟨m, hm, hl⟩ := id I.loc
  obtain ⟨v, hn'⟩ := hn m hm
  have cne := I.cne
  have up : ∀ b o, X.s₀.heap.get? b = some o → b ≠ X.env.locals := fun b o e => Nat.ne_of_lt (Nat.lt_of_lt_of_le (Heap.lt_size e) I.ok.above)
  refine ⟨I.ok, I.os, I.bare, ⟨fun b o e n hb hx => (hs.2 b (up b o e)).trans (I.base.keep b o e n hb hx), fun b o e n hb hx => ?_, I.base.free, fun b o e hx => ?_, I.base.tups, I.base.frzs, I.base.tbls⟩, ⟨_, hn', fun j y v' e1 e2 e3 => ?_⟩, fun y c e => ?_, I.free, I.freeC, fun p hp => ?_, fun b ob e => ?_, by simpa using I.len⟩
  · obtain ⟨sl, e1⟩ := I.base.slot b o e n hb hx
    exact ⟨sl, (hs.2 b (up b o e)).trans e1⟩
  · obtain ⟨o', e1⟩ := I.base.there b o e hx
    exact ⟨o', (hs.2 b (up b o e)).trans e1⟩
  · by_cases hj : j = i
    · subst hj
      rw [List.getElem?_set_self' ] at e2
      cases hq : σ[j]? with
      | none => rw [hq] at e2; cases e2
      | some w' => rw [hq] at e2; cases e2
    · rw [List.getElem?_set_ne (Ne.symm hj)] at e2
      obtain ⟨u', r', q⟩ := hl j y v' e1 e2 e3
      refine ⟨u', r', ?_⟩
      rcases q with ⟨k, e⟩ | ⟨k, c, e, z⟩
      · refine .inl ⟨k, ?_⟩
        have : y ≠ n := fun e => hj (nodup_ix hN e1 (e ▸ hi))
        simp [this, e]
      · exact .inr ⟨k, c, e, z.sameBut hs (cne y c e)⟩
  · obtain ⟨w', z⟩ := I.cell y c e
    exact ⟨w', z.sameBut hs (cne y c e)⟩
  · obtain ⟨e, n, ne, nf, d⟩ := I.pin p hp
    exact ⟨(hs.2 p.1 ne).trans e, n, ne, nf, d⟩
  · refine (I.hok b ob e).stay (fun c w' hc q => (hs.2 c ?_).trans q) (fun _ q => q) fun _ _ q => q
    rintro rfl
    have f := I.free
    rcases hc with rfl | hc
    · rw [f] at e; cases e
    · rw [f] at hc; cases hc

theorem ps_try {C : Addr} {x n : Str} {i : Nat} {np hpos pos : Pos} {body : List Stmt} {b₀ : Stmt} {suite : List Stmt} {tb : XS → TS} {th : Addr → TS} (hex : X.ex = []) (hfr : X.stack = X.env :: X.outer ∧ X.env.frame = some X.env.locals) (hN : X.N.Nodup)
    (hi : X.N[i]? = some n) (hk : X.env.scope.names.lookup n = some .local) (hg : Gl X x) (hm : X.mg x = some (.ref C)) (hb : ∀ pn xe E, Rs (X.pinWish pn xe) E → PSs (X.pinWish pn xe) body (tb E)) (hh : ∀ e, PSs (hnd X e) (b₀ :: suite) (th e))
    (hdb : (x == ("__debug__" : Str)) = false := by decide) : PS X (.Try body [.ExceptHandler (some (.Name x np)) (some n) (b₀ :: suite) hpos] [] [] pos) (tTry X.K C i tb th) := by
  intro pins s σ H D I h
  have ok := I.ok
  have hkc : (X.env.scope.kind == .class || (X.env.scope.kind == .module && X.env.locals != X.env.globals)) = false := by rw [I.ok.kind]; rfl
  -- behind the suite the name goes
  have goes : ∀ {σ2 : St} {H2 : Hp} {s2 : Shared} {Q : Unit → Shared → Prop} {A : Around} {E : Value → Shared → Prop} {e : Addr}, Inv (hnd X e) pins σ2 H2 s2 → (∀ s3, Inv X pins (σ2.set i none) H2 s3 → Q () s3) →
      wpAny (model X.prog X.w) A (do bindName X.env n .none; unbindBehindTheSuite X.env n hpos) Q E s2 := fun {σ2 H2 s2 Q A E e} I2 q => by
    have I2' := I2.unhnd ok
    obtain ⟨m, hnm, _⟩ := I2'.loc
    refine wpAny_nameGoes_keeps hk hnm hkc fun h' v hn' hs' => ?_
    refine q _ (I2'.drop (v := v) hN hi hk (fun m' hm' => ⟨v, ?_⟩) hs')
    obtain ⟨o, es, ep, ho, hd, hkk, hmm⟩ := hn'
    obtain ⟨o1, es1, ep1, ho1, hd1, hk1, hm1⟩ := hnm
    obtain ⟨o2, es2, ep2, ho2, hd2, hk2, hm2⟩ := hm'
    rw [ho1] at ho2; cases ho2
    rw [hd1] at hd2; cases hd2
    exact ⟨o, es, ep, ho, hd, hkk, fun y => by rw [hmm y]; by_cases hy : y = n <;> simp [hy, ← hm1, ← hm2]⟩
  let xe' : Value → Shared → Prop := fun e s₁ => wpAny (model X.prog X.w) X.A (noteFrame e X.env) (fun _ s₂ => wpAny (model X.prog X.w) X.A (setFlight e none) (fun _ s₃ => wpAny (model X.prog X.w) X.A (handleBy e X.env [.ExceptHandler (some (.Name x np)) (some n) (b₀ :: suite) hpos]) (SP X pins D) X.xe s₃) X.xe s₂) X.xe s₁
  have R : Rs (X.pinWish (X.pn ++ pins) xe') (fun cls od σ' H' => PySem.W.exmOne X.K cls (.ref C) = some true ∧ ∀ a, H' a = none → th a { nx := fun σ2 H2 => D.nx (σ2.set i none) H2, rt := D.rt, bk := fun σ2 H2 => D.bk (σ2.set i none) H2, ct := fun σ2 H2 => D.ct (σ2.set i none) H2 } (σ'.set i (some (.ref a))) (upd H' a (excO a cls od))) := by
    intro pins' σ' H' s' e cls od I' x' ⟨q1, q2⟩
    show wpAny _ _ _ _ _ s'
    refine leave_X (L := X.env.locals) (env := X.env) (outer := X.outer) (by rw [← hfr.1]; exact I.ok.frames) (by rw [← hfr.1]; exact I'.stack) hfr.2 x' I'.young fun h1 k1 k2 k3 x1 => ?_
    have I1 : Inv (X.pinWish (X.pn ++ pins) xe') pins' σ' H' { s' with heap := h1 } := I'.passed (t' := s'.toks) hfr (fun b o n nb => k1 b o n (by rw [← hfr.1]; exact nb)) (fun b o hb => k2 b o (by rw [← hfr.1]; exact hb)) k3
    have J1 : Inv X pins σ' H' { s' with heap := h1 } := I1.unpinWish ok
    refine wpAny_handleBy_cons (codeAny_handlers_test ?_) (by intro z; cases z)
    refine ld_glob (X := hnd X e) (J1.hnd e) hg hm ?_ hdb
    have LT : PySem.W.Looks (model X.prog X.w) h1 (typeOf (.ref e)) cls := by
      obtain ⟨_, _, oe, _, y4, y5, _⟩ := x1
      exact y5 ▸ (PySem.W.Looks.ld y4).andThen .now
    refine (PySem.W.exm_one (M := model X.prog X.w) J1.kIn LT q1).here ?_
    refine codeAny_handlers_suite_as ?_
    refine land_X x1 fun h2 m1 m2 m3 x2 => ?_
    have I2 : Inv (X.pinWish (X.pn ++ pins) xe') pins' σ' H' { s' with heap := h2 } := I1.passed (s := { s' with heap := h1 }) (t' := s'.toks) hfr (fun b o n nb e => m1 b o n e) (fun b o hb e => by
      obtain ⟨sl, z⟩ := m2 b o e
      refine ⟨sl, z ?_⟩
      rintro ⟨vs, hv⟩
      obtain ⟨_, o', ho', hnf⟩ := I1.stack.mem hb
      rw [e] at ho'; cases ho'; exact hnf vs hv) m3
    have J2 : Inv X pins σ' H' { s' with heap := h2 } := I2.unpinWish ok
    -- the exception is tracked
    have new : ObjOk X.prog X.w (upd H' e (excO e cls od)) h2 e (excO e cls od) := by
      obtain ⟨_, _, oe, vs, y4, y5, yd, y6, _, y7, _⟩ := x2
      exact ⟨⟨oe, vs, y4, y5, yd, y6, y7⟩, ⟨oe, y4⟩, fun ha hb ⟨o, vs, z1, z2, zd, z3, z4⟩ k => ⟨o, vs, k o z1, z2, zd, z3, z4⟩⟩
    have J3 : Inv X pins σ' (upd H' e (excO e cls od)) { s' with heap := h2 } := J2.stepN (s := { s' with heap := h2 }) (h' := h2) (g' := s'.gens) (d' := s'.drawn) (t' := s'.toks) (ch := [e]) (fun b hb => ?_) (fun b o _ _ _ q _ => q) (fun b o _ _ _ q _ => ⟨o.slots, q⟩) (fun b o hb q n => ?_)
      (fun b o _ q => ⟨o, q⟩) (fun b xs q => by rw [upd_ne (ne_of_none q x2.1)]; exact q) (fun b o u q => by rw [upd_ne (ne_of_none q x2.1)]; exact q) (fun b ps q => ⟨#[], by rw [upd_ne (ne_of_none q x2.1), q]; simp⟩) (fun m hm => hm) (J2.hok.track x2.1 new) J2.bare
    · refine store_ok (X := hnd X e) (i := i) (J3.hnd e) hN hi (Or.inl hk) (v := .ref e) rfl (fun s4 I4 => ?_) (Or.inr hk)
      refine wpAny_mono (hh e pins s4 _ _ _ I4 (q2 e x2.1)) (fun f s5 q5 => ?_) fun _ _ z => z.elim
      cases f with
      | next => obtain ⟨σ5, H5, I5, q5⟩ := q5; exact goes I5 fun s6 I6 => ⟨_, H5, I6, q5⟩
      | brk => obtain ⟨σ5, H5, I5, q5⟩ := q5; exact goes I5 fun s6 I6 => ⟨_, H5, I6, q5⟩
      | cont => obtain ⟨σ5, H5, I5, q5⟩ := q5; exact goes I5 fun s6 I6 => ⟨_, H5, I6, q5⟩
      | ret u => obtain ⟨v, σ5, H5, I5, r5, q5⟩ := q5; exact goes I5 fun s6 I6 => ⟨v, _, H5, I6, r5, q5⟩
    · have z := List.mem_singleton.mp hb
      subst z
      obtain ⟨y1, y2, oe, vs, y4, y5, _, y6, _⟩ := x2
      refine ⟨.inr y2.1, fun z => ?_, fun y c hc z => ?_, fun p hp => y2.2 p ?_⟩
      · obtain ⟨m, ⟨o', es, ep, ho', hd', _⟩, _⟩ := J2.loc
        rw [z] at y4
        rw [show h2.get? X.env.locals = some o' from ho'] at y4; cases y4; rw [hd'] at y6; cases y6
      · obtain ⟨v, o', ho', hd'⟩ := J2.cell y c hc
        rw [z] at ho'
        rw [show h2.get? _ = some o' from ho'] at y4; cases y4; rw [hd'] at y6; cases y6
      · exact List.mem_append_left _ hp
    · rw [upd_ne (by intro z; exact hb (by simp [z]))]; exact n
  refine wpAny_Try_except (wpAny_mono (hb (X.pn ++ pins) xe' _ R [] s σ H D (I.pinWish xe') h) (fun f s1 q => ?_) fun _ _ q => q)
  cases f with
  | next => obtain ⟨σ5, H5, I5, q5⟩ := q; exact wpAny_execs_nil ⟨σ5, H5, I5.unpinWish ok, q5⟩
  | brk => obtain ⟨σ5, H5, I5, q5⟩ := q; exact ⟨σ5, H5, I5.unpinWish ok, q5⟩
  | cont => obtain ⟨σ5, H5, I5, q5⟩ := q; exact ⟨σ5, H5, I5.unpinWish ok, q5⟩
  | ret u => obtain ⟨v, σ5, H5, I5, r5, q5⟩ := q; exact ⟨v, σ5, H5, I5.unpinWish ok, r5, q5⟩
end
end L2

namespace L2
open PySem PySem.Spec PyProof.Rows
section
variable {prog : Program} {w : World} {A : Around} {E : Value → Shared → Prop} {h : Heap} {g : Array GenState} {d : Drawn} {t : Nat} {os : OsState} {a C : Addr} {o : Obj} {K : PySem.W.Frag}

/-- what an own exception's class must have, for __class__ -/
structure ExcC (K : PySem.W.Frag) (C : Addr) : Prop where
  ga : PySem.W.findIn K (.ref C) "__getattribute__" = some (some (.builtin "BaseException.__getattribute__"))
  gt : PySem.W.findIn K (.ref C) "__getattr__" = some none
  cl : PySem.W.findIn K (.ref C) "__class__" = some (some (.builtin "object.__class__"))
  be : PySem.W.subIn K (.ref C) (.type "BaseException") = some true
  ob : PySem.W.subIn K (.ref C) (.type "object") = some true
  is : (PySem.W.clsIn K C).isSome = true

theorem xc_get {R : Result → Shared → Prop} (X : K.In h) (c : ExcC K C) (hx : h.get? a = some o) (hc : o.cls = .ref C) (hq : R (.ok (.ret (.ref C))) ⟨h, g, d, t, os⟩) :
    codeAny (model prog w) A (.call (.builtin "getset_descriptor.__get__") ⟨[.builtin "object.__class__", .ref a, .ref C], []⟩) R ⟨h, g, d, t, os⟩ := by
  have hT5 : (⟨h, g, d, t, os⟩ : Shared).TypeIs (.builtin "object.__class__") "getset_descriptor" := F.typeOf_object_class
  have hs : PySem.W.Looks (model prog w) h (isSubtype (.ref C) (.type (".".intercalate ("object.__class__".cutAt '.').dropLast))) true := by
    rw [F.owner_object_class]; exact PySem.W.looks_subIn X c.ob
  refine codeAny_call_builtin F.slot_gs_get.plain F.entry_gs_get (F.slot_gs_get.check _ _ _ _ _ _ _ _ hT5 (F.args_gs_get _ _ _) ?_)
  repeat (any_goals (first | assumption | (with_reducible refine wpAny_loadPart_at hx ?_; rw [hc]) | with_reducible refine hs.at ?_ | wp_step))
  refine ⟨Code.quiet_builtin _ (by decide +kernel), codeAny_builtin F.entry_object_class ?_⟩
  repeat (any_goals (first | assumption | (with_reducible refine wpAny_loadPart_at hx ?_; rw [hc]) | wp_step))

theorem xc_entry {tk : Tok} {Q : Fin → Shared → Prop} (X : K.In h) (c : ExcC K C) (hx : h.get? a = some o) (hc : o.cls = .ref C) (hq : Q (.done (.ret (.ref C))) ⟨h, g, d, t, os⟩) :
    wpAny (model prog w) A (Builtin.«object.__getattribute__» ⟨[.ref a, .str "__class__" tk], []⟩) Q E ⟨h, g, d, t, os⟩ := by
  have hT5 : (⟨h, g, d, t, os⟩ : Shared).TypeIs (.builtin "object.__class__") "getset_descriptor" := F.typeOf_object_class
  have hl : PySem.W.Looks (model prog w) h (typeLookup (.ref C) "__class__") (some (.builtin "object.__class__")) := PySem.W.looks_findIn X c.cl
  have f5 := F.typeOf_object_class
  have f6 := F.slot_gs_get.lookup
  have f7 := F.slot_gs_set.lookup
  repeat (any_goals (first | assumption | (with_reducible refine wpAny_loadPart_at hx ?_; rw [hc]) | with_reducible refine hl.at ?_ | wp_step))
  refine xc_get X c hx hc ?_
  repeat (any_goals (first | assumption | wp_step))

theorem xc_check {M : Model} {nameV : Value} {Q : Unit → Shared → Prop} (X : K.In h) (c : ExcC K C) (hx : h.get? a = some o) (hc : o.cls = .ref C) (hq : Q () ⟨h, g, d, t, os⟩) :
    wpAny M A (checkBuiltinCall "BaseException.__getattribute__" ⟨[.ref a, nameV], []⟩) Q E ⟨h, g, d, t, os⟩ := by
  have hk : builtinKind "BaseException.__getattribute__" = some .slot := by decide +kernel
  have hsplit : splitId "BaseException.__getattribute__" = some ("BaseException", "__getattribute__") := by decide +kernel
  have hs : PySem.W.Looks M h (isSubtype (.ref C) (.type "BaseException")) true := PySem.W.looks_subIn X c.be
  have ha := F.args_bexc_ga (.ref a) nameV
  simp only [checkBuiltinCall, hk, hsplit]
  refine wpAny_bind ?_
  unfold isInstance
  repeat (first | (with_reducible refine wpAny_loadPart_at hx ?_; rw [hc]) | with_reducible refine hs.at ?_ | wp_step)
  exact hq

theorem xc_call {tk : Tok} {R : Result → Shared → Prop} (X : K.In h) (c : ExcC K C) (hx : h.get? a = some o) (hc : o.cls = .ref C) (hq : R (.ok (.ret (.ref C))) ⟨h, g, d, t, os⟩) :
    codeAny (model prog w) A (.call (.builtin "BaseException.__getattribute__") ⟨[.ref a, .str "__class__" tk], []⟩) R ⟨h, g, d, t, os⟩ :=
  codeAny_call_builtin F.attr_ValueError.ga.plain F.entry_bexc_ga (xc_check X c hx hc (xc_entry X c hx hc hq))

theorem xc_by {tk : Tok} {Q : Value → Shared → Prop} (X : K.In h) (c : ExcC K C) (hx : h.get? a = some o) (hc : o.cls = .ref C) (hq : Q (.ref C) ⟨h, g, d, t, os⟩) :
    wpAny (model prog w) A (getAttrBy (.ref a) (.str "__class__" tk) false) Q E ⟨h, g, d, t, os⟩ := by
  have f3 := F.attr_ValueError.ga.bind (.ref a)
  have hx0 : (false && onTheHeap (Value.builtin "BaseException.__getattribute__")) = false := rfl
  have hx2 : (Value.builtin "BaseException.__getattribute__" == Value.builtin "object.__getattribute__") = false := by decide +kernel
  have hx1 : (onTheHeap (Value.ref C) && Value.builtin "BaseException.__getattribute__" == Value.builtin "object.__getattribute__") = false := by rw [hx2]; rfl
  have l1 : PySem.W.Looks (model prog w) h (typeLookup (.ref C) "__getattribute__") (some (.builtin "BaseException.__getattribute__")) := PySem.W.looks_findIn X c.ga
  have l2 : PySem.W.Looks (model prog w) h (typeLookup (.ref C) "__getattr__") none := PySem.W.looks_findIn X c.gt
  repeat (any_goals (first | assumption | (with_reducible refine wpAny_loadPart_at hx ?_; rw [hc]) | with_reducible refine l1.at ?_ | with_reducible refine l2.at ?_ | wp_step))
  refine xc_call X c hx hc ?_
  repeat (any_goals (first | assumption | wp_step))

theorem xc_attr {Q : Option Value → Shared → Prop} (X : K.In h) (c : ExcC K C) (hx : h.get? a = some o) (hc : o.cls = .ref C) (hq : Q (some (.ref C)) ⟨h, g, d, t + 1, os⟩) : wpAny (model prog w) A (getAttr? (.ref a) "__class__") Q E ⟨h, g, d, t, os⟩ := by
  unfold getAttr? getAttrBy?
  repeat (any_goals (first | assumption | with_reducible apply xc_by X c hx hc | wp_step))

theorem kitx_exc {od : Option Addr} (c : ExcC K C) : PySem.W.KitX K (.ref a) (.ref C) (fun h => ∃ o vs, h.get? a = some o ∧ o.cls = .ref C ∧ o.dict = od ∧ o.data = .fields vs ∧ vs[2]? = some .none) where
  ty := fun _ _ _ ⟨o, vs, h1, h2, _⟩ => h2 ▸ (PySem.W.Looks.ld h1).andThen .now
  it := fun _ _ X _ => by
    have hcD := c.is
    unfold PySem.W.clsIn at hcD
    split at hcD
    · rename_i c' d' cd' sl' ho
      intro A' Q' E' s' k q
      unfold isType loadHead
      exact wpAny_bind (wpAny_loadPart (k _ _ (X _ _ ho)) (wpAny_pure q))
    · cases hcD
  ne := fun h tp dd its n sl X htp => by
    have hcD := c.is
    refine Bool.eq_false_iff.mpr fun q => ?_
    have e : C = tp := Value.ref.inj (beq_iff_eq.mp q)
    subst e
    unfold PySem.W.clsIn at hcD
    split at hcD
    · rename_i c' d' cd' sl' ho
      have z := (X _ _ ho).symm.trans htp
      cases z
    · cases hcD
  ca := fun {_ _ _ _ _ s} X ⟨o, vs, h1, h2, _⟩ k => by
    obtain ⟨h, g, d, t, os⟩ := s
    exact xc_attr X c h1 h2 k
end
end L2

namespace L2
open PySem PySem.Spec PyProof.Rows
section
variable {X : Cx}

/-! ### isinstance -/
inductive TyX (K : PySem.W.Frag) (H : Hp) : V → Value → Prop where
  | of {x : V} {t : Value} (h : TyOf K H x t) : TyX K H x t
  | exc {a C : Addr} {od : Option Addr} (e : H a = some (excO a (.ref C) od)) (c : ExcC K C) : TyX K H (.ref a) (.ref C)
noncomputable def clsV : V → Option Value
  | .ref a => some (.ref a)
  | .ty n => some (.type n)
  | _ => none
noncomputable def rIsi (K : PySem.W.Frag) : List V → Hp → VK → Prop := fun xs H Q => ∃ x c t cv b, xs = [x, c] ∧ clsV c = some cv ∧ TyX K H x t ∧ PySem.W.kitOne K t cv = some b ∧ Q (.bl b) H
theorem call_isi : CallR X (.builtin "isinstance") (rIsi X.K) := by
  intro pins s σ H xs us Q I r h
  obtain ⟨x, c, t, cv, b, rfl, rc, ty, kt, q⟩ := h
  obtain ⟨u, w', rfl, ru, rw'⟩ := vals2 r
  have ecv : w' = cv := by
    cases c with
    | ref a => cases rw'; exact Option.some.inj rc
    | ty n => cases rw'; exact Option.some.inj rc
    | non => cases rc
    | bl _ => cases rc
    | int _ => cases rc
    | str _ => cases rc
    | byt _ => cases rc
    | flt _ => cases rc
  subst ecv
  cases ty with
  | of ty => exact isinst_ok I ru ty kt fun tk => ⟨.bl b, H, I.tok tk, rfl, q⟩
  | @exc a C od e c =>
    cases (show u = Value.ref a from ru)
    obtain ⟨p, _, _⟩ := (show ObjOk X.prog X.w H s.heap a (excO a (.ref C) od) from I.hok a _ e)
    exact PySem.W.kia_one (kitx_exc c) I.kIn p kt (fun z => nomatch z) fun tk => ⟨.bl b, H, I.tok tk, rfl, q⟩

/-! ### == and != of flat lists and tuples -/
noncomputable def eqVs : List V → List V → Bool
  | [], [] => true
  | x :: xs, y :: ys => eqV x y && eqVs xs ys
  | _, _ => false
theorem eqVs_spec : ∀ (xs ys : List V), eqVs xs ys = (xs.length == ys.length && (List.range xs.length).all fun j => match xs[j]?, ys[j]? with | some x, some y => eqV x y | _, _ => true)
  | [], [] => rfl
  | [], _ :: _ => rfl
  | _ :: _, [] => rfl
  | x :: xs, y :: ys => by
    rw [eqVs, eqVs_spec xs ys]
    simp only [List.length_cons, List.range_succ_eq_map, List.all_cons, List.all_map]
    have h1 : (xs.length + 1 == ys.length + 1) = (xs.length == ys.length) := by
      by_cases h : xs.length = ys.length
      · simp [h]
      · have : ¬ xs.length + 1 = ys.length + 1 := by omega
        simp [h]
    rw [h1]
    simp only [List.getElem?_cons_zero, Function.comp_def, List.getElem?_cons_succ]
    cases eqV x y <;> cases (xs.length == ys.length) <;> simp
theorem eqVs_ints : ∀ (a b : List Int), eqVs (a.map V.int) (b.map V.int) = decide (a = b)
  | [], [] => rfl
  | [], _ :: _ => rfl
  | _ :: _, [] => rfl
  | x :: xs, y :: ys => by
    rw [List.map_cons, List.map_cons, eqVs, eqVs_ints xs ys]
    show (x == y && _) = _
    by_cases h : x = y <;> by_cases h' : xs = ys <;> simp [h, h']
noncomputable def rEqSq (K : PySem.W.Frag) (neg : Bool) : R2 := fun x y H Q => ∃ p q xs ys, x = .ref p ∧ y = .ref q ∧ ((SqL K H p xs ∧ SqL K H q ys) ∨ (SqT K H p xs ∧ SqT K H q ys)) ∧ xs.all flatV = true ∧ ys.all flatV = true ∧ Q (.bl (if neg then !eqVs xs ys else eqVs xs ys)) H
theorem eq_at {A : Around} {s : Shared} {xs ys : List V} {us ws : List Value} (r : Vals xs us) (r' : Vals ys ws) (fx : xs.all flatV = true) (fy : ys.all flatV = true) :
    ∀ j (h1 : j < us.toArray.size) (h2 : j < ws.toArray.size), SeqAt.EqAt A s us.toArray[j] ws.toArray[j] (match xs[j]?, ys[j]? with | some x, some y => eqV x y | _, _ => true) := by
  intro j h1 h2
  have l1 := r.length
  have l2 := r'.length
  have h1' : j < us.length := by simpa using h1
  have h2' : j < ws.length := by simpa using h2
  have e1 : xs[j]? = some xs[j] := List.getElem?_eq_getElem (by omega)
  have e2 : ys[j]? = some ys[j] := List.getElem?_eq_getElem (by omega)
  obtain ⟨u, hu, ru⟩ := r.get e1
  obtain ⟨u', hu', ru'⟩ := r'.get e2
  rw [e1, e2]
  have g1 : us.toArray[j] = u := by
    have := List.getElem?_eq_some_iff.mp hu
    simpa using this.2
  have g2 : ws.toArray[j] = u' := by
    have := List.getElem?_eq_some_iff.mp hu'
    simpa using this.2
  rw [g1, g2]
  exact eqAt_V ru ru' (List.all_eq_true.mp fx _ (List.getElem_mem _)) (List.all_eq_true.mp fy _ (List.getElem_mem _))
theorem op_eqSq (hu : X.A.units < cLine) : OpR X (compareOp .Eq) (rEqSq X.K false) := by
  intro pins s σ H x y v u Q I rx ry h
  obtain ⟨p, q, xs, ys, rfl, rfl, hq, fx, fy, hQ⟩ := h
  cases rx
  cases ry
  rcases hq with ⟨h1, h2⟩ | ⟨h1, h2⟩
  · obtain ⟨its, r, pl, hz⟩ := I.list h1
    obtain ⟨its', r', pl', hz'⟩ := I.list h2
    have l1 := r.length
    have l2 := r'.length
    by_cases hs : its.length = its'.length
    · refine SeqAt.eq_listAt pl.isList pl'.isList (by simpa using hs) hu (eq_at r r' fx fy) ⟨.bl _, H, I, rfl, ?_⟩
      have e : (List.range its.toArray.size).all (fun j => match xs[j]?, ys[j]? with | some x, some y => eqV x y | _, _ => true) = eqVs xs ys := by
        rw [eqVs_spec, List.size_toArray, ← l1]
        have : (xs.length == ys.length) = true := by simp; omega
        rw [this, Bool.true_and]
      rw [e]; exact hQ
    · refine SeqAt.eq_list_lengthsAt pl.isList pl'.isList (by simpa using hs) hu ⟨.bl _, H, I, rfl, ?_⟩
      have e : eqVs xs ys = false := by
        rw [eqVs_spec]
        have : (xs.length == ys.length) = false := by simp; omega
        rw [this, Bool.false_and]
      have hQ' : Q (.bl (eqVs xs ys)) H := hQ
      rw [e] at hQ'; exact hQ'
  · obtain ⟨its, r, pl, hz⟩ := I.tuple h1
    obtain ⟨its', r', pl', hz'⟩ := I.tuple h2
    have l1 := r.length
    have l2 := r'.length
    refine SeqAt.eq_tupleAt pl pl' hu (eq_at r r' fx fy) ⟨.bl _, H, I, rfl, ?_⟩
    have e : ((List.range (min its.toArray.size its'.toArray.size)).all (fun j => match xs[j]?, ys[j]? with | some x, some y => eqV x y | _, _ => true) && its.toArray.size == its'.toArray.size) = eqVs xs ys := by
      rw [eqVs_spec, List.size_toArray, List.size_toArray, ← l1, ← l2]
      by_cases hs : xs.length = ys.length
      · rw [hs, Nat.min_self, Bool.and_comm]
      · have : (xs.length == ys.length) = false := by simp; omega
        rw [this, Bool.and_false, Bool.false_and]
    rw [e]; exact hQ

/-! ### great numbers -/
noncomputable def CDivB (i j : Int) : Prop := j ≠ 0 ∧ j.natAbs < 2 ^ 4000
theorem log2_small {n : Nat} (h : n < 2 ^ 4000) : n.log2 < 9000 := by
  by_cases hn : n = 0
  · subst hn; decide
  · have := (Nat.log2_lt hn).mpr h
    omega
theorem op_fdivB : OpR X (binaryOp .FloorDiv) (rI CDivB fun i j => .int (i.fdiv j)) := opI fun _ _ _ _ _ _ _ hc q => floordiv_int hc.1 q (.inl (PyProof.noPylong_of_log2 (log2_small hc.2)))
noncomputable def CMulB (i j : Int) : Prop := i.natAbs < 2 ^ 4000 ∧ j.natAbs < 2 ^ 4000
theorem op_mulB : OpR X (binaryOp .Mult) (rI CMulB fun i j => .int (i * j)) := opI fun _ _ _ _ _ _ _ hc q => mul_int q (IntMulOk.of_le (PySem.intBits_le_iff.mpr hc.1) (PySem.intBits_le_iff.mpr hc.2) (by decide))
end
end L2

namespace L2
open PySem PySem.Spec PyProof.Rows

/-! ### a def of the text, and what it promises, in short -/
structure Def (K : PySem.W.Frag) (mg : Str → Option Value) (x : Str) (st : Stmt) (ps : List Str) : Prop where
  ex : ∃ (f : Addr) (fd : FuncData), Fun K x x st f fd ∧ mg x = some (.ref f) ∧ Binds K fd ps []
structure Cal (P : Program) (w : World) (K : PySem.W.Frag) (mg : Str → Option Value) (base : Heap) (CX : CXT) (k : Nat) (x : Str) (ps : List Str) (sp : Sp) : Prop where
  ex : ∃ (f : Addr) (fd : FuncData), FnOk P w K mg base CX k f fd ps sp ∧ mg x = some (.ref f) ∧ PySem.W.keepIn K (.ref f) = true ∧ Binds K fd ps []
section
variable {P : Program} {w : World} {K : PySem.W.Frag} {mg : Str → Option Value} {base : Heap} {x : Str} {st : Stmt} {ps N : List Str} {sp : Sp} {k : Nat}
theorem Def.ok (D : Def K mg x st ps) (S : FnScope N ps (defScope st)) (len : ∀ vs H Q E, sp vs H Q E → vs.length = ps.length)
    (hbody : ∀ (f : Addr) (cdv : Value) (A : Around) (outer : List Env) (s : Shared) (H : Hp) (vs : List V) (Q : VK) (E : XK), Room k (A.deeper (envOfC x (defScope st) s.heap.objs.size f cdv)) → sp vs H Q E →
      ∃ t, PSs (cxOf CX0 P w K mg base N x (defScope st) f cdv A outer s H E).nox (defBody st) t ∧ t { nx := fun _ H' => Q .non H', rt := Q } (start N vs) H) : Cal P w K mg base CX0 (k + 1) x ps sp := by
  obtain ⟨f, fd, F, hm, hb⟩ := D.ex
  exact ⟨f, fd, F.ok S len (fun cdv A outer s H vs Q E hr h => hbody f cdv A outer s H vs Q E hr h), hm, F.kp, hb⟩
theorem Def.okX (D : Def K mg x st ps) (S : FnScope N ps (defScope st)) (len : ∀ vs H Q E, sp vs H Q E → vs.length = ps.length)
    (hbody : ∀ (f : Addr) (cdv : Value) (A : Around) (outer : List Env) (s : Shared) (H : Hp) (vs : List V) (Q : VK) (E : XK), Room k (A.deeper (envOfC x (defScope st) s.heap.objs.size f cdv)) → sp vs H Q E →
      Rs (cxOf (CX1 P w) P w K mg base N x (defScope st) f cdv A outer s H E) (fun c od _ H' => E c od H') →
      ∃ t, PSs (cxOf (CX1 P w) P w K mg base N x (defScope st) f cdv A outer s H E) (defBody st) t ∧ t { nx := fun _ H' => Q .non H', rt := Q } (start N vs) H) : Cal P w K mg base (CX1 P w) (k + 1) x ps sp := by
  obtain ⟨f, fd, F, hm, hb⟩ := D.ex
  exact ⟨f, fd, F.okX S len (fun cdv A outer s H vs Q E hr h R => hbody f cdv A outer s H vs Q E hr h R), hm, F.kp, hb⟩
theorem def_mk {h : Heap} {f : Addr} {oc : Value} {od an : Option Addr} {osl : Array (Option Value)} {kV doc pm cdv ct : Value} (X : K.In h) (G : h.Ns mainGlobals mg) (a : PySem.W.nsIn K mainGlobals x = some (some (.ref f)))
    (l : K.lookup f = some ⟨oc, od, .func (PySem.W.fnOf x x (defArgs st) (defBody st) (defScope st) .none kV doc pm an cdv ct), osl⟩) (c : PySem.W.codeIn K cdv x = true) (kp : PySem.W.keepIn K (.ref f) = true)
    (hb : ∀ (kV doc pm : Value) (an : Option Addr) (cdv ct : Value) (us : List Value), us.length = ps.length → bindArgs (PySem.W.fnOf x x (defArgs st) (defBody st) (defScope st) .none kV doc pm an cdv ct) ⟨us, []⟩ = pure (ps.zip us)) : Def K mg x st ps := by
  have F := fun_mk (st := st) l c kp
  exact ⟨f, _, F, PySem.W.mg_of X G a, F.binds hb⟩
end
section
variable {X : Cx} {k : Nat} {x : Str} {ps : List Str} {sp : Sp} {p pos : Pos} {e : Expr} {es : List Expr} {t : TA}
/-- f(..) of a def that raises nothing -/
theorem pe_cal (C : Cal X.prog X.w X.K X.mg X.base CX0 k x ps sp) (hr : Room k X.A) (ha : PA X (e :: es) t) (hg : Gl X x := by rfl) (hdb : (x == ("__debug__" : Str)) = false := by decide)
    (he : starEach (e :: es) X.env = (false, eval e X.env) :: starEach es X.env := by rfl) (hpl : (backTo pos (starEach es X.env)).any (·.1) = false := by rfl) :
    PE X (.Call (.Name x p) (e :: es) [] pos) (tCall sp [] E0 t) := by
  obtain ⟨f, fd, F, hm, kp, hb⟩ := C.ex
  exact pe_call F hr hg hm kp hb .nil pass0 ha hdb he hpl
theorem pe_calX {E : XS} (C : Cal X.prog X.w X.K X.mg X.base (CX1 X.prog X.w) k x ps sp) (hr : Room k X.A) (R : Rs X E) (ha : PA X (e :: es) t) (hex : X.ex = [] := by rfl) (hg : Gl X x := by rfl) (hdb : (x == ("__debug__" : Str)) = false := by decide)
    (he : starEach (e :: es) X.env = (false, eval e X.env) :: starEach es X.env := by rfl) (hpl : (backTo pos (starEach es X.env)).any (·.1) = false := by rfl) :
    PE X (.Call (.Name x p) (e :: es) [] pos) (tCallX sp [] E t) := by
  obtain ⟨f, fd, F, hm, kp, hb⟩ := C.ex
  exact pe_callX F hr hg hm kp hb .nil R hex ha hdb he hpl
end
/-- the room within a body's frame, for a call -/
theorem Room.sub {j k : Nat} {A : Around} (r : Room k A) (h : j ≤ k := by decide) : Room j A := r.mono h

/-! ### heaps that only grow -/
theorem Same.new {H : Hp} {p : Addr} {o : HO} (h : H p = none) : Same H (upd H p o) := fun b u e => by rw [upd_ne (ne_of_none e h)]; exact e
theorem Same.upd {H H' : Hp} {p : Addr} {o : HO} (s : Same H H') (h : H p = none) : Same H (L2.upd H' p o) := fun b u e => by rw [upd_ne (ne_of_none e h)]; exact s b u e
theorem Same.tup {K : PySem.W.Frag} {H H' : Hp} {a : Addr} {xs : List V} (e : Same H H') (h : SqT K H a xs) : SqT K H' a xs := by
  rcases h with (h | ⟨o, h⟩) | h
  · exact .inl (.inl (e _ _ h))
  · exact .inl (.inr ⟨o, e _ _ h⟩)
  · exact .inr h
/-- a list of ints -/
noncomputable abbrev zV (ns : List Int) : List V := ns.map V.int
theorem zs_get {ns : List Int} {i : Nat} {x : V} (h : (zV ns)[i]? = some x) : ∃ n, ns[i]? = some n ∧ x = .int n := by
  rw [List.getElem?_map] at h
  cases e : ns[i]? with
  | none => rw [e] at h; cases h
  | some z => rw [e] at h; exact ⟨z, rfl, (Option.some.inj h).symm⟩

/-! ### comprehensions that only make new things -/
/-- over a range, no test -/
theorem comp_range {n : Nat} {te : TE} {σ : St} {H : Hp} {Q : VK} (f : Nat → V) (hz : n ≤ sizeLine)
    (he : ∀ i H' Q', i < n → Same H H' → (∀ H'', Same H' H'' → Q' (f i) H'') → te (some (.int (0 + (i : Int))) :: σ) H' Q')
    (hd : ∀ p H', Same H H' → H p = none → H' p = some (.lst ((List.range n).map f)) → Q (.ref p) H') : ∃ W, (∃ m, W 0 m [] H) ∧ CompW (Itr 0 n) tYes te σ Q W := by
  refine ⟨fun i m ys H' => m = n - i ∧ i ≤ n ∧ ys = (List.range i).map f ∧ Same H H', ⟨n, by simp, Nat.zero_le _, by simp, .refl H⟩, ?_⟩
  rintro i m ys H' ⟨rfl, hi, rfl, s⟩
  by_cases hlt : i < n
  · refine .inr ⟨hlt, by rw [List.length_map, List.length_range]; omega, fun x H2 y => ?_⟩
    obtain ⟨e, y⟩ := y
    subst e y
    simp only [tYes, if_true]
    refine he i _ _ hlt s fun H'' s' => ⟨n - (i + 1), by omega, rfl, hlt, ?_, s.trans s'⟩
    rw [List.range_succ]; simp
  · have e : i = n := by omega
    subst e
    refine .inl ⟨Nat.le_refl _, by rw [List.length_map, List.length_range]; omega, fun p hp => hd p _ (s.upd (s.free hp)) (s.free hp) ?_⟩
    rw [upd_same]
end L2

namespace L2
open PySem PySem.Spec PyProof.Rows

theorem bt_len : bootBuiltins "len" = some (.builtin "len") := by decide +kernel
theorem bt_isinstance : bootBuiltins "isinstance" = some (.builtin "isinstance") := by decide +kernel
theorem bt_any : bootBuiltins "any" = some (.builtin "any") := by decide +kernel
theorem bt_all : bootBuiltins "all" = some (.builtin "all") := by decide +kernel
theorem bt_int : bootBuiltins "int" = some (.type "int") := by decide +kernel
theorem bt_str : bootBuiltins "str" = some (.type "str") := by decide +kernel
theorem bt_list : bootBuiltins "list" = some (.type "list") := by decide +kernel
theorem bt_tuple : bootBuiltins "tuple" = some (.type "tuple") := by decide +kernel

section
variable {X : Cx} {x : Str} {pos : Pos}
theorem pe_gR {a : Addr} (hm : X.mg x = some (.ref a)) (hg : Gl X x := by rfl) (hd : (x == ("__debug__" : Str)) = false := by decide) : PE X (.Name x pos) (tC (.ref a)) := pe_glob hg hm rfl hd
theorem pe_gI {i : Int} (hm : ∃ t, X.mg x = some (.int i t)) (hg : Gl X x := by rfl) (hd : (x == ("__debug__" : Str)) = false := by decide) : PE X (.Name x pos) (tC (.int i)) := by
  obtain ⟨t, hm⟩ := hm
  exact pe_glob hg hm ⟨_, rfl⟩ hd
theorem pe_bT {T : String} (hm : X.mg x = none) (hv : bootBuiltins x = some (.type T)) (hg : Gl X x := by rfl) (hn : x ≠ "__name__" := by decide) (hd : (x == ("__debug__" : Str)) = false := by decide) : PE X (.Name x pos) (tC (.ty T)) := pe_bltn hg hm hv rfl hn hd

/-! ### any, all of a list; bit_length -/
noncomputable def truV : V → Bool
  | .int i => i != 0
  | .bl b => b
  | _ => false
noncomputable def truAt (ys : List V) (i : Nat) : Bool := match ys[i]? with | some y => truV y | none => false
noncomputable def plainT : V → Bool
  | .int _ => true
  | .bl _ => true
  | _ => false
theorem tru_of {prog : Program} {w : World} {A : Around} {s : Shared} {Q : Bool → Shared → Prop} {E : Value → Shared → Prop} {y : V} {v : Value} (r : RelV y v) (p : plainT y = true) (h : Q (truV y) s) : wpAny (model prog w) A (truthy v) Q E s := by
  cases y with
  | int i => obtain ⟨t, rfl⟩ := r; exact PyProof.Rows.truthy_int h
  | bl b => cases r; exact wpAny_truthy_bool h
  | non => cases p
  | str _ => cases p
  | byt _ => cases p
  | flt _ => cases p
  | ref _ => cases p
  | ty _ => cases p
theorem truths {prog : Program} {w : World} {A : Around} {ys : List V} {its : List Value} (r : Vals ys its) (p : ys.all plainT = true) :
    TruthOf prog w A (fun i v => its.toArray[i]? = some v) (truAt ys) := by
  intro i v s Q E hv hq
  have l := r.length
  have hv' : its[i]? = some v := by simpa using hv
  have hi := (List.getElem?_eq_some_iff.mp hv').1
  have e : ys[i]? = some ys[i] := List.getElem?_eq_getElem (by omega)
  obtain ⟨u, hu, ru⟩ := r.get e
  rw [hv'] at hu; cases hu
  have hq' : Q (truAt ys i) s := hq
  rw [truAt, e] at hq'
  exact tru_of ru (List.all_eq_true.mp p _ (List.getElem_mem _)) hq'
theorem any_ix : ∀ (ys : List V), (List.range ys.length).any (truAt ys) = ys.any truV
  | [] => rfl
  | y :: ys => by
    rw [List.length_cons, List.range_succ_eq_map, List.any_cons, List.any_map, List.any_cons, ← any_ix ys]
    rfl
theorem all_ix : ∀ (ys : List V), (List.range ys.length).all (truAt ys) = ys.all truV
  | [] => rfl
  | y :: ys => by
    rw [List.length_cons, List.range_succ_eq_map, List.all_cons, List.all_map, List.all_cons, ← all_ix ys]
    rfl
theorem call_all (hc : X.calm = true) : CallR X (.builtin "all") (fun xs H Q => ∃ p ys, xs = [.ref p] ∧ SqL X.K H p ys ∧ ys.all plainT = true ∧ Q (.bl (ys.all truV)) H) := by
  intro pins s σ H xs us Q I r h
  obtain ⟨p, ys, rfl, hq, hp, q⟩ := h
  obtain ⟨u, rfl, rx⟩ := vals1 r
  cases rx
  obtain ⟨its, r', pl, hz⟩ := I.list hq
  have hl := pl.isList
  have hlt : p < s.heap.objs.size := by obtain ⟨o, ho, _⟩ := hl; exact Heap.lt_size ho
  refine call_all_walk (wpAny_pyIter_list hl ?_)
  refine ⟨_, _, _, its.toArray.size, _, _, _, rfl, Walks.list (show X.A.in1.handled = none from I.ok.hd hc) s.heap.objs.size p (Nat.ne_of_lt hlt) its.toArray, ⟨⟨_, Heap.get?_push_size _ rfl, rfl, rfl⟩, hl.at fun o e => Heap.get?_push_of_some _ e⟩, truths r' hp, fun h' tk k => ?_⟩
  have e : (List.range its.toArray.size).all (truAt ys) = ys.all truV := by rw [List.size_toArray, ← r'.length]; exact all_ix ys
  rw [e]
  exact ⟨.bl _, H, I.kept (t' := tk) fun b o eb => k b o (fun z => absurd (Heap.lt_size eb) (by rw [List.mem_singleton.mp z]; exact Nat.lt_irrefl _)) (Heap.get?_push_of_some _ eb), rfl, q⟩
end
end L2

namespace L2
open PySem PySem.Spec PyProof.Rows
/-! ### the rules whose readings name the written part, with that part named: for a block's context and a handler's -/
section
variable {X : Cx} {tg : Expr} (K : PySem.W.Frag)
theorem ix_listK (h : X.K = K := by rfl) : IxR X (rIxL K) := h ▸ ix_list
theorem ix_tupK (h : X.K = K := by rfl) : IxR X (rIxT K) := h ▸ ix_tup
theorem call_lenK (h : X.K = K := by rfl) : CallR X (.builtin "len") (fun xs H Q => ∃ p ys, xs = [.ref p] ∧ (SqL K H p ys ∨ SqT K H p ys) ∧ Q (.int ys.length) H) := h ▸ call_len_seq
theorem call_isiK (h : X.K = K := by rfl) : CallR X (.builtin "isinstance") (rIsi K) := h ▸ call_isi
theorem op_inK (h : X.K = K := by rfl) : OpR X (compareOp .In) (rIn K false) := h ▸ op_in_seq
theorem op_notInK (h : X.K = K := by rfl) : OpR X (compareOp .NotIn) (rIn K true) := h ▸ op_notIn_seq
theorem sl_listK (h : X.K = K := by rfl) : SlR X (rSlL K) := h ▸ sl_list
theorem sl_tupK (h : X.K = K := by rfl) : SlR X (rSlT K) := h ▸ sl_tup
theorem call_listK (h : X.K = K := by rfl) : CallR X (.type "list") (fun xs H Q => ∃ p ys, xs = [.ref p] ∧ (SqL K H p ys ∨ SqT K H p ys) ∧ ∀ l, H l = none → Q (.ref l) (upd H l (.lst ys))) := h ▸ call_list_of
theorem pi_listK {l : Expr} {tl : TE} (hl : PE X l tl) (h : X.K = K := by rfl) : PI X tg l (iList K tl) := h ▸ pi_list hl
theorem pi_tupK {l : Expr} {tl : TE} (hl : PE X l tl) (h : X.K = K := by rfl) : PI X tg l (iTup K tl) := h ▸ pi_tup hl
theorem op_eqSqK (hu : X.A.units < cLine) (h : X.K = K := by rfl) : OpR X (compareOp .Eq) (rEqSq K false) := h ▸ op_eqSq hu
theorem call_allK (hc : X.calm = true := by rfl) (h : X.K = K := by rfl) : CallR X (.builtin "all") (fun xs H Q => ∃ p ys, xs = [.ref p] ∧ SqL K H p ys ∧ ys.all plainT = true ∧ Q (.bl (ys.all truV)) H) := h ▸ call_all hc
end
theorem iteD {c A B : Prop} [Decidable c] (hc : c) (h : A) : if decide c = true then A else B := by rw [decide_eq_true hc]; exact iteT h
theorem iteDN {c A B : Prop} [Decidable c] (hc : ¬ c) (h : B) : if decide c = true then A else B := by rw [decide_eq_false hc]; exact iteF h
theorem iteB {b : Bool} {A B : Prop} (hc : b = true) (h : A) : if b = true then A else B := by rw [hc]; exact iteT h
theorem iteBN {b : Bool} {A B : Prop} (hc : b = false) (h : B) : if b = true then A else B := by rw [hc]; exact iteF h
theorem k_ll (K : PySem.W.Frag) : PySem.W.kitOne K (.type "list") (.type "list") = some true := rfl
theorem line6 : ∀ {n : Nat}, n ≤ 1000 → n ≤ sizeLine := fun h => Nat.le_trans h (by rw [sizeLine_eq]; decide)
end L2
namespace L2
open PySem
/-! ### classes of the text, from what can be looked up -/
structure ClsK (K : PySem.W.Frag) (C : Addr) : Prop where
  cd : ∃ cd, PySem.W.clsIn K C = some cd
  ty : PySem.W.typeIn K (.ref C) = some (.type "type")
theorem kit_of {K : PySem.W.Frag} {a C : Addr} {b : Bool} (s0 : PySem.W.subIn K (.ref a) (.ref a) = some true) (c : ClsK K C) (s : PySem.W.subIn K (.ref a) (.ref C) = some b) : PySem.W.kitOne K (.ref a) (.ref C) = some b := by
  obtain ⟨⟨cd, h1⟩, h2⟩ := c
  unfold PySem.W.kitOne
  by_cases h : a = C
  · subst h
    rw [s0] at s
    rw [if_pos (by simp)]
    exact s
  · rw [if_neg (by simpa using h)]
    unfold PySem.W.kitCls
    simp only [h1, h2]
    rw [if_pos (by rfl)]
    exact s
theorem exm_of {K : PySem.W.Frag} {a C : Addr} {b : Bool} (s0 : PySem.W.subIn K (.ref C) (.type "BaseException") = some true) (c : ClsK K C) (s : PySem.W.subIn K (.ref a) (.ref C) = some b) : PySem.W.exmOne K (.ref a) (.ref C) = some b := by
  obtain ⟨⟨cd, h1⟩, h2⟩ := c
  unfold PySem.W.exmOne
  rw [s0, if_pos (by rfl)]
  unfold PySem.W.kitCls
  simp only [h1, h2]
  rw [if_pos (by rfl)]
  exact s
end L2

namespace L2
open PySem PySem.Spec PyProof.Rows
/-! ### the end of a list's walk within a handler -/
theorem entry_unchain : entryFor table "proto.unchain" = some Builtin.«proto.unchain» := entryFor_of_fast (by kernel_rfl)
section
variable {prog : Program} {w : World} {A : Around} {E : Value → Shared → Prop} {s : Shared}
theorem raiseNew_H {α : Type} {a h : Addr} {oa oh : Obj} {va vh : Array Value} {Q : α → Shared → Prop} (hh : A.handled = some (.ref h)) (ho : s.heap.get? h = some oh) (hd : oh.data = .fields vh) (h2 : vh[2]? = some .none)
    (ha : s.heap.get? a = some oa) (hda : oa.data = .fields va) (hz : 2 < va.size) (hne : h ≠ a) (hQ : E (.ref a) { s with heap := s.heap.update a (Obj.mapFields (·.setIfInBounds 2 (.ref h))) }) : wpAny (model prog w) A (raiseNew (.ref a) : Sem α) Q E s := by
  unfold raiseNew
  refine wpAny_bind (wpAny_handled ?_)
  rw [hh]
  dsimp only
  rw [if_pos (by simpa using hne)]
  refine wpAny_bind (wpAny_holding ?_)
  refine wpAny_runValue ?_
  refine codeAny_builtin entry_unchain ?_
  unfold Builtin.«proto.unchain»
  dsimp only
  refine wpAny_bind (wpAny_field ho hd h2 ?_)
  rw [if_pos (by rfl)]
  refine wpAny_bind (wpAny_pure ?_)
  refine wpAny_pure ?_
  show wpAny (model prog w) A (setField (.ref a) 2 (.ref h) >>= fun _ => throw (Value.ref a)) Q E s
  exact wpAny_bind (wpAny_setField ha hda hz (wpAny_throw hQ))
theorem next_endH {it l h : Addr} {i : Nat} {items} {oh : Obj} {vh : Array Value} {Q : Option Value → Shared → Prop} (hh : A.handled = some (.ref h)) (hoh : s.heap.get? h = some oh) (hdh : oh.data = .fields vh) (h2 : vh[2]? = some .none) (hne : h ≠ it)
    (hit : s.heap.IsListIter it l i) (hl : s.heap.IsList l items) (hx : items[i]? = none)
    (hQ : ∀ h', Heap.ExtBut it s.heap h' → Q none { s with heap := h' }) : wpAny (model prog w) A (pyNext (.ref it)) Q E s := by
  obtain ⟨o, ho, hc, hd⟩ := id hit
  obtain ⟨ol, hol, _, nl, hdl⟩ := hl
  unfold pyNext
  refine wpAny_bind (wpAny_attempt (wpAny_callSpecial?_slot (name := Str.ofString "__next__") hit.typeIs slot_listiter_next
    (wpAny_call_entry slot_listiter_next hit.typeIs entry_listiter_next ?_ (args_listiter_next _))))
  show wpAny _ _ (field (.ref it) 0 >>= _) _ _ s
  refine wpAny_bind (wpAny_field ho hd (x := .ref l) rfl ?_)
  show wpAny _ _ (if (Value.ref l == Value.none) = true then _ else _) _ _ s
  rw [if_neg (show ¬ ((Value.ref l == Value.none) = true) from Bool.false_ne_true)]
  show wpAny _ _ (field (.ref it) 1 >>= _) _ _ s
  refine wpAny_bind (wpAny_field ho hd (x := .int i 0) rfl ?_)
  show wpAny _ _ (seqItems? (.ref l) >>= _) _ _ s
  refine wpAny_bind (wpAny_seqItems hol hdl ?_)
  simp only [Int.toNat_natCast, hx]
  refine wpAny_bind (wpAny_rule (wpAny_bind (wpAny_setField ho hd (by simp) ?_)))
  show wpAny _ _ (newExc (.type "StopIteration") [] >>= _) _ _ _
  refine wpAny_bind ?_
  simp only [newExc, newTuple]
  refine wpAny_bind (wpAny_newObj_type ?_ (by size_fits))
  refine wpAny_bind (m := firstArgMember _ _) (wpAny_of_eq (a := Value.none) (by first | rfl | (simp only [firstArgMember]; rfl)) ?_)
  refine wpAny_newObj_type ?_ (by size_fits)
  have hupd := (Heap.get?_update_other s.heap (Obj.mapFields (·.setIfInBounds 0 Value.none)) (Ne.symm hne)).trans hoh
  generalize hH1 : s.heap.update it (Obj.mapFields fun x => x.setIfInBounds 0 Value.none) = H1 at hupd ⊢
  dsimp only
  generalize hH2 : H1.push { cls := .type "tuple", data := .seq #[] } = H2
  have hh2 : H2.get? h = some oh := hH2 ▸ Heap.get?_push_of_some _ hupd
  have hne2 : h ≠ H2.objs.size := Nat.ne_of_lt (Heap.lt_size hh2)
  refine raiseNew_H (h := h) (oh := oh) (vh := vh) (show A.in1.handled = _ from hh) (Heap.get?_push_of_some _ hh2) hdh h2 (Heap.get?_push_size _ rfl) rfl (by rw [Array.size_append]; show 2 < 6 + _; omega) hne2 ?_
  dsimp only
  refine wpAny_bind (wpAny_isInstance (T := "StopIteration") (b := true) ⟨_, Heap.get?_update_self _ (Heap.get?_push_size _ rfl) rfl, rfl⟩ isSubtype_stop ?_)
  refine wpAny_pure (hQ _ fun b o hb e => ?_)
  have e1 : H1.get? b = some o := by rw [← hH1, Heap.get?_update_other _ _ (Ne.symm hb)]; exact e
  have e2 : H2.get? b = some o := hH2 ▸ Heap.get?_push_of_some _ e1
  rw [Heap.get?_update_other _ _ (Nat.ne_of_gt (Heap.lt_size e2))]
  exact Heap.get?_push_of_some _ e2
/-- the walk of a list within a handler -/
theorem walks_H (h : Addr) (oh : Obj) (vh : Array Value) (hd : oh.data = .fields vh) (h2 : vh[2]? = some .none) (hh : A.handled = some (.ref h)) (I ax : Addr) (hne : ax ≠ I) (hI : h ≠ I) (items : Array Value) :
    Walks prog w A I [I, ax, h] [I] items.size (fun i v => items[i]? = some v) (fun i hp => hp.IsListIter I ax i ∧ hp.IsList ax items ∧ hp.get? h = some oh) where
  sub := fun b hb => by simp at hb; simp [hb]
  frame := fun _ _ _ st hk => ⟨st.1.at fun o e => hk I (by simp) o e, st.2.1.at fun o e => hk ax (by simp) o e, hk h (by simp) _ st.2.2⟩
  item := fun i s Q E hi st hQ => by
    refine wpAny_pyNext_list_item st.1 st.2.1 (x := items[i]) (by simp [hi]) fun h' hit' hs' => ?_
    exact hQ _ h' s.toks (by simp [hi]) ⟨hit', st.2.1.extBut hs'.extBut hne, hs'.extBut _ _ hI st.2.2⟩ fun b o hb e => hs'.extBut b o (fun h => hb (by simp [h])) e
  done := fun s Q E st hQ => next_endH hh st.2.2 hd h2 hI st.1 st.2.1 (by simp) fun h' he' => hQ h' s.toks fun b o hb e => he' b o (fun h => hb (by simp [h])) e
  self := fun _ _ _ _ st hQ => wpAny_pyIter_listiter st.1 hQ
end
section
variable {X : Cx} (K : PySem.W.Frag)
theorem call_anyH (e : Addr) (hK : X.K = K := by rfl) : CallR (hnd X e) (.builtin "any") (fun xs H Q => ∃ p ys cls od, xs = [.ref p] ∧ H e = some (excO e cls od) ∧ SqL K H p ys ∧ ys.all plainT = true ∧ Q (.bl (ys.any truV)) H) := by
  subst hK
  intro pins s σ H xs us Q I r h
  obtain ⟨p, ys, cls, od, rfl, he, hq, hp, q⟩ := h
  obtain ⟨u, rfl, rx⟩ := vals1 r
  cases rx
  obtain ⟨its, r', pl, hz⟩ := I.list hq
  have hl := pl.isList
  have hlt : p < s.heap.objs.size := by obtain ⟨o, ho, _⟩ := hl; exact Heap.lt_size ho
  obtain ⟨⟨oe, ve, e1, e2, _, e3, e4⟩, _, _⟩ := (show ObjOk X.prog X.w H s.heap e (excO e cls od) from I.hok e _ he)
  refine call_any_walk (wpAny_pyIter_list hl ?_)
  refine ⟨_, _, _, its.toArray.size, _, _, _, rfl, walks_H e oe ve e3 e4 (show (hnd X e).A.in1.handled = some (.ref e) from rfl) s.heap.objs.size p (Nat.ne_of_lt hlt) (Nat.ne_of_lt (Heap.lt_size e1)) its.toArray,
    ⟨⟨_, Heap.get?_push_size _ rfl, rfl, rfl⟩, hl.at fun o e => Heap.get?_push_of_some _ e, Heap.get?_push_of_some _ e1⟩, truths r' hp, fun h' tk k => ?_⟩
  have e : (List.range its.toArray.size).any (truAt ys) = ys.any truV := by rw [List.size_toArray, ← r'.length]; exact any_ix ys
  rw [e]
  exact ⟨.bl _, H, I.kept (t' := tk) fun b o eb => k b o (fun z => absurd (Heap.lt_size eb) (by rw [List.mem_singleton.mp z]; exact Nat.lt_irrefl _)) (Heap.get?_push_of_some _ eb), rfl, q⟩
end

/-! ### what a text's top has, in common -/
/-- names of Python's own that the text does not bind -/
structure Blt (mg : Str → Option Value) : Prop where
  n_len : mg "len" = none
  n_range : mg "range" = none
  n_abs : mg "abs" = none
  n_any : mg "any" = none
  n_all : mg "all" = none
  n_isinstance : mg "isinstance" = none
  n_int : mg "int" = none
  n_bool : mg "bool" = none
  n_list : mg "list" = none
  n_str : mg "str" = none
  n_tuple : mg "tuple" = none
  n_enumerate : mg "enumerate" = none
  n_ValueError : mg "ValueError" = none
theorem blt_mk {K : PySem.W.Frag} {h : Heap} {mg : Str → Option Value} (X : K.In h) (G : h.Ns mainGlobals mg)
    (z1 : PySem.W.nsIn K mainGlobals "len" = some none) (z2 : PySem.W.nsIn K mainGlobals "range" = some none) (z3 : PySem.W.nsIn K mainGlobals "abs" = some none) (z4 : PySem.W.nsIn K mainGlobals "any" = some none) (z5 : PySem.W.nsIn K mainGlobals "all" = some none)
    (z6 : PySem.W.nsIn K mainGlobals "isinstance" = some none) (z7 : PySem.W.nsIn K mainGlobals "int" = some none) (z8 : PySem.W.nsIn K mainGlobals "bool" = some none) (z9 : PySem.W.nsIn K mainGlobals "list" = some none) (z10 : PySem.W.nsIn K mainGlobals "str" = some none)
    (z11 : PySem.W.nsIn K mainGlobals "tuple" = some none) (z12 : PySem.W.nsIn K mainGlobals "enumerate" = some none) (z13 : PySem.W.nsIn K mainGlobals "ValueError" = some none) : Blt mg :=
  ⟨PySem.W.mg_none_of X G z1, PySem.W.mg_none_of X G z2, PySem.W.mg_none_of X G z3, PySem.W.mg_none_of X G z4, PySem.W.mg_none_of X G z5, PySem.W.mg_none_of X G z6, PySem.W.mg_none_of X G z7, PySem.W.mg_none_of X G z8, PySem.W.mg_none_of X G z9,
    PySem.W.mg_none_of X G z10, PySem.W.mg_none_of X G z11, PySem.W.mg_none_of X G z12, PySem.W.mg_none_of X G z13⟩
/-- a class of the text, by its name -/
structure GCls (K : PySem.W.Frag) (mg : Str → Option Value) (x : Str) (C : Addr) : Prop where
  m : mg x = some (.ref C)
  cl : ClsK K C
theorem gcls_mk {K : PySem.W.Frag} {h : Heap} {mg : Str → Option Value} {x : Str} {C : Addr} {cd : ClassData} (X : K.In h) (G : h.Ns mainGlobals mg) (a : PySem.W.nsIn K mainGlobals x = some (some (.ref C))) (b : PySem.W.clsIn K C = some cd) (c : PySem.W.typeIn K (.ref C) = some (.type "type")) : GCls K mg x C :=
  ⟨PySem.W.mg_of X G a, ⟨_, b⟩, c⟩
/-- an own refusal that is raised -/
structure XCls (K : PySem.W.Frag) (C : Addr) : Prop where
  x : PySem.W.excIn K C bmVE "ValueError.__new__" = true
  c : ExcC K C
  self : PySem.W.subIn K (.ref C) (.ref C) = some true
theorem xcls_mk {K : PySem.W.Frag} {C : Addr} {cd : ClassData} (x : PySem.W.excIn K C bmVE "ValueError.__new__" = true)
    (y1 : PySem.W.findIn K (.ref C) "__getattribute__" = some (some (.builtin "BaseException.__getattribute__"))) (y2 : PySem.W.findIn K (.ref C) "__getattr__" = some none) (y3 : PySem.W.findIn K (.ref C) "__class__" = some (some (.builtin "object.__class__")))
    (y4 : PySem.W.subIn K (.ref C) (.type "BaseException") = some true) (y5 : PySem.W.subIn K (.ref C) (.type "object") = some true) (y6 : PySem.W.clsIn K C = some cd) (y7 : PySem.W.subIn K (.ref C) (.ref C) = some true) : XCls K C :=
  ⟨x, ⟨y1, y2, y3, y4, y5, by rw [y6]; rfl⟩, y7⟩
structure Lens (K : PySem.W.Frag) (mg : Str → Option Value) (aL : Addr) : Prop where
  m : mg "LENGTHS" = some (.ref aL)
  sq : ∀ H, SqT K H aL (zV [2, 4, 8, 16, 32, 64])
end L2
namespace L2
end L2
namespace L2
end L2

namespace L2
open PySem PySem.Spec PyProof.Rows
/-! ### for i, x in enumerate(list) -/
section
variable {X : Cx} {pins : List (Addr × Obj)} {σ : St} {H : Hp} {s : Shared} {h' : Heap}
/-- two untracked records of ours have turned -/
theorem Inv.turned2 {t' : Nat} {e it : Addr} (I : Inv X pins σ H s) (k : ∀ b o, b ≠ e → b ≠ it → s.heap.get? b = some o → h'.get? b = some o) (fe : FpOk X pins H e) (fi : FpOk X pins H it) : Inv X pins σ H { s with heap := h', toks := t' } := by
  have ne : ∀ b u, H b = some u → b ≠ e ∧ b ≠ it := fun b u q => ⟨fun z => (by rw [z, fe.1] at q; cases q), fun z => (by rw [z, fi.1] at q; cases q)⟩
  refine I.step (g' := s.gens) (d' := s.drawn) (ch := [e, it]) (fun b hb => ?_) (fun b o _ _ hc q _ => k b o (fun z => hc (by simp [z])) (fun z => hc (by simp [z])) q) (fun b o _ _ hc q _ => ⟨o.slots, k b o (fun z => hc (by simp [z])) (fun z => hc (by simp [z])) q⟩) (fun _ _ _ _ n => n)
    (fun b o hc q => ⟨o, k b o (fun z => hc (by simp [z])) (fun z => hc (by simp [z])) q⟩) (fun _ _ q => q) (fun _ _ _ q => q) (fun b ps q => ⟨#[], by rw [q]; simp⟩) (fun m hm => ?_) (fun b u q => ?_) I.bare
  · rcases List.mem_cons.mp hb with rfl | hb
    · exact ⟨fe.2.2.2.1, fe.2.1, fe.2.2.2.2.1, fe.2.2.2.2.2⟩
    · rcases List.mem_cons.mp hb with rfl | hb
      · exact ⟨fi.2.2.2.1, fi.2.1, fi.2.2.2.2.1, fi.2.2.2.2.2⟩
      · cases hb
  · obtain ⟨o, es, ep, ho, r⟩ := hm
    exact ⟨o, es, ep, k _ o (Ne.symm fe.2.1) (Ne.symm fi.2.1) ho, r⟩
  · refine (I.hok b u q).stay (fun c v hc q' => ?_) (fun _ q => q) fun _ _ q => q
    rcases hc with z | z
    · rw [z] at q' ⊢; exact k _ v (ne b u q).1 (ne b u q).2 q'
    · exact k c v (ne c _ z).1 (ne c _ z).2 q'
end
/-- turn i: a new pair of i and the list's i-th item -/
noncomputable def Ite (K : PySem.W.Frag) (a : Addr) : It :=
  ⟨fun i H => ∃ xs x, SqL K H a xs ∧ xs[i]? = some x, fun i H x H' => ∃ p v, H p = none ∧ x = .ref p ∧ H' = upd H p (.tup [.int i, v]) ∧ ∀ xs, SqL K H a xs → xs[i]? = some v, fun i H => ∃ xs, SqL K H a xs ∧ xs.length ≤ i⟩
theorem fpOk_upd {X : Cx} {pins : List (Addr × Obj)} {H : Hp} {b p : Addr} {o : HO} (h : FpOk X pins H b) (hne : b ≠ p) : FpOk X pins (upd H p o) b := ⟨by rw [upd_ne hne]; exact h.1, h.2⟩
theorem turn_enum {P : Program} {w : World} {K : PySem.W.Frag} {es : List Expr} {k : Nat} {pos : Pos} (a e it : Addr) (hei : e ≠ it) : Turn P w K (.Tuple es k pos) (Ite K a) [e, it] e (fun i h => (∃ old, IsEnum h e it i old) ∧ h.IsListIter it a i) where
  mem := by simp
  obj := fun i h st b hb => by
    obtain ⟨⟨old, he⟩, o, e2, c, d⟩ := st
    rcases List.mem_cons.mp hb with rfl | hb
    · exact ⟨_, he, fun v z => by cases z⟩
    · rcases List.mem_cons.mp hb with rfl | hb
      · exact ⟨o, e2, fun v z => by rw [d] at z; cases z⟩
      · cases hb
  keep := fun i h h' st k => by
    obtain ⟨⟨old, he⟩, hit⟩ := st
    exact ⟨⟨old, k e (by simp) _ he⟩, hit.at fun o q => k it (by simp) o q⟩
  item := by
    intro X hP hw hK hc i pins s σ H E I hf st hg
    subst hP hw hK
    obtain ⟨xs, x, hq, hx⟩ := hg
    obtain ⟨its, rv, p, hz⟩ := I.list hq
    obtain ⟨u, hu, ru⟩ := rv.get hx
    obtain ⟨⟨old, he⟩, hit⟩ := st
    have fe := hf e (by simp)
    have fi := hf it (by simp)
    have hle : e < s.heap.objs.size := Heap.lt_size he
    have hli : it < s.heap.objs.size := by obtain ⟨_, q, _⟩ := id hit; exact Heap.lt_size q
    refine wpAny_pyNext_enum_item he hit p.isList (x := u) (by simpa using hu) hei fun h' ho hit' hT hsz hk => ?_
    refine ⟨_, rfl, wpAny_letOwnedTupleGo_enum ho fun h2 he2 hs2 => ?_⟩
    replace hs2 : Heap.SameBut e h' h2 := hs2
    have hn : H s.heap.objs.size = none := I.hok.fresh (Nat.le_refl _)
    have IT : IsTup (s.heap.push { cls := .type "tuple", data := .seq #[.int i s.toks, u] }) s.heap.objs.size [Value.int i s.toks, u].toArray := ⟨_, Heap.get?_push_size s.heap rfl, rfl, 0, rfl⟩
    have I1 : Inv X pins σ (upd H s.heap.objs.size (.tup [.int i, x])) { s with heap := s.heap.push { cls := .type "tuple", data := .seq #[.int i s.toks, u] }, toks := s.toks } :=
      I.laid (fun b o q => Heap.get?_push_of_some _ q) (Nat.le_refl _) ⟨by simp only [List.length_cons, List.length_nil]; rw [sizeLine_eq]; decide, [.int i s.toks, u], .cons ⟨_, rfl⟩ (.cons ru .nil), IT⟩
    have kk : ∀ b o, b ≠ e → b ≠ it → (s.heap.push { cls := .type "tuple", data := .seq #[.int i s.toks, u] }).get? b = some o → h2.get? b = some o := fun b o n1 n2 q => by
      refine (hs2.2 b n1).trans ?_
      rcases Heap.get?_push_cases q with ⟨rfl, rfl⟩ | q
      · exact hT
      · exact hk b o n1 n2 q
    have I2 := I1.turned2 (h' := h2) (e := e) (it := it) (t' := s.toks + 1) kk (fpOk_upd fe (Nat.ne_of_lt hle)) (fpOk_upd fi (Nat.ne_of_lt hli))
    refine ⟨.ref s.heap.objs.size, _, I2, rfl, ⟨_, x, hn, rfl, rfl, fun ys hy => by rw [I.list_inj hy hq]; exact hx⟩, ⟨⟨u, ?_⟩, hit'.at fun o q => (hs2.2 it hei.symm).trans q⟩, fun b hb => ?_⟩
    · have : ((i + 1 : Nat) : Int) = (i : Int) + 1 := by push_cast; rfl
      rw [this]; exact he2
    · rcases List.mem_cons.mp hb with rfl | hb
      · exact (fpOk_upd fe (Nat.ne_of_lt hle)).1
      · rcases List.mem_cons.mp hb with rfl | hb
        · exact (fpOk_upd fi (Nat.ne_of_lt hli)).1
        · cases hb
  done := by
    intro X hP hw hK hc i pins s σ H E I hf st hg
    subst hP hw hK
    obtain ⟨xs, hq, hx⟩ := hg
    obtain ⟨its, rv, p, hz⟩ := I.list hq
    obtain ⟨⟨old, he⟩, hit⟩ := st
    obtain ⟨f0, f1, f2, f3, f4, f5⟩ := hf it (by simp)
    have hl := rv.length
    exact wpAny_pyNext_enum_end (I.ok.hd hc) he hit p.isList (by simp; omega) fun h' eb => ⟨rfl, I.turned (t' := s.toks) (fun b o hb q => eb b o hb q) f0 f1 f3 f4 f5⟩
  self := fun _ _ _ _ _ st h => by
    obtain ⟨⟨old, he⟩, _⟩ := st
    exact wpAny_pyIter_enum he h
section
variable {X : Cx}
noncomputable def iEnum (K : PySem.W.Frag) (ta : TA) : TI := fun σ H R => ta σ H fun vs H1 => ∃ a xs, vs = [.ref a] ∧ SqL K H1 a xs ∧ R (Ite K a) H1
theorem bt_enumerate : bootBuiltins "enumerate" = some (.type "enumerate") := by decide +kernel
theorem pi_enumK (K : PySem.W.Frag) {es : List Expr} {k : Nat} {p' : Pos} {l : Expr} {ta : TA} {p pos : Pos} (hg : Gl X "enumerate") (hm : X.mg "enumerate" = none) (ha : PA X [l] ta) (hs : starEach [l] X.env = [(false, eval l X.env)] := by rfl) (hK : X.K = K := by rfl) :
    PI X (.Tuple es k p') (.Call (.Name "enumerate" p) [l] [] pos) (iEnum K ta) := by
  subst hK
  intro pins s σ H R I h
  refine Call_ (ld_blt I hg hm bt_enumerate (PyProof.Rows.callWith_type1 (thn (ha pos pins s σ H _ I h) fun us s1 ⟨vs, H1, I1, r1, q1⟩ => ?_) hs rfl))
  obtain ⟨a, xs, rfl, hq, q⟩ := q1
  cases r1 with
  | cons r rr =>
    cases rr
    cases r
    obtain ⟨its, rv, pl, hz⟩ := I1.list hq
    refine call_enumerate_list pl.isList fun h' he hit hsz hk => ?_
    refine wpAny_pyIter_enum he ?_
    have hne : s1.heap.objs.size + 1 ≠ s1.heap.objs.size := Nat.succ_ne_self _
    refine ⟨s1.heap.objs.size + 1, [s1.heap.objs.size + 1, s1.heap.objs.size], _, _, H1, rfl, I1.kept (t' := s1.toks) hk, turn_enum a _ _ hne, ⟨⟨_, he⟩, hit⟩, fun b hb => ?_, q⟩
    rcases List.mem_cons.mp hb with rfl | hb
    · exact I1.fpOk (Nat.le_succ _) (I1.hok.fresh (Nat.le_succ _))
    · rcases List.mem_cons.mp hb with rfl | hb
      · exact I1.fpOk (Nat.le_refl _) (I1.hok.fresh (Nat.le_refl _))
      · cases hb
end
end L2
namespace L2
open PySem
theorem pg_tupK {X : Cx} (K : PySem.W.Frag) {es : List Expr} {k : Nat} {pos : Pos} {t : TGs} {n : Nat} (hc : X.calm = true) (h : PGs X es t)
    (hn : (assignEach es X.env).length = n := by rfl) (hst : (assignEach es X.env).findIdx? (·.1) = none := by rfl) (hK : X.K = K := by rfl) : PG X (.Tuple es k pos) (gTup K n t) := hK ▸ pg_tup hc h hn hst
/-- a tuple of three words among the text's names -/
structure Wrds (K : PySem.W.Frag) (mg : Str → Option Value) (x a b c : Str) (aW : Addr) : Prop where
  m : mg x = some (.ref aW)
  sq : ∀ H, SqT K H aW [.str a, .str b, .str c]
theorem wrds_mk {K : PySem.W.Frag} {h : Heap} {mg : Str → Option Value} {x a b c : Str} {aW : Addr} {od : Option Addr} {sl : Array (Option Value)} {n : Nat} {t1 t2 t3 : Tok} (X : K.In h) (G : h.Ns mainGlobals mg) (g : PySem.W.nsIn K mainGlobals x = some (some (.ref aW)))
    (l : K.lookup aW = some ⟨.type "tuple", od, .seq #[.str a t1, .str b t2, .str c t3] n, sl⟩) : Wrds K mg x a b c aW :=
  ⟨PySem.W.mg_of X G g, fun H => .inr ⟨_, _, n, l, rfl, rfl, line6 (by show 3 ≤ 1000; decide), .cons ⟨_, rfl⟩ (.cons ⟨_, rfl⟩ (.cons ⟨_, rfl⟩ .nil))⟩⟩
end L2

namespace L2
open PySem PySem.Spec PyProof.Rows
/-! ### == and != of lists that hold lists, where they are equal -/
theorem eqV_refl {x : V} (h : flatV x = true) : eqV x x = true := by
  cases x <;> first | rfl | (exact absurd (show false = true from h) Bool.false_ne_true) | simp [eqV]
/-- alike items: flat and the same, or one object -/
inductive Al0 : V → V → Prop where
  | flat {x : V} (h : flatV x = true) : Al0 x x
  | ref (a : Addr) : Al0 (.ref a) (.ref a)
/-- alike items, or two lists of alike items -/
inductive Al1 (K : PySem.W.Frag) (H : Hp) : V → V → Prop where
  | of {x y : V} (h : Al0 x y) : Al1 K H x y
  | lst {p q : Addr} {xs ys : List V} (hne : p ≠ q) (h1 : SqL K H p xs) (h2 : SqL K H q ys) (hl : xs.length = ys.length) (h : ∀ (j : Nat) x y, xs[j]? = some x → ys[j]? = some y → Al0 x y) : Al1 K H (.ref p) (.ref q)
theorem al0_eq {A : Around} {s : Shared} {x y : V} {u v : Value} (h : Al0 x y) (rx : RelV x u) (ry : RelV y v) : SeqAt.EqAt A s u v true := by
  cases h with
  | flat h => have := eqAt_V (A := A) (s := s) rx ry h h; rw [eqV_refl h] at this; exact this
  | ref a => cases rx; cases ry; exact SeqAt.EqAt.same _
theorem als_at {R : V → V → Prop} {S : Value → Value → Prop} {xs ys : List V} {us ws : List Value} (r : Vals xs us) (r' : Vals ys ws) (h : ∀ (j : Nat) x y, xs[j]? = some x → ys[j]? = some y → R x y) (hS : ∀ x y u v, R x y → RelV x u → RelV y v → S u v) :
    ∀ j (h1 : j < us.toArray.size) (h2 : j < ws.toArray.size), S us.toArray[j] ws.toArray[j] := by
  intro j h1 h2
  have l1 := r.length
  have l2 := r'.length
  have h1' : j < us.length := by simpa using h1
  have h2' : j < ws.length := by simpa using h2
  have e1 : xs[j]? = some xs[j] := List.getElem?_eq_getElem (by omega)
  have e2 : ys[j]? = some ys[j] := List.getElem?_eq_getElem (by omega)
  obtain ⟨u, hu, ru⟩ := r.get e1
  obtain ⟨u', hu', ru'⟩ := r'.get e2
  have g1 : us.toArray[j] = u := by
    have := List.getElem?_eq_some_iff.mp hu
    simpa using this.2
  have g2 : ws.toArray[j] = u' := by
    have := List.getElem?_eq_some_iff.mp hu'
    simpa using this.2
  rw [g1, g2]
  exact hS _ _ _ _ (h j _ _ e1 e2) ru ru'
theorem all_tt (n : Nat) : (List.range n).all (fun _ => true) = true := by simp
section
variable {X : Cx}
theorem al1_eq {pins : List (Addr × Obj)} {σ : St} {H : Hp} {s : Shared} {A : Around} {x y : V} {u v : Value} (I : Inv X pins σ H s) (hu : A.units < cLine) (h : Al1 X.K H x y) (rx : RelV x u) (ry : RelV y v) : SeqAt.EqAt A s u v true := by
  cases h with
  | of h => exact al0_eq h rx ry
  | lst hne h1 h2 hl h =>
    cases rx
    cases ry
    obtain ⟨its, r, pl, hz⟩ := I.list h1
    obtain ⟨its', r', pl', hz'⟩ := I.list h2
    have l1 := r.length
    have l2 := r'.length
    have := SeqAt.EqAt.of_refs hne (SeqAt.RcAt.lists (A := A) (e := fun _ => true) pl.isList pl'.isList (by simp; omega) hu (als_at r r' h fun x y u v q ru rv => al0_eq q ru rv))
    rw [all_tt] at this
    exact this
noncomputable def rAlk (K : PySem.W.Frag) (neg : Bool) : R2 := fun x y H Q => ∃ p q xs ys, x = .ref p ∧ y = .ref q ∧ SqL K H p xs ∧ SqL K H q ys ∧ xs.length = ys.length ∧ (∀ (j : Nat) x y, xs[j]? = some x → ys[j]? = some y → Al1 K H x y) ∧ Q (.bl (!neg)) H
end
/-! ### xs[::-1] -/
section
variable {X : Cx} {e : Expr} {te : TE} {pos p1 p2 p3 : Pos} {k : Nat}
noncomputable def tRev (K : PySem.W.Frag) (te : TE) : TE := fun σ H Q => te σ H fun x H1 => ∃ a xs, x = .ref a ∧ SqL K H1 a xs ∧ ∀ p, H1 p = none → Q (.ref p) (upd H1 p (.lst xs.reverse))
end
/-! ### a comprehension over a list, by a word of one's own -/
theorem comp_listP {K : PySem.W.Frag} {a : Addr} {xs : List V} {te : TE} {σ : St} {H : Hp} {Q : VK} (Pv : Nat → List V → Hp → Prop) (h0 : Pv 0 [] H) (hl : ∀ i ys H', i ≤ xs.length → Pv i ys H' → SqL K H' a xs ∧ ys.length = i) (hz : xs.length ≤ sizeLine)
    (he : ∀ (i : Nat) x ys H' Q', xs[i]? = some x → Pv i ys H' → (∀ y H4, Pv (i + 1) (ys ++ [y]) H4 → Q' y H4) → te (some x :: σ) H' Q')
    (hd : ∀ ys H' p, Pv xs.length ys H' → H' p = none → Q (.ref p) (upd H' p (.lst ys))) : ∃ W, (∃ m, W 0 m [] H) ∧ CompW (Itl K a) tYes te σ Q W := by
  refine ⟨fun i m ys H' => m = xs.length - i ∧ i ≤ xs.length ∧ Pv i ys H', ⟨xs.length, by simp, Nat.zero_le _, h0⟩, ?_⟩
  rintro i m ys H' ⟨rfl, hi, pv⟩
  obtain ⟨q, hy⟩ := hl i ys H' hi pv
  by_cases hlt : i < xs.length
  · refine .inr ⟨⟨xs, xs[i], q, by simp [hlt]⟩, by omega, fun x H2 y => ?_⟩
    obtain ⟨e, y⟩ := y
    subst e
    have hx := y xs q
    simp only [tYes, if_true]
    exact he i x ys _ _ hx pv fun y H4 q4 => ⟨xs.length - (i + 1), by omega, rfl, hlt, q4⟩
  · have e : i = xs.length := by omega
    subst e
    exact .inl ⟨⟨xs, q, Nat.le_refl _⟩, by omega, fun p hp => hd _ _ p pv hp⟩
end L2
namespace L2
open PySem
theorem Room.units1 {k : Nat} {A : Around} (r : Room k A) : A.units + 1 < cLine := by have := r.un; omega
end L2

namespace L2
open PySem PySem.Spec PyProof.Rows
section
variable {X : Cx}
noncomputable def CPowB (i j : Int) : Prop := 0 ≤ j ∧ j ≤ 8 ∧ i.natAbs < 2 ^ 4000
theorem bt_sum : bootBuiltins "sum" = some (.builtin "sum") := by decide +kernel
theorem ints_are : ∀ {ns : List Int} {us : List Value}, Vals (ns.map V.int) us → IntsAre us ns
  | [], us, h => by cases h; exact .nil
  | n :: ns, us, h => by
    cases h with
    | cons r rr =>
      obtain ⟨t, rfl⟩ := r
      exact .cons n t (ints_are rr)
theorem call_sumK (K : PySem.W.Frag) (hc : X.calm = true := by rfl) (hK : X.K = K := by rfl) : CallR X (.builtin "sum") (fun xs H Q => ∃ p ns, xs = [.ref p] ∧ SqL K H p (zV ns) ∧ Q (.int ns.sum) H) := by
  subst hK
  intro pins s σ H xs us Q I r h
  obtain ⟨p, ns, rfl, hq, q⟩ := h
  obtain ⟨u, rfl, rx⟩ := vals1 r
  cases rx
  obtain ⟨its, r', pl, hz⟩ := I.list hq
  have hi := ints_are r'
  obtain ⟨xs, e⟩ := (hi.allInts).items
  have hl := pl.isList
  have hn : (numsOf its).sum = ns.sum := by rw [hi.numsOf]
  rw [show its = its.toArray.toList from rfl, e, nums_intItems] at hn
  rw [e] at hl
  refine sum_intListG (I.ok.hd hc) hl fun h' tk t' hk => ?_
  refine ⟨.int ns.sum, H, I.kept (t' := tk) hk, ⟨t', ?_⟩, q⟩
  rw [preSum_eq, List.take_of_length_le (by simp), hn]
end
end L2

namespace L2
open PySem PySem.Spec PyProof.Rows
/-! ### comprehensions over ranges and tuples -/
/-- over a range, by a word of one's own -/
theorem comp_rangeP {n : Nat} {te : TE} {σ : St} {H : Hp} {Q : VK} (Pv : Nat → List V → Hp → Prop) (h0 : Pv 0 [] H) (hl : ∀ i ys H', i ≤ n → Pv i ys H' → ys.length = i) (hz : n ≤ sizeLine)
    (he : ∀ (i : Nat) ys H' Q', i < n → Pv i ys H' → (∀ y H4, Pv (i + 1) (ys ++ [y]) H4 → Q' y H4) → te (some (.int (0 + (i : Int))) :: σ) H' Q')
    (hd : ∀ ys H' p, Pv n ys H' → H' p = none → Q (.ref p) (upd H' p (.lst ys))) : ∃ W, (∃ m, W 0 m [] H) ∧ CompW (Itr 0 n) tYes te σ Q W := by
  refine ⟨fun i m ys H' => m = n - i ∧ i ≤ n ∧ Pv i ys H', ⟨n, by simp, Nat.zero_le _, h0⟩, ?_⟩
  rintro i m ys H' ⟨rfl, hi, pv⟩
  have hy := hl i ys H' hi pv
  by_cases hlt : i < n
  · refine .inr ⟨hlt, by omega, fun x H2 y => ?_⟩
    obtain ⟨e, y⟩ := y
    subst e y
    simp only [tYes, if_true]
    exact he i ys _ _ hlt pv fun y H4 q4 => ⟨n - (i + 1), by omega, rfl, hlt, q4⟩
  · have e : i = n := by omega
    subst e
    exact .inl ⟨Nat.le_refl _, by omega, fun p hp => hd _ _ p pv hp⟩
/-- over a tuple, no test -/
theorem comp_tup {K : PySem.W.Frag} {a : Addr} {xs : List V} {te : TE} {σ : St} {H : Hp} {Q : VK} (f : V → V) (hl : SqT K H a xs) (hz : xs.length ≤ sizeLine)
    (he : ∀ (i : Nat) x H' Q', xs[i]? = some x → Same H H' → (∀ H'', Same H' H'' → Q' (f x) H'') → te (some x :: σ) H' Q')
    (hd : ∀ p H', Same H H' → H p = none → H' p = some (.lst (xs.map f)) → Q (.ref p) H') : ∃ W, (∃ m, W 0 m [] H) ∧ CompW (Itt K a) tYes te σ Q W := by
  refine ⟨fun i m ys H' => m = xs.length - i ∧ i ≤ xs.length ∧ ys = (xs.take i).map f ∧ Same H H', ⟨xs.length, by simp, Nat.zero_le _, by simp, .refl H⟩, ?_⟩
  rintro i m ys H' ⟨rfl, hi, rfl, s⟩
  have q := s.tup hl
  by_cases hlt : i < xs.length
  · refine .inr ⟨⟨xs, xs[i], q, by simp [hlt]⟩, by rw [List.length_map, List.length_take]; omega, fun x H2 y => ?_⟩
    obtain ⟨e, y⟩ := y
    subst e
    have hx := y xs q
    simp only [tYes, if_true]
    refine he i x _ _ hx s fun H'' s' => ⟨xs.length - (i + 1), by omega, rfl, hlt, ?_, s.trans s'⟩
    rw [List.take_add_one, hx]; simp
  · have e : i = xs.length := by omega
    subst e
    refine .inl ⟨⟨xs, q, Nat.le_refl _⟩, by rw [List.length_map, List.length_take]; omega, fun p hp => hd p _ (s.upd (s.free hp)) (s.free hp) ?_⟩
    rw [upd_same, List.take_length]
theorem bt_min : bootBuiltins "min" = some (.builtin "min") := by decide +kernel
end L2
namespace L2
open PySem
/-- over a list, by the number of the item -/
theorem comp_listI {K : PySem.W.Frag} {a : Addr} {xs : List V} {te : TE} {σ : St} {H : Hp} {Q : VK} (f : Nat → V) (hl : SqL K H a xs) (hz : xs.length ≤ sizeLine)
    (he : ∀ (i : Nat) x H' Q', xs[i]? = some x → Same H H' → (∀ H'', Same H' H'' → Q' (f i) H'') → te (some x :: σ) H' Q')
    (hd : ∀ p H', Same H H' → H p = none → H' p = some (.lst ((List.range xs.length).map f)) → Q (.ref p) H') : ∃ W, (∃ m, W 0 m [] H) ∧ CompW (Itl K a) tYes te σ Q W :=
  comp_listP (xs := xs) (fun i ys H' => ys = (List.range i).map f ∧ Same H H') ⟨rfl, .refl H⟩ (fun i ys H' _ ⟨e, s⟩ => ⟨s.seq hl, by rw [e]; simp⟩) hz
    (fun i x ys H' Q' hx ⟨e, s⟩ q => he i x H' Q' hx s fun H'' s' => q _ _ ⟨by rw [List.range_succ, e]; simp, s.trans s'⟩)
    (fun ys H' p ⟨e, s⟩ hp => hd p _ (s.upd (s.free hp)) (s.free hp) (by rw [upd_same, e]))
theorem k_tl (K : PySem.W.Frag) : PySem.W.kitOne K (.type "tuple") (.type "list") = some false := by rfl
end L2
namespace L2
end L2

namespace L2
open PySem PySem.Spec PyProof.Rows
/-! ### f-texts -/
section
variable {X : Cx} {e v1 v2 : Expr} {es : List Expr} {te : TE} {pos : Pos}
/-- {e}, an int -/
noncomputable def tFmtI (te : TE) : TE := fun σ H Q => te σ H fun x H1 => ∃ i, x = .int i ∧ i.natAbs.log2 < 1920 ∧ Q (.str (toString i)) H1
theorem pe_fmtI (he : PE X e te) : PE X (.FormattedValue e (-1) none pos) (tFmtI te) := by
  intro pins s σ H Q I h
  refine FormattedValue_plain (thn (he pins s σ H _ I h) fun v s1 ⟨x, H1, I1, r1, i, ex, hd, q⟩ => ?_)
  subst ex
  obtain ⟨t, rfl⟩ := r1
  exact formatField_int_small hd ⟨.str (toString i), H1, I1.tok _, ⟨_, rfl⟩, q⟩
/-- {e}, a text -/
noncomputable def tFmtS (te : TE) : TE := fun σ H Q => te σ H fun x H1 => ∃ z, x = .str z ∧ z.length ≤ sizeLine ∧ Q (.str z) H1
/-- the parts joined, behind what is there -/
noncomputable def PJ (X : Cx) (es : List Expr) (t : Str → TE) : Prop :=
  ∀ (out : Str) (pins : List (Addr × Obj)) (s : Shared) (σ : St) (H : Hp) (Q : VK), Inv X pins σ H s → t out σ H Q → wpAny (model X.prog X.w) X.A (joinParts out (evalEach es X.env)) (EP X pins σ Q) X.xe s
noncomputable def tJnil : Str → TE := fun out _ H Q => out.length ≤ sizeLine ∧ Q (.str out) H
noncomputable def tJcons (te : TE) (t : Str → TE) : Str → TE := fun out σ H Q => te σ H fun x H1 => ∃ y, x = .str y ∧ (out ++ y).length ≤ sizeLine ∧ t (out ++ y) σ H1 Q
theorem pj_nil : PJ X [] tJnil := fun out pins s σ H Q I h => joinParts_nil ⟨.str out, H, I.tok _, ⟨_, rfl⟩, h.2⟩ h.1
theorem pj_cons {t : Str → TE} (he : PE X e te) (hr : PJ X es t) (hs : evalEach (e :: es) X.env = eval e X.env :: evalEach es X.env := by rfl) : PJ X (e :: es) (tJcons te t) := by
  intro out pins s σ H Q I h
  rw [hs]
  refine joinParts_cons (thn (he pins s σ H _ I h) fun v s1 ⟨x, H1, I1, r1, y, ex, hz, q⟩ => ?_)
  subst ex
  obtain ⟨t', rfl⟩ := r1
  exact ⟨hz, hr _ pins s1 σ H1 Q I1 q⟩
theorem pe_fstr {t : Str → TE} (h : PJ X (v1 :: v2 :: es) t) (hs : evalEach (v1 :: v2 :: es) X.env = eval v1 X.env :: eval v2 X.env :: evalEach es X.env := by rfl) : PE X (.JoinedStr (v1 :: v2 :: es) pos) (t Str.empty) := by
  intro pins s σ H Q I hw
  refine JoinedStr_many ?_
  rw [← hs]
  exact h _ pins s σ H Q I hw
end
end L2

namespace L2
open PySem PySem.Spec PyProof.Rows
/-! ### a comprehension with two own names -/
/-- what a comprehension's scope must be like: its own name x, the names that it takes from around -/
structure CScope2 (N N' : List Str) (x y : Str) (sc osc : Scope) : Prop where
  kind : sc.kind = .function
  nocell : ∀ y ∈ sc.names, y.2 ≠ .cell
  own : ∀ z ∈ sc.names, z.2 = .local → z.1 = x ∨ z.1 = y ∨ z.1 = ".0"
  has : sc.names.lookup x = some .local
  hasy : sc.names.lookup y = some .local
  ne : x ≠ y
  names : ∀ y ∈ sc.names, y.2 = .local → sc.names.lookup y.1 = some .local
  nox : x ∉ N'
  noy : y ∉ N'
  no0 : (".0" : Str) ∉ N'
  nd : N'.Nodup
  len : N'.length = N.length
  sub : ∀ p ∈ N.zip N', p.1 = p.2 ∨ sc.names.lookup p.2 = none
  free : ∀ y ∈ sc.names, y.2 = .free → osc.names.lookup y.1 = some .cell ∨ osc.names.lookup y.1 = some .free
noncomputable def cs2Ok (N N' : List Str) (x y : Str) (sc osc : Scope) : Bool :=
  decide (sc.kind = .function) && decide (∀ z ∈ sc.names, z.2 ≠ .cell) && decide (∀ z ∈ sc.names, z.2 = .local → z.1 = x ∨ z.1 = y ∨ z.1 = ".0") && decide (sc.names.lookup x = some .local) && decide (sc.names.lookup y = some .local) && decide (x ≠ y) &&
    decide (∀ z ∈ sc.names, z.2 = .local → sc.names.lookup z.1 = some .local) && decide (x ∉ N') && decide (y ∉ N') && decide ((".0" : Str) ∉ N') && decide N'.Nodup && decide (N'.length = N.length) && decide (∀ p ∈ N.zip N', p.1 = p.2 ∨ sc.names.lookup p.2 = none) && decide (∀ z ∈ sc.names, z.2 = .free → osc.names.lookup z.1 = some .cell ∨ osc.names.lookup z.1 = some .free)
theorem cs2 {N N' : List Str} {x y : Str} {sc osc : Scope} (h : cs2Ok N N' x y sc osc = true) : CScope2 N N' x y sc osc := by
  unfold cs2Ok at h
  simp only [Bool.and_eq_true, decide_eq_true_eq] at h
  obtain ⟨⟨⟨⟨⟨⟨⟨⟨⟨⟨⟨⟨⟨h1, h2⟩, h3⟩, h4⟩, h4'⟩, h4''⟩, h5⟩, h6⟩, h6'⟩, h7⟩, h9⟩, h10⟩, h11⟩, h8⟩ := h
  exact ⟨h1, h2, h3, h4, h4', h4'', h5, h6, h6', h7, h9, h10, h11, h8⟩

noncomputable def blk2 (X : Cx) (N' : List Str) (x y : Str) (sc : Scope) (C : Addr) (s2 : Shared) (H2 : Hp) (fp : List Addr) : Cx :=
  { X with N := x :: y :: N', s₀ := s2, H₀ := H2, env := compEnvC sc (closOf sc.names X.env.cells []) C X.env, outer := X.stack, stack := X.stack, ex := fp, fn := fun _ => false, pn := [], xe := fun _ _ => False }

section
variable {X : Cx} {pins : List (Addr × Obj)} {σ : St} {H H2 : Hp} {s s2 : Shared} {x y : Str} {sc : Scope} {C : Addr} {fp : List Addr} {N' : List Str}

theorem blk2_cells (S : CScope2 X.N N' x y sc X.env.scope) {y' : Str} {c : Addr} (h : (closOf sc.names X.env.cells []).lookup y' = some c) : X.env.cells.lookup y' = some c ∧ (y', NameKind.free) ∈ sc.names := by
  rcases closOf_mem _ _ (mem_of_lookup' h) with z | z
  · simp at z
  · exact z

theorem blk2_ok (I : Inv X pins σ H2 s2) (S : CScope2 X.N N' x y sc X.env.scope) (hC : s2.heap.objs.size ≤ C) (hf : ∀ b ∈ fp, FpOk X pins H2 b) (hfo : ∀ b ∈ fp, ∃ o, s2.heap.get? b = some o ∧ ∀ v, o.data ≠ .cell v) : (blk2 X N' x y sc C s2 H2 fp).Ok where
  mod := I.ok.mod
  kind := S.kind
  glob := I.ok.glob
  blt := I.ok.blt
  above := hC
  inj := fun y z c h1 h2 => I.ok.inj y z c (blk2_cells S h1).1 (blk2_cells S h2).1
  has := fun y h => by
    have key : ∀ k, (relabel sc X.env).names.lookup y = some k → (k = .cell ∨ k = .free) → ∃ c, (closOf sc.names X.env.cells []).lookup y = some c := fun k hk hkk => by
      have hfree : sc.names.lookup y = some .free := by
        rcases relabel_kind (env := X.env) S.nocell hk with z | ⟨z, _⟩
        · rcases hkk with e | e
          · rw [e] at z; exact absurd rfl (S.nocell _ (mem_of_lookup' z))
          · rw [e] at z; exact z
        · exact z
      have hm := mem_of_lookup' hfree
      obtain ⟨c, hc⟩ := I.ok.has y (S.free _ hm rfl)
      exact lookup_of_mem' (closOf_has sc.names [] hm hc)
    rcases h with h | h
    · exact key _ h (.inl rfl)
    · exact key _ h (.inr rfl)
  cab := fun y c h => by cases h
  hd := fun h => I.ok.hd h
  frames := I.ok.frames
  stk := .inl rfl
  exf := fun b hb => by
    obtain ⟨o, ho, hd⟩ := hfo b hb
    refine ⟨Nat.ne_of_lt (Nat.lt_of_lt_of_le (Heap.lt_size ho) hC), fun y c h => (hf b hb).2.2.2.2.1 y c (blk2_cells S h).1⟩
  bs := I.bs
  bsz := Nat.le_trans I.ok.bsz I.sz
  noex := fun b o h hb => by
    have h1 := (hf b hb).2.2.2.1
    rcases h1 with z | z
    · exact I.ok.noex b o h z
    · exact absurd (Nat.lt_of_lt_of_le (Heap.lt_size h) (Nat.le_trans I.ok.bsz z)) (Nat.lt_irrefl _)
  exfs := fun b hb h => by
    rcases List.mem_cons.mp (I.stkSub b h) with e | z
    · exact (hf b hb).2.1 e
    · exact (hf b hb).2.2.1 z
  funs := I.stack
  frf := I.stkFree

theorem blk2_start {h4 : Heap} {t4 : Nat} (I : Inv X pins σ H2 s2) (S : CScope2 X.N N' x y sc X.env.scope) (hf : ∀ b ∈ fp, FpOk X pins H2 b) (hfo : ∀ b ∈ fp, ∃ o, s2.heap.get? b = some o ∧ ∀ v, o.data ≠ .cell v)
    (hC : s2.heap.objs.size ≤ C) (hn : h4.Ns C fun _ => none) (hk : ∀ b o, s2.heap.get? b = some o → h4.get? b = some o) {q : List (Addr × Obj)} (hq : ∀ p ∈ q, h4.get? p.1 = some p.2 ∧ H2 p.1 = none ∧ p.1 ≠ C ∧ p.1 ∉ frs X.stack ∧ ∀ v, p.2.data ≠ .cell v) :
    Inv (blk2 X N' x y sc C s2 H2 fp) q (none :: none :: σ) H2 { s2 with heap := h4, toks := t4 } where
  ok := blk2_ok I S hC hf hfo
  os := rfl
  bare := I.bare
  base := Un.kept hk
  loc := by
    refine ⟨fun _ => none, hn, fun i y v e1 e2 e3 => ?_⟩
    match i with
    | 0 => simp at e2
    | 1 => simp at e2
    | i + 2 =>
      have e0' : N'[i]? = some y := by simpa [blk2] using e1
      have e2' : σ[i]? = some (some v) := by simpa using e2
      have hm : y ∈ N' := List.mem_of_getElem? e0'
      have e1' : X.N[i]? = some y := by
        have hi : i < X.N.length := by rw [← S.len]; exact (List.getElem?_eq_some_iff.mp e0').1
        have hz : (X.N[i], y) ∈ X.N.zip N' := by
          refine List.mem_of_getElem? (i := i) ?_
          rw [List.getElem?_zip_eq_some]
          exact ⟨List.getElem?_eq_getElem hi, e0'⟩
        rcases S.sub _ hz with z | z
        · rw [List.getElem?_eq_getElem hi]; exact congrArg some z
        · exfalso
          have no : ∀ k, (relabel sc X.env).names.lookup y ≠ some k := fun k hk => by
            rcases relabel_kind (env := X.env) S.nocell hk with w | ⟨w, _⟩
            · rw [show sc.names.lookup y = none from z] at w; cases w
            · rw [show sc.names.lookup y = none from z] at w; cases w
          rcases e3 with w | w | w
          · exact no _ w
          · exact no _ w
          · exact no _ w
      have hfree : sc.names.lookup y = some .free := by
        have case : ∀ k, (relabel sc X.env).names.lookup y = some k → (k = .local ∨ k = .cell ∨ k = .free) → sc.names.lookup y = some .free := fun k hk hkk => by
          rcases relabel_kind (env := X.env) S.nocell hk with z | ⟨z, _⟩
          · rcases hkk with e | e | e
            · rw [e] at z
              rcases S.own _ (mem_of_lookup' z) rfl with w | w | w
              · exact absurd (w ▸ hm) S.nox
              · exact absurd (w ▸ hm) S.noy
              · exact absurd (w ▸ hm) S.no0
            · rw [e] at z; exact absurd rfl (S.nocell _ (mem_of_lookup' z))
            · rw [e] at z; exact z
          · exact z
        rcases e3 with z | z | z
        · exact case _ z (.inl rfl)
        · exact case _ z (.inr (.inl rfl))
        · exact case _ z (.inr (.inr rfl))
      have hmem := mem_of_lookup' hfree
      have kd : X.env.kindOf y = some .cell ∨ X.env.kindOf y = some .free := S.free _ hmem rfl
      obtain ⟨m, hnm, hl⟩ := I.loc
      obtain ⟨u, r, lk⟩ := hl i y v e1' e2' (by rcases kd with z | z; exact .inr (.inl z); exact .inr (.inr z))
      obtain ⟨c, hc, hcell⟩ : ∃ c, X.env.cells.lookup y = some c ∧ s2.heap.IsCell c (some u) := by
        rcases lk with ⟨z, _⟩ | ⟨_, z⟩
        · rcases kd with w | w
          · rw [w] at z; cases z
          · rw [w] at z; cases z
        · exact z
      refine ⟨u, r, .inr ⟨?_, c, ?_, ?_⟩⟩
      · rcases e3 with z | z | z
        · exfalso
          rcases relabel_kind (env := X.env) S.nocell z with q | ⟨_, q⟩
          · rw [hfree] at q; cases q
          · cases q
        · exact .inl z
        · exact .inr z
      · obtain ⟨d, hd⟩ := lookup_of_mem' (closOf_has sc.names [] hmem hc)
        have := (blk2_cells S hd).1
        rw [hc] at this; cases this
        exact hd
      · obtain ⟨o, ho, hd⟩ := hcell
        exact ⟨o, hk _ _ ho, hd⟩
  cell := fun y c e => by
    obtain ⟨v, o, ho, hd⟩ := I.cell y c (blk2_cells S e).1
    exact ⟨v, o, hk _ _ ho, hd⟩
  free := I.hok.fresh hC
  freeC := fun y c e => I.freeC y c (blk2_cells S e).1
  pin := fun p hp => by
    have hp' : p ∈ q := by simpa [blk2] using hp
    exact hq p hp'
  hok := I.hok.kept hk
  len := by show (none :: none :: σ).length = (x :: y :: N').length; simp [I.len, S.len]
end

noncomputable def CompW2 (K : PySem.W.Frag) (J : It) (tt : TT) (te : TE) (σ : St) (Q : VK) (W : Nat → Nat → List V → Hp → Prop) : Prop := ∀ i m ys H, W i m ys H →
  (J.stop i H ∧ ys.length ≤ sizeLine ∧ ∀ p, H p = none → Q (.ref p) (upd H p (.lst ys))) ∨
  (J.go i H ∧ ys.length < sizeLine ∧ ∀ x H', J.yld i H x H' → ∃ a u v, x = .ref a ∧ SqT K H' a [u, v] ∧ tt (some u :: some v :: σ) H' fun b H3 => if b = true then te (some u :: some v :: σ) H3 fun y H4 => ∃ m', m' < m ∧ W (i + 1) m' (ys ++ [y]) H4 else ∃ m', m' < m ∧ W (i + 1) m' ys H3)
noncomputable def tComp2 (K : PySem.W.Frag) (wi : TI) (tt : TT) (te : TE) : TE := fun σ H Q => wi σ H fun J H1 => ∃ W : Nat → Nat → List V → Hp → Prop, (∃ m, W 0 m [] H1) ∧ CompW2 K J tt te σ Q W
section
variable {X : Cx} {pins : List (Addr × Obj)} {σ : St} {x y : Str} {sc : Scope} {N' : List Str}
theorem comp_core2 {s2 : Shared} {H2 : Hp} {elt iter : Expr} {ifs : List Expr} {px py pt pos : Pos} {kt : Nat} {tt : TT} {te : TE} {Q : VK} {RR : Value → Addr → Result → Shared → Prop} {E : Value → Shared → Prop}
    (hc : X.calm = true) (hN : X.N.Nodup) (S : CScope2 X.N N' x y sc X.env.scope)
    (ht : ∀ C s2 H2 fp, PIfs (blk2 X N' x y sc C s2 H2 fp) ifs tt) (he : ∀ C s2 H2 fp, PE (blk2 X N' x y sc C s2 H2 fp) elt te)
    (I2 : Inv X pins σ H2 s2) {it : Addr} {fp : List Addr} {tn : Nat → Heap → Prop} {J : It} (T : Turn X.prog X.w X.K (.Tuple [.Name x px, .Name y py] kt pt) J fp it tn) (st2 : tn 0 s2.heap) (f2 : ∀ b ∈ fp, FpOk X pins H2 b)
    (W : Nat → Nat → List V → Hp → Prop) (w0 : ∃ m, W 0 m [] H2)
    (turn : CompW2 X.K J tt te σ Q W)
    (hRR : ∀ D C s' H', Inv X pins σ H' s' → FpOk X pins H' C → (∃ m, s'.heap.Ns C m) → Q (.ref D) H' → RR (.ref D) C (.ok .next) s') :
    wpAny (model X.prog X.w) X.A (newList []) (fun acc s₃ => wpAny (model X.prog X.w) X.A (newFunctionEnv sc X.env.globals (closOf sc.names X.env.cells []) [] X.env.qual none .none (some X.env)) (fun cenv s₄ =>
      codeAny (model X.prog X.w) X.A (.compStart (.ListComp elt [⟨.Tuple [.Name x px, .Name y py] kt pt, iter, ifs, 0⟩] sc pos) 0 (.ref it) acc { cenv with scope := relabel sc X.env }) (RR acc cenv.locals) s₄) E s₃) E s2 := by
  have hfo := T.obj _ _ st2
  refine wpAny_newObj_type (wpAny_newFunctionEnv S.nocell (by intro y hy; simp at hy) (fun h₁ hns₁ hsb₁ => ?_) S.kind)
  dsimp only at hns₁ hsb₁ ⊢
  generalize hHP : s2.heap.push { cls := .type "list", dict := none, data := .seq ([] : List Value).toArray } = HP at hns₁ hsb₁ ⊢
  have hC : HP.objs.size = s2.heap.objs.size + 1 := by rw [← hHP, Heap.size_push]
  have hDC : s2.heap.objs.size ≠ HP.objs.size := by rw [hC]; exact Nat.ne_of_lt (Nat.lt_succ_self _)
  have hCle : s2.heap.objs.size ≤ HP.objs.size := by rw [hC]; exact Nat.le_succ _
  have below : ∀ b, b < s2.heap.objs.size → b ≠ HP.objs.size ∧ b ≠ s2.heap.objs.size := fun b hb => ⟨by rw [hC]; exact Nat.ne_of_lt (Nat.lt_succ_of_lt hb), Nat.ne_of_lt hb⟩
  have old : ∀ b o, s2.heap.get? b = some o → h₁.get? b = some o := fun b o e => hsb₁.extBut b o (below b (Heap.lt_size e)).1 (Heap.get?_push_of_some _ (hHP ▸ Heap.get?_push_of_some _ e))
  have hacc : h₁.get? s2.heap.objs.size = some { cls := .type "list", dict := none, data := .seq ([] : List Value).toArray } := hsb₁.extBut _ _ hDC (Heap.get?_push_of_some _ (hHP ▸ Heap.get?_push_size _ rfl))
  have hDn : H2 s2.heap.objs.size = none := I2.hok.fresh (Nat.le_refl _)
  have hDfr : s2.heap.objs.size ∉ frs X.stack := fun hb => by
    obtain ⟨_, o, ho, _⟩ := I2.stack.mem hb
    exact absurd (Heap.lt_size ho) (Nat.lt_irrefl _)
  have hDfp : s2.heap.objs.size ∉ fp := fun hb => by
    obtain ⟨o, ho, _⟩ := hfo _ hb
    exact absurd (Heap.lt_size ho) (Nat.lt_irrefl _)
  have hCfp : HP.objs.size ∉ fp := fun hb => by
    obtain ⟨o, ho, _⟩ := hfo _ hb
    exact absurd (Nat.lt_of_lt_of_le (Heap.lt_size ho) hCle) (Nat.lt_irrefl _)
  obtain ⟨m0, w0⟩ := w0
  -- the iterator's own objects, within the block
  have stat : ∀ {H' : Hp} {o : Obj}, (∀ b ∈ fp, H' b = none) → ∀ b ∈ fp, FpOk (blk2 X N' x y sc HP.objs.size s2 H2 fp) [(s2.heap.objs.size, o)] H' b := fun {H' o} hn b hb => by
    obtain ⟨f0, f1, f2', f3, f4, f5⟩ := f2 b hb
    refine ⟨hn b hb, fun e => hCfp (by rw [← show b = HP.objs.size from e]; exact hb), fun z => ?_, .inl hb, fun y c e => f4 y c (blk2_cells S e).1, fun p hp => ?_⟩
    · rcases List.mem_cons.mp (I2.stkSub b z) with e | z
      · exact f1 e
      · exact f2' z
    · have : p = (s2.heap.objs.size, o) := by simpa [blk2] using hp
      subst this
      rintro rfl
      exact hDfp hb
  -- the invariant
  let Iv : Nat → Shared → Prop := fun n s' => ∃ i ys its k σx σy H', Inv (blk2 X N' x y sc HP.objs.size s2 H2 fp) [(s2.heap.objs.size, { cls := .type "list", data := .seq (List.toArray its) k })] (σx :: σy :: σ) H' s' ∧
    Vals ys its ∧ tn i s'.heap ∧ (∀ b ∈ fp, H' b = none) ∧ W i n ys H'
  have I4 : Inv (blk2 X N' x y sc HP.objs.size s2 H2 fp) [(s2.heap.objs.size, { cls := .type "list", data := .seq (List.toArray []) 0 })] (none :: none :: σ) H2 { s2 with heap := h₁, toks := s2.toks + ([] : List (Str × Value)).length } := by
    refine blk2_start I2 S f2 hfo hCle (by simpa using hns₁) old fun p hp => ?_
    have e : p = (s2.heap.objs.size, { cls := .type "list", data := .seq (List.toArray []) 0 }) := by simpa using hp
    subst e
    exact ⟨hacc, hDn, hDC, hDfr, fun v => by intro z; cases z⟩
  have loop : ∀ s₃ : Shared, s₃ = { s2 with heap := h₁, toks := s2.toks + ([] : List (Str × Value)).length } →
      codeAny (model X.prog X.w) X.A (.compLoop (.ListComp elt [⟨.Tuple [.Name x px, .Name y py] kt pt, iter, ifs, 0⟩] sc pos) 0 (.ref it) (.ref s2.heap.objs.size) (compEnvC sc (closOf sc.names X.env.cells []) HP.objs.size X.env))
        (RR (.ref s2.heap.objs.size) HP.objs.size) s₃ := by
    rintro s₃ rfl
    refine compLoop_any Iv ?_ m0 ⟨0, [], [], 0, none, none, H2, I4, .nil, T.keep _ _ _ st2 fun b _ o e => old b o e, fun b hb => (f2 b hb).1, w0⟩
    rintro n s3 ⟨i, ys, its, k, σx, σy, H3, I3, rv, st3, fr3, w3⟩
    have hy := rv.length
    rcases turn i n ys H3 w3 with ⟨stop, hz, q⟩ | ⟨go, hz, step⟩
    · refine thn (T.done (blk2 X N' x y sc HP.objs.size s2 H2 fp) rfl rfl rfl hc i _ s3 _ H3 _ I3 (stat fr3) st3 stop) fun r s4 ⟨hr, I4⟩ => ?_
      subst hr
      -- the end: the list is tracked
      have pD := I4.pin (s2.heap.objs.size, { cls := .type "list", data := .seq (List.toArray its) k }) (by simp [blk2])
      have new : ObjOk X.prog X.w (upd H3 s2.heap.objs.size (.lst ys)) s4.heap s2.heap.objs.size (.lst ys) := ⟨hz, its, k, rv, pD.1⟩
      have hok' := I4.hok.track (o := .lst ys) pD.2.1 new
      have un' : Un (frs X.stack) fp H2 (upd H3 s2.heap.objs.size (.lst ys)) s2.heap s4.heap := I4.base.track pD.2.1 (Heap.get?_none_of_le (Nat.le_refl _))
      have IX : Inv X pins σ (upd H3 s2.heap.objs.size (.lst ys)) s4 := I2.call' I4.os un' hok' I4.bare fun b hb => ⟨(f2 b hb).2.2.2.1, (f2 b hb).2.1, (f2 b hb).2.2.2.2.1, (f2 b hb).2.2.2.2.2⟩
      obtain ⟨m, hnm, _⟩ := I4.loc
      refine hRR _ _ s4 _ IX ?_ ⟨m, hnm⟩ (q _ pD.2.1)
      exact I2.fpOk hCle (by rw [upd_ne (Ne.symm hDC)]; exact I4.free)
    · refine thn (T.item (blk2 X N' x y sc HP.objs.size s2 H2 fp) rfl rfl rfl hc i _ s3 _ H3 _ I3 (stat fr3) st3 go) fun r s4 ⟨u, hr, h4⟩ => ?_
      subst hr
      refine thn h4 fun _ s5 ⟨y', H5, I5, r5, y5, st5, fr5⟩ => ?_
      have I5' := I5.pinned (stat fr5) (T.obj _ _ st5)
      obtain ⟨ta, tu, tv, rfl, tsq, stepq⟩ := step y' H5 y5
      have I5'' : Inv (blk2 X N' x y sc HP.objs.size s2 H2 fp) ([(s2.heap.objs.size, { cls := .type "list", data := .seq (List.toArray its) k })] ++ pinsAt fp s5.heap) (none :: none :: σ) H5 s5 := I5'.weak rfl fun j v e => by
        match j with
        | 0 => simp at e
        | 1 => simp at e
        | j + 2 => simpa using e
      have lx : (relabel sc X.env).names.lookup x = some .local := lookup_relabel_local S.has
      have ly : (relabel sc X.env).names.lookup y = some .local := lookup_relabel_local S.hasy
      have hnd : (x :: y :: N').Nodup := List.nodup_cons.mpr ⟨fun z => by rcases List.mem_cons.mp z with z | z; exact S.ne z; exact S.nox z, List.nodup_cons.mpr ⟨S.noy, S.nd⟩⟩
      have hgx : PG (blk2 X N' x y sc HP.objs.size s2 H2 fp) (.Tuple [.Name x px, .Name y py] kt pt) (gTup X.K 2 (gCons (gName 0) (gCons (gName 1) gNil))) := pg_tupK X.K hc (pgs_cons (pg_name (i := 0) hnd rfl (Or.inl lx) (Or.inr lx)) (pgs_cons (pg_name (i := 1) hnd rfl (Or.inl ly) (Or.inr ly)) pgs_nil))
      refine thn (hgx _ s5 (none :: none :: σ) H5 (.ref ta) u (fun σ6 H6 => σ6 = some tu :: some tv :: σ ∧ tt (some tu :: some tv :: σ) H6 fun b H3 => if b = true then te (some tu :: some tv :: σ) H3 fun y H4 => ∃ m', m' < n ∧ W (i + 1) m' (ys ++ [y]) H4 else ∃ m', m' < n ∧ W (i + 1) m' ys H3) I5'' r5 ⟨ta, _, rfl, tsq, rfl, tu, _, rfl, tv, _, rfl, rfl, rfl, stepq⟩) fun _ s6 ⟨σ6, H6, I6, e6, q6⟩ => ?_
      subst e6
      refine thn (ht _ s2 H2 fp _ s6 _ H6 _ I6 q6) fun b s7 ⟨H7, I7, q7⟩ => ?_
      -- what stands behind the turn
      have pinof : ∀ {H8 : Hp} {s8 : Shared}, Inv (blk2 X N' x y sc HP.objs.size s2 H2 fp) ([(s2.heap.objs.size, { cls := .type "list", data := .seq (List.toArray its) k })] ++ pinsAt fp s5.heap) (some tu :: some tv :: σ) H8 s8 →
          tn (i + 1) s8.heap ∧ (∀ b ∈ fp, H8 b = none) := fun {H8 s8} I8 => by
        refine ⟨T.keep _ _ _ st5 fun b hb o e => (I8.pin (b, o) (List.mem_append_right _ (List.mem_append_right _ (mem_pinsAt hb e)))).1, fun b hb => ?_⟩
        obtain ⟨o, e, d⟩ := T.obj _ _ st5 b hb
        exact (I8.pin (b, o) (List.mem_append_right _ (List.mem_append_right _ (mem_pinsAt hb e)))).2.1
      cases b with
      | false =>
        obtain ⟨m', hm, w7⟩ := q7
        obtain ⟨t7, f7⟩ := pinof I7
        exact ⟨m', hm, i + 1, ys, its, k, some tu, some tv, H7, I7.unpinned, rv, t7, f7, w7⟩
      | true =>
        refine thn (he _ s2 H2 fp _ s7 _ H7 _ I7 q7) fun z s8 ⟨yv, H8, I8, r8, m', hm, w8⟩ => ?_
        obtain ⟨t8, f8⟩ := pinof I8
        have pD := I8.pin (s2.heap.objs.size, { cls := .type "list", data := .seq (List.toArray its) k }) (by simp [blk2])
        refine call_meets F.slot_list_append ⟨_, pD.1, rfl⟩ F.entry_list_append (F.args_list_append_2 _ _) (PySem.list_append s2.heap.objs.size its.toArray k z (by rw [List.size_toArray]; omega)) ⟨pD.1, ?_⟩
        have e9 := PySem.IsL.update pD.1 (fun a => a.push z)
        rw [show its.toArray.push z = (its ++ [z]).toArray by simp] at e9
        obtain ⟨k', e9⟩ : ∃ k', (s8.heap.update s2.heap.objs.size (Obj.mapSeq fun a => a.push z)).get? s2.heap.objs.size = some { cls := .type "list", data := .seq (its ++ [z]).toArray k' } := ⟨_, e9⟩
        have other : ∀ b, b ≠ s2.heap.objs.size → (s8.heap.update s2.heap.objs.size (Obj.mapSeq fun a => a.push z)).get? b = s8.heap.get? b := fun b hb => Heap.get?_update_other _ _ (Ne.symm hb)
        have I8' : Inv (blk2 X N' x y sc HP.objs.size s2 H2 fp) [] (some tu :: some tv :: σ) H8 s8 := I8.pins_of fun p hp => nomatch hp
        have I9 : Inv (blk2 X N' x y sc HP.objs.size s2 H2 fp) [] (some tu :: some tv :: σ) H8 { s8 with heap := s8.heap.update s2.heap.objs.size (Obj.mapSeq fun a => a.push z) } := by
          refine I8'.turned (it := s2.heap.objs.size) (fun b o hb e => (other b hb).trans e) pD.2.1 hDC (.inr (Nat.le_refl _)) (fun y c e => ?_) fun p hp => ?_
          · intro hcc
            obtain ⟨v, o, ho, _⟩ := I2.cell y c (blk2_cells S e).1
            exact absurd (Heap.lt_size ho) (by rw [hcc]; exact Nat.lt_irrefl _)
          · simp [blk2] at hp
        have I10 : Inv (blk2 X N' x y sc HP.objs.size s2 H2 fp) [(s2.heap.objs.size, { cls := .type "list", data := .seq (List.toArray (its ++ [z])) k' })] (some tu :: some tv :: σ) H8 { s8 with heap := s8.heap.update s2.heap.objs.size (Obj.mapSeq fun a => a.push z) } := I9.pins_of fun p hp => by
          have e := List.mem_singleton.mp hp
          subst e
          exact ⟨e9, pD.2.1, hDC, hDfr, fun v => by intro z; cases z⟩
        have t9 : tn (i + 1) (s8.heap.update s2.heap.objs.size (Obj.mapSeq fun a => a.push z)) := T.keep _ _ _ t8 fun b hb o e => by
          rw [other b (by rintro rfl; exact hDfp hb)]; exact e
        exact ⟨m', hm, i + 1, ys ++ [yv], its ++ [z], k', some tu, some tv, H8, I10, rv.append (.cons r8 .nil), t9, f8, w8⟩
  exact codeAny_compStart_list (loop _ rfl) (T.self X.A 0 _ _ _ (T.keep _ _ _ st2 fun b _ o e => old b o e) (loop _ rfl))

/-- [e for x in it if c], as a value -/
theorem pe_comp2 {iter elt : Expr} {ifs : List Expr} {px py pt pos : Pos} {kt : Nat} {wi : TI} {tt : TT} {te : TE} (hc : X.calm = true) (hN : X.N.Nodup) (S : CScope2 X.N N' x y sc X.env.scope) (hi : PI X (.Tuple [.Name x px, .Name y py] kt pt) iter wi)
    (ht : ∀ C s2 H2 fp, PIfs (blk2 X N' x y sc C s2 H2 fp) ifs tt) (he : ∀ C s2 H2 fp, PE (blk2 X N' x y sc C s2 H2 fp) elt te) (hs : ∀ v, foldedSetIterable iter X.env v = pure v := by intro _; rfl) :
    PE X (.ListComp elt [⟨.Tuple [.Name x px, .Name y py] kt pt, iter, ifs, 0⟩] sc pos) (tComp2 X.K wi tt te) := by
  intro pins s σ H Q I h
  have hclos : closureFor sc X.env = pure (closOf sc.names X.env.cells []) := closure_eq fun y hy hk => I.ok.has _ (S.free y hy hk)
  rw [eval_ListComp]
  refine wpAny_comprehension_free (use := none) rfl hs hclos S.kind S.names (thn (hi pins s σ H _ I h) fun v s1 h1 => thn h1 fun itv s2 h2 => ?_)
  obtain ⟨it, fp, tn, J, H2, e, I2, T, st2, f2, W, w0, turn⟩ := h2
  subst e
  refine comp_core2 (RR := fun acc C => compPost (model X.prog X.w) X.A X.xe none (EP X pins σ Q) acc C) hc hN S ht he I2 T st2 f2 W w0 turn fun D C s' H' I' fC hn q => ?_
  obtain ⟨m, hn⟩ := hn
  refine ⟨m, hn, fun h' hs' => ⟨.ref D, H', ?_, rfl, q⟩⟩
  exact I'.turned (t' := s'.toks) (fun b o hb e => (hs'.2 b hb).trans e) fC.1 fC.2.1 fC.2.2.2.1 fC.2.2.2.2.1 fC.2.2.2.2.2


end
end L2

namespace L2
open PySem PySem.Spec PyProof.Rows
/-! ### zip of two lists -/
section
variable {X : Cx} {pins : List (Addr × Obj)} {σ : St} {H : Hp} {s : Shared} {h' : Heap}
end
/-- turn i: a new pair of both lists' i-th items -/
noncomputable def Itz (K : PySem.W.Frag) (a b : Addr) : It :=
  ⟨fun i H => ∃ xs x ys y, SqL K H a xs ∧ xs[i]? = some x ∧ SqL K H b ys ∧ ys[i]? = some y, fun i H x H' => ∃ p u v, H p = none ∧ x = .ref p ∧ H' = upd H p (.tup [u, v]) ∧ (∀ xs, SqL K H a xs → xs[i]? = some u) ∧ ∀ ys, SqL K H b ys → ys[i]? = some v,
    fun i H => ∃ xs ys, SqL K H a xs ∧ SqL K H b ys ∧ (xs.length ≤ i ∨ ys.length ≤ i)⟩
section
variable {X : Cx}
noncomputable def iZip (K : PySem.W.Frag) (ta : TA) : TI := fun σ H R => ta σ H fun vs H1 => ∃ a b xs ys, vs = [.ref a, .ref b] ∧ SqL K H1 a xs ∧ SqL K H1 b ys ∧ R (Itz K a b) H1
theorem pe_comp2K (K : PySem.W.Frag) {x y : Str} {sc : Scope} {N' : List Str} {iter elt : Expr} {ifs : List Expr} {px py pt pos : Pos} {kt : Nat} {wi : TI} {tt : TT} {te : TE} (hc : X.calm = true) (hN : X.N.Nodup) (S : CScope2 X.N N' x y sc X.env.scope) (hi : PI X (.Tuple [.Name x px, .Name y py] kt pt) iter wi)
    (ht : ∀ C s2 H2 fp, PIfs (blk2 X N' x y sc C s2 H2 fp) ifs tt) (he : ∀ C s2 H2 fp, PE (blk2 X N' x y sc C s2 H2 fp) elt te) (hs : ∀ v, foldedSetIterable iter X.env v = pure v := by intro _; rfl) (hK : X.K = K := by rfl) :
    PE X (.ListComp elt [⟨.Tuple [.Name x px, .Name y py] kt pt, iter, ifs, 0⟩] sc pos) (tComp2 K wi tt te) := hK ▸ pe_comp2 hc hN S hi ht he hs
end
end L2

namespace L2
open PySem PySem.Spec PyProof.Rows
/-! ### a def whose last parameter has the default 0 -/
structure DefD (K : PySem.W.Frag) (mg : Str → Option Value) (x : Str) (st : Stmt) (ps : List Str) : Prop where
  ex : ∃ (f : Addr) (fd : FuncData) (oc : Value) (od : Option Addr) (dV kV doc pm : Value) (an : Option Addr) (cdv ct : Value) (osl : Array (Option Value)),
    fd = PySem.W.fnOf x x (defArgs st) (defBody st) (defScope st) dV kV doc pm an cdv ct ∧ K.lookup f = some ⟨oc, od, .func fd, osl⟩ ∧ PySem.W.codeIn K cdv x = true ∧ PySem.W.keepIn K (.ref f) = true ∧ mg x = some (.ref f) ∧ Binds K fd ps [] ∧ ∃ t, Binds K fd ps [.int 0 t]
structure CalD (P : Program) (w : World) (K : PySem.W.Frag) (mg : Str → Option Value) (base : Heap) (CX : CXT) (k : Nat) (x : Str) (ps : List Str) (sp : Sp) : Prop where
  all : Cal P w K mg base CX k x ps sp
  few : ∃ (f : Addr) (fd : FuncData) (t : Tok), FnOk P w K mg base CX k f fd ps sp ∧ mg x = some (.ref f) ∧ PySem.W.keepIn K (.ref f) = true ∧ Binds K fd ps [.int 0 t]
section
variable {P : Program} {w : World} {K : PySem.W.Frag} {mg : Str → Option Value} {base : Heap} {x : Str} {st : Stmt} {ps N : List Str} {sp : Sp} {k : Nat}
end
section
variable {X : Cx} {k : Nat} {x : Str} {ps : List Str} {sp : Sp} {p pos : Pos} {e : Expr} {es : List Expr} {t : TA}
end
end L2

namespace L2
open PySem PySem.Spec PyProof.Rows
/-! ### != of tuples that hold lists and tuples, where they are equal -/
inductive Al2 (K : PySem.W.Frag) (H : Hp) : V → V → Prop where
  | of {x y : V} (h : Al1 K H x y) : Al2 K H x y
  | tup {p q : Addr} {xs : List V} (hne : p ≠ q) (h1 : SqT K H p xs) (h2 : SqT K H q xs) (h : xs.all flatV = true) : Al2 K H (.ref p) (.ref q)
section
variable {X : Cx}
theorem al2_eq {pins : List (Addr × Obj)} {σ : St} {H : Hp} {s : Shared} {A : Around} {x y : V} {u v : Value} (I : Inv X pins σ H s) (hu : A.units < cLine) (h : Al2 X.K H x y) (rx : RelV x u) (ry : RelV y v) : SeqAt.EqAt A s u v true := by
  cases h with
  | of h => exact al1_eq I hu h rx ry
  | tup hne h1 h2 h =>
    cases rx
    cases ry
    obtain ⟨its, r, pl, hz⟩ := I.tuple h1
    obtain ⟨its', r', pl', hz'⟩ := I.tuple h2
    have l1 := r.length
    have l2 := r'.length
    have := SeqAt.EqAt.of_refs hne (SeqAt.RcAt.tuples (A := A) (e := fun _ => true) pl pl' hu (als_at (R := fun x y => Al0 x y) r r' (fun j x y hx hy => by
      rw [hx] at hy
      cases hy
      exact .flat (List.all_eq_true.mp h _ (List.mem_of_getElem? hx))) fun x y u v q ru rv => al0_eq q ru rv))
    rw [all_tt, Bool.true_and] at this
    have e : (its.toArray.size == its'.toArray.size) = true := by simp; omega
    rw [e] at this
    exact this
noncomputable def rNest (K : PySem.W.Frag) : R2 := fun x y H Q => ∃ p q xs ys, x = .ref p ∧ y = .ref q ∧ SqT K H p xs ∧ SqT K H q ys ∧ xs.length = ys.length ∧ (∀ (j : Nat) x y, xs[j]? = some x → ys[j]? = some y → Al2 K H x y) ∧ Q (.bl false) H
end
end L2

namespace L2
open PySem PySem.Spec PyProof.Rows
/-! ### a def with a default that raises -/
section
variable {P : Program} {w : World} {K : PySem.W.Frag} {mg : Str → Option Value} {base : Heap} {x : Str} {st : Stmt} {ps N : List Str} {sp : Sp} {k : Nat}
end
section
variable {X : Cx} {k : Nat} {x : Str} {ps : List Str} {sp : Sp} {p pos : Pos} {e : Expr} {es : List Expr} {t : TA}
end
end L2

namespace L2
open PySem PySem.Spec PyProof.Rows
/-! ### a list comprehension whose own name is taken by another one within it -/
theorem relabel_kindC {env : Env} : ∀ {names : List (Str × NameKind)} {x : Str} {k : NameKind},
    (names.map fun (n, k) => if (k == NameKind.free && env.scope.kind == .function && env.kindOf n == some .cell) then (n, NameKind.cell) else (n, k)).lookup x = some k →
    names.lookup x = some k ∨ (names.lookup x = some .free ∧ k = .cell)
  | [], _, _, h => by simp at h
  | (n, k') :: r, x, k, h => by
    have ih := @relabel_kindC env r x k
    rw [List.map_cons] at h
    by_cases hcnd : (k' == NameKind.free && env.scope.kind == .function && env.kindOf n == some .cell) = true
    · simp only [hcnd, if_true] at h
      rw [List.lookup_cons] at h ⊢
      cases hx : x == n with
      | true =>
        rw [hx] at h
        have hk' : k' = .free := by
          have := (Bool.and_eq_true_iff.mp (Bool.and_eq_true_iff.mp hcnd).1).1
          simpa using this
        have : NameKind.cell = k := by simpa using h
        exact .inr ⟨by rw [hk'], this.symm⟩
      | false => rw [hx] at h; exact ih h
    · simp only [hcnd] at h
      rw [show (if false = true then (n, NameKind.cell) else (n, k')) = (n, k') from rfl] at h
      rw [List.lookup_cons] at h ⊢
      cases hx : x == n with
      | true => rw [hx] at h; exact .inl h
      | false => rw [hx] at h; exact ih h
structure CScopeC (N N' : List Str) (x : Str) (sc osc : Scope) : Prop where
  kind : sc.kind = .function
  cells : (sc.names.filter fun y => y.2 == .cell) = [(x, .cell)]
  own : ∀ y ∈ sc.names, y.2 = .local → y.1 = ".0"
  has : sc.names.lookup x = some .cell
  names : ∀ y ∈ sc.names, y.2 = .local → sc.names.lookup y.1 = some .local
  nox : x ∉ N'
  no0 : (".0" : Str) ∉ N'
  nd : N'.Nodup
  len : N'.length = N.length
  sub : ∀ p ∈ N.zip N', p.1 = p.2 ∨ sc.names.lookup p.2 = none
  free : ∀ y ∈ sc.names, y.2 = .free → osc.names.lookup y.1 = some .cell ∨ osc.names.lookup y.1 = some .free
noncomputable def csOkC (N N' : List Str) (x : Str) (sc osc : Scope) : Bool :=
  decide (sc.kind = .function) && decide ((sc.names.filter fun y => y.2 == .cell) = [(x, .cell)]) && decide (∀ y ∈ sc.names, y.2 = .local → y.1 = ".0") && decide (sc.names.lookup x = some .cell) &&
    decide (∀ y ∈ sc.names, y.2 = .local → sc.names.lookup y.1 = some .local) && decide (x ∉ N') && decide ((".0" : Str) ∉ N') && decide N'.Nodup && decide (N'.length = N.length) && decide (∀ p ∈ N.zip N', p.1 = p.2 ∨ sc.names.lookup p.2 = none) && decide (∀ y ∈ sc.names, y.2 = .free → osc.names.lookup y.1 = some .cell ∨ osc.names.lookup y.1 = some .free)
noncomputable def blkC (X : Cx) (N' : List Str) (x : Str) (sc : Scope) (C : Addr) (s2 : Shared) (H2 : Hp) (fp : List Addr) : Cx :=
  { X with N := x :: N', s₀ := s2, H₀ := H2, env := compEnvC sc ((x, C + 1) :: closOf sc.names X.env.cells []) C X.env, outer := X.stack, stack := X.stack, ex := fp, fn := fun y => decide (y = x), pn := [], xe := fun _ _ => False }
section
variable {X : Cx} {pins : List (Addr × Obj)} {σ : St} {H H2 : Hp} {s s2 : Shared} {x : Str} {sc : Scope} {C : Addr} {fp : List Addr} {N' : List Str}


end
end L2
namespace L2
open PySem PySem.Spec PyProof.Rows
/-- the scope that a comprehension within another one sees -/
noncomputable def relS (sc osc : Scope) : Scope := { sc with names := sc.names.map fun (n, k) => if (k == .free && osc.kind == .function && osc.names.lookup n == some .cell) then (n, .cell) else (n, k) }
theorem csN {N N' : List Str} {x : Str} {sc sc1 osc : Scope} {env : Env} (he : env.scope = osc) (h : csOk N N' x sc (relS sc1 osc) = true) : CScope N N' x sc (relabel sc1 env) := by
  subst he; exact csH h
/-! ### == and != of lists that hold tuples, where they are equal -/
section
variable {X : Cx}
theorem al2_tup {K : PySem.W.Frag} {H : Hp} {p q : Addr} {xs : List V} (h1 : SqT K H p xs) (h2 : SqT K H q xs) (h : xs.all flatV = true) : Al2 K H (.ref p) (.ref q) := by
  by_cases e : p = q
  · subst e; exact .of (.of (.ref p))
  · exact .tup e h1 h2 h
noncomputable def rAlt (K : PySem.W.Frag) (neg : Bool) : R2 := fun x y H Q => ∃ p q xs ys, x = .ref p ∧ y = .ref q ∧ SqL K H p xs ∧ SqL K H q ys ∧ xs.length = ys.length ∧ (∀ (j : Nat) x y, xs[j]? = some x → ys[j]? = some y → Al2 K H x y) ∧ Q (.bl (!neg)) H
theorem op_neAltK (K : PySem.W.Frag) (hu : X.A.units + 1 < cLine) (hK : X.K = K := by rfl) : OpR X (compareOp .NotEq) (rAlt K true) := by
  subst hK
  intro pins s σ H x y v u Q I rx ry h
  obtain ⟨p, q, xs, ys, rfl, rfl, h1, h2, hl, hq, hQ⟩ := h
  cases rx
  cases ry
  obtain ⟨its, r, pl, hz⟩ := I.list h1
  obtain ⟨its', r', pl', hz'⟩ := I.list h2
  have l1 := r.length
  have l2 := r'.length
  refine SeqAt.RcNeAt.lists (e := fun _ => true) pl.isList pl'.isList (by simp; omega) (by omega) (als_at r r' hq fun x y u v q ru rv => al2_eq I hu q ru rv) _ _ _ _ ⟨.bl _, H, I, rfl, ?_⟩
  rw [all_tt]; exact hQ
theorem op_eqAltK (K : PySem.W.Frag) (hu : X.A.units + 1 < cLine) (hK : X.K = K := by rfl) : OpR X (compareOp .Eq) (rAlt K false) := by
  subst hK
  intro pins s σ H x y v u Q I rx ry h
  obtain ⟨p, q, xs, ys, rfl, rfl, h1, h2, hl, hq, hQ⟩ := h
  cases rx
  cases ry
  obtain ⟨its, r, pl, hz⟩ := I.list h1
  obtain ⟨its', r', pl', hz'⟩ := I.list h2
  have l1 := r.length
  have l2 := r'.length
  refine SeqAt.eq_listAt (e := fun _ => true) pl.isList pl'.isList (by simp; omega) (by omega) (als_at r r' hq fun x y u v q ru rv => al2_eq I hu q ru rv) ⟨.bl _, H, I, rfl, ?_⟩
  rw [all_tt]; exact hQ
end
end L2

namespace L2
open PySem PySem.Spec PyProof.Rows
/-! ### list(reversed(e)), e a list -/
section
variable {P0 : Program} {w0 : World} {A0 : Around} {E0' : Value → Shared → Prop} {s0 : Shared} {I l : Addr} {its : Array Value}
end
section
variable {X : Cx} {e : Expr} {te : TE} {p1 p2 pos1 pos2 : Pos}
noncomputable def tLrv (K : PySem.W.Frag) (te : TE) : TE := fun σ H Q => te σ H fun x H1 => ∃ p ys, x = .ref p ∧ SqL K H1 p ys ∧ ∀ q, H1 q = none → Q (.ref q) (upd H1 q (.lst ys.reverse))
end
end L2

namespace L2
open PySem PySem.Spec PyProof.Rows
/-! ### range(a, b, 2) -/
noncomputable def Itr3 (lo : Int) (n : Nat) : It := ⟨fun i _ => i < n, fun i H x H' => H' = H ∧ x = .int (lo + i * 2), fun i _ => n ≤ i⟩
section
variable {X : Cx} {tg : Expr}
noncomputable def iRng3 (ta : TA) : TI := fun σ H R => ta σ H fun vs H1 => ∃ (i j : Int) (n : Nat), vs = [.int i, .int j, .int 2] ∧ (-(2 ^ 60) ≤ i ∧ i < 2 ^ 60 ∧ -(2 ^ 60) ≤ j ∧ j < 2 ^ 60) ∧ (n : Int) = (if i < j then (j - i - 1) / 2 + 1 else 0) ∧ R (Itr3 i n) H1
end
/-! ### [e for x in it if c] over a range, by a word of one's own -/
end L2

namespace L2
open PySem PySem.Spec PyProof.Rows
/-! ### xs.insert(i, y), within the list -/
section
variable {X : Cx}
noncomputable def rInsert : V → List V → Hp → VK → Prop := fun x vs H Q => ∃ (l : Addr) (xs : List V) (i : Nat) (y : V), x = .ref l ∧ vs = [.int (i : Int), y] ∧ H l = some (.lst xs) ∧ i ≤ xs.length ∧ xs.length < 1000 ∧ Q .non (upd H l (.lst (xs.take i ++ y :: xs.drop i)))
end
end L2

namespace TC
/-! ### the least form of a list, in plain numbers -/
noncomputable def gAll (ns : List Int) : Nat := ns.foldl (fun g n => Nat.gcd g n.natAbs) 0
noncomputable def negFirst : List Int → Bool
  | [] => false
  | n :: r => if n = 0 then negFirst r else decide (n < 0)
noncomputable def divD (ns : List Int) : Int := if negFirst ns = true then -(gAll ns : Int) else (gAll ns : Int)
noncomputable def leastL (ns : List Int) : List Int := ns.map fun n => n.fdiv (divD ns)
noncomputable def some0 (ns : List Int) : Prop := ∃ n ∈ ns, n ≠ 0

/-- small enough to reckon with -/
noncomputable def Small (ns : List Int) : Prop := ∀ n ∈ ns, n.natAbs < 2 ^ 2000
noncomputable def okLen (n : Nat) : Prop := n = 2 ∨ n = 4 ∨ n = 8 ∨ n = 16 ∨ n = 32 ∨ n = 64
end TC
namespace TC
/-! ### numbers that a law draws -/
theorem big {n : Int} (h1 : -1606938044258990275541962092341162602522202993782792835301376 < n) (h2 : n < 1606938044258990275541962092341162602522202993782792835301376) : n.natAbs < 2 ^ 4000 :=
  Nat.lt_of_lt_of_le (show n.natAbs < 1606938044258990275541962092341162602522202993782792835301376 by omega)
    (Nat.le_trans (show 1606938044258990275541962092341162602522202993782792835301376 ≤ 2 ^ 200 by decide) (Nat.pow_le_pow_right (by decide) (by decide)))
/-- at most two hundred bits -/
noncomputable def Med (ns : List Int) : Prop := ∀ n ∈ ns, -1606938044258990275541962092341162602522202993782792835301376 < n ∧ n < 1606938044258990275541962092341162602522202993782792835301376
theorem cpw (k : Int) (h1 : 0 ≤ k) (h2 : k ≤ 1000000) : L2.CPow 10 k := ⟨h1, h2, by decide⟩
theorem em_nn (x : Int) {m : Int} (h : 0 < m) : 0 ≤ x % m := Int.emod_nonneg x (by omega)
theorem em_lt (x : Int) {m : Int} (h : 0 < m) : x % m < m := Int.emod_lt_of_pos x h
theorem fd_pos {x m : Int} (h0 : 0 ≤ x) (h : 0 < m) : x.fdiv m = x / m := Int.fdiv_eq_ediv_of_nonneg x (by omega)
theorem cdB {x m : Int} (h : 0 < m) (h2 : m < 1606938044258990275541962092341162602522202993782792835301376) : L2.CDivB x m := ⟨by omega, big (by omega) h2⟩
end TC

namespace TC
open PySem L2
/-- a gate -/
inductive Gt where
  | mix (c : Nat)
  | flip (c : Nat)
  | sign (c : Nat)
  | follow (a b : Nat)
  | meet (a b : Nat)
  | swap (a b : Nat)
noncomputable def Gt.vals : Gt → List V
  | .mix c => [.str "mix", .int c]
  | .flip c => [.str "flip", .int c]
  | .sign c => [.str "sign", .int c]
  | .follow a b => [.str "follow", .int a, .int b]
  | .meet a b => [.str "meet", .int a, .int b]
  | .swap a b => [.str "swap", .int a, .int b]
noncomputable def Gt.ok (m : Nat) : Gt → Prop
  | .mix c => c < m
  | .flip c => c < m
  | .sign c => c < m
  | .follow a b => a < m ∧ b < m ∧ a ≠ b
  | .meet a b => a < m ∧ b < m ∧ a ≠ b
  | .swap a b => a < m ∧ b < m ∧ a ≠ b
noncomputable def fl (p c : Nat) : Nat := p ^^^ 2 ^ c
noncomputable def bt (p c : Nat) : Bool := p.testBit c
noncomputable def at0 (xs : List Int) (i : Nat) : Int := xs.getD i 0
noncomputable def beh (xs : List Int) (p : Nat) : Gt → Int
  | .mix c => if bt p c = true then at0 xs (fl p c) - at0 xs p else at0 xs p + at0 xs (fl p c)
  | .flip c => at0 xs (fl p c)
  | .sign c => if bt p c = true then - at0 xs p else at0 xs p
  | .follow a b => if bt p a = true then at0 xs (fl p b) else at0 xs p
  | .meet a b => if (bt p a && bt p b) = true then - at0 xs p else at0 xs p
  | .swap a b => if (bt p a != bt p b) = true then at0 xs (fl (fl p a) b) else at0 xs p
noncomputable def gap (g : Gt) (xs : List Int) : List Int := (List.range xs.length).map fun p => beh xs p g
/-- what twice the same gate makes of a list -/
noncomputable def Gt.two : Gt → Int
  | .mix _ => 2
  | _ => 1
/-- how wide the numbers are -/
noncomputable def Sz (k : Nat) (xs : List Int) : Prop := ∀ n ∈ xs, n.natAbs < 2 ^ k
/-- one gate, then least form -/
noncomputable def stp (xs : List Int) (g : Gt) : List Int := leastL (gap g xs)
/-- gates in a row, over a list in least form -/
noncomputable def run (gs : List Gt) (xs : List Int) : List Int := gs.foldl stp xs
structure Fit (m k : Nat) (xs : List Int) : Prop where
  l : xs.length = 2 ^ m
  s : some0 xs
  z : Sz k xs
/-- gates that lie in the heap as tuples -/
structure Gts (H : Hp) (m : Nat) (as : List Addr) (gs : List Gt) : Prop where
  l : as.length = gs.length
  g : ∀ (i : Nat) (a : Addr), as[i]? = some a → ∃ g, gs[i]? = some g ∧ H a = some (.tup g.vals) ∧ g.ok m
theorem Gts.same {H H' : Hp} {m : Nat} {as : List Addr} {gs : List Gt} (h : Gts H m as gs) (s : Same H H') : Gts H' m as gs := ⟨h.l, fun i a e => by
  obtain ⟨g, h1, h2, h3⟩ := h.g i a e
  exact ⟨g, h1, s _ _ h2, h3⟩⟩
theorem Gts.all {H : Hp} {m : Nat} {as : List Addr} {gs : List Gt} (h : Gts H m as gs) : ∀ g ∈ gs, g.ok m := fun g hg => by
  obtain ⟨i, hi, rfl⟩ := List.mem_iff_getElem.mp hg
  obtain ⟨g', h1, h2, h3⟩ := h.g i (as[i]'(by rw [h.l]; exact hi)) (List.getElem?_eq_getElem _)
  rw [List.getElem?_eq_getElem hi] at h1
  cases h1
  exact h3
noncomputable abbrev rV (as : List Addr) : List V := as.map V.ref
theorem rs_get {as : List Addr} {i : Nat} {x : V} (h : (rV as)[i]? = some x) : ∃ a, as[i]? = some a ∧ x = .ref a := by
  rw [List.getElem?_map] at h
  cases e : as[i]? with
  | none => rw [e] at h; cases h
  | some z => rw [e] at h; exact ⟨z, rfl, (Option.some.inj h).symm⟩
theorem sqT {K : PySem.W.Frag} {H : Hp} {a : Addr} {xs : List V} (h : H a = some (.tup xs)) : SqT K H a xs := .inl (.inl h)
noncomputable def dbl {α : Type} (as : List α) : List α := as.flatMap fun a => [a, a]
theorem Gts.nil {H : Hp} {m : Nat} : Gts H m [] [] := ⟨rfl, fun i a e => by cases e⟩
theorem Gts.app {H : Hp} {m : Nat} {as bs : List Addr} {gs hs : List Gt} (h : Gts H m as gs) (h' : Gts H m bs hs) : Gts H m (as ++ bs) (gs ++ hs) := by
  refine ⟨by rw [List.length_append, List.length_append, h.l, h'.l], fun i a e => ?_⟩
  by_cases hi : i < as.length
  · rw [List.getElem?_append_left hi] at e
    obtain ⟨g, h1, h2⟩ := h.g i a e
    exact ⟨g, by rw [List.getElem?_append_left (by rw [← h.l]; exact hi)]; exact h1, h2⟩
  · rw [List.getElem?_append_right (by omega)] at e
    obtain ⟨g, h1, h2⟩ := h'.g _ a e
    exact ⟨g, by rw [List.getElem?_append_right (by rw [← h.l]; omega), ← h.l]; exact h1, h2⟩
theorem Gts.one {H : Hp} {m : Nat} {a : Addr} {g : Gt} (h : H a = some (.tup g.vals)) (ok : g.ok m) : Gts H m [a] [g] := ⟨rfl, fun i x e => by
  cases i with
  | zero => cases e; exact ⟨g, rfl, h, ok⟩
  | succ i => cases e⟩
end TC

namespace TC
open PySem L2 PyProof.Rows
/-! ### bits -/
/-- how many bits, of six -/
noncomputable def pcf : Nat → Nat → Nat
  | 0, _ => 0
  | k + 1, n => n % 2 + pcf k (n / 2)
noncomputable def pc (n : Nat) : Nat := pcf 6 n
noncomputable def par (n : Nat) : Bool := ((bt n 0 ^^ bt n 1) ^^ (bt n 2 ^^ bt n 3)) ^^ (bt n 4 ^^ bt n 5)
theorem bt_or (a b c : Nat) : bt (a ||| b) c = (bt a c || bt b c) := by unfold bt; rw [Nat.testBit_or]
/-- the sign changed where b -/
noncomputable def chg (n : Int) (b : Bool) : Int := if b = true then -n else n
/-! ### rows of signs -/
structure Rw where
  sg : Int
  x : Nat
  z : Nat
noncomputable def Rw.vals (r : Rw) : List V := [.int r.sg, .int r.x, .int r.z]
noncomputable def one (s : Int) : Prop := s = 1 ∨ s = -1
structure Rw.ok (r : Rw) (m : Nat) : Prop where
  s : one r.sg
  x : r.x < 2 ^ m
  z : r.z < 2 ^ m
noncomputable def snt (xs : List Int) (p : Nat) (r : Rw) : Int := chg (r.sg * at0 xs p) (par (p &&& r.z))
noncomputable def lay (r : Rw) (xs : List Int) : List Int := (List.range xs.length).map fun p => snt xs (p ^^^ r.x) r
noncomputable def prd (a b : Rw) : Rw := ⟨chg (a.sg * b.sg) (par (a.z &&& b.x)), a.x ^^^ b.x, a.z ^^^ b.z⟩
noncomputable def agr (a b : Rw) : Bool := (par (a.x &&& b.z)) == (par (a.z &&& b.x))
noncomputable def evn (a : Rw) : Bool := !par (a.x &&& a.z)
end TC
namespace TC
open PySem L2
/-- numbers within b either way -/
noncomputable def Wid (b : Int) (ns : List Int) : Prop := ∀ n ∈ ns, -b ≤ n ∧ n ≤ b
end TC
namespace TC
open PySem L2
theorem shl_is (m : Nat) : (1 : Int) * 2 ^ (m : Int).toNat = ((2 ^ m : Nat) : Int) := by rw [Int.one_mul, Int.toNat_natCast, Int.natCast_pow]; rfl
theorem cp2 {m : Nat} (h : m ≤ 6) : CPow 1 (m : Int) := ⟨Int.natCast_nonneg _, by omega, by decide⟩
/-- where a row sends a place, and its sign -/
noncomputable def gos (r : Rw) (p : Nat) (s : Int) : Int := chg (s * r.sg) (par (p &&& r.z))
noncomputable def spot : Nat → Nat
  | 0 => 0
  | i + 1 => 2 ^ i
end TC

namespace TC
open PySem L2
/-! ### rows moved by gates -/
noncomputable def tg (n c : Nat) (b : Bool) : Nat := if b = true then fl n c else n
theorem bt_pw (c i : Nat) : bt (2 ^ c) i = decide (c = i) := by unfold bt; rw [Nat.testBit_two_pow]
noncomputable def swq (n a b : Nat) : Nat := tg (tg n a (bt n a ^^ bt n b)) b (bt n a ^^ bt n b)
noncomputable def mvd (r : Rw) : Gt → Rw
  | .mix c => ⟨chg r.sg (bt r.x c && bt r.z c), tg r.x c (bt r.x c ^^ bt r.z c), tg r.z c (bt r.x c ^^ bt r.z c)⟩
  | .flip c => ⟨chg r.sg (bt r.z c), r.x, r.z⟩
  | .sign c => ⟨chg r.sg (bt r.x c), r.x, r.z⟩
  | .follow a b => ⟨r.sg, tg r.x b (bt r.x a), tg r.z a (bt r.z b)⟩
  | .meet a b => ⟨chg r.sg (bt r.x a && bt r.x b), r.x, tg (tg r.z b (bt r.x a)) a (bt r.x b)⟩
  | .swap a b => ⟨r.sg, swq r.x a b, swq r.z a b⟩
end TC
namespace TC
open PySem L2
noncomputable def bN (b : Bool) : Nat := if b = true then 1 else 0
theorem bitof_is : ∀ n : Nat, n < 64 → ∀ c : Nat, c < 6 → Builtin.bitAnd ((n : Int) / 2 ^ (c : Int).toNat) 1 = (bN (bt n c) : Nat) := by decide +kernel
theorem cpN {m : Nat} (b : Bool) (h : m ≤ 6) : CPow ((bN b : Nat) : Int) (m : Int) := ⟨Int.natCast_nonneg _, by omega, by cases b <;> decide⟩
end TC
namespace TC
open PySem L2
/-- a list turned so far -/
structure Half (xs ys : List Int) (i : Nat) (g : Gt) : Prop where
  l : ys.length = xs.length
  d : ∀ q, q < i → at0 ys q = beh xs q g
  u : ∀ q, i ≤ q → at0 ys q = at0 xs q
noncomputable def low (q c : Nat) : Nat := if bt q c = true then fl q c else q
structure HalfM (xs ys : List Int) (i c : Nat) : Prop where
  l : ys.length = xs.length
  d : ∀ q, q < xs.length → low q c < i → at0 ys q = beh xs q (.mix c)
/-- a list laid so far -/
structure HalfL (xs ys : List Int) (i : Nat) (r : Rw) : Prop where
  l : ys.length = xs.length
  d : ∀ p, p < i → at0 ys (p ^^^ r.x) = snt xs p r
end TC

namespace TC
open PySem L2
/-! ### rows that lie in the heap as tuples; rows moved by rows of gates -/
structure Rws (H : Hp) (m : Nat) (as : List Addr) (rs : List Rw) : Prop where
  l : as.length = rs.length
  g : ∀ (i : Nat) (a : Addr), as[i]? = some a → ∃ r, rs[i]? = some r ∧ H a = some (.tup r.vals) ∧ r.ok m
noncomputable def mvs (gs : List Gt) (r : Rw) : Rw := gs.foldl mvd r
/-- the rows of no gates -/
noncomputable def lets (m : Nat) : List Rw := ((List.range m).map fun c => ⟨1, 2 ^ c, 0⟩) ++ (List.range m).map fun c => ⟨1, 0, 2 ^ c⟩
/-- lists turned by gates, undivided -/
noncomputable def gaps (gs : List Gt) (xs : List Int) : List Int := gs.foldl (fun ys g => gap g ys) xs
end TC

namespace TC
open PySem L2
/-! ### making gates for a table of images -/
/-- moving keeps what agrees -/
noncomputable def sy (a b : Rw) : Bool := par (a.x &&& b.z) ^^ par (a.z &&& b.x)
end TC
namespace TC
open PySem L2
/-- gates that leave a row as it is -/
noncomputable def still (t : Rw) : Gt → Prop
  | .mix c => bt t.x c = false ∧ bt t.z c = false
  | .flip c => bt t.z c = false
  | .sign c => bt t.x c = false
  | .follow a b => bt t.x a = false ∧ bt t.z b = false
  | .meet a b => bt t.x a = false ∧ bt t.x b = false
  | .swap a b => bt t.x a = false ∧ bt t.x b = false ∧ bt t.z a = false ∧ bt t.z b = false
/-- meets of two and two -/
noncomputable def meetsP : List Nat → List Gt
  | a :: b :: l => .meet a b :: meetsP l
  | _ => []
noncomputable def evs : List Nat → List Nat
  | a :: b :: l => a :: b :: evs l
  | _ => []
noncomputable def lft : List Nat → List Nat
  | _ :: _ :: l => lft l
  | l => l
end TC

namespace TC
open PySem L2
noncomputable def cw (n : Nat) : List Nat := (List.range 6).filter (bt n)
noncomputable def Gt.al (P : Nat → Prop) : Gt → Prop
  | .mix c => P c
  | .flip c => P c
  | .sign c => P c
  | .follow a b => P a ∧ P b ∧ a ≠ b
  | .meet a b => P a ∧ P b ∧ a ≠ b
  | .swap a b => P a ∧ P b ∧ a ≠ b
noncomputable def tox (r : Rw) (k : Nat) : List Gt :=
  meetsP (cw (r.x &&& r.z)) ++ (cw (r.z ^^^ (r.x &&& r.z))).map .mix ++ (cw (r.x ||| r.z)).tail.map (.follow ((cw (r.x ||| r.z)).headD 0)) ++
    (if (cw (r.x ||| r.z)).headD 0 ≠ k then [.swap ((cw (r.x ||| r.z)).headD 0) k] else [])
end TC
namespace TC
open PySem L2
/-- the bits elsewhere -/
noncomputable def ws (n k : Nat) : Nat := tg n k (bt n k)
noncomputable def toz (r : Rw) (k : Nat) : List Gt :=
  meetsP (cw (ws r.x k &&& ws r.z k)) ++ (lft (cw (ws r.x k &&& ws r.z k))).map (.follow · k) ++ (cw (ws r.x k)).map .mix ++ (cw (ws r.x k ||| ws r.z k)).map (.follow · k)
end TC

namespace TC
open PySem L2
/-! ### tables -/
noncomputable def ra (rs : List Rw) (i : Nat) : Rw := rs.getD i ⟨1, 0, 0⟩
structure Tb (m : Nat) (rs : List Rw) : Prop where
  l : rs.length = 2 * m
  ok : ∀ i, i < 2 * m → (ra rs i).ok m
  ev : ∀ i, i < 2 * m → evn (ra rs i) = true
  ag : ∀ i j, i < j → j < 2 * m → sy (ra rs i) (ra rs j) = decide (j = i + m)
/-- the rows of the first k coins are done -/
structure Dn (m k : Nat) (rs : List Rw) : Prop where
  x : ∀ c, c < k → (ra rs c).x = 2 ^ c ∧ (ra rs c).z = 0
  z : ∀ c, c < k → (ra rs (c + m)).x = 0 ∧ (ra rs (c + m)).z = 2 ^ c
end TC
namespace TC
open PySem L2
noncomputable def ngx (rs : List Rw) (m : Nat) : List Nat := (List.range m).filter fun c => decide ((ra rs c).sg = -1)
noncomputable def ngz (rs : List Rw) (m : Nat) : List Nat := (List.range m).filter fun c => decide ((ra rs (c + m)).sg = -1)
noncomputable def gfs (rs : List Rw) (m : Nat) : List Gt := (ngx rs m).map .sign ++ (ngz rs m).map .flip
end TC

namespace TC
open PySem L2
/-! ### products of rows that agree; least form -/
noncomputable def unt : Rw := ⟨1, 0, 0⟩
/-- a row's columns: those of xs, then those of zs -/
noncomputable def cb (r : Rw) (j : Nat) : Bool := if j < 6 then bt r.x j else bt r.z (j - 6)
noncomputable def ld (r : Rw) : Nat := ((List.range 12).find? (cb r)).getD 12
structure Ld (r : Rw) (j : Nat) : Prop where
  lt : j < 12
  b : cb r j = true
  f : ∀ i, i < j → cb r i = false
noncomputable def nz (r : Rw) : Prop := ∃ j, j < 12 ∧ cb r j = true
/-- rows that agree -/
structure Cm (m : Nat) (rs : List Rw) : Prop where
  ok : ∀ r ∈ rs, r.ok m
  ev : ∀ r ∈ rs, evn r = true
  ag : ∀ a ∈ rs, ∀ b ∈ rs, sy a b = false
inductive Sn (rs : List Rw) : Rw → Prop where
  | unt : Sn rs unt
  | mul {t r : Rw} (h : Sn rs t) (hr : r ∈ rs) : Sn rs (prd t r)
/-- what p chooses, multiplied -/
noncomputable def pr (p : Rw → Bool) : List Rw → Rw
  | [] => unt
  | a :: l => if p a = true then prd a (pr p l) else pr p l
/-- least but for the order -/
noncomputable def Apt (a b : Rw) : Prop := cb a (ld b) = false ∧ cb b (ld a) = false
structure Rd (L : List Rw) : Prop where
  n : ∀ a ∈ L, nz a
  p : L.Pairwise Apt
end TC

namespace TC
open PySem L2
/-! ### clearing -/
noncomputable def cl1 (t c : Rw) : Rw := if cb t (ld c) = true then prd t c else t
noncomputable def clr (C : List Rw) (t : Rw) : Rw := C.foldl cl1 t
noncomputable def nxt (C : List Rw) (t : Rw) : List Rw := C.map (fun c => cl1 c t) ++ [t]
/-- rows that stand free, with rows that tell them apart -/
structure Fr (m : Nat) (rs ds : List Rw) : Prop where
  c : Cm m rs
  l : ds.length = rs.length
  d : ∀ i j, i < rs.length → j < rs.length → sy (ra rs i) (ra ds j) = decide (i = j)
/-- what has come so far of the first rows -/
structure Got (m : Nat) (rs C : List Rw) : Prop where
  c : Cm m C
  r : Rd C
  l : C.length = rs.length
  to : ∀ x ∈ rs, Sn C x
  fro : ∀ x ∈ C, Sn rs x
end TC

namespace TC
open PySem L2
/-! ### free rows multiplied by one another, in another order -/
noncomputable def Sep (p q : Rw × Rw) : Prop := sy p.1 q.2 = false ∧ sy q.1 p.2 = false
structure Fp (m : Nat) (ps : List (Rw × Rw)) : Prop where
  c : Cm m (ps.map (·.1))
  p : ps.Pairwise Sep
  o : ∀ x ∈ ps, sy x.1 x.2 = true
/-- rows that make the same -/
structure Eqv (rs qs : List Rw) : Prop where
  to : ∀ x ∈ rs, Sn qs x
  fro : ∀ x ∈ qs, Sn rs x
end TC

namespace TC
open PySem L2
/-! ### rows of a graph -/
noncomputable def ulk (k z u : Nat) : Nat := (2 ^ k ^^^ z) &&& u
end TC

namespace L2
open PySem PySem.Spec PyProof.Rows
/-! ### lists of pairs as tables -/
section
variable {κ : Type} [DecidableEq κ]
noncomputable def valV (kvs : List (κ × V)) (k : κ) : Option V := (kvs.find? fun kv => decide (kv.1 = k)).map (·.2)
/-- in its place, or at the end -/
noncomputable def putK (kvs : List (κ × V)) (k : κ) (v : V) : List (κ × V) :=
  if (kvs.any fun kv => decide (kv.1 = k)) = true then kvs.map (fun kv => if kv.1 = k then (kv.1, v) else kv) else kvs ++ [(k, v)]
noncomputable def dropK (kvs : List (κ × V)) (k : κ) : List (κ × V) := kvs.filter fun kv => decide (kv.1 ≠ k)



end


/-! ### a tracked dict, its keys ints and texts or tuples of these -/

/-- raw entries of a dict with tuple keys -/
noncomputable abbrev KT (H : Hp) : List (List Key × V) → List (List Key × Addr × Value) → Prop := Paired fun p q => p.1 = q.1 ∧ H q.2.1 = some (.tup (p.1.map kV)) ∧ RelV p.2 q.2.2

section
variable {P : Program} {w : World} {H : Hp} {h : Heap} {a : Addr}
end

/-- what the dict at a holds at the key y -/
noncomputable def DGet (H : Hp) (a : Addr) (y : V) (r : Option V) : Prop :=
  (∃ kvs k, Rd H a (.dK kvs) ∧ y = kV k ∧ r = valV kvs k) ∨ ∃ kvs k b, Rd H a (.dT kvs) ∧ y = .ref b ∧ H b = some (.tup (k.map kV)) ∧ r = valV kvs k
/-- the heap behind a[y] = v -/
noncomputable def DPut (H : Hp) (a : Addr) (y v : V) (H' : Hp) : Prop :=
  (∃ kvs k, H a = some (.dK kvs) ∧ y = kV k ∧ kvs.length < sizeLine ∧ H' = upd H a (.dK (putK kvs k v))) ∨
  ∃ kvs k b, H a = some (.dT kvs) ∧ y = .ref b ∧ H b = some (.tup (k.map kV)) ∧ kvs.length < sizeLine ∧ H' = upd H a (.dT (putK kvs k v))


section
variable {X : Cx} {pins : List (Addr × Obj)} {σ : St} {H : Hp} {s : Shared} {a : Addr} {y v : V} {u r : Value} {o : Option V} {A : Around} {E : Value → Shared → Prop}


end
end L2

namespace L2
open PySem PySem.Spec PyProof.Rows
/-! ### list(d), d a dict whatever its keys are: its keys in their order -/
noncomputable def RawD (h : Heap) (d : Addr) (es : Array DictEntry) (ep : Nat) : Prop := ∃ o, h.get? d = some o ∧ o.ExactDict ∧ o.data = .dict es ep
section
variable {P0 : Program} {w0 : World} {A0 : Around} {E1 : Value → Shared → Prop} {s0 : Shared} {I d : Addr} {es : Array DictEntry} {ep i : Nat}
end
section
variable {X : Cx}
/-- list(d) of a dict whose keys are tuples: a new list of these very tuples -/
noncomputable def rListD : List V → Hp → VK → Prop := fun xs H Q => ∃ (a : Addr) (kvs : List (List Key × V)), xs = [.ref a] ∧ H a = some (.dT kvs) ∧
  ∀ (bs : List Addr) (l : Addr), bs.length = kvs.length → (∀ (i : Nat) b k v, bs[i]? = some b → kvs[i]? = some (k, v) → H b = some (.tup (k.map kV))) → H l = none → Q (.ref l) (upd H l (.lst (bs.map V.ref)))
end
end L2

namespace L2
open PySem PySem.Spec PyProof.Rows
/-! ### a dict whose keys are tuples: k in d, d[k] = v, {k: v} -/
section
variable {X : Cx}
noncomputable def rInD : R2 := fun x y H Q => ∃ (a b : Addr) (kvs : List (List Key × V)) (k : List Key), x = .ref b ∧ y = .ref a ∧ H a = some (.dT kvs) ∧ H b = some (.tup (k.map kV)) ∧ Q (.bl (valV kvs k).isSome) H
noncomputable def rSetD : TSet := fun o i v H Q => ∃ (a b : Addr) (kvs : List (List Key × V)) (k : List Key), o = .ref a ∧ i = .ref b ∧ H a = some (.dT kvs) ∧ H b = some (.tup (k.map kV)) ∧ kvs.length < sizeLine ∧ Q (upd H a (.dT (putK kvs k v)))
noncomputable def tD1 (tk tv : TE) : TE := fun σ H Q => ∀ p, H p = none → tk σ (upd H p (.dT [])) fun x H1 => tv σ H1 fun y H2 => ∃ (b : Addr) (k : List Key), x = .ref b ∧ H2 b = some (.tup (k.map kV)) ∧ H2 p = some (.dT []) ∧ Q (.ref p) (upd H2 p (.dT [(k, y)]))
end
end L2

namespace L2
open PySem PySem.Spec PyProof.Rows
/-! ### == of two lists of as many flat tuples, whether they are alike or not -/
section
variable {X : Cx}
noncomputable def rEqTs (K : PySem.W.Frag) : R2 := fun x y H Q => ∃ (p q : Addr) (as bs : List Addr) (e : Nat → Bool), x = .ref p ∧ y = .ref q ∧ SqL K H p (as.map V.ref) ∧ SqL K H q (bs.map V.ref) ∧ as.length = bs.length ∧
  (∀ (j : Nat) a b, as[j]? = some a → bs[j]? = some b → (a = b ∧ e j = true) ∨ (a ≠ b ∧ ∃ xs ys, SqT K H a xs ∧ SqT K H b ys ∧ xs.all flatV = true ∧ ys.all flatV = true ∧ eqVs xs ys = e j)) ∧ Q (.bl ((List.range as.length).all e)) H
end
end L2

namespace L2
open PySem PySem.Spec PyProof.Rows
/-! ### d[k] of a dict whose keys are tuples; == of tuples that hold lists, where they are alike -/
section
variable {X : Cx}
noncomputable def rIxD : R2 := fun x y H Q => ∃ (a b : Addr) (kvs : List (List Key × V)) (k : List Key) (v : V), x = .ref a ∧ y = .ref b ∧ H a = some (.dT kvs) ∧ H b = some (.tup (k.map kV)) ∧ valV kvs k = some v ∧ Q v H
noncomputable def rNestE (K : PySem.W.Frag) : R2 := fun x y H Q => ∃ p q xs ys, x = .ref p ∧ y = .ref q ∧ SqT K H p xs ∧ SqT K H q ys ∧ xs.length = ys.length ∧ (∀ (j : Nat) x y, xs[j]? = some x → ys[j]? = some y → Al2 K H x y) ∧ Q (.bl true) H
end
end L2

namespace L2
open PySem PySem.Spec PyProof.Rows
/-! ### a flat tuple not in a list of flat tuples -/
section
variable {X : Cx}
noncomputable def rInTs (K : PySem.W.Frag) (neg : Bool) : R2 := fun x y H Q => ∃ (q p : Addr) (bs : List Addr) (xs : List V) (e : Addr → Bool), x = .ref q ∧ y = .ref p ∧ SqL K H p (bs.map V.ref) ∧ SqT K H q xs ∧ xs.all flatV = true ∧
  (∀ b ∈ bs, b ≠ q ∧ ∃ zs, SqT K H b zs ∧ zs.all flatV = true ∧ eqVs zs xs = e b) ∧ Q (.bl (if neg then !(bs.any e) else bs.any e)) H
noncomputable def eA (e : Addr → Bool) : Value → Bool
  | .ref b => e b
  | _ => false
end
end L2

namespace L2
open PySem PySem.Spec PyProof.Rows
/-! ### for i, c in enumerate(text), a text of signs below 128 -/
noncomputable def asc (z : Str) : Prop := (z.cps.all fun x => decide (x < 128)) = true
/-- turn i: a new pair of i and the text's i-th sign -/
noncomputable def Its (z : Str) : It :=
  ⟨fun i H => ∃ c, z.cps[i]? = some c, fun i H x H' => ∃ p c, H p = none ∧ x = .ref p ∧ H' = upd H p (.tup [.int i, .str ⟨#[c]⟩]) ∧ z.cps[i]? = some c, fun i H => z.cps.size ≤ i⟩
section
variable {X : Cx}
noncomputable def iEnumS (ta : TA) : TI := fun σ H R => ta σ H fun vs H1 => ∃ z, vs = [.str z] ∧ asc z ∧ R (Its z) H1
end
end L2

namespace L2
open PySem PySem.Spec PyProof.Rows
/-! ### for c in text -/
noncomputable def Itx (z : Str) : It :=
  ⟨fun i H => ∃ c, z.cps[i]? = some c, fun i H x H' => H' = H ∧ ∃ c, z.cps[i]? = some c ∧ x = .str ⟨#[c]⟩, fun i H => z.cps.size ≤ i⟩
theorem turn_text {P : Program} {w : World} {K : PySem.W.Frag} {tg : Expr} (z : Str) (t : Tok) (it : Addr) : Turn P w K tg (Itx z) [it] it (fun i h => h.IsStrIter it "str_ascii_iterator" z t i) where
  mem := by simp
  obj := fun i h st b hb => by
    have e : b = it := by simpa using hb
    subst e
    obtain ⟨o, e, c, d⟩ := st
    exact ⟨o, e, fun v z => by rw [d] at z; cases z⟩
  keep := fun i h h' st k => by
    obtain ⟨o, e, c, d⟩ := st
    exact ⟨o, k it (by simp) o e, c, d⟩
  item := by
    intro X hP hw hK hc i pins s σ H E I hf st hg
    subst hP hw hK
    obtain ⟨c, hx⟩ := hg
    obtain ⟨f0, f1, f2, f3, f4, f5⟩ := hf it (by simp)
    refine wpAny_pyNext_ascii_item st hx fun h' st' sb => ?_
    have I1 : Inv X pins σ H { s with heap := h', toks := s.toks + 1 } := I.turned (t' := s.toks + 1) (fun b o hb e => (sb.2 b hb).trans e) f0 f1 f3 f4 f5
    obtain ⟨o, e, c', d⟩ := id st'
    exact ⟨_, rfl, go_of (s := { s with heap := h', toks := s.toks + 1 }) e c' d (by decide) ⟨.str ⟨#[c]⟩, H, I1, ⟨_, rfl⟩, ⟨rfl, c, hx, rfl⟩, st', fun b hb => (hf b hb).1⟩⟩
  done := by
    intro X hP hw hK hc i pins s σ H E I hf st hg
    subst hP hw hK
    obtain ⟨f0, f1, f2, f3, f4, f5⟩ := hf it (by simp)
    have hg : z.cps.size ≤ i := hg
    exact wpAny_pyNext_ascii_end (I.ok.hd hc) st (Array.getElem?_eq_none hg) fun h' eb => ⟨rfl, I.turned (t' := s.toks) (fun b o hb e => eb b o hb e) f0 f1 f3 f4 f5⟩
  self := fun _ _ _ _ _ st h => wpAny_pyIter_striter_ascii st h
section
variable {X : Cx} {tg : Expr}
noncomputable def iText (tl : TE) : TI := fun σ H R => tl σ H fun x H1 => ∃ z, x = .str z ∧ asc z ∧ R (Itx z) H1
theorem pi_text {l : Expr} {tl : TE} (hl : PE X l tl) : PI X tg l (iText tl) := by
  intro pins s σ H R I h
  refine thn (hl pins s σ H _ I h) fun v s1 ⟨x, H1, I1, r1, q1⟩ => ?_
  obtain ⟨z, e, hz, q⟩ := q1
  subst e
  obtain ⟨t, rfl⟩ := r1
  refine wpAny_pyIter_ascii hz ?_
  refine ⟨s1.heap.objs.size, [s1.heap.objs.size], _, _, H1, rfl, I1.kept (t' := s1.toks) fun b o e => Heap.get?_push_of_some _ e, turn_text z t _, ⟨_, Heap.get?_push_size _ rfl, rfl, rfl⟩, fun b hb => ?_, q⟩
  have e : b = s1.heap.objs.size := by simpa using hb
  subst e
  exact I1.fpOk (Nat.le_refl _) (I1.hok.fresh (Nat.le_refl _))
end
theorem comp_text {z : Str} {te : TE} {σ : St} {H : Hp} {Q : VK} (f : Nat → V) (hz : z.cps.size ≤ sizeLine)
    (he : ∀ (i : Nat) c H' Q', z.cps[i]? = some c → Same H H' → (∀ H'', Same H' H'' → Q' (f i) H'') → te (some (.str ⟨#[c]⟩) :: σ) H' Q')
    (hd : ∀ p H', Same H H' → H p = none → H' p = some (.lst ((List.range z.cps.size).map f)) → Q (.ref p) H') : ∃ W, (∃ m, W 0 m [] H) ∧ CompW (Itx z) tYes te σ Q W := by
  refine ⟨fun i m ys H' => m = z.cps.size - i ∧ i ≤ z.cps.size ∧ ys = (List.range i).map f ∧ Same H H', ⟨z.cps.size, by simp, Nat.zero_le _, rfl, .refl H⟩, ?_⟩
  rintro i m ys H' ⟨rfl, hi, rfl, s⟩
  by_cases hlt : i < z.cps.size
  · refine .inr ⟨⟨z.cps[i], Array.getElem?_eq_getElem hlt⟩, by rw [List.length_map, List.length_range]; omega, fun x H2 y => ?_⟩
    obtain ⟨e, c, hc, rfl⟩ := y
    subst e
    simp only [tYes, if_true]
    refine he i c _ _ hc s fun H'' s' => ⟨z.cps.size - (i + 1), by omega, rfl, hlt, ?_, s.trans s'⟩
    rw [List.range_succ]; simp
  · have e : i = z.cps.size := by omega
    subst e
    refine .inl ⟨Nat.le_refl _, by rw [List.length_map, List.length_range]; omega, fun p hp => hd p _ (s.upd (s.free hp)) (s.free hp) ?_⟩
    rw [upd_same]
/-! ### sep.join(list of texts) -/
noncomputable def jn (sep : Str) : List Str → Str
  | [z] => z
  | zs => Builtin.Str.glued sep zs
section
variable {X : Cx}
noncomputable def rJoin (K : PySem.W.Frag) : V → List V → Hp → VK → Prop := fun x vs H Q => ∃ (sep : Str) (a : Addr) (zs : List Str), x = .str sep ∧ vs = [.ref a] ∧ SqL K H a (zs.map V.str) ∧ zs.toArray.foldl (fun n z => n + z.length + sep.length) 0 ≤ sizeLine ∧ (jn sep zs).length ≤ sizeLine ∧ Q (.str (jn sep zs)) H
theorem strs_of : ∀ {zs : List Str} {us : List Value}, Vals (zs.map V.str) us → ∃ l : List (Str × Tok), us = strValues l ∧ l.map (·.1) = zs
  | [], us, r => by cases r; exact ⟨[], rfl, rfl⟩
  | z :: zs, us, r => by
    cases r with
    | cons ru r =>
      obtain ⟨l, rfl, e⟩ := strs_of r
      obtain ⟨t, rfl⟩ := ru
      exact ⟨(z, t) :: l, rfl, by rw [List.map_cons, e]⟩
theorem mt_join (K : PySem.W.Frag) (hK : X.K = K := by rfl) : MtR X "str.join" (rJoin K) := by
  subst hK
  intro pins s σ H x vs v us Q I rx rv h
  obtain ⟨sep, a, zs, rfl, rfl, hq, hl, hj, q⟩ := h
  obtain ⟨t, rfl⟩ := rx
  obtain ⟨u, rfl, ru⟩ := vals1 rv
  cases ru
  obtain ⟨its, r, pl, hz⟩ := I.list hq
  obtain ⟨l, rfl, e⟩ := strs_of r
  subst e
  refine call_meets F.slot_str_join (typeIs_str s sep t) F.entry_str_join (F.args_str_join_2 _ _) (meets_str_join_list sep t a l (by unfold Builtin.Str.tooLong; exact decide_eq_false (by omega))) ⟨pl.isList, ?_⟩
  match l, hj, q with
  | [p], _, q => exact ⟨.str p.1, H, I, ⟨_, rfl⟩, q⟩
  | [], hj, q => exact ⟨hj, .str _, H, I.tok _, ⟨_, rfl⟩, q⟩
  | p :: p2 :: l, hj, q => exact ⟨hj, .str _, H, I.tok _, ⟨_, rfl⟩, q⟩
end
end L2

namespace L2
open PySem PySem.Spec PyProof.Rows
/-! ### != of two lists of as many flat tuples, whether they are alike or not -/
section
variable {X : Cx}
noncomputable def rNeTs (K : PySem.W.Frag) : R2 := fun x y H Q => ∃ (p q : Addr) (as bs : List Addr) (e : Nat → Bool), x = .ref p ∧ y = .ref q ∧ SqL K H p (as.map V.ref) ∧ SqL K H q (bs.map V.ref) ∧ as.length = bs.length ∧
  (∀ (j : Nat) a b, as[j]? = some a → bs[j]? = some b → (a = b ∧ e j = true) ∨ (a ≠ b ∧ ∃ xs ys, SqT K H a xs ∧ SqT K H b ys ∧ xs.all flatV = true ∧ ys.all flatV = true ∧ eqVs xs ys = e j)) ∧ Q (.bl (!((List.range as.length).all e))) H
end
end L2

namespace L2
open PySem PySem.Spec PyProof.Rows
end L2

namespace L2
open PySem PySem.Spec PyProof.Rows
/-! ### a in text -/
section
variable {X : Cx}
noncomputable def rInS : R2 := fun x y H Q => ∃ (a z : Str), x = .str a ∧ y = .str z ∧ Q (.bl !(Builtin.Str.occurrences z a 0 z.length 1).isEmpty) H
theorem op_inS : OpR X (compareOp .In) rInS := by
  intro pins s σ H x y v u Q I rx ry h
  obtain ⟨a, z, rfl, rfl, q⟩ := h
  obtain ⟨t, rfl⟩ := rx
  obtain ⟨t', rfl⟩ := ry
  exact in_str ⟨.bl _, H, I, rfl, q⟩
end
end L2

namespace L2
open PySem PySem.Spec PyProof.Rows
/-! ### min(xs) of a list of whole numbers -/
section
variable {X : Cx}
theorem call_minLK (K : PySem.W.Frag) (hc : X.calm = true := by rfl) (hK : X.K = K := by rfl) : CallR X (.builtin "min") (fun xs H Q => ∃ p ns, xs = [.ref p] ∧ SqL K H p (zV ns) ∧ 0 < ns.length ∧ ∀ M, M ∈ ns → (∀ a, a ∈ ns → M ≤ a) → Q (.int M) H) := by
  subst hK
  intro pins s σ H xs us Q I r h
  obtain ⟨p, ns, rfl, hq, hne, q⟩ := h
  obtain ⟨u, rfl, rx⟩ := vals1 r
  cases rx
  obtain ⟨its, r', pl, hz⟩ := I.list hq
  have hi := ints_are r'
  obtain ⟨xs, e⟩ := (hi.allInts).items
  have hl := pl.isList
  have hn : numsOf its = ns := hi.numsOf
  rw [show its = its.toArray.toList from rfl, e, nums_intItems] at hn
  rw [e] at hl
  have hsz : 0 < xs.size := by
    have : (xs.toList.map (·.1)).length = ns.length := by rw [hn]
    rw [List.length_map, Array.length_toList] at this
    omega
  refine min_intList (I.ok.hd hc) hl hsz fun v h' tk hv hk => ?_
  obtain ⟨t, rfl⟩ := intItems_at hv
  obtain ⟨h1, h2⟩ := argBest_lt (numAt xs) (xs.size - 1)
  refine ⟨.int _, H, I.kept (t' := tk) hk, ⟨t, rfl⟩, q _ ?_ fun a ha => ?_⟩
  · rw [numAt_eq, ← hn]; exact getD_mem (by rw [List.length_map, Array.length_toList]; omega)
  · rw [← hn] at ha
    obtain ⟨j, hj, rfl⟩ := mem_getD ha
    rw [List.length_map, Array.length_toList] at hj
    rw [← numAt_eq]; exact h2 j (by omega)
end
end L2

namespace L2
open PySem PySem.Spec PyProof.Rows Builtin Builtin.Str
/-! ### texts: cut, split, searched, read as numbers -/
section
variable {X : Cx}
/-- a text cut -/
noncomputable def rSlS : V → Option Int → Option Int → Hp → VK → Prop := fun x lo hi H Q => ∃ z, x = .str z ∧ (StrLaws.sliceText z lo hi).length ≤ sizeLine ∧ Q (.str (StrLaws.sliceText z lo hi)) H
theorem part_of {v : Value} {k : Option Int} (h : IsPart v k) : ∃ p : Option (Int × Tok), v = partValue p ∧ p.map (·.1) = k := by
  cases h with
  | none => exact ⟨none, rfl, rfl⟩
  | int i t => exact ⟨some (i, t), rfl, rfl⟩
theorem sl_str : SlR X rSlS := by
  intro pins s σ H x v vl vu lo hi sl Q I rx hs pl pu h
  obtain ⟨z, rfl, hz, q⟩ := h
  obtain ⟨t, rfl⟩ := rx
  obtain ⟨p, rfl, hp⟩ := part_of pl
  obtain ⟨p', rfl, hp'⟩ := part_of pu
  refine ⟨"str", _, PySem.F.slot_str_getitem.lookup, typeIs_str _ z t, wpAny_getItem_str_slice (l := p) (u := p') (st := none) hs rfl ?_⟩
  have e : slicePicked z p p' none = strSliceIndices lo hi 1 z.length := by unfold slicePicked; rw [hp, hp']; rfl
  have q : Q (.str (if ((1 : Int) == 1 && (strSliceIndices lo hi 1 z.length).length == z.length) = true then z else ⟨((strSliceIndices lo hi 1 z.length).filterMap (z.cps[·]?)).toArray⟩)) H := q
  have hz : (if ((1 : Int) == 1 && (strSliceIndices lo hi 1 z.length).length == z.length) = true then z else ⟨((strSliceIndices lo hi 1 z.length).filterMap (z.cps[·]?)).toArray⟩ : Str).length ≤ sizeLine := hz
  unfold sliceMade
  rw [e]
  have one : ((none : Option (Int × Tok)).map (·.1)).getD 1 = (1 : Int) := rfl
  rw [one]
  by_cases hw : ((1 : Int) == 1 && (strSliceIndices lo hi 1 z.length).length == z.length) = true
  · rw [if_pos hw] at q ⊢
    exact ⟨.str z, H, I, ⟨_, rfl⟩, q⟩
  · rw [if_neg hw] at q hz ⊢
    exact ⟨hz, .str _, H, I.tok _, ⟨_, rfl⟩, q⟩
/-- text.find(text) -/
noncomputable def fnd (z y : Str) : Int := match occurrences z y 0 z.length 1 with | i :: _ => (i : Int) | [] => -1
theorem mt_find : MtR X "str.find" (fun x vs H Q => ∃ z y : Str, x = .str z ∧ vs = [.str y] ∧ Q (.int (fnd z y)) H) := by
  intro pins s σ H x vs v us Q I rx rv h
  obtain ⟨z, y, rfl, rfl, q⟩ := h
  obtain ⟨t, rfl⟩ := rx
  obtain ⟨u, rfl, ⟨t', rfl⟩⟩ := vals1 rv
  exact call_meets PySem.F.slot_str_find (typeIs_str s z t) PySem.F.entry_str_find (PySem.F.args_str_find_2 _ _) (gives_str_find z y t t').meets ⟨.int _, H, I.tok _, ⟨_, rfl⟩, q⟩
/-- int(text) -/
theorem call_intS : CallR X (.type "int") (fun xs H Q => ∃ z n, xs = [.str z] ∧ PySem.intText? z = some n ∧ z.length ≤ 640 ∧ Q (.int n) H) := by
  intro pins s σ H xs us Q I r h
  obtain ⟨z, n, rfl, hn, hl, q⟩ := h
  obtain ⟨u, rfl, t, rfl⟩ := vals1 r
  exact PySem.W.KIN.call_text hn hl ⟨.int n, H, I.tok _, ⟨_, rfl⟩, q⟩
theorem vals_nums : ∀ (k : Nat) (zs : List Str), Vals (zs.map V.str) (strsFrom k zs)
  | k, [] => by rw [show strsFrom k [] = [] from rfl]; exact .nil
  | k, z :: zs => by
    show Vals (V.str z :: zs.map V.str) _
    rw [strsFrom_eq]
    have : strValues (numbered k (z :: zs)) = Value.str z k :: strValues (numbered (k + 1) zs) := rfl
    rw [this, ← strsFrom_eq]
    exact .cons ⟨_, rfl⟩ (vals_nums (k + 1) zs)
/-- text.split(text) -/
theorem mt_split : MtR X "str.split" (fun x vs H Q => ∃ z y : Str, x = .str z ∧ vs = [.str y] ∧ (y.length == 0) = false ∧ z.length + 2 ≤ sizeLine ∧ ∀ p, H p = none → Q (.ref p) (upd H p (.lst ((Txt.split z y).map V.str)))) := by
  intro pins s σ H x vs v us Q I rx rv h
  obtain ⟨z, y, rfl, rfl, hy, hz, q⟩ := h
  obtain ⟨t, rfl⟩ := rx
  obtain ⟨u, rfl, ⟨t', rfl⟩⟩ := vals1 rv
  have hl : (Txt.split z y).length ≤ sizeLine := Nat.le_trans (split_le z y) hz
  have qq := q s.heap.objs.size (I.hok.fresh (Nat.le_refl _))
  have lay : ∀ (vs : List Value) (k : Nat), Vals ((Txt.split z y).map V.str) vs → EP X pins σ Q (.ref s.heap.objs.size) { s with toks := k, heap := s.heap.push { cls := .type "list", data := .seq vs.toArray } } := fun vs k r =>
    ⟨.ref s.heap.objs.size, _, I.laid (t' := k) (o := .lst ((Txt.split z y).map V.str)) (fun b ob q => Heap.get?_push_of_some _ q) (Nat.le_refl _) ⟨by rw [List.length_map]; exact hl, vs, 0, r, Heap.get?_push_size _ rfl⟩, rfl, qq⟩
  cases h1 : (decide (z.length < y.length) || decide (strKind z < strKind y)) with
  | true =>
    have e : Txt.split z y = [z] := if_pos h1
    exact call_meets PySem.F.slot_str_split (typeIs_str _ _ _) PySem.F.entry_str_split (PySem.F.args_str_split_2 _ _) (meets_str_split_cannot_occur z y t t' h1) (lay [.str z t] _ (by rw [e]; exact .cons ⟨_, rfl⟩ .nil))
  | false =>
    cases hf : (occurrences z y 0 z.length (z.length + 1)).isEmpty with
    | true =>
      have e : Txt.split z y = [z] := (if_neg (by rw [h1]; decide)).trans (if_pos hf)
      exact call_meets PySem.F.slot_str_split (typeIs_str _ _ _) PySem.F.entry_str_split (PySem.F.args_str_split_2 _ _) (meets_str_split_not_found z y t t' h1 hy hf) (lay [.str z t] _ (by rw [e]; exact .cons ⟨_, rfl⟩ .nil))
    | false =>
      have e : Txt.split z y = partsBetween z (occurrences z y 0 z.length (z.length + 1)) y.length := (if_neg (by rw [h1]; decide)).trans (if_neg (by rw [hf]; decide))
      refine call_meets PySem.F.slot_str_split (typeIs_str _ _ _) PySem.F.entry_str_split (PySem.F.args_str_split_2 _ _) (meets_str_split_sep z y t t' h1 hy hf (by omega) (by rw [← e]; exact hl)) ?_
      exact lay _ _ (by rw [e]; exact vals_nums _ _)
end
section
variable {X : Cx} {x : Str} {pos : Pos}
theorem pe_gS {z : Str} (hm : ∃ t, X.mg x = some (.str z t)) (hg : Gl X x := by rfl) (hd : (x == ("__debug__" : Str)) = false := by decide) : PE X (.Name x pos) (tC (.str z)) := by
  obtain ⟨t, hm⟩ := hm
  exact pe_glob hg hm ⟨_, rfl⟩ hd
end
section
variable {X : Cx} {r : V → List V → Hp → VK → Prop} {T : String} {name : Str} {id : String} {o e : Expr} {es : List Expr} {to : TE} {t : TA} {apos cpos : Pos}
theorem pe_bmK (K : PySem.W.Frag) (pa : PlainAttrs T) (slot : Slot T name id) (hty : typeOf (.builtin id) = pure (.type "method_descriptor")) (hm : MtR X id r) (ho : PE X o to) (ha : PA X (e :: es) t) (hK : X.K = K := by rfl)
    (hbase : attributeBase o name X.env (eval o X.env) = eval o X.env := by rfl)
    (hfew : ((backTo cpos (starEach (e :: es) X.env)).all (fun x => !x.1) && (backToKw cpos (keywordEach [] X.env)).all (fun x => x.1.isSome)
      && decide ((e :: es).length + ([] : List Keyword).length + (if ([] : List Keyword).isEmpty then 0 else 1) < 30)) = true := by rfl)
    (hline : (apos.endLine == cpos.line) = true := by rfl) (hs : starEach (e :: es) X.env = (false, eval e X.env) :: starEach es X.env := by rfl) (hplain : (backTo cpos (starEach es X.env)).any (·.1) = false := by rfl) :
    PE X (.Call (.Attribute o name apos) (e :: es) [] cpos) (tBM K T r to t) := hK ▸ pe_bm pa slot hty hm ho ha hbase hfew hline hs hplain
end
theorem jn_join (sep : Str) : ∀ zs : List Str, jn sep zs = Str.join sep zs
  | [] => StrLaws.glued_eq_join sep []
  | [z] => rfl
  | a :: b :: r => StrLaws.glued_eq_join sep (a :: b :: r)
theorem foldl_le {k B : Nat} : ∀ (zs : List Str) (n : Nat), (∀ z ∈ zs, z.length ≤ B) → zs.foldl (fun n z => n + z.length + k) n ≤ n + zs.length * (B + k)
  | [], n, _ => by show n ≤ n + 0 * _; omega
  | z :: r, n, h => by
    have hz := h z List.mem_cons_self
    have := foldl_le (k := k) r (n + z.length + k) fun y hy => h y (List.mem_cons_of_mem _ hy)
    rw [List.foldl_cons, List.length_cons, Nat.add_mul]
    omega
theorem fold_le {k B : Nat} (zs : List Str) (h : ∀ z ∈ zs, z.length ≤ B) : zs.toArray.foldl (fun n z => n + z.length + k) 0 ≤ zs.length * (B + k) := by
  have := foldl_le (k := k) zs 0 h
  rw [Nat.zero_add] at this
  rw [List.foldl_toArray]
  exact this
theorem join_len {y : Str} {B : Nat} : ∀ (zs : List Str), (∀ z ∈ zs, z.length ≤ B) → (Str.join y zs).length ≤ zs.length * (B + y.length)
  | [], _ => Nat.zero_le _
  | [z], h => by
    show z.length ≤ 1 * _
    have := h z List.mem_cons_self
    omega
  | a :: b :: r, h => by
    have ih := join_len (y := y) (b :: r) fun z hz => h z (List.mem_cons_of_mem _ hz)
    have ha := h a List.mem_cons_self
    show (a ++ y ++ Str.join y (b :: r)).length ≤ _
    rw [strLen_append, strLen_append, List.length_cons, Nat.add_mul]
    omega
/-! ### what was joined is split to what it was -/
end L2

namespace L2
open PySem PySem.Spec PyProof.Rows Builtin Builtin.Str
/-! ### texts: split at most so often, parted in three -/
section
variable {X : Cx}
end
end L2

namespace L2
open PySem PySem.Spec PyProof.Rows
/-! ### a dict of the module: texts to whole numbers -/
section
variable {X : Cx}
noncomputable def entK (w : World) (e : Str × Tok × Int × Tok) : DictEntry := ⟨hashStr w e.1, .str e.1 e.2.1, .int e.2.2.1 e.2.2.2⟩
structure KDic (K : PySem.W.Frag) (w : World) (a : Addr) (kvs : List (Str × Tok × Int × Tok)) : Prop where
  l : ∃ ep, K.lookup a = some { cls := .type "dict", dict := none, data := .dict (kvs.map (entK w)).toArray ep, slots := #[] }
  m : (a == sysModules) = false
noncomputable def valK (kvs : List (Str × Tok × Int × Tok)) (z : Str) : Option (Int × Tok) := (kvs.find? fun e => decide (e.1 = z)).map fun e => e.2.2
noncomputable def rInKD (a : Addr) (kvs : List (Str × Tok × Int × Tok)) : R2 := fun x y H Q => ∃ z, x = .str z ∧ y = .ref a ∧ Q (.bl (valK kvs z).isSome) H
noncomputable def rIxKD (a : Addr) (kvs : List (Str × Tok × Int × Tok)) : V → V → Hp → VK → Prop := fun x y H Q => ∃ z p, x = .ref a ∧ y = .str z ∧ valK kvs z = some p ∧ Q (.int p.1) H
end
end L2

namespace L2
open PySem PySem.Spec PyProof.Rows
/-! ### where a text is cut: the first place, the first two -/
theorem cps_app (a b : Str) : (a ++ b).cps.toList = a.cps.toList ++ b.cps.toList := by
  show (a.cps ++ b.cps).toList = _
  rw [Array.toList_append]
theorem cps_len (a : Str) : a.cps.toList.length = a.length := by simp [Str.length]
end L2

namespace L2
open PySem PySem.Spec PyProof.Rows
/-! ### a list comprehension within which an error flies -/
/-- an error in flight, whatever its traceback says of where it is -/
noncomputable def XO2 (ap : Addr → Prop) (H : Hp) (h : Heap) (e : Addr) (cls : Value) (od : Option Addr) : Prop :=
  H e = none ∧ ap e ∧ ∃ oe vs, h.get? e = some oe ∧ oe.cls = cls ∧ oe.dict = od ∧ oe.data = .fields vs ∧ 1 < vs.size ∧ vs[2]? = some .none ∧
    (vs[1]? = some .none ∨ ∃ T oT ts, vs[1]? = some (.ref T) ∧ T ≠ e ∧ H T = none ∧ ap T ∧ h.get? T = some oT ∧ oT.data = .fields ts ∧ 3 < ts.size)
/-- .. noted -/
noncomputable def XO3 (ap : Addr → Prop) (H : Hp) (h : Heap) (e : Addr) (cls : Value) (od : Option Addr) : Prop :=
  H e = none ∧ ap e ∧ ∃ oe vs T oT ts, h.get? e = some oe ∧ oe.cls = cls ∧ oe.dict = od ∧ oe.data = .fields vs ∧ 1 < vs.size ∧ vs[2]? = some .none ∧
    vs[1]? = some (.ref T) ∧ T ≠ e ∧ H T = none ∧ ap T ∧ h.get? T = some oT ∧ oT.data = .fields ts ∧ 3 < ts.size
theorem XObj.two {ap : Addr → Prop} {H : Hp} {h : Heap} {e : Addr} {cls : Value} {od : Option Addr} (x : XObj ap H h e cls od) : XO2 ap H h e cls od := by
  obtain ⟨x2, x3, oe, vs, x4, x5, xd, x6, x7, x9, x8⟩ := x
  refine ⟨x2, x3, oe, vs, x4, x5, xd, x6, x7, x9, ?_⟩
  rcases x8 with z | ⟨T, oT, ts, z1, z3, z4, z5, z6, z7, z8⟩
  · exact .inl z
  · exact .inr ⟨T, oT, ts, z1, z3, z4, z5, z6, z7, (Array.getElem?_eq_some_iff.mp z8).1⟩
theorem XO3.two {ap : Addr → Prop} {H : Hp} {h : Heap} {e : Addr} {cls : Value} {od : Option Addr} (x : XO3 ap H h e cls od) : XO2 ap H h e cls od := by
  obtain ⟨x2, x3, oe, vs, T, oT, ts, x4, x5, xd, x6, x7, x9, z1, z3, z4, z5, z6, z7, z8⟩ := x
  exact ⟨x2, x3, oe, vs, x4, x5, xd, x6, x7, x9, .inr ⟨T, oT, ts, z1, z3, z4, z5, z6, z7, z8⟩⟩
theorem XO2.weak {ap ap' : Addr → Prop} {H : Hp} {h : Heap} {e : Addr} {cls : Value} {od : Option Addr} (x : XO2 ap H h e cls od) (ha : ∀ b, ap b → ap' b) : XO2 ap' H h e cls od := by
  obtain ⟨x2, x3, oe, vs, x4, x5, xd, x6, x7, x9, x8⟩ := x
  refine ⟨x2, ha e x3, oe, vs, x4, x5, xd, x6, x7, x9, ?_⟩
  rcases x8 with z | ⟨T, oT, ts, z1, z3, z4, z5, z6⟩
  · exact .inl z
  · exact .inr ⟨T, oT, ts, z1, z3, z4, ha T z5, z6⟩
/-- the records keep but for the error's own, and the frames' slots -/
noncomputable def Kpd (ap : Addr → Prop) (H : Hp) (fs : List Addr) (h h' : Heap) : Prop :=
  (∀ b o, ¬ (H b = none ∧ ap b ∧ ∃ vs, o.data = .fields vs) → b ∉ fs → h.get? b = some o → h'.get? b = some o) ∧
  (∀ b o, b ∈ fs → (¬ ∃ vs, o.data = .fields vs) → h.get? b = some o → ∃ sl, h'.get? b = some { o with slots := sl }) ∧ (∀ b o, h.get? b = some o → ∃ o', h'.get? b = some o')
theorem Kpd.trans {ap : Addr → Prop} {H : Hp} {fs : List Addr} {h h' h'' : Heap} (a : Kpd ap H fs h h') (b : Kpd ap H fs h' h'') : Kpd ap H fs h h'' := by
  refine ⟨fun c o n hc e => b.1 c o n hc (a.1 c o n hc e), fun c o hc n e => ?_, fun c o e => ?_⟩
  · obtain ⟨sl, e1⟩ := a.2.1 c o hc n e
    obtain ⟨sl', e2⟩ := b.2.1 c { o with slots := sl } hc n e1
    exact ⟨sl', e2⟩
  · obtain ⟨o', e1⟩ := a.2.2 c o e
    exact b.2.2 c o' e1
theorem Kpd.refl {ap : Addr → Prop} {H : Hp} {fs : List Addr} {h : Heap} : Kpd ap H fs h h := ⟨fun _ _ _ _ e => e, fun b o _ _ e => ⟨o.slots, e⟩, fun b o e => ⟨o, e⟩⟩
section
variable {M : Model} {A : Around} {E : Value → Shared → Prop} {s : Shared}
theorem entry_N {base : Heap} {env : Env} {outer : List Env} {L e : Addr} {oe : Obj} {vs : Array Value} {head : Value} {hadNext : Bool} {Q : Unit → Shared → Prop}
    (hfr : A.frames = some (env :: outer)) (hl : s.heap.FunFrames base (env :: outer)) (hf : env.frame = some L) (he : s.heap.get? e = some oe) (hd : oe.data = .fields vs) (hsz : 1 < vs.size)
    (h : ∀ h' T oT ts, (∀ b o, b ≠ e → b ∉ frs (env :: outer) → s.heap.get? b = some o → h'.get? b = some o) → (∀ b o, b ≠ e → s.heap.get? b = some o → ∃ sl, h'.get? b = some { o with slots := sl }) →
      h'.get? e = some (oe.mapFields (·.setIfInBounds 1 (.ref T))) → s.heap.objs.size ≤ T → h'.get? T = some oT → oT.data = .fields ts → 3 < ts.size → Q () { s with heap := h' }) :
    wpAny M A (do let a ← frameOf env; let pl ← entryPlaceOf L hadNext; let b ← EntryCells.newEntry head a .none (rawInt L) .none pl; setField (.ref e) 1 b) Q E s := by
  have hene : e ∉ (env :: outer).filterMap (·.frame) := fun hm => by
    obtain ⟨_, o, ho, hnf⟩ := hl.mem hm
    rw [he] at ho; injection ho with ho; subst ho; exact hnf vs hd
  refine wpAny_bind (wpAny_frameOf_fun hfr hl hf fun h1 hs1 => ?_)
  refine wpAny_bind (wpAny_entryPlaceOf fun pl hpl => ?_)
  unfold EntryCells.newEntry newFields
  refine wpAny_bind (wpAny_newObj_type ?_ (hpl.sizeOk5 _ _ _ _ _))
  generalize hob : ({ cls := .type "traceback", dict := none, data := .fields ([head, .ref L, .none, rawInt L, .none] ++ (if pl.isEmpty then List.replicate 6 Value.none else pl)).toArray } : Obj) = ob
  have hobd : ob.data = .fields ([head, .ref L, .none, rawInt L, .none] ++ (if pl.isEmpty then List.replicate 6 Value.none else pl)).toArray := by rw [← hob]
  have hobf : ob.isFreed = false := Obj.isFreed_of_fields hobd
  have he1 : h1.get? e = some oe := (hs1.2.1 e hene).trans he
  have he2 := Heap.get?_push_of_some (h := h1) ob he1
  refine wpAny_setField he2 hd hsz ?_
  have hTe : h1.objs.size ≠ e := Nat.ne_of_gt (Heap.lt_size he1)
  have hd3 := Obj.data_mapFields hd (·.setIfInBounds 1 (Value.ref h1.objs.size))
  have he3 := Heap.get?_update_self (Obj.mapFields (·.setIfInBounds 1 (Value.ref h1.objs.size))) he2 (Obj.isFreed_of_fields hd3)
  have hT3 := (Heap.get?_update_other (h1.push ob) (Obj.mapFields (·.setIfInBounds 1 (Value.ref h1.objs.size))) (Ne.symm hTe)).trans (Heap.get?_push_size h1 hobf)
  have h3sz : 3 < ([head, .ref L, .none, rawInt L, .none] ++ (if pl.isEmpty then List.replicate 6 Value.none else pl)).toArray.size := by
    simp only [List.size_toArray, List.length_append, List.length_cons, List.length_nil]; omega
  have keep : ∀ b o, b ≠ e → h1.get? b = some o → (((h1.push ob).update e (Obj.mapFields (·.setIfInBounds 1 (Value.ref h1.objs.size)))).get? b = some o) := fun b o hbe hb => by
    rw [Heap.get?_update_other _ _ (Ne.symm hbe)]
    exact Heap.get?_push_of_some _ hb
  refine h _ h1.objs.size _ _ (fun b o hbe hbf hb => keep b o hbe ((hs1.2.1 b hbf).trans hb)) (fun b o hbe hb => ?_) he3 (Nat.le_of_eq hs1.1.symm) hT3 hobd h3sz
  obtain ⟨sl, q⟩ := hs1.2.2 b o hb
  exact ⟨sl, keep b _ hbe q⟩
/-- an error is noted at a frame -/
theorem note_X {base : Heap} {env : Env} {outer : List Env} {L e : Addr} {cls : Value} {od : Option Addr} {ap : Addr → Prop} {H : Hp} {Q : Unit → Shared → Prop}
    (hfr : A.frames = some (env :: outer)) (hl : s.heap.FunFrames base (env :: outer)) (hf : env.frame = some L) (x : XO2 ap H s.heap e cls od) (hfresh : ∀ b, s.heap.objs.size ≤ b → H b = none ∧ ap b)
    (h : ∀ h', Kpd ap H (frs (env :: outer)) s.heap h' → XO3 ap H h' e cls od → Q () { s with heap := h' }) :
    wpAny M A (noteFrame (.ref e) env) Q E s := by
  obtain ⟨x2, x3, oe, vs, x4, x5, xd, x6, x7, x9, x8⟩ := x
  have frne : ∀ b o vs, s.heap.get? b = some o → o.data = .fields vs → b ∉ frs (env :: outer) := fun b o vs ho hd hb => by
    obtain ⟨_, o', ho', hnf⟩ := hl.mem hb
    rw [ho] at ho'; cases ho'; exact hnf vs hd
  unfold noteFrame
  simp only [hf]
  rcases x8 with z | ⟨T, oT, ts, z1, z3, z4, z5, z6, z7, z8⟩
  · refine wpAny_bind (wpAny_field x4 x6 z ?_)
    rw [if_neg (by decide)]
    refine entry_N hfr hl hf x4 x6 x7 fun h' T oT ts k1 k2 k3 k4 k5 k6 k7 => h h' ⟨fun b o n hb e => ?_, fun b o hb _ e => k2 b o (fun q => frne _ _ _ x4 x6 (q ▸ hb)) e, fun b o q => ?_⟩ ?_
    · refine k1 b o (fun q => n ?_) hb e
      subst q
      rw [x4] at e; cases e
      exact ⟨x2, x3, vs, x6⟩
    · by_cases hb : b = e
      · subst hb; exact ⟨_, k3⟩
      · obtain ⟨sl, q'⟩ := k2 b o hb q; exact ⟨_, q'⟩
    · exact ⟨x2, x3, _, _, T, oT, ts, k3, (Obj.cls_mapFields _ _).trans x5, (dict_mf _ _).trans xd, Obj.data_mapFields x6 _, by simpa using x7, by rw [Array.getElem?_setIfInBounds_ne (by decide)]; exact x9, by simp [x7], Nat.ne_of_gt (Nat.lt_of_lt_of_le (Heap.lt_size x4) k4), (hfresh T k4).1, (hfresh T k4).2, k5, k6, k7⟩
  · refine wpAny_bind (wpAny_field x4 x6 z1 ?_)
    rw [if_pos (show (Value.ref T != Value.none) = true from by simp)]
    refine wpAny_bind (wpAny_field z6 z7 (Array.getElem?_eq_getElem z8) ?_)
    by_cases hy : (ts[3] == rawInt L) = true
    · rw [if_pos hy]
      exact wpAny_pure (h s.heap .refl ⟨x2, x3, oe, vs, T, oT, ts, x4, x5, xd, x6, x7, x9, z1, z3, z4, z5, z6, z7, z8⟩)
    rw [if_neg hy]
    refine wpAny_bind (wpAny_setField z6 z7 z8 ?_)
    have other : ∀ b, b ≠ T → (s.heap.update T (Obj.mapFields (·.setIfInBounds 3 Value.none))).get? b = s.heap.get? b := fun b hb => Heap.get?_update_other _ _ (Ne.symm hb)
    have hTs := Heap.get?_update_self (Obj.mapFields (·.setIfInBounds 3 Value.none)) z6 (Obj.isFreed_of_fields (Obj.data_mapFields z7 _))
    have hTd := Obj.data_mapFields z7 (·.setIfInBounds 3 Value.none)
    have hsz : (s.heap.update T (Obj.mapFields (·.setIfInBounds 3 Value.none))).objs.size = s.heap.objs.size := Heap.size_after_update ..
    refine entry_N (s := { s with heap := s.heap.update T (Obj.mapFields (·.setIfInBounds 3 Value.none)) }) hfr (hl.of_keeps fun b o hb hnf => ⟨o, (other b fun q => hnf ts (by rw [q, z6] at hb; cases hb; exact z7)).trans hb, rfl⟩) hf ((other e (Ne.symm z3)).trans x4) x6 x7
      fun h' T' oT' ts' k1 k2 k3 k4 k5 k6 k7 => h h' ⟨fun b o n hb e => ?_, fun b o hb nf q => ?_, fun b o q => ?_⟩ ?_
    · have hbT : b ≠ T := fun q => n (by subst q; rw [z6] at e; cases e; exact ⟨z4, z5, ts, z7⟩)
      refine k1 b o (fun q => n ?_) hb ((other b hbT).trans e)
      subst q
      rw [x4] at e; cases e
      exact ⟨x2, x3, vs, x6⟩
    · have hbT : b ≠ T := fun q' => frne _ _ _ z6 z7 (q' ▸ hb)
      exact k2 b o (fun q' => frne _ _ _ x4 x6 (q' ▸ hb)) ((other b hbT).trans q)
    · by_cases hb : b = e
      · subst hb; exact ⟨_, k3⟩
      · by_cases hbT : b = T
        · subst hbT
          obtain ⟨sl, q'⟩ := k2 b _ hb hTs; exact ⟨_, q'⟩
        · obtain ⟨sl, q'⟩ := k2 b o hb ((other b hbT).trans q); exact ⟨_, q'⟩
    · have k4' : s.heap.objs.size ≤ T' := by rw [← hsz]; exact k4
      exact ⟨x2, x3, _, _, T', oT', ts', k3, (Obj.cls_mapFields _ _).trans x5, (dict_mf _ _).trans xd, Obj.data_mapFields x6 _, by simpa using x7, by rw [Array.getElem?_setIfInBounds_ne (by decide)]; exact x9, by simp [x7], Nat.ne_of_gt (Nat.lt_of_lt_of_le (Heap.lt_size x4) k4'), (hfresh T' k4').1, (hfresh T' k4').2, k5, k6, k7⟩
/-- the flight is marked anew -/
theorem fly_X {e : Addr} {cls : Value} {od : Option Addr} {ap : Addr → Prop} {H : Hp} {fs : List Addr} {fo : Option Addr} {Q : Unit → Shared → Prop} (x : XO3 ap H s.heap e cls od) (hfs : ∀ b ∈ fs, ∀ o vs, s.heap.get? b = some o → o.data ≠ .fields vs)
    (h : ∀ h', Kpd ap H fs s.heap h' → XO3 ap H h' e cls od → (fo = none → XObj ap H h' e cls od) → Q () { s with heap := h' }) : wpAny M A (setFlight (.ref e) fo) Q E s := by
  obtain ⟨x2, x3, oe, vs, T, oT, ts, x4, x5, xd, x6, x7, x9, z1, z3, z4, z5, z6, z7, h3⟩ := x
  unfold setFlight
  refine wpAny_bind (wpAny_field x4 x6 z1 ?_)
  rw [if_pos (show (Value.ref T != Value.none) = true from by simp)]
  refine wpAny_setField z6 z7 h3 ?_
  have other : ∀ b, b ≠ T → (s.heap.update T (Obj.mapFields (·.setIfInBounds 3 (fo.elim Value.none fun f => rawInt f)))).get? b = s.heap.get? b := fun b hb => Heap.get?_update_other _ _ (Ne.symm hb)
  have hTs := Heap.get?_update_self (Obj.mapFields (·.setIfInBounds 3 (fo.elim Value.none fun f => rawInt f))) z6 (Obj.isFreed_of_fields (Obj.data_mapFields z7 _))
  refine h _ ⟨fun b o n hb q => (other b fun y => n ?_).trans q, fun b o hb nf q => ⟨o.slots, (other b fun y => ?_).trans q⟩, fun b o q => ?_⟩ ?_ fun hn => ?_
  · subst y; rw [z6] at q; cases q; exact ⟨z4, z5, ts, z7⟩
  · subst y; exact hfs _ hb oT ts z6 z7
  · by_cases hb : b = T
    · subst hb; exact ⟨_, hTs⟩
    · exact ⟨o, (other b hb).trans q⟩
  · exact ⟨x2, x3, oe, vs, T, _, _, (other e (Ne.symm z3)).trans x4, x5, xd, x6, x7, x9, z1, z3, z4, z5, hTs, Obj.data_mapFields z7 _, by simpa using h3⟩
  · subst hn
    exact ⟨x2, x3, oe, vs, (other e (Ne.symm z3)).trans x4, x5, xd, x6, x7, x9, .inr ⟨T, _, _, z1, z3, z4, z5, hTs, Obj.data_mapFields z7 _, by rw [Array.getElem?_setIfInBounds_self_of_lt h3]; rfl⟩⟩
end

section
variable {X : Cx} {pins : List (Addr × Obj)} {σ : St} {H H' : Hp} {s s' : Shared} {h' : Heap} {e : Addr} {cls : Value} {od : Option Addr}
noncomputable def Rs2 (X : Cx) (E : XK) : Prop := ∀ (pins : List (Addr × Obj)) (σ : St) (H : Hp) (s : Shared) (e : Addr) (cls : Value) (od : Option Addr), Inv X pins σ H s → XO2 (apart X pins) H s.heap e cls od → E cls od H → X.xe (.ref e) s
theorem noF {base : Heap} {h : Heap} {l : List Env} (hl : h.FunFrames base l) : ∀ b ∈ frs l, ∀ o vs, h.get? b = some o → o.data ≠ .fields vs := fun b hb o vs ho hd => by
  obtain ⟨_, o', ho', hnf⟩ := hl.mem hb
  rw [ho] at ho'; cases ho'; exact hnf vs hd
theorem Kpd.noF {ap : Addr → Prop} {fs : List Addr} {h h' : Heap} (k : Kpd ap H fs h h') (n : ∀ b ∈ fs, ∀ o vs, h.get? b = some o → o.data ≠ .fields vs) (there : ∀ b ∈ fs, ∃ o, h.get? b = some o) : ∀ b ∈ fs, ∀ o vs, h'.get? b = some o → o.data ≠ .fields vs := fun b hb o vs ho hd => by
  obtain ⟨o', e'⟩ := there b hb
  obtain ⟨sl, e2⟩ := k.2.1 b o' hb (fun ⟨vs, z⟩ => n b hb o' vs e' z) e'
  rw [ho] at e2
  cases e2
  exact n b hb o' vs e' hd
theorem thereF {base : Heap} {h : Heap} {l : List Env} (hl : h.FunFrames base l) : ∀ b ∈ frs l, ∃ o, h.get? b = some o := fun b hb => by
  obtain ⟨_, o', ho', _⟩ := hl.mem hb
  exact ⟨o', ho'⟩
theorem rs2_fn {P : Program} {w : World} {K : PySem.W.Frag} {mg : Str → Option Value} {base : Heap} {N : List Str} {qual : Str} {scope : Scope} {f : Addr} {cd : Value} {A : Around} {outer : List Env} {s0 : Shared} {H0 : Hp} {E : XK} :
    Rs2 (cxOf (CX1 P w) P w K mg base N qual scope f cd A outer s0 H0 E) E := by
  intro pins σ H s e cls od I x q
  show wpAny _ _ (leaving _ (.ref e)) _ _ s
  unfold leaving
  refine wpAny_bind (note_X (L := s0.heap.objs.size) I.ok.frames I.stack rfl x I.young fun h1 k1 x1 => ?_)
  refine fly_X (fs := frs (cxOf (CX1 P w) P w K mg base N qual scope f cd A outer s0 H0 E).stack) x1 (k1.noF (noF I.stack) (thereF I.stack)) fun h' k2 _ x' => ?_
  have kk := k1.trans k2
  have x' := x' rfl
  refine ⟨e, cls, od, H, rfl, I.os, I.bare, ⟨fun b o e1 n hb hx => ?_, fun b o e1 n hb hx => ?_, I.base.free, fun b o e1 hx => ?_, I.base.tups, I.base.frzs, I.base.tbls⟩, HOk.passed I kk.1, x'.weak fun b hb => hb.1, q⟩
  · refine kk.1 b o (fun z => by have q0 := z.2.1.1; exact absurd (q0.symm.trans (show s0.heap.get? b = some o from e1)) (by simp)) (fun z => ?_) (I.base.keep b o e1 n hb hx)
    rcases List.mem_cons.mp (I.stkSub b z) with y | y
    · exact absurd (Nat.lt_of_lt_of_le (Heap.lt_size e1) (by rw [y]; exact I.ok.above)) (Nat.lt_irrefl _)
    · exact hb y
  · obtain ⟨sl, e2⟩ := I.base.slot b o e1 n hb hx
    obtain ⟨sl', e3⟩ := kk.2.1 b _ (List.mem_cons_of_mem _ hb) (fun ⟨vs, z⟩ => noF I.stack b (List.mem_cons_of_mem _ hb) _ vs e2 z) e2
    exact ⟨sl', e3⟩
  · obtain ⟨o', e2⟩ := I.base.there b o e1 hx
    exact kk.2.2 b o' e2
theorem Inv.passK (I : Inv X pins σ H s) (hfr : X.stack = X.env :: X.outer ∧ X.env.frame = some X.env.locals) (k : Kpd (apart X pins) H (frs X.stack) s.heap h') {t' : Nat} : Inv X pins σ H { s with heap := h', toks := t' } :=
  I.passed hfr k.1 (fun b o hb e => k.2.1 b o hb (fun ⟨vs, z⟩ => noF I.stack b hb o vs e z) e) k.2.2
theorem Inv.setxe (I : Inv X pins σ H s) (xe : Value → Shared → Prop) : Inv { X with xe := xe } pins σ H s :=
  ⟨⟨I.ok.mod, I.ok.kind, I.ok.glob, I.ok.blt, I.ok.above, I.ok.inj, I.ok.has, I.ok.cab, I.ok.hd, I.ok.frames, I.ok.stk, I.ok.exf, I.ok.bs, I.ok.bsz, I.ok.noex, I.ok.exfs, I.ok.funs, I.ok.frf⟩, I.os, I.bare, I.base, I.loc, I.cell, I.free, I.freeC, I.pin, I.hok, I.len⟩
/-- .. what lies in a block that an error leaves -/
noncomputable def apartB (X : Cx) (pins : List (Addr × Obj)) (b : Addr) : Prop := (X.s₀.heap.get? b = none ∨ b ∈ X.ex) ∧ ∀ p ∈ X.pn ++ pins, p.1 ≠ b
noncomputable def RsB (X : Cx) (E : XK) : Prop := ∀ (pins : List (Addr × Obj)) (σ : St) (H : Hp) (s : Shared) (e : Addr) (cls : Value) (od : Option Addr), Inv X pins σ H s → XO2 (apartB X pins) H s.heap e cls od → E cls od H → X.xe (.ref e) s
theorem rs_callB {E : XK} {v : Value} (R : RsB X E) (I : Inv X pins σ H s) (h : CX1 X.prog X.w X.stack H s E v s') : X.xe v s' := by
  obtain ⟨a, cls, od, H', rfl, os, bare, un, hok, x, q⟩ := h
  have I' : Inv X pins σ H' s' := I.call' (ch := []) os un hok bare (fun b z => absurd z (by simp))
  refine R pins σ H' s' a cls od I' (x.two.weak fun b hb => ⟨?_, fun p hp z => ?_⟩) q
  · cases g : X.s₀.heap.get? b with
    | none => exact .inl rfl
    | some o =>
      by_cases hx : b ∈ X.ex
      · exact .inr hx
      · obtain ⟨o', e⟩ := I.base.there b o g hx
        rw [hb] at e; cases e
  · have e := (I.pin p hp).1
    rw [z, hb] at e; cases e
end
section
variable {X : Cx} {k : Nat} {f C : Addr} {fd : FuncData} {ps : List Str} {sp : Sp} {E : XK} {x m : Str} {p pos apos : Pos} {e o : Expr} {es : List Expr} {ta : TE} {t : TA}
theorem run_fnB {dvs : List V} {ds : List Value} {pins : List (Addr × Obj)} {σ : St} {H : Hp} {s : Shared} {Q : VK} {us : List Value} {vs : List V} (F : FnOk X.prog X.w X.K X.mg X.base (CX1 X.prog X.w) k f fd ps sp) (hr : Room k X.A) (hb : Binds X.K fd ps ds) (hd : Vals dvs ds) (hx : RsB X E)
    (I : Inv X pins σ H s) (r : Vals vs us) (h : sp (vs ++ dvs) H Q E) : wpAny (model X.prog X.w) X.A (call (.ref f) us) (EP X pins σ Q) X.xe s := by
  have r2 : Vals (vs ++ dvs) (us ++ ds) := r.append hd
  have hl : (us ++ ds).length = ps.length := by rw [← r2.length]; exact F.len _ _ _ _ h
  refine wpAny_call (codeAny_mono (F.run X.A X.stack s H ⟨us, []⟩ (us ++ ds) (vs ++ dvs) Q _ hr I.env0 (hb s us I.kIn hl) r2 h) fun r s' hq => ?_)
  cases r with
  | error v => exact rs_callB hx I hq
  | ok fl =>
    cases fl with
    | ret u => exact I.after hq
    | next => exact False.elim hq
    | brk => exact False.elim hq
    | cont => exact False.elim hq
noncomputable def tCallB (sp : Sp) (E : XK) (t : TA) : TE := fun σ H Q => t σ H fun vs H1 => sp (vs ++ []) H1 Q E
/-- a call within a comprehension, of a def that may raise -/
theorem pe_calB (C : Cal X.prog X.w X.K X.mg X.base (CX1 X.prog X.w) k x ps sp) (hr : Room k X.A) (R : RsB X E) (ha : PA X (e :: es) t) (hg : Gl X x := by rfl) (hdb : (x == ("__debug__" : Str)) = false := by decide)
    (he : starEach (e :: es) X.env = (false, eval e X.env) :: starEach es X.env := by rfl) (hpl : (backTo pos (starEach es X.env)).any (·.1) = false := by rfl) :
    PE X (.Call (.Name x p) (e :: es) [] pos) (tCallB sp E t) := by
  obtain ⟨f, fd, F, hm, kp, hb⟩ := C.ex
  intro pins s σ H Q I h
  refine wpAny_Call_Name_kw (ld_glob I hg hm ?_ hdb)
  refine PySem.W.callWith_K (h₀ := X.base) I.ok.mod.kin kp (thn (ha pos pins s σ H _ I h) fun us s1 ⟨vs, H1, I1, r, q⟩ => ⟨I1.kIn, ?_⟩) he hpl
  exact run_fnB (dvs := []) (ds := []) F hr hb .nil R I1 r q
end

theorem compLoop_anyX {prog : Program} {w : World} {A : Around} {R : Result → Shared → Prop} {s : Shared} {elt target iter : Expr} {ifs : List Expr} {scope : Scope} {pos : Pos} {it acc : Value} {env : Env} (I : Nat → Shared → Prop)
    (turn : ∀ n s, I n s → wpAny (model prog w) A (pyNext it) (fun r s₁ => match r with
      | none => R (.ok .next) s₁
      | some v => wpAny (model prog w) A (letOwnedTupleGo target it v) (fun _ s₁' => wpAny (model prog w) A (assign target env v) (fun _ s₂ =>
          wpAny (model prog w) A (forIn ifs true fun c r => if r = true then do let ok ← isTrue c env (eval c env); pure (ForInStep.yield ok) else pure (ForInStep.yield r)) (fun ok s₃ =>
            if ok = true then wpAny (model prog w) A (eval elt env) (fun x s₄ =>
              wpAny (model prog w) A (call (.builtin "list.append") [acc, x]) (fun _ s₅ => ∃ m, m < n ∧ I m s₅) (notedBy (model prog w) A env fun x s' => R (.error x) s') s₄) (notedBy (model prog w) A env fun x s' => R (.error x) s') s₃
            else ∃ m, m < n ∧ I m s₃) (notedBy (model prog w) A env fun x s' => R (.error x) s') s₂) (notedBy (model prog w) A env fun x s' => R (.error x) s') s₁') (notedBy (model prog w) A env fun x s' => R (.error x) s') s₁) (notedBy (model prog w) A env fun x s' => R (.error x) s') s)
    (n : Nat) (h : I n s) :
    codeAny (model prog w) A (.compLoop (.ListComp elt [⟨target, iter, ifs, 0⟩] scope pos) 0 it acc env) R s := by
  refine codeAny_loop rfl I (fun n s hI => ?_) n h
  show wpAny _ A ((compTurn (.ListComp elt [⟨target, iter, ifs, 0⟩] scope pos) 0 it acc env).onRaise (fun x => do noteFrame x env; theTreesLotGoes x)) _ _ s
  refine wpAny_noted ?_
  rw [compTurn_list]
  refine wpAny_bind (wpAny_standAt (wpAny_bind (wpAny_mono (turn n s hI) (fun r s₁ h₁ => ?_) fun _ _ h' => h')))
  cases r with
  | none => exact wpAny_pure h₁
  | some v =>
    refine wpAny_bind (wpAny_mono h₁ (fun _ s₁' h₁' => ?_) fun _ _ h' => h')
    refine wpAny_bind (wpAny_mono h₁' (fun _ s₂ h₂ => wpAny_bind (wpAny_mono h₂ (fun ok s₃ h₃ => ?_) fun _ _ h' => h')) fun _ _ h' => h')
    cases ok with
    | false => exact wpAny_pure ⟨rfl, h₃⟩
    | true =>
      exact wpAny_bind (wpAny_bind (wpAny_mono h₃ (fun x s₄ h₄ => wpAny_bind (wpAny_mono h₄ (fun _ s₅ h₅ => wpAny_pure (wpAny_pure ⟨rfl, h₅⟩)) fun _ _ h' => h')) fun _ _ h' => h'))


noncomputable def xeC (X : Cx) (sc : Scope) (C : Addr) (R : Value → Shared → Prop) : Value → Shared → Prop := notedBy (model X.prog X.w) X.A (compEnvC sc (closOf sc.names X.env.cells []) C X.env) R
noncomputable def blkE (X : Cx) (N' : List Str) (x : Str) (sc : Scope) (C : Addr) (s2 : Shared) (H2 : Hp) (fp : List Addr) (xe : Value → Shared → Prop) : Cx := { blk X N' x sc C s2 H2 fp with xe := xe }
section
variable {X : Cx} {pins : List (Addr × Obj)} {σ : St} {x : Str} {sc : Scope} {N' : List Str}
theorem blk_startE {H2 : Hp} {s2 : Shared} {C : Addr} {fp : List Addr} {h4 : Heap} {t4 : Nat} (xe : Value → Shared → Prop) (I : Inv X pins σ H2 s2) (S : CScope X.N N' x sc X.env.scope) (hf : ∀ b ∈ fp, FpOk X pins H2 b) (hfo : ∀ b ∈ fp, ∃ o, s2.heap.get? b = some o ∧ ∀ v, o.data ≠ .cell v)
    (hC : s2.heap.objs.size ≤ C) (hn : h4.Ns C fun _ => none) (hk : ∀ b o, s2.heap.get? b = some o → h4.get? b = some o) {q : List (Addr × Obj)} (hq : ∀ p ∈ q, h4.get? p.1 = some p.2 ∧ H2 p.1 = none ∧ p.1 ≠ C ∧ p.1 ∉ frs X.stack ∧ ∀ v, p.2.data ≠ .cell v) :
    Inv (blkE X N' x sc C s2 H2 fp xe) q (none :: σ) H2 { s2 with heap := h4, toks := t4 } := (blk_start I S hf hfo hC hn hk hq).setxe xe
theorem comp_coreX {s2 : Shared} {H2 : Hp} {elt iter : Expr} {ifs : List Expr} {px pos : Pos} {tt : TT} {te : TE} {Q : VK} {RR : Value → Addr → Result → Shared → Prop} {E : Value → Shared → Prop} {EX : XK}
    (hc : X.calm = true) (hN : X.N.Nodup) (S : CScope X.N N' x sc X.env.scope)
    (ht : ∀ C s2 H2 fp xe, PIfs (blkE X N' x sc C s2 H2 fp xe) ifs tt) (he : ∀ C s2 H2 fp xe, RsB (blkE X N' x sc C s2 H2 fp xe) EX → PE (blkE X N' x sc C s2 H2 fp xe) elt te)
    (I2 : Inv X pins σ H2 s2) {it : Addr} {fp : List Addr} {tn : Nat → Heap → Prop} {J : It} (T : Turn X.prog X.w X.K (.Name x px) J fp it tn) (st2 : tn 0 s2.heap) (f2 : ∀ b ∈ fp, FpOk X pins H2 b)
    (W : Nat → Nat → List V → Hp → Prop) (w0 : ∃ m, W 0 m [] H2)
    (turn : CompW J tt te σ Q W)
    (hXE : ∀ D C, s2.heap.objs.size ≤ C → RsB (blkE X N' x sc C s2 H2 fp (xeC X sc C fun v s' => RR (.ref D) C (.error v) s')) EX)
    (hRR : ∀ D C s' H', Inv X pins σ H' s' → FpOk X pins H' C → (∃ m, s'.heap.Ns C m) → Q (.ref D) H' → RR (.ref D) C (.ok .next) s') :
    wpAny (model X.prog X.w) X.A (newList []) (fun acc s₃ => wpAny (model X.prog X.w) X.A (newFunctionEnv sc X.env.globals (closOf sc.names X.env.cells []) [] X.env.qual none .none (some X.env)) (fun cenv s₄ =>
      codeAny (model X.prog X.w) X.A (.compStart (.ListComp elt [⟨.Name x px, iter, ifs, 0⟩] sc pos) 0 (.ref it) acc { cenv with scope := relabel sc X.env }) (RR acc cenv.locals) s₄) E s₃) E s2 := by
  have hfo := T.obj _ _ st2
  refine wpAny_newObj_type (wpAny_newFunctionEnv S.nocell (by intro y hy; simp at hy) (fun h₁ hns₁ hsb₁ => ?_) S.kind)
  dsimp only at hns₁ hsb₁ ⊢
  generalize hHP : s2.heap.push { cls := .type "list", dict := none, data := .seq ([] : List Value).toArray } = HP at hns₁ hsb₁ ⊢
  have hC : HP.objs.size = s2.heap.objs.size + 1 := by rw [← hHP, Heap.size_push]
  have hDC : s2.heap.objs.size ≠ HP.objs.size := by rw [hC]; exact Nat.ne_of_lt (Nat.lt_succ_self _)
  have hCle : s2.heap.objs.size ≤ HP.objs.size := by rw [hC]; exact Nat.le_succ _
  have below : ∀ b, b < s2.heap.objs.size → b ≠ HP.objs.size ∧ b ≠ s2.heap.objs.size := fun b hb => ⟨by rw [hC]; exact Nat.ne_of_lt (Nat.lt_succ_of_lt hb), Nat.ne_of_lt hb⟩
  have old : ∀ b o, s2.heap.get? b = some o → h₁.get? b = some o := fun b o e => hsb₁.extBut b o (below b (Heap.lt_size e)).1 (Heap.get?_push_of_some _ (hHP ▸ Heap.get?_push_of_some _ e))
  have hacc : h₁.get? s2.heap.objs.size = some { cls := .type "list", dict := none, data := .seq ([] : List Value).toArray } := hsb₁.extBut _ _ hDC (Heap.get?_push_of_some _ (hHP ▸ Heap.get?_push_size _ rfl))
  have hDn : H2 s2.heap.objs.size = none := I2.hok.fresh (Nat.le_refl _)
  have hDfr : s2.heap.objs.size ∉ frs X.stack := fun hb => by
    obtain ⟨_, o, ho, _⟩ := I2.stack.mem hb
    exact absurd (Heap.lt_size ho) (Nat.lt_irrefl _)
  have hDfp : s2.heap.objs.size ∉ fp := fun hb => by
    obtain ⟨o, ho, _⟩ := hfo _ hb
    exact absurd (Heap.lt_size ho) (Nat.lt_irrefl _)
  have hCfp : HP.objs.size ∉ fp := fun hb => by
    obtain ⟨o, ho, _⟩ := hfo _ hb
    exact absurd (Nat.lt_of_lt_of_le (Heap.lt_size ho) hCle) (Nat.lt_irrefl _)
  obtain ⟨m0, w0⟩ := w0
  -- the iterator's own objects, within the block
  have stat : ∀ {H' : Hp} {o : Obj}, (∀ b ∈ fp, H' b = none) → ∀ b ∈ fp, FpOk (blkE X N' x sc HP.objs.size s2 H2 fp (xeC X sc HP.objs.size fun v s' => RR (.ref s2.heap.objs.size) HP.objs.size (.error v) s')) [(s2.heap.objs.size, o)] H' b := fun {H' o} hn b hb => by
    obtain ⟨f0, f1, f2', f3, f4, f5⟩ := f2 b hb
    refine ⟨hn b hb, fun e => hCfp (by rw [← show b = HP.objs.size from e]; exact hb), fun z => ?_, .inl hb, fun y c e => f4 y c (blk_cells S e).1, fun p hp => ?_⟩
    · rcases List.mem_cons.mp (I2.stkSub b z) with e | z
      · exact f1 e
      · exact f2' z
    · have : p = (s2.heap.objs.size, o) := by simpa [blkE, blk] using hp
      subst this
      rintro rfl
      exact hDfp hb
  -- the invariant
  let Iv : Nat → Shared → Prop := fun n s' => ∃ i ys its k σx H', Inv (blkE X N' x sc HP.objs.size s2 H2 fp (xeC X sc HP.objs.size fun v s' => RR (.ref s2.heap.objs.size) HP.objs.size (.error v) s')) [(s2.heap.objs.size, { cls := .type "list", data := .seq (List.toArray its) k })] (σx :: σ) H' s' ∧
    Vals ys its ∧ tn i s'.heap ∧ (∀ b ∈ fp, H' b = none) ∧ W i n ys H'
  have I4 : Inv (blkE X N' x sc HP.objs.size s2 H2 fp (xeC X sc HP.objs.size fun v s' => RR (.ref s2.heap.objs.size) HP.objs.size (.error v) s')) [(s2.heap.objs.size, { cls := .type "list", data := .seq (List.toArray []) 0 })] (none :: σ) H2 { s2 with heap := h₁, toks := s2.toks + ([] : List (Str × Value)).length } := by
    refine blk_startE _ I2 S f2 hfo hCle (by simpa using hns₁) old fun p hp => ?_
    have e : p = (s2.heap.objs.size, { cls := .type "list", data := .seq (List.toArray []) 0 }) := by simpa using hp
    subst e
    exact ⟨hacc, hDn, hDC, hDfr, fun v => by intro z; cases z⟩
  have loop : ∀ s₃ : Shared, s₃ = { s2 with heap := h₁, toks := s2.toks + ([] : List (Str × Value)).length } →
      codeAny (model X.prog X.w) X.A (.compLoop (.ListComp elt [⟨.Name x px, iter, ifs, 0⟩] sc pos) 0 (.ref it) (.ref s2.heap.objs.size) (compEnvC sc (closOf sc.names X.env.cells []) HP.objs.size X.env))
        (RR (.ref s2.heap.objs.size) HP.objs.size) s₃ := by
    rintro s₃ rfl
    refine compLoop_anyX Iv ?_ m0 ⟨0, [], [], 0, none, H2, I4, .nil, T.keep _ _ _ st2 fun b _ o e => old b o e, fun b hb => (f2 b hb).1, w0⟩
    rintro n s3 ⟨i, ys, its, k, σx, H3, I3, rv, st3, fr3, w3⟩
    have hy := rv.length
    rcases turn i n ys H3 w3 with ⟨stop, hz, q⟩ | ⟨go, hz, step⟩
    · refine thn (T.done (blkE X N' x sc HP.objs.size s2 H2 fp (xeC X sc HP.objs.size fun v s' => RR (.ref s2.heap.objs.size) HP.objs.size (.error v) s')) rfl rfl rfl hc i _ s3 _ H3 _ I3 (stat fr3) st3 stop) fun r s4 ⟨hr, I4⟩ => ?_
      subst hr
      -- the end: the list is tracked
      have pD := I4.pin (s2.heap.objs.size, { cls := .type "list", data := .seq (List.toArray its) k }) (by simp [blkE, blk])
      have new : ObjOk X.prog X.w (upd H3 s2.heap.objs.size (.lst ys)) s4.heap s2.heap.objs.size (.lst ys) := ⟨hz, its, k, rv, pD.1⟩
      have hok' := I4.hok.track (o := .lst ys) pD.2.1 new
      have un' : Un (frs X.stack) fp H2 (upd H3 s2.heap.objs.size (.lst ys)) s2.heap s4.heap := I4.base.track pD.2.1 (Heap.get?_none_of_le (Nat.le_refl _))
      have IX : Inv X pins σ (upd H3 s2.heap.objs.size (.lst ys)) s4 := I2.call' I4.os un' hok' I4.bare fun b hb => ⟨(f2 b hb).2.2.2.1, (f2 b hb).2.1, (f2 b hb).2.2.2.2.1, (f2 b hb).2.2.2.2.2⟩
      obtain ⟨m, hnm, _⟩ := I4.loc
      refine hRR _ _ s4 _ IX ?_ ⟨m, hnm⟩ (q _ pD.2.1)
      exact I2.fpOk hCle (by rw [upd_ne (Ne.symm hDC)]; exact I4.free)
    · refine thn (T.item (blkE X N' x sc HP.objs.size s2 H2 fp (xeC X sc HP.objs.size fun v s' => RR (.ref s2.heap.objs.size) HP.objs.size (.error v) s')) rfl rfl rfl hc i _ s3 _ H3 _ I3 (stat fr3) st3 go) fun r s4 ⟨u, hr, h4⟩ => ?_
      subst hr
      refine thn h4 fun _ s5 ⟨y, H5, I5, r5, y5, st5, fr5⟩ => ?_
      have I5' := I5.pinned (stat fr5) (T.obj _ _ st5)
      have stepq := step y H5 y5
      have I5'' : Inv (blkE X N' x sc HP.objs.size s2 H2 fp (xeC X sc HP.objs.size fun v s' => RR (.ref s2.heap.objs.size) HP.objs.size (.error v) s')) ([(s2.heap.objs.size, { cls := .type "list", data := .seq (List.toArray its) k })] ++ pinsAt fp s5.heap) (none :: σ) H5 s5 := I5'.weak rfl fun j v e => by
        cases j with
        | zero => simp at e
        | succ j => simpa using e
      have lx : (relabel sc X.env).names.lookup x = some .local := lookup_relabel_local S.has
      have hgx : PG (blkE X N' x sc HP.objs.size s2 H2 fp (xeC X sc HP.objs.size fun v s' => RR (.ref s2.heap.objs.size) HP.objs.size (.error v) s')) (.Name x px) (gName 0) := pg_name (i := 0) (List.nodup_cons.mpr ⟨S.nox, S.nd⟩) rfl (Or.inl lx) (Or.inr lx)
      refine thn (hgx _ s5 (none :: σ) H5 y u (fun σ6 H6 => σ6 = some y :: σ ∧ tt (some y :: σ) H6 fun b H3 => if b = true then te (some y :: σ) H3 fun y H4 => ∃ m', m' < n ∧ W (i + 1) m' (ys ++ [y]) H4 else ∃ m', m' < n ∧ W (i + 1) m' ys H3) I5'' r5 ⟨rfl, stepq⟩) fun _ s6 ⟨σ6, H6, I6, e6, q6⟩ => ?_
      subst e6
      refine thn (ht _ s2 H2 fp _ _ s6 _ H6 _ I6 q6) fun b s7 ⟨H7, I7, q7⟩ => ?_
      -- what stands behind the turn
      have pinof : ∀ {H8 : Hp} {s8 : Shared}, Inv (blkE X N' x sc HP.objs.size s2 H2 fp (xeC X sc HP.objs.size fun v s' => RR (.ref s2.heap.objs.size) HP.objs.size (.error v) s')) ([(s2.heap.objs.size, { cls := .type "list", data := .seq (List.toArray its) k })] ++ pinsAt fp s5.heap) (some y :: σ) H8 s8 →
          tn (i + 1) s8.heap ∧ (∀ b ∈ fp, H8 b = none) := fun {H8 s8} I8 => by
        refine ⟨T.keep _ _ _ st5 fun b hb o e => (I8.pin (b, o) (List.mem_append_right _ (List.mem_append_right _ (mem_pinsAt hb e)))).1, fun b hb => ?_⟩
        obtain ⟨o, e, d⟩ := T.obj _ _ st5 b hb
        exact (I8.pin (b, o) (List.mem_append_right _ (List.mem_append_right _ (mem_pinsAt hb e)))).2.1
      cases b with
      | false =>
        obtain ⟨m', hm, w7⟩ := q7
        obtain ⟨t7, f7⟩ := pinof I7
        exact ⟨m', hm, i + 1, ys, its, k, some y, H7, I7.unpinned, rv, t7, f7, w7⟩
      | true =>
        refine thn (he _ s2 H2 fp _ (hXE _ _ hCle) _ s7 _ H7 _ I7 q7) fun z s8 ⟨yv, H8, I8, r8, m', hm, w8⟩ => ?_
        obtain ⟨t8, f8⟩ := pinof I8
        have pD := I8.pin (s2.heap.objs.size, { cls := .type "list", data := .seq (List.toArray its) k }) (by simp [blkE, blk])
        refine call_meets F.slot_list_append ⟨_, pD.1, rfl⟩ F.entry_list_append (F.args_list_append_2 _ _) (PySem.list_append s2.heap.objs.size its.toArray k z (by rw [List.size_toArray]; omega)) ⟨pD.1, ?_⟩
        have e9 := PySem.IsL.update pD.1 (fun a => a.push z)
        rw [show its.toArray.push z = (its ++ [z]).toArray by simp] at e9
        obtain ⟨k', e9⟩ : ∃ k', (s8.heap.update s2.heap.objs.size (Obj.mapSeq fun a => a.push z)).get? s2.heap.objs.size = some { cls := .type "list", data := .seq (its ++ [z]).toArray k' } := ⟨_, e9⟩
        have other : ∀ b, b ≠ s2.heap.objs.size → (s8.heap.update s2.heap.objs.size (Obj.mapSeq fun a => a.push z)).get? b = s8.heap.get? b := fun b hb => Heap.get?_update_other _ _ (Ne.symm hb)
        have I8' : Inv (blkE X N' x sc HP.objs.size s2 H2 fp (xeC X sc HP.objs.size fun v s' => RR (.ref s2.heap.objs.size) HP.objs.size (.error v) s')) [] (some y :: σ) H8 s8 := I8.pins_of fun p hp => nomatch hp
        have I9 : Inv (blkE X N' x sc HP.objs.size s2 H2 fp (xeC X sc HP.objs.size fun v s' => RR (.ref s2.heap.objs.size) HP.objs.size (.error v) s')) [] (some y :: σ) H8 { s8 with heap := s8.heap.update s2.heap.objs.size (Obj.mapSeq fun a => a.push z) } := by
          refine I8'.turned (it := s2.heap.objs.size) (fun b o hb e => (other b hb).trans e) pD.2.1 hDC (.inr (Nat.le_refl _)) (fun y c e => ?_) fun p hp => ?_
          · intro hcc
            obtain ⟨v, o, ho, _⟩ := I2.cell y c (blk_cells S e).1
            exact absurd (Heap.lt_size ho) (by rw [hcc]; exact Nat.lt_irrefl _)
          · simp [blkE, blk] at hp
        have I10 : Inv (blkE X N' x sc HP.objs.size s2 H2 fp (xeC X sc HP.objs.size fun v s' => RR (.ref s2.heap.objs.size) HP.objs.size (.error v) s')) [(s2.heap.objs.size, { cls := .type "list", data := .seq (List.toArray (its ++ [z])) k' })] (some y :: σ) H8 { s8 with heap := s8.heap.update s2.heap.objs.size (Obj.mapSeq fun a => a.push z) } := I9.pins_of fun p hp => by
          have e := List.mem_singleton.mp hp
          subst e
          exact ⟨e9, pD.2.1, hDC, hDfr, fun v => by intro z; cases z⟩
        have t9 : tn (i + 1) (s8.heap.update s2.heap.objs.size (Obj.mapSeq fun a => a.push z)) := T.keep _ _ _ t8 fun b hb o e => by
          rw [other b (by rintro rfl; exact hDfp hb)]; exact e
        exact ⟨m', hm, i + 1, ys ++ [yv], its ++ [z], k', some y, H8, I10, rv.append (.cons r8 .nil), t9, f8, w8⟩
  exact codeAny_compStart_list (loop _ rfl) (T.self X.A 0 _ _ _ (T.keep _ _ _ st2 fun b _ o e => old b o e) (loop _ rfl))

end
section
variable {X : Cx} {pins : List (Addr × Obj)} {σ : St} {x : Str} {sc : Scope} {N' : List Str}
theorem XO3.keep {ap : Addr → Prop} {H : Hp} {h h' : Heap} {e C : Addr} {cls : Value} {od : Option Addr} (x : XO3 ap H h e cls od) (k : ∀ b, b ≠ C → h'.get? b = h.get? b) (hC : ∀ o vs, h.get? C = some o → o.data ≠ .fields vs) : XO3 ap H h' e cls od := by
  obtain ⟨x2, x3, oe, vs, T, oT, ts, x4, x5, xd, x6, x7, x9, z1, z3, z4, z5, z6, z7, h3⟩ := x
  exact ⟨x2, x3, oe, vs, T, oT, ts, (k e fun z => hC oe vs (z ▸ x4) x6).trans x4, x5, xd, x6, x7, x9, z1, z3, z4, z5, (k T fun z => hC oT ts (z ▸ z6) z7).trans z6, z7, h3⟩
/-- an error leaves a comprehension -/
theorem comp_out {s2 : Shared} {H2 : Hp} {fp : List Addr} {EX : XK} {Q : VK} {D C : Addr} (R : Rs2 X EX) (hex : X.ex = []) (hfr : X.stack = X.env :: X.outer ∧ X.env.frame = some X.env.locals) (I2 : Inv X pins σ H2 s2) (f2 : ∀ b ∈ fp, FpOk X pins H2 b) (hC : s2.heap.objs.size ≤ C) :
    RsB (blkE X N' x sc C s2 H2 fp (xeC X sc C fun v s' => compPost (model X.prog X.w) X.A X.xe none (EP X pins σ Q) (.ref D) C (.error v) s')) EX := by
  intro pins' σ' H' s' e cls od I' x' q
  have IX : Inv X pins σ H' s' := I2.call' I'.os I'.base I'.hok I'.bare fun b hb => ⟨(f2 b hb).2.2.2.1, (f2 b hb).2.1, (f2 b hb).2.2.2.2.1, (f2 b hb).2.2.2.2.2⟩
  have fC : FpOk X pins H' C := I2.fpOk hC I'.free
  have xX : XO2 (apart X pins) H' s'.heap e cls od := x'.weak fun b hb => by
    rcases hb.1 with z | z
    · refine ⟨?_, fun p hp y => ?_⟩
      · cases g : X.s₀.heap.get? b with
        | none => rfl
        | some o =>
          obtain ⟨o', e'⟩ := I2.base.there b o g (by rw [hex]; simp)
          rw [show s2.heap.get? b = none from z] at e'; cases e'
      · have e' := (I2.pin p hp).1
        rw [y, show s2.heap.get? b = none from z] at e'; cases e'
    · have f := f2 b z
      refine ⟨?_, f.2.2.2.2.2⟩
      rcases f.2.2.2.1 with y | y
      · rw [hex] at y; simp at y
      · exact Heap.get?_none_of_le y
  obtain ⟨m, ⟨o, es, ep, ho, hd, hrest⟩, _⟩ := I'.loc
  have hm : s'.heap.Ns C m := ⟨o, es, ep, ho, hd, hrest⟩
  have hCf : ∀ o' vs, s'.heap.get? C = some o' → o'.data ≠ .fields vs := fun o' vs e' => by
    have e' := (show s'.heap.get? C = some o from ho).symm.trans e'
    cases e'
    rw [hd]; intro z; cases z
  have hCfr : C ∉ frs X.stack := fun z => by
    rcases List.mem_cons.mp (IX.stkSub C z) with y | y
    · exact fC.2.1 y
    · exact fC.2.2.1 y
  show wpAny (model X.prog X.w) X.A (noteFrame (.ref e) X.env) _ _ s'
  refine note_X (env := X.env) (outer := X.outer) (base := X.base) (L := X.env.locals) (ap := apart X pins) (H := H') (by rw [IX.ok.frames, hfr.1]) (by rw [← hfr.1]; exact IX.stack) hfr.2 xX IX.young fun h1 k1 x1 => ?_
  rw [← hfr.1] at k1
  have IX1 : Inv X pins σ H' { s' with heap := h1 } := IX.passK (t' := s'.toks) hfr k1
  have hC1 : ∀ o', s'.heap.get? C = some o' → h1.get? C = some o' := fun o' e' => k1.1 C o' (fun z => z.2.2.elim fun vs y => hCf o' vs e' y) hCfr e'
  refine ⟨m, hm.at hC1, fun h2 hs2 cenv hcenv => ?_⟩
  have IX2 : Inv X pins σ H' { s' with heap := h2 } := IX1.turned (t' := s'.toks) (fun b o hb e => (hs2.2 b hb).trans e) fC.1 fC.2.1 fC.2.2.2.1 fC.2.2.2.2.1 fC.2.2.2.2.2
  have x2 : XO3 (apart X pins) H' h2 e cls od := x1.keep (fun b hb => hs2.2 b hb) fun o' vs e' => by
    have e1 := hC1 _ ho
    have e' := e1.symm.trans e'
    cases e'
    rw [hd]; intro z; cases z
  have x2' := x2
  obtain ⟨_, _, oe, vs, T, oT, ts, x4, x5, xd, x6, x7, x9, z1, _⟩ := x2'
  unfold PySem.passOn
  refine wpAny_bind (wpAny_field x4 x6 z1 ?_)
  rw [if_neg (by simp)]
  refine wpAny_bind (fly_X (fs := frs X.stack) x2 (noF IX2.stack) fun h3 k3 x3 _ => ?_)
  exact wpAny_throw (R pins σ H' _ e cls od (IX2.passK (t' := s'.toks) hfr k3) x3.two q)
/-- [e for x in it if c], where e may raise -/
theorem pe_compX {EX : XK} {iter elt : Expr} {ifs : List Expr} {px pos : Pos} {wi : TI} {tt : TT} {te : TE} (R : Rs2 X EX) (hc : X.calm = true) (hN : X.N.Nodup) (S : CScope X.N N' x sc X.env.scope) (hi : PI X (.Name x px) iter wi)
    (ht : ∀ C s2 H2 fp xe, PIfs (blkE X N' x sc C s2 H2 fp xe) ifs tt) (he : ∀ C s2 H2 fp xe, RsB (blkE X N' x sc C s2 H2 fp xe) EX → PE (blkE X N' x sc C s2 H2 fp xe) elt te) (hex : X.ex = [] := by rfl) (hfr : X.stack = X.env :: X.outer ∧ X.env.frame = some X.env.locals := by exact ⟨rfl, rfl⟩) (hs : ∀ v, foldedSetIterable iter X.env v = pure v := by intro _; rfl) :
    PE X (.ListComp elt [⟨.Name x px, iter, ifs, 0⟩] sc pos) (tComp wi tt te) := by
  intro pins s σ H Q I h
  have hclos : closureFor sc X.env = pure (closOf sc.names X.env.cells []) := closure_eq fun y hy hk => I.ok.has _ (S.free y hy hk)
  rw [eval_ListComp]
  refine wpAny_comprehension_free (use := none) rfl hs hclos S.kind S.names (thn (hi pins s σ H _ I h) fun v s1 h1 => thn h1 fun itv s2 h2 => ?_)
  obtain ⟨it, fp, tn, J, H2, e, I2, T, st2, f2, W, w0, turn⟩ := h2
  subst e
  refine comp_coreX (EX := EX) (RR := fun acc C => compPost (model X.prog X.w) X.A X.xe none (EP X pins σ Q) acc C) hc hN S ht he I2 T st2 f2 W w0 turn (fun D C hC => comp_out R hex hfr I2 f2 hC) fun D C s' H' I' fC hn q => ?_
  obtain ⟨m, hn⟩ := hn
  refine ⟨m, hn, fun h' hs' => ⟨.ref D, H', ?_, rfl, q⟩⟩
  exact I'.turned (t' := s'.toks) (fun b o hb e => (hs'.2 b hb).trans e) fC.1 fC.2.1 fC.2.2.2.1 fC.2.2.2.2.1 fC.2.2.2.2.2
end
end L2

set_option maxHeartbeats 4000000
namespace K72
open PySem L2 TC
noncomputable def top (i : Nat) : Stmt := PySem.Challenge.pw_turncoins_k72_texts_refused.main.body.getD i (.Pass ⟨0, 0, 0, 0⟩)
/-- a gate's words, its text -/
noncomputable def nst (c : Nat) : Str := ((toString (c : Int) : String) : Str)
noncomputable def gwd : Gt → Str × List Nat
  | .mix c => ("mix", [c])
  | .flip c => ("flip", [c])
  | .sign c => ("sign", [c])
  | .follow a b => ("follow", [a, b])
  | .meet a b => ("meet", [a, b])
  | .swap a b => ("swap", [a, b])
noncomputable def gws (g : Gt) : List Str := (gwd g).1 :: (gwd g).2.map nst
noncomputable def gtx (g : Gt) : Str := Str.join " " (gws g)
noncomputable abbrev cV (L : List Nat) : List V := L.map fun n : Nat => V.int (n : Int)
theorem gvals (g : Gt) : g.vals = .str (gwd g).1 :: cV (gwd g).2 := by cases g <;> rfl
theorem gcoins {g : Gt} (h : g.ok 6) : ∀ c ∈ (gwd g).2, c < 6 := by
  cases g with
  | mix c => intro d hd; rw [List.mem_singleton.mp hd]; exact h
  | flip c => intro d hd; rw [List.mem_singleton.mp hd]; exact h
  | sign c => intro d hd; rw [List.mem_singleton.mp hd]; exact h
  | follow a b => intro d hd; rcases List.mem_cons.mp hd with rfl | hd; exact h.1; rw [List.mem_singleton.mp hd]; exact h.2.1
  | meet a b => intro d hd; rcases List.mem_cons.mp hd with rfl | hd; exact h.1; rw [List.mem_singleton.mp hd]; exact h.2.1
  | swap a b => intro d hd; rcases List.mem_cons.mp hd with rfl | hd; exact h.1; rw [List.mem_singleton.mp hd]; exact h.2.1
theorem glen (g : Gt) : (gwd g).2.length = 1 ∨ (gwd g).2.length = 2 := by cases g <;> first | exact .inl rfl | exact .inr rfl
theorem nst_is : ∀ c : Nat, c < 10 → (nst c).length = 1 ∧ 32 ∉ (nst c).cps.toList ∧ 59 ∉ (nst c).cps.toList := by decide +kernel
theorem wd6 : ∀ x ∈ ([("mix" : Str), ("flip" : Str), ("sign" : Str), ("follow" : Str), ("meet" : Str), ("swap" : Str)] : List Str), x.length ≤ 6 ∧ 32 ∉ x.cps.toList ∧ 59 ∉ x.cps.toList ∧ 0 < x.length := by decide +kernel
theorem gwd_mem (g : Gt) : (gwd g).1 ∈ ([("mix" : Str), ("flip" : Str), ("sign" : Str), ("follow" : Str), ("meet" : Str), ("swap" : Str)] : List Str) := by cases g <;> simp [gwd]
theorem wd_is (g : Gt) : (gwd g).1.length ≤ 6 ∧ 32 ∉ (gwd g).1.cps.toList ∧ 59 ∉ (gwd g).1.cps.toList ∧ 0 < (gwd g).1.length := wd6 _ (gwd_mem g)
noncomputable abbrev WA : List V := [.str "mix", .str "flip", .str "sign"]
noncomputable abbrev WB : List V := [.str "follow", .str "meet", .str "swap"]
theorem gws_len {g : Gt} (h : g.ok 6) : ∀ z ∈ gws g, z.length ≤ 6 := fun z hz => by
  rcases List.mem_cons.mp hz with rfl | hz
  · exact (wd_is g).1
  · obtain ⟨c, hc, rfl⟩ := List.mem_map.mp hz
    have := gcoins h c hc
    have := (nst_is c (by omega)).1
    omega
theorem gws_n (g : Gt) : (gws g).length ≤ 3 := by rw [gws, List.length_cons, List.length_map]; rcases glen g with h | h <;> omega
theorem sp1 : (" " : Str).length = 1 := by decide +kernel
theorem sc2 : ("; " : Str).length = 2 := by decide +kernel
theorem gtx_len {g : Gt} (h : g.ok 6) : (gtx g).length ≤ 21 := by
  have := join_len (y := " ") (gws g) (gws_len h)
  have h3 := gws_n g
  rw [sp1] at this
  have : (gws g).length * (6 + 1) ≤ 3 * 7 := Nat.mul_le_mul h3 (Nat.le_refl _)
  unfold gtx
  omega
noncomputable def gtxs (gs : List Gt) : Str := Str.join "; " (gs.map gtx)
theorem gtxs_len {gs : List Gt} (h : ∀ g ∈ gs, g.ok 6) (hl : gs.length ≤ 60) : (gtxs gs).length ≤ 1380 + 60 := by
  have := join_len (y := "; ") (B := 21) (gs.map gtx) fun z hz => by
    obtain ⟨g, hg, rfl⟩ := List.mem_map.mp hz
    exact gtx_len (h g hg)
  rw [List.length_map, sc2] at this
  have : gs.length * (21 + 2) ≤ 60 * 23 := Nat.mul_le_mul hl (Nat.le_refl _)
  unfold gtxs
  omega
theorem lineK {n : Nat} (h : n ≤ 10000) : n ≤ sizeLine := Nat.le_trans h (by rw [sizeLine_eq]; decide)
/-- signs of coins -/
noncomputable abbrev LET : Str := ".xzy"
noncomputable def idx (r : Rw) (c : Nat) : Nat := bN (bt r.x c) + 2 * bN (bt r.z c)
noncomputable def cod (r : Rw) (c : Nat) : Nat := LET.cps.toList.getD (idx r c) 46
noncomputable def sgc (r : Rw) : Nat := if r.sg = -1 then 45 else 43
noncomputable def rtx (r : Rw) (m : Nat) : Str := ⟨(sgc r :: (List.range m).map (cod r)).toArray⟩
theorem idx_lt (r : Rw) (c : Nat) : idx r c < 4 := by unfold idx; cases bt r.x c <;> cases bt r.z c <;> decide
theorem let_at : ∀ i : Nat, i < 4 → atI LET.cps.toList (i : Int) = some (LET.cps.toList.getD i 46) ∧ fnd LET ⟨#[LET.cps.toList.getD i 46]⟩ = i ∧ LET.cps.toList.getD i 46 < 128 := by decide +kernel
noncomputable def sp_sgate (K : PySem.W.Frag) : Sp := fun vs H Q _ => ∃ (a : Addr) (g : Gt), vs = [.ref a] ∧ SqT K H a g.vals ∧ g.ok 6 ∧ ∀ H', Same H H' → Q (.str (gtx g)) H'
noncomputable def sp_sgates (K : PySem.W.Frag) : Sp := fun vs H Q _ => ∃ (a : Addr) (as : List Addr) (gs : List Gt), vs = [.ref a] ∧ SqL K H a (rV as) ∧ Gts H 6 as gs ∧ gs.length ≤ 60 ∧ ∀ H', Same H H' → Q (.str (gtxs gs)) H'
noncomputable def sp_srow (K : PySem.W.Frag) : Sp := fun vs H Q _ => ∃ (a : Addr) (r : Rw) (m : Nat), vs = [.ref a, .int m] ∧ SqT K H a r.vals ∧ r.ok m ∧ m ≤ 6 ∧ ∀ H', Same H H' → Q (.str (rtx r m)) H'
noncomputable def sp_fig : Sp := fun vs H Q _ => ∃ c : Nat, vs = [.str (nst c), .int 0, .int 9] ∧ c < 10 ∧ ∀ H', Same H H' → Q (.int (c : Int)) H'
noncomputable def sp_behd : Sp := fun vs H Q _ => ∃ g : Gt, vs = [.str (gwd g).1] ∧ ∀ H', Same H H' → Q (.int ((gwd g).2.length : Nat)) H'
noncomputable def sp_rgate : Sp := fun vs H Q _ => ∃ g : Gt, vs = [.str (gtx g)] ∧ g.ok 6 ∧ ∀ q H', Same H H' → H q = none → H' q = some (.tup g.vals) → Q (.ref q) H'
noncomputable def sp_rgates : Sp := fun vs H Q _ => ∃ gs : List Gt, vs = [.str (gtxs gs)] ∧ (∀ g ∈ gs, g.ok 6) ∧ gs.length ≤ 60 ∧ ∀ q qs H', Same H H' → H q = none → H' q = some (.lst (rV qs)) → Gts H' 6 qs gs → (∀ a ∈ qs, H a = none) → Q (.ref q) H'
noncomputable def sp_rrow : Sp := fun vs H Q _ => ∃ (r : Rw) (m : Nat), vs = [.str (rtx r m)] ∧ r.ok m ∧ 1 ≤ m ∧ m ≤ 6 ∧ ∀ q H', Same H H' → H q = none → H' q = some (.tup r.vals) → Q (.ref q) H'
theorem cut1 (xs : List V) : cutV xs (some 1) none = xs.tail := by
  unfold cutV
  have h1 : HT.sIx xs.length 0 (some 1) = min 1 xs.length := by unfold HT.sIx; simp; try omega
  rw [h1]
  show (xs.drop (min 1 xs.length)).take (xs.length - min 1 xs.length) = _
  rw [List.take_of_length_le (by rw [List.length_drop]; omega)]
  cases xs with
  | nil => rfl
  | cons x r => rw [show min 1 (x :: r).length = 1 by rw [List.length_cons]; omega]; rfl
theorem sIx1 {n : Nat} (h : 1 ≤ n) : HT.sIx n 0 (some 1) = 1 := by
  have : HT.sIx n 0 (some 1) = min 1 n := by unfold HT.sIx; simp; try omega
  rw [this]; omega
theorem cs_get {L : List Nat} {i : Nat} {x : V} (h : (cV L)[i]? = some x) : ∃ c, L[i]? = some c ∧ x = .int (c : Nat) := by
  rw [List.getElem?_map] at h
  obtain ⟨c, hc, rfl⟩ := Option.map_eq_some_iff.mp h
  exact ⟨c, hc, rfl⟩
theorem st_get {zs : List Str} {i : Nat} {x : V} (h : (zs.map V.str)[i]? = some x) : ∃ z, zs[i]? = some z ∧ x = .str z := by
  rw [List.getElem?_map] at h
  obtain ⟨z, hz, rfl⟩ := Option.map_eq_some_iff.mp h
  exact ⟨z, hz, rfl⟩
theorem log_small : ∀ c : Nat, c < 10 → (c : Int).natAbs.log2 < 1920 := by decide +kernel
noncomputable def tsV : V → V
  | .int n => .str ((toString n : String) : Str)
  | v => v
theorem ts_map (L : List Nat) : (cV L).map tsV = (L.map nst).map V.str := by
  rw [List.map_map, List.map_map]; rfl

/-- texts of any kind, cut -/
theorem split_any (z y : Str) : Txt.split z y ≠ [] ∧ (Txt.split z y).length ≤ z.length + 2 ∧ ∀ x ∈ Txt.split z y, x.length ≤ z.length := by
  have one : ([z] : List Str) ≠ [] ∧ ([z] : List Str).length ≤ z.length + 2 ∧ ∀ x ∈ ([z] : List Str), x.length ≤ z.length := ⟨by simp, by show 1 ≤ _; omega, fun x hx => by rw [List.mem_singleton.mp hx]; exact Nat.le_refl _⟩
  have subl : ∀ i j, (Builtin.Str.strSub z i j).length ≤ z.length := fun i j => by
    rw [← cps_len, StrLaws.strSub_toList, List.length_take, List.length_drop, cps_len]
    omega
  have partsl : ∀ (cuts : List Nat) (a w : Nat), StrLaws.partsFrom z w a cuts ≠ [] ∧ (StrLaws.partsFrom z w a cuts).length = cuts.length + 1 ∧ ∀ x ∈ StrLaws.partsFrom z w a cuts, x.length ≤ z.length := fun cuts => by
    induction cuts with
    | nil => intro a w; exact ⟨List.cons_ne_nil _ _, rfl, fun x hx => by rw [List.mem_singleton.mp hx]; exact subl _ _⟩
    | cons c t ih =>
      intro a w
      obtain ⟨_, h2, h3⟩ := ih (c + w) w
      refine ⟨List.cons_ne_nil _ _, ?_, fun x hx => ?_⟩
      · show (StrLaws.partsFrom z w (c + w) t).length + 1 = _; rw [h2]; rfl
      · rcases List.mem_cons.mp hx with rfl | hx
        · exact subl _ _
        · exact h3 x hx
  unfold Txt.split
  by_cases h1 : (decide (z.length < y.length) || decide (Builtin.Str.strKind z < Builtin.Str.strKind y)) = true
  · rw [if_pos h1]; exact one
  rw [if_neg h1]
  by_cases h2 : (Builtin.Str.occurrences z y 0 z.length (z.length + 1)).isEmpty = true
  · rw [if_pos h2]; exact one
  rw [if_neg h2, StrLaws.partsBetween_eq]
  obtain ⟨p1, p2, p3⟩ := partsl (Builtin.Str.occurrences z y 0 z.length (z.length + 1)) 0 y.length
  refine ⟨p1, ?_, p3⟩
  rw [p2]
  have := StrLaws.occ_length_le_len z y 0 z.length (z.length + 1)
  omega
noncomputable def wn (x : Str) : Nat := if inV (.str x) WA = true then 1 else if inV (.str x) WB = true then 2 else 0
noncomputable def isF (x : Str) : Prop := ∃ c : Nat, c < 10 ∧ x = nst c
noncomputable def fgN (x : Str) : Nat := ((List.range 10).find? fun c => decide (nst c = x)).getD 0
theorem fgN_is : ∀ c : Nat, c < 10 → fgN (nst c) = c := by decide +kernel
theorem fg_in (x : Str) : inV (.str x) ((List.range 10).map fun i => V.str (nst i)) = true ↔ isF x := by
  unfold inV
  rw [List.any_eq_true]
  constructor
  · rintro ⟨v, hv, e⟩
    obtain ⟨c, hc, rfl⟩ := List.mem_map.mp hv
    refine ⟨c, List.mem_range.mp hc, ?_⟩
    first
    | exact (beq_iff_eq.mp (show (nst c == x) = true from e)).symm
    | exact beq_iff_eq.mp (show (x == nst c) = true from e)
  · rintro ⟨c, hc, rfl⟩
    exact ⟨_, List.mem_map.mpr ⟨c, List.mem_range.mpr hc, rfl⟩, eqV_refl rfl⟩
noncomputable def gG (p : Str) : Prop := ∃ w ws, Txt.split p " " = w :: ws ∧ wn w ≠ 0 ∧ ws.length = wn w ∧ ∀ x ∈ ws, isF x
noncomputable def gVs : List Str → List V
  | [] => []
  | w :: ws => .str w :: ws.map fun x => .int (fgN x : Nat)
noncomputable def gV (p : Str) : List V := gVs (Txt.split p " ")
theorem gV_flat (p : Str) : (gV p).all flatV = true := by
  unfold gV
  cases Txt.split p " " with
  | nil => rfl
  | cons w ws =>
    show (flatV (.str w) && (ws.map fun x => V.int (fgN x : Nat)).all flatV) = true
    rw [Bool.and_eq_true]
    refine ⟨rfl, ?_⟩
    rw [List.all_eq_true]
    intro v hv
    obtain ⟨x, _, rfl⟩ := List.mem_map.mp hv
    rfl
open Classical in
noncomputable def zP (z : Str) : List Str := if z = "" then [] else Txt.split z "; "
noncomputable def zG (z : Str) : Prop := ∀ p ∈ zP z, gG p
structure Tps (H : Hp) (qs : List Addr) (ps : List Str) : Prop where
  l : qs.length = ps.length
  g : ∀ (i : Nat) (a : Addr), qs[i]? = some a → ∃ p, ps[i]? = some p ∧ H a = some (.tup (gV p))
theorem Tps.same {H H' : Hp} {qs : List Addr} {ps : List Str} (h : Tps H qs ps) (s : Same H H') : Tps H' qs ps := ⟨h.l, fun i a e => by
  obtain ⟨p, h1, h2⟩ := h.g i a e
  exact ⟨p, h1, s _ _ h2⟩⟩
theorem Tps.nil {H : Hp} : Tps H [] [] := ⟨rfl, fun _ _ h => nomatch h⟩
theorem Tps.app {H : Hp} {qs : List Addr} {ps : List Str} (h : Tps H qs ps) {q : Addr} {p : Str} (e : H q = some (.tup (gV p))) : Tps H (qs ++ [q]) (ps ++ [p]) := ⟨by rw [List.length_append, List.length_append, h.l]; rfl, fun i a hi => by
  rcases Nat.lt_or_ge i qs.length with hj | hj
  · rw [List.getElem?_append_left hj] at hi
    obtain ⟨p', h1, h2⟩ := h.g i a hi
    exact ⟨p', by rw [List.getElem?_append_left (by rw [← h.l]; exact hj)]; exact h1, h2⟩
  · rw [List.getElem?_append_right hj] at hi
    have h0 : i - qs.length = 0 := by
      cases h0 : i - qs.length with
      | zero => rfl
      | succ n => rw [h0] at hi; cases hi
    rw [h0] at hi
    cases hi
    exact ⟨p, by rw [List.getElem?_append_right (by rw [← h.l]; exact hj), ← h.l, h0]; rfl, e⟩⟩
noncomputable def sp_figX (nT : Addr) : Sp := fun vs H Q E => ∃ x : Str, vs = [.str x, .int 0, .int 9] ∧ (isF x → ∀ H', Same H H' → Q (.int (fgN x : Nat)) H') ∧ (¬ isF x → ∀ H', Same H H' → E (.ref nT) none H')
noncomputable def sp_behX (nT : Addr) : Sp := fun vs H Q E => ∃ x : Str, vs = [.str x] ∧ (wn x ≠ 0 → ∀ H', Same H H' → Q (.int (wn x : Nat)) H') ∧ (wn x = 0 → ∀ H', Same H H' → E (.ref nT) none H')
noncomputable def sp_rgX (nT : Addr) : Sp := fun vs H Q E => ∃ p : Str, vs = [.str p] ∧ p.length ≤ 900 ∧ (gG p → ∀ q H', Same H H' → H q = none → H' q = some (.tup (gV p)) → Q (.ref q) H') ∧ (¬ gG p → ∀ H', Same H H' → E (.ref nT) none H')
noncomputable def sp_rgsX (nT : Addr) : Sp := fun vs H Q E => ∃ z : Str, vs = [.str z] ∧ z.length ≤ 900 ∧ (zG z → ∀ q qs H', Same H H' → H q = none → H' q = some (.lst (rV qs)) → Tps H' qs (zP z) → Q (.ref q) H') ∧ (¬ zG z → ∀ H', Same H H' → E (.ref nT) none H')
section
variable {P : Program} {w : World} {K : PySem.W.Frag} {mg : Str → Option Value} {base : Heap} {nT w1 w2 : Addr}
/- read_figure: 0:word 1:low 2:high -/
noncomputable abbrev s_read_figure : Stmt := top 13
theorem sc_read_figure : FnScope ["word", "low", "high"] ["word", "low", "high"] (defScope s_read_figure) := ⟨rfl, rfl, rfl, by decide +kernel, rfl, by decide +kernel, by decide +kernel⟩
theorem ok_figX (T : Blt mg) (GT : GCls K mg "NoText" nT) (XT : XCls K nT) (D : Def K mg "read_figure" s_read_figure ["word", "low", "high"]) : Cal P w K mg base (CX1 P w) 1 "read_figure" ["word", "low", "high"] (sp_figX nT) := by
  refine D.okX sc_read_figure (fun vs H Q E h => ?_) (fun f cdv A outer s H vs Q E hr h R => ?_)
  · obtain ⟨x, rfl, _⟩ := h; rfl
  obtain ⟨x, rfl, k1, k2⟩ := h
  refine ⟨_, (pss_cons (ps_if (pt_cmpR (op_notInK K) (pv 0) (pe_comp rfl sc_read_figure.nd (cs (N := ["word", "low", "high"]) (osc := defScope s_read_figure) (by decide +kernel)) (pi_range2 rfl T.n_range (pa_cons (pv 1) (pa_cons (pe_op op_add (pv 2) pe_int) pa_nil))) (fun _ _ _ _ => pifs_nil) (fun _ _ _ _ => (pe_callTy call_str_int (by rfl) T.n_str bt_str (pa_cons (pv 0) pa_nil)))) rfl)
        (pss_one (ps_raise rfl rfl rfl GT.m XT.x R (pa_cons (pe_fstr (pj_cons pe_str (pj_cons (pe_fmtI (pv 1)) (pj_cons pe_str (pj_cons (pe_fmtI (pv 2)) pj_nil))))) pa_nil)))
        pss_nil)
      (pss_one (ps_ret (pe_callTy call_intS (by rfl) T.n_int bt_int (pa_cons (pv 0) pa_nil))))), ?_⟩
  refine ⟨_, rfl, _, rfl, _, rfl, _, _, rfl, rfl, 0, 10, rfl, ⟨by decide, by decide, by decide, by decide⟩, ?_⟩
  refine comp_range (n := 10) (fun i => .str (nst i)) (line6 (by decide)) ?_ ?_
  · intro i H' Q' hi s' q'
    have : i < 10 := hi
    refine ⟨_, rfl, (i : Int), by rw [Int.zero_add], log_small i (by omega), q' H' (.refl H')⟩
  intro p H1 s1 np ep
  refine ⟨p, _, rfl, .inl (.of ep), rfl, by decide +kernel, _, rfl, ?_⟩
  by_cases hx : isF x
  · refine iteBN (by show (!inV _ _) = false; rw [(fg_in x).mpr hx]; rfl) ?_
    have k1 := k1 hx H1 s1
    obtain ⟨c, hc, rfl⟩ := hx
    rw [fgN_is c hc] at k1
    have hnum : PySem.intText? (nst c) = some (c : Int) := PySem.W.KIN.num_reads (Int.natCast_nonneg c) (by omega)
    exact ⟨_, rfl, nst c, (c : Int), rfl, hnum, by rw [(nst_is c hc).1]; decide, k1⟩
  · refine iteB ?_ ?_
    · show (!inV _ _) = true
      cases h : inV (.str x) ((List.range 10).map fun i => V.str (nst i)) with
      | true => exact absurd ((fg_in x).mp h) hx
      | false => rfl
    refine ⟨_, rfl, lineK (by decide +kernel), _, rfl, (0 : Int), rfl, by decide, _, rfl, lineK (by decide +kernel), _, rfl, lineK (by decide +kernel), _, rfl, (9 : Int), rfl, by decide +kernel, _, rfl, lineK (by decide +kernel), lineK (by decide +kernel), ?_⟩
    exact ⟨line6 (by decide), k2 hx H1 s1⟩
/- coins_behind: 0:word -/
noncomputable abbrev s_coins_behind : Stmt := top 14
theorem sc_coins_behind : FnScope ["word"] ["word"] (defScope s_coins_behind) := ⟨rfl, rfl, rfl, by decide +kernel, rfl, by decide +kernel, by decide +kernel⟩
theorem ok_behX (T : Blt mg) (GT : GCls K mg "NoText" nT) (XT : XCls K nT) (W1 : Wrds K mg "ONE_COIN_WORDS" "mix" "flip" "sign" w1) (W2 : Wrds K mg "TWO_COIN_WORDS" "follow" "meet" "swap" w2) (D : Def K mg "coins_behind" s_coins_behind ["word"]) : Cal P w K mg base (CX1 P w) 1 "coins_behind" ["word"] (sp_behX nT) := by
  refine D.okX sc_coins_behind (fun vs H Q E h => ?_) (fun f cdv A outer s H vs Q E hr h R => ?_)
  · obtain ⟨x, rfl, _⟩ := h; rfl
  obtain ⟨x, rfl, k1, k2⟩ := h
  unfold wn at k1 k2
  refine ⟨_, (pss_cons (ps_if (pt_cmpR (op_inK K) (pv 0) (pe_gR W1.m) rfl)
        (pss_one (ps_ret pe_int))
        pss_nil)
      (pss_cons (ps_if (pt_cmpR (op_inK K) (pv 0) (pe_gR W2.m) rfl)
        (pss_one (ps_ret pe_int))
        pss_nil)
      (pss_one (ps_raise rfl rfl rfl GT.m XT.x R (pa_cons pe_str pa_nil))))), ?_⟩
  refine ⟨_, rfl, w1, _, rfl, .inr (W1.sq H), rfl, rfl, _, rfl, ?_⟩
  cases h1 : inV (.str x) WA with
  | true =>
    rw [h1, if_pos rfl] at k1
    exact iteB rfl (k1 (by decide) H (.refl H))
  | false =>
    rw [h1, if_neg (by decide)] at k1 k2
    refine iteBN rfl ?_
    refine ⟨_, rfl, w2, _, rfl, .inr (W2.sq H), rfl, rfl, _, rfl, ?_⟩
    cases h2 : inV (.str x) WB with
    | true =>
      rw [h2, if_pos rfl] at k1
      exact iteB rfl (k1 (by decide) H (.refl H))
    | false =>
      rw [h2, if_neg (by decide)] at k2
      refine iteBN rfl ⟨line6 (by decide), k2 rfl H (.refl H)⟩
/- read_gate: 0:text 1:words -/
noncomputable abbrev s_read_gate : Stmt := top 15
theorem sc_read_gate : FnScope ["text", "words"] ["text"] (defScope s_read_gate) := ⟨rfl, rfl, rfl, by decide +kernel, rfl, by decide +kernel, by decide +kernel⟩
theorem ok_rgX (T : Blt mg) (GT : GCls K mg "NoText" nT) (XT : XCls K nT) (D : Def K mg "read_gate" s_read_gate ["text"]) (C_coins_behind : Cal P w K mg base (CX1 P w) 1 "coins_behind" ["word"] (sp_behX nT)) (C_read_figure : Cal P w K mg base (CX1 P w) 1 "read_figure" ["word", "low", "high"] (sp_figX nT)) : Cal P w K mg base (CX1 P w) 2 "read_gate" ["text"] (sp_rgX nT) := by
  refine D.okX sc_read_gate (fun vs H Q E h => ?_) (fun f cdv A outer s H vs Q E hr h R => ?_)
  · obtain ⟨p, rfl, _⟩ := h; rfl
  obtain ⟨p, rfl, hp, k1, k2⟩ := h
  obtain ⟨sn, sl, sx⟩ := split_any p " "
  refine ⟨_, (pss_cons (ps_set (i := 1) sc_read_gate.nd rfl (Or.inl rfl) (pe_bmK K PySem.F.plainAttrs_str PySem.F.slot_str_split PySem.F.type_str_split mt_split (pv 0) (pa_cons pe_str pa_nil)))
      (pss_cons (ps_if (pt_cmpR op_ne (pe_op op_sub (pe_callB (call_lenK K) (by rfl) T.n_len bt_len (pa_cons (pv 1) pa_nil)) pe_int) (pe_calX C_coins_behind hr.sub R (pa_cons (pe_ix (ix_listK K) (pv 1) pe_int (fun _ _ => rfl)) pa_nil)) (nomark _))
        (pss_one (ps_raise rfl rfl rfl GT.m XT.x R (pa_cons pe_str pa_nil)))
        pss_nil)
      (pss_one (ps_ret (pe_callTy call_tuple_of (by rfl) T.n_tuple bt_tuple (pa_cons (pe_op op_cat (pe_lst (pa_cons (pe_ix (ix_listK K) (pv 1) pe_int (fun _ _ => rfl)) pa_nil)) (pe_compX rs2_fn rfl sc_read_gate.nd (cs (N := ["text", "words"]) (osc := defScope s_read_gate) (by decide +kernel)) (pi_listK K (pe_slice (sl_listK K) (pv 1) (po_some pe_int) po_none)) (fun _ _ _ _ _ => pifs_nil) (fun _ _ _ _ _ RB => (pe_calB C_read_figure hr.sub RB (pa_cons (pv 0) (pa_cons pe_int (pa_cons pe_int pa_nil))))))) pa_nil)))))), ?_⟩
  refine ⟨_, rfl, rfl, p, " ", rfl, rfl, by decide +kernel, lineK (by omega), fun q nq => ?_⟩
  have hgv : gV p = gVs (Txt.split p " ") := rfl
  have bad : ∀ w ws, Txt.split p " " = w :: ws → (wn w = 0 ∨ ws.length ≠ wn w ∨ ∃ x ∈ ws, ¬ isF x) → ¬ gG p := fun w ws e h ⟨w', ws', e', h1, h2, h3⟩ => by
    rw [e] at e'
    cases e'
    rcases h with h | h | ⟨x, hx, h⟩
    · exact h1 h
    · exact h h2
    · exact h (h3 x hx)
  have good : ∀ w ws, Txt.split p " " = w :: ws → wn w ≠ 0 → ws.length = wn w → (∀ x ∈ ws, isF x) → gG p := fun w ws e h1 h2 h3 => ⟨w, ws, e, h1, h2, h3⟩
  generalize Txt.split p " " = L at sn sl sx bad good hgv ⊢
  match L, sn with
  | w :: ws, _ =>
  rw [hgv] at k1
  have bad := bad w ws rfl
  have good := good w ws rfl
  rw [List.length_cons] at sl
  dsimp only [gName]
  have s1 := Same.new (o := .lst ((w :: ws).map V.str)) nq
  have eq : upd H q (.lst ((w :: ws).map V.str)) q = some (.lst (V.str w :: ws.map V.str)) := upd_same
  generalize upd H q (.lst ((w :: ws).map V.str)) = H1 at s1 eq ⊢
  have at0' : atI (V.str w :: ws.map V.str) 0 = some (.str w) := atI_nat (xs := V.str w :: ws.map V.str) (j := 0) rfl
  refine ⟨_, rfl, q, _, rfl, .inl (.of eq), _, _, rfl, rfl, _, rfl, q, _, _, _, rfl, rfl, .of eq, at0', w, rfl, fun hw H2 s2 => ?_, fun hw H2 s2 => k2 (bad (.inl hw)) H2 (s1.trans s2)⟩
  have eq := s2 _ _ eq
  have t2 := s1.trans s2
  have hcnt : ((V.str w :: ws.map V.str).length : Int) - 1 = (ws.length : Int) := by rw [List.length_cons, List.length_map]; omega
  refine ⟨rfl, _, rfl, ?_⟩
  by_cases hl : ws.length = wn w
  · refine iteBN (by show (!decide (V.int (((V.str w :: ws.map V.str).length : Int) - 1) = V.int (wn w : Nat))) = false; rw [hcnt, hl, decide_eq_true rfl]; rfl) ?_
    refine ⟨_, rfl, q, _, _, _, rfl, rfl, .of eq, at0', line6 (by show 1 ≤ 1000; decide), fun l1 nl1 => ?_⟩
    have s3 := Same.new (o := .lst [V.str w]) nl1
    have el : upd H2 l1 (.lst [V.str w]) l1 = some (.lst [V.str w]) := upd_same
    generalize upd H2 l1 (.lst [V.str w]) = H3 at s3 el ⊢
    have eq := s3 _ _ eq
    refine ⟨_, rfl, _, rfl, q, _, rfl, .of eq, fun q2 nq2 => ?_⟩
    rw [cut1]
    generalize hG : upd H3 q2 _ = H4
    have eq2 : H4 q2 = some (.lst (ws.map V.str)) := by rw [← hG]; exact upd_same
    have s4 : Same H3 H4 := hG ▸ Same.new nq2
    clear hG
    have t4 := (t2.trans s3).trans s4
    have el := s4 _ _ el
    refine ⟨q2, rfl, ⟨_, .of eq2⟩, comp_listP (K := K) (a := q2) (xs := ws.map V.str) (fun i ys H' => ys = (ws.take i).map (fun x => V.int (fgN x : Nat)) ∧ Same H4 H' ∧ ∀ x ∈ ws.take i, isF x) ⟨by simp, .refl H4, fun x hx => by simp at hx⟩ (fun i ys H' hi ⟨e, s', _⟩ => ⟨.of (s' _ _ eq2), by rw [List.length_map] at hi; rw [e, List.length_map, List.length_take]; omega⟩) (lineK (by rw [List.length_map]; omega)) ?_ ?_⟩
    · rintro i x ys H' Q' hi ⟨rfl, s', hF⟩ q'
      obtain ⟨z, hz, rfl⟩ := st_get hi
      have hzm := List.mem_of_getElem? hz
      refine ⟨_, rfl, z, rfl, fun hzF H5 s5 => q' _ _ ⟨?_, s'.trans s5, fun y hy => ?_⟩, fun hzF H5 s5 => k2 (bad (.inr (.inr ⟨z, hzm, hzF⟩))) H5 ((t4.trans s').trans s5)⟩
      · rw [List.take_add_one, hz, Option.toList_some, List.map_append]; rfl
      · rw [List.take_add_one, hz, Option.toList_some] at hy
        rcases List.mem_append.mp hy with hy | hy
        · exact hF y hy
        · rw [List.mem_singleton.mp hy]; exact hzF
    rintro ys H5 r ⟨rfl, s5, hF⟩ nr
    rw [List.length_map, List.take_length] at hF
    have el := s5 _ _ el
    have s6 := Same.new (o := .lst ((ws.take (ws.map V.str).length).map fun x => V.int (fgN x : Nat))) nr
    have er : upd H5 r (.lst ((ws.take (ws.map V.str).length).map fun x => V.int (fgN x : Nat))) r = some (.lst (ws.map fun x => V.int (fgN x : Nat))) := by rw [upd_same, List.length_map, List.take_length]
    generalize upd H5 r (.lst ((ws.take (ws.map V.str).length).map fun x => V.int (fgN x : Nat))) = H6 at s6 er ⊢
    have el := s6 _ _ el
    have hwn : wn w ≤ 2 := by unfold wn; split; decide; split <;> decide
    refine ⟨l1, r, _, _, rfl, rfl, el, er, line6 (by show 1 + (ws.map _).length ≤ 1000; rw [List.length_map]; omega), fun t nt => ?_⟩
    refine ⟨t, _, rfl, .inl ⟨.of upd_same, fun u nu => ?_⟩⟩
    have v := Same.new (o := .lst ([V.str w] ++ ws.map fun x => V.int (fgN x : Nat))) nt
    have t6 := (t4.trans s5).trans s6
    exact k1 (good hw hl hF) u _ ((t6.trans v).trans (Same.new nu)) ((t6.trans v).free nu) (by rw [upd_same]; rfl)
  · refine iteB (by show (!decide (V.int (((V.str w :: ws.map V.str).length : Int) - 1) = V.int (wn w : Nat))) = true; rw [hcnt, decide_eq_false (fun z => hl (by injection z with z; exact Int.ofNat_inj.mp z))]; rfl) ?_
    exact ⟨line6 (by decide), k2 (bad (.inr (.inl hl))) H2 t2⟩
/- read_gates: 0:text -/
noncomputable abbrev s_read_gates : Stmt := top 16
theorem sc_read_gates : FnScope ["text"] ["text"] (defScope s_read_gates) := ⟨rfl, rfl, rfl, by decide +kernel, rfl, by decide +kernel, by decide +kernel⟩
theorem ok_rgsX (T : Blt mg) (D : Def K mg "read_gates" s_read_gates ["text"]) (C_read_gate : Cal P w K mg base (CX1 P w) 2 "read_gate" ["text"] (sp_rgX nT)) : Cal P w K mg base (CX1 P w) 3 "read_gates" ["text"] (sp_rgsX nT) := by
  refine D.okX sc_read_gates (fun vs H Q E h => ?_) (fun f cdv A outer s H vs Q E hr h R => ?_)
  · obtain ⟨z, rfl, _⟩ := h; rfl
  obtain ⟨z, rfl, hz, k1, k2⟩ := h
  refine ⟨_, (pss_cons (ps_if (pt_cmpR op_eq (pv 0) pe_str (nomark _))
        (pss_one (ps_ret (pe_lst pa_nil)))
        pss_nil)
      (pss_one (ps_ret (pe_compX rs2_fn rfl sc_read_gates.nd (cs (N := ["text"]) (osc := defScope s_read_gates) (by decide +kernel)) (pi_listK K (pe_bmK K PySem.F.plainAttrs_str PySem.F.slot_str_split PySem.F.type_str_split mt_split (pv 0) (pa_cons pe_str pa_nil))) (fun _ _ _ _ _ => pifs_nil) (fun _ _ _ _ _ RB => (pe_calB C_read_gate hr.sub RB (pa_cons (pv 0) pa_nil))))))), ?_⟩
  refine ⟨_, rfl, rfl, _, rfl, ?_⟩
  by_cases hne : z = ""
  · have e0 : zP z = [] := if_pos hne
    subst hne
    refine iteB (by decide +kernel) ⟨Nat.zero_le _, fun q nq => ?_⟩
    refine k1 (fun p hp => by rw [e0] at hp; cases hp) q [] _ (Same.new nq) nq upd_same ?_
    rw [e0]; exact .nil
  have e0 : zP z = Txt.split z "; " := if_neg hne
  unfold zG at k1 k2
  rw [e0] at k1 k2
  refine iteBN (decide_eq_false (fun y => hne (by injection y))) ?_
  obtain ⟨sn, sl, sx⟩ := split_any z "; "
  refine ⟨_, rfl, rfl, z, "; ", rfl, rfl, by decide +kernel, lineK (by omega), fun q nq => ?_⟩
  generalize Txt.split z "; " = L at k1 k2 sn sl sx ⊢
  have s1 := Same.new (o := .lst (L.map V.str)) nq
  have eq : upd H q (.lst (L.map V.str)) q = some (.lst (L.map V.str)) := upd_same
  generalize upd H q (.lst (L.map V.str)) = H1 at s1 eq ⊢
  refine ⟨q, rfl, ⟨_, .of eq⟩, comp_listP (K := K) (a := q) (xs := L.map V.str) (fun i ys H' => ∃ qs : List Addr, ys = rV qs ∧ Same H1 H' ∧ Tps H' qs (L.take i) ∧ ∀ p ∈ L.take i, gG p) ⟨[], rfl, .refl H1, .nil, fun p hp => by simp at hp⟩ (fun i ys H' hi ⟨qs, e, s', hT, _⟩ => ⟨.of (s' _ _ eq), by rw [List.length_map] at hi; rw [e, rV, List.length_map, hT.l, List.length_take]; omega⟩) (lineK (by rw [List.length_map]; omega)) ?_ ?_⟩
  · rintro i x ys H' Q' hi ⟨qs, rfl, s', hT, hF⟩ q'
    obtain ⟨p, hp, rfl⟩ := st_get hi
    have hpm := List.mem_of_getElem? hp
    refine ⟨_, rfl, p, rfl, by have := sx p hpm; omega, fun hG r H2 s2 nr er => q' _ _ ⟨qs ++ [r], by simp [rV], s'.trans s2, ?_, fun y hy => ?_⟩, fun hG H2 s2 => k2 (fun h => hG (h p hpm)) H2 ((s1.trans s').trans s2)⟩
    · rw [List.take_add_one, hp, Option.toList_some]
      exact (hT.same s2).app er
    · rw [List.take_add_one, hp, Option.toList_some] at hy
      rcases List.mem_append.mp hy with hy | hy
      · exact hF y hy
      · rw [List.mem_singleton.mp hy]; exact hG
  · rintro ys H' p ⟨qs, rfl, s', hT, hF⟩ np
    rw [List.length_map, List.take_length] at hT hF
    have t := s1.trans s'
    exact k1 hF p qs _ (t.trans (Same.new np)) (t.free np) upd_same (hT.same (Same.new np))
end

end K72

set_option maxHeartbeats 4000000
namespace K72
open PySem L2 TC
/-- a comprehension over a list's items with their numbers, with a test -/
theorem comp_enumF {K : PySem.W.Frag} {a : Addr} {xs : List V} {tt : TT} {te : TE} {σ : St} {H : Hp} {Q : VK} (c : Nat → Bool) (f : Nat → V) (hl : SqL K H a xs) (hz : xs.length ≤ sizeLine)
    (ht : ∀ (i : Nat) x H' Q', xs[i]? = some x → Same H H' → (∀ H'', Same H' H'' → Q' (c i) H'') → tt (some (.int i) :: some x :: σ) H' Q')
    (he : ∀ (i : Nat) x H' Q', xs[i]? = some x → c i = true → Same H H' → (∀ H'', Same H' H'' → Q' (f i) H'') → te (some (.int i) :: some x :: σ) H' Q')
    (hd : ∀ p H', Same H H' → H p = none → H' p = some (.lst (((List.range xs.length).filter c).map f)) → Q (.ref p) H') : ∃ W, (∃ m, W 0 m [] H) ∧ CompW2 K (Ite K a) tt te σ Q W := by
  refine ⟨fun i m ys H' => m = xs.length - i ∧ i ≤ xs.length ∧ ys = ((List.range i).filter c).map f ∧ Same H H', ⟨xs.length, by simp, Nat.zero_le _, rfl, .refl H⟩, ?_⟩
  rintro i m ys H' ⟨rfl, hi, rfl, s⟩
  have q := s.seq hl
  have hlen : (((List.range i).filter c).map f).length ≤ i := by
    rw [List.length_map]; exact Nat.le_trans (List.length_filter_le _ _) (by rw [List.length_range]; exact Nat.le_refl _)
  by_cases hlt : i < xs.length
  · refine .inr ⟨⟨xs, xs[i], q, by simp [hlt]⟩, by omega, fun x H2 y => ?_⟩
    obtain ⟨p, v, hp, rfl, rfl, y⟩ := y
    have hx := y xs q
    have s2 : Same H (upd H' p (.tup [.int i, v])) := s.trans (Same.new hp)
    refine ⟨p, _, _, rfl, .inl (.inl upd_same), ?_⟩
    refine ht i v _ _ hx s2 fun H3 s3 => ?_
    cases hc : c i with
    | true =>
      rw [if_pos rfl]
      refine he i v _ _ hx hc (s2.trans s3) fun H'' s' => ⟨xs.length - (i + 1), by omega, rfl, hlt, ?_, (s2.trans s3).trans s'⟩
      rw [List.range_succ, List.filter_append, List.filter_cons, hc]; simp
    | false =>
      rw [if_neg (by decide)]
      refine ⟨xs.length - (i + 1), by omega, rfl, hlt, ?_, s2.trans s3⟩
      rw [List.range_succ, List.filter_append, List.filter_cons, hc]; simp
  · have e : i = xs.length := by omega
    subst e
    refine .inl ⟨⟨xs, q, Nat.le_refl _⟩, by omega, fun p hp => hd p _ (s.upd (s.free hp)) (s.free hp) ?_⟩
    rw [upd_same]

noncomputable def iX (r : Rw) (i : Nat) : Int := ((bN (bt r.x i) * 2 ^ i : Nat) : Int)
theorem bits_sum : ∀ m : Nat, m < 7 → ∀ x : Nat, x < 64 → x < 2 ^ m → ((List.range m).map fun i => ((bN (bt x i) * 2 ^ i : Nat) : Int)).sum = (x : Int) := by decide +kernel
theorem idx_and (r : Rw) (c : Nat) : Builtin.bitAnd ((idx r c : Nat) : Int) 1 = ((bN (bt r.x c) : Nat) : Int) := by
  unfold idx; cases bt r.x c <;> cases bt r.z c <;> decide +kernel
theorem idx_shr (r : Rw) (c : Nat) : ((idx r c : Nat) : Int) / 2 ^ (1 : Int).toNat = ((bN (bt r.z c) : Nat) : Int) := by
  unfold idx; cases bt r.x c <;> cases bt r.z c <;> decide +kernel
theorem rtx_cps (r : Rw) (m : Nat) : (rtx r m).cps.toList = sgc r :: (List.range m).map (cod r) := by unfold rtx; simp
theorem rtx_len (r : Rw) (m : Nat) : (rtx r m).cps.toList.length = m + 1 := by rw [rtx_cps, List.length_cons, List.length_map, List.length_range]
theorem cut_head (r : Rw) (m : Nat) : StrLaws.sliceText (rtx r m) none (some 1) = ⟨#[sgc r]⟩ := by
  rw [StrLaws.sliceText_to ⟨by decide, by rw [rtx_len]; omega⟩, rtx_cps]
  rfl
theorem cut_rest (r : Rw) (m : Nat) : StrLaws.sliceText (rtx r m) (some 1) none = ⟨((List.range m).map (cod r)).toArray⟩ := by
  rw [StrLaws.sliceText_from ⟨by decide, by rw [rtx_len]; omega⟩, rtx_len, rtx_cps]
  have : ((m + 1 : Nat) : Int) - 1 = (m : Int) := by omega
  rw [this]
  show (⟨(((List.range m).map (cod r)).take (m : Int).toNat).toArray⟩ : Str) = _
  rw [Int.toNat_natCast, List.take_of_length_le (by rw [List.length_map, List.length_range]; exact Nat.le_refl _)]
theorem rtx_slen (r : Rw) (m : Nat) : (rtx r m).length = m + 1 := by have := rtx_len r m; simpa [Str.length] using this
/-- the bits of what is so -/
noncomputable def mks (c : Nat → Bool) : Nat → Nat
  | 0 => 0
  | n + 1 => mks c n + if c n then 2 ^ n else 0
theorem mks_lt (c : Nat → Bool) : ∀ n, mks c n < 2 ^ n
  | 0 => by show 0 < 2 ^ 0; decide
  | n + 1 => by
    have ih := mks_lt c n
    show mks c n + (if c n then 2 ^ n else 0) < _
    rw [Nat.pow_succ]
    split <;> omega
theorem mks_or (c : Nat → Bool) (n : Nat) : mks c n ||| 2 ^ n = mks c n + 2 ^ n := by
  have h := Nat.two_pow_add_eq_or_of_lt (mks_lt c n) 1
  rw [Nat.mul_one] at h
  rw [Nat.or_comm, ← h, Nat.add_comm]
theorem mks_bt (c : Nat → Bool) : ∀ (n i : Nat), i < n → bt (mks c n) i = c i
  | 0, i, h => by omega
  | n + 1, i, h => by
    show bt (mks c n + if c n then 2 ^ n else 0) i = c i
    have top : bt (mks c n) n = false := Nat.testBit_lt_two_pow (mks_lt c n)
    cases hc : c n with
    | true =>
      rw [if_pos rfl, ← mks_or, bt_or, bt_pw]
      by_cases e : n = i
      · subst e; rw [top, decide_eq_true rfl, hc]; rfl
      · rw [mks_bt c n i (by omega), decide_eq_false e, Bool.or_false]
    | false =>
      rw [if_neg (by decide), Nat.add_zero]
      by_cases e : n = i
      · subst e; rw [top, hc]
      · exact mks_bt c n i (by omega)
/-- a text that may be a row's -/
noncomputable def lt (z : Str) (i : Nat) : Nat := z.cps.toList.getD (i + 1) 0
noncomputable def xb (z : Str) (i : Nat) : Bool := decide (lt z i = 120 ∨ lt z i = 121)
noncomputable def zb (z : Str) (i : Nat) : Bool := decide (lt z i = 122 ∨ lt z i = 121)
noncomputable def let4 (c : Nat) : Prop := c = 46 ∨ c = 120 ∨ c = 121 ∨ c = 122
noncomputable def rG (z : Str) : Prop := 2 ≤ z.length ∧ z.length ≤ 7 ∧ (z.cps.toList.getD 0 0 = 43 ∨ z.cps.toList.getD 0 0 = 45) ∧ ∀ i, i < z.length - 1 → let4 (lt z i)
noncomputable def rwz (z : Str) : Rw := ⟨if z.cps.toList.getD 0 0 = 45 then -1 else 1, mks (xb z) (z.length - 1), mks (zb z) (z.length - 1)⟩
theorem rwz_ok (z : Str) : (rwz z).ok (z.length - 1) := ⟨by show one (if _ then _ else _); split; exact .inr rfl; exact .inl rfl, mks_lt _ _, mks_lt _ _⟩
theorem rwz_is {z : Str} (h : rG z) : z = rtx (rwz z) (z.length - 1) := by
  obtain ⟨h2, h7, h0, hl⟩ := h
  apply Str.ext'
  apply Array.toList_inj.mp
  rw [rtx_cps]
  have hlen := cps_len z
  refine List.ext_getElem? fun i => ?_
  cases i with
  | zero =>
    show z.cps.toList[0]? = some (sgc (rwz z))
    have e : z.cps.toList[0]? = some (z.cps.toList.getD 0 0) := by rw [List.getD_eq_getElem?_getD, List.getElem?_eq_getElem (by omega)]; rfl
    rw [e]
    congr 1
    unfold sgc rwz
    rcases h0 with h | h
    · rw [h]; rfl
    · rw [h]; rfl
  | succ i =>
    show z.cps.toList[i + 1]? = ((List.range (z.length - 1)).map (cod (rwz z)))[i]?
    by_cases hi : i < z.length - 1
    · have e : z.cps.toList[i + 1]? = some (lt z i) := by unfold lt; rw [List.getD_eq_getElem?_getD, List.getElem?_eq_getElem (by omega)]; rfl
      rw [e, List.getElem?_map, List.getElem?_range hi, Option.map_some]
      congr 1
      have ex : bt (rwz z).x i = xb z i := mks_bt _ _ _ hi
      have ez : bt (rwz z).z i = zb z i := mks_bt _ _ _ hi
      unfold cod idx
      rw [ex, ez]
      unfold xb zb
      rcases hl i hi with h | h | h | h <;> rw [h] <;> rfl
    · rw [List.getElem?_eq_none (by omega), List.getElem?_eq_none (by rw [List.length_map, List.length_range]; omega)]
theorem in_sign (c : Nat) : inV (.str ⟨#[c]⟩) [.str "+", .str "-"] = true ↔ c = 43 ∨ c = 45 := by
  have e : inV (.str ⟨#[c]⟩) [.str "+", .str "-"] = ((("+" : Str) == ⟨#[c]⟩) || ((("-" : Str) == ⟨#[c]⟩) || false)) := rfl
  have a1 : ("+" : Str) = ⟨#[43]⟩ := by decide +kernel
  have a2 : ("-" : Str) = ⟨#[45]⟩ := by decide +kernel
  rw [e, Bool.or_false, Bool.or_eq_true, beq_iff_eq, beq_iff_eq, a1, a2]
  constructor
  · rintro (h | h)
    · injection h with h; have := congrArg Array.toList h; injection this with h _; exact .inl h.symm
    · injection h with h; have := congrArg Array.toList h; injection this with h _; exact .inr h.symm
  · rintro (h | h)
    · rw [h]; exact .inl rfl
    · rw [h]; exact .inr rfl
theorem fnd_ok {c : Nat} (h : 0 ≤ fnd LET ⟨#[c]⟩) : let4 c := by
  have f := StrLaws.found_one LET c
  unfold fnd at h
  cases ho : Builtin.Str.occurrences LET ⟨#[c]⟩ 0 LET.length 1 with
  | nil =>
    rw [ho] at h
    exact absurd h (by decide)
  | cons i r =>
    rw [ho] at f
    have hm : c ∈ LET.cps.toList := of_decide_eq_true f.symm
    have e : LET.cps.toList = [46, 120, 122, 121] := by decide +kernel
    rw [e] at hm
    simp only [List.mem_cons, List.not_mem_nil, or_false] at hm
    unfold let4
    omega
theorem cutH {z : Str} {c : Nat} {L : List Nat} (h : z.cps.toList = c :: L) : StrLaws.sliceText z none (some 1) = ⟨#[c]⟩ := by
  rw [StrLaws.sliceText_to ⟨by decide, by rw [h, List.length_cons]; omega⟩, h]
  rfl
theorem cutR {z : Str} {c : Nat} {L : List Nat} (h : z.cps.toList = c :: L) : StrLaws.sliceText z (some 1) none = ⟨L.toArray⟩ := by
  rw [StrLaws.sliceText_from ⟨by decide, by rw [h, List.length_cons]; omega⟩, h, List.length_cons]
  have : ((L.length + 1 : Nat) : Int) - 1 = (L.length : Int) := by omega
  rw [this, Int.toNat_natCast]
  show (⟨(L.take L.length).toArray⟩ : Str) = _
  rw [List.take_length]
noncomputable def sp_rrX (nT : Addr) : Sp := fun vs H Q E => ∃ z : Str, vs = [.str z] ∧ asc z ∧ z.length ≤ 900 ∧ (rG z → ∀ q H', Same H H' → H q = none → H' q = some (.tup (rwz z).vals) → Q (.ref q) H') ∧ (¬ rG z → ∀ H', Same H H' → E (.ref nT) none H')
section
variable {P : Program} {w : World} {K : PySem.W.Frag} {mg : Str → Option Value} {base : Heap} {nT : Addr}
/- read_row: 0:text 1:places 2:xs 3:zs -/
noncomputable abbrev s_read_row : Stmt := top 17
theorem sc_read_row : FnScope ["text", "places", "xs", "zs"] ["text"] (defScope s_read_row) := ⟨rfl, rfl, rfl, by decide +kernel, rfl, by decide +kernel, by decide +kernel⟩
theorem ok_rrX (T : Blt mg) (n_min : mg "min" = none) (n_sum : mg "sum" = none) (LT : ∃ t, mg "LETTERS" = some (.str LET t)) (MC : ∃ t, mg "MOST_COINS" = some (.int 6 t)) (GT : GCls K mg "NoText" nT) (XT : XCls K nT) (D : Def K mg "read_row" s_read_row ["text"]) : Cal P w K mg base (CX1 P w) 1 "read_row" ["text"] (sp_rrX nT) := by
  refine D.okX sc_read_row (fun vs H Q E h => ?_) (fun f cdv A outer s H vs Q E hr h R => ?_)
  · obtain ⟨z, rfl, _⟩ := h; rfl
  obtain ⟨z, rfl, ha, hz9, k, k2⟩ := h
  refine ⟨_, (pss_cons (ps_if (pt_cmpR (op_notInK K) (pe_slice sl_str (pv 0) po_none (po_some pe_int)) (pe_tup (pa_cons pe_str (pa_cons pe_str pa_nil))) rfl)
        (pss_one (ps_raise rfl rfl rfl GT.m XT.x R (pa_cons pe_str pa_nil)))
        pss_nil)
      (pss_cons (ps_setC (i := 1) rfl sc_read_row.nd rfl rfl (cs (N := ["text", "places", "xs", "zs"]) (osc := defScope s_read_row) (by decide +kernel)) (pi_text (pe_slice sl_str (pv 0) (po_some pe_int) po_none)) (fun _ _ _ _ => pifs_nil) (fun _ _ _ _ => (pe_bmK K PySem.F.plainAttrs_str PySem.F.slot_str_find PySem.F.type_str_find mt_find (pe_gS LT) (pa_cons (pv 0) pa_nil))))
      (pss_cons (ps_if (PW.pt (pw_or (pt_cmpR op_lt (pe_callB (call_lenK K) (by rfl) T.n_len bt_len (pa_cons (pv 1) pa_nil)) pe_int (nomark _)) (pw_or (pt_cmpR op_gt (pe_callB (call_lenK K) (by rfl) T.n_len bt_len (pa_cons (pv 1) pa_nil)) (pe_gI MC) (nomark _)) (pw_or1 (pt_cmpR op_lt (pe_callB (call_minLK K) (by rfl) n_min bt_min (pa_cons (pv 1) pa_nil)) pe_int (nomark _))))))
        (pss_one (ps_raise rfl rfl rfl GT.m XT.x R (pa_cons pe_str pa_nil)))
        pss_nil)
      (pss_cons (ps_set (i := 2) sc_read_row.nd rfl (Or.inl rfl) (pe_callB (call_sumK K) (by rfl) n_sum bt_sum (pa_cons (pe_comp2K K rfl sc_read_row.nd (cs2 (N := ["text", "places", "xs", "zs"]) (N' := ["text", "places", "xs", "zs"]) (osc := defScope s_read_row) (by decide +kernel)) (pi_enumK K rfl T.n_enumerate (pa_cons (pv 1) pa_nil)) (fun _ _ _ _ => pifs_nil) (fun _ _ _ _ => (pe_op op_shl (pe_op op_and (pv 1) pe_int) (pv 0)))) pa_nil)))
      (pss_cons (ps_set (i := 3) sc_read_row.nd rfl (Or.inl rfl) (pe_callB (call_sumK K) (by rfl) n_sum bt_sum (pa_cons (pe_comp2K K rfl sc_read_row.nd (cs2 (N := ["text", "places", "xs", "zs"]) (N' := ["text", "places", "xs", "zs"]) (osc := defScope s_read_row) (by decide +kernel)) (pi_enumK K rfl T.n_enumerate (pa_cons (pv 1) pa_nil)) (fun _ _ _ _ => pifs_nil) (fun _ _ _ _ => (pe_op op_shl (pe_op op_shr (pv 1) pe_int) (pv 0)))) pa_nil)))
      (pss_one (ps_ret (pe_tup (pa_cons (pe_ifExp (pt_cmpR op_eq (pe_ix ix_str (pv 0) pe_int (fun _ _ => rfl)) pe_str (nomark _)) pe_int (pe_un un_neg pe_int)) (pa_cons (pv 2) (pa_cons (pv 3) pa_nil))))))))))), ?_⟩
  by_cases hG : rG z
  · replace k := k hG
    have hz := rwz_is hG
    have rok := rwz_ok z
    have m1 : 1 ≤ z.length - 1 := by have := hG.1; omega
    have m6 : z.length - 1 ≤ 6 := by have := hG.2.1; omega
    generalize rwz z = r at k hz rok
    generalize z.length - 1 = m at k hz rok m1 m6
    subst hz
    clear ha hz9 k2 hG
    have x6 : r.x < 64 := Nat.lt_of_lt_of_le rok.x (Nat.pow_le_pow_right (n := 2) (by decide) m6)
    have z6 : r.z < 64 := Nat.lt_of_lt_of_le rok.z (Nat.pow_le_pow_right (n := 2) (by decide) m6)
    have hsg : sgc r = 43 ∨ sgc r = 45 := by unfold sgc; split; exact .inr rfl; exact .inl rfl
    have hin : inV (.str ⟨#[sgc r]⟩) [.str "+", .str "-"] = true := by rcases hsg with e | e <;> rw [e] <;> decide +kernel
    refine ⟨_, rfl, _, rfl, rtx r m, rfl, ?_⟩
    rw [cut_head]
    refine ⟨lineK (by show 1 ≤ 10000; decide), line6 (by show 2 ≤ 1000; decide), fun t nt => ?_⟩
    have s1 := Same.new (o := .tup [V.str "+", .str "-"]) nt
    have et : upd H t (.tup [V.str "+", .str "-"]) t = some (.tup [V.str "+", .str "-"]) := upd_same
    generalize upd H t (.tup [V.str "+", .str "-"]) = H1 at s1 et ⊢
    refine ⟨t, _, rfl, .inr (sqT et), rfl, rfl, _, rfl, iteBN (by show (!inV _ _) = false; rw [hin]; rfl) ?_⟩
    refine ⟨_, rfl, _, rfl, rtx r m, rfl, ?_⟩
    rw [cut_rest]
    have hcs : ((List.range m).map (cod r)).toArray.size = m := by rw [List.size_toArray, List.length_map, List.length_range]
    have hcod : ∀ i, cod r i < 128 := fun i => (let_at (idx r i) (idx_lt r i)).2.2
    refine ⟨lineK (by show ((List.range m).map (cod r)).toArray.size ≤ _; rw [hcs]; omega), _, rfl, ?_, comp_text (fun i => .int ((idx r i : Nat) : Int)) (lineK (by rw [hcs]; omega)) ?_ ?_⟩
    · show (((List.range m).map (cod r)).toArray.all fun x => decide (x < 128)) = true
      rw [List.all_toArray, List.all_eq_true]
      intro c hc
      obtain ⟨i, _, rfl⟩ := List.mem_map.mp hc
      exact decide_eq_true (hcod i)
    · intro i c H' Q' hi s' q'
      have hc : c = cod r i := by
        have hi' : ((List.range m).map (cod r))[i]? = some c := by rw [← List.getElem?_toArray]; exact hi
        rw [List.getElem?_map] at hi'
        obtain ⟨j, hj, rfl⟩ := Option.map_eq_some_iff.mp hi'
        have hlt : i < m := by have := (List.getElem?_eq_some_iff.mp hj).1; rwa [List.length_range] at this
        rw [List.getElem?_range hlt] at hj
        cases hj; rfl
      subst hc
      refine ⟨rfl, _, rfl, LET, _, rfl, rfl, ?_⟩
      have l4 := (let_at (idx r i) (idx_lt r i)).2.1
      rw [show fnd LET ⟨#[cod r i]⟩ = ((idx r i : Nat) : Int) from l4]
      exact q' H' (.refl H')
    intro p H2 s2 np ep
    rw [hcs] at ep
    have t2 := s1.trans s2
    have ep : H2 p = some (.lst (zV ((List.range m).map fun i => ((idx r i : Nat) : Int)))) := by rw [ep, zV, List.map_map]; rfl
    have hzl : (zV ((List.range m).map fun i => ((idx r i : Nat) : Int))).length = m := by simp [zV]
    dsimp only [gName]
    refine ⟨_, rfl, p, _, rfl, .inl (.of ep), _, _, rfl, rfl, _, rfl, iteDN (by rw [hzl]; omega) ?_⟩
    refine ⟨_, rfl, p, _, rfl, .inl (.of ep), _, _, rfl, rfl, _, rfl, iteDN (by rw [hzl]; omega) ?_⟩
    refine ⟨_, rfl, p, _, rfl, .of ep, by rw [List.length_map, List.length_range]; omega, fun M hM _ => ?_⟩
    have hM0 : 0 ≤ M := by
      obtain ⟨i, _, rfl⟩ := List.mem_map.mp hM
      exact Int.natCast_nonneg _
    refine ⟨_, _, rfl, rfl, _, rfl, iteDN (by omega) ?_⟩
    have ty : ∀ c : Nat, (List.range c).filter (fun _ => true) = List.range c := fun c => List.filter_eq_self.mpr fun _ _ => rfl
    have zget : ∀ {i : Nat} {y : V}, (zV ((List.range m).map fun i => ((idx r i : Nat) : Int)))[i]? = some y → i < m ∧ y = .int ((idx r i : Nat) : Int) := fun {i y} h => by
      have hlt : i < m := by have := (List.getElem?_eq_some_iff.mp h).1; rwa [hzl] at this
      rw [zV, List.getElem?_map, List.getElem?_map, List.getElem?_range hlt] at h
      cases h
      exact ⟨hlt, rfl⟩
    refine ⟨_, rfl, p, _, rfl, .of ep, comp_enumF (fun _ => true) (fun i => .int ((bN (bt r.x i) * 2 ^ i : Nat) : Int)) (.of ep) (lineK (by rw [hzl]; omega)) (fun i y H' Q' hi s' q' => q' H' (.refl H')) ?_ ?_⟩
    · intro i y H' Q' hi _ s' q'
      obtain ⟨him, rfl⟩ := zget hi
      refine ⟨_, rfl, _, _, rfl, rfl, _, rfl, _, _, rfl, rfl, ?_, ?_⟩
      · show CPow (Builtin.bitAnd ((idx r i : Nat) : Int) 1) (i : Int); rw [idx_and]; exact cpN _ (by omega)
      have := q' H' (.refl H')
      show Q' (.int (Builtin.bitAnd ((idx r i : Nat) : Int) 1 * 2 ^ (i : Int).toNat)) H'
      rw [idx_and, Int.toNat_natCast]
      rw [Int.natCast_mul, Int.natCast_pow] at this
      exact this
    intro p2 H3 s3 np2 ep2
    rw [hzl, ty] at ep2
    refine ⟨p2, ((List.range m).map fun i => ((bN (bt r.x i) * 2 ^ i : Nat) : Int)), rfl, .of (by rw [ep2, zV, List.map_map]; rfl), ?_⟩
    rw [bits_sum m (by omega) r.x x6 rok.x]
    have ep := s3 _ _ ep
    have t3 := t2.trans s3
    dsimp only [gName]
    refine ⟨_, rfl, p, _, rfl, .of ep, comp_enumF (fun _ => true) (fun i => .int ((bN (bt r.z i) * 2 ^ i : Nat) : Int)) (.of ep) (lineK (by rw [hzl]; omega)) (fun i y H' Q' hi s' q' => q' H' (.refl H')) ?_ ?_⟩
    · intro i y H' Q' hi _ s' q'
      obtain ⟨him, rfl⟩ := zget hi
      refine ⟨_, rfl, _, _, rfl, rfl, by show (0 : Int) ≤ 1; decide, _, rfl, _, _, rfl, rfl, ?_, ?_⟩
      · show CPow (((idx r i : Nat) : Int) / 2 ^ (1 : Int).toNat) (i : Int); rw [idx_shr]; exact cpN _ (by omega)
      have := q' H' (.refl H')
      show Q' (.int (((idx r i : Nat) : Int) / 2 ^ (1 : Int).toNat * 2 ^ (i : Int).toNat)) H'
      rw [idx_shr, Int.toNat_natCast (n := i)]
      rw [Int.natCast_mul, Int.natCast_pow] at this
      exact this
    intro p3 H4 s4 np3 ep3
    rw [hzl, ty] at ep3
    refine ⟨p3, ((List.range m).map fun i => ((bN (bt r.z i) * 2 ^ i : Nat) : Int)), rfl, .of (by rw [ep3, zV, List.map_map]; rfl), ?_⟩
    rw [bits_sum m (by omega) r.z z6 rok.z]
    have t4 := t3.trans s4
    dsimp only [gName]
    have at0' : atI (rtx r m).cps.toList 0 = some (sgc r) := by
      rw [rtx_cps]; exact atI_nat (xs := sgc r :: (List.range m).map (cod r)) (j := 0) rfl
    refine ⟨_, rfl, rtx r m, 0, sgc r, rfl, rfl, lineK (by rw [rtx_slen]; omega), at0', rfl, _, rfl, ?_⟩
    rcases rok.s with e | e
    · have e1 : sgc r = 43 := by unfold sgc; rw [e]; rfl
      refine iteB (by rw [e1]; decide +kernel) ⟨_, rfl, _, rfl, line6 (by show 3 ≤ 1000; decide), fun q nq => ?_⟩
      refine k q _ (t4.trans (Same.new nq)) (t4.free nq) ?_
      rw [upd_same]; show _ = some (HO.tup [V.int r.sg, V.int r.x, V.int r.z]); rw [e]
    · have e1 : sgc r = 45 := by unfold sgc; rw [e]; rfl
      refine iteBN (by rw [e1]; decide +kernel) ⟨_, rfl, _, rfl, _, rfl, line6 (by show 3 ≤ 1000; decide), fun q nq => ?_⟩
      refine k q _ (t4.trans (Same.new nq)) (t4.free nq) ?_
      rw [upd_same]; show _ = some (HO.tup [V.int r.sg, V.int r.x, V.int r.z]); rw [e]
  have bad := k2 hG
  cases hL : z.cps.toList with
  | nil =>
    have hz : z = "" := by
      apply Str.ext'
      apply Array.toList_inj.mp
      rw [hL]; decide +kernel
    subst hz
    refine ⟨_, rfl, _, rfl, "", rfl, ?_⟩
    have e0 : StrLaws.sliceText ("" : Str) none (some 1) = "" := by decide +kernel
    rw [e0]
    refine ⟨lineK (by decide +kernel), line6 (by show 2 ≤ 1000; decide), fun t nt => ?_⟩
    have s1 := Same.new (o := .tup [V.str "+", .str "-"]) nt
    refine ⟨t, _, rfl, .inr (sqT upd_same), rfl, rfl, _, rfl, iteB (by decide +kernel) ⟨line6 (by decide), bad _ s1⟩⟩
  | cons c L =>
    refine ⟨_, rfl, _, rfl, z, rfl, ?_⟩
    rw [cutH hL]
    refine ⟨lineK (by show 1 ≤ 10000; decide), line6 (by show 2 ≤ 1000; decide), fun t nt => ?_⟩
    have s1 := Same.new (o := .tup [V.str "+", .str "-"]) nt
    have et : upd H t (.tup [V.str "+", .str "-"]) t = some (.tup [V.str "+", .str "-"]) := upd_same
    generalize upd H t (.tup [V.str "+", .str "-"]) = H1 at s1 et ⊢
    refine ⟨t, _, rfl, .inr (sqT et), rfl, rfl, _, rfl, ?_⟩
    cases hin : inV (.str ⟨#[c]⟩) [.str "+", .str "-"] with
    | false => exact iteB rfl ⟨line6 (by decide), bad _ s1⟩
    | true =>
    have hc := (in_sign c).mp hin
    refine iteBN rfl ?_
    refine ⟨_, rfl, _, rfl, z, rfl, ?_⟩
    rw [cutR hL]
    have hzl : z.length = L.length + 1 := by rw [← cps_len, hL, List.length_cons]
    have hcs : L.toArray.size = L.length := by rw [List.size_toArray]
    have hlt : ∀ i, i < L.length → lt z i = L.getD i 0 := fun i hi => by unfold lt; rw [hL]; rfl
    refine ⟨lineK (by show L.toArray.size ≤ _; rw [hcs]; omega), _, rfl, ?_, comp_text (fun i => .int (fnd LET ⟨#[L.getD i 0]⟩)) (lineK (by rw [hcs]; omega)) ?_ ?_⟩
    · show (L.toArray.all fun x => decide (x < 128)) = true
      rw [List.all_toArray, List.all_eq_true]
      intro x hx
      have h2 : (z.cps.toList.all fun x => decide (x < 128)) = true := by
        have := ha
        unfold asc at this
        rw [← Array.all_toList] at this
        exact this
      rw [hL, List.all_cons, Bool.and_eq_true] at h2
      exact List.all_eq_true.mp h2.2 x hx
    · intro i x H' Q' hi s' q'
      have hx : x = L.getD i 0 := by
        have hi' : L[i]? = some x := by rw [← List.getElem?_toArray]; exact hi
        rw [List.getD_eq_getElem?_getD, hi']; rfl
      subst hx
      exact ⟨rfl, _, rfl, LET, _, rfl, rfl, q' H' (.refl H')⟩
    intro p H2 s2 np ep
    rw [hcs] at ep
    have t2 := s1.trans s2
    have ep : H2 p = some (.lst (zV ((List.range L.length).map fun i => fnd LET ⟨#[L.getD i 0]⟩))) := by rw [ep, zV, List.map_map]; rfl
    have hzz : (zV ((List.range L.length).map fun i => fnd LET ⟨#[L.getD i 0]⟩)).length = L.length := by simp [zV]
    dsimp only [gName]
    refine ⟨_, rfl, p, _, rfl, .inl (.of ep), _, _, rfl, rfl, _, rfl, ?_⟩
    by_cases l0 : L.length < 1
    · exact iteD (by rw [hzz]; omega) (iteT ⟨line6 (by decide), bad _ t2⟩)
    refine iteDN (by rw [hzz]; omega) ?_
    refine ⟨_, rfl, p, _, rfl, .inl (.of ep), _, _, rfl, rfl, _, rfl, ?_⟩
    by_cases l6 : L.length > 6
    · exact iteD (by rw [hzz]; omega) (iteT ⟨line6 (by decide), bad _ t2⟩)
    refine iteDN (by rw [hzz]; omega) ?_
    refine ⟨_, rfl, p, _, rfl, .of ep, by rw [List.length_map, List.length_range]; omega, fun M hM hMin => ?_⟩
    refine ⟨_, _, rfl, rfl, _, rfl, ?_⟩
    by_cases hM0 : M < 0
    · exact iteD hM0 ⟨line6 (by decide), bad _ t2⟩
    exfalso
    refine hG ⟨by omega, by omega, by rw [hL]; exact hc, fun i hi => ?_⟩
    rw [hlt i (by omega)]
    refine fnd_ok ?_
    have hmem : fnd LET ⟨#[L.getD i 0]⟩ ∈ (List.range L.length).map fun i => fnd LET ⟨#[L.getD i 0]⟩ := List.mem_map.mpr ⟨i, List.mem_range.mpr (by omega), rfl⟩
    have := hMin _ hmem
    omega
end

end K72

set_option maxHeartbeats 4000000
namespace K72
open PySem L2 TC
noncomputable def sp_lgate : Sp := fun vs H Q _ => ∃ c m : Int, vs = [.int c, .int m] ∧ 1 ≤ m ∧ m ≤ 6 ∧ ∀ (g : Addr) (H' : Hp) (gt : Gt), Same H H' → H g = none → H' g = some (.tup gt.vals) → gt.ok m.toNat → Q (.ref g) H'
section
variable {P : Program} {w : World} {K : PySem.W.Frag} {mg : Str → Option Value} {base : Heap}
noncomputable abbrev Wd : List V := [.str "mix", .str "flip", .str "sign", .str "follow", .str "meet", .str "swap"]
theorem pick3 (c : Int) : ∃ x : Str, atI Wd (c % 3) = some (.str x) ∧ ∀ n : Nat, ∃ gt : Gt, gt.vals = [.str x, .int n] ∧ ∀ m, n < m → gt.ok m := by
  have a := em_nn c (m := 3) (by decide)
  have b := em_lt c (m := 3) (by decide)
  have : c % 3 = 0 ∨ c % 3 = 1 ∨ c % 3 = 2 := by omega
  rcases this with e | e | e <;> rw [e]
  · exact ⟨"mix", rfl, fun n => ⟨.mix n, rfl, fun m h => h⟩⟩
  · exact ⟨"flip", rfl, fun n => ⟨.flip n, rfl, fun m h => h⟩⟩
  · exact ⟨"sign", rfl, fun n => ⟨.sign n, rfl, fun m h => h⟩⟩
theorem pick6 (c : Int) : (c % 6 < 3 ∧ ∃ x : Str, atI Wd (c % 6) = some (.str x) ∧ ∀ n : Nat, ∃ gt : Gt, gt.vals = [.str x, .int n] ∧ ∀ m, n < m → gt.ok m) ∨
    (¬ c % 6 < 3 ∧ ∃ x : Str, atI Wd (c % 6) = some (.str x) ∧ ∀ a b : Nat, ∃ gt : Gt, gt.vals = [.str x, .int a, .int b] ∧ ∀ m, a < m → b < m → a ≠ b → gt.ok m) := by
  have a := em_nn c (m := 6) (by decide)
  have b := em_lt c (m := 6) (by decide)
  have : c % 6 = 0 ∨ c % 6 = 1 ∨ c % 6 = 2 ∨ c % 6 = 3 ∨ c % 6 = 4 ∨ c % 6 = 5 := by omega
  rcases this with e | e | e | e | e | e <;> rw [e]
  · exact .inl ⟨by decide, "mix", rfl, fun n => ⟨.mix n, rfl, fun m h => h⟩⟩
  · exact .inl ⟨by decide, "flip", rfl, fun n => ⟨.flip n, rfl, fun m h => h⟩⟩
  · exact .inl ⟨by decide, "sign", rfl, fun n => ⟨.sign n, rfl, fun m h => h⟩⟩
  · exact .inr ⟨by decide, "follow", rfl, fun n k => ⟨.follow n k, rfl, fun m h h' h'' => ⟨h, h', h''⟩⟩⟩
  · exact .inr ⟨by decide, "meet", rfl, fun n k => ⟨.meet n k, rfl, fun m h h' h'' => ⟨h, h', h''⟩⟩⟩
  · exact .inr ⟨by decide, "swap", rfl, fun n k => ⟨.swap n k, rfl, fun m h h' h'' => ⟨h, h', h''⟩⟩⟩
theorem third {n r m : Int} (h1 : 2 ≤ m) (h2 : m ≤ 6) (n0 : 0 ≤ n) (n1 : n < m) (r0 : 0 ≤ r) (r1 : r < m - 1) : ∃ k : Nat, (n + 1 + r) % m = k ∧ (k : Int) < m ∧ (k : Int) ≠ n := by
  have : m = 2 ∨ m = 3 ∨ m = 4 ∨ m = 5 ∨ m = 6 := by omega
  rcases this with rfl | rfl | rfl | rfl | rfl <;> exact ⟨_, (Int.toNat_of_nonneg (by omega)).symm, by omega, by omega⟩
/- _law_gate: 0:_law_cell 1:_law_coins 2:_law_words 3:_law_word 4:_law_first -/
noncomputable abbrev s_law_gate : Stmt := top 19
theorem sc_law_gate : FnScope ["_law_cell", "_law_coins", "_law_words", "_law_word", "_law_first"] ["_law_cell", "_law_coins"] (defScope s_law_gate) := ⟨rfl, rfl, rfl, by decide +kernel, rfl, by decide +kernel, by decide +kernel⟩
theorem ok_lgate (T : Blt mg) (D : Def K mg "_law_gate" s_law_gate ["_law_cell", "_law_coins"]) : Cal P w K mg base CX0 1 "_law_gate" ["_law_cell", "_law_coins"] sp_lgate := by
  refine D.ok sc_law_gate (fun vs H Q E h => ?_) (fun f cdv A outer s H vs Q E hr h => ?_)
  · obtain ⟨c, m, rfl, _⟩ := h; rfl
  obtain ⟨c, m, rfl, m1, m6, k⟩ := h
  refine ⟨_, (pss_cons (ps_set (i := 2) sc_law_gate.nd rfl (Or.inl rfl) (pe_lst (pa_cons pe_str (pa_cons pe_str (pa_cons pe_str (pa_cons pe_str (pa_cons pe_str (pa_cons pe_str pa_nil))))))))
      (pss_cons (ps_if (pt_cmpR op_eq (pv 1) pe_int (nomark _))
        (pss_one (ps_ret (pe_tup (pa_cons (pe_ix (ix_listK K) (pv 2) (pe_op op_mod (pv 0) pe_int) (fun _ _ => rfl)) (pa_cons pe_int pa_nil)))))
        pss_nil)
      (pss_cons (ps_set (i := 3) sc_law_gate.nd rfl (Or.inl rfl) (pe_ix (ix_listK K) (pv 2) (pe_op op_mod (pv 0) pe_int) (fun _ _ => rfl)))
      (pss_cons (ps_set (i := 4) sc_law_gate.nd rfl (Or.inl rfl) (pe_op op_mod (pe_op op_fdivB (pv 0) pe_int) (pv 1)))
      (pss_cons (ps_if (pt_cmpR op_lt (pe_op op_mod (pv 0) pe_int) pe_int (nomark _))
        (pss_one (ps_ret (pe_tup (pa_cons (pv 3) (pa_cons (pv 4) pa_nil)))))
        pss_nil)
      (pss_one (ps_ret (pe_tup (pa_cons (pv 3) (pa_cons (pv 4) (pa_cons (pe_op op_mod (pe_op op_add (pe_op op_add (pv 4) pe_int) (pe_op op_mod (pe_op op_fdivB (pv 0) pe_int) (pe_op op_sub (pv 1) pe_int))) (pv 1)) pa_nil))))))))))), ?_⟩
  refine ⟨line6 (by show 6 ≤ 1000; decide), fun u hu => ?_⟩
  have eu : upd H u (.lst Wd) u = some (.lst Wd) := upd_same
  have s1 : Same H (upd H u (.lst Wd)) := Same.new hu
  refine ⟨_, rfl, rfl, _, rfl, ?_⟩
  refine ite2 (fun hc => ?_) (fun hc => ?_)
  · have e1 : m = 1 := by have := of_decide_eq_true hc; injection this
    subst e1
    obtain ⟨x, hx, hg⟩ := pick3 c
    obtain ⟨gt, hv, hok⟩ := hg 0
    refine ⟨_, rfl, _, rfl, _, _, rfl, rfl, (by show (0 : Int) < _; decide), u, _, _, _, rfl, rfl, .of eu, hx, line6 (by show 2 ≤ 1000; decide), fun g hg => ?_⟩
    exact k g _ gt (s1.trans (Same.new hg)) (s1.free hg) (by rw [upd_same, hv]; rfl) (hok _ (by decide))
  have hm2 : 2 ≤ m := by
    have : m ≠ 1 := fun z => hc (decide_eq_true (by rw [z]))
    omega
  have f0 := em_nn (c.fdiv 6) (m := m) (by omega)
  have f1 := em_lt (c.fdiv 6) (m := m) (by omega)
  obtain ⟨n, hn⟩ : ∃ n : Nat, c.fdiv 6 % m = n := ⟨_, (Int.toNat_of_nonneg f0).symm⟩
  have r0 := em_nn (c.fdiv 36) (m := m - 1) (by omega)
  have r1 := em_lt (c.fdiv 36) (m := m - 1) (by omega)
  obtain ⟨j, hj, hj1, hj2⟩ := third hm2 m6 f0 f1 r0 r1
  rcases pick6 c with ⟨hlt, x, hx, hg⟩ | ⟨hlt, x, hx, hg⟩
  · obtain ⟨gt, hv, hok⟩ := hg n
    refine ⟨_, rfl, _, rfl, _, _, rfl, rfl, (by show (0 : Int) < _; decide), u, _, _, _, rfl, rfl, .of eu, hx, ?_⟩
    refine ⟨_, rfl, _, _, rfl, rfl, cdB (by decide) (by decide), _, rfl, _, _, rfl, rfl, (by show (0 : Int) < m; omega), ?_⟩
    refine ⟨_, rfl, _, _, rfl, rfl, (by show (0 : Int) < _; decide), _, _, rfl, rfl, _, rfl, iteD hlt ?_⟩
    refine ⟨_, rfl, _, rfl, line6 (by show 2 ≤ 1000; decide), fun g hg => ?_⟩
    exact k g _ gt (s1.trans (Same.new hg)) (s1.free hg) (by rw [upd_same, hv, ← hn]) (hok _ (by omega))
  · obtain ⟨gt, hv, hok⟩ := hg n j
    refine ⟨_, rfl, _, rfl, _, _, rfl, rfl, (by show (0 : Int) < _; decide), u, _, _, _, rfl, rfl, .of eu, hx, ?_⟩
    refine ⟨_, rfl, _, _, rfl, rfl, cdB (by decide) (by decide), _, rfl, _, _, rfl, rfl, (by show (0 : Int) < m; omega), ?_⟩
    refine ⟨_, rfl, _, _, rfl, rfl, (by show (0 : Int) < _; decide), _, _, rfl, rfl, _, rfl, iteDN hlt ?_⟩
    refine ⟨_, rfl, _, rfl, _, rfl, _, _, rfl, rfl, _, rfl, _, _, rfl, rfl, cdB (by decide) (by decide), _, rfl, _, _, rfl, rfl, _, _, rfl, rfl, (by show (0 : Int) < m - 1; omega), _, _, rfl, rfl, _, rfl, _, _, rfl, rfl, (by show (0 : Int) < m; omega), line6 (by show 3 ≤ 1000; decide), fun g hg => ?_⟩
    exact k g _ gt (s1.trans (Same.new hg)) (s1.free hg) (by rw [upd_same, hv, ← hn, ← hj]) (hok _ (by omega) (by omega) (by omega))
end

theorem sg_at {r : Rw} (h : one r.sg) : atI [V.str "+", V.str "-"] (if decide (V.int r.sg = V.int (-1)) = true then 1 else 0) = some (.str ⟨#[sgc r]⟩) := by
  rcases h with h | h
  · have e : sgc r = 43 := by unfold sgc; rw [h]; rfl
    rw [h, e]; decide +kernel
  · have e : sgc r = 45 := by unfold sgc; rw [h]; rfl
    rw [h, e]; decide +kernel
theorem rtx_zero (r : Rw) : (⟨#[sgc r]⟩ : Str) = rtx r 0 := rfl
theorem rtx_step (r : Rw) (i : Nat) : rtx r i ++ ⟨#[cod r i]⟩ = rtx r (i + 1) := by
  apply Str.ext'
  apply Array.toList_inj.mp
  rw [rtx_cps, List.range_succ, List.map_append]
  show ((rtx r i).cps ++ #[cod r i]).toList = _
  rw [Array.toList_append, rtx_cps]; rfl
theorem let_v : ∀ i : Nat, i < 4 → atI [V.str ".", V.str "x", V.str "z", V.str "y"] (i : Int) = some (.str ⟨#[LET.cps.toList.getD i 46]⟩) := by
  have h0 : atI [V.str ".", V.str "x", V.str "z", V.str "y"] ((0 : Nat) : Int) = some (.str ⟨#[LET.cps.toList.getD 0 46]⟩) := by decide +kernel
  have h1 : atI [V.str ".", V.str "x", V.str "z", V.str "y"] ((1 : Nat) : Int) = some (.str ⟨#[LET.cps.toList.getD 1 46]⟩) := by decide +kernel
  have h2 : atI [V.str ".", V.str "x", V.str "z", V.str "y"] ((2 : Nat) : Int) = some (.str ⟨#[LET.cps.toList.getD 2 46]⟩) := by decide +kernel
  have h3 : atI [V.str ".", V.str "x", V.str "z", V.str "y"] ((3 : Nat) : Int) = some (.str ⟨#[LET.cps.toList.getD 3 46]⟩) := by decide +kernel
  intro i hi
  have : i = 0 ∨ i = 1 ∨ i = 2 ∨ i = 3 := by omega
  rcases this with rfl | rfl | rfl | rfl
  · exact h0
  · exact h1
  · exact h2
  · exact h3
section
variable {P : Program} {w : World} {K : PySem.W.Frag} {mg : Str → Option Value} {base : Heap}
/- _law_gates_text: 0:_law_gates -/
noncomputable abbrev s_law_gates_text : Stmt := top 20
theorem sc_law_gates_text : FnScope ["_law_gates"] ["_law_gates"] (defScope s_law_gates_text) := ⟨rfl, rfl, rfl, by decide +kernel, rfl, by decide +kernel, by decide +kernel⟩
theorem ok_gtext (T : Blt mg) (D : Def K mg "_law_gates_text" s_law_gates_text ["_law_gates"]) : Cal P w K mg base CX0 1 "_law_gates_text" ["_law_gates"] (sp_sgates K) := by
  refine D.ok sc_law_gates_text (fun vs H Q E h => ?_) (fun f cdv A outer s H vs Q E hr h => ?_)
  · obtain ⟨a, as, gs, rfl, _⟩ := h; rfl
  obtain ⟨a, as, gs, rfl, hS, hG, hl, k⟩ := h
  have hal : as.length = gs.length := hG.l
  have lb : (1000 : Nat) ≤ sizeLine := line6 (by decide)
  refine ⟨_, (pss_one (ps_ret (pe_bmK K PySem.F.plainAttrs_str PySem.F.slot_str_join PySem.F.type_str_join (mt_join K) pe_str (pa_cons (pe_comp rfl sc_law_gates_text.nd (cs (N := ["_law_gates"]) (osc := defScope s_law_gates_text) (by decide +kernel)) (pi_listK K (pv 0)) (fun _ _ _ _ => pifs_nil) (fun _ _ _ _ => (pe_bmK K PySem.F.plainAttrs_str PySem.F.slot_str_join PySem.F.type_str_join (mt_join K) pe_str (pa_cons (pe_op op_cat (pe_lst (pa_cons (pe_ix (ix_tupK K) (pv 0) pe_int (fun _ _ => rfl)) pa_nil)) (pe_comp rfl (show (["_law_gate_here", "_law_gates"] : List Str).Nodup by decide +kernel) (csN (N := ["_law_gate_here", "_law_gates"]) (N' := ["_law_gate_here", "_law_gates"]) (osc := defScope s_law_gates_text) rfl (by decide +kernel)) (pi_tupK K (pe_slice (sl_tupK K) (pv 0) (po_some pe_int) po_none)) (fun _ _ _ _ => pifs_nil) (fun _ _ _ _ => (pe_callTy call_str_int (by rfl) T.n_str bt_str (pa_cons (pv 0) pa_nil))))) pa_nil)))) pa_nil)))), ?_⟩
  refine ⟨rfl, ?_⟩
  refine ⟨_, rfl, a, rfl, ⟨_, hS⟩, comp_listP (K := K) (a := a) (xs := rV as) (fun i ys H' => ys = ((gs.take i).map gtx).map V.str ∧ Same H H') ⟨rfl, .refl H⟩ (fun i ys H' hi ⟨e, s'⟩ => ⟨s'.seq hS, by rw [rV, List.length_map] at hi; rw [e, List.length_map, List.length_map, List.length_take]; omega⟩) (line6 (by rw [rV, List.length_map]; omega)) ?_ ?_⟩
  · rintro i x ys H' Q' hi ⟨rfl, s'⟩ q'
    obtain ⟨b, hb, rfl⟩ := rs_get hi
    obtain ⟨g, hg1, eb, gok⟩ := hG.g i b hb
    have q' : ∀ H2, Same H' H2 → Q' (.str (gtx g)) H2 := fun H2 s2 => q' _ _ ⟨by rw [List.take_add_one, hg1, Option.toList_some, List.map_append, List.map_append]; rfl, s'.trans s2⟩
    have eb := s' _ _ eb
    rw [gvals] at eb
    have hc := gcoins gok
    have hgl := glen g
    have key : gtx g = Str.join " " ((gwd g).1 :: (gwd g).2.map nst) := rfl
    have hwl := gws_len gok
    have hwn := gws_n g
    have e0 : gws g = (gwd g).1 :: (gwd g).2.map nst := rfl
    rw [e0] at hwl hwn
    rw [key] at q'
    generalize (gwd g).1 = x at eb q' hwl hwn
    generalize (gwd g).2 = L at eb q' hc hgl hwl hwn
    have hL2 : L.length ≤ 2 := by omega
    refine ⟨rfl, ?_⟩
    refine ⟨_, rfl, b, _, _, _, rfl, rfl, sqT eb, atI_nat (xs := V.str x :: cV L) (j := 0) rfl, line6 (by show 1 ≤ 1000; decide), fun l1 nl1 => ?_⟩
    have s1 := Same.new (o := .lst [V.str x]) nl1
    have e1 : upd H' l1 (.lst [V.str x]) l1 = some (.lst [V.str x]) := upd_same
    generalize upd H' l1 (.lst [V.str x]) = H1 at s1 e1 ⊢
    refine ⟨_, rfl, _, rfl, b, _, rfl, sqT (s1 _ _ eb), fun z => by (have := z.1; rw [sIx1 (by simp)] at this; cases this), fun q nq => ?_⟩
    rw [cut1]
    generalize hGG : upd H1 q _ = H2
    have eq2 : H2 q = some (.tup (cV L)) := by rw [← hGG]; exact upd_same
    have s2 : Same H1 H2 := hGG ▸ Same.new nq
    clear hGG
    refine ⟨q, rfl, ⟨_, sqT eq2⟩, comp_tup tsV (sqT eq2) (line6 (by rw [List.length_map]; omega)) ?_ ?_⟩
    · intro i y H' Q' hi s' q'
      obtain ⟨c, hci, rfl⟩ := cs_get hi
      have := hc c (List.mem_of_getElem? hci)
      exact ⟨_, rfl, (c : Int), rfl, log_small c (by omega), q' H' (.refl H')⟩
    intro r H3 s3 nr er
    rw [ts_map] at er
    have e1 := s3 _ _ (s2 _ _ e1)
    refine ⟨l1, r, _, _, rfl, rfl, e1, er, by show 1 + ((L.map nst).map V.str).length ≤ _; rw [List.length_map, List.length_map]; omega, fun t nt => ?_⟩
    refine ⟨" ", t, x :: L.map nst, rfl, rfl, .of upd_same, Nat.le_trans (fold_le _ hwl) (lineK ?_), ?_, ?_⟩
    · rw [sp1]; have := Nat.mul_le_mul hwn (Nat.le_refl (6 + 1)); omega
    · rw [jn_join]; have := join_len (y := " ") _ hwl; rw [sp1] at this; have := Nat.mul_le_mul hwn (Nat.le_refl (6 + 1)); exact lineK (by omega)
    · rw [jn_join]; exact q' _ (((s1.trans s2).trans s3).trans (Same.new nt))
  · rintro ys H' p ⟨rfl, s'⟩ np
    rw [rV, List.length_map, hal, List.take_length]
    have hok : ∀ g ∈ gs, g.ok 6 := fun g hg => by
      obtain ⟨i, hi⟩ := List.mem_iff_getElem?.mp hg
      obtain ⟨b, hb⟩ : ∃ b, as[i]? = some b := ⟨as[i]'(by rw [hal]; exact (List.getElem?_eq_some_iff.mp hi).1), List.getElem?_eq_getElem _⟩
      obtain ⟨g', h1, _, h3⟩ := hG.g i b hb
      rw [hi] at h1; cases h1; exact h3
    have hz : ∀ z ∈ gs.map gtx, z.length ≤ 21 := fun z hz => by
      obtain ⟨g, hg, rfl⟩ := List.mem_map.mp hz
      exact gtx_len (hok g hg)
    have hm : gs.length * (21 + 2) ≤ 60 * 23 := Nat.mul_le_mul hl (Nat.le_refl _)
    refine ⟨"; ", p, gs.map gtx, rfl, rfl, .of upd_same, Nat.le_trans (fold_le _ hz) (lineK (by rw [sc2, List.length_map]; omega)), ?_, ?_⟩
    · rw [jn_join]; exact lineK (by have := gtxs_len hok hl; unfold gtxs at this; omega)
    · rw [jn_join]; exact k _ (s'.trans (Same.new np))
/- _law_row_text: 0:_law_row 1:_law_coins 2:_law_text 3:_law_coin -/
noncomputable abbrev s_law_row_text : Stmt := top 21
theorem sc_law_row_text : FnScope ["_law_row", "_law_coins", "_law_text", "_law_coin"] ["_law_row", "_law_coins"] (defScope s_law_row_text) := ⟨rfl, rfl, rfl, by decide +kernel, rfl, by decide +kernel, by decide +kernel⟩
theorem ok_rtext (T : Blt mg) (D : Def K mg "_law_row_text" s_law_row_text ["_law_row", "_law_coins"]) : Cal P w K mg base CX0 1 "_law_row_text" ["_law_row", "_law_coins"] (sp_srow K) := by
  refine D.ok sc_law_row_text (fun vs H Q E h => ?_) (fun f cdv A outer s H vs Q E hr h => ?_)
  · obtain ⟨a, r, m, rfl, _⟩ := h; rfl
  obtain ⟨a, r, m, rfl, hA, rok, m6, k⟩ := h
  have x6 : r.x < 64 := Nat.lt_of_lt_of_le rok.x (Nat.pow_le_pow_right (n := 2) (by decide) m6)
  have z6 : r.z < 64 := Nat.lt_of_lt_of_le rok.z (Nat.pow_le_pow_right (n := 2) (by decide) m6)
  refine ⟨_, (pss_cons (ps_set (i := 2) sc_law_row_text.nd rfl (Or.inl rfl) (pe_ix (ix_listK K) (pe_lst (pa_cons pe_str (pa_cons pe_str pa_nil))) (pe_callTy call_int1 (by rfl) T.n_int bt_int (pa_cons (pe_cmpR op_eq (pe_ix (ix_tupK K) (pv 0) pe_int (fun _ _ => rfl)) (pe_un un_neg pe_int) (nomark _)) pa_nil)) (fun _ _ => rfl)))
      (pss_cons (ps_for PassesOwn.never rfl (pi_range1 rfl T.n_range (pa_cons (pv 1) pa_nil)) (pg_name (i := 3) sc_law_row_text.nd rfl (Or.inl rfl))
        (pss_one (ps_set (i := 2) sc_law_row_text.nd rfl (Or.inl rfl) (pe_op op_add_str (pv 2) (pe_ix (ix_listK K) (pe_lst (pa_cons pe_str (pa_cons pe_str (pa_cons pe_str (pa_cons pe_str pa_nil))))) (pe_op op_add (pe_op op_and (pe_op op_shr (pe_ix (ix_tupK K) (pv 0) pe_int (fun _ _ => rfl)) (pv 3)) pe_int) (pe_op op_mulB pe_int (pe_op op_and (pe_op op_shr (pe_ix (ix_tupK K) (pv 0) pe_int (fun _ _ => rfl)) (pv 3)) pe_int))) (fun _ _ => rfl))))))
      (pss_one (ps_ret (pv 2))))), ?_⟩
  refine ⟨line6 (by show 2 ≤ 1000; decide), fun u nu => ?_⟩
  have s1 := Same.new (o := .lst [V.str "+", .str "-"]) nu
  have eu : upd H u (.lst [V.str "+", .str "-"]) u = some (.lst [V.str "+", .str "-"]) := upd_same
  generalize upd H u (.lst [V.str "+", .str "-"]) = H1 at s1 eu ⊢
  refine ⟨_, rfl, a, _, _, _, rfl, rfl, s1.tup hA, rfl, _, rfl, rfl, .inr ⟨_, rfl, u, _, _, _, rfl, rfl, .of eu, sg_at rok.s, ?_⟩⟩
  dsimp only [gName]
  rw [rtx_zero]
  refine ⟨_, rfl, (m : Int), rfl, by omega, by omega, for_range (lo := 0) (n := (m : Int).toNat) (fun i σ H' => ∃ v3 : Option V, σ = [some (.ref a), some (.int m), some (.str (rtx r i)), v3] ∧ Same H H') ⟨_, rfl, s1⟩ ?_ ?_⟩
  · rintro i σ H2 hi ⟨v3, rfl, s2⟩
    rw [Int.zero_add]
    refine ⟨_, rfl, line6 (by show 4 ≤ 1000; decide), fun u nu => ?_⟩
    have s3 := Same.new (o := .lst [V.str ".", .str "x", .str "z", .str "y"]) nu
    have eu : upd H2 u (.lst [V.str ".", .str "x", .str "z", .str "y"]) u = some (.lst [V.str ".", .str "x", .str "z", .str "y"]) := upd_same
    generalize upd H2 u (.lst [V.str ".", .str "x", .str "z", .str "y"]) = H3 at s3 eu ⊢
    have t3 := s2.trans s3
    have bz : Builtin.bitAnd ((r.z : Int) / 2 ^ (i : Int).toNat) 1 = ((bN (bt r.z i) : Nat) : Int) := bitof_is r.z z6 i (by omega)
    have bx : Builtin.bitAnd ((r.x : Int) / 2 ^ (i : Int).toNat) 1 = ((bN (bt r.x i) : Nat) : Int) := bitof_is r.x x6 i (by omega)
    have b1 : ((bN (bt r.z i) : Nat) : Int) ≤ 1 := by cases bt r.z i <;> decide
    have hat : atI [V.str ".", V.str "x", V.str "z", V.str "y"] (Builtin.bitAnd ((r.x : Int) / 2 ^ (i : Int).toNat) 1 + 2 * Builtin.bitAnd ((r.z : Int) / 2 ^ (i : Int).toNat) 1) = some (.str ⟨#[cod r i]⟩) := by
      rw [bx, bz, show ((bN (bt r.x i) : Nat) : Int) + 2 * ((bN (bt r.z i) : Nat) : Int) = ((idx r i : Nat) : Int) by unfold idx; omega]
      exact let_v (idx r i) (idx_lt r i)
    refine ⟨_, rfl, a, _, _, _, rfl, rfl, t3.tup hA, rfl, _, rfl, _, _, rfl, rfl, Int.natCast_nonneg i, _, _, rfl, rfl, _, rfl, a, _, _, _, rfl, rfl, t3.tup hA, rfl, _, rfl, _, _, rfl, rfl, Int.natCast_nonneg i, _, _, rfl, rfl, _, _, rfl, rfl, ⟨big (by decide) (by decide), big (by show _ < Builtin.bitAnd ((r.z : Int) / 2 ^ (i : Int).toNat) 1; rw [bz]; omega) (by show Builtin.bitAnd ((r.z : Int) / 2 ^ (i : Int).toNat) 1 < _; rw [bz]; omega)⟩, _, _, rfl, rfl, u, _, _, _, rfl, rfl, .of eu, hat, ?_⟩
    exact ⟨_, ⟨#[cod r i]⟩, rfl, rfl, lineK (by rw [rtx_slen]; show i + 1 + 1 ≤ 10000; omega), some (V.int (i : Int)), by rw [← rtx_step]; rfl, t3⟩
  · rw [Int.toNat_natCast]
    rintro σ H2 ⟨v3, rfl, s2⟩
    exact ⟨_, rfl, k H2 s2⟩
end

end K72

set_option maxHeartbeats 4000000
namespace K72
open PySem L2 TC
theorem asc_iff {z : Str} : asc z ↔ ∀ x ∈ z.cps.toList, x < 128 := by
  unfold asc
  rw [← Array.all_toList, List.all_eq_true]
  exact ⟨fun h x hx => of_decide_eq_true (h x hx), fun h x hx => decide_eq_true (h x hx)⟩
theorem asc_app {a b : Str} (ha : asc a) (hb : asc b) : asc (a ++ b) := asc_iff.mpr fun x hx => by
  rw [cps_app] at hx
  rcases List.mem_append.mp hx with h | h
  · exact asc_iff.mp ha x h
  · exact asc_iff.mp hb x h
theorem sl_to {z : Str} {k : Nat} (h : k ≤ z.length) : StrLaws.sliceText z none (some (k : Int)) = ⟨(z.cps.toList.take k).toArray⟩ := by
  rw [StrLaws.sliceText_to ⟨Int.natCast_nonneg _, by rw [cps_len]; omega⟩]
  show (⟨(List.take ((k : Int) - 0).toNat (List.drop 0 z.cps.toList)).toArray⟩ : Str) = _
  rw [Int.sub_zero, Int.toNat_natCast]; rfl
theorem sl_from {z : Str} {k : Nat} (h : k ≤ z.length + 1) : StrLaws.sliceText z (some (k : Int)) none = ⟨(z.cps.toList.drop k).toArray⟩ := by
  have main : ∀ j : Nat, j ≤ z.length → StrLaws.sliceText z (some (j : Int)) none = ⟨(z.cps.toList.drop j).toArray⟩ := fun j hj => by
    rw [StrLaws.sliceText_from ⟨Int.natCast_nonneg _, by rw [cps_len]; omega⟩, Int.toNat_natCast, List.take_of_length_le (by rw [List.length_drop, cps_len]; omega)]
  by_cases hk : k ≤ z.length
  · exact main k hk
  · have hk : k = z.length + 1 := by omega
    subst hk
    have e : Builtin.Str.strSliceIndices (some ((z.length + 1 : Nat) : Int)) none 1 z.length = Builtin.Str.strSliceIndices (some ((z.length : Nat) : Int)) none 1 z.length := by
      unfold Builtin.Str.strSliceIndices
      have e1 : max 0 (min (if ((z.length + 1 : Nat) : Int) < 0 then ((z.length + 1 : Nat) : Int) + (z.length : Int) else ((z.length + 1 : Nat) : Int)) (z.length : Int)) = (z.length : Int) := by
        rw [if_neg (by omega)]; omega
      have e2 : max 0 (min (if ((z.length : Nat) : Int) < 0 then ((z.length : Nat) : Int) + (z.length : Int) else ((z.length : Nat) : Int)) (z.length : Int)) = (z.length : Int) := by
        rw [if_neg (by omega)]; omega
      show sliceRange (max 0 (min (if ((z.length + 1 : Nat) : Int) < 0 then ((z.length + 1 : Nat) : Int) + (z.length : Int) else ((z.length + 1 : Nat) : Int)) (z.length : Int))) _ 1 = sliceRange (max 0 (min (if ((z.length : Nat) : Int) < 0 then ((z.length : Nat) : Int) + (z.length : Int) else ((z.length : Nat) : Int)) (z.length : Int))) _ 1
      rw [e1, e2]
    have e3 : StrLaws.sliceText z (some ((z.length + 1 : Nat) : Int)) none = StrLaws.sliceText z (some ((z.length : Nat) : Int)) none := by
      unfold StrLaws.sliceText
      rw [e]
    rw [e3, main z.length (Nat.le_refl _), List.drop_of_length_le (by rw [cps_len]; exact Nat.le_refl _), List.drop_of_length_le (by rw [cps_len]; omega)]
theorem asc_sub {z : Str} (hz : asc z) {L : List Nat} (h : ∀ x ∈ L, x ∈ z.cps.toList) : asc ⟨L.toArray⟩ := asc_iff.mpr fun x hx => asc_iff.mp hz x (h x (by simpa using hx))
theorem len_mk (L : List Nat) : (⟨L.toArray⟩ : Str).length = L.length := by rw [← cps_len]
noncomputable def sp_spo : Sp := fun vs H Q _ => ∃ (z : Str) (c : Int), vs = [.str z, .int c] ∧ asc z ∧ z.length ≤ 200 ∧ ∀ z' H', Same H H' → asc z' → z'.length ≤ 201 → Q (.str z') H'
noncomputable def sp_odd : Sp := fun vs H Q _ => vs = [] ∧ ∀ q (zs : List Str) H', Same H H' → H' q = some (.lst (zs.map V.str)) → zs.length = 42 → (∀ z ∈ zs, asc z ∧ z.length ≤ 200) → Q (.ref q) H'
noncomputable abbrev SGN : Str := "+-.xzy 0123456;mixfolwsap" ++ "MX\n"
theorem sgn_is : SGN.length = 28 ∧ asc SGN ∧ ("+-.xzy 0123456;mixfolwsap" : Str).length + ("MX\n" : Str).length = 28 := by
  refine ⟨by decide +kernel, by unfold asc; decide +kernel, by decide +kernel⟩
section
variable {P : Program} {w : World} {K : PySem.W.Frag} {mg : Str → Option Value} {base : Heap}
/- _law_spoilt: 0:_law_text 1:_law_cell 2:_law_signs 3:_law_sign 4:_law_at -/
noncomputable abbrev s_law_spoilt : Stmt := top 22
theorem sc_law_spoilt : FnScope ["_law_text", "_law_cell", "_law_signs", "_law_sign", "_law_at"] ["_law_text", "_law_cell"] (defScope s_law_spoilt) := ⟨rfl, rfl, rfl, by decide +kernel, rfl, by decide +kernel, by decide +kernel⟩
theorem ok_spo (T : Blt mg) (D : Def K mg "_law_spoilt" s_law_spoilt ["_law_text", "_law_cell"]) : Cal P w K mg base CX0 1 "_law_spoilt" ["_law_text", "_law_cell"] sp_spo := by
  refine D.ok sc_law_spoilt (fun vs H Q E h => ?_) (fun f cdv A outer s H vs Q E hr h => ?_)
  · obtain ⟨z, c, rfl, _⟩ := h; rfl
  obtain ⟨z, c, rfl, ha, hz, k⟩ := h
  have lb : (10000 : Nat) ≤ sizeLine := lineK (Nat.le_refl _)
  refine ⟨_, (pss_cons (ps_set (i := 2) sc_law_spoilt.nd rfl (Or.inl rfl) (pe_op op_add_str pe_str pe_str))
      (pss_cons (ps_set (i := 3) sc_law_spoilt.nd rfl (Or.inl rfl) (pe_ix ix_str (pv 2) (pe_op op_mod (pe_op op_fdivB (pv 1) pe_int) (pe_callB call_len_str (by rfl) T.n_len bt_len (pa_cons (pv 2) pa_nil))) (fun _ _ => rfl)))
      (pss_cons (ps_set (i := 4) sc_law_spoilt.nd rfl (Or.inl rfl) (pe_op op_mod (pe_op op_fdivB (pv 1) pe_int) (pe_op op_add (pe_callB call_len_str (by rfl) T.n_len bt_len (pa_cons (pv 0) pa_nil)) pe_int)))
      (pss_cons (ps_if (pt_cmpR op_eq (pe_op op_mod (pv 1) pe_int) pe_int (nomark _))
        (pss_one (ps_ret (pe_op op_add_str (pe_op op_add_str (pe_slice sl_str (pv 0) po_none (po_some (pv 4))) (pv 3)) (pe_slice sl_str (pv 0) (po_some (pv 4)) po_none))))
        pss_nil)
      (pss_cons (ps_if (pt_cmpR op_eq (pe_op op_mod (pv 1) pe_int) pe_int (nomark _))
        (pss_one (ps_ret (pe_op op_add_str (pe_slice sl_str (pv 0) po_none (po_some (pv 4))) (pe_slice sl_str (pv 0) (po_some (pe_op op_add (pv 4) pe_int)) po_none))))
        pss_nil)
      (pss_cons (ps_if (pt_cmpR op_eq (pe_op op_mod (pv 1) pe_int) pe_int (nomark _))
        (pss_one (ps_ret (pe_op op_add_str (pe_op op_add_str (pe_slice sl_str (pv 0) po_none (po_some (pv 4))) (pv 3)) (pe_slice sl_str (pv 0) (po_some (pe_op op_add (pv 4) pe_int)) po_none))))
        pss_nil)
      (pss_one (ps_ret (pv 0))))))))), ?_⟩
  refine ⟨_, _, rfl, rfl, by rw [sgn_is.2.2]; omega, ?_⟩
  refine ⟨_, rfl, _, rfl, _, _, rfl, rfl, cdB (by decide) (by decide), _, rfl, SGN, rfl, by rw [sgn_is.1]; omega, _, _, rfl, rfl, (by show (0 : Int) < (SGN.length : Int); rw [sgn_is.1]; decide), ?_⟩
  have a0 := em_nn (c.fdiv 4) (m := (SGN.length : Int)) (by rw [sgn_is.1]; decide)
  have a1 := em_lt (c.fdiv 4) (m := (SGN.length : Int)) (by rw [sgn_is.1]; decide)
  obtain ⟨n, hn⟩ : ∃ n : Nat, c.fdiv 4 % (SGN.length : Int) = (n : Int) := ⟨(c.fdiv 4 % (SGN.length : Int)).toNat, by omega⟩
  have hnl : n < SGN.cps.toList.length := by rw [cps_len]; omega
  refine ⟨SGN, (n : Int), SGN.cps.toList[n], rfl, by rw [← hn], by rw [sgn_is.1]; omega, atI_nat (List.getElem?_eq_getElem hnl), ?_⟩
  have hs : SGN.cps.toList[n] < 128 := asc_iff.mp sgn_is.2.1 _ (List.getElem_mem hnl)
  generalize SGN.cps.toList[n] = sg at hs
  have hsa : asc ⟨#[sg]⟩ := asc_iff.mpr fun x hx => by
    have e : x = sg := by simpa using hx
    rw [e]; exact hs
  refine ⟨_, rfl, _, _, rfl, rfl, cdB (by decide) (by decide), _, rfl, z, rfl, by omega, _, _, rfl, rfl, _, _, rfl, rfl, (by show (0 : Int) < (z.length : Int) + 1; omega), ?_⟩
  have b0 := em_nn (c.fdiv 128) (m := (z.length : Int) + 1) (by omega)
  have b1 := em_lt (c.fdiv 128) (m := (z.length : Int) + 1) (by omega)
  obtain ⟨a, hae, hal⟩ : ∃ n : Nat, c.fdiv 128 % ((z.length : Int) + 1) = (n : Int) ∧ n ≤ z.length := ⟨(c.fdiv 128 % ((z.length : Int) + 1)).toNat, by omega, by omega⟩
  dsimp only [gName]
  rw [hae]
  have A1 : asc ⟨(z.cps.toList.take a).toArray⟩ := asc_sub ha fun x hx => List.mem_of_mem_take hx
  have A2 : ∀ k, asc ⟨(z.cps.toList.drop k).toArray⟩ := fun k => asc_sub ha fun x hx => List.mem_of_mem_drop hx
  have l1 : (⟨(z.cps.toList.take a).toArray⟩ : Str).length ≤ a := by rw [len_mk, List.length_take]; omega
  have l2 : ∀ k, (⟨(z.cps.toList.drop k).toArray⟩ : Str).length = z.length - k := fun k => by rw [len_mk, List.length_drop, cps_len]
  have ls : (⟨#[sg]⟩ : Str).length = 1 := rfl
  have e1 := sl_to (z := z) hal
  have e2 := sl_from (z := z) (k := a) (by omega)
  have e3 := sl_from (z := z) (k := a + 1) (by omega)
  rw [Int.natCast_add] at e3
  generalize (⟨(z.cps.toList.take a).toArray⟩ : Str) = X at A1 l1 e1
  have la := l2 a
  have la1 := l2 (a + 1)
  have Ba := A2 a
  have Ba1 := A2 (a + 1)
  generalize (⟨(z.cps.toList.drop a).toArray⟩ : Str) = Y at la e2 Ba
  generalize (⟨(z.cps.toList.drop (a + 1)).toArray⟩ : Str) = Y1 at la1 e3 Ba1
  refine ⟨_, rfl, _, _, rfl, rfl, (by show (0 : Int) < _; decide), rfl, _, rfl, ite2 (fun _ => ?_) (fun _ => ?_)⟩
  · refine ⟨_, rfl, _, rfl, _, rfl, z, rfl, ?_⟩
    rw [e1]
    refine ⟨by omega, _, rfl, _, _, rfl, rfl, by rw [ls]; omega, _, rfl, _, rfl, _, rfl, z, rfl, ?_⟩
    rw [e2]
    refine ⟨by omega, _, _, rfl, rfl, by rw [strLen_append, ls]; omega, k _ H (.refl H) (asc_app (asc_app A1 hsa) Ba) ?_⟩
    rw [strLen_append, strLen_append, ls]; omega
  refine ⟨_, rfl, _, _, rfl, rfl, (by show (0 : Int) < _; decide), rfl, _, rfl, ite2 (fun _ => ?_) (fun _ => ?_)⟩
  · refine ⟨_, rfl, _, rfl, _, rfl, z, rfl, ?_⟩
    rw [e1]
    refine ⟨by omega, _, rfl, _, rfl, _, _, rfl, rfl, _, rfl, z, rfl, ?_⟩
    show _ ∧ _
    rw [show StrLaws.sliceText z (some ((a : Int) + 1)) none = Y1 from e3]
    refine ⟨by omega, _, _, rfl, rfl, by omega, k _ H (.refl H) (asc_app A1 Ba1) ?_⟩
    rw [strLen_append]; omega
  refine ⟨_, rfl, _, _, rfl, rfl, (by show (0 : Int) < _; decide), rfl, _, rfl, ite2 (fun _ => ?_) (fun _ => ?_)⟩
  · refine ⟨_, rfl, _, rfl, _, rfl, z, rfl, ?_⟩
    rw [e1]
    refine ⟨by omega, _, rfl, _, _, rfl, rfl, by rw [ls]; omega, _, rfl, _, rfl, _, _, rfl, rfl, _, rfl, z, rfl, ?_⟩
    show _ ∧ _
    rw [show StrLaws.sliceText z (some ((a : Int) + 1)) none = Y1 from e3]
    refine ⟨by omega, _, _, rfl, rfl, by rw [strLen_append, ls]; omega, k _ H (.refl H) (asc_app (asc_app A1 hsa) Ba1) ?_⟩
    rw [strLen_append, strLen_append, ls]; omega
  · exact ⟨_, rfl, k z H (.refl H) ha (by omega)⟩
end

end K72

set_option maxHeartbeats 4000000
namespace K72
open PySem L2 TC
theorem in_pm (c : Nat) : (!(Builtin.Str.occurrences ("+-" : Str) ⟨#[c]⟩ 0 ("+-" : Str).length 1).isEmpty) = decide (c = 43 ∨ c = 45) := by
  rw [StrLaws.found_one]
  have e : ("+-" : Str).cps.toList = [43, 45] := by decide +kernel
  rw [e]
  exact decide_eq_decide.mpr (by simp)
theorem in_let (c : Nat) : inV (.str ⟨#[c]⟩) [.str ".", .str "x", .str "y", .str "z"] = true ↔ let4 c := by
  have e : inV (.str ⟨#[c]⟩) [.str ".", .str "x", .str "y", .str "z"] = ((("." : Str) == ⟨#[c]⟩) || ((("x" : Str) == ⟨#[c]⟩) || ((("y" : Str) == ⟨#[c]⟩) || ((("z" : Str) == ⟨#[c]⟩) || false)))) := rfl
  have one : ∀ k c : Nat, (⟨#[k]⟩ : Str) = ⟨#[c]⟩ ↔ c = k := fun k c => ⟨fun h => by injection h with h; have := congrArg Array.toList h; injection this with h _; exact h.symm, fun h => by rw [h]⟩
  have a1 : ("." : Str) = ⟨#[46]⟩ := by decide +kernel
  have a2 : ("x" : Str) = ⟨#[120]⟩ := by decide +kernel
  have a3 : ("y" : Str) = ⟨#[121]⟩ := by decide +kernel
  have a4 : ("z" : Str) = ⟨#[122]⟩ := by decide +kernel
  rw [e, Bool.or_false, Bool.or_eq_true, Bool.or_eq_true, Bool.or_eq_true, beq_iff_eq, beq_iff_eq, beq_iff_eq, beq_iff_eq, a1, a2, a3, a4, one, one, one, one]
  exact Iff.rfl
theorem rdue_sg (c : Nat) : (1 : Int) - 2 * (if decide (V.str ⟨#[c]⟩ = V.str "-") = true then 1 else 0) = if c = 45 then -1 else 1 := by
  have a2 : ("-" : Str) = ⟨#[45]⟩ := by decide +kernel
  by_cases h : c = 45
  · subst h
    rw [decide_eq_true (by rw [a2]), if_pos rfl, if_pos rfl]; rfl
  · rw [decide_eq_false (fun z => h (by rw [a2] at z; injection z with z; injection z with z; have := congrArg Array.toList z; injection this)), if_neg (by decide), if_neg h]; rfl
noncomputable def sp_rdue : Sp := fun vs H Q _ => ∃ z : Str, vs = [.str z] ∧ z.length ≤ 900 ∧ (rG z → ∀ q H', Same H H' → H q = none → H' q = some (.tup (rwz z).vals) → Q (.ref q) H') ∧ (¬ rG z → ∀ H', Same H H' → Q .non H')
section
variable {P : Program} {w : World} {K : PySem.W.Frag} {mg : Str → Option Value} {base : Heap}
/- _law_row_due: 0:_law_text 1:_law_row 2:_law_coin 3:_law_letter -/
noncomputable abbrev s_law_row_due : Stmt := top 23
theorem sc_law_row_due : FnScope ["_law_text", "_law_row", "_law_coin", "_law_letter"] ["_law_text"] (defScope s_law_row_due) := ⟨rfl, rfl, rfl, by decide +kernel, rfl, by decide +kernel, by decide +kernel⟩
theorem ok_rdue (T : Blt mg) (D : Def K mg "_law_row_due" s_law_row_due ["_law_text"]) : Cal P w K mg base CX0 1 "_law_row_due" ["_law_text"] sp_rdue := by
  refine D.ok sc_law_row_due (fun vs H Q E h => ?_) (fun f cdv A outer s H vs Q E hr h => ?_)
  · obtain ⟨z, rfl, _⟩ := h; rfl
  obtain ⟨z, rfl, hz9, k, k2⟩ := h
  have lb : (10000 : Nat) ≤ sizeLine := lineK (Nat.le_refl _)
  refine ⟨_, (pss_cons (ps_if (PW.pt (pw_or (pt_cmpR op_lt (pe_callB call_len_str (by rfl) T.n_len bt_len (pa_cons (pv 0) pa_nil)) pe_int (nomark _)) (pw_or (pt_cmpR op_gt (pe_callB call_len_str (by rfl) T.n_len bt_len (pa_cons (pv 0) pa_nil)) pe_int (nomark _)) (pw_or1 (pt_cmpR op_notIn_str (pe_ix ix_str (pv 0) pe_int (fun _ _ => rfl)) pe_str rfl)))))
        (pss_one (ps_ret pe_non))
        pss_nil)
      (pss_cons (ps_set (i := 1) sc_law_row_due.nd rfl (Or.inl rfl) (pe_lst (pa_cons (pe_op op_sub pe_int (pe_op op_mulB pe_int (pe_callTy call_int1 (by rfl) T.n_int bt_int (pa_cons (pe_cmpR op_eq (pe_ix ix_str (pv 0) pe_int (fun _ _ => rfl)) pe_str (nomark _)) pa_nil)))) (pa_cons pe_int (pa_cons pe_int pa_nil)))))
      (pss_cons (ps_for PassesOwn.never rfl (pi_range1 rfl T.n_range (pa_cons (pe_op op_sub (pe_callB call_len_str (by rfl) T.n_len bt_len (pa_cons (pv 0) pa_nil)) pe_int) pa_nil)) (pg_name (i := 2) sc_law_row_due.nd rfl (Or.inl rfl))
        (pss_cons (ps_set (i := 3) sc_law_row_due.nd rfl (Or.inl rfl) (pe_ix ix_str (pv 0) (pe_op op_add (pv 2) pe_int) (fun _ _ => rfl)))
        (pss_cons (ps_if (pt_cmpR (op_notInK K) (pv 3) (pe_lst (pa_cons pe_str (pa_cons pe_str (pa_cons pe_str (pa_cons pe_str pa_nil))))) rfl)
          (pss_one (ps_ret pe_non))
          pss_nil)
        (pss_cons (ps_asg (pe_op op_add (pe_ix (ix_listK K) (pv 1) pe_int (fun _ _ => rfl)) (pe_op op_shl (pe_callTy call_int1 (by rfl) T.n_int bt_int (pa_cons (pe_or (pe_cmpR op_eq (pv 3) pe_str (nomark _)) (pe_one (pe_cmpR op_eq (pv 3) pe_str (nomark _)))) pa_nil)) (pv 2))) (pg_sub (pv 1) pe_int set_list))
        (pss_one (ps_asg (pe_op op_add (pe_ix (ix_listK K) (pv 1) pe_int (fun _ _ => rfl)) (pe_op op_shl (pe_callTy call_int1 (by rfl) T.n_int bt_int (pa_cons (pe_or (pe_cmpR op_eq (pv 3) pe_str (nomark _)) (pe_one (pe_cmpR op_eq (pv 3) pe_str (nomark _)))) pa_nil)) (pv 2))) (pg_sub (pv 1) pe_int set_list)))))))
      (pss_one (ps_ret (pe_callTy call_tuple_of (by rfl) T.n_tuple bt_tuple (pa_cons (pv 1) pa_nil))))))), ?_⟩
  refine ⟨_, rfl, z, rfl, by omega, _, _, rfl, rfl, _, rfl, ?_⟩
  by_cases l2 : z.length < 2
  · exact iteD (by omega) (iteT (k2 (fun h => by have := h.1; omega) H (.refl H)))
  refine iteDN (by omega) ?_
  refine ⟨_, rfl, z, rfl, by omega, _, _, rfl, rfl, _, rfl, ?_⟩
  by_cases l7 : z.length > 7
  · exact iteD (by omega) (iteT (k2 (fun h => by have := h.2.1; omega) H (.refl H)))
  refine iteDN (by omega) ?_
  have hlen := cps_len z
  have h0 : z.cps.toList[0]? = some (z.cps.toList.getD 0 0) := by rw [List.getD_eq_getElem?_getD, List.getElem?_eq_getElem (by omega)]; rfl
  have at0' : atI z.cps.toList 0 = some (z.cps.toList.getD 0 0) := atI_nat (j := 0) h0
  have hsg : (rwz z).sg = if z.cps.toList.getD 0 0 = 45 then -1 else 1 := rfl
  have hg0 : rG z → z.cps.toList.getD 0 0 = 43 ∨ z.cps.toList.getD 0 0 = 45 := fun h => h.2.2.1
  have hgi : (z.cps.toList.getD 0 0 = 43 ∨ z.cps.toList.getD 0 0 = 45) → (∀ i, i < z.length - 1 → let4 (lt z i)) → rG z := fun h1 h2 => ⟨by omega, by omega, h1, h2⟩
  generalize z.cps.toList.getD 0 0 = c0 at at0' hsg hg0 hgi
  refine ⟨_, rfl, z, 0, c0, rfl, rfl, by omega, at0', ⟨#[c0]⟩, "+-", rfl, rfl, _, rfl, ?_⟩
  rw [in_pm]
  by_cases hc : c0 = 43 ∨ c0 = 45
  · refine iteBN (by rw [decide_eq_true hc]; rfl) ?_
    refine ⟨_, rfl, z, 0, c0, rfl, rfl, by omega, at0', rfl, .inr ⟨_, rfl, ?_⟩⟩
    refine ⟨_, _, rfl, rfl, ⟨big (by decide) (by decide), big (by split <;> decide) (by split <;> decide)⟩, _, _, rfl, rfl, line6 (by show 3 ≤ 1000; decide), fun p np => ?_⟩
    dsimp only
    rw [rdue_sg, ← hsg]
    have s1 := Same.new (o := .lst [V.int (rwz z).sg, .int 0, .int 0]) np
    have ep : upd H p (.lst [V.int (rwz z).sg, .int 0, .int 0]) p = some (.lst [V.int (rwz z).sg, .int (mks (xb z) 0 : Nat), .int (mks (zb z) 0 : Nat)]) := upd_same
    dsimp only [gName]
    generalize upd H p (.lst [V.int (rwz z).sg, .int 0, .int 0]) = H1 at s1 ep ⊢
    refine ⟨_, rfl, z, rfl, by omega, _, _, rfl, rfl, ((z.length - 1 : Nat) : Int), by show [V.int ((z.length : Int) - 1)] = _; rw [show (z.length : Int) - 1 = ((z.length - 1 : Nat) : Int) by omega], by omega, by omega, ?_⟩
    rw [Int.toNat_natCast]
    refine for_range (lo := 0) (n := z.length - 1) (fun i σ H' => ∃ v2 v3 : Option V, σ = [some (.str z), some (.ref p), v2, v3] ∧ Same H H' ∧ H' p = some (.lst [V.int (rwz z).sg, .int (mks (xb z) i : Nat), .int (mks (zb z) i : Nat)]) ∧ ∀ j, j < i → let4 (lt z j)) ⟨_, _, rfl, s1, ep, fun j hj => by omega⟩ ?_ ?_
    · rintro i σ H2 hi ⟨v2, v3, rfl, s2, ep, hF⟩
      rw [Int.zero_add]
      have hat : atI z.cps.toList ((i : Int) + 1) = some (lt z i) := by
        have e : z.cps.toList[i + 1]? = some (lt z i) := by unfold lt; rw [List.getD_eq_getElem?_getD, List.getElem?_eq_getElem (by omega)]; rfl
        exact atI_nat (j := i + 1) e
      refine ⟨_, rfl, _, rfl, _, _, rfl, rfl, z, _, lt z i, rfl, rfl, by omega, hat, ?_⟩
      have ex : mks (xb z) (i + 1) = mks (xb z) i + if xb z i then 2 ^ i else 0 := rfl
      have ez : mks (zb z) (i + 1) = mks (zb z) i + if zb z i then 2 ^ i else 0 := rfl
      have hx : xb z i = decide (lt z i = 120 ∨ lt z i = 121) := rfl
      have hzb : zb z i = decide (lt z i = 122 ∨ lt z i = 121) := rfl
      have hF1 : let4 (lt z i) → ∀ j, j < i + 1 → let4 (lt z j) := fun h j hj => by
        by_cases e : j = i
        · rw [e]; exact h
        · exact hF j (by omega)
      have hbad : ¬ let4 (lt z i) → ¬ rG z := fun h hG => h (hG.2.2.2 i hi)
      generalize lt z i = c at hx hzb hF1 hbad
      rw [hx] at ex
      rw [hzb] at ez
      refine ⟨_, rfl, line6 (by show 4 ≤ 1000; decide), fun l nl => ?_⟩
      have s3 := Same.new (o := .lst [V.str ".", .str "x", .str "y", .str "z"]) nl
      refine ⟨l, _, rfl, .inl (.of upd_same), rfl, rfl, _, rfl, ?_⟩
      by_cases h4 : let4 c
      · refine iteBN (by show (!inV _ _) = false; rw [(in_let c).mpr h4]; rfl) ?_
        have hpl : p ≠ l := ne_of_none ep nl
        have ep := s3 _ _ ep
        have t3 := s2.trans s3
        generalize upd H2 l (.lst [V.str ".", .str "x", .str "y", .str "z"]) = H3 at ep t3 ⊢
        have cp1 : CPow 1 (i : Int) := TC.cp2 (by omega)
        have cp0 : CPow 0 (i : Int) := ⟨Int.natCast_nonneg _, by omega, by decide⟩
        have w1 : (1 : Int) * 2 ^ (i : Int).toNat = ((2 ^ i : Nat) : Int) := shl_is i
        have w0 : (0 : Int) * 2 ^ (i : Int).toNat = 0 := Int.zero_mul _
        have fin : ∀ (bx bz : Bool), mks (xb z) (i + 1) = mks (xb z) i + (if bx then 2 ^ i else 0) → mks (zb z) (i + 1) = mks (zb z) i + (if bz then 2 ^ i else 0) → ∀ H', H' = upd (upd H3 p (.lst [V.int (rwz z).sg, .int (mks (xb z) i + (if bx then 1 else 0) * 2 ^ (i : Int).toNat : Int), .int (mks (zb z) i : Nat)])) p (.lst [V.int (rwz z).sg, .int (mks (xb z) i + (if bx then 1 else 0) * 2 ^ (i : Int).toNat : Int), .int (mks (zb z) i + (if bz then 1 else 0) * 2 ^ (i : Int).toNat : Int)]) →
            Same H H' ∧ H' p = some (.lst [V.int (rwz z).sg, .int (mks (xb z) (i + 1) : Nat), .int (mks (zb z) (i + 1) : Nat)]) := fun bx bz e1 e2 H' e => by
          subst e
          refine ⟨fun b o hb => ?_, ?_⟩
          · have hne : b ≠ p := fun y => by rw [y, np] at hb; cases hb
            rw [upd_ne hne, upd_ne hne]; exact t3 b o hb
          · rw [upd_same, e1, e2]
            cases bx <;> cases bz <;> simp only [if_true, if_false, Bool.false_eq_true, w1, w0, Int.natCast_add, Nat.add_zero, Int.add_zero, Int.one_mul, Int.zero_mul] <;> first | rfl | (simp [Int.natCast_pow])
        rcases h4 with rfl | rfl | rfl | rfl
        · refine ⟨_, rfl, p, _, _, _, rfl, rfl, .of ep, rfl, _, rfl, rfl, _, rfl, ?_⟩
          refine iteBN (by decide +kernel) ⟨_, rfl, rfl, .inr ⟨_, rfl, ?_⟩⟩
          refine ⟨_, rfl, _, _, rfl, rfl, cp0, _, _, rfl, rfl, ?_⟩
          refine ⟨_, rfl, p, _, 1, 1, rfl, rfl, ep, rfl, ?_⟩
          refine ⟨_, rfl, p, _, _, _, rfl, rfl, .of upd_same, rfl, _, rfl, rfl, _, rfl, ?_⟩
          refine iteBN (by decide +kernel) ⟨_, rfl, rfl, .inr ⟨_, rfl, ?_⟩⟩
          refine ⟨_, rfl, _, _, rfl, rfl, cp0, _, _, rfl, rfl, ?_⟩
          refine ⟨_, rfl, p, _, 2, 2, rfl, rfl, upd_same, rfl, ?_⟩
          obtain ⟨f1, f2⟩ := fin false false (by rw [ex]; rfl) (by rw [ez]; rfl) _ rfl
          exact ⟨_, _, rfl, f1, f2, hF1 (by unfold let4; omega)⟩
        · refine ⟨_, rfl, p, _, _, _, rfl, rfl, .of ep, rfl, _, rfl, rfl, _, rfl, ?_⟩
          refine iteB (by decide +kernel) (.inr ⟨_, rfl, ?_⟩)
          refine ⟨_, rfl, _, _, rfl, rfl, cp1, _, _, rfl, rfl, ?_⟩
          refine ⟨_, rfl, p, _, 1, 1, rfl, rfl, ep, rfl, ?_⟩
          refine ⟨_, rfl, p, _, _, _, rfl, rfl, .of upd_same, rfl, _, rfl, rfl, _, rfl, ?_⟩
          refine iteBN (by decide +kernel) ⟨_, rfl, rfl, .inr ⟨_, rfl, ?_⟩⟩
          refine ⟨_, rfl, _, _, rfl, rfl, cp0, _, _, rfl, rfl, ?_⟩
          refine ⟨_, rfl, p, _, 2, 2, rfl, rfl, upd_same, rfl, ?_⟩
          obtain ⟨f1, f2⟩ := fin true false (by rw [ex]; rfl) (by rw [ez]; rfl) _ rfl
          exact ⟨_, _, rfl, f1, f2, hF1 (by unfold let4; omega)⟩
        · refine ⟨_, rfl, p, _, _, _, rfl, rfl, .of ep, rfl, _, rfl, rfl, _, rfl, ?_⟩
          refine iteBN (by decide +kernel) ⟨_, rfl, rfl, .inr ⟨_, rfl, ?_⟩⟩
          refine ⟨_, rfl, _, _, rfl, rfl, cp1, _, _, rfl, rfl, ?_⟩
          refine ⟨_, rfl, p, _, 1, 1, rfl, rfl, ep, rfl, ?_⟩
          refine ⟨_, rfl, p, _, _, _, rfl, rfl, .of upd_same, rfl, _, rfl, rfl, _, rfl, ?_⟩
          refine iteBN (by decide +kernel) ⟨_, rfl, rfl, .inr ⟨_, rfl, ?_⟩⟩
          refine ⟨_, rfl, _, _, rfl, rfl, cp1, _, _, rfl, rfl, ?_⟩
          refine ⟨_, rfl, p, _, 2, 2, rfl, rfl, upd_same, rfl, ?_⟩
          obtain ⟨f1, f2⟩ := fin true true (by rw [ex]; rfl) (by rw [ez]; rfl) _ rfl
          exact ⟨_, _, rfl, f1, f2, hF1 (by unfold let4; omega)⟩
        · refine ⟨_, rfl, p, _, _, _, rfl, rfl, .of ep, rfl, _, rfl, rfl, _, rfl, ?_⟩
          refine iteBN (by decide +kernel) ⟨_, rfl, rfl, .inr ⟨_, rfl, ?_⟩⟩
          refine ⟨_, rfl, _, _, rfl, rfl, cp0, _, _, rfl, rfl, ?_⟩
          refine ⟨_, rfl, p, _, 1, 1, rfl, rfl, ep, rfl, ?_⟩
          refine ⟨_, rfl, p, _, _, _, rfl, rfl, .of upd_same, rfl, _, rfl, rfl, _, rfl, ?_⟩
          refine iteB (by decide +kernel) (.inr ⟨_, rfl, ?_⟩)
          refine ⟨_, rfl, _, _, rfl, rfl, cp1, _, _, rfl, rfl, ?_⟩
          refine ⟨_, rfl, p, _, 2, 2, rfl, rfl, upd_same, rfl, ?_⟩
          obtain ⟨f1, f2⟩ := fin false true (by rw [ex]; rfl) (by rw [ez]; rfl) _ rfl
          exact ⟨_, _, rfl, f1, f2, hF1 (by unfold let4; omega)⟩
      · refine iteB (by show (!inV _ _) = true; cases h : inV (.str ⟨#[c]⟩) [.str ".", .str "x", .str "y", .str "z"] with | true => exact absurd ((in_let c).mp h) h4 | false => rfl) ?_
        exact k2 (hbad h4) _ (s2.trans s3)
    · rintro σ H2 ⟨v2, v3, rfl, s2, ep, hF⟩
      refine ⟨_, rfl, p, _, rfl, .inl ⟨.of ep, fun u nu => ?_⟩⟩
      exact k (hgi hc hF) u _ (s2.trans (Same.new nu)) (s2.free nu) upd_same
  · exact iteB (by rw [decide_eq_false hc]; rfl) (k2 (fun h => hc (hg0 h)) H (.refl H))
end

end K72

set_option maxHeartbeats 4000000
namespace K72
open PySem L2 TC
noncomputable abbrev DGT : Str := "0123456789"
noncomputable def dg (x : Str) : Bool := decide (x.length = 1) && !(Builtin.Str.occurrences DGT x 0 DGT.length 1).isEmpty
theorem dg_iff (x : Str) : dg x = true ↔ isF x := by
  unfold dg
  rw [Bool.and_eq_true, decide_eq_true_iff]
  constructor
  · rintro ⟨h1, h2⟩
    obtain ⟨c, hc⟩ : ∃ c, x = ⟨#[c]⟩ := by
      have hl : x.cps.toList.length = 1 := by rw [cps_len]; exact h1
      match hx : x.cps.toList, hl with
      | [c], _ => exact ⟨c, by apply Str.ext'; apply Array.toList_inj.mp; rw [hx]⟩
    subst hc
    rw [StrLaws.found_one] at h2
    have hm := of_decide_eq_true h2
    have e : DGT.cps.toList = [48, 49, 50, 51, 52, 53, 54, 55, 56, 57] := by decide +kernel
    rw [e] at hm
    have f : ∀ n : Nat, n < 10 → (⟨#[48 + n]⟩ : Str) = nst n := by decide +kernel
    have hm : 48 ≤ c ∧ c ≤ 57 := by
      simp only [List.mem_cons, List.not_mem_nil, or_false] at hm
      omega
    have := f (c - 48) (by omega)
    rw [show 48 + (c - 48) = c by omega] at this
    exact ⟨c - 48, by omega, this⟩
  · rintro ⟨c, hc, rfl⟩
    have f : ∀ n : Nat, n < 10 → (nst n).length = 1 ∧ (!(Builtin.Str.occurrences DGT (nst n) 0 DGT.length 1).isEmpty) = true := by decide +kernel
    exact f c hc
noncomputable abbrev WX : List V := [.str "mix", .str "flip", .str "sign", .str "follow", .str "meet", .str "swap"]
theorem in_six (x : Str) : inV (.str x) WX = (inV (.str x) WA || inV (.str x) WB) := by
  show (WA ++ WB).any _ = _
  rw [List.any_append]; rfl
theorem wn_six (x : Str) : inV (.str x) WX = true ↔ wn x ≠ 0 := by
  rw [in_six]
  unfold wn
  cases inV (.str x) WA <;> cases inV (.str x) WB <;> decide
theorem in_wa (x : Str) : inV (.str x) WA = true ↔ (x = "mix" ∨ x = "flip" ∨ x = "sign") := by
  have e : inV (.str x) WA = ((("mix" : Str) == x) || ((("flip" : Str) == x) || ((("sign" : Str) == x) || false))) := rfl
  rw [e, Bool.or_false, Bool.or_eq_true, Bool.or_eq_true, beq_iff_eq, beq_iff_eq, beq_iff_eq]
  exact ⟨fun h => by rcases h with h | h | h; exact .inl h.symm; exact .inr (.inl h.symm); exact .inr (.inr h.symm), fun h => by rcases h with h | h | h; exact .inl h.symm; exact .inr (.inl h.symm); exact .inr (.inr h.symm)⟩
theorem wn_one (x : Str) : wn x = 1 ↔ (x = "mix" ∨ x = "flip" ∨ x = "sign") := by
  rw [← in_wa]
  unfold wn
  cases inV (.str x) WA <;> cases inV (.str x) WB <;> decide
theorem JoinQ {ι κ : Sort _} {C G : ι → κ → Prop} {A : Prop} (h : (∀ i j, C i j → G i j) → A) (k : ∀ i j, C i j → G i j) : A := h k
theorem asg_c {v : V} {i : Nat} {D : Ends} {σ : St} {H : Hp} (h : D.nx (σ.set i (some v)) H) : tAsg (tC v) (gName i) D σ H := h
noncomputable def sp_gdue : Sp := fun vs H Q _ => ∃ z : Str, vs = [.str z] ∧ z.length ≤ 900 ∧ (zG z → ∀ q qs H', Same H H' → H q = none → H' q = some (.lst (rV qs)) → Tps H' qs (zP z) → Q (.ref q) H') ∧ (¬ zG z → ∀ H', Same H H' → Q .non H')
section
variable {P : Program} {w : World} {K : PySem.W.Frag} {mg : Str → Option Value} {base : Heap}
/- _law_gates_due: 0:_law_text 1:_law_gates 2:_law_part 3:_law_words 4:_law_size -/
noncomputable abbrev s_law_gates_due : Stmt := top 24
theorem sc_law_gates_due : FnScope ["_law_text", "_law_gates", "_law_part", "_law_words", "_law_size"] ["_law_text"] (defScope s_law_gates_due) := ⟨rfl, rfl, rfl, by decide +kernel, rfl, by decide +kernel, by decide +kernel⟩
theorem ok_gdue (T : Blt mg) (D : Def K mg "_law_gates_due" s_law_gates_due ["_law_text"]) : Cal P w K mg base CX0 1 "_law_gates_due" ["_law_text"] sp_gdue := by
  refine D.ok sc_law_gates_due (fun vs H Q E h => ?_) (fun f cdv A outer s H vs Q E hr h => ?_)
  · obtain ⟨z, rfl, _⟩ := h; rfl
  obtain ⟨z, rfl, hz, k1, k2⟩ := h
  have lb : (10000 : Nat) ≤ sizeLine := lineK (Nat.le_refl _)
  refine ⟨_, (pss_cons (ps_set (i := 1) sc_law_gates_due.nd rfl (Or.inl rfl) (pe_lst pa_nil))
      (pss_cons (ps_if (pt_cmpR op_eq (pv 0) pe_str (nomark _))
        (pss_one (ps_ret (pv 1)))
        pss_nil)
      (pss_cons (ps_for PassesOwn.never rfl (pi_listK K (pe_bmK K PySem.F.plainAttrs_str PySem.F.slot_str_split PySem.F.type_str_split mt_split (pv 0) (pa_cons pe_str pa_nil))) (pg_name (i := 2) sc_law_gates_due.nd rfl (Or.inl rfl))
        (pss_cons (ps_set (i := 3) sc_law_gates_due.nd rfl (Or.inl rfl) (pe_bmK K PySem.F.plainAttrs_str PySem.F.slot_str_split PySem.F.type_str_split mt_split (pv 2) (pa_cons pe_str pa_nil)))
        (pss_cons (ps_set (i := 4) sc_law_gates_due.nd rfl (Or.inl rfl) pe_int)
        (pss_cons (ps_if (PW.pt (pw_or (pt_cmpR op_eq (pe_ix (ix_listK K) (pv 3) pe_int (fun _ _ => rfl)) pe_str (nomark _)) (pw_or (pt_cmpR op_eq (pe_ix (ix_listK K) (pv 3) pe_int (fun _ _ => rfl)) pe_str (nomark _)) (pw_or1 (pt_cmpR op_eq (pe_ix (ix_listK K) (pv 3) pe_int (fun _ _ => rfl)) pe_str (nomark _))))))
          (pss_one (ps_set (i := 4) sc_law_gates_due.nd rfl (Or.inl rfl) pe_int))
          pss_nil)
        (pss_cons (ps_if (PW.pt (pw_or (pt_cmpR (op_notInK K) (pe_ix (ix_listK K) (pv 3) pe_int (fun _ _ => rfl)) (pe_lst (pa_cons pe_str (pa_cons pe_str (pa_cons pe_str (pa_cons pe_str (pa_cons pe_str (pa_cons pe_str pa_nil))))))) rfl) (pw_or1 (pt_cmpR op_ne (pe_callB (call_lenK K) (by rfl) T.n_len bt_len (pa_cons (pv 3) pa_nil)) (pv 4) (nomark _)))))
          (pss_one (ps_ret pe_non))
          pss_nil)
        (pss_cons (ps_if (pt_not (pt_val (pe_callB (call_allK K) (by rfl) T.n_all bt_all (pa_cons (pe_comp rfl sc_law_gates_due.nd (cs (N := ["_law_text", "_law_gates", "_law_part", "_law_words", "_law_size"]) (osc := defScope s_law_gates_due) (by decide +kernel)) (pi_listK K (pe_slice (sl_listK K) (pv 3) (po_some pe_int) po_none)) (fun _ _ _ _ => pifs_nil) (fun _ _ _ _ => (pe_and (pe_cmpR op_eq (pe_callB call_len_str (by rfl) T.n_len bt_len (pa_cons (pv 0) pa_nil)) pe_int (nomark _)) (pe_one (pe_cmpR op_inS (pv 0) pe_str rfl))))) pa_nil))))
          (pss_one (ps_ret pe_non))
          pss_nil)
        (pss_one (ps_expr (pe_bm PySem.F.plainAttrs_list PySem.F.slot_list_append PySem.F.type_list_append mt_append (pv 1) (pa_cons (pe_op op_catT (pe_tup (pa_cons (pe_ix (ix_listK K) (pv 3) pe_int (fun _ _ => rfl)) pa_nil)) (pe_callTy call_tuple_of (by rfl) T.n_tuple bt_tuple (pa_cons (pe_comp rfl sc_law_gates_due.nd (cs (N := ["_law_text", "_law_gates", "_law_part", "_law_words", "_law_size"]) (osc := defScope s_law_gates_due) (by decide +kernel)) (pi_listK K (pe_slice (sl_listK K) (pv 3) (po_some pe_int) po_none)) (fun _ _ _ _ => pifs_nil) (fun _ _ _ _ => (pe_callTy call_intS (by rfl) T.n_int bt_int (pa_cons (pv 0) pa_nil)))) pa_nil))) pa_nil))))))))))
      (pss_one (ps_ret (pv 1)))))), ?_⟩
  refine ⟨by show 0 ≤ sizeLine; omega, fun g ng => ?_⟩
  have s0 := Same.new (o := .lst []) ng
  have eg : upd H g (.lst []) g = some (.lst (rV [])) := upd_same
  dsimp only [gName]
  generalize upd H g (.lst []) = H0 at s0 eg ⊢
  refine ⟨_, rfl, rfl, _, rfl, ?_⟩
  by_cases hne : z = ""
  · have e0 : zP z = [] := if_pos hne
    refine iteB (by rw [hne]; decide +kernel) ⟨_, rfl, ?_⟩
    refine k1 (fun p hp => by rw [e0] at hp; cases hp) g [] _ s0 ng eg ?_
    rw [e0]; exact .nil
  have e0 : zP z = Txt.split z "; " := if_neg hne
  unfold zG at k1 k2
  rw [e0] at k1 k2
  refine iteBN (decide_eq_false (fun y => hne (by injection y))) ?_
  obtain ⟨sn, sl, sx⟩ := split_any z "; "
  refine ⟨_, rfl, rfl, z, "; ", rfl, rfl, by decide +kernel, by omega, fun q nq => ?_⟩
  generalize Txt.split z "; " = L at k1 k2 sn sl sx ⊢
  have s1 := Same.new (o := .lst (L.map V.str)) nq
  have eq : upd H0 q (.lst (L.map V.str)) q = some (.lst (L.map V.str)) := upd_same
  have hgq : q ≠ g := fun y => by rw [y, eg] at nq; cases nq
  have eg := s1 _ _ eg
  have t1 := s0.trans s1
  generalize upd H0 q (.lst (L.map V.str)) = H1 at t1 eq eg ⊢
  refine ⟨q, rfl, ⟨_, .of eq⟩, for_list (K := K) (a := q) (xs := L.map V.str) (fun i σ H' => ∃ (qs : List Addr) (v2 v3 v4 : Option V), σ = [some (.str z), some (.ref g), v2, v3, v4] ∧ Same H H' ∧ H' q = some (.lst (L.map V.str)) ∧ H' g = some (.lst (rV qs)) ∧ Tps H' qs (L.take i) ∧ ∀ p ∈ L.take i, gG p) ⟨[], _, _, _, rfl, t1, eq, eg, .nil, fun p hp => by simp at hp⟩ (fun i σ H' _ ⟨_, _, _, _, _, _, e, _⟩ => .of e) ?_ ?_⟩
  · rintro i x σ H2 hi ⟨qs, v2, v3, v4, rfl, t2, eq, eg, hT, hF⟩
    obtain ⟨p, hp, rfl⟩ := st_get hi
    have hpm := List.mem_of_getElem? hp
    have hpl := sx p hpm
    have hil : i < L.length := (List.getElem?_eq_some_iff.mp hp).1
    have hql : qs.length ≤ 902 := by rw [hT.l, List.length_take]; omega
    obtain ⟨wn0, wl, wx⟩ := split_any p " "
    refine ⟨_, rfl, rfl, p, " ", rfl, rfl, by decide +kernel, by omega, fun r nr => ?_⟩
    have hgv : gV p = gVs (Txt.split p " ") := rfl
    have bad : ∀ w ws, Txt.split p " " = w :: ws → (wn w = 0 ∨ ws.length ≠ wn w ∨ ∃ x ∈ ws, ¬ isF x) → ¬ gG p := fun w ws e h ⟨w', ws', e', h1, h2, h3⟩ => by
      rw [e] at e'
      cases e'
      rcases h with h | h | ⟨x, hx, h⟩
      · exact h1 h
      · exact h h2
      · exact h (h3 x hx)
    have good : ∀ w ws, Txt.split p " " = w :: ws → wn w ≠ 0 → ws.length = wn w → (∀ x ∈ ws, isF x) → gG p := fun w ws e h1 h2 h3 => ⟨w, ws, e, h1, h2, h3⟩
    generalize Txt.split p " " = W at wn0 wl wx bad good hgv ⊢
    match W, wn0 with
    | w :: ws, _ =>
    have bad := bad w ws rfl
    have good := good w ws rfl
    rw [List.length_cons] at wl
    have no : (wn w = 0 ∨ ws.length ≠ wn w ∨ ∃ x ∈ ws, ¬ isF x) → ∀ H', Same H H' → Q .non H' := fun h => k2 (fun a => bad h (a p hpm))
    dsimp only [gName]
    have s3 := Same.new (o := .lst ((w :: ws).map V.str)) nr
    have er : upd H2 r (.lst ((w :: ws).map V.str)) r = some (.lst (V.str w :: ws.map V.str)) := upd_same
    have eq := s3 _ _ eq
    have eg := s3 _ _ eg
    have hT := hT.same s3
    have t3 := t2.trans s3
    generalize upd H2 r (.lst ((w :: ws).map V.str)) = H3 at t3 er eq eg hT ⊢
    clear s3 nr t2
    have at0' : atI (V.str w :: ws.map V.str) 0 = some (.str w) := atI_nat (xs := V.str w :: ws.map V.str) (j := 0) rfl
    refine JoinQ (ι := St) (κ := Hp) (C := fun σ H' => σ = [some (.str z), some (.ref g), some (.str p), some (.ref r), some (.int (if wn w = 1 then 2 else 3))] ∧ H' = H3) (G := ?G) (fun rest => ?ja) ?jk
    case ja =>
      refine ⟨_, rfl, r, _, _, _, rfl, rfl, .of er, at0', rfl, _, rfl, ?_⟩
      by_cases h1 : w = "mix"
      · refine iteB (decide_eq_true (by rw [h1])) (iteT (asg_c ?_))
        generalize hσ : List.set _ 4 _ = σx
        exact rest σx H3 ⟨by rw [← hσ, if_pos ((wn_one w).mpr (.inl h1))]; rfl, rfl⟩
      refine iteBN (decide_eq_false (fun y => h1 (by injection y))) ?_
      refine ⟨_, rfl, r, _, _, _, rfl, rfl, .of er, at0', rfl, _, rfl, ?_⟩
      by_cases h2 : w = "flip"
      · refine iteB (decide_eq_true (by rw [h2])) (iteT (asg_c ?_))
        generalize hσ : List.set _ 4 _ = σx
        exact rest σx H3 ⟨by rw [← hσ, if_pos ((wn_one w).mpr (.inr (.inl h2)))]; rfl, rfl⟩
      refine iteBN (decide_eq_false (fun y => h2 (by injection y))) ?_
      refine ⟨_, rfl, r, _, _, _, rfl, rfl, .of er, at0', rfl, _, rfl, ?_⟩
      by_cases h3 : w = "sign"
      · refine iteB (decide_eq_true (by rw [h3])) (asg_c ?_)
        generalize hσ : List.set _ 4 _ = σx
        exact rest σx H3 ⟨by rw [← hσ, if_pos ((wn_one w).mpr (.inr (.inr h3)))]; rfl, rfl⟩
      refine iteBN (decide_eq_false (fun y => h3 (by injection y))) ?_
      generalize hσ : List.set _ 4 _ = σx
      exact rest σx H3 ⟨by rw [← hσ, if_neg (fun h => by rcases (wn_one w).mp h with h | h | h; exact h1 h; exact h2 h; exact h3 h)]; rfl, rfl⟩
    rintro σ H' ⟨rfl, rfl⟩
    refine ⟨_, rfl, r, _, _, _, rfl, rfl, .of er, at0', line6 (by show 6 ≤ 1000; decide), fun l nl => ?_⟩
    have s4 := Same.new (o := .lst WX) nl
    refine ⟨l, _, rfl, .inl (.of upd_same), rfl, by decide +kernel, _, rfl, ?_⟩
    have er := s4 _ _ er
    have eq := s4 _ _ eq
    have eg := s4 _ _ eg
    have hT := hT.same s4
    have t4 := t3.trans s4
    by_cases hw0 : wn w = 0
    · refine iteB (by show (!inV _ _) = true; cases h : inV (.str w) WX with | true => exact absurd hw0 ((wn_six w).mp h) | false => rfl) (iteT ?_)
      exact no (.inl hw0) _ t4
    refine iteBN (by show (!inV _ _) = false; rw [(wn_six w).mpr hw0]; rfl) ?_
    generalize upd H' l (.lst WX) = H4 at er eq eg hT t4 ⊢
    clear s4 nl t3
    have hsz : (if wn w = 1 then (2 : Int) else 3) = ((wn w + 1 : Nat) : Int) := by
      have key : ∀ a b : Bool, (if a = true then 1 else if b = true then 2 else 0 : Nat) ≠ 0 → (if (if a = true then 1 else if b = true then 2 else 0 : Nat) = 1 then (2 : Int) else 3) = (((if a = true then 1 else if b = true then 2 else 0 : Nat) + 1 : Nat) : Int) := by decide
      exact key (inV (.str w) WA) (inV (.str w) WB) hw0
    have hwn2 : wn w ≤ 2 := by unfold wn; split; decide; split <;> decide
    refine ⟨_, rfl, r, _, rfl, .inl (.of er), _, rfl, rfl, _, rfl, ?_⟩
    rw [hsz]
    by_cases hl : ws.length = wn w
    · refine iteBN (by rw [decide_eq_true (by rw [List.length_cons, List.length_map, hl])]; rfl) ?_
      refine ⟨_, rfl, _, rfl, r, _, rfl, .of er, fun r2 nr2 => ?_⟩
      rw [cut1]
      generalize hG : upd H4 r2 _ = H5
      have er2 : H5 r2 = some (.lst (ws.map V.str)) := by rw [← hG]; exact upd_same
      have s5 : Same H4 H5 := hG ▸ Same.new nr2
      clear hG
      have er := s5 _ _ er
      have eq := s5 _ _ eq
      have eg := s5 _ _ eg
      have hT := hT.same s5
      have t5 := t4.trans s5
      refine ⟨r2, rfl, ⟨_, .of er2⟩, comp_listI (fun i => .bl (dg (ws.getD i ""))) (.of er2) (by rw [List.length_map]; omega) ?_ ?_⟩
      · intro j y H6 Q' hj s6 q'
        obtain ⟨x, hx, rfl⟩ := st_get hj
        have hxl := wx x (List.mem_cons_of_mem _ (List.mem_of_getElem? hx))
        have e : ws.getD j "" = x := by rw [List.getD_eq_getElem?_getD, hx]; rfl
        have qq := q' H6 (.refl H6)
        rw [e] at qq
        unfold dg at qq
        refine ⟨_, rfl, x, rfl, by omega, rfl, _, rfl, ?_⟩
        by_cases h1 : x.length = 1
        · refine iteB (decide_eq_true (by rw [h1]; rfl)) ⟨_, rfl, x, _, rfl, rfl, ?_⟩
          rw [decide_eq_true h1, Bool.true_and] at qq
          exact qq
        · refine iteBN (decide_eq_false (fun y => h1 (by injection y with y; omega))) ?_
          rw [decide_eq_false h1, Bool.false_and] at qq
          exact qq
      intro a H6 s6 na ea
      have hall : ((List.range (ws.map V.str).length).map fun i => V.bl (dg (ws.getD i ""))) = ws.map fun x => V.bl (dg x) := by
        rw [List.length_map]
        refine List.ext_getElem? fun j => ?_
        rw [List.getElem?_map, List.getElem?_map]
        by_cases h : j < ws.length
        · rw [List.getElem?_range h, List.getElem?_eq_getElem h, Option.map_some, Option.map_some, List.getD_eq_getElem?_getD, List.getElem?_eq_getElem h]; rfl
        · rw [List.getElem?_eq_none (by rw [List.length_range]; omega), List.getElem?_eq_none (by omega)]; rfl
      rw [hall] at ea
      have pl : (ws.map fun x => V.bl (dg x)).all plainT = true := by rw [List.all_eq_true]; intro v hv; obtain ⟨_, _, rfl⟩ := List.mem_map.mp hv; rfl
      refine ⟨a, _, rfl, .of ea, pl, _, rfl, ?_⟩
      by_cases hF' : ∀ x ∈ ws, isF x
      · have tr : (ws.map fun x => V.bl (dg x)).all truV = true := by
          rw [List.all_eq_true]
          intro v hv
          obtain ⟨x, hx, rfl⟩ := List.mem_map.mp hv
          rw [(dg_iff x).mpr (hF' x hx)]; rfl
        rw [tr]
        refine iteF ?_
        have er := s6 _ _ er
        have eq := s6 _ _ eq
        have eg := s6 _ _ eg
        have hT := hT.same s6
        have t6 := t5.trans s6
        refine ⟨_, rfl, .inl ⟨rfl, _, .of eg⟩, _, rfl, r, _, _, _, rfl, rfl, .of er, at0', line6 (by show 1 ≤ 1000; decide), fun u nu => ?_⟩
        have s7 := Same.new (o := .tup [V.str w]) nu
        have eu : upd H6 u (.tup [V.str w]) u = some (.tup [V.str w]) := upd_same
        have er := s7 _ _ er
        have eq := s7 _ _ eq
        have eg := s7 _ _ eg
        have hT := hT.same s7
        have t7 := t6.trans s7
        generalize upd H6 u (.tup [V.str w]) = H7 at er eq eg hT t7 eu ⊢
        refine ⟨_, rfl, _, rfl, r, _, rfl, .of er, fun r3 nr3 => ?_⟩
        rw [cut1]
        generalize hG : upd H7 r3 _ = H8
        have er3 : H8 r3 = some (.lst (ws.map V.str)) := by rw [← hG]; exact upd_same
        have s8 : Same H7 H8 := hG ▸ Same.new nr3
        clear hG
        have eu := s8 _ _ eu
        have eq := s8 _ _ eq
        have eg := s8 _ _ eg
        have hT := hT.same s8
        have t8 := t7.trans s8
        refine ⟨r3, rfl, ⟨_, .of er3⟩, comp_listI (fun i => .int (fgN (ws.getD i "") : Nat)) (.of er3) (by rw [List.length_map]; omega) ?_ ?_⟩
        · intro j y H9 Q' hj s9 q'
          obtain ⟨x, hx, rfl⟩ := st_get hj
          have e : ws.getD j "" = x := by rw [List.getD_eq_getElem?_getD, hx]; rfl
          have qq := q' H9 (.refl H9)
          rw [e] at qq
          obtain ⟨c, hc, rfl⟩ := hF' x (List.mem_of_getElem? hx)
          rw [fgN_is c hc] at qq
          have hnum : PySem.intText? (nst c) = some (c : Int) := PySem.W.KIN.num_reads (Int.natCast_nonneg c) (by omega)
          exact ⟨_, rfl, nst c, (c : Int), rfl, hnum, by rw [(nst_is c hc).1]; decide, qq⟩
        intro b H9 s9 nb eb
        have hall2 : ((List.range (ws.map V.str).length).map fun i => V.int (fgN (ws.getD i "") : Nat)) = ws.map fun x => V.int (fgN x : Nat) := by
          rw [List.length_map]
          refine List.ext_getElem? fun j => ?_
          rw [List.getElem?_map, List.getElem?_map]
          by_cases h : j < ws.length
          · rw [List.getElem?_range h, List.getElem?_eq_getElem h, Option.map_some, Option.map_some, List.getD_eq_getElem?_getD, List.getElem?_eq_getElem h]; rfl
          · rw [List.getElem?_eq_none (by rw [List.length_range]; omega), List.getElem?_eq_none (by omega)]; rfl
        rw [hall2] at eb
        refine ⟨b, _, rfl, .inl ⟨.of eb, fun tu ntu => ?_⟩⟩
        have s10 := Same.new (o := .tup (ws.map fun x => V.int (fgN x : Nat))) ntu
        have etu : upd H9 tu (.tup (ws.map fun x => V.int (fgN x : Nat))) tu = some (.tup (ws.map fun x => V.int (fgN x : Nat))) := upd_same
        have s910 := s9.trans s10
        have eu := s910 _ _ eu
        have eq := s910 _ _ eq
        have eg := s910 _ _ eg
        have hT := hT.same s910
        have t10 := t8.trans s910
        generalize upd H9 tu (.tup (ws.map fun x => V.int (fgN x : Nat))) = H10 at eu eq eg hT t10 etu ⊢
        have hne1 : (ws.map fun x => V.int (fgN x : Nat)) ≠ [] := fun h => by
          have : ws.length = 0 := by have := congrArg List.length h; simpa using this
          omega
        refine ⟨u, tu, _, _, rfl, rfl, sqT eu, sqT etu, by simp, by show 1 + (ws.map _).length ≤ _; rw [List.length_map]; omega, fun h => absurd h hne1, fun _ v nv => ?_⟩
        have s11 := Same.new (o := .tup ([V.str w] ++ ws.map fun x => V.int (fgN x : Nat))) nv
        have ev : upd H10 v (.tup ([V.str w] ++ ws.map fun x => V.int (fgN x : Nat))) v = some (.tup (gV p)) := by rw [upd_same, hgv]; rfl
        have eq := s11 _ _ eq
        have eg := s11 _ _ eg
        have hT := hT.same s11
        have t11 := t10.trans s11
        generalize upd H10 v (.tup ([V.str w] ++ ws.map fun x => V.int (fgN x : Nat))) = H11 at eq eg hT t11 ev ⊢
        refine ⟨g, _, _, rfl, rfl, eg, by rw [rV, List.length_map]; omega, ?_⟩
        have hvg : v ≠ g := fun y => by rw [y, eg] at ev; cases ev
        have kp : ∀ b o, b ≠ g → H11 b = some o → upd H11 g (.lst (rV qs ++ [V.ref v])) b = some o := fun b o hb h => by rw [upd_ne hb]; exact h
        refine ⟨qs ++ [v], _, _, _, rfl, fun b o hb => ?_, kp _ _ hgq eq, by rw [upd_same]; simp [rV], ?_, fun y hy => ?_⟩
        · refine kp b o (fun y => by rw [y, ng] at hb; cases hb) (t11 b o hb)
        · rw [List.take_add_one, hp, Option.toList_some]
          have hT2 := hT.app ev
          refine ⟨hT2.l, fun j b hj => ?_⟩
          obtain ⟨p', h1, h2⟩ := hT2.g j b hj
          refine ⟨p', h1, kp b _ (fun y => ?_) h2⟩
          rw [y, eg] at h2; cases h2
        · rw [List.take_add_one, hp, Option.toList_some] at hy
          rcases List.mem_append.mp hy with hy | hy
          · exact hF y hy
          · rw [List.mem_singleton.mp hy]; exact good hw0 hl hF'
      · have tr : (ws.map fun x => V.bl (dg x)).all truV = false := by
          cases h : (ws.map fun x => V.bl (dg x)).all truV with
          | false => rfl
          | true =>
            refine absurd (fun x hx => ?_) hF'
            rw [List.all_eq_true] at h
            have := h _ (List.mem_map.mpr ⟨x, hx, rfl⟩)
            exact (dg_iff x).mp this
        rw [tr]
        refine iteT ?_
        refine no (.inr (.inr ?_)) _ (t5.trans s6)
        exact Classical.byContradiction fun h => hF' fun x hx => Classical.byContradiction fun h' => h ⟨x, hx, h'⟩
    · refine iteB (by rw [decide_eq_false (fun y => hl (by rw [List.length_cons, List.length_map] at y; injection y with y; omega))]; rfl) ?_
      exact no (.inr (.inl hl)) _ t4
  · rintro σ H2 ⟨qs, v2, v3, v4, rfl, t2, eq, eg, hT, hF⟩
    rw [List.length_map, List.take_length] at hT hF
    exact ⟨_, rfl, k1 hF g qs H2 t2 ng eg hT⟩
end

end K72

set_option maxHeartbeats 4000000
namespace K72
open PySem L2 TC
@[irreducible] def QA (X : Cx) (es : List Expr) (t : TA) : Prop := PA X es t
@[irreducible] def QE (X : Cx) (e : Expr) (t : TE) : Prop := PE X e t
theorem qe_of {X : Cx} {e : Expr} {t : TE} (h : PE X e t) : QE X e t := by unfold QE; exact h
theorem qa_nil {X : Cx} : QA X [] tNil := by unfold QA; exact pa_nil
theorem qa_cons {X : Cx} {e : Expr} {es : List Expr} {te : TE} {t : TA} (ha : QE X e te) (hr : QA X es t) (hs : starEach (e :: es) X.env = (false, eval e X.env) :: starEach es X.env := by rfl) : QA X (e :: es) (tCons te t) := by
  unfold QE at ha
  unfold QA at hr ⊢
  exact pa_cons ha hr hs
theorem qe_lst {X : Cx} {es : List Expr} {t : TA} {pos : Pos} (h : QA X es t) : QE X (.List es pos) (tLst t) := by
  unfold QA at h
  unfold QE
  exact pe_lst h
theorem qe_op {X : Cx} {a b : Expr} {ta tb : TE} {pos : Pos} {op : Operator} {r : R2} (ho : OpR X (binaryOp op) r) (ha : QE X a ta) (hb : QE X b tb) : QE X (.BinOp a op b pos) (tOp r ta tb) := by
  unfold QE at ha hb ⊢
  exact pe_op ho ha hb
@[irreducible] def QS (X : Cx) (st : Stmt) (t : TS) : Prop := PS X st t
@[irreducible] def QSs (X : Cx) (st : List Stmt) (t : TS) : Prop := PSs X st t
theorem pss_of {X : Cx} {st : List Stmt} {t : TS} (h : QSs X st t) : PSs X st t := by unfold QSs at h; exact h
theorem qss_cons {X : Cx} {st : Stmt} {rest : List Stmt} {t u : TS} (h1 : QS X st t) (h2 : QSs X rest u) : QSs X (st :: rest) (tSeq t u) := by
  unfold QS at h1
  unfold QSs at h2 ⊢
  exact pss_cons h1 h2
theorem qss_one {X : Cx} {st : Stmt} {t : TS} (h1 : QS X st t) : QSs X [st] t := by
  unfold QS at h1
  unfold QSs
  exact pss_one h1
theorem qs_ret {X : Cx} {e : Expr} {te : TE} {pos : Pos} (he : QE X e te) : QS X (.Return (some e) pos) (tRet te) := by
  unfold QE at he
  unfold QS
  exact ps_ret he
theorem qs_set {X : Cx} (i : Nat) {x : Str} {e : Expr} {te : TE} {pos pos' : Pos} (hN : X.N.Nodup) (hi : X.N[i]? = some x) (hx : Loc X.env.scope x) (he : QE X e te) (hs : swapsWith e (some (.Name x pos')) pos.line X.env = pure false := by rfl) (hf : X.fn x = true ∨ X.env.scope.names.lookup x = some .local := by first | exact .inl rfl | exact .inr rfl | assumption) : QS X (.Assign [.Name x pos'] e pos) (tAsg te (gName i)) := by
  unfold QE at he
  unfold QS
  exact ps_set hN hi hx he hs hf

noncomputable abbrev OD1 : List Str := ["", "+", "-", "x", ".", "++", "+ ", " +x", "+x ", "+xxxxxxx", "-.......", "*x", "+X", "+1", "+x\n", "=x"]
noncomputable abbrev OD2 : List Str := ["mix", "mix ", "mix  0", " mix 0", "mix 0 ", "mix 10", "mix a", "Mix 0", "mix 0 1", "mixes 0"]
noncomputable abbrev OD3 : List Str := ["follow 0", "follow 0 1 2", "follow 0  1", "mix 0;", "mix 0; ", "; mix 0", "mix 0;mix 1", ";"]
noncomputable abbrev OD4 : List Str := ["mix 0;  mix 1", "mix 0 ; mix 1", "mix -1", "swap 0,1", "mix 0\n", "flip", "sign 00", "meet 0 0"]
theorem od_ok : ∀ z ∈ ((OD1 ++ OD2) ++ OD3) ++ OD4, asc z ∧ z.length ≤ 200 := by unfold asc; decide +kernel
theorem ex_q {X : Cx} {sts : List Stmt} {D : Ends} {σ : St} {H : Hp} (h : ∃ t, QSs X sts t ∧ t D σ H) : ∃ t, PSs X sts t ∧ t D σ H := by
  obtain ⟨t, h1, h2⟩ := h
  exact ⟨t, pss_of h1, h2⟩
section
variable {P : Program} {w : World} {K : PySem.W.Frag} {mg : Str → Option Value} {base : Heap}
/- _law_odd: 0:_law_some -/
noncomputable abbrev s_law_odd : Stmt := top 26
theorem sc_law_odd : FnScope ["_law_some"] [] (defScope s_law_odd) := ⟨rfl, rfl, rfl, by decide +kernel, rfl, by decide +kernel, by decide +kernel⟩
theorem ok_odd (T : Blt mg) (D : Def K mg "_law_odd" s_law_odd []) : Cal P w K mg base CX0 1 "_law_odd" [] sp_odd := by
  refine D.ok sc_law_odd (fun vs H Q E h => ?_) (fun f cdv A outer s H vs Q E hr h => ?_)
  · obtain ⟨rfl, _⟩ := h; rfl
  obtain ⟨rfl, k⟩ := h
  have lb : (1000 : Nat) ≤ sizeLine := line6 (by decide)
  refine ex_q ?_
  refine ⟨_, (qss_cons (qs_set 0 sc_law_odd.nd rfl (Or.inl rfl) (qe_lst (qa_cons (qe_of pe_str) (qa_cons (qe_of pe_str) (qa_cons (qe_of pe_str) (qa_cons (qe_of pe_str) (qa_cons (qe_of pe_str) (qa_cons (qe_of pe_str) (qa_cons (qe_of pe_str) (qa_cons (qe_of pe_str) (qa_cons (qe_of pe_str) (qa_cons (qe_of pe_str) (qa_cons (qe_of pe_str) (qa_cons (qe_of pe_str) (qa_cons (qe_of pe_str) (qa_cons (qe_of pe_str) (qa_cons (qe_of pe_str) (qa_cons (qe_of pe_str) qa_nil))))))))))))))))))
      (qss_cons (qs_set 0 sc_law_odd.nd rfl (Or.inl rfl) (qe_op op_cat (qe_of (pv 0)) (qe_lst (qa_cons (qe_of pe_str) (qa_cons (qe_of pe_str) (qa_cons (qe_of pe_str) (qa_cons (qe_of pe_str) (qa_cons (qe_of pe_str) (qa_cons (qe_of pe_str) (qa_cons (qe_of pe_str) (qa_cons (qe_of pe_str) (qa_cons (qe_of pe_str) (qa_cons (qe_of pe_str) qa_nil)))))))))))))
      (qss_cons (qs_set 0 sc_law_odd.nd rfl (Or.inl rfl) (qe_op op_cat (qe_of (pv 0)) (qe_lst (qa_cons (qe_of pe_str) (qa_cons (qe_of pe_str) (qa_cons (qe_of pe_str) (qa_cons (qe_of pe_str) (qa_cons (qe_of pe_str) (qa_cons (qe_of pe_str) (qa_cons (qe_of pe_str) (qa_cons (qe_of pe_str) qa_nil)))))))))))
      (qss_one (qs_ret (qe_op op_cat (qe_of (pv 0)) (qe_lst (qa_cons (qe_of pe_str) (qa_cons (qe_of pe_str) (qa_cons (qe_of pe_str) (qa_cons (qe_of pe_str) (qa_cons (qe_of pe_str) (qa_cons (qe_of pe_str) (qa_cons (qe_of pe_str) (qa_cons (qe_of pe_str) qa_nil))))))))))))))), ?_⟩
  refine ⟨line6 (by show 16 ≤ 1000; decide), fun a1 n1 => ?_⟩
  generalize hG1 : upd H a1 _ = H1
  have e1 : H1 a1 = some (.lst (OD1.map V.str)) := by rw [← hG1]; exact upd_same
  have s1 : Same H H1 := hG1 ▸ Same.new n1
  clear hG1
  refine ⟨_, rfl, line6 (by show 10 ≤ 1000; decide), fun a2 n2 => ?_⟩
  generalize hG2 : upd H1 a2 _ = H2
  have e2 : H2 a2 = some (.lst (OD2.map V.str)) := by rw [← hG2]; exact upd_same
  have s2 : Same H1 H2 := hG2 ▸ Same.new n2
  clear hG2
  have e1 := s2 _ _ e1
  refine ⟨a1, a2, _, _, rfl, rfl, e1, e2, line6 (by decide +kernel), fun a3 n3 => ?_⟩
  rw [← List.map_append]
  generalize hG3 : upd H2 a3 _ = H3
  have e3 : H3 a3 = some (.lst ((OD1 ++ OD2).map V.str)) := by rw [← hG3]; exact upd_same
  have s3 : Same H2 H3 := hG3 ▸ Same.new n3
  clear hG3
  refine ⟨_, rfl, line6 (by show 8 ≤ 1000; decide), fun a4 n4 => ?_⟩
  generalize hG4 : upd H3 a4 _ = H4
  have e4 : H4 a4 = some (.lst (OD3.map V.str)) := by rw [← hG4]; exact upd_same
  have s4 : Same H3 H4 := hG4 ▸ Same.new n4
  clear hG4
  have e3 := s4 _ _ e3
  refine ⟨a3, a4, _, _, rfl, rfl, e3, e4, line6 (by decide +kernel), fun a5 n5 => ?_⟩
  rw [← List.map_append]
  generalize hG5 : upd H4 a5 _ = H5
  have e5 : H5 a5 = some (.lst (((OD1 ++ OD2) ++ OD3).map V.str)) := by rw [← hG5]; exact upd_same
  have s5 : Same H4 H5 := hG5 ▸ Same.new n5
  clear hG5
  refine ⟨_, rfl, line6 (by show 8 ≤ 1000; decide), fun a6 n6 => ?_⟩
  generalize hG6 : upd H5 a6 _ = H6
  have e6 : H6 a6 = some (.lst (OD4.map V.str)) := by rw [← hG6]; exact upd_same
  have s6 : Same H5 H6 := hG6 ▸ Same.new n6
  clear hG6
  have e5 := s6 _ _ e5
  refine ⟨a5, a6, _, _, rfl, rfl, e5, e6, line6 (by decide +kernel), fun a7 n7 => ?_⟩
  rw [← List.map_append]
  exact k a7 _ _ ((((((s1.trans s2).trans s3).trans s4).trans s5).trans s6).trans (Same.new n7)) upd_same (by decide) od_ok
end

end K72

set_option maxHeartbeats 4000000
namespace K72
open PySem L2 TC
theorem tps_alike {K : PySem.W.Frag} {H : Hp} {qs qs' : List Addr} {ps : List Str} (h : Tps H qs ps) (h' : Tps H qs' ps) : ∀ (j : Nat) x y, (rV qs)[j]? = some x → (rV qs')[j]? = some y → Al2 K H x y := fun j x y hx hy => by
  obtain ⟨a, ha, rfl⟩ := rs_get hx
  obtain ⟨b, hb, rfl⟩ := rs_get hy
  obtain ⟨p, h1, h2⟩ := h.g j a ha
  obtain ⟨p', h1', h2'⟩ := h'.g j b hb
  rw [h1] at h1'
  cases h1'
  exact al2_tup (sqT h2) (sqT h2') (gV_flat p)
noncomputable def sp_right : Sp := fun vs H Q _ => ∃ (z : Str) (b : Bool), vs = [.str z, .bl b] ∧ asc z ∧ z.length ≤ 900 ∧ ∀ H', Same H H' → Q (.bl true) H'
section
variable {P : Program} {w : World} {K : PySem.W.Frag} {mg : Str → Option Value} {base : Heap} {nT cE nG nK nR nN nI : Addr}
/- _law_right: 0:_law_text 1:_law_gates 2:_law_found 3:_law_seen 4:e 5:_law_due 6:_law_others -/
noncomputable abbrev s_law_right : Stmt := top 25
theorem sc_law_right : FnScope ["_law_text", "_law_gates", "_law_found", "_law_seen", "e", "_law_due", "_law_others"] ["_law_text", "_law_gates"] (defScope s_law_right) := ⟨rfl, rfl, rfl, by decide +kernel, rfl, by decide +kernel, by decide +kernel⟩
theorem ok_right (T : Blt mg) (GE : GCls K mg "CoinError" cE) (GT : GCls K mg "NoText" nT) (XT : XCls K nT) (GG : GCls K mg "NoGate" nG) (GK : GCls K mg "NoLook" nK) (GR : GCls K mg "NoRows" nR) (GN : GCls K mg "NoName" nN) (GI : GCls K mg "NoLine" nI)
    (cb : PySem.W.subIn K (.ref cE) (.type "BaseException") = some true) (ec : PySem.W.subIn K (.ref nT) (.ref cE) = some true) (eG : PySem.W.subIn K (.ref nT) (.ref nG) = some false) (eK : PySem.W.subIn K (.ref nT) (.ref nK) = some false) (eR : PySem.W.subIn K (.ref nT) (.ref nR) = some false) (eN : PySem.W.subIn K (.ref nT) (.ref nN) = some false) (eI : PySem.W.subIn K (.ref nT) (.ref nI) = some false)
    (D : Def K mg "_law_right" s_law_right ["_law_text", "_law_gates"]) (C_read_gates : Cal P w K mg base (CX1 P w) 3 "read_gates" ["text"] (sp_rgsX nT)) (C_read_row : Cal P w K mg base (CX1 P w) 1 "read_row" ["text"] (sp_rrX nT)) (C_law_row_due : Cal P w K mg base CX0 1 "_law_row_due" ["_law_text"] sp_rdue) (C_law_gates_due : Cal P w K mg base CX0 1 "_law_gates_due" ["_law_text"] sp_gdue) : Cal P w K mg base CX0 4 "_law_right" ["_law_text", "_law_gates"] sp_right := by
  refine D.ok sc_law_right (fun vs H Q E h => ?_) (fun f cdv A outer s H vs Q E hr h => ?_)
  · obtain ⟨z, b, rfl, _⟩ := h; rfl
  obtain ⟨z, b, rfl, ha, hz, k⟩ := h
  have kf : ∀ {x C}, GCls K mg x C → PySem.W.subIn K (.ref nT) (.ref C) = some false → PySem.W.kitOne K (.ref nT) (.ref C) = some false := fun g i => kit_of XT.self g.cl i
  cases b with
  | true =>
    refine ⟨_, (pss_cons (ps_set (i := 2) sc_law_right.nd rfl (Or.inl rfl) pe_non)
      (pss_cons (ps_set (i := 3) sc_law_right.nd rfl (Or.inl rfl) pe_non)
      (pss_cons (ps_try (i := 4) rfl ⟨rfl, rfl⟩ sc_law_right.nd rfl rfl rfl GE.m (fun pn xe E R => (pss_one (ps_if (pt_val (pv 1))
          (pss_one (ps_set (i := 2) sc_law_right.nd rfl (Or.inl rfl) (pe_calX C_read_gates hr.sub R (pa_cons (pv 0) pa_nil))))
          (pss_one (ps_set (i := 2) sc_law_right.nd rfl (Or.inl rfl) (pe_calX C_read_row hr.sub R (pa_cons (pv 0) pa_nil)))))))
        (fun e => (pss_cons (ps_set (i := 6) sc_law_right.nd rfl (Or.inl rfl) (pe_lst (pa_cons (pe_callB (call_isiK K) (by rfl) T.n_isinstance bt_isinstance (pa_cons (pv 4) (pa_cons (pe_gR GG.m) pa_nil))) (pa_cons (pe_callB (call_isiK K) (by rfl) T.n_isinstance bt_isinstance (pa_cons (pv 4) (pa_cons (pe_gR GK.m) pa_nil))) (pa_cons (pe_callB (call_isiK K) (by rfl) T.n_isinstance bt_isinstance (pa_cons (pv 4) (pa_cons (pe_gR GR.m) pa_nil))) (pa_cons (pe_callB (call_isiK K) (by rfl) T.n_isinstance bt_isinstance (pa_cons (pv 4) (pa_cons (pe_gR GN.m) pa_nil))) pa_nil))))))
        (pss_one (ps_set (i := 3) sc_law_right.nd rfl (Or.inl rfl) (pe_tup (pa_cons (pe_callB (call_isiK K) (by rfl) T.n_isinstance bt_isinstance (pa_cons (pv 4) (pa_cons (pe_gR GT.m) pa_nil))) (pa_cons (pe_or (pe_callB (call_anyH K e) (by rfl) T.n_any bt_any (pa_cons (pv 6) pa_nil)) (pe_one (pe_callB (call_isiK K) (by rfl) T.n_isinstance bt_isinstance (pa_cons (pv 4) (pa_cons (pe_gR GI.m) pa_nil))))) pa_nil))))))))
      (pss_cons (ps_set (i := 5) sc_law_right.nd rfl (Or.inl rfl) (pe_cal C_law_row_due hr.sub (pa_cons (pv 0) pa_nil)))
      (pss_cons (ps_if (pt_val (pv 1))
        (pss_one (ps_set (i := 5) sc_law_right.nd rfl (Or.inl rfl) (pe_cal C_law_gates_due hr.sub (pa_cons (pv 0) pa_nil))))
        pss_nil)
      (pss_cons (ps_if (pt_cmpR op_isN (pv 5) pe_non (nomark _))
        (pss_one (ps_ret (pe_cmpR (op_eqSqK K hr.units0) (pv 3) (pe_tup (pa_cons pe_bl (pa_cons pe_bl pa_nil))) (nomark _))))
        pss_nil)
      (pss_one (ps_ret (pe_and (pe_cmpR op_isN (pv 3) pe_non (nomark _)) (pe_and (pe_cmpR (op_eqAltK K hr.units1) (pv 2) (pv 5) (nomark _)) (pe_one (pe_cmpR op_eq (pe_callB (call_isiK K) (by rfl) T.n_isinstance bt_isinstance (pa_cons (pv 2) (pa_cons (pe_bT T.n_list bt_list) pa_nil))) (pv 1) (nomark _))))))))))))), ?_⟩
    refine ⟨_, rfl, _, rfl, iteT ?_⟩
    refine ⟨_, rfl, z, rfl, hz, fun hG q qs H1 s1 nq eq hT => ?_, fun hG => fun H1 s1 => ⟨exm_of cb GE.cl ec, fun a ha => ?_⟩⟩
    · refine ⟨_, rfl, z, rfl, hz, fun _ r H2 s2 nr er => ?_, fun _ H2 s2 => ?_⟩
      all_goals
        refine ⟨_, rfl, _, rfl, iteT ?_⟩
        refine ⟨_, rfl, z, rfl, hz, fun _ q' qs' H3 s3 nq' eq' hT' => ?_, fun h => absurd hG h⟩
        have s23 := s2.trans s3
        refine ⟨_, rfl, rfl, _, rfl, iteBN (decide_eq_false (fun z => by cases z)) ?_⟩
        refine ⟨_, rfl, rfl, _, rfl, iteB (by decide +kernel) ?_⟩
        refine ⟨_, rfl, _, rfl, q, q', _, _, rfl, rfl, .of (s23 _ _ eq), .of eq', by rw [rV, rV, List.length_map, List.length_map, hT.l, hT'.l], tps_alike (hT.same s23) hT', _, rfl, iteB rfl ?_⟩
        refine ⟨_, rfl, _, _, _, _, _, rfl, rfl, .of (.lst (s23 _ _ eq)), k_ll K, _, rfl, rfl, ?_⟩
        exact k H3 (s1.trans s23)
    · have ty : ∀ {H2}, H2 a = some (excO a (.ref nT)) → TyX K H2 (.ref a) (.ref nT) := fun h => .exc h XT.c
      have e0 : upd H1 a (excO a (.ref nT)) a = some (excO a (.ref nT)) := upd_same
      have s2 := s1.trans (Same.new (o := excO a (.ref nT)) ha)
      generalize upd H1 a (excO a (.ref nT)) = H2 at e0 s2 ⊢
      refine ⟨_, rfl, _, _, _, _, _, rfl, rfl, ty e0, kf GG eG, ?_⟩
      refine ⟨_, rfl, _, _, _, _, _, rfl, rfl, ty e0, kf GK eK, ?_⟩
      refine ⟨_, rfl, _, _, _, _, _, rfl, rfl, ty e0, kf GR eR, ?_⟩
      refine ⟨_, rfl, _, _, _, _, _, rfl, rfl, ty e0, kf GN eN, ?_⟩
      refine ⟨line6 (by show 4 ≤ 1000; decide), fun b hb => ?_⟩
      have e1 := (Same.new (o := .lst [.bl false, .bl false, .bl false, .bl false]) hb) _ _ e0
      have s3 := s2.trans (Same.new (o := .lst [.bl false, .bl false, .bl false, .bl false]) hb)
      have b1 : upd H2 b (.lst [.bl false, .bl false, .bl false, .bl false]) b = some (.lst [.bl false, .bl false, .bl false, .bl false]) := upd_same
      dsimp only [gName]
      generalize upd H2 b (.lst [.bl false, .bl false, .bl false, .bl false]) = H3 at e1 s3 b1 ⊢
      refine ⟨_, rfl, _, _, _, _, _, rfl, rfl, ty e1, kit_of XT.self GT.cl XT.self, ?_⟩
      refine ⟨_, rfl, b, _, _, _, rfl, e1, .of b1, rfl, _, rfl, iteF ?_⟩
      refine ⟨_, rfl, _, _, _, _, _, rfl, rfl, ty e1, kf GI eI, ?_⟩
      refine ⟨line6 (by show 2 ≤ 1000; decide), fun t ht => ?_⟩
      have s4 := s3.trans (Same.new (o := .tup [.bl true, .bl false]) ht)
      have et : upd H3 t (.tup [.bl true, .bl false]) t = some (.tup [.bl true, .bl false]) := upd_same
      dsimp only [gName]
      generalize upd H3 t (.tup [.bl true, .bl false]) = H4 at s4 et ⊢
      refine ⟨_, rfl, z, rfl, hz, fun _ r H5 s5 nr er => ?_, fun _ H5 s5 => ?_⟩
      all_goals
        have s6 := s4.trans s5
        have et := s5 _ _ et
        refine ⟨_, rfl, _, rfl, iteT ?_⟩
        refine ⟨_, rfl, z, rfl, hz, fun h => absurd h hG, fun _ H6 s7 => ?_⟩
        have s6 := s6.trans s7
        have et := s7 _ _ et
        refine ⟨_, rfl, rfl, _, rfl, iteB (by decide +kernel) ?_⟩
        refine ⟨_, rfl, line6 (by show 2 ≤ 1000; decide), fun u hu => ?_⟩
        refine ⟨t, u, _, _, rfl, rfl, .inr ⟨sqT (Same.new hu _ _ et), sqT upd_same⟩, rfl, rfl, ?_⟩
        exact k _ (s6.trans (Same.new hu))
  | false =>
    refine ⟨_, (pss_cons (ps_set (i := 2) sc_law_right.nd rfl (Or.inl rfl) pe_non)
      (pss_cons (ps_set (i := 3) sc_law_right.nd rfl (Or.inl rfl) pe_non)
      (pss_cons (ps_try (i := 4) rfl ⟨rfl, rfl⟩ sc_law_right.nd rfl rfl rfl GE.m (fun pn xe E R => (pss_one (ps_if (pt_val (pv 1))
          (pss_one (ps_set (i := 2) sc_law_right.nd rfl (Or.inl rfl) (pe_calX C_read_gates hr.sub R (pa_cons (pv 0) pa_nil))))
          (pss_one (ps_set (i := 2) sc_law_right.nd rfl (Or.inl rfl) (pe_calX C_read_row hr.sub R (pa_cons (pv 0) pa_nil)))))))
        (fun e => (pss_cons (ps_set (i := 6) sc_law_right.nd rfl (Or.inl rfl) (pe_lst (pa_cons (pe_callB (call_isiK K) (by rfl) T.n_isinstance bt_isinstance (pa_cons (pv 4) (pa_cons (pe_gR GG.m) pa_nil))) (pa_cons (pe_callB (call_isiK K) (by rfl) T.n_isinstance bt_isinstance (pa_cons (pv 4) (pa_cons (pe_gR GK.m) pa_nil))) (pa_cons (pe_callB (call_isiK K) (by rfl) T.n_isinstance bt_isinstance (pa_cons (pv 4) (pa_cons (pe_gR GR.m) pa_nil))) (pa_cons (pe_callB (call_isiK K) (by rfl) T.n_isinstance bt_isinstance (pa_cons (pv 4) (pa_cons (pe_gR GN.m) pa_nil))) pa_nil))))))
        (pss_one (ps_set (i := 3) sc_law_right.nd rfl (Or.inl rfl) (pe_tup (pa_cons (pe_callB (call_isiK K) (by rfl) T.n_isinstance bt_isinstance (pa_cons (pv 4) (pa_cons (pe_gR GT.m) pa_nil))) (pa_cons (pe_or (pe_callB (call_anyH K e) (by rfl) T.n_any bt_any (pa_cons (pv 6) pa_nil)) (pe_one (pe_callB (call_isiK K) (by rfl) T.n_isinstance bt_isinstance (pa_cons (pv 4) (pa_cons (pe_gR GI.m) pa_nil))))) pa_nil))))))))
      (pss_cons (ps_set (i := 5) sc_law_right.nd rfl (Or.inl rfl) (pe_cal C_law_row_due hr.sub (pa_cons (pv 0) pa_nil)))
      (pss_cons (ps_if (pt_val (pv 1))
        (pss_one (ps_set (i := 5) sc_law_right.nd rfl (Or.inl rfl) (pe_cal C_law_gates_due hr.sub (pa_cons (pv 0) pa_nil))))
        pss_nil)
      (pss_cons (ps_if (pt_cmpR op_isN (pv 5) pe_non (nomark _))
        (pss_one (ps_ret (pe_cmpR (op_eqSqK K hr.units0) (pv 3) (pe_tup (pa_cons pe_bl (pa_cons pe_bl pa_nil))) (nomark _))))
        pss_nil)
      (pss_one (ps_ret (pe_and (pe_cmpR op_isN (pv 3) pe_non (nomark _)) (pe_and (pe_cmpR (op_eqSqK K hr.units0) (pv 2) (pv 5) (nomark _)) (pe_one (pe_cmpR op_eq (pe_callB (call_isiK K) (by rfl) T.n_isinstance bt_isinstance (pa_cons (pv 2) (pa_cons (pe_bT T.n_list bt_list) pa_nil))) (pv 1) (nomark _))))))))))))), ?_⟩
    refine ⟨_, rfl, _, rfl, iteF ?_⟩
    refine ⟨_, rfl, z, rfl, ha, hz, fun hG q H1 s1 nq eq => ?_, fun hG => fun H1 s1 => ⟨exm_of cb GE.cl ec, fun a ha => ?_⟩⟩
    · refine ⟨_, rfl, z, rfl, hz, fun _ r H2 s2 nr er => ?_, fun h => absurd hG h⟩
      refine ⟨_, rfl, _, rfl, iteF ?_⟩
      refine ⟨_, rfl, rfl, _, rfl, iteBN (decide_eq_false (fun z => by cases z)) ?_⟩
      refine ⟨_, rfl, rfl, _, rfl, iteB (by decide +kernel) ?_⟩
      refine ⟨_, rfl, _, rfl, q, r, _, _, rfl, rfl, .inr ⟨sqT (s2 _ _ eq), sqT er⟩, rfl, rfl, _, rfl, iteB (by show eqVs (zV [_, _, _]) (zV [_, _, _]) = true; rw [eqVs_ints]; exact decide_eq_true rfl) ?_⟩
      refine ⟨_, rfl, _, _, _, _, _, rfl, rfl, .of (.tup (s2 _ _ eq)), k_tl K, _, rfl, rfl, ?_⟩
      exact k H2 (s1.trans s2)
    · have ty : ∀ {H2}, H2 a = some (excO a (.ref nT)) → TyX K H2 (.ref a) (.ref nT) := fun h => .exc h XT.c
      have e0 : upd H1 a (excO a (.ref nT)) a = some (excO a (.ref nT)) := upd_same
      have s2 := s1.trans (Same.new (o := excO a (.ref nT)) ha)
      generalize upd H1 a (excO a (.ref nT)) = H2 at e0 s2 ⊢
      refine ⟨_, rfl, _, _, _, _, _, rfl, rfl, ty e0, kf GG eG, ?_⟩
      refine ⟨_, rfl, _, _, _, _, _, rfl, rfl, ty e0, kf GK eK, ?_⟩
      refine ⟨_, rfl, _, _, _, _, _, rfl, rfl, ty e0, kf GR eR, ?_⟩
      refine ⟨_, rfl, _, _, _, _, _, rfl, rfl, ty e0, kf GN eN, ?_⟩
      refine ⟨line6 (by show 4 ≤ 1000; decide), fun b hb => ?_⟩
      have e1 := (Same.new (o := .lst [.bl false, .bl false, .bl false, .bl false]) hb) _ _ e0
      have s3 := s2.trans (Same.new (o := .lst [.bl false, .bl false, .bl false, .bl false]) hb)
      have b1 : upd H2 b (.lst [.bl false, .bl false, .bl false, .bl false]) b = some (.lst [.bl false, .bl false, .bl false, .bl false]) := upd_same
      dsimp only [gName]
      generalize upd H2 b (.lst [.bl false, .bl false, .bl false, .bl false]) = H3 at e1 s3 b1 ⊢
      refine ⟨_, rfl, _, _, _, _, _, rfl, rfl, ty e1, kit_of XT.self GT.cl XT.self, ?_⟩
      refine ⟨_, rfl, b, _, _, _, rfl, e1, .of b1, rfl, _, rfl, iteF ?_⟩
      refine ⟨_, rfl, _, _, _, _, _, rfl, rfl, ty e1, kf GI eI, ?_⟩
      refine ⟨line6 (by show 2 ≤ 1000; decide), fun t ht => ?_⟩
      have s4 := s3.trans (Same.new (o := .tup [.bl true, .bl false]) ht)
      have et : upd H3 t (.tup [.bl true, .bl false]) t = some (.tup [.bl true, .bl false]) := upd_same
      dsimp only [gName]
      generalize upd H3 t (.tup [.bl true, .bl false]) = H4 at s4 et ⊢
      refine ⟨_, rfl, z, rfl, hz, fun h => absurd h hG, fun _ H5 s5 => ?_⟩
      have s6 := s4.trans s5
      have et := s5 _ _ et
      refine ⟨_, rfl, _, rfl, iteF ?_⟩
      refine ⟨_, rfl, rfl, _, rfl, iteB (by decide +kernel) ?_⟩
      refine ⟨_, rfl, line6 (by show 2 ≤ 1000; decide), fun u hu => ?_⟩
      refine ⟨t, u, _, _, rfl, rfl, .inr ⟨sqT (Same.new hu _ _ et), sqT upd_same⟩, rfl, rfl, ?_⟩
      exact k _ (s6.trans (Same.new hu))
end

end K72

set_option maxHeartbeats 4000000
namespace K72
open PySem L2 TC
/-- an own def called without arguments -/
theorem pe_cal0 {X : Cx} {k : Nat} {x : Str} {ps : List Str} {sp : Sp} {p pos : Pos} (C : Cal X.prog X.w X.K X.mg X.base CX0 k x ps sp) (hr : Room k X.A) (hg : Gl X x := by rfl) (hdb : (x == ("__debug__" : Str)) = false := by decide) : PE X (.Call (.Name x p) [] [] pos) (tCall sp [] E0 tNil) := by
  obtain ⟨f, fd, F, hm, kp, hb⟩ := C.ex
  exact pe_call0 F hr hg hm kp hb .nil pass0 hdb
noncomputable def sp_law (K : PySem.W.Frag) : Sp := fun vs H Q _ => ∃ (a : Addr) (ns : List Int), vs = [.ref a] ∧ SqL K H a (zV ns) ∧ ns.length ≤ 63 ∧ ∀ H', Q (.bl true) H'
theorem cutn (xs : List V) (n : Nat) : cutV xs none (some (n : Int)) = xs.take n := by
  unfold cutV
  have h1 : HT.sIx xs.length xs.length (some (n : Int)) = min n xs.length := HT.sIx_nat _ _ _
  rw [h1]
  show (xs.drop 0).take (min n xs.length - 0) = _
  rw [List.drop_zero, Nat.sub_zero]
  rcases Nat.le_total n xs.length with h | h
  · rw [Nat.min_eq_left h]
  · rw [Nat.min_eq_right h, List.take_length, List.take_of_length_le h]
theorem ok_up {g : Gt} {m : Nat} (h : g.ok m) (hm : m ≤ 6) : g.ok 6 := by
  cases g with
  | mix c => exact Nat.lt_of_lt_of_le h hm
  | flip c => exact Nat.lt_of_lt_of_le h hm
  | sign c => exact Nat.lt_of_lt_of_le h hm
  | follow a b => exact ⟨Nat.lt_of_lt_of_le h.1 hm, Nat.lt_of_lt_of_le h.2.1 hm, h.2.2⟩
  | meet a b => exact ⟨Nat.lt_of_lt_of_le h.1 hm, Nat.lt_of_lt_of_le h.2.1 hm, h.2.2⟩
  | swap a b => exact ⟨Nat.lt_of_lt_of_le h.1 hm, Nat.lt_of_lt_of_le h.2.1 hm, h.2.2⟩
theorem asc_join {y : Str} (hy : asc y) : ∀ zs : List Str, (∀ z ∈ zs, asc z) → asc (Str.join y zs)
  | [], _ => asc_iff.mpr fun x hx => (nomatch (show x ∈ ([] : List Nat) from hx))
  | [z], h => h z List.mem_cons_self
  | a :: b :: r, h => by
    show asc (a ++ y ++ Str.join y (b :: r))
    exact asc_app (asc_app (h a List.mem_cons_self) hy) (asc_join hy (b :: r) fun z hz => h z (List.mem_cons_of_mem _ hz))
theorem asc_gtxs {gs : List Gt} (h : ∀ g ∈ gs, g.ok 6) : asc (gtxs gs) := by
  have w6 : ∀ x ∈ ([("mix" : Str), ("flip" : Str), ("sign" : Str), ("follow" : Str), ("meet" : Str), ("swap" : Str)] : List Str), asc x := by unfold asc; decide +kernel
  have n6 : ∀ c : Nat, c < 10 → asc (nst c) := by unfold asc; decide +kernel
  refine asc_join (by unfold asc; decide +kernel) _ fun z hz => ?_
  obtain ⟨g, hg, rfl⟩ := List.mem_map.mp hz
  refine asc_join (by unfold asc; decide +kernel) _ fun z hz => ?_
  rcases List.mem_cons.mp hz with rfl | hz
  · exact w6 _ (gwd_mem g)
  · obtain ⟨c, hc, rfl⟩ := List.mem_map.mp hz
    have := gcoins (h g hg) c hc
    exact n6 c (by omega)
theorem gtxs_len3 {gs : List Gt} (h : ∀ g ∈ gs, g.ok 6) (hl : gs.length ≤ 3) : (gtxs gs).length ≤ 69 := by
  have := join_len (y := "; ") (B := 21) (gs.map gtx) fun z hz => by
    obtain ⟨g, hg, rfl⟩ := List.mem_map.mp hz
    exact gtx_len (h g hg)
  rw [List.length_map, sc2] at this
  have : gs.length * (21 + 2) ≤ 3 * 23 := Nat.mul_le_mul hl (Nat.le_refl _)
  unfold gtxs
  omega
theorem asc_rtx (r : Rw) (m : Nat) : asc (rtx r m) := asc_iff.mpr fun x hx => by
  rw [rtx_cps] at hx
  rcases List.mem_cons.mp hx with rfl | hx
  · unfold sgc; split <;> decide
  · obtain ⟨i, _, rfl⟩ := List.mem_map.mp hx
    exact (let_at (idx r i) (idx_lt r i)).2.2
section
variable {P : Program} {w : World} {K : PySem.W.Frag} {mg : Str → Option Value} {base : Heap}
/- law: 0:_law_script 1:_law_odd_here 2:_law_cell 3:_law_number 4:_law_coins 5:_law_row 6:_law_gates -/
noncomputable abbrev s_law : Stmt := top 27
theorem sc_law : FnScope ["_law_script", "_law_odd_here", "_law_cell", "_law_number", "_law_coins", "_law_row", "_law_gates"] ["_law_script"] (defScope s_law) := ⟨rfl, rfl, rfl, by decide +kernel, rfl, by decide +kernel, by decide +kernel⟩
theorem ok_law (T : Blt mg) {f : Addr} {fd : FuncData} (F : Fun K "law" "law" s_law f fd) (C_law_odd : Cal P w K mg base CX0 1 "_law_odd" [] sp_odd) (C_law_gate : Cal P w K mg base CX0 1 "_law_gate" ["_law_cell", "_law_coins"] sp_lgate) (C_law_right : Cal P w K mg base CX0 4 "_law_right" ["_law_text", "_law_gates"] sp_right) (C_law_spoilt : Cal P w K mg base CX0 1 "_law_spoilt" ["_law_text", "_law_cell"] sp_spo) (C_law_row_text : Cal P w K mg base CX0 1 "_law_row_text" ["_law_row", "_law_coins"] (sp_srow K)) (C_law_gates_text : Cal P w K mg base CX0 1 "_law_gates_text" ["_law_gates"] (sp_sgates K)) :
    FnOk P w K mg base CX0 5 f fd ["_law_script"] (sp_law K) := by
  refine F.ok sc_law (fun vs H Q E h => ?_) (fun cdv A outer s H vs Q E hr h => ?_)
  · obtain ⟨a, ns, rfl, _⟩ := h; rfl
  obtain ⟨a, ss, rfl, hS, hl, k⟩ := h
  have lb : (1000 : Nat) ≤ sizeLine := line6 (by decide)
  refine ⟨_, (pss_cons (ps_set (i := 1) sc_law.nd rfl (Or.inl rfl) (pe_cal0 C_law_odd hr.sub))
      (pss_cons (ps_for PassesOwn.never rfl (pi_listK K (pe_op op_cat (pe_callTy (call_listK K) (by rfl) T.n_list bt_list (pa_cons (pe_slice (sl_listK K) (pv 0) po_none (po_some pe_int)) pa_nil)) (pe_lst (pa_cons pe_int pa_nil)))) (pg_name (i := 2) sc_law.nd rfl (Or.inl rfl))
        (pss_cons (ps_set (i := 3) sc_law.nd rfl (Or.inr rfl) (pe_op op_mod (pv 2) (pe_op op_pow pe_int pe_int)))
        (pss_cons (ps_set (i := 4) sc_law.nd rfl (Or.inr rfl) (pe_op op_add pe_int (pe_op op_mod (pv 3) pe_int)))
        (pss_cons (ps_set (i := 5) sc_law.nd rfl (Or.inl rfl) (pe_tup (pa_cons (pe_op op_sub pe_int (pe_op op_mulB pe_int (pe_op op_mod (pe_op op_fdivB (pv 3) pe_int) pe_int))) (pa_cons (pe_op op_mod (pe_op op_fdivB (pv 3) pe_int) (pe_op op_shl pe_int (pv 4))) (pa_cons (pe_op op_mod (pe_op op_fdivB (pv 3) pe_int) (pe_op op_shl pe_int (pv 4))) pa_nil)))))
        (pss_cons (ps_setC (i := 6) rfl sc_law.nd rfl rfl (cs (N := ["_law_script", "_law_odd_here", "_law_cell", "_law_number", "_law_coins", "_law_row", "_law_gates"]) (osc := defScope s_law) (by decide +kernel)) (pi_range1 rfl T.n_range (pa_cons (pe_op op_mod (pe_op op_fdivB (pv 3) pe_int) pe_int) pa_nil)) (fun _ _ _ _ => pifs_nil) (fun _ _ _ _ => (pe_cal C_law_gate hr.sub (pa_cons (pe_op op_add (pe_op op_mulB (pe_op op_fdivB (pv 4) pe_int) (pe_op op_add (pv 0) pe_int)) (pe_op op_mulB pe_int (pv 0))) (pa_cons (pv 5) pa_nil)))))
        (pss_cons (ps_if (pt_not (pt_val (pe_cal C_law_right hr.sub (pa_cons (pe_cal C_law_spoilt hr.sub (pa_cons (pe_cal C_law_row_text hr.sub (pa_cons (pv 5) (pa_cons (pv 4) pa_nil))) (pa_cons (pe_op op_fdivB (pv 3) pe_int) pa_nil))) (pa_cons pe_bl pa_nil)))))
          (pss_one (ps_ret pe_bl))
          pss_nil)
        (pss_cons (ps_if (pt_not (pt_val (pe_cal C_law_right hr.sub (pa_cons (pe_cal C_law_spoilt hr.sub (pa_cons (pe_cal C_law_gates_text hr.sub (pa_cons (pv 6) pa_nil)) (pa_cons (pe_op op_fdivB (pv 3) pe_int) pa_nil))) (pa_cons pe_bl pa_nil)))))
          (pss_one (ps_ret pe_bl))
          pss_nil)
        (pss_one (ps_if (pt_not (pt_val (pe_cal C_law_right hr.sub (pa_cons (pe_ix (ix_listK K) (pv 1) (pe_op op_mod (pv 3) (pe_callB (call_lenK K) (by rfl) T.n_len bt_len (pa_cons (pv 1) pa_nil))) (fun _ _ => rfl)) (pa_cons (pe_cmpR op_eq (pe_op op_mod (pe_op op_fdivB (pv 3) pe_int) pe_int) pe_int (nomark _)) pa_nil)))))
          (pss_one (ps_ret pe_bl))
          pss_nil)))))))))
      (pss_one (ps_ret pe_bl)))), ?_⟩
  refine ⟨rfl, fun o zs H0 s0 eo ho hz => ?_⟩
  refine ⟨_, rfl, _, rfl, a, _, rfl, s0.seq hS, fun p1 n1 => ?_⟩
  rw [show (20 : Int) = ((20 : Nat) : Int) from rfl, cutn, show (zV ss).take 20 = zV (ss.take 20) by rw [zV, zV, List.map_take]]
  have s1 := Same.new (o := .lst (zV (ss.take 20))) n1
  have e1 : upd H0 p1 (.lst (zV (ss.take 20))) p1 = some (.lst (zV (ss.take 20))) := upd_same
  have eo := s1 _ _ eo
  generalize upd H0 p1 (.lst (zV (ss.take 20))) = H1 at s1 e1 eo ⊢
  refine ⟨p1, _, rfl, .inl (.of e1), fun p2 n2 => ?_⟩
  have s2 := Same.new (o := .lst (zV (ss.take 20))) n2
  have e2 : upd H1 p2 (.lst (zV (ss.take 20))) p2 = some (.lst (zV (ss.take 20))) := upd_same
  have eo := s2 _ _ eo
  generalize upd H1 p2 (.lst (zV (ss.take 20))) = H2 at s2 e2 eo ⊢
  refine ⟨line6 (by show 1 ≤ 1000; decide), fun p3 n3 => ?_⟩
  have s3 := Same.new (o := .lst [V.int 0]) n3
  have e3 : upd H2 p3 (.lst [V.int 0]) p3 = some (.lst (zV [0])) := upd_same
  have e2 := s3 _ _ e2
  have eo := s3 _ _ eo
  generalize upd H2 p3 (.lst [V.int 0]) = H3 at s3 e3 e2 eo ⊢
  have hl20 : (ss.take 20).length ≤ 20 := by rw [List.length_take]; omega
  refine ⟨p2, p3, _, _, rfl, rfl, e2, e3, line6 (by rw [zV, List.length_map]; show _ + 1 ≤ 1000; omega), fun p4 n4 => ?_⟩
  rw [show zV (ss.take 20) ++ zV [0] = zV (ss.take 20 ++ [0]) by rw [zV, zV, zV, List.map_append]]
  have s4 := Same.new (o := .lst (zV (ss.take 20 ++ [0]))) n4
  have e4 : upd H3 p4 (.lst (zV (ss.take 20 ++ [0]))) p4 = some (.lst (zV (ss.take 20 ++ [0]))) := upd_same
  have eo := s4 _ _ eo
  generalize upd H3 p4 (.lst (zV (ss.take 20 ++ [0]))) = H4 at e4 eo ⊢
  refine ⟨p4, rfl, ⟨_, .of e4⟩, for_list (K := K) (a := p4) (xs := zV (ss.take 20 ++ [0])) (fun i σ H' => ∃ v2 v3 v4 v5 v6 : Option V, σ = [some (.ref a), some (.ref o), v2, v3, v4, v5, v6] ∧ Same H4 H') ⟨_, _, _, _, _, rfl, .refl _⟩ (fun i σ H' _ ⟨_, _, _, _, _, _, s'⟩ => .of (s' _ _ e4)) ?_ ?_⟩
  · rintro i x σ H5 hi ⟨v2, v3, v4, v5, v6, rfl, s5⟩
    obtain ⟨c, _, rfl⟩ := zs_get hi
    refine ⟨_, rfl, _, _, rfl, rfl, cpw _ (by decide) (by decide), _, _, rfl, rfl, (by show (0 : Int) < 10 ^ (15 : Int).toNat; decide), ?_⟩
    dsimp only [gName]
    have n0 := em_nn c (m := 10 ^ (15 : Int).toNat) (by decide)
    have n1 := em_lt c (m := 10 ^ (15 : Int).toNat) (by decide)
    have pw15 : (10 : Int) ^ (15 : Int).toNat = 1000000000000000 := by decide
    generalize c % 10 ^ (15 : Int).toNat = n at n0 n1 ⊢
    rw [pw15] at n1
    have a0 := em_nn n (m := 6) (by decide)
    have a1 := em_lt n (m := 6) (by decide)
    obtain ⟨m, hm, m1, m6⟩ : ∃ m : Nat, 1 + n % 6 = (m : Int) ∧ 1 ≤ m ∧ m ≤ 6 := ⟨(1 + n % 6).toNat, by omega, by omega, by omega⟩
    refine ⟨_, rfl, _, _, rfl, rfl, (by show (0 : Int) < _; decide), _, _, rfl, rfl, ?_⟩
    dsimp only [gName]
    rw [hm]
    have hp0 : 0 < 2 ^ m := Nat.two_pow_pos m
    have hz0 : (0 : Int) < 1 * 2 ^ (m : Int).toNat := by rw [shl_is]; omega
    have x0 := em_nn (n.fdiv 12) hz0
    have x1 := em_lt (n.fdiv 12) hz0
    have y0 := em_nn (n.fdiv 768) hz0
    have y1 := em_lt (n.fdiv 768) hz0
    have w0 := em_nn (n.fdiv 6) (m := 2) (by decide)
    have w1 := em_lt (n.fdiv 6) (m := 2) (by decide)
    have hone : one (1 - 2 * (n.fdiv 6 % 2)) := by
      have : n.fdiv 6 % 2 = 0 ∨ n.fdiv 6 % 2 = 1 := by omega
      rcases this with h | h <;> rw [h] <;> simp [one]
    refine ⟨_, rfl, _, _, rfl, rfl, cdB (by decide) (by decide), _, _, rfl, rfl, (by show (0 : Int) < _; decide), _, _, rfl, rfl, ⟨big (by decide) (by decide), big (by omega) (by omega)⟩, _, _, rfl, rfl, ?_⟩
    refine ⟨_, rfl, _, _, rfl, rfl, cdB (by decide) (by decide), _, rfl, _, _, rfl, rfl, TC.cp2 (by omega), _, _, rfl, rfl, hz0, ?_⟩
    refine ⟨_, rfl, _, _, rfl, rfl, cdB (by decide) (by decide), _, rfl, _, _, rfl, rfl, TC.cp2 (by omega), _, _, rfl, rfl, hz0, line6 (by show 3 ≤ 1000; decide), fun g ng => ?_⟩
    rw [shl_is] at x0 x1 y0 y1
    obtain ⟨X, hX, hX1⟩ : ∃ X : Nat, n.fdiv 12 % (1 * 2 ^ (m : Int).toNat) = (X : Int) ∧ X < 2 ^ m := by rw [shl_is]; exact ⟨(n.fdiv 12 % ((2 ^ m : Nat) : Int)).toNat, by omega, by omega⟩
    obtain ⟨Z, hZ, hZ1⟩ : ∃ Z : Nat, n.fdiv 768 % (1 * 2 ^ (m : Int).toNat) = (Z : Int) ∧ Z < 2 ^ m := by rw [shl_is]; exact ⟨(n.fdiv 768 % ((2 ^ m : Nat) : Int)).toNat, by omega, by omega⟩
    dsimp only [gName]
    rw [hX, hZ]
    have s6 := Same.new (o := .tup [V.int (1 - 2 * (n.fdiv 6 % 2)), .int X, .int Z]) ng
    have eg : upd H5 g (.tup [V.int (1 - 2 * (n.fdiv 6 % 2)), .int X, .int Z]) g = some (.tup (Rw.vals ⟨1 - 2 * (n.fdiv 6 % 2), X, Z⟩)) := upd_same
    have hrok : Rw.ok ⟨1 - 2 * (n.fdiv 6 % 2), X, Z⟩ m := ⟨hone, hX1, hZ1⟩
    generalize (⟨1 - 2 * (n.fdiv 6 % 2), X, Z⟩ : Rw) = r at eg hrok
    have s56 := s5.trans s6
    generalize upd H5 g (.tup [V.int (1 - 2 * (n.fdiv 6 % 2)), .int X, .int Z]) = H6 at s56 eg ⊢
    have b0 := em_nn (n.fdiv 5) (m := 4) (by decide)
    have b1 := em_lt (n.fdiv 5) (m := 4) (by decide)
    obtain ⟨N, hN, hN3⟩ : ∃ N : Nat, n.fdiv 5 % 4 = (N : Int) ∧ N ≤ 3 := ⟨(n.fdiv 5 % 4).toNat, by omega, by omega⟩
    have n7 := fd_pos n0 (m := 7) (by decide)
    refine ⟨_, rfl, _, _, rfl, rfl, cdB (by decide) (by decide), _, _, rfl, rfl, (by show (0 : Int) < _; decide), (N : Int), by rw [← hN], by omega, by omega, ?_⟩
    rw [Int.toNat_natCast]
    refine comp_rangeP (fun i ys H' => ∃ (as : List Addr) (gs : List Gt), ys = rV as ∧ as.length = i ∧ Same H6 H' ∧ Gts H' m as gs) ⟨[], [], rfl, rfl, .refl H6, .nil⟩ (fun i ys H' _ ⟨as, gs, e1, e2, _⟩ => by rw [e1, rV, List.length_map, e2]) (line6 (by omega)) ?_ ?_
    · rintro j ys H' Q' hj ⟨as, gs, rfl, hil, s', G⟩ q'
      rw [Int.zero_add]
      have hb : 0 ≤ n.fdiv 7 ∧ n.fdiv 7 < 1000000000000000 := by rw [n7]; omega
      refine ⟨_, rfl, _, _, rfl, rfl, cdB (by decide) (by decide), _, rfl, _, _, rfl, rfl, _, _, rfl, rfl, ⟨big (by omega) (by omega), big (by omega) (by omega)⟩, _, rfl, _, _, rfl, rfl, ⟨big (by decide) (by decide), big (by omega) (by omega)⟩, _, _, rfl, rfl, _, rfl, _, (m : Int), rfl, by omega, by omega, fun g H4 gt s4 ng eg hok => q' _ _ ?_⟩
      rw [Int.toNat_natCast] at hok
      exact ⟨as ++ [g], gs ++ [gt], by rw [rV, rV, List.map_append]; rfl, by rw [List.length_append, hil]; rfl, s'.trans s4, (G.same s4).app (Gts.one eg hok)⟩
    rintro ys H7 pg ⟨as, gs, rfl, hil, s7, G⟩ npg
    have s8 := Same.new (o := .lst (rV as)) npg
    have epg : upd H7 pg (.lst (rV as)) pg = some (.lst (rV as)) := upd_same
    have G := G.same s8
    have s78 := s7.trans s8
    have eg := s78 _ _ eg
    have t8 := s56.trans s78
    dsimp only [gName]
    generalize upd H7 pg (.lst (rV as)) = H8 at t8 epg G eg ⊢
    have gl : gs.length ≤ 3 := by rw [← G.l, hil]; exact hN3
    have h6 : ∀ g ∈ gs, g.ok 6 := fun g h => ok_up (G.all g h) m6
    have G6 : Gts H8 6 as gs := ⟨G.l, fun i a e => by
      obtain ⟨g, h1, h2, _⟩ := G.g i a e
      exact ⟨g, h1, h2, h6 g (List.mem_of_getElem? h1)⟩⟩
    refine ⟨_, rfl, _, rfl, g, r, m, rfl, sqT eg, hrok, m6, fun H9 s9 => ?_⟩
    refine ⟨_, rfl, _, _, rfl, rfl, cdB (by decide) (by decide), rtx r m, _, rfl, asc_rtx r m, by rw [rtx_slen]; omega, fun z1 H10 s10 hz1 hl1 => ?_⟩
    refine ⟨z1, false, rfl, hz1, by omega, fun H11 s11 => ⟨_, rfl, iteF ?_⟩⟩
    have u11 := (s9.trans s10).trans s11
    refine ⟨_, rfl, pg, as, gs, rfl, .of (u11 _ _ epg), G6.same u11, by omega, fun H12 s12 => ?_⟩
    refine ⟨_, rfl, _, _, rfl, rfl, cdB (by decide) (by decide), gtxs gs, _, rfl, asc_gtxs h6, by have := gtxs_len3 h6 gl; omega, fun z2 H13 s13 hz2 hl2 => ?_⟩
    refine ⟨z2, true, rfl, hz2, by omega, fun H14 s14 => ⟨_, rfl, iteF ?_⟩⟩
    have u14 := ((u11.trans s12).trans s13).trans s14
    have t14 := t8.trans u14
    have eo := t14 _ _ eo
    have hol : (zs.map V.str).length = 42 := by rw [List.length_map, ho]
    have o0 := em_nn n (m := ((zs.map V.str).length : Int)) (by rw [hol]; decide)
    have o1 := em_lt n (m := ((zs.map V.str).length : Int)) (by rw [hol]; decide)
    obtain ⟨j, hj, hj42⟩ : ∃ j : Nat, n % ((zs.map V.str).length : Int) = (j : Int) ∧ j < zs.length := ⟨(n % ((zs.map V.str).length : Int)).toNat, by omega, by omega⟩
    have hat : atI (zs.map V.str) (n % ((zs.map V.str).length : Int)) = some (.str zs[j]) := by
      rw [hj]
      exact atI_nat (by rw [List.getElem?_map, List.getElem?_eq_getElem hj42]; rfl)
    have hzj := hz _ (List.getElem_mem hj42)
    refine ⟨_, rfl, _, rfl, _, rfl, o, _, rfl, .inl (.of eo), _, _, rfl, rfl, (by show (0 : Int) < ((zs.map V.str).length : Int); rw [hol]; decide), o, _, _, _, rfl, rfl, .of eo, hat, ?_⟩
    refine ⟨_, rfl, _, _, rfl, rfl, cdB (by decide) (by decide), _, _, rfl, rfl, (by show (0 : Int) < _; decide), rfl, ?_⟩
    refine ⟨zs[j], _, rfl, hzj.1, by have := hzj.2; omega, fun H15 s15 => ⟨_, rfl, iteF ?_⟩⟩
    exact ⟨_, _, _, _, _, rfl, t14.trans s15⟩
  · rintro σ H5 ⟨v2, v3, v4, v5, v6, rfl, s5⟩
    exact k H5
end
end K72

set_option maxHeartbeats 4000000
namespace K72
open PySem L2 TC
theorem lenS {us : List Value} {n : Nat} (h : us.length = n + 1) : ∃ x vs, us = x :: vs ∧ vs.length = n := by cases us with | nil => cases h | cons x vs => exact ⟨x, vs, rfl, Nat.succ.inj h⟩
theorem len1 {us : List Value} (h : us.length = 1) : ∃ x0, us = [x0] := by obtain ⟨x0, u0, rfl, h0⟩ := lenS h; have e := List.length_eq_zero_iff.mp h0; subst e; exact ⟨x0, rfl⟩
theorem len2 {us : List Value} (h : us.length = 2) : ∃ x0 x1, us = [x0, x1] := by obtain ⟨x0, u0, rfl, h0⟩ := lenS h; obtain ⟨x1, u1, rfl, h1⟩ := lenS h0; have e := List.length_eq_zero_iff.mp h1; subst e; exact ⟨x0, x1, rfl⟩
theorem len3 {us : List Value} (h : us.length = 3) : ∃ x0 x1 x2, us = [x0, x1, x2] := by obtain ⟨x0, u0, rfl, h0⟩ := lenS h; obtain ⟨x1, u1, rfl, h1⟩ := lenS h0; obtain ⟨x2, u2, rfl, h2⟩ := lenS h1; have e := List.length_eq_zero_iff.mp h2; subst e; exact ⟨x0, x1, x2, rfl⟩
theorem all_mk {l : PySem.W.OpenLaw} {w : World} {K : PySem.W.Frag} {h : Heap} {mg : Str → Option Value} {fa : Addr} (X : K.In h) (G : h.Ns mainGlobals mg) (hfa : mg "law" = some (.ref fa))
    {f0 : Addr} {od0 an0 : Option Addr} {sl0 : Array (Option Value)} {oc0 kV0 dc0 pm0 cd0 ct0 : Value}
    {f1 : Addr} {od1 an1 : Option Addr} {sl1 : Array (Option Value)} {oc1 kV1 dc1 pm1 cd1 ct1 : Value}
    {f2 : Addr} {od2 an2 : Option Addr} {sl2 : Array (Option Value)} {oc2 kV2 dc2 pm2 cd2 ct2 : Value}
    {f3 : Addr} {od3 an3 : Option Addr} {sl3 : Array (Option Value)} {oc3 kV3 dc3 pm3 cd3 ct3 : Value}
    {f4 : Addr} {od4 an4 : Option Addr} {sl4 : Array (Option Value)} {oc4 kV4 dc4 pm4 cd4 ct4 : Value}
    {f5 : Addr} {od5 an5 : Option Addr} {sl5 : Array (Option Value)} {oc5 kV5 dc5 pm5 cd5 ct5 : Value}
    {f6 : Addr} {od6 an6 : Option Addr} {sl6 : Array (Option Value)} {oc6 kV6 dc6 pm6 cd6 ct6 : Value}
    {f7 : Addr} {od7 an7 : Option Addr} {sl7 : Array (Option Value)} {oc7 kV7 dc7 pm7 cd7 ct7 : Value}
    {f8 : Addr} {od8 an8 : Option Addr} {sl8 : Array (Option Value)} {oc8 kV8 dc8 pm8 cd8 ct8 : Value}
    {f9 : Addr} {od9 an9 : Option Addr} {sl9 : Array (Option Value)} {oc9 kV9 dc9 pm9 cd9 ct9 : Value}
    {f10 : Addr} {od10 an10 : Option Addr} {sl10 : Array (Option Value)} {oc10 kV10 dc10 pm10 cd10 ct10 : Value}
    {f11 : Addr} {od11 an11 : Option Addr} {sl11 : Array (Option Value)} {oc11 kV11 dc11 pm11 cd11 ct11 : Value}
    {f12 : Addr} {od12 an12 : Option Addr} {sl12 : Array (Option Value)} {oc12 kV12 dc12 pm12 cd12 ct12 : Value}
    {f13 : Addr} {od13 an13 : Option Addr} {sl13 : Array (Option Value)} {oc13 kV13 dc13 pm13 cd13 ct13 : Value}
    {A_CoinError : Addr} {q_CoinError : ClassData}
    {A_NoText : Addr} {q_NoText : ClassData}
    {A_NoGate : Addr} {q_NoGate : ClassData}
    {A_NoLook : Addr} {q_NoLook : ClassData}
    {A_NoRows : Addr} {q_NoRows : ClassData}
    {A_NoName : Addr} {q_NoName : ClassData}
    {A_NoLine : Addr} {q_NoLine : ClassData}
    {aW1 aW2 : Addr} {odW1 odW2 : Option Addr} {slW1 slW2 : Array (Option Value)} {nW1 nW2 : Nat} {tw1 tw2 tw3 tw4 tw5 tw6 : Tok}
    {tmc : Tok}
    {tlt : Tok}
    (a0 : PySem.W.nsIn K mainGlobals "read_figure" = some (some (.ref f0)))
    (l0 : K.lookup f0 = some ⟨oc0, od0, .func (PySem.W.fnOf "read_figure" "read_figure" (defArgs s_read_figure) (defBody s_read_figure) (defScope s_read_figure) .none kV0 dc0 pm0 an0 cd0 ct0), sl0⟩)
    (c0 : PySem.W.codeIn K cd0 "read_figure" = true)
    (k0 : PySem.W.keepIn K (.ref f0) = true)
    (a1 : PySem.W.nsIn K mainGlobals "coins_behind" = some (some (.ref f1)))
    (l1 : K.lookup f1 = some ⟨oc1, od1, .func (PySem.W.fnOf "coins_behind" "coins_behind" (defArgs s_coins_behind) (defBody s_coins_behind) (defScope s_coins_behind) .none kV1 dc1 pm1 an1 cd1 ct1), sl1⟩)
    (c1 : PySem.W.codeIn K cd1 "coins_behind" = true)
    (k1 : PySem.W.keepIn K (.ref f1) = true)
    (a2 : PySem.W.nsIn K mainGlobals "read_gate" = some (some (.ref f2)))
    (l2 : K.lookup f2 = some ⟨oc2, od2, .func (PySem.W.fnOf "read_gate" "read_gate" (defArgs s_read_gate) (defBody s_read_gate) (defScope s_read_gate) .none kV2 dc2 pm2 an2 cd2 ct2), sl2⟩)
    (c2 : PySem.W.codeIn K cd2 "read_gate" = true)
    (k2 : PySem.W.keepIn K (.ref f2) = true)
    (a3 : PySem.W.nsIn K mainGlobals "read_gates" = some (some (.ref f3)))
    (l3 : K.lookup f3 = some ⟨oc3, od3, .func (PySem.W.fnOf "read_gates" "read_gates" (defArgs s_read_gates) (defBody s_read_gates) (defScope s_read_gates) .none kV3 dc3 pm3 an3 cd3 ct3), sl3⟩)
    (c3 : PySem.W.codeIn K cd3 "read_gates" = true)
    (k3 : PySem.W.keepIn K (.ref f3) = true)
    (a4 : PySem.W.nsIn K mainGlobals "read_row" = some (some (.ref f4)))
    (l4 : K.lookup f4 = some ⟨oc4, od4, .func (PySem.W.fnOf "read_row" "read_row" (defArgs s_read_row) (defBody s_read_row) (defScope s_read_row) .none kV4 dc4 pm4 an4 cd4 ct4), sl4⟩)
    (c4 : PySem.W.codeIn K cd4 "read_row" = true)
    (k4 : PySem.W.keepIn K (.ref f4) = true)
    (a5 : PySem.W.nsIn K mainGlobals "_law_gate" = some (some (.ref f5)))
    (l5 : K.lookup f5 = some ⟨oc5, od5, .func (PySem.W.fnOf "_law_gate" "_law_gate" (defArgs s_law_gate) (defBody s_law_gate) (defScope s_law_gate) .none kV5 dc5 pm5 an5 cd5 ct5), sl5⟩)
    (c5 : PySem.W.codeIn K cd5 "_law_gate" = true)
    (k5 : PySem.W.keepIn K (.ref f5) = true)
    (a6 : PySem.W.nsIn K mainGlobals "_law_gates_text" = some (some (.ref f6)))
    (l6 : K.lookup f6 = some ⟨oc6, od6, .func (PySem.W.fnOf "_law_gates_text" "_law_gates_text" (defArgs s_law_gates_text) (defBody s_law_gates_text) (defScope s_law_gates_text) .none kV6 dc6 pm6 an6 cd6 ct6), sl6⟩)
    (c6 : PySem.W.codeIn K cd6 "_law_gates_text" = true)
    (k6 : PySem.W.keepIn K (.ref f6) = true)
    (a7 : PySem.W.nsIn K mainGlobals "_law_row_text" = some (some (.ref f7)))
    (l7 : K.lookup f7 = some ⟨oc7, od7, .func (PySem.W.fnOf "_law_row_text" "_law_row_text" (defArgs s_law_row_text) (defBody s_law_row_text) (defScope s_law_row_text) .none kV7 dc7 pm7 an7 cd7 ct7), sl7⟩)
    (c7 : PySem.W.codeIn K cd7 "_law_row_text" = true)
    (k7 : PySem.W.keepIn K (.ref f7) = true)
    (a8 : PySem.W.nsIn K mainGlobals "_law_spoilt" = some (some (.ref f8)))
    (l8 : K.lookup f8 = some ⟨oc8, od8, .func (PySem.W.fnOf "_law_spoilt" "_law_spoilt" (defArgs s_law_spoilt) (defBody s_law_spoilt) (defScope s_law_spoilt) .none kV8 dc8 pm8 an8 cd8 ct8), sl8⟩)
    (c8 : PySem.W.codeIn K cd8 "_law_spoilt" = true)
    (k8 : PySem.W.keepIn K (.ref f8) = true)
    (a9 : PySem.W.nsIn K mainGlobals "_law_row_due" = some (some (.ref f9)))
    (l9 : K.lookup f9 = some ⟨oc9, od9, .func (PySem.W.fnOf "_law_row_due" "_law_row_due" (defArgs s_law_row_due) (defBody s_law_row_due) (defScope s_law_row_due) .none kV9 dc9 pm9 an9 cd9 ct9), sl9⟩)
    (c9 : PySem.W.codeIn K cd9 "_law_row_due" = true)
    (k9 : PySem.W.keepIn K (.ref f9) = true)
    (a10 : PySem.W.nsIn K mainGlobals "_law_gates_due" = some (some (.ref f10)))
    (l10 : K.lookup f10 = some ⟨oc10, od10, .func (PySem.W.fnOf "_law_gates_due" "_law_gates_due" (defArgs s_law_gates_due) (defBody s_law_gates_due) (defScope s_law_gates_due) .none kV10 dc10 pm10 an10 cd10 ct10), sl10⟩)
    (c10 : PySem.W.codeIn K cd10 "_law_gates_due" = true)
    (k10 : PySem.W.keepIn K (.ref f10) = true)
    (a11 : PySem.W.nsIn K mainGlobals "_law_right" = some (some (.ref f11)))
    (l11 : K.lookup f11 = some ⟨oc11, od11, .func (PySem.W.fnOf "_law_right" "_law_right" (defArgs s_law_right) (defBody s_law_right) (defScope s_law_right) .none kV11 dc11 pm11 an11 cd11 ct11), sl11⟩)
    (c11 : PySem.W.codeIn K cd11 "_law_right" = true)
    (k11 : PySem.W.keepIn K (.ref f11) = true)
    (a12 : PySem.W.nsIn K mainGlobals "_law_odd" = some (some (.ref f12)))
    (l12 : K.lookup f12 = some ⟨oc12, od12, .func (PySem.W.fnOf "_law_odd" "_law_odd" (defArgs s_law_odd) (defBody s_law_odd) (defScope s_law_odd) .none kV12 dc12 pm12 an12 cd12 ct12), sl12⟩)
    (c12 : PySem.W.codeIn K cd12 "_law_odd" = true)
    (k12 : PySem.W.keepIn K (.ref f12) = true)
    (a13 : PySem.W.nsIn K mainGlobals "law" = some (some (.ref f13)))
    (l13 : K.lookup f13 = some ⟨oc13, od13, .func (PySem.W.fnOf "law" "law" (defArgs s_law) (defBody s_law) (defScope s_law) .none kV13 dc13 pm13 an13 cd13 ct13), sl13⟩)
    (c13 : PySem.W.codeIn K cd13 "law" = true)
    (k13 : PySem.W.keepIn K (.ref f13) = true)
    (z1 : PySem.W.nsIn K mainGlobals "len" = some none)
    (z2 : PySem.W.nsIn K mainGlobals "range" = some none)
    (z3 : PySem.W.nsIn K mainGlobals "abs" = some none)
    (z4 : PySem.W.nsIn K mainGlobals "any" = some none)
    (z5 : PySem.W.nsIn K mainGlobals "all" = some none)
    (z6 : PySem.W.nsIn K mainGlobals "isinstance" = some none)
    (z7 : PySem.W.nsIn K mainGlobals "int" = some none)
    (z8 : PySem.W.nsIn K mainGlobals "bool" = some none)
    (z9 : PySem.W.nsIn K mainGlobals "list" = some none)
    (z10 : PySem.W.nsIn K mainGlobals "str" = some none)
    (z11 : PySem.W.nsIn K mainGlobals "tuple" = some none)
    (z12 : PySem.W.nsIn K mainGlobals "enumerate" = some none)
    (z13 : PySem.W.nsIn K mainGlobals "ValueError" = some none)
    (u_CoinError : PySem.W.nsIn K mainGlobals "CoinError" = some (some (.ref A_CoinError)))
    (v_CoinError : PySem.W.clsIn K A_CoinError = some q_CoinError)
    (w_CoinError : PySem.W.typeIn K (.ref A_CoinError) = some (.type "type"))
    (u_NoText : PySem.W.nsIn K mainGlobals "NoText" = some (some (.ref A_NoText)))
    (v_NoText : PySem.W.clsIn K A_NoText = some q_NoText)
    (w_NoText : PySem.W.typeIn K (.ref A_NoText) = some (.type "type"))
    (u_NoGate : PySem.W.nsIn K mainGlobals "NoGate" = some (some (.ref A_NoGate)))
    (v_NoGate : PySem.W.clsIn K A_NoGate = some q_NoGate)
    (w_NoGate : PySem.W.typeIn K (.ref A_NoGate) = some (.type "type"))
    (u_NoLook : PySem.W.nsIn K mainGlobals "NoLook" = some (some (.ref A_NoLook)))
    (v_NoLook : PySem.W.clsIn K A_NoLook = some q_NoLook)
    (w_NoLook : PySem.W.typeIn K (.ref A_NoLook) = some (.type "type"))
    (u_NoRows : PySem.W.nsIn K mainGlobals "NoRows" = some (some (.ref A_NoRows)))
    (v_NoRows : PySem.W.clsIn K A_NoRows = some q_NoRows)
    (w_NoRows : PySem.W.typeIn K (.ref A_NoRows) = some (.type "type"))
    (u_NoName : PySem.W.nsIn K mainGlobals "NoName" = some (some (.ref A_NoName)))
    (v_NoName : PySem.W.clsIn K A_NoName = some q_NoName)
    (w_NoName : PySem.W.typeIn K (.ref A_NoName) = some (.type "type"))
    (u_NoLine : PySem.W.nsIn K mainGlobals "NoLine" = some (some (.ref A_NoLine)))
    (v_NoLine : PySem.W.clsIn K A_NoLine = some q_NoLine)
    (w_NoLine : PySem.W.typeIn K (.ref A_NoLine) = some (.type "type"))
    (x_NoText : PySem.W.excIn K A_NoText bmVE "ValueError.__new__" = true)
    (xa_NoText : PySem.W.findIn K (.ref A_NoText) "__getattribute__" = some (some (.builtin "BaseException.__getattribute__")))
    (xb_NoText : PySem.W.findIn K (.ref A_NoText) "__getattr__" = some none)
    (xc_NoText : PySem.W.findIn K (.ref A_NoText) "__class__" = some (some (.builtin "object.__class__")))
    (xd_NoText : PySem.W.subIn K (.ref A_NoText) (.type "BaseException") = some true)
    (xe_NoText : PySem.W.subIn K (.ref A_NoText) (.type "object") = some true)
    (xf_NoText : PySem.W.subIn K (.ref A_NoText) (.ref A_NoText) = some true)
    (cb : PySem.W.subIn K (.ref A_CoinError) (.type "BaseException") = some true)
    (ec : PySem.W.subIn K (.ref A_NoText) (.ref A_CoinError) = some true)
    (eG : PySem.W.subIn K (.ref A_NoText) (.ref A_NoGate) = some false)
    (eK : PySem.W.subIn K (.ref A_NoText) (.ref A_NoLook) = some false)
    (eR : PySem.W.subIn K (.ref A_NoText) (.ref A_NoRows) = some false)
    (eN : PySem.W.subIn K (.ref A_NoText) (.ref A_NoName) = some false)
    (eI : PySem.W.subIn K (.ref A_NoText) (.ref A_NoLine) = some false)
    (ww1 : PySem.W.nsIn K mainGlobals "ONE_COIN_WORDS" = some (some (.ref aW1)))
    (ww2 : K.lookup aW1 = some ⟨.type "tuple", odW1, .seq #[.str "mix" tw1, .str "flip" tw2, .str "sign" tw3] nW1, slW1⟩)
    (ww3 : PySem.W.nsIn K mainGlobals "TWO_COIN_WORDS" = some (some (.ref aW2)))
    (ww4 : K.lookup aW2 = some ⟨.type "tuple", odW2, .seq #[.str "follow" tw4, .str "meet" tw5, .str "swap" tw6] nW2, slW2⟩)
    (zmin : PySem.W.nsIn K mainGlobals "min" = some none)
    (zsum : PySem.W.nsIn K mainGlobals "sum" = some none)
    (gmc : PySem.W.nsIn K mainGlobals "MOST_COINS" = some (some (.int 6 tmc)))
    (glt : PySem.W.nsIn K mainGlobals "LETTERS" = some (some (.str ".xzy" tlt)))
    : ∃ fd : FuncData, (∀ (s : Shared) (v : Value), BindsTo s fd ⟨[v], []⟩ [("_law_script", v)]) ∧ ∀ base : Heap, K.In base → base.Ns mainGlobals mg → FnOk l.prog w K mg base CX0 5 fa fd ["_law_script"] (sp_law K) := by
  have D_read_figure : Def K mg "read_figure" s_read_figure ["word", "low", "high"] := def_mk X G a0 l0 c0 k0 fun _ _ _ _ _ _ us hl => (by obtain ⟨x0, x1, x2, rfl⟩ := len3 hl; rfl)
  have D_coins_behind : Def K mg "coins_behind" s_coins_behind ["word"] := def_mk X G a1 l1 c1 k1 fun _ _ _ _ _ _ us hl => (by obtain ⟨x0, rfl⟩ := len1 hl; rfl)
  have D_read_gate : Def K mg "read_gate" s_read_gate ["text"] := def_mk X G a2 l2 c2 k2 fun _ _ _ _ _ _ us hl => (by obtain ⟨x0, rfl⟩ := len1 hl; rfl)
  have D_read_gates : Def K mg "read_gates" s_read_gates ["text"] := def_mk X G a3 l3 c3 k3 fun _ _ _ _ _ _ us hl => (by obtain ⟨x0, rfl⟩ := len1 hl; rfl)
  have D_read_row : Def K mg "read_row" s_read_row ["text"] := def_mk X G a4 l4 c4 k4 fun _ _ _ _ _ _ us hl => (by obtain ⟨x0, rfl⟩ := len1 hl; rfl)
  have D__law_gate : Def K mg "_law_gate" s_law_gate ["_law_cell", "_law_coins"] := def_mk X G a5 l5 c5 k5 fun _ _ _ _ _ _ us hl => (by obtain ⟨x0, x1, rfl⟩ := len2 hl; rfl)
  have D__law_gates_text : Def K mg "_law_gates_text" s_law_gates_text ["_law_gates"] := def_mk X G a6 l6 c6 k6 fun _ _ _ _ _ _ us hl => (by obtain ⟨x0, rfl⟩ := len1 hl; rfl)
  have D__law_row_text : Def K mg "_law_row_text" s_law_row_text ["_law_row", "_law_coins"] := def_mk X G a7 l7 c7 k7 fun _ _ _ _ _ _ us hl => (by obtain ⟨x0, x1, rfl⟩ := len2 hl; rfl)
  have D__law_spoilt : Def K mg "_law_spoilt" s_law_spoilt ["_law_text", "_law_cell"] := def_mk X G a8 l8 c8 k8 fun _ _ _ _ _ _ us hl => (by obtain ⟨x0, x1, rfl⟩ := len2 hl; rfl)
  have D__law_row_due : Def K mg "_law_row_due" s_law_row_due ["_law_text"] := def_mk X G a9 l9 c9 k9 fun _ _ _ _ _ _ us hl => (by obtain ⟨x0, rfl⟩ := len1 hl; rfl)
  have D__law_gates_due : Def K mg "_law_gates_due" s_law_gates_due ["_law_text"] := def_mk X G a10 l10 c10 k10 fun _ _ _ _ _ _ us hl => (by obtain ⟨x0, rfl⟩ := len1 hl; rfl)
  have D__law_right : Def K mg "_law_right" s_law_right ["_law_text", "_law_gates"] := def_mk X G a11 l11 c11 k11 fun _ _ _ _ _ _ us hl => (by obtain ⟨x0, x1, rfl⟩ := len2 hl; rfl)
  have D__law_odd : Def K mg "_law_odd" s_law_odd [] := def_mk X G a12 l12 c12 k12 fun _ _ _ _ _ _ us hl => (by have e := List.length_eq_zero_iff.mp hl; subst e; rfl)
  have T : Blt mg := blt_mk X G z1 z2 z3 z4 z5 z6 z7 z8 z9 z10 z11 z12 z13
  have G_CoinError : GCls K mg "CoinError" A_CoinError := gcls_mk X G u_CoinError v_CoinError w_CoinError
  have G_NoText : GCls K mg "NoText" A_NoText := gcls_mk X G u_NoText v_NoText w_NoText
  have G_NoGate : GCls K mg "NoGate" A_NoGate := gcls_mk X G u_NoGate v_NoGate w_NoGate
  have G_NoLook : GCls K mg "NoLook" A_NoLook := gcls_mk X G u_NoLook v_NoLook w_NoLook
  have G_NoRows : GCls K mg "NoRows" A_NoRows := gcls_mk X G u_NoRows v_NoRows w_NoRows
  have G_NoName : GCls K mg "NoName" A_NoName := gcls_mk X G u_NoName v_NoName w_NoName
  have G_NoLine : GCls K mg "NoLine" A_NoLine := gcls_mk X G u_NoLine v_NoLine w_NoLine
  have X_NoText : XCls K A_NoText := xcls_mk x_NoText xa_NoText xb_NoText xc_NoText xd_NoText xe_NoText v_NoText xf_NoText
  have e := hfa.symm.trans (PySem.W.mg_of X G a13)
  cases e
  have F := fun_mk (st := s_law) l13 c13 k13
  have W1 := wrds_mk X G ww1 ww2
  have W2 := wrds_mk X G ww3 ww4
  have nmin := PySem.W.mg_none_of X G zmin
  have nsum := PySem.W.mg_none_of X G zsum
  have MC : ∃ t, mg "MOST_COINS" = some (.int 6 t) := ⟨_, PySem.W.mg_of X G gmc⟩
  have LT : ∃ t, mg "LETTERS" = some (.str LET t) := ⟨_, PySem.W.mg_of X G glt⟩
  exact ⟨PySem.W.fnOf "law" "law" (defArgs s_law) (defBody s_law) (defScope s_law) .none kV13 dc13 pm13 an13 cd13 ct13, fun s v => .of_eq rfl, fun base _ _ => (have CF := ok_figX (P := l.prog) (w := w) (base := base) T G_NoText X_NoText D_read_figure; have CB := ok_behX (P := l.prog) (w := w) (base := base) T G_NoText X_NoText W1 W2 D_coins_behind; have CRG := ok_rgX (P := l.prog) (w := w) (base := base) T G_NoText X_NoText D_read_gate CB CF; have CRS := ok_rgsX (P := l.prog) (w := w) (base := base) T D_read_gates CRG; have CRR := ok_rrX (P := l.prog) (w := w) (base := base) T nmin nsum LT MC G_NoText X_NoText D_read_row; have CGT := ok_gtext (P := l.prog) (w := w) (base := base) T D__law_gates_text; have CRT := ok_rtext (P := l.prog) (w := w) (base := base) T D__law_row_text; have CSP := ok_spo (P := l.prog) (w := w) (base := base) T D__law_spoilt; have COD := ok_odd (P := l.prog) (w := w) (base := base) T D__law_odd; have CRD := ok_rdue (P := l.prog) (w := w) (base := base) T D__law_row_due; have CGD := ok_gdue (P := l.prog) (w := w) (base := base) T D__law_gates_due; have CRI := ok_right (P := l.prog) (w := w) (base := base) T G_CoinError G_NoText X_NoText G_NoGate G_NoLook G_NoRows G_NoName G_NoLine cb ec eG eK eR eN eI D__law_right CRS CRR CRD CGD; ok_law T F COD (ok_lgate T D__law_gate) CRI CSP CRT CGT)⟩
theorem walk {l : PySem.W.OpenLaw} {q : Program} {loose : List Str} {XP : (Str → Option Value) → Heap → Prop} {YP : World → Heap → Prop} {d : DefRec} {K : Params → PySem.W.Frag} (hn : l.most = some 63) (hdf : d.params.defaults = [])
    (hY : ∀ (w : World) (h : Heap), YP w h → (K w.params).In h)
    (F : ∀ (w : World) (mg : Str → Option Value) (fa : Addr) (h : Heap), (K w.params).In h → h.Ns mainGlobals mg → mg d.name = some (.ref fa) →
      ∃ fd : FuncData, (∀ (s : Shared) (u : Value), BindsTo s fd ⟨[u], []⟩ [("_law_script", u)]) ∧ ∀ base : Heap, (K w.params).In base → base.Ns mainGlobals mg → FnOk l.prog w (K w.params) mg base CX0 5 fa fd ["_law_script"] (sp_law (K w.params))) :
    PySem.W.WalkO q loose XP YP l.row.toRowW d [] (fun f vs => PySem.call f vs) :=
  L2.walk_of (n := 63) (k := 5) (x := "_law_script") (CX := fun _ => CX0) (sp := fun w => sp_law (K w.params)) hn (by decide) hdf ⟨rfl, rfl, by decide, by decide⟩ hY F (fun _ _ a ns hl _ hS => ⟨a, ns, rfl, hS, hl, fun _ => rfl⟩) fun _ _ _ _ _ z => z
end K72
/-! names kept free: of these the closing tactic would lay lemmas of great size that nothing leans on or that it can do without -/
def PySem.W.Fast.tw16072305471051154515 : Unit := ()
def PySem.W.Fast.tw6742511950451872129 : Unit := ()
def PySem.W.Fast.tw16888480568655418789 : Unit := ()
def PySem.W.Fast.tw8244479775717499110 : Unit := ()
def PySem.W.Fast.tw9374499422308173254 : Unit := ()
def PySem.W.Fast.tw9472866744933380395 : Unit := ()
def PySem.W.Fast.tw18243799062866530092 : Unit := ()
def PySem.W.Fast.tw8818453843670213165 : Unit := ()
def PySem.W.Fast.tw18299033278340927471 : Unit := ()
def PySem.W.Fast.tw2300648653790083537 : Unit := ()
def PySem.W.Fast.tw10070869506352274932 : Unit := ()
def PySem.W.Fast.tw12639672308659984309 : Unit := ()
def PySem.W.Fast.tw16317298683407962358 : Unit := ()
def PySem.W.Fast.tw10879534465077129628 : Unit := ()
open PySem PySem.W PyProof.Rows
set_option maxRecDepth 100000 in
set_option maxHeartbeats 0 in
theorem PySem.Challenge.cw_turncoins_k72_texts_refused_holds : PySem.Challenge.rw_turncoins_k72_texts_refused.Holds := by
  w_on; o_law; k_head; (case hw => w_witness2)
  k_fill
  refine K72.walk (l := PySem.Challenge.rw_turncoins_k72_texts_refused) rfl rfl (fun w h Y => PySem.W.kIn_of Y) ?F
  case F =>
    intro w mg fa h KX G hmg
    refine' K72.all_mk KX G hmg ?a0 ?l0 ?c0 ?k0 ?a1 ?l1 ?c1 ?k1 ?a2 ?l2 ?c2 ?k2 ?a3 ?l3 ?c3 ?k3 ?a4 ?l4 ?c4 ?k4 ?a5 ?l5 ?c5 ?k5 ?a6 ?l6 ?c6 ?k6 ?a7 ?l7 ?c7 ?k7 ?a8 ?l8 ?c8 ?k8 ?a9 ?l9 ?c9 ?k9 ?a10 ?l10 ?c10 ?k10 ?a11 ?l11 ?c11 ?k11 ?a12 ?l12 ?c12 ?k12 ?a13 ?l13 ?c13 ?k13 ?z1 ?z2 ?z3 ?z4 ?z5 ?z6 ?z7 ?z8 ?z9 ?z10 ?z11 ?z12 ?z13 ?u_CoinError ?v_CoinError ?w_CoinError ?u_NoText ?v_NoText ?w_NoText ?u_NoGate ?v_NoGate ?w_NoGate ?u_NoLook ?v_NoLook ?w_NoLook ?u_NoRows ?v_NoRows ?w_NoRows ?u_NoName ?v_NoName ?w_NoName ?u_NoLine ?v_NoLine ?w_NoLine ?x_NoText ?xa_NoText ?xb_NoText ?xc_NoText ?xd_NoText ?xe_NoText ?xf_NoText ?cb ?ec ?eG ?eK ?eR ?eN ?eI ?ww1 ?ww2 ?ww3 ?ww4 ?zmin ?zsum ?gmc ?glt
    (case a0 => k_is); (case l0 => k_is); (case c0 => k_is); (case k0 => k_is); (case a1 => k_is); (case l1 => k_is); (case c1 => k_is); (case k1 => k_is)
    (case a2 => k_is); (case l2 => k_is); (case c2 => k_is); (case k2 => k_is); (case a3 => k_is); (case l3 => k_is); (case c3 => k_is); (case k3 => k_is)
    (case a4 => k_is); (case l4 => k_is); (case c4 => k_is); (case k4 => k_is); (case a5 => k_is); (case l5 => k_is); (case c5 => k_is); (case k5 => k_is)
    (case a6 => k_is); (case l6 => k_is); (case c6 => k_is); (case k6 => k_is); (case a7 => k_is); (case l7 => k_is); (case c7 => k_is); (case k7 => k_is)
    (case a8 => k_is); (case l8 => k_is); (case c8 => k_is); (case k8 => k_is); (case a9 => k_is); (case l9 => k_is); (case c9 => k_is); (case k9 => k_is)
    (case a10 => k_is); (case l10 => k_is); (case c10 => k_is); (case k10 => k_is); (case a11 => k_is); (case l11 => k_is); (case c11 => k_is); (case k11 => k_is)
    (case a12 => k_is); (case l12 => k_is); (case c12 => k_is); (case k12 => k_is); (case a13 => k_is); (case l13 => k_is); (case c13 => k_is); (case k13 => k_is)
    (case z1 => k_is); (case z2 => k_is); (case z3 => k_is); (case z4 => k_is); (case z5 => k_is); (case z6 => k_is); (case z7 => k_is); (case z8 => k_is)
    (case z9 => k_is); (case z10 => k_is); (case z11 => k_is); (case z12 => k_is); (case z13 => k_is); (case u_CoinError => k_is); (case v_CoinError => k_is); (case w_CoinError => k_is)
    (case u_NoText => k_is); (case v_NoText => k_is); (case w_NoText => k_is); (case u_NoGate => k_is); (case v_NoGate => k_is); (case w_NoGate => k_is); (case u_NoLook => k_is); (case v_NoLook => k_is)
    (case w_NoLook => k_is); (case u_NoRows => k_is); (case v_NoRows => k_is); (case w_NoRows => k_is); (case u_NoName => k_is); (case v_NoName => k_is); (case w_NoName => k_is); (case u_NoLine => k_is)
    (case v_NoLine => k_is); (case w_NoLine => k_is); (case x_NoText => k_exc); (case xa_NoText => k_is); (case xb_NoText => k_is); (case xc_NoText => k_is); (case xd_NoText => k_is); (case xe_NoText => k_is)
    (case xf_NoText => k_is); (case cb => k_is); (case ec => k_is); (case eG => k_is); (case eK => k_is); (case eR => k_is); (case eN => k_is); (case eI => k_is)
    (case ww1 => k_is); (case ww2 => k_is); (case ww3 => k_is); (case ww4 => k_is); (case zmin => k_is); (case zsum => k_is); (case gmc => k_is); (case glt => k_is)
#print axioms PySem.Challenge.cw_turncoins_k72_texts_refused_holds

