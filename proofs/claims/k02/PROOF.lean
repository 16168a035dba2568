import PyProof.Rows.All
import Wide.All
import OpenK.AllK
import Wide.FinOn
import Lean
import PyProof.EqAt
import PyProof.EqKinds
import PyProof.TupleCall
import PyProof.Rows.ListRangeD
import KE.LcSums
import KE.KRevSl
import PyProof.Rows.SetFrom
import PySem.Challenge.RW_treeasks_k02_fractions_made
set_option Elab.async false
set_option linter.all false
set_option maxRecDepth 100000
set_option genSizeOf false
theorem PySem.W.Fast.te10011659073516603875 : True := trivial
noncomputable def PySem.W.Fast.tw10011659073516603875 : Nat := 0
noncomputable def PySem.W.Fast.tw16672401009442468117 : PySem.Program := PySem.Challenge.pw_treeasks_k02_fractions_made
theorem PySem.W.Fast.te16672401009442468117 : PySem.Challenge.pw_treeasks_k02_fractions_made = PySem.W.Fast.tw16672401009442468117 := rfl
/-! THE HAND LAYER, for ints, bools, texts, own classes, LISTS and tuples (index, slices, in, append, pop ..), calls, loops. Paste it whole ahead of your own text; what your proof does not reach may be deleted. -/
namespace L2
open PySem PySem.Spec PyProof.Rows

/-- a key: an int or a str -/
noncomputable abbrev Key := Sum Int Str
noncomputable def keyIs : Key → Value → Bool
  | .inl k, v => Value.isInt k v
  | .inr x, v => Value.isStrOf x v
noncomputable def keyH (w : World) : Key → Int
  | .inl k => hashInt k
  | .inr x => hashStr w x
theorem keyIs_shape : ∀ {k : Key} {v : Value}, keyIs k v = true → (∃ i t, k = Sum.inl i ∧ v = Value.int i t) ∨ (∃ x t, k = Sum.inr x ∧ v = Value.str x t)
  | .inl i, v, h => by
    obtain ⟨t, e⟩ := Value.isInt_shape (k := i) (v := v) h
    exact .inl ⟨i, t, rfl, e⟩
  | .inr x, v, h => by
    obtain ⟨t, e⟩ := Value.isStrOf_shape (x := x) (v := v) h
    exact .inr ⟨x, t, rfl, e⟩
theorem key_ll (a b : Int) : decide ((Sum.inl a : Key) = Sum.inl b) = (a == b) := by
  by_cases e : a = b
  · subst e; simp
  · have h : ¬ (Sum.inl a : Key) = Sum.inl b := fun q => e (Sum.inl.inj q)
    rw [decide_eq_false h]
    exact (beq_eq_false_iff_ne.mpr e).symm
theorem key_rr (a b : Str) : decide ((Sum.inr a : Key) = Sum.inr b) = decide (a = b) := by
  by_cases e : a = b
  · subst e; simp
  · have h : ¬ (Sum.inr a : Key) = Sum.inr b := fun q => e (Sum.inr.inj q)
    rw [decide_eq_false h, decide_eq_false e]
theorem key_lr (a : Int) (b : Str) : decide ((Sum.inl a : Key) = Sum.inr b) = false := decide_eq_false (fun q => nomatch q)
theorem key_rl (a : Str) (b : Int) : decide ((Sum.inr a : Key) = Sum.inl b) = false := decide_eq_false (fun q => nomatch q)

noncomputable def mixKind (prog : Program) (w : World) : PySem.KeyKind prog w Key where
  is := keyIs
  hash := keyH w
  inj := fun v a b ha hb => by
    rcases keyIs_shape ha with ⟨i, t, rfl, rfl⟩ | ⟨x, t, rfl, rfl⟩
    · rcases keyIs_shape hb with ⟨j, u, rfl, e⟩ | ⟨y, u, rfl, e⟩
      · injection e with e1 _; rw [e1]
      · exact nomatch e
    · rcases keyIs_shape hb with ⟨j, u, rfl, e⟩ | ⟨y, u, rfl, e⟩
      · exact nomatch e
      · injection e with e1 _; rw [e1]
  byValue := fun k v h => by
    rcases keyIs_shape h with ⟨i, t, rfl, rfl⟩ | ⟨x, t, rfl, rfl⟩ <;> rfl
  pyHash := fun hv h => by
    rcases keyIs_shape hv with ⟨i, t, rfl, rfl⟩ | ⟨x, t, rfl, rfl⟩
    · exact wpAny_pyHash_int h
    · exact wpAny_pyHash_str h
  eqBool := fun hu hv h => by
    rcases keyIs_shape hu with ⟨i, t, rfl, rfl⟩ | ⟨x, t, rfl, rfl⟩
    · rcases keyIs_shape hv with ⟨j, u, rfl, rfl⟩ | ⟨y, u, rfl, rfl⟩
      · rw [key_ll] at h; exact wpAny_eqBool_int h
      · rw [key_lr] at h; exact SeqAt.EqAt.int_str i t y u _ _ _ _ h
    · rcases keyIs_shape hv with ⟨j, u, rfl, rfl⟩ | ⟨y, u, rfl, rfl⟩
      · rw [key_rl] at h; exact SeqAt.EqAt.str_int x t j u _ _ _ _ h
      · rw [key_rr] at h; exact wpAny_eqBool_str h
  «strs» := fun k x t v h => by
    rcases keyIs_shape h with ⟨i, u, rfl, e⟩ | ⟨y, u, rfl, e⟩
    · exact nomatch e
    · injection e with e1 _
      subst e1
      cases v <;> rfl

end L2

namespace L2
open PySem PySem.Spec PyProof.Rows

/-- a value, without the heap -/
inductive V where
  | non | bl (b : Bool) | int (i : Int) | str (x : Str) | byt (b : Array UInt8) | flt (b : UInt64) | ref (a : Addr) | ty (n : String)
  deriving DecidableEq

noncomputable def RelV : V → Value → Prop
  | .non, u => u = Value.none
  | .bl b, u => u = Value.bool b
  | .int i, u => ∃ t, u = Value.int i t
  | .str x, u => ∃ t, u = Value.str x t
  | .byt b, u => ∃ t, u = Value.bytes b t
  | .flt b, u => ∃ t, u = Value.float b t
  | .ref a, u => u = Value.ref a
  | .ty n, u => u = Value.type n

noncomputable abbrev Vals : List V → List Value → Prop := Paired RelV
theorem Vals.length {xs : List V} {us : List Value} (r : Vals xs us) : xs.length = us.length := Paired.length r
theorem Vals.get : ∀ {xs : List V} {us : List Value} {i : Nat} {x : V}, Vals xs us → xs[i]? = some x → ∃ u, us[i]? = some u ∧ RelV x u
  | _, _, _, _, .nil, e => by simp at e
  | _, _, 0, _, .cons r _, e => by simp at e; subst e; exact ⟨_, rfl, r⟩
  | _, _, i + 1, x, .cons _ t, e => by
    obtain ⟨u, h1, h2⟩ := Vals.get (i := i) (x := x) t (by simpa using e)
    exact ⟨u, by simpa using h1, h2⟩
theorem Vals.set {x : V} {u : Value} (r : RelV x u) : ∀ {xs : List V} {us : List Value} (i : Nat), Vals xs us → Vals (xs.set i x) (us.set i u)
  | _, _, _, .nil => .nil
  | _, _, 0, .cons _ t => .cons r t
  | _, _, i + 1, .cons q t => .cons q (Vals.set r i t)
theorem Vals.append : ∀ {xs ys : List V} {us ws : List Value}, Vals xs us → Vals ys ws → Vals (xs ++ ys) (us ++ ws)
  | _, _, _, _, .nil, s => s
  | _, _, _, _, .cons r t, s => .cons r (Vals.append t s)
noncomputable def RelO : Option V → Option Value → Prop
  | some v, some u => RelV v u
  | none, none => True
  | _, _ => False
noncomputable def KV {κ : Type} : List (κ × V) → List (κ × Value) → Prop := Paired fun (p : κ × V) (q : κ × Value) => p.1 = q.1 ∧ RelV p.2 q.2

/-- a key of a dict (00_mix): an int or a text -/
noncomputable def kV : Key → V
  | .inl i => .int i
  | .inr x => .str x

/-- what stands at a tracked address -/
inductive HO where
  /-- a list -/
  | lst (xs : List V)
  /-- a tuple (never changes) -/
  | tup (xs : List V)
  /-- a dict whose keys are ints and texts; one whose keys are tuples of ints and texts (the empty one is both) -/
  | dK (kvs : List (Key × V)) | dT (kvs : List (List Key × V))
  /-- a set of ints: its members, its size -/
  | set (S : Int → Bool) (n : Nat)
  /-- an instance of the class at C, its dict at dx, its attributes -/
  | ins (C dx : Addr) (fs : List (Str × V))
  /-- the dict of the instance at x -/
  | own (x : Addr)
  /-- the dict of an exception -/
  | xd (fs : List (Str × V))
  /-- a bound method, f of x -/
  | met (f x : Addr)
  /-- a range object lo, lo + 1, .. below hi -/
  | rng (lo hi : Int)
  /-- a thing that is known to the object (the script; a dict while a loop walks it): read, never written while it is so -/
  | frz (o : Obj) (u : HO)
  /-- a code object's table -/
  | tbl (ps : Array Value)
  /-- any other thing, by what is true of its one object (a def of one's own: SetO a S n := HO.ext fun h => ..) -/
  | ext (φ : Heap → Prop)

noncomputable abbrev Hp := Addr → Option HO
noncomputable def upd (H : Hp) (a : Addr) (o : HO) : Hp := fun b => if b = a then some o else H b
theorem upd_same {H : Hp} {a : Addr} {o : HO} : upd H a o a = some o := by unfold upd; rw [if_pos rfl]
theorem upd_ne {H : Hp} {a b : Addr} {o : HO} (h : b ≠ a) : upd H a o b = H b := by unfold upd; rw [if_neg h]
theorem ne_of_none {H : Hp} {a b : Addr} {o : HO} (h : H a = some o) (h' : H b = none) : a ≠ b := by
  intro e; subst e; rw [h] at h'; cases h'

section
variable (P : Program) (w : World)
noncomputable def ObjOk (H : Hp) (h : Heap) (a : Addr) : HO → Prop
  | .lst xs => xs.length ≤ sizeLine ∧ ∃ (its : List Value) (n : Nat), Vals xs its ∧ h.get? a = some { cls := .type "list", data := .seq its.toArray n }
  | .tup xs => xs.length ≤ sizeLine ∧ ∃ its : List Value, Vals xs its ∧ IsTup h a its.toArray
  | .dK kvs => kvs.length ≤ sizeLine ∧ (a == sysModules) = false ∧ ∃ vs, KV kvs vs ∧ h.DictOf (mixKind P w) a vs
  | .dT kvs => kvs.length ≤ sizeLine ∧ (a == sysModules) = false ∧ ∃ xs : List (List Key × Addr × Value),
      Paired (fun (p : List Key × V) (q : List Key × Addr × Value) => p.1 = q.1 ∧ H q.2.1 = some (.tup (p.1.map kV)) ∧ RelV p.2 q.2.2) kvs xs ∧
      ∃ o es ep, h.get? a = some o ∧ o.ExactDict ∧ o.data = .dict es ep ∧ es.toList = xs.map (entryOfKey (tupleKind (mixKind P w))) ∧ (xs.map (·.1)).Nodup
  | .set S n => h.SetOf (intKind P w) a S n
  | .ins C dx fs => H dx = some (.own a) ∧ fs.length ≤ 1000 ∧ dx ≠ a ∧ h.get? a = some (PySem.W.instObj C dx) ∧
      ∃ mA, h.Ns1 dx mA ∧ (∀ f, RelO (fs.lookup f) (mA f)) ∧ PySem.Within mA (fs.map (·.1))
  | .own _ => ∃ o, h.get? a = some o
  | .xd fs => ∃ mA, h.Ns1 a mA ∧ ∀ f, RelO (fs.lookup f) (mA f)
  | .rng lo hi => ∃ t u v, h.get? a = some { cls := .type "range", data := .fields #[.int lo t, .int hi u, .int 1 v] }
  | .frz o u => h.get? a = some o ∧ ObjOk H h a u
  | .tbl ps => h.get? a = some { cls := .none, data := .fields ps }
  | .met f x => h.get? a = some (PySem.W.methodObj (.ref f) (.ref x))
  | .ext φ => φ h ∧ (∃ o, h.get? a = some o) ∧ ∀ h1 h2 : Heap, φ h1 → (∀ o, h1.get? a = some o → h2.get? a = some o) → φ h2
/-- the abstract heap is held -/
noncomputable def HOk (H : Hp) (h : Heap) : Prop := ∀ a o, H a = some o → ObjOk P w H h a o
end

section
variable {P : Program} {w : World} {H H' : Hp} {h h' : Heap} {a : Addr} {o : HO}
theorem ObjOk.lt (x : ObjOk P w H h a o) : a < h.objs.size := by
  cases o with
  | lst xs => obtain ⟨_, _, _, _, e⟩ := x; exact Heap.lt_size e
  | tup xs => obtain ⟨_, _, _, p⟩ := x; exact p.lt
  | dK kvs => obtain ⟨_, _, _, _, o, _, _, e, _⟩ := x; exact Heap.lt_size e
  | dT kvs => obtain ⟨_, _, _, _, o, _, _, e, _⟩ := x; exact Heap.lt_size e
  | set S n => obtain ⟨o, _, _, _, e, _⟩ := x; exact Heap.lt_size e
  | ins C dx fs => obtain ⟨_, _, _, e, _⟩ := x; exact Heap.lt_size e
  | own y => obtain ⟨_, e⟩ := x; exact Heap.lt_size e
  | xd fs => obtain ⟨_, ⟨_, _, _, e, _⟩, _⟩ := x; exact Heap.lt_size e
  | rng lo hi => obtain ⟨_, _, _, e⟩ := x; exact Heap.lt_size e
  | frz ob u => obtain ⟨e, _⟩ := x; exact Heap.lt_size e
  | tbl ps => exact Heap.lt_size (show h.get? a = some _ from x)
  | met f y => exact Heap.lt_size (show h.get? a = some _ from x)
  | ext φ => obtain ⟨_, ⟨_, e⟩, _⟩ := x; exact Heap.lt_size e
theorem Paired.mapP {α β : Type} {F G : α → β → Prop} : ∀ {l₁ : List α} {l₂ : List β}, Paired F l₁ l₂ → (∀ a b, F a b → G a b) → Paired G l₁ l₂
  | _, _, .nil, _ => .nil
  | _, _, .cons r t, f => .cons (f _ _ r) (Paired.mapP t f)
/-- what an object's description leans on: its own object, its own dict, the tuples -/
theorem ObjOk.stay (x : ObjOk P w H h a o) (k : ∀ b u, (b = a ∨ H b = some (.own a)) → h.get? b = some u → h'.get? b = some u)
    (ho : ∀ b, H b = some (.own a) → H' b = some (.own a)) (ht : ∀ b xs, H b = some (.tup xs) → H' b = some (.tup xs)) : ObjOk P w H' h' a o := by
  induction o with
  | lst xs => obtain ⟨z, its, n, r, e⟩ := x; exact ⟨z, its, n, r, k _ _ (.inl rfl) e⟩
  | tup xs => obtain ⟨z, its, r, ob, e, c⟩ := x; exact ⟨z, its, r, ob, k _ _ (.inl rfl) e, c⟩
  | dK kvs => obtain ⟨z, y, vs, r, ob, es, ep, e, c⟩ := x; exact ⟨z, y, vs, r, ob, es, ep, k _ _ (.inl rfl) e, c⟩
  | dT kvs =>
    obtain ⟨z, y, xs, r, ob, es, ep, e, c⟩ := x
    exact ⟨z, y, xs, Paired.mapP r fun p q z => ⟨z.1, ht _ _ z.2.1, z.2.2⟩, ob, es, ep, k _ _ (.inl rfl) e, c⟩
  | set S n => obtain ⟨ob, es, ep, t, e, c⟩ := x; exact ⟨ob, es, ep, t, k _ _ (.inl rfl) e, c⟩
  | ins C dx fs =>
    obtain ⟨d, z, ne, e, mA, ⟨od, es, ep, e2, c⟩, r⟩ := x
    exact ⟨ho _ d, z, ne, k _ _ (.inl rfl) e, mA, ⟨od, es, ep, k _ _ (.inr d) e2, c⟩, r⟩
  | own y => obtain ⟨ob, e⟩ := x; exact ⟨ob, k _ _ (.inl rfl) e⟩
  | xd fs => obtain ⟨mA, ⟨od, es, ep, e, c⟩, r⟩ := x; exact ⟨mA, ⟨od, es, ep, k _ _ (.inl rfl) e, c⟩, r⟩
  | rng lo hi => obtain ⟨t, u, v, e⟩ := x; exact ⟨t, u, v, k _ _ (.inl rfl) e⟩
  | frz ob u ih => obtain ⟨e, q⟩ := x; exact ⟨k _ _ (.inl rfl) e, ih q⟩
  | tbl ps =>
    have e : h.get? a = some { cls := .none, data := .fields ps } := x
    show h'.get? a = some { cls := .none, data := .fields ps }
    exact k a _ (.inl rfl) e
  | met f y =>
    have e : h.get? a = some (PySem.W.methodObj (.ref f) (.ref y)) := x
    show h'.get? a = some (PySem.W.methodObj (.ref f) (.ref y))
    exact k a _ (.inl rfl) e
  | ext φ => obtain ⟨p, ⟨o, e⟩, st⟩ := x; exact ⟨st _ _ p fun o q => k _ _ (.inl rfl) q, ⟨o, k _ _ (.inl rfl) e⟩, st⟩
theorem HOk.lt (x : HOk P w H h) (e : H a = some o) : a < h.objs.size := (x a o e).lt
theorem HOk.fresh (x : HOk P w H h) (e : h.objs.size ≤ a) : H a = none := by
  cases q : H a with
  | none => rfl
  | some u => exact absurd (Nat.lt_of_lt_of_le (x.lt q) e) (Nat.lt_irrefl _)
/-- every object of the heap is kept -/
theorem HOk.kept (x : HOk P w H h) (k : ∀ b u, h.get? b = some u → h'.get? b = some u) : HOk P w H h' := fun a o e =>
  (x a o e).stay (fun b u _ q => k b u q) (fun _ q => q) fun _ _ q => q
/-- a new object is laid and tracked -/
theorem HOk.laid (x : HOk P w H h) (k : ∀ b u, h.get? b = some u → h'.get? b = some u) (hp : h.objs.size ≤ a) (new : ObjOk P w (upd H a o) h' a o) : HOk P w (upd H a o) h' := fun b u e => by
  have hn := x.fresh hp
  by_cases hb : b = a
  · subst hb; rw [upd_same] at e; cases e; exact new
  · rw [upd_ne hb] at e
    exact (x b u e).stay (fun c v _ q => k c v q) (fun c q => by rw [upd_ne (ne_of_none q hn)]; exact q) fun c xs q => by rw [upd_ne (ne_of_none q hn)]; exact q
end

/-- what may be read as u: it is u, or a known u -/
noncomputable def Rd (H : Hp) (a : Addr) (u : HO) : Prop := H a = some u ∨ ∃ o, H a = some (.frz o u)
theorem Rd.ok {P : Program} {w : World} {H : Hp} {h : Heap} {a : Addr} {u : HO} (r : Rd H a u) (x : HOk P w H h) : ObjOk P w H h a u := by
  rcases r with r | ⟨o, r⟩
  · exact x a u r
  · obtain ⟨_, q⟩ := x a _ r
    exact q
/-- what may be written -/
noncomputable def Mut : Option HO → Prop
  | some (.lst _) => True
  | some (.dK _) => True
  | some (.dT _) => True
  | some (.set _ _) => True
  | some (.ins _ _ _) => True
  | some (.ext _) => True
  | _ => False
section
variable {P : Program} {w : World} {H : Hp} {h h' : Heap} {x e : Addr} {o' : HO}
/-- the object at e is changed: x itself, or the dict of the instance x -/
theorem HOk.write (ok : HOk P w H h) (mu : Mut (H x)) (he : e = x ∨ H e = some (.own x)) (k : ∀ b u, b ≠ e → h.get? b = some u → h'.get? b = some u) (heo : ∃ u, h'.get? e = some u)
    (new : ObjOk P w (upd H x o') h' x o') : HOk P w (upd H x o') h' := fun b u q => by
  have nown : ∀ c y, H c = some (.own y) → c ≠ x := fun c y r z => by subst z; rw [r] at mu; exact mu
  have ntup : ∀ c xs, H c = some (.tup xs) → c ≠ x := fun c xs r z => by subst z; rw [r] at mu; exact mu
  by_cases hb : b = x
  · subst hb; rw [upd_same] at q; cases q; exact new
  · rw [upd_ne hb] at q
    by_cases hbe : b = e
    · have q' : H b = some (.own x) := by
        rcases he with z | z
        · exact absurd (hbe.trans z) hb
        · rw [hbe]; exact z
      rw [q] at q'; cases q'
      obtain ⟨v, hv⟩ := heo
      exact ⟨v, by rw [hbe]; exact hv⟩
    · refine (ok b u q).stay (fun c v hc r => k c v ?_ r) (fun c r => by rw [upd_ne (nown c b r)]; exact r) fun c xs r => by rw [upd_ne (ntup c xs r)]; exact r
      rcases hc with rfl | hc
      · exact hbe
      · rintro rfl
        rcases he with z | z
        · exact nown c b hc z
        · rw [hc] at z; cases z; exact hb rfl
end

/-! ### kept unless tracked; of the frames at fs (the callers') the slots may change (an exception that passes writes there); of the records at ex (iterators) nothing is said -/
structure Un (fs ex : List Addr) (H H' : Hp) (h h' : Heap) : Prop where
  keep : ∀ b o, h.get? b = some o → H b = none → b ∉ fs → b ∉ ex → h'.get? b = some o
  slot : ∀ b o, h.get? b = some o → H b = none → b ∈ fs → b ∉ ex → ∃ sl, h'.get? b = some { o with slots := sl }
  free : ∀ b o, h.get? b = some o → H b = none → b ∉ ex → H' b = none
  there : ∀ b o, h.get? b = some o → b ∉ ex → ∃ o', h'.get? b = some o'
  tups : ∀ b xs, H b = some (.tup xs) → H' b = some (.tup xs)
  frzs : ∀ b o u, H b = some (.frz o u) → H' b = some (.frz o u)
  tbls : ∀ b ps, H b = some (.tbl ps) → ∃ more, H' b = some (.tbl (ps ++ more))
section
variable {fs fs' ex ex' : List Addr} {H H1 H2 : Hp} {h h1 h2 h' : Heap} {a x e : Addr} {o : HO}
theorem Un.any (u : Un fs ex H H1 h h1) {b : Addr} {ob : Obj} (q : h.get? b = some ob) (n : H b = none) (hx : b ∉ ex) : ∃ sl, h1.get? b = some { ob with slots := sl } := by
  by_cases hb : b ∈ fs
  · exact u.slot b ob q n hb hx
  · exact ⟨ob.slots, u.keep b ob q n hb hx⟩
theorem Un.kept (k : ∀ b u, h.get? b = some u → h'.get? b = some u) : Un fs ex H H h h' :=
  ⟨fun b ob q _ _ _ => k b ob q, fun b ob q _ _ _ => ⟨ob.slots, k b ob q⟩, fun _ _ _ n _ => n, fun b ob q _ => ⟨ob, k b ob q⟩, fun _ _ q => q, fun _ _ _ q => q, fun _ ps q => ⟨#[], by rw [q]; simp⟩⟩
theorem Un.refl : Un fs ex H H h h := Un.kept fun _ _ q => q
theorem Un.laid (k : ∀ b u, h.get? b = some u → h'.get? b = some u) (hp : h.objs.size ≤ a) (hn : H a = none) : Un fs ex H (upd H a o) h h' where
  keep := fun b u q _ _ _ => k b u q
  slot := fun b u q _ _ _ => ⟨u.slots, k b u q⟩
  free := fun b u q n _ => by rw [upd_ne (Nat.ne_of_lt (Nat.lt_of_lt_of_le (Heap.lt_size q) hp))]; exact n
  there := fun b u q _ => ⟨u, k b u q⟩
  tups := fun b xs q => by rw [upd_ne (ne_of_none q hn)]; exact q
  frzs := fun b u xs q => by rw [upd_ne (ne_of_none q hn)]; exact q
  tbls := fun b ps q => ⟨#[], by rw [upd_ne (ne_of_none q hn), q]; simp⟩
theorem Un.write (mu : Mut (H x)) (he : e = x ∨ H e = some (.own x)) (k : ∀ b u, b ≠ e → h.get? b = some u → h'.get? b = some u) (heo : ∃ u, h'.get? e = some u) : Un fs ex H (upd H x o) h h' := by
  have hx : ∀ b, H b = none → b ≠ x := fun b n z => by subst z; rw [n] at mu; exact mu
  have hb : ∀ b, H b = none → b ≠ e := fun b n z => by
    subst z
    rcases he with r | r
    · exact hx b n r
    · rw [n] at r; cases r
  have hm : ∀ b u, H b = some u → ¬ Mut (some u) → b ≠ x := fun b u q nm z => by subst z; rw [q] at mu; exact nm mu
  refine ⟨fun b u q n _ _ => k b u (hb b n) q, fun b u q n _ _ => ⟨u.slots, k b u (hb b n) q⟩, fun b u q n _ => by rw [upd_ne (hx b n)]; exact n, fun b u q _ => ?_,
    fun b xs q => by rw [upd_ne (hm b _ q fun z => z)]; exact q, fun b u xs q => by rw [upd_ne (hm b _ q fun z => z)]; exact q, fun b ps q => ⟨#[], by rw [upd_ne (hm b _ q fun z => z), q]; simp⟩⟩
  by_cases hbe : b = e
  · subst hbe; exact heo
  · exact ⟨u, k b u hbe q⟩
theorem Un.mono (u : Un fs ex H H1 h h1) (hs : ∀ b ∈ fs, b ∈ fs') (hx : ∀ b ∈ ex, b ∈ ex') : Un fs' ex' H H1 h h1 :=
  ⟨fun b ob q n hb he => u.keep b ob q n (fun z => hb (hs b z)) fun z => he (hx b z), fun _ _ q n _ he => u.any q n fun z => he (hx _ z), fun b ob q n he => u.free b ob q n fun z => he (hx b z), fun b ob q he => u.there b ob q fun z => he (hx b z), u.tups, u.frzs, u.tbls⟩
end

/-! ### the heap without what is tracked -/
noncomputable def trk (h : Heap) (H : Hp) : List Addr := (List.range h.objs.size).filter fun a => (H a).isSome
noncomputable def hidT (h : Heap) (H : Hp) : Heap := PySem.W.hideAll h (trk h H)
theorem hidT_size (h : Heap) (H : Hp) : (hidT h H).objs.size = h.objs.size := PySem.W.hideAll_size _ _
theorem hidT_get {h : Heap} {H : Hp} {b : Addr} {o : Obj} (e : h.get? b = some o) (n : H b = none) : (hidT h H).get? b = some o :=
  PySem.W.hideAll_get _ e fun hm => by
    have q : (H b).isSome = true := (List.mem_filter.mp hm).2
    rw [n] at q; simp at q
theorem of_hidT {h : Heap} {H : Hp} {b : Addr} {o : Obj} (e : (hidT h H).get? b = some o) : h.get? b = some o ∧ H b = none := by
  have e' : h.get? b = some o := PySem.W.of_hideAll (trk h H) e
  refine ⟨e', ?_⟩
  cases q : H b with
  | none => rfl
  | some x =>
    have hm : b ∈ trk h H := List.mem_filter.mpr ⟨List.mem_range.mpr (Heap.lt_size e'), by simp [q]⟩
    have z : (hidT h H).get? b = none := PySem.W.hideAll_none (trk h H) hm
    rw [z] at e; cases e

/-! ### OpenK's ledger, filled with every new object but one -/
end L2

namespace L2
open PySem PySem.Spec PyProof.Rows

/-- the module's facts, over the base: the heap at the law's entry without what is tracked there -/
structure Mod (K : PySem.W.Frag) (mg : Str → Option Value) (base : Heap) : Prop where
  kin : K.In base
  glob : base.Ns mainGlobals mg
  blt : ∃ mb, base.Ns builtinsNs mb ∧ ∀ x : Str, x ≠ "__name__" → mb x = bootBuiltins x
  nolimit : base.NoLimit

/-- the context: a def's body (or a comprehension's block) running. base: fixed through the whole law; s₀, H₀: the entry; outer: the frames whose slots others may change (a def's callers); stack: all frames that run;
   ex: iterators that were made ahead of the entry and are walked here (a comprehension's); fn: the names whose cells were made at the entry (a def: all; a comprehension's block: its own); calm: not within an except suite; pn: pins that every state bears; xe: what is wanted of an exception that leaves the code -/
structure Cx where
  prog : Program
  w : World
  K : PySem.W.Frag
  mg : Str → Option Value
  base : Heap
  A : Around
  N : List Str
  s₀ : Shared
  H₀ : Hp
  env : Env
  outer : List Env
  stack : List Env
  ex : List Addr
  fn : Str → Bool
  calm : Bool
  pn : List (Addr × Obj)
  xe : Value → Shared → Prop
/-- the callers' frames -/
noncomputable def frs (l : List Env) : List Addr := l.filterMap (·.frame)
noncomputable abbrev Cx.fs (X : Cx) : List Addr := frs X.outer

noncomputable def Vis (sc : Scope) (x : Str) : Prop := sc.names.lookup x = some .local ∨ sc.names.lookup x = some .cell ∨ sc.names.lookup x = some .free
noncomputable def Loc (sc : Scope) (x : Str) : Prop := sc.names.lookup x = some .local ∨ sc.names.lookup x = some .cell
noncomputable def Look (env : Env) (h : Heap) (m : Str → Option Value) (x : Str) (u : Value) : Prop :=
  (env.kindOf x = some .local ∧ m x = some u) ∨ ((env.kindOf x = some .cell ∨ env.kindOf x = some .free) ∧ ∃ c, env.cells.lookup x = some c ∧ h.IsCell c (some u))

structure Cx.Ok (X : Cx) : Prop where
  mod : Mod X.K X.mg X.base
  kind : X.env.scope.kind = .function
  glob : X.env.globals = mainGlobals
  blt : X.env.builtins = builtinsNs
  above : X.s₀.heap.objs.size ≤ X.env.locals
  inj : ∀ x y c, X.env.cells.lookup x = some c → X.env.cells.lookup y = some c → x = y
  has : ∀ x, (X.env.kindOf x = some .cell ∨ X.env.kindOf x = some .free) → ∃ c, X.env.cells.lookup x = some c
  cab : ∀ x c, X.fn x = true → X.env.cells.lookup x = some c → X.s₀.heap.objs.size ≤ c
  hd : X.calm = true → X.A.handled = none
  frames : X.A.frames = some X.stack
  stk : X.stack = X.outer ∨ (X.stack = X.env :: X.outer ∧ X.env.frame = some X.env.locals)
  exf : ∀ b ∈ X.ex, b ≠ X.env.locals ∧ ∀ x c, X.env.cells.lookup x = some c → c ≠ b
  bs : ∀ b o, X.base.get? b = some o → X.s₀.heap.get? b = some o ∧ X.H₀ b = none
  bsz : X.base.objs.size ≤ X.s₀.heap.objs.size
  noex : ∀ b o, X.base.get? b = some o → b ∉ X.ex
  exfs : ∀ b ∈ X.ex, b ∉ X.fs
  funs : X.s₀.heap.FunFrames X.base X.outer
  frf : ∀ b ∈ X.fs, X.H₀ b = none

structure Inv (X : Cx) (pins : List (Addr × Obj)) (σ : List (Option V)) (H : Hp) (s : Shared) : Prop where
  ok : X.Ok
  os : s.os = X.s₀.os
  bare : AllBare s.gens
  base : Un X.fs X.ex X.H₀ H X.s₀.heap s.heap
  loc : ∃ m, s.heap.Ns X.env.locals m ∧ ∀ (i : Nat) (x : Str) (v : V), X.N[i]? = some x → σ[i]? = some (some v) → Vis X.env.scope x → ∃ u, RelV v u ∧ Look X.env s.heap m x u
  cell : ∀ x c, X.env.cells.lookup x = some c → ∃ v, s.heap.IsCell c v
  free : H X.env.locals = none
  freeC : ∀ x c, X.env.cells.lookup x = some c → H c = none
  pin : ∀ p ∈ X.pn ++ pins, s.heap.get? p.1 = some p.2 ∧ H p.1 = none ∧ p.1 ≠ X.env.locals ∧ p.1 ∉ X.fs ∧ ∀ v, p.2.data ≠ .cell v
  hok : HOk X.prog X.w H s.heap
  len : σ.length = X.N.length

section
variable {X : Cx} {pins : List (Addr × Obj)} {σ : List (Option V)} {H H' : Hp} {s : Shared} {h' : Heap}

theorem Cx.Ok.nofr (ok : X.Ok) {b : Addr} {o : Obj} (e : X.base.get? b = some o) : b ∉ X.fs := fun hb => by
  have := (ok.funs.mem hb).1
  rw [e] at this; cases this
theorem Inv.bs (I : Inv X pins σ H s) : ∀ b o, X.base.get? b = some o → s.heap.get? b = some o ∧ H b = none := fun b o e =>
  ⟨I.base.keep b o (I.ok.bs b o e).1 (I.ok.bs b o e).2 (I.ok.nofr e) (I.ok.noex b o e), I.base.free b o (I.ok.bs b o e).1 (I.ok.bs b o e).2 (I.ok.noex b o e)⟩
theorem Inv.bk (I : Inv X pins σ H s) : ∀ b o, X.base.get? b = some o → s.heap.get? b = some o := fun b o e => (I.bs b o e).1
theorem Inv.mod (I : Inv X pins σ H s) : Mod X.K X.mg X.base := I.ok.mod
theorem Inv.kIn (I : Inv X pins σ H s) : X.K.In s.heap := I.ok.mod.kin.keeps I.bk
theorem Inv.lt (I : Inv X pins σ H s) : X.env.locals < s.heap.objs.size := let ⟨_, hn, _⟩ := I.loc; hn.lt
theorem Inv.sz (I : Inv X pins σ H s) : X.s₀.heap.objs.size ≤ s.heap.objs.size := Nat.le_trans I.ok.above (Nat.le_of_lt I.lt)
theorem Inv.nofs (I : Inv X pins σ H s) {a : Addr} (h : s.heap.objs.size ≤ a) : a ∉ X.fs := fun hb => by
  obtain ⟨_, o, ho, _⟩ := I.ok.funs.mem hb
  exact absurd (Nat.lt_of_lt_of_le (Heap.lt_size ho) (Nat.le_trans I.sz h)) (Nat.lt_irrefl _)
theorem Inv.cne (I : Inv X pins σ H s) : ∀ x c, X.env.cells.lookup x = some c → c ≠ X.env.locals := fun x c e z => by
  obtain ⟨v, o, ho, hd⟩ := I.cell x c e
  obtain ⟨m, ⟨o', es, ep, ho', hd', _⟩, _⟩ := I.loc
  rw [z, ho'] at ho; cases ho; rw [hd'] at hd; cases hd
theorem Inv.funs (I : Inv X pins σ H s) : s.heap.FunFrames X.base X.outer := by
  have all : ∀ (l : List Env), (∀ b ∈ frs l, b ∈ X.fs) → X.s₀.heap.FunFrames X.base l → s.heap.FunFrames X.base l := by
    intro l
    induction l with
    | nil => intro _ _; trivial
    | cons env r ih =>
      intro hs hl
      obtain ⟨hk, ⟨L, o, hf, hn, ho, hd⟩, hr⟩ := hl
      have hL : L ∈ X.fs := hs L (by unfold frs; rw [List.filterMap_cons, hf]; exact List.mem_cons_self)
      obtain ⟨sl, e⟩ := I.base.slot L o ho (I.ok.frf L hL) hL fun z => I.ok.exfs L z hL
      exact ⟨hk, ⟨L, _, hf, hn, e, hd⟩, ih (fun b hb => hs b (by unfold frs; rw [List.filterMap_cons, hf]; exact List.mem_cons_of_mem _ hb)) hr⟩
  exact all X.outer (fun _ hb => hb) I.ok.funs

/-- the frames that run, for a call -/
theorem Inv.stack (I : Inv X pins σ H s) : s.heap.FunFrames X.base X.stack := by
  rcases I.ok.stk with e | ⟨e, hf⟩
  · rw [e]; exact I.funs
  · rw [e]
    obtain ⟨m, hn, _⟩ := I.loc
    refine .cons (by rw [I.ok.kind]; decide) hf hn ?_ I.funs
    exact Heap.get?_none_of_le (Nat.le_trans I.ok.bsz I.ok.above)
theorem Inv.stkSub (I : Inv X pins σ H s) : ∀ b ∈ frs X.stack, b ∈ X.env.locals :: X.fs := fun b hb => by
  rcases I.ok.stk with e | ⟨e, hf⟩
  · rw [e] at hb; exact List.mem_cons_of_mem _ hb
  · rw [e] at hb
    unfold frs at hb
    rw [List.filterMap_cons, hf] at hb
    exact hb
theorem Inv.stkFree (I : Inv X pins σ H s) : ∀ b ∈ frs X.stack, H b = none := fun b hb => by
  rcases List.mem_cons.mp (I.stkSub b hb) with e | hb
  · rw [e]; exact I.free
  · obtain ⟨_, o, ho, _⟩ := I.ok.funs.mem hb
    exact I.base.free b o ho (I.ok.frf b hb) fun z => I.ok.exfs b z hb

/-- THE STEP: the untracked objects but the frame and the records at ch are kept (the callers' frames up to slots), the frame's map is kept, the new abstract heap is held -/
theorem Inv.step {g' : Array GenState} {t' : Nat} {d' : Drawn} {ch : List Addr} (I : Inv X pins σ H s)
    (hch : ∀ b ∈ ch, (b ∈ X.ex ∨ X.s₀.heap.objs.size ≤ b) ∧ b ≠ X.env.locals ∧ (∀ x c, X.env.cells.lookup x = some c → c ≠ b) ∧ ∀ p ∈ X.pn ++ pins, p.1 ≠ b)
    (keep : ∀ b o, b ≠ X.env.locals → b ∉ X.fs → b ∉ ch → s.heap.get? b = some o → H b = none → h'.get? b = some o)
    (slot : ∀ b o, b ≠ X.env.locals → b ∈ X.fs → b ∉ ch → s.heap.get? b = some o → H b = none → ∃ sl, h'.get? b = some { o with slots := sl }) (free : ∀ b o, b ∉ ch → s.heap.get? b = some o → H b = none → H' b = none)
    (there : ∀ b o, b ∉ ch → s.heap.get? b = some o → ∃ o', h'.get? b = some o')
    (tups : ∀ b xs, H b = some (.tup xs) → H' b = some (.tup xs)) (frzs : ∀ b o u, H b = some (.frz o u) → H' b = some (.frz o u)) (tbls : ∀ b ps, H b = some (.tbl ps) → ∃ more, H' b = some (.tbl (ps ++ more)))
    (ns : ∀ m, s.heap.Ns X.env.locals m → h'.Ns X.env.locals m) (hok : HOk X.prog X.w H' h') (hg : AllBare g') :
    Inv X pins σ H' { s with heap := h', gens := g', drawn := d', toks := t' } := by
  have neL : ∀ b o, X.s₀.heap.get? b = some o → b ≠ X.env.locals := fun b o e => Nat.ne_of_lt (Nat.lt_of_lt_of_le (Heap.lt_size e) I.ok.above)
  have neC : ∀ b o, X.s₀.heap.get? b = some o → b ∉ X.ex → b ∉ ch := fun b o e hx hb => by
    rcases (hch b hb).1 with z | z
    · exact hx z
    · exact absurd (Nat.lt_of_lt_of_le (Heap.lt_size e) z) (Nat.lt_irrefl _)
  have cellK : ∀ x c, X.env.cells.lookup x = some c → ∀ v, s.heap.IsCell c v → h'.IsCell c v := fun x c e v ⟨o, ho, hd⟩ => by
    have nch : c ∉ ch := fun z => (hch c z).2.2.1 x c e rfl
    by_cases hc : c ∈ X.fs
    · obtain ⟨sl, q⟩ := slot c o (I.cne x c e) hc nch ho (I.freeC x c e)
      exact ⟨_, q, hd⟩
    · exact ⟨o, keep c o (I.cne x c e) hc nch ho (I.freeC x c e), hd⟩
  refine ⟨I.ok, I.os, hg, ⟨fun b o e n hb hx => ?_, fun b o e n hb hx => ?_, fun b o e n hx => ?_, fun b o e hx => ?_, fun b xs e => tups b xs (I.base.tups b xs e), fun b o xs e => frzs b o xs (I.base.frzs b o xs e), fun b ps e => ?_⟩, ?_, fun x c e => ?_, ?_, fun x c e => ?_, fun p hp => ?_, hok, I.len⟩
  · exact keep b o (neL b o e) hb (neC b o e hx) (I.base.keep b o e n hb hx) (I.base.free b o e n hx)
  · obtain ⟨sl, e1⟩ := I.base.slot b o e n hb hx
    obtain ⟨sl', e2⟩ := slot b _ (neL b o e) hb (neC b o e hx) e1 (I.base.free b o e n hx)
    exact ⟨sl', e2⟩
  · obtain ⟨o', e1⟩ := I.base.there b o e hx
    exact free b o' (neC b o e hx) e1 (I.base.free b o e n hx)
  · obtain ⟨o', e1⟩ := I.base.there b o e hx
    exact there b o' (neC b o e hx) e1
  · obtain ⟨m1, e1⟩ := I.base.tbls b ps e
    obtain ⟨m2, e2⟩ := tbls b _ e1
    exact ⟨m1 ++ m2, by rw [e2, Array.append_assoc]⟩
  · obtain ⟨m, hn, hl⟩ := I.loc
    refine ⟨m, ns m hn, fun i x v e1 e2 e3 => ?_⟩
    obtain ⟨u, r, l⟩ := hl i x v e1 e2 e3
    refine ⟨u, r, ?_⟩
    rcases l with l | ⟨k, c, e, z⟩
    · exact .inl l
    · exact .inr ⟨k, c, e, cellK x c e _ z⟩
  · obtain ⟨v, z⟩ := I.cell x c e
    exact ⟨v, cellK x c e v z⟩
  · obtain ⟨m, ⟨o, _, _, ho, _⟩, _⟩ := I.loc
    exact free _ o (fun z => (hch _ z).2.1 rfl) ho I.free
  · obtain ⟨v, o, ho, hd⟩ := I.cell x c e
    exact free c o (fun z => (hch c z).2.2.1 x c e rfl) ho (I.freeC x c e)
  · obtain ⟨e, n, ne, nf, d⟩ := I.pin p hp
    have nch : p.1 ∉ ch := fun z => (hch p.1 z).2.2.2 p hp rfl
    exact ⟨keep p.1 p.2 ne nf nch e n, free p.1 p.2 nch e n, ne, nf, d⟩
/-- .. where the frame's own object is kept too -/
theorem Inv.un {t' : Nat} (I : Inv X pins σ H s) (u : Un X.fs [] H H' s.heap h') (hok : HOk X.prog X.w H' h') : Inv X pins σ H' { s with heap := h', toks := t' } := by
  obtain ⟨m, ⟨o, es, ep, ho, r⟩, _⟩ := id I.loc
  obtain ⟨sl, hL⟩ := u.any ho I.free (by simp)
  exact I.step (g' := s.gens) (d' := s.drawn) (ch := []) (fun _ z => nomatch z) (fun b o _ hb _ e n => u.keep b o e n hb (by simp)) (fun b o _ hb _ e n => u.slot b o e n hb (by simp)) (fun b o _ e n => u.free b o e n (by simp)) (fun b o _ e => u.there b o e (by simp)) u.tups u.frzs u.tbls (fun m' hm => by
    obtain ⟨o', es', ep', ho', r'⟩ := hm
    rw [ho] at ho'; cases ho'
    exact ⟨_, es', ep', hL, r'⟩) hok I.bare
/-- behind a call (or a comprehension's block): the slots of this frame may have changed too, the records at ch may have turned -/
theorem Inv.call {g' : Array GenState} {t' : Nat} {d' : Drawn} {ch : List Addr} (I : Inv X pins σ H s) (u : Un (frs X.stack) ch H H' s.heap h') (hok : HOk X.prog X.w H' h') (hg : AllBare g')
    (hch : ∀ b ∈ ch, (b ∈ X.ex ∨ X.s₀.heap.objs.size ≤ b) ∧ b ≠ X.env.locals ∧ (∀ x c, X.env.cells.lookup x = some c → c ≠ b) ∧ ∀ p ∈ X.pn ++ pins, p.1 ≠ b) :
    Inv X pins σ H' { s with heap := h', gens := g', drawn := d', toks := t' } := by
  obtain ⟨m, ⟨o, es, ep, ho, r⟩, _⟩ := id I.loc
  obtain ⟨sl, hL⟩ := u.any ho I.free fun z => (hch _ z).2.1 rfl
  exact I.step (ch := ch) hch (fun b o hL hb hc e n => u.keep b o e n (fun z => (List.mem_cons.mp (I.stkSub b z)).elim hL hb) hc) (fun b o _ _ hc e n => u.any e n hc) (fun b o hc e n => u.free b o e n hc) (fun b o hc e => u.there b o e hc) u.tups u.frzs u.tbls (fun m' hm => by
    obtain ⟨o', es', ep', ho', r'⟩ := hm
    rw [ho] at ho'; cases ho'
    exact ⟨_, es', ep', hL, r'⟩) hok hg
/-- an untracked record of ours (an iterator) has turned -/
theorem Inv.turned {t' : Nat} {it : Addr} (I : Inv X pins σ H s) (k : ∀ b o, b ≠ it → s.heap.get? b = some o → h'.get? b = some o) (hn : H it = none) (hL : it ≠ X.env.locals)
    (h1 : it ∈ X.ex ∨ X.s₀.heap.objs.size ≤ it) (h2 : ∀ x c, X.env.cells.lookup x = some c → c ≠ it) (h3 : ∀ p ∈ X.pn ++ pins, p.1 ≠ it) : Inv X pins σ H { s with heap := h', toks := t' } := by
  have nit : ∀ b u, H b = some u → b ≠ it := fun b u e z => by rw [z, hn] at e; cases e
  refine I.step (g' := s.gens) (d' := s.drawn) (ch := [it]) (fun b hb => ?_) (fun b o _ _ hc e _ => k b o (fun z => hc (by simp [z])) e) (fun b o _ _ hc e _ => ⟨o.slots, k b o (fun z => hc (by simp [z])) e⟩) (fun _ _ _ _ n => n)
    (fun b o hc e => ⟨o, k b o (fun z => hc (by simp [z])) e⟩) (fun _ _ e => e) (fun _ _ _ e => e) (fun b ps e => ⟨#[], by rw [e]; simp⟩) (fun m hm => ?_) (fun b u e => ?_) I.bare
  · have e : b = it := by simpa using hb
    subst e
    exact ⟨h1, hL, h2, h3⟩
  · obtain ⟨o, es, ep, ho, r⟩ := hm
    exact ⟨o, es, ep, k _ o (Ne.symm hL) ho, r⟩
  · refine (I.hok b u e).stay (fun c v hc q => k c v ?_ q) (fun _ q => q) fun _ _ q => q
    rcases hc with z | z
    · rw [z]; exact nit b u e
    · exact nit c _ z
theorem Inv.tok (I : Inv X pins σ H s) (t : Nat) : Inv X pins σ H { s with toks := t } := I.un (h' := s.heap) (t' := t) Un.refl I.hok
/-- all objects kept -/
theorem Inv.kept {t' : Nat} (I : Inv X pins σ H s) (k : ∀ b u, s.heap.get? b = some u → h'.get? b = some u) : Inv X pins σ H { s with heap := h', toks := t' } := I.un (Un.kept k) (I.hok.kept k)
/-- a new object laid and tracked -/
theorem Inv.laid {a : Addr} {o : HO} {t' : Nat} (I : Inv X pins σ H s) (k : ∀ b u, s.heap.get? b = some u → h'.get? b = some u) (hp : s.heap.objs.size ≤ a) (new : ObjOk X.prog X.w (upd H a o) h' a o) :
    Inv X pins σ (upd H a o) { s with heap := h', toks := t' } := I.un (Un.laid k hp (I.hok.fresh hp)) (I.hok.laid k hp new)
/-- an object written -/
theorem Inv.write {x e : Addr} {o : HO} {t' : Nat} (I : Inv X pins σ H s) (mu : Mut (H x)) (he : e = x ∨ H e = some (.own x)) (k : ∀ b u, b ≠ e → s.heap.get? b = some u → h'.get? b = some u) (heo : ∃ u, h'.get? e = some u)
    (new : ObjOk X.prog X.w (upd H x o) h' x o) : Inv X pins σ (upd H x o) { s with heap := h', toks := t' } := I.un (Un.write mu he k heo) (I.hok.write mu he k heo new)
theorem Inv.pins_of {pins' : List (Addr × Obj)} (I : Inv X pins σ H s) (h : ∀ p ∈ pins', s.heap.get? p.1 = some p.2 ∧ H p.1 = none ∧ p.1 ≠ X.env.locals ∧ p.1 ∉ X.fs ∧ ∀ v, p.2.data ≠ .cell v) : Inv X pins' σ H s :=
  ⟨I.ok, I.os, I.bare, I.base, I.loc, I.cell, I.free, I.freeC, fun p hp => (List.mem_append.mp hp).elim (fun z => I.pin p (List.mem_append_left _ z)) (h p), I.hok, I.len⟩

theorem nodup_ix {N : List Str} (hN : N.Nodup) {i j : Nat} {x : Str} (a : N[i]? = some x) (b : N[j]? = some x) : i = j := by
  obtain ⟨h1, e1⟩ := List.getElem?_eq_some_iff.mp a
  obtain ⟨h2, e2⟩ := List.getElem?_eq_some_iff.mp b
  exact (List.getElem_inj hN).mp (e1.trans e2.symm)

/-- a name is stored; what changed -/
theorem store_ok2 {M : Model} {A : Around} {E : Value → Shared → Prop} {i : Nat} {x : Str} {v : V} {u : Value} {Q : Unit → Shared → Prop} (I : Inv X pins σ H s) (hN : X.N.Nodup) (hi : X.N[i]? = some x) (hx : Loc X.env.scope x) (r : RelV v u)
    (h : ∀ s', Inv X pins (σ.set i (some v)) H s' → (∃ a, Heap.SameBut a s.heap s'.heap ∧ (a = X.env.locals ∨ X.env.cells.lookup x = some a)) → Q () s') (hf : X.fn x = true ∨ X.env.scope.names.lookup x = some .local := by first | exact .inl rfl | exact .inr rfl | assumption) : wpAny M A (storeName X.env x u) Q E s := by
  obtain ⟨m, hn, hl⟩ := id I.loc
  have hcls : (X.env.scope.kind == .class || (X.env.scope.kind == .module && X.env.locals != X.env.globals)) = false := by rw [I.ok.kind]; rfl
  have hiσ : i < σ.length := by rw [I.len]; exact (List.getElem?_eq_some_iff.mp hi).1
  have cne := I.cne
  have tracked : ∀ {a : Addr} {h' : Heap}, (∃ o, s.heap.get? a = some o ∧ H a = none) → Heap.SameBut a s.heap h' → HOk X.prog X.w H h' := fun {a h'} ha hs b ob e => by
    obtain ⟨_, _, hfree⟩ := ha
    refine (I.hok b ob e).stay (fun c w' hc q => (hs.2 c ?_).trans q) (fun _ q => q) fun _ _ q => q
    rintro rfl
    rcases hc with rfl | hc
    · rw [hfree] at e; cases e
    · rw [hfree] at hc; cases hc
  rcases hx with hk | hk
  · refine wpAny_storeName_local hk hn (fun h' hn' hs => ?_) hcls
    obtain ⟨oL, _, _, hoL, _⟩ := id hn
    refine h _ ⟨I.ok, I.os, I.bare, ⟨fun b o e n hb hx => ?_, fun b o e n hb hx => ?_, I.base.free, fun b o e hx => ?_, I.base.tups, I.base.frzs, I.base.tbls⟩, ⟨_, hn', fun j y v' e1 e2 e3 => ?_⟩, fun y c e => ?_, I.free, I.freeC, fun p hp => ?_, tracked ⟨oL, hoL, I.free⟩ hs, by simpa using I.len⟩ ⟨_, hs, .inl rfl⟩
    · exact (hs.2 b (Nat.ne_of_lt (Nat.lt_of_lt_of_le (Heap.lt_size e) I.ok.above))).trans (I.base.keep b o e n hb hx)
    · obtain ⟨sl, e1⟩ := I.base.slot b o e n hb hx
      exact ⟨sl, (hs.2 b (Nat.ne_of_lt (Nat.lt_of_lt_of_le (Heap.lt_size e) I.ok.above))).trans e1⟩
    · obtain ⟨o', e1⟩ := I.base.there b o e hx
      exact ⟨o', (hs.2 b (Nat.ne_of_lt (Nat.lt_of_lt_of_le (Heap.lt_size e) I.ok.above))).trans e1⟩
    · by_cases hj : j = i
      · subst hj
        rw [hi] at e1; cases e1
        rw [List.getElem?_set_self hiσ] at e2
        cases e2
        exact ⟨u, r, .inl ⟨hk, by simp⟩⟩
      · rw [List.getElem?_set_ne (Ne.symm hj)] at e2
        obtain ⟨u', r', q⟩ := hl j y v' e1 e2 e3
        refine ⟨u', r', ?_⟩
        rcases q with ⟨k, e⟩ | ⟨k, c, e, z⟩
        · refine .inl ⟨k, ?_⟩
          have : y ≠ x := fun e => hj (nodup_ix hN e1 (e ▸ hi))
          simp [this, e]
        · exact .inr ⟨k, c, e, z.sameBut hs (cne y c e)⟩
    · obtain ⟨w', z⟩ := I.cell y c e
      exact ⟨w', z.sameBut hs (cne y c e)⟩
    · obtain ⟨e, n, ne, nf, d⟩ := I.pin p hp
      exact ⟨(hs.2 p.1 ne).trans e, n, ne, nf, d⟩
  · have hfn : X.fn x = true := by
      rcases hf with z | z
      · exact z
      · rw [z] at hk; cases hk
    obtain ⟨c, hc⟩ := I.ok.has x (.inl hk)
    obtain ⟨w', z⟩ := I.cell x c hc
    refine wpAny_storeName_cell I.ok.kind hk hc z (fun h' hc' hs => ?_)
    obtain ⟨oc, hoc, hocd⟩ := id z
    refine h { s with heap := h' } ⟨I.ok, I.os, I.bare, ⟨fun b o e n hb hx => ?_, fun b o e n hb hx => ?_, I.base.free, fun b o e hx => ?_, I.base.tups, I.base.frzs, I.base.tbls⟩, ⟨m, hn.sameBut hs (Ne.symm (cne x c hc)), fun j y v' e1 e2 e3 => ?_⟩, fun y c' e => ?_, I.free, I.freeC, fun p hp => ?_, tracked ⟨oc, hoc, I.freeC x c hc⟩ hs, by simpa using I.len⟩ ⟨c, hs, .inr hc⟩
    · exact (hs.2 b (Nat.ne_of_lt (Nat.lt_of_lt_of_le (Heap.lt_size e) (I.ok.cab x c hfn hc)))).trans (I.base.keep b o e n hb hx)
    · obtain ⟨sl, e1⟩ := I.base.slot b o e n hb hx
      exact ⟨sl, (hs.2 b (Nat.ne_of_lt (Nat.lt_of_lt_of_le (Heap.lt_size e) (I.ok.cab x c hfn hc)))).trans e1⟩
    · obtain ⟨o', e1⟩ := I.base.there b o e hx
      exact ⟨o', (hs.2 b (Nat.ne_of_lt (Nat.lt_of_lt_of_le (Heap.lt_size e) (I.ok.cab x c hfn hc)))).trans e1⟩
    · by_cases hj : j = i
      · subst hj
        rw [hi] at e1; cases e1
        rw [List.getElem?_set_self hiσ] at e2
        cases e2
        exact ⟨u, r, .inr ⟨.inl hk, c, hc, hc'⟩⟩
      · rw [List.getElem?_set_ne (Ne.symm hj)] at e2
        obtain ⟨u', r', q⟩ := hl j y v' e1 e2 e3
        refine ⟨u', r', ?_⟩
        rcases q with q | ⟨k, c', e, z'⟩
        · exact .inl q
        · refine .inr ⟨k, c', e, z'.sameBut hs ?_⟩
          rintro rfl
          exact hj (nodup_ix hN e1 (I.ok.inj _ _ _ e hc ▸ hi))
    · by_cases hcc : c' = c
      · subst hcc; exact ⟨_, hc'⟩
      · obtain ⟨w2, z2⟩ := I.cell y c' e
        exact ⟨w2, z2.sameBut hs hcc⟩
    · obtain ⟨e, n, ne, nf, d⟩ := I.pin p hp
      refine ⟨(hs.2 p.1 ?_).trans e, n, ne, nf, d⟩
      intro q
      rw [q, hoc] at e
      have q' : oc = p.2 := Option.some.inj e
      exact d w' (by rw [← q']; exact hocd)
theorem store_ok {M : Model} {A : Around} {E : Value → Shared → Prop} {i : Nat} {x : Str} {v : V} {u : Value} {Q : Unit → Shared → Prop} (I : Inv X pins σ H s) (hN : X.N.Nodup) (hi : X.N[i]? = some x) (hx : Loc X.env.scope x) (r : RelV v u)
    (h : ∀ s', Inv X pins (σ.set i (some v)) H s' → Q () s') (hf : X.fn x = true ∨ X.env.scope.names.lookup x = some .local := by first | exact .inl rfl | exact .inr rfl | assumption) : wpAny M A (storeName X.env x u) Q E s :=
  store_ok2 I hN hi hx r (fun s' I' _ => h s' I') hf
/-- behind a call or a block, the state as it is -/
theorem Inv.call' {s' : Shared} {ch : List Addr} (I : Inv X pins σ H s) (ho : s'.os = s.os) (u : Un (frs X.stack) ch H H' s.heap s'.heap) (hok : HOk X.prog X.w H' s'.heap) (hg : AllBare s'.gens)
    (hch : ∀ b ∈ ch, (b ∈ X.ex ∨ X.s₀.heap.objs.size ≤ b) ∧ b ≠ X.env.locals ∧ (∀ x c, X.env.cells.lookup x = some c → c ≠ b) ∧ ∀ p ∈ X.pn ++ pins, p.1 ≠ b) : Inv X pins σ H' s' := by
  obtain ⟨h', g', d', t', o'⟩ := s'
  have e : o' = s.os := ho
  subst e
  exact I.call (g' := g') (t' := t') (d' := d') u hok hg hch
end

/-! ### the judgements -/
/-- an exception: its class, its own dict's address (where it has one), the abstract heap behind it -/
noncomputable abbrev XK := Value → Option Addr → Hp → Prop
noncomputable abbrev St := List (Option V)
noncomputable abbrev VK := V → Hp → Prop
/-- an expression's reading; a test's; an argument list's -/
noncomputable abbrev TE := St → Hp → VK → Prop
noncomputable abbrev TT := St → Hp → (Bool → Hp → Prop) → Prop
noncomputable abbrev TA := St → Hp → (List V → Hp → Prop) → Prop
/-- what is wanted behind a statement -/
structure Ends where
  nx : St → Hp → Prop
  rt : VK
  bk : St → Hp → Prop := fun _ _ => False
  ct : St → Hp → Prop := fun _ _ => False
noncomputable abbrev TS := Ends → St → Hp → Prop

noncomputable def EP (X : Cx) (pins : List (Addr × Obj)) (σ : St) (Q : VK) (u : Value) (s' : Shared) : Prop := ∃ v H', Inv X pins σ H' s' ∧ RelV v u ∧ Q v H'
noncomputable def TP (X : Cx) (pins : List (Addr × Obj)) (σ : St) (Q : Bool → Hp → Prop) (b : Bool) (s' : Shared) : Prop := ∃ H', Inv X pins σ H' s' ∧ Q b H'
noncomputable def AP (X : Cx) (pins : List (Addr × Obj)) (σ : St) (Q : List V → Hp → Prop) (us : List Value) (s' : Shared) : Prop := ∃ vs H', Inv X pins σ H' s' ∧ Vals vs us ∧ Q vs H'
noncomputable def SP (X : Cx) (pins : List (Addr × Obj)) (D : Ends) (f : Flow) (s' : Shared) : Prop :=
  match f with
  | .next => ∃ σ' H', Inv X pins σ' H' s' ∧ D.nx σ' H'
  | .brk => ∃ σ' H', Inv X pins σ' H' s' ∧ D.bk σ' H'
  | .cont => ∃ σ' H', Inv X pins σ' H' s' ∧ D.ct σ' H'
  | .ret u => ∃ v σ' H', Inv X pins σ' H' s' ∧ RelV v u ∧ D.rt v H'

structure PE (X : Cx) (e : Expr) (t : TE) : Prop where
  go : ∀ (pins : List (Addr × Obj)) (s : Shared) (σ : St) (H : Hp) (Q : VK), Inv X pins σ H s → t σ H Q → wpAny (model X.prog X.w) X.A (eval e X.env) (EP X pins σ Q) X.xe s
noncomputable instance {X : Cx} {e : Expr} {t : TE} : CoeFun (PE X e t) fun _ => ∀ (pins : List (Addr × Obj)) (s : Shared) (σ : St) (H : Hp) (Q : VK), Inv X pins σ H s → t σ H Q → wpAny (model X.prog X.w) X.A (eval e X.env) (EP X pins σ Q) X.xe s := ⟨fun h => h.go⟩
structure PT (X : Cx) (e : Expr) (t : TT) : Prop where
  go : ∀ (pins : List (Addr × Obj)) (s : Shared) (σ : St) (H : Hp) (Q : Bool → Hp → Prop), Inv X pins σ H s → t σ H Q → wpAny (model X.prog X.w) X.A (isTrue e X.env (eval e X.env)) (TP X pins σ Q) X.xe s
noncomputable instance {X : Cx} {e : Expr} {t : TT} : CoeFun (PT X e t) fun _ => ∀ (pins : List (Addr × Obj)) (s : Shared) (σ : St) (H : Hp) (Q : Bool → Hp → Prop), Inv X pins σ H s → t σ H Q → wpAny (model X.prog X.w) X.A (isTrue e X.env (eval e X.env)) (TP X pins σ Q) X.xe s := ⟨fun h => h.go⟩
/-- a test whatever its 'whole' is (and, or) -/
structure PW (X : Cx) (e : Expr) (t : TT) : Prop where
  go : ∀ (whole : Sem Value) (pins : List (Addr × Obj)) (s : Shared) (σ : St) (H : Hp) (Q : Bool → Hp → Prop), Inv X pins σ H s → t σ H Q → wpAny (model X.prog X.w) X.A (isTrue e X.env whole) (TP X pins σ Q) X.xe s
noncomputable instance {X : Cx} {e : Expr} {t : TT} : CoeFun (PW X e t) fun _ => ∀ (whole : Sem Value) (pins : List (Addr × Obj)) (s : Shared) (σ : St) (H : Hp) (Q : Bool → Hp → Prop), Inv X pins σ H s → t σ H Q → wpAny (model X.prog X.w) X.A (isTrue e X.env whole) (TP X pins σ Q) X.xe s := ⟨fun h => h.go⟩
theorem PW.pt {X : Cx} {e : Expr} {t : TT} (h : PW X e t) : PT X e t := ⟨h.go _⟩
/-- an argument list (no star), from the left -/
structure PA (X : Cx) (es : List Expr) (t : TA) : Prop where
  go : ∀ (pos : Pos) (pins : List (Addr × Obj)) (s : Shared) (σ : St) (H : Hp) (Q : List V → Hp → Prop), Inv X pins σ H s → t σ H Q → wpAny (model X.prog X.w) X.A (spliced (backTo pos (starEach es X.env))) (AP X pins σ Q) X.xe s
noncomputable instance {X : Cx} {es : List Expr} {t : TA} : CoeFun (PA X es t) fun _ => ∀ (pos : Pos) (pins : List (Addr × Obj)) (s : Shared) (σ : St) (H : Hp) (Q : List V → Hp → Prop), Inv X pins σ H s → t σ H Q → wpAny (model X.prog X.w) X.A (spliced (backTo pos (starEach es X.env))) (AP X pins σ Q) X.xe s := ⟨fun h => h.go⟩
structure PS (X : Cx) (st : Stmt) (t : TS) : Prop where
  go : ∀ (pins : List (Addr × Obj)) (s : Shared) (σ : St) (H : Hp) (D : Ends), Inv X pins σ H s → t D σ H → wpAny (model X.prog X.w) X.A (exec st X.env) (SP X pins D) X.xe s
noncomputable instance {X : Cx} {st : Stmt} {t : TS} : CoeFun (PS X st t) fun _ => ∀ (pins : List (Addr × Obj)) (s : Shared) (σ : St) (H : Hp) (D : Ends), Inv X pins σ H s → t D σ H → wpAny (model X.prog X.w) X.A (exec st X.env) (SP X pins D) X.xe s := ⟨fun h => h.go⟩
structure PSs (X : Cx) (st : List Stmt) (t : TS) : Prop where
  go : ∀ (pins : List (Addr × Obj)) (s : Shared) (σ : St) (H : Hp) (D : Ends), Inv X pins σ H s → t D σ H → wpAny (model X.prog X.w) X.A (execs st X.env) (SP X pins D) X.xe s
noncomputable instance {X : Cx} {st : List Stmt} {t : TS} : CoeFun (PSs X st t) fun _ => ∀ (pins : List (Addr × Obj)) (s : Shared) (σ : St) (H : Hp) (D : Ends), Inv X pins σ H s → t D σ H → wpAny (model X.prog X.w) X.A (execs st X.env) (SP X pins D) X.xe s := ⟨fun h => h.go⟩
/-- weaken the end -/
theorem thn {α : Type} {t : Sem α} {Q Q' : α → Shared → Prop} {M : Model} {A : Around} {E : Value → Shared → Prop} {s : Shared} (h : wpAny M A t Q E s) (hQ : ∀ a s, Q a s → Q' a s) : wpAny M A t Q' E s := wpAny_mono h hQ fun _ _ x => x
end L2

namespace L2
open PySem PySem.Spec PyProof.Rows
section
variable {X : Cx}

/-- two expressions in a row -/
theorem bin {a b : Expr} {ta tb : TE} (ha : PE X a ta) (hb : PE X b tb) {pins : List (Addr × Obj)} {s : Shared} {σ : St} {H : Hp} {R : V → V → Hp → Prop} (I : Inv X pins σ H s) (h : ta σ H fun x H1 => tb σ H1 fun y H2 => R x y H2)
    {α : Type} {Q : α → Shared → Prop} {f : Value → Value → Sem α}
    (hf : ∀ v u s2 x y H2, Inv X pins σ H2 s2 → RelV x v → RelV y u → R x y H2 → wpAny (model X.prog X.w) X.A (f v u) Q X.xe s2) :
    wpAny (model X.prog X.w) X.A (eval a X.env) (fun v s₁ => wpAny (model X.prog X.w) X.A (eval b X.env) (fun u s₂ => wpAny (model X.prog X.w) X.A (f v u) Q X.xe s₂) X.xe s₁) X.xe s := by
  refine thn (ha pins s σ H _ I h) fun v s1 ⟨x, H1, I1, r1, q1⟩ => ?_
  refine thn (hb pins s1 σ H1 _ I1 q1) fun u s2 ⟨y, H2, I2, r2, q2⟩ => ?_
  exact hf v u s2 x y H2 I2 r1 r2 q2

/-! ### names and constants -/
noncomputable def tVar (i : Nat) : TE := fun σ H Q => ∃ v, σ[i]? = some (some v) ∧ Q v H
noncomputable def tC (v : V) : TE := fun _ H Q => Q v H
theorem pe_var {i : Nat} {x : Str} {pos : Pos} (hN : X.N[i]? = some x) (hv : Vis X.env.scope x) (hd : (x == ("__debug__" : Str)) = false := by decide) (hcd : (x == ("__classdict__" : Str)) = false := by decide) : PE X (.Name x pos) (tVar i) := by
  (try refine ⟨?_⟩); intro pins s σ H Q I h
  obtain ⟨v, e, h⟩ := h
  obtain ⟨m, hn, hl⟩ := I.loc
  obtain ⟨u, r, l⟩ := hl i x v hN e hv
  have fin : EP X pins σ Q u s := ⟨v, H, I, r, h⟩
  rcases l with ⟨hk, hm⟩ | ⟨hk, c, hc, hcell⟩
  · exact wpAny_Name (wpAny_loadName_local I.ok.kind hk hn hm fin) hd
  · rcases hk with hk | hk
    · exact wpAny_Name (wpAny_loadName_cell I.ok.kind hk hc hcell fin) hd
    · exact wpAny_Name (wpAny_loadName_free I.ok.kind hk hc hcell fin hcd) hd
theorem pe_int {i j pos} : PE X (.Constant (.int i) j pos) (tC (.int i)) := ⟨fun _ _ _ H _ I h => wpAny_Constant_int ⟨.int i, H, I.tok _, ⟨_, rfl⟩, h⟩⟩
theorem pe_bl {b j pos} : PE X (.Constant (.bool b) j pos) (tC (.bl b)) := ⟨fun _ _ _ H _ I h => Constant_bool ⟨.bl b, H, I, rfl, h⟩⟩
theorem pe_non {j pos} : PE X (.Constant .none j pos) (tC .non) := ⟨fun _ _ _ H _ I h => Constant_none ⟨.non, H, I, rfl, h⟩⟩
theorem pe_str {x j pos} : PE X (.Constant (.str x) j pos) (tC (.str x)) := ⟨fun _ _ _ H _ I h => Calls.Constant_str ⟨.str x, H, I.tok _, ⟨_, rfl⟩, h⟩⟩

/-- a global name of the def -/
noncomputable def Gl (X : Cx) (x : Str) : Prop := X.env.kindOf x = some .globalImplicit
theorem ld_glob {E : Value → Shared → Prop} {pins : List (Addr × Obj)} {s : Shared} {σ : St} {H : Hp} {x : Str} {u : Value} {pos : Pos} {Q : Value → Shared → Prop} (I : Inv X pins σ H s) (hg : Gl X x) (hm : X.mg x = some u) (h : Q u s)
    (hd : (x == ("__debug__" : Str)) = false := by decide) : wpAny (model X.prog X.w) X.A (eval (.Name x pos) X.env) Q E s :=
  Calls.Name_function_global I.ok.kind hg (Calls.loadGlobal_global (by rw [I.ok.glob]; exact I.mod.glob.keeps I.bk) hm h) hd
theorem ld_blt {E : Value → Shared → Prop} {pins : List (Addr × Obj)} {s : Shared} {σ : St} {H : Hp} {x : Str} {u : Value} {pos : Pos} {Q : Value → Shared → Prop} (I : Inv X pins σ H s) (hg : Gl X x) (hm : X.mg x = none) (hv : bootBuiltins x = some u) (h : Q u s)
    (hn : x ≠ "__name__" := by decide) (hd : (x == ("__debug__" : Str)) = false := by decide) : wpAny (model X.prog X.w) X.A (eval (.Name x pos) X.env) Q E s := by
  obtain ⟨mb, h1, h2⟩ := I.mod.blt
  exact Calls.Name_function_global I.ok.kind hg (Calls.loadGlobal_builtin (by rw [I.ok.glob]; exact I.mod.glob.keeps I.bk) hm (by rw [I.ok.blt]; exact h1.keeps I.bk) ((h2 x hn).trans hv) h) hd
/-- a module's constant, a class, a function, as a value -/
theorem pe_glob {x : Str} {v : V} {u : Value} {pos : Pos} (hg : Gl X x) (hm : X.mg x = some u) (r : RelV v u) (hd : (x == ("__debug__" : Str)) = false := by decide) : PE X (.Name x pos) (tC v) := ⟨fun _ _ _ H _ I h => ld_glob I hg hm ⟨v, H, I, r, h⟩ hd⟩
theorem pe_bltn {x : Str} {v : V} {u : Value} {pos : Pos} (hg : Gl X x) (hm : X.mg x = none) (hv : bootBuiltins x = some u) (r : RelV v u) (hn : x ≠ "__name__" := by decide) (hd : (x == ("__debug__" : Str)) = false := by decide) : PE X (.Name x pos) (tC v) := ⟨fun _ _ _ H _ I h => ld_blt I hg hm hv ⟨v, H, I, r, h⟩ hn hd⟩

/-! ### arithmetic -/
variable {a b : Expr} {ta tb : TE} {pos : Pos}
/-! ### comparisons -/
/-- a comparison as a value, as a test -/
noncomputable def tB (t : TE) : TT := fun σ H Q => t σ H fun x H1 => ∃ c, x = .bl c ∧ Q c H1
/-- an expression whose value is a bool, as a test -/
theorem pt_val {e : Expr} {t : TE} (h : PE X e t) (he : ∀ whole, isTrue e X.env whole = (do let v ← whole; standAt e.pos; holding [v] (truthy v)) := by intro _; rfl) : PT X e (tB t) := by
  (try refine ⟨?_⟩); intro pins s σ H Q I hw
  refine isTrue_plain (thn (h pins s σ H _ I hw) fun v s1 ⟨x, H1, I1, r1, q1⟩ => ?_) (he _)
  obtain ⟨d, rfl, q⟩ := q1
  cases r1
  exact wpAny_truthy_bool ⟨H1, I1, q⟩

/-! ### and, or, not -/
variable {tA tB' : TT} {rest : List Expr}
noncomputable def tAnd (t u : TT) : TT := fun σ H Q => t σ H fun c H1 => if c = true then u σ H1 Q else Q false H1
noncomputable def tOr (t u : TT) : TT := fun σ H Q => t σ H fun c H1 => if c = true then Q true H1 else u σ H1 Q
noncomputable def tNot (t : TT) : TT := fun σ H Q => t σ H fun c H1 => Q (!c) H1
theorem pw_and1 (ha : PT X a tA) : PW X (.BoolOp .And [a] pos) tA := by
  (try refine ⟨?_⟩); intro wh pins s σ H Q I h
  refine isTrue_and (thn (ha pins s σ H Q I h) fun c s1 e => ?_)
  cases c with
  | true => exact isTrue_and_nil e
  | false => exact e
theorem pw_or1 (ha : PT X a tA) : PW X (.BoolOp .Or [a] pos) tA := by
  (try refine ⟨?_⟩); intro wh pins s σ H Q I h
  refine isTrue_or (thn (ha pins s σ H Q I h) fun c s1 e => ?_)
  cases c with
  | false => exact isTrue_or_nil e
  | true => exact e
theorem pw_and (ha : PT X a tA) (hb : PW X (.BoolOp .And (b :: rest) pos) tB') : PW X (.BoolOp .And (a :: b :: rest) pos) (tAnd tA tB') := by
  (try refine ⟨?_⟩); intro wh pins s σ H Q I h
  refine isTrue_and (thn (ha pins s σ H _ I h) fun c s1 ⟨H1, I1, q1⟩ => ?_)
  cases c with
  | true => exact hb wh pins s1 σ H1 Q I1 q1
  | false => exact ⟨H1, I1, q1⟩
theorem pw_or (ha : PT X a tA) (hb : PW X (.BoolOp .Or (b :: rest) pos) tB') : PW X (.BoolOp .Or (a :: b :: rest) pos) (tOr tA tB') := by
  (try refine ⟨?_⟩); intro wh pins s σ H Q I h
  refine isTrue_or (thn (ha pins s σ H _ I h) fun c s1 ⟨H1, I1, q1⟩ => ?_)
  cases c with
  | true => exact ⟨H1, I1, q1⟩
  | false => exact hb wh pins s1 σ H1 Q I1 q1
theorem pt_not (ha : PT X a tA) : PT X (.UnaryOp .Not a pos) (tNot tA) := by
  (try refine ⟨?_⟩); intro pins s σ H Q I h
  exact isTrue_not (ha pins s σ H (fun c H1 => Q (!c) H1) I h)
/-- .. as values (bools) -/
noncomputable def tAndV (ta tb : TE) : TE := fun σ H Q => ta σ H fun x H1 => ∃ c, x = .bl c ∧ if c = true then tb σ H1 Q else Q (.bl false) H1
noncomputable def tNotV (ta : TE) : TE := fun σ H Q => ta σ H fun x H1 => ∃ c, x = .bl c ∧ Q (.bl (!c)) H1
theorem pe_one {op} {t : TE} (h : PE X a t) : PE X (.BoolOp op [a] pos) t := ⟨fun pins s σ H Q I hw => BoolOp_one (h pins s σ H Q I hw)⟩
theorem pe_and (ha : PE X a ta) (hb : PE X (.BoolOp .And (b :: rest) pos) tb) : PE X (.BoolOp .And (a :: b :: rest) pos) (tAndV ta tb) := by
  (try refine ⟨?_⟩); intro pins s σ H Q I h
  refine BoolOp_and (thn (ha pins s σ H _ I h) fun v s1 ⟨x, H1, I1, r1, q1⟩ => ?_)
  obtain ⟨c, rfl, q1⟩ := q1
  cases r1
  refine wpAny_truthy_bool ?_
  cases c with
  | true => exact hb pins s1 σ H1 Q I1 q1
  | false => exact ⟨.bl false, H1, I1, rfl, q1⟩
theorem pe_not (ha : PE X a ta) : PE X (.UnaryOp .Not a pos) (tNotV ta) := by
  (try refine ⟨?_⟩); intro pins s σ H Q I h
  refine UnaryOp_ (thn (ha pins s σ H _ I h) fun v s1 ⟨x, H1, I1, r1, q1⟩ => ?_)
  obtain ⟨c, rfl, q1⟩ := q1
  cases r1
  exact not_of (wpAny_truthy_bool ⟨.bl (!c), H1, I1, rfl, q1⟩)
end
end L2

namespace L2
open PySem PySem.Spec PyProof.Rows

/-! ### a list, a tuple that is read: tracked, frozen, or an object of the module -/
noncomputable def SqL (K : PySem.W.Frag) (H : Hp) (a : Addr) (xs : List V) : Prop :=
  Rd H a (.lst xs) ∨
    ∃ (o : Obj) (its : Array Value) (n : Nat), K.lookup a = some o ∧ o.cls = .type "list" ∧ o.dict = none ∧ o.data = .seq its n ∧ its.size ≤ sizeLine ∧ Vals xs its.toList
noncomputable def SqT (K : PySem.W.Frag) (H : Hp) (a : Addr) (xs : List V) : Prop :=
  Rd H a (.tup xs) ∨
    ∃ (o : Obj) (its : Array Value) (n : Nat), K.lookup a = some o ∧ o.cls = .type "tuple" ∧ o.data = .seq its n ∧ its.size ≤ sizeLine ∧ Vals xs its.toList
noncomputable def absV : Value → Option V
  | .none => some .non
  | .bool b => some (.bl b)
  | .int i _ => some (.int i)
  | .str x _ => some (.str x)
  | .bytes b _ => some (.byt b)
  | .float b _ => some (.flt b)
  | .ref a => some (.ref a)
  | .type n => some (.ty n)
  | _ => none
theorem RelV.abs {x : V} {u : Value} (r : RelV x u) : absV u = some x := by
  cases x with
  | non => cases r; rfl
  | bl _ => cases r; rfl
  | int _ => obtain ⟨t, rfl⟩ := r; rfl
  | str _ => obtain ⟨t, rfl⟩ := r; rfl
  | byt _ => obtain ⟨t, rfl⟩ := r; rfl
  | flt _ => obtain ⟨t, rfl⟩ := r; rfl
  | ref _ => cases r; rfl
  | ty _ => cases r; rfl
theorem RelV.inj {x y : V} {u : Value} (r : RelV x u) (q : RelV y u) : x = y := Option.some.inj (r.abs.symm.trans q.abs)
theorem Vals.inj : ∀ {xs ys : List V} {us : List Value}, Vals xs us → Vals ys us → xs = ys
  | _, _, _, .nil, .nil => rfl
  | _, _, _, .cons r t, .cons r' t' => by rw [r.inj r', Vals.inj t t']
section
variable {X : Cx} {pins : List (Addr × Obj)} {σ : St} {H : Hp} {s : Shared} {a : Addr} {xs ys : List V}
theorem SqL.of {K : PySem.W.Frag} (h : H a = some (.lst xs)) : SqL K H a xs := .inl (.inl h)
theorem SqT.of {K : PySem.W.Frag} (h : H a = some (.tup xs)) : SqT K H a xs := .inl (.inl h)
theorem Inv.list (I : Inv X pins σ H s) (h : SqL X.K H a xs) : ∃ its : List Value, Vals xs its ∧ PlainL s.heap a its.toArray ∧ xs.length ≤ sizeLine := by
  rcases h with h | ⟨o, its, n, hk, hc, hd, hs, hz, r⟩
  · obtain ⟨z, its, n, r, e⟩ := h.ok I.hok
    exact ⟨its, r, ⟨_, n, e, rfl, rfl, rfl⟩, z⟩
  · refine ⟨its.toList, r, ⟨o, n, I.kIn a o hk, hc, hd, by simpa using hs⟩, ?_⟩
    have e := r.length
    simp only [Array.length_toList] at e
    omega
theorem Inv.tuple (I : Inv X pins σ H s) (h : SqT X.K H a xs) : ∃ its : List Value, Vals xs its ∧ IsTup s.heap a its.toArray ∧ xs.length ≤ sizeLine := by
  rcases h with h | ⟨o, its, n, hk, hc, hs, hz, r⟩
  · obtain ⟨z, its, r, p⟩ := h.ok I.hok
    exact ⟨its, r, p, z⟩
  · refine ⟨its.toList, r, ⟨o, I.kIn a o hk, hc, n, by simpa using hs⟩, ?_⟩
    have e := r.length
    simp only [Array.length_toList] at e
    omega
theorem Inv.list_inj (I : Inv X pins σ H s) (h : SqL X.K H a xs) (h' : SqL X.K H a ys) : xs = ys := by
  obtain ⟨its, r, ⟨o, n, e, _, _, d⟩, _⟩ := I.list h
  obtain ⟨its', r', ⟨o', n', e', _, _, d'⟩, _⟩ := I.list h'
  rw [e] at e'; cases e'
  rw [d] at d'
  injection d' with d1 _
  have : its = its' := by simpa using congrArg Array.toList d1
  subst this
  exact r.inj r'
theorem Inv.tuple_inj (I : Inv X pins σ H s) (h : SqT X.K H a xs) (h' : SqT X.K H a ys) : xs = ys := by
  obtain ⟨its, r, ⟨o, e, _, n, d⟩, _⟩ := I.tuple h
  obtain ⟨its', r', ⟨o', e', _, n', d'⟩, _⟩ := I.tuple h'
  rw [e] at e'; cases e'
  rw [d] at d'
  injection d' with d1 _
  have : its = its' := by simpa using congrArg Array.toList d1
  subst this
  exact r.inj r'
end

/-! ### another wish about exceptions -/
noncomputable abbrev Cx.wish (X : Cx) (E : Value → Shared → Prop) : Cx := { X with xe := E }
/-- no exception leaves -/
noncomputable abbrev Cx.nox (X : Cx) : Cx := X.wish fun _ _ => False
theorem Cx.Ok.wish {X : Cx} (ok : X.Ok) (E : Value → Shared → Prop) : (X.wish E).Ok :=
  ⟨ok.mod, ok.kind, ok.glob, ok.blt, ok.above, ok.inj, ok.has, ok.cab, ok.hd, ok.frames, ok.stk, ok.exf, ok.bs, ok.bsz, ok.noex, ok.exfs, ok.funs, ok.frf⟩
theorem Cx.Ok.unwish {X : Cx} {E : Value → Shared → Prop} (ok : (X.wish E).Ok) : X.Ok :=
  ⟨ok.mod, ok.kind, ok.glob, ok.blt, ok.above, ok.inj, ok.has, ok.cab, ok.hd, ok.frames, ok.stk, ok.exf, ok.bs, ok.bsz, ok.noex, ok.exfs, ok.funs, ok.frf⟩
section
variable {X : Cx} {pins : List (Addr × Obj)} {σ : St} {H : Hp} {s : Shared} {E : Value → Shared → Prop}
theorem Inv.wish (I : Inv X pins σ H s) (E : Value → Shared → Prop) : Inv (X.wish E) pins σ H s := ⟨I.ok.wish E, I.os, I.bare, I.base, I.loc, I.cell, I.free, I.freeC, I.pin, I.hok, I.len⟩
theorem Inv.unwish (I : Inv (X.wish E) pins σ H s) : Inv X pins σ H s := ⟨I.ok.unwish, I.os, I.bare, I.base, I.loc, I.cell, I.free, I.freeC, I.pin, I.hok, I.len⟩
theorem SP.unwish {D : Ends} {f : Flow} {s' : Shared} (h : SP (X.wish E) pins D f s') : SP X pins D f s' := by
  cases f with
  | next => obtain ⟨σ', H', I, q⟩ := h; exact ⟨σ', H', I.unwish, q⟩
  | brk => obtain ⟨σ', H', I, q⟩ := h; exact ⟨σ', H', I.unwish, q⟩
  | cont => obtain ⟨σ', H', I, q⟩ := h; exact ⟨σ', H', I.unwish, q⟩
  | ret u => obtain ⟨v, σ', H', I, r, q⟩ := h; exact ⟨v, σ', H', I.unwish, r, q⟩
theorem PSs.nox {st : List Stmt} {t : TS} (h : PSs X.nox st t) : PSs X st t := ⟨fun pins s σ H D I hw =>
  wpAny_mono (h pins s σ H D (I.wish _) hw) (fun _ _ q => q.unwish) fun _ _ z => False.elim z⟩
end

/-! ### blocks and small statements -/
section
variable {X : Cx} {st : Stmt} {rest : List Stmt} {t u : TS} {e : Expr} {te : TE} {pos : Pos}
noncomputable def tNext : TS := fun D σ H => D.nx σ H
noncomputable def tSeq (t u : TS) : TS := fun D σ H => t { D with nx := u D } σ H
theorem pss_nil : PSs X [] tNext := ⟨fun _ _ σ H _ I h => wpAny_execs_nil ⟨σ, H, I, h⟩⟩
theorem pss_cons (h1 : PS X st t) (h2 : PSs X rest u) : PSs X (st :: rest) (tSeq t u) := by
  (try refine ⟨?_⟩); intro pins s σ H D I h
  refine wpAny_execs_cons (thn (h1 pins s σ H { D with nx := u D } I h) fun f s1 q => ?_)
  cases f with
  | next =>
    obtain ⟨σ', H', I', q⟩ := q
    exact h2 pins s1 σ' H' D I' q
  | ret v => exact q
  | brk => exact q
  | cont => exact q
theorem pss_one (h1 : PS X st t) : PSs X [st] t := by
  (try refine ⟨?_⟩); intro pins s σ H D I h
  refine wpAny_execs_cons (thn (h1 pins s σ H D I h) fun f s1 q => ?_)
  cases f with
  | next => exact wpAny_execs_nil q
  | ret v => exact q
  | brk => exact q
  | cont => exact q
noncomputable def tRet (te : TE) : TS := fun D σ H => te σ H D.rt
theorem ps_ret (he : PE X e te) : PS X (.Return (some e) pos) (tRet te) := by
  (try refine ⟨?_⟩); intro pins s σ H D I h
  exact wpAny_Return_some (thn (he pins s σ H _ I h) fun v s1 ⟨x, H1, I1, r1, q1⟩ => ⟨x, σ, H1, I1, r1, q1⟩)
noncomputable def tIfS (c : TT) (t u : TS) : TS := fun D σ H => c σ H fun b H1 => if b = true then t D σ H1 else u D σ H1
theorem ps_if {c : Expr} {a b : List Stmt} {tc : TT} (hc : PT X c tc) (ha : PSs X a t) (hb : PSs X b u) : PS X (.If c a b pos) (tIfS tc t u) := by
  (try refine ⟨?_⟩); intro pins s σ H D I h
  refine wpAny_If (thn (hc pins s σ H _ I h) fun d s1 ⟨H1, I1, q1⟩ => ?_)
  cases d with
  | true => exact ha pins s1 σ H1 D I1 q1
  | false => exact hb pins s1 σ H1 D I1 q1
/-- code that the proof never comes to -/
noncomputable def tNever : TS := fun _ _ _ => False
theorem ps_never : PS X st tNever := ⟨fun _ _ _ _ _ _ h => h.elim⟩
end

/-! ### targets -/
noncomputable abbrev TG := V → St → Hp → (St → Hp → Prop) → Prop
structure PG (X : Cx) (target : Expr) (t : TG) : Prop where
  go : ∀ (pins : List (Addr × Obj)) (s : Shared) (σ : St) (H : Hp) (v : V) (u : Value) (Q : St → Hp → Prop), Inv X pins σ H s → RelV v u → t v σ H Q →
    wpAny (model X.prog X.w) X.A (assign target X.env u) (fun _ s' => ∃ σ' H', Inv X pins σ' H' s' ∧ Q σ' H') X.xe s
noncomputable instance {X : Cx} {target : Expr} {t : TG} : CoeFun (PG X target t) fun _ => ∀ (pins : List (Addr × Obj)) (s : Shared) (σ : St) (H : Hp) (v : V) (u : Value) (Q : St → Hp → Prop), Inv X pins σ H s → RelV v u → t v σ H Q →
    wpAny (model X.prog X.w) X.A (assign target X.env u) (fun _ s' => ∃ σ' H', Inv X pins σ' H' s' ∧ Q σ' H') X.xe s := ⟨fun h => h.go⟩
/-- o[i] = v, by values -/
noncomputable abbrev TSet := V → V → V → Hp → (Hp → Prop) → Prop
noncomputable def PSet (X : Cx) (t : TSet) : Prop :=
  ∀ (pins : List (Addr × Obj)) (s : Shared) (σ : St) (H : Hp) (o i v : V) (ov iv u : Value) (Q : Hp → Prop), Inv X pins σ H s → RelV o ov → RelV i iv → RelV v u → t o i v H Q →
    wpAny (model X.prog X.w) X.A (setItem ov iv u) (fun _ s' => ∃ H', Inv X pins σ H' s' ∧ Q H') X.xe s
section
variable {X : Cx} {pos : Pos}
noncomputable def gName (i : Nat) : TG := fun v σ H Q => Q (σ.set i (some v)) H
theorem pg_name {i : Nat} {x : Str} (hN : X.N.Nodup) (hi : X.N[i]? = some x) (hx : Loc X.env.scope x) (hf : X.fn x = true ∨ X.env.scope.names.lookup x = some .local := by first | exact .inl rfl | exact .inr rfl | assumption) : PG X (.Name x pos) (gName i) := by
  (try refine ⟨?_⟩); intro pins s σ H v u Q I r h
  exact wpAny_assign_Name (store_ok I hN hi hx r (fun s' I' => ⟨_, H, I', h⟩) hf)
/-- o[i] = .. -/
noncomputable def gSub (to ti : TE) (t : TSet) : TG := fun v σ H Q => to σ H fun o H1 => ti σ H1 fun i H2 => t o i v H2 fun H3 => Q σ H3
theorem pg_sub {o i : Expr} {to ti : TE} {t : TSet} (ho : PE X o to) (hi : PE X i ti) (hs : PSet X t)
    (ha : ∀ v, assign (.Subscript o i pos) X.env v = (do
      let ov ← holding [v] (eval o X.env)
      let iv ← holding [v, ov] (eval i X.env)
      standAt pos
      holding [v, ov, iv] (setItem ov iv v)
      release [v, ov, iv] []) := by intro _; rfl) : PG X (.Subscript o i pos) (gSub to ti t) := by
  (try refine ⟨?_⟩); intro pins s σ H v u Q I r h
  rw [ha]
  refine wpAny_bind (wpAny_holding (thn (ho pins s σ H _ I h) fun ov s1 ⟨x, H1, I1, r1, q1⟩ => ?_))
  refine wpAny_bind (wpAny_holding (thn (hi pins s1 σ H1 _ I1 q1) fun iv s2 ⟨y, H2, I2, r2, q2⟩ => ?_))
  refine wpAny_bind (wpAny_standAt (wpAny_bind (wpAny_holding (thn (hs pins s2 σ H2 x y v ov iv u _ I2 r1 r2 r q2) fun _ s3 ⟨H3, I3, q3⟩ => ?_))))
  exact wpAny_release ⟨σ, H3, I3, q3⟩
/-- target = value -/
noncomputable def tAsg (te : TE) (g : TG) : TS := fun D σ H => te σ H fun x H1 => g x σ H1 D.nx
theorem ps_asg {tg e : Expr} {te : TE} {g : TG} (he : PE X e te) (hg : PG X tg g) (hs : swapsWithSole [tg] e pos.line X.env = pure false := by rfl) (hw : swappedStores [tg] e X.env = pure none := by rfl)
    (h1 : (assignEach [tg] X.env).map (·.2) = [assign tg X.env] := by rfl) : PS X (.Assign [tg] e pos) (tAsg te g) := by
  (try refine ⟨?_⟩); intro pins s σ H D I h
  refine wpAny_Assign_stores (thn (he pins s σ H _ I h) fun v s1 ⟨x, H1, I1, r1, q1⟩ => ?_) hs hw
  rw [h1]
  exact thn (hg pins s1 σ H1 x v _ I1 r1 q1) fun _ s2 q => q
/-- name = value -/
theorem ps_set {i : Nat} {x : Str} {e : Expr} {te : TE} {pos' : Pos} (hN : X.N.Nodup) (hi : X.N[i]? = some x) (hx : Loc X.env.scope x) (he : PE X e te) (hs : swapsWith e (some (.Name x pos')) pos.line X.env = pure false := by rfl) (hf : X.fn x = true ∨ X.env.scope.names.lookup x = some .local := by first | exact .inl rfl | exact .inr rfl | assumption) :
    PS X (.Assign [.Name x pos'] e pos) (tAsg te (gName i)) := by
  (try refine ⟨?_⟩); intro pins s σ H D I h
  refine wpAny_Assign_Name (thn (he pins s σ H _ I h) fun v s1 ⟨y, H1, I1, r1, q1⟩ => ?_) hs
  exact store_ok I1 hN hi hx r1 (fun s2 I2 => ⟨_, H1, I2, q1⟩) hf
/-- a, b = x, y with plain local names: stored from the right; the pair itself is not tracked (the opening rows as in PyProof/Rows/TupAssign.lean:23) -/
noncomputable def tPar (i j : Nat) (ta : TA) : TS := fun D σ H => ta σ H fun vs H1 => ∃ v w, vs = [v, w] ∧ D.nx ((σ.set i (some v)).set j (some w)) H1
theorem ps_par {i j : Nat} {x y : Str} {a b : Expr} {ta : TA} {px py pt : Pos} {kt k2 pt2} (hc : X.calm = true) (hN : X.N.Nodup) (hi : X.N[i]? = some x) (hj : X.N[j]? = some y) (hij : i ≠ j)
    (hx : X.env.scope.names.lookup x = some .local) (hy : X.env.scope.names.lookup y = some .local) (ha : PA X [a, b] ta)
    (hw : swappedStores [.Tuple [.Name x px, .Name y py] kt pt] (.Tuple [a, b] k2 pt2) X.env = pure (some [x, y]))
    (hs : swapsWithSole [.Tuple [.Name x px, .Name y py] kt pt] (.Tuple [a, b] k2 pt2) pos.line X.env = pure false := by rfl) :
    PS X (.Assign [.Tuple [.Name x px, .Name y py] kt pt] (.Tuple [a, b] k2 pt2) pos) (tPar i j ta) := by
  (try refine ⟨?_⟩); intro pins s σ H D I h
  rw [exec_Assign_arm]
  refine wpAny_bind (wpAny_standAt ?_)
  rw [hs]
  refine wpAny_bind (wpAny_pure ?_)
  rw [if_neg (by decide)]
  refine wpAny_bind (Tuple_ (thn (ha _ pins s σ H _ I h) fun us s1 ⟨vs, H1, I1, r1, q1⟩ => ?_))
  obtain ⟨v, w, e1, q1⟩ := q1
  subst e1
  obtain ⟨u1, u2, rfl, rv, rw'⟩ : ∃ u1 u2, us = [u1, u2] ∧ RelV v u1 ∧ RelV w u2 := by
    cases r1 with
    | cons p q =>
      cases q with
      | cons p' q' =>
        cases q'
        exact ⟨_, _, rfl, p, p'⟩
  refine wpAny_newObj_type ?_ (by show 2 ≤ sizeLine; decide)
  have I2 : Inv X pins σ H1 { s1 with heap := s1.heap.push { cls := .type "tuple", data := .seq [u1, u2].toArray } } := I1.kept (t' := s1.toks) fun b o e => Heap.get?_push_of_some _ e
  rw [hw]
  refine wpAny_bind (wpAny_pure ?_)
  show wpAny (model X.prog X.w) X.A (do rule "assign.swapped-stores"; let items ← unpackItems (.ref s1.heap.objs.size) 2 none; assignInOrder [fun v => bindName X.env y v, fun v => bindName X.env x v] items.reverse; pure Flow.next) _ _ _
  refine wpAny_bind (wpAny_rule (wpAny_bind (unpackItems_tuple (items := #[u1, u2]) (I.ok.hd hc) (IsTup.new s1.heap _) fun h' hx' => ?_)))
  have I3 := I2.kept (h' := h') (t' := s1.toks) fun b o e => hx' b o (Nat.ne_of_lt (Heap.lt_size e)) e
  show wpAny _ _ (assignInOrder [fun v => bindName X.env y v, fun v => bindName X.env x v] [u2, u1] >>= fun _ => pure Flow.next) _ _ _
  refine wpAny_bind (assignInOrder_cons (wpAny_bindName (store_ok I3 hN hj (.inl hy) rw' (fun s2 I4 => ?_) (.inr hy))))
  refine assignInOrder_cons (wpAny_bindName (store_ok I4 hN hi (.inl hx) rv (fun s3 I5 => assignInOrder_nil (wpAny_pure ?_)) (.inr hx)))
  rw [List.set_comm _ _ (Ne.symm hij)] at I5
  exact ⟨_, H1, I5, q1⟩
end

/-! ### while -/
section
variable {X : Cx} {pos : Pos}
/-- the invariant W with its measure -/
noncomputable def tWhile (c : TT) (tb : TS) : TS := fun D σ H => ∃ W : Nat → St → Hp → Prop, (∃ m, W m σ H) ∧ ∀ m σ H, W m σ H →
  c σ H fun b H1 => if b = true then ∃ N : St → Hp → Prop, (∀ σ' H', N σ' H' → ∃ m', m' < m ∧ W m' σ' H') ∧ tb { D with nx := N, ct := N, bk := D.nx } σ H1 else D.nx σ H1
theorem ps_while {c : Expr} {body : List Stmt} {tc : TT} {tb : TS} (hp : PassesOwn (model X.prog X.w) X.A X.env X.xe) (hc : PT X c tc) (hb : PSs X body tb) : PS X (.While c body [] pos) (tWhile tc tb) := by
  (try refine ⟨?_⟩); intro pins s σ H D I h
  obtain ⟨W, ⟨m0, w0⟩, turn⟩ := h
  refine wpAny_While (codeAny_whileLoop (fun n s' => ∃ σ' H', Inv X pins σ' H' s' ∧ W n σ' H') ?_ m0 ⟨σ, H, I, w0⟩)
  rintro n s1 ⟨σ1, H1, I1, w1⟩
  refine wpAny_passesOwn hp (thn (hc pins s1 σ1 H1 _ I1 (turn n σ1 H1 w1)) fun b s2 ⟨H2, I2, q2⟩ => ?_)
  cases b with
  | true =>
    obtain ⟨N, hN, q2⟩ := q2
    rw [if_pos rfl]
    refine wpAny_passesOwn hp (thn (hb pins s2 σ1 H2 _ I2 q2) fun f s3 q3 => ?_)
    cases f with
    | next =>
      obtain ⟨σ3, H3, I3, n3⟩ := q3
      obtain ⟨m', hm, w3⟩ := hN σ3 H3 n3
      exact ⟨m', hm, σ3, H3, I3, w3⟩
    | cont =>
      obtain ⟨σ3, H3, I3, n3⟩ := q3
      obtain ⟨m', hm, w3⟩ := hN σ3 H3 n3
      exact ⟨m', hm, σ3, H3, I3, w3⟩
    | brk => exact q3
    | ret v => exact q3
  | false =>
    rw [if_neg Bool.false_ne_true]
    exact wpAny_execs_nil ⟨σ1, H2, I2, q2⟩
end

/-! ### what a loop or a comprehension walks -/
/-- at turn i: it yields x (the heap may grow), or it stops -/
structure It where
  go : Nat → Hp → Prop
  yld : Nat → Hp → V → Hp → Prop
  stop : Nat → Hp → Prop
/-- the iterator's own objects may turn: they are not the frame's, not pinned, younger than the entry (or a comprehension's own) -/
noncomputable def FpOk (X : Cx) (pins : List (Addr × Obj)) (H : Hp) (b : Addr) : Prop :=
  H b = none ∧ b ≠ X.env.locals ∧ b ∉ X.fs ∧ (b ∈ X.ex ∨ X.s₀.heap.objs.size ≤ b) ∧ (∀ x c, X.env.cells.lookup x = some c → c ≠ b) ∧ ∀ p ∈ X.pn ++ pins, p.1 ≠ b
theorem Inv.fpOk {X : Cx} {pins : List (Addr × Obj)} {σ : St} {H H' : Hp} {s : Shared} {b : Addr} (I : Inv X pins σ H s) (hb : s.heap.objs.size ≤ b) (hn : H' b = none) : FpOk X pins H' b := by
  refine ⟨hn, Nat.ne_of_gt (Nat.lt_of_lt_of_le I.lt hb), I.nofs hb, .inr (Nat.le_trans I.sz hb), fun x c e z => ?_, fun p hp z => ?_⟩
  · obtain ⟨v, q⟩ := I.cell x c e
    exact absurd (Nat.lt_of_lt_of_le q.lt (by rw [z]; exact hb)) (Nat.lt_irrefl _)
  · exact absurd (Nat.lt_of_lt_of_le (Heap.lt_size (I.pin p hp).1) (by rw [z]; exact hb)) (Nat.lt_irrefl _)
structure Turn (P : Program) (w : World) (K : PySem.W.Frag) (tg : Expr) (J : It) (fp : List Addr) (it : Addr) (tn : Nat → Heap → Prop) : Prop where
  mem : it ∈ fp
  obj : ∀ i h, tn i h → ∀ b ∈ fp, ∃ o, h.get? b = some o ∧ ∀ v, o.data ≠ .cell v
  keep : ∀ i h h', tn i h → (∀ b ∈ fp, ∀ o, h.get? b = some o → h'.get? b = some o) → tn i h'
  item : ∀ (X : Cx), X.prog = P → X.w = w → X.K = K → X.calm = true → ∀ (i : Nat) (pins : List (Addr × Obj)) (s : Shared) (σ : St) (H : Hp) (E : Value → Shared → Prop), Inv X pins σ H s → (∀ b ∈ fp, FpOk X pins H b) → tn i s.heap → J.go i H →
    wpAny (model P w) X.A (pyNext (.ref it)) (fun r s1 => ∃ u, r = some u ∧
      wpAny (model P w) X.A (letOwnedTupleGo tg (.ref it) u) (fun _ s2 => ∃ x H', Inv X pins σ H' s2 ∧ RelV x u ∧ J.yld i H x H' ∧ tn (i + 1) s2.heap ∧ ∀ b ∈ fp, H' b = none) E s1) E s
  done : ∀ (X : Cx), X.prog = P → X.w = w → X.K = K → X.calm = true → ∀ (i : Nat) (pins : List (Addr × Obj)) (s : Shared) (σ : St) (H : Hp) (E : Value → Shared → Prop), Inv X pins σ H s → (∀ b ∈ fp, FpOk X pins H b) → tn i s.heap → J.stop i H →
    wpAny (model P w) X.A (pyNext (.ref it)) (fun r s1 => r = none ∧ Inv X pins σ H s1) E s
  self : ∀ (A : Around) (i : Nat) (s : Shared) (Q : Value → Shared → Prop) (E : Value → Shared → Prop), tn i s.heap → Q (.ref it) s → wpAny (model P w) A (pyIter (.ref it)) Q E s
noncomputable abbrev TI := St → Hp → (It → Hp → Prop) → Prop
/-- an iterator has come -/
noncomputable def PIE (X : Cx) (pins : List (Addr × Obj)) (σ : St) (tg : Expr) (R : It → Hp → Prop) (itv : Value) (s2 : Shared) : Prop :=
  ∃ (it : Addr) (fp : List Addr) (tn : Nat → Heap → Prop) (J : It) (H' : Hp), itv = .ref it ∧ Inv X pins σ H' s2 ∧ Turn X.prog X.w X.K tg J fp it tn ∧ tn 0 s2.heap ∧ (∀ b ∈ fp, FpOk X pins H' b) ∧ R J H'
structure PI (X : Cx) (tg iter : Expr) (wi : TI) : Prop where
  go : ∀ (pins : List (Addr × Obj)) (s : Shared) (σ : St) (H : Hp) (R : It → Hp → Prop), Inv X pins σ H s → wi σ H R →
    wpAny (model X.prog X.w) X.A (eval iter X.env) (fun v s1 => wpAny (model X.prog X.w) X.A (pyIter v) (PIE X pins σ tg R) X.xe s1) X.xe s
noncomputable instance {X : Cx} {tg iter : Expr} {wi : TI} : CoeFun (PI X tg iter wi) fun _ => ∀ (pins : List (Addr × Obj)) (s : Shared) (σ : St) (H : Hp) (R : It → Hp → Prop), Inv X pins σ H s → wi σ H R →
    wpAny (model X.prog X.w) X.A (eval iter X.env) (fun v s1 => wpAny (model X.prog X.w) X.A (pyIter v) (PIE X pins σ tg R) X.xe s1) X.xe s := ⟨fun h => h.go⟩

/-- the step ahead of the store is nothing for an iterator that keeps no tuple -/
theorem go_of {M : Model} {A : Around} {E : Value → Shared → Prop} {s : Shared} {tg : Expr} {it : Addr} {u : Value} {o : Obj} {n : String} {vs : Array Value} {Q : Unit → Shared → Prop} (ho : s.heap.get? it = some o) (hc : o.cls = .type n) (hd : o.data = .fields vs)
    (hn : ["enumerate", "zip", "dict_itemiterator", "dict_reverseitemiterator", "odict_iterator", "itertools.zip_longest", "itertools.pairwise"].contains n = false) (hQ : Q () s) : wpAny M A (letOwnedTupleGo tg (.ref it) u) Q E s := by
  unfold letOwnedTupleGo
  cases tg <;> first
    | exact wpAny_pure hQ
    | (cases u <;> first
        | exact wpAny_pure hQ
        | (refine wpAny_bind (wpAny_load ho ?_)
           rw [hc, hd]
           show wpAny M A (if (["enumerate", "zip", "dict_itemiterator", "dict_reverseitemiterator", "odict_iterator", "itertools.zip_longest", "itertools.pairwise"].contains n && vs[0]? == some (rawInt _)) = true then _ else _) Q E s
           rw [if_neg (by intro h; rw [hn, Bool.false_and] at h; cases h)]
           exact wpAny_pure hQ))

/-- the list at a, as it stands at each turn (a loop may append to it) -/
noncomputable def Itl (K : PySem.W.Frag) (a : Addr) : It :=
  ⟨fun i H => ∃ xs x, SqL K H a xs ∧ xs[i]? = some x, fun i H x H' => H' = H ∧ ∀ xs, SqL K H a xs → xs[i]? = some x, fun i H => ∃ xs, SqL K H a xs ∧ xs.length ≤ i⟩
noncomputable def Itt (K : PySem.W.Frag) (a : Addr) : It :=
  ⟨fun i H => ∃ xs x, SqT K H a xs ∧ xs[i]? = some x, fun i H x H' => H' = H ∧ ∀ xs, SqT K H a xs → xs[i]? = some x, fun i H => ∃ xs, SqT K H a xs ∧ xs.length ≤ i⟩
/-- lo, lo + 1, .. (n of them) -/
noncomputable def Itr (lo : Int) (n : Nat) : It := ⟨fun i _ => i < n, fun i H x H' => H' = H ∧ x = .int (lo + i), fun i _ => n ≤ i⟩
theorem turn_list {P : Program} {w : World} {K : PySem.W.Frag} {tg : Expr} (a it : Addr) : Turn P w K tg (Itl K a) [it] it (fun i h => h.IsListIter it a i) where
  mem := by simp
  obj := fun i h st b hb => by
    have e : b = it := by simpa using hb
    subst e
    obtain ⟨o, e, c, d⟩ := st
    exact ⟨o, e, fun v z => by rw [d] at z; cases z⟩
  keep := fun i h h' st k => st.at fun o e => k it (by simp) o e
  item := by
    intro X hP hw hK hc i pins s σ H E I hf st hg
    subst hP hw hK
    obtain ⟨xs, x, hq, hx⟩ := hg
    obtain ⟨its, rv, p, hz⟩ := I.list hq
    obtain ⟨u, hu, ru⟩ := rv.get hx
    obtain ⟨f0, f1, f2, f3, f4, f5⟩ := hf it (by simp)
    refine wpAny_pyNext_list_item st p.isList (x := u) (by simpa using hu) fun h' st' sb => ?_
    have I1 : Inv X pins σ H { s with heap := h' } := I.turned (t' := s.toks) (fun b o hb e => (sb.2 b hb).trans e) f0 f1 f3 f4 f5
    obtain ⟨o, e, c, d⟩ := id st'
    exact ⟨u, rfl, go_of (s := { s with heap := h' }) e c d (by decide) ⟨x, H, I1, ru, ⟨rfl, fun ys hy => by rw [I.list_inj hy hq]; exact hx⟩, st', fun b hb => (hf b hb).1⟩⟩
  done := by
    intro X hP hw hK hc i pins s σ H E I hf st hg
    subst hP hw hK
    obtain ⟨xs, hq, hx⟩ := hg
    obtain ⟨its, rv, p, hz⟩ := I.list hq
    obtain ⟨f0, f1, f2, f3, f4, f5⟩ := hf it (by simp)
    have hl := rv.length
    exact wpAny_pyNext_list_end (I.ok.hd hc) st p.isList (by simp; omega) fun h' eb => ⟨rfl, I.turned (t' := s.toks) (fun b o hb e => eb b o hb e) f0 f1 f3 f4 f5⟩
  self := fun _ _ _ _ _ st h => wpAny_pyIter_listiter st h
theorem turn_tuple {P : Program} {w : World} {K : PySem.W.Frag} {tg : Expr} (a it : Addr) : Turn P w K tg (Itt K a) [it] it (fun i h => h.IsTupleIter it a i) where
  mem := by simp
  obj := fun i h st b hb => by
    have e : b = it := by simpa using hb
    subst e
    obtain ⟨o, e, c, d⟩ := st
    exact ⟨o, e, fun v z => by rw [d] at z; cases z⟩
  keep := fun i h h' st k => st.at fun o e => k it (by simp) o e
  item := by
    intro X hP hw hK hc i pins s σ H E I hf st hg
    subst hP hw hK
    obtain ⟨xs, x, hq, hx⟩ := hg
    obtain ⟨its, rv, p, hz⟩ := I.tuple hq
    obtain ⟨u, hu, ru⟩ := rv.get hx
    obtain ⟨f0, f1, f2, f3, f4, f5⟩ := hf it (by simp)
    refine wpAny_pyNext_tuple_item st (show s.heap.IsTuple a its.toArray from p) (x := u) (by simpa using hu) fun h' st' sb => ?_
    have I1 : Inv X pins σ H { s with heap := h' } := I.turned (t' := s.toks) (fun b o hb e => (sb.2 b hb).trans e) f0 f1 f3 f4 f5
    obtain ⟨o, e, c, d⟩ := id st'
    exact ⟨u, rfl, go_of (s := { s with heap := h' }) e c d (by decide) ⟨x, H, I1, ru, ⟨rfl, fun ys hy => by rw [I.tuple_inj hy hq]; exact hx⟩, st', fun b hb => (hf b hb).1⟩⟩
  done := by
    intro X hP hw hK hc i pins s σ H E I hf st hg
    subst hP hw hK
    obtain ⟨xs, hq, hx⟩ := hg
    obtain ⟨its, rv, p, hz⟩ := I.tuple hq
    obtain ⟨f0, f1, f2, f3, f4, f5⟩ := hf it (by simp)
    have hl := rv.length
    exact wpAny_pyNext_tuple_end (I.ok.hd hc) st (show s.heap.IsTuple a its.toArray from p) (by simp; omega) fun h' eb => ⟨rfl, I.turned (t' := s.toks) (fun b o hb e => eb b o hb e) f0 f1 f3 f4 f5⟩
  self := fun _ _ _ _ _ st h => wpAny_pyIter_tupleiter st h
theorem turn_range {P : Program} {w : World} {K : PySem.W.Frag} {tg : Expr} (it : Addr) (lo : Int) (n : Nat) : Turn P w K tg (Itr lo n) [it] it (fun i h => IsRangeIter h it (lo + (i : Nat) * 1) ((n : Int) - (i : Nat)) 1) where
  mem := by simp
  obj := fun i h st b hb => by
    have e : b = it := by simpa using hb
    subst e
    exact ⟨_, st, fun v z => by
      have z' : Data.fields _ = Data.cell v := z
      cases z'⟩
  keep := fun i h h' st k => k it (by simp) _ st
  item := by
    intro X hP hw hK hc i pins s σ H E I hf st hg
    subst hP hw hK
    obtain ⟨f0, f1, f2, f3, f4, f5⟩ := hf it (by simp)
    have W := Walks.range (prog := X.prog) (w := X.w) (I.ok.hd hc) it lo 1 n
    refine W.item i s _ _ hg st fun v h' tk hv st' kk => ?_
    obtain ⟨t, rfl⟩ := hv
    have I1 : Inv X pins σ H { s with heap := h', toks := tk } := I.turned (fun b o hb e => kk b o (by simpa using hb) e) f0 f1 f3 f4 f5
    refine ⟨_, rfl, go_of (s := { s with heap := h', toks := tk }) (n := "range_iterator") st' rfl rfl (by decide) ⟨.int (lo + i), H, I1, ⟨t, ?_⟩, ⟨rfl, rfl⟩, st', fun b hb => (hf b hb).1⟩⟩
    rw [Int.mul_one]
  done := by
    intro X hP hw hK hc i pins s σ H E I hf st hg
    subst hP hw hK
    obtain ⟨f0, f1, f2, f3, f4, f5⟩ := hf it (by simp)
    exact wpAny_pyNext_range_end (I.ok.hd hc) st (by have : n ≤ i := hg; omega) fun h' eb => ⟨rfl, I.turned (t' := s.toks) (fun b o hb e => eb b o hb e) f0 f1 f3 f4 f5⟩
  self := fun _ _ _ _ _ st h => wpAny_pyIter_rangeiter st h
end L2

namespace L2
open PySem PySem.Spec PyProof.Rows
section
variable {X : Cx} {tg : Expr}
noncomputable def iTup (K : PySem.W.Frag) (tl : TE) : TI := fun σ H R => tl σ H fun x H1 => ∃ a, x = .ref a ∧ (∃ xs, SqT K H1 a xs) ∧ R (Itt K a) H1
theorem pi_tup {l : Expr} {tl : TE} (hl : PE X l tl) : PI X tg l (iTup X.K tl) := by
  (try refine ⟨?_⟩); intro pins s σ H R I h
  refine thn (hl pins s σ H _ I h) fun v s1 ⟨x, H1, I1, r1, q1⟩ => ?_
  obtain ⟨a, e, ⟨xs, hq⟩, q⟩ := q1
  subst e
  cases r1
  obtain ⟨its, rv, p, hz⟩ := I1.tuple hq
  refine wpAny_pyIter_tuple (show s1.heap.IsTuple a its.toArray from p) ?_
  refine ⟨s1.heap.objs.size, [s1.heap.objs.size], _, _, H1, rfl, I1.kept (t' := s1.toks) fun b o e => Heap.get?_push_of_some _ e, turn_tuple a _, ⟨_, Heap.get?_push_size _ rfl, rfl, rfl⟩, fun b hb => ?_, q⟩
  have e : b = s1.heap.objs.size := by simpa using hb
  subst e
  exact I1.fpOk (Nat.le_refl _) (I1.hok.fresh (Nat.le_refl _))
/-- a range object just made, walked -/
theorem range_it {pins : List (Addr × Obj)} {σ : St} {H : Hp} {s : Shared} {R : It → Hp → Prop} {E : Value → Shared → Prop} {lo hi : Int} {t u v : Tok} {tk : Nat} (I : Inv X pins σ H s) (h1 : -(2 ^ 62) ≤ lo) (h2 : lo < 2 ^ 62) (h3 : -(2 ^ 62) ≤ hi) (h4 : hi < 2 ^ 62)
    (q : R (Itr lo (hi - lo).toNat) H) : wpAny (model X.prog X.w) X.A (pyIter (.ref s.heap.objs.size)) (PIE X pins σ tg R) E { s with heap := s.heap.push { cls := .type "range", data := .fields #[.int lo t, .int hi u, .int 1 v] }, toks := tk } := by
  refine wpAny_pyIter_range (IsRange.new ..) (small_one h1 h2 h3 h4) ?_
  have I1 : Inv X pins σ H { s with heap := s.heap.push { cls := .type "range", data := .fields #[.int lo t, .int hi u, .int 1 v] }, toks := tk } := I.kept fun b o e => Heap.get?_push_of_some _ e
  refine ⟨(s.heap.push { cls := .type "range", data := .fields #[.int lo t, .int hi u, .int 1 v] }).objs.size, [(s.heap.push { cls := .type "range", data := .fields #[.int lo t, .int hi u, .int 1 v] }).objs.size], _, _, H, rfl,
    I1.kept (t' := tk) fun b o e => Heap.get?_push_of_some _ e, turn_range _ lo (hi - lo).toNat, ?_, fun b hb => ?_, q⟩
  · have e1 : lo + ((0 : Nat) : Int) * 1 = lo := by simp
    have e2 : (((hi - lo).toNat : Nat) : Int) - ((0 : Nat) : Int) = Builtin.Range.rangeSize lo hi 1 := by rw [rangeSize_one]; split <;> omega
    show IsRangeIter _ _ (lo + ((0 : Nat) : Int) * 1) ((((hi - lo).toNat : Nat) : Int) - ((0 : Nat) : Int)) 1
    rw [e1, e2]
    exact Heap.get?_push_size _ rfl
  · have e : b = (s.heap.push { cls := .type "range", data := .fields #[.int lo t, .int hi u, .int 1 v] }).objs.size := by simpa using hb
    subst e
    exact I1.fpOk (Nat.le_refl _) (I1.hok.fresh (Nat.le_refl _))
noncomputable def iRng1 (ta : TA) : TI := fun σ H R => ta σ H fun vs H1 => ∃ j : Int, vs = [.int j] ∧ -(2 ^ 62) ≤ j ∧ j < 2 ^ 62 ∧ R (Itr 0 j.toNat) H1
theorem pi_range1 {a : Expr} {ta : TA} {p pos : Pos} (hg : Gl X "range") (hm : X.mg "range" = none) (ha : PA X [a] ta) (hs : starEach [a] X.env = [(false, eval a X.env)] := by rfl) : PI X tg (.Call (.Name "range" p) [a] [] pos) (iRng1 ta) := by
  (try refine ⟨?_⟩); intro pins s σ H R I h
  refine Call_ (ld_blt I hg hm boot_range (PyProof.Rows.callWith_type1 (thn (ha pos pins s σ H _ I h) fun us s1 ⟨vs, H1, I1, r1, q1⟩ => ?_) hs rfl))
  obtain ⟨j, e, q1, q2, q⟩ := q1
  subst e
  cases r1 with
  | cons r rr =>
    cases rr
    obtain ⟨t, rfl⟩ := r
    exact call_range_1 (range_it I1 (by omega) (by omega) q1 q2 (by simpa using q))
/-! ### for -/
/-- W: the invariant by the turn and a measure; N: what the body is to reach -/
noncomputable def tFor (wi : TI) (g : TG) (tb : TS) : TS := fun D σ H => wi σ H fun J H1 => ∃ W : Nat → Nat → St → Hp → Prop, (∃ m, W 0 m σ H1) ∧ ∀ i m σ H, W i m σ H →
  (J.stop i H ∧ D.nx σ H) ∨ (J.go i H ∧ ∃ N : St → Hp → Prop, (∀ σ' H', N σ' H' → ∃ m', m' < m ∧ W (i + 1) m' σ' H') ∧ ∀ x H', J.yld i H x H' → g x σ H' fun σ2 H2 => tb { D with nx := N, ct := N, bk := D.nx } σ2 H2)
/-- the records at fp as they stand -/
noncomputable def pinsAt (fp : List Addr) (h : Heap) : List (Addr × Obj) := fp.filterMap fun b => (h.get? b).map fun o => (b, o)
theorem mem_pinsAt {fp : List Addr} {h : Heap} {b : Addr} {o : Obj} (hb : b ∈ fp) (e : h.get? b = some o) : (b, o) ∈ pinsAt fp h := List.mem_filterMap.mpr ⟨b, hb, by rw [e]; rfl⟩
theorem of_pinsAt {fp : List Addr} {h : Heap} {p : Addr × Obj} (hp : p ∈ pinsAt fp h) : p.1 ∈ fp ∧ h.get? p.1 = some p.2 := by
  obtain ⟨b, hb, e⟩ := List.mem_filterMap.mp hp
  cases q : h.get? b with
  | none => rw [q] at e; cases e
  | some o =>
    rw [q] at e
    have e' : (b, o) = p := Option.some.inj e
    subst e'
    exact ⟨hb, q⟩
theorem Inv.pinned {pins : List (Addr × Obj)} {σ : St} {H : Hp} {s : Shared} {fp : List Addr} (I : Inv X pins σ H s) (hf : ∀ b ∈ fp, FpOk X pins H b) (ho : ∀ b ∈ fp, ∃ o, s.heap.get? b = some o ∧ ∀ v, o.data ≠ .cell v) : Inv X (pins ++ pinsAt fp s.heap) σ H s :=
  I.pins_of fun p hp => (List.mem_append.mp hp).elim (fun z => I.pin p (List.mem_append_right _ z)) fun z => by
    obtain ⟨hb, e⟩ := of_pinsAt z
    obtain ⟨f0, f1, f2, _⟩ := hf p.1 hb
    obtain ⟨o, e', d⟩ := ho p.1 hb
    rw [e] at e'; cases e'
    exact ⟨e, f0, f1, f2, d⟩
theorem Inv.unpinned {pins pl : List (Addr × Obj)} {σ : St} {H : Hp} {s : Shared} (I : Inv X (pins ++ pl) σ H s) : Inv X pins σ H s := I.pins_of fun p hp => I.pin p (List.mem_append_right _ (List.mem_append_left _ hp))
theorem ps_for {iter : Expr} {body : List Stmt} {wi : TI} {g : TG} {tb : TS} {pos : Pos} (hp : PassesOwn (model X.prog X.w) X.A X.env X.xe) (hc : X.calm = true) (hi : PI X tg iter wi) (hg : PG X tg g) (hb : PSs X body tb)
    (hs : ∀ x, foldedSetIterable iter X.env x = pure x := by intro _; rfl) : PS X (.For tg iter body [] pos) (tFor wi g tb) := by
  (try refine ⟨?_⟩); intro pins s σ H D I h
  refine wpAny_For (thn (hi pins s σ H _ I h) fun v s1 h1 => thn h1 fun itv s2 h2 => ?_) hs
  obtain ⟨it, fp, tn, J, H2, e, I2, T, st2, f2, W, ⟨m0, w0⟩, turn⟩ := h2
  subst e
  -- what stays true of the iterator's objects through the loop
  have stat : ∀ {H' : Hp}, (∀ b ∈ fp, H' b = none) → ∀ b ∈ fp, FpOk X pins H' b := fun hn b hb => ⟨hn b hb, (f2 b hb).2⟩
  refine codeAny_forLoop_any (fun n s' => ∃ i σ' H', Inv X pins σ' H' s' ∧ tn i s'.heap ∧ (∀ b ∈ fp, H' b = none) ∧ W i n σ' H') ?_ m0 ⟨0, σ, H2, I2, st2, fun b hb => (f2 b hb).1, w0⟩
  rintro n s3 ⟨i, σ3, H3, I3, st3, fr3, w3⟩
  rcases turn i n σ3 H3 w3 with ⟨stop, qn⟩ | ⟨go, N, hN, step⟩
  · refine wpAny_passesOwn hp (thn (T.done X rfl rfl rfl hc i pins s3 σ3 H3 X.xe I3 (stat fr3) st3 stop) fun r s4 ⟨hr, I4⟩ => ?_)
    subst hr
    exact wpAny_execs_nil ⟨σ3, H3, I4, qn⟩
  · refine wpAny_passesOwn hp (thn (T.item X rfl rfl rfl hc i pins s3 σ3 H3 X.xe I3 (stat fr3) st3 go) fun r s4 ⟨u, hr, h4⟩ => ?_)
    subst hr
    refine wpAny_passesOwn hp (thn h4 fun _ s5 ⟨x, H5, I5, r5, y5, st5, fr5⟩ => ?_)
    have I5' := I5.pinned (stat fr5) (T.obj _ _ st5)
    refine wpAny_passesOwn hp (thn (hg _ s5 σ3 H5 x u _ I5' r5 (step x H5 y5)) fun _ s6 ⟨σ6, H6, I6, q6⟩ => ?_)
    refine wpAny_passesOwn hp (thn (hb _ s6 σ6 H6 _ I6 q6) fun f s7 q7 => ?_)
    have again : ∀ {σ7 : St} {H7 : Hp}, Inv X (pins ++ pinsAt fp s5.heap) σ7 H7 s7 → N σ7 H7 → ∃ m, m < n ∧ ∃ i σ' H', Inv X pins σ' H' s7 ∧ tn i s7.heap ∧ (∀ b ∈ fp, H' b = none) ∧ W i m σ' H' := fun {σ7 H7} I7 n7 => by
      obtain ⟨m', hm, w7⟩ := hN σ7 H7 n7
      refine ⟨m', hm, i + 1, σ7, H7, I7.unpinned, T.keep _ _ _ st5 fun b hb o e => (I7.pin (b, o) (List.mem_append_right _ (List.mem_append_right _ (mem_pinsAt hb e)))).1, fun b hb => ?_, w7⟩
      obtain ⟨o, e, d⟩ := T.obj _ _ st5 b hb
      exact (I7.pin (b, o) (List.mem_append_right _ (List.mem_append_right _ (mem_pinsAt hb e)))).2.1
    cases f with
    | next => obtain ⟨σ7, H7, I7, n7⟩ := q7; exact again I7 n7
    | cont => obtain ⟨σ7, H7, I7, n7⟩ := q7; exact again I7 n7
    | brk => obtain ⟨σ7, H7, I7, q7⟩ := q7; exact ⟨σ7, H7, I7.unpinned, q7⟩
    | ret v => obtain ⟨x7, σ7, H7, I7, r7, q7⟩ := q7; exact ⟨x7, σ7, H7, I7.unpinned, r7, q7⟩
end

/-! ### the forms one uses -/
end L2

namespace L2
open PySem PySem.Spec PyProof.Rows

noncomputable abbrev R2 := V → V → Hp → VK → Prop
/-- a two-place operation on values: f is binaryOp op, inplaceOp op or compareOp op -/
noncomputable def OpR (X : Cx) (f : Value → Value → Sem Value) (r : R2) : Prop :=
  ∀ (pins : List (Addr × Obj)) (s : Shared) (σ : St) (H : Hp) (x y : V) (v u : Value) (Q : VK), Inv X pins σ H s → RelV x v → RelV y u → r x y H Q →
    wpAny (model X.prog X.w) X.A (f v u) (EP X pins σ Q) X.xe s
/-- a one-place operation -/
noncomputable def UnR (X : Cx) (f : Value → Sem Value) (r : V → Hp → VK → Prop) : Prop :=
  ∀ (pins : List (Addr × Obj)) (s : Shared) (σ : St) (H : Hp) (x : V) (v : Value) (Q : VK), Inv X pins σ H s → RelV x v → r x H Q →
    wpAny (model X.prog X.w) X.A (f v) (EP X pins σ Q) X.xe s
/-- a call of a value that is known (a builtin, a type) with values -/
noncomputable def CallR (X : Cx) (f : Value) (r : List V → Hp → VK → Prop) : Prop :=
  ∀ (pins : List (Addr × Obj)) (s : Shared) (σ : St) (H : Hp) (xs : List V) (us : List Value) (Q : VK), Inv X pins σ H s → Vals xs us → r xs H Q →
    wpAny (model X.prog X.w) X.A (call f us) (EP X pins σ Q) X.xe s
noncomputable def tOp (r : R2) (ta tb : TE) : TE := fun σ H Q => ta σ H fun x H1 => tb σ H1 fun y H2 => r x y H2 Q
noncomputable def tUn (r : V → Hp → VK → Prop) (ta : TE) : TE := fun σ H Q => ta σ H fun x H1 => r x H1 Q
/-- ints in, under C, and a value out -/
noncomputable def rI (C : Int → Int → Prop) (g : Int → Int → V) : R2 := fun x y H Q => ∃ i j, x = .int i ∧ y = .int j ∧ C i j ∧ Q (g i j) H
noncomputable def rI0 (g : Int → Int → V) : R2 := fun x y H Q => ∃ i j, x = .int i ∧ y = .int j ∧ Q (g i j) H
noncomputable def rU (g : Int → V) : V → Hp → VK → Prop := fun x H Q => ∃ i, x = .int i ∧ Q (g i) H

section
variable {X : Cx} {a b c : Expr} {ta tb tc : TE} {pos : Pos}

theorem binT (ha : PE X a ta) (hb : PE X b tb) {pins : List (Addr × Obj)} {s : Shared} {σ : St} {H : Hp} {R : V → V → Hp → Prop} (I : Inv X pins σ H s)
    (h : ta σ H fun x H1 => tb σ H1 fun y H2 => R x y H2) {Q : Value → Shared → Prop} {f : Value → Value → Sem Value}
    (hf : ∀ v u s2 x y H2, Inv X pins σ H2 s2 → RelV x v → RelV y u → R x y H2 → wpAny (model X.prog X.w) X.A (f v u) Q X.xe s2) :
    wpAny (model X.prog X.w) X.A (eval a X.env) (fun v s₁ => wpAny (model X.prog X.w) X.A (eval b X.env) (fun u s₂ => wpAny (model X.prog X.w) X.A (f v u) Q X.xe s₂) X.xe s₁) X.xe s := by
  refine thn (ha pins s σ H _ I h) fun v s1 ⟨x, H1, I1, r1, q1⟩ => ?_
  refine thn (hb pins s1 σ H1 _ I1 q1) fun u s2 ⟨y, H2, I2, r2, q2⟩ => ?_
  exact hf v u s2 x y H2 I2 r1 r2 q2

theorem pe_op {op : Operator} {r : R2} (ho : OpR X (binaryOp op) r) (ha : PE X a ta) (hb : PE X b tb) : PE X (.BinOp a op b pos) (tOp r ta tb) := by
  (try refine ⟨?_⟩); intro pins s σ H Q I h
  exact wpAny_BinOp (binT ha hb I h fun v u s2 x y H2 I2 rx ry q => ho pins s2 σ H2 x y v u Q I2 rx ry q)
theorem pe_un {op : UnaryOp} {r : V → Hp → VK → Prop} (ho : UnR X (unaryOp op) r) (ha : PE X a ta) : PE X (.UnaryOp op a pos) (tUn r ta) := by
  (try refine ⟨?_⟩); intro pins s σ H Q I h
  exact UnaryOp_ (thn (ha pins s σ H _ I h) fun v s1 ⟨x, H1, I1, r1, q1⟩ => ho pins s1 σ H1 x v Q I1 r1 q1)
/-! ### ints -/
theorem opI {f : Value → Value → Sem Value} {C : Int → Int → Prop} {g : Int → Int → Int}
    (rule : ∀ (i j : Int) (t u : Tok) (s : Shared) (Q : Value → Shared → Prop) (E : Value → Shared → Prop), C i j → Q (.int (g i j) s.toks) { s with toks := s.toks + 1 } → wpAny (model X.prog X.w) X.A (f (.int i t) (.int j u)) Q E s) :
    OpR X f (rI C fun i j => .int (g i j)) := by
  (try refine ⟨?_⟩); intro pins s σ H x y v u Q I rx ry h
  obtain ⟨i, j, rfl, rfl, hc, q⟩ := h
  obtain ⟨t, rfl⟩ := rx
  obtain ⟨t', rfl⟩ := ry
  exact rule i j t t' s _ _ hc ⟨.int (g i j), H, I.tok _, ⟨_, rfl⟩, q⟩
theorem opI0 {f : Value → Value → Sem Value} {g : Int → Int → Int}
    (rule : ∀ (i j : Int) (t u : Tok) (s : Shared) (Q : Value → Shared → Prop) (E : Value → Shared → Prop), Q (.int (g i j) s.toks) { s with toks := s.toks + 1 } → wpAny (model X.prog X.w) X.A (f (.int i t) (.int j u)) Q E s) :
    OpR X f (rI0 fun i j => .int (g i j)) := by
  (try refine ⟨?_⟩); intro pins s σ H x y v u Q I rx ry h
  obtain ⟨i, j, rfl, rfl, q⟩ := h
  obtain ⟨t, rfl⟩ := rx
  obtain ⟨t', rfl⟩ := ry
  exact rule i j t t' s _ _ ⟨.int (g i j), H, I.tok _, ⟨_, rfl⟩, q⟩
theorem opB0 {f : Value → Value → Sem Value} {g : Int → Int → Bool}
    (rule : ∀ (i j : Int) (t u : Tok) (s : Shared) (Q : Value → Shared → Prop) (E : Value → Shared → Prop), Q (.bool (g i j)) s → wpAny (model X.prog X.w) X.A (f (.int i t) (.int j u)) Q E s) :
    OpR X f (rI0 fun i j => .bl (g i j)) := by
  (try refine ⟨?_⟩); intro pins s σ H x y v u Q I rx ry h
  obtain ⟨i, j, rfl, rfl, q⟩ := h
  obtain ⟨t, rfl⟩ := rx
  obtain ⟨t', rfl⟩ := ry
  exact rule i j t t' s _ _ ⟨.bl (g i j), H, I, rfl, q⟩

noncomputable def CDiv (i j : Int) : Prop := 0 < j ∧ j < 1073741824
noncomputable def CPow (i j : Int) : Prop := 0 ≤ j ∧ j ≤ 1000000 ∧ i.natAbs < 2 ^ 64
noncomputable def CMul (i j : Int) : Prop := (-(2 ^ 64) < i ∧ i < 2 ^ 64) ∨ (-(2 ^ 64) < j ∧ j < 2 ^ 64)
theorem CMul.ok {i j : Int} (h : CMul i j) : IntMulOk i j := by
  rcases h with ⟨h1, h2⟩ | ⟨h1, h2⟩
  · exact .of_left (intBits_le_64 h1 h2)
  · exact .of_right (intBits_le_64 h1 h2)
theorem op_add : OpR X (binaryOp .Add) (rI0 fun i j => .int (i + j)) := opI0 fun _ _ _ _ _ _ _ q => add_int q
theorem op_sub : OpR X (binaryOp .Sub) (rI0 fun i j => .int (i - j)) := opI0 fun _ _ _ _ _ _ _ q => sub_int q
theorem op_mul : OpR X (binaryOp .Mult) (rI CMul fun i j => .int (i * j)) := opI fun _ _ _ _ _ _ _ hc q => mul_int q hc.ok
/-- // by a positive divisor -/
theorem op_fdiv : OpR X (binaryOp .FloorDiv) (rI CDiv fun i j => .int (i / j)) := opI fun i j _ _ _ _ _ hc q => by
  have h1 : (0 : Int) < j := hc.1
  have h2 : j < 1073741824 := hc.2
  exact floordiv_int (by omega) (by rw [Int.fdiv_eq_ediv_of_nonneg i (by omega)]; exact q) (.inl (PyProof.noPylong_small (by omega)))
/-- % by a positive divisor of any size -/
theorem op_mod : OpR X (binaryOp .Mod) (rI (fun _ j => 0 < j) fun i j => .int (i % j)) := opI fun i j _ _ _ _ _ hc q => by
  have h1 : (0 : Int) < j := hc
  exact mod_int' (by omega) (by rw [Int.fmod_eq_emod_of_nonneg i (by omega)]; exact q)
theorem op_pow : OpR X (binaryOp .Pow) (rI CPow fun i j => .int (i ^ j.toNat)) := opI fun _ _ _ _ _ _ _ hc q => pow_int_small hc.1 hc.2.1 hc.2.2 q
theorem unI {f : Value → Sem Value} {g : Int → Int}
    (rule : ∀ (i : Int) (t : Tok) (s : Shared) (Q : Value → Shared → Prop) (E : Value → Shared → Prop), Q (.int (g i) s.toks) { s with toks := s.toks + 1 } → wpAny (model X.prog X.w) X.A (f (.int i t)) Q E s) :
    UnR X f (rU fun i => .int (g i)) := by
  (try refine ⟨?_⟩); intro pins s σ H x v Q I rx h
  obtain ⟨i, rfl, q⟩ := h
  obtain ⟨t, rfl⟩ := rx
  exact rule i t s _ _ ⟨.int (g i), H, I.tok _, ⟨_, rfl⟩, q⟩
theorem un_neg : UnR X (unaryOp .USub) (rU fun i => .int (-i)) := unI fun _ _ _ _ _ q => neg_int q
/-! ### bools among ints: n += (a < b) -/
end

/-! ### comparisons -/
section
variable {X : Cx} {a b c : Expr} {ta tb tc : TE} {pos : Pos}
theorem fin_bl {pins : List (Addr × Obj)} {σ : St} {H : Hp} {s : Shared} {Q : VK} {k k' : Bool} (I : Inv X pins σ H s) (q : Q (.bl k) H) (e : k = k') : EP X pins σ Q (.bool k') s := by
  subst e
  exact ⟨.bl k, H, I, rfl, q⟩
theorem op_lt : OpR X (compareOp .Lt) (rI0 fun i j => .bl (decide (i < j))) := opB0 fun _ _ _ _ _ _ _ q => lt_int q
theorem op_gt : OpR X (compareOp .Gt) (rI0 fun i j => .bl (decide (j < i))) := opB0 fun _ _ _ _ _ _ _ q => gt_int q
/-- is None, is not None: the right side a value none -/
theorem op_isN : OpR X (compareOp .Is) (fun x y H Q => y = .non ∧ Q (.bl (decide (x = .non))) H) := by
  (try refine ⟨?_⟩); intro pins s σ H x y v u Q I rx ry h
  obtain ⟨rfl, q⟩ := h
  cases ry
  refine is_none_gen (fin_bl I q ?_)
  cases x <;> first
    | (cases rx; rfl)
    | (obtain ⟨t, rfl⟩ := rx; rfl)
theorem nomark (b : Expr) {op : CmpOp} (h : op ≠ .In := by decide) (h2 : op ≠ .NotIn := by decide) : behindInMarks op b = false := by
  have e1 : (op == CmpOp.In) = false := by cases op <;> first | rfl | exact absurd rfl h
  have e2 : (op == CmpOp.NotIn) = false := by cases op <;> first | rfl | exact absurd rfl h2
  cases b <;> simp [behindInMarks, e1, e2]
/-- a comparison as a value; hm: nomark b, or (for in, not in) by with_unfolding_all rfl -/
theorem pe_cmpR {op : CmpOp} {r : R2} (ho : OpR X (compareOp op) r) (ha : PE X a ta) (hb : PE X b tb) (hm : behindInMarks op b = false) : PE X (.Compare a [op] [b] pos) (tOp r ta tb) := by
  (try refine ⟨?_⟩); intro pins s σ H Q I h
  exact wpAny_Compare1 (binT ha hb I h fun v u s2 x y H2 I2 rx ry q => ho pins s2 σ H2 x y v u Q I2 rx ry q) hm
/-- a reading of a value as a test -/
noncomputable def tTest (t : TE) : TT := fun σ H Q => t σ H fun x H' => ∃ k, x = .bl k ∧ Q k H'
theorem pt_cmpR {op : CmpOp} {r : R2} (ho : OpR X (compareOp op) r) (ha : PE X a ta) (hb : PE X b tb) (hm : behindInMarks op b = false) : PT X (.Compare a [op] [b] pos) (tTest (tOp r ta tb)) := by
  (try refine ⟨?_⟩); intro pins s σ H Q I h
  refine wpAny_isTrue_Compare1 (thn (ha pins s σ H _ I h) fun v s1 ⟨x, H1, I1, r1, q1⟩ => thn (hb pins s1 σ H1 _ I1 q1) fun u s2 ⟨y, H2, I2, r2, q2⟩ =>
    thn (ho pins s2 σ H2 x y v u _ I2 r1 r2 q2) fun c s3 ⟨z, H3, I3, r3, k, e, q3⟩ => ?_) hm
  subst e
  cases r3
  exact wpAny_truthy_bool ⟨H3, I3, q3⟩
/-! ### truth -/
theorem line63 : (sizeLine : Nat) < 2 ^ 63 := by rw [sizeLine_eq]; decide
/-! ### strs and bytes -/
/-! ### scalar builtins, by CallR -/
theorem vals1 {x : V} {us : List Value} (r : Vals [x] us) : ∃ u, us = [u] ∧ RelV x u := by
  cases r with
  | cons r1 r2 => cases r2; exact ⟨_, rfl, r1⟩
theorem vals2 {x y : V} {us : List Value} (r : Vals [x, y] us) : ∃ u w', us = [u, w'] ∧ RelV x u ∧ RelV y w' := by
  cases r with
  | cons r1 r2 =>
    cases r2 with
    | cons r3 r4 => cases r4; exact ⟨_, _, rfl, r1, r3⟩
theorem call_abs : CallR X (.builtin "abs") (fun xs H Q => ∃ i, xs = [.int i] ∧ Q (.int (if i < 0 then -i else i)) H) := by
  (try refine ⟨?_⟩); intro pins s σ H xs us Q I r h
  obtain ⟨i, rfl, q⟩ := h
  obtain ⟨u, rfl, t, rfl⟩ := vals1 r
  exact call_abs_int fun u tk => ⟨.int (if i < 0 then -i else i), H, I.tok _, ⟨_, rfl⟩, q⟩
theorem call_max2 (hc : X.calm = true) : CallR X (.builtin "max") (fun xs H Q => ∃ i j, xs = [.int i, .int j] ∧ Q (.int (if j > i then j else i)) H) := by
  (try refine ⟨?_⟩); intro pins s σ H xs us Q I r h
  obtain ⟨i, j, rfl, q⟩ := h
  obtain ⟨u, w', rfl, ⟨t, rfl⟩, ⟨t', rfl⟩⟩ := vals2 r
  refine max_two_ints (I.ok.hd hc) fun h' tk k => ⟨_, H, I.kept k, ?_, q⟩
  by_cases hj : j > i
  · rw [if_pos hj, if_pos hj]; exact ⟨_, rfl⟩
  · rw [if_neg hj, if_neg hj]; exact ⟨_, rfl⟩
theorem call_min2 (hc : X.calm = true) : CallR X (.builtin "min") (fun xs H Q => ∃ i j, xs = [.int i, .int j] ∧ Q (.int (if j < i then j else i)) H) := by
  (try refine ⟨?_⟩); intro pins s σ H xs us Q I r h
  obtain ⟨i, j, rfl, q⟩ := h
  obtain ⟨u, w', rfl, ⟨t, rfl⟩, ⟨t', rfl⟩⟩ := vals2 r
  refine min_two_ints (I.ok.hd hc) fun h' tk k => ⟨_, H, I.kept k, ?_, q⟩
  by_cases hj : j < i
  · rw [if_pos hj, if_pos hj]; exact ⟨_, rfl⟩
  · rw [if_neg hj, if_neg hj]; exact ⟨_, rfl⟩
theorem call_int1 : CallR X (.type "int") (fun xs H Q => (∃ i, xs = [.int i] ∧ Q (.int i) H) ∨ ∃ k, xs = [.bl k] ∧ Q (.int (if k then 1 else 0)) H) := by
  (try refine ⟨?_⟩); intro pins s σ H xs us Q I r h
  rcases h with ⟨i, rfl, q⟩ | ⟨k, rfl, q⟩
  · obtain ⟨u, rfl, t, rfl⟩ := vals1 r
    exact call_int_int ⟨.int i, H, I, ⟨_, rfl⟩, q⟩
  · obtain ⟨u, rfl, r1⟩ := vals1 r
    cases r1
    exact call_int_bool ⟨.int (if k then 1 else 0), H, I.tok _, ⟨_, rfl⟩, q⟩
end
end L2

namespace L2
open PySem PySem.Spec PyProof.Rows

/-! ### an instance, its attributes a map -/
structure ObjM (h : Heap) (x dx C : Addr) (mA : Str → Option Value) : Prop where
  obj : h.get? x = some (PySem.W.instObj C dx)
  ns : h.Ns1 dx mA
  ne : dx ≠ x

theorem lookIn_ns {h : Heap} {dx : Addr} {mA : Str → Option Value} (n : h.Ns1 dx mA) : ∃ od, h.get? dx = some od ∧ ∀ name, PySem.W.lookIn name od = some (mA name) := by
  obtain ⟨o, es, ep, ho, hd, hk, _, hm⟩ := n
  refine ⟨o, ho, fun name => ?_⟩
  have e := hm name
  unfold nsFind findBy at e
  rw [← Array.find?_toList] at e
  unfold PySem.W.lookIn
  rw [hd]
  dsimp only
  split
  · rename_i y q
    rw [q] at e
    exact congrArg some e
  · rename_i q
    rw [q] at e
    have a : es.toList.any (·.refKey) = false := by
      rw [List.any_eq_false]
      intro y hy
      obtain ⟨z, t, hkey⟩ := hk y (Array.mem_toList_iff.mp hy)
      simp [DictEntry.refKey, hkey]
    have a' : ¬ es.toList.any (·.refKey) = true := by rw [a]; exact Bool.false_ne_true
    rw [if_neg a']
    exact congrArg some e

theorem ObjM.look {h : Heap} {x dx C : Addr} {mA : Str → Option Value} (I : ObjM h x dx C mA) : ∃ od, PySem.W.InstAt h x (PySem.W.instObj C dx) C (some od) ∧ ∀ name, PySem.W.lookIn name od = some (mA name) :=
  let ⟨od, ho, hl⟩ := lookIn_ns I.ns
  ⟨od, ⟨I.obj, rfl, rfl, ho⟩, hl⟩

section
variable {prog : Program} {w : World} {A : Around} {E : Value → Shared → Prop} {s : Shared} {K : PySem.W.Frag} {x dx C f : Addr} {mA : Str → Option Value} {name : Str} {v : Value}

end

/-! ### the attributes as a list of pairs -/
section
variable {P : Program} {w : World} {H H' : Hp} {h h' : Heap} {a C dx : Addr} {fs fs' : List (Str × V)}
theorem ins_get (hok : HOk P w H h) (e : H a = some (.ins C dx fs)) : ∃ mA, ObjM h a dx C mA ∧ (∀ f, RelO (fs.lookup f) (mA f)) ∧ PySem.Within mA (fs.map (·.1)) ∧ fs.length ≤ 1000 ∧ H dx = some (.own a) := by
  obtain ⟨d, z, ne, ob, mA, n, r, q⟩ := (show ObjOk P w H h a (.ins C dx fs) from hok a _ e)
  exact ⟨mA, ⟨ob, n, ne⟩, r, q, z, d⟩
end

/-! ### what of the text a class must have -/
structure Cls (K : PySem.W.Frag) (C : Addr) : Prop where
  pg : PySem.W.plainGet K C Str.empty = true
  hd : PySem.W.hasDictIn K C = true
  po : PySem.W.plainOver K C = true
  sa : PySem.W.findIn K (.ref C) "__setattr__" = some (some (.builtin "object.__setattr__"))
theorem Cls.get {K : PySem.W.Frag} {C : Addr} (c : Cls K C) (f : Str) : PySem.W.plainGet K C f = true := c.pg
section
variable {X : Cx} {pins : List (Addr × Obj)} {σ : St} {H : Hp} {s : Shared} {a C dx : Addr} {fs : List (Str × V)} {f : Str} {v : V} {A : Around} {E : Value → Shared → Prop}

end

/-! ### readings and rules -/
section
variable {X : Cx} {o e value : Expr} {f : Str} {pos pos' tpos : Pos} {ta tv : TE}
end

/-! ### isinstance -/
section
variable {X : Cx} {pins : List (Addr × Obj)} {σ : St} {H : Hp} {s : Shared} {A : Around} {E : Value → Shared → Prop} {Q : Value → Shared → Prop} {c : Value} {b : Bool}
/-- the type of a value, as the fragment's deciders take it; for an instance its class -/
inductive TyOf (K : PySem.W.Frag) (H : Hp) : V → Value → Prop where
  | non : TyOf K H .non (.type "NoneType")
  | bl (x : Bool) : TyOf K H (.bl x) (.type "bool")
  | int (i : Int) : TyOf K H (.int i) (.type "int")
  | str (x : Str) : TyOf K H (.str x) (.type "str")
  | flt (x : UInt64) : TyOf K H (.flt x) (.type "float")
  | lst {a : Addr} {xs : List V} (e : H a = some (.lst xs)) : TyOf K H (.ref a) (.type "list")
  | frz {a : Addr} {o : Obj} {xs : List V} (e : H a = some (.frz o (.lst xs))) : TyOf K H (.ref a) (.type "list")
  | tup {a : Addr} {xs : List V} (e : H a = some (.tup xs)) : TyOf K H (.ref a) (.type "tuple")
  | dK {a : Addr} {kvs : List (Key × V)} (e : H a = some (.dK kvs)) : TyOf K H (.ref a) (.type "dict")
  | dT {a : Addr} {kvs : List (List Key × V)} (e : H a = some (.dT kvs)) : TyOf K H (.ref a) (.type "dict")
  | ins {a C dx : Addr} {fs : List (Str × V)} (e : H a = some (.ins C dx fs)) (cl : Cls K C) (ha : PySem.W.findIn K (.ref C) "__class__" = some (some (.builtin "object.__class__")))
      (hn : PySem.W.specialIn K (.builtin "object.__class__") "__get__" = some (some (.builtin "getset_descriptor.__get__"))) (htk : PySem.W.takesIn K (.builtin "object.__class__") = some true)
      (hm : PySem.W.mroIn K C (.type "object") = some true) : TyOf K H (.ref a) (.ref C)
/-- isinstance(x, c) for one class c, a built-in or an own one: kitOne's answer -/
theorem isinst_ok {x : V} {u t : Value} (I : Inv X pins σ H s) (rx : RelV x u) (ty : TyOf X.K H x t) (e : PySem.W.kitOne X.K t c = some b) (h : ∀ tk, Q (.bool b) { s with toks := tk }) :
    wpAny (model X.prog X.w) A (call (.builtin "isinstance") [u, c]) Q E s := by
  cases ty with
  | non => cases (show u = Value.none from rx); exact PySem.W.kia_one PySem.W.kitx_none I.kIn True.intro e (fun z => nomatch z) h
  | bl y => cases (show u = Value.bool y from rx); exact PySem.W.kia_one PySem.W.kitx_bool I.kIn True.intro e (fun z => nomatch z) h
  | int i => obtain ⟨t, q⟩ := (show ∃ t, u = Value.int i t from rx); cases q; exact PySem.W.kia_one PySem.W.kitx_int I.kIn True.intro e (fun z => nomatch z) h
  | str y => obtain ⟨t, q⟩ := (show ∃ t, u = Value.str y t from rx); cases q; exact PySem.W.kia_one PySem.W.kitx_str I.kIn True.intro e (fun z => nomatch z) h
  | flt y => obtain ⟨t, q⟩ := (show ∃ t, u = Value.float y t from rx); cases q; exact PySem.W.kia_one PySem.W.kitx_float I.kIn True.intro e (fun z => nomatch z) h
  | @lst a xs ea =>
    cases (show u = Value.ref a from rx)
    obtain ⟨_, _, n, _, h1⟩ := (show ObjOk X.prog X.w H s.heap a (.lst xs) from I.hok a _ ea)
    exact PySem.W.kia_one PySem.W.kitx_list I.kIn ⟨_, h1, rfl⟩ e (fun z => nomatch z) h
  | @frz a ob xs ea =>
    cases (show u = Value.ref a from rx)
    obtain ⟨_, _, _, n, _, h1⟩ := (show ObjOk X.prog X.w H s.heap a (.frz ob (.lst xs)) from I.hok a _ ea)
    exact PySem.W.kia_one PySem.W.kitx_list I.kIn ⟨_, h1, rfl⟩ e (fun z => nomatch z) h
  | @tup a xs ea =>
    cases (show u = Value.ref a from rx)
    obtain ⟨_, _, _, p⟩ := (show ObjOk X.prog X.w H s.heap a (.tup xs) from I.hok a _ ea)
    obtain ⟨o, h1, h2, _⟩ := p
    exact PySem.W.kia_one PySem.W.kitx_tuple I.kIn ⟨o, h1, h2⟩ e (fun z => nomatch z) h
  | @dK a kvs ea =>
    cases (show u = Value.ref a from rx)
    obtain ⟨_, _, vs, _, p⟩ := (show ObjOk X.prog X.w H s.heap a (.dK kvs) from I.hok a _ ea)
    obtain ⟨o, es, ep, h1, h2, _⟩ := p
    exact PySem.W.kia_one PySem.W.kitx_dict I.kIn ⟨o, h1, h2.1⟩ e (fun z => nomatch z) h
  | @dT a kvs ea =>
    cases (show u = Value.ref a from rx)
    obtain ⟨_, _, xs, _, o, es, ep, h1, h2, _⟩ := (show ObjOk X.prog X.w H s.heap a (.dT kvs) from I.hok a _ ea)
    exact PySem.W.kia_one PySem.W.kitx_dict I.kIn ⟨o, h1, h2.1⟩ e (fun z => nomatch z) h
  | @ins a C dx fs ea cl ha hn htk hm =>
    cases (show u = Value.ref a from rx)
    obtain ⟨mA, O, _⟩ := ins_get I.hok ea
    obtain ⟨od, J, _⟩ := O.look
    exact PySem.W.kia_one (PySem.W.kitx_own (cl.get _) cl.hd ha hn htk hm) I.kIn J e (fun z => nomatch z) h
end
end L2

namespace L2
open PySem PySem.Spec PyProof.Rows

/-! ### room -/
structure Room (k : Nat) (A : Around) : Prop where
  hd : A.handled = none
  dp : A.depth + 3 * k + 5 < recursionLimit
  un : A.units + 16 * k + 200 < cLine
theorem Room.mono {j k : Nat} {A : Around} (r : Room k A) (h : j ≤ k) : Room j A := ⟨r.hd, by have := r.dp; omega, by have := r.un; omega⟩
theorem Room.deeper {k : Nat} {A : Around} (r : Room (k + 1) A) (env : Env) : Room k (A.deeper env) :=
  ⟨r.hd, by have := r.dp; show A.depth + 1 + 3 * k + 5 < _; omega, by have := r.un; show A.units + 3 + 16 * k + 200 < _; omega⟩
theorem Room.depth {k : Nat} {A : Around} (r : Room k A) : A.depth < recursionLimit := by have := r.dp; omega
theorem Room.units {k : Nat} {A : Around} (r : Room k A) : A.units + 64 < cLine := by have := r.un; omega
/-! ### argument lists and displays -/
noncomputable def tNil : TA := fun _ H Q => Q [] H
noncomputable def tCons (ta : TE) (tr : TA) : TA := fun σ H Q => ta σ H fun x H1 => tr σ H1 fun xs H2 => Q (x :: xs) H2
section
variable {X : Cx} {e : Expr} {es : List Expr} {te : TE} {t : TA} {pos : Pos}
theorem pa_nil : PA X [] tNil := ⟨fun _ _ _ _ H Q I h => Calls.spliced_nil ⟨[], H, I, .nil, h⟩⟩
theorem pa_cons (ha : PE X e te) (hr : PA X es t) (hs : starEach (e :: es) X.env = (false, eval e X.env) :: starEach es X.env := by rfl) : PA X (e :: es) (tCons te t) := by
  (try refine ⟨?_⟩); intro pos pins s σ H Q I h
  rw [hs]
  show wpAny _ _ (spliced ((false, eval e X.env) :: backTo pos (starEach es X.env))) _ _ s
  refine Calls.spliced_cons (thn (ha pins s σ H _ I h) fun u s1 ⟨x, H1, I1, r1, q1⟩ => ?_)
  exact thn (hr pos pins s1 σ H1 _ I1 q1) fun us s2 ⟨xs, H2, I2, r2, q2⟩ => ⟨x :: xs, H2, I2, .cons r1 r2, q2⟩

/-- a tuple, a list of written items -/
noncomputable def tTup (t : TA) : TE := fun σ H Q => t σ H fun xs H1 => xs.length ≤ sizeLine ∧ ∀ p, H1 p = none → Q (.ref p) (upd H1 p (.tup xs))
noncomputable def tLst (t : TA) : TE := fun σ H Q => t σ H fun xs H1 => xs.length ≤ sizeLine ∧ ∀ p, H1 p = none → Q (.ref p) (upd H1 p (.lst xs))
theorem pe_tup {x1} (h : PA X es t) : PE X (.Tuple es x1 pos) (tTup t) := by
  (try refine ⟨?_⟩); intro pins s σ H Q I hq
  refine wpAny_Tuple_spliced (thn (h pos pins s σ H _ I hq) fun us s1 ⟨xs, H1, I1, r, z, q⟩ => ⟨by rw [← r.length]; exact z, ?_⟩)
  have hf : H1 s1.heap.objs.size = none := I1.hok.fresh (Nat.le_refl _)
  refine ⟨.ref s1.heap.objs.size, upd H1 s1.heap.objs.size (.tup xs), I1.laid (t' := s1.toks) (fun b u e => Heap.get?_push_of_some _ e) (Nat.le_refl _) ?_, rfl, q _ hf⟩
  exact ⟨z, us, r, ⟨_, Heap.get?_push_size _ rfl, rfl, _, rfl⟩⟩
theorem pe_lst (h : PA X es t) : PE X (.List es pos) (tLst t) := by
  (try refine ⟨?_⟩); intro pins s σ H Q I hq
  refine wpAny_List_spliced (thn (h pos pins s σ H _ I hq) fun us s1 ⟨xs, H1, I1, r, z, q⟩ => ⟨by rw [← r.length]; exact z, ?_⟩)
  have hf : H1 s1.heap.objs.size = none := I1.hok.fresh (Nat.le_refl _)
  refine ⟨.ref s1.heap.objs.size, upd H1 s1.heap.objs.size (.lst xs), I1.laid (t' := s1.toks) (fun b u e => Heap.get?_push_of_some _ e) (Nat.le_refl _) ?_, rfl, q _ hf⟩
  exact ⟨z, us, 0, r, Heap.get?_push_size _ rfl⟩
end

/-! ### what a def promises -/
/-- a def's promise: the bound arguments in the parameters' order, the heap, the wanted end, the wanted exception -/
noncomputable abbrev Sp := List V → Hp → VK → XK → Prop
/-- how an exception lies behind a call (file 08 gives it): the callers' frames, abstract heap and state ahead of the call, the wish, the exception, the state -/
noncomputable abbrev CXT := List Env → Hp → Shared → XK → Value → Shared → Prop

/-- the state at a call -/
structure Env0 (P : Program) (w : World) (K : PySem.W.Frag) (mg : Str → Option Value) (base : Heap) (A : Around) (outer : List Env) (s : Shared) (H : Hp) : Prop where
  frames : A.frames = some outer
  mod : Mod K mg base
  bs : ∀ b o, base.get? b = some o → s.heap.get? b = some o ∧ H b = none
  bsz : base.objs.size ≤ s.heap.objs.size
  funs : s.heap.FunFrames base outer
  frf : ∀ b ∈ frs outer, H b = none
  hok : HOk P w H s.heap
  bare : AllBare s.gens
/-- a call's end -/
noncomputable def CE (outer : List Env) (P : Program) (w : World) (H : Hp) (s : Shared) (Q : VK) (u : Value) (s' : Shared) : Prop :=
  ∃ v H', s'.os = s.os ∧ AllBare s'.gens ∧ Un (frs outer) [] H H' s.heap s'.heap ∧ HOk P w H' s'.heap ∧ RelV v u ∧ Q v H'
noncomputable def CR (CX : CXT) (outer : List Env) (P : Program) (w : World) (H : Hp) (s : Shared) (Q : VK) (E : XK) (r : Result) (s' : Shared) : Prop :=
  match r with
  | .ok (.ret u) => CE outer P w H s Q u s'
  | .ok _ => False
  | .error e => CX outer H s E e s'
structure FnOk (P : Program) (w : World) (K : PySem.W.Frag) (mg : Str → Option Value) (base : Heap) (CX : CXT) (k : Nat) (f : Addr) (fd : FuncData) (ps : List Str) (sp : Sp) : Prop where
  len : ∀ vs H Q E, sp vs H Q E → vs.length = ps.length
  run : ∀ (A : Around) (outer : List Env) (s : Shared) (H : Hp) (args : Args) (us : List Value) (vs : List V) (Q : VK) (E : XK), Room k A → Env0 P w K mg base A outer s H → BindsTo s fd args (ps.zip us) → Vals vs us → sp vs H Q E →
    codeAny (model P w) A (.call (.ref f) args) (CR CX outer P w H s Q E) s
/-- a weaker promise -/
theorem FnOk.imp {P : Program} {w : World} {K : PySem.W.Frag} {mg : Str → Option Value} {base : Heap} {CX : CXT} {k : Nat} {f : Addr} {fd : FuncData} {ps : List Str} {sp sp' : Sp} (F : FnOk P w K mg base CX k f fd ps sp)
    (h : ∀ vs H Q E, sp' vs H Q E → sp vs H Q E) : FnOk P w K mg base CX k f fd ps sp' :=
  ⟨fun vs H Q E q => F.len vs H Q E (h _ _ _ _ q), fun A outer s H args us vs Q E hr he hb hv hs => F.run A outer s H args us vs Q E hr he hb hv (h _ _ _ _ hs)⟩

section
variable {X : Cx} {pins : List (Addr × Obj)} {σ : St} {H : Hp} {s s' : Shared}
/-- from a body: what a callee wants -/
theorem Inv.env0 (I : Inv X pins σ H s) : Env0 X.prog X.w X.K X.mg X.base X.A X.stack s H :=
  ⟨I.ok.frames, I.ok.mod, I.bs, Nat.le_trans I.ok.bsz I.sz, I.stack, I.stkFree, I.hok, I.bare⟩
/-- behind a call -/
theorem Inv.after {Q : VK} {u : Value} (I : Inv X pins σ H s) (h : CE X.stack X.prog X.w H s Q u s') : EP X pins σ Q u s' := by
  obtain ⟨v, H', os, bare, un, hok, r, q⟩ := h
  obtain ⟨hh, g, d, t, os'⟩ := s'
  obtain rfl : os' = s.os := os
  exact ⟨v, H', I.call (h' := hh) (g' := g) (d' := d) (t' := t) (ch := []) un hok bare (fun b z => absurd z (by simp)), r, q⟩
end

/-! ### calls -/
/-- f(..): the written arguments, then the defaults dvs; E: what is wanted of an exception -/
noncomputable def tCall (sp : Sp) (dvs : List V) (E : XK) (t : TA) : TE := fun σ H Q => t σ H fun vs H1 => sp (vs ++ dvs) H1 Q E
/-- how the parameters are bound: us the positional arguments, kw the keywords' values by name, ds the defaults that fill up -/
noncomputable def Binds (K : PySem.W.Frag) (fd : FuncData) (ps : List Str) (ds : List Value) : Prop :=
  ∀ (s : Shared) (us : List Value), K.In s.heap → (us ++ ds).length = ps.length → BindsTo s fd ⟨us, []⟩ (ps.zip (us ++ ds))
/-- every parameter is given -/
theorem Binds.all {K : PySem.W.Frag} {fd : FuncData} {ps : List Str} (h : ∀ us : List Value, us.length = ps.length → bindArgs fd ⟨us, []⟩ = pure (ps.zip us)) : Binds K fd ps [] := fun s us _ hl => by
  rw [List.append_nil] at hl ⊢
  exact .of_eq (h us hl)

/-- an exception of a callee reaches what this body wants of exceptions -/
noncomputable def Passes (CX : CXT) (X : Cx) (E : XK) : Prop := ∀ (pins : List (Addr × Obj)) (σ : St) (H : Hp) (s : Shared) (e : Value) (s' : Shared), Inv X pins σ H s → CX X.stack H s E e s' → X.xe e s'

section
variable {X : Cx} {CX : CXT} {k : Nat} {f C : Addr} {fd : FuncData} {ps : List Str} {sp : Sp} {dvs : List V} {ds : List Value} {E : XK} {x m : Str} {p pos apos : Pos} {e o : Expr} {es : List Expr} {ta : TE} {t : TA}

/-- the callee runs -/
theorem run_fn {pins : List (Addr × Obj)} {σ : St} {H : Hp} {s : Shared} {Q : VK} {us : List Value} {vs : List V} (F : FnOk X.prog X.w X.K X.mg X.base CX k f fd ps sp) (hr : Room k X.A) (hb : Binds X.K fd ps ds) (hd : Vals dvs ds) (hx : Passes CX X E)
    (I : Inv X pins σ H s) (r : Vals vs us) (h : sp (vs ++ dvs) H Q E) : wpAny (model X.prog X.w) X.A (call (.ref f) us) (EP X pins σ Q) X.xe s := by
  have r2 : Vals (vs ++ dvs) (us ++ ds) := r.append hd
  have hl : (us ++ ds).length = ps.length := by rw [← r2.length]; exact F.len _ _ _ _ h
  refine wpAny_call (codeAny_mono (F.run X.A X.stack s H ⟨us, []⟩ (us ++ ds) (vs ++ dvs) Q E hr I.env0 (hb s us I.kIn hl) r2 h) fun r s' hq => ?_)
  cases r with
  | error e => exact hx pins σ H s e s' I hq
  | ok fl =>
    cases fl with
    | ret u => exact I.after hq
    | next => exact False.elim hq
    | brk => exact False.elim hq
    | cont => exact False.elim hq

theorem pe_call (F : FnOk X.prog X.w X.K X.mg X.base CX k f fd ps sp) (hr : Room k X.A) (hg : Gl X x) (hm : X.mg x = some (.ref f)) (hk : PySem.W.keepIn X.K (.ref f) = true) (hb : Binds X.K fd ps ds) (hd : Vals dvs ds) (hx : Passes CX X E)
    (ha : PA X (e :: es) t) (hdb : (x == ("__debug__" : Str)) = false := by decide) (he : starEach (e :: es) X.env = (false, eval e X.env) :: starEach es X.env := by rfl) (hpl : (backTo pos (starEach es X.env)).any (·.1) = false := by rfl) :
    PE X (.Call (.Name x p) (e :: es) [] pos) (tCall sp dvs E t) := by
  (try refine ⟨?_⟩); intro pins s σ H Q I h
  refine wpAny_Call_Name_kw (ld_glob I hg hm ?_ hdb)
  refine PySem.W.callWith_K (h₀ := X.base) I.ok.mod.kin hk (thn (ha pos pins s σ H _ I h) fun us s1 ⟨vs, H1, I1, r, q⟩ => ⟨I1.kIn, ?_⟩) he hpl
  exact run_fn F hr hb hd hx I1 r q
end

/-! ### keywords -/
section
variable {X : Cx} {CX : CXT} {k : Nat} {f C : Addr} {fd : FuncData} {ps ks : List Str} {sp : Sp} {E : XK} {x m : Str} {p pos apos kpos : Pos} {e o : Expr} {es : List Expr} {kws : List Keyword} {te ta : TE} {t tk : TA} {nm : Option Str}
variable {g : List Value → List Value → List Value} {gV : List V → List V → List V}
end

/-! ### a def's body keeps its promise -/
/-- names: the parameters first -/
structure FnScope (N P : List Str) (sc : Scope) : Prop where
  kind : sc.kind = .function
  co : sc.isCoroutine = false
  gen : sc.isGenerator = false
  nd : N.Nodup
  pre : N.take P.length = P
  par : ∀ x ∈ P, sc.names.lookup x = some .local ∨ sc.names.lookup x = some .cell
  nofree : ∀ y ∈ sc.names, y.2 ≠ .free

theorem bindL_out {kindOf : Str → Option NameKind} {x : Str} : ∀ {binds : List (Str × Value)} {m : Str → Option Value}, (∀ v, (x, v) ∉ binds) → bindL kindOf binds m x = m x
  | [], _, _ => rfl
  | (n, v) :: r, m, h => by
    unfold bindL
    rw [bindL_out fun w hw => h w (List.mem_cons_of_mem _ hw)]
    split
    · have : x ≠ n := by rintro rfl; exact h v List.mem_cons_self
      simp [this]
    · rfl
theorem bindC_out {kindOf : Str → Option NameKind} {x : Str} : ∀ {binds : List (Str × Value)} {m : Str → Option Value}, (∀ v, (x, v) ∉ binds) → bindC kindOf binds m x = m x
  | [], _, _ => rfl
  | (n, v) :: r, m, h => by
    unfold bindC
    rw [bindC_out fun w hw => h w (List.mem_cons_of_mem _ hw)]
    split
    · rfl
    · have : x ≠ n := by rintro rfl; exact h v List.mem_cons_self
      simp [this]
theorem bindL_get {kindOf : Str → Option NameKind} {x : Str} {v : Value} : ∀ {P : List Str} {vs : List Value} {i : Nat} {m : Str → Option Value}, P.Nodup → P[i]? = some x → vs[i]? = some v → kindOf x = some .local →
    bindL kindOf (P.zip vs) m x = some v
  | [], _, _, _, _, h, _, _ => by simp at h
  | _ :: _, [], _, _, _, _, h, _ => by simp at h
  | p :: P, w :: vs, 0, m, nd, h1, h2, hk => by
    simp at h1 h2; subst h1; subst h2
    show bindL kindOf ((p, w) :: P.zip vs) m p = _
    unfold bindL
    rw [bindL_out fun v hv => (List.nodup_cons.mp nd).1 (List.of_mem_zip hv).1, if_pos hk]
    simp
  | p :: P, w :: vs, i + 1, m, nd, h1, h2, hk => by
    show bindL kindOf ((p, w) :: P.zip vs) m x = _
    unfold bindL
    exact bindL_get (i := i) (List.nodup_cons.mp nd).2 (by simpa using h1) (by simpa using h2) hk
theorem bindC_get {kindOf : Str → Option NameKind} {x : Str} {v : Value} : ∀ {P : List Str} {vs : List Value} {i : Nat} {m : Str → Option Value}, P.Nodup → P[i]? = some x → vs[i]? = some v → kindOf x ≠ some .local →
    bindC kindOf (P.zip vs) m x = some v
  | [], _, _, _, _, h, _, _ => by simp at h
  | _ :: _, [], _, _, _, _, h, _ => by simp at h
  | p :: P, w :: vs, 0, m, nd, h1, h2, hk => by
    simp at h1 h2; subst h1; subst h2
    show bindC kindOf ((p, w) :: P.zip vs) m p = _
    unfold bindC
    rw [bindC_out fun v hv => (List.nodup_cons.mp nd).1 (List.of_mem_zip hv).1, if_neg hk]
    simp
  | p :: P, w :: vs, i + 1, m, nd, h1, h2, hk => by
    show bindC kindOf ((p, w) :: P.zip vs) m x = _
    unfold bindC
    exact bindC_get (i := i) (List.nodup_cons.mp nd).2 (by simpa using h1) (by simpa using h2) hk

/-- the names' values at the entry -/
noncomputable def start (N : List Str) (vs : List V) : St := vs.map some ++ List.replicate (N.length - vs.length) none

/-- the context of a def's body, at its entry; an exception leaves the frame, then lies as CX says -/
noncomputable def cxOf (CX : CXT) (P : Program) (w : World) (K : PySem.W.Frag) (mg : Str → Option Value) (base : Heap) (N : List Str) (qual : Str) (scope : Scope) (f : Addr) (cd : Value) (A : Around) (outer : List Env) (s : Shared) (H : Hp) (E : XK) : Cx where
  prog := P
  w := w
  K := K
  mg := mg
  base := base
  A := A.deeper (envOfC qual scope s.heap.objs.size f cd)
  N := N
  s₀ := s
  H₀ := H
  env := envOfC qual scope s.heap.objs.size f cd
  outer := outer
  stack := envOfC qual scope s.heap.objs.size f cd :: outer
  ex := []
  calm := true
  fn := fun _ => true
  pn := []
  xe := fun e s' => wpAny (model P w) (A.deeper (envOfC qual scope s.heap.objs.size f cd)) (leaving (envOfC qual scope s.heap.objs.size f cd) e) (fun _ s'' => CX outer H s E e s'') (fun e' s'' => CX outer H s E e' s'') s'

theorem cell_has {sc : Scope} {n : Nat} {x : Str} (h : sc.names.lookup x = some .cell) : ∃ c, (cellsFrom n sc.names []).lookup x = some c := by
  have q := PySem.W.cellsFrom_some sc.names n [] (.inl h)
  exact Option.isSome_iff_exists.mp q

theorem inv_start {CX : CXT} {P : Program} {w : World} {K : PySem.W.Frag} {mg : Str → Option Value} {base : Heap} {N ps : List Str} {qual : Str} {scope : Scope} {f : Addr} {cd : Value} {A : Around} {outer : List Env} {s s1 : Shared} {H : Hp} {E : XK} {us : List Value} {vs : List V}
    (S : FnScope N ps scope) (hd : A.handled = none) (e0 : Env0 P w K mg base A outer s H) (hl : vs.length = ps.length) (r : Vals vs us)
    (x : InCallC s s.heap.objs.size (bindL (envOfC qual scope s.heap.objs.size f cd).kindOf (ps.zip us) fun _ => none) (cellsFrom (s.heap.objs.size + 1) scope.names []) (bindC (envOfC qual scope s.heap.objs.size f cd).kindOf (ps.zip us) fun _ => none) s1) :
    Inv (cxOf CX P w K mg base N qual scope f cd A outer s H E) [] (start N vs) H s1 := by
  have hpl : ps.length ≤ N.length := by have := congrArg List.length S.pre; rw [List.length_take] at this; omega
  obtain ⟨h1, tk, rfl, hk⟩ := x.done
  have noA : ∀ b : Addr, b ∉ (cxOf CX P w K mg base N qual scope f cd A outer s H E).ex := fun b z => absurd (show b ∈ ([] : List Addr) from z) (by simp)
  refine ⟨⟨e0.mod, S.kind, rfl, rfl, Nat.le_refl _, fun y z c h1 h2 => ?_, fun y hy => ?_, fun y c _ h => ?_, fun _ => hd, Around.frames_deeper e0.frames, .inr ⟨rfl, rfl⟩, fun b z => absurd z (noA b), e0.bs, e0.bsz, fun b _ _ => noA b, fun b z => absurd z (noA b), e0.funs, e0.frf⟩,
    rfl, e0.bare, Un.kept hk, ⟨_, x.toInCall.ns, fun i y v h1 h2 h3 => ?_⟩, fun y c h => ⟨_, x.cell y c h⟩, e0.hok.fresh (Nat.le_refl _), fun y c h => ?_, fun p hp => absurd (show p ∈ ([] : List (Addr × Obj)) from hp) (by simp), e0.hok.kept hk, ?_⟩
  · exact name_of_addr x.apart (PySem.mem_of_lookup h1) (PySem.mem_of_lookup h2)
  · have hy : scope.names.lookup y = some .cell ∨ scope.names.lookup y = some .free := hy
    rcases hy with hy | hy
    · exact cell_has hy
    · exact absurd rfl (S.nofree _ (PySem.mem_of_lookup hy))
  · exact Nat.le_of_lt (x.above y c (PySem.mem_of_lookup h))
  · have hi : i < vs.length := by
      unfold start at h2
      by_cases hi : i < vs.length
      · exact hi
      · rw [List.getElem?_append_right (by simpa using hi)] at h2
        rw [List.getElem?_replicate] at h2
        split at h2 <;> cases h2
    have ha : vs[i]? = some v := by
      unfold start at h2
      rw [List.getElem?_append_left (by simpa using hi), List.getElem?_map] at h2
      cases e : vs[i]? with
      | none => rw [e] at h2; cases h2
      | some a => rw [e] at h2; cases h2; rfl
    obtain ⟨u, hu, rv⟩ := r.get ha
    have hp : ps[i]? = some y := by
      rw [← S.pre, List.getElem?_take_of_lt (by omega)]; exact h1
    have ndP : ps.Nodup := by rw [← S.pre]; exact S.nd.sublist (List.take_sublist _ _)
    refine ⟨u, rv, ?_⟩
    rcases S.par y (List.mem_of_getElem? hp) with k | k
    · exact .inl ⟨k, bindL_get ndP hp hu k⟩
    · obtain ⟨c, e⟩ := cell_has (n := s.heap.objs.size + 1) k
      refine .inr ⟨.inl k, c, e, ?_⟩
      have q := x.cell y c e
      rw [bindC_get ndP hp hu (by show scope.names.lookup y ≠ _; rw [k]; decide)] at q
      exact q
  · exact e0.hok.fresh (Nat.le_of_lt (x.above y c (PySem.mem_of_lookup h)))
  · unfold start
    show _ = N.length
    rw [List.length_append, List.length_map, List.length_replicate]
    omega

/-- THE RULE: a def (or a method) of the text, by its body. The body's reading t is chosen for each entry; it is run at the parameters' values -/
theorem fn_of {CX : CXT} {P : Program} {w : World} {K : PySem.W.Frag} {mg : Str → Option Value} {base : Heap} {k : Nat} {f : Addr} {name qual : Str} {params : Arguments} {body : List Stmt} {scope : Scope} {dV kV doc pm cdv ct oc : Value} {an od : Option Addr}
    {osl : Array (Option Value)} {N ps : List Str} {sp : Sp} (lk : K.lookup f = some ⟨oc, od, .func (PySem.W.fnOf name qual params body scope dV kV doc pm an cdv ct), osl⟩) (hcd : PySem.W.codeIn K cdv qual = true) (S : FnScope N ps scope)
    (len : ∀ vs H Q E, sp vs H Q E → vs.length = ps.length)
    (hbody : ∀ (A : Around) (outer : List Env) (s : Shared) (H : Hp) (vs : List V) (Q : VK) (E : XK), Room k (A.deeper (envOfC qual scope s.heap.objs.size f cdv)) → sp vs H Q E →
      ∃ t, PSs (cxOf CX P w K mg base N qual scope f cdv A outer s H E) body t ∧ t { nx := fun _ H' => Q .non H', rt := Q } (start N vs) H) :
    FnOk P w K mg base CX (k + 1) f (PySem.W.fnOf name qual params body scope dV kV doc pm an cdv ct) ps sp := by
  refine ⟨len, fun A outer s H args us vs Q E hr e0 hb r hsp => ?_⟩
  have hl := len _ _ _ _ hsp
  have KX : K.In s.heap := e0.mod.kin.keeps fun b o e => (e0.bs b o e).1
  have lim : s.heap.NoLimit := e0.mod.nolimit.keeps fun b o e => (e0.bs b o e).1
  have hkind : ∀ y ∈ ps.zip us, scope.names.lookup y.1 = some .local ∨ (scope.names.lookup y.1 = some .cell ∧ ((cellsFrom (s.heap.objs.size + 1) scope.names []).lookup y.1).isSome = true) := fun ⟨n, v⟩ hy => by
    rcases S.par n (List.of_mem_zip hy).1 with q | q
    · exact .inl q
    · exact .inr ⟨q, PySem.W.cellsFrom_some _ _ _ (.inl q)⟩
  refine codeAny_call_function hr.depth (KX _ _ lk) rfl S.co S.gen rfl (PySem.W.codeRec_of KX hcd) (hb _ _ _ _ ?_)
  refine wpAny_newFunctionEnv_cells S.kind hkind fun env he s1 x => ?_
  subst he
  refine ⟨lim.keeps x.toInCall.keep, codeAny_func ?_⟩
  obtain ⟨t, ht, hq⟩ := hbody A outer s H vs Q E (hr.deeper _) hsp
  have I : Inv (cxOf CX P w K mg base N qual scope f cdv A outer s H E) [] (start N vs) H s1 := inv_start S hr.hd e0 hl r x
  refine wpAny_mono (ht [] s1 (start N vs) H _ I hq) (fun fl s' hs => ?_) fun e s' hs => hs
  have fin : ∀ {σ' : St} {H' : Hp} {v : V} {u : Value}, Inv (cxOf CX P w K mg base N qual scope f cdv A outer s H E) [] σ' H' s' → RelV v u → Q v H' → CE outer P w H s Q u s' :=
    fun {σ' H' v u} J rv q => ⟨v, H', J.os, J.bare, J.base, J.hok, rv, q⟩
  cases fl with
  | ret u =>
    obtain ⟨v, σ', H', J, rv, q⟩ := hs
    exact fin J rv q
  | next =>
    obtain ⟨σ', H', J, q⟩ := hs
    exact fin (v := V.non) (u := Value.none) J rfl q
  | brk =>
    obtain ⟨_, _, _, q⟩ := hs
    exact False.elim q
  | cont =>
    obtain ⟨_, _, _, q⟩ := hs
    exact False.elim q
end L2

namespace L2
open PySem PySem.Spec PyProof.Rows
section
variable {X : Cx} {x : Str} {p pos : Pos} {e : Expr} {es : List Expr} {t : TA} {id T : String} {r : List V → Hp → VK → Prop}

noncomputable def tCB (r : List V → Hp → VK → Prop) (t : TA) : TE := fun σ H Q => t σ H fun vs H1 => r vs H1 Q
/-- f(e, ..), f a built-in function -/
theorem pe_callB (hc : CallR X (.builtin id) r) (hg : Gl X x) (hm : X.mg x = none) (hv : bootBuiltins x = some (.builtin id)) (ha : PA X (e :: es) t) (hn : x ≠ "__name__" := by decide) (hdb : (x == ("__debug__" : Str)) = false := by decide)
    (he : starEach (e :: es) X.env = (false, eval e X.env) :: starEach es X.env := by rfl) (hpl : (backTo pos (starEach es X.env)).any (·.1) = false := by rfl) : PE X (.Call (.Name x p) (e :: es) [] pos) (tCB r t) := by
  (try refine ⟨?_⟩); intro pins s σ H Q I h
  refine wpAny_Call_Name_kw (ld_blt I hg hm hv ?_ hn hdb)
  exact PyProof.Rows.callWith_builtin1 (thn (ha pos pins s σ H _ I h) fun us s1 ⟨vs, H1, I1, r1, q1⟩ => hc pins s1 σ H1 vs us Q I1 r1 q1) he hpl
/-- T(e, ..), T a built-in type -/
theorem pe_callTy (hc : CallR X (.type T) r) (hg : Gl X x) (hm : X.mg x = none) (hv : bootBuiltins x = some (.type T)) (ha : PA X (e :: es) t) (hn : x ≠ "__name__" := by decide) (hdb : (x == ("__debug__" : Str)) = false := by decide)
    (he : starEach (e :: es) X.env = (false, eval e X.env) :: starEach es X.env := by rfl) (hpl : (backTo pos (starEach es X.env)).any (·.1) = false := by rfl) : PE X (.Call (.Name x p) (e :: es) [] pos) (tCB r t) := by
  (try refine ⟨?_⟩); intro pins s σ H Q I h
  refine wpAny_Call_Name_kw (ld_blt I hg hm hv ?_ hn hdb)
  exact PyProof.Rows.callWith_type1 (thn (ha pos pins s σ H _ I h) fun us s1 ⟨vs, H1, I1, r1, q1⟩ => hc pins s1 σ H1 vs us Q I1 r1 q1) he hpl
end
end L2

namespace HT
open PySem PyProof.Rows

section
open PySem.SeqAt
open PySem.AutoSeq1 (wpAny_loadPart')
open PySem.MeetsSeq PySem.MeetsSeq2 PySem.MeetsSeq3

end

section
variable {prog : Program} {w : World} {A : Around} {E : Value → Shared → Prop} {s : Shared}

/-! ### t[a:b], not the whole -/
end
end HT

namespace L2
open PySem PySem.Spec PyProof.Rows

/-! ### the parts of a slice -/
section
variable {X : Cx} {e : Expr} {te : TE} {lo hi : Option Expr} {tl th : TO} {pos p2 : Pos}

/-! ### t < u, t + u -/
end
end L2

namespace L2
open PySem PySem.Spec PyProof.Rows

/-! ### places -/
/-- the place that an index of any sign means -/
noncomputable def ixN (n : Nat) (i : Int) : Option Nat := if 0 ≤ i then (if i < n then some i.toNat else none) else if -(n : Int) ≤ i then some (i + n).toNat else none
noncomputable def atI {α : Type} (xs : List α) (i : Int) : Option α := (ixN xs.length i).bind fun j => xs[j]?
theorem ixN_seq {n : Nat} {i : Int} {j : Nat} (h : ixN n i = some j) : seqIndex? i n = some j ∧ j < n ∧ -(n : Int) ≤ i ∧ i < n := by
  unfold ixN at h
  by_cases h0 : 0 ≤ i
  · rw [if_pos h0] at h
    by_cases h1 : i < n
    · rw [if_pos h1] at h
      have e : i.toNat = j := Option.some.inj h
      exact ⟨by rw [seqIndex_of h0 h1, e], by omega, by omega, h1⟩
    · rw [if_neg h1] at h; cases h
  · rw [if_neg h0] at h
    by_cases h1 : -(n : Int) ≤ i
    · rw [if_pos h1] at h
      have e : (i + n).toNat = j := Option.some.inj h
      exact ⟨by rw [seqIndex_neg (by omega) h1, e], by omega, h1, by omega⟩
    · rw [if_neg h1] at h; cases h
theorem atI_get {α : Type} {xs : List α} {i : Int} {v : α} (h : atI xs i = some v) : ∃ j, seqIndex? i xs.length = some j ∧ xs[j]? = some v ∧ j < xs.length ∧ -(xs.length : Int) ≤ i ∧ i < xs.length := by
  unfold atI at h
  cases e : ixN xs.length i with
  | none => rw [e] at h; cases h
  | some j =>
    rw [e] at h
    obtain ⟨h1, h2, h3, h4⟩ := ixN_seq e
    exact ⟨j, h1, h, h2, h3, h4⟩
theorem atI_nat {α : Type} {xs : List α} {j : Nat} {v : α} (h : xs[j]? = some v) : atI xs (j : Int) = some v := by
  have hj : j < xs.length := (List.getElem?_eq_some_iff.mp h).1
  have e : ixN xs.length (j : Int) = some j := by
    unfold ixN
    rw [if_pos (by omega), if_pos (by omega)]; simp
  unfold atI; rw [e]; exact h
/-! ### what may be subscripted -/
/-- what stands as an index of a plain subscript -/
noncomputable def PlainIx (b : Expr) : Prop := ∀ o i, subscripted b false o i = operate [o, i] (getItem o i)
/-- a subscript by values -/
noncomputable def IxR (X : Cx) (r : R2) : Prop :=
  ∀ (value slice : Expr) (pins : List (Addr × Obj)) (s : Shared) (σ : St) (H : Hp) (x y : V) (v u : Value) (Q : VK), Inv X pins σ H s → RelV x v → RelV y u → r x y H Q →
    subscripted slice false v u = operate [v, u] (getItem v u) → wpAny (model X.prog X.w) X.A (subscriptTail value slice v u) (EP X pins σ Q) X.xe s
section
variable {X : Cx} {a b : Expr} {ta tb : TE} {pos : Pos}
theorem IxR.or {r r' : R2} (h : IxR X r) (h' : IxR X r') : IxR X (fun x y H Q => r x y H Q ∨ r' x y H Q) := by
  intro value slice pins s σ H x y v u Q I rx ry q hs
  rcases q with q | q
  · exact h value slice pins s σ H x y v u Q I rx ry q hs
  · exact h' value slice pins s σ H x y v u Q I rx ry q hs
/-- a[b] -/
theorem pe_ix {r : R2} (hr : IxR X r) (ha : PE X a ta) (hb : PE X b tb) (hs : PlainIx b) : PE X (.Subscript a b pos) (tOp r ta tb) := by
  (try refine ⟨?_⟩); intro pins s σ H Q I h
  exact Subscript_ (binT ha hb I h fun v u s2 x y H2 I2 rx ry q => hr a b pins s2 σ H2 x y v u Q I2 rx ry q (hs _ _))

noncomputable def rIxL (K : PySem.W.Frag) : R2 := fun x y H Q => ∃ p xs i v, x = .ref p ∧ y = .int i ∧ SqL K H p xs ∧ atI xs i = some v ∧ Q v H
noncomputable def rIxT (K : PySem.W.Frag) : R2 := fun x y H Q => ∃ p xs i v, x = .ref p ∧ y = .int i ∧ SqT K H p xs ∧ atI xs i = some v ∧ Q v H
noncomputable def rIxS : R2 := fun x y H Q => ∃ z i c, x = .str z ∧ y = .int i ∧ z.length ≤ sizeLine ∧ atI z.cps.toList i = some c ∧ Q (.str ⟨#[c]⟩) H
theorem ix_list : IxR X (rIxL X.K) := by
  intro value slice pins s σ H x y v u Q I rx ry h hs
  obtain ⟨p, xs, i, z, rfl, rfl, hq, he, q⟩ := h
  cases rx
  obtain ⟨t, rfl⟩ := ry
  obtain ⟨its, r, pl, hz⟩ := I.list hq
  obtain ⟨j, h1, h2, h3, h4, h5⟩ := atI_get he
  obtain ⟨w, ew, rw'⟩ := r.get h2
  have hl := r.length
  have hn := line63
  have fin : EP X pins σ Q w s := ⟨z, H, I, rw', q⟩
  by_cases h0 : 0 ≤ i
  · have hj : i.toNat = j := by
      rw [seqIndex_of h0 h5] at h1
      exact Option.some.inj h1
    exact item_listR pl.isList h0 (by omega) (by rw [hj]; simpa using ew) fin hs
  · have hj : (i + (its.toArray.size : Int)).toNat = j := by
      rw [seqIndex_neg (by omega) h4] at h1
      rw [List.size_toArray, ← hl]
      exact Option.some.inj h1
    exact subscriptTail_builtinR (x := w) pl.isList.typeIs slot_list_getitem.lookup
      (wpAny_getItem_list_neg (Q := fun r s' => r = w ∧ EP X pins σ Q r s') pl.isList (by omega) (by rw [List.size_toArray] <;> omega) (by omega) (by rw [hj]; simpa using ew) ⟨rfl, fin⟩) hs
theorem ix_tup : IxR X (rIxT X.K) := by
  intro value slice pins s σ H x y v u Q I rx ry h hs
  obtain ⟨p, xs, i, z, rfl, rfl, hq, he, q⟩ := h
  cases rx
  obtain ⟨t, rfl⟩ := ry
  obtain ⟨its, r, pl, hz⟩ := I.tuple hq
  obtain ⟨j, h1, h2, h3, h4, h5⟩ := atI_get he
  obtain ⟨w, ew, rw'⟩ := r.get h2
  have hl := r.length
  have hn := line63
  have fin : EP X pins σ Q w s := ⟨z, H, I, rw', q⟩
  exact subscriptTail_builtinR (x := w) pl.typeIs slot_tuple_getitem.lookup
    (getItem_tuple (j := j) (Q := fun r s' => r = w ∧ EP X pins σ Q r s') pl (by omega) (by omega) (by rw [List.size_toArray, ← hl]; exact h1) (by simpa using ew) ⟨rfl, fin⟩) hs
theorem ix_str : IxR X rIxS := by
  intro value slice pins s σ H x y v u Q I rx ry h hs
  obtain ⟨z, i, c, rfl, rfl, hz, he, q⟩ := h
  obtain ⟨t, rfl⟩ := rx
  obtain ⟨t', rfl⟩ := ry
  obtain ⟨j, h1, h2, h3, h4, h5⟩ := atI_get he
  have hl : z.cps.toList.length = z.length := by simp [Str.length]
  rw [hl] at h1 h4 h5
  have hn := line63
  exact tail_any (typeIs_str s z t) slot_str_getitem.lookup (getItem_str (c := c) (by
    have e1 : decide (i < -(2 ^ 63 : Int)) = false := decide_eq_false (by omega)
    have e2 : decide (i ≥ 2 ^ 63) = false := decide_eq_false (by omega)
    rw [e1, e2, Bool.or_false]) (by rw [h1]; simpa using h2) ⟨.str ⟨#[c]⟩, H, I.tok _, ⟨_, rfl⟩, q⟩) hs
/-- list, tuple or str -/
noncomputable def rIx (K : PySem.W.Frag) : R2 := fun x y H Q => rIxL K x y H Q ∨ rIxT K x y H Q ∨ rIxS x y H Q
theorem ix_seq : IxR X (rIx X.K) := ix_list.or (ix_tup.or ix_str)

/-! ### xs[i] = v, any sign -/
/-- the list's object behind a store -/
theorem mapSeq_set (its : List Value) (n j : Nat) (u : Value) : Obj.mapSeq (·.setIfInBounds j u) { cls := .type "list", data := .seq its.toArray n } = { cls := .type "list", data := .seq (its.set j u).toArray n } := by
  simp [Obj.mapSeq]
theorem Inv.lst {pins : List (Addr × Obj)} {σ : St} {H : Hp} {s : Shared} {p : Addr} {xs : List V} (I : Inv X pins σ H s) (h : H p = some (.lst xs)) :
    ∃ (its : List Value) (n : Nat), Vals xs its ∧ s.heap.get? p = some { cls := .type "list", data := .seq its.toArray n } ∧ xs.length ≤ sizeLine := by
  obtain ⟨z, its, n, r, e⟩ := I.hok p _ h
  exact ⟨its, n, r, e, z⟩
/-- the list at p is written by an update of its object -/
theorem Inv.lstUpd {pins : List (Addr × Obj)} {σ : St} {H : Hp} {s : Shared} {p : Addr} {xs ys : List V} {its its' : List Value} {n n' : Nat} {f : Obj → Obj} (I : Inv X pins σ H s) (h : H p = some (.lst xs))
    (ho : s.heap.get? p = some { cls := .type "list", data := .seq its.toArray n }) (hf : f { cls := .type "list", data := .seq its.toArray n } = { cls := .type "list", data := .seq its'.toArray n' }) (r : Vals ys its') (hz : ys.length ≤ sizeLine) (t : Nat) :
    Inv X pins σ (upd H p (.lst ys)) { s with heap := s.heap.update p f, toks := t } := by
  have e : (s.heap.update p f).get? p = some { cls := .type "list", data := .seq its'.toArray n' } := by
    rw [Heap.get?_update_self f ho (by rw [hf] <;> rfl), hf]
  refine I.write (x := p) (e := p) (by rw [h]; trivial) (.inl rfl) (fun b u hb q => (Heap.get?_update_other _ _ (Ne.symm hb)).trans q) ⟨_, e⟩ ?_
  exact ⟨hz, its', n', r, e⟩
noncomputable def rSetL : V → V → V → Hp → (Hp → Prop) → Prop := fun o i v H Q => ∃ p xs k j, o = .ref p ∧ i = .int k ∧ H p = some (.lst xs) ∧ ixN xs.length k = some j ∧ Q (upd H p (.lst (xs.set j v)))
theorem set_list : PSet X rSetL := by
  (try refine ⟨?_⟩); intro pins s σ H o i v ov iv u Q I ro ri rv h
  obtain ⟨p, xs, k, j, rfl, rfl, hp, hj, q⟩ := h
  cases ro
  obtain ⟨t, rfl⟩ := ri
  obtain ⟨its, n, r, ho, hz⟩ := I.lst hp
  obtain ⟨h1, h2, h3, h4⟩ := ixN_seq hj
  have hl := r.length
  have hn := line63
  have I' : Inv X pins σ (upd H p (.lst (xs.set j v))) { s with heap := s.heap.update p (Obj.mapSeq (·.setIfInBounds j u)) } :=
    I.lstUpd hp ho (mapSeq_set its n j u) (r.set rv j) (by rw [List.length_set]; exact hz) s.toks
  by_cases h0 : 0 ≤ k
  · have hk : k.toNat = j := by
      rw [seqIndex_of h0 h4] at h1
      exact Option.some.inj h1
    exact PySem.W.ki_setAt ho h0 (by omega) (by rw [List.size_toArray, ← hl]; exact h4) (by rw [hk]; exact ⟨_, I', q⟩)
  · have hk : (k + (its.toArray.size : Int)).toNat = j := by
      rw [seqIndex_neg (by omega) h3] at h1
      rw [List.size_toArray, ← hl]
      exact Option.some.inj h1
    exact PySem.W.ki_setBack ho (by omega) (by rw [List.size_toArray, ← hl]; exact h3) (by omega) (by rw [hk]; exact ⟨_, I', q⟩)

/-! ### slices -/
/-! ### in, not in: flat items -/
/-! ### len, list(x), tuple(x) of any list or tuple that is read -/
theorem call_len_seq : CallR X (.builtin "len") (fun xs H Q => ∃ p ys, xs = [.ref p] ∧ (SqL X.K H p ys ∨ SqT X.K H p ys) ∧ Q (.int ys.length) H) := by
  (try refine ⟨?_⟩); intro pins s σ H xs us Q I r h
  obtain ⟨p, ys, rfl, hq, q⟩ := h
  obtain ⟨u, rfl, rx⟩ := vals1 r
  cases rx
  have hn := line63
  rcases hq with hq | hq
  · obtain ⟨its, r', pl, hz⟩ := I.list hq
    have hlen := r'.length
    exact Calls.call_len_list pl.isList (by simp only [List.size_toArray] <;> omega) ⟨.int ys.length, H, I.tok _, ⟨s.toks + 1, by rw [List.size_toArray, hlen]⟩, q⟩
  · obtain ⟨its, r', pl, hz⟩ := I.tuple hq
    have hlen := r'.length
    exact len_tuple pl (by simp only [List.size_toArray] <;> omega) ⟨.int ys.length, H, I.tok _, ⟨s.toks + 1, by rw [List.size_toArray, hlen]⟩, q⟩
/-! ### the call of a builtin's method: o.m(..) -/
variable {o e : Expr} {es : List Expr} {to : TE} {t : TA} {name : Str} {apos cpos : Pos} {T id : String} {r : V → List V → Hp → VK → Prop}
/- xs.append(e), list.index on a module's tuple .. are MtR facts of 06m -/
end
end L2

namespace L2
open PySem PySem.Spec PyProof.Rows

noncomputable def MtM (X : Cx) (id : String) (r : V → List V → Hp → VK → Prop) : Prop :=
  ∀ (pins : List (Addr × Obj)) (s : Shared) (σ : St) (H : Hp) (x : V) (xs : List V) (v : Value) (us : List Value) (Q : VK), Inv X pins σ H s → RelV x v → Vals xs us → r x xs H Q →
    wpAny (model X.prog X.w) X.A (call (.builtin id) (v :: us)) (EP X pins σ Q) X.xe s

/-! ### lists of values -/
theorem Vals.one : ∀ {x : V} {us : List Value}, Vals [x] us → ∃ u, us = [u] ∧ RelV x u
  | _, _, .cons r .nil => ⟨_, rfl, r⟩
section
variable {X : Cx} {pins : List (Addr × Obj)} {σ : St} {H : Hp} {s : Shared} {l b : Addr} {xs ys zs : List V}

/-! ### the two steps: a tracked list is rewritten, a new list is laid -/
theorem Inv.lset {its its' : List Value} {n : Nat} {f : Array Value → Array Value} {t' : Nat} (I : Inv X pins σ H s) (hH : H l = some (.lst xs))
    (e : s.heap.get? l = some { cls := .type "list", data := .seq its.toArray n }) (hf : f its.toArray = its'.toArray) (hv : Vals ys its') (hz : ys.length ≤ sizeLine) :
    Inv X pins σ (upd H l (.lst ys)) { s with heap := s.heap.update l (Obj.mapSeq f), toks := t' } := by
  have q := PySem.IsL.update e f
  rw [hf] at q
  refine I.write (x := l) (e := l) (by rw [hH]; exact trivial) (.inl rfl) (fun b' u hb hu => (Heap.get?_update_other s.heap (Obj.mapSeq f) (Ne.symm hb)).trans hu) ⟨_, q⟩ ?_
  exact ⟨hz, its', _, hv, q⟩
theorem Inv.lnew {its : List Value} {t' : Nat} (I : Inv X pins σ H s) (hv : Vals ys its) (hz : ys.length ≤ sizeLine) :
    Inv X pins σ (upd H s.heap.objs.size (.lst ys)) { s with heap := s.heap.push { cls := .type "list", data := .seq its.toArray }, toks := t' } :=
  I.laid (fun _ _ q => Heap.get?_push_of_some _ q) (Nat.le_refl _) ⟨hz, its, 0, hv, Heap.get?_push_size _ rfl⟩
theorem Inv.fresh (I : Inv X pins σ H s) : H s.heap.objs.size = none := I.hok.fresh (Nat.le_refl _)
theorem Inv.lstM (I : Inv X pins σ H s) (hH : H l = some (.lst xs)) : xs.length ≤ sizeLine ∧ ∃ (its : List Value) (n : Nat), Vals xs its ∧ xs.length = its.length ∧ s.heap.get? l = some { cls := .type "list", data := .seq its.toArray n } := by
  obtain ⟨z, its, n, r, e⟩ := I.hok l _ hH
  exact ⟨z, its, n, r, r.length, e⟩

theorem notLongL {n : Nat} (h : n ≤ sizeLine) : Builtin.List.listTooLong n = false := by
  unfold Builtin.List.listTooLong
  exact decide_eq_false (by omega)
end

section
variable {X : Cx}

/-! ### methods -/
noncomputable def rExtend : V → List V → Hp → VK → Prop := fun x vs H Q => ∃ l b xs zs, x = .ref l ∧ vs = [.ref b] ∧ H l = some (.lst xs) ∧ H b = some (.lst zs) ∧ xs.length + zs.length ≤ sizeLine ∧ Q .non (upd H l (.lst (xs ++ zs)))
theorem mt_extend : MtM X "list.extend" rExtend := by
  (try refine ⟨?_⟩); intro pins s σ H x vs v us Q I rx rv h
  obtain ⟨l, b, xs, zs, rfl, rfl, hH, hB, hz, q⟩ := h
  cases rx
  obtain ⟨u, rfl, ru⟩ := rv.one
  cases ru
  obtain ⟨z, its, n, r, hl, e⟩ := I.lstM hH
  obtain ⟨z2, its2, n2, r2, hl2, e2⟩ := I.lstM hB
  have hsz : its.toArray.size + its2.toArray.size ≤ sizeLine := by rw [List.size_toArray, List.size_toArray]; omega
  have hlong : ¬ (!its.toArray.isEmpty && Builtin.List.listTooLong (its.toArray.size + its2.toArray.size)) = true := by
    rw [notLongL hsz, Bool.and_false]
    exact Bool.false_ne_true
  refine call_meets F.slot_list_extend ⟨_, e, rfl⟩ F.entry_list_extend (F.args_list_extend_2 _ _)
    (AutoSeq1.list_extend_list_list_0 l its.toArray n b its2.toArray n2 hlong (by rw [List.size_toArray]; omega) (by omega)) ⟨e, e2, ?_⟩
  refine ⟨.non, _, I.lset (its' := its ++ its2) hH e (by simp) (r.append r2) ?_, rfl, q⟩
  rw [List.length_append]
  omega

/-! ### list + list, list += list, list * int -/
noncomputable def rCat : R2 := fun x y H Q => ∃ l b xs zs, x = .ref l ∧ y = .ref b ∧ H l = some (.lst xs) ∧ H b = some (.lst zs) ∧ xs.length + zs.length ≤ sizeLine ∧ ∀ p, H p = none → Q (.ref p) (upd H p (.lst (xs ++ zs)))
theorem op_cat : OpR X (binaryOp .Add) rCat := by
  (try refine ⟨?_⟩); intro pins s σ H x y v u Q I rx ry h
  obtain ⟨l, b, xs, zs, rfl, rfl, hH, hB, hz, q⟩ := h
  cases rx
  cases ry
  obtain ⟨z, its, n, r, hl, e⟩ := I.lstM hH
  obtain ⟨z2, its2, n2, r2, hl2, e2⟩ := I.lstM hB
  refine PySem.P.add_list e e2 ?_ (by rw [List.size_toArray, List.size_toArray]; omega)
  have ea : its.toArray ++ its2.toArray = (its ++ its2).toArray := by simp
  rw [ea]
  exact ⟨.ref _, _, I.lnew (t' := s.toks) (r.append r2) (by rw [List.length_append]; omega), rfl, q _ I.fresh⟩
/-! ### del xs[i] -/
end

/-! ### xs[a:b] = ys -/
section
variable {prog : Program} {w : World} {A : Around} {E : Value → Shared → Prop} {s : Shared}
end

section
variable {X : Cx}
end
end L2

namespace Att
open PySem PySem.W PySem.Calls PyProof.Rows

/-! ### the script -/
theorem ints_of_wellAll {P : Params} {h : Heap} : ∀ (ns : List Int) (vs : List Value), WellAll P h vs (ns.map WData.int) → IntsAre vs ns := by
  intro ns
  induction ns with
  | nil =>
    intro vs w
    rw [List.map_nil] at w
    cases w
    exact .nil
  | cons n ns ih =>
    intro vs w
    rw [List.map_cons] at w
    cases w with
    | cons a b =>
      cases a
      exact .cons _ _ (ih _ b)

theorem script_of {l : OpenLaw} {n : Nat} (hn : l.most = some n) {P : Params} {h : Heap} {args : List WData} {vals : List Value}
    (hpre : l.row.toRowW.claim.pre args = true) (hwl : WellAll P h vals args) :
    ∃ a vs ns, vals = [Value.ref a] ∧ args = [WData.list (ns.map WData.int)] ∧ h.get? a = some { cls := .type "list", data := .seq vs.toArray } ∧ IntsAre vs ns ∧ ns.length ≤ n := by
  have hsh : WShape.hasAll [] args [.list .int] = true := (pre_splitW hpre).1
  have hc : l.pre.holds [] { args := args } = true := (pre_splitW hpre).2
  obtain ⟨d, r, rfl, h1, h2⟩ := hasAllW_cons hsh
  obtain rfl := hasAllW_nil h2
  obtain ⟨xs, rfl, h3⟩ := hasW_list h1
  obtain ⟨ns, rfl⟩ := items_int h3
  have hlen : ns.length ≤ n := by
    unfold OpenLaw.pre at hc
    have h4 : (WTm.not (.lt (.lit (.int (n : Int))) (.len (.arg 0)))).holds [] { args := [.list (ns.map .int)] } = true := by
      have h4 := (holds_andW hc).1
      rw [hn] at h4
      exact h4
    have h5 := condW_of h4 (w_not (w_lt w_lit (w_len_list (w_arg rfl))))
    rw [List.length_map] at h5
    refine Nat.le_of_not_lt fun q => ?_
    have q' : (n : Int) < ((ns.length : Nat) : Int) := by omega
    first
      | (rw [decide_eq_true q'] at h5; exact absurd h5 (by decide))
      | (simp at h5; omega)
  cases hwl with
  | cons w1 w2 =>
    cases w2
    cases w1 with
    | list ho hall => exact ⟨_, _, ns, rfl, rfl, ho, ints_of_wellAll ns _ hall, hlen⟩

theorem post_true (l : OpenLaw) (args : List WData) : l.row.toRowW.claim.post args (.bool true) args = true :=
  postW_of (r := l.row.toRowW) (X := (true == true))
    (show WShape.has [] (.bool true) .bool = true by first | rfl | decide | simp [WShape.has, WShape.arms, WShape.armsAll])
    (show (WTm.eq .res (.lit (.bool true))).value [] { args := args, res := some (.bool true), after := args } = some (.bool (true == true)) from w_eq_bool (w_res rfl) w_lit) rfl

/-! ### the attachment: holds_open's last premise (the goal 'hc' behind k_head) from a wpAny of the law's body -/
/-- the same from a codeAny of the CALL (for a layer whose function contracts speak of calls) -/
theorem attach_call {l : OpenLaw} {n : Nat} {q : Program} {loose : List Str} {XP : (Str → Option Value) → Heap → Prop} {YP : World → Heap → Prop} {d : DefRec}
    (hn : l.most = some n) (hdf : d.params.defaults = [])
    (call : ∀ (w : World) (s₀ s₁ : Shared) (mg mb : Str → Option Value) (fa : Addr) (o : Obj) (pm cd doc : Value) (a : Addr) (vs : List Value) (ns : List Int),
      Ground q loose [] XP w s₀ mg mb s₁.heap → YP w s₁.heap →
      s₁.heap.get? fa = some o → o.data = .func (docDef d.name d.params d.body d.scope pm cd doc) → s₁.heap.CodeRec cd d.name → mg d.name = some (.ref fa) →
      s₁.heap.get? a = some { cls := .type "list", data := .seq vs.toArray } → IntsAre vs ns → ns.length ≤ n → s₁.gens = #[] →
      codeAny (model l.prog w) callerA (.call (.ref fa) ⟨[.ref a], []⟩) (fun r s' => r = .ok (.ret (.bool true)) ∧ OldK s₁.heap s'.heap ∧ s'.os = s₁.os ∧ AllBare s'.gens) s₁) :
    WalkO q loose XP YP l.row.toRowW d [] (fun f vs => PySem.call f vs) := by
  intro w s₀ s₁ mg mb G Y fa o pm cd doc dV kV ho hd hcd hD hmg hg args vals as hpre hlay hrd hwl hlo
  obtain rfl : dV = .none := Dflts.none hD hdf
  obtain rfl : kV = .none := Dflts.noKw hD
  obtain ⟨a, vs, ns, rfl, rfl, hobj, hints, hlen⟩ := script_of hn hpre hwl
  refine enter_call (codeAny_mono (call w s₀ s₁ mg mb fa o pm cd doc a vs ns G Y ho (fd_plain hd) hcd hmg hobj hints hlen hg) fun r s' hq => ?_)
  obtain ⟨rfl, h2, h3, h4⟩ := hq
  exact ⟨.inl ⟨.bool true, .bool true, [], rfl, fun _ => rfl, .bool true, post_true l _, fun _ => ⟨List.Pairwise.nil, fun _ hm => (nomatch hm)⟩⟩, h2, h3, h4⟩

/-! ### rules over ANY heap (no ledger) from facts about the written part K: the library's own take a ledger (News) for what they write -/
section
variable {prog : Program} {w : World} {A : Around} {E : Value → Shared → Prop} {s : Shared} {K : Frag}

/-! the whole heap as the ledger: makes every rule that writes through a ledger a rule over any heap -/
end
end Att

namespace L2
open PySem PySem.Spec PyProof.Rows

theorem vals_ints : ∀ {vs : List Value} {ns : List Int}, IntsAre vs ns → Vals (ns.map V.int) vs
  | _, _, .nil => .nil
  | _, _, .cons n t h => .cons ⟨t, rfl⟩ (vals_ints h)

/-- nothing is tracked but the script, known to the object (or it is an object of the module) -/
noncomputable def Only (H : Hp) : Prop := ∀ b, H b = none ∨ ∃ o xs, H b = some (.frz o (.lst xs))

/-- THE HEAD: the law's promise, at the heap behind the top. F, the promise of the law's def, may use that base is part of the heap (so K.In base, base.Ns mainGlobals mg stand in Mod) -/
theorem law_call {P : Program} {w : World} {K : PySem.W.Frag} {mg mb : Str → Option Value} {CX : CXT} {k : Nat} {fa a : Addr} {fd : FuncData} {x : Str} {sp : Sp} {s₁ : Shared} {vs : List Value} {ns : List Int}
    (KX : K.In s₁.heap) (hns : s₁.heap.Ns mainGlobals mg) (hb : s₁.heap.Ns builtinsNs mb) (hbb : ∀ x : Str, x ≠ "__name__" → mb x = bootBuiltins x) (hlim : s₁.heap.NoLimit) (hg : s₁.gens = #[])
    (ha : s₁.heap.get? a = some { cls := .type "list", data := .seq vs.toArray }) (hi : IntsAre vs ns) (hl : ns.length ≤ sizeLine) (hr : Room k callerA)
    (F : ∀ base : Heap, K.In base → base.Ns mainGlobals mg → FnOk P w K mg base CX k fa fd [x] sp) (hbind : ∀ (s : Shared) (u : Value), BindsTo s fd ⟨[u], []⟩ [(x, u)])
    (hsp : ∀ H : Hp, Only H → SqL K H a (ns.map V.int) → sp [.ref a] H (fun v _ => v = .bl true) fun _ _ _ => False)
    (hCX : ∀ H e s', CX [] H s₁ (fun _ _ _ => False) e s' → False) :
    codeAny (model P w) callerA (.call (.ref fa) ⟨[.ref a], []⟩) (fun r s' => r = .ok (.ret (.bool true)) ∧ OldK s₁.heap s'.heap ∧ s'.os = s₁.os ∧ AllBare s'.gens) s₁ := by
  have rv := vals_ints hi
  have lenV := hi.length
  -- from an abstract heap in which nothing but the script may be tracked
  have core : ∀ H : Hp, Only H → SqL K H a (ns.map V.int) → HOk P w H s₁.heap → (∀ b, H b ≠ none → b = a) → (H a ≠ none → K.lookup a = none) →
      codeAny (model P w) callerA (.call (.ref fa) ⟨[.ref a], []⟩) (fun r s' => r = .ok (.ret (.bool true)) ∧ OldK s₁.heap s'.heap ∧ s'.os = s₁.os ∧ AllBare s'.gens) s₁ := by
    intro H hO hS hok hA hK
    have base_of : ∀ {b : Addr} {o : Obj}, s₁.heap.get? b = some o → H b = none → (hidT s₁.heap H).get? b = some o := fun e n => hidT_get e n
    have noA : ∀ {b : Addr} {o : Obj} {es : Array DictEntry} {ep : Nat}, s₁.heap.get? b = some o → o.data = .dict es ep → H b = none := fun {b o es ep} e d => by
      cases q : H b with
      | none => rfl
      | some u =>
        have e' : b = a := hA b (by rw [q]; simp)
        subst e'
        rw [ha] at e; cases e
        have d' : Data.seq vs.toArray _ = Data.dict es ep := d
        cases d'
    have nsK : ∀ {b : Addr} {m : Str → Option Value}, s₁.heap.Ns b m → (hidT s₁.heap H).Ns b m := fun {b m} ⟨o, es, ep, e, d, r⟩ => ⟨o, es, ep, base_of e (noA e d), d, r⟩
    have hKb : K.In (hidT s₁.heap H) := fun b o e => base_of (KX b o e) (by
      cases q : H b with
      | none => rfl
      | some u =>
        have e' : b = a := hA b (by rw [q]; simp)
        subst e'
        rw [hK (by rw [q]; simp)] at e; cases e)
    have hM : Mod K mg (hidT s₁.heap H) := ⟨hKb, nsK hns, ⟨mb, nsK hb, hbb⟩, let ⟨mc, h1, h2⟩ := hlim; ⟨mc, nsK h1, h2⟩⟩
    have e0 : Env0 P w K mg (hidT s₁.heap H) callerA [] s₁ H := ⟨rfl, hM, fun b o e => of_hidT e, Nat.le_of_eq (hidT_size _ _), trivial, fun b hb => absurd (show b ∈ ([] : List Addr) from hb) (by simp), hok, .of_eq hg⟩
    refine codeAny_mono ((F _ hKb (nsK hns)).run callerA [] s₁ H ⟨[.ref a], []⟩ [.ref a] [.ref a] _ _ hr e0 (hbind s₁ (.ref a)) (.cons rfl .nil) (hsp H hO hS)) fun r s' h => ?_
    cases r with
    | error e => exact (hCX H e s' h).elim
    | ok fl =>
      cases fl with
      | next => exact False.elim h
      | brk => exact False.elim h
      | cont => exact False.elim h
      | ret u =>
        obtain ⟨v, H', os, bare, un, hok', r', q⟩ := h
        have q' : v = .bl true := q
        subst q'
        obtain rfl : u = Value.bool true := r'
        refine ⟨rfl, OldK.of_keep fun b o e => ?_, os, bare⟩
        cases q : H b with
        | none => exact un.keep b o e q (by intro z; exact absurd (show b ∈ ([] : List Addr) from z) (by simp)) (by simp)
        | some u =>
          rcases hO b with z | ⟨ob, xs, z⟩
          · rw [q] at z; cases z
          · have z2 := un.frzs b ob _ z
            obtain ⟨e1, _⟩ := hok b _ z
            obtain ⟨e2, _⟩ := hok' b _ z2
            rw [e] at e1; cases e1
            exact e2
  cases hk : K.lookup a with
  | some o =>
    -- the script is one of the module's own objects
    have e := KX a o hk
    rw [ha] at e
    cases e
    refine core (fun _ => none) (fun _ => .inl rfl) (.inr ⟨_, vs.toArray, _, hk, rfl, rfl, rfl, by rw [List.size_toArray, lenV]; exact hl, by simpa using rv⟩) (fun b u z => by have z' : (none : Option HO) = some u := z; cases z') (fun b z => absurd rfl z) fun z => absurd rfl z
  | none =>
    refine core (fun b => if b = a then some (.frz { cls := .type "list", data := .seq vs.toArray } (.lst (ns.map V.int))) else none) (fun b => ?_) (.inl (.inr ⟨{ cls := .type "list", data := .seq vs.toArray }, if_pos rfl⟩)) (fun b u z => ?_) (fun b z => ?_) fun _ => hk
    · by_cases hb : b = a
      · exact .inr ⟨_, _, if_pos hb⟩
      · exact .inl (if_neg hb)
    · by_cases hb : b = a
      · have z' := (if_pos hb).symm.trans z
        cases z'
        subst hb
        exact ⟨ha, by rw [List.length_map]; exact hl, vs, _, rv, ha⟩
      · have z' := (if_neg hb).symm.trans z
        cases z'
    · by_cases hb : b = a
      · exact hb
      · exact absurd (if_neg hb) z
end L2

namespace L2
open PySem PySem.Spec PyProof.Rows

/-- the goal that k_head leaves (case hc), from the law's promise. F gives the function object fd (K's own) once, then the promise over every base -/
theorem walk_of {l : PySem.W.OpenLaw} {n k : Nat} {q : Program} {loose : List Str} {XP : (Str → Option Value) → Heap → Prop} {YP : World → Heap → Prop} {d : DefRec} {K : Params → PySem.W.Frag} {CX : World → CXT} {sp : World → Sp} {x : Str}
    (hn : l.most = some n) (hn2 : n ≤ sizeLine) (hdf : d.params.defaults = []) (hr : Room k callerA)
    (hY : ∀ (w : World) (h : Heap), YP w h → (K w.params).In h)
    (F : ∀ (w : World) (mg : Str → Option Value) (fa : Addr) (h : Heap), (K w.params).In h → h.Ns mainGlobals mg → mg d.name = some (.ref fa) →
      ∃ fd : FuncData, (∀ (s : Shared) (u : Value), BindsTo s fd ⟨[u], []⟩ [(x, u)]) ∧
        ∀ base : Heap, (K w.params).In base → base.Ns mainGlobals mg → FnOk l.prog w (K w.params) mg base (CX w) k fa fd [x] (sp w))
    (hsp : ∀ (w : World) (H : Hp) (a : Addr) (ns : List Int), ns.length ≤ n → Only H → SqL (K w.params) H a (ns.map V.int) → sp w [.ref a] H (fun v _ => v = .bl true) fun _ _ _ => False)
    (hCX : ∀ (w : World) (H : Hp) (s : Shared) (e : Value) (s' : Shared), CX w [] H s (fun _ _ _ => False) e s' → False) :
    PySem.W.WalkO q loose XP YP l.row.toRowW d [] (fun f vs => PySem.call f vs) := by
  refine Att.attach_call hn hdf fun w s₀ s₁ mg mb fa o pm cd doc a vs ns G Y ho hd hcd hmg hobj hints hlen hg => ?_
  have KX := hY w _ Y
  obtain ⟨fd, hb, hF⟩ := F w mg fa _ KX G.T.g hmg
  exact law_call KX G.T.g G.T.b G.T.builtins G.T.nolimit hg hobj hints (Nat.le_trans hlen hn2) hr hF hb (fun H hO hS => hsp w H a ns hlen hO hS) fun H e s' => hCX w H s₁ e s'
end L2

/- THE LAST THEOREM (shape; LID, My.* are yours):
   My.Adr: a structure of the addresses that your layer names (classes, functions); My.Txt K t: a structure (Prop) of the equations over K;
   My.txt_mk : {K} {implicit addresses ..} (e1 : nsIn K mainGlobals "law" = some (some (.ref f))) (e2 : K.lookup f = some ⟨oc, od, .func (fnOf "law" "law" params body scope dV kV doc pm an cdv ct), sl⟩) (e3 : codeIn K cdv "law" = true) .. : ∃ t, My.Txt K t

(the tactic k_is has no namespace: write k_is) -/

/-! SHORT WORDS over the layer: a def of the text, its body, what a loop and a test want. -/
namespace L2
open PySem PySem.Spec PyProof.Rows

/-! ### the text by places -/
noncomputable def defArgs (s : Stmt) : Arguments := match s with
  | .FunctionDef _ a _ _ _ _ _ _ _ _ => a
  | _ => { posonlyargs := [], args := [], vararg := none, kwonlyargs := [], kw_defaults := [], kwarg := none, defaults := [] }
noncomputable def defBody (s : Stmt) : List Stmt := match s with
  | .FunctionDef _ _ b _ _ _ _ _ _ _ => b
  | _ => []
noncomputable def defScope (s : Stmt) : Scope := match s with
  | .FunctionDef _ _ _ _ _ _ sc _ _ _ => sc
  | _ => { kind := .function, names := [], isGenerator := false, isCoroutine := false }

/-! ### no exception leaves a def -/
noncomputable abbrev CX0 : CXT := fun _ _ _ _ _ _ => False
noncomputable abbrev E0 : XK := fun _ _ _ => False
theorem pass0 {X : Cx} : Passes CX0 X E0 := fun _ _ _ _ _ _ _ h => h.elim

/-! ### a def (or method) of the text as it stands behind the top -/
structure Fun (K : PySem.W.Frag) (x qual : Str) (st : Stmt) (f : Addr) (fd : FuncData) : Prop where
  ex : ∃ (oc : Value) (od : Option Addr) (kV doc pm : Value) (an : Option Addr) (cdv ct : Value) (osl : Array (Option Value)),
    fd = PySem.W.fnOf x qual (defArgs st) (defBody st) (defScope st) .none kV doc pm an cdv ct ∧ K.lookup f = some ⟨oc, od, .func fd, osl⟩ ∧ PySem.W.codeIn K cdv qual = true
  kp : PySem.W.keepIn K (.ref f) = true
section
variable {P : Program} {w : World} {K : PySem.W.Frag} {mg : Str → Option Value} {base : Heap}
/-- THE RULE for a def: its body as a term of rules, and the reading of that term -/
theorem Fun.ok {x qual : Str} {st : Stmt} {f : Addr} {fd : FuncData} {N ps : List Str} {k : Nat} {sp : Sp} (F : Fun K x qual st f fd) (S : FnScope N ps (defScope st)) (len : ∀ vs H Q E, sp vs H Q E → vs.length = ps.length)
    (hbody : ∀ (cdv : Value) (A : Around) (outer : List Env) (s : Shared) (H : Hp) (vs : List V) (Q : VK) (E : XK), Room k (A.deeper (envOfC qual (defScope st) s.heap.objs.size f cdv)) → sp vs H Q E →
      ∃ t, PSs (cxOf CX0 P w K mg base N qual (defScope st) f cdv A outer s H E).nox (defBody st) t ∧ t { nx := fun _ H' => Q .non H', rt := Q } (start N vs) H) : FnOk P w K mg base CX0 (k + 1) f fd ps sp := by
  obtain ⟨oc, od, kV, doc, pm, an, cdv, ct, osl, rfl, lk, hcd⟩ := F.ex
  refine fn_of lk hcd S len fun A outer s H vs Q E hr hsp => ?_
  obtain ⟨t, h, q⟩ := hbody cdv A outer s H vs Q E hr hsp
  exact ⟨t, h.nox, q⟩
/-- how its arguments bind (no defaults): h is «fun _ _ _ _ _ _ us hl => match us, hl with | [_, _], _ => rfl», one _ a parameter -/
theorem Fun.binds {x qual : Str} {st : Stmt} {f : Addr} {fd : FuncData} {ps : List Str} (F : Fun K x qual st f fd)
    (h : ∀ (kV doc pm : Value) (an : Option Addr) (cdv ct : Value) (us : List Value), us.length = ps.length → bindArgs (PySem.W.fnOf x qual (defArgs st) (defBody st) (defScope st) .none kV doc pm an cdv ct) ⟨us, []⟩ = pure (ps.zip us)) : Binds K fd ps [] := by
  obtain ⟨oc, od, kV, doc, pm, an, cdv, ct, osl, rfl, lk, hcd⟩ := F.ex
  exact .all (h kV doc pm an cdv ct)
theorem fun_mk {x qual : Str} {st : Stmt} {f : Addr} {oc : Value} {od an : Option Addr} {osl : Array (Option Value)} {kV doc pm cdv ct : Value} (l : K.lookup f = some ⟨oc, od, .func (PySem.W.fnOf x qual (defArgs st) (defBody st) (defScope st) .none kV doc pm an cdv ct), osl⟩)
    (c : PySem.W.codeIn K cdv qual = true) (k : PySem.W.keepIn K (.ref f) = true) : Fun K x qual st f (PySem.W.fnOf x qual (defArgs st) (defBody st) (defScope st) .none kV doc pm an cdv ct) := ⟨⟨oc, od, kV, doc, pm, an, cdv, ct, osl, rfl, l, c⟩, k⟩
end
theorem small1000 {n : Nat} (h : n ≤ 1000) : n < sizeLine := Nat.lt_of_le_of_lt h (by decide)

/-! ### expressions in short: the name that stands in the i-th slot -/
section
variable {X : Cx}
end

/-! ### tests -/
theorem ite2 {c A B : Prop} [Decidable c] (h1 : c → A) (h2 : ¬ c → B) : if c then A else B := by
  by_cases h : c
  · rw [if_pos h]
    exact h1 h
  · rw [if_neg h]
    exact h2 h
/-! ### heaps -/
/-- all that was tracked is as it was -/
noncomputable def Same (H H' : Hp) : Prop := ∀ b o, H b = some o → H' b = some o
theorem Same.refl (H : Hp) : Same H H := fun _ _ h => h
theorem Same.trans {H H1 H2 : Hp} (a : Same H H1) (b : Same H1 H2) : Same H H2 := fun c o h => b c o (a c o h)
end L2

set_option Elab.async false
set_option linter.all false
set_option maxRecDepth 100000
set_option maxHeartbeats 4000000
namespace L2
open PySem PySem.Spec PyProof.Rows

/-! ### plain data -/
inductive D where
  | non | bl (b : Bool) | int (i : Int) | str (x : Str) | tup (ds : List D) | lst (ds : List D) | dct | scr (φ : Addr → Prop) (ns : List Int) | ext (φ : Hp → Addr → Prop)
mutual
noncomputable def Rep (H : Hp) : D → V → Prop
  | .non, v => v = .non
  | .bl b, v => v = .bl b
  | .int i, v => v = .int i
  | .str x, v => v = .str x
  | .tup ds, v => ∃ a xs, v = .ref a ∧ H a = some (.tup xs) ∧ Reps H ds xs
  | .lst ds, v => ∃ a xs, v = .ref a ∧ H a = some (.lst xs) ∧ Reps H ds xs
  | .dct, v => ∃ a kvs, v = .ref a ∧ H a = some (.dK kvs)
  | .scr φ ns, v => ∃ a, v = .ref a ∧ ((∃ o, H a = some (.frz o (.lst (ns.map V.int)))) ∨ φ a)
  | .ext φ, v => ∃ a H0, v = .ref a ∧ Same H0 H ∧ φ H0 a
noncomputable def Reps (H : Hp) : List D → List V → Prop
  | [], xs => xs = []
  | d :: ds, xs => ∃ v vs, xs = v :: vs ∧ Rep H d v ∧ Reps H ds vs
end
theorem Reps.length {H : Hp} : ∀ {ds : List D} {xs : List V}, Reps H ds xs → xs.length = ds.length
  | [], xs, h => by rw [Reps] at h; subst h; rfl
  | d :: ds, xs, h => by
    rw [Reps] at h
    obtain ⟨v, vs, rfl, _, h2⟩ := h
    have := Reps.length h2
    simp [this]
mutual
theorem Rep.mono {H H' : Hp} (e : Same H H') : ∀ (d : D) (v : V), Rep H d v → Rep H' d v
  | .non, v, h => by rw [Rep] at *; exact h
  | .bl b, v, h => by rw [Rep] at *; exact h
  | .int i, v, h => by rw [Rep] at *; exact h
  | .str x, v, h => by rw [Rep] at *; exact h
  | .tup ds, v, h => by
    rw [Rep] at *
    obtain ⟨a, xs, h1, h2, h3⟩ := h
    exact ⟨a, xs, h1, e _ _ h2, Reps.mono e ds xs h3⟩
  | .lst ds, v, h => by
    rw [Rep] at *
    obtain ⟨a, xs, h1, h2, h3⟩ := h
    exact ⟨a, xs, h1, e _ _ h2, Reps.mono e ds xs h3⟩
  | .dct, v, h => by
    rw [Rep] at *
    obtain ⟨a, kvs, h1, h2⟩ := h
    exact ⟨a, kvs, h1, e _ _ h2⟩
  | .scr φ ns, v, h => by
    rw [Rep] at *
    obtain ⟨a, h1, h2⟩ := h
    refine ⟨a, h1, ?_⟩
    rcases h2 with ⟨o, h2⟩ | h2
    · exact .inl ⟨o, e _ _ h2⟩
    · exact .inr h2
  | .ext φ, v, h => by
    rw [Rep] at *
    obtain ⟨a, H0, h1, h2, h3⟩ := h
    exact ⟨a, H0, h1, fun b o q => e _ _ (h2 b o q), h3⟩
theorem Reps.mono {H H' : Hp} (e : Same H H') : ∀ (ds : List D) (xs : List V), Reps H ds xs → Reps H' ds xs
  | [], xs, h => by rw [Reps] at *; exact h
  | d :: ds, xs, h => by
    rw [Reps] at *
    obtain ⟨v, vs, h1, h2, h3⟩ := h
    exact ⟨v, vs, h1, Rep.mono e d v h2, Reps.mono e ds vs h3⟩
end
/-- the built-in type of a datum -/
noncomputable def D.ty : D → String
  | .non => "NoneType" | .bl _ => "bool" | .int _ => "int" | .str _ => "str" | .tup _ => "tuple" | .lst _ => "list" | .dct => "dict" | .scr _ _ => "list" | .ext _ => "object"
noncomputable def D.isS : D → Bool
  | .scr _ _ => true
  | .ext _ => true
  | _ => false
theorem Rep.ty {K : PySem.W.Frag} {H : Hp} {d : D} {v : V} (h : Rep H d v) (hs : d.isS = false) : TyOf K H v (.type d.ty) := by
  cases d with
  | non => rw [Rep] at h; subst h; exact .non
  | bl b => rw [Rep] at h; subst h; exact .bl b
  | int i => rw [Rep] at h; subst h; exact .int i
  | str x => rw [Rep] at h; subst h; exact .str x
  | tup ds => rw [Rep] at h; obtain ⟨a, xs, rfl, h2, _⟩ := h; exact .tup h2
  | lst ds => rw [Rep] at h; obtain ⟨a, xs, rfl, h2, _⟩ := h; exact .lst h2
  | dct => rw [Rep] at h; obtain ⟨a, kvs, rfl, h2⟩ := h; exact .dK h2
  | scr φ ns => cases hs
  | ext φ => cases hs

theorem rep_tup {H : Hp} {a : Addr} {xs : List V} {ds : List D} (h : H a = some (.tup xs)) (r : Reps H ds xs) : Rep H (.tup ds) (.ref a) := by rw [Rep]; exact ⟨a, xs, rfl, h, r⟩
theorem rep_lst {H : Hp} {a : Addr} {xs : List V} {ds : List D} (h : H a = some (.lst xs)) (r : Reps H ds xs) : Rep H (.lst ds) (.ref a) := by rw [Rep]; exact ⟨a, xs, rfl, h, r⟩
theorem reps_nil {H : Hp} : Reps H [] [] := by rw [Reps]
theorem reps_cons {H : Hp} {d : D} {v : V} {ds : List D} {vs : List V} (h : Rep H d v) (r : Reps H ds vs) : Reps H (d :: ds) (v :: vs) := by rw [Reps]; exact ⟨v, vs, rfl, h, r⟩
theorem rep_int {H : Hp} (i : Int) : Rep H (.int i) (.int i) := by rw [Rep]
theorem rep_bl {H : Hp} (i : Bool) : Rep H (.bl i) (.bl i) := by rw [Rep]
theorem rep_str {H : Hp} (i : Str) : Rep H (.str i) (.str i) := by rw [Rep]
theorem rep_non {H : Hp} : Rep H .non .non := by rw [Rep]
/-! ### a new object -/
theorem same_upd {H : Hp} {p : Addr} (h : H p = none) (o : HO) : Same H (upd H p o) := fun b u q => by rw [upd_ne (ne_of_none q h)]; exact q
section
variable {X : Cx}
/-! ### a statement's end by a word of one's own -/
/-! ### isinstance of a datum against one built-in type -/
noncomputable def isTy (d : D) (T : String) : Option Bool := if d.isS = true then none else if (Value.type d.ty == Value.type T) = true then some true else if PySem.W.kitMeta T = true then (fastBuiltinMro d.ty).map (·.contains (.type T)) else none
theorem isTy_kit (K : PySem.W.Frag) (d : D) (T : String) (hs : d.isS = false) : PySem.W.kitOne K (.type d.ty) (.type T) = isTy d T := by
  unfold isTy; rw [hs, if_neg (by decide)]; rfl
noncomputable def rIsI : List V → Hp → VK → Prop := fun xs H Q => ∃ x T d b, xs = [x, .ty T] ∧ Rep H d x ∧ isTy d T = some b ∧ Q (.bl b) H
theorem call_isinst : CallR X (.builtin "isinstance") rIsI := by
  intro pins s σ H xs us Q I r h
  obtain ⟨x, T, d, b, rfl, hd, e, q⟩ := h
  obtain ⟨u, w', rfl, ru, rw'⟩ := vals2 r
  cases (show w' = Value.type T from rw')
  have hs : d.isS = false := by
    cases z : d.isS with
    | false => rfl
    | true => unfold isTy at e; rw [z, if_pos rfl] at e; cases e
  rw [← isTy_kit X.K d T hs] at e
  exact isinst_ok I ru (hd.ty hs) e fun tk => ⟨.bl b, H, I.tok tk, rfl, q⟩

/-! ### is, is not: truths -/
/-! ### numbers of many figures -/
/-- at most 8000 bits -/
noncomputable def Sm (i : Int) : Prop := i.natAbs < 2 ^ 8000
theorem Sm.log {i : Int} (h : Sm i) : i.natAbs.log2 < 8000 := by
  by_cases h0 : i.natAbs = 0
  · rw [h0]; decide
  · exact (Nat.log2_lt h0).mpr h
noncomputable def CDivB (i j : Int) : Prop := 0 < j ∧ Sm j
theorem op_fdivB : OpR X (binaryOp .FloorDiv) (rI CDivB fun i j => .int (i / j)) := opI fun i j _ _ _ _ _ hc q => by
  refine floordiv_int (Int.ne_of_gt hc.1) ?_ (.inl (PyProof.noPylong_of_log2 (Nat.lt_of_lt_of_le hc.2.log (by decide))))
  rw [Int.fdiv_eq_ediv_of_nonneg _ (Int.le_of_lt hc.1)]
  exact q
end
/-! ### the built-in names -/
theorem bt_len : bootBuiltins "len" = some (.builtin "len") := by decide +kernel
theorem bt_abs : bootBuiltins "abs" = some (.builtin "abs") := by decide +kernel
theorem bt_max : bootBuiltins "max" = some (.builtin "max") := by decide +kernel
theorem bt_min : bootBuiltins "min" = some (.builtin "min") := by decide +kernel
theorem bt_isinstance : bootBuiltins "isinstance" = some (.builtin "isinstance") := by decide +kernel
theorem bt_int : bootBuiltins "int" = some (.type "int") := by decide +kernel
theorem bt_bool : bootBuiltins "bool" = some (.type "bool") := by decide +kernel
theorem bt_tuple : bootBuiltins "tuple" = some (.type "tuple") := by decide +kernel
/-! ### the divisor by rests -/
noncomputable def gcdP (n b : Int) : Int := if b = 0 then n else (Int.gcd n b : Int)
theorem gcdP_step {n b : Int} (h : 0 < b) : gcdP b (n % b) = gcdP n b := by
  unfold gcdP
  have e : Int.gcd n b = Int.gcd b (n % b) := by
    rw [Int.emod_def, Int.gcd_sub_mul_left_right, Int.gcd_comm]
  rw [if_neg (show ¬ b = 0 by omega)]
  split
  · rename_i h0
    rw [e, h0, Int.gcd_zero_right]
    omega
  · rw [e]
theorem gcdP_pos {n b : Int} (h : 0 < b) : 0 < gcdP n b := by
  unfold gcdP
  rw [if_neg (by omega)]
  have : 0 < Int.gcd n b := Int.gcd_pos_of_ne_zero_right _ (by omega)
  omega
theorem gcdP_le {n b : Int} (h : 0 < b) : gcdP n b ≤ b := by
  unfold gcdP
  rw [if_neg (by omega)]
  exact Int.le_of_dvd h (Int.gcd_dvd_right ..)
end L2
namespace L2
open PySem PySem.Spec PyProof.Rows
section
variable {X : Cx} {pins : List (Addr × Obj)} {σ : St} {H : Hp} {s : Shared} {pos : Pos}
end
end L2
namespace L2
open PySem
end L2
namespace L2
open PySem
theorem sm_of {i : Int} {n : Nat} (h : i.natAbs ≤ n) (hn : n < 2 ^ 8000) : Sm i := Nat.lt_of_le_of_lt h hn
end L2

set_option Elab.async false
set_option linter.all false
set_option maxRecDepth 100000
set_option maxHeartbeats 1000000
namespace L2
open PySem PySem.Spec PyProof.Rows

section
variable {X : Cx} {pins : List (Addr × Obj)} {σ : St} {H : Hp} {s : Shared} {scope : Scope} {cl : List (Str × Addr)} {own : List Str} {js : List Nat}

/-- what the block has taken from the frame stands there still -/
noncomputable def kept : St → St → Prop
  | [], [] => True
  | none :: r, _ :: r' => kept r r'
  | some v :: r, y :: r' => y = some v ∧ kept r r'
  | [], _ :: _ => False
  | _ :: _, [] => False
end
end L2

set_option Elab.async false
set_option linter.all false
set_option maxRecDepth 100000
set_option maxHeartbeats 1000000
namespace L2
open PySem PySem.Spec PyProof.Rows
section
variable {X : Cx} {es : List Expr} {k : Nat} {tpos : Pos}
end
end L2

set_option Elab.async false
set_option linter.all false
set_option maxRecDepth 100000
set_option maxHeartbeats 1000000
namespace L2
open PySem PySem.Spec PyProof.Rows
mutual
noncomputable def toP : D → PyData
  | .non => .none
  | .bl b => .bool b
  | .int i => .int i
  | .str x => .str x
  | .tup ds => .tuple (toPs ds)
  | .lst ds => .list (toPs ds)
  | .dct => .dict []
  | .scr _ _ => .dict []
  | .ext _ => .dict []
noncomputable def toPs : List D → List PyData
  | [] => []
  | d :: ds => toP d :: toPs ds
end
mutual
theorem rep_reads {X : Cx} {pins : List (Addr × Obj)} {σ : St} {H : Hp} {s : Shared} (I : Inv X pins σ H s) : ∀ (d : D) (v : V) (u : Value), Rep H d v → RelV v u → (toP d).canLay0 = true → ∃ as, Reads s.heap u (toP d) as
  | .non, v, u, h, r, _ => by rw [Rep] at h; subst h; cases r; rw [toP]; exact ⟨_, .none⟩
  | .bl b, v, u, h, r, _ => by rw [Rep] at h; subst h; cases r; rw [toP]; exact ⟨_, .bool b⟩
  | .int i, v, u, h, r, _ => by rw [Rep] at h; subst h; obtain ⟨t, rfl⟩ := r; rw [toP]; exact ⟨_, .int i t⟩
  | .str x, v, u, h, r, _ => by rw [Rep] at h; subst h; obtain ⟨t, rfl⟩ := r; rw [toP]; exact ⟨_, .str x t⟩
  | .tup ds, v, u, h, r, c => by
    rw [Rep] at h
    obtain ⟨a, xs, rfl, ha, hx⟩ := h
    cases r
    rw [toP] at c ⊢
    obtain ⟨_, its, rv, o, e1, e2, n, e3⟩ := (show ObjOk X.prog X.w H s.heap a (.tup xs) from I.hok a _ ha)
    obtain ⟨as, q⟩ := reps_reads I ds xs its hx rv (by rw [PyData.canLay0] at c; exact c)
    exact ⟨_, reads_tuple_at e1 e2 e3 (by simpa using q)⟩
  | .lst ds, v, u, h, r, c => by
    rw [Rep] at h
    obtain ⟨a, xs, rfl, ha, hx⟩ := h
    cases r
    rw [toP] at c ⊢
    obtain ⟨_, its, n, rv, e1⟩ := (show ObjOk X.prog X.w H s.heap a (.lst xs) from I.hok a _ ha)
    obtain ⟨as, q⟩ := reps_reads I ds xs its hx rv (by rw [PyData.canLay0] at c; exact c)
    exact ⟨_, reads_list_at e1 rfl rfl (by simpa using q)⟩
  | .dct, v, u, h, r, c => by rw [toP, PyData.canLay0] at c; cases c
  | .scr _ _, v, u, h, r, c => by rw [toP, PyData.canLay0] at c; cases c
  | .ext _, v, u, h, r, c => by rw [toP, PyData.canLay0] at c; cases c
theorem reps_reads {X : Cx} {pins : List (Addr × Obj)} {σ : St} {H : Hp} {s : Shared} (I : Inv X pins σ H s) : ∀ (ds : List D) (vs : List V) (us : List Value), Reps H ds vs → Vals vs us → PyData.canLayAll0 (toPs ds) = true → ∃ as, ReadsAll s.heap us (toPs ds) as
  | [], vs, us, h, r, _ => by rw [Reps] at h; subst h; cases r; rw [toPs]; exact ⟨_, .nil⟩
  | d :: ds, vs, us, h, r, c => by
    rw [Reps] at h
    obtain ⟨v, vs', rfl, h1, h2⟩ := h
    rw [toPs] at c ⊢
    rw [PyData.canLayAll0, Bool.and_eq_true] at c
    cases r with
    | cons r1 r2 =>
      obtain ⟨as, q1⟩ := rep_reads I d v _ h1 r1 c.1
      obtain ⟨bs, q2⟩ := reps_reads I ds vs' _ h2 r2 c.2
      exact ⟨_, .cons q1 q2⟩
end
section
variable {X : Cx}
noncomputable def rEqD : R2 := fun x y H Q => ∃ d e, Rep H d x ∧ Rep H e y ∧ SeqAt.shaped (toP d) = true ∧ SeqAt.shaped (toP e) = true ∧ Q (.bl (PyData.eqv (toP d) (toP e))) H
noncomputable def rNeD : R2 := fun x y H Q => ∃ d e, Rep H d x ∧ Rep H e y ∧ SeqAt.shaped (toP d) = true ∧ SeqAt.shaped (toP e) = true ∧ Q (.bl (!PyData.eqv (toP d) (toP e))) H
theorem op_eqD (hu : X.A.units + 64 < cLine) : OpR X (compareOp .Eq) rEqD := by
  intro pins s σ H x y v u Q I rx ry h
  obtain ⟨d, e, h1, h2, c1, c2, q⟩ := h
  obtain ⟨as, r1⟩ := rep_reads I d x v h1 rx (SeqAt.canLay_of_shaped c1)
  obtain ⟨bs, r2⟩ := rep_reads I e y u h2 ry (SeqAt.canLay_of_shaped c2)
  exact eq_dataH r1 r2 c1 c2 hu ⟨.bl _, H, I, rfl, q⟩
theorem op_neD (hu : X.A.units + 64 < cLine) : OpR X (compareOp .NotEq) rNeD := by
  intro pins s σ H x y v u Q I rx ry h
  obtain ⟨d, e, h1, h2, c1, c2, q⟩ := h
  obtain ⟨as, r1⟩ := rep_reads I d x v h1 rx (SeqAt.canLay_of_shaped c1)
  obtain ⟨bs, r2⟩ := rep_reads I e y u h2 ry (SeqAt.canLay_of_shaped c2)
  exact ne_dataH r1 r2 c1 c2 hu ⟨.bl _, H, I, rfl, q⟩
end
/-! ### lists of numbers -/
noncomputable def dInts (ns : List Int) : D := .lst (ns.map .int)
end L2

set_option Elab.async false
set_option linter.all false
set_option maxRecDepth 100000
set_option maxHeartbeats 1000000
namespace L2
open PySem PySem.Spec PyProof.Rows
section
variable {X : Cx}
end
end L2

set_option Elab.async false
set_option linter.all false
set_option maxRecDepth 100000
set_option maxHeartbeats 1000000
namespace L2
open PySem PySem.Spec PyProof.Rows

/-! ### data in slots: what is shared, what is owned -/
noncomputable abbrev DSt := List (Option D)
/-- who owns a list's address: a slot's (2 i) or a held value's (2 j + 1) label, and the place within it -/
noncomputable abbrev Own := Addr → Option (Nat × List Nat)
mutual
noncomputable def Sep (G H : Hp) (O : Own) (i : Nat) : D → List Nat → V → Prop
  | .non, _, v => v = .non
  | .bl b, _, v => v = .bl b
  | .int n, _, v => v = .int n
  | .str x, _, v => v = .str x
  | .tup ds, π, v => ∃ a xs, v = .ref a ∧ G a = some (.tup xs) ∧ Seps G H O i ds 0 π xs
  | .lst ds, π, v => ∃ a xs, v = .ref a ∧ O a = some (i, π) ∧ H a = some (.lst xs) ∧ Seps G H O i ds 0 π xs
  | .dct, _, _ => False
  | .scr _ _, _, _ => False
  | .ext _, _, _ => False
noncomputable def Seps (G H : Hp) (O : Own) (i : Nat) : List D → Nat → List Nat → List V → Prop
  | [], _, _, xs => xs = []
  | d :: ds, k, π, xs => ∃ v vs, xs = v :: vs ∧ Sep G H O i d (k :: π) v ∧ Seps G H O i ds (k + 1) π vs
end
/-- tuples stay -/
noncomputable def TSame (G G' : Hp) : Prop := ∀ a xs, G a = some (.tup xs) → G' a = some (.tup xs)
theorem Same.ts {G G' : Hp} (h : Same G G') : TSame G G' := fun a xs e => h a _ e
mutual
theorem Sep.map {G H G' H' : Hp} {O O' : Own} {i i' : Nat} {f : List Nat → List Nat} (hG : TSame G G') (hf : ∀ k π, f (k :: π) = k :: f π) :
    ∀ (d : D) (π : List Nat) (v : V), (∀ a τ, O a = some (i, τ ++ π) → O' a = some (i', f (τ ++ π)) ∧ H' a = H a) → Sep G H O i d π v → Sep G' H' O' i' d (f π) v
  | .non, _, _, _, h => by rw [Sep] at *; exact h
  | .bl b, _, _, _, h => by rw [Sep] at *; exact h
  | .int n, _, _, _, h => by rw [Sep] at *; exact h
  | .str x, _, _, _, h => by rw [Sep] at *; exact h
  | .tup ds, π, v, hO, h => by
    rw [Sep] at *
    obtain ⟨a, xs, h1, h2, h3⟩ := h
    exact ⟨a, xs, h1, hG _ _ h2, Seps.map hG hf ds 0 π xs (fun a τ _ => hO a τ) h3⟩
  | .lst ds, π, v, hO, h => by
    rw [Sep] at *
    obtain ⟨a, xs, h1, h2, h3, h4⟩ := h
    have q := hO a [] h2
    exact ⟨a, xs, h1, q.1, q.2.trans h3, Seps.map hG hf ds 0 π xs (fun a τ _ => hO a τ) h4⟩
  | .dct, _, _, _, h => by rw [Sep] at h; exact h.elim
  | .scr _ _, _, _, _, h => by rw [Sep] at h; exact h.elim
  | .ext _, _, _, _, h => by rw [Sep] at h; exact h.elim
theorem Seps.map {G H G' H' : Hp} {O O' : Own} {i i' : Nat} {f : List Nat → List Nat} (hG : TSame G G') (hf : ∀ k π, f (k :: π) = k :: f π) :
    ∀ (ds : List D) (k : Nat) (π : List Nat) (xs : List V), (∀ a τ, τ ≠ [] → O a = some (i, τ ++ π) → O' a = some (i', f (τ ++ π)) ∧ H' a = H a) → Seps G H O i ds k π xs → Seps G' H' O' i' ds k (f π) xs
  | [], _, _, _, _, h => by rw [Seps] at *; exact h
  | d :: ds, k, π, xs, hO, h => by
    rw [Seps] at *
    obtain ⟨v, vs, h1, h2, h3⟩ := h
    refine ⟨v, vs, h1, ?_, Seps.map hG hf ds (k + 1) π vs hO h3⟩
    rw [← hf]
    refine Sep.map hG hf d (k :: π) v (fun a τ e => ?_) h2
    have e' : τ ++ k :: π = (τ ++ [k]) ++ π := by simp
    rw [e'] at e ⊢
    exact hO a (τ ++ [k]) (by simp) e
end
/-- without a change of places -/
theorem Sep.keep {G H G' H' : Hp} {O O' : Own} {i i' : Nat} {d : D} {π : List Nat} {v : V} (hG : TSame G G') (hO : ∀ a τ, O a = some (i, τ ++ π) → O' a = some (i', τ ++ π) ∧ H' a = H a) (h : Sep G H O i d π v) : Sep G' H' O' i' d π v :=
  Sep.map (f := id) hG (fun _ _ => rfl) d π v hO h
theorem Seps.keep {G H G' H' : Hp} {O O' : Own} {i i' : Nat} {ds : List D} {k : Nat} {π : List Nat} {xs : List V} (hG : TSame G G') (hO : ∀ a τ, τ ≠ [] → O a = some (i, τ ++ π) → O' a = some (i', τ ++ π) ∧ H' a = H a) (h : Seps G H O i ds k π xs) : Seps G' H' O' i' ds k π xs :=
  Seps.map (f := id) hG (fun _ _ => rfl) ds k π xs hO h
mutual
theorem Sep.rep {G H G' : Hp} {O : Own} {i : Nat} (hG : TSame G G') : ∀ (d : D) (π : List Nat) (v : V), (∀ a τ xs, O a = some (i, τ ++ π) → H a = some (.lst xs) → G' a = some (.lst xs)) → Sep G H O i d π v → Rep G' d v
  | .non, _, _, _, h => by rw [Sep] at h; rw [Rep]; exact h
  | .bl b, _, _, _, h => by rw [Sep] at h; rw [Rep]; exact h
  | .int n, _, _, _, h => by rw [Sep] at h; rw [Rep]; exact h
  | .str x, _, _, _, h => by rw [Sep] at h; rw [Rep]; exact h
  | .tup ds, π, v, hO, h => by
    rw [Sep] at h; rw [Rep]
    obtain ⟨a, xs, h1, h2, h3⟩ := h
    exact ⟨a, xs, h1, hG _ _ h2, Seps.rep hG ds 0 π xs (fun a τ ys _ => hO a τ ys) h3⟩
  | .lst ds, π, v, hO, h => by
    rw [Sep] at h; rw [Rep]
    obtain ⟨a, xs, h1, h2, h3, h4⟩ := h
    exact ⟨a, xs, h1, hO a [] xs h2 h3, Seps.rep hG ds 0 π xs (fun a τ ys _ => hO a τ ys) h4⟩
  | .dct, _, _, _, h => by rw [Sep] at h; exact h.elim
  | .scr _ _, _, _, _, h => by rw [Sep] at h; exact h.elim
  | .ext _, _, _, _, h => by rw [Sep] at h; exact h.elim
theorem Seps.rep {G H G' : Hp} {O : Own} {i : Nat} (hG : TSame G G') : ∀ (ds : List D) (k : Nat) (π : List Nat) (xs : List V), (∀ a τ ys, τ ≠ [] → O a = some (i, τ ++ π) → H a = some (.lst ys) → G' a = some (.lst ys)) → Seps G H O i ds k π xs → Reps G' ds xs
  | [], _, _, _, _, h => by rw [Seps] at h; rw [Reps]; exact h
  | d :: ds, k, π, xs, hO, h => by
    rw [Seps] at h; rw [Reps]
    obtain ⟨v, vs, h1, h2, h3⟩ := h
    refine ⟨v, vs, h1, Sep.rep hG d (k :: π) v (fun a τ ys e q => ?_) h2, Seps.rep hG ds (k + 1) π vs hO h3⟩
    have e' : τ ++ k :: π = (τ ++ [k]) ++ π := by simp
    rw [e'] at e
    exact hO a (τ ++ [k]) ys (by simp) e q
end
mutual
noncomputable def imm : D → Bool
  | .tup ds => imms ds
  | .lst _ => false
  | .dct => false
  | .scr _ _ => false
  | .ext _ => false
  | _ => true
noncomputable def imms : List D → Bool
  | [] => true
  | d :: ds => imm d && imms ds
end
mutual
theorem Rep.sep {G H : Hp} {O : Own} {i : Nat} : ∀ (d : D) (π : List Nat) (v : V), imm d = true → Rep G d v → Sep G H O i d π v
  | .non, _, _, _, h => by rw [Rep] at h; rw [Sep]; exact h
  | .bl b, _, _, _, h => by rw [Rep] at h; rw [Sep]; exact h
  | .int n, _, _, _, h => by rw [Rep] at h; rw [Sep]; exact h
  | .str x, _, _, _, h => by rw [Rep] at h; rw [Sep]; exact h
  | .tup ds, π, v, hi, h => by
    rw [Rep] at h; rw [Sep]
    obtain ⟨a, xs, h1, h2, h3⟩ := h
    exact ⟨a, xs, h1, h2, Reps.sep ds 0 π xs (by rw [imm] at hi; exact hi) h3⟩
  | .lst ds, _, _, hi, _ => by rw [imm] at hi; cases hi
  | .dct, _, _, hi, _ => by rw [imm] at hi; cases hi
  | .scr _ _, _, _, hi, _ => by rw [imm] at hi; cases hi
  | .ext _, _, _, hi, _ => by rw [imm] at hi; cases hi
theorem Reps.sep {G H : Hp} {O : Own} {i : Nat} : ∀ (ds : List D) (k : Nat) (π : List Nat) (xs : List V), imms ds = true → Reps G ds xs → Seps G H O i ds k π xs
  | [], _, _, _, _, h => by rw [Reps] at h; rw [Seps]; exact h
  | d :: ds, k, π, xs, hi, h => by
    rw [Reps] at h; rw [Seps]
    rw [imms, Bool.and_eq_true] at hi
    obtain ⟨v, vs, h1, h2, h3⟩ := h
    exact ⟨v, vs, h1, Rep.sep d (k :: π) v hi.1 h2, Reps.sep ds (k + 1) π vs hi.2 h3⟩
end
mutual
theorem Rep.imms {G G' : Hp} (hG : TSame G G') : ∀ (d : D) (v : V), L2.imm d = true → Rep G d v → Rep G' d v
  | .non, _, _, h => by rw [Rep] at *; exact h
  | .bl b, _, _, h => by rw [Rep] at *; exact h
  | .int n, _, _, h => by rw [Rep] at *; exact h
  | .str x, _, _, h => by rw [Rep] at *; exact h
  | .tup ds, v, hi, h => by
    rw [Rep] at *
    obtain ⟨a, xs, h1, h2, h3⟩ := h
    exact ⟨a, xs, h1, hG _ _ h2, Reps.imms hG ds xs (by rw [L2.imm] at hi; exact hi) h3⟩
  | .lst ds, _, hi, _ => by rw [L2.imm] at hi; cases hi
  | .dct, _, hi, _ => by rw [L2.imm] at hi; cases hi
  | .scr _ _, _, hi, _ => by rw [L2.imm] at hi; cases hi
  | .ext _, _, hi, _ => by rw [L2.imm] at hi; cases hi
theorem Reps.imms {G G' : Hp} (hG : TSame G G') : ∀ (ds : List D) (xs : List V), L2.imms ds = true → Reps G ds xs → Reps G' ds xs
  | [], _, _, h => by rw [Reps] at *; exact h
  | d :: ds, xs, hi, h => by
    rw [Reps] at *
    rw [L2.imms, Bool.and_eq_true] at hi
    obtain ⟨v, vs, h1, h2, h3⟩ := h
    exact ⟨v, vs, h1, Rep.imms hG d v hi.1 h2, Reps.imms hG ds vs hi.2 h3⟩
end
theorem Seps.length {G H : Hp} {O : Own} {i : Nat} : ∀ {ds : List D} {k : Nat} {π : List Nat} {xs : List V}, Seps G H O i ds k π xs → xs.length = ds.length
  | [], _, _, _, h => by rw [Seps] at h; subst h; rfl
  | d :: ds, k, π, xs, h => by
    rw [Seps] at h
    obtain ⟨v, vs, rfl, _, h3⟩ := h
    simp [Seps.length h3]

/-! ### the state -/
/-- what a def is entered with: the shared part, the heap, what the written parameters own, their values -/
structure Ctx where
  G : Hp
  H : Hp
  O : Own
  mu : List (Option V)
  np : Nat
noncomputable def Pend (G H : Hp) (O : Own) : List (D × V) → Prop
  | [] => True
  | (d, v) :: r => Sep G H O (2 * r.length + 1) d [] v ∧ Pend G H O r
/-- an owned address is new, or a written parameter's -/
noncomputable def Nw (C : Ctx) (a : Addr) (l : Nat) : Prop := C.H a = none ∨ ∃ π, C.O a = some (l, π)
structure RO (C : Ctx) (ow : List Bool) (G : Hp) (ρ : DSt) (σ : St) (H : Hp) (pd : List (D × V)) (O : Own) : Prop where
  len : ρ.length = σ.length
  gh : Same G H
  g0 : Same C.G G
  gn : ∀ a o, G a = some o → C.G a = some o ∨ C.H a = none
  og : ∀ a l, O a = some l → G a = none ∧ (∃ xs, H a = some (.lst xs)) ∧ Nw C a l.1
  cok : ∀ a l π, C.O a = some (l, π) → (∃ (i : Nat) (v : V), l = 2 * i ∧ C.mu[i]? = some (some v)) ∨ ∃ j, l = 2 * j + 1 ∧ j < C.np
  fr : ∀ a o, C.H a = some o → C.O a = none → H a = some o
  al : ∀ a, H a = none → C.H a = none
  mp : ∀ (i : Nat) v, C.mu[i]? = some (some v) → σ[i]? = some (some v)
  sl : ∀ (i : Nat) d, ρ[i]? = some (some d) → ∃ v, σ[i]? = some (some v) ∧ if ow[i]? = some true then Sep G H O (2 * i) d [] v else Rep G d v
  pn : Pend G H O pd
  np : C.np ≤ pd.length
noncomputable def R (C : Ctx) (ow : List Bool) (G : Hp) (ρ : DSt) (σ : St) (H : Hp) (pd : List (D × V)) : Prop := ∃ O, RO C ow G ρ σ H pd O
theorem Pend.keep {G H G' H' : Hp} {O O' : Own} (hG : TSame G G') : ∀ {pd : List (D × V)}, (∀ a j π, j < pd.length → O a = some (2 * j + 1, π) → O' a = some (2 * j + 1, π) ∧ H' a = H a) → Pend G H O pd → Pend G' H' O' pd
  | [], _, _ => trivial
  | (d, v) :: r, hO, ⟨h1, h2⟩ => ⟨h1.keep hG fun a τ e => hO a r.length _ (by simp) e, Pend.keep hG (fun a j π hj => hO a j π (by simp; omega)) h2⟩
section
variable {C : Ctx} {ow : List Bool} {G : Hp} {ρ : DSt} {σ : St} {H : Hp} {pd : List (D × V)} {O : Own}
/-- a new object that is shared -/
theorem RO.new (h : RO C ow G ρ σ H pd O) {p : Addr} (hp : H p = none) (o : HO) : RO C ow (upd G p o) ρ σ (upd H p o) pd O ∧ Same G (upd G p o) := by
  have gp : G p = none := by
    cases e : G p with
    | none => rfl
    | some z => rw [h.gh _ _ e] at hp; cases hp
  have sG := same_upd gp o
  have ne : ∀ a l, O a = some l → a ≠ p := fun a l e z => by
    obtain ⟨_, ⟨xs, q⟩, _⟩ := h.og a l e
    rw [z, hp] at q; cases q
  refine ⟨⟨h.len, ?_, fun a u e => sG _ _ (h.g0 a u e), ?_, ?_, h.cok, ?_, ?_, h.mp, ?_, ?_, h.np⟩, sG⟩
  · intro a u e
    by_cases z : a = p
    · subst z; rw [upd_same] at e ⊢; exact e
    · rw [upd_ne z] at e ⊢; exact h.gh _ _ e
  · intro a u e
    by_cases z : a = p
    · subst z; exact .inr (h.al _ hp)
    · rw [upd_ne z] at e; exact h.gn a u e
  · intro a l e
    have z := ne a l e
    rw [upd_ne z, upd_ne z]
    exact h.og a l e
  · intro a u e n
    rw [upd_ne (ne_of_none (h.fr a u e n) hp)]
    exact h.fr a u e n
  · intro a e
    by_cases z : a = p
    · subst z; rw [upd_same] at e; cases e
    · rw [upd_ne z] at e; exact h.al a e
  · intro i d e
    obtain ⟨v, h1, h2⟩ := h.sl i d e
    refine ⟨v, h1, ?_⟩
    split at h2
    · rename_i c; rw [if_pos c]; exact h2.keep sG.ts fun a τ q => ⟨q, upd_ne (ne a _ q)⟩
    · rename_i c; rw [if_neg c]; exact h2.mono sG
  · exact Pend.keep sG.ts (fun a j π _ q => ⟨q, upd_ne (ne a _ q)⟩) h.pn
/-- a new list that is held, its things without lists -/
theorem RO.newL (h : RO C ow G ρ σ H pd O) {p : Addr} (hp : H p = none) {xs : List V} {ds : List D} (hi : imms ds = true) (hr : Reps G ds xs) :
    R C ow G ρ σ (upd H p (.lst xs)) ((.lst ds, .ref p) :: pd) := by
  have gp : G p = none := by
    cases e : G p with
    | none => rfl
    | some z => rw [h.gh _ _ e] at hp; cases hp
  have ne : ∀ a l, O a = some l → a ≠ p := fun a l e z => by
    obtain ⟨_, ⟨xs, q⟩, _⟩ := h.og a l e
    rw [z, hp] at q; cases q
  let O' : Own := fun a => if a = p then some (2 * pd.length + 1, []) else O a
  have old : ∀ a l, O a = some l → O' a = some l := fun a l e => by
    show (if a = p then _ else _) = _
    rw [if_neg (ne a _ e), e]
  refine ⟨O', h.len, ?_, h.g0, h.gn, ?_, h.cok, ?_, ?_, h.mp, ?_, ⟨?_, ?_⟩, Nat.le_succ_of_le h.np⟩
  · intro a u e
    rw [upd_ne (fun z => by rw [z, gp] at e; cases e)]
    exact h.gh _ _ e
  · intro a l e
    by_cases z : a = p
    · subst z; exact ⟨gp, ⟨xs, upd_same⟩, .inl (h.al _ hp)⟩
    · rw [upd_ne z]
      change (if a = p then _ else _) = _ at e
      rw [if_neg z] at e
      exact h.og a _ e
  · intro a u e n
    rw [upd_ne (ne_of_none (h.fr a u e n) hp)]
    exact h.fr a u e n
  · intro a e
    by_cases z : a = p
    · subst z; rw [upd_same] at e; cases e
    · rw [upd_ne z] at e; exact h.al a e
  · intro i d e
    obtain ⟨v, h1, h2⟩ := h.sl i d e
    refine ⟨v, h1, ?_⟩
    split at h2
    · rename_i c; rw [if_pos c]; exact h2.keep (fun _ _ z => z) fun a τ q => ⟨old a _ q, upd_ne (ne a _ q)⟩
    · rename_i c; rw [if_neg c]; exact h2
  · rw [Sep]
    exact ⟨p, xs, rfl, by show (if p = p then _ else _) = _; rw [if_pos rfl], upd_same, hr.sep ds 0 [] xs hi⟩
  · exact Pend.keep (fun _ _ z => z) (fun a j π hj q => ⟨old a _ q, upd_ne (ne a _ q)⟩) h.pn
end
end L2

set_option Elab.async false
set_option linter.all false
set_option maxRecDepth 100000
set_option maxHeartbeats 1000000
namespace L2
open PySem PySem.Spec PyProof.Rows
theorem Seps.set {G H : Hp} {O : Own} {i : Nat} {d : D} {v : V} : ∀ {ds : List D} {k : Nat} {π : List Nat} {xs : List V} {j : Nat}, Seps G H O i ds k π xs → Sep G H O i d ((k + j) :: π) v → Seps G H O i (ds.set j d) k π (xs.set j v)
  | [], k, π, xs, j, h, hd => by rw [Seps] at h; subst h; simp; rw [Seps]
  | e :: ds, k, π, xs, 0, h, hd => by
    rw [Seps] at h
    obtain ⟨u, us, rfl, h2, h3⟩ := h
    simp only [List.set_cons_zero]; rw [Seps]
    exact ⟨v, us, rfl, by simpa using hd, h3⟩
  | e :: ds, k, π, xs, j + 1, h, hd => by
    rw [Seps] at h
    obtain ⟨u, us, rfl, h2, h3⟩ := h
    simp only [List.set_cons_succ]; rw [Seps]
    refine ⟨u, _, rfl, h2, Seps.set h3 ?_⟩
    have : k + 1 + j = k + (j + 1) := by omega
    rw [this]; exact hd
section
variable {C : Ctx} {ow : List Bool} {G : Hp} {ρ : DSt} {σ : St} {H : Hp} {pd : List (D × V)} {O : Own}
theorem set_at {α : Type} {l : List (Option α)} {i j : Nat} {x : Option α} {d : α} (h : (l.set i x)[j]? = some (some d)) : (j = i ∧ x = some d) ∨ (j ≠ i ∧ l[j]? = some (some d)) := by
  rw [List.getElem?_set] at h
  by_cases e : i = j
  · rw [if_pos e] at h
    split at h
    · exact .inl ⟨e.symm, Option.some.inj h⟩
    · cases h
  · rw [if_neg e] at h; exact .inr ⟨fun z => e z.symm, h⟩
theorem lt_of_slot {α : Type} {l : List (Option α)} {i : Nat} {x : Option α} (h : l[i]? = some x) : i < l.length := (List.getElem?_eq_some_iff.mp h).1
/-- a slot gets a shared value -/
theorem RO.setS (h : RO C ow G ρ σ H pd O) {i : Nat} {d : D} {v : V} (hi : ow[i]? ≠ some true) (hm : ∀ v, C.mu[i]? ≠ some (some v)) (r : Rep G d v) : RO C ow G (ρ.set i (some d)) (σ.set i (some v)) H pd O := by
  refine ⟨by simp [h.len], h.gh, h.g0, h.gn, h.og, h.cok, h.fr, h.al, ?_, ?_, h.pn, h.np⟩
  · intro j u e
    have : i ≠ j := fun z => hm u (z ▸ e)
    rw [List.getElem?_set_ne this]
    exact h.mp j u e
  · intro j e q
    rcases set_at q with ⟨rfl, z⟩ | ⟨z, q'⟩
    · cases z
      have hl : j < σ.length := by have := lt_of_slot q; rw [List.length_set, h.len] at this; exact this
      exact ⟨v, by rw [List.getElem?_set_self hl], by rw [if_neg hi]; exact r⟩
    · obtain ⟨u, h1, h2⟩ := h.sl j e q'
      exact ⟨u, by rw [List.getElem?_set_ne (Ne.symm z)]; exact h1, h2⟩
/-- other labels -/
noncomputable def lab (f : Nat → List Nat → Nat × List Nat) (O : Own) : Own := fun a => (O a).map fun l => f l.1 l.2
theorem lab_at {f : Nat → List Nat → Nat × List Nat} {a : Addr} {l : Nat} {π : List Nat} (h : O a = some (l, π)) : lab f O a = some (f l π) := by unfold lab; rw [h]; rfl
theorem lab_of {f : Nat → List Nat → Nat × List Nat} {a : Addr} {m : Nat × List Nat} (h : lab f O a = some m) : ∃ l π, O a = some (l, π) ∧ m = f l π := by
  unfold lab at h
  cases e : O a with
  | none => rw [e] at h; cases h
  | some l => rw [e] at h; exact ⟨l.1, l.2, rfl, (Option.some.inj h).symm⟩
theorem even_ne {i j : Nat} : 2 * i ≠ 2 * j + 1 := by omega
/-- a slot gets the held value -/
theorem RO.setO {d : D} {v : V} (h : RO C ow G ρ σ H ((d, v) :: pd) O) {i : Nat} (hi : ow[i]? = some true) (hm : ∀ v, C.mu[i]? ≠ some (some v)) (hn : C.np ≤ pd.length) :
    R C ow G (ρ.set i (some d)) (σ.set i (some v)) H pd := by
  refine ⟨lab (fun l π => if l = 2 * pd.length + 1 then (2 * i, π) else (l, π)) O, by simp [h.len], h.gh, h.g0, h.gn, ?_, h.cok, h.fr, h.al, ?_, ?_, ?_, hn⟩
  · intro a m e
    obtain ⟨l, π, e1, rfl⟩ := lab_of e
    obtain ⟨q1, q2, q3⟩ := h.og a _ e1
    refine ⟨q1, q2, ?_⟩
    try dsimp only
    split
    · rename_i z
      rcases q3 with q3 | ⟨_, q3⟩
      · exact .inl q3
      · rcases h.cok _ _ _ q3 with ⟨k, _, q4, _⟩ | ⟨k, q4, q5⟩
        · exact absurd (q4.symm.trans z) even_ne
        · omega
    · exact q3
  · intro j u e
    have : i ≠ j := fun z => hm u (z ▸ e)
    rw [List.getElem?_set_ne this]
    exact h.mp j u e
  · intro j e q
    rcases set_at q with ⟨rfl, z⟩ | ⟨z, q'⟩
    · cases z
      have hl : j < σ.length := by have := lt_of_slot q; rw [List.length_set, h.len] at this; exact this
      refine ⟨v, by rw [List.getElem?_set_self hl], ?_⟩
      rw [if_pos hi]
      exact h.pn.1.keep (fun _ _ z => z) fun a τ q => ⟨by rw [lab_at q, if_pos rfl], rfl⟩
    · obtain ⟨u, h1, h2⟩ := h.sl j e q'
      refine ⟨u, by rw [List.getElem?_set_ne (Ne.symm z)]; exact h1, ?_⟩
      split at h2
      · rename_i c; rw [if_pos c]; exact h2.keep (fun _ _ z => z) fun a τ q => ⟨by rw [lab_at q, if_neg even_ne], rfl⟩
      · rename_i c; rw [if_neg c]; exact h2
  · exact Pend.keep (fun _ _ z => z) (fun a j π hj q => ⟨by rw [lab_at q, if_neg (by omega)], rfl⟩) h.pn.2
/-- the value of an owned slot is held, and the slot forgets it -/
theorem RO.move (h : RO C ow G ρ σ H pd O) {i : Nat} {d : D} (e : ρ[i]? = some (some d)) (hi : ow[i]? = some true) (hm : ∀ v, C.mu[i]? ≠ some (some v)) :
    ∃ v, σ[i]? = some (some v) ∧ R C ow G (ρ.set i none) σ H ((d, v) :: pd) := by
  obtain ⟨v, hv, s⟩ := h.sl i d e
  rw [if_pos hi] at s
  refine ⟨v, hv, lab (fun l π => if l = 2 * i then (2 * pd.length + 1, π) else (l, π)) O, by simp [h.len], h.gh, h.g0, h.gn, ?_, h.cok, h.fr, h.al, h.mp, ?_, ⟨?_, ?_⟩, Nat.le_succ_of_le h.np⟩
  · intro a m e
    obtain ⟨l, π, e1, rfl⟩ := lab_of e
    obtain ⟨q1, q2, q3⟩ := h.og a _ e1
    refine ⟨q1, q2, ?_⟩
    try dsimp only
    split
    · rename_i z
      rcases q3 with q3 | ⟨_, q3⟩
      · exact .inl q3
      · rcases h.cok _ _ _ q3 with ⟨k, u, q4, q5⟩ | ⟨k, q4, _⟩
        · have : k = i := by have := q4.symm.trans z; omega
          exact absurd (this ▸ q5) (hm u)
        · omega
    · exact q3
  · intro j e q
    rcases set_at q with ⟨rfl, z⟩ | ⟨z, q'⟩
    · cases z
    · obtain ⟨u, h1, h2⟩ := h.sl j e q'
      refine ⟨u, h1, ?_⟩
      split at h2
      · rename_i c; rw [if_pos c]; exact h2.keep (fun _ _ z => z) fun a τ q => ⟨by rw [lab_at q, if_neg (by omega)], rfl⟩
      · rename_i c; rw [if_neg c]; exact h2
  · exact s.keep (fun _ _ z => z) fun a τ q => ⟨by rw [lab_at q, if_pos rfl], rfl⟩
  · exact Pend.keep (fun _ _ z => z) (fun a j π hj q => ⟨by rw [lab_at q, if_neg (fun z => even_ne z.symm)], rfl⟩) h.pn
/-- an owned list is written -/
theorem RO.write (h : RO C ow G ρ σ H pd O) {i : Nat} {ds : List D} (e : ρ[i]? = some (some (.lst ds))) (hi : ow[i]? = some true) :
    ∃ a xs, σ[i]? = some (some (.ref a)) ∧ H a = some (.lst xs) ∧ Seps G H O (2 * i) ds 0 [] xs ∧
      ∀ ds' xs', Seps G H O (2 * i) ds' 0 [] xs' → RO C ow G (ρ.set i (some (.lst ds'))) σ (upd H a (.lst xs')) pd O := by
  obtain ⟨v, hv, s⟩ := h.sl i _ e
  rw [if_pos hi, Sep] at s
  obtain ⟨a, xs, rfl, hO, hH, hs⟩ := s
  refine ⟨a, xs, hv, hH, hs, fun ds' xs' hs' => ?_⟩
  obtain ⟨g0, _, nw⟩ := h.og a _ hO
  have ne : ∀ b l π, O b = some (l, π) → (l ≠ 2 * i ∨ π ≠ []) → b ≠ a := fun b l π q n z => by
    subst z
    rw [hO] at q
    obtain ⟨q1, q2⟩ := Prod.mk.inj (Option.some.inj q)
    rcases n with n | n
    · exact n q1.symm
    · exact n q2.symm
  refine ⟨by simp [h.len], ?_, h.g0, h.gn, ?_, h.cok, ?_, ?_, h.mp, ?_, ?_, h.np⟩
  · intro b o q
    rw [upd_ne (fun z => by rw [z, g0] at q; cases q)]; exact h.gh _ _ q
  · intro b l q
    obtain ⟨q1, ⟨ys, q2⟩, q3⟩ := h.og b l q
    refine ⟨q1, ?_, q3⟩
    by_cases z : b = a
    · subst z; exact ⟨_, upd_same⟩
    · rw [upd_ne z]; exact ⟨ys, q2⟩
  · intro b o q n
    by_cases z : b = a
    · subst z
      rcases nw with nw | ⟨_, nw⟩
      · rw [nw] at q; cases q
      · rw [nw] at n; cases n
    · rw [upd_ne z]; exact h.fr b o q n
  · intro b q
    by_cases z : b = a
    · subst z; rw [upd_same] at q; cases q
    · rw [upd_ne z] at q; exact h.al b q
  · intro j u q
    rcases set_at q with ⟨rfl, z⟩ | ⟨z, q'⟩
    · cases z
      refine ⟨_, hv, ?_⟩
      rw [if_pos hi, Sep]
      exact ⟨a, xs', rfl, hO, upd_same, hs'.keep (fun _ _ z => z) fun b τ hτ q => ⟨q, upd_ne (ne b _ _ q (.inr (by simpa using hτ)))⟩⟩
    · obtain ⟨w, h1, h2⟩ := h.sl j u q'
      refine ⟨w, h1, ?_⟩
      split at h2
      · rename_i c; rw [if_pos c]; exact h2.keep (fun _ _ z => z) fun b τ q => ⟨q, upd_ne (ne b _ _ q (.inl (by omega)))⟩
      · rename_i c; rw [if_neg c]; exact h2
  · exact Pend.keep (fun _ _ z => z) (fun b j π hj q => ⟨q, upd_ne (ne b _ _ q (.inl (fun z => even_ne z.symm)))⟩) h.pn
/-- the held value is to stand at the place n of an owned list -/
theorem RO.join {d : D} {v : V} (h : RO C ow G ρ σ H ((d, v) :: pd) O) (i n : Nat) (hn : C.np ≤ pd.length) :
    ∃ O', RO C ow G ρ σ H pd O' ∧ Sep G H O' (2 * i) d [n] v ∧ ∀ (l : Nat) ds k π xs, l ≠ 2 * pd.length + 1 → Seps G H O l ds k π xs → Seps G H O' l ds k π xs := by
  refine ⟨lab (fun l π => if l = 2 * pd.length + 1 then (2 * i, π ++ [n]) else (l, π)) O, ⟨h.len, h.gh, h.g0, h.gn, ?_, h.cok, h.fr, h.al, h.mp, ?_, ?_, hn⟩, ?_, ?_⟩
  · intro a m e
    obtain ⟨l, π, e1, rfl⟩ := lab_of e
    obtain ⟨q1, q2, q3⟩ := h.og a _ e1
    refine ⟨q1, q2, ?_⟩
    try dsimp only
    split
    · rename_i z
      rcases q3 with q3 | ⟨_, q3⟩
      · exact .inl q3
      · rcases h.cok _ _ _ q3 with ⟨k, _, q4, _⟩ | ⟨k, q4, q5⟩
        · exact absurd (q4.symm.trans z) even_ne
        · omega
    · exact q3
  · intro j e q
    obtain ⟨u, h1, h2⟩ := h.sl j e q
    refine ⟨u, h1, ?_⟩
    split at h2
    · rename_i c; rw [if_pos c]; exact h2.keep (fun _ _ z => z) fun a τ q => ⟨by rw [lab_at q, if_neg even_ne], rfl⟩
    · rename_i c; rw [if_neg c]; exact h2
  · exact Pend.keep (fun _ _ z => z) (fun a j π hj q => ⟨by rw [lab_at q, if_neg (by omega)], rfl⟩) h.pn.2
  · exact Sep.map (f := fun π => π ++ [n]) (fun _ _ z => z) (fun _ _ => rfl) d [] v (fun a τ q => ⟨by rw [lab_at q, if_pos rfl], rfl⟩) h.pn.1
  · intro l ds k π xs hl hs
    exact hs.keep (fun _ _ z => z) fun a τ _ q => ⟨by rw [lab_at q, if_neg hl], rfl⟩
end
end L2

set_option Elab.async false
set_option linter.all false
set_option maxRecDepth 100000
set_option maxHeartbeats 1000000
namespace L2
open PySem PySem.Spec PyProof.Rows
/-! ### owned slots read as shared ones for a while -/
noncomputable def bor (js : List Nat) (ow : List Bool) : List Bool := ow.mapIdx fun j b => b && !js.contains j
theorem bor_iff {js : List Nat} {ow : List Bool} {j : Nat} : (bor js ow)[j]? = some true ↔ ow[j]? = some true ∧ js.contains j = false := by
  unfold bor
  rw [List.getElem?_mapIdx]
  cases e : ow[j]? with
  | none => simp
  | some b => cases b <;> simp
noncomputable def livB (ρ : DSt) (js : List Nat) (n l : Nat) : Bool := if l % 2 = 0 then (match ρ[l / 2]? with | some (some _) => !js.contains (l / 2) | _ => false) else decide (l / 2 < n)
noncomputable def demB (js : List Nat) (l : Nat) : Bool := decide (l % 2 = 0) && js.contains (l / 2)
noncomputable def ownOf (f : Nat → Bool) (O : Own) : Own := fun a => match O a with
  | some m => if f m.1 = true then some m else none
  | none => none
theorem ownOf_at {f : Nat → Bool} {O : Own} {a : Addr} {m : Nat × List Nat} (h : O a = some m) (hf : f m.1 = true) : ownOf f O a = some m := by unfold ownOf; rw [h]; show (if _ then _ else _) = _; rw [if_pos hf]
theorem ownOf_of {f : Nat → Bool} {O : Own} {a : Addr} {m : Nat × List Nat} (h : ownOf f O a = some m) : O a = some m ∧ f m.1 = true := by
  unfold ownOf at h
  cases e : O a with
  | none => rw [e] at h; cases h
  | some n =>
    rw [e] at h
    change (if _ then _ else _) = _ at h
    split at h
    · rename_i c; cases h; exact ⟨rfl, c⟩
    · cases h
noncomputable def isSm {α : Type} : Option α → Bool
  | some _ => true
  | none => false
section
variable {C : Ctx} {ow : List Bool} {G : Hp} {ρ : DSt} {σ : St} {H : Hp} {pd : List (D × V)} {O : Own}
noncomputable def gBor (js : List Nat) (G H : Hp) (O : Own) : Hp := fun a => if isSm (ownOf (demB js) O a) = true then H a else G a
noncomputable def cBor (js : List Nat) (G H : Hp) (O : Own) (ρ : DSt) (σ : St) (n : Nat) : Ctx := ⟨gBor js G H O, H, ownOf (livB ρ js n) O, σ, n⟩
theorem gBor_same (h : RO C ow G ρ σ H pd O) (js : List Nat) : Same G (gBor js G H O) := fun a o e => by
  show (if _ then _ else _) = _
  split
  · exact h.gh _ _ e
  · exact e
theorem isSm_of {α : Type} {o : Option α} (h : isSm o = true) : ∃ x, o = some x := by cases o with | none => cases h | some x => exact ⟨x, rfl⟩
theorem RO.enter (h : RO C ow G ρ σ H pd O) (js : List Nat) : RO (cBor js G H O ρ σ pd.length) (bor js ow) (gBor js G H O) ρ σ H pd (ownOf (livB ρ js pd.length) O) := by
  have sG := gBor_same h js
  refine ⟨h.len, ?_, fun _ _ e => e, fun _ _ e => .inl e, ?_, ?_, fun _ _ e _ => e, fun _ e => e, fun _ _ e => e, ?_, ?_, Nat.le_refl _⟩
  · intro a o e
    change (if _ then _ else _) = _ at e
    split at e
    · exact e
    · exact h.gh _ _ e
  · intro a l e
    obtain ⟨e1, e2⟩ := ownOf_of e
    obtain ⟨q1, q2, q3⟩ := h.og a l e1
    refine ⟨?_, q2, .inr ⟨l.2, e⟩⟩
    · show (if _ then _ else _) = _
      rw [if_neg]; exact q1
      intro z
      obtain ⟨m, z⟩ := isSm_of z
      obtain ⟨z1, z2⟩ := ownOf_of z
      rw [e1] at z1; cases z1
      unfold demB at z2; unfold livB at e2
      simp only [Bool.and_eq_true, decide_eq_true_eq] at z2
      rw [if_pos z2.1] at e2
      split at e2
      · rw [z2.2] at e2; cases e2
      · cases e2
  · intro a l π e
    obtain ⟨e1, e2⟩ := ownOf_of e
    unfold livB at e2
    split at e2
    · rename_i c
      split at e2
      · rename_i d hd
        obtain ⟨v, hv, _⟩ := h.sl _ _ hd
        exact .inl ⟨l / 2, v, by omega, hv⟩
      · cases e2
    · exact .inr ⟨l / 2, by omega, of_decide_eq_true e2⟩
  · intro j d e
    obtain ⟨v, h1, h2⟩ := h.sl j d e
    refine ⟨v, h1, ?_⟩
    by_cases c : ow[j]? = some true
    · rw [if_pos c] at h2
      by_cases c2 : js.contains j = true
      · rw [if_neg (fun z => by rw [bor_iff] at z; rw [c2] at z; exact absurd z.2 (by decide))]
        refine h2.rep sG.ts d [] v fun a τ xs q e => ?_
        show (if _ then _ else _) = _
        rw [if_pos]; exact e
        rw [ownOf_at q]; rfl
        unfold demB
        simp only [Bool.and_eq_true, decide_eq_true_eq]
        exact ⟨by omega, by rw [show 2 * j / 2 = j by omega]; exact c2⟩
      · rw [if_pos (bor_iff.mpr ⟨c, by simpa using c2⟩)]
        refine h2.keep sG.ts fun a τ q => ⟨ownOf_at q ?_, rfl⟩
        unfold livB
        show (if 2 * j % 2 = 0 then _ else _) = _
        rw [if_pos (by omega), show 2 * j / 2 = j by omega, e]
        simp at c2 ⊢; exact c2
    · rw [if_neg c] at h2
      rw [if_neg (fun z => c (bor_iff.mp z).1)]
      exact h2.mono sG
  · refine Pend.keep sG.ts (fun a j π hj q => ⟨ownOf_at q ?_, rfl⟩) h.pn
    unfold livB
    show (if (2 * j + 1) % 2 = 0 then _ else _) = _
    rw [if_neg (by omega), show (2 * j + 1) / 2 = j by omega]
    simpa using hj
/-- slots that are not owned stay -/
noncomputable def Kp (ow : List Bool) (ρ ρ' : DSt) : Prop := ∀ (j : Nat), ow[j]? ≠ some true → ρ'[j]? = ρ[j]?
noncomputable def gBack (js : List Nat) (O : Own) (G2 : Hp) : Hp := fun a => if isSm (ownOf (demB js) O a) = true then none else G2 a
noncomputable def oBack (js : List Nat) (O O2 : Own) : Own := fun a => match O2 a with
  | some l => some l
  | none => ownOf (demB js) O a
theorem RO.leave (h : RO C ow G ρ σ H pd O) {js : List Nat} {G2 : Hp} {ρ2 : DSt} {H2 : Hp} {pd2 : List (D × V)} {O2 : Own}
    (h2 : RO (cBor js G H O ρ σ pd.length) (bor js ow) G2 ρ2 σ H2 pd2 O2) (kp : Kp (bor js ow) ρ ρ2) :
    RO C ow (gBack js O G2) ρ2 σ H2 pd2 (oBack js O O2) ∧ Same G (gBack js O G2) ∧ TSame G2 (gBack js O G2) := by
  have sG := gBor_same h js
  have dm : ∀ a m, ownOf (demB js) O a = some m → O a = some m ∧ G a = none ∧ ∃ xs, H a = some (.lst xs) ∧ G2 a = some (.lst xs) := fun a m e => by
    obtain ⟨e1, e2⟩ := ownOf_of e
    obtain ⟨q1, ⟨xs, q2⟩, q3⟩ := h.og a m e1
    refine ⟨e1, q1, xs, q2, h2.g0 a _ ?_⟩
    show (if _ then _ else _) = _
    rw [if_pos (by rw [e]; rfl)]; exact q2
  have nd : ∀ a, G a ≠ none → ¬ isSm (ownOf (demB js) O a) = true := fun a g z => by
    obtain ⟨m, z⟩ := isSm_of z
    exact g (dm a m z).2.1
  have sG3 : Same G (gBack js O G2) := fun a o e => by
    show (if _ then _ else _) = _
    rw [if_neg (nd a (by rw [e]; simp))]
    exact h2.g0 a o (sG a o e)
  have ts : TSame G2 (gBack js O G2) := fun a xs e => by
    show (if _ then _ else _) = _
    rw [if_neg]; exact e
    intro z
    obtain ⟨m, z⟩ := isSm_of z
    obtain ⟨_, _, ys, _, q⟩ := dm a m z
    rw [e] at q; cases q
  have o2 : ∀ a l, O2 a = some l → oBack js O O2 a = some l := fun a l e => by show (match O2 a with | some l => some l | none => _) = _; rw [e]
  refine ⟨⟨h2.len, ?_, fun a o e => sG3 _ _ (h.g0 _ _ e), ?_, ?_, h.cok, ?_, fun a e => h.al a (h2.al a e), h.mp, ?_, ?_, Nat.le_trans h.np h2.np⟩, sG3, ts⟩
  · intro a o e
    change (if _ then _ else _) = _ at e
    split at e
    · cases e
    · exact h2.gh _ _ e
  · intro a o e
    change (if _ then _ else _) = _ at e
    split at e
    · cases e
    · rename_i c
      rcases h2.gn a o e with q | q
      · change (if _ then _ else _) = _ at q
        rw [if_neg c] at q
        exact h.gn a o q
      · exact .inr (h.al a q)
  · intro a l e
    change (match O2 a with | some l => some l | none => _) = _ at e
    cases q : O2 a with
    | some l' =>
      rw [q] at e; cases e
      obtain ⟨q1, q2, q3⟩ := h2.og a l q
      refine ⟨by show (if _ then _ else _) = _; split <;> first | rfl | exact q1, q2, ?_⟩
      rcases q3 with q3 | ⟨q3, q4⟩
      · exact .inl (h.al a q3)
      · exact (h.og a _ (ownOf_of q4).1).2.2
    | none =>
      rw [q] at e
      change ownOf (demB js) O a = some l at e
      obtain ⟨e1, q1, xs, q2, q3⟩ := dm a l e
      refine ⟨by show (if _ then _ else _) = _; rw [if_pos (by rw [e]; rfl)], ⟨xs, h2.gh _ _ q3⟩, (h.og a l e1).2.2⟩
  · intro a o e n
    have q := h.fr a o e n
    refine h2.fr a o q ?_
    show ownOf _ O a = none
    cases z : ownOf (livB ρ js pd.length) O a with
    | none => rfl
    | some m =>
      obtain ⟨z1, _⟩ := ownOf_of z
      obtain ⟨_, _, z3⟩ := h.og a m z1
      rcases z3 with z3 | ⟨_, z3⟩
      · rw [z3] at e; cases e
      · rw [z3] at n; cases n
  · intro j d e
    by_cases c : (bor js ow)[j]? = some true
    · obtain ⟨v, q1, q2⟩ := h2.sl j d e
      rw [if_pos c] at q2
      refine ⟨v, q1, ?_⟩
      rw [if_pos (bor_iff.mp c).1]
      exact q2.keep ts fun a τ q => ⟨o2 _ _ q, rfl⟩
    · rw [kp j c] at e
      obtain ⟨v, q1, q2⟩ := h.sl j d e
      refine ⟨v, q1, ?_⟩
      by_cases c2 : ow[j]? = some true
      · rw [if_pos c2] at q2 ⊢
        have hj : js.contains j = true := by
          cases z : js.contains j with
          | true => rfl
          | false => exact absurd (bor_iff.mpr ⟨c2, z⟩) c
        refine q2.keep sG3.ts fun a τ q => ?_
        have dd : ownOf (demB js) O a = some (2 * j, τ ++ []) := ownOf_at q (by
          unfold demB
          simp only [Bool.and_eq_true, decide_eq_true_eq]
          exact ⟨by omega, by rw [show 2 * j / 2 = j by omega]; exact hj⟩)
        obtain ⟨_, _, xs, q4, q5⟩ := dm a _ dd
        refine ⟨?_, by rw [q4]; exact h2.gh _ _ q5⟩
        show (match O2 a with | some l => some l | none => _) = _
        cases z : O2 a with
        | some l => have := (h2.og a l z).1; rw [q5] at this; cases this
        | none => exact dd
      · rw [if_neg c2] at q2 ⊢
        exact q2.mono sG3
  · exact Pend.keep ts (fun a j π hj q => ⟨o2 _ _ q, rfl⟩) h2.pn
end
end L2

set_option Elab.async false
set_option linter.all false
set_option maxRecDepth 100000
set_option maxHeartbeats 1000000
namespace L2
open PySem PySem.Spec PyProof.Rows
/-! ### the judgements over data -/
noncomputable abbrev ME := DSt → (D → DSt → Prop) → Prop
noncomputable abbrev MT := DSt → (Bool → DSt → Prop) → Prop
noncomputable abbrev MA := DSt → (List D → DSt → Prop) → Prop
noncomputable def SE (ow : List Bool) (t : TE) (m : ME) : Prop := ∀ (C : Ctx) (G : Hp) (ρ : DSt) (σ : St) (H : Hp) (pd : List (D × V)) (q : D → DSt → Prop) (Q : VK), R C ow G ρ σ H pd → m ρ q →
  (∀ d ρ' v G' H', q d ρ' → Same G G' → Kp ow ρ ρ' → R C ow G' ρ' σ H' pd → Rep G' d v → Q v H') → t σ H Q
noncomputable def SF (ow : List Bool) (t : TE) (m : ME) : Prop := ∀ (C : Ctx) (G : Hp) (ρ : DSt) (σ : St) (H : Hp) (pd : List (D × V)) (q : D → DSt → Prop) (Q : VK), R C ow G ρ σ H pd → m ρ q →
  (∀ d ρ' v G' H', q d ρ' → Same G G' → Kp ow ρ ρ' → R C ow G' ρ' σ H' ((d, v) :: pd) → Q v H') → t σ H Q
noncomputable def STe (ow : List Bool) (t : TT) (m : MT) : Prop := ∀ (C : Ctx) (G : Hp) (ρ : DSt) (σ : St) (H : Hp) (pd : List (D × V)) (q : Bool → DSt → Prop) (Q : Bool → Hp → Prop), R C ow G ρ σ H pd → m ρ q →
  (∀ b ρ' G' H', q b ρ' → Same G G' → Kp ow ρ ρ' → R C ow G' ρ' σ H' pd → Q b H') → t σ H Q
noncomputable def SA (ow : List Bool) (n : Nat) (t : TA) (m : MA) : Prop := ∀ (C : Ctx) (G : Hp) (ρ : DSt) (σ : St) (H : Hp) (pd : List (D × V)) (q : List D → DSt → Prop) (Q : List V → Hp → Prop), R C ow G ρ σ H pd → m ρ q →
  (∀ ds ρ' vs G' H', q ds ρ' → Same G G' → Kp ow ρ ρ' → R C ow G' ρ' σ H' pd → Reps G' ds vs → vs.length = n → Q vs H') → t σ H Q
structure QE (X : Cx) (ow : List Bool) (e : Expr) (m : ME) : Prop where
  ex : ∃ t, PE X e t ∧ SE ow t m
structure QF (X : Cx) (ow : List Bool) (e : Expr) (m : ME) : Prop where
  ex : ∃ t, PE X e t ∧ SF ow t m
structure QT (X : Cx) (ow : List Bool) (e : Expr) (m : MT) : Prop where
  ex : ∃ t, PT X e t ∧ STe ow t m
structure QW (X : Cx) (ow : List Bool) (e : Expr) (m : MT) : Prop where
  ex : ∃ t, PW X e t ∧ STe ow t m
structure QA (X : Cx) (ow : List Bool) (es : List Expr) (m : MA) : Prop where
  ex : ∃ t, PA X es t ∧ SA ow es.length t m
theorem Kp.refl {ow : List Bool} {ρ : DSt} : Kp ow ρ ρ := fun _ _ => rfl
theorem Kp.trans {ow : List Bool} {ρ ρ1 ρ2 : DSt} (a : Kp ow ρ ρ1) (b : Kp ow ρ1 ρ2) : Kp ow ρ ρ2 := fun j h => (b j h).trans (a j h)
theorem R.gh {C : Ctx} {ow : List Bool} {G : Hp} {ρ : DSt} {σ : St} {H : Hp} {pd : List (D × V)} (h : R C ow G ρ σ H pd) : Same G H := let ⟨_, h⟩ := h; h.gh
theorem R.np {C : Ctx} {ow : List Bool} {G : Hp} {ρ : DSt} {σ : St} {H : Hp} {pd : List (D × V)} (h : R C ow G ρ σ H pd) : C.np ≤ pd.length := let ⟨_, h⟩ := h; h.np
section
variable {X : Cx} {ow : List Bool} {a b c e : Expr} {ma mb mc : ME} {pos : Pos}
/-! ### names, constants -/
noncomputable def mVar (i : Nat) : ME := fun ρ q => match ρ[i]? with
  | some (some d) => q d ρ
  | _ => False
theorem qe_var (i : Nat) {x : Str} (hs : ow[i]? ≠ some true := by decide) (hN : X.N[i]? = some x := by rfl) (hv : Vis X.env.scope x := by first | exact Or.inl rfl | exact Or.inr (Or.inl rfl) | exact Or.inr (Or.inr rfl)) (hd : (x == ("__debug__" : Str)) = false := by decide)
    (hcd : (x == ("__classdict__" : Str)) = false := by decide) : QE X ow (.Name x pos) (mVar i) := ⟨_, pe_var hN hv hd hcd, fun C G ρ σ H pd q Q r h k => by
  unfold mVar at h
  split at h
  · rename_i d e
    obtain ⟨O, ro⟩ := r
    obtain ⟨v, h1, h2⟩ := ro.sl i d e
    rw [if_neg hs] at h2
    exact ⟨v, h1, k d ρ v G H h (Same.refl _) Kp.refl ⟨O, ro⟩ h2⟩
  · exact h.elim⟩
noncomputable def mC (d : D) : ME := fun ρ q => q d ρ
theorem qe_c {v : V} {d : D} (h : PE X e (tC v)) (hr : ∀ G, Rep G d v) : QE X ow e (mC d) := ⟨_, h, fun C G ρ σ H pd q Q r h k => k d ρ v G H h (Same.refl _) Kp.refl r (hr G)⟩
theorem qe_int {i j} : QE X ow (.Constant (.int i) j pos) (mC (.int i)) := qe_c pe_int fun _ => rep_int _
theorem qe_bl {i j} : QE X ow (.Constant (.bool i) j pos) (mC (.bl i)) := qe_c pe_bl fun _ => rep_bl _
theorem qe_non {j} : QE X ow (.Constant .none j pos) (mC .non) := qe_c pe_non fun _ => rep_non
theorem qe_str {i j} : QE X ow (.Constant (.str i) j pos) (mC (.str i)) := qe_c pe_str fun _ => rep_str _
/-! ### two things and an operation -/
theorem se_two {ta tb : TE} (ha : SE ow ta ma) (hb : SE ow tb mb) {C : Ctx} {G : Hp} {ρ : DSt} {σ : St} {H : Hp} {pd : List (D × V)} {f : D → D → DSt → Prop} {Q : V → V → Hp → Prop}
    (r : R C ow G ρ σ H pd) (h : ma ρ fun x ρ1 => mb ρ1 fun y ρ2 => f x y ρ2)
    (k : ∀ dx dy ρ' x y G' H', f dx dy ρ' → Same G G' → Kp ow ρ ρ' → R C ow G' ρ' σ H' pd → Rep G' dx x → Rep G' dy y → Q x y H') : ta σ H fun x H1 => tb σ H1 fun y H2 => Q x y H2 := by
  refine ha C G ρ σ H pd _ _ r h fun dx ρ1 x G1 H1 h1 s1 k1 r1 p1 => ?_
  refine hb C G1 ρ1 σ H1 pd _ _ r1 h1 fun dy ρ2 y G2 H2 h2 s2 k2 r2 p2 => ?_
  exact k dx dy ρ2 x y G2 H2 h2 (s1.trans s2) (k1.trans k2) r2 (Rep.mono s2 _ _ p1) p2
noncomputable def DOp (r : R2) (f : D → D → (D → Prop) → Prop) : Prop := ∀ (G H : Hp) (x y : V) (dx dy : D) (q : D → Prop) (Q : VK), Same G H → Rep G dx x → Rep G dy y → f dx dy q → (∀ d v, q d → Rep G d v → Q v H) → r x y H Q
noncomputable def mOp (f : D → D → (D → Prop) → Prop) (ma mb : ME) : ME := fun ρ q => ma ρ fun x ρ1 => mb ρ1 fun y ρ2 => f x y fun d => q d ρ2
theorem se_op {r : R2} {f : D → D → (D → Prop) → Prop} {ta tb : TE} (hd : DOp r f) (ha : SE ow ta ma) (hb : SE ow tb mb) : SE ow (tOp r ta tb) (mOp f ma mb) := fun C G ρ σ H pd q Q hr h k => by
  refine se_two ha hb hr h fun dx dy ρ' x y G' H' hf s kp r' p1 p2 => ?_
  exact hd G' H' x y dx dy _ _ r'.gh p1 p2 hf fun d v hq p => k d ρ' v G' H' hq s kp r' p
theorem qe_op {op : Operator} {r : R2} {f : D → D → (D → Prop) → Prop} (ho : OpR X (binaryOp op) r) (hd : DOp r f) (ha : QE X ow a ma) (hb : QE X ow b mb) : QE X ow (.BinOp a op b pos) (mOp f ma mb) := by
  obtain ⟨ta, pa, sa⟩ := ha; obtain ⟨tb, pb, sb⟩ := hb
  exact ⟨_, pe_op ho pa pb, se_op hd sa sb⟩
theorem qe_cmp {op : CmpOp} {r : R2} {f : D → D → (D → Prop) → Prop} (ho : OpR X (compareOp op) r) (hd : DOp r f) (ha : QE X ow a ma) (hb : QE X ow b mb) (hm : behindInMarks op b = false) : QE X ow (.Compare a [op] [b] pos) (mOp f ma mb) := by
  obtain ⟨ta, pa, sa⟩ := ha; obtain ⟨tb, pb, sb⟩ := hb
  exact ⟨_, pe_cmpR ho pa pb hm, se_op hd sa sb⟩
theorem qe_ix {r : R2} {f : D → D → (D → Prop) → Prop} (ho : IxR X r) (hd : DOp r f) (ha : QE X ow a ma) (hb : QE X ow b mb) (hs : PlainIx b) : QE X ow (.Subscript a b pos) (mOp f ma mb) := by
  obtain ⟨ta, pa, sa⟩ := ha; obtain ⟨tb, pb, sb⟩ := hb
  exact ⟨_, pe_ix ho pa pb hs, se_op hd sa sb⟩
noncomputable def mB (m : ME) : MT := fun ρ q => m ρ fun d ρ' => match d with
  | .bl b => q b ρ'
  | _ => False
theorem rep_bl_of {G : Hp} {b : Bool} {v : V} (h : Rep G (.bl b) v) : v = .bl b := by rw [Rep] at h; exact h
theorem rep_int_of {G : Hp} {b : Int} {v : V} (h : Rep G (.int b) v) : v = .int b := by rw [Rep] at h; exact h
theorem st_of {t : TE} {m : ME} (h : SE ow t m) : STe ow (tTest t) (mB m) := fun C G ρ σ H pd q Q r hm k => by
  refine h C G ρ σ H pd _ _ r hm fun d ρ' v G' H' hq s kp r' p => ?_
  cases d with
  | bl b => exact ⟨b, rep_bl_of p, k b ρ' G' H' hq s kp r'⟩
  | _ => exact hq.elim
theorem qt_cmp {op : CmpOp} {r : R2} {f : D → D → (D → Prop) → Prop} (ho : OpR X (compareOp op) r) (hd : DOp r f) (ha : QE X ow a ma) (hb : QE X ow b mb) (hm : behindInMarks op b = false) : QT X ow (.Compare a [op] [b] pos) (mB (mOp f ma mb)) := by
  obtain ⟨ta, pa, sa⟩ := ha; obtain ⟨tb, pb, sb⟩ := hb
  exact ⟨_, pt_cmpR ho pa pb hm, st_of (se_op hd sa sb)⟩
theorem qt_val (h : QE X ow e ma) (he : ∀ whole, isTrue e X.env whole = (do let v ← whole; standAt e.pos; holding [v] (truthy v)) := by intro _; rfl) : QT X ow e (mB ma) := by
  obtain ⟨ta, pa, sa⟩ := h
  exact ⟨_, pt_val pa he, st_of sa⟩
/-! ### and, or, not, a if c else b -/
noncomputable def mIf {α : Type} (m : MT) (x y : DSt → (α → DSt → Prop) → Prop) : DSt → (α → DSt → Prop) → Prop := fun ρ q => m ρ fun b ρ1 => if b = true then x ρ1 q else y ρ1 q
noncomputable def mYes (b : Bool) : MT := fun ρ q => q b ρ
theorem st_if {t t1 t2 : TT} {m m1 m2 : MT} (h : STe ow t m) (h1 : STe ow t1 m1) (h2 : STe ow t2 m2) : STe ow (fun σ H Q => t σ H fun c H1 => if c = true then t1 σ H1 Q else t2 σ H1 Q) (mIf m m1 m2) := fun C G ρ σ H pd q Q r hm k => by
  refine h C G ρ σ H pd _ _ r hm fun b ρ' G' H' hq s kp r' => ?_
  cases b with
  | true => rw [if_pos rfl] at hq ⊢; exact h1 C G' ρ' σ H' pd _ _ r' hq fun b ρ2 G2 H2 hq2 s2 kp2 r2 => k b ρ2 G2 H2 hq2 (s.trans s2) (kp.trans kp2) r2
  | false => rw [if_neg (by decide)] at hq ⊢; exact h2 C G' ρ' σ H' pd _ _ r' hq fun b ρ2 G2 H2 hq2 s2 kp2 r2 => k b ρ2 G2 H2 hq2 (s.trans s2) (kp.trans kp2) r2
theorem st_yes (b : Bool) : STe ow (fun _ H Q => Q b H) (mYes b) := fun C G ρ σ H pd q Q r hm k => k b ρ G H hm (Same.refl _) Kp.refl r
variable {mt mu mv : MT} {rest : List Expr}
theorem qw_and1 (h : QT X ow a mt) : QW X ow (.BoolOp .And [a] pos) mt := by obtain ⟨t, p, s⟩ := h; exact ⟨_, pw_and1 p, s⟩
theorem qw_or1 (h : QT X ow a mt) : QW X ow (.BoolOp .Or [a] pos) mt := by obtain ⟨t, p, s⟩ := h; exact ⟨_, pw_or1 p, s⟩
theorem qw_and (h : QT X ow a mt) (h2 : QW X ow (.BoolOp .And (b :: rest) pos) mu) : QW X ow (.BoolOp .And (a :: b :: rest) pos) (mIf mt mu (mYes false)) := by
  obtain ⟨t, p, s⟩ := h; obtain ⟨t2, p2, s2⟩ := h2; exact ⟨_, pw_and p p2, st_if s s2 (st_yes false)⟩
theorem qw_or (h : QT X ow a mt) (h2 : QW X ow (.BoolOp .Or (b :: rest) pos) mu) : QW X ow (.BoolOp .Or (a :: b :: rest) pos) (mIf mt (mYes true) mu) := by
  obtain ⟨t, p, s⟩ := h; obtain ⟨t2, p2, s2⟩ := h2; exact ⟨_, pw_or p p2, st_if s (st_yes true) s2⟩
theorem QW.qt (h : QW X ow e mt) : QT X ow e mt := by obtain ⟨t, p, s⟩ := h; exact ⟨_, p.pt, s⟩
noncomputable def mNot (m : MT) : MT := fun ρ q => m ρ fun b ρ' => q (!b) ρ'
theorem qt_not (h : QT X ow a mt) : QT X ow (.UnaryOp .Not a pos) (mNot mt) := by
  obtain ⟨t, p, s⟩ := h
  exact ⟨_, pt_not p, fun C G ρ σ H pd q Q r hm k => s C G ρ σ H pd _ _ r hm fun b ρ' G' H' hq s kp r' => k _ ρ' G' H' hq s kp r'⟩
/-- a truth as a value -/
noncomputable def mV (m : MT) : ME := fun ρ q => m ρ fun b ρ' => q (.bl b) ρ'
theorem qe_one {op} (h : QE X ow a ma) : QE X ow (.BoolOp op [a] pos) ma := by obtain ⟨t, p, s⟩ := h; exact ⟨_, pe_one p, s⟩
theorem qe_not (h : QE X ow a ma) : QE X ow (.UnaryOp .Not a pos) (mV (mNot (mB ma))) := by
  obtain ⟨t, p, s⟩ := h
  refine ⟨_, pe_not p, fun C G ρ σ H pd q Q r hm k => ?_⟩
  refine s C G ρ σ H pd _ _ r hm fun d ρ' v G' H' hq s kp r' p => ?_
  cases d with
  | bl b => exact ⟨b, rep_bl_of p, k _ ρ' _ G' H' hq s kp r' (rep_bl _)⟩
  | _ => exact hq.elim
theorem qe_and (h : QE X ow a ma) (h2 : QE X ow (.BoolOp .And (b :: rest) pos) mb) : QE X ow (.BoolOp .And (a :: b :: rest) pos) (mIf (mB ma) mb (mC (.bl false))) := by
  obtain ⟨t, p, s⟩ := h; obtain ⟨t2, p2, s2⟩ := h2
  refine ⟨_, pe_and p p2, fun C G ρ σ H pd q Q r hm k => ?_⟩
  refine s C G ρ σ H pd _ _ r hm fun d ρ' v G' H' hq s kp r' p => ?_
  cases d with
  | bl b =>
    refine ⟨b, rep_bl_of p, ?_⟩
    change (if b = true then _ else _) at hq
    cases b with
    | true => rw [if_pos rfl] at hq ⊢; exact s2 C G' ρ' σ H' pd _ _ r' hq fun d ρ2 v G2 H2 hq2 z2 kp2 r2 p2 => k d ρ2 v G2 H2 hq2 (s.trans z2) (kp.trans kp2) r2 p2
    | false => rw [if_neg (by decide)] at hq ⊢; exact k _ ρ' _ G' H' hq s kp r' (rep_bl _)
  | _ => exact hq.elim
/-! ### between shared and held -/
noncomputable def mImm (m : ME) : ME := fun ρ q => m ρ fun d ρ' => imm d = true ∧ q d ρ'
theorem QE.qf (h : QE X ow e ma) : QF X ow e (mImm ma) := by
  obtain ⟨t, p, s⟩ := h
  refine ⟨_, p, fun C G ρ σ H pd q Q r hm k => s C G ρ σ H pd _ _ r hm fun d ρ' v G' H' hq s kp r' p => ?_⟩
  obtain ⟨O, r'⟩ := r'
  exact k d ρ' v G' H' hq.2 s kp ⟨O, r'.len, r'.gh, r'.g0, r'.gn, r'.og, r'.cok, r'.fr, r'.al, r'.mp, r'.sl, ⟨p.sep d [] v hq.1, r'.pn⟩, Nat.le_succ_of_le r'.np⟩
/-- owned slots, read -/
theorem kp_bor {js : List Nat} {ρ ρ' : DSt} (h : Kp (bor js ow) ρ ρ') : Kp ow ρ ρ' := fun j n => h j fun z => n (bor_iff.mp z).1
theorem QE.bor (js : List Nat) (h : QE X (bor js ow) e ma) : QE X ow e (mImm ma) := by
  obtain ⟨t, p, s⟩ := h
  refine ⟨_, p, fun C G ρ σ H pd q Q r hm k => ?_⟩
  obtain ⟨O, r⟩ := r
  refine s _ _ ρ σ H pd _ _ ⟨_, r.enter js⟩ hm fun d ρ' v G' H' hq s kp r' p => ?_
  obtain ⟨O', r'⟩ := r'
  obtain ⟨r2, s2, ts⟩ := r.leave r' kp
  exact k d ρ' v _ H' hq.2 s2 (kp_bor kp) ⟨_, r2⟩ (p.imms ts d v hq.1)
theorem QF.bor (js : List Nat) (h : QF X (bor js ow) e ma) : QF X ow e ma := by
  obtain ⟨t, p, s⟩ := h
  refine ⟨_, p, fun C G ρ σ H pd q Q r hm k => ?_⟩
  obtain ⟨O, r⟩ := r
  refine s _ _ ρ σ H pd _ _ ⟨_, r.enter js⟩ hm fun d ρ' v G' H' hq s kp r' => ?_
  obtain ⟨O', r'⟩ := r'
  obtain ⟨r2, s2, ts⟩ := r.leave r' kp
  exact k d ρ' v _ H' hq s2 (kp_bor kp) ⟨_, r2⟩
theorem QT.bor (js : List Nat) (h : QT X (bor js ow) e mt) : QT X ow e mt := by
  obtain ⟨t, p, s⟩ := h
  refine ⟨_, p, fun C G ρ σ H pd q Q r hm k => ?_⟩
  obtain ⟨O, r⟩ := r
  refine s _ _ ρ σ H pd _ _ ⟨_, r.enter js⟩ hm fun d ρ' G' H' hq s kp r' => ?_
  obtain ⟨O', r'⟩ := r'
  obtain ⟨r2, s2, ts⟩ := r.leave r' kp
  exact k d ρ' _ H' hq s2 (kp_bor kp) ⟨_, r2⟩
/-! ### argument lists, displays -/
noncomputable def mNil : MA := fun ρ q => q [] ρ
noncomputable def mCons (m : ME) (r : MA) : MA := fun ρ q => m ρ fun d ρ1 => r ρ1 fun ds ρ2 => q (d :: ds) ρ2
variable {mr : MA} {es : List Expr}
theorem qa_nil : QA X ow [] mNil := ⟨_, pa_nil, fun C G ρ σ H pd q Q r h k => k [] ρ [] G H h (Same.refl _) Kp.refl r reps_nil rfl⟩
theorem qa_cons (ha : QE X ow e ma) (hr : QA X ow es mr) (hs : starEach (e :: es) X.env = (false, eval e X.env) :: starEach es X.env := by rfl) : QA X ow (e :: es) (mCons ma mr) := by
  obtain ⟨t, p, s⟩ := ha; obtain ⟨t2, p2, s2⟩ := hr
  refine ⟨_, pa_cons p p2 hs, fun C G ρ σ H pd q Q r hm k => ?_⟩
  refine s C G ρ σ H pd _ _ r hm fun d ρ' v G' H' hq z kp r' p => ?_
  refine s2 C G' ρ' σ H' pd _ _ r' hq fun ds ρ2 vs G2 H2 hq2 z2 kp2 r2 p2 hl => ?_
  exact k (d :: ds) ρ2 (v :: vs) G2 H2 hq2 (z.trans z2) (kp.trans kp2) r2 (reps_cons (Rep.mono z2 _ _ p) p2) (by simp [hl])
noncomputable def mTup (m : MA) : ME := fun ρ q => m ρ fun ds ρ' => q (.tup ds) ρ'
noncomputable def mLst (m : MA) : ME := fun ρ q => m ρ fun ds ρ' => q (.lst ds) ρ'
noncomputable def mLstI (m : MA) : ME := fun ρ q => m ρ fun ds ρ' => imms ds = true ∧ q (.lst ds) ρ'
theorem le_line {n : Nat} (h : n ≤ 1000) : n ≤ sizeLine := Nat.le_of_lt (small1000 h)
theorem qe_tup {x1} (h : QA X ow es mr) (hl : es.length ≤ 1000 := by decide) : QE X ow (.Tuple es x1 pos) (mTup mr) := by
  obtain ⟨t, p, s⟩ := h
  refine ⟨_, pe_tup p, fun C G ρ σ H pd q Q r hm k => s C G ρ σ H pd _ _ r hm fun ds ρ' vs G' H' hq z kp r' p hn => ⟨le_line (by omega), fun a ha => ?_⟩⟩
  obtain ⟨O, r'⟩ := r'
  obtain ⟨r2, s2⟩ := r'.new ha (.tup vs)
  exact k _ ρ' _ _ _ hq (z.trans s2) kp ⟨O, r2⟩ (rep_tup upd_same (Reps.mono s2 _ _ p))
theorem qe_lst (h : QA X ow es mr) (hl : es.length ≤ 1000 := by decide) : QE X ow (.List es pos) (mLst mr) := by
  obtain ⟨t, p, s⟩ := h
  refine ⟨_, pe_lst p, fun C G ρ σ H pd q Q r hm k => s C G ρ σ H pd _ _ r hm fun ds ρ' vs G' H' hq z kp r' p hn => ⟨le_line (by omega), fun a ha => ?_⟩⟩
  obtain ⟨O, r'⟩ := r'
  obtain ⟨r2, s2⟩ := r'.new ha (.lst vs)
  exact k _ ρ' _ _ _ hq (z.trans s2) kp ⟨O, r2⟩ (rep_lst upd_same (Reps.mono s2 _ _ p))
theorem qf_lst (h : QA X ow es mr) (hl : es.length ≤ 1000 := by decide) : QF X ow (.List es pos) (mLstI mr) := by
  obtain ⟨t, p, s⟩ := h
  refine ⟨_, pe_lst p, fun C G ρ σ H pd q Q r hm k => s C G ρ σ H pd _ _ r hm fun ds ρ' vs G' H' hq z kp r' p hn => ⟨le_line (by omega), fun a ha => ?_⟩⟩
  obtain ⟨O, r'⟩ := r'
  exact k _ ρ' _ _ _ hq.2 z kp (r'.newL ha hq.1 p)
/-! ### built-in functions -/
noncomputable def DCall (r : List V → Hp → VK → Prop) (f : List D → (D → Prop) → Prop) : Prop := ∀ (G H : Hp) (xs : List V) (ds : List D) (q : D → Prop) (Q : VK), Same G H → Reps G ds xs → f ds q → (∀ d v, q d → Rep G d v → Q v H) → r xs H Q
noncomputable def mCB (f : List D → (D → Prop) → Prop) (m : MA) : ME := fun ρ q => m ρ fun ds ρ' => f ds fun d => q d ρ'
theorem se_cb {r : List V → Hp → VK → Prop} {f : List D → (D → Prop) → Prop} {t : TA} {n : Nat} (hd : DCall r f) (s : SA ow n t mr) : SE ow (tCB r t) (mCB f mr) := fun C G ρ σ H pd q Q hr hm k =>
  s C G ρ σ H pd _ _ hr hm fun ds ρ' vs G' H' hq z kp r' p hn => hd G' H' vs ds _ _ r'.gh p hq fun d v hq p => k d ρ' v G' H' hq z kp r' p
variable {x : Str} {p' : Pos}
theorem qe_callB {id : String} {r : List V → Hp → VK → Prop} {f : List D → (D → Prop) → Prop} (hc : CallR X (.builtin id) r) (hd : DCall r f) (hg : Gl X x) (hm : X.mg x = none) (hv : bootBuiltins x = some (.builtin id)) (ha : QA X ow (e :: es) mr) (hn : x ≠ "__name__" := by decide) (hdb : (x == ("__debug__" : Str)) = false := by decide)
    (he : starEach (e :: es) X.env = (false, eval e X.env) :: starEach es X.env := by rfl) (hpl : (backTo pos (starEach es X.env)).any (·.1) = false := by rfl) : QE X ow (.Call (.Name x p') (e :: es) [] pos) (mCB f mr) := by
  obtain ⟨t, p, s⟩ := ha
  exact ⟨_, pe_callB hc hg hm hv p hn hdb he hpl, se_cb hd s⟩
theorem qe_callTy {id : String} {r : List V → Hp → VK → Prop} {f : List D → (D → Prop) → Prop} (hc : CallR X (.type id) r) (hd : DCall r f) (hg : Gl X x) (hm : X.mg x = none) (hv : bootBuiltins x = some (.type id)) (ha : QA X ow (e :: es) mr) (hn : x ≠ "__name__" := by decide) (hdb : (x == ("__debug__" : Str)) = false := by decide)
    (he : starEach (e :: es) X.env = (false, eval e X.env) :: starEach es X.env := by rfl) (hpl : (backTo pos (starEach es X.env)).any (·.1) = false := by rfl) : QE X ow (.Call (.Name x p') (e :: es) [] pos) (mCB f mr) := by
  obtain ⟨t, p, s⟩ := ha
  exact ⟨_, pe_callTy hc hg hm hv p hn hdb he hpl, se_cb hd s⟩
end
end L2

set_option Elab.async false
set_option linter.all false
set_option maxRecDepth 100000
set_option maxHeartbeats 1000000
namespace L2
open PySem PySem.Spec PyProof.Rows
/-! ### operations of data -/
noncomputable def fI (g : Int → Int → Int) : D → D → (D → Prop) → Prop := fun a b q => match a, b with
  | .int i, .int j => q (.int (g i j))
  | _, _ => False
noncomputable def fIC (C : Int → Int → Prop) (g : Int → Int → Int) : D → D → (D → Prop) → Prop := fun a b q => match a, b with
  | .int i, .int j => C i j ∧ q (.int (g i j))
  | _, _ => False
noncomputable def fB (g : Int → Int → Bool) : D → D → (D → Prop) → Prop := fun a b q => match a, b with
  | .int i, .int j => q (.bl (g i j))
  | _, _ => False
theorem dI {g : Int → Int → Int} : DOp (rI0 fun i j => .int (g i j)) (fI g) := fun G H x y dx dy q Q s p1 p2 hf k => by
  unfold fI at hf
  split at hf
  · exact ⟨_, _, rep_int_of p1, rep_int_of p2, k _ _ hf (rep_int _)⟩
  · exact hf.elim
theorem dIC {C : Int → Int → Prop} {g : Int → Int → Int} : DOp (rI C fun i j => .int (g i j)) (fIC C g) := fun G H x y dx dy q Q s p1 p2 hf k => by
  unfold fIC at hf
  split at hf
  · exact ⟨_, _, rep_int_of p1, rep_int_of p2, hf.1, k _ _ hf.2 (rep_int _)⟩
  · exact hf.elim
theorem dB {g : Int → Int → Bool} : DOp (rI0 fun i j => .bl (g i j)) (fB g) := fun G H x y dx dy q Q s p1 p2 hf k => by
  unfold fB at hf
  split at hf
  · exact ⟨_, _, rep_int_of p1, rep_int_of p2, k _ _ hf (rep_bl _)⟩
  · exact hf.elim
/-- == : of numbers at once, of other data by their shape -/
noncomputable def eqD (a b : D) : Bool := PyData.eqv (toP a) (toP b)
noncomputable def okD (a : D) : Bool := SeqAt.shaped (toP a)
noncomputable def fEq : D → D → (D → Prop) → Prop := fun a b q => match a, b with
  | .int i, .int j => q (.bl (decide (i = j)))
  | a, b => okD a = true ∧ okD b = true ∧ q (.bl (eqD a b))
noncomputable def fNe : D → D → (D → Prop) → Prop := fun a b q => match a, b with
  | .int i, .int j => q (.bl (!decide (i = j)))
  | a, b => okD a = true ∧ okD b = true ∧ q (.bl (!eqD a b))
theorem eqD_int (i j : Int) : eqD (.int i) (.int j) = decide (i = j) := by
  unfold eqD; rw [toP, toP, PyData.eqv]; first | rfl | (rw [Bool.beq_eq_decide_eq])
theorem okD_int (i : Int) : okD (.int i) = true := by unfold okD; rw [toP]; rfl
theorem dEq : DOp rEqD fEq := fun G H x y dx dy q Q s p1 p2 hf k => by
  have main : okD dx = true ∧ okD dy = true ∧ q (.bl (eqD dx dy)) := by
    unfold fEq at hf
    split at hf
    · exact ⟨okD_int _, okD_int _, by rw [eqD_int]; exact hf⟩
    · exact hf
  exact ⟨dx, dy, Rep.mono s _ _ p1, Rep.mono s _ _ p2, main.1, main.2.1, k _ _ main.2.2 (rep_bl _)⟩
theorem dNe : DOp rNeD fNe := fun G H x y dx dy q Q s p1 p2 hf k => by
  have main : okD dx = true ∧ okD dy = true ∧ q (.bl (!eqD dx dy)) := by
    unfold fNe at hf
    split at hf
    · exact ⟨okD_int _, okD_int _, by rw [eqD_int]; exact hf⟩
    · exact hf
  exact ⟨dx, dy, Rep.mono s _ _ p1, Rep.mono s _ _ p2, main.1, main.2.1, k _ _ main.2.2 (rep_bl _)⟩
noncomputable def isNon : D → Bool
  | .non => true
  | _ => false
theorem rep_non_iff {G : Hp} {d : D} {v : V} (h : Rep G d v) : decide (v = .non) = isNon d := by
  cases d <;> rw [Rep] at h
  case non => subst h; rfl
  case tup => obtain ⟨a, xs, rfl, _⟩ := h; rfl
  case lst => obtain ⟨a, xs, rfl, _⟩ := h; rfl
  case dct => obtain ⟨a, xs, rfl, _⟩ := h; rfl
  case scr => obtain ⟨a, rfl, _⟩ := h; rfl
  case ext => obtain ⟨a, H0, rfl, _⟩ := h; rfl
  all_goals subst h; rfl
noncomputable def fIsN : D → D → (D → Prop) → Prop := fun a b q => match b with
  | .non => q (.bl (isNon a))
  | _ => False
theorem dIsN : DOp (fun x y H Q => y = .non ∧ Q (.bl (decide (x = .non))) H) fIsN := fun G H x y dx dy q Q s p1 p2 hf k => by
  unfold fIsN at hf
  split at hf
  · rw [Rep] at p2; exact ⟨p2, by rw [rep_non_iff p1]; exact k _ _ hf (rep_bl _)⟩
  · exact hf.elim
/-! ### in -/
/-! ### an item -/
noncomputable def atD (ds : List D) (i : Int) (q : D → Prop) : Prop := match atI ds i with
  | some d => q d
  | none => False
noncomputable def fIx (K : PySem.W.Frag) : D → D → (D → Prop) → Prop := fun a b q => match a, b with
  | .lst ds, .int i => atD ds i q
  | .tup ds, .int i => atD ds i q
  | .scr φ ns, .int i => (∀ a H, φ a → SqL K H a (ns.map V.int)) ∧ match atI ns i with
    | some n => q (.int n)
    | none => False
  | _, _ => False
theorem reps_get {G : Hp} : ∀ {ds : List D} {xs : List V} {j : Nat} {d : D}, Reps G ds xs → ds[j]? = some d → ∃ v, xs[j]? = some v ∧ Rep G d v
  | [], _, _, _, _, e => by simp at e
  | d :: ds, xs, 0, e, h, q => by rw [Reps] at h; obtain ⟨v, vs, rfl, h1, _⟩ := h; simp at q; subst q; exact ⟨v, rfl, h1⟩
  | d :: ds, xs, j + 1, e, h, q => by
    rw [Reps] at h
    obtain ⟨v, vs, rfl, _, h2⟩ := h
    obtain ⟨u, e1, e2⟩ := reps_get (j := j) h2 (by simpa using q)
    exact ⟨u, by simpa using e1, e2⟩
theorem reps_atI {G : Hp} {ds : List D} {xs : List V} {i : Int} {d : D} (h : Reps G ds xs) (e : atI ds i = some d) : ∃ v, atI xs i = some v ∧ Rep G d v := by
  unfold atI at *
  rw [h.length]
  cases q : ixN ds.length i with
  | none => rw [q] at e; cases e
  | some j => rw [q] at e; exact reps_get h e
theorem atI_map {α β : Type} {f : α → β} {xs : List α} {i : Int} {x : α} (h : atI xs i = some x) : atI (xs.map f) i = some (f x) := by
  unfold atI at *
  rw [List.length_map]
  cases q : ixN xs.length i with
  | none => rw [q] at h; cases h
  | some j => rw [q] at h; rw [show (Option.some j).bind _ = (xs.map f)[j]? from rfl, List.getElem?_map, show xs[j]? = some x from h]; rfl
theorem dIx {K : PySem.W.Frag} : DOp (rIx K) (fIx K) := fun G H x y dx dy q Q s p1 p2 hf k => by
  unfold fIx at hf
  split at hf
  · rw [Rep] at p1
    obtain ⟨a, xs, rfl, h1, h2⟩ := p1
    unfold atD at hf
    split at hf
    · rename_i e
      obtain ⟨v, e1, e2⟩ := reps_atI h2 e
      exact .inl ⟨a, xs, _, v, rfl, rep_int_of p2, SqL.of (s _ _ h1), e1, k _ _ hf e2⟩
    · exact hf.elim
  · rw [Rep] at p1
    obtain ⟨a, xs, rfl, h1, h2⟩ := p1
    unfold atD at hf
    split at hf
    · rename_i e
      obtain ⟨v, e1, e2⟩ := reps_atI h2 e
      exact .inr (.inl ⟨a, xs, _, v, rfl, rep_int_of p2, SqT.of (s _ _ h1), e1, k _ _ hf e2⟩)
    · exact hf.elim
  · rw [Rep] at p1
    obtain ⟨a, rfl, h1⟩ := p1
    obtain ⟨hk, hf⟩ := hf
    split at hf
    · rename_i e
      refine .inl ⟨a, _, _, _, rfl, rep_int_of p2, ?_, atI_map e, k _ _ hf (rep_int _)⟩
      rcases h1 with ⟨o, h1⟩ | h1
      · exact .inl (.inr ⟨o, s _ _ h1⟩)
      · exact hk a H h1
    · exact hf.elim
  · exact hf.elim
/-! ### built-in functions -/
noncomputable def fLen (K : PySem.W.Frag) : List D → (D → Prop) → Prop := fun ds q => match ds with
  | [.lst ds] => q (.int ds.length)
  | [.tup ds] => q (.int ds.length)
  | [.scr φ ns] => (∀ a H, φ a → SqL K H a (ns.map V.int)) ∧ q (.int ns.length)
  | _ => False
theorem rep_lst_of {G : Hp} {ds : List D} {v : V} (h : Rep G (.lst ds) v) : ∃ a xs, v = .ref a ∧ G a = some (.lst xs) ∧ Reps G ds xs := by rw [Rep] at h; exact h
theorem rep_tup_of {G : Hp} {ds : List D} {v : V} (h : Rep G (.tup ds) v) : ∃ a xs, v = .ref a ∧ G a = some (.tup xs) ∧ Reps G ds xs := by rw [Rep] at h; exact h
theorem rep_scr_of {G : Hp} {φ : Addr → Prop} {ns : List Int} {v : V} (h : Rep G (.scr φ ns) v) : ∃ a, v = .ref a ∧ ((∃ o, G a = some (.frz o (.lst (ns.map V.int)))) ∨ φ a) := by rw [Rep] at h; exact h
theorem reps_one {G : Hp} {d : D} {xs : List V} (h : Reps G [d] xs) : ∃ v, xs = [v] ∧ Rep G d v := by
  rw [Reps] at h; obtain ⟨v, vs, rfl, h1, h2⟩ := h; rw [Reps] at h2; subst h2; exact ⟨v, rfl, h1⟩
theorem reps_two {G : Hp} {d e : D} {xs : List V} (h : Reps G [d, e] xs) : ∃ v u, xs = [v, u] ∧ Rep G d v ∧ Rep G e u := by
  rw [Reps] at h; obtain ⟨v, vs, rfl, h1, h2⟩ := h; obtain ⟨u, rfl, h3⟩ := reps_one h2; exact ⟨v, u, rfl, h1, h3⟩
theorem dLen {K : PySem.W.Frag} : DCall (fun xs H Q => ∃ p ys, xs = [.ref p] ∧ (SqL K H p ys ∨ SqT K H p ys) ∧ Q (.int ys.length) H) (fLen K) := fun G H xs ds q Q s p hf k => by
  unfold fLen at hf
  split at hf
  · obtain ⟨v, rfl, p1⟩ := reps_one p
    obtain ⟨a, xs, rfl, h1, h2⟩ := rep_lst_of p1
    exact ⟨a, xs, rfl, .inl (SqL.of (s _ _ h1)), by rw [h2.length]; exact k _ _ hf (rep_int _)⟩
  · obtain ⟨v, rfl, p1⟩ := reps_one p
    obtain ⟨a, xs, rfl, h1, h2⟩ := rep_tup_of p1
    exact ⟨a, xs, rfl, .inr (SqT.of (s _ _ h1)), by rw [h2.length]; exact k _ _ hf (rep_int _)⟩
  · obtain ⟨v, rfl, p1⟩ := reps_one p
    obtain ⟨a, rfl, h1⟩ := rep_scr_of p1
    rename_i φ ns
    have hS : SqL K H a (ns.map V.int) := by
      rcases h1 with ⟨o, h1⟩ | h1
      · exact .inl (.inr ⟨o, s _ _ h1⟩)
      · exact hf.1 a H h1
    exact ⟨a, _, rfl, .inl hS, by rw [List.length_map]; exact k _ _ hf.2 (rep_int _)⟩
  · exact hf.elim
noncomputable def fMax : List D → (D → Prop) → Prop := fun ds q => match ds with
  | [.int i, .int j] => q (.int (if j > i then j else i))
  | _ => False
noncomputable def fMin : List D → (D → Prop) → Prop := fun ds q => match ds with
  | [.int i, .int j] => q (.int (if j < i then j else i))
  | _ => False
theorem dMax : DCall (fun xs H Q => ∃ i j, xs = [.int i, .int j] ∧ Q (.int (if j > i then j else i)) H) fMax := fun G H xs ds q Q s p hf k => by
  unfold fMax at hf
  split at hf
  · obtain ⟨v, u, rfl, p1, p2⟩ := reps_two p
    rw [rep_int_of p1, rep_int_of p2]
    exact ⟨_, _, rfl, k _ _ hf (rep_int _)⟩
  · exact hf.elim
theorem dMin : DCall (fun xs H Q => ∃ i j, xs = [.int i, .int j] ∧ Q (.int (if j < i then j else i)) H) fMin := fun G H xs ds q Q s p hf k => by
  unfold fMin at hf
  split at hf
  · obtain ⟨v, u, rfl, p1, p2⟩ := reps_two p
    rw [rep_int_of p1, rep_int_of p2]
    exact ⟨_, _, rfl, k _ _ hf (rep_int _)⟩
  · exact hf.elim
noncomputable def fInt1 : List D → (D → Prop) → Prop := fun ds q => match ds with
  | [.int i] => q (.int i)
  | [.bl k] => q (.int (if k then 1 else 0))
  | _ => False
theorem dInt1 : DCall (fun xs H Q => (∃ i, xs = [.int i] ∧ Q (.int i) H) ∨ ∃ k, xs = [.bl k] ∧ Q (.int (if k then 1 else 0)) H) fInt1 := fun G H xs ds q Q s p hf k => by
  unfold fInt1 at hf
  split at hf
  · obtain ⟨v, rfl, p1⟩ := reps_one p
    rw [rep_int_of p1]
    exact .inl ⟨_, rfl, k _ _ hf (rep_int _)⟩
  · obtain ⟨v, rfl, p1⟩ := reps_one p
    rw [rep_bl_of p1]
    exact .inr ⟨_, rfl, k _ _ hf (rep_int _)⟩
  · exact hf.elim
noncomputable def fAbs : List D → (D → Prop) → Prop := fun ds q => match ds with
  | [.int i] => q (.int (if i < 0 then -i else i))
  | _ => False
theorem dAbs : DCall (fun xs H Q => ∃ i, xs = [.int i] ∧ Q (.int (if i < 0 then -i else i)) H) fAbs := fun G H xs ds q Q s p hf k => by
  unfold fAbs at hf
  split at hf
  · obtain ⟨v, rfl, p1⟩ := reps_one p
    rw [rep_int_of p1]
    exact ⟨_, rfl, k _ _ hf (rep_int _)⟩
  · exact hf.elim
section
variable {X : Cx} {ow : List Bool} {a b c e : Expr} {ma mb mc : ME} {pos : Pos} {mr : MA} {es : List Expr}
/-- -x -/
noncomputable def mNeg (m : ME) : ME := fun ρ q => m ρ fun d ρ' => match d with
  | .int i => q (.int (-i)) ρ'
  | _ => False
theorem qe_neg (h : QE X ow a ma) : QE X ow (.UnaryOp .USub a pos) (mNeg ma) := by
  obtain ⟨t, p, s⟩ := h
  refine ⟨_, pe_un un_neg p, fun C G ρ σ H pd q Q r hm k => s C G ρ σ H pd _ _ r hm fun d ρ' v G' H' hq s kp r' p => ?_⟩
  cases d with
  | int i => exact ⟨i, rep_int_of p, k _ ρ' _ G' H' hq s kp r' (rep_int _)⟩
  | _ => exact hq.elim
/-- isinstance(x, T) -/
noncomputable def mIsT (T : String) (m : ME) : ME := fun ρ q => m ρ fun d ρ' => match isTy d T with
  | some b => q (.bl b) ρ'
  | none => False
theorem qe_isT {T : String} {x y : Str} {p1 p2 : Pos} (hg : Gl X x) (hm : X.mg x = none) (hv : bootBuiltins x = some (.builtin "isinstance")) (ha : QE X ow a ma) (ht : PE X (.Name y p2) (tC (.ty T)))
    (hn : x ≠ "__name__" := by decide) (hdb : (x == ("__debug__" : Str)) = false := by decide)
    (hs : starEach [.Name y p2] X.env = [(false, eval (.Name y p2) X.env)] := by rfl)
    (he : starEach [a, .Name y p2] X.env = (false, eval a X.env) :: starEach [.Name y p2] X.env := by rfl) (hpl : (backTo pos (starEach [.Name y p2] X.env)).any (·.1) = false := by rfl) :
    QE X ow (.Call (.Name x p1) [a, .Name y p2] [] pos) (mIsT T ma) := by
  obtain ⟨t, p, s⟩ := ha
  refine ⟨_, pe_callB call_isinst hg hm hv (pa_cons p (pa_cons ht pa_nil hs) he) hn hdb he hpl, fun C G ρ σ H pd q Q r hm k => s C G ρ σ H pd _ _ r hm fun d ρ' v G' H' hq s kp r' p => ?_⟩
  cases e : isTy d T with
  | none => rw [e] at hq; exact hq.elim
  | some b => rw [e] at hq; exact ⟨v, T, d, b, rfl, Rep.mono r'.gh _ _ p, e, k _ ρ' _ G' H' hq s kp r' (rep_bl _)⟩
/-! ### new lists: things of a list (a slice, list(..), a + b, a * n) without lists within are held; others shared -/
noncomputable def DNew (r : List V → Hp → VK → Prop) (f : List D → (List D → Prop) → Prop) : Prop := ∀ (G H : Hp) (xs : List V) (ds : List D) (q : List D → Prop) (Q : VK), Same G H → Reps G ds xs → f ds q →
  (∀ es ys p, q es → Reps G es ys → H p = none → Q (.ref p) (upd H p (.lst ys))) → r xs H Q
noncomputable def mNewS (f : List D → (List D → Prop) → Prop) (m : MA) : ME := fun ρ q => m ρ fun ds ρ' => f ds fun es => q (.lst es) ρ'
theorem se_new {r : List V → Hp → VK → Prop} {f : List D → (List D → Prop) → Prop} {t : TA} {n : Nat} (hd : DNew r f) (s : SA ow n t mr) : SE ow (fun σ H Q => t σ H fun xs H1 => r xs H1 Q) (mNewS f mr) := fun C G ρ σ H pd q Q hr hm k =>
  s C G ρ σ H pd _ _ hr hm fun ds ρ' vs G' H' hq z kp r' p hn => hd G' H' vs ds _ _ r'.gh p hq fun es ys a hq p ha => by
    obtain ⟨O, r'⟩ := r'
    obtain ⟨r2, s2⟩ := r'.new ha (.lst ys)
    exact k _ ρ' _ _ _ hq (z.trans s2) kp ⟨O, r2⟩ (rep_lst upd_same (Reps.mono s2 _ _ p))
/-- two arguments as one list of them -/
theorem sa_two {ta tb : TE} (ha : SE ow ta ma) (hb : SE ow tb mb) : SA ow 2 (fun σ H Q => ta σ H fun x H1 => tb σ H1 fun y H2 => Q [x, y] H2) (mCons ma (mCons mb mNil)) := fun C G ρ σ H pd q Q hr hm k =>
  se_two (Q := fun x y H2 => Q [x, y] H2) ha hb hr hm fun dx dy ρ' x y G' H' h1 s kp r1 p1 p2 => k [dx, dy] ρ' [x, y] G' H' h1 s kp r1 (reps_cons p1 (reps_cons p2 reps_nil)) rfl
theorem reps_app {G : Hp} : ∀ {ds es : List D} {xs ys : List V}, Reps G ds xs → Reps G es ys → Reps G (ds ++ es) (xs ++ ys)
  | [], es, xs, ys, h, h2 => by rw [Reps] at h; subst h; exact h2
  | d :: ds, es, xs, ys, h, h2 => by rw [Reps] at h; obtain ⟨v, vs, rfl, h1, h3⟩ := h; exact reps_cons h1 (reps_app h3 h2)
noncomputable def fCat : List D → (List D → Prop) → Prop := fun ds q => match ds with
  | [.lst xs, .lst ys] => xs.length + ys.length ≤ 1000 ∧ q (xs ++ ys)
  | _ => False
theorem dCat : DNew (fun xs H Q => ∃ x y, xs = [x, y] ∧ rCat x y H Q) fCat := fun G H xs ds q Q s p hf k => by
  unfold fCat at hf
  split at hf
  · obtain ⟨v, u, rfl, p1, p2⟩ := reps_two p
    rw [Rep] at p1 p2
    obtain ⟨a1, xs, rfl, h1, h2⟩ := p1
    obtain ⟨a2, ys, rfl, h3, h4⟩ := p2
    exact ⟨_, _, rfl, a1, a2, xs, ys, rfl, rfl, s _ _ h1, s _ _ h3, le_line (by rw [h2.length, h4.length]; exact hf.1), fun p hp => k _ _ p hf.2 (reps_app h2 h4) hp⟩
  · exact hf.elim
noncomputable def mMkS (f : List D → (List D → Prop) → Prop) (ma mb : ME) : ME := mNewS f (mCons ma (mCons mb mNil))
noncomputable def R2ok (r : R2) : List V → Hp → VK → Prop := fun xs H Q => match xs with
  | [x, y] => r x y H Q
  | _ => False
theorem DNew.r2 {r : R2} {f : List D → (List D → Prop) → Prop} (h : DNew (fun xs H Q => ∃ x y, xs = [x, y] ∧ r x y H Q) f) : DNew (R2ok r) f := fun G H xs ds q Q s p hf k => by
  obtain ⟨x, y, rfl, z⟩ := h G H xs ds q Q s p hf k
  exact z
theorem qe_mk {op : Operator} {r : R2} {f : List D → (List D → Prop) → Prop} (ho : OpR X (binaryOp op) r) (hd : DNew (fun xs H Q => ∃ x y, xs = [x, y] ∧ r x y H Q) f) (ha : QE X ow a ma) (hb : QE X ow b mb) : QE X ow (.BinOp a op b pos) (mMkS f ma mb) := by
  obtain ⟨ta, pa, sa⟩ := ha; obtain ⟨tb, pb, sb⟩ := hb
  exact ⟨tOp r ta tb, pe_op ho pa pb, se_new (r := R2ok r) hd.r2 (sa_two sa sb)⟩
variable {x : Str} {p' : Pos}
variable {lo hi : Option Expr} {ml mh : MO} {p2 : Pos}
end
end L2

set_option Elab.async false
set_option linter.all false
set_option maxRecDepth 100000
set_option maxHeartbeats 1000000
namespace L2
open PySem PySem.Spec PyProof.Rows
/-! ### into a frame and out of it -/
noncomputable def ownM (f : Nat → Option Nat) (O : Own) : Own := fun a => match O a with
  | some m => (f m.1).map fun l => (l, m.2)
  | none => none
theorem ownM_at {f : Nat → Option Nat} {O : Own} {a : Addr} {l l' : Nat} {π : List Nat} (h : O a = some (l, π)) (hf : f l = some l') : ownM f O a = some (l', π) := by unfold ownM; rw [h]; show (f l).map _ = _; rw [hf]; rfl
theorem ownM_of {f : Nat → Option Nat} {O : Own} {a : Addr} {l' : Nat} {π : List Nat} (h : ownM f O a = some (l', π)) : ∃ l, O a = some (l, π) ∧ f l = some l' := by
  unfold ownM at h
  cases e : O a with
  | none => rw [e] at h; cases h
  | some m =>
    rw [e] at h
    change (f m.1).map _ = _ at h
    cases e2 : f m.1 with
    | none => rw [e2] at h; cases h
    | some l => rw [e2] at h; cases h; exact ⟨m.1, rfl, e2⟩
theorem ownM_none {f : Nat → Option Nat} {O : Own} {a : Addr} {l : Nat} {π : List Nat} (h : O a = some (l, π)) (hf : f l = none) : ownM f O a = none := by unfold ownM; rw [h]; show (f l).map _ = _; rw [hf]; rfl
/-- the values of the written parameters -/
noncomputable def msV : List Bool → List V → List (Option V)
  | b :: bs, v :: vs => (if b = true then some v else none) :: msV bs vs
  | _, _ => []
theorem msV_of : ∀ {mu : List Bool} {vs : List V} {k : Nat} {v : V}, (msV mu vs)[k]? = some (some v) → mu[k]? = some true ∧ vs[k]? = some v
  | [], vs, k, v, h => by simp [msV] at h
  | b :: bs, [], k, v, h => by simp [msV] at h
  | b :: bs, u :: vs, 0, v, h => by
    simp only [msV, List.getElem?_cons_zero, Option.some.injEq] at h
    split at h
    · rename_i c; cases h; subst c; exact ⟨rfl, rfl⟩
    · cases h
  | b :: bs, u :: vs, k + 1, v, h => by
    simp only [msV, List.getElem?_cons_succ] at h
    simpa using msV_of h
theorem msV_at : ∀ {mu : List Bool} {vs : List V} {k : Nat} {v : V}, mu[k]? = some true → vs[k]? = some v → (msV mu vs)[k]? = some (some v)
  | [], vs, k, v, h, _ => by simp at h
  | b :: bs, [], k, v, _, h => by simp at h
  | b :: bs, u :: vs, 0, v, h, h2 => by simp at h h2; subst h; subst h2; simp [msV]
  | b :: bs, u :: vs, k + 1, v, h, h2 => by simp only [msV, List.getElem?_cons_succ]; exact msV_at (by simpa using h) (by simpa using h2)
section
variable {C : Ctx} {ow mu : List Bool} {G : Hp} {ρ : DSt} {σ : St} {H : Hp} {pd : List (D × V)} {O : Own} {fin fbk : Nat → Option Nat}
theorem RO.into (ro : RO C ow G ρ σ H pd O) {ds : List D} {vs : List V} (hl : ds.length = vs.length)
    (hs : ∀ (k : Nat) d, ds[k]? = some d → ∃ v, vs[k]? = some v ∧ if mu[k]? = some true then ∃ l, Sep G H O l d [] v ∧ fin l = some (2 * k) else Rep G d v)
    (hc : ∀ l l', fin l = some l' → ∃ k, l' = 2 * k ∧ mu[k]? = some true ∧ k < vs.length) :
    RO ⟨G, H, ownM fin O, msV mu vs, 0⟩ mu G (ds.map some) (vs.map some) H [] (ownM fin O) := by
  refine ⟨by simp [hl], ro.gh, fun _ _ e => e, fun _ _ e => .inl e, ?_, ?_, fun _ _ e _ => e, fun _ e => e, ?_, ?_, trivial, Nat.le_refl _⟩
  · intro a m e
    obtain ⟨l', π⟩ := m
    obtain ⟨l, e1, e2⟩ := ownM_of e
    obtain ⟨q1, q2, _⟩ := ro.og a _ e1
    exact ⟨q1, q2, .inr ⟨π, e⟩⟩
  · intro a l' π e
    obtain ⟨l, e1, e2⟩ := ownM_of e
    obtain ⟨k, rfl, h2, h3⟩ := hc _ _ e2
    exact .inl ⟨k, vs[k], rfl, msV_at h2 (List.getElem?_eq_getElem h3)⟩
  · intro k v e
    rw [List.getElem?_map, (msV_of e).2]; rfl
  · intro k d e
    rw [List.getElem?_map] at e
    cases e1 : ds[k]? with
    | none => rw [e1] at e; cases e
    | some d' =>
      rw [e1] at e
      cases e
      obtain ⟨v, h1, h2⟩ := hs k d e1
      refine ⟨v, by rw [List.getElem?_map, h1]; rfl, ?_⟩
      split at h2
      · rename_i c
        rw [if_pos c]
        obtain ⟨l, h3, h4⟩ := h2
        exact h3.keep (fun _ _ z => z) fun a τ q => ⟨ownM_at q h4, rfl⟩
      · rename_i c; rw [if_neg c]; exact h2
noncomputable def ownB (fin fbk : Nat → Option Nat) (O O2 : Own) : Own := fun a => match O2 a with
  | some m => (fbk m.1).map fun l => (l, m.2)
  | none => match ownM fin O a with
    | some _ => none
    | none => O a
theorem RO.out (ro : RO C ow G ρ σ H pd O) {vs : List V} {G2 : Hp} {ρ2 : DSt} {σ2 : St} {H2 : Hp} {pd2 pd3 : List (D × V)} {O2 : Own} {ρ3 : DSt} {ow2 : List Bool} {np : Nat} {mv : List (Option V)}
    (ri : RO ⟨G, H, ownM fin O, mv, np⟩ ow2 G2 ρ2 σ2 H2 pd2 O2) (hib : ∀ l0 l' l, fin l0 = some l' → fbk l' = some l → l = l0)
    (hlen : ρ3.length = σ.length) (hnp : C.np ≤ pd3.length)
    (hS : ∀ (i : Nat) d, ow[i]? ≠ some true → ρ3[i]? = some (some d) → ρ[i]? = some (some d))
    (hO : ∀ (i : Nat) d, ow[i]? = some true → ρ3[i]? = some (some d) → (fin (2 * i) = none ∧ ρ[i]? = some (some d)) ∨ ∃ (k : Nat) (v : V), fbk (2 * k) = some (2 * i) ∧ ow2[k]? = some true ∧ ρ2[k]? = some (some d) ∧ σ[i]? = some (some v) ∧ σ2[k]? = some (some v))
    (hP : ∀ (O3 : Own), (∀ a l π, O a = some (l, π) → fin l = none → O3 a = some (l, π) ∧ H2 a = H a) → (∀ a l l' π, O2 a = some (l', π) → fbk l' = some l → O3 a = some (l, π)) → TSame G G2 → Pend G2 H2 O3 pd3) :
    RO C ow G2 ρ3 σ H2 pd3 (ownB fin fbk O O2) := by
  have keep : ∀ a l π, O a = some (l, π) → fin l = none → ownB fin fbk O O2 a = some (l, π) ∧ H2 a = H a := fun a l π e hn => by
    have e1 := ownM_none (f := fin) e hn
    obtain ⟨g, ⟨xs, hx⟩, _⟩ := ro.og a _ e
    have e2 : O2 a = none := by
      cases q : O2 a with
      | none => rfl
      | some m =>
        obtain ⟨_, _, q3⟩ := ri.og a m q
        rcases q3 with q3 | ⟨π', q3⟩
        · change H a = none at q3; rw [hx] at q3; cases q3
        · change ownM fin O a = _ at q3; rw [e1] at q3; cases q3
    constructor
    · show (match O2 a with | some m => _ | none => _) = _
      rw [e2]
      show (match ownM fin O a with | some _ => none | none => O a) = _
      rw [e1]; exact e
    · rw [ri.fr a _ hx e1, hx]
  have come : ∀ a l l' π, O2 a = some (l', π) → fbk l' = some l → ownB fin fbk O O2 a = some (l, π) := fun a l l' π e hb => by
    show (match O2 a with | some m => _ | none => _) = _
    rw [e]
    show (fbk l').map _ = _
    rw [hb]; rfl
  have ts : TSame G G2 := (Same.ts ri.g0)
  refine ⟨hlen, ri.gh, fun a o e => ri.g0 a o (ro.g0 a o e), ?_, ?_, ro.cok, ?_, fun a e => ro.al a (ri.al a e), ro.mp, ?_, hP _ keep come ts, hnp⟩
  · intro a o e
    rcases ri.gn a o e with q | q
    · exact ro.gn a o q
    · exact .inr (ro.al a q)
  · intro a m e
    change (match O2 a with | some m => _ | none => _) = _ at e
    cases q : O2 a with
    | some m' =>
      rw [q] at e
      change (fbk m'.1).map _ = _ at e
      cases q2 : fbk m'.1 with
      | none => rw [q2] at e; cases e
      | some l =>
        rw [q2] at e; cases e
        obtain ⟨g1, g2, g3⟩ := ri.og a m' q
        refine ⟨g1, g2, ?_⟩
        rcases g3 with g3 | ⟨π', g3⟩
        · exact .inl (ro.al a g3)
        · obtain ⟨l0, g4, g5⟩ := ownM_of g3
          have := hib _ _ _ g5 q2
          subst this
          exact (ro.og a _ g4).2.2
    | none =>
      rw [q] at e
      change (match ownM fin O a with | some _ => none | none => O a) = _ at e
      cases q2 : ownM fin O a with
      | some _ => rw [q2] at e; cases e
      | none =>
        rw [q2] at e
        change O a = some m at e
        obtain ⟨g1, ⟨xs, g2⟩, g3⟩ := ro.og a m e
        refine ⟨?_, ⟨xs, ri.fr a _ g2 q2⟩, g3⟩
        cases z : G2 a with
        | none => rfl
        | some o =>
          rcases ri.gn a o z with z | z
          · change G a = _ at z; rw [g1] at z; cases z
          · change H a = _ at z; rw [g2] at z; cases z
  · intro a o e n
    have q := ro.fr a o e n
    refine ri.fr a o q ?_
    show ownM fin O a = none
    cases z : ownM fin O a with
    | none => rfl
    | some m =>
      obtain ⟨l', π⟩ := m
      obtain ⟨l, z1, _⟩ := ownM_of z
      obtain ⟨_, _, z3⟩ := ro.og a _ z1
      rcases z3 with z3 | ⟨_, z3⟩
      · rw [z3] at e; cases e
      · rw [z3] at n; cases n
  · intro i d e
    by_cases c : ow[i]? = some true
    · rcases hO i d c e with ⟨h1, h2⟩ | ⟨k, v, h1, h2, h3, h4, h5⟩
      · obtain ⟨v, q1, q2⟩ := ro.sl i d h2
        rw [if_pos c] at q2
        exact ⟨v, q1, by rw [if_pos c]; exact q2.keep ts fun a τ q => keep a _ _ q h1⟩
      · obtain ⟨v', q1, q2⟩ := ri.sl k d h3
        rw [if_pos h2] at q2
        rw [h5] at q1; cases q1
        exact ⟨v, h4, by rw [if_pos c]; exact q2.keep (fun _ _ z => z) fun a τ q => ⟨come _ _ _ _ q h1, rfl⟩⟩
    · obtain ⟨v, q1, q2⟩ := ro.sl i d (hS i d c e)
      rw [if_neg c] at q2
      exact ⟨v, q1, by rw [if_neg c]; exact q2.mono ri.g0⟩
end
/-! ### a def's promise over data -/
noncomputable def Ret (fr : Bool) (C : Ctx) (ow : List Bool) (G : Hp) (ρ : DSt) (σ : St) (H : Hp) (d : D) (v : V) : Prop := if fr = true then R C ow G ρ σ H [(d, v)] else R C ow G ρ σ H [] ∧ Rep G d v
/-- the written parameters' values -/
noncomputable def mus : List Bool → DSt → DSt
  | true :: bs, x :: ρ => x :: mus bs ρ
  | false :: bs, _ :: ρ => mus bs ρ
  | true :: bs, [] => none :: mus bs []
  | false :: bs, [] => mus bs []
  | [], _ => []
/-- so many slots -/
noncomputable def padS {α : Type} : Nat → List (Option α) → List (Option α)
  | 0, _ => []
  | n + 1, x :: ρ => x :: padS n ρ
  | n + 1, [] => none :: padS n []
theorem padS_len {α : Type} : ∀ (n : Nat) (ρ : List (Option α)), (padS n ρ).length = n
  | 0, _ => rfl
  | n + 1, x :: ρ => by simp [padS, padS_len n ρ]
  | n + 1, [] => by simp [padS, padS_len n []]
theorem padS_mus : ∀ (mu : List Bool) (ρ : DSt), mus mu (padS mu.length ρ) = mus mu ρ
  | [], _ => by simp [mus]
  | true :: bs, x :: ρ => by simp [padS, mus, padS_mus bs ρ]
  | false :: bs, x :: ρ => by simp [padS, mus, padS_mus bs ρ]
  | true :: bs, [] => by simp [padS, mus, padS_mus bs []]
  | false :: bs, [] => by simp [padS, mus, padS_mus bs []]
theorem padS_of {α : Type} : ∀ {n : Nat} {ρ : List (Option α)} {i : Nat} {d : α}, (padS n ρ)[i]? = some (some d) → i < n ∧ ρ[i]? = some (some d)
  | 0, _, _, _, h => by simp [padS] at h
  | n + 1, x :: ρ, 0, d, h => by simp [padS] at h; exact ⟨by omega, by simp [h]⟩
  | n + 1, x :: ρ, i + 1, d, h => by simp only [padS, List.getElem?_cons_succ] at h; obtain ⟨a, b⟩ := padS_of h; exact ⟨by omega, by simpa using b⟩
  | n + 1, [], 0, d, h => by simp [padS] at h
  | n + 1, [], i + 1, d, h => by simp only [padS, List.getElem?_cons_succ] at h; obtain ⟨a, b⟩ := padS_of h; simp at b
theorem padS_at {α : Type} : ∀ {n : Nat} {ρ : List (Option α)} {i : Nat} {d : α}, i < n → ρ[i]? = some (some d) → (padS n ρ)[i]? = some (some d)
  | 0, _, _, _, h, _ => by omega
  | n + 1, x :: ρ, 0, d, h, e => by simp at e; simp [padS, e]
  | n + 1, x :: ρ, i + 1, d, h, e => by simp only [padS, List.getElem?_cons_succ]; exact padS_at (by omega) (by simpa using e)
  | n + 1, [], i, d, h, e => by simp at e
noncomputable abbrev SpD := List D → (D → DSt → Prop) → Prop
noncomputable def spOf (mu : List Bool) (fr : Bool) (sd : SpD) : Sp := fun vs H Q _ => ∃ (C : Ctx) (G : Hp) (ds : List D) (q : D → DSt → Prop), C.np = 0 ∧ C.mu = msV mu vs ∧ R C mu G (ds.map some) (vs.map some) H [] ∧ sd ds q ∧ mu.length = ds.length ∧
  ∀ d ρ' σ' v G' H', q d (mus mu ρ') → Same G G' → ρ'.length = mu.length → Ret fr C mu G' ρ' σ' H' d v → Q v H'
end L2

set_option Elab.async false
set_option linter.all false
set_option maxRecDepth 100000
set_option maxHeartbeats 1000000
namespace L2
open PySem PySem.Spec PyProof.Rows
/-! ### statements over data -/
structure EndsD where
  nx : DSt → Prop
  rt : D → DSt → Prop
  bk : DSt → Prop := fun _ => False
  ct : DSt → Prop := fun _ => False
noncomputable abbrev MS := EndsD → DSt → Prop
structure Ks (C : Ctx) (ow : List Bool) (fr : Bool) (G : Hp) (n : EndsD) (D : Ends) : Prop where
  nx : ∀ ρ σ G' H, n.nx ρ → Same G G' → R C ow G' ρ σ H [] → D.nx σ H
  bk : ∀ ρ σ G' H, n.bk ρ → Same G G' → R C ow G' ρ σ H [] → D.bk σ H
  ct : ∀ ρ σ G' H, n.ct ρ → Same G G' → R C ow G' ρ σ H [] → D.ct σ H
  rt : ∀ d ρ σ v G' H, n.rt d ρ → Same G G' → Ret fr C ow G' ρ σ H d v → D.rt v H
theorem Ks.mono {C : Ctx} {ow : List Bool} {fr : Bool} {G G1 : Hp} {n : EndsD} {D : Ends} (h : Ks C ow fr G n D) (s : Same G G1) : Ks C ow fr G1 n D :=
  ⟨fun ρ σ G' H a b c => h.nx ρ σ G' H a (s.trans b) c, fun ρ σ G' H a b c => h.bk ρ σ G' H a (s.trans b) c, fun ρ σ G' H a b c => h.ct ρ σ G' H a (s.trans b) c, fun d ρ σ v G' H a b c => h.rt d ρ σ v G' H a (s.trans b) c⟩
noncomputable def MuOk (C : Ctx) (mu : List Bool) : Prop := ∀ (i : Nat) v, C.mu[i]? = some (some v) → mu[i]? = some true
theorem MuOk.no {C : Ctx} {mu : List Bool} (h : MuOk C mu) {i : Nat} (hi : mu[i]? ≠ some true) : ∀ v, C.mu[i]? ≠ some (some v) := fun v e => hi (h i v e)
/-- modes: which parameters are written, which slots are owned, whether what is handed back is held -/
structure Md where
  mu : List Bool
  ow : List Bool
  fr : Bool
noncomputable def SS (M : Md) (t : TS) (m : MS) : Prop := ∀ (C : Ctx) (G : Hp) (ρ : DSt) (σ : St) (H : Hp) (n : EndsD) (D : Ends), MuOk C M.mu → C.np = 0 → R C M.ow G ρ σ H [] → m n ρ → Ks C M.ow M.fr G n D → t D σ H
structure QS (X : Cx) (M : Md) (st : Stmt) (m : MS) : Prop where
  ex : ∃ t, PS X st t ∧ SS M t m
structure QSs (X : Cx) (M : Md) (st : List Stmt) (m : MS) : Prop where
  ex : ∃ t, PSs X st t ∧ SS M t m
section
variable {X : Cx} {M : Md} {a b c e : Expr} {ma mb mc : ME} {mt : MT} {pos pos' : Pos} {st : Stmt} {rest : List Stmt} {m m1 m2 : MS}
noncomputable def mSeq (m1 m2 : MS) : MS := fun n ρ => m1 { n with nx := fun ρ' => m2 n ρ' } ρ
noncomputable def mNext : MS := fun n ρ => n.nx ρ
theorem qss_nil : QSs X M [] mNext := ⟨_, pss_nil, fun C G ρ σ H n D hm hn r h k => k.nx ρ σ G H h (Same.refl _) r⟩
theorem qss_one (h : QS X M st m) : QSs X M [st] m := by obtain ⟨t, p, s⟩ := h; exact ⟨_, pss_one p, s⟩
theorem qss_cons (h : QS X M st m1) (h2 : QSs X M rest m2) : QSs X M (st :: rest) (mSeq m1 m2) := by
  obtain ⟨t, p, s⟩ := h; obtain ⟨t2, p2, s2⟩ := h2
  refine ⟨_, pss_cons p p2, fun C G ρ σ H n D hm hn r h k => s C G ρ σ H _ _ hm hn r h ?_⟩
  exact ⟨fun ρ' σ' G' H' h' z r' => s2 C G' ρ' σ' H' n D hm hn r' h' (k.mono z), k.bk, k.ct, k.rt⟩
noncomputable def mNever : MS := fun _ _ => False
theorem qs_never : QS X M st mNever := ⟨_, ps_never, fun C G ρ σ H n D hm hn r h k => h.elim⟩
noncomputable def mIfS (mt : MT) (m1 m2 : MS) : MS := fun n ρ => mt ρ fun b ρ1 => if b = true then m1 n ρ1 else m2 n ρ1
theorem qs_if {s1 s2 : List Stmt} (h : QT X M.ow c mt) (h1 : QSs X M s1 m1) (h2 : QSs X M s2 m2) : QS X M (.If c s1 s2 pos) (mIfS mt m1 m2) := by
  obtain ⟨t, p, s⟩ := h; obtain ⟨t1, p1, s1⟩ := h1; obtain ⟨t2, p2, s2⟩ := h2
  refine ⟨_, ps_if p p1 p2, fun C G ρ σ H n D hm hn r h k => s C G ρ σ H [] _ _ r h fun b ρ' G' H' hq z kp r' => ?_⟩
  cases b with
  | true => rw [if_pos rfl] at hq ⊢; exact s1 C G' ρ' σ H' n D hm hn r' hq (k.mono z)
  | false => rw [if_neg (by decide)] at hq ⊢; exact s2 C G' ρ' σ H' n D hm hn r' hq (k.mono z)
noncomputable def mRet (m : ME) : MS := fun n ρ => m ρ n.rt
theorem qs_ret (h : QE X M.ow e ma) (hf : M.fr = false := by rfl) : QS X M (.Return (some e) pos) (mRet ma) := by
  obtain ⟨t, p, s⟩ := h
  refine ⟨_, ps_ret p, fun C G ρ σ H n D hm hn r h k => s C G ρ σ H [] _ _ r h fun d ρ' v G' H' hq z kp r' p => k.rt d ρ' σ v G' H' hq z (by unfold Ret; rw [if_neg (by rw [hf]; decide)]; exact ⟨r', p⟩)⟩
theorem R.non {C : Ctx} {ow : List Bool} {fr : Bool} {G : Hp} {ρ : DSt} {σ : St} {H : Hp} (r : R C ow G ρ σ H []) : Ret fr C ow G ρ σ H .non .non := by
  unfold Ret
  split
  · obtain ⟨O, r⟩ := r
    exact ⟨O, r.len, r.gh, r.g0, r.gn, r.og, r.cok, r.fr, r.al, r.mp, r.sl, ⟨by rw [Sep], trivial⟩, Nat.le_succ_of_le r.np⟩
  · exact ⟨r, rep_non⟩
/-! ### names get values -/
noncomputable def mSet (i : Nat) (m : ME) : MS := fun n ρ => m ρ fun d ρ1 => n.nx (ρ1.set i (some d))
theorem ss_set {t : TE} {i : Nat} (s : SE M.ow t ma) (ho : M.ow[i]? ≠ some true) (hu : M.mu[i]? ≠ some true) : SS M (tAsg t (gName i)) (mSet i ma) := fun C G ρ σ H n D hm hn r h k =>
  s C G ρ σ H [] _ _ r h fun d ρ' v G' H' hq z kp r' p => by
    obtain ⟨O, r'⟩ := r'
    exact k.nx _ _ G' H' hq z ⟨O, r'.setS ho (hm.no hu) p⟩
theorem ss_setO {t : TE} {i : Nat} (s : SF M.ow t ma) (ho : M.ow[i]? = some true) (hu : M.mu[i]? ≠ some true) : SS M (tAsg t (gName i)) (mSet i ma) := fun C G ρ σ H n D hm hn r h k =>
  s C G ρ σ H [] _ _ r h fun d ρ' v G' H' hq z kp r' => by
    obtain ⟨O, r'⟩ := r'
    exact k.nx _ _ G' H' hq z (r'.setO ho (hm.no hu) (by rw [hn]; exact Nat.zero_le _))
theorem qs_set {i : Nat} {x : Str} (hN : X.N.Nodup) (hi : X.N[i]? = some x) (hx : Loc X.env.scope x) (he : QE X M.ow e ma) (ho : M.ow[i]? ≠ some true := by decide) (hu : M.mu[i]? ≠ some true := by decide) (hs : swapsWith e (some (.Name x pos')) pos.line X.env = pure false := by rfl) (hf : X.fn x = true ∨ X.env.scope.names.lookup x = some .local := by first | exact .inl rfl | exact .inr rfl | assumption) :
    QS X M (.Assign [.Name x pos'] e pos) (mSet i ma) := by
  obtain ⟨t, p, s⟩ := he
  exact ⟨_, ps_set hN hi hx p hs hf, ss_set s ho hu⟩
theorem qs_setO {i : Nat} {x : Str} (hN : X.N.Nodup) (hi : X.N[i]? = some x) (hx : Loc X.env.scope x) (he : QF X M.ow e ma) (ho : M.ow[i]? = some true := by decide) (hu : M.mu[i]? ≠ some true := by decide) (hs : swapsWith e (some (.Name x pos')) pos.line X.env = pure false := by rfl) (hf : X.fn x = true ∨ X.env.scope.names.lookup x = some .local := by first | exact .inl rfl | exact .inr rfl | assumption) :
    QS X M (.Assign [.Name x pos'] e pos) (mSet i ma) := by
  obtain ⟨t, p, s⟩ := he
  exact ⟨_, ps_set hN hi hx p hs hf, ss_setO s ho hu⟩
/-- a, b = x, y -/
noncomputable def mPar (i j : Nat) (ma mb : ME) : MS := fun n ρ => ma ρ fun x ρ1 => mb ρ1 fun y ρ2 => n.nx ((ρ2.set i (some x)).set j (some y))
theorem qs_par {i j : Nat} {x y : Str} {px py pt : Pos} {kt k2 pt2} (hc : X.calm = true) (hN : X.N.Nodup) (hi : X.N[i]? = some x) (hj : X.N[j]? = some y) (hij : i ≠ j)
    (hx : X.env.scope.names.lookup x = some .local) (hy : X.env.scope.names.lookup y = some .local) (ha : QE X M.ow a ma) (hb : QE X M.ow b mb)
    (hw : swappedStores [.Tuple [.Name x px, .Name y py] kt pt] (.Tuple [a, b] k2 pt2) X.env = pure (some [x, y]))
    (oi : M.ow[i]? ≠ some true := by decide) (oj : M.ow[j]? ≠ some true := by decide) (ui : M.mu[i]? ≠ some true := by decide) (uj : M.mu[j]? ≠ some true := by decide)
    (hs1 : starEach [a, b] X.env = (false, eval a X.env) :: starEach [b] X.env := by rfl) (hs2 : starEach [b] X.env = [(false, eval b X.env)] := by rfl)
    (hs : swapsWithSole [.Tuple [.Name x px, .Name y py] kt pt] (.Tuple [a, b] k2 pt2) pos.line X.env = pure false := by rfl) :
    QS X M (.Assign [.Tuple [.Name x px, .Name y py] kt pt] (.Tuple [a, b] k2 pt2) pos) (mPar i j ma mb) := by
  obtain ⟨ta, pa, sa⟩ := ha; obtain ⟨tb, pb, sb⟩ := hb
  refine ⟨_, ps_par hc hN hi hj hij hx hy (pa_cons pa (pa_cons pb pa_nil hs2) hs1) hw hs, fun C G ρ σ H n D hm hn r h k => ?_⟩
  refine se_two (Q := fun u w H2 => ∃ v w', [u, w] = [v, w'] ∧ D.nx ((σ.set i (some v)).set j (some w')) H2) sa sb r h fun dx dy ρ' u w G' H' hq z kp r' p1 p2 => ⟨u, w, rfl, ?_⟩
  obtain ⟨O, r'⟩ := r'
  exact k.nx _ _ G' H' hq z ⟨O, (r'.setS oi (hm.no ui) p1).setS oj (hm.no uj) p2⟩
/-! ### targets -/
noncomputable abbrev MG := D → DSt → (DSt → Prop) → Prop
noncomputable def SG (M : Md) (g : TG) (m : MG) : Prop := ∀ (C : Ctx) (G : Hp) (ρ : DSt) (σ : St) (H : Hp) (pd : List (D × V)) (d : D) (v : V) (k : DSt → Prop) (K : St → Hp → Prop), MuOk C M.mu → R C M.ow G ρ σ H pd → Rep G d v → m d ρ k →
  (∀ ρ' σ', k ρ' → R C M.ow G ρ' σ' H pd → K σ' H) → g v σ H K
structure QG (X : Cx) (M : Md) (e : Expr) (m : MG) : Prop where
  ex : ∃ t, PG X e t ∧ SG M t m
noncomputable def gmName (i : Nat) : MG := fun d ρ k => k (ρ.set i (some d))
theorem qg_name {i : Nat} {x : Str} (hN : X.N.Nodup) (hi : X.N[i]? = some x) (hx : Loc X.env.scope x) (ho : M.ow[i]? ≠ some true := by decide) (hu : M.mu[i]? ≠ some true := by decide) (hf : X.fn x = true ∨ X.env.scope.names.lookup x = some .local := by first | exact .inl rfl | exact .inr rfl | assumption) : QG X M (.Name x pos) (gmName i) :=
  ⟨_, pg_name hN hi hx hf, fun C G ρ σ H pd d v k K hm r p h kk => by obtain ⟨O, r⟩ := r; exact kk _ _ h ⟨O, r.setS ho (hm.no hu) p⟩⟩
variable {mg : MG} {mgs : MGs} {es : List Expr}
/-! ### owned lists are written -/
noncomputable def mAppend (i : Nat) (m : ME) : MS := fun n ρ => match ρ[i]? with
  | some (some (.lst _)) => m ρ fun d ρ1 => match ρ1[i]? with
    | some (some (.lst ds)) => ds.length < 1000 ∧ n.nx (ρ1.set i (some (.lst (ds ++ [d]))))
    | _ => False
  | _ => False
noncomputable def mSetI (i : Nat) (mk m : ME) : MS := fun n ρ => m ρ fun d ρ1 => match ρ1[i]? with
  | some (some (.lst _)) => mk ρ1 fun k ρ2 => match ρ2[i]? with
    | some (some (.lst ds)) => match k with
      | .int j => match ixN ds.length j with
        | some p => n.nx (ρ2.set i (some (.lst (ds.set p d))))
        | none => False
      | _ => False
    | _ => False
  | _ => False
theorem qs_setI {i : Nat} {x : Str} {npos spos : Pos} (hN : X.N[i]? = some x) (he : QF X M.ow e ma) (hk : QE X M.ow b mb) (ho : M.ow[i]? = some true := by decide)
    (hv : Vis X.env.scope x := by first | exact Or.inl rfl | exact Or.inr (Or.inl rfl) | exact Or.inr (Or.inr rfl)) (hd : (x == ("__debug__" : Str)) = false := by decide) (hcd : (x == ("__classdict__" : Str)) = false := by decide)
    (ha : ∀ v, assign (.Subscript (.Name x npos) b spos) X.env v = (do
      let ov ← holding [v] (eval (.Name x npos) X.env)
      let iv ← holding [v, ov] (eval b X.env)
      standAt spos
      holding [v, ov, iv] (setItem ov iv v)
      release [v, ov, iv] []) := by intro _; rfl)
    (hs : swapsWithSole [.Subscript (.Name x npos) b spos] e pos.line X.env = pure false := by rfl) (hw : swappedStores [.Subscript (.Name x npos) b spos] e X.env = pure none := by rfl)
    (h1 : (assignEach [.Subscript (.Name x npos) b spos] X.env).map (·.2) = [assign (.Subscript (.Name x npos) b spos) X.env] := by rfl) :
    QS X M (.Assign [.Subscript (.Name x npos) b spos] e pos) (mSetI i mb ma) := by
  obtain ⟨t, p, s⟩ := he; obtain ⟨t2, p2, s2⟩ := hk
  refine ⟨_, ps_asg p (pg_sub (pe_var hN hv hd hcd) p2 set_list ha) hs hw h1, fun C G ρ σ H n D hm hn r h k => s C G ρ σ H [] _ _ r h fun d ρ' v G' H' hq z kp r' => ?_⟩
  split at hq
  · rename_i ds0 e0
    obtain ⟨O0, ro⟩ := r'
    obtain ⟨a, xs, hu, _, _, _⟩ := ro.write e0 ho
    refine ⟨.ref a, hu, ?_⟩
    refine s2 C G' ρ' σ H' _ _ _ ⟨O0, ro⟩ hq fun dk ρ2 jv G2 H2 hq2 z2 kp2 r2 pj => ?_
    split at hq2
    · rename_i ds e2
      cases dk with
      | int j =>
        dsimp only at hq2
        split at hq2
        · rename_i pl e3
          obtain ⟨O', r2⟩ := r2
          obtain ⟨O2, r3, w2, w3⟩ := r2.join i pl (by rw [hn]; exact Nat.zero_le _)
          obtain ⟨a', xs', g1, g2, g3, g4⟩ := r3.write e2 ho
          rw [hu] at g1; cases g1
          refine ⟨a, xs', j, pl, rfl, rep_int_of pj, g2, by rw [g3.length]; exact e3, ?_⟩
          exact k.nx _ _ G2 _ hq2 (z.trans z2) ⟨O2, g4 _ _ (g3.set (by simpa using w2))⟩
        · exact hq2.elim
      | _ => exact hq2.elim
    · exact hq2.elim
  · exact hq.elim
/-! ### loops -/
noncomputable def mWhile (mt : MT) (mb : MS) : MS := fun n ρ => ∃ W : Nat → DSt → Prop, (∃ k, W k ρ) ∧ ∀ k ρ, W k ρ → mt ρ fun b ρ1 =>
  if b = true then mb { n with nx := fun ρ' => ∃ k', k' < k ∧ W k' ρ', ct := fun ρ' => ∃ k', k' < k ∧ W k' ρ', bk := n.nx } ρ1 else n.nx ρ1
theorem qs_while {body : List Stmt} (hp : PassesOwn (model X.prog X.w) X.A X.env X.xe) (hc : QT X M.ow c mt) (hb : QSs X M body m) : QS X M (.While c body [] pos) (mWhile mt m) := by
  obtain ⟨t, p, s⟩ := hc; obtain ⟨t2, p2, s2⟩ := hb
  refine ⟨_, ps_while hp p p2, fun C G ρ σ H n D hm hn r h k => ?_⟩
  obtain ⟨W, ⟨k0, w0⟩, turn⟩ := h
  refine ⟨fun j σ' H' => ∃ G' ρ', Same G G' ∧ R C M.ow G' ρ' σ' H' [] ∧ W j ρ', ⟨k0, G, ρ, Same.refl _, r, w0⟩, ?_⟩
  rintro j σ' H' ⟨G', ρ', z, r', w⟩
  refine s C G' ρ' σ' H' [] _ _ r' (turn j ρ' w) fun b ρ1 G1 H1 hq z1 kp r1 => ?_
  cases b with
  | true =>
    rw [if_pos rfl] at hq ⊢
    refine ⟨fun σ2 H2 => ∃ j', j' < j ∧ ∃ G2 ρ2, Same G G2 ∧ R C M.ow G2 ρ2 σ2 H2 [] ∧ W j' ρ2, fun σ2 H2 h => h, ?_⟩
    refine s2 C G1 ρ1 σ' H1 _ _ hm hn r1 hq ⟨?_, ?_, ?_, ?_⟩
    · rintro ρ2 σ2 G2 H2 ⟨j', hj, w'⟩ z2 r2; exact ⟨j', hj, G2, ρ2, z.trans (z1.trans z2), r2, w'⟩
    · intro ρ2 σ2 G2 H2 h z2 r2; exact k.nx ρ2 σ2 G2 H2 h (z.trans (z1.trans z2)) r2
    · rintro ρ2 σ2 G2 H2 ⟨j', hj, w'⟩ z2 r2; exact ⟨j', hj, G2, ρ2, z.trans (z1.trans z2), r2, w'⟩
    · intro d ρ2 σ2 v G2 H2 h z2 r2; exact k.rt d ρ2 σ2 v G2 H2 h (z.trans (z1.trans z2)) r2
  | false => rw [if_neg (by decide)] at hq ⊢; exact k.nx ρ1 σ' G1 H1 hq (z.trans z1) r1
/-- what is walked: its things -/
noncomputable def ItOk (J : It) (G : Hp) (ds : List D) : Prop := ∀ (C : Ctx) (ow : List Bool) (G' : Hp) (ρ : DSt) (σ : St) (H : Hp) (pd : List (D × V)) (i : Nat), Same G G' → R C ow G' ρ σ H pd →
  (ds.length ≤ i → J.stop i H) ∧ ∀ d, ds[i]? = some d → J.go i H ∧ ∀ x H', J.yld i H x H' → ∃ G2, Same G' G2 ∧ R C ow G2 ρ σ H' pd ∧ Rep G2 d x
noncomputable def SI (ow : List Bool) (wi : TI) (mi : MA) : Prop := ∀ (C : Ctx) (G : Hp) (ρ : DSt) (σ : St) (H : Hp) (pd : List (D × V)) (q : List D → DSt → Prop) (Q : It → Hp → Prop), R C ow G ρ σ H pd → mi ρ q →
  (∀ ds ρ' G' H' J, q ds ρ' → Same G G' → Kp ow ρ ρ' → R C ow G' ρ' σ H' pd → ItOk J G' ds → Q J H') → wi σ H Q
structure QI (X : Cx) (ow : List Bool) (tg iter : Expr) (mi : MA) : Prop where
  ex : ∃ t, PI X tg iter t ∧ SI ow t mi
noncomputable def forD (g : MG) (mb : MS) (n : EndsD) (ds : List D) (ρ : DSt) : Prop := ∃ I : Nat → DSt → Prop, I 0 ρ ∧
  (∀ i d ρ, ds[i]? = some d → I i ρ → g d ρ fun ρ1 => mb { n with nx := I (i + 1), ct := I (i + 1), bk := n.nx } ρ1) ∧ ∀ ρ, I ds.length ρ → n.nx ρ
noncomputable def mFor (mi : MA) (g : MG) (mb : MS) : MS := fun n ρ => mi ρ fun ds ρ1 => forD g mb n ds ρ1
theorem qs_for {mi : MA} {tg iter : Expr} {body : List Stmt} (hp : PassesOwn (model X.prog X.w) X.A X.env X.xe) (hc : X.calm = true) (hi : QI X M.ow tg iter mi) (hg : QG X M tg mg) (hb : QSs X M body m)
    (hs : ∀ x, foldedSetIterable iter X.env x = pure x := by intro _; rfl) : QS X M (.For tg iter body [] pos) (mFor mi mg m) := by
  obtain ⟨ti, pi, si⟩ := hi; obtain ⟨tg', pg, sg⟩ := hg; obtain ⟨tb, pb, sb⟩ := hb
  refine ⟨_, ps_for hp hc pi pg pb hs, fun C G ρ σ H n D hm hn r h k => si C G ρ σ H [] _ _ r h fun ds ρ0 G0 H0 J hq z0 kp r0 jo => ?_⟩
  obtain ⟨I, i0, turn, fin⟩ := hq
  refine ⟨fun i j σ' H' => j = ds.length - i ∧ i ≤ ds.length ∧ ∃ G' ρ', Same G0 G' ∧ R C M.ow G' ρ' σ' H' [] ∧ I i ρ', ⟨_, rfl, Nat.zero_le _, G0, ρ0, Same.refl _, r0, i0⟩, ?_⟩
  rintro i j σ' H' ⟨rfl, hi, G', ρ', z, r', w⟩
  obtain ⟨st, go⟩ := jo C M.ow G' ρ' σ' H' [] i z r'
  by_cases hlt : i < ds.length
  · obtain ⟨g1, g2⟩ := go ds[i] (List.getElem?_eq_getElem hlt)
    refine .inr ⟨g1, fun σ2 H2 => ∃ G2 ρ2, Same G0 G2 ∧ R C M.ow G2 ρ2 σ2 H2 [] ∧ I (i + 1) ρ2, fun σ2 H2 h => ⟨ds.length - (i + 1), by omega, rfl, hlt, h⟩, fun x H1 hy => ?_⟩
    obtain ⟨G1, z1, r1, p1⟩ := g2 x H1 hy
    refine sg C G1 ρ' σ' H1 [] ds[i] x _ _ hm r1 p1 (turn i ds[i] ρ' (List.getElem?_eq_getElem hlt) w) fun ρ2 σ2 h2 r2 => ?_
    refine sb C G1 ρ2 σ2 H1 _ _ hm hn r2 h2 ⟨?_, ?_, ?_, ?_⟩
    · intro ρ3 σ3 G3 H3 h3 z3 r3; exact ⟨G3, ρ3, z.trans (z1.trans z3), r3, h3⟩
    · intro ρ3 σ3 G3 H3 h3 z3 r3; exact k.nx ρ3 σ3 G3 H3 h3 (z0.trans (z.trans (z1.trans z3))) r3
    · intro ρ3 σ3 G3 H3 h3 z3 r3; exact ⟨G3, ρ3, z.trans (z1.trans z3), r3, h3⟩
    · intro d ρ3 σ3 v G3 H3 h3 z3 r3; exact k.rt d ρ3 σ3 v G3 H3 h3 (z0.trans (z.trans (z1.trans z3))) r3
  · have e : i = ds.length := by omega
    subst e
    exact .inl ⟨st (Nat.le_refl _), k.nx ρ' σ' G' H' (fin ρ' w) (z0.trans z) r'⟩
end
end L2

set_option Elab.async false
set_option linter.all false
set_option maxRecDepth 100000
set_option maxHeartbeats 1000000
namespace L2
open PySem PySem.Spec PyProof.Rows
section
variable {X : Cx} {ow : List Bool} {a b c e tg : Expr} {ma mb mc : ME} {pos : Pos} {mr : MA} {es : List Expr}
/-! ### what is walked -/
theorem itt_ok {K : PySem.W.Frag} {G : Hp} {p : Addr} {xs : List V} {ds : List D} (h1 : G p = some (.tup xs)) (h2 : Reps G ds xs) : ItOk (Itt K p) G ds := fun C ow G' ρ σ H pd i z r => by
  have hp := r.gh _ _ (z _ _ h1)
  refine ⟨fun hl => ⟨xs, SqT.of hp, by rw [h2.length]; exact hl⟩, fun d e => ?_⟩
  obtain ⟨v, e1, e2⟩ := reps_get h2 e
  refine ⟨⟨xs, v, SqT.of hp, e1⟩, fun x H' hy => ?_⟩
  obtain ⟨rfl, hy⟩ := hy
  have := hy xs (SqT.of hp)
  rw [e1] at this; cases this
  exact ⟨G', Same.refl _, r, Rep.mono z _ _ e2⟩
noncomputable def miTup (m : ME) : MA := fun ρ q => m ρ fun d ρ' => match d with
  | .tup ds => q ds ρ'
  | _ => False
theorem qi_tup (h : QE X ow e ma) : QI X ow tg e (miTup ma) := by
  obtain ⟨t, p, s⟩ := h
  refine ⟨_, pi_tup p, fun C G ρ σ H pd q Q r hm k => s C G ρ σ H pd _ _ r hm fun d ρ' v G' H' hq z kp r' p => ?_⟩
  cases d with
  | tup ds => obtain ⟨a, xs, rfl, h1, h2⟩ := rep_tup_of p; exact ⟨a, rfl, ⟨xs, SqT.of (r'.gh _ _ h1)⟩, k ds ρ' G' H' _ hq z kp r' (itt_ok h1 h2)⟩
  | _ => exact hq.elim
/-- lo, lo + 1, .. -/
noncomputable def rngD (lo : Int) (n : Nat) : List D := (List.range n).map fun (i : Nat) => .int (lo + i)
theorem rngD_at {lo : Int} {n i : Nat} {d : D} (h : (rngD lo n)[i]? = some d) : i < n ∧ d = .int (lo + i) := by
  unfold rngD at h
  rw [List.getElem?_map] at h
  by_cases c : i < n
  · rw [List.getElem?_range c] at h; exact ⟨c, (Option.some.inj h).symm⟩
  · rw [List.getElem?_eq_none (by simp; omega)] at h; cases h
theorem rngD_len (lo : Int) (n : Nat) : (rngD lo n).length = n := by unfold rngD; simp
theorem itr_ok {G : Hp} {lo : Int} {n : Nat} : ItOk (Itr lo n) G (rngD lo n) := fun C ow G' ρ σ H pd i z r => by
  refine ⟨fun hl => by rw [rngD_len] at hl; exact hl, fun d e => ?_⟩
  obtain ⟨h1, rfl⟩ := rngD_at e
  refine ⟨h1, fun x H' hy => ?_⟩
  obtain ⟨rfl, rfl⟩ := hy
  exact ⟨G', Same.refl _, r, rep_int _⟩
noncomputable def miR1 (m : MA) : MA := fun ρ q => m ρ fun ds ρ' => match ds with
  | [.int j] => (-(2 ^ 62) ≤ j ∧ j < 2 ^ 62) ∧ q (rngD 0 j.toNat) ρ'
  | _ => False
theorem qi_range1 {p : Pos} (hg : Gl X "range") (hm : X.mg "range" = none) (ha : QA X ow [a] mr) (hs : starEach [a] X.env = [(false, eval a X.env)] := by rfl) : QI X ow tg (.Call (.Name "range" p) [a] [] pos) (miR1 mr) := by
  obtain ⟨t, p, s⟩ := ha
  refine ⟨_, pi_range1 hg hm p hs, fun C G ρ σ H pd q Q r hm k => s C G ρ σ H pd _ _ r hm fun ds ρ' vs G' H' hq z kp r' p hn => ?_⟩
  split at hq
  · obtain ⟨v, rfl, p1⟩ := reps_one p
    rw [rep_int_of p1]
    exact ⟨_, rfl, hq.1.1, hq.1.2, k _ ρ' G' H' _ hq.2 z kp r' itr_ok⟩
  · exact hq.elim
/-! ### the value of an owned slot is handed on -/
noncomputable def mMove (i : Nat) : ME := fun ρ q => match ρ[i]? with
  | some (some d) => q d (ρ.set i none)
  | _ => False
end
/-! ### calls of defs -/
inductive AK where
  | s | m (i : Nat) | t
noncomputable def AK.isM : AK → Bool
  | .s => false
  | _ => true
/-- what the arguments come to, as they stand; t: held values, in their order -/
noncomputable def ArgsK (G : Hp) (σ : St) : List AK → List D → List V → List (D × V) → Prop
  | [], [], [], [] => True
  | .s :: ks, d :: ds, v :: vs, T => Rep G d v ∧ ArgsK G σ ks ds vs T
  | .m i :: ks, _ :: ds, v :: vs, T => σ[i]? = some (some v) ∧ ArgsK G σ ks ds vs T
  | .t :: ks, d :: ds, v :: vs, x :: T => x = (d, v) ∧ ArgsK G σ ks ds vs T
  | _, _, _, _ => False
noncomputable def SAk (ow : List Bool) (ks : List AK) (t : TA) (m : MA) : Prop := ∀ (C : Ctx) (G : Hp) (ρ : DSt) (σ : St) (H : Hp) (pd : List (D × V)) (q : List D → DSt → Prop) (Q : List V → Hp → Prop), R C ow G ρ σ H pd → m ρ q →
  (∀ ds ρ' vs T G' H', q ds ρ' → Same G G' → Kp ow ρ ρ' → R C ow G' ρ' σ H' (T.reverse ++ pd) → ArgsK G' σ ks ds vs T → Q vs H') → t σ H Q
structure QAk (X : Cx) (ow : List Bool) (ks : List AK) (es : List Expr) (m : MA) : Prop where
  ex : ∃ t, PA X es t ∧ SAk ow ks t m
section
variable {X : Cx} {ow : List Bool} {a b c e tg : Expr} {ma mb mc : ME} {pos : Pos} {mr : MA} {es : List Expr} {ks : List AK}
theorem qk_nil : QAk X ow [] [] mNil := ⟨_, pa_nil, fun C G ρ σ H pd q Q r h k => k [] ρ [] [] G H h (Same.refl _) Kp.refl r trivial⟩
theorem qk_s (ha : QE X ow e ma) (hr : QAk X ow ks es mr) (hs : starEach (e :: es) X.env = (false, eval e X.env) :: starEach es X.env := by rfl) : QAk X ow (.s :: ks) (e :: es) (mCons ma mr) := by
  obtain ⟨t, p, s⟩ := ha; obtain ⟨t2, p2, s2⟩ := hr
  refine ⟨_, pa_cons p p2 hs, fun C G ρ σ H pd q Q r hm k => s C G ρ σ H pd _ _ r hm fun d ρ' v G' H' hq z kp r' p => ?_⟩
  exact s2 C G' ρ' σ H' pd _ _ r' hq fun ds ρ2 vs T G2 H2 hq2 z2 kp2 r2 p2 => k (d :: ds) ρ2 (v :: vs) T G2 H2 hq2 (z.trans z2) (kp.trans kp2) r2 ⟨Rep.mono z2 _ _ p, p2⟩
/-- an owned slot's name: it is there, its value is looked up when all arguments are there -/
noncomputable def mConsM (i : Nat) (r : MA) : MA := fun ρ q => match ρ[i]? with
  | some (some _) => r ρ fun ds ρ2 => q (.non :: ds) ρ2
  | _ => False
theorem qk_m (i : Nat) {x : Str} (hr : QAk X ow ks es mr) (hN : X.N[i]? = some x := by rfl) (hv : Vis X.env.scope x := by first | exact Or.inl rfl | exact Or.inr (Or.inl rfl) | exact Or.inr (Or.inr rfl)) (hd : (x == ("__debug__" : Str)) = false := by decide)
    (hcd : (x == ("__classdict__" : Str)) = false := by decide) (hs : starEach (.Name x pos :: es) X.env = (false, eval (.Name x pos) X.env) :: starEach es X.env := by rfl) : QAk X ow (.m i :: ks) (.Name x pos :: es) (mConsM i mr) := by
  obtain ⟨t2, p2, s2⟩ := hr
  refine ⟨_, pa_cons (pe_var hN hv hd hcd) p2 hs, fun C G ρ σ H pd q Q r hm k => ?_⟩
  unfold mConsM at hm
  split at hm
  · rename_i d e
    obtain ⟨O, ro⟩ := r
    obtain ⟨v, h1, _⟩ := ro.sl i d e
    exact ⟨v, h1, s2 C G ρ σ H pd _ _ ⟨O, ro⟩ hm fun ds ρ2 vs T G2 H2 hq2 z2 kp2 r2 p2 => k (.non :: ds) ρ2 (v :: vs) T G2 H2 hq2 z2 kp2 r2 ⟨h1, p2⟩⟩
  · exact hm.elim
noncomputable def fillA : List AK → List D → DSt → Option (List D)
  | [], [], _ => some []
  | .s :: ks, d :: ds, ρ => (fillA ks ds ρ).map (d :: ·)
  | .t :: ks, d :: ds, ρ => (fillA ks ds ρ).map (d :: ·)
  | .m i :: ks, _ :: ds, ρ => match ρ[i]? with
    | some (some d) => (fillA ks ds ρ).map (d :: ·)
    | _ => none
  | _, _, _ => none
/-- the labels of the written arguments -/
noncomputable def lbs : List AK → Nat → List (Option Nat)
  | [], _ => []
  | .s :: ks, r => none :: lbs ks r
  | .m i :: ks, r => some (2 * i) :: lbs ks r
  | .t :: ks, r => some (2 * r + 1) :: lbs ks (r + 1)
noncomputable def slotsOf : List AK → List Nat
  | [] => []
  | .m i :: ks => i :: slotsOf ks
  | _ :: ks => slotsOf ks
noncomputable def fnd (l : Nat) : List (Option Nat) → Nat → Option Nat
  | [], _ => none
  | x :: xs, k => if x = some l then some k else fnd l xs (k + 1)
theorem fnd_of {l : Nat} : ∀ {xs : List (Option Nat)} {k j : Nat}, fnd l xs k = some j → ∃ i, j = k + i ∧ xs[i]? = some (some l)
  | [], _, _, h => by cases h
  | x :: xs, k, j, h => by
    unfold fnd at h
    split at h
    · rename_i c; cases h; exact ⟨0, rfl, by simp [c]⟩
    · obtain ⟨i, rfl, e⟩ := fnd_of h; exact ⟨i + 1, by omega, by simpa using e⟩
theorem fnd_none {l : Nat} : ∀ {xs : List (Option Nat)} {k : Nat}, (∀ i : Nat, xs[i]? ≠ some (some l)) → fnd l xs k = none
  | [], _, _ => rfl
  | x :: xs, k, h => by
    unfold fnd
    rw [if_neg (fun c => h 0 (by simp [c]))]
    exact fnd_none fun i => by simpa using h (i + 1)
theorem fnd_at {l : Nat} : ∀ {xs : List (Option Nat)} {k i : Nat}, (∀ (i j : Nat) (l : Nat), xs[i]? = some (some l) → xs[j]? = some (some l) → i = j) → xs[i]? = some (some l) → fnd l xs k = some (k + i)
  | [], _, _, _, h => by simp at h
  | x :: xs, k, i, u, h => by
    unfold fnd
    by_cases c : x = some l
    · rw [if_pos c]
      have := u 0 i l (by simp [c]) h
      subst this; rfl
    · rw [if_neg c]
      cases i with
      | zero => simp at h; exact absurd h c
      | succ i =>
        have := fnd_at (k := k + 1) (i := i) (fun i j l a b => by have := u (i + 1) (j + 1) l (by simpa using a) (by simpa using b); omega) (by simpa using h)
        rw [this]; congr 1; omega
theorem lbs_odd : ∀ {ks : List AK} {r : Nat} {i l : Nat}, (lbs ks r)[i]? = some (some l) → (∃ j ∈ slotsOf ks, l = 2 * j) ∨ ∃ j, r ≤ j ∧ l = 2 * j + 1
  | [], _, _, _, h => by simp [lbs] at h
  | .s :: ks, r, 0, l, h => by simp [lbs] at h
  | .s :: ks, r, i + 1, l, h => by simp only [lbs, List.getElem?_cons_succ] at h; have := lbs_odd (ks := ks) h; simpa [slotsOf] using this
  | .m j :: ks, r, 0, l, h => by simp [lbs] at h; exact .inl ⟨j, by simp [slotsOf], h.symm⟩
  | .m j :: ks, r, i + 1, l, h => by
    simp only [lbs, List.getElem?_cons_succ] at h
    rcases lbs_odd h with ⟨z, h1, h2⟩ | h
    · exact .inl ⟨z, by simp [slotsOf, h1], h2⟩
    · exact .inr h
  | .t :: ks, r, 0, l, h => by simp [lbs] at h; exact .inr ⟨r, Nat.le_refl _, h.symm⟩
  | .t :: ks, r, i + 1, l, h => by
    simp only [lbs, List.getElem?_cons_succ] at h
    rcases lbs_odd h with ⟨z, h1, h2⟩ | ⟨j, h1, h2⟩
    · exact .inl ⟨z, by simpa [slotsOf] using h1, h2⟩
    · exact .inr ⟨j, by omega, h2⟩
theorem lbs_uniq : ∀ {ks : List AK} {r : Nat}, (slotsOf ks).Nodup → ∀ (i j l : Nat), (lbs ks r)[i]? = some (some l) → (lbs ks r)[j]? = some (some l) → i = j
  | [], _, _, i, j, l, h, _ => by simp [lbs] at h
  | .s :: ks, r, nd, 0, j, l, h, _ => by simp [lbs] at h
  | .s :: ks, r, nd, i + 1, 0, l, _, h => by simp [lbs] at h
  | .s :: ks, r, nd, i + 1, j + 1, l, h, h2 => by simp only [lbs, List.getElem?_cons_succ] at h h2; rw [lbs_uniq (ks := ks) (by simpa [slotsOf] using nd) i j l h h2]
  | .m a :: ks, r, nd, 0, 0, l, _, _ => rfl
  | .m a :: ks, r, nd, 0, j + 1, l, h, h2 => by
    simp only [lbs, List.getElem?_cons_succ] at h2; simp [lbs] at h
    simp only [slotsOf, List.nodup_cons] at nd
    rcases lbs_odd h2 with ⟨z, h3, h4⟩ | ⟨z, h3, h4⟩
    · exact absurd h3 (by rw [show z = a by omega]; exact nd.1)
    · omega
  | .m a :: ks, r, nd, i + 1, 0, l, h2, h => by
    simp only [lbs, List.getElem?_cons_succ] at h2; simp [lbs] at h
    simp only [slotsOf, List.nodup_cons] at nd
    rcases lbs_odd h2 with ⟨z, h3, h4⟩ | ⟨z, h3, h4⟩
    · exact absurd h3 (by rw [show z = a by omega]; exact nd.1)
    · omega
  | .m a :: ks, r, nd, i + 1, j + 1, l, h, h2 => by
    simp only [slotsOf, List.nodup_cons] at nd
    simp only [lbs, List.getElem?_cons_succ] at h h2; rw [lbs_uniq (ks := ks) nd.2 i j l h h2]
  | .t :: ks, r, nd, 0, 0, l, _, _ => rfl
  | .t :: ks, r, nd, 0, j + 1, l, h, h2 => by
    simp only [lbs, List.getElem?_cons_succ] at h2; simp [lbs] at h
    rcases lbs_odd h2 with ⟨z, h3, h4⟩ | ⟨z, h3, h4⟩ <;> omega
  | .t :: ks, r, nd, i + 1, 0, l, h2, h => by
    simp only [lbs, List.getElem?_cons_succ] at h2; simp [lbs] at h
    rcases lbs_odd h2 with ⟨z, h3, h4⟩ | ⟨z, h3, h4⟩ <;> omega
  | .t :: ks, r, nd, i + 1, j + 1, l, h, h2 => by simp only [lbs, List.getElem?_cons_succ] at h h2; rw [lbs_uniq (ks := ks) (by simpa [slotsOf] using nd) i j l h h2]
end
end L2

set_option Elab.async false
set_option linter.all false
set_option maxRecDepth 100000
set_option maxHeartbeats 1000000
namespace L2
open PySem PySem.Spec PyProof.Rows
theorem pend_tail {G H : Hp} {O : Own} : ∀ {T pd : List (D × V)}, Pend G H O (T ++ pd) → Pend G H O pd
  | [], _, h => h
  | _ :: T, _, h => pend_tail (T := T) h.2
theorem pend_at {G H : Hp} {O : Own} : ∀ {T pd : List (D × V)} {j : Nat} {x : D × V}, Pend G H O (T.reverse ++ pd) → T[j]? = some x → Sep G H O (2 * (pd.length + j) + 1) x.1 [] x.2
  | [], _, _, _, _, e => by simp at e
  | y :: T, pd, j, x, h, e => by
    have h' : Pend G H O (T.reverse ++ (y :: pd)) := by simpa using h
    cases j with
    | zero => simp at e; subst e; exact (pend_tail h').1
    | succ j =>
      have := pend_at (j := j) h' (by simpa using e)
      rw [show pd.length + (j + 1) = (y :: pd).length + j by simp; omega]
      exact this
theorem args_at {G H : Hp} {O : Own} {σ : St} {ρ : DSt} : ∀ {ks : List AK} {ds ds' : List D} {vs : List V} {T : List (D × V)} {r : Nat}, ArgsK G σ ks ds vs T → fillA ks ds ρ = some ds' →
    (∀ (j : Nat) x, T[j]? = some x → Sep G H O (2 * (r + j) + 1) x.1 [] x.2) → (∀ i ∈ slotsOf ks, ∀ d, ρ[i]? = some (some d) → ∃ v, σ[i]? = some (some v) ∧ Sep G H O (2 * i) d [] v) →
    ds'.length = vs.length ∧ vs.length = ks.length ∧ ∀ (k : Nat) d, ds'[k]? = some d → ∃ v, vs[k]? = some v ∧ ((∃ l, (lbs ks r)[k]? = some (some l) ∧ (ks.map AK.isM)[k]? = some true ∧ Sep G H O l d [] v) ∨ ((ks.map AK.isM)[k]? = some false ∧ Rep G d v))
  | [], [], ds', [], [], r, _, hf, _, _ => by simp [fillA] at hf; subst hf; exact ⟨rfl, rfl, fun k d e => by simp at e⟩
  | .s :: ks, d :: ds, ds', v :: vs, T, r, h, hf, hT, hS => by
    rw [fillA] at hf
    cases e : fillA ks ds ρ with
    | none => rw [e] at hf; cases hf
    | some es =>
      rw [e] at hf; cases hf
      obtain ⟨l1, l2, ih⟩ := args_at (ks := ks) h.2 e hT (fun i hi => hS i (by simpa [slotsOf] using hi))
      refine ⟨by simp [l1], by simp [l2], fun k d' e' => ?_⟩
      cases k with
      | zero => simp at e'; subst e'; exact ⟨v, rfl, .inr ⟨rfl, h.1⟩⟩
      | succ k => obtain ⟨u, g1, g2⟩ := ih k d' (by simpa using e'); exact ⟨u, by simpa using g1, by simpa [lbs] using g2⟩
  | .m i :: ks, d :: ds, ds', v :: vs, T, r, h, hf, hT, hS => by
    rw [fillA] at hf
    cases e0 : ρ[i]? with
    | none => rw [e0] at hf; cases hf
    | some o =>
      cases o with
      | none => rw [e0] at hf; cases hf
      | some d0 =>
        rw [e0] at hf
        dsimp only at hf
        cases e : fillA ks ds ρ with
        | none => rw [e] at hf; cases hf
        | some es =>
          rw [e] at hf; cases hf
          obtain ⟨l1, l2, ih⟩ := args_at (ks := ks) h.2 e hT (fun i hi => hS i (by simp [slotsOf, hi]))
          refine ⟨by simp [l1], by simp [l2], fun k d' e' => ?_⟩
          cases k with
          | zero =>
            simp at e'; subst e'
            obtain ⟨u, g1, g2⟩ := hS i (by simp [slotsOf]) d0 e0
            rw [h.1] at g1; cases g1
            exact ⟨v, rfl, .inl ⟨2 * i, by simp [lbs], rfl, g2⟩⟩
          | succ k => obtain ⟨u, g1, g2⟩ := ih k d' (by simpa using e'); exact ⟨u, by simpa using g1, by simpa [lbs] using g2⟩
  | .t :: ks, d :: ds, ds', v :: vs, x :: T, r, h, hf, hT, hS => by
    rw [fillA] at hf
    cases e : fillA ks ds ρ with
    | none => rw [e] at hf; cases hf
    | some es =>
      rw [e] at hf; cases hf
      obtain ⟨l1, l2, ih⟩ := args_at (ks := ks) (r := r + 1) h.2 e (fun j x e => by rw [show r + 1 + j = r + (j + 1) by omega]; exact hT (j + 1) x (by simpa using e)) (fun i hi => hS i (by simpa [slotsOf] using hi))
      refine ⟨by simp [l1], by simp [l2], fun k d' e' => ?_⟩
      cases k with
      | zero =>
        simp at e'; subst e'
        have := hT 0 x rfl
        rw [h.1] at this
        exact ⟨v, rfl, .inl ⟨2 * r + 1, by simp [lbs], rfl, this⟩⟩
      | succ k => obtain ⟨u, g1, g2⟩ := ih k d' (by simpa using e'); exact ⟨u, by simpa using g1, by simpa [lbs] using g2⟩
  | [], _ :: _, _, _, _, _, h, _, _, _ => h.elim
  | [], [], _, _ :: _, _, _, h, _, _, _ => h.elim
  | [], [], _, [], _ :: _, _, h, _, _, _ => h.elim
  | .s :: _, [], _, _, _, _, h, _, _, _ => h.elim
  | .s :: _, _ :: _, _, [], _, _, h, _, _, _ => h.elim
  | .m _ :: _, [], _, _, _, _, h, _, _, _ => h.elim
  | .m _ :: _, _ :: _, _, [], _, _, h, _, _, _ => h.elim
  | .t :: _, [], _, _, _, _, h, _, _, _ => h.elim
  | .t :: _, _ :: _, _, [], _, _, h, _, _, _ => h.elim
  | .t :: _, _ :: _, _, _ :: _, [], _, h, _, _, _ => h.elim
theorem args_slot {G : Hp} {σ : St} : ∀ {ks : List AK} {ds : List D} {vs : List V} {T : List (D × V)} {k i : Nat}, ArgsK G σ ks ds vs T → ks[k]? = some (.m i) → ∃ v, vs[k]? = some v ∧ σ[i]? = some (some v)
  | [], _, _, _, k, i, _, e => by simp at e
  | .s :: ks, d :: ds, v :: vs, T, 0, i, h, e => by simp at e
  | .s :: ks, d :: ds, v :: vs, T, k + 1, i, h, e => by obtain ⟨u, g1, g2⟩ := args_slot (k := k) h.2 (by simpa using e); exact ⟨u, by simpa using g1, g2⟩
  | .m j :: ks, d :: ds, v :: vs, T, 0, i, h, e => by simp at e; subst e; exact ⟨v, rfl, h.1⟩
  | .m j :: ks, d :: ds, v :: vs, T, k + 1, i, h, e => by obtain ⟨u, g1, g2⟩ := args_slot (k := k) h.2 (by simpa using e); exact ⟨u, by simpa using g1, g2⟩
  | .t :: ks, d :: ds, v :: vs, x :: T, 0, i, h, e => by simp at e
  | .t :: ks, d :: ds, v :: vs, x :: T, k + 1, i, h, e => by obtain ⟨u, g1, g2⟩ := args_slot (k := k) h.2 (by simpa using e); exact ⟨u, by simpa using g1, g2⟩
  | .s :: _, [], _, _, _, _, h, _ => h.elim
  | .s :: _, _ :: _, [], _, _, _, h, _ => h.elim
  | .m _ :: _, [], _, _, _, _, h, _ => h.elim
  | .m _ :: _, _ :: _, [], _, _, _, h, _ => h.elim
  | .t :: _, [], _, _, _, _, h, _ => h.elim
  | .t :: _, _ :: _, [], _, _, _, h, _ => h.elim
  | .t :: _, _ :: _, _ :: _, [], _, _, h, _ => h.elim
/-- what the written slots get -/
noncomputable def putR : List AK → DSt → DSt → DSt
  | .m i :: ks, x :: ρ2, ρ => putR ks ρ2 (ρ.set i x)
  | _ :: ks, _ :: ρ2, ρ => putR ks ρ2 ρ
  | _, _, ρ => ρ
noncomputable def putK : List AK → DSt → DSt → DSt
  | .s :: ks, os, ρ => putK ks os ρ
  | .m i :: ks, o :: os, ρ => putK ks os (ρ.set i o)
  | .t :: ks, _ :: os, ρ => putK ks os ρ
  | _, _, ρ => ρ
theorem putK_eq : ∀ {ks : List AK} {ρ2 ρ : DSt}, ρ2.length = ks.length → putK ks (mus (ks.map AK.isM) ρ2) ρ = putR ks ρ2 ρ
  | [], [], ρ, _ => rfl
  | .s :: ks, x :: ρ2, ρ, h => by simp only [List.map, AK.isM, mus, putK, putR]; exact putK_eq (by simpa using h)
  | .m i :: ks, x :: ρ2, ρ, h => by simp only [List.map, AK.isM, mus, putK, putR]; exact putK_eq (by simpa using h)
  | .t :: ks, x :: ρ2, ρ, h => by simp only [List.map, AK.isM, mus, putK, putR]; exact putK_eq (by simpa using h)
theorem putR_len : ∀ {ks : List AK} {ρ2 ρ : DSt}, (putR ks ρ2 ρ).length = ρ.length
  | [], _, _ => by simp [putR]
  | .s :: ks, [], _ => by simp [putR]
  | .m i :: ks, [], _ => by simp [putR]
  | .t :: ks, [], _ => by simp [putR]
  | .s :: ks, x :: ρ2, ρ => by simp only [putR]; exact putR_len
  | .m i :: ks, x :: ρ2, ρ => by simp only [putR]; rw [putR_len]; simp
  | .t :: ks, x :: ρ2, ρ => by simp only [putR]; exact putR_len
theorem putR_off : ∀ {ks : List AK} {ρ2 ρ : DSt} {i : Nat}, i ∉ slotsOf ks → (putR ks ρ2 ρ)[i]? = ρ[i]?
  | [], _, _, _, _ => by simp [putR]
  | .s :: ks, [], _, _, _ => by simp [putR]
  | .m i :: ks, [], _, _, _ => by simp [putR]
  | .t :: ks, [], _, _, _ => by simp [putR]
  | .s :: ks, x :: ρ2, ρ, i, h => by simp only [putR]; exact putR_off (by simpa [slotsOf] using h)
  | .t :: ks, x :: ρ2, ρ, i, h => by simp only [putR]; exact putR_off (by simpa [slotsOf] using h)
  | .m j :: ks, x :: ρ2, ρ, i, h => by
    simp only [putR]
    simp only [slotsOf, List.mem_cons, not_or] at h
    rw [putR_off h.2, List.getElem?_set_ne (Ne.symm h.1)]
theorem putR_at : ∀ {ks : List AK} {ρ2 ρ : DSt} {i : Nat} {d : D}, (putR ks ρ2 ρ)[i]? = some (some d) → ρ2.length = ks.length → (i ∉ slotsOf ks ∧ ρ[i]? = some (some d)) ∨ ∃ k : Nat, ks[k]? = some (.m i) ∧ ρ2[k]? = some (some d)
  | [], [], ρ, i, d, h, _ => .inl ⟨by simp [slotsOf], by simpa [putR] using h⟩
  | .s :: ks, x :: ρ2, ρ, i, d, h, hl => by
    simp only [putR] at h
    rcases putR_at h (by simpa using hl) with ⟨h1, h2⟩ | ⟨k, h1, h2⟩
    · exact .inl ⟨by simpa [slotsOf] using h1, h2⟩
    · exact .inr ⟨k + 1, by simpa using h1, by simpa using h2⟩
  | .t :: ks, x :: ρ2, ρ, i, d, h, hl => by
    simp only [putR] at h
    rcases putR_at h (by simpa using hl) with ⟨h1, h2⟩ | ⟨k, h1, h2⟩
    · exact .inl ⟨by simpa [slotsOf] using h1, h2⟩
    · exact .inr ⟨k + 1, by simpa using h1, by simpa using h2⟩
  | .m j :: ks, x :: ρ2, ρ, i, d, h, hl => by
    simp only [putR] at h
    rcases putR_at h (by simpa using hl) with ⟨h1, h2⟩ | ⟨k, h1, h2⟩
    · rcases set_at h2 with ⟨rfl, rfl⟩ | ⟨h3, h4⟩
      · exact .inr ⟨0, rfl, rfl⟩
      · exact .inl ⟨by simp [slotsOf, h1, h3], h4⟩
    · exact .inr ⟨k + 1, by simpa using h1, by simpa using h2⟩
theorem lbs_m : ∀ {ks : List AK} {r k i : Nat}, ks[k]? = some (.m i) → (lbs ks r)[k]? = some (some (2 * i))
  | [], _, _, _, e => by simp at e
  | .s :: ks, r, 0, i, e => by simp at e
  | .s :: ks, r, k + 1, i, e => by simp only [lbs, List.getElem?_cons_succ]; exact lbs_m (by simpa using e)
  | .m j :: ks, r, 0, i, e => by simp at e; subst e; simp [lbs]
  | .m j :: ks, r, k + 1, i, e => by simp only [lbs, List.getElem?_cons_succ]; exact lbs_m (by simpa using e)
  | .t :: ks, r, 0, i, e => by simp at e
  | .t :: ks, r, k + 1, i, e => by simp only [lbs, List.getElem?_cons_succ]; exact lbs_m (by simpa using e)
theorem lbs_isM : ∀ {ks : List AK} {r k l : Nat}, (lbs ks r)[k]? = some (some l) → (ks.map AK.isM)[k]? = some true
  | [], _, _, _, e => by simp [lbs] at e
  | .s :: ks, r, 0, i, e => by simp [lbs] at e
  | .s :: ks, r, k + 1, i, e => by simp only [lbs, List.getElem?_cons_succ] at e; simp only [List.map, List.getElem?_cons_succ]; exact lbs_isM e
  | .m j :: ks, r, 0, i, e => rfl
  | .m j :: ks, r, k + 1, i, e => by simp only [lbs, List.getElem?_cons_succ] at e; simp only [List.map, List.getElem?_cons_succ]; exact lbs_isM e
  | .t :: ks, r, 0, i, e => rfl
  | .t :: ks, r, k + 1, i, e => by simp only [lbs, List.getElem?_cons_succ] at e; simp only [List.map, List.getElem?_cons_succ]; exact lbs_isM e
theorem slot_of {ks : List AK} {k i : Nat} (h : ks[k]? = some (.m i)) : i ∈ slotsOf ks := by
  induction ks generalizing k with
  | nil => simp at h
  | cons x ks ih =>
    cases k with
    | zero => simp at h; subst h; simp [slotsOf]
    | succ k => have := ih (by simpa using h); cases x <;> simp [slotsOf, this]
/-- into a call and out of it -/
theorem run_call {C : Ctx} {ow : List Bool} {G : Hp} {ρ : DSt} {σ : St} {H : Hp} {pd T : List (D × V)} {ks : List AK} {ds ds' : List D} {vs : List V} {fr : Bool} {sd : SpD} {q : D → DSt → Prop} {Q : VK} {E : XK}
    (hn : C.np ≤ pd.length) (r : R C ow G ρ σ H (T.reverse ++ pd)) (ha : ArgsK G σ ks ds vs T) (hf : fillA ks ds ρ = some ds') (nd : (slotsOf ks).Nodup) (hw : ∀ i ∈ slotsOf ks, ow[i]? = some true)
    (h : sd ds' fun d os => q d (putK ks os ρ))
    (k : ∀ d ρ' v G' H', q d ρ' → Same G G' → Kp ow ρ ρ' → (if fr = true then R C ow G' ρ' σ H' ((d, v) :: pd) else R C ow G' ρ' σ H' pd ∧ Rep G' d v) → Q v H') : spOf (ks.map AK.isM) fr sd vs H Q E := by
  obtain ⟨O, ro⟩ := r
  have pn := ro.pn
  obtain ⟨l1, l2, hat⟩ := args_at (O := O) (H := H) (r := pd.length) ha hf (fun j x e => pend_at pn e) (fun i hi d e => by
    obtain ⟨v, h1, h2⟩ := ro.sl i d e; rw [if_pos (hw i hi)] at h2; exact ⟨v, h1, h2⟩)
  let lb := lbs ks pd.length
  let fin : Nat → Option Nat := fun l => (fnd l lb 0).map (2 * ·)
  let fbk : Nat → Option Nat := fun l => if l = 1 then some (2 * pd.length + 1) else if l % 2 = 0 then (match lb[l / 2]? with | some o => o | none => none) else none
  have uq := lbs_uniq (ks := ks) (r := pd.length) nd
  have fin_at : ∀ (i l : Nat), lb[i]? = some (some l) → fin l = some (2 * i) := fun i l e => by
    show (fnd l lb 0).map _ = _
    rw [fnd_at uq e]; simp
  have fin_of : ∀ l l', fin l = some l' → ∃ i, l' = 2 * i ∧ lb[i]? = some (some l) := fun l l' e => by
    change (fnd l lb 0).map _ = _ at e
    cases z : fnd l lb 0 with
    | none => rw [z] at e; cases e
    | some j => rw [z] at e; cases e; obtain ⟨i, rfl, e2⟩ := fnd_of z; exact ⟨i, by show 2 * (0 + i) = 2 * i; omega, e2⟩
  have fin_none : ∀ l, (∀ i : Nat, lb[i]? ≠ some (some l)) → fin l = none := fun l e => by
    show (fnd l lb 0).map _ = _
    rw [fnd_none e]; rfl
  have ri := ro.into (mu := ks.map AK.isM) (fin := fin) (ds := ds') (vs := vs) l1 (fun j d e => by
    obtain ⟨v, h1, h2⟩ := hat j d e
    refine ⟨v, h1, ?_⟩
    rcases h2 with ⟨l, h2, h3, h4⟩ | ⟨h2, h3⟩
    · rw [if_pos h3]; exact ⟨l, h4, fin_at j l h2⟩
    · rw [if_neg (by rw [h2]; decide)]; exact h3) (fun l l' e => by
    obtain ⟨i, rfl, e2⟩ := fin_of l l' e
    exact ⟨i, rfl, lbs_isM e2, by have := (List.getElem?_eq_some_iff.mp (lbs_isM e2)).1; rw [List.length_map] at this; omega⟩)
  refine ⟨_, G, ds', fun d os => q d (putK ks os ρ), rfl, rfl, ⟨_, ri⟩, h, by rw [List.length_map, l1, l2], ?_⟩
  intro d ρ2 σ2 v G2 H2 hq z hl hr
  rw [List.length_map] at hl
  rw [putK_eq hl] at hq
  have out : ∀ (pd2 pd3 : List (D × V)) (O2 : Own), RO ⟨G, H, ownM fin O, msV (ks.map AK.isM) vs, 0⟩ (ks.map AK.isM) G2 ρ2 σ2 H2 pd2 O2 → C.np ≤ pd3.length →
      (∀ (O3 : Own), (∀ a l π, O a = some (l, π) → fin l = none → O3 a = some (l, π) ∧ H2 a = H a) → (∀ a l l' π, O2 a = some (l', π) → fbk l' = some l → O3 a = some (l, π)) → TSame G G2 → Pend G2 H2 O3 pd3) →
      RO C ow G2 (putR ks ρ2 ρ) σ H2 pd3 (ownB fin fbk O O2) := fun pd2 pd3 O2 r2 hn3 hP => by
    refine ro.out (vs := vs) r2 ?_ (by rw [putR_len]; exact ro.len) hn3 ?_ ?_ hP
    · intro l0 l' l e1 e2
      obtain ⟨i, rfl, e3⟩ := fin_of l0 l' e1
      change (if 2 * i = 1 then _ else if 2 * i % 2 = 0 then _ else _) = _ at e2
      rw [if_neg (by omega), if_pos (by omega), show 2 * i / 2 = i by omega, e3] at e2
      exact (Option.some.inj e2).symm
    · intro i d c e
      rcases putR_at e hl with ⟨_, h2⟩ | ⟨k, h1, _⟩
      · exact h2
      · exact absurd (hw i (slot_of h1)) c
    · intro i d c e
      rcases putR_at e hl with ⟨h1, h2⟩ | ⟨j, h1, h2⟩
      · refine .inl ⟨fin_none _ fun j e => ?_, h2⟩
        rcases lbs_odd e with ⟨z, h3, h4⟩ | ⟨z, h3, h4⟩
        · exact h1 (by rw [show i = z by omega]; exact h3)
        · omega
      · obtain ⟨u, g1, g2⟩ := args_slot ha h1
        have im : (ks.map AK.isM)[j]? = some true := by rw [List.getElem?_map, h1]; rfl
        refine .inr ⟨j, u, ?_, im, h2, g2, r2.mp j u (msV_at im g1)⟩
        show (if 2 * j = 1 then _ else if 2 * j % 2 = 0 then _ else _) = _
        rw [if_neg (by omega), if_pos (by omega), show 2 * j / 2 = j by omega, lbs_m h1]
  have pdk : ∀ (O3 : Own), (∀ a l π, O a = some (l, π) → fin l = none → O3 a = some (l, π) ∧ H2 a = H a) → TSame G G2 → Pend G2 H2 O3 pd := fun O3 h1 ts =>
    Pend.keep ts (fun a j π hj e => h1 a _ _ e (fin_none _ fun i e => by
      rcases lbs_odd e with ⟨z, h3, h4⟩ | ⟨z, h3, h4⟩ <;> omega)) (pend_tail (T := T.reverse) pn)
  have kp : Kp ow ρ (putR ks ρ2 ρ) := fun j hj => putR_off fun hs => hj (hw j hs)
  refine k d (putR ks ρ2 ρ) v G2 H2 hq z kp ?_
  unfold Ret at hr
  split at hr
  · rename_i c
    rw [if_pos c]
    obtain ⟨O2, r2⟩ := hr
    refine ⟨_, out _ ((d, v) :: pd) O2 r2 (Nat.le_succ_of_le hn) fun O3 h1 h2 ts => ⟨?_, pdk O3 h1 ts⟩⟩
    exact r2.pn.1.keep (fun _ _ z => z) fun a τ e => ⟨h2 a _ _ _ e (by show (if 2 * 0 + 1 = 1 then _ else _) = _; rw [if_pos rfl]), rfl⟩
  · rename_i c
    rw [if_neg c]
    obtain ⟨⟨O2, r2⟩, p⟩ := hr
    exact ⟨⟨_, out _ pd O2 r2 hn fun O3 h1 h2 ts => pdk O3 h1 ts⟩, p⟩
end L2

set_option Elab.async false
set_option linter.all false
set_option maxRecDepth 100000
set_option maxHeartbeats 1000000
namespace L2
open PySem PySem.Spec PyProof.Rows
section
variable {X : Cx} {ow : List Bool} {a b c e tg : Expr} {ma mb mc : ME} {pos p' : Pos} {mr : MA} {es : List Expr} {ks : List AK} {x : Str}
noncomputable def mCall (ks : List AK) (sd : SpD) (m : MA) : ME := fun ρ q => m ρ fun ds ρ1 => match fillA ks ds ρ1 with
  | some ds' => sd ds' fun d os => q d (putK ks os ρ1)
  | none => False
theorem qe_call {k : Nat} {f : Addr} {fd : FuncData} {ps : List Str} {mu : List Bool} {sd : SpD} (F : FnOk X.prog X.w X.K X.mg X.base CX0 k f fd ps (spOf mu false sd)) (hr : Room k X.A) (hg : Gl X x) (hm : X.mg x = some (.ref f)) (hk : PySem.W.keepIn X.K (.ref f) = true) (hb : Binds X.K fd ps [])
    (ha : QAk X ow ks (e :: es) mr) (hmu : mu = ks.map AK.isM := by rfl) (nd : (slotsOf ks).Nodup := by decide) (hw : ∀ i ∈ slotsOf ks, ow[i]? = some true := by decide) (hdb : (x == ("__debug__" : Str)) = false := by decide)
    (he : starEach (e :: es) X.env = (false, eval e X.env) :: starEach es X.env := by rfl) (hpl : (backTo pos (starEach es X.env)).any (·.1) = false := by rfl) : QE X ow (.Call (.Name x p') (e :: es) [] pos) (mCall ks sd mr) := by
  obtain ⟨t, p, s⟩ := ha
  subst hmu
  refine ⟨_, pe_call F hr hg hm hk hb .nil pass0 p hdb he hpl, fun C G ρ σ H pd q Q r hm k => s C G ρ σ H pd _ _ r hm fun ds ρ' vs T G' H' hq z kp r' p => ?_⟩
  rw [List.append_nil]
  split at hq
  · rename_i ds' ef
    exact run_call (fr := false) r.np r' p ef nd hw hq fun d ρ2 v G2 H2 hq2 z2 kp2 h2 => by
      rw [if_neg (by decide)] at h2
      exact k d ρ2 v G2 H2 hq2 (z.trans z2) (kp.trans kp2) h2.1 h2.2
  · exact hq.elim
theorem qf_call {k : Nat} {f : Addr} {fd : FuncData} {ps : List Str} {mu : List Bool} {sd : SpD} (F : FnOk X.prog X.w X.K X.mg X.base CX0 k f fd ps (spOf mu true sd)) (hr : Room k X.A) (hg : Gl X x) (hm : X.mg x = some (.ref f)) (hk : PySem.W.keepIn X.K (.ref f) = true) (hb : Binds X.K fd ps [])
    (ha : QAk X ow ks (e :: es) mr) (hmu : mu = ks.map AK.isM := by rfl) (nd : (slotsOf ks).Nodup := by decide) (hw : ∀ i ∈ slotsOf ks, ow[i]? = some true := by decide) (hdb : (x == ("__debug__" : Str)) = false := by decide)
    (he : starEach (e :: es) X.env = (false, eval e X.env) :: starEach es X.env := by rfl) (hpl : (backTo pos (starEach es X.env)).any (·.1) = false := by rfl) : QF X ow (.Call (.Name x p') (e :: es) [] pos) (mCall ks sd mr) := by
  obtain ⟨t, p, s⟩ := ha
  subst hmu
  refine ⟨_, pe_call F hr hg hm hk hb .nil pass0 p hdb he hpl, fun C G ρ σ H pd q Q r hm k => s C G ρ σ H pd _ _ r hm fun ds ρ' vs T G' H' hq z kp r' p => ?_⟩
  rw [List.append_nil]
  split at hq
  · rename_i ds' ef
    exact run_call (fr := true) r.np r' p ef nd hw hq fun d ρ2 v G2 H2 hq2 z2 kp2 h2 => by
      rw [if_pos rfl] at h2
      exact k d ρ2 v G2 H2 hq2 (z.trans z2) (kp.trans kp2) h2
  · exact hq.elim
end
/-! ### a def -/
theorem RO.grow {C : Ctx} {mu ow : List Bool} {G : Hp} {ds : List D} {vs : List V} {H : Hp} {O : Own} (n : Nat) (h : RO C mu G (ds.map some) (vs.map some) H [] O) (ho : ∀ i : Nat, i < ds.length → ow[i]? = mu[i]?) :
    RO C ow G (ds.map some ++ List.replicate n none) (vs.map some ++ List.replicate n none) H [] O := by
  have hl : ds.length = vs.length := by simpa using h.len
  have up : ∀ {α : Type} {l : List α} {i : Nat} {d : α}, (l.map some ++ List.replicate n none)[i]? = some (some d) → i < l.length ∧ (l.map some)[i]? = some (some d) := fun {α l i d} e => by
    by_cases c : i < l.length
    · rw [List.getElem?_append_left (by simpa using c)] at e; exact ⟨c, e⟩
    · rw [List.getElem?_append_right (by simpa using c)] at e
      rw [List.getElem?_replicate] at e
      split at e <;> cases e
  refine ⟨by simp [hl], h.gh, h.g0, h.gn, h.og, h.cok, h.fr, h.al, ?_, ?_, h.pn, h.np⟩
  · intro i v e
    have := h.mp i v e
    rw [List.getElem?_append_left (lt_of_slot this)]; exact this
  · intro i d e
    obtain ⟨c, e1⟩ := up e
    obtain ⟨v, h1, h2⟩ := h.sl i d e1
    exact ⟨v, by rw [List.getElem?_append_left (lt_of_slot h1)]; exact h1, by rw [ho i c]; exact h2⟩
theorem RO.trim {C : Ctx} {mu ow : List Bool} {G : Hp} {ρ : DSt} {σ : St} {H : Hp} {pd : List (D × V)} {O : Own} (h : RO C ow G ρ σ H pd O) (hm : MuOk C mu) (ho : ∀ i : Nat, i < mu.length → ow[i]? = mu[i]?) :
    RO C mu G (padS mu.length ρ) (padS mu.length σ) H pd O := by
  refine ⟨by rw [padS_len, padS_len], h.gh, h.g0, h.gn, h.og, h.cok, h.fr, h.al, ?_, ?_, h.pn, h.np⟩
  · intro i v e
    exact padS_at (lt_of_slot' (hm i v e)) (h.mp i v e)
  · intro i d e
    obtain ⟨c, e1⟩ := padS_of e
    obtain ⟨v, h1, h2⟩ := h.sl i d e1
    exact ⟨v, padS_at c h1, by rw [← ho i c]; exact h2⟩
where
  lt_of_slot' {l : List Bool} {i : Nat} {x : Bool} (h : l[i]? = some x) : i < l.length := (List.getElem?_eq_some_iff.mp h).1
noncomputable def endsOf (mu : List Bool) (q : D → DSt → Prop) : EndsD := ⟨fun ρ => q .non (mus mu ρ), fun d ρ => q d (mus mu ρ), fun _ => False, fun _ => False⟩
theorem fnD {P : Program} {w : World} {K : PySem.W.Frag} {mg : Str → Option Value} {base : Heap} {x qual : Str} {st : Stmt} {f : Addr} {fd : FuncData} {N ps : List Str} {k : Nat} (F : Fun K x qual st f fd) (S : FnScope N ps (defScope st)) (M : Md) (sd : SpD)
    (hl : ∀ ds q, sd ds q → ds.length = ps.length) (ho : M.ow.take ps.length = M.mu) (hml : M.mu.length = ps.length)
    (hbody : ∀ (cdv : Value) (A : Around) (outer : List Env) (s : Shared) (H : Hp) (E : XK), Room k (A.deeper (envOfC qual (defScope st) s.heap.objs.size f cdv)) →
      ∃ m, QSs (cxOf CX0 P w K mg base N qual (defScope st) f cdv A outer s H E).nox M (defBody st) m ∧ ∀ ds q, sd ds q → m (endsOf M.mu q) (ds.map some ++ List.replicate (N.length - ps.length) none)) :
    FnOk P w K mg base CX0 (k + 1) f fd ps (spOf M.mu M.fr sd) := by
  have hov : ∀ i : Nat, i < M.mu.length → M.ow[i]? = M.mu[i]? := fun i hi => by rw [← ho, List.getElem?_take_of_lt (by omega)]
  have hlen : ∀ vs H Q E, spOf M.mu M.fr sd vs H Q E → vs.length = ps.length := fun vs H Q E ⟨C, G, ds, q, _, _, ⟨O, ro⟩, h1, _, _⟩ => by
    have := ro.len; simp at this; rw [← this]; exact hl ds q h1
  refine F.ok S hlen fun cdv A outer s H vs Q E hr hsp => ?_
  obtain ⟨m, ⟨t, p, ss⟩, hm⟩ := hbody cdv A outer s H E hr
  have hvl := hlen vs H Q E hsp
  obtain ⟨C, G, ds, q, hnp, hmu, ⟨O, ro⟩, hsd, hml2, kk⟩ := hsp
  refine ⟨t, p, ?_⟩
  have hmo : MuOk C M.mu := fun i v e => by rw [hmu] at e; exact (msV_of e).1
  have r0 : R C M.ow G (ds.map some ++ List.replicate (N.length - ps.length) none) (start N vs) H [] := by
    unfold start; rw [hvl]
    exact ⟨O, ro.grow _ fun i hi => hov i (by omega)⟩
  refine ss C G _ _ H (endsOf M.mu q) _ hmo hnp r0 (hm ds q hsd) ⟨?_, fun _ _ _ _ h => h.elim, fun _ _ _ _ h => h.elim, ?_⟩
  · intro ρ σ G' H' h z ⟨O', r'⟩
    refine kk .non (padS M.mu.length ρ) (padS M.mu.length σ) .non G' H' (by rw [padS_mus]; exact h) z (padS_len _ _) (R.non ⟨O', r'.trim hmo hov⟩)
  · intro d ρ σ v G' H' h z hr'
    refine kk d (padS M.mu.length ρ) (padS M.mu.length σ) v G' H' (by rw [padS_mus]; exact h) z (padS_len _ _) ?_
    unfold Ret at hr' ⊢
    split at hr'
    · rename_i c; rw [if_pos c]; obtain ⟨O', r'⟩ := hr'; exact ⟨O', r'.trim hmo hov⟩
    · rename_i c; rw [if_neg c]; obtain ⟨⟨O', r'⟩, p⟩ := hr'; exact ⟨⟨O', r'.trim hmo hov⟩, p⟩
end L2

set_option Elab.async false
set_option linter.all false
set_option maxRecDepth 100000
set_option maxHeartbeats 1000000
namespace L2
open PySem PySem.Spec PyProof.Rows
/-! ### held values gathered -/
section
variable {C : Ctx} {ow : List Bool} {G : Hp} {ρ : DSt} {σ : St} {H : Hp} {pd T : List (D × V)} {O : Own}
end
/-! ### what is handed back or kept: names of owned slots, tuples and lists of held values -/
noncomputable def SFm (M : Md) (t : TE) (m : ME) : Prop := ∀ (C : Ctx) (G : Hp) (ρ : DSt) (σ : St) (H : Hp) (pd : List (D × V)) (q : D → DSt → Prop) (Q : VK), MuOk C M.mu → R C M.ow G ρ σ H pd → m ρ q →
  (∀ d ρ' v G' H', q d ρ' → Same G G' → R C M.ow G' ρ' σ H' ((d, v) :: pd) → Q v H') → t σ H Q
structure QM (X : Cx) (M : Md) (e : Expr) (m : ME) : Prop where
  ex : ∃ t, PE X e t ∧ SFm M t m
section
variable {X : Cx} {M : Md} {a b c e : Expr} {ma mb mc : ME} {pos pos' : Pos} {mr : MA} {es : List Expr}
theorem QF.qm (h : QF X M.ow e ma) : QM X M e ma := by
  obtain ⟨t, p, s⟩ := h
  exact ⟨_, p, fun C G ρ σ H pd q Q hm r h k => s C G ρ σ H pd q Q r h fun d ρ' v G' H' hq z kp r' => k d ρ' v G' H' hq z r'⟩
theorem qs_retM (h : QM X M e ma) (hf : M.fr = true := by rfl) : QS X M (.Return (some e) pos) (mRet ma) := by
  obtain ⟨t, p, s⟩ := h
  refine ⟨_, ps_ret p, fun C G ρ σ H n D hm hn r h k => s C G ρ σ H [] _ _ hm r h fun d ρ' v G' H' hq z r' => k.rt d ρ' σ v G' H' hq z (by unfold Ret; rw [if_pos hf]; exact r')⟩
end
/-! ### list comprehensions that write nothing -/
section
variable {C : Ctx} {ow : List Bool} {G : Hp} {ρ : DSt} {σ : St} {H : Hp} {pd : List (D × V)} {O : Own}
end
section
variable {X : Cx} {ow : List Bool} {elt tg iter : Expr} {ifs : List Expr} {pos : Pos} {mi : MA} {mg : MG} {mt : MT} {me : ME} {scope : Scope} {cl : List (Str × Addr)}
end
end L2

set_option Elab.async false
set_option linter.all false
set_option maxRecDepth 100000
set_option maxHeartbeats 1000000
namespace L2
open PySem PySem.Spec PyProof.Rows
/-! ### sorted, sum, any, all -/
section
variable {X : Cx}
end
/-! ### a list within an owned tuple is written -/
section
variable {C : Ctx} {ow : List Bool} {G : Hp} {ρ : DSt} {σ : St} {H : Hp} {pd : List (D × V)} {O : Own}
end
end L2

set_option Elab.async false
set_option linter.all false
set_option maxRecDepth 100000
set_option maxHeartbeats 1000000
namespace L2
open PySem PySem.Spec PyProof.Rows
section
variable {ow : List Bool} {t : TE} {m : ME}
end
section
variable {X : Cx} {M : Md} {a b c e : Expr} {ma mb mc : ME} {pos pos' : Pos} {mr : MA} {es : List Expr}
/-! ### a comprehension over owned slots gets a name -/
/-! ### x[c][k] = e, x an owned tuple -/
/-! ### xs.pop() -/
/-! ### xs.clear() -/
/-! ### list(range(n)) -/
end
/-! ### a word of one's own behind a statement -/
noncomputable def mCut (m : MS) : MS := fun n ρ => ∃ I : DSt → Prop, m { n with nx := I } ρ ∧ ∀ ρ', I ρ' → n.nx ρ'
theorem qs_cut {X : Cx} {M : Md} {st : Stmt} {m : MS} (h : QS X M st m) : QS X M st (mCut m) := by
  obtain ⟨t, p, s⟩ := h
  refine ⟨_, p, fun C G ρ σ H n D hm hn r h k => ?_⟩
  obtain ⟨I, h1, h2⟩ := h
  exact s C G ρ σ H _ D hm hn r h1 ⟨fun ρ' σ' G' H' hi => k.nx ρ' σ' G' H' (h2 ρ' hi), k.bk, k.ct, k.rt⟩
/-! ### a, b = e: a held tuple's things -/
section
variable {C : Ctx} {ow : List Bool} {G : Hp} {ρ : DSt} {σ : St} {H : Hp} {pd : List (D × V)} {O : Own}
end
section
variable {X : Cx} {M : Md} {a b c e : Expr} {ma mb mc : ME} {pos pos' : Pos} {mr : MA} {es : List Expr} {mgs : MGs}
end
end L2

set_option Elab.async false
set_option linter.all false
set_option maxRecDepth 100000
set_option maxHeartbeats 1000000
namespace L2
open PySem PySem.Spec PyProof.Rows
/-! ### x[k] += e, x an owned list of numbers -/
section
variable {X : Cx} {M : Md} {a b c e : Expr} {ma mb mc : ME} {pos pos' : Pos}
end
/-! ### list comprehensions that write one owned slot -/
section
variable {X : Cx} {ow : List Bool} {elt tg iter : Expr} {ifs : List Expr} {pos : Pos} {mi : MA} {mg : MG} {mt : MT} {me : ME} {scope : Scope} {cl : List (Str × Addr)}
end
end L2

set_option Elab.async false
set_option linter.all false
set_option maxRecDepth 100000
set_option maxHeartbeats 1000000
namespace L2
open PySem PySem.Spec PyProof.Rows
/-! ### xs[::-1] -/
section
variable {X : Cx} {M : Md} {a b c e : Expr} {ma mb mc : ME} {pos pos' p1 p2 p3 : Pos} {te : TE} {j1 : Nat} {ow : List Bool}
/-! ### a comprehension that writes an owned slot gets a name -/
end
end L2

set_option Elab.async false
set_option linter.all false
set_option maxRecDepth 100000
set_option maxHeartbeats 1000000
namespace L2
open PySem PySem.Spec PyProof.Rows
/-! ### what the defs are worth: numbers, trees -/
noncomputable def isW : D → Bool
  | .int _ => true
  | _ => false
noncomputable def sdWhole : SpD := fun ds q => ∃ d, ds = [d] ∧ d.isS = false ∧ q (.bl (isW d)) []
noncomputable def cellZ (ns : List Int) (k : Int) : Int := ns.getD k.toNat 0
noncomputable def ScrOk (K : PySem.W.Frag) (φ : Addr → Prop) (ns : List Int) : Prop := ∀ a H, φ a → SqL K H a (ns.map V.int)
noncomputable def sdCell (K : PySem.W.Frag) : SpD := fun ds q => ∃ φ ns k, ds = [.scr φ ns, .int k] ∧ ScrOk K φ ns ∧ 0 ≤ k ∧ q (.int (cellZ ns k)) []
noncomputable def sdPool (K : PySem.W.Frag) : SpD := fun ds q => ∃ φ ns k, ds = [.scr φ ns, .int k] ∧ ScrOk K φ ns ∧ 0 ≤ k ∧ k ≤ 1000 ∧ ∀ c m, 0 ≤ c → q (dInts [c, m]) []
noncomputable def sdTake : SpD := fun ds q => ∃ c m many, ds = [dInts [c, m], .int many] ∧ 0 ≤ c ∧ 0 < many ∧ Sm many ∧ ∀ r c' m', 0 ≤ r → r < many → 0 ≤ c' → q (.int r) [some (dInts [c', m'])]
noncomputable def sdLaw (K : PySem.W.Frag) : SpD := fun ds q => ∃ φ ns, ds = [.scr φ ns] ∧ ScrOk K φ ns ∧ ns.length ≤ 63 ∧ q (.bl true) []
/-- the law's promise, as the head wants it -/
noncomputable def spLaw (K : PySem.W.Frag) : Sp := fun vs H Q _ => ∃ (a : Addr) (ns : List Int), vs = [.ref a] ∧ Only H ∧ SqL K H a (ns.map V.int) ∧ ns.length ≤ 63 ∧ ∀ H', Q (.bl true) H'
theorem spLaw_of {K : PySem.W.Frag} {vs : List V} {H : Hp} {Q : VK} {E : XK} (h : spLaw K vs H Q E) : spOf [false] false (sdLaw K) vs H Q E := by
  obtain ⟨a, ns, rfl, hO, hS, hl, hq⟩ := h
  have main : ∀ φ : Addr → Prop, ScrOk K φ ns → Rep H (.scr φ ns) (.ref a) → spOf [false] false (sdLaw K) [.ref a] H Q E := fun φ hφ r => by
    refine ⟨⟨H, H, fun _ => none, [none], 0⟩, H, [.scr φ ns], fun d _ => d = .bl true, rfl, rfl, ⟨fun _ => none, rfl, Same.refl _, Same.refl _, fun _ _ e => .inl e, fun a l e => by (first | cases e), fun a l π e => by (first | cases e), fun _ _ e _ => e, fun _ e => e, fun i v e => ?_, ?_, trivial, Nat.le_refl _⟩, ⟨φ, ns, rfl, hφ, hl, rfl⟩, rfl, ?_⟩
    · cases i with
      | zero => simp at e
      | succ i => simp at e
    · intro i d e
      cases i with
      | zero => simp at e; subst e; exact ⟨_, rfl, by simpa using r⟩
      | succ i => simp at e
    · intro d ρ' σ' v G' H' hd _ _ hr
      subst hd
      unfold Ret at hr
      rw [if_neg (by decide)] at hr
      rw [rep_bl_of hr.2]
      exact hq H'
  rcases hS with (h1 | ⟨o, h1⟩) | h1
  · rcases hO a with z | ⟨o, xs, z⟩
    · rw [h1] at z; cases z
    · rw [h1] at z; cases z
  · exact main (fun _ => False) (fun _ _ z => z.elim) (by rw [Rep]; exact ⟨a, rfl, .inl ⟨o, h1⟩⟩)
  · exact main (fun b => b = a) (fun b H' z => by subst z; exact .inr h1) (by rw [Rep]; exact ⟨a, rfl, .inr rfl⟩)
theorem atI_ints {ns : List Int} {k : Int} (h0 : 0 ≤ k) (h1 : k < ns.length) : atI (ns.map D.int) k = some (.int (ns.getD k.toNat 0)) := by
  have ek : k = ((k.toNat : Nat) : Int) := by omega
  have hl : k.toNat < ns.length := by omega
  have : atI (ns.map D.int) ((k.toNat : Nat) : Int) = some (.int (ns.getD k.toNat 0)) := atI_nat (by rw [List.getElem?_map, List.getD_eq_getElem?_getD, List.getElem?_eq_getElem hl]; rfl)
  rw [← ek] at this
  exact this
theorem atI_ns {ns : List Int} {k : Int} (h0 : 0 ≤ k) (h1 : k < ns.length) : atI ns k = some (ns.getD k.toNat 0) := by
  have ek : k = ((k.toNat : Nat) : Int) := by omega
  have hl : k.toNat < ns.length := by omega
  have : atI ns ((k.toNat : Nat) : Int) = some (ns.getD k.toNat 0) := atI_nat (by rw [List.getD_eq_getElem?_getD, List.getElem?_eq_getElem hl]; rfl)
  rw [← ek] at this
  exact this
theorem atD_of {ds : List D} {k : Int} {d : D} {q : D → Prop} (h : atI ds k = some d) (hq : q d) : atD ds k q := by unfold atD; rw [h]; exact hq
end L2

set_option Elab.async false
set_option linter.all false
set_option maxRecDepth 100000
set_option maxHeartbeats 1000000
namespace L2
open PySem PySem.Spec PyProof.Rows
/-! ### ways in a tree -/
/-! ### what the defs of ways promise -/
end L2

set_option Elab.async false
set_option linter.all false
set_option maxRecDepth 100000
set_option maxHeartbeats 1000000
namespace L2
open PySem PySem.Spec PyProof.Rows
/-! ### plain data compared -/
noncomputable def lay : Nat → D → Bool
  | _, .int _ => true
  | _, .bl _ => true
  | _, .non => true
  | n + 1, .tup ds => ds.all (lay n)
  | n + 1, .lst ds => ds.all (lay n)
  | _, _ => false
theorem lay_all {n : Nat} (ih : ∀ d, lay n d = true → (toP d).canLay0 = true ∧ (toP d).depth ≤ n + 1) : ∀ ds : List D, ds.all (lay n) = true → PyData.canLayAll0 (toPs ds) = true ∧ PyData.depthAll (toPs ds) ≤ n + 1
  | [], _ => by rw [toPs]; simp [PyData.canLayAll0, PyData.depthAll]
  | d :: ds, h => by
    rw [List.all_cons, Bool.and_eq_true] at h
    have h1 := ih d h.1
    have h2 := lay_all ih ds h.2
    rw [toPs]
    simp only [PyData.canLayAll0, PyData.depthAll, h1.1, h2.1, Bool.and_self, true_and]
    omega
theorem lay_ok : ∀ (n : Nat) (d : D), lay n d = true → (toP d).canLay0 = true ∧ (toP d).depth ≤ n + 1
  | n, .int _, _ => by rw [toP]; simp [PyData.canLay0, PyData.depth]
  | n, .bl _, _ => by rw [toP]; simp [PyData.canLay0, PyData.depth]
  | n, .non, _ => by rw [toP]; simp [PyData.canLay0, PyData.depth]
  | n + 1, .tup ds, h => by
    have := lay_all (lay_ok n) ds (by simpa [lay] using h)
    rw [toP]; simp only [PyData.canLay0, PyData.depth, this.1, true_and]; omega
  | n + 1, .lst ds, h => by
    have := lay_all (lay_ok n) ds (by simpa [lay] using h)
    rw [toP]; simp only [PyData.canLay0, PyData.depth, this.1, true_and]; omega
  | 0, .tup _, h => by simp [lay] at h
  | 0, .lst _, h => by simp [lay] at h
  | n, .str _, h => by cases n <;> simp [lay] at h
  | n, .dct, h => by cases n <;> simp [lay] at h
  | n, .scr _ _, h => by cases n <;> simp [lay] at h
  | n, .ext _, h => by cases n <;> simp [lay] at h
theorem okD_lay {n : Nat} {d : D} (h : lay n d = true) (hn : n ≤ 60) : okD d = true := by
  have := lay_ok n d h
  unfold okD SeqAt.shaped
  rw [this.1, Bool.true_and]
  exact decide_eq_true (by omega)
theorem eqv_all {n : Nat} (ih : ∀ d, lay n d = true → PyData.eqv (toP d) (toP d) = true) : ∀ ds : List D, ds.all (lay n) = true → PyData.eqvAll (toPs ds) (toPs ds) = true
  | [], _ => by rw [toPs]; simp [PyData.eqvAll]
  | d :: ds, h => by
    rw [List.all_cons, Bool.and_eq_true] at h
    rw [toPs, PyData.eqvAll, ih d h.1, eqv_all ih ds h.2]; rfl
theorem eqD_self : ∀ (n : Nat) (d : D), lay n d = true → eqD d d = true
  | n, .int _, _ => by unfold eqD; rw [toP, PyData.eqv]; simp
  | n, .bl _, _ => by unfold eqD; rw [toP, PyData.eqv]; simp
  | n, .non, _ => by unfold eqD; rw [toP, PyData.eqv]
  | n + 1, .tup ds, h => by unfold eqD; rw [toP, PyData.eqv]; exact eqv_all (eqD_self n) ds (by simpa [lay] using h)
  | n + 1, .lst ds, h => by unfold eqD; rw [toP, PyData.eqv]; exact eqv_all (eqD_self n) ds (by simpa [lay] using h)
  | 0, .tup _, h => by simp [lay] at h
  | 0, .lst _, h => by simp [lay] at h
  | n, .str _, h => by cases n <;> simp [lay] at h
  | n, .dct, h => by cases n <;> simp [lay] at h
  | n, .scr _ _, h => by cases n <;> simp [lay] at h
  | n, .ext _, h => by cases n <;> simp [lay] at h
/-! ### asks -/
/-! ### keeps, loads -/
end L2
namespace L2
open PySem PySem.Spec PyProof.Rows
end L2

set_option Elab.async false
set_option linter.all false
set_option maxRecDepth 100000
set_option maxHeartbeats 1000000
namespace L2
open PySem PySem.Spec PyProof.Rows
/-! ### loads tie by tie -/
end L2
namespace L2
open PySem PySem.Spec PyProof.Rows
end L2
namespace L2
open PySem PySem.Spec PyProof.Rows
end L2

set_option Elab.async false
set_option linter.all false
set_option maxRecDepth 100000
set_option maxHeartbeats 1000000
namespace L2
open PySem PySem.Spec PyProof.Rows
/-! ### remove, of lists of ints -/
section
variable {X : Cx}
end
/-! ### an owned list of ints loses one -/
section
variable {X : Cx} {M : Md} {e : Expr} {ma : ME} {pos : Pos}
end
end L2

set_option Elab.async false
set_option linter.all false
set_option maxRecDepth 100000
set_option maxHeartbeats 1000000
namespace L2
open PySem PySem.Spec PyProof.Rows
/-! ### how often True stands in a list of truths -/
section
variable {X : Cx}
variable {ow : List Bool} {e : Expr} {ma : ME}
end
end L2

set_option Elab.async false
set_option linter.all false
set_option maxRecDepth 100000
set_option maxHeartbeats 1000000
namespace L2
open PySem PySem.Spec PyProof.Rows
/-! ### len(set(a list of ints)) -/
section
variable {X : Cx}
variable {ow : List Bool} {e : Expr} {ma : ME} {pos p1 p2 p3 : Pos}
end
end L2

set_option Elab.async false
set_option linter.all false
set_option maxRecDepth 100000
namespace L2
open PySem
/-! depths, for k14 -/
/-! the way from a place up to another -/
/-! three places -/
end L2

set_option Elab.async false
set_option linter.all false
set_option maxRecDepth 100000
set_option maxHeartbeats 1000000
namespace L2
open PySem PySem.Spec PyProof.Rows
/-! ### a, b, c = a list -/
section
variable {prog : Program} {w : World} {A : Around} {E : Value → Shared → Prop} {s : Shared}
end
section
variable {X : Cx} {M : Md} {e : Expr} {es : List Expr} {mgs : MGs} {pos : Pos}
end
end L2

set_option Elab.async false
set_option linter.all false
set_option maxRecDepth 100000
set_option maxHeartbeats 1000000
namespace L2
open PySem PySem.Spec PyProof.Rows
section
variable {X : Cx} {M : Md} {pos : Pos}
/-! ### a comprehension that writes an owned slot, into an owned slot -/
end
end L2

set_option Elab.async false
set_option linter.all false
set_option maxRecDepth 100000
set_option maxHeartbeats 1000000
namespace L2
open PySem PySem.Spec PyProof.Rows
/-! ### zip of two lists -/
section
variable {X : Cx} {es : List Expr} {k : Nat} {tpos : Pos}
variable {ow : List Bool} {a b : Expr} {mr : MA} {pos : Pos}
end
end L2

set_option Elab.async false
set_option linter.all false
set_option maxRecDepth 100000
set_option exponentiation.threshold 9000
namespace L2
open PySem
/-! ### fractions -/
noncomputable def dQ (r : Rat) : D := .tup [.int r.num, .int r.den]
theorem gcdP_eq {t b : Int} (hb : 0 < b) : gcdP t b = (b.gcd t : Int) := by
  unfold gcdP; rw [if_neg (by omega), Int.gcd_comm]
theorem quo_num {t b : Int} (hb : 0 < b) : t / gcdP t b = (Rat.divInt t b).num := by
  rw [Rat.num_divInt, Int.sign_eq_one_of_pos hb, Int.one_mul, gcdP_eq hb]
theorem quo_den {t b : Int} (hb : 0 < b) : b / gcdP t b = ((Rat.divInt t b).den : Int) := by
  rw [Rat.den_divInt, if_neg (by omega), gcdP_eq hb]
  have : (b.natAbs : Int) = b := by omega
  rw [Int.natCast_ediv, this]
theorem abs_mulI (a b : Int) : (a * b).natAbs = a.natAbs * b.natAbs := Int.natAbs_mul a b
/-! specs -/
noncomputable def sdGcd : SpD := fun ds q => ∃ n b, ds = [.int n, .int b] ∧ 0 ≤ b ∧ q (.int (gcdP n b)) []
noncomputable def sdFrac : SpD := fun ds q => ∃ t b, ds = [.int t, .int b] ∧ b ≠ 0 ∧ Sm b ∧ q (dQ (Rat.divInt t b)) []
theorem lay_dQ (r : Rat) : lay 1 (dQ r) = true := rfl
theorem okD_dQ (r : Rat) : okD (dQ r) = true := okD_lay (lay_dQ r) (by decide)
theorem eqDq_self (r : Rat) : eqD (dQ r) (dQ r) = true := eqD_self 1 _ (lay_dQ r)
end L2

set_option Elab.async false
set_option linter.all false
set_option maxRecDepth 100000
set_option exponentiation.threshold 9000
namespace L2
open PySem
/-! ### prices -/
end L2
namespace L2
open PySem
end L2
namespace L2
open PySem
end L2

set_option Elab.async false
set_option linter.all false
set_option maxRecDepth 100000
set_option exponentiation.threshold 9000
namespace L2
open PySem
/-! ### bounds -/
end L2
namespace L2
open PySem
end L2

set_option Elab.async false
set_option linter.all false
set_option maxRecDepth 100000
set_option maxHeartbeats 1000000
namespace L2
open PySem PySem.Spec PyProof.Rows
/-! ### exceptions in flight -/
/-- the object at e: an exception of the class cls, its dict, the head of its traceback -/
noncomputable def ExcAt (h : Heap) (e : Addr) (cls : Value) (dx : Option Addr) (tb : Value) : Prop :=
  ∃ (vs : Array Value) (sl : Array (Option Value)), h.get? e = some { cls := cls, dict := dx, data := .fields vs, slots := sl } ∧ vs[1]? = some tb
noncomputable def TbAt (h : Heap) (t : Addr) (v : Value) : Prop := ∃ o ts, h.get? t = some o ∧ o.data = .fields ts ∧ ts[3]? = some v
noncomputable def tbV : Option Addr → Value
  | none => .none
  | some t => .ref t
structure FlyO (h : Heap) (e : Addr) (cls : Value) (dx : Option Addr) (T : Option Addr) : Prop where
  ex : ExcAt h e cls dx (tbV T)
  tb : ∀ t, T = some t → t ≠ e ∧ TbAt h t .none
theorem ExcAt.notFrame {h base : Heap} {l : List Env} {e : Addr} {cls : Value} {dx : Option Addr} {tb : Value} (x : ExcAt h e cls dx tb) (hl : h.FunFrames base l) : e ∉ frs l := fun hm => by
  obtain ⟨vs, sl, he, _⟩ := x
  obtain ⟨_, o, ho, hnf⟩ := hl.mem hm
  rw [he] at ho; cases ho; exact hnf vs rfl
theorem TbAt.notFrame {h base : Heap} {l : List Env} {t : Addr} {v : Value} (x : TbAt h t v) (hl : h.FunFrames base l) : t ∉ frs l := fun hm => by
  obtain ⟨o', ts, he, hd, _⟩ := x
  obtain ⟨_, o, ho, hnf⟩ := hl.mem hm
  rw [he] at ho; cases ho; exact hnf ts hd
section
variable {M : Model} {A : Around} {E : Value → Shared → Prop} {s : Shared}
/-- the objects but e and t are kept, those of frames up to slots -/
noncomputable def KeptBut (l : List Env) (e : Addr) (T : Option Addr) (h h' : Heap) : Prop := ∀ b o, b ≠ e → T ≠ some b → h.get? b = some o → (b ∉ frs l → h'.get? b = some o) ∧ ∃ sl, h'.get? b = some { o with slots := sl }
theorem entry_fly {base : Heap} {env : Env} {outer : List Env} {L e : Addr} {cls : Value} {dx : Option Addr} {tb head : Value} {hadNext : Bool} {Q : Unit → Shared → Prop}
    (hfr : A.frames = some (env :: outer)) (hl : s.heap.FunFrames base (env :: outer)) (hf : env.frame = some L) (F : ExcAt s.heap e cls dx tb)
    (h : ∀ h', s.heap.objs.size ≤ h'.objs.size → ∀ t', s.heap.objs.size ≤ t' → FlyO h' e cls dx (some t') → KeptBut (env :: outer) e none s.heap h' → Q () { s with heap := h' }) :
    wpAny M A (do let a ← frameOf env; let pl ← entryPlaceOf L hadNext; let b ← EntryCells.newEntry head a .none (rawInt L) .none pl; setField (.ref e) 1 b) (fun _ s' => wpAny M A (setFlight (.ref e) none) Q E s') E s := by
  have hene := F.notFrame hl
  obtain ⟨vs, sl, he, h1⟩ := F
  have hsz : 1 < vs.size := (Array.getElem?_eq_some_iff.mp h1).1
  refine wpAny_bind (wpAny_frameOf_fun hfr hl hf fun g1 hs1 => ?_)
  refine wpAny_bind (wpAny_entryPlaceOf fun pl hpl => ?_)
  unfold EntryCells.newEntry newFields
  refine wpAny_bind (wpAny_newObj_type ?_ (hpl.sizeOk5 _ _ _ _ _))
  have he1 : g1.get? e = some { cls := cls, dict := dx, data := .fields vs, slots := sl } := (hs1.2.1 e hene).trans he
  generalize hO : ({ cls := .type "traceback", dict := none, data := .fields ([head, .ref L, .none, rawInt L, .none] ++ (if pl.isEmpty then List.replicate 6 Value.none else pl)).toArray } : Obj) = O
  have hOd : ∃ ts : Array Value, O.data = .fields ts ∧ 3 < ts.size := by
    rw [← hO]; exact ⟨_, rfl, by simp only [List.size_toArray, List.length_append, List.length_cons, List.length_nil]; omega⟩
  have hOf : O.isFreed = false := by rw [← hO]; rfl
  obtain ⟨ts, hts, h3⟩ := hOd
  have he2 := Heap.get?_push_of_some (h := g1) O he1
  refine wpAny_setField he2 rfl hsz ?_
  have hTe : g1.objs.size ≠ e := Nat.ne_of_gt (Heap.lt_size he1)
  have he3 := Heap.get?_update_self (Obj.mapFields (·.setIfInBounds 1 (Value.ref g1.objs.size))) he2 (Obj.isFreed_of_fields (Obj.data_mapFields rfl _))
  have hT3 : ((g1.push O).update e (Obj.mapFields (·.setIfInBounds 1 (Value.ref g1.objs.size)))).get? g1.objs.size = some O := (Heap.get?_update_other _ _ (Ne.symm hTe)).trans (Heap.get?_push_size g1 hOf)
  unfold setFlight
  refine wpAny_bind (wpAny_field he3 (Obj.data_mapFields rfl _) (x := .ref g1.objs.size) (by simp [hsz]) ?_)
  rw [if_pos (show (Value.ref g1.objs.size != Value.none) = true from by simp)]
  refine wpAny_setField hT3 hts h3 ?_
  have hsz1 : g1.objs.size = s.heap.objs.size := hs1.1
  refine h _ ?_ g1.objs.size (Nat.le_of_eq hsz1.symm) ⟨⟨_, sl, ?_, by show (vs.setIfInBounds 1 (Value.ref g1.objs.size))[1]? = _; simp [hsz]; rfl⟩, fun t ht => ?_⟩ fun b o hbe _ hb => ?_
  · rw [Heap.size_after_update, Heap.size_after_update, Heap.size_push]; exact Nat.le_succ_of_le (Nat.le_of_eq hsz1.symm)
  · rw [Heap.get?_update_other _ _ hTe]; exact he3
  · cases ht
    refine ⟨hTe, _, _, Heap.get?_update_self _ hT3 (Obj.isFreed_of_fields (Obj.data_mapFields hts _)), Obj.data_mapFields hts _, ?_⟩
    show (ts.setIfInBounds 3 ((none : Option Addr).elim Value.none fun f => rawInt f))[3]? = _
    simp [h3]
  · have keep : ∀ o', g1.get? b = some o' → (((g1.push O).update e (Obj.mapFields (·.setIfInBounds 1 (Value.ref g1.objs.size)))).update g1.objs.size (Obj.mapFields (·.setIfInBounds 3 ((none : Option Addr).elim Value.none fun f => rawInt f)))).get? b = some o' := fun o' ho' => by
      have hbT : g1.objs.size ≠ b := Nat.ne_of_gt (Heap.lt_size ho')
      rw [Heap.get?_update_other _ _ hbT, Heap.get?_update_other _ _ (Ne.symm hbe)]
      exact Heap.get?_push_of_some _ ho'
    obtain ⟨sl', hb'⟩ := hs1.2.2 b o hb
    exact ⟨fun hn => keep o ((hs1.2.1 b hn).trans hb), sl', keep _ hb'⟩
/-- noteFrame, then setFlight none -/
theorem note_fly {base : Heap} {env : Env} {outer : List Env} {L e : Addr} {cls : Value} {dx : Option Addr} {T : Option Addr} {Q : Unit → Shared → Prop}
    (hfr : A.frames = some (env :: outer)) (hl : s.heap.FunFrames base (env :: outer)) (hf : env.frame = some L) (F : FlyO s.heap e cls dx T)
    (h : ∀ h', s.heap.objs.size ≤ h'.objs.size → ∀ t', s.heap.objs.size ≤ t' → FlyO h' e cls dx (some t') → KeptBut (env :: outer) e T s.heap h' → (∀ t, T = some t → ∃ o, h'.get? t = some o) → Q () { s with heap := h' }) :
    wpAny M A (noteFrame (.ref e) env) (fun _ s' => wpAny M A (setFlight (.ref e) none) Q E s') E s := by
  obtain ⟨X, tb⟩ := F
  obtain ⟨vs, sl, he, h1⟩ := id X
  unfold noteFrame
  simp only [hf]
  refine wpAny_bind (wpAny_field he rfl h1 ?_)
  cases T with
  | none =>
    rw [if_neg (by decide)]
    exact entry_fly hfr hl hf X fun h' hs t' ht' fl kb => h h' hs t' ht' fl kb fun t z => by cases z
  | some T =>
    obtain ⟨hTe, oT, ts, hT, hdT, h3⟩ := tb T rfl
    show wpAny M A (if (Value.ref T != Value.none) = true then _ else _) _ _ _
    rw [if_pos (show (Value.ref T != Value.none) = true from by simp)]
    refine wpAny_bind (wpAny_field hT hdT h3 ?_)
    rw [if_neg (show ¬ ((Value.none == rawInt L) = true) from by simp [rawInt])]
    refine wpAny_bind (wpAny_setField hT hdT (Array.getElem?_eq_some_iff.mp h3).1 ?_)
    have other : ∀ b, b ≠ T → (s.heap.update T (Obj.mapFields (·.setIfInBounds 3 Value.none))).get? b = s.heap.get? b := fun b hb => Heap.get?_update_other _ _ (Ne.symm hb)
    have hTn := TbAt.notFrame ⟨oT, ts, hT, hdT, h3⟩ hl
    have hl2 : (s.heap.update T (Obj.mapFields (·.setIfInBounds 3 Value.none))).FunFrames base (env :: outer) := hl.of_keeps fun b o hb hnf => ⟨o, (other b fun q => by subst q; rw [hT] at hb; cases hb; exact hnf ts hdT).trans hb, rfl⟩
    have hT2 := Heap.get?_update_self (Obj.mapFields (·.setIfInBounds 3 Value.none)) hT (Obj.isFreed_of_fields (Obj.data_mapFields hdT _))
    refine entry_fly (s := { s with heap := s.heap.update T (Obj.mapFields (·.setIfInBounds 3 Value.none)) }) hfr hl2 hf ⟨vs, sl, (other e (Ne.symm hTe)).trans he, h1⟩ fun h' hs t' ht' fl kb => ?_
    have hs' : s.heap.objs.size ≤ h'.objs.size := by rw [Heap.size_after_update] at hs; exact hs
    have ht2 : s.heap.objs.size ≤ t' := by rw [Heap.size_after_update] at ht'; exact ht'
    refine h h' hs' t' ht2 fl (fun b o hbe hbT hb => kb b o hbe (by simp) ((other b fun q => hbT (by rw [q])).trans hb)) fun t z => ?_
    cases z
    obtain ⟨_, sl2, q⟩ := kb T _ hTe (by simp) hT2
    exact ⟨_, q⟩
theorem leave_fly {base : Heap} {env : Env} {outer : List Env} {L e : Addr} {cls : Value} {dx : Option Addr} {T : Option Addr} {Q : Unit → Shared → Prop}
    (hfr : A.frames = some (env :: outer)) (hl : s.heap.FunFrames base (env :: outer)) (hf : env.frame = some L) (F : FlyO s.heap e cls dx T)
    (h : ∀ h', s.heap.objs.size ≤ h'.objs.size → ∀ t', s.heap.objs.size ≤ t' → FlyO h' e cls dx (some t') → KeptBut (env :: outer) e T s.heap h' → (∀ t, T = some t → ∃ o, h'.get? t = some o) → Q () { s with heap := h' }) : wpAny M A (leaving env (.ref e)) Q E s := by
  unfold leaving
  exact wpAny_bind (note_fly hfr hl hf F h)
end
end L2

set_option Elab.async false
set_option linter.all false
set_option maxRecDepth 100000
set_option maxHeartbeats 1000000
namespace L2
open PySem PySem.Spec PyProof.Rows
/-! ### exceptions behind a call, in a body -/
noncomputable abbrev XS := St → XK
/-- an object of the exception's own: new since the entry, untracked, no pin -/
structure Out (X : Cx) (pins : List (Addr × Obj)) (H : Hp) (a : Addr) : Prop where
  new : X.s₀.heap.get? a = none
  unt : H a = none
  pin : ∀ p ∈ X.pn ++ pins, p.1 ≠ a
structure Fly (X : Cx) (pins : List (Addr × Obj)) (H : Hp) (s : Shared) (e : Addr) (cls : Value) (dx : Option Addr) : Prop where
  go : ∃ T, FlyO s.heap e cls dx T ∧ Out X pins H e ∧ ∀ t, T = some t → Out X pins H t
/-- what is wanted of an exception that leaves the code -/
structure Acc (X : Cx) (xk : XS) : Prop where
  go : ∀ (pins : List (Addr × Obj)) (σ : St) (H : Hp) (s : Shared) (e : Addr) (cls : Value) (dx : Option Addr), Inv X pins σ H s → Fly X pins H s e cls dx → xk σ cls dx H → X.xe (.ref e) s
noncomputable def CX1 (P : Program) (w : World) : CXT := fun outer H s E e s' => ∃ ea H' cls dx T, e = .ref ea ∧ s'.os = s.os ∧ AllBare s'.gens ∧ Un (frs outer) [] H H' s.heap s'.heap ∧ HOk P w H' s'.heap ∧ FlyO s'.heap ea cls dx T ∧
  (s.heap.get? ea = none ∧ H' ea = none) ∧ (∀ t, T = some t → s.heap.get? t = none ∧ H' t = none) ∧ E cls dx H'
section
variable {X : Cx} {pins : List (Addr × Obj)} {σ : St} {H H' : Hp} {s s' : Shared} {e : Addr} {cls : Value} {dx : Option Addr} {T : Option Addr}
theorem ObjOk.here {P : Program} {w : World} {H : Hp} {h : Heap} {a : Addr} {o : HO} (x : ObjOk P w H h a o) : ∃ u, h.get? a = some u := by
  cases o with
  | lst xs => obtain ⟨_, _, _, _, e⟩ := x; exact ⟨_, e⟩
  | tup xs => obtain ⟨_, _, _, _, e, _⟩ := x; exact ⟨_, e⟩
  | dK kvs => obtain ⟨_, _, _, _, o, _, _, e, _⟩ := x; exact ⟨_, e⟩
  | dT kvs => obtain ⟨_, _, _, _, o, _, _, e, _⟩ := x; exact ⟨_, e⟩
  | set S n => obtain ⟨o, _, _, _, e, _⟩ := x; exact ⟨_, e⟩
  | ins C dx fs => obtain ⟨_, _, _, e, _⟩ := x; exact ⟨_, e⟩
  | own y => exact x
  | xd fs => obtain ⟨_, ⟨_, _, _, e, _⟩, _⟩ := x; exact ⟨_, e⟩
  | rng lo hi => obtain ⟨_, _, _, e⟩ := x; exact ⟨_, e⟩
  | frz ob u => obtain ⟨e, _⟩ := x; exact ⟨_, e⟩
  | tbl ps => exact ⟨_, (show h.get? a = some _ from x)⟩
  | met f y => exact ⟨_, (show h.get? a = some _ from x)⟩
  | ext φ => obtain ⟨_, e, _⟩ := x; exact e
theorem HOk.no {P : Program} {w : World} {H : Hp} {h : Heap} {a : Addr} (x : HOk P w H h) (e : h.get? a = none) : H a = none := by
  cases q : H a with
  | none => rfl
  | some o => obtain ⟨u, z⟩ := (x a o q).here; rw [e] at z; cases z
theorem Inv.pinNo (I : Inv X pins σ H s) {a : Addr} (h : s.heap.get? a = none) : ∀ p ∈ X.pn ++ pins, p.1 ≠ a := fun p hp z => by
  have := (I.pin p hp).1
  rw [z, h] at this; cases this
theorem Inv.old (I : Inv X pins σ H s) (hex : X.ex = []) {a : Addr} (h : s.heap.get? a = none) : X.s₀.heap.get? a = none := by
  cases q : X.s₀.heap.get? a with
  | none => rfl
  | some o => obtain ⟨u, z⟩ := I.base.there a o q (by rw [hex]; simp); rw [h] at z; cases z
/-- behind a call, what ch names is new since the entry -/
theorem Inv.callN {h' : Heap} {g' : Array GenState} {t' : Nat} {d' : Drawn} {ch : List Addr} (I : Inv X pins σ H s) (u : Un (frs X.stack) ch H H' s.heap h') (hok : HOk X.prog X.w H' h') (hg : AllBare g')
    (hch : ∀ b ∈ ch, X.s₀.heap.get? b = none ∧ b ≠ X.env.locals ∧ (∀ x c, X.env.cells.lookup x = some c → c ≠ b) ∧ (∀ p ∈ X.pn ++ pins, p.1 ≠ b) ∧ b ∉ X.fs) :
    Inv X pins σ H' { s with heap := h', gens := g', drawn := d', toks := t' } := by
  have nin : ∀ b o, X.s₀.heap.get? b = some o → b ∉ ch := fun b o q hb => by rw [(hch b hb).1] at q; cases q
  have sp : ∀ {b : Addr}, b ∈ ch ++ X.ex → b ∈ ch ∨ b ∈ X.ex := fun z => List.mem_append.mp z
  have ok1 : Cx.Ok { X with ex := ch ++ X.ex } := { I.ok with
    exf := fun b hb => (sp hb).elim (fun z => ⟨(hch b z).2.1, (hch b z).2.2.1⟩) (I.ok.exf b)
    noex := fun b o q hb => (sp hb).elim (nin b o (I.ok.bs b o q).1) (I.ok.noex b o q)
    exfs := fun b hb => (sp hb).elim (fun z => (hch b z).2.2.2.2) (I.ok.exfs b) }
  have I1 : Inv { X with ex := ch ++ X.ex } pins σ H s := ⟨ok1, I.os, I.bare, I.base.mono (fun _ z => z) (fun _ z => List.mem_append_right _ z), I.loc, I.cell, I.free, I.freeC, I.pin, I.hok, I.len⟩
  have J := I1.call (g' := g') (t' := t') (d' := d') u hok hg fun b hb => ⟨.inl (List.mem_append_left _ hb), (hch b hb).2.1, (hch b hb).2.2.1, (hch b hb).2.2.2.1⟩
  have nn : ∀ b o, X.s₀.heap.get? b = some o → b ∉ X.ex → b ∉ ch ++ X.ex := fun b o q hx hb => (sp hb).elim (nin b o q) hx
  exact ⟨I.ok, J.os, J.bare, ⟨fun b o q n hb hx => J.base.keep b o q n hb (nn b o q hx), fun b o q n hb hx => J.base.slot b o q n hb (nn b o q hx), fun b o q n hx => J.base.free b o q n (nn b o q hx), fun b o q hx => J.base.there b o q (nn b o q hx),
    J.base.tups, J.base.frzs, J.base.tbls⟩, J.loc, J.cell, J.free, J.freeC, J.pin, J.hok, J.len⟩
theorem Inv.fieldsNot (I : Inv X pins σ H s) {a : Addr} {o : Obj} {vs : Array Value} (h : s.heap.get? a = some o) (hd : o.data = .fields vs) : a ≠ X.env.locals ∧ ∀ x c, X.env.cells.lookup x = some c → c ≠ a := by
  constructor
  · intro z
    obtain ⟨m, ⟨o', es, ep, ho, r⟩, _⟩ := I.loc
    rw [z] at h; rw [h] at ho; cases ho
    obtain ⟨r1, r2, _⟩ := r
    rw [hd] at r1; cases r1
  · intro x c hc z
    obtain ⟨v, q⟩ := I.cell x c hc
    subst z
    obtain ⟨o', ho, hd'⟩ := q
    rw [h] at ho; cases ho
    rw [hd] at hd'; cases hd'
/-- behind noteFrame and setFlight -/
theorem Inv.noted {h' : Heap} {t' : Addr} (I : Inv X pins σ H s) (hst : X.stack = X.env :: X.outer) (fl : FlyO s.heap e cls dx T) (oe : Out X pins H e) (ot : ∀ t, T = some t → Out X pins H t) (hs : s.heap.objs.size ≤ h'.objs.size)
    (ht : s.heap.objs.size ≤ t') (fl' : FlyO h' e cls dx (some t')) (kb : KeptBut (X.env :: X.outer) e T s.heap h') (there : ∀ t, T = some t → ∃ o, h'.get? t = some o) :
    Inv X pins σ H { s with heap := h' } ∧ Fly X pins H { s with heap := h' } e cls dx := by
  have hst' : X.env :: X.outer = X.stack := hst.symm
  rw [hst'] at kb
  have hch : ∀ b ∈ e :: T.toList, X.s₀.heap.get? b = none ∧ b ≠ X.env.locals ∧ (∀ x c, X.env.cells.lookup x = some c → c ≠ b) ∧ (∀ p ∈ X.pn ++ pins, p.1 ≠ b) ∧ b ∉ X.fs := fun b hb => by
    have out : ∀ z, z ∈ X.fs → z ∈ frs (X.env :: X.outer) := fun z hz => by unfold frs; rw [List.filterMap_cons]; split; exact hz; exact List.mem_cons_of_mem _ hz
    have stk : s.heap.FunFrames X.base (X.env :: X.outer) := by rw [hst']; exact I.stack
    rcases List.mem_cons.mp hb with rfl | hb
    · obtain ⟨vs, sl, q, _⟩ := fl.ex
      exact ⟨oe.new, (I.fieldsNot q rfl).1, (I.fieldsNot q rfl).2, oe.pin, fun z => fl.ex.notFrame stk (out _ z)⟩
    · have : T = some b := by cases T with | none => cases hb | some t => simp at hb; rw [hb]
      obtain ⟨_, o, ts, q, hd, h3⟩ := fl.tb b this
      exact ⟨(ot b this).new, (I.fieldsNot q hd).1, (I.fieldsNot q hd).2, (ot b this).pin, fun z => TbAt.notFrame ⟨o, ts, q, hd, h3⟩ stk (out _ z)⟩
  have nb : ∀ b, b ∉ e :: T.toList → b ≠ e ∧ T ≠ some b := fun b hb => ⟨fun z => hb (by simp [z]), fun z => hb (by simp [z])⟩
  have un : Un (frs X.stack) (e :: T.toList) H H s.heap h' := {
    keep := fun b o q _ hn hx => ((kb b o (nb b hx).1 (nb b hx).2 q).1 hn)
    slot := fun b o q _ _ hx => (kb b o (nb b hx).1 (nb b hx).2 q).2
    free := fun _ _ _ n _ => n
    there := fun b o q hx => let ⟨sl, z⟩ := (kb b o (nb b hx).1 (nb b hx).2 q).2; ⟨_, z⟩
    tups := fun _ _ z => z
    frzs := fun _ _ _ z => z
    tbls := fun b ps z => ⟨#[], by rw [z]; simp⟩ }
  have hok : HOk X.prog X.w H h' := fun a o q => (I.hok a o q).stay (fun c v hc z => by
    have hH : ∃ u, H c = some u := by rcases hc with hc | hc; exact ⟨_, hc ▸ q⟩; exact ⟨_, hc⟩
    obtain ⟨u, hu⟩ := hH
    have c1 : c ≠ e := fun y => by rw [y, oe.unt] at hu; cases hu
    have c2 : T ≠ some c := fun y => by rw [(ot c y).unt] at hu; cases hu
    exact (kb c v c1 c2 z).1 fun y => by rw [I.stkFree c y] at hu; cases hu) (fun _ z => z) fun _ _ z => z
  refine ⟨I.callN (h' := h') (g' := s.gens) (d' := s.drawn) (t' := s.toks) un hok I.bare hch, ⟨some t', fl', oe, fun t z => ?_⟩⟩
  cases z
  exact ⟨Heap.get?_none_of_le (Nat.le_trans I.sz ht), I.hok.fresh ht, I.pinNo (Heap.get?_none_of_le ht)⟩
end
theorem acc_fn {P : Program} {w : World} {K : PySem.W.Frag} {mg : Str → Option Value} {base : Heap} {N : List Str} {qual : Str} {scope : Scope} {f : Addr} {cd : Value} {A : Around} {outer : List Env} {s : Shared} {H : Hp} {E : XK} :
    Acc (cxOf (CX1 P w) P w K mg base N qual scope f cd A outer s H E) (fun _ => E) := by
  refine ⟨fun pins σ H' s' e cls dx I fl h => ?_⟩
  obtain ⟨T, flo, oe, ot⟩ := fl.go
  show wpAny _ _ (leaving _ (.ref e)) _ _ s'
  refine leave_fly (base := base) (outer := outer) (L := s.heap.objs.size) (T := T) I.ok.frames I.stack rfl flo fun h' hs t' ht fl' kb there => ?_
  obtain ⟨I2, fl2⟩ := I.noted rfl flo oe ot hs ht fl' kb there
  refine ⟨e, H', cls, dx, some t', rfl, I.os, I.bare, ?_, I2.hok, fl', ⟨oe.new, oe.unt⟩, fun t z => ?_, h⟩
  · exact I2.base
  · cases z; exact ⟨Heap.get?_none_of_le (Nat.le_trans I.sz ht), I.hok.fresh ht⟩
section
variable {X : Cx} {x : Str} {p pos : Pos} {e : Expr} {es : List Expr} {t : TA} {k : Nat} {f : Addr} {fd : FuncData} {ps : List Str} {sp : Sp} {xk : XS}
/-- an exception behind a call -/
theorem Inv.raised {pins : List (Addr × Obj)} {σ : St} {H : Hp} {s s' : Shared} {ev : Value} (hex : X.ex = []) (I : Inv X pins σ H s) (ac : Acc X xk) (h : CX1 X.prog X.w X.stack H s (xk σ) ev s') : X.xe ev s' := by
  obtain ⟨ea, H', cls, dx, T, rfl, os, bare, un, hok, fl, oe, ot, q⟩ := h
  have I2 := I.call' os un hok bare (ch := []) fun b z => absurd z (by simp)
  exact ac.go pins σ H' s' ea cls dx I2 ⟨T, fl, ⟨I.old hex oe.1, oe.2, I.pinNo oe.1⟩, fun t z => ⟨I.old hex (ot t z).1, (ot t z).2, I.pinNo (ot t z).1⟩⟩ q
theorem run_fnX {pins : List (Addr × Obj)} {σ : St} {H : Hp} {s : Shared} {Q : VK} {us : List Value} {vs : List V} (F : FnOk X.prog X.w X.K X.mg X.base (CX1 X.prog X.w) k f fd ps sp) (hr : Room k X.A) (hb : Binds X.K fd ps [])
    (hex : X.ex = []) (ac : Acc X xk) (I : Inv X pins σ H s) (r : Vals vs us) (h : sp vs H Q (xk σ)) : wpAny (model X.prog X.w) X.A (call (.ref f) us) (EP X pins σ Q) X.xe s := by
  have hl : us.length = ps.length := by rw [← F.len _ _ _ _ h]; exact r.length.symm
  have hb' := hb s us I.kIn (by simpa using hl)
  rw [List.append_nil] at hb'
  refine wpAny_call (codeAny_mono (F.run X.A X.stack s H ⟨us, []⟩ us vs Q (xk σ) hr I.env0 hb' r h) fun r s' hq => ?_)
  cases r with
  | error e => exact I.raised hex ac hq
  | ok fl =>
    cases fl with
    | ret u => exact I.after hq
    | next => exact False.elim hq
    | brk => exact False.elim hq
    | cont => exact False.elim hq
/-- f(..) that may raise -/
noncomputable def tCallX (xk : XS) (sp : Sp) (t : TA) : TE := fun σ H Q => t σ H fun vs H1 => sp vs H1 Q (xk σ)
theorem pe_callX (hex : X.ex = []) (ac : Acc X xk) (F : FnOk X.prog X.w X.K X.mg X.base (CX1 X.prog X.w) k f fd ps sp) (hr : Room k X.A) (hg : Gl X x) (hm : X.mg x = some (.ref f)) (hk : PySem.W.keepIn X.K (.ref f) = true) (hb : Binds X.K fd ps [])
    (ha : PA X (e :: es) t) (hdb : (x == ("__debug__" : Str)) = false := by decide) (he : starEach (e :: es) X.env = (false, eval e X.env) :: starEach es X.env := by rfl) (hpl : (backTo pos (starEach es X.env)).any (·.1) = false := by rfl) :
    PE X (.Call (.Name x p) (e :: es) [] pos) (tCallX xk sp t) := by
  (try refine ⟨?_⟩); intro pins s σ H Q I h
  refine wpAny_Call_Name_kw (ld_glob I hg hm ?_ hdb)
  refine PySem.W.callWith_K (h₀ := X.base) I.ok.mod.kin hk (thn (ha pos pins s σ H _ I h) fun us s1 ⟨vs, H1, I1, r, q⟩ => ⟨I1.kIn, ?_⟩) he hpl
  exact run_fnX F hr hb hex ac I1 r q
end
end L2

set_option Elab.async false
set_option linter.all false
set_option maxRecDepth 100000
set_option maxHeartbeats 1000000
namespace L2
open PySem PySem.Spec PyProof.Rows
/-! ### classes of exceptions, raise -/
noncomputable abbrev bmV : List Value := [.type "ValueError", .type "Exception", .type "BaseException", .type "object"]
/-- the class at C: what stands behind it, its own __init__ -/
noncomputable def xcIn (K : PySem.W.Frag) (C : Addr) (bm : List Value) (ini : Option Value) : Bool := match K.lookup C with
  | some ⟨.type "type", _, .cls cd, sl⟩ => (match cd.mro, sl.toList with
    | .ref C' :: bm', [_, _, _, _, some (.builtin n), _] => C' == C && n == "ValueError.__new__" && !cd.hasDel && bm' == bm && PySem.W.tailIn K bmV bm && PySem.W.nsOkIn K cd.ns && PySem.W.nsIn K cd.ns "__init__" == some ini
    | _, _ => false)
  | _ => false
noncomputable def XObj (h : Heap) (C : Addr) (bm : List Value) (ini : Option Value) : Prop := ∃ N nm q bs hdct sn sub ab col dd k0 k1 k2 k3 k5 mN, h.get? C = some (excClassObj nm q C N bs bm hdct sn sub ab col dd k0 k1 k2 k3 k5 "ValueError.__new__") ∧ h.Ns N mN ∧ mN "__init__" = ini ∧ OwnTail h bmV bm
theorem nsMap_some_of_in {K : PySem.W.Frag} {h : Heap} {N : Addr} {mg : Str → Option Value} {n : Str} {v : Value} (X : K.In h) (G : h.Ns N mg) (e : PySem.W.nsIn K N n = some (some v)) : mg n = some v := by
  obtain ⟨o, es, ep, ho, hd, _, hf⟩ := G
  unfold PySem.W.nsIn at e
  split at e
  · rename_i c d es' n' sl q
    have := X _ _ q
    rw [ho] at this
    cases this
    cases hd
    split at e
    · rename_i w he
      cases e
      rw [← hf]
      unfold nsFind findBy
      rw [← Array.find?_toList, he]
      rfl
    · split at e <;> cases e
  · cases e
theorem xobj_of {K : PySem.W.Frag} {h : Heap} {C : Addr} {bm : List Value} {ini : Option Value} (X : K.In h) (q : xcIn K C bm ini = true) : XObj h C bm ini := by
  unfold xcIn at q
  split at q
  · rename_i dd cd sl ho
    split at q
    · rename_i C' bm' k0 k1 k2 k3 n k5 hm hs
      simp only [Bool.and_eq_true, beq_iff_eq, Bool.not_eq_true'] at q
      obtain ⟨⟨⟨⟨⟨⟨rfl, rfl⟩, hdel⟩, rfl⟩, ht⟩, hok⟩, hni⟩ := q
      obtain ⟨nm, bs, mro, ns, qn, hd, sn, sub, ab, col, del⟩ := cd
      dsimp only at hm hdel hok hni
      subst hm hdel
      have hsl : sl = #[k0, k1, k2, k3, some (.builtin "ValueError.__new__"), k5] := by
        obtain ⟨l⟩ := sl
        simp only at hs
        rw [hs]
      subst hsl
      refine ⟨ns, nm, qn, bs, hd, sn, sub, ab, col, dd, k0, k1, k2, k3, k5, _, X _ _ ho, .of_isNs (PySem.W.isNs_of_in X hok), ?_, PySem.W.tail_of_in X ht⟩
      cases ini with
      | none => exact PySem.W.nsMap_none_of_in X hok hni
      | some v => exact nsMap_some_of_in X (.of_isNs (PySem.W.isNs_of_in X hok)) hni
    · cases q
  · cases q
theorem tail_base {h : Heap} {bm : List Value} (T : OwnTail h bmV bm) : bm.contains (.type "BaseException") = true := T.hasType (by decide)
section
variable {X : Cx} {pins : List (Addr × Obj)} {σ : St} {H : Hp} {s : Shared} {xk : XS}
/-- a new exception, untracked -/
theorem Inv.made1 {h' : Heap} {e : Addr} {cls : Value} {args : List Value} (hex : X.ex = []) (I : Inv X pins σ H s) (m : Heap.MadeExcOf s.heap h' e cls args) : Inv X pins σ H { s with heap := h' } ∧ Fly X pins H { s with heap := h' } e cls none := by
  refine ⟨I.kept (t' := s.toks) m.keeps, none, ⟨?_, fun t z => by cases z⟩, ⟨I.old hex m.new, I.hok.no m.new, I.pinNo m.new⟩, fun t z => by cases z⟩
  obtain ⟨t, ht, _, _⟩ := m.there
  exact ⟨_, _, ht, rfl⟩
variable {x : Str} {C : Addr} {bm : List Value} {e : Expr} {args : List Expr} {np cpos pos : Pos} {t : TA}
noncomputable def tRaise0 (xk : XS) (C : Addr) (t : TA) : TS := fun _ σ H => t σ H fun vs H1 => vs.length ≤ sizeLine ∧ xk σ (.ref C) none H1
theorem ps_raise0 (hex : X.ex = []) (hcalm : X.calm = true) (ac : Acc X xk) (hc : xcIn X.K C bm none = true) (hg : Gl X x) (hm : X.mg x = some (.ref C)) (ha : PA X (e :: args) t)
    (hdb : (x == ("__debug__" : Str)) = false := by decide) (he : starEach (e :: args) X.env = (false, eval e X.env) :: starEach args X.env := by rfl) (hpl : (backTo cpos (starEach args X.env)).any (·.1) = false := by rfl) :
    PS X (.Raise (some (.Call (.Name x np) (e :: args) [] cpos)) none pos) (tRaise0 xk C t) := by
  refine ⟨fun pins s σ H D I h => ?_⟩
  obtain ⟨N, nm, q, bs, hdct, sn, sub, ab, col, dd, k0, k1, k2, k3, k5, mN, hC, hN, hni, T⟩ := xobj_of I.ok.mod.kin hc
  refine wpAny_Raise_call_subT (C := C) (N := N) (nm := nm) (q := q) (bs := bs) (bm := bm) (hdct := hdct) (sn := sn) (sub := sub) (ab := ab) (col := col) (dd := dd) (k0 := k0) (k1 := k1) (k2 := k2) (k3 := k3) (k5 := k5) (mN := mN)
    PySem.F.excBase_ValueError (tail_base T) (I.ok.hd hcalm) ?_ hni (ld_glob I hg hm ⟨rfl, ?_⟩ hdb)
  · rw [he]; show ((false || (backTo cpos (starEach args X.env)).any (·.1))) = false; rw [hpl]; rfl
  · have hq := ha cpos pins s σ H _ I h
    rw [he] at hq ⊢
    refine Calls.evalArgs_plain (thn hq fun us s1 ⟨vs, H1, I1, r, q1⟩ => ?_)
    obtain ⟨hl, q2⟩ := q1
    refine ⟨rfl, by rw [← r.length]; exact hl, I1.bk _ _ hC, hN.keeps I1.bk, T.keeps I1.bk, fun h' ea hm => ?_⟩
    obtain ⟨J, fl⟩ := I1.made1 hex hm
    exact ac.go pins σ H1 _ ea (.ref C) none J fl q2
end
end L2

set_option Elab.async false
set_option linter.all false
set_option maxRecDepth 100000
set_option maxHeartbeats 1000000
namespace L2
open PySem PySem.Spec PyProof.Rows
/-! ### try -/
noncomputable def excφ (e : Addr) (cls : Value) (dx : Option Addr) : Heap → Prop := fun h => ∃ vs sl, h.get? e = some { cls := cls, dict := dx, data := .fields vs, slots := sl }
noncomputable abbrev Cx.tr (X : Cx) (E : Value → Shared → Prop) (p : List (Addr × Obj)) : Cx := { X with xe := E, pn := X.pn ++ p }
noncomputable abbrev Cx.hand (X : Cx) (v : Value) : Cx := { X with A := X.A.mark (some v), calm := false, xe := fun _ _ => False }
noncomputable def Ends.unb (D : Ends) (i : Nat) : Ends := { nx := fun σ H => D.nx (σ.set i none) H, rt := D.rt, bk := fun σ H => D.bk (σ.set i none) H, ct := fun σ H => D.ct (σ.set i none) H }
section
variable {X : Cx} {pins p : List (Addr × Obj)} {σ : St} {H : Hp} {s : Shared} {E : Value → Shared → Prop} {v : Value}
theorem Cx.Ok.tr (ok : X.Ok) : (X.tr E p).Ok := { ok with }
theorem Cx.Ok.untr (ok : (X.tr E p).Ok) : X.Ok := { ok with }
theorem Inv.tr (I : Inv X (p ++ pins) σ H s) : Inv (X.tr E p) pins σ H s := ⟨I.ok.tr, I.os, I.bare, I.base, I.loc, I.cell, I.free, I.freeC, fun q hq => I.pin q (by simpa using hq), I.hok, I.len⟩
theorem Inv.untr (I : Inv (X.tr E p) pins σ H s) : Inv X (p ++ pins) σ H s := ⟨I.ok.untr, I.os, I.bare, I.base, I.loc, I.cell, I.free, I.freeC, fun q hq => I.pin q (by simpa using hq), I.hok, I.len⟩
theorem SP.untr {D : Ends} {f : Flow} {s' : Shared} (h : SP (X.tr E p) pins D f s') : SP X (p ++ pins) D f s' := by
  cases f with
  | next => obtain ⟨σ', H', I, q⟩ := h; exact ⟨σ', H', I.untr, q⟩
  | brk => obtain ⟨σ', H', I, q⟩ := h; exact ⟨σ', H', I.untr, q⟩
  | cont => obtain ⟨σ', H', I, q⟩ := h; exact ⟨σ', H', I.untr, q⟩
  | ret u => obtain ⟨v, σ', H', I, r, q⟩ := h; exact ⟨v, σ', H', I.untr, r, q⟩
theorem Inv.drop (I : Inv X (p ++ pins) σ H s) : Inv X p σ H s := I.pins_of fun q hq => I.pin q (by simp [hq])
theorem Cx.Ok.hand (ok : X.Ok) : (X.hand v).Ok := { ok with hd := (fun z => by cases z), frames := ok.frames }
theorem Inv.hand (I : Inv X pins σ H s) : Inv (X.hand v) pins σ H s := ⟨I.ok.hand, I.os, I.bare, I.base, I.loc, I.cell, I.free, I.freeC, I.pin, I.hok, I.len⟩
theorem Inv.unhand (ok : X.Ok) (I : Inv (X.hand v) pins σ H s) : Inv X pins σ H s := ⟨ok, I.os, I.bare, I.base, I.loc, I.cell, I.free, I.freeC, I.pin, I.hok, I.len⟩
/-- an ordinary statement anywhere -/
theorem PS.any {st : Stmt} {t : TS} (h : PS X.nox st t) : PS (X.tr E p) st t := ⟨fun pins s σ H D I hw =>
  wpAny_mono (h (p ++ pins) s σ H D (I.untr.wish _) hw) (fun f s' q => by
    have q := q.unwish
    cases f with
    | next => obtain ⟨σ', H', I, q⟩ := q; exact ⟨σ', H', I.tr, q⟩
    | brk => obtain ⟨σ', H', I, q⟩ := q; exact ⟨σ', H', I.tr, q⟩
    | cont => obtain ⟨σ', H', I, q⟩ := q; exact ⟨σ', H', I.tr, q⟩
    | ret u => obtain ⟨v, σ', H', I, r, q⟩ := q; exact ⟨v, σ', H', I.tr, r, q⟩) fun _ _ z => False.elim z⟩
theorem PA.any {es : List Expr} {t : TA} (h : PA X.nox es t) : PA (X.tr E p) es t := ⟨fun pos pins s σ H D I hw =>
  wpAny_mono (h pos (p ++ pins) s σ H D (I.untr.wish _) hw) (fun f s' ⟨vs, H', I', r, q⟩ => ⟨vs, H', (I'.unwish).tr, r, q⟩) fun _ _ z => False.elim z⟩
theorem PT.any {e : Expr} {t : TT} (h : PT X.nox e t) : PT (X.tr E p) e t := ⟨fun pins s σ H D I hw =>
  wpAny_mono (h (p ++ pins) s σ H D (I.untr.wish _) hw) (fun f s' ⟨H', I', q⟩ => ⟨H', (I'.unwish).tr, q⟩) fun _ _ z => False.elim z⟩
variable {e : Addr} {cls : Value} {dx T : Option Addr}
/-- a caught exception is tracked -/
theorem Inv.track {vs : Array Value} {sl : Array (Option Value)} (I : Inv X pins σ H s) (he : s.heap.get? e = some { cls := cls, dict := dx, data := .fields vs, slots := sl }) (o : Out X pins H e) :
    Inv X pins σ (upd H e (.ext (excφ e cls dx))) s := by
  have ne : ∀ b u, H b = some u → b ≠ e := fun b u q z => by rw [z, o.unt] at q; cases q
  have up : ∀ b, b ≠ e → upd H e (.ext (excφ e cls dx)) b = H b := fun b z => by simp [upd, z]
  have old : ∀ b ob, X.s₀.heap.get? b = some ob → b ≠ e := fun b ob q z => by rw [z, o.new] at q; cases q
  refine ⟨I.ok, I.os, I.bare, ⟨I.base.keep, I.base.slot, fun b ob q n hx => (up b (old b ob q)).trans (I.base.free b ob q n hx), I.base.there, fun b xs q => ?_, fun b ob u q => ?_, fun b ps q => ?_⟩, I.loc, I.cell,
    (up _ (Ne.symm (I.fieldsNot he rfl).1)).trans I.free, fun x c q => (up _ ((I.fieldsNot he rfl).2 x c q)).trans (I.freeC x c q), fun q hq => ?_, fun b u q => ?_, I.len⟩
  · have z := I.base.tups b xs q; exact (up b (ne b _ z)).trans z
  · have z := I.base.frzs b ob u q; exact (up b (ne b _ z)).trans z
  · obtain ⟨m, z⟩ := I.base.tbls b ps q; exact ⟨m, (up b (ne b _ z)).trans z⟩
  · obtain ⟨a1, a2, a3⟩ := I.pin q hq; exact ⟨a1, (up _ (o.pin q hq)).trans a2, a3⟩
  · by_cases hb : b = e
    · subst hb
      have : u = .ext (excφ b cls dx) := by simp [upd] at q; exact q.symm
      subst this
      exact ⟨⟨vs, sl, he⟩, ⟨_, he⟩, fun h1 h2 ⟨vs', sl', q'⟩ k => ⟨vs', sl', k _ q'⟩⟩
    · rw [up b hb] at q
      exact (I.hok b u q).stay (fun _ _ _ z => z) (fun c z => (up c (ne c _ z)).trans z) fun c xs z => (up c (ne c _ z)).trans z
theorem flight_fly {M : Model} {A : Around} {t : Addr} {Q : Unit → Shared → Prop} (F : FlyO s.heap e cls dx (some t))
    (h : ∀ h', FlyO h' e cls dx (some t) → (∀ b o, b ≠ t → s.heap.get? b = some o → h'.get? b = some o) → Q () { s with heap := h' }) : wpAny M A (setFlight (.ref e) none) Q E s := by
  obtain ⟨⟨vs, sl, he, h1⟩, tb⟩ := F
  obtain ⟨hte, o, ts, ht, hd, h3⟩ := tb t rfl
  unfold setFlight
  refine wpAny_bind (wpAny_field he rfl h1 ?_)
  show wpAny M A (if (Value.ref t != Value.none) = true then _ else _) _ _ _
  rw [if_pos (show (Value.ref t != Value.none) = true from by simp)]
  refine wpAny_setField ht hd (Array.getElem?_eq_some_iff.mp h3).1 ?_
  have hsz : 3 < ts.size := (Array.getElem?_eq_some_iff.mp h3).1
  refine h _ ⟨⟨vs, sl, (Heap.get?_update_other _ _ hte).trans he, h1⟩, fun t' z => ?_⟩ fun b ob hb q => (Heap.get?_update_other _ _ (Ne.symm hb)).trans q
  cases z
  refine ⟨hte, _, _, Heap.get?_update_self _ ht (Obj.isFreed_of_fields (Obj.data_mapFields hd _)), Obj.data_mapFields hd _, ?_⟩
  show (ts.setIfInBounds 3 ((none : Option Addr).elim Value.none fun f => rawInt f))[3]? = _
  simp [hsz]
/-- the name goes behind the suite -/
theorem Inv.goes {h' : Heap} {m : Str → Option Value} {w : Option Value} {n : Str} {i t' : Nat} (I : Inv X pins σ H s) (hN : X.N.Nodup) (hi : X.N[i]? = some n)
    (hl : ∀ (i : Nat) (x : Str) (v : V), X.N[i]? = some x → σ[i]? = some (some v) → Vis X.env.scope x → ∃ u, RelV v u ∧ Look X.env s.heap m x u) (hn : s.heap.Ns X.env.locals m)
    (hn' : h'.Ns X.env.locals (fun x => if x = n then w else m x)) (hs : Heap.SameBut X.env.locals s.heap h') : Inv X pins (σ.set i none) H { s with heap := h', toks := t' } := by
  have oth : ∀ b o, X.s₀.heap.get? b = some o → b ≠ X.env.locals := fun b o e => Nat.ne_of_lt (Nat.lt_of_lt_of_le (Heap.lt_size e) I.ok.above)
  refine ⟨I.ok, I.os, I.bare, ⟨fun b o e n hb hx => (hs.2 b (oth b o e)).trans (I.base.keep b o e n hb hx), fun b o e n hb hx => ?_, I.base.free, fun b o e hx => ?_, I.base.tups, I.base.frzs, I.base.tbls⟩, ⟨_, hn', fun j y v' e1 e2 e3 => ?_⟩, fun y c e => ?_, I.free, I.freeC, fun q hq => ?_, fun b u q => ?_, by simpa using I.len⟩
  · obtain ⟨sl, e1⟩ := I.base.slot b o e n hb hx
    exact ⟨sl, (hs.2 b (oth b o e)).trans e1⟩
  · obtain ⟨o', e1⟩ := I.base.there b o e hx
    exact ⟨o', (hs.2 b (oth b o e)).trans e1⟩
  · by_cases hj : j = i
    · subst hj
      have : j < σ.length := by rw [I.len]; exact (List.getElem?_eq_some_iff.mp hi).1
      rw [List.getElem?_set_self this] at e2; cases e2
    · rw [List.getElem?_set_ne (Ne.symm hj)] at e2
      obtain ⟨u', r', q⟩ := hl j y v' e1 e2 e3
      refine ⟨u', r', ?_⟩
      rcases q with ⟨k, e⟩ | ⟨k, c, e, z⟩
      · refine .inl ⟨k, ?_⟩
        have : y ≠ n := fun e => hj (nodup_ix hN e1 (e ▸ hi))
        simp [this, e]
      · exact .inr ⟨k, c, e, z.sameBut hs (I.cne y c e)⟩
  · obtain ⟨w', z⟩ := I.cell y c e
    exact ⟨w', z.sameBut hs (I.cne y c e)⟩
  · obtain ⟨e, n, ne, nf, d⟩ := I.pin q hq
    exact ⟨(hs.2 q.1 ne).trans e, n, ne, nf, d⟩
  · refine (I.hok b u q).stay (fun c w' hc z => (hs.2 c ?_).trans z) (fun _ z => z) fun _ _ z => z
    rintro rfl
    rcases hc with rfl | hc
    · rw [I.free] at q; cases q
    · rw [I.free] at hc; cases hc
theorem excMatches_own {M : Model} {A : Around} {C D0 : Addr} {bm bmD : List Value} {ini iniD : Option Value} {oe : Obj} {Q : Bool → Shared → Prop} (hC : XObj s.heap C bm ini) (hD : XObj s.heap D0 bmD iniD) (he : s.heap.get? e = some oe) (hcls : oe.cls = .ref C)
    (hq : Q ((Value.ref C :: bm).contains (.ref D0)) s) : wpAny M A (excMatches (.ref e) (.ref D0)) Q E s := by
  obtain ⟨N, nm, q, bs, hdct, sn, sub, ab, col, dd, k0, k1, k2, k3, k5, mN, hC, hN, hni, T⟩ := hC
  obtain ⟨N', nm', q', bs', hdct', sn', sub', ab', col', dd', k0', k1', k2', k3', k5', mN', hD, hN', hni', T'⟩ := hD
  obtain ⟨h, g, d, t, os⟩ := s
  have hbD : (Value.ref D0 :: bmD).contains (.type "BaseException") = true := by rw [List.contains_cons, tail_base T', Bool.or_true]
  have f := tc_notTuple
  generalize hb : (Value.ref C :: bm).contains (.ref D0) = b at hq
  unfold excMatches
  repeat (first | (with_reducible refine wpAny_loadPart_at he ?_; rw [hcls]) | with_reducible refine wpAny_loadPart_at hD ?_ | (with_reducible refine wpAny_isSubtype_exc hD ?_; rw [hbD]) | (with_reducible refine wpAny_isSubtype_exc hC ?_; rw [hb]) | wp_step)
  cases b <;> (wp_walk; exact hq)
theorem goes_ok {A : Around} {D : Ends} {n : Str} {i : Nat} {f : Flow} {s' : Shared} {npos : Pos} (ok : X.Ok) (hN : X.N.Nodup) (hi : X.N[i]? = some n) (hl : X.env.kindOf n = some .local) (h : SP (X.hand v) pins (D.unb i) f s') :
    wpAny (model X.prog X.w) A (do bindName X.env n .none; unbindBehindTheSuite X.env n npos) (fun _ s5 => SP X pins D f s5) E s' := by
  have hcls : (X.env.scope.kind == .class || (X.env.scope.kind == .module && X.env.locals != X.env.globals)) = false := by rw [ok.kind]; rfl
  have main : ∀ σ' H', Inv (X.hand v) pins σ' H' s' → (∀ s5, Inv X pins (σ'.set i none) H' s5 → SP X pins D f s5) → wpAny (model X.prog X.w) A (do bindName X.env n .none; unbindBehindTheSuite X.env n npos) (fun _ s5 => SP X pins D f s5) E s' := fun σ' H' J k => by
    have J := J.unhand ok
    obtain ⟨m, hn, hll⟩ := id J.loc
    exact wpAny_nameGoes_keeps hl hn hcls fun h' w hn' hs => k _ (J.goes hN hi hll hn hn' hs)
  cases f with
  | next => obtain ⟨σ', H', J, q⟩ := h; exact main σ' H' J fun s5 J5 => ⟨_, H', J5, q⟩
  | brk => obtain ⟨σ', H', J, q⟩ := h; exact main σ' H' J fun s5 J5 => ⟨_, H', J5, q⟩
  | cont => obtain ⟨σ', H', J, q⟩ := h; exact main σ' H' J fun s5 J5 => ⟨_, H', J5, q⟩
  | ret u => obtain ⟨v', σ', H', J, r, q⟩ := h; exact main σ' H' J fun s5 J5 => ⟨v', _, H', J5, r, q⟩
variable {x n : Str} {i : Nat} {C D0 : Addr} {bm bmD : List Value} {ini iniD : Option Value} {b0 : Stmt} {suite : List Stmt} {np npos : Pos} {ts : TS} {D : Ends} {t : Addr}
theorem handle_as (hN : X.N.Nodup) (hi : X.N[i]? = some n) (hl : X.env.kindOf n = some .local) (hg : Gl X x) (hm : X.mg x = some (.ref D0)) (hD : xcIn X.K D0 bmD iniD = true) (hC : xcIn X.K C bm ini = true)
    (hsub : (Value.ref C :: bm).contains (.ref D0) = true) (hs : PSs (X.hand (.ref e)) (b0 :: suite) ts) (I : Inv X pins σ H s) (F : FlyO s.heap e (.ref C) dx (some t)) (oe : Out X pins H e) (ot : Out X pins H t) (ht : X.s₀.heap.objs.size ≤ t)
    (q : ts (D.unb i) (σ.set i (some (.ref e))) (upd H e (.ext (excφ e (.ref C) dx)))) (hdb : (x == ("__debug__" : Str)) = false := by decide) :
    wpAny (model X.prog X.w) X.A (handleBy (.ref e) X.env [.ExceptHandler (some (.Name x np)) (some n) (b0 :: suite) npos]) (SP X pins D) X.xe s := by
  refine wpAny_handleBy_cons (codeAny_handlers_test (ld_glob (X := X.hand (.ref e)) I.hand hg hm ?_ hdb)) (by intro q; cases q)
  obtain ⟨⟨vs, sl, he, h1⟩, tb⟩ := id F
  refine excMatches_own (xobj_of I.kIn hC) (xobj_of I.kIn hD) he rfl ?_
  rw [hsub]
  refine codeAny_handlers_suite_as (flight_fly F fun h' F' k => ?_)
  obtain ⟨hte, o', ts', ht', hd', _⟩ := tb t rfl
  have I2 : Inv X pins σ H { s with heap := h' } := I.turned (t' := s.toks) k ot.unt (I.fieldsNot ht' hd').1 (.inr ht) (I.fieldsNot ht' hd').2 ot.pin
  obtain ⟨vs2, sl2, he2, _⟩ := F'.ex
  have I3 := I2.track he2 oe
  refine store_ok (X := X.hand (.ref e)) I3.hand hN hi (.inl hl) (v := .ref e) rfl (fun s3 I4 => ?_) (.inr hl)
  refine wpAny_mono (hs pins s3 _ _ _ I4 q) (fun f s4 h4 => ?_) fun _ _ z => False.elim z
  exact goes_ok I.ok hN hi hl h4
/-- try: a body that may raise, one clause with a name -/
noncomputable def tTry (i : Nat) (okc : Value → Prop) (tb : XS → TS) (ts : Addr → TS) : TS := fun D σ H => tb (fun σ' cls dx H' => okc cls ∧ ∀ ea, H' ea = none → ts ea (D.unb i) (σ'.set i (some (.ref ea))) (upd H' ea (.ext (excφ ea cls dx)))) D σ H
/-- the classes that the clause of D0 catches -/
noncomputable def Caught (K : PySem.W.Frag) (D0 : Addr) (cls : Value) : Prop := ∃ C bm ini, cls = .ref C ∧ xcIn K C bm ini = true ∧ (Value.ref C :: bm).contains (.ref D0) = true
theorem ps_try {body : List Stmt} {pos : Pos} {tb : XS → TS} {ts : Addr → TS} (hst : X.stack = X.env :: X.outer) (hf : X.env.frame = some X.env.locals) (hN : X.N.Nodup) (hi : X.N[i]? = some n) (hl : X.env.kindOf n = some .local) (hg : Gl X x) (hm : X.mg x = some (.ref D0)) (hD : xcIn X.K D0 bmD iniD = true)
    (hb : ∀ E p xk, PassesOwn (model X.prog X.w) X.A X.env E → Acc (X.tr E p) xk → PSs (X.tr E p) body (tb xk)) (hs : ∀ ea, PSs (X.hand (.ref ea)) (b0 :: suite) (ts ea)) (hdb : (x == ("__debug__" : Str)) = false := by decide) :
    PS X (.Try body [.ExceptHandler (some (.Name x np)) (some n) (b0 :: suite) npos] [] [] pos) (tTry i (Caught X.K D0) tb ts) := by
  refine ⟨fun pins s σ H D I h => ?_⟩
  refine wpAny_Try_except ?_
  have ac : Acc (X.tr (fun e s₁ => wpAny (model X.prog X.w) X.A (noteFrame e X.env) (fun _ s₂ => wpAny (model X.prog X.w) X.A (setFlight e none) (fun _ s₃ =>
      wpAny (model X.prog X.w) X.A (handleBy e X.env [.ExceptHandler (some (.Name x np)) (some n) (b0 :: suite) npos]) (SP X pins D) X.xe s₃) X.xe s₂) X.xe s₁) pins)
      (fun σ' cls dx H' => Caught X.K D0 cls ∧ ∀ ea, H' ea = none → ts ea (D.unb i) (σ'.set i (some (.ref ea))) (upd H' ea (.ext (excφ ea cls dx)))) := by
    refine ⟨fun pins' σ' H' s' ea cls dx J fl ⟨⟨C, bm, ini, hc, hC, hsub⟩, hk⟩ => ?_⟩
    subst hc
    obtain ⟨T, flo, oe, ot⟩ := fl.go
    have J := J.untr.drop
    have oe : Out X pins H' ea := ⟨oe.new, oe.unt, fun q hq => oe.pin q (List.mem_append_left _ hq)⟩
    have ot : ∀ t, T = some t → Out X pins H' t := fun t z => ⟨(ot t z).new, (ot t z).unt, fun q hq => (ot t z).pin q (List.mem_append_left _ hq)⟩
    show wpAny _ _ (noteFrame (.ref ea) X.env) _ _ s'
    refine note_fly (base := X.base) (outer := X.outer) (L := X.env.locals) (T := T) (by rw [← hst]; exact J.ok.frames) (by rw [← hst]; exact J.stack) hf flo fun h' hs' t' ht fl' kb there => ?_
    obtain ⟨J2, fl2⟩ := J.noted hst flo oe ot hs' ht fl' kb there
    have hsz : X.s₀.heap.objs.size ≤ t' := Nat.le_trans J.sz ht
    exact handle_as hN hi hl hg hm hD hC hsub (hs _) J2 fl' oe ⟨Heap.get?_none_of_le hsz, J.hok.fresh ht, J.pinNo (Heap.get?_none_of_le ht)⟩ hsz (hk ea oe.unt) hdb
  refine wpAny_mono (hb _ pins _ PassesOwn.looking ac [] s σ H D (Inv.tr (by simpa using I)) h) (fun f s' q => ?_) fun e s' q => q
  have q := q.untr
  rw [List.append_nil] at q
  cases f with
  | next => exact wpAny_execs_nil q
  | ret v => exact q
  | brk => exact q
  | cont => exact q
end
end L2

set_option Elab.async false
set_option linter.all false
set_option maxRecDepth 100000
set_option maxHeartbeats 1000000
namespace L2
open PySem PySem.Spec PyProof.Rows
/-! ### exceptions over data -/
/-- into a call and out of it, however it ends -/
theorem call_frame {C : Ctx} {ow : List Bool} {G : Hp} {ρ : DSt} {σ : St} {H : Hp} {pd T : List (D × V)} {ks : List AK} {ds ds' : List D} {vs : List V}
    (hn : C.np ≤ pd.length) (r : R C ow G ρ σ H (T.reverse ++ pd)) (ha : ArgsK G σ ks ds vs T) (hf : fillA ks ds ρ = some ds') (nd : (slotsOf ks).Nodup) (hw : ∀ i ∈ slotsOf ks, ow[i]? = some true) :
    ∃ C' : Ctx, C'.np = 0 ∧ C'.mu = msV (ks.map AK.isM) vs ∧ R C' (ks.map AK.isM) G (ds'.map some) (vs.map some) H [] ∧ (ks.map AK.isM).length = ds'.length ∧
      ∀ (fr : Bool) d ρ2 σ2 v G2 H2, Same G G2 → ρ2.length = (ks.map AK.isM).length → Ret fr C' (ks.map AK.isM) G2 ρ2 σ2 H2 d v → Kp ow ρ (putK ks (mus (ks.map AK.isM) ρ2) ρ) ∧
        (if fr = true then R C ow G2 (putK ks (mus (ks.map AK.isM) ρ2) ρ) σ H2 ((d, v) :: pd) else R C ow G2 (putK ks (mus (ks.map AK.isM) ρ2) ρ) σ H2 pd ∧ Rep G2 d v) := by
  obtain ⟨O, ro⟩ := r
  have pn := ro.pn
  obtain ⟨l1, l2, hat⟩ := args_at (O := O) (H := H) (r := pd.length) ha hf (fun j x e => pend_at pn e) (fun i hi d e => by
    obtain ⟨v, h1, h2⟩ := ro.sl i d e; rw [if_pos (hw i hi)] at h2; exact ⟨v, h1, h2⟩)
  let lb := lbs ks pd.length
  let fin : Nat → Option Nat := fun l => (fnd l lb 0).map (2 * ·)
  let fbk : Nat → Option Nat := fun l => if l = 1 then some (2 * pd.length + 1) else if l % 2 = 0 then (match lb[l / 2]? with | some o => o | none => none) else none
  have uq := lbs_uniq (ks := ks) (r := pd.length) nd
  have fin_at : ∀ (i l : Nat), lb[i]? = some (some l) → fin l = some (2 * i) := fun i l e => by
    show (fnd l lb 0).map _ = _
    rw [fnd_at uq e]; simp
  have fin_of : ∀ l l', fin l = some l' → ∃ i, l' = 2 * i ∧ lb[i]? = some (some l) := fun l l' e => by
    change (fnd l lb 0).map _ = _ at e
    cases z : fnd l lb 0 with
    | none => rw [z] at e; cases e
    | some j => rw [z] at e; cases e; obtain ⟨i, rfl, e2⟩ := fnd_of z; exact ⟨i, by show 2 * (0 + i) = 2 * i; omega, e2⟩
  have fin_none : ∀ l, (∀ i : Nat, lb[i]? ≠ some (some l)) → fin l = none := fun l e => by
    show (fnd l lb 0).map _ = _
    rw [fnd_none e]; rfl
  have ri := ro.into (mu := ks.map AK.isM) (fin := fin) (ds := ds') (vs := vs) l1 (fun j d e => by
    obtain ⟨v, h1, h2⟩ := hat j d e
    refine ⟨v, h1, ?_⟩
    rcases h2 with ⟨l, h2, h3, h4⟩ | ⟨h2, h3⟩
    · rw [if_pos h3]; exact ⟨l, h4, fin_at j l h2⟩
    · rw [if_neg (by rw [h2]; decide)]; exact h3) (fun l l' e => by
    obtain ⟨i, rfl, e2⟩ := fin_of l l' e
    exact ⟨i, rfl, lbs_isM e2, by have := (List.getElem?_eq_some_iff.mp (lbs_isM e2)).1; rw [List.length_map] at this; omega⟩)
  refine ⟨_, rfl, rfl, ⟨_, ri⟩, by rw [List.length_map, l1, l2], ?_⟩
  intro fr d ρ2 σ2 v G2 H2 z hl hr
  rw [List.length_map] at hl
  rw [putK_eq hl]
  have out : ∀ (pd2 pd3 : List (D × V)) (O2 : Own), RO ⟨G, H, ownM fin O, msV (ks.map AK.isM) vs, 0⟩ (ks.map AK.isM) G2 ρ2 σ2 H2 pd2 O2 → C.np ≤ pd3.length →
      (∀ (O3 : Own), (∀ a l π, O a = some (l, π) → fin l = none → O3 a = some (l, π) ∧ H2 a = H a) → (∀ a l l' π, O2 a = some (l', π) → fbk l' = some l → O3 a = some (l, π)) → TSame G G2 → Pend G2 H2 O3 pd3) →
      RO C ow G2 (putR ks ρ2 ρ) σ H2 pd3 (ownB fin fbk O O2) := fun pd2 pd3 O2 r2 hn3 hP => by
    refine ro.out (vs := vs) r2 ?_ (by rw [putR_len]; exact ro.len) hn3 ?_ ?_ hP
    · intro l0 l' l e1 e2
      obtain ⟨i, rfl, e3⟩ := fin_of l0 l' e1
      change (if 2 * i = 1 then _ else if 2 * i % 2 = 0 then _ else _) = _ at e2
      rw [if_neg (by omega), if_pos (by omega), show 2 * i / 2 = i by omega, e3] at e2
      exact (Option.some.inj e2).symm
    · intro i d c e
      rcases putR_at e hl with ⟨_, h2⟩ | ⟨k, h1, _⟩
      · exact h2
      · exact absurd (hw i (slot_of h1)) c
    · intro i d c e
      rcases putR_at e hl with ⟨h1, h2⟩ | ⟨j, h1, h2⟩
      · refine .inl ⟨fin_none _ fun j e => ?_, h2⟩
        rcases lbs_odd e with ⟨z, h3, h4⟩ | ⟨z, h3, h4⟩
        · exact h1 (by rw [show i = z by omega]; exact h3)
        · omega
      · obtain ⟨u, g1, g2⟩ := args_slot ha h1
        have im : (ks.map AK.isM)[j]? = some true := by rw [List.getElem?_map, h1]; rfl
        refine .inr ⟨j, u, ?_, im, h2, g2, r2.mp j u (msV_at im g1)⟩
        show (if 2 * j = 1 then _ else if 2 * j % 2 = 0 then _ else _) = _
        rw [if_neg (by omega), if_pos (by omega), show 2 * j / 2 = j by omega, lbs_m h1]
  have pdk : ∀ (O3 : Own), (∀ a l π, O a = some (l, π) → fin l = none → O3 a = some (l, π) ∧ H2 a = H a) → TSame G G2 → Pend G2 H2 O3 pd := fun O3 h1 ts =>
    Pend.keep ts (fun a j π hj e => h1 a _ _ e (fin_none _ fun i e => by
      rcases lbs_odd e with ⟨z, h3, h4⟩ | ⟨z, h3, h4⟩ <;> omega)) (pend_tail (T := T.reverse) pn)
  have kp : Kp ow ρ (putR ks ρ2 ρ) := fun j hj => putR_off fun hs => hj (hw j hs)
  refine ⟨kp, ?_⟩
  unfold Ret at hr
  split at hr
  · rename_i c
    rw [if_pos c]
    obtain ⟨O2, r2⟩ := hr
    refine ⟨_, out _ ((d, v) :: pd) O2 r2 (Nat.le_succ_of_le hn) fun O3 h1 h2 ts => ⟨?_, pdk O3 h1 ts⟩⟩
    exact r2.pn.1.keep (fun _ _ z => z) fun a τ e => ⟨h2 a _ _ _ e (by show (if 2 * 0 + 1 = 1 then _ else _) = _; rw [if_pos rfl]), rfl⟩
  · rename_i c
    rw [if_neg c]
    obtain ⟨⟨O2, r2⟩, p⟩ := hr
    exact ⟨⟨_, out _ pd O2 r2 hn fun O3 h1 h2 ts => pdk O3 h1 ts⟩, p⟩

/-- what an exception bears: the names and values of its own dict -/
noncomputable def XRep (H : Hp) (ns : List Str) (ds : List D) : Option Addr → Prop
  | none => ns = [] ∧ ds = []
  | some d => ∃ xs, H d = some (.xd (ns.zip xs)) ∧ xs.length = ns.length ∧ Reps H ds xs
theorem XRep.mono {H H' : Hp} {ns : List Str} {ds : List D} {dx : Option Addr} (s : Same H H') (h : XRep H ns ds dx) : XRep H' ns ds dx := by
  cases dx with
  | none => exact h
  | some d => obtain ⟨xs, h1, h2, h3⟩ := h; exact ⟨xs, s _ _ h1, h2, Reps.mono s _ _ h3⟩
/-- an exception as data: class, names, values, the state -/
noncomputable abbrev XD := Addr → List Str → List D → DSt → Prop
noncomputable abbrev SpX := List D → (D → DSt → Prop) → XD → Prop
noncomputable def spOfX (mu : List Bool) (fr : Bool) (sd : SpX) : Sp := fun vs H Q E => ∃ (C : Ctx) (G : Hp) (ds : List D) (q : D → DSt → Prop) (qx : XD), C.np = 0 ∧ C.mu = msV mu vs ∧ R C mu G (ds.map some) (vs.map some) H [] ∧ sd ds q qx ∧ mu.length = ds.length ∧
  (∀ d ρ' σ' v G' H', q d (mus mu ρ') → Same G G' → ρ'.length = mu.length → Ret fr C mu G' ρ' σ' H' d v → Q v H') ∧
  (∀ c ns es ρ' σ' dx G' H', qx c ns es (mus mu ρ') → Same G G' → ρ'.length = mu.length → R C mu G' ρ' σ' H' [] → XRep G' ns es dx → E (.ref c) dx H')
theorem run_callX {C : Ctx} {ow : List Bool} {G : Hp} {ρ : DSt} {σ : St} {H : Hp} {pd T : List (D × V)} {ks : List AK} {ds ds' : List D} {vs : List V} {fr : Bool} {sd : SpX} {q : D → DSt → Prop} {qx : XD} {Q : VK} {E : XK}
    (hn : C.np ≤ pd.length) (r : R C ow G ρ σ H (T.reverse ++ pd)) (ha : ArgsK G σ ks ds vs T) (hf : fillA ks ds ρ = some ds') (nd : (slotsOf ks).Nodup) (hw : ∀ i ∈ slotsOf ks, ow[i]? = some true)
    (h : sd ds' (fun d os => q d (putK ks os ρ)) fun c ns es os => qx c ns es (putK ks os ρ))
    (k : ∀ d ρ' v G' H', q d ρ' → Same G G' → Kp ow ρ ρ' → (if fr = true then R C ow G' ρ' σ H' ((d, v) :: pd) else R C ow G' ρ' σ H' pd ∧ Rep G' d v) → Q v H')
    (kx : ∀ c ns es ρ' dx G' H', qx c ns es ρ' → Same G G' → Kp ow ρ ρ' → R C ow G' ρ' σ H' pd → XRep G' ns es dx → E (.ref c) dx H') : spOfX (ks.map AK.isM) fr sd vs H Q E := by
  obtain ⟨C', h1, h2, h3, h4, h5⟩ := call_frame hn r ha hf nd hw
  refine ⟨C', G, ds', _, _, h1, h2, h3, h, h4, fun d ρ' σ' v G' H' hq z hl hr => ?_, fun c ns es ρ' σ' dx G' H' hq z hl hr hx => ?_⟩
  · obtain ⟨kp, hr⟩ := h5 fr d ρ' σ' v G' H' z hl hr
    exact k d _ v G' H' hq z kp hr
  · obtain ⟨kp, hr⟩ := h5 false .non ρ' σ' .non G' H' z hl (by unfold Ret; rw [if_neg (by decide)]; exact ⟨hr, rep_non⟩)
    rw [if_neg (by decide)] at hr
    exact kx c ns es _ dx G' H' hq z kp hr.1 hx
end L2

set_option Elab.async false
set_option linter.all false
set_option maxRecDepth 100000
set_option maxHeartbeats 1000000
namespace L2
open PySem PySem.Spec PyProof.Rows
section
variable {X : Cx} {E : Value → Shared → Prop} {p : List (Addr × Obj)}
end
/-! ### statements and expressions that may raise, over data -/
structure KsX (C : Ctx) (ow : List Bool) (G : Hp) (pd : List (D × V)) (xx : XD) (xk : XS) : Prop where
  go : ∀ c ns es ρ σ dx G' H, xx c ns es ρ → Same G G' → R C ow G' ρ σ H pd → XRep G' ns es dx → xk σ (.ref c) dx H
theorem KsX.mono {C : Ctx} {ow : List Bool} {G G1 : Hp} {pd : List (D × V)} {xx : XD} {xk : XS} (h : KsX C ow G pd xx xk) (s : Same G G1) : KsX C ow G1 pd xx xk := ⟨fun c ns es ρ σ dx G' H a b => h.go c ns es ρ σ dx G' H a (s.trans b)⟩
noncomputable abbrev MSX := XD → MS
noncomputable abbrev MEX := XD → ME
noncomputable def Good (X : Cx) (E : Value → Shared → Prop) (p : List (Addr × Obj)) (xk : XS) : Prop := PassesOwn (model X.prog X.w) X.A X.env E ∧ Acc (X.tr E p) xk
noncomputable def SSX (M : Md) (t : XS → TS) (m : MSX) : Prop := ∀ (C : Ctx) (G : Hp) (ρ : DSt) (σ : St) (H : Hp) (n : EndsD) (D : Ends) (xx : XD) (xk : XS), MuOk C M.mu → C.np = 0 → R C M.ow G ρ σ H [] → m xx n ρ → Ks C M.ow M.fr G n D → KsX C M.ow G [] xx xk → t xk D σ H
noncomputable def SEX (ow : List Bool) (t : XS → TE) (m : MEX) : Prop := ∀ (C : Ctx) (G : Hp) (ρ : DSt) (σ : St) (H : Hp) (pd : List (D × V)) (q : D → DSt → Prop) (Q : VK) (xx : XD) (xk : XS), R C ow G ρ σ H pd → m xx ρ q → KsX C ow G pd xx xk →
  (∀ d ρ' v G' H', q d ρ' → Same G G' → Kp ow ρ ρ' → R C ow G' ρ' σ H' pd → Rep G' d v → Q v H') → t xk σ H Q
structure QX (X : Cx) (M : Md) (st : Stmt) (m : MSX) : Prop where
  ex : ∃ t, (∀ E p xk, Good X E p xk → PS (X.tr E p) st (t xk)) ∧ SSX M t m
structure QXs (X : Cx) (M : Md) (st : List Stmt) (m : MSX) : Prop where
  ex : ∃ t, (∀ E p xk, Good X E p xk → PSs (X.tr E p) st (t xk)) ∧ SSX M t m
structure QXE (X : Cx) (ow : List Bool) (e : Expr) (m : MEX) : Prop where
  ex : ∃ t, (∀ E p xk, Good X E p xk → PE (X.tr E p) e (t xk)) ∧ SEX ow t m
section
variable {X : Cx} {M : Md} {a b c e : Expr} {mt : MT} {pos pos' : Pos} {st : Stmt} {rest : List Stmt} {m : MS} {m1 m2 : MSX} {mex : MEX}
theorem qx_of (h : QS X.nox M st m) : QX X M st (fun _ => m) := by
  obtain ⟨t, p, s⟩ := h
  exact ⟨fun _ => t, fun E q xk g => PS.any p, fun C G ρ σ H n D xx xk hm hn r h k kx => s C G ρ σ H n D hm hn r h k⟩
theorem qxs_nil : QXs X M [] (fun _ => mNext) := ⟨fun _ => _, fun E q xk g => pss_nil, fun C G ρ σ H n D xx xk hm hn r h k kx => k.nx ρ σ G H h (Same.refl _) r⟩
theorem qxs_one (h : QX X M st m1) : QXs X M [st] m1 := by obtain ⟨t, p, s⟩ := h; exact ⟨_, fun E q xk g => pss_one (p E q xk g), s⟩
theorem qxs_cons (h : QX X M st m1) (h2 : QXs X M rest m2) : QXs X M (st :: rest) (fun xx => mSeq (m1 xx) (m2 xx)) := by
  obtain ⟨t, p, s⟩ := h; obtain ⟨t2, p2, s2⟩ := h2
  refine ⟨fun xk => tSeq (t xk) (t2 xk), fun E q xk g => pss_cons (p E q xk g) (p2 E q xk g), fun C G ρ σ H n D xx xk hm hn r h k kx => s C G ρ σ H _ _ xx xk hm hn r h ?_ kx⟩
  exact ⟨fun ρ' σ' G' H' h' z r' => s2 C G' ρ' σ' H' n D xx xk hm hn r' h' (k.mono z) (kx.mono z), k.bk, k.ct, k.rt⟩
theorem qx_if {s1 s2 : List Stmt} (h : QT X.nox M.ow c mt) (h1 : QXs X M s1 m1) (h2 : QXs X M s2 m2) : QX X M (.If c s1 s2 pos) (fun xx => mIfS mt (m1 xx) (m2 xx)) := by
  obtain ⟨t, p, s⟩ := h; obtain ⟨t1, p1, s1⟩ := h1; obtain ⟨t2, p2, s2⟩ := h2
  refine ⟨fun xk => tIfS t (t1 xk) (t2 xk), fun E q xk g => ps_if (PT.any p) (p1 E q xk g) (p2 E q xk g), fun C G ρ σ H n D xx xk hm hn r h k kx => s C G ρ σ H [] _ _ r h fun b ρ' G' H' hq z kp r' => ?_⟩
  cases b with
  | true => rw [if_pos rfl] at hq ⊢; exact s1 C G' ρ' σ H' n D xx xk hm hn r' hq (k.mono z) (kx.mono z)
  | false => rw [if_neg (by decide)] at hq ⊢; exact s2 C G' ρ' σ H' n D xx xk hm hn r' hq (k.mono z) (kx.mono z)
theorem qx_set {i : Nat} {x : Str} (hN : X.N.Nodup) (hi : X.N[i]? = some x) (hx : Loc X.env.scope x) (he : QXE X M.ow e mex) (ho : M.ow[i]? ≠ some true := by decide) (hu : M.mu[i]? ≠ some true := by decide) (hs : swapsWith e (some (.Name x pos')) pos.line X.env = pure false := by rfl) (hf : X.fn x = true ∨ X.env.scope.names.lookup x = some .local := by first | exact .inl rfl | exact .inr rfl | assumption) :
    QX X M (.Assign [.Name x pos'] e pos) (fun xx => mSet i (mex xx)) := by
  obtain ⟨t, p, s⟩ := he
  refine ⟨fun xk => tAsg (t xk) (gName i), fun E q xk g => ps_set hN hi hx (p E q xk g) hs hf, fun C G ρ σ H n D xx xk hm hn r h k kx => s C G ρ σ H [] _ _ xx xk r h kx fun d ρ' v G' H' hq z kp r' p => ?_⟩
  obtain ⟨O, r'⟩ := r'
  exact k.nx _ _ G' H' hq z ⟨O, r'.setS ho (hm.no hu) p⟩
variable {mg : MG}
/-! ### calls, raise -/
variable {es : List Expr} {ks : List AK} {mr : MA} {x : Str} {p' : Pos} {ow : List Bool}
noncomputable def mCallX (ks : List AK) (sd : SpX) (m : MA) : MEX := fun xx ρ q => m ρ fun ds ρ1 => match fillA ks ds ρ1 with
  | some ds' => sd ds' (fun d os => q d (putK ks os ρ1)) fun c ns es os => xx c ns es (putK ks os ρ1)
  | none => False
end
end L2

set_option Elab.async false
set_option linter.all false
set_option maxRecDepth 100000
set_option maxHeartbeats 1000000
namespace L2
open PySem PySem.Spec PyProof.Rows
section
variable {X : Cx} {M : Md} {e : Expr} {es : List Expr} {ks : List AK} {mr : MA} {x : Str} {pos p' : Pos} {ow : List Bool} {mu : List Bool} {k : Nat} {f : Addr} {fd : FuncData} {ps : List Str} {sd : SpX}
theorem qxe_call (F : FnOk X.prog X.w X.K X.mg X.base (CX1 X.prog X.w) k f fd ps (spOfX mu false sd)) (hr : Room k X.A) (hg : Gl X x) (hm : X.mg x = some (.ref f)) (hk : PySem.W.keepIn X.K (.ref f) = true) (hb : Binds X.K fd ps [])
    (ha : QAk X.nox ow ks (e :: es) mr) (hex : X.ex = [] := by rfl) (hmu : mu = ks.map AK.isM := by rfl) (nd : (slotsOf ks).Nodup := by decide) (hw : ∀ i ∈ slotsOf ks, ow[i]? = some true := by decide) (hdb : (x == ("__debug__" : Str)) = false := by decide)
    (he : starEach (e :: es) X.env = (false, eval e X.env) :: starEach es X.env := by rfl) (hpl : (backTo pos (starEach es X.env)).any (·.1) = false := by rfl) : QXE X ow (.Call (.Name x p') (e :: es) [] pos) (mCallX ks sd mr) := by
  obtain ⟨t, p, s⟩ := ha
  subst hmu
  refine ⟨fun xk => tCallX xk (spOfX (ks.map AK.isM) false sd) t, fun E q xk g => pe_callX (X := X.tr E q) hex g.2 F hr hg hm hk hb (PA.any p) hdb he hpl, fun C G ρ σ H pd q Q xx xk r hm kx k => s C G ρ σ H pd _ _ r hm fun ds ρ' vs T G' H' hq z kp r' p => ?_⟩
  split at hq
  · rename_i ds' ef
    exact run_callX (fr := false) r.np r' p ef nd hw hq (fun d ρ2 v G2 H2 hq2 z2 kp2 h2 => by
      rw [if_neg (by decide)] at h2
      exact k d ρ2 v G2 H2 hq2 (z.trans z2) (kp.trans kp2) h2.1 h2.2) fun c ns es ρ2 dx G2 H2 hq2 z2 kp2 r2 x2 => kx.go c ns es ρ2 σ dx G2 H2 hq2 (z.trans z2) r2 x2
  · exact hq.elim
/-- raise C(..) of a class that has no __init__ of its own -/
noncomputable def mRaise0 (c : Addr) (m : MA) : MSX := fun xx _ ρ => m ρ fun _ ρ1 => xx c [] [] ρ1
theorem qx_raise0 {C : Addr} {bm : List Value} {np cpos : Pos} (hc : xcIn X.K C bm none = true) (hg : Gl X x) (hm : X.mg x = some (.ref C)) (ha : QA X.nox M.ow (e :: es) mr) (hcalm : X.calm = true := by rfl) (hex : X.ex = [] := by rfl)
    (hdb : (x == ("__debug__" : Str)) = false := by decide) (he : starEach (e :: es) X.env = (false, eval e X.env) :: starEach es X.env := by rfl) (hpl : (backTo cpos (starEach es X.env)).any (·.1) = false := by rfl) (hsz : (e :: es).length ≤ sizeLine := by simp [sizeLine]) :
    QX X M (.Raise (some (.Call (.Name x np) (e :: es) [] cpos)) none pos) (mRaise0 C mr) := by
  obtain ⟨t, p, s⟩ := ha
  refine ⟨fun xk => tRaise0 xk C t, fun E q xk g => ps_raise0 (X := X.tr E q) hex hcalm g.2 hc hg hm (PA.any p) hdb he hpl, fun C' G ρ σ H n D xx xk hm hn r h k kx => s C' G ρ σ H [] _ _ r h fun ds ρ' vs G' H' hq z kp r' p' hl => ⟨by rw [hl]; exact hsz, ?_⟩⟩
  exact kx.go C [] [] ρ' σ none G' H' hq z r' ⟨rfl, rfl⟩
end
/-! ### a def that may raise -/
theorem Fun.okX {P : Program} {w : World} {K : PySem.W.Frag} {mg : Str → Option Value} {base : Heap} {x qual : Str} {st : Stmt} {f : Addr} {fd : FuncData} {N ps : List Str} {k : Nat} {sp : Sp} (F : Fun K x qual st f fd) (S : FnScope N ps (defScope st)) (len : ∀ vs H Q E, sp vs H Q E → vs.length = ps.length)
    (hbody : ∀ (cdv : Value) (A : Around) (outer : List Env) (s : Shared) (H : Hp) (vs : List V) (Q : VK) (E : XK), Room k (A.deeper (envOfC qual (defScope st) s.heap.objs.size f cdv)) → sp vs H Q E →
      ∃ t, PSs (cxOf (CX1 P w) P w K mg base N qual (defScope st) f cdv A outer s H E) (defBody st) t ∧ t { nx := fun _ H' => Q .non H', rt := Q } (start N vs) H) : FnOk P w K mg base (CX1 P w) (k + 1) f fd ps sp := by
  obtain ⟨oc, od, kV, doc, pm, an, cdv, ct, osl, rfl, lk, hcd⟩ := F.ex
  exact fn_of lk hcd S len fun A outer s H vs Q E hr hsp => hbody cdv A outer s H vs Q E hr hsp
theorem fnX {P : Program} {w : World} {K : PySem.W.Frag} {mg : Str → Option Value} {base : Heap} {x qual : Str} {st : Stmt} {f : Addr} {fd : FuncData} {N ps : List Str} {k : Nat} (F : Fun K x qual st f fd) (S : FnScope N ps (defScope st)) (M : Md) (sd : SpX)
    (hl : ∀ ds q qx, sd ds q qx → ds.length = ps.length) (ho : M.ow.take ps.length = M.mu) (hml : M.mu.length = ps.length)
    (hbody : ∀ (cdv : Value) (A : Around) (outer : List Env) (s : Shared) (H : Hp) (E : XK), Room k (A.deeper (envOfC qual (defScope st) s.heap.objs.size f cdv)) →
      ∃ m, QXs (cxOf (CX1 P w) P w K mg base N qual (defScope st) f cdv A outer s H E) M (defBody st) m ∧ ∀ ds q qx, sd ds q qx → m (fun c ns es ρ => qx c ns es (mus M.mu ρ)) (endsOf M.mu q) (ds.map some ++ List.replicate (N.length - ps.length) none)) :
    FnOk P w K mg base (CX1 P w) (k + 1) f fd ps (spOfX M.mu M.fr sd) := by
  have hov : ∀ i : Nat, i < M.mu.length → M.ow[i]? = M.mu[i]? := fun i hi => by rw [← ho, List.getElem?_take_of_lt (by omega)]
  have hlen : ∀ vs H Q E, spOfX M.mu M.fr sd vs H Q E → vs.length = ps.length := fun vs H Q E ⟨C, G, ds, q, qx, _, _, ⟨O, ro⟩, h1, _, _⟩ => by
    have := ro.len; simp at this; rw [← this]; exact hl ds q qx h1
  refine F.okX S hlen fun cdv A outer s H vs Q E hr hsp => ?_
  obtain ⟨m, ⟨t, p, ss⟩, hm⟩ := hbody cdv A outer s H E hr
  have hvl := hlen vs H Q E hsp
  obtain ⟨C, G, ds, q, qx, hnp, hmu, ⟨O, ro⟩, hsd, hml2, kk, kkx⟩ := hsp
  refine ⟨t (fun _ => E), p _ [] (fun _ => E) ⟨PassesOwn.leaving, acc_fn⟩, ?_⟩
  have hmo : MuOk C M.mu := fun i v e => by rw [hmu] at e; exact (msV_of e).1
  have r0 : R C M.ow G (ds.map some ++ List.replicate (N.length - ps.length) none) (start N vs) H [] := by
    unfold start; rw [hvl]
    exact ⟨O, ro.grow _ fun i hi => hov i (by omega)⟩
  refine ss C G _ _ H (endsOf M.mu q) _ _ _ hmo hnp r0 (hm ds q qx hsd) ⟨?_, fun _ _ _ _ h => h.elim, fun _ _ _ _ h => h.elim, ?_⟩ ⟨?_⟩
  · intro ρ σ G' H' h z ⟨O', r'⟩
    refine kk .non (padS M.mu.length ρ) (padS M.mu.length σ) .non G' H' (by rw [padS_mus]; exact h) z (padS_len _ _) (R.non ⟨O', r'.trim hmo hov⟩)
  · intro d ρ σ v G' H' h z hr'
    refine kk d (padS M.mu.length ρ) (padS M.mu.length σ) v G' H' (by rw [padS_mus]; exact h) z (padS_len _ _) ?_
    unfold Ret at hr' ⊢
    split at hr'
    · rename_i c; rw [if_pos c]; obtain ⟨O', r'⟩ := hr'; exact ⟨O', r'.trim hmo hov⟩
    · rename_i c; rw [if_neg c]; obtain ⟨⟨O', r'⟩, p⟩ := hr'; exact ⟨⟨O', r'.trim hmo hov⟩, p⟩
  · intro c ns es ρ σ dx G' H' h z ⟨O', r'⟩ hx
    exact kkx c ns es (padS M.mu.length ρ) (padS M.mu.length σ) dx G' H' (by rw [padS_mus]; exact h) z (padS_len _ _) ⟨O', r'.trim hmo hov⟩ hx
/-! ### try -/
noncomputable def dExc (c : Addr) (ns : List Str) (es : List D) : D := .ext fun H a => ∃ dx, H a = some (.ext (excφ a (.ref c) dx)) ∧ XRep H ns es dx
noncomputable def EndsD.unb (n : EndsD) (i : Nat) : EndsD := { nx := fun ρ => n.nx (ρ.set i none), rt := fun d ρ => n.rt d (ρ.set i none), bk := fun ρ => n.bk (ρ.set i none), ct := fun ρ => n.ct (ρ.set i none) }
theorem RO.gone {C : Ctx} {ow : List Bool} {G : Hp} {ρ : DSt} {σ : St} {H : Hp} {pd : List (D × V)} {O : Own} (h : RO C ow G ρ σ H pd O) (i : Nat) (hm : ∀ v, C.mu[i]? ≠ some (some v)) : RO C ow G (ρ.set i none) (σ.set i none) H pd O := by
  refine ⟨by simpa using h.len, h.gh, h.g0, h.gn, h.og, h.cok, h.fr, h.al, fun j v e => ?_, fun j d e => ?_, h.pn, h.np⟩
  · have : i ≠ j := fun z => by subst z; exact hm v e
    rw [List.getElem?_set_ne this]; exact h.mp j v e
  · have : i ≠ j := fun z => by
      subst z
      rw [List.getElem?_set] at e
      split at e
      · split at e <;> cases e
      · rename_i c; exact c rfl
    rw [List.getElem?_set_ne this] at e ⊢
    exact h.sl j d e
noncomputable def mTry (i : Nat) (ok : Value → Prop) (mb : MSX) (ms : Value → MS) : MSX := fun _ n ρ => mb (fun c ns es ρ' => ok (.ref c) ∧ ∀ v, ms v (n.unb i) (ρ'.set i (some (dExc c ns es)))) n ρ
theorem qx_try {X : Cx} {M : Md} {body : List Stmt} {b0 : Stmt} {suite : List Stmt} {x n : Str} {i : Nat} {D0 : Addr} {bmD : List Value} {iniD : Option Value} {np npos pos : Pos} {mb : MSX} {ms : Value → MS} (hN : X.N.Nodup) (hi : X.N[i]? = some n) (hl : X.env.kindOf n = some .local) (hg : Gl X x) (hm : X.mg x = some (.ref D0)) (hD : xcIn X.K D0 bmD iniD = true)
    (hb : QXs X M body mb) (hs : ∀ v, QSs (X.hand v) M (b0 :: suite) (ms v)) (hst : X.stack = X.env :: X.outer := by rfl) (hf : X.env.frame = some X.env.locals := by rfl) (ho : M.ow[i]? ≠ some true := by decide) (hu : M.mu[i]? ≠ some true := by decide) (hdb : (x == ("__debug__" : Str)) = false := by decide) :
    QX X M (.Try body [.ExceptHandler (some (.Name x np)) (some n) (b0 :: suite) npos] [] [] pos) (mTry i (Caught X.K D0) mb ms) := by
  obtain ⟨tb, pb, sb⟩ := hb
  have hs' : ∀ ea : Addr, ∃ t, PSs (X.hand (.ref ea)) (b0 :: suite) t ∧ SS M t (ms (.ref ea)) := fun ea => (hs (.ref ea)).ex
  let ts : Addr → TS := fun ea => (hs' ea).choose
  have hts : ∀ ea, PSs (X.hand (.ref ea)) (b0 :: suite) (ts ea) ∧ SS M (ts ea) (ms (.ref ea)) := fun ea => (hs' ea).choose_spec
  refine ⟨fun _ => tTry i (Caught X.K D0) tb ts, fun E q xk g => ps_try (X := X.tr E q) hst hf hN hi hl hg hm hD (fun E' p' xk' h1 h2 => ?_) (fun ea => ?_) hdb, fun C G ρ σ H n D xx xk hm hn r h k kx => ?_⟩
  · have e : (X.tr E q).tr E' p' = X.tr E' (q ++ p') := by
      show ({ X with xe := E', pn := (X.pn ++ q) ++ p' } : Cx) = { X with xe := E', pn := X.pn ++ (q ++ p') }
      rw [List.append_assoc]
    rw [e] at h2 ⊢
    exact pb E' (q ++ p') xk' ⟨h1, h2⟩
  · refine ⟨fun pins s σ H D I hw => ?_⟩
    have I' : Inv (X.hand (.ref ea)) (q ++ pins) σ H s := ⟨{ I.ok with }, I.os, I.bare, I.base, I.loc, I.cell, I.free, I.freeC, fun z hz => I.pin z (by simpa using hz), I.hok, I.len⟩
    refine wpAny_mono ((hts ea).1 (q ++ pins) s σ H D I' hw) (fun f s' z => ?_) fun _ _ z => False.elim z
    have back : ∀ {σ' H'}, Inv (X.hand (.ref ea)) (q ++ pins) σ' H' s' → Inv ((X.tr E q).hand (.ref ea)) pins σ' H' s' := fun {σ' H'} J => ⟨{ J.ok with }, J.os, J.bare, J.base, J.loc, J.cell, J.free, J.freeC, fun z hz => J.pin z (by simpa using hz), J.hok, J.len⟩
    cases f with
    | next => obtain ⟨σ', H', J, q⟩ := z; exact ⟨σ', H', back J, q⟩
    | brk => obtain ⟨σ', H', J, q⟩ := z; exact ⟨σ', H', back J, q⟩
    | cont => obtain ⟨σ', H', J, q⟩ := z; exact ⟨σ', H', back J, q⟩
    | ret u => obtain ⟨v, σ', H', J, r, q⟩ := z; exact ⟨v, σ', H', back J, r, q⟩
  · refine sb C G ρ σ H n D _ _ hm hn r h k ⟨fun c ns es ρ' σ' dx G' H' hq z r' hx => ⟨hq.1, fun ea hea => ?_⟩⟩
    obtain ⟨O, ro⟩ := r'
    obtain ⟨ro2, z2⟩ := ro.new hea (.ext (excφ ea (.ref c) dx))
    have rep : Rep (upd G' ea (.ext (excφ ea (.ref c) dx))) (dExc c ns es) (.ref ea) := by
      unfold dExc
      rw [Rep]
      exact ⟨ea, _, rfl, Same.refl _, dx, by simp [upd], hx.mono z2⟩
    refine (hts ea).2 C _ _ _ _ (n.unb i) (D.unb i) hm hn ⟨O, ro2.setS ho (hm.no hu) rep⟩ (hq.2 (.ref ea)) ⟨?_, ?_, ?_, ?_⟩
    · intro ρ3 σ3 G3 H3 h3 z3 ⟨O3, r3⟩; exact k.nx _ _ G3 H3 h3 (z.trans (z2.trans z3)) ⟨O3, r3.gone i (hm.no hu)⟩
    · intro ρ3 σ3 G3 H3 h3 z3 ⟨O3, r3⟩; exact k.bk _ _ G3 H3 h3 (z.trans (z2.trans z3)) ⟨O3, r3.gone i (hm.no hu)⟩
    · intro ρ3 σ3 G3 H3 h3 z3 ⟨O3, r3⟩; exact k.ct _ _ G3 H3 h3 (z.trans (z2.trans z3)) ⟨O3, r3.gone i (hm.no hu)⟩
    · intro d ρ3 σ3 v G3 H3 h3 z3 r3
      refine k.rt d (ρ3.set i none) (σ3.set i none) v G3 H3 h3 (z.trans (z2.trans z3)) ?_
      unfold Ret at r3 ⊢
      split at r3
      · rename_i c; rw [if_pos c]; obtain ⟨O3, r3⟩ := r3; exact ⟨O3, r3.gone i (hm.no hu)⟩
      · rename_i c; rw [if_neg c]; obtain ⟨⟨O3, r3⟩, p⟩ := r3; exact ⟨⟨O3, r3.gone i (hm.no hu)⟩, p⟩
end L2

set_option Elab.async false
set_option linter.all false
set_option maxRecDepth 100000
set_option maxHeartbeats 1000000
namespace L2
open PySem PySem.Spec PyProof.Rows PySem.W Builtin.ObjectAttr
/-! ### attributes and types of a caught exception -/
section
variable {prog : Program} {w : World} {A : Around} {E : Value → Shared → Prop} {s : Shared} {K : PySem.W.Frag} {x D : Addr} {ox : Obj} {od : Option Obj} {name : Str} {bm : List Value} {ini : Option Value} {tk : Tok}
theorem exc_check {M : Model} {nameV : Value} {Q : Unit → Shared → Prop} (I : PySem.W.InstAt s.heap x ox D od) (hC : XObj s.heap D bm ini) (hq : Q () s) : wpAny M A (checkBuiltinCall "BaseException.__getattribute__" ⟨[.ref x, nameV], []⟩) Q E s := by
  obtain ⟨N, nm, q, bs, hdct, sn, sub, ab, col, dd, k0, k1, k2, k3, k5, mN, hC, hN, hni, T⟩ := hC
  obtain ⟨h, g, d, t, os⟩ := s
  have hx := I.at_
  have hc := I.cls
  have hk : builtinKind "BaseException.__getattribute__" = some .slot := by decide +kernel
  have hsplit : splitId "BaseException.__getattribute__" = some ("BaseException", "__getattribute__") := by decide +kernel
  have hcB : (Value.ref D :: bm).contains (.type "BaseException") = true := by rw [List.contains_cons, tail_base T, Bool.or_true]
  have ha := PySem.F.args_bexc_ga (.ref x) nameV
  simp only [checkBuiltinCall, hk, hsplit]
  refine wpAny_bind ?_
  · unfold isInstance
    repeat (first | (with_reducible refine wpAny_loadPart_at hx ?_; rw [hc]) | (with_reducible refine wpAny_isSubtype_exc hC ?_; rw [hcB]) | wp_step)
    exact hq
theorem exc_bind {g a : Value} {Q : Fin → Shared → Prop} (X : K.In s.heap) (I : PySem.W.InstAt s.heap x ox D od) (hf : PySem.W.findObj K D od name = some (.bind g a)) (h : wpAny (model prog w) A (call g [a, .ref x, .ref D]) (fun v s' => Q (.done (.ret v)) s') E s) :
    wpAny (model prog w) A (Builtin.«object.__getattribute__» ⟨[.ref x, .str name tk], []⟩) Q E s := by
  have L0 := I.type (M := model prog w)
  have L1 := PySem.W.looks_find (M := model prog w) X I hf
  refine wpAny_bind (wpAny_pure (wpAny_bind (wpAny_pure (wpAny_bind (L0.at (wpAny_bind (L1.at ?_)))))))
  show wpAny _ _ (bindTo g a (.ref x) (.ref D)) _ _ _
  unfold bindTo
  exact wpAny_bind (wpAny_holding (wpAny_mono h (fun v s' z => wpAny_pure z) fun _ _ z => z))
theorem exc_by {fill expr : Bool} {Q : Value → Shared → Prop} (X : K.In s.heap) (I : PySem.W.InstAt s.heap x ox D od) (hC : XObj s.heap D bm ini) (hga : PySem.W.findIn K (.ref D) "__getattribute__" = some (some (.builtin "BaseException.__getattribute__")))
    (hgn : PySem.W.findIn K (.ref D) "__getattr__" = some none)
    (h : wpAny (model prog w) A.in1 (Builtin.«object.__getattribute__» ⟨[.ref x, .str name tk], []⟩) (fun fin s' => match fin with | .done (.ret v) => wpAny (model prog w) A (handedOut v) Q E s' | _ => False) (fun _ _ => False) s) :
    wpAny (model prog w) A (getAttrBy (.ref x) (.str name tk) fill expr) Q E s := by
  obtain ⟨hh, g, d, t, os⟩ := s
  have L0 := I.type (M := model prog w)
  have L1 := PySem.W.looks_findIn (M := model prog w) X hga
  have L2 := PySem.W.looks_findIn (M := model prog w) X hgn
  have f3 := PySem.F.attr_ValueError.ga.bind (.ref x)
  unfold getAttrBy
  refine wpAny_holding (wpAny_bind (L0.at (wpAny_bind (L1.at ?_))))
  show wpAny _ _ (if (true && (Value.builtin "BaseException.__getattribute__" == Value.builtin "object.__getattribute__")) = true then _ else getAttrByItsOwn _ _ _ _ _ _) _ _ _
  rw [if_neg (by decide +kernel)]
  unfold getAttrByItsOwn
  show wpAny _ _ (typeLookup (.ref D) "__getattr__" >>= _) _ _ _
  refine wpAny_bind (L2.at (wpAny_bind (wpAny_attempt (wpAny_holding ?_))))
  unfold callGetattribute
  rw [if_neg (by cases expr <;> decide)]
  unfold boundAndCalled
  rw [f3]
  refine wpAny_bind (wpAny_pure (wpAny_call (codeAny_call_builtin PySem.F.attr_ValueError.ga.plain PySem.F.entry_bexc_ga (exc_check I hC ?_))))
  refine wpAny_mono h (fun fin s' z => ?_) fun _ _ z => z.elim
  rcases fin with (_ | _ | _ | _) | _ <;> first | exact z | exact z.elim
theorem exc_class {Q : Option Value → Shared → Prop} (X : K.In s.heap) (I : PySem.W.InstAt s.heap x ox D od) (hC : XObj s.heap D bm ini) (hga : PySem.W.findIn K (.ref D) "__getattribute__" = some (some (.builtin "BaseException.__getattribute__")))
    (hgn : PySem.W.findIn K (.ref D) "__getattr__" = some none) (hf : PySem.W.findObj K D od "__class__" = some (.bind (.builtin "getset_descriptor.__get__") (.builtin "object.__class__"))) (hm : PySem.W.mroIn K D (.type "object") = some true)
    (h : Q (some (.ref D)) { s with toks := s.toks + 1 }) : wpAny (model prog w) A (getAttr? (.ref x) "__class__") Q E s := by
  unfold getAttr?
  refine wpAny_bind (wpAny_mkText ?_)
  unfold getAttrBy?
  refine wpAny_bind (wpAny_attempt ?_)
  refine exc_by (s := { s with toks := s.toks + 1 }) X I hC hga hgn (exc_bind (s := { s with toks := s.toks + 1 }) X I hf ?_)
  exact wpAny_call (PySem.W.class_get (s := { s with toks := s.toks + 1 }) X I hm (PySem.W.handed_on rfl (wpAny_pure h)))
/-- what the fragment must say of a class of exceptions -/
noncomputable def xcOk (K : PySem.W.Frag) (D : Addr) : Bool := PySem.W.findIn K (.ref D) "__getattribute__" == some (some (.builtin "BaseException.__getattribute__")) && PySem.W.findIn K (.ref D) "__getattr__" == some none &&
  PySem.W.findIn K (.ref D) "__class__" == some (some (.builtin "object.__class__")) && PySem.W.specialIn K (.builtin "object.__class__") "__get__" == some (some (.builtin "getset_descriptor.__get__")) && PySem.W.takesIn K (.builtin "object.__class__") == some true &&
  PySem.W.mroIn K D (.type "object") == some true && PySem.W.hasDictIn K D
theorem kitx_exc (q : xcOk K D = true) (hq : xcIn K D bm ini = true) : PySem.W.KitX K (.ref x) (.ref D) (fun h => ∃ ox od, PySem.W.InstAt h x ox D od) := by
  simp only [xcOk, Bool.and_eq_true, beq_iff_eq] at q
  obtain ⟨⟨⟨⟨⟨⟨q1, q2⟩, q3⟩, q4⟩, q5⟩, q6⟩, q7⟩ := q
  obtain ⟨cdD, hcD, _⟩ := PySem.W.any_some q7
  refine ⟨fun _ _ _ ⟨ox, od, I⟩ => I.type, fun _ _ X _ => ?_, fun h tp dd its n sl X htp => ?_, fun {_ _ _ _ _ s} X ⟨ox, od, I⟩ k => ?_⟩
  · unfold PySem.W.clsIn at hcD
    split at hcD
    · rename_i c' d' cd' sl' ho
      intro A' Q' E' s' k q
      unfold isType loadHead
      exact wpAny_bind (wpAny_loadPart (k _ _ (X _ _ ho)) (wpAny_pure q))
    · cases hcD
  · refine Bool.eq_false_iff.mpr fun q => ?_
    have e : D = tp := Value.ref.inj (beq_iff_eq.mp q)
    subst e
    unfold PySem.W.clsIn at hcD
    split at hcD
    · rename_i c' d' cd' sl' ho
      have z := (X _ _ ho).symm.trans htp
      cases z
    · cases hcD
  · refine exc_class X I (xobj_of X hq) q1 q2 ?_ q6 k
    unfold PySem.W.findObj
    rw [hcD, q3]
    simp only [Option.bind_some, q4, q5]
end
end L2

set_option Elab.async false
set_option linter.all false
set_option maxRecDepth 100000
set_option maxHeartbeats 1000000
namespace L2
open PySem PySem.Spec PyProof.Rows
/-! ### isinstance against one class, a built-in or an own one -/
section
variable {X : Cx}
theorem ext_inst {pins : List (Addr × Obj)} {σ : St} {H : Hp} {s : Shared} {a : Addr} {C : Addr} {dx : Option Addr} {ns : List Str} {es : List D} (I : Inv X pins σ H s) (h : H a = some (.ext (excφ a (.ref C) dx))) (hx : XRep H ns es dx) : ∃ ox od, PySem.W.InstAt s.heap a ox C od := by
  obtain ⟨⟨vs, sl, q⟩, _, _⟩ := (show ObjOk X.prog X.w H s.heap a (.ext (excφ a (.ref C) dx)) from I.hok a _ h)
  cases dx with
  | none => exact ⟨_, none, q, rfl, rfl, trivial⟩
  | some d =>
    obtain ⟨xs, h1, _, _⟩ := hx
    obtain ⟨u, z⟩ := (I.hok d _ h1).here
    exact ⟨_, some u, q, rfl, rfl, z⟩
/-- what isinstance answers of a datum -/
noncomputable def IsX (K : PySem.W.Frag) (c : Value) (d : D) (b : Bool) : Prop := (∃ C ns es bm ini, d = dExc C ns es ∧ xcIn K C bm ini = true ∧ xcOk K C = true ∧ PySem.W.kitOne K (.ref C) c = some b) ∨ (d.isS = false ∧ PySem.W.kitOne K (.type d.ty) c = some b)
noncomputable def rIsX (K : PySem.W.Frag) (c : V) (cv : Value) : List V → Hp → VK → Prop := fun xs H Q => ∃ x d b, xs = [x, c] ∧ Rep H d x ∧ IsX K cv d b ∧ Q (.bl b) H
theorem call_isX {c : V} {cv : Value} (hc : ∀ u, RelV c u → u = cv) : CallR X (.builtin "isinstance") (rIsX X.K c cv) := by
  intro pins s σ H xs us Q I r h
  obtain ⟨x, d, b, rfl, hd, e, q⟩ := h
  obtain ⟨u, w', rfl, ru, rw'⟩ := vals2 r
  obtain rfl := hc _ rw'
  have fin : ∀ tk, EP X pins σ Q (.bool b) { s with toks := tk } := fun tk => ⟨.bl b, H, I.tok tk, rfl, q⟩
  rcases e with ⟨C, ns, es, bm, ini, rfl, h1, h2, h3⟩ | ⟨hs, e⟩
  · unfold dExc at hd
    rw [Rep] at hd
    obtain ⟨a, H0, rfl, z, dx, h4, h5⟩ := hd
    cases (show u = Value.ref a from ru)
    exact PySem.W.kia_one (kitx_exc h2 h1) I.kIn (ext_inst I (z _ _ h4) (h5.mono z)) h3 (fun z => nomatch z) fin
  · exact isinst_ok I ru (hd.ty hs) e fin
variable {ow : List Bool} {a : Expr} {ma : ME} {pos : Pos}
noncomputable def mIsX (K : PySem.W.Frag) (c : Value) (m : ME) : ME := fun ρ q => m ρ fun d ρ' => ∃ b, IsX K c d b ∧ q (.bl b) ρ'
theorem qe_isX {c : V} {cv : Value} {x y : Str} {p1 p2 : Pos} (hc : ∀ u, RelV c u → u = cv) (hg : Gl X x) (hm : X.mg x = none) (hv : bootBuiltins x = some (.builtin "isinstance")) (ha : QE X ow a ma) (ht : PE X (.Name y p2) (tC c))
    (hn : x ≠ "__name__" := by decide) (hdb : (x == ("__debug__" : Str)) = false := by decide)
    (hs : starEach [.Name y p2] X.env = [(false, eval (.Name y p2) X.env)] := by rfl)
    (he : starEach [a, .Name y p2] X.env = (false, eval a X.env) :: starEach [.Name y p2] X.env := by rfl) (hpl : (backTo pos (starEach [.Name y p2] X.env)).any (·.1) = false := by rfl) :
    QE X ow (.Call (.Name x p1) [a, .Name y p2] [] pos) (mIsX X.K cv ma) := by
  obtain ⟨t, p, s⟩ := ha
  refine ⟨_, pe_callB (call_isX hc) hg hm hv (pa_cons p (pa_cons ht pa_nil hs) he) hn hdb he hpl, fun C G ρ σ H pd q Q r hm k => s C G ρ σ H pd _ _ r hm fun d ρ' v G' H' hq s kp r' p => ?_⟩
  obtain ⟨b, h1, h2⟩ := hq
  exact ⟨v, d, b, rfl, Rep.mono r'.gh _ _ p, h1, k _ ρ' _ G' H' h2 s kp r' (rep_bl _)⟩
theorem relRef {C : Addr} : ∀ u, RelV (.ref C) u → u = .ref C := fun _ h => h
theorem relTy {T : String} : ∀ u, RelV (.ty T) u → u = .type T := fun _ h => h
end
/-! ### the facts of the classes -/
section
variable {K : PySem.W.Frag} {C a N : Addr} {dd nd : Option Addr} {nm qn : Str} {bs bm sub : List Value} {hd ab : Bool} {sn : List Str} {col : Option Bool} {k0 k1 k2 k3 k5 ini : Option Value} {no : Value} {es : Array DictEntry} {np : Nat} {nl : Array (Option Value)} {sl : Array (Option Value)} {oc : Value} {cd : ClassData}
theorem tail_bm : PySem.W.tailIn K bmV bmV = true := by unfold PySem.W.tailIn; simp
theorem nsOk_mk (n : K.lookup N = some ⟨no, nd, .dict es np, nl⟩) (q : (es.all fun e => match e.key with | .str _ _ => true | _ => false) = true) : PySem.W.nsOkIn K N = true := by unfold PySem.W.nsOkIn; rw [n]; exact q
theorem tail_mk (l : K.lookup a = some ⟨oc, dd, .cls cd, sl⟩) (n : PySem.W.nsOkIn K cd.ns = true) (t : PySem.W.nsIn K cd.ns "__init__" = some none) (r : PySem.W.tailIn K bmV bm = true) : PySem.W.tailIn K bmV (.ref a :: bm) = true := by
  unfold PySem.W.tailIn
  simp only [l, n, t, r, beq_self_eq_true, Bool.and_self, Bool.or_true]
theorem xc_mk (l : K.lookup C = some ⟨.type "type", dd, .cls ⟨nm, bs, .ref C :: bm, N, qn, hd, sn, sub, ab, col, false⟩, #[k0, k1, k2, k3, some (.builtin "ValueError.__new__"), k5]⟩) (n : PySem.W.nsOkIn K N = true) (t : PySem.W.nsIn K N "__init__" = some ini)
    (r : PySem.W.tailIn K bmV bm = true) : xcIn K C bm ini = true := by
  unfold xcIn
  simp only [l, n, t, r, beq_self_eq_true, Bool.not_false, Bool.and_self]
theorem kit_self {t : Value} : PySem.W.kitOne K t t = some true := by unfold PySem.W.kitOne; simp
theorem kit_own {t : Value} {b : Bool} (l : K.lookup a = some ⟨oc, dd, .cls cd, sl⟩) (y : PySem.W.typeIn K (.ref a) = some (.type "type")) (s : PySem.W.subIn K t (.ref a) = some b) (ne : b = true ∨ (t == .ref a) = false) : PySem.W.kitOne K t (.ref a) = some b := by
  have c : PySem.W.kitCls K t (.ref a) = some b := by
    unfold PySem.W.kitCls PySem.W.clsIn
    simp only [l, y, Option.isSome_some, beq_self_eq_true, Bool.and_self, if_true, s]
  unfold PySem.W.kitOne
  rw [c]
  rcases ne with rfl | ne
  · split <;> rfl
  · rw [ne]; rfl
theorem kit_val {t : Value} (s : PySem.W.subIn K t (.type "ValueError") = some true) : PySem.W.kitOne K t (.type "ValueError") = some true := by
  have c : PySem.W.kitCls K t (.type "ValueError") = some true := by
    unfold PySem.W.kitCls
    show (if PySem.W.kitMeta "ValueError" = true then _ else _) = _
    rw [if_pos (by decide +kernel), s]
  unfold PySem.W.kitOne
  rw [c]
  split <;> rfl
theorem xcOk_mk (g : PySem.W.findIn K (.ref C) "__getattribute__" = some (some (.builtin "BaseException.__getattribute__"))) (h : PySem.W.findIn K (.ref C) "__getattr__" = some none) (c : PySem.W.findIn K (.ref C) "__class__" = some (some (.builtin "object.__class__")))
    (s : PySem.W.specialIn K (.builtin "object.__class__") "__get__" = some (some (.builtin "getset_descriptor.__get__"))) (t : PySem.W.takesIn K (.builtin "object.__class__") = some true) (m : PySem.W.mroIn K C (.type "object") = some true) (d : PySem.W.hasDictIn K C = true) : xcOk K C = true := by
  unfold xcOk
  simp only [g, h, c, s, t, m, d, beq_self_eq_true, Bool.and_self]
theorem bt_ValueError : bootBuiltins "ValueError" = some (.type "ValueError") := by decide +kernel
end
end L2

set_option Elab.async false
set_option linter.all false
set_option maxRecDepth 100000
set_option maxHeartbeats 1000000
namespace L2
open PySem PySem.Spec PyProof.Rows
/-- a def that catches what is raised within it -/
theorem fnT {P : Program} {w : World} {K : PySem.W.Frag} {mg : Str → Option Value} {base : Heap} {x qual : Str} {st : Stmt} {f : Addr} {fd : FuncData} {N ps : List Str} {k : Nat} (F : Fun K x qual st f fd) (S : FnScope N ps (defScope st)) (M : Md) (sd : SpD)
    (hl : ∀ ds q, sd ds q → ds.length = ps.length) (ho : M.ow.take ps.length = M.mu) (hml : M.mu.length = ps.length)
    (hbody : ∀ (cdv : Value) (A : Around) (outer : List Env) (s : Shared) (H : Hp) (E : XK), Room k (A.deeper (envOfC qual (defScope st) s.heap.objs.size f cdv)) →
      ∃ m, QXs (cxOf CX0 P w K mg base N qual (defScope st) f cdv A outer s H E) M (defBody st) m ∧ ∀ ds q, sd ds q → m (fun _ _ _ _ => False) (endsOf M.mu q) (ds.map some ++ List.replicate (N.length - ps.length) none)) :
    FnOk P w K mg base CX0 (k + 1) f fd ps (spOf M.mu M.fr sd) := by
  refine fnD F S M sd hl ho hml fun cdv A outer s H E hr => ?_
  obtain ⟨m, ⟨t, p, ss⟩, hm⟩ := hbody cdv A outer s H E hr
  refine ⟨m fun _ _ _ _ => False, ⟨t fun _ _ _ _ => False, p (fun _ _ => False) [] (fun _ _ _ _ => False) ⟨PassesOwn.never, ⟨fun _ _ _ _ _ _ _ _ _ z => z.elim⟩⟩, fun C G ρ σ H n D hm hn r h k => ss C G ρ σ H n D _ _ hm hn r h k ⟨fun _ _ _ _ _ _ _ _ z => z.elim⟩⟩, hm⟩
end L2

set_option Elab.async false
set_option linter.all false
set_option maxRecDepth 100000
set_option maxHeartbeats 1000000
namespace L2
open PySem PySem.Spec PyProof.Rows
/-! ### isinstance against a tuple of own classes -/
section
variable {X : Cx}
theorem isXs_data {pins : List (Addr × Obj)} {σ : St} {H : Hp} {s : Shared} {A : Around} {E : Value → Shared → Prop} {Q : Value → Shared → Prop} {d : D} {x : V} {u : Value} {tp : Addr} {dd : Option Addr} {its : List Value} {n : Nat} {sl : Array (Option Value)} {b : Bool}
    (I : Inv X pins σ H s) (hd : Rep H d x) (ru : RelV x u) (hs : d.isS = false) (htp : s.heap.get? tp = some ⟨.type "tuple", dd, .seq its.toArray n, sl⟩) (e : PySem.W.kitAny X.K (.type d.ty) its = some b) (h : ∀ tk, Q (.bool b) { s with toks := tk }) :
    wpAny (model X.prog X.w) A (call (.builtin "isinstance") [u, .ref tp]) Q E s := by
  cases d with
  | non => rw [Rep] at hd; subst hd; cases (show u = Value.none from ru); exact PySem.W.kia_tup PySem.W.kitx_none I.kIn True.intro htp e (fun z => nomatch z) h
  | bl y => rw [Rep] at hd; subst hd; cases (show u = Value.bool y from ru); exact PySem.W.kia_tup PySem.W.kitx_bool I.kIn True.intro htp e (fun z => nomatch z) h
  | int i => rw [Rep] at hd; subst hd; obtain ⟨t, q⟩ := (show ∃ t, u = Value.int i t from ru); cases q; exact PySem.W.kia_tup PySem.W.kitx_int I.kIn True.intro htp e (fun z => nomatch z) h
  | str y => rw [Rep] at hd; subst hd; obtain ⟨t, q⟩ := (show ∃ t, u = Value.str y t from ru); cases q; exact PySem.W.kia_tup PySem.W.kitx_str I.kIn True.intro htp e (fun z => nomatch z) h
  | tup ds =>
    rw [Rep] at hd; obtain ⟨a, xs, rfl, ea, _⟩ := hd
    cases (show u = Value.ref a from ru)
    obtain ⟨_, _, _, o, h1, h2, _⟩ := (show ObjOk X.prog X.w H s.heap a (.tup xs) from I.hok a _ ea)
    exact PySem.W.kia_tup PySem.W.kitx_tuple I.kIn ⟨o, h1, h2⟩ htp e (fun z => nomatch z) h
  | lst ds =>
    rw [Rep] at hd; obtain ⟨a, xs, rfl, ea, _⟩ := hd
    cases (show u = Value.ref a from ru)
    obtain ⟨_, _, n, _, h1⟩ := (show ObjOk X.prog X.w H s.heap a (.lst xs) from I.hok a _ ea)
    exact PySem.W.kia_tup PySem.W.kitx_list I.kIn ⟨_, h1, rfl⟩ htp e (fun z => nomatch z) h
  | dct =>
    rw [Rep] at hd; obtain ⟨a, kvs, rfl, ea⟩ := hd
    cases (show u = Value.ref a from ru)
    obtain ⟨_, _, vs, _, o, es, ep, h1, h2, _⟩ := (show ObjOk X.prog X.w H s.heap a (.dK kvs) from I.hok a _ ea)
    exact PySem.W.kia_tup PySem.W.kitx_dict I.kIn ⟨o, h1, h2.1⟩ htp e (fun z => nomatch z) h
  | scr φ ns => cases hs
  | ext φ => cases hs
noncomputable def IsXs (K : PySem.W.Frag) (cs : List Addr) (d : D) (b : Bool) : Prop := (∃ C ns es bm ini, d = dExc C ns es ∧ xcIn K C bm ini = true ∧ xcOk K C = true ∧ PySem.W.kitAny K (.ref C) (cs.map .ref) = some b) ∨ (d.isS = false ∧ PySem.W.kitAny K (.type d.ty) (cs.map .ref) = some b)
noncomputable def rIsXs (K : PySem.W.Frag) (cs : List Addr) : List V → Hp → VK → Prop := fun xs H Q => ∃ x d b tp, xs = [x, .ref tp] ∧ H tp = some (.tup (cs.map .ref)) ∧ Rep H d x ∧ IsXs K cs d b ∧ Q (.bl b) H
theorem vals_refs : ∀ {cs : List Addr} {us : List Value}, Vals (cs.map V.ref) us → us = cs.map Value.ref
  | [], us, h => by cases h; rfl
  | c :: cs, us, h => by
    cases h with
    | cons r t => cases (show _ = Value.ref c from r); rw [vals_refs t]; rfl
theorem call_isXs {cs : List Addr} : CallR X (.builtin "isinstance") (rIsXs X.K cs) := by
  intro pins s σ H xs us Q I r h
  obtain ⟨x, d, b, tp, rfl, ht, hd, e, q⟩ := h
  obtain ⟨u, w', rfl, ru, rw'⟩ := vals2 r
  cases (show w' = Value.ref tp from rw')
  obtain ⟨_, its, rv, o, h1, h2, n, h3⟩ := (show ObjOk X.prog X.w H s.heap tp (.tup (cs.map .ref)) from I.hok tp _ ht)
  obtain rfl := vals_refs rv
  obtain ⟨oc, od, oda, sl⟩ := o
  cases h2; cases h3
  have fin : ∀ tk, EP X pins σ Q (.bool b) { s with toks := tk } := fun tk => ⟨.bl b, H, I.tok tk, rfl, q⟩
  rcases e with ⟨C, ns, es, bm, ini, rfl, g1, g2, g3⟩ | ⟨hs, e⟩
  · unfold dExc at hd
    rw [Rep] at hd
    obtain ⟨a, H0, rfl, z, dx, h4, h5⟩ := hd
    cases (show u = Value.ref a from ru)
    exact PySem.W.kia_tup (kitx_exc g2 g1) I.kIn (ext_inst I (z _ _ h4) (h5.mono z)) h1 g3 (fun z => nomatch z) fin
  · exact isXs_data I hd ru hs h1 e fin
noncomputable def tClss (cs : List Addr) : TA := fun _ H Q => Q (cs.map .ref) H
theorem pa_cls0 : PA X [] (tClss []) := pa_nil
theorem pa_cls {c : Addr} {cs : List Addr} {y : Str} {p : Pos} {es : List Expr} (hg : Gl X y) (hm : X.mg y = some (.ref c)) (h : PA X es (tClss cs)) (hd : (y == ("__debug__" : Str)) = false := by decide) (hs : starEach (.Name y p :: es) X.env = (false, eval (.Name y p) X.env) :: starEach es X.env := by rfl) :
    PA X (.Name y p :: es) (tClss (c :: cs)) := pa_cons (pe_glob (v := .ref c) hg hm rfl hd) h hs
variable {ow : List Bool} {a : Expr} {ma : ME} {pos : Pos}
noncomputable def mIsXs (K : PySem.W.Frag) (cs : List Addr) (m : ME) : ME := fun ρ q => m ρ fun d ρ' => ∃ b, IsXs K cs d b ∧ q (.bl b) ρ'
theorem qe_isXs {cs : List Addr} {x : Str} {p1 p2 : Pos} {k2} {names : List Expr} (hg : Gl X x) (hm : X.mg x = none) (hv : bootBuiltins x = some (.builtin "isinstance")) (ha : QE X ow a ma) (ht : PA X names (tClss cs)) (hz : cs.length ≤ sizeLine := by simp [sizeLine])
    (hn : x ≠ "__name__" := by decide) (hdb : (x == ("__debug__" : Str)) = false := by decide)
    (hs : starEach [.Tuple names k2 p2] X.env = [(false, eval (.Tuple names k2 p2) X.env)] := by rfl)
    (he : starEach [a, .Tuple names k2 p2] X.env = (false, eval a X.env) :: starEach [.Tuple names k2 p2] X.env := by rfl) (hpl : (backTo pos (starEach [.Tuple names k2 p2] X.env)).any (·.1) = false := by rfl) :
    QE X ow (.Call (.Name x p1) [a, .Tuple names k2 p2] [] pos) (mIsXs X.K cs ma) := by
  obtain ⟨t, p, s⟩ := ha
  refine ⟨_, pe_callB (call_isXs (cs := cs)) hg hm hv (pa_cons p (pa_cons (pe_tup ht) pa_nil hs) he) hn hdb he hpl, fun C G ρ σ H pd q Q r hm k => s C G ρ σ H pd _ _ r hm fun d ρ' v G' H' hq s kp r' p => ?_⟩
  obtain ⟨b, h1, h2⟩ := hq
  refine ⟨by rw [List.length_map]; exact hz, fun tp hp => ?_⟩
  obtain ⟨O, ro⟩ := r'
  obtain ⟨ro2, z2⟩ := ro.new hp (.tup (cs.map .ref))
  refine ⟨v, d, b, tp, rfl, by simp [upd], Rep.mono (fun b o q => ro2.gh b o (z2 b o q)) _ _ p, h1, ?_⟩
  exact k _ ρ' _ _ _ h2 (s.trans z2) kp ⟨O, ro2⟩ (rep_bl _)
end
section
variable {K : PySem.W.Frag} {t c : Value} {cs : List Value} {b : Bool}
theorem kany_nil : PySem.W.kitAny K t [] = some false := rfl
theorem kany_f (h : PySem.W.kitOne K t c = some false) (r : PySem.W.kitAny K t cs = some b) : PySem.W.kitAny K t (c :: cs) = some b := by unfold PySem.W.kitAny; rw [h]; exact r
end
end L2

set_option Elab.async false
set_option linter.all false
set_option maxRecDepth 100000
set_option maxHeartbeats 1000000
namespace L2
open PySem PySem.Spec PyProof.Rows
/-! ### a class of exceptions with an __init__ of its own: C(..) makes the object, then runs __init__ -/
section
variable {prog : Program} {w : World} {A : Around} {E : Value → Shared → Prop} {h : Heap} {g : Array GenState} {d : Drawn} {t : Nat} {os : OsState}
variable {nm q : Str} {C N : Addr} {bs bm : List Value} {hdct : Bool} {sn : List Str} {sub : List Value} {ab : Bool} {col : Option Bool} {dd : Option Addr} {k0 k1 k2 k3 k5 : Option Value}
end
end L2

set_option Elab.async false
set_option linter.all false
set_option maxRecDepth 100000
set_option maxHeartbeats 4000000
set_option exponentiation.threshold 9000
namespace K02
open PySem L2
noncomputable def top (i : Nat) : Stmt := PySem.Challenge.pw_treeasks_k02_fractions_made.main.body.getD i (.Pass ⟨0, 0, 0, 0⟩)
noncomputable abbrev s_is_whole : Stmt := top 16
noncomputable abbrev s_greatest_common : Stmt := top 17
noncomputable abbrev s_fraction : Stmt := top 19
noncomputable abbrev s_l_cell_at : Stmt := top 21
noncomputable abbrev s_l_pool : Stmt := top 22
noncomputable abbrev s_l_take : Stmt := top 23
noncomputable abbrev s_l_divisor : Stmt := top 24
noncomputable abbrev s_l_low : Stmt := top 25
noncomputable abbrev s_l_number : Stmt := top 26
noncomputable abbrev s_l_told : Stmt := top 27
noncomputable abbrev s_l_is : Stmt := top 28
noncomputable abbrev s_law : Stmt := top 29
set_option genInjectivity false in
structure Adr where
  f_is_whole : Addr
  d_is_whole : FuncData
  f_greatest_common : Addr
  d_greatest_common : FuncData
  f_fraction : Addr
  d_fraction : FuncData
  f_l_cell_at : Addr
  d_l_cell_at : FuncData
  f_l_pool : Addr
  d_l_pool : FuncData
  f_l_take : Addr
  d_l_take : FuncData
  f_l_divisor : Addr
  d_l_divisor : FuncData
  f_l_low : Addr
  d_l_low : FuncData
  f_l_number : Addr
  d_l_number : FuncData
  f_l_told : Addr
  d_l_told : FuncData
  f_l_is : Addr
  d_l_is : FuncData
  f_law : Addr
  d_law : FuncData
  c_AskError : Addr
  c_NoAsks : Addr
  c_NoChange : Addr
  c_NoKeep : Addr
  c_NoName : Addr
  c_NoNumber : Addr
  c_NoPlace : Addr
  c_NoPointing : Addr
  c_NoPrices : Addr
  c_NoRow : Addr
  c_NoShare : Addr
  c_NoText : Addr
  c_NoTree : Addr
  c_TooMany : Addr
set_option genInjectivity false in
structure Txt (K : PySem.W.Frag) (mg : Str → Option Value) (A : Adr) : Prop where
  F_is_whole : Fun K "is_whole" "is_whole" s_is_whole A.f_is_whole A.d_is_whole
  b_is_whole : Binds K A.d_is_whole ["thing"] []
  k_is_whole : PySem.W.keepIn K (.ref A.f_is_whole) = true
  m_is_whole : mg "is_whole" = some (.ref A.f_is_whole)
  F_greatest_common : Fun K "greatest_common" "greatest_common" s_greatest_common A.f_greatest_common A.d_greatest_common
  b_greatest_common : Binds K A.d_greatest_common ["number", "bottom"] []
  k_greatest_common : PySem.W.keepIn K (.ref A.f_greatest_common) = true
  m_greatest_common : mg "greatest_common" = some (.ref A.f_greatest_common)
  F_fraction : Fun K "fraction" "fraction" s_fraction A.f_fraction A.d_fraction
  b_fraction : Binds K A.d_fraction ["top", "bottom"] []
  k_fraction : PySem.W.keepIn K (.ref A.f_fraction) = true
  m_fraction : mg "fraction" = some (.ref A.f_fraction)
  F_l_cell_at : Fun K "_law_cell_at" "_law_cell_at" s_l_cell_at A.f_l_cell_at A.d_l_cell_at
  b_l_cell_at : Binds K A.d_l_cell_at ["_law_script", "_law_k"] []
  k_l_cell_at : PySem.W.keepIn K (.ref A.f_l_cell_at) = true
  m_l_cell_at : mg "_law_cell_at" = some (.ref A.f_l_cell_at)
  F_l_pool : Fun K "_law_pool" "_law_pool" s_l_pool A.f_l_pool A.d_l_pool
  b_l_pool : Binds K A.d_l_pool ["_law_script", "_law_k"] []
  k_l_pool : PySem.W.keepIn K (.ref A.f_l_pool) = true
  m_l_pool : mg "_law_pool" = some (.ref A.f_l_pool)
  F_l_take : Fun K "_law_take" "_law_take" s_l_take A.f_l_take A.d_l_take
  b_l_take : Binds K A.d_l_take ["_law_pool_here", "_law_many"] []
  k_l_take : PySem.W.keepIn K (.ref A.f_l_take) = true
  m_l_take : mg "_law_take" = some (.ref A.f_l_take)
  F_l_divisor : Fun K "_law_divisor" "_law_divisor" s_l_divisor A.f_l_divisor A.d_l_divisor
  b_l_divisor : Binds K A.d_l_divisor ["_law_one", "_law_other"] []
  k_l_divisor : PySem.W.keepIn K (.ref A.f_l_divisor) = true
  m_l_divisor : mg "_law_divisor" = some (.ref A.f_l_divisor)
  F_l_low : Fun K "_law_low" "_law_low" s_l_low A.f_l_low A.d_l_low
  b_l_low : Binds K A.d_l_low ["_law_top", "_law_bottom"] []
  k_l_low : PySem.W.keepIn K (.ref A.f_l_low) = true
  m_l_low : mg "_law_low" = some (.ref A.f_l_low)
  F_l_number : Fun K "_law_number" "_law_number" s_l_number A.f_l_number A.d_l_number
  b_l_number : Binds K A.d_l_number ["_law_pool_here"] []
  k_l_number : PySem.W.keepIn K (.ref A.f_l_number) = true
  m_l_number : mg "_law_number" = some (.ref A.f_l_number)
  F_l_told : Fun K "_law_told" "_law_told" s_l_told A.f_l_told A.d_l_told
  b_l_told : Binds K A.d_l_told ["_law_top", "_law_bottom"] []
  k_l_told : PySem.W.keepIn K (.ref A.f_l_told) = true
  m_l_told : mg "_law_told" = some (.ref A.f_l_told)
  F_l_is : Fun K "_law_is" "_law_is" s_l_is A.f_l_is A.d_l_is
  b_l_is : Binds K A.d_l_is ["_law_found", "_law_top", "_law_bottom"] []
  k_l_is : PySem.W.keepIn K (.ref A.f_l_is) = true
  m_l_is : mg "_law_is" = some (.ref A.f_l_is)
  F_law : Fun K "law" "law" s_law A.f_law A.d_law
  b_law : Binds K A.d_law ["_law_script"] []
  k_law : PySem.W.keepIn K (.ref A.f_law) = true
  m_law : mg "law" = some (.ref A.f_law)
  z_ValueError : mg "ValueError" = none
  z_abs : mg "abs" = none
  z_bool : mg "bool" = none
  z_int : mg "int" = none
  z_isinstance : mg "isinstance" = none
  z_len : mg "len" = none
  z_list : mg "list" = none
  z_max : mg "max" = none
  z_min : mg "min" = none
  z_range : mg "range" = none
  z_tuple : mg "tuple" = none
  m_AskError : mg "AskError" = some (.ref A.c_AskError)
  m_NoAsks : mg "NoAsks" = some (.ref A.c_NoAsks)
  m_NoChange : mg "NoChange" = some (.ref A.c_NoChange)
  m_NoKeep : mg "NoKeep" = some (.ref A.c_NoKeep)
  m_NoName : mg "NoName" = some (.ref A.c_NoName)
  m_NoNumber : mg "NoNumber" = some (.ref A.c_NoNumber)
  m_NoPlace : mg "NoPlace" = some (.ref A.c_NoPlace)
  m_NoPointing : mg "NoPointing" = some (.ref A.c_NoPointing)
  m_NoPrices : mg "NoPrices" = some (.ref A.c_NoPrices)
  m_NoRow : mg "NoRow" = some (.ref A.c_NoRow)
  m_NoShare : mg "NoShare" = some (.ref A.c_NoShare)
  m_NoText : mg "NoText" = some (.ref A.c_NoText)
  m_NoTree : mg "NoTree" = some (.ref A.c_NoTree)
  m_TooMany : mg "TooMany" = some (.ref A.c_TooMany)
  x_AskError : xcIn K A.c_AskError bmV none = true
  x_NoNumber : xcIn K A.c_NoNumber ([.ref A.c_AskError] ++ bmV) none = true
  o_NoNumber : xcOk K A.c_NoNumber = true
  v_NoNumber : PySem.W.kitOne K (.ref A.c_NoNumber) (.type "ValueError") = some true
  i_NoNumber_NoAsks : PySem.W.kitOne K (.ref A.c_NoNumber) (.ref A.c_NoAsks) = some false
  i_NoNumber_NoChange : PySem.W.kitOne K (.ref A.c_NoNumber) (.ref A.c_NoChange) = some false
  i_NoNumber_NoKeep : PySem.W.kitOne K (.ref A.c_NoNumber) (.ref A.c_NoKeep) = some false
  i_NoNumber_NoName : PySem.W.kitOne K (.ref A.c_NoNumber) (.ref A.c_NoName) = some false
  i_NoNumber_NoPlace : PySem.W.kitOne K (.ref A.c_NoNumber) (.ref A.c_NoPlace) = some false
  i_NoNumber_NoPointing : PySem.W.kitOne K (.ref A.c_NoNumber) (.ref A.c_NoPointing) = some false
  i_NoNumber_NoPrices : PySem.W.kitOne K (.ref A.c_NoNumber) (.ref A.c_NoPrices) = some false
  i_NoNumber_NoRow : PySem.W.kitOne K (.ref A.c_NoNumber) (.ref A.c_NoRow) = some false
  i_NoNumber_NoShare : PySem.W.kitOne K (.ref A.c_NoNumber) (.ref A.c_NoShare) = some false
  i_NoNumber_NoText : PySem.W.kitOne K (.ref A.c_NoNumber) (.ref A.c_NoText) = some false
  i_NoNumber_NoTree : PySem.W.kitOne K (.ref A.c_NoNumber) (.ref A.c_NoTree) = some false
  i_NoNumber_TooMany : PySem.W.kitOne K (.ref A.c_NoNumber) (.ref A.c_TooMany) = some false
theorem sc_is_whole : FnScope ["thing"] ["thing"] (defScope s_is_whole) := ⟨rfl, rfl, rfl, by decide +kernel, rfl, by decide +kernel, by decide +kernel⟩
theorem sc_greatest_common : FnScope ["number", "bottom"] ["number", "bottom"] (defScope s_greatest_common) := ⟨rfl, rfl, rfl, by decide +kernel, rfl, by decide +kernel, by decide +kernel⟩
theorem sc_fraction : FnScope ["top", "bottom", "common"] ["top", "bottom"] (defScope s_fraction) := ⟨rfl, rfl, rfl, by decide +kernel, rfl, by decide +kernel, by decide +kernel⟩
theorem sc_l_cell_at : FnScope ["_law_script", "_law_k"] ["_law_script", "_law_k"] (defScope s_l_cell_at) := ⟨rfl, rfl, rfl, by decide +kernel, rfl, by decide +kernel, by decide +kernel⟩
theorem sc_l_pool : FnScope ["_law_script", "_law_k", "_law_cell", "_law_mixed"] ["_law_script", "_law_k"] (defScope s_l_pool) := ⟨rfl, rfl, rfl, by decide +kernel, rfl, by decide +kernel, by decide +kernel⟩
theorem sc_l_take : FnScope ["_law_pool_here", "_law_many", "_law_found", "_law_made", "_law_turn"] ["_law_pool_here", "_law_many"] (defScope s_l_take) := ⟨rfl, rfl, rfl, by decide +kernel, rfl, by decide +kernel, by decide +kernel⟩
theorem sc_l_divisor : FnScope ["_law_one", "_law_other"] ["_law_one", "_law_other"] (defScope s_l_divisor) := ⟨rfl, rfl, rfl, by decide +kernel, rfl, by decide +kernel, by decide +kernel⟩
theorem sc_l_low : FnScope ["_law_top", "_law_bottom", "_law_share"] ["_law_top", "_law_bottom"] (defScope s_l_low) := ⟨rfl, rfl, rfl, by decide +kernel, rfl, by decide +kernel, by decide +kernel⟩
theorem sc_l_number : FnScope ["_law_pool_here", "_law_size"] ["_law_pool_here"] (defScope s_l_number) := ⟨rfl, rfl, rfl, by decide +kernel, rfl, by decide +kernel, by decide +kernel⟩
theorem sc_l_told : FnScope ["_law_top", "_law_bottom", "_law_found", "_law_error", "e"] ["_law_top", "_law_bottom"] (defScope s_l_told) := ⟨rfl, rfl, rfl, by decide +kernel, rfl, by decide +kernel, by decide +kernel⟩
theorem sc_l_is : FnScope ["_law_found", "_law_top", "_law_bottom", "_law_part"] ["_law_found", "_law_top", "_law_bottom"] (defScope s_l_is) := ⟨rfl, rfl, rfl, by decide +kernel, rfl, by decide +kernel, by decide +kernel⟩
theorem sc_law : FnScope ["_law_script", "_law_k", "_law_pool_here", "_law_share", "_law_top", "_law_bottom", "_law_found", "_law_some", "_law_odd"] ["_law_script"] (defScope s_law) := ⟨rfl, rfl, rfl, by decide +kernel, rfl, by decide +kernel, by decide +kernel⟩
section
variable {P : Program} {w : World} {K : PySem.W.Frag} {mg : Str → Option Value} {base : Heap} {A : Adr}
set_option maxHeartbeats 4000000 in
theorem ok_is_whole (T : Txt K mg A) : FnOk P w K mg base CX0 1 A.f_is_whole A.d_is_whole ["thing"] (spOf [false] false (sdWhole)) := by
  have S := sc_is_whole
  refine fnD T.F_is_whole S ⟨[false], [false], false⟩ _ ?hl rfl rfl fun cdv Ar outer s H E hr => ⟨_, (qss_one (qs_ret (qe_and (qe_isT rfl T.z_isinstance bt_isinstance (qe_var 0) (pe_bltn (v := .ty "int") rfl T.z_int bt_int rfl)) (qe_one (qe_not (qe_isT rfl T.z_isinstance bt_isinstance (qe_var 0) (pe_bltn (v := .ty "bool") rfl T.z_bool bt_bool rfl))))))), fun ds q h => ?_⟩
  case hl => intro ds q h; obtain ⟨d, rfl, _⟩ := h; rfl
  obtain ⟨d, rfl, hs, q0⟩ := h
  cases d <;> first | exact q0 | cases hs
set_option maxHeartbeats 4000000 in
theorem ok_greatest_common (T : Txt K mg A) : FnOk P w K mg base CX0 1 A.f_greatest_common A.d_greatest_common ["number", "bottom"] (spOf [false, false] false (sdGcd)) := by
  have S := sc_greatest_common
  refine fnD T.F_greatest_common S ⟨[false, false], [false, false], false⟩ _ ?hl rfl rfl fun cdv Ar outer s H E hr => ⟨_, (qss_cons (qs_while PassesOwn.never (qt_cmp (op_neD hr.units) dNe (qe_var 1) qe_int (nomark _)) (qss_one (qs_par (i := 0) (j := 1) rfl S.nd rfl rfl (by decide) rfl rfl (qe_var 1) (qe_op op_mod dIC (qe_var 0) (qe_var 1)) rfl)))
      (qss_one (qs_ret (qe_var 0)))), fun ds q h => ?_⟩
  case hl => intro ds q h; obtain ⟨n, b, rfl, _⟩ := h; rfl
  obtain ⟨n, b, rfl, hb, q0⟩ := h
  refine ⟨fun k ρ => ∃ n' b' : Int, ρ = [some (.int n'), some (.int b')] ∧ 0 ≤ b' ∧ b'.toNat = k ∧ gcdP n' b' = gcdP n b, ⟨_, n, b, rfl, hb, rfl, rfl⟩, ?_⟩
  rintro k ρ ⟨n', b', rfl, hb', hk, hg⟩
  refine (ite2 (c := (!decide (b' = 0)) = true) (fun c => ?_) (fun c => ?_))
  · have c' : b' ≠ 0 := by simpa using c
    have hp : 0 < b' := by omega
    refine ⟨hp, ?_⟩
    have := Int.emod_lt_of_pos n' hp
    have := Int.emod_nonneg n' (show b' ≠ 0 by omega)
    exact ⟨_, by omega, b', n' % b', rfl, by omega, rfl, by rw [gcdP_step hp]; exact hg⟩
  · have c' : b' = 0 := by simpa using c
    subst c'
    have e : gcdP n b = n' := by rw [← hg]; unfold gcdP; rw [if_pos rfl]
    rw [e] at q0; exact q0
set_option maxHeartbeats 4000000 in
theorem ok_fraction (T : Txt K mg A) : FnOk P w K mg base CX0 2 A.f_fraction A.d_fraction ["top", "bottom"] (spOf [false, false] false (sdFrac)) := by
  have G_greatest_common := ok_greatest_common (P := P) (w := w) (base := base) T
  have G_is_whole := ok_is_whole (P := P) (w := w) (base := base) T
  have S := sc_fraction
  refine fnD T.F_fraction S ⟨[false, false], [false, false, false], false⟩ _ ?hl rfl rfl fun cdv Ar outer s H E hr => ⟨_, (qss_cons (qs_if (QW.qt (qw_or (qt_not (qt_val (qe_call (G_is_whole) (hr.mono (by decide)) rfl T.m_is_whole T.k_is_whole T.b_is_whole (qk_s (qe_var 0) qk_nil)))) (qw_or1 (qt_not (qt_val (qe_call (G_is_whole) (hr.mono (by decide)) rfl T.m_is_whole T.k_is_whole T.b_is_whole (qk_s (qe_var 1) qk_nil))))))) (qss_one qs_never) qss_nil)
      (qss_cons (qs_if (qt_cmp (op_eqD hr.units) dEq (qe_var 1) qe_int (nomark _)) (qss_one qs_never) qss_nil)
      (qss_cons (qs_cut (qs_if (qt_cmp op_lt dB (qe_var 1) qe_int (nomark _)) (qss_one (qs_par (i := 0) (j := 1) rfl S.nd rfl rfl (by decide) rfl rfl (qe_neg (qe_var 0)) (qe_neg (qe_var 1)) rfl)) qss_nil))
      (qss_cons (qs_set (i := 2) S.nd rfl (Or.inl rfl) (qe_call (G_greatest_common) (hr.mono (by decide)) rfl T.m_greatest_common T.k_greatest_common T.b_greatest_common (qk_s (qe_var 0) (qk_s (qe_var 1) qk_nil))))
      (qss_one (qs_ret (qe_tup (qa_cons (qe_op op_fdivB dIC (qe_var 0) (qe_var 2)) (qa_cons (qe_op op_fdivB dIC (qe_var 1) (qe_var 2)) qa_nil))))))))), fun ds q h => ?_⟩
  case hl => intro ds q h; obtain ⟨t, b, rfl, _⟩ := h; rfl
  obtain ⟨t, b, rfl, hb, hs, q0⟩ := h
  refine ⟨.int t, rfl, rfl, ?_⟩
  refine ⟨.int b, rfl, rfl, ?_⟩
  refine (ite2 (c := decide (b = 0) = true) (fun c => absurd (of_decide_eq_true c) hb) (fun _ => ?_))
  refine ⟨fun ρ => ∃ t' b' : Int, ρ = [some (.int t'), some (.int b'), none] ∧ 0 < b' ∧ Sm b' ∧ Rat.divInt t' b' = Rat.divInt t b, ?_, ?_⟩
  · refine (ite2 (c := decide (b < 0) = true) (fun c => ?_) (fun c => ?_))
    · have c' : b < 0 := by simpa using c
      exact ⟨-t, -b, rfl, by omega, by show (-b).natAbs < _; rw [Int.natAbs_neg]; exact hs, Rat.neg_divInt_neg t b⟩
    · have c' : ¬ b < 0 := by simpa using c
      exact ⟨t, b, rfl, by omega, hs, rfl⟩
  · rintro ρ ⟨t', b', rfl, hp, hs', he⟩
    refine ⟨t', b', rfl, Int.le_of_lt hp, ?_⟩
    have g := gcdP_pos (n := t') hp
    have gl := gcdP_le (n := t') hp
    have gs : Sm (gcdP t' b') := by show (gcdP t' b').natAbs < _; exact Nat.lt_of_le_of_lt (by omega) hs'
    refine ⟨⟨g, gs⟩, ⟨g, gs⟩, ?_⟩
    rw [quo_num hp, quo_den hp, he]
    exact q0
noncomputable def isI : D → Bool
  | .int _ => true
  | _ => false
noncomputable def Bad (d e : D) : Prop := d.isS = false ∧ e.isS = false ∧ (isI d = false ∨ isI e = false ∨ e = .int 0)
noncomputable def sdFracX (c : Addr) : SpX := fun ds q qx => (∃ t b, ds = [.int t, .int b] ∧ b ≠ 0 ∧ Sm b ∧ q (dQ (Rat.divInt t b)) []) ∨ ∃ d e, ds = [d, e] ∧ Bad d e ∧ qx c [] [] []
noncomputable def sdTold : SpD := fun ds q => (∃ t b, ds = [.int t, .int b] ∧ b ≠ 0 ∧ Sm b ∧ q (dQ (Rat.divInt t b)) []) ∨ ∃ d e, ds = [d, e] ∧ Bad d e ∧ q (.str "none") []
set_option maxHeartbeats 4000000 in
theorem okx_fraction (T : Txt K mg A) : FnOk P w K mg base (CX1 P w) 2 A.f_fraction A.d_fraction ["top", "bottom"] (spOfX [false, false] false ((sdFracX A.c_NoNumber))) := by
  have G_greatest_common := ok_greatest_common (P := P) (w := w) (base := base) T
  have G_is_whole := ok_is_whole (P := P) (w := w) (base := base) T
  have S := sc_fraction
  refine fnX T.F_fraction S ⟨[false, false], [false, false, false], false⟩ _ ?hl rfl rfl fun cdv Ar outer s H E hr => ⟨_, (qxs_cons (qx_if (QW.qt (qw_or (qt_not (qt_val (qe_call (G_is_whole) (hr.mono (by decide)) rfl T.m_is_whole T.k_is_whole T.b_is_whole (qk_s (qe_var 0) qk_nil)))) (qw_or1 (qt_not (qt_val (qe_call (G_is_whole) (hr.mono (by decide)) rfl T.m_is_whole T.k_is_whole T.b_is_whole (qk_s (qe_var 1) qk_nil))))))) (qxs_one (qx_raise0 T.x_NoNumber rfl T.m_NoNumber (qa_cons qe_str qa_nil))) qxs_nil)
      (qxs_cons (qx_if (qt_cmp (op_eqD hr.units) dEq (qe_var 1) qe_int (nomark _)) (qxs_one (qx_raise0 T.x_NoNumber rfl T.m_NoNumber (qa_cons qe_str qa_nil))) qxs_nil)
      (qxs_cons (qx_of (qs_cut (qs_if (qt_cmp op_lt dB (qe_var 1) qe_int (nomark _)) (qss_one (qs_par (i := 0) (j := 1) rfl S.nd rfl rfl (by decide) rfl rfl (qe_neg (qe_var 0)) (qe_neg (qe_var 1)) rfl)) qss_nil)))
      (qxs_cons (qx_of (qs_set (i := 2) S.nd rfl (Or.inl rfl) (qe_call (G_greatest_common) (hr.mono (by decide)) rfl T.m_greatest_common T.k_greatest_common T.b_greatest_common (qk_s (qe_var 0) (qk_s (qe_var 1) qk_nil)))))
      (qxs_one (qx_of (qs_ret (qe_tup (qa_cons (qe_op op_fdivB dIC (qe_var 0) (qe_var 2)) (qa_cons (qe_op op_fdivB dIC (qe_var 1) (qe_var 2)) qa_nil)))))))))), fun ds q qx h => ?_⟩
  case hl => intro ds q qx h; rcases h with ⟨t, b, rfl, _⟩ | ⟨d, e, rfl, _⟩ <;> rfl
  rcases h with ⟨t, b, rfl, hb, hs, q0⟩ | ⟨d, e, rfl, ⟨hd, he, hx⟩, q0⟩
  · refine ⟨.int t, rfl, rfl, ?_⟩
    refine ⟨.int b, rfl, rfl, ?_⟩
    refine (ite2 (c := decide (b = 0) = true) (fun c => absurd (of_decide_eq_true c) hb) (fun _ => ?_))
    refine ⟨fun ρ => ∃ t' b' : Int, ρ = [some (.int t'), some (.int b'), none] ∧ 0 < b' ∧ Sm b' ∧ Rat.divInt t' b' = Rat.divInt t b, ?_, ?_⟩
    · refine (ite2 (c := decide (b < 0) = true) (fun c => ?_) (fun c => ?_))
      · have c' : b < 0 := by simpa using c
        exact ⟨-t, -b, rfl, by omega, by show (-b).natAbs < _; rw [Int.natAbs_neg]; exact hs, Rat.neg_divInt_neg t b⟩
      · have c' : ¬ b < 0 := by simpa using c
        exact ⟨t, b, rfl, by omega, hs, rfl⟩
    · rintro ρ ⟨t', b', rfl, hp, hs', he⟩
      refine ⟨t', b', rfl, Int.le_of_lt hp, ?_⟩
      have g := gcdP_pos (n := t') hp
      have gl := gcdP_le (n := t') hp
      have gs : Sm (gcdP t' b') := by show (gcdP t' b').natAbs < _; exact Nat.lt_of_le_of_lt (by omega) hs'
      refine ⟨⟨g, gs⟩, ⟨g, gs⟩, ?_⟩
      rw [quo_num hp, quo_den hp, he]
      exact q0
  · refine ⟨d, rfl, hd, ?_⟩
    cases d with
    | int t =>
      refine ⟨e, rfl, he, ?_⟩
      cases e with
      | int b =>
        have : b = 0 := by rcases hx with hx | hx | hx <;> first | cases hx; done | (cases hx; rfl)
        subst this
        exact q0
      | scr _ _ => cases he
      | ext _ => cases he
      | _ => exact q0
    | scr _ _ => cases hd
    | ext _ => cases hd
    | _ => exact q0
set_option maxHeartbeats 4000000 in
theorem ok_l_told (T : Txt K mg A) : FnOk P w K mg base CX0 3 A.f_l_told A.d_l_told ["_law_top", "_law_bottom"] (spOf [false, false] false (sdTold)) := by
  have GX_fraction := okx_fraction (P := P) (w := w) (base := base) T
  have S := sc_l_told
  refine fnT T.F_l_told S ⟨[false, false], [false, false, false, false, false], false⟩ _ ?hl rfl rfl fun cdv Ar outer s H E hr => ⟨_, (qxs_cons (qx_of (qs_set (i := 2) S.nd rfl (Or.inl rfl) qe_non))
      (qxs_cons (qx_of (qs_set (i := 3) S.nd rfl (Or.inl rfl) qe_non))
      (qxs_cons (qx_try (i := 4) S.nd rfl rfl rfl T.m_AskError T.x_AskError (qxs_one (qx_set (i := 2) S.nd rfl (Or.inl rfl) (qxe_call (GX_fraction) (hr.mono (by decide)) rfl T.m_fraction T.k_fraction T.b_fraction (qk_s (qe_var 0) (qk_s (qe_var 1) qk_nil))))) (fun _ => (qss_one (qs_set (i := 3) S.nd rfl (Or.inl rfl) (qe_var 4)))))
      (qxs_cons (qx_of (qs_cut (qs_if (qt_cmp op_isN dIsN (qe_var 3) qe_non (nomark _)) (qss_one (qs_ret (qe_var 2))) qss_nil)))
      (qxs_cons (qx_of (qs_cut (qs_if (QW.qt (qw_or (qt_not (qt_val (qe_isX relTy rfl T.z_isinstance bt_isinstance (qe_var 3) (pe_bltn (v := .ty "ValueError") rfl T.z_ValueError bt_ValueError rfl)))) (qw_or1 (qt_val (qe_isXs (cs := [A.c_NoAsks, A.c_NoKeep, A.c_NoPlace]) rfl T.z_isinstance bt_isinstance (qe_var 3) (pa_cls rfl T.m_NoAsks (pa_cls rfl T.m_NoKeep (pa_cls rfl T.m_NoPlace pa_cls0)))))))) (qss_one (qs_ret qe_str)) qss_nil)))
      (qxs_cons (qx_of (qs_cut (qs_if (qt_val (qe_isXs (cs := [A.c_NoPrices, A.c_NoTree, A.c_NoChange, A.c_NoName, A.c_NoPointing]) rfl T.z_isinstance bt_isinstance (qe_var 3) (pa_cls rfl T.m_NoPrices (pa_cls rfl T.m_NoTree (pa_cls rfl T.m_NoChange (pa_cls rfl T.m_NoName (pa_cls rfl T.m_NoPointing pa_cls0))))))) (qss_one (qs_ret qe_str)) qss_nil)))
      (qxs_cons (qx_of (qs_cut (qs_if (qt_val (qe_isXs (cs := [A.c_NoRow, A.c_NoShare, A.c_NoText, A.c_TooMany]) rfl T.z_isinstance bt_isinstance (qe_var 3) (pa_cls rfl T.m_NoRow (pa_cls rfl T.m_NoShare (pa_cls rfl T.m_NoText (pa_cls rfl T.m_TooMany pa_cls0)))))) (qss_one (qs_ret qe_str)) qss_nil)))
      (qxs_one (qx_of (qs_ret (qe_ix ix_seq dIx (qe_lst (qa_cons qe_str (qa_cons qe_str qa_nil))) (qe_callTy call_int1 dInt1 rfl T.z_int bt_int (qa_cons (qe_isX relRef rfl T.z_isinstance bt_isinstance (qe_var 3) (pe_glob (v := .ref A.c_NoNumber) rfl T.m_NoNumber rfl)) qa_nil)) (fun _ _ => rfl)))))))))))), fun ds q h => ?_⟩
  case hl => intro ds q h; rcases h with ⟨t, b, rfl, _⟩ | ⟨d, e, rfl, _⟩ <;> rfl
  rcases h with ⟨t, b, rfl, hb, hs, q0⟩ | ⟨d, e, rfl, hx, q0⟩
  · refine .inl ⟨t, b, rfl, hb, hs, ?_⟩
    exact ⟨fun _ => False, q0, fun _ h => h.elim⟩
  · refine .inr ⟨d, e, rfl, hx, ⟨A.c_NoNumber, _, _, rfl, T.x_NoNumber, by simp⟩, fun _ => ?_⟩
    refine ⟨fun ρ => ρ = [some d, some e, some .non, some (dExc A.c_NoNumber [] []), none], rfl, ?_⟩
    rintro ρ rfl
    have is1 : ∀ (c : Value) (b : Bool), PySem.W.kitOne K (.ref A.c_NoNumber) c = some b → IsX K c (dExc A.c_NoNumber [] []) b := fun c b h => .inl ⟨_, _, _, _, _, rfl, T.x_NoNumber, T.o_NoNumber, h⟩
    have is2 : ∀ (cs : List Addr) (b : Bool), PySem.W.kitAny K (.ref A.c_NoNumber) (cs.map .ref) = some b → IsXs K cs (dExc A.c_NoNumber [] []) b := fun c b h => .inl ⟨_, _, _, _, _, rfl, T.x_NoNumber, T.o_NoNumber, h⟩
    refine ⟨fun ρ => ρ = [some d, some e, some .non, some (dExc A.c_NoNumber [] []), none], ?_, ?_⟩
    · refine ⟨true, is1 _ _ T.v_NoNumber, ?_⟩
      refine ⟨false, is2 _ _ (kany_f T.i_NoNumber_NoAsks (kany_f T.i_NoNumber_NoKeep (kany_f T.i_NoNumber_NoPlace kany_nil))), ?_⟩
      rfl
    rintro ρ rfl
    refine ⟨fun ρ => ρ = [some d, some e, some .non, some (dExc A.c_NoNumber [] []), none], ?_, ?_⟩
    · refine ⟨false, is2 _ _ (kany_f T.i_NoNumber_NoPrices (kany_f T.i_NoNumber_NoTree (kany_f T.i_NoNumber_NoChange (kany_f T.i_NoNumber_NoName (kany_f T.i_NoNumber_NoPointing kany_nil))))), ?_⟩
      rfl
    rintro ρ rfl
    refine ⟨fun ρ => ρ = [some d, some e, some .non, some (dExc A.c_NoNumber [] []), none], ?_, ?_⟩
    · refine ⟨false, is2 _ _ (kany_f T.i_NoNumber_NoRow (kany_f T.i_NoNumber_NoShare (kany_f T.i_NoNumber_NoText (kany_f T.i_NoNumber_TooMany kany_nil)))), ?_⟩
      rfl
    rintro ρ rfl
    refine ⟨true, is1 _ _ kit_self, ?_⟩
    exact q0
end
end K02


set_option Elab.async false
set_option linter.all false
set_option maxRecDepth 100000
set_option maxHeartbeats 4000000
set_option exponentiation.threshold 9000
namespace K02
open PySem L2
section
variable {P : Program} {w : World} {K : PySem.W.Frag} {mg : Str → Option Value} {base : Heap} {A : Adr}
set_option maxHeartbeats 4000000 in
theorem ok_l_cell_at (T : Txt K mg A) : FnOk P w K mg base CX0 1 A.f_l_cell_at A.d_l_cell_at ["_law_script", "_law_k"] (spOf [false, false] false (sdCell K)) := by
  have S := sc_l_cell_at
  refine fnD T.F_l_cell_at S ⟨[false, false], [false, false], false⟩ _ ?hl rfl rfl fun cdv Ar outer s H E hr => ⟨_, (qss_cons (qs_if (qt_cmp op_lt dB (qe_var 1) (qe_callB call_len_seq dLen rfl T.z_len bt_len (qa_cons (qe_var 0) qa_nil)) (nomark _)) (qss_one (qs_ret (qe_ix ix_seq dIx (qe_var 0) (qe_var 1) (fun _ _ => rfl)))) qss_nil)
      (qss_one (qs_ret qe_int))), fun ds q h => ?_⟩
  case hl => intro ds q h; obtain ⟨φ, ns, k, rfl, _⟩ := h; rfl
  obtain ⟨φ, ns, k, rfl, hφ, h0, q0⟩ := h
  refine ⟨hφ, ?_⟩
  refine (ite2 (c := decide (k < (ns.length : Int)) = true) (fun c => ?_) (fun c => ?_))
  · have c' : k < ns.length := by simpa using c
    refine ⟨hφ, ?_⟩
    show (match atI ns k with | some n => q (.int n) [] | none => False)
    rw [atI_ns h0 c']; exact q0
  · have c' : ns.length ≤ k.toNat := by simp at c; omega
    have e : cellZ ns k = 0 := by unfold cellZ; rw [List.getD_eq_getElem?_getD, List.getElem?_eq_none c']; rfl
    rw [e] at q0; exact q0
set_option maxHeartbeats 4000000 in
theorem ok_l_pool (T : Txt K mg A) : FnOk P w K mg base CX0 2 A.f_l_pool A.d_l_pool ["_law_script", "_law_k"] (spOf [false, false] true (sdPool K)) := by
  have G_l_cell_at := ok_l_cell_at (P := P) (w := w) (base := base) T
  have S := sc_l_pool
  refine fnD T.F_l_pool S ⟨[false, false], [false, false, false, false], true⟩ _ ?hl rfl rfl fun cdv Ar outer s H E hr => ⟨_, (qss_cons (qs_set (i := 2) S.nd rfl (Or.inl rfl) (qe_call (G_l_cell_at) (hr.mono (by decide)) rfl T.m_l_cell_at T.k_l_cell_at T.b_l_cell_at (qk_s (qe_var 0) (qk_s (qe_var 1) qk_nil))))
      (qss_cons (qs_set (i := 3) S.nd rfl (Or.inl rfl) (qe_op op_add dI (qe_op op_add dI (qe_op op_add dI (qe_op op_mul dIC (qe_op op_mod dIC (qe_var 2) qe_int) qe_int) (qe_op op_mul dIC (qe_op op_mul dIC qe_int (qe_var 1)) (qe_var 1))) (qe_op op_mul dIC qe_int (qe_var 1))) qe_int))
      (qss_cons (qs_if (qt_cmp op_lt dB (qe_var 2) (qe_op op_pow dIC qe_int qe_int) (nomark _)) (qss_one (qs_set (i := 2) S.nd rfl (Or.inl rfl) qe_int)) qss_nil)
      (qss_one (qs_retM (QF.qm (qf_lst (qa_cons (qe_var 2) (qa_cons (qe_op op_mod dIC (qe_var 3) qe_int) qa_nil))))))))), fun ds q h => ?_⟩
  case hl => intro ds q h; obtain ⟨φ, ns, k, rfl, _⟩ := h; rfl
  obtain ⟨φ, ns, k, rfl, hφ, h0, h1, q0⟩ := h
  refine ⟨φ, ns, k, rfl, hφ, h0, ?_⟩
  generalize cellZ ns k = z
  refine ⟨(show (0 : Int) < 2147483629 by decide), Or.inr ⟨by decide, by decide⟩, Or.inl ⟨by decide, by decide⟩, Or.inr ⟨by omega, by omega⟩, Or.inl ⟨by decide, by decide⟩, ?_⟩
  refine ⟨⟨by decide, by decide, by decide⟩, ?_⟩
  refine (ite2 (c := decide (z < 10 ^ 18) = true) (fun c => ?_) (fun c => ?_))
  · exact ⟨(show (0 : Int) < 2147483647 by decide), rfl, q0 _ _ (Int.le_refl 0)⟩
  · have c' : (10 : Int) ^ 18 ≤ z := by simpa using c
    exact ⟨(show (0 : Int) < 2147483647 by decide), rfl, q0 _ _ (by omega)⟩
set_option maxHeartbeats 4000000 in
theorem ok_l_take (T : Txt K mg A) : FnOk P w K mg base CX0 1 A.f_l_take A.d_l_take ["_law_pool_here", "_law_many"] (spOf [true, false] false (sdTake)) := by
  have S := sc_l_take
  refine fnD T.F_l_take S ⟨[true, false], [true, false, false, false, false], false⟩ _ ?hl rfl rfl fun cdv Ar outer s H E hr => ⟨_, (qss_cons (qs_if (QT.bor [0] (qt_cmp op_gt dB (qe_ix ix_seq dIx (qe_var 0) qe_int (fun _ _ => rfl)) qe_int (nomark _))) (qss_cons (qs_set (i := 2) S.nd rfl (Or.inl rfl) (QE.bor [0] (qe_op op_mod dIC (qe_ix ix_seq dIx (qe_var 0) qe_int (fun _ _ => rfl)) (qe_var 1))))
      (qss_cons (qs_setI (i := 0) rfl (QF.bor [0] (QE.qf (qe_op op_fdivB dIC (qe_ix ix_seq dIx (qe_var 0) qe_int (fun _ _ => rfl)) (qe_var 1)))) qe_int)
      (qss_one (qs_ret (qe_var 2))))) qss_nil)
      (qss_cons (qs_set (i := 3) S.nd rfl (Or.inl rfl) qe_int)
      (qss_cons (qs_for PassesOwn.never rfl (qi_range1 rfl T.z_range (qa_cons (qe_op op_add dI qe_int (qe_op op_mul dIC qe_int (qe_callTy call_int1 dInt1 rfl T.z_int bt_int (qa_cons (qe_cmp op_gt dB (qe_var 1) (qe_op op_pow dIC qe_int qe_int) (nomark _)) qa_nil)))) qa_nil)) (qg_name (i := 4) S.nd rfl (Or.inl rfl)) (qss_cons (qs_setI (i := 0) rfl (QF.bor [0] (QE.qf (qe_op op_mod dIC (qe_op op_add dI (qe_op op_mul dIC (qe_ix ix_seq dIx (qe_var 0) qe_int (fun _ _ => rfl)) qe_int) qe_int) qe_int))) qe_int)
      (qss_one (qs_set (i := 3) S.nd rfl (Or.inl rfl) (QE.bor [0] (qe_op op_add dI (qe_op op_mul dIC (qe_var 3) qe_int) (qe_op op_mod dIC (qe_op op_mul dIC (qe_ix ix_seq dIx (qe_var 0) qe_int (fun _ _ => rfl)) qe_int) qe_int)))))))
      (qss_one (qs_ret (qe_op op_mod dIC (qe_op op_fdiv dIC (qe_var 3) qe_int) (qe_var 1))))))), fun ds q h => ?_⟩
  case hl => intro ds q h; obtain ⟨c, m, many, rfl, _⟩ := h; rfl
  obtain ⟨c, m, many, rfl, h0, hm, hs, q0⟩ := h
  refine (ite2 (c := decide (0 < c) = true) (fun c1 => ?_) (fun c1 => ?_))
  · refine ⟨hm, rfl, ?_⟩
    refine ⟨⟨hm, hs⟩, rfl, ?_⟩
    exact q0 _ (c / many) m (Int.emod_nonneg _ (Int.ne_of_gt hm)) (Int.emod_lt_of_pos _ hm) (Int.ediv_nonneg h0 (Int.le_of_lt hm))
  · refine ⟨⟨by decide, by decide, by decide⟩, Or.inl ⟨by decide, by decide⟩, ⟨by split <;> decide, by split <;> decide⟩, ?_⟩
    refine ⟨fun i ρ => ∃ (v : Option D) (m' made : Int), ρ = [some (dInts [c, m']), some (.int many), none, some (.int made), v], ⟨_, m, 0, rfl⟩, ?_, ?_⟩
    · rintro i d ρ hd ⟨v, m', made, rfl⟩
      obtain ⟨_, rfl⟩ := rngD_at hd
      refine ⟨Or.inr ⟨by decide, by decide⟩, (show (0 : Int) < 2147483587 by decide), rfl, ?_⟩
      refine ⟨Or.inr ⟨by decide, by decide⟩, ⟨Or.inr ⟨by decide, by decide⟩, (show (0 : Int) < 2147483629 by decide), ?_⟩⟩
      exact ⟨rfl, _, _, _, rfl⟩
    · rintro ρ ⟨v, m', made, rfl⟩
      refine ⟨⟨by decide, by decide⟩, hm, ?_⟩
      exact q0 _ c m' (Int.emod_nonneg _ (Int.ne_of_gt hm)) (Int.emod_lt_of_pos _ hm) h0
noncomputable def sdDivi : SpD := fun ds q => ∃ n b, ds = [.int n, .int b] ∧ 0 < b ∧ q (.int (gcdP n b)) []
noncomputable def sdLow : SpD := fun ds q => ∃ t b, ds = [.int t, .int b] ∧ 0 < b ∧ Sm b ∧ q (dQ (Rat.divInt t b)) []
set_option maxHeartbeats 4000000 in
theorem ok_l_divisor (T : Txt K mg A) : FnOk P w K mg base CX0 1 A.f_l_divisor A.d_l_divisor ["_law_one", "_law_other"] (spOf [false, false] false (sdDivi)) := by
  have S := sc_l_divisor
  refine fnD T.F_l_divisor S ⟨[false, false], [false, false], false⟩ _ ?hl rfl rfl fun cdv Ar outer s H E hr => ⟨_, (qss_cons (qs_while PassesOwn.never (qt_cmp (op_neD hr.units) dNe (qe_var 1) qe_int (nomark _)) (qss_one (qs_par (i := 0) (j := 1) rfl S.nd rfl rfl (by decide) rfl rfl (qe_var 1) (qe_op op_mod dIC (qe_var 0) (qe_var 1)) rfl)))
      (qss_one (qs_ret (qe_callB call_abs dAbs rfl T.z_abs bt_abs (qa_cons (qe_var 0) qa_nil))))), fun ds q h => ?_⟩
  case hl => intro ds q h; obtain ⟨n, b, rfl, _⟩ := h; rfl
  obtain ⟨n, b, rfl, hb, q0⟩ := h
  refine ⟨fun k ρ => ∃ n' b' : Int, ρ = [some (.int n'), some (.int b')] ∧ 0 ≤ b' ∧ b'.toNat = k ∧ gcdP n' b' = gcdP n b, ⟨_, n, b, rfl, Int.le_of_lt hb, rfl, rfl⟩, ?_⟩
  rintro k ρ ⟨n', b', rfl, hb', hk, hg⟩
  refine (ite2 (c := (!decide (b' = 0)) = true) (fun c => ?_) (fun c => ?_))
  · have c' : b' ≠ 0 := by simpa using c
    have hp : 0 < b' := by omega
    refine ⟨hp, ?_⟩
    have := Int.emod_lt_of_pos n' hp
    have := Int.emod_nonneg n' (show b' ≠ 0 by omega)
    exact ⟨_, by omega, b', n' % b', rfl, by omega, rfl, by rw [gcdP_step hp]; exact hg⟩
  · have c' : b' = 0 := by simpa using c
    subst c'
    have e : gcdP n b = n' := by rw [← hg]; unfold gcdP; rw [if_pos rfl]
    have hp := gcdP_pos (n := n) hb
    have e2 : gcdP n b = if n' < 0 then -n' else n' := by rw [if_neg (by omega)]; exact e
    rw [e2] at q0
    exact q0
set_option maxHeartbeats 4000000 in
theorem ok_l_low (T : Txt K mg A) : FnOk P w K mg base CX0 2 A.f_l_low A.d_l_low ["_law_top", "_law_bottom"] (spOf [false, false] false (sdLow)) := by
  have G_l_divisor := ok_l_divisor (P := P) (w := w) (base := base) T
  have S := sc_l_low
  refine fnD T.F_l_low S ⟨[false, false], [false, false, false], false⟩ _ ?hl rfl rfl fun cdv Ar outer s H E hr => ⟨_, (qss_cons (qs_set (i := 2) S.nd rfl (Or.inl rfl) (qe_call (G_l_divisor) (hr.mono (by decide)) rfl T.m_l_divisor T.k_l_divisor T.b_l_divisor (qk_s (qe_var 0) (qk_s (qe_var 1) qk_nil))))
      (qss_one (qs_ret (qe_tup (qa_cons (qe_op op_fdivB dIC (qe_var 0) (qe_var 2)) (qa_cons (qe_op op_fdivB dIC (qe_var 1) (qe_var 2)) qa_nil)))))), fun ds q h => ?_⟩
  case hl => intro ds q h; obtain ⟨t, b, rfl, _⟩ := h; rfl
  obtain ⟨t, b, rfl, hb, hs, q0⟩ := h
  refine ⟨t, b, rfl, hb, ?_⟩
  have g := gcdP_pos (n := t) hb
  have gl := gcdP_le (n := t) hb
  have gs : Sm (gcdP t b) := by show (gcdP t b).natAbs < _; exact Nat.lt_of_le_of_lt (by omega) hs
  refine ⟨⟨g, gs⟩, ⟨g, gs⟩, ?_⟩
  rw [quo_num hb, quo_den hb]
  exact q0
noncomputable def sdNumQ : SpD := fun ds q => ∃ c m, ds = [dInts [c, m]] ∧ 0 ≤ c ∧ ∀ n c' m', n.natAbs ≤ 10 ^ 55 → 0 ≤ c' → q (.int n) [some (dInts [c', m'])]
noncomputable def sdIs : SpD := fun ds q => ∃ t b, ds = [dQ (Rat.divInt t b), .int t, .int b] ∧ b ≠ 0 ∧ Sm b ∧ q (.bl true) []
set_option maxHeartbeats 4000000 in
theorem ok_l_number (T : Txt K mg A) : FnOk P w K mg base CX0 2 A.f_l_number A.d_l_number ["_law_pool_here"] (spOf [true] false (sdNumQ)) := by
  have G_l_take := ok_l_take (P := P) (w := w) (base := base) T
  have S := sc_l_number
  refine fnD T.F_l_number S ⟨[true], [true, false], false⟩ _ ?hl rfl rfl fun cdv Ar outer s H E hr => ⟨_, (qss_cons (qs_set (i := 1) S.nd rfl (Or.inl rfl) (qe_ix ix_seq dIx (qe_lst (qa_cons qe_int (qa_cons qe_int (qa_cons (qe_op op_pow dIC qe_int qe_int) (qa_cons (qe_op op_pow dIC qe_int qe_int) (qa_cons (qe_op op_pow dIC qe_int qe_int) qa_nil)))))) (qe_call (G_l_take) (hr.mono (by decide)) rfl T.m_l_take T.k_l_take T.b_l_take (qk_m 0 (qk_s qe_int qk_nil))) (fun _ _ => rfl)))
      (qss_one (qs_ret (qe_op op_mul dIC (qe_call (G_l_take) (hr.mono (by decide)) rfl T.m_l_take T.k_l_take T.b_l_take (qk_m 0 (qk_s (qe_op op_add dI (qe_var 1) qe_int) qk_nil))) (qe_ix ix_seq dIx (qe_lst (qa_cons qe_int (qa_cons (qe_neg qe_int) qa_nil))) (qe_call (G_l_take) (hr.mono (by decide)) rfl T.m_l_take T.k_l_take T.b_l_take (qk_m 0 (qk_s qe_int qk_nil))) (fun _ _ => rfl)))))), fun ds q h => ?_⟩
  case hl => intro ds q h; obtain ⟨c, m, rfl, _⟩ := h; rfl
  obtain ⟨c, m, rfl, h0, q0⟩ := h
  refine ⟨⟨by decide, by decide, by decide⟩, ⟨by decide, by decide, by decide⟩, ⟨by decide, by decide, by decide⟩, ?_⟩
  refine ⟨c, m, 5, rfl, h0, by decide, sm_of (n := 5) (by decide) (by decide +kernel), fun k c1 m1 k0 k1 h1 => ?_⟩
  obtain ⟨z, hz, z1, z2⟩ : ∃ z : Int, atI [D.int 10, D.int 100, D.int (10 ^ Int.toNat 6), D.int (10 ^ Int.toNat 18), D.int (10 ^ Int.toNat 55)] k = some (.int z) ∧ 0 < z ∧ z ≤ 10 ^ 55 := by
    have : k = 0 ∨ k = 1 ∨ k = 2 ∨ k = 3 ∨ k = 4 := by omega
    rcases this with rfl | rfl | rfl | rfl | rfl <;> exact ⟨_, rfl, by decide, by decide⟩
  refine atD_of hz ?_
  refine ⟨c1, m1, z + 1, rfl, h1, by omega, sm_of (n := 10 ^ 55 + 1) (by omega) (by decide +kernel), fun t c2 m2 t0 t1 h2 => ?_⟩
  refine ⟨c2, m2, 2, rfl, h2, by decide, sm_of (n := 2) (by decide) (by decide +kernel), fun s c3 m3 s0 s1 h3 => ?_⟩
  obtain ⟨y, hy, y1⟩ : ∃ y : Int, atI [D.int 1, D.int (-1)] s = some (.int y) ∧ (y = 1 ∨ y = -1) := by
    have : s = 0 ∨ s = 1 := by omega
    rcases this with rfl | rfl
    · exact ⟨_, rfl, .inl rfl⟩
    · exact ⟨_, rfl, .inr rfl⟩
  refine atD_of hy ?_
  refine ⟨.inr (by rcases y1 with rfl | rfl <;> exact ⟨by decide, by decide⟩), ?_⟩
  exact q0 _ c3 m3 (by rcases y1 with rfl | rfl <;> omega) h3
set_option maxHeartbeats 4000000 in
theorem ok_l_is (T : Txt K mg A) : FnOk P w K mg base CX0 3 A.f_l_is A.d_l_is ["_law_found", "_law_top", "_law_bottom"] (spOf [false, false, false] false (sdIs)) := by
  have G_l_low := ok_l_low (P := P) (w := w) (base := base) T
  have S := sc_l_is
  refine fnD T.F_l_is S ⟨[false, false, false], [false, false, false, false], false⟩ _ ?hl rfl rfl fun cdv Ar outer s H E hr => ⟨_, (qss_cons (qs_if (QW.qt (qw_or (qt_not (qt_val (qe_isT rfl T.z_isinstance bt_isinstance (qe_var 0) (pe_bltn (v := .ty "tuple") rfl T.z_tuple bt_tuple rfl)))) (qw_or1 (qt_cmp (op_neD hr.units) dNe (qe_callB call_len_seq dLen rfl T.z_len bt_len (qa_cons (qe_var 0) qa_nil)) qe_int (nomark _))))) (qss_one (qs_ret qe_bl)) qss_nil)
      (qss_cons (qs_for PassesOwn.never rfl (qi_tup (qe_var 0)) (qg_name (i := 3) S.nd rfl (Or.inl rfl)) (qss_one (qs_if (QW.qt (qw_or (qt_not (qt_val (qe_isT rfl T.z_isinstance bt_isinstance (qe_var 3) (pe_bltn (v := .ty "int") rfl T.z_int bt_int rfl)))) (qw_or1 (qt_val (qe_isT rfl T.z_isinstance bt_isinstance (qe_var 3) (pe_bltn (v := .ty "bool") rfl T.z_bool bt_bool rfl)))))) (qss_one (qs_ret qe_bl)) qss_nil)))
      (qss_cons (qs_cut (qs_if (qt_cmp op_lt dB (qe_var 2) qe_int (nomark _)) (qss_one (qs_par (i := 1) (j := 2) rfl S.nd rfl rfl (by decide) rfl rfl (qe_op op_sub dI qe_int (qe_var 1)) (qe_op op_sub dI qe_int (qe_var 2)) rfl)) qss_nil))
      (qss_one (qs_ret (qe_cmp (op_eqD hr.units) dEq (qe_var 0) (qe_call (G_l_low) (hr.mono (by decide)) rfl T.m_l_low T.k_l_low T.b_l_low (qk_s (qe_var 1) (qk_s (qe_var 2) qk_nil))) (nomark _))))))), fun ds q h => ?_⟩
  case hl => intro ds q h; obtain ⟨t, b, rfl, _⟩ := h; rfl
  obtain ⟨t, b, rfl, hb, hs, q0⟩ := h
  refine ⟨fun i ρ => ∃ v, ρ = [some (dQ (Rat.divInt t b)), some (.int t), some (.int b), v], ⟨_, rfl⟩, ?_, ?_⟩
  · rintro i d ρ hd ⟨v, rfl⟩
    match i, hd with
    | 0, hd => cases hd; exact ⟨_, rfl⟩
    | 1, hd => cases hd; exact ⟨_, rfl⟩
    | i + 2, hd => simp at hd
  · rintro ρ ⟨v, rfl⟩
    refine ⟨fun ρ => ∃ t' b' : Int, ρ = [some (dQ (Rat.divInt t b)), some (.int t'), some (.int b'), v] ∧ 0 < b' ∧ Sm b' ∧ Rat.divInt t' b' = Rat.divInt t b, ?_, ?_⟩
    · refine (ite2 (c := decide (b < 0) = true) (fun c => ?_) (fun c => ?_))
      · have c' : b < 0 := by simpa using c
        exact ⟨0 - t, 0 - b, rfl, by omega, by show (0 - b).natAbs < _; rw [Int.zero_sub, Int.natAbs_neg]; exact hs, by rw [Int.zero_sub, Int.zero_sub]; exact Rat.neg_divInt_neg t b⟩
      · have c' : ¬ b < 0 := by simpa using c
        exact ⟨t, b, rfl, by omega, hs, rfl⟩
    · rintro ρ ⟨t', b', rfl, hp, hs', he⟩
      refine ⟨t', b', rfl, hp, hs', ?_⟩
      rw [he]
      refine ⟨okD_dQ _, okD_dQ _, ?_⟩
      rw [eqDq_self]; exact q0
theorem okD_str (x : Str) (h : PyData.strOk x = true) : okD (.str x) = true := by unfold okD SeqAt.shaped; rw [toP]; simp [PyData.canLay0, PyData.depth, h]
theorem eqD_str (x : Str) : eqD (.str x) (.str x) = true := by unfold eqD; rw [toP, PyData.eqv]; simp
set_option maxHeartbeats 4000000 in
theorem ok_law (T : Txt K mg A) : FnOk P w K mg base CX0 4 A.f_law A.d_law ["_law_script"] (spOf [false] false (sdLaw K)) := by
  have G_l_is := ok_l_is (P := P) (w := w) (base := base) T
  have G_l_number := ok_l_number (P := P) (w := w) (base := base) T
  have G_l_pool := ok_l_pool (P := P) (w := w) (base := base) T
  have G_l_take := ok_l_take (P := P) (w := w) (base := base) T
  have G_l_told := ok_l_told (P := P) (w := w) (base := base) T
  have G_fraction := ok_fraction (P := P) (w := w) (base := base) T
  have S := sc_law
  refine fnD T.F_law S ⟨[false], [false, false, true, false, false, false, false, false, false], false⟩ _ ?hl rfl rfl fun cdv Ar outer s H E hr => ⟨_, (qss_cons (qs_for PassesOwn.never rfl (qi_range1 rfl T.z_range (qa_cons (qe_callB (call_max2 rfl) dMax rfl T.z_max bt_max (qa_cons qe_int (qa_cons (qe_callB (call_min2 rfl) dMin rfl T.z_min bt_min (qa_cons qe_int (qa_cons (qe_callB call_len_seq dLen rfl T.z_len bt_len (qa_cons (qe_var 0) qa_nil)) qa_nil))) qa_nil))) qa_nil)) (qg_name (i := 1) S.nd rfl (Or.inl rfl)) (qss_cons (qs_setO (i := 2) S.nd rfl (Or.inl rfl) (qf_call (G_l_pool) (hr.mono (by decide)) rfl T.m_l_pool T.k_l_pool T.b_l_pool (qk_s (qe_var 0) (qk_s (qe_var 1) qk_nil))))
      (qss_cons (qs_set (i := 3) S.nd rfl (Or.inl rfl) (qe_op op_add dI qe_int (qe_call (G_l_take) (hr.mono (by decide)) rfl T.m_l_take T.k_l_take T.b_l_take (qk_m 2 (qk_s qe_int qk_nil)))))
      (qss_cons (qs_set (i := 4) S.nd rfl (Or.inl rfl) (qe_op op_mul dIC (qe_call (G_l_number) (hr.mono (by decide)) rfl T.m_l_number T.k_l_number T.b_l_number (qk_m 2 qk_nil)) (qe_var 3)))
      (qss_cons (qs_set (i := 5) S.nd rfl (Or.inl rfl) (qe_op op_mul dIC (qe_call (G_l_number) (hr.mono (by decide)) rfl T.m_l_number T.k_l_number T.b_l_number (qk_m 2 qk_nil)) (qe_var 3)))
      (qss_cons (qs_cut (qs_set (i := 6) S.nd rfl (Or.inl rfl) (qe_call (G_l_told) (hr.mono (by decide)) rfl T.m_l_told T.k_l_told T.b_l_told (qk_s (qe_var 4) (qk_s (qe_var 5) qk_nil)))))
      (qss_cons (qs_cut (qs_if (QW.qt (qw_and (qt_cmp (op_eqD hr.units) dEq (qe_var 5) qe_int (nomark _)) (qw_and1 (qt_cmp (op_neD hr.units) dNe (qe_var 6) qe_str (nomark _))))) (qss_one (qs_ret qe_bl)) qss_nil))
      (qss_cons (qs_cut (qs_if (QW.qt (qw_and (qt_cmp (op_neD hr.units) dNe (qe_var 5) qe_int (nomark _)) (qw_and1 (QW.qt (qw_or (qt_not (qt_val (qe_call (G_l_is) (hr.mono (by decide)) rfl T.m_l_is T.k_l_is T.b_l_is (qk_s (qe_var 6) (qk_s (qe_var 4) (qk_s (qe_var 5) qk_nil)))))) (qw_or1 (qt_cmp (op_neD hr.units) dNe (qe_call (G_l_told) (hr.mono (by decide)) rfl T.m_l_told T.k_l_told T.b_l_told (qk_s (qe_var 4) (qk_s (qe_var 5) qk_nil))) (qe_var 6) (nomark _)))))))) (qss_one (qs_ret qe_bl)) qss_nil))
      (qss_cons (qs_set (i := 7) S.nd rfl (Or.inl rfl) (qe_lst (qa_cons (qe_tup (qa_cons qe_bl (qa_cons qe_int qa_nil))) (qa_cons (qe_tup (qa_cons qe_int (qa_cons qe_bl qa_nil))) (qa_cons (qe_tup (qa_cons qe_str (qa_cons qe_int qa_nil))) (qa_cons (qe_tup (qa_cons (qe_var 4) (qa_cons qe_str qa_nil))) (qa_cons (qe_tup (qa_cons qe_non (qa_cons qe_int qa_nil))) (qa_cons (qe_tup (qa_cons (qe_var 4) (qa_cons qe_non qa_nil))) qa_nil))))))))
      (qss_cons (qs_set (i := 7) S.nd rfl (Or.inl rfl) (qe_mk op_cat dCat (qe_var 7) (qe_lst (qa_cons (qe_tup (qa_cons (qe_tup (qa_cons qe_int (qa_cons qe_int qa_nil))) (qa_cons qe_int qa_nil))) (qa_cons (qe_tup (qa_cons qe_int (qa_cons (qe_tup (qa_cons qe_int (qa_cons qe_int qa_nil))) qa_nil))) (qa_cons (qe_tup (qa_cons (qe_lst (qa_cons (qe_var 4) qa_nil)) (qa_cons qe_int qa_nil))) (qa_cons (qe_tup (qa_cons (qe_var 4) (qa_cons qe_int qa_nil))) qa_nil)))))))
      (qss_cons (qs_cut (qs_set (i := 8) S.nd rfl (Or.inl rfl) (qe_ix ix_seq dIx (qe_var 7) (qe_call (G_l_take) (hr.mono (by decide)) rfl T.m_l_take T.k_l_take T.b_l_take (qk_m 2 (qk_s qe_int qk_nil))) (fun _ _ => rfl))))
      (qss_one (qs_if (qt_cmp (op_neD hr.units) dNe (qe_call (G_l_told) (hr.mono (by decide)) rfl T.m_l_told T.k_l_told T.b_l_told (qk_s (qe_ix ix_seq dIx (qe_var 8) qe_int (fun _ _ => rfl)) (qk_s (qe_ix ix_seq dIx (qe_var 8) qe_int (fun _ _ => rfl)) qk_nil))) qe_str (nomark _)) (qss_one (qs_ret qe_bl)) qss_nil)))))))))))))
      (qss_one (qs_ret (qe_and (qe_cmp (op_eqD hr.units) dEq (qe_call (G_fraction) (hr.mono (by decide)) rfl T.m_fraction T.k_fraction T.b_fraction (qk_s qe_int (qk_s (qe_neg qe_int) qk_nil))) (qe_tup (qa_cons qe_int (qa_cons qe_int qa_nil))) (nomark _)) (qe_and (qe_cmp (op_eqD hr.units) dEq (qe_call (G_fraction) (hr.mono (by decide)) rfl T.m_fraction T.k_fraction T.b_fraction (qk_s (qe_neg qe_int) (qk_s (qe_neg qe_int) qk_nil))) (qe_tup (qa_cons qe_int (qa_cons qe_int qa_nil))) (nomark _)) (qe_one (qe_cmp (op_eqD hr.units) dEq (qe_call (G_fraction) (hr.mono (by decide)) rfl T.m_fraction T.k_fraction T.b_fraction (qk_s qe_int (qk_s (qe_neg qe_int) qk_nil))) (qe_tup (qa_cons (qe_neg qe_int) (qa_cons qe_int qa_nil))) (nomark _)))))))), fun ds q h => ?_⟩
  case hl => intro ds q h; obtain ⟨φ, ns, rfl, _⟩ := h; rfl
  obtain ⟨φ, ns, rfl, hφ, hl, q0⟩ := h
  refine ⟨hφ, ?_⟩
  refine ⟨⟨by split <;> split <;> omega, by split <;> split <;> omega⟩, ?_⟩
  refine ⟨fun i ρ => ∃ (v1 v2 v3 v4 v5 v6 v7 v8 : Option D), ρ = [some (.scr φ ns), v1, v2, v3, v4, v5, v6, v7, v8], ⟨_, _, _, _, _, _, _, _, rfl⟩, ?_, ?_⟩
  · rintro i d ρ hd ⟨v1, v2, v3, v4, v5, v6, v7, v8, rfl⟩
    obtain ⟨hi, rfl⟩ := rngD_at hd
    have hi2 : i < 60 := by
      revert hi; split <;> split <;> omega
    refine ⟨φ, ns, 0 + (i : Int), rfl, hφ, by omega, by omega, fun c m h0 => ?_⟩
    refine ⟨c, m, 12, rfl, h0, by decide, sm_of (n := 12) (by decide) (by decide +kernel), fun k c1 m1 k0 k1 h1 => ?_⟩
    refine ⟨c1, m1, rfl, h1, fun t c2 m2 ht h2 => ?_⟩
    refine ⟨.inr ⟨by omega, by omega⟩, ?_⟩
    refine ⟨c2, m2, rfl, h2, fun b c3 m3 hb h3 => ?_⟩
    refine ⟨.inr ⟨by omega, by omega⟩, ?_⟩
    obtain ⟨T, hT⟩ : ∃ T : Int, T = t * (1 + k) := ⟨_, rfl⟩
    obtain ⟨B, hB⟩ : ∃ B : Int, B = b * (1 + k) := ⟨_, rfl⟩
    rw [← hT, ← hB]
    have hsB : Sm B := sm_of (n := 10 ^ 55 * 12) (by rw [hB, abs_mulI]; exact Nat.mul_le_mul hb (by omega)) (by decide +kernel)
    refine ⟨fun ρ => ∃ f : D, ρ = [some (.scr φ ns), some (.int (0 + (i : Int))), some (dInts [c3, m3]), some (.int (1 + k)), some (.int T), some (.int B), some f, v7, v8] ∧ ((B = 0 ∧ f = .str "none") ∨ (B ≠ 0 ∧ f = dQ (Rat.divInt T B))), ?_, ?_⟩
    · by_cases hz : B = 0
      · exact .inr ⟨.int T, .int B, rfl, ⟨rfl, rfl, .inr (.inr (by rw [hz]))⟩, _, rfl, .inl ⟨hz, rfl⟩⟩
      · exact .inl ⟨T, B, rfl, hz, hsB, _, rfl, .inr ⟨hz, rfl⟩⟩
    rintro ρ ⟨f, rfl, hf⟩
    refine ⟨fun ρ => ρ = [some (.scr φ ns), some (.int (0 + (i : Int))), some (dInts [c3, m3]), some (.int (1 + k)), some (.int T), some (.int B), some f, v7, v8], ?_, ?_⟩
    · refine (ite2 (c := decide (B = 0) = true) (fun c => ?_) (fun c => rfl))
      have c' : B = 0 := by simpa using c
      have hf' : f = .str "none" := by rcases hf with hf | hf; exact hf.2; exact absurd c' hf.1
      subst hf'
      refine ⟨okD_str _ (by decide +kernel), okD_str _ (by decide +kernel), ?_⟩
      rw [eqD_str]
      rfl
    rintro ρ rfl
    refine ⟨fun ρ => ρ = [some (.scr φ ns), some (.int (0 + (i : Int))), some (dInts [c3, m3]), some (.int (1 + k)), some (.int T), some (.int B), some f, v7, v8], ?_, ?_⟩
    · refine (ite2 (c := (!decide (B = 0)) = true) (fun c => ?_) (fun c => rfl))
      have c' : B ≠ 0 := by simpa using c
      have hf' : f = dQ (Rat.divInt T B) := by rcases hf with hf | hf; exact absurd hf.1 c'; exact hf.2
      subst hf'
      refine ⟨T, B, rfl, c', hsB, ?_⟩
      refine .inl ⟨T, B, rfl, c', hsB, ?_⟩
      refine ⟨okD_dQ _, okD_dQ _, ?_⟩
      rw [eqDq_self]
      rfl
    rintro ρ rfl
    refine ⟨by simp, ?_⟩
    refine ⟨fun ρ => ∃ (d e : D) (v2 v7 : Option D), ρ = [some (.scr φ ns), some (.int (0 + (i : Int))), v2, some (.int (1 + k)), some (.int T), some (.int B), some f, v7, some (.tup [d, e])] ∧ Bad d e, ?_, ?_⟩
    · refine ⟨c3, m3, 10, rfl, h3, by decide, sm_of (n := 10) (by decide) (by decide +kernel), fun j c4 m4 j0 j1 h4 => ?_⟩
      have hj : j = 0 ∨ j = 1 ∨ j = 2 ∨ j = 3 ∨ j = 4 ∨ j = 5 ∨ j = 6 ∨ j = 7 ∨ j = 8 ∨ j = 9 := by omega
      rcases hj with rfl | rfl | rfl | rfl | rfl | rfl | rfl | rfl | rfl | rfl
      · exact ⟨_, _, _, _, rfl, rfl, rfl, .inl rfl⟩
      · exact ⟨_, _, _, _, rfl, rfl, rfl, .inr (.inl rfl)⟩
      · exact ⟨_, _, _, _, rfl, rfl, rfl, .inl rfl⟩
      · exact ⟨_, _, _, _, rfl, rfl, rfl, .inr (.inl rfl)⟩
      · exact ⟨_, _, _, _, rfl, rfl, rfl, .inl rfl⟩
      · exact ⟨_, _, _, _, rfl, rfl, rfl, .inr (.inl rfl)⟩
      · exact ⟨_, _, _, _, rfl, rfl, rfl, .inl rfl⟩
      · exact ⟨_, _, _, _, rfl, rfl, rfl, .inr (.inl rfl)⟩
      · exact ⟨_, _, _, _, rfl, rfl, rfl, .inl rfl⟩
      · exact ⟨_, _, _, _, rfl, rfl, rfl, .inr (.inr rfl)⟩
    rintro ρ ⟨d, e, v2, v7, rfl, hbad⟩
    refine .inr ⟨d, e, rfl, hbad, ?_⟩
    refine ⟨okD_str _ (by decide +kernel), okD_str _ (by decide +kernel), ?_⟩
    rw [eqD_str]
    exact ⟨_, _, _, _, _, _, _, _, rfl⟩
  · rintro ρ ⟨v1, v2, v3, v4, v5, v6, v7, v8, rfl⟩
    have eq : ∀ r s : Rat, r = s → eqD (dQ r) (dQ s) = true := fun r s h => by rw [h, eqDq_self]
    have sm : ∀ i : Int, i.natAbs ≤ 7 → Sm i := fun i h => sm_of (n := 7) h (by decide +kernel)
    refine ⟨0, -7, rfl, by decide, sm _ (by decide), ?_⟩
    refine ⟨okD_dQ _, okD_lay (n := 1) rfl (by decide), ?_⟩
    rw [show eqD (dQ (Rat.divInt 0 (-7))) (D.tup [.int 0, .int 1]) = true from eq _ 0 (by rfl)]
    refine ⟨-6, -4, rfl, by decide, sm _ (by decide), ?_⟩
    refine ⟨okD_dQ _, okD_lay (n := 1) rfl (by decide), ?_⟩
    rw [show eqD (dQ (Rat.divInt (-6) (-4))) (D.tup [.int 3, .int 2]) = true from eq _ (Rat.divInt 3 2) (by rfl)]
    refine ⟨6, -4, rfl, by decide, sm _ (by decide), ?_⟩
    refine ⟨okD_dQ _, okD_lay (n := 1) rfl (by decide), ?_⟩
    rw [show eqD (dQ (Rat.divInt 6 (-4))) (D.tup [.int (-3), .int 2]) = true from eq _ (Rat.divInt (-3) 2) (by rfl)]
    exact q0
end
end K02


set_option Elab.async false
set_option linter.all false
set_option maxRecDepth 100000
set_option maxHeartbeats 4000000
set_option exponentiation.threshold 9000
namespace K02
open PySem L2
theorem all_mk {l : PySem.W.OpenLaw} {w : World} {K : PySem.W.Frag} {h : Heap} {mg : Str → Option Value} {fa f_is_whole f_greatest_common f_fraction f_l_cell_at f_l_pool f_l_take f_l_divisor f_l_low f_l_number f_l_told f_l_is f_law : Addr} (X : K.In h) (G : h.Ns mainGlobals mg) (hfa : mg "law" = some (.ref fa))
    {od_is_whole an_is_whole : Option Addr} {sl_is_whole : Array (Option Value)} {oc_is_whole kV_is_whole dc_is_whole pm_is_whole cd_is_whole ct_is_whole : Value} (a_is_whole : PySem.W.nsIn K mainGlobals "is_whole" = some (some (.ref f_is_whole))) (l_is_whole : K.lookup f_is_whole = some ⟨oc_is_whole, od_is_whole, .func (PySem.W.fnOf "is_whole" "is_whole" (defArgs s_is_whole) (defBody s_is_whole) (defScope s_is_whole) .none kV_is_whole dc_is_whole pm_is_whole an_is_whole cd_is_whole ct_is_whole), sl_is_whole⟩) (c_is_whole : PySem.W.codeIn K cd_is_whole "is_whole" = true) (k_is_whole : PySem.W.keepIn K (.ref f_is_whole) = true)
    {od_greatest_common an_greatest_common : Option Addr} {sl_greatest_common : Array (Option Value)} {oc_greatest_common kV_greatest_common dc_greatest_common pm_greatest_common cd_greatest_common ct_greatest_common : Value} (a_greatest_common : PySem.W.nsIn K mainGlobals "greatest_common" = some (some (.ref f_greatest_common))) (l_greatest_common : K.lookup f_greatest_common = some ⟨oc_greatest_common, od_greatest_common, .func (PySem.W.fnOf "greatest_common" "greatest_common" (defArgs s_greatest_common) (defBody s_greatest_common) (defScope s_greatest_common) .none kV_greatest_common dc_greatest_common pm_greatest_common an_greatest_common cd_greatest_common ct_greatest_common), sl_greatest_common⟩) (c_greatest_common : PySem.W.codeIn K cd_greatest_common "greatest_common" = true) (k_greatest_common : PySem.W.keepIn K (.ref f_greatest_common) = true)
    {od_fraction an_fraction : Option Addr} {sl_fraction : Array (Option Value)} {oc_fraction kV_fraction dc_fraction pm_fraction cd_fraction ct_fraction : Value} (a_fraction : PySem.W.nsIn K mainGlobals "fraction" = some (some (.ref f_fraction))) (l_fraction : K.lookup f_fraction = some ⟨oc_fraction, od_fraction, .func (PySem.W.fnOf "fraction" "fraction" (defArgs s_fraction) (defBody s_fraction) (defScope s_fraction) .none kV_fraction dc_fraction pm_fraction an_fraction cd_fraction ct_fraction), sl_fraction⟩) (c_fraction : PySem.W.codeIn K cd_fraction "fraction" = true) (k_fraction : PySem.W.keepIn K (.ref f_fraction) = true)
    {od_l_cell_at an_l_cell_at : Option Addr} {sl_l_cell_at : Array (Option Value)} {oc_l_cell_at kV_l_cell_at dc_l_cell_at pm_l_cell_at cd_l_cell_at ct_l_cell_at : Value} (a_l_cell_at : PySem.W.nsIn K mainGlobals "_law_cell_at" = some (some (.ref f_l_cell_at))) (l_l_cell_at : K.lookup f_l_cell_at = some ⟨oc_l_cell_at, od_l_cell_at, .func (PySem.W.fnOf "_law_cell_at" "_law_cell_at" (defArgs s_l_cell_at) (defBody s_l_cell_at) (defScope s_l_cell_at) .none kV_l_cell_at dc_l_cell_at pm_l_cell_at an_l_cell_at cd_l_cell_at ct_l_cell_at), sl_l_cell_at⟩) (c_l_cell_at : PySem.W.codeIn K cd_l_cell_at "_law_cell_at" = true) (k_l_cell_at : PySem.W.keepIn K (.ref f_l_cell_at) = true)
    {od_l_pool an_l_pool : Option Addr} {sl_l_pool : Array (Option Value)} {oc_l_pool kV_l_pool dc_l_pool pm_l_pool cd_l_pool ct_l_pool : Value} (a_l_pool : PySem.W.nsIn K mainGlobals "_law_pool" = some (some (.ref f_l_pool))) (l_l_pool : K.lookup f_l_pool = some ⟨oc_l_pool, od_l_pool, .func (PySem.W.fnOf "_law_pool" "_law_pool" (defArgs s_l_pool) (defBody s_l_pool) (defScope s_l_pool) .none kV_l_pool dc_l_pool pm_l_pool an_l_pool cd_l_pool ct_l_pool), sl_l_pool⟩) (c_l_pool : PySem.W.codeIn K cd_l_pool "_law_pool" = true) (k_l_pool : PySem.W.keepIn K (.ref f_l_pool) = true)
    {od_l_take an_l_take : Option Addr} {sl_l_take : Array (Option Value)} {oc_l_take kV_l_take dc_l_take pm_l_take cd_l_take ct_l_take : Value} (a_l_take : PySem.W.nsIn K mainGlobals "_law_take" = some (some (.ref f_l_take))) (l_l_take : K.lookup f_l_take = some ⟨oc_l_take, od_l_take, .func (PySem.W.fnOf "_law_take" "_law_take" (defArgs s_l_take) (defBody s_l_take) (defScope s_l_take) .none kV_l_take dc_l_take pm_l_take an_l_take cd_l_take ct_l_take), sl_l_take⟩) (c_l_take : PySem.W.codeIn K cd_l_take "_law_take" = true) (k_l_take : PySem.W.keepIn K (.ref f_l_take) = true)
    {od_l_divisor an_l_divisor : Option Addr} {sl_l_divisor : Array (Option Value)} {oc_l_divisor kV_l_divisor dc_l_divisor pm_l_divisor cd_l_divisor ct_l_divisor : Value} (a_l_divisor : PySem.W.nsIn K mainGlobals "_law_divisor" = some (some (.ref f_l_divisor))) (l_l_divisor : K.lookup f_l_divisor = some ⟨oc_l_divisor, od_l_divisor, .func (PySem.W.fnOf "_law_divisor" "_law_divisor" (defArgs s_l_divisor) (defBody s_l_divisor) (defScope s_l_divisor) .none kV_l_divisor dc_l_divisor pm_l_divisor an_l_divisor cd_l_divisor ct_l_divisor), sl_l_divisor⟩) (c_l_divisor : PySem.W.codeIn K cd_l_divisor "_law_divisor" = true) (k_l_divisor : PySem.W.keepIn K (.ref f_l_divisor) = true)
    {od_l_low an_l_low : Option Addr} {sl_l_low : Array (Option Value)} {oc_l_low kV_l_low dc_l_low pm_l_low cd_l_low ct_l_low : Value} (a_l_low : PySem.W.nsIn K mainGlobals "_law_low" = some (some (.ref f_l_low))) (l_l_low : K.lookup f_l_low = some ⟨oc_l_low, od_l_low, .func (PySem.W.fnOf "_law_low" "_law_low" (defArgs s_l_low) (defBody s_l_low) (defScope s_l_low) .none kV_l_low dc_l_low pm_l_low an_l_low cd_l_low ct_l_low), sl_l_low⟩) (c_l_low : PySem.W.codeIn K cd_l_low "_law_low" = true) (k_l_low : PySem.W.keepIn K (.ref f_l_low) = true)
    {od_l_number an_l_number : Option Addr} {sl_l_number : Array (Option Value)} {oc_l_number kV_l_number dc_l_number pm_l_number cd_l_number ct_l_number : Value} (a_l_number : PySem.W.nsIn K mainGlobals "_law_number" = some (some (.ref f_l_number))) (l_l_number : K.lookup f_l_number = some ⟨oc_l_number, od_l_number, .func (PySem.W.fnOf "_law_number" "_law_number" (defArgs s_l_number) (defBody s_l_number) (defScope s_l_number) .none kV_l_number dc_l_number pm_l_number an_l_number cd_l_number ct_l_number), sl_l_number⟩) (c_l_number : PySem.W.codeIn K cd_l_number "_law_number" = true) (k_l_number : PySem.W.keepIn K (.ref f_l_number) = true)
    {od_l_told an_l_told : Option Addr} {sl_l_told : Array (Option Value)} {oc_l_told kV_l_told dc_l_told pm_l_told cd_l_told ct_l_told : Value} (a_l_told : PySem.W.nsIn K mainGlobals "_law_told" = some (some (.ref f_l_told))) (l_l_told : K.lookup f_l_told = some ⟨oc_l_told, od_l_told, .func (PySem.W.fnOf "_law_told" "_law_told" (defArgs s_l_told) (defBody s_l_told) (defScope s_l_told) .none kV_l_told dc_l_told pm_l_told an_l_told cd_l_told ct_l_told), sl_l_told⟩) (c_l_told : PySem.W.codeIn K cd_l_told "_law_told" = true) (k_l_told : PySem.W.keepIn K (.ref f_l_told) = true)
    {od_l_is an_l_is : Option Addr} {sl_l_is : Array (Option Value)} {oc_l_is kV_l_is dc_l_is pm_l_is cd_l_is ct_l_is : Value} (a_l_is : PySem.W.nsIn K mainGlobals "_law_is" = some (some (.ref f_l_is))) (l_l_is : K.lookup f_l_is = some ⟨oc_l_is, od_l_is, .func (PySem.W.fnOf "_law_is" "_law_is" (defArgs s_l_is) (defBody s_l_is) (defScope s_l_is) .none kV_l_is dc_l_is pm_l_is an_l_is cd_l_is ct_l_is), sl_l_is⟩) (c_l_is : PySem.W.codeIn K cd_l_is "_law_is" = true) (k_l_is : PySem.W.keepIn K (.ref f_l_is) = true)
    {od_law an_law : Option Addr} {sl_law : Array (Option Value)} {oc_law kV_law dc_law pm_law cd_law ct_law : Value} (a_law : PySem.W.nsIn K mainGlobals "law" = some (some (.ref f_law))) (l_law : K.lookup f_law = some ⟨oc_law, od_law, .func (PySem.W.fnOf "law" "law" (defArgs s_law) (defBody s_law) (defScope s_law) .none kV_law dc_law pm_law an_law cd_law ct_law), sl_law⟩) (c_law : PySem.W.codeIn K cd_law "law" = true) (k_law : PySem.W.keepIn K (.ref f_law) = true)
    (z_ValueError : PySem.W.nsIn K mainGlobals "ValueError" = some none)
    (z_abs : PySem.W.nsIn K mainGlobals "abs" = some none)
    (z_bool : PySem.W.nsIn K mainGlobals "bool" = some none)
    (z_int : PySem.W.nsIn K mainGlobals "int" = some none)
    (z_isinstance : PySem.W.nsIn K mainGlobals "isinstance" = some none)
    (z_len : PySem.W.nsIn K mainGlobals "len" = some none)
    (z_list : PySem.W.nsIn K mainGlobals "list" = some none)
    (z_max : PySem.W.nsIn K mainGlobals "max" = some none)
    (z_min : PySem.W.nsIn K mainGlobals "min" = some none)
    (z_range : PySem.W.nsIn K mainGlobals "range" = some none)
    (z_tuple : PySem.W.nsIn K mainGlobals "tuple" = some none)
    {c_AskError : Addr} (e_AskError : PySem.W.nsIn K mainGlobals "AskError" = some (some (.ref c_AskError)))
    {c_NoAsks : Addr} (e_NoAsks : PySem.W.nsIn K mainGlobals "NoAsks" = some (some (.ref c_NoAsks)))
    {c_NoChange : Addr} (e_NoChange : PySem.W.nsIn K mainGlobals "NoChange" = some (some (.ref c_NoChange)))
    {c_NoKeep : Addr} (e_NoKeep : PySem.W.nsIn K mainGlobals "NoKeep" = some (some (.ref c_NoKeep)))
    {c_NoName : Addr} (e_NoName : PySem.W.nsIn K mainGlobals "NoName" = some (some (.ref c_NoName)))
    {c_NoNumber : Addr} (e_NoNumber : PySem.W.nsIn K mainGlobals "NoNumber" = some (some (.ref c_NoNumber)))
    {c_NoPlace : Addr} (e_NoPlace : PySem.W.nsIn K mainGlobals "NoPlace" = some (some (.ref c_NoPlace)))
    {c_NoPointing : Addr} (e_NoPointing : PySem.W.nsIn K mainGlobals "NoPointing" = some (some (.ref c_NoPointing)))
    {c_NoPrices : Addr} (e_NoPrices : PySem.W.nsIn K mainGlobals "NoPrices" = some (some (.ref c_NoPrices)))
    {c_NoRow : Addr} (e_NoRow : PySem.W.nsIn K mainGlobals "NoRow" = some (some (.ref c_NoRow)))
    {c_NoShare : Addr} (e_NoShare : PySem.W.nsIn K mainGlobals "NoShare" = some (some (.ref c_NoShare)))
    {c_NoText : Addr} (e_NoText : PySem.W.nsIn K mainGlobals "NoText" = some (some (.ref c_NoText)))
    {c_NoTree : Addr} (e_NoTree : PySem.W.nsIn K mainGlobals "NoTree" = some (some (.ref c_NoTree)))
    {c_TooMany : Addr} (e_TooMany : PySem.W.nsIn K mainGlobals "TooMany" = some (some (.ref c_TooMany)))
    {dd_AskError : Option Addr} {nm_AskError qn_AskError : Str} {bs_AskError su_AskError : List Value} {ns_AskError : Addr} {hb_AskError ab_AskError : Bool} {sn_AskError : List Str} {co_AskError : Option Bool} {u0_AskError u1_AskError u2_AskError u3_AskError u5_AskError : Option Value} (l_AskError : K.lookup c_AskError = some ⟨.type "type", dd_AskError, .cls ⟨nm_AskError, bs_AskError, .ref c_AskError :: bmV, ns_AskError, qn_AskError, hb_AskError, sn_AskError, su_AskError, ab_AskError, co_AskError, false⟩, #[u0_AskError, u1_AskError, u2_AskError, u3_AskError, some (.builtin "ValueError.__new__"), u5_AskError]⟩)
    {no_AskError : Value} {nd_AskError : Option Addr} {es_AskError : Array DictEntry} {np_AskError : Nat} {nl_AskError : Array (Option Value)} (n_AskError' : K.lookup ns_AskError = some ⟨no_AskError, nd_AskError, .dict es_AskError np_AskError, nl_AskError⟩)
     (q_AskError : (es_AskError.all fun e => match e.key with | .str _ _ => true | _ => false) = true)
     (t_AskError : PySem.W.nsIn K ns_AskError "__init__" = some none)
    {dd_NoAsks : Option Addr} {nm_NoAsks qn_NoAsks : Str} {bs_NoAsks su_NoAsks : List Value} {ns_NoAsks : Addr} {hb_NoAsks ab_NoAsks : Bool} {sn_NoAsks : List Str} {co_NoAsks : Option Bool} {u0_NoAsks u1_NoAsks u2_NoAsks u3_NoAsks u5_NoAsks : Option Value} (l_NoAsks : K.lookup c_NoAsks = some ⟨.type "type", dd_NoAsks, .cls ⟨nm_NoAsks, bs_NoAsks, .ref c_NoAsks :: ([.ref c_AskError] ++ bmV), ns_NoAsks, qn_NoAsks, hb_NoAsks, sn_NoAsks, su_NoAsks, ab_NoAsks, co_NoAsks, false⟩, #[u0_NoAsks, u1_NoAsks, u2_NoAsks, u3_NoAsks, some (.builtin "ValueError.__new__"), u5_NoAsks]⟩)
    {dd_NoChange : Option Addr} {nm_NoChange qn_NoChange : Str} {bs_NoChange su_NoChange : List Value} {ns_NoChange : Addr} {hb_NoChange ab_NoChange : Bool} {sn_NoChange : List Str} {co_NoChange : Option Bool} {u0_NoChange u1_NoChange u2_NoChange u3_NoChange u5_NoChange : Option Value} (l_NoChange : K.lookup c_NoChange = some ⟨.type "type", dd_NoChange, .cls ⟨nm_NoChange, bs_NoChange, .ref c_NoChange :: ([.ref c_AskError] ++ bmV), ns_NoChange, qn_NoChange, hb_NoChange, sn_NoChange, su_NoChange, ab_NoChange, co_NoChange, false⟩, #[u0_NoChange, u1_NoChange, u2_NoChange, u3_NoChange, some (.builtin "ValueError.__new__"), u5_NoChange]⟩)
    {dd_NoKeep : Option Addr} {nm_NoKeep qn_NoKeep : Str} {bs_NoKeep su_NoKeep : List Value} {ns_NoKeep : Addr} {hb_NoKeep ab_NoKeep : Bool} {sn_NoKeep : List Str} {co_NoKeep : Option Bool} {u0_NoKeep u1_NoKeep u2_NoKeep u3_NoKeep u5_NoKeep : Option Value} (l_NoKeep : K.lookup c_NoKeep = some ⟨.type "type", dd_NoKeep, .cls ⟨nm_NoKeep, bs_NoKeep, .ref c_NoKeep :: ([.ref c_AskError] ++ bmV), ns_NoKeep, qn_NoKeep, hb_NoKeep, sn_NoKeep, su_NoKeep, ab_NoKeep, co_NoKeep, false⟩, #[u0_NoKeep, u1_NoKeep, u2_NoKeep, u3_NoKeep, some (.builtin "ValueError.__new__"), u5_NoKeep]⟩)
    {dd_NoName : Option Addr} {nm_NoName qn_NoName : Str} {bs_NoName su_NoName : List Value} {ns_NoName : Addr} {hb_NoName ab_NoName : Bool} {sn_NoName : List Str} {co_NoName : Option Bool} {u0_NoName u1_NoName u2_NoName u3_NoName u5_NoName : Option Value} (l_NoName : K.lookup c_NoName = some ⟨.type "type", dd_NoName, .cls ⟨nm_NoName, bs_NoName, .ref c_NoName :: ([.ref c_AskError] ++ bmV), ns_NoName, qn_NoName, hb_NoName, sn_NoName, su_NoName, ab_NoName, co_NoName, false⟩, #[u0_NoName, u1_NoName, u2_NoName, u3_NoName, some (.builtin "ValueError.__new__"), u5_NoName]⟩)
    {dd_NoNumber : Option Addr} {nm_NoNumber qn_NoNumber : Str} {bs_NoNumber su_NoNumber : List Value} {ns_NoNumber : Addr} {hb_NoNumber ab_NoNumber : Bool} {sn_NoNumber : List Str} {co_NoNumber : Option Bool} {u0_NoNumber u1_NoNumber u2_NoNumber u3_NoNumber u5_NoNumber : Option Value} (l_NoNumber : K.lookup c_NoNumber = some ⟨.type "type", dd_NoNumber, .cls ⟨nm_NoNumber, bs_NoNumber, .ref c_NoNumber :: ([.ref c_AskError] ++ bmV), ns_NoNumber, qn_NoNumber, hb_NoNumber, sn_NoNumber, su_NoNumber, ab_NoNumber, co_NoNumber, false⟩, #[u0_NoNumber, u1_NoNumber, u2_NoNumber, u3_NoNumber, some (.builtin "ValueError.__new__"), u5_NoNumber]⟩)
    {no_NoNumber : Value} {nd_NoNumber : Option Addr} {es_NoNumber : Array DictEntry} {np_NoNumber : Nat} {nl_NoNumber : Array (Option Value)} (n_NoNumber' : K.lookup ns_NoNumber = some ⟨no_NoNumber, nd_NoNumber, .dict es_NoNumber np_NoNumber, nl_NoNumber⟩)
     (q_NoNumber : (es_NoNumber.all fun e => match e.key with | .str _ _ => true | _ => false) = true)
     (t_NoNumber : PySem.W.nsIn K ns_NoNumber "__init__" = some none)
    {dd_NoPlace : Option Addr} {nm_NoPlace qn_NoPlace : Str} {bs_NoPlace su_NoPlace : List Value} {ns_NoPlace : Addr} {hb_NoPlace ab_NoPlace : Bool} {sn_NoPlace : List Str} {co_NoPlace : Option Bool} {u0_NoPlace u1_NoPlace u2_NoPlace u3_NoPlace u5_NoPlace : Option Value} (l_NoPlace : K.lookup c_NoPlace = some ⟨.type "type", dd_NoPlace, .cls ⟨nm_NoPlace, bs_NoPlace, .ref c_NoPlace :: ([.ref c_AskError] ++ bmV), ns_NoPlace, qn_NoPlace, hb_NoPlace, sn_NoPlace, su_NoPlace, ab_NoPlace, co_NoPlace, false⟩, #[u0_NoPlace, u1_NoPlace, u2_NoPlace, u3_NoPlace, some (.builtin "ValueError.__new__"), u5_NoPlace]⟩)
    {dd_NoPointing : Option Addr} {nm_NoPointing qn_NoPointing : Str} {bs_NoPointing su_NoPointing : List Value} {ns_NoPointing : Addr} {hb_NoPointing ab_NoPointing : Bool} {sn_NoPointing : List Str} {co_NoPointing : Option Bool} {u0_NoPointing u1_NoPointing u2_NoPointing u3_NoPointing u5_NoPointing : Option Value} (l_NoPointing : K.lookup c_NoPointing = some ⟨.type "type", dd_NoPointing, .cls ⟨nm_NoPointing, bs_NoPointing, .ref c_NoPointing :: ([.ref c_AskError] ++ bmV), ns_NoPointing, qn_NoPointing, hb_NoPointing, sn_NoPointing, su_NoPointing, ab_NoPointing, co_NoPointing, false⟩, #[u0_NoPointing, u1_NoPointing, u2_NoPointing, u3_NoPointing, some (.builtin "ValueError.__new__"), u5_NoPointing]⟩)
    {dd_NoPrices : Option Addr} {nm_NoPrices qn_NoPrices : Str} {bs_NoPrices su_NoPrices : List Value} {ns_NoPrices : Addr} {hb_NoPrices ab_NoPrices : Bool} {sn_NoPrices : List Str} {co_NoPrices : Option Bool} {u0_NoPrices u1_NoPrices u2_NoPrices u3_NoPrices u5_NoPrices : Option Value} (l_NoPrices : K.lookup c_NoPrices = some ⟨.type "type", dd_NoPrices, .cls ⟨nm_NoPrices, bs_NoPrices, .ref c_NoPrices :: ([.ref c_AskError] ++ bmV), ns_NoPrices, qn_NoPrices, hb_NoPrices, sn_NoPrices, su_NoPrices, ab_NoPrices, co_NoPrices, false⟩, #[u0_NoPrices, u1_NoPrices, u2_NoPrices, u3_NoPrices, some (.builtin "ValueError.__new__"), u5_NoPrices]⟩)
    {dd_NoRow : Option Addr} {nm_NoRow qn_NoRow : Str} {bs_NoRow su_NoRow : List Value} {ns_NoRow : Addr} {hb_NoRow ab_NoRow : Bool} {sn_NoRow : List Str} {co_NoRow : Option Bool} {u0_NoRow u1_NoRow u2_NoRow u3_NoRow u5_NoRow : Option Value} (l_NoRow : K.lookup c_NoRow = some ⟨.type "type", dd_NoRow, .cls ⟨nm_NoRow, bs_NoRow, .ref c_NoRow :: ([.ref c_AskError] ++ bmV), ns_NoRow, qn_NoRow, hb_NoRow, sn_NoRow, su_NoRow, ab_NoRow, co_NoRow, false⟩, #[u0_NoRow, u1_NoRow, u2_NoRow, u3_NoRow, some (.builtin "ValueError.__new__"), u5_NoRow]⟩)
    {dd_NoShare : Option Addr} {nm_NoShare qn_NoShare : Str} {bs_NoShare su_NoShare : List Value} {ns_NoShare : Addr} {hb_NoShare ab_NoShare : Bool} {sn_NoShare : List Str} {co_NoShare : Option Bool} {u0_NoShare u1_NoShare u2_NoShare u3_NoShare u5_NoShare : Option Value} (l_NoShare : K.lookup c_NoShare = some ⟨.type "type", dd_NoShare, .cls ⟨nm_NoShare, bs_NoShare, .ref c_NoShare :: ([.ref c_AskError] ++ bmV), ns_NoShare, qn_NoShare, hb_NoShare, sn_NoShare, su_NoShare, ab_NoShare, co_NoShare, false⟩, #[u0_NoShare, u1_NoShare, u2_NoShare, u3_NoShare, some (.builtin "ValueError.__new__"), u5_NoShare]⟩)
    {dd_NoText : Option Addr} {nm_NoText qn_NoText : Str} {bs_NoText su_NoText : List Value} {ns_NoText : Addr} {hb_NoText ab_NoText : Bool} {sn_NoText : List Str} {co_NoText : Option Bool} {u0_NoText u1_NoText u2_NoText u3_NoText u5_NoText : Option Value} (l_NoText : K.lookup c_NoText = some ⟨.type "type", dd_NoText, .cls ⟨nm_NoText, bs_NoText, .ref c_NoText :: ([.ref c_AskError] ++ bmV), ns_NoText, qn_NoText, hb_NoText, sn_NoText, su_NoText, ab_NoText, co_NoText, false⟩, #[u0_NoText, u1_NoText, u2_NoText, u3_NoText, some (.builtin "ValueError.__new__"), u5_NoText]⟩)
    {dd_NoTree : Option Addr} {nm_NoTree qn_NoTree : Str} {bs_NoTree su_NoTree : List Value} {ns_NoTree : Addr} {hb_NoTree ab_NoTree : Bool} {sn_NoTree : List Str} {co_NoTree : Option Bool} {u0_NoTree u1_NoTree u2_NoTree u3_NoTree u5_NoTree : Option Value} (l_NoTree : K.lookup c_NoTree = some ⟨.type "type", dd_NoTree, .cls ⟨nm_NoTree, bs_NoTree, .ref c_NoTree :: ([.ref c_AskError] ++ bmV), ns_NoTree, qn_NoTree, hb_NoTree, sn_NoTree, su_NoTree, ab_NoTree, co_NoTree, false⟩, #[u0_NoTree, u1_NoTree, u2_NoTree, u3_NoTree, some (.builtin "ValueError.__new__"), u5_NoTree]⟩)
    {dd_TooMany : Option Addr} {nm_TooMany qn_TooMany : Str} {bs_TooMany su_TooMany : List Value} {ns_TooMany : Addr} {hb_TooMany ab_TooMany : Bool} {sn_TooMany : List Str} {co_TooMany : Option Bool} {u0_TooMany u1_TooMany u2_TooMany u3_TooMany u5_TooMany : Option Value} (l_TooMany : K.lookup c_TooMany = some ⟨.type "type", dd_TooMany, .cls ⟨nm_TooMany, bs_TooMany, .ref c_TooMany :: ([.ref c_AskError] ++ bmV), ns_TooMany, qn_TooMany, hb_TooMany, sn_TooMany, su_TooMany, ab_TooMany, co_TooMany, false⟩, #[u0_TooMany, u1_TooMany, u2_TooMany, u3_TooMany, some (.builtin "ValueError.__new__"), u5_TooMany]⟩)
     (sp_ : PySem.W.specialIn K (.builtin "object.__class__") "__get__" = some (some (.builtin "getset_descriptor.__get__")))
     (tk_ : PySem.W.takesIn K (.builtin "object.__class__") = some true)
     (g_NoNumber : PySem.W.findIn K (.ref c_NoNumber) "__getattribute__" = some (some (.builtin "BaseException.__getattribute__")))
     (h_NoNumber : PySem.W.findIn K (.ref c_NoNumber) "__getattr__" = some none)
     (w_NoNumber : PySem.W.findIn K (.ref c_NoNumber) "__class__" = some (some (.builtin "object.__class__")))
     (mo_NoNumber : PySem.W.mroIn K c_NoNumber (.type "object") = some true)
     (hd_NoNumber : PySem.W.hasDictIn K c_NoNumber = true)
     (sv_NoNumber : PySem.W.subIn K (.ref c_NoNumber) (.type "ValueError") = some true)
     (s_NoNumber_NoAsks : PySem.W.subIn K (.ref c_NoNumber) (.ref c_NoAsks) = some false)
     (ne_NoNumber_NoAsks : (Value.ref c_NoNumber == Value.ref c_NoAsks) = false)
     (s_NoNumber_NoChange : PySem.W.subIn K (.ref c_NoNumber) (.ref c_NoChange) = some false)
     (ne_NoNumber_NoChange : (Value.ref c_NoNumber == Value.ref c_NoChange) = false)
     (s_NoNumber_NoKeep : PySem.W.subIn K (.ref c_NoNumber) (.ref c_NoKeep) = some false)
     (ne_NoNumber_NoKeep : (Value.ref c_NoNumber == Value.ref c_NoKeep) = false)
     (s_NoNumber_NoName : PySem.W.subIn K (.ref c_NoNumber) (.ref c_NoName) = some false)
     (ne_NoNumber_NoName : (Value.ref c_NoNumber == Value.ref c_NoName) = false)
     (s_NoNumber_NoPlace : PySem.W.subIn K (.ref c_NoNumber) (.ref c_NoPlace) = some false)
     (ne_NoNumber_NoPlace : (Value.ref c_NoNumber == Value.ref c_NoPlace) = false)
     (s_NoNumber_NoPointing : PySem.W.subIn K (.ref c_NoNumber) (.ref c_NoPointing) = some false)
     (ne_NoNumber_NoPointing : (Value.ref c_NoNumber == Value.ref c_NoPointing) = false)
     (s_NoNumber_NoPrices : PySem.W.subIn K (.ref c_NoNumber) (.ref c_NoPrices) = some false)
     (ne_NoNumber_NoPrices : (Value.ref c_NoNumber == Value.ref c_NoPrices) = false)
     (s_NoNumber_NoRow : PySem.W.subIn K (.ref c_NoNumber) (.ref c_NoRow) = some false)
     (ne_NoNumber_NoRow : (Value.ref c_NoNumber == Value.ref c_NoRow) = false)
     (s_NoNumber_NoShare : PySem.W.subIn K (.ref c_NoNumber) (.ref c_NoShare) = some false)
     (ne_NoNumber_NoShare : (Value.ref c_NoNumber == Value.ref c_NoShare) = false)
     (s_NoNumber_NoText : PySem.W.subIn K (.ref c_NoNumber) (.ref c_NoText) = some false)
     (ne_NoNumber_NoText : (Value.ref c_NoNumber == Value.ref c_NoText) = false)
     (s_NoNumber_NoTree : PySem.W.subIn K (.ref c_NoNumber) (.ref c_NoTree) = some false)
     (ne_NoNumber_NoTree : (Value.ref c_NoNumber == Value.ref c_NoTree) = false)
     (s_NoNumber_TooMany : PySem.W.subIn K (.ref c_NoNumber) (.ref c_TooMany) = some false)
     (ne_NoNumber_TooMany : (Value.ref c_NoNumber == Value.ref c_TooMany) = false)
     (y_NoAsks : PySem.W.typeIn K (.ref c_NoAsks) = some (.type "type"))
     (y_NoChange : PySem.W.typeIn K (.ref c_NoChange) = some (.type "type"))
     (y_NoKeep : PySem.W.typeIn K (.ref c_NoKeep) = some (.type "type"))
     (y_NoName : PySem.W.typeIn K (.ref c_NoName) = some (.type "type"))
     (y_NoNumber : PySem.W.typeIn K (.ref c_NoNumber) = some (.type "type"))
     (y_NoPlace : PySem.W.typeIn K (.ref c_NoPlace) = some (.type "type"))
     (y_NoPointing : PySem.W.typeIn K (.ref c_NoPointing) = some (.type "type"))
     (y_NoPrices : PySem.W.typeIn K (.ref c_NoPrices) = some (.type "type"))
     (y_NoRow : PySem.W.typeIn K (.ref c_NoRow) = some (.type "type"))
     (y_NoShare : PySem.W.typeIn K (.ref c_NoShare) = some (.type "type"))
     (y_NoText : PySem.W.typeIn K (.ref c_NoText) = some (.type "type"))
     (y_NoTree : PySem.W.typeIn K (.ref c_NoTree) = some (.type "type"))
     (y_TooMany : PySem.W.typeIn K (.ref c_TooMany) = some (.type "type"))
    : ∃ fd : FuncData, (∀ (s : Shared) (v : Value), BindsTo s fd ⟨[v], []⟩ [("_law_script", v)]) ∧ ∀ base : Heap, K.In base → base.Ns mainGlobals mg → FnOk l.prog w K mg base CX0 4 fa fd ["_law_script"] (spLaw K) := by
  have e := hfa.symm.trans (PySem.W.mg_of X G a_law)
  cases e
  have F_is_whole := fun_mk (st := s_is_whole) l_is_whole c_is_whole k_is_whole
  have b_is_whole := F_is_whole.binds (ps := ["thing"]) fun _ _ _ _ _ _ us hl => match us, hl with | [_], _ => rfl
  have F_greatest_common := fun_mk (st := s_greatest_common) l_greatest_common c_greatest_common k_greatest_common
  have b_greatest_common := F_greatest_common.binds (ps := ["number", "bottom"]) fun _ _ _ _ _ _ us hl => match us, hl with | [_, _], _ => rfl
  have F_fraction := fun_mk (st := s_fraction) l_fraction c_fraction k_fraction
  have b_fraction := F_fraction.binds (ps := ["top", "bottom"]) fun _ _ _ _ _ _ us hl => match us, hl with | [_, _], _ => rfl
  have F_l_cell_at := fun_mk (st := s_l_cell_at) l_l_cell_at c_l_cell_at k_l_cell_at
  have b_l_cell_at := F_l_cell_at.binds (ps := ["_law_script", "_law_k"]) fun _ _ _ _ _ _ us hl => match us, hl with | [_, _], _ => rfl
  have F_l_pool := fun_mk (st := s_l_pool) l_l_pool c_l_pool k_l_pool
  have b_l_pool := F_l_pool.binds (ps := ["_law_script", "_law_k"]) fun _ _ _ _ _ _ us hl => match us, hl with | [_, _], _ => rfl
  have F_l_take := fun_mk (st := s_l_take) l_l_take c_l_take k_l_take
  have b_l_take := F_l_take.binds (ps := ["_law_pool_here", "_law_many"]) fun _ _ _ _ _ _ us hl => match us, hl with | [_, _], _ => rfl
  have F_l_divisor := fun_mk (st := s_l_divisor) l_l_divisor c_l_divisor k_l_divisor
  have b_l_divisor := F_l_divisor.binds (ps := ["_law_one", "_law_other"]) fun _ _ _ _ _ _ us hl => match us, hl with | [_, _], _ => rfl
  have F_l_low := fun_mk (st := s_l_low) l_l_low c_l_low k_l_low
  have b_l_low := F_l_low.binds (ps := ["_law_top", "_law_bottom"]) fun _ _ _ _ _ _ us hl => match us, hl with | [_, _], _ => rfl
  have F_l_number := fun_mk (st := s_l_number) l_l_number c_l_number k_l_number
  have b_l_number := F_l_number.binds (ps := ["_law_pool_here"]) fun _ _ _ _ _ _ us hl => match us, hl with | [_], _ => rfl
  have F_l_told := fun_mk (st := s_l_told) l_l_told c_l_told k_l_told
  have b_l_told := F_l_told.binds (ps := ["_law_top", "_law_bottom"]) fun _ _ _ _ _ _ us hl => match us, hl with | [_, _], _ => rfl
  have F_l_is := fun_mk (st := s_l_is) l_l_is c_l_is k_l_is
  have b_l_is := F_l_is.binds (ps := ["_law_found", "_law_top", "_law_bottom"]) fun _ _ _ _ _ _ us hl => match us, hl with | [_, _, _], _ => rfl
  have F_law := fun_mk (st := s_law) l_law c_law k_law
  have b_law := F_law.binds (ps := ["_law_script"]) fun _ _ _ _ _ _ us hl => match us, hl with | [_], _ => rfl
  have T : Txt K mg ⟨f_is_whole, _, f_greatest_common, _, f_fraction, _, f_l_cell_at, _, f_l_pool, _, f_l_take, _, f_l_divisor, _, f_l_low, _, f_l_number, _, f_l_told, _, f_l_is, _, fa, _, c_AskError, c_NoAsks, c_NoChange, c_NoKeep, c_NoName, c_NoNumber, c_NoPlace, c_NoPointing, c_NoPrices, c_NoRow, c_NoShare, c_NoText, c_NoTree, c_TooMany⟩ := ⟨F_is_whole, b_is_whole, k_is_whole, PySem.W.mg_of X G a_is_whole, F_greatest_common, b_greatest_common, k_greatest_common, PySem.W.mg_of X G a_greatest_common, F_fraction, b_fraction, k_fraction, PySem.W.mg_of X G a_fraction, F_l_cell_at, b_l_cell_at, k_l_cell_at, PySem.W.mg_of X G a_l_cell_at, F_l_pool, b_l_pool, k_l_pool, PySem.W.mg_of X G a_l_pool, F_l_take, b_l_take, k_l_take, PySem.W.mg_of X G a_l_take, F_l_divisor, b_l_divisor, k_l_divisor, PySem.W.mg_of X G a_l_divisor, F_l_low, b_l_low, k_l_low, PySem.W.mg_of X G a_l_low, F_l_number, b_l_number, k_l_number, PySem.W.mg_of X G a_l_number, F_l_told, b_l_told, k_l_told, PySem.W.mg_of X G a_l_told, F_l_is, b_l_is, k_l_is, PySem.W.mg_of X G a_l_is, F_law, b_law, k_law, PySem.W.mg_of X G a_law, PySem.W.mg_none_of X G z_ValueError, PySem.W.mg_none_of X G z_abs, PySem.W.mg_none_of X G z_bool, PySem.W.mg_none_of X G z_int, PySem.W.mg_none_of X G z_isinstance, PySem.W.mg_none_of X G z_len, PySem.W.mg_none_of X G z_list, PySem.W.mg_none_of X G z_max, PySem.W.mg_none_of X G z_min, PySem.W.mg_none_of X G z_range, PySem.W.mg_none_of X G z_tuple, PySem.W.mg_of X G e_AskError, PySem.W.mg_of X G e_NoAsks, PySem.W.mg_of X G e_NoChange, PySem.W.mg_of X G e_NoKeep, PySem.W.mg_of X G e_NoName, PySem.W.mg_of X G e_NoNumber, PySem.W.mg_of X G e_NoPlace, PySem.W.mg_of X G e_NoPointing, PySem.W.mg_of X G e_NoPrices, PySem.W.mg_of X G e_NoRow, PySem.W.mg_of X G e_NoShare, PySem.W.mg_of X G e_NoText, PySem.W.mg_of X G e_NoTree, PySem.W.mg_of X G e_TooMany, (xc_mk l_AskError (nsOk_mk n_AskError' q_AskError) t_AskError tail_bm), (xc_mk l_NoNumber (nsOk_mk n_NoNumber' q_NoNumber) t_NoNumber (tail_mk l_AskError (nsOk_mk n_AskError' q_AskError) t_AskError tail_bm)), (xcOk_mk g_NoNumber h_NoNumber w_NoNumber sp_ tk_ mo_NoNumber hd_NoNumber), (kit_val sv_NoNumber), (kit_own l_NoAsks y_NoAsks s_NoNumber_NoAsks (.inr ne_NoNumber_NoAsks)), (kit_own l_NoChange y_NoChange s_NoNumber_NoChange (.inr ne_NoNumber_NoChange)), (kit_own l_NoKeep y_NoKeep s_NoNumber_NoKeep (.inr ne_NoNumber_NoKeep)), (kit_own l_NoName y_NoName s_NoNumber_NoName (.inr ne_NoNumber_NoName)), (kit_own l_NoPlace y_NoPlace s_NoNumber_NoPlace (.inr ne_NoNumber_NoPlace)), (kit_own l_NoPointing y_NoPointing s_NoNumber_NoPointing (.inr ne_NoNumber_NoPointing)), (kit_own l_NoPrices y_NoPrices s_NoNumber_NoPrices (.inr ne_NoNumber_NoPrices)), (kit_own l_NoRow y_NoRow s_NoNumber_NoRow (.inr ne_NoNumber_NoRow)), (kit_own l_NoShare y_NoShare s_NoNumber_NoShare (.inr ne_NoNumber_NoShare)), (kit_own l_NoText y_NoText s_NoNumber_NoText (.inr ne_NoNumber_NoText)), (kit_own l_NoTree y_NoTree s_NoNumber_NoTree (.inr ne_NoNumber_NoTree)), (kit_own l_TooMany y_TooMany s_NoNumber_TooMany (.inr ne_NoNumber_TooMany))⟩
  exact ⟨PySem.W.fnOf "law" "law" (defArgs s_law) (defBody s_law) (defScope s_law) .none kV_law dc_law pm_law an_law cd_law ct_law, fun s v => .of_eq rfl, fun base _ _ => (ok_law T).imp fun _ _ _ _ h => spLaw_of h⟩
theorem walk {l : PySem.W.OpenLaw} {q : Program} {loose : List Str} {XP : (Str → Option Value) → Heap → Prop} {YP : World → Heap → Prop} {d : DefRec} {K : Params → PySem.W.Frag} (hn : l.most = some 63) (hdf : d.params.defaults = [])
    (hY : ∀ (w : World) (h : Heap), YP w h → (K w.params).In h)
    (F : ∀ (w : World) (mg : Str → Option Value) (fa : Addr) (h : Heap), (K w.params).In h → h.Ns mainGlobals mg → mg d.name = some (.ref fa) →
      ∃ fd : FuncData, (∀ (s : Shared) (u : Value), BindsTo s fd ⟨[u], []⟩ [("_law_script", u)]) ∧ ∀ base : Heap, (K w.params).In base → base.Ns mainGlobals mg → FnOk l.prog w (K w.params) mg base CX0 4 fa fd ["_law_script"] (spLaw (K w.params))) :
    PySem.W.WalkO q loose XP YP l.row.toRowW d [] (fun f vs => PySem.call f vs) :=
  L2.walk_of (n := 63) (k := 4) (x := "_law_script") (CX := fun _ => CX0) (sp := fun w => spLaw (K w.params)) hn (by decide) hdf ⟨rfl, by decide, by decide⟩ hY F (fun _ _ a ns hl hO hS => ⟨a, ns, rfl, hO, hS, hl, fun _ => rfl⟩) fun _ _ _ _ _ z => z
end K02
open PySem PySem.W PyProof.Rows
set_option maxRecDepth 100000 in
set_option maxHeartbeats 0 in
theorem PySem.Challenge.cw_treeasks_k02_fractions_made_holds : PySem.Challenge.rw_treeasks_k02_fractions_made.Holds := by
  w_on; o_law; k_head; (case hw => w_witness2)
  k_fill
  refine K02.walk (l := PySem.Challenge.rw_treeasks_k02_fractions_made) rfl rfl (fun w h Y => PySem.W.kIn_of Y) ?F
  case F =>
    intro w mg fa h KX G hmg
    refine' K02.all_mk KX G hmg ?a_is_whole ?l_is_whole ?c_is_whole ?k_is_whole ?a_greatest_common ?l_greatest_common ?c_greatest_common ?k_greatest_common ?a_fraction ?l_fraction ?c_fraction ?k_fraction ?a_l_cell_at ?l_l_cell_at ?c_l_cell_at ?k_l_cell_at ?a_l_pool ?l_l_pool ?c_l_pool ?k_l_pool ?a_l_take ?l_l_take ?c_l_take ?k_l_take ?a_l_divisor ?l_l_divisor ?c_l_divisor ?k_l_divisor ?a_l_low ?l_l_low ?c_l_low ?k_l_low ?a_l_number ?l_l_number ?c_l_number ?k_l_number ?a_l_told ?l_l_told ?c_l_told ?k_l_told ?a_l_is ?l_l_is ?c_l_is ?k_l_is ?a_law ?l_law ?c_law ?k_law ?z_ValueError ?z_abs ?z_bool ?z_int ?z_isinstance ?z_len ?z_list ?z_max ?z_min ?z_range ?z_tuple ?e_AskError ?e_NoAsks ?e_NoChange ?e_NoKeep ?e_NoName ?e_NoNumber ?e_NoPlace ?e_NoPointing ?e_NoPrices ?e_NoRow ?e_NoShare ?e_NoText ?e_NoTree ?e_TooMany ?l_AskError ?n_AskError' ?q_AskError ?t_AskError ?l_NoAsks ?l_NoChange ?l_NoKeep ?l_NoName ?l_NoNumber ?n_NoNumber' ?q_NoNumber ?t_NoNumber ?l_NoPlace ?l_NoPointing ?l_NoPrices ?l_NoRow ?l_NoShare ?l_NoText ?l_NoTree ?l_TooMany ?sp_ ?tk_ ?g_NoNumber ?h_NoNumber ?w_NoNumber ?mo_NoNumber ?hd_NoNumber ?sv_NoNumber ?s_NoNumber_NoAsks ?ne_NoNumber_NoAsks ?s_NoNumber_NoChange ?ne_NoNumber_NoChange ?s_NoNumber_NoKeep ?ne_NoNumber_NoKeep ?s_NoNumber_NoName ?ne_NoNumber_NoName ?s_NoNumber_NoPlace ?ne_NoNumber_NoPlace ?s_NoNumber_NoPointing ?ne_NoNumber_NoPointing ?s_NoNumber_NoPrices ?ne_NoNumber_NoPrices ?s_NoNumber_NoRow ?ne_NoNumber_NoRow ?s_NoNumber_NoShare ?ne_NoNumber_NoShare ?s_NoNumber_NoText ?ne_NoNumber_NoText ?s_NoNumber_NoTree ?ne_NoNumber_NoTree ?s_NoNumber_TooMany ?ne_NoNumber_TooMany ?y_NoAsks ?y_NoChange ?y_NoKeep ?y_NoName ?y_NoNumber ?y_NoPlace ?y_NoPointing ?y_NoPrices ?y_NoRow ?y_NoShare ?y_NoText ?y_NoTree ?y_TooMany
    (case a_is_whole => k_is)
    (case l_is_whole => k_is)
    (case c_is_whole => k_is)
    (case k_is_whole => k_is)
    (case a_greatest_common => k_is)
    (case l_greatest_common => k_is)
    (case c_greatest_common => k_is)
    (case k_greatest_common => k_is)
    (case a_fraction => k_is)
    (case l_fraction => k_is)
    (case c_fraction => k_is)
    (case k_fraction => k_is)
    (case a_l_cell_at => k_is)
    (case l_l_cell_at => k_is)
    (case c_l_cell_at => k_is)
    (case k_l_cell_at => k_is)
    (case a_l_pool => k_is)
    (case l_l_pool => k_is)
    (case c_l_pool => k_is)
    (case k_l_pool => k_is)
    (case a_l_take => k_is)
    (case l_l_take => k_is)
    (case c_l_take => k_is)
    (case k_l_take => k_is)
    (case a_l_divisor => k_is)
    (case l_l_divisor => k_is)
    (case c_l_divisor => k_is)
    (case k_l_divisor => k_is)
    (case a_l_low => k_is)
    (case l_l_low => k_is)
    (case c_l_low => k_is)
    (case k_l_low => k_is)
    (case a_l_number => k_is)
    (case l_l_number => k_is)
    (case c_l_number => k_is)
    (case k_l_number => k_is)
    (case a_l_told => k_is)
    (case l_l_told => k_is)
    (case c_l_told => k_is)
    (case k_l_told => k_is)
    (case a_l_is => k_is)
    (case l_l_is => k_is)
    (case c_l_is => k_is)
    (case k_l_is => k_is)
    (case a_law => k_is)
    (case l_law => k_is)
    (case c_law => k_is)
    (case k_law => k_is)
    (case z_ValueError => k_is)
    (case z_abs => k_is)
    (case z_bool => k_is)
    (case z_int => k_is)
    (case z_isinstance => k_is)
    (case z_len => k_is)
    (case z_list => k_is)
    (case z_max => k_is)
    (case z_min => k_is)
    (case z_range => k_is)
    (case z_tuple => k_is)
    (case e_AskError => k_is)
    (case e_NoAsks => k_is)
    (case e_NoChange => k_is)
    (case e_NoKeep => k_is)
    (case e_NoName => k_is)
    (case e_NoNumber => k_is)
    (case e_NoPlace => k_is)
    (case e_NoPointing => k_is)
    (case e_NoPrices => k_is)
    (case e_NoRow => k_is)
    (case e_NoShare => k_is)
    (case e_NoText => k_is)
    (case e_NoTree => k_is)
    (case e_TooMany => k_is)
    (case l_AskError => k_is)
    (case n_AskError' => k_is)
    (case q_AskError => (rw [← Array.all_toList]; rfl))
    (case t_AskError => k_is)
    (case l_NoAsks => k_is)
    (case l_NoChange => k_is)
    (case l_NoKeep => k_is)
    (case l_NoName => k_is)
    (case l_NoNumber => k_is)
    (case n_NoNumber' => k_is)
    (case q_NoNumber => (rw [← Array.all_toList]; rfl))
    (case t_NoNumber => k_is)
    (case l_NoPlace => k_is)
    (case l_NoPointing => k_is)
    (case l_NoPrices => k_is)
    (case l_NoRow => k_is)
    (case l_NoShare => k_is)
    (case l_NoText => k_is)
    (case l_NoTree => k_is)
    (case l_TooMany => k_is)
    (case sp_ => k_is)
    (case tk_ => k_is)
    (case g_NoNumber => k_is)
    (case h_NoNumber => k_is)
    (case w_NoNumber => k_is)
    (case mo_NoNumber => k_is)
    (case hd_NoNumber => k_is)
    (case sv_NoNumber => k_is)
    (case s_NoNumber_NoAsks => k_is)
    (case ne_NoNumber_NoAsks => rfl)
    (case s_NoNumber_NoChange => k_is)
    (case ne_NoNumber_NoChange => rfl)
    (case s_NoNumber_NoKeep => k_is)
    (case ne_NoNumber_NoKeep => rfl)
    (case s_NoNumber_NoName => k_is)
    (case ne_NoNumber_NoName => rfl)
    (case s_NoNumber_NoPlace => k_is)
    (case ne_NoNumber_NoPlace => rfl)
    (case s_NoNumber_NoPointing => k_is)
    (case ne_NoNumber_NoPointing => rfl)
    (case s_NoNumber_NoPrices => k_is)
    (case ne_NoNumber_NoPrices => rfl)
    (case s_NoNumber_NoRow => k_is)
    (case ne_NoNumber_NoRow => rfl)
    (case s_NoNumber_NoShare => k_is)
    (case ne_NoNumber_NoShare => rfl)
    (case s_NoNumber_NoText => k_is)
    (case ne_NoNumber_NoText => rfl)
    (case s_NoNumber_NoTree => k_is)
    (case ne_NoNumber_NoTree => rfl)
    (case s_NoNumber_TooMany => k_is)
    (case ne_NoNumber_TooMany => rfl)
    (case y_NoAsks => k_is)
    (case y_NoChange => k_is)
    (case y_NoKeep => k_is)
    (case y_NoName => k_is)
    (case y_NoNumber => k_is)
    (case y_NoPlace => k_is)
    (case y_NoPointing => k_is)
    (case y_NoPrices => k_is)
    (case y_NoRow => k_is)
    (case y_NoShare => k_is)
    (case y_NoText => k_is)
    (case y_NoTree => k_is)
    (case y_TooMany => k_is)


