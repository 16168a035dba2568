import PyProof.Rows.All
import Wide.All
import OpenK.AllK
import Wide.FinOn
import Lean
import PyProof.EqAt
import PyProof.EqKinds
import PyProof.TupleCall
import PyProof.Rows.ListRangeD
import KE.LcSums
import KE.KRevSl
import PyProof.Rows.SetFrom
import PySem.Challenge.RW_treeasks_k07_what_are_no_asks
set_option Elab.async false
set_option linter.all false
set_option maxRecDepth 100000
set_option genSizeOf false
theorem PySem.W.Fast.te13164440303121767492 : True := trivial
noncomputable def PySem.W.Fast.tw13164440303121767492 : Nat := 0
noncomputable def PySem.W.Fast.tw16292154551037819256 : PySem.Program := PySem.Challenge.pw_treeasks_k07_what_are_no_asks
theorem PySem.W.Fast.te16292154551037819256 : PySem.Challenge.pw_treeasks_k07_what_are_no_asks = PySem.W.Fast.tw16292154551037819256 := rfl
/-! THE HAND LAYER, for ints, bools, texts, own classes, LISTS and tuples (index, slices, in, append, pop ..), calls, loops. Paste it whole ahead of your own text; what your proof does not reach may be deleted. -/
namespace L2
open PySem PySem.Spec PyProof.Rows

/-- a key: an int or a str -/
noncomputable abbrev Key := Sum Int Str
noncomputable def keyIs : Key → Value → Bool
  | .inl k, v => Value.isInt k v
  | .inr x, v => Value.isStrOf x v
noncomputable def keyH (w : World) : Key → Int
  | .inl k => hashInt k
  | .inr x => hashStr w x
theorem keyIs_shape : ∀ {k : Key} {v : Value}, keyIs k v = true → (∃ i t, k = Sum.inl i ∧ v = Value.int i t) ∨ (∃ x t, k = Sum.inr x ∧ v = Value.str x t)
  | .inl i, v, h => by
    obtain ⟨t, e⟩ := Value.isInt_shape (k := i) (v := v) h
    exact .inl ⟨i, t, rfl, e⟩
  | .inr x, v, h => by
    obtain ⟨t, e⟩ := Value.isStrOf_shape (x := x) (v := v) h
    exact .inr ⟨x, t, rfl, e⟩
theorem key_ll (a b : Int) : decide ((Sum.inl a : Key) = Sum.inl b) = (a == b) := by
  by_cases e : a = b
  · subst e; simp
  · have h : ¬ (Sum.inl a : Key) = Sum.inl b := fun q => e (Sum.inl.inj q)
    rw [decide_eq_false h]
    exact (beq_eq_false_iff_ne.mpr e).symm
theorem key_rr (a b : Str) : decide ((Sum.inr a : Key) = Sum.inr b) = decide (a = b) := by
  by_cases e : a = b
  · subst e; simp
  · have h : ¬ (Sum.inr a : Key) = Sum.inr b := fun q => e (Sum.inr.inj q)
    rw [decide_eq_false h, decide_eq_false e]
theorem key_lr (a : Int) (b : Str) : decide ((Sum.inl a : Key) = Sum.inr b) = false := decide_eq_false (fun q => nomatch q)
theorem key_rl (a : Str) (b : Int) : decide ((Sum.inr a : Key) = Sum.inl b) = false := decide_eq_false (fun q => nomatch q)

noncomputable def mixKind (prog : Program) (w : World) : PySem.KeyKind prog w Key where
  is := keyIs
  hash := keyH w
  inj := fun v a b ha hb => by
    rcases keyIs_shape ha with ⟨i, t, rfl, rfl⟩ | ⟨x, t, rfl, rfl⟩
    · rcases keyIs_shape hb with ⟨j, u, rfl, e⟩ | ⟨y, u, rfl, e⟩
      · injection e with e1 _; rw [e1]
      · exact nomatch e
    · rcases keyIs_shape hb with ⟨j, u, rfl, e⟩ | ⟨y, u, rfl, e⟩
      · exact nomatch e
      · injection e with e1 _; rw [e1]
  byValue := fun k v h => by
    rcases keyIs_shape h with ⟨i, t, rfl, rfl⟩ | ⟨x, t, rfl, rfl⟩ <;> rfl
  pyHash := fun hv h => by
    rcases keyIs_shape hv with ⟨i, t, rfl, rfl⟩ | ⟨x, t, rfl, rfl⟩
    · exact wpAny_pyHash_int h
    · exact wpAny_pyHash_str h
  eqBool := fun hu hv h => by
    rcases keyIs_shape hu with ⟨i, t, rfl, rfl⟩ | ⟨x, t, rfl, rfl⟩
    · rcases keyIs_shape hv with ⟨j, u, rfl, rfl⟩ | ⟨y, u, rfl, rfl⟩
      · rw [key_ll] at h; exact wpAny_eqBool_int h
      · rw [key_lr] at h; exact SeqAt.EqAt.int_str i t y u _ _ _ _ h
    · rcases keyIs_shape hv with ⟨j, u, rfl, rfl⟩ | ⟨y, u, rfl, rfl⟩
      · rw [key_rl] at h; exact SeqAt.EqAt.str_int x t j u _ _ _ _ h
      · rw [key_rr] at h; exact wpAny_eqBool_str h
  «strs» := fun k x t v h => by
    rcases keyIs_shape h with ⟨i, u, rfl, e⟩ | ⟨y, u, rfl, e⟩
    · exact nomatch e
    · injection e with e1 _
      subst e1
      cases v <;> rfl

end L2

namespace L2
open PySem PySem.Spec PyProof.Rows

/-- a value, without the heap -/
inductive V where
  | non | bl (b : Bool) | int (i : Int) | str (x : Str) | byt (b : Array UInt8) | flt (b : UInt64) | ref (a : Addr) | ty (n : String)
  deriving DecidableEq

noncomputable def RelV : V → Value → Prop
  | .non, u => u = Value.none
  | .bl b, u => u = Value.bool b
  | .int i, u => ∃ t, u = Value.int i t
  | .str x, u => ∃ t, u = Value.str x t
  | .byt b, u => ∃ t, u = Value.bytes b t
  | .flt b, u => ∃ t, u = Value.float b t
  | .ref a, u => u = Value.ref a
  | .ty n, u => u = Value.type n

noncomputable abbrev Vals : List V → List Value → Prop := Paired RelV
theorem Vals.length {xs : List V} {us : List Value} (r : Vals xs us) : xs.length = us.length := Paired.length r
theorem Vals.get : ∀ {xs : List V} {us : List Value} {i : Nat} {x : V}, Vals xs us → xs[i]? = some x → ∃ u, us[i]? = some u ∧ RelV x u
  | _, _, _, _, .nil, e => by simp at e
  | _, _, 0, _, .cons r _, e => by simp at e; subst e; exact ⟨_, rfl, r⟩
  | _, _, i + 1, x, .cons _ t, e => by
    obtain ⟨u, h1, h2⟩ := Vals.get (i := i) (x := x) t (by simpa using e)
    exact ⟨u, by simpa using h1, h2⟩
theorem Vals.set {x : V} {u : Value} (r : RelV x u) : ∀ {xs : List V} {us : List Value} (i : Nat), Vals xs us → Vals (xs.set i x) (us.set i u)
  | _, _, _, .nil => .nil
  | _, _, 0, .cons _ t => .cons r t
  | _, _, i + 1, .cons q t => .cons q (Vals.set r i t)
theorem Vals.append : ∀ {xs ys : List V} {us ws : List Value}, Vals xs us → Vals ys ws → Vals (xs ++ ys) (us ++ ws)
  | _, _, _, _, .nil, s => s
  | _, _, _, _, .cons r t, s => .cons r (Vals.append t s)
theorem Vals.take : ∀ {xs : List V} {us : List Value} (n : Nat), Vals xs us → Vals (xs.take n) (us.take n)
  | _, _, 0, _ => .nil
  | _, _, _ + 1, .nil => .nil
  | _, _, n + 1, .cons r t => .cons r (Vals.take n t)
theorem Vals.drop : ∀ {xs : List V} {us : List Value} (n : Nat), Vals xs us → Vals (xs.drop n) (us.drop n)
  | _, _, 0, r => r
  | _, _, _ + 1, .nil => .nil
  | _, _, n + 1, .cons _ t => Vals.drop n t
noncomputable def RelO : Option V → Option Value → Prop
  | some v, some u => RelV v u
  | none, none => True
  | _, _ => False
noncomputable def KV {κ : Type} : List (κ × V) → List (κ × Value) → Prop := Paired fun (p : κ × V) (q : κ × Value) => p.1 = q.1 ∧ RelV p.2 q.2

/-- a key of a dict (00_mix): an int or a text -/
noncomputable def kV : Key → V
  | .inl i => .int i
  | .inr x => .str x

/-- what stands at a tracked address -/
inductive HO where
  /-- a list -/
  | lst (xs : List V)
  /-- a tuple (never changes) -/
  | tup (xs : List V)
  /-- a dict whose keys are ints and texts; one whose keys are tuples of ints and texts (the empty one is both) -/
  | dK (kvs : List (Key × V)) | dT (kvs : List (List Key × V))
  /-- a set of ints: its members, its size -/
  | set (S : Int → Bool) (n : Nat)
  /-- an instance of the class at C, its dict at dx, its attributes -/
  | ins (C dx : Addr) (fs : List (Str × V))
  /-- the dict of the instance at x -/
  | own (x : Addr)
  /-- the dict of an exception -/
  | xd (fs : List (Str × V))
  /-- a bound method, f of x -/
  | met (f x : Addr)
  /-- a range object lo, lo + 1, .. below hi -/
  | rng (lo hi : Int)
  /-- a thing that is known to the object (the script; a dict while a loop walks it): read, never written while it is so -/
  | frz (o : Obj) (u : HO)
  /-- a code object's table -/
  | tbl (ps : Array Value)
  /-- any other thing, by what is true of its one object (a def of one's own: SetO a S n := HO.ext fun h => ..) -/
  | ext (φ : Heap → Prop)

noncomputable abbrev Hp := Addr → Option HO
noncomputable def upd (H : Hp) (a : Addr) (o : HO) : Hp := fun b => if b = a then some o else H b
theorem upd_same {H : Hp} {a : Addr} {o : HO} : upd H a o a = some o := by unfold upd; rw [if_pos rfl]
theorem upd_ne {H : Hp} {a b : Addr} {o : HO} (h : b ≠ a) : upd H a o b = H b := by unfold upd; rw [if_neg h]
theorem upd_upd {H : Hp} {a : Addr} {o u : HO} : upd (upd H a o) a u = upd H a u := by
  funext b; unfold upd; split <;> rfl
theorem ne_of_none {H : Hp} {a b : Addr} {o : HO} (h : H a = some o) (h' : H b = none) : a ≠ b := by
  intro e; subst e; rw [h] at h'; cases h'

section
variable (P : Program) (w : World)
noncomputable def ObjOk (H : Hp) (h : Heap) (a : Addr) : HO → Prop
  | .lst xs => xs.length ≤ sizeLine ∧ ∃ (its : List Value) (n : Nat), Vals xs its ∧ h.get? a = some { cls := .type "list", data := .seq its.toArray n }
  | .tup xs => xs.length ≤ sizeLine ∧ ∃ its : List Value, Vals xs its ∧ IsTup h a its.toArray
  | .dK kvs => kvs.length ≤ sizeLine ∧ (a == sysModules) = false ∧ ∃ vs, KV kvs vs ∧ h.DictOf (mixKind P w) a vs
  | .dT kvs => kvs.length ≤ sizeLine ∧ (a == sysModules) = false ∧ ∃ xs : List (List Key × Addr × Value),
      Paired (fun (p : List Key × V) (q : List Key × Addr × Value) => p.1 = q.1 ∧ H q.2.1 = some (.tup (p.1.map kV)) ∧ RelV p.2 q.2.2) kvs xs ∧
      ∃ o es ep, h.get? a = some o ∧ o.ExactDict ∧ o.data = .dict es ep ∧ es.toList = xs.map (entryOfKey (tupleKind (mixKind P w))) ∧ (xs.map (·.1)).Nodup
  | .set S n => h.SetOf (intKind P w) a S n
  | .ins C dx fs => H dx = some (.own a) ∧ fs.length ≤ 1000 ∧ dx ≠ a ∧ h.get? a = some (PySem.W.instObj C dx) ∧
      ∃ mA, h.Ns1 dx mA ∧ (∀ f, RelO (fs.lookup f) (mA f)) ∧ PySem.Within mA (fs.map (·.1))
  | .own _ => ∃ o, h.get? a = some o
  | .xd fs => ∃ mA, h.Ns1 a mA ∧ ∀ f, RelO (fs.lookup f) (mA f)
  | .rng lo hi => ∃ t u v, h.get? a = some { cls := .type "range", data := .fields #[.int lo t, .int hi u, .int 1 v] }
  | .frz o u => h.get? a = some o ∧ ObjOk H h a u
  | .tbl ps => h.get? a = some { cls := .none, data := .fields ps }
  | .met f x => h.get? a = some (PySem.W.methodObj (.ref f) (.ref x))
  | .ext φ => φ h ∧ (∃ o, h.get? a = some o) ∧ ∀ h1 h2 : Heap, φ h1 → (∀ o, h1.get? a = some o → h2.get? a = some o) → φ h2
/-- the abstract heap is held -/
noncomputable def HOk (H : Hp) (h : Heap) : Prop := ∀ a o, H a = some o → ObjOk P w H h a o
end

section
variable {P : Program} {w : World} {H H' : Hp} {h h' : Heap} {a : Addr} {o : HO}
theorem ObjOk.lt (x : ObjOk P w H h a o) : a < h.objs.size := by
  cases o with
  | lst xs => obtain ⟨_, _, _, _, e⟩ := x; exact Heap.lt_size e
  | tup xs => obtain ⟨_, _, _, p⟩ := x; exact p.lt
  | dK kvs => obtain ⟨_, _, _, _, o, _, _, e, _⟩ := x; exact Heap.lt_size e
  | dT kvs => obtain ⟨_, _, _, _, o, _, _, e, _⟩ := x; exact Heap.lt_size e
  | set S n => obtain ⟨o, _, _, _, e, _⟩ := x; exact Heap.lt_size e
  | ins C dx fs => obtain ⟨_, _, _, e, _⟩ := x; exact Heap.lt_size e
  | own y => obtain ⟨_, e⟩ := x; exact Heap.lt_size e
  | xd fs => obtain ⟨_, ⟨_, _, _, e, _⟩, _⟩ := x; exact Heap.lt_size e
  | rng lo hi => obtain ⟨_, _, _, e⟩ := x; exact Heap.lt_size e
  | frz ob u => obtain ⟨e, _⟩ := x; exact Heap.lt_size e
  | tbl ps => exact Heap.lt_size (show h.get? a = some _ from x)
  | met f y => exact Heap.lt_size (show h.get? a = some _ from x)
  | ext φ => obtain ⟨_, ⟨_, e⟩, _⟩ := x; exact Heap.lt_size e
theorem Paired.mapP {α β : Type} {F G : α → β → Prop} : ∀ {l₁ : List α} {l₂ : List β}, Paired F l₁ l₂ → (∀ a b, F a b → G a b) → Paired G l₁ l₂
  | _, _, .nil, _ => .nil
  | _, _, .cons r t, f => .cons (f _ _ r) (Paired.mapP t f)
/-- what an object's description leans on: its own object, its own dict, the tuples -/
theorem ObjOk.stay (x : ObjOk P w H h a o) (k : ∀ b u, (b = a ∨ H b = some (.own a)) → h.get? b = some u → h'.get? b = some u)
    (ho : ∀ b, H b = some (.own a) → H' b = some (.own a)) (ht : ∀ b xs, H b = some (.tup xs) → H' b = some (.tup xs)) : ObjOk P w H' h' a o := by
  induction o with
  | lst xs => obtain ⟨z, its, n, r, e⟩ := x; exact ⟨z, its, n, r, k _ _ (.inl rfl) e⟩
  | tup xs => obtain ⟨z, its, r, ob, e, c⟩ := x; exact ⟨z, its, r, ob, k _ _ (.inl rfl) e, c⟩
  | dK kvs => obtain ⟨z, y, vs, r, ob, es, ep, e, c⟩ := x; exact ⟨z, y, vs, r, ob, es, ep, k _ _ (.inl rfl) e, c⟩
  | dT kvs =>
    obtain ⟨z, y, xs, r, ob, es, ep, e, c⟩ := x
    exact ⟨z, y, xs, Paired.mapP r fun p q z => ⟨z.1, ht _ _ z.2.1, z.2.2⟩, ob, es, ep, k _ _ (.inl rfl) e, c⟩
  | set S n => obtain ⟨ob, es, ep, t, e, c⟩ := x; exact ⟨ob, es, ep, t, k _ _ (.inl rfl) e, c⟩
  | ins C dx fs =>
    obtain ⟨d, z, ne, e, mA, ⟨od, es, ep, e2, c⟩, r⟩ := x
    exact ⟨ho _ d, z, ne, k _ _ (.inl rfl) e, mA, ⟨od, es, ep, k _ _ (.inr d) e2, c⟩, r⟩
  | own y => obtain ⟨ob, e⟩ := x; exact ⟨ob, k _ _ (.inl rfl) e⟩
  | xd fs => obtain ⟨mA, ⟨od, es, ep, e, c⟩, r⟩ := x; exact ⟨mA, ⟨od, es, ep, k _ _ (.inl rfl) e, c⟩, r⟩
  | rng lo hi => obtain ⟨t, u, v, e⟩ := x; exact ⟨t, u, v, k _ _ (.inl rfl) e⟩
  | frz ob u ih => obtain ⟨e, q⟩ := x; exact ⟨k _ _ (.inl rfl) e, ih q⟩
  | tbl ps =>
    have e : h.get? a = some { cls := .none, data := .fields ps } := x
    show h'.get? a = some { cls := .none, data := .fields ps }
    exact k a _ (.inl rfl) e
  | met f y =>
    have e : h.get? a = some (PySem.W.methodObj (.ref f) (.ref y)) := x
    show h'.get? a = some (PySem.W.methodObj (.ref f) (.ref y))
    exact k a _ (.inl rfl) e
  | ext φ => obtain ⟨p, ⟨o, e⟩, st⟩ := x; exact ⟨st _ _ p fun o q => k _ _ (.inl rfl) q, ⟨o, k _ _ (.inl rfl) e⟩, st⟩
theorem HOk.lt (x : HOk P w H h) (e : H a = some o) : a < h.objs.size := (x a o e).lt
theorem HOk.fresh (x : HOk P w H h) (e : h.objs.size ≤ a) : H a = none := by
  cases q : H a with
  | none => rfl
  | some u => exact absurd (Nat.lt_of_lt_of_le (x.lt q) e) (Nat.lt_irrefl _)
/-- every object of the heap is kept -/
theorem HOk.kept (x : HOk P w H h) (k : ∀ b u, h.get? b = some u → h'.get? b = some u) : HOk P w H h' := fun a o e =>
  (x a o e).stay (fun b u _ q => k b u q) (fun _ q => q) fun _ _ q => q
/-- a new object is laid and tracked -/
theorem HOk.laid (x : HOk P w H h) (k : ∀ b u, h.get? b = some u → h'.get? b = some u) (hp : h.objs.size ≤ a) (new : ObjOk P w (upd H a o) h' a o) : HOk P w (upd H a o) h' := fun b u e => by
  have hn := x.fresh hp
  by_cases hb : b = a
  · subst hb; rw [upd_same] at e; cases e; exact new
  · rw [upd_ne hb] at e
    exact (x b u e).stay (fun c v _ q => k c v q) (fun c q => by rw [upd_ne (ne_of_none q hn)]; exact q) fun c xs q => by rw [upd_ne (ne_of_none q hn)]; exact q
end

/-- what may be read as u: it is u, or a known u -/
noncomputable def Rd (H : Hp) (a : Addr) (u : HO) : Prop := H a = some u ∨ ∃ o, H a = some (.frz o u)
theorem Rd.ok {P : Program} {w : World} {H : Hp} {h : Heap} {a : Addr} {u : HO} (r : Rd H a u) (x : HOk P w H h) : ObjOk P w H h a u := by
  rcases r with r | ⟨o, r⟩
  · exact x a u r
  · obtain ⟨_, q⟩ := x a _ r
    exact q
/-- what may be written -/
noncomputable def Mut : Option HO → Prop
  | some (.lst _) => True
  | some (.dK _) => True
  | some (.dT _) => True
  | some (.set _ _) => True
  | some (.ins _ _ _) => True
  | some (.ext _) => True
  | _ => False
section
variable {P : Program} {w : World} {H : Hp} {h h' : Heap} {x e : Addr} {o' : HO}
/-- the object at e is changed: x itself, or the dict of the instance x -/
theorem HOk.write (ok : HOk P w H h) (mu : Mut (H x)) (he : e = x ∨ H e = some (.own x)) (k : ∀ b u, b ≠ e → h.get? b = some u → h'.get? b = some u) (heo : ∃ u, h'.get? e = some u)
    (new : ObjOk P w (upd H x o') h' x o') : HOk P w (upd H x o') h' := fun b u q => by
  have nown : ∀ c y, H c = some (.own y) → c ≠ x := fun c y r z => by subst z; rw [r] at mu; exact mu
  have ntup : ∀ c xs, H c = some (.tup xs) → c ≠ x := fun c xs r z => by subst z; rw [r] at mu; exact mu
  by_cases hb : b = x
  · subst hb; rw [upd_same] at q; cases q; exact new
  · rw [upd_ne hb] at q
    by_cases hbe : b = e
    · have q' : H b = some (.own x) := by
        rcases he with z | z
        · exact absurd (hbe.trans z) hb
        · rw [hbe]; exact z
      rw [q] at q'; cases q'
      obtain ⟨v, hv⟩ := heo
      exact ⟨v, by rw [hbe]; exact hv⟩
    · refine (ok b u q).stay (fun c v hc r => k c v ?_ r) (fun c r => by rw [upd_ne (nown c b r)]; exact r) fun c xs r => by rw [upd_ne (ntup c xs r)]; exact r
      rcases hc with rfl | hc
      · exact hbe
      · rintro rfl
        rcases he with z | z
        · exact nown c b hc z
        · rw [hc] at z; cases z; exact hb rfl
end

/-! ### kept unless tracked; of the frames at fs (the callers') the slots may change (an exception that passes writes there); of the records at ex (iterators) nothing is said -/
structure Un (fs ex : List Addr) (H H' : Hp) (h h' : Heap) : Prop where
  keep : ∀ b o, h.get? b = some o → H b = none → b ∉ fs → b ∉ ex → h'.get? b = some o
  slot : ∀ b o, h.get? b = some o → H b = none → b ∈ fs → b ∉ ex → ∃ sl, h'.get? b = some { o with slots := sl }
  free : ∀ b o, h.get? b = some o → H b = none → b ∉ ex → H' b = none
  there : ∀ b o, h.get? b = some o → b ∉ ex → ∃ o', h'.get? b = some o'
  tups : ∀ b xs, H b = some (.tup xs) → H' b = some (.tup xs)
  frzs : ∀ b o u, H b = some (.frz o u) → H' b = some (.frz o u)
  tbls : ∀ b ps, H b = some (.tbl ps) → ∃ more, H' b = some (.tbl (ps ++ more))
section
variable {fs fs' ex ex' : List Addr} {H H1 H2 : Hp} {h h1 h2 h' : Heap} {a x e : Addr} {o : HO}
theorem Un.any (u : Un fs ex H H1 h h1) {b : Addr} {ob : Obj} (q : h.get? b = some ob) (n : H b = none) (hx : b ∉ ex) : ∃ sl, h1.get? b = some { ob with slots := sl } := by
  by_cases hb : b ∈ fs
  · exact u.slot b ob q n hb hx
  · exact ⟨ob.slots, u.keep b ob q n hb hx⟩
theorem Un.kept (k : ∀ b u, h.get? b = some u → h'.get? b = some u) : Un fs ex H H h h' :=
  ⟨fun b ob q _ _ _ => k b ob q, fun b ob q _ _ _ => ⟨ob.slots, k b ob q⟩, fun _ _ _ n _ => n, fun b ob q _ => ⟨ob, k b ob q⟩, fun _ _ q => q, fun _ _ _ q => q, fun _ ps q => ⟨#[], by rw [q]; simp⟩⟩
theorem Un.refl : Un fs ex H H h h := Un.kept fun _ _ q => q
theorem Un.laid (k : ∀ b u, h.get? b = some u → h'.get? b = some u) (hp : h.objs.size ≤ a) (hn : H a = none) : Un fs ex H (upd H a o) h h' where
  keep := fun b u q _ _ _ => k b u q
  slot := fun b u q _ _ _ => ⟨u.slots, k b u q⟩
  free := fun b u q n _ => by rw [upd_ne (Nat.ne_of_lt (Nat.lt_of_lt_of_le (Heap.lt_size q) hp))]; exact n
  there := fun b u q _ => ⟨u, k b u q⟩
  tups := fun b xs q => by rw [upd_ne (ne_of_none q hn)]; exact q
  frzs := fun b u xs q => by rw [upd_ne (ne_of_none q hn)]; exact q
  tbls := fun b ps q => ⟨#[], by rw [upd_ne (ne_of_none q hn), q]; simp⟩
theorem Un.write (mu : Mut (H x)) (he : e = x ∨ H e = some (.own x)) (k : ∀ b u, b ≠ e → h.get? b = some u → h'.get? b = some u) (heo : ∃ u, h'.get? e = some u) : Un fs ex H (upd H x o) h h' := by
  have hx : ∀ b, H b = none → b ≠ x := fun b n z => by subst z; rw [n] at mu; exact mu
  have hb : ∀ b, H b = none → b ≠ e := fun b n z => by
    subst z
    rcases he with r | r
    · exact hx b n r
    · rw [n] at r; cases r
  have hm : ∀ b u, H b = some u → ¬ Mut (some u) → b ≠ x := fun b u q nm z => by subst z; rw [q] at mu; exact nm mu
  refine ⟨fun b u q n _ _ => k b u (hb b n) q, fun b u q n _ _ => ⟨u.slots, k b u (hb b n) q⟩, fun b u q n _ => by rw [upd_ne (hx b n)]; exact n, fun b u q _ => ?_,
    fun b xs q => by rw [upd_ne (hm b _ q fun z => z)]; exact q, fun b u xs q => by rw [upd_ne (hm b _ q fun z => z)]; exact q, fun b ps q => ⟨#[], by rw [upd_ne (hm b _ q fun z => z), q]; simp⟩⟩
  by_cases hbe : b = e
  · subst hbe; exact heo
  · exact ⟨u, k b u hbe q⟩
theorem Un.mono (u : Un fs ex H H1 h h1) (hs : ∀ b ∈ fs, b ∈ fs') (hx : ∀ b ∈ ex, b ∈ ex') : Un fs' ex' H H1 h h1 :=
  ⟨fun b ob q n hb he => u.keep b ob q n (fun z => hb (hs b z)) fun z => he (hx b z), fun _ _ q n _ he => u.any q n fun z => he (hx _ z), fun b ob q n he => u.free b ob q n fun z => he (hx b z), fun b ob q he => u.there b ob q fun z => he (hx b z), u.tups, u.frzs, u.tbls⟩
end

/-! ### the heap without what is tracked -/
noncomputable def trk (h : Heap) (H : Hp) : List Addr := (List.range h.objs.size).filter fun a => (H a).isSome
noncomputable def hidT (h : Heap) (H : Hp) : Heap := PySem.W.hideAll h (trk h H)
theorem hidT_size (h : Heap) (H : Hp) : (hidT h H).objs.size = h.objs.size := PySem.W.hideAll_size _ _
theorem hidT_get {h : Heap} {H : Hp} {b : Addr} {o : Obj} (e : h.get? b = some o) (n : H b = none) : (hidT h H).get? b = some o :=
  PySem.W.hideAll_get _ e fun hm => by
    have q : (H b).isSome = true := (List.mem_filter.mp hm).2
    rw [n] at q; simp at q
theorem of_hidT {h : Heap} {H : Hp} {b : Addr} {o : Obj} (e : (hidT h H).get? b = some o) : h.get? b = some o ∧ H b = none := by
  have e' : h.get? b = some o := PySem.W.of_hideAll (trk h H) e
  refine ⟨e', ?_⟩
  cases q : H b with
  | none => rfl
  | some x =>
    have hm : b ∈ trk h H := List.mem_filter.mpr ⟨List.mem_range.mpr (Heap.lt_size e'), by simp [q]⟩
    have z : (hidT h H).get? b = none := PySem.W.hideAll_none (trk h H) hm
    rw [z] at e; cases e

/-! ### OpenK's ledger, filled with every new object but one -/
end L2

namespace L2
open PySem PySem.Spec PyProof.Rows

/-- the module's facts, over the base: the heap at the law's entry without what is tracked there -/
structure Mod (K : PySem.W.Frag) (mg : Str → Option Value) (base : Heap) : Prop where
  kin : K.In base
  glob : base.Ns mainGlobals mg
  blt : ∃ mb, base.Ns builtinsNs mb ∧ ∀ x : Str, x ≠ "__name__" → mb x = bootBuiltins x
  nolimit : base.NoLimit

/-- the context: a def's body (or a comprehension's block) running. base: fixed through the whole law; s₀, H₀: the entry; outer: the frames whose slots others may change (a def's callers); stack: all frames that run;
   ex: iterators that were made ahead of the entry and are walked here (a comprehension's); fn: the names whose cells were made at the entry (a def: all; a comprehension's block: its own); calm: not within an except suite; pn: pins that every state bears; xe: what is wanted of an exception that leaves the code -/
structure Cx where
  prog : Program
  w : World
  K : PySem.W.Frag
  mg : Str → Option Value
  base : Heap
  A : Around
  N : List Str
  s₀ : Shared
  H₀ : Hp
  env : Env
  outer : List Env
  stack : List Env
  ex : List Addr
  fn : Str → Bool
  calm : Bool
  pn : List (Addr × Obj)
  xe : Value → Shared → Prop
/-- the callers' frames -/
noncomputable def frs (l : List Env) : List Addr := l.filterMap (·.frame)
noncomputable abbrev Cx.fs (X : Cx) : List Addr := frs X.outer

noncomputable def Vis (sc : Scope) (x : Str) : Prop := sc.names.lookup x = some .local ∨ sc.names.lookup x = some .cell ∨ sc.names.lookup x = some .free
noncomputable def Loc (sc : Scope) (x : Str) : Prop := sc.names.lookup x = some .local ∨ sc.names.lookup x = some .cell
noncomputable def Look (env : Env) (h : Heap) (m : Str → Option Value) (x : Str) (u : Value) : Prop :=
  (env.kindOf x = some .local ∧ m x = some u) ∨ ((env.kindOf x = some .cell ∨ env.kindOf x = some .free) ∧ ∃ c, env.cells.lookup x = some c ∧ h.IsCell c (some u))

structure Cx.Ok (X : Cx) : Prop where
  mod : Mod X.K X.mg X.base
  kind : X.env.scope.kind = .function
  glob : X.env.globals = mainGlobals
  blt : X.env.builtins = builtinsNs
  above : X.s₀.heap.objs.size ≤ X.env.locals
  inj : ∀ x y c, X.env.cells.lookup x = some c → X.env.cells.lookup y = some c → x = y
  has : ∀ x, (X.env.kindOf x = some .cell ∨ X.env.kindOf x = some .free) → ∃ c, X.env.cells.lookup x = some c
  cab : ∀ x c, X.fn x = true → X.env.cells.lookup x = some c → X.s₀.heap.objs.size ≤ c
  hd : X.calm = true → X.A.handled = none
  frames : X.A.frames = some X.stack
  stk : X.stack = X.outer ∨ (X.stack = X.env :: X.outer ∧ X.env.frame = some X.env.locals)
  exf : ∀ b ∈ X.ex, b ≠ X.env.locals ∧ ∀ x c, X.env.cells.lookup x = some c → c ≠ b
  bs : ∀ b o, X.base.get? b = some o → X.s₀.heap.get? b = some o ∧ X.H₀ b = none
  bsz : X.base.objs.size ≤ X.s₀.heap.objs.size
  noex : ∀ b o, X.base.get? b = some o → b ∉ X.ex
  exfs : ∀ b ∈ X.ex, b ∉ X.fs
  funs : X.s₀.heap.FunFrames X.base X.outer
  frf : ∀ b ∈ X.fs, X.H₀ b = none

structure Inv (X : Cx) (pins : List (Addr × Obj)) (σ : List (Option V)) (H : Hp) (s : Shared) : Prop where
  ok : X.Ok
  os : s.os = X.s₀.os
  bare : AllBare s.gens
  base : Un X.fs X.ex X.H₀ H X.s₀.heap s.heap
  loc : ∃ m, s.heap.Ns X.env.locals m ∧ ∀ (i : Nat) (x : Str) (v : V), X.N[i]? = some x → σ[i]? = some (some v) → Vis X.env.scope x → ∃ u, RelV v u ∧ Look X.env s.heap m x u
  cell : ∀ x c, X.env.cells.lookup x = some c → ∃ v, s.heap.IsCell c v
  free : H X.env.locals = none
  freeC : ∀ x c, X.env.cells.lookup x = some c → H c = none
  pin : ∀ p ∈ X.pn ++ pins, s.heap.get? p.1 = some p.2 ∧ H p.1 = none ∧ p.1 ≠ X.env.locals ∧ p.1 ∉ X.fs ∧ ∀ v, p.2.data ≠ .cell v
  hok : HOk X.prog X.w H s.heap
  len : σ.length = X.N.length

section
variable {X : Cx} {pins : List (Addr × Obj)} {σ : List (Option V)} {H H' : Hp} {s : Shared} {h' : Heap}

theorem Cx.Ok.nofr (ok : X.Ok) {b : Addr} {o : Obj} (e : X.base.get? b = some o) : b ∉ X.fs := fun hb => by
  have := (ok.funs.mem hb).1
  rw [e] at this; cases this
theorem Inv.bs (I : Inv X pins σ H s) : ∀ b o, X.base.get? b = some o → s.heap.get? b = some o ∧ H b = none := fun b o e =>
  ⟨I.base.keep b o (I.ok.bs b o e).1 (I.ok.bs b o e).2 (I.ok.nofr e) (I.ok.noex b o e), I.base.free b o (I.ok.bs b o e).1 (I.ok.bs b o e).2 (I.ok.noex b o e)⟩
theorem Inv.bk (I : Inv X pins σ H s) : ∀ b o, X.base.get? b = some o → s.heap.get? b = some o := fun b o e => (I.bs b o e).1
theorem Inv.mod (I : Inv X pins σ H s) : Mod X.K X.mg X.base := I.ok.mod
theorem Inv.kIn (I : Inv X pins σ H s) : X.K.In s.heap := I.ok.mod.kin.keeps I.bk
theorem Inv.lt (I : Inv X pins σ H s) : X.env.locals < s.heap.objs.size := let ⟨_, hn, _⟩ := I.loc; hn.lt
theorem Inv.sz (I : Inv X pins σ H s) : X.s₀.heap.objs.size ≤ s.heap.objs.size := Nat.le_trans I.ok.above (Nat.le_of_lt I.lt)
theorem Inv.nofs (I : Inv X pins σ H s) {a : Addr} (h : s.heap.objs.size ≤ a) : a ∉ X.fs := fun hb => by
  obtain ⟨_, o, ho, _⟩ := I.ok.funs.mem hb
  exact absurd (Nat.lt_of_lt_of_le (Heap.lt_size ho) (Nat.le_trans I.sz h)) (Nat.lt_irrefl _)
theorem Inv.cne (I : Inv X pins σ H s) : ∀ x c, X.env.cells.lookup x = some c → c ≠ X.env.locals := fun x c e z => by
  obtain ⟨v, o, ho, hd⟩ := I.cell x c e
  obtain ⟨m, ⟨o', es, ep, ho', hd', _⟩, _⟩ := I.loc
  rw [z, ho'] at ho; cases ho; rw [hd'] at hd; cases hd
theorem Inv.funs (I : Inv X pins σ H s) : s.heap.FunFrames X.base X.outer := by
  have all : ∀ (l : List Env), (∀ b ∈ frs l, b ∈ X.fs) → X.s₀.heap.FunFrames X.base l → s.heap.FunFrames X.base l := by
    intro l
    induction l with
    | nil => intro _ _; trivial
    | cons env r ih =>
      intro hs hl
      obtain ⟨hk, ⟨L, o, hf, hn, ho, hd⟩, hr⟩ := hl
      have hL : L ∈ X.fs := hs L (by unfold frs; rw [List.filterMap_cons, hf]; exact List.mem_cons_self)
      obtain ⟨sl, e⟩ := I.base.slot L o ho (I.ok.frf L hL) hL fun z => I.ok.exfs L z hL
      exact ⟨hk, ⟨L, _, hf, hn, e, hd⟩, ih (fun b hb => hs b (by unfold frs; rw [List.filterMap_cons, hf]; exact List.mem_cons_of_mem _ hb)) hr⟩
  exact all X.outer (fun _ hb => hb) I.ok.funs

/-- the frames that run, for a call -/
theorem Inv.stack (I : Inv X pins σ H s) : s.heap.FunFrames X.base X.stack := by
  rcases I.ok.stk with e | ⟨e, hf⟩
  · rw [e]; exact I.funs
  · rw [e]
    obtain ⟨m, hn, _⟩ := I.loc
    refine .cons (by rw [I.ok.kind]; decide) hf hn ?_ I.funs
    exact Heap.get?_none_of_le (Nat.le_trans I.ok.bsz I.ok.above)
theorem Inv.stkSub (I : Inv X pins σ H s) : ∀ b ∈ frs X.stack, b ∈ X.env.locals :: X.fs := fun b hb => by
  rcases I.ok.stk with e | ⟨e, hf⟩
  · rw [e] at hb; exact List.mem_cons_of_mem _ hb
  · rw [e] at hb
    unfold frs at hb
    rw [List.filterMap_cons, hf] at hb
    exact hb
theorem Inv.stkFree (I : Inv X pins σ H s) : ∀ b ∈ frs X.stack, H b = none := fun b hb => by
  rcases List.mem_cons.mp (I.stkSub b hb) with e | hb
  · rw [e]; exact I.free
  · obtain ⟨_, o, ho, _⟩ := I.ok.funs.mem hb
    exact I.base.free b o ho (I.ok.frf b hb) fun z => I.ok.exfs b z hb

/-- THE STEP: the untracked objects but the frame and the records at ch are kept (the callers' frames up to slots), the frame's map is kept, the new abstract heap is held -/
theorem Inv.step {g' : Array GenState} {t' : Nat} {d' : Drawn} {ch : List Addr} (I : Inv X pins σ H s)
    (hch : ∀ b ∈ ch, (b ∈ X.ex ∨ X.s₀.heap.objs.size ≤ b) ∧ b ≠ X.env.locals ∧ (∀ x c, X.env.cells.lookup x = some c → c ≠ b) ∧ ∀ p ∈ X.pn ++ pins, p.1 ≠ b)
    (keep : ∀ b o, b ≠ X.env.locals → b ∉ X.fs → b ∉ ch → s.heap.get? b = some o → H b = none → h'.get? b = some o)
    (slot : ∀ b o, b ≠ X.env.locals → b ∈ X.fs → b ∉ ch → s.heap.get? b = some o → H b = none → ∃ sl, h'.get? b = some { o with slots := sl }) (free : ∀ b o, b ∉ ch → s.heap.get? b = some o → H b = none → H' b = none)
    (there : ∀ b o, b ∉ ch → s.heap.get? b = some o → ∃ o', h'.get? b = some o')
    (tups : ∀ b xs, H b = some (.tup xs) → H' b = some (.tup xs)) (frzs : ∀ b o u, H b = some (.frz o u) → H' b = some (.frz o u)) (tbls : ∀ b ps, H b = some (.tbl ps) → ∃ more, H' b = some (.tbl (ps ++ more)))
    (ns : ∀ m, s.heap.Ns X.env.locals m → h'.Ns X.env.locals m) (hok : HOk X.prog X.w H' h') (hg : AllBare g') :
    Inv X pins σ H' { s with heap := h', gens := g', drawn := d', toks := t' } := by
  have neL : ∀ b o, X.s₀.heap.get? b = some o → b ≠ X.env.locals := fun b o e => Nat.ne_of_lt (Nat.lt_of_lt_of_le (Heap.lt_size e) I.ok.above)
  have neC : ∀ b o, X.s₀.heap.get? b = some o → b ∉ X.ex → b ∉ ch := fun b o e hx hb => by
    rcases (hch b hb).1 with z | z
    · exact hx z
    · exact absurd (Nat.lt_of_lt_of_le (Heap.lt_size e) z) (Nat.lt_irrefl _)
  have cellK : ∀ x c, X.env.cells.lookup x = some c → ∀ v, s.heap.IsCell c v → h'.IsCell c v := fun x c e v ⟨o, ho, hd⟩ => by
    have nch : c ∉ ch := fun z => (hch c z).2.2.1 x c e rfl
    by_cases hc : c ∈ X.fs
    · obtain ⟨sl, q⟩ := slot c o (I.cne x c e) hc nch ho (I.freeC x c e)
      exact ⟨_, q, hd⟩
    · exact ⟨o, keep c o (I.cne x c e) hc nch ho (I.freeC x c e), hd⟩
  refine ⟨I.ok, I.os, hg, ⟨fun b o e n hb hx => ?_, fun b o e n hb hx => ?_, fun b o e n hx => ?_, fun b o e hx => ?_, fun b xs e => tups b xs (I.base.tups b xs e), fun b o xs e => frzs b o xs (I.base.frzs b o xs e), fun b ps e => ?_⟩, ?_, fun x c e => ?_, ?_, fun x c e => ?_, fun p hp => ?_, hok, I.len⟩
  · exact keep b o (neL b o e) hb (neC b o e hx) (I.base.keep b o e n hb hx) (I.base.free b o e n hx)
  · obtain ⟨sl, e1⟩ := I.base.slot b o e n hb hx
    obtain ⟨sl', e2⟩ := slot b _ (neL b o e) hb (neC b o e hx) e1 (I.base.free b o e n hx)
    exact ⟨sl', e2⟩
  · obtain ⟨o', e1⟩ := I.base.there b o e hx
    exact free b o' (neC b o e hx) e1 (I.base.free b o e n hx)
  · obtain ⟨o', e1⟩ := I.base.there b o e hx
    exact there b o' (neC b o e hx) e1
  · obtain ⟨m1, e1⟩ := I.base.tbls b ps e
    obtain ⟨m2, e2⟩ := tbls b _ e1
    exact ⟨m1 ++ m2, by rw [e2, Array.append_assoc]⟩
  · obtain ⟨m, hn, hl⟩ := I.loc
    refine ⟨m, ns m hn, fun i x v e1 e2 e3 => ?_⟩
    obtain ⟨u, r, l⟩ := hl i x v e1 e2 e3
    refine ⟨u, r, ?_⟩
    rcases l with l | ⟨k, c, e, z⟩
    · exact .inl l
    · exact .inr ⟨k, c, e, cellK x c e _ z⟩
  · obtain ⟨v, z⟩ := I.cell x c e
    exact ⟨v, cellK x c e v z⟩
  · obtain ⟨m, ⟨o, _, _, ho, _⟩, _⟩ := I.loc
    exact free _ o (fun z => (hch _ z).2.1 rfl) ho I.free
  · obtain ⟨v, o, ho, hd⟩ := I.cell x c e
    exact free c o (fun z => (hch c z).2.2.1 x c e rfl) ho (I.freeC x c e)
  · obtain ⟨e, n, ne, nf, d⟩ := I.pin p hp
    have nch : p.1 ∉ ch := fun z => (hch p.1 z).2.2.2 p hp rfl
    exact ⟨keep p.1 p.2 ne nf nch e n, free p.1 p.2 nch e n, ne, nf, d⟩
/-- .. where the frame's own object is kept too -/
theorem Inv.un {t' : Nat} (I : Inv X pins σ H s) (u : Un X.fs [] H H' s.heap h') (hok : HOk X.prog X.w H' h') : Inv X pins σ H' { s with heap := h', toks := t' } := by
  obtain ⟨m, ⟨o, es, ep, ho, r⟩, _⟩ := id I.loc
  obtain ⟨sl, hL⟩ := u.any ho I.free (by simp)
  exact I.step (g' := s.gens) (d' := s.drawn) (ch := []) (fun _ z => nomatch z) (fun b o _ hb _ e n => u.keep b o e n hb (by simp)) (fun b o _ hb _ e n => u.slot b o e n hb (by simp)) (fun b o _ e n => u.free b o e n (by simp)) (fun b o _ e => u.there b o e (by simp)) u.tups u.frzs u.tbls (fun m' hm => by
    obtain ⟨o', es', ep', ho', r'⟩ := hm
    rw [ho] at ho'; cases ho'
    exact ⟨_, es', ep', hL, r'⟩) hok I.bare
/-- behind a call (or a comprehension's block): the slots of this frame may have changed too, the records at ch may have turned -/
theorem Inv.call {g' : Array GenState} {t' : Nat} {d' : Drawn} {ch : List Addr} (I : Inv X pins σ H s) (u : Un (frs X.stack) ch H H' s.heap h') (hok : HOk X.prog X.w H' h') (hg : AllBare g')
    (hch : ∀ b ∈ ch, (b ∈ X.ex ∨ X.s₀.heap.objs.size ≤ b) ∧ b ≠ X.env.locals ∧ (∀ x c, X.env.cells.lookup x = some c → c ≠ b) ∧ ∀ p ∈ X.pn ++ pins, p.1 ≠ b) :
    Inv X pins σ H' { s with heap := h', gens := g', drawn := d', toks := t' } := by
  obtain ⟨m, ⟨o, es, ep, ho, r⟩, _⟩ := id I.loc
  obtain ⟨sl, hL⟩ := u.any ho I.free fun z => (hch _ z).2.1 rfl
  exact I.step (ch := ch) hch (fun b o hL hb hc e n => u.keep b o e n (fun z => (List.mem_cons.mp (I.stkSub b z)).elim hL hb) hc) (fun b o _ _ hc e n => u.any e n hc) (fun b o hc e n => u.free b o e n hc) (fun b o hc e => u.there b o e hc) u.tups u.frzs u.tbls (fun m' hm => by
    obtain ⟨o', es', ep', ho', r'⟩ := hm
    rw [ho] at ho'; cases ho'
    exact ⟨_, es', ep', hL, r'⟩) hok hg
/-- an untracked record of ours (an iterator) has turned -/
theorem Inv.turned {t' : Nat} {it : Addr} (I : Inv X pins σ H s) (k : ∀ b o, b ≠ it → s.heap.get? b = some o → h'.get? b = some o) (hn : H it = none) (hL : it ≠ X.env.locals)
    (h1 : it ∈ X.ex ∨ X.s₀.heap.objs.size ≤ it) (h2 : ∀ x c, X.env.cells.lookup x = some c → c ≠ it) (h3 : ∀ p ∈ X.pn ++ pins, p.1 ≠ it) : Inv X pins σ H { s with heap := h', toks := t' } := by
  have nit : ∀ b u, H b = some u → b ≠ it := fun b u e z => by rw [z, hn] at e; cases e
  refine I.step (g' := s.gens) (d' := s.drawn) (ch := [it]) (fun b hb => ?_) (fun b o _ _ hc e _ => k b o (fun z => hc (by simp [z])) e) (fun b o _ _ hc e _ => ⟨o.slots, k b o (fun z => hc (by simp [z])) e⟩) (fun _ _ _ _ n => n)
    (fun b o hc e => ⟨o, k b o (fun z => hc (by simp [z])) e⟩) (fun _ _ e => e) (fun _ _ _ e => e) (fun b ps e => ⟨#[], by rw [e]; simp⟩) (fun m hm => ?_) (fun b u e => ?_) I.bare
  · have e : b = it := by simpa using hb
    subst e
    exact ⟨h1, hL, h2, h3⟩
  · obtain ⟨o, es, ep, ho, r⟩ := hm
    exact ⟨o, es, ep, k _ o (Ne.symm hL) ho, r⟩
  · refine (I.hok b u e).stay (fun c v hc q => k c v ?_ q) (fun _ q => q) fun _ _ q => q
    rcases hc with z | z
    · rw [z]; exact nit b u e
    · exact nit c _ z
theorem Inv.tok (I : Inv X pins σ H s) (t : Nat) : Inv X pins σ H { s with toks := t } := I.un (h' := s.heap) (t' := t) Un.refl I.hok
/-- all objects kept -/
theorem Inv.kept {t' : Nat} (I : Inv X pins σ H s) (k : ∀ b u, s.heap.get? b = some u → h'.get? b = some u) : Inv X pins σ H { s with heap := h', toks := t' } := I.un (Un.kept k) (I.hok.kept k)
/-- a new object laid and tracked -/
theorem Inv.laid {a : Addr} {o : HO} {t' : Nat} (I : Inv X pins σ H s) (k : ∀ b u, s.heap.get? b = some u → h'.get? b = some u) (hp : s.heap.objs.size ≤ a) (new : ObjOk X.prog X.w (upd H a o) h' a o) :
    Inv X pins σ (upd H a o) { s with heap := h', toks := t' } := I.un (Un.laid k hp (I.hok.fresh hp)) (I.hok.laid k hp new)
/-- an object written -/
theorem Inv.write {x e : Addr} {o : HO} {t' : Nat} (I : Inv X pins σ H s) (mu : Mut (H x)) (he : e = x ∨ H e = some (.own x)) (k : ∀ b u, b ≠ e → s.heap.get? b = some u → h'.get? b = some u) (heo : ∃ u, h'.get? e = some u)
    (new : ObjOk X.prog X.w (upd H x o) h' x o) : Inv X pins σ (upd H x o) { s with heap := h', toks := t' } := I.un (Un.write mu he k heo) (I.hok.write mu he k heo new)
theorem Inv.pins_of {pins' : List (Addr × Obj)} (I : Inv X pins σ H s) (h : ∀ p ∈ pins', s.heap.get? p.1 = some p.2 ∧ H p.1 = none ∧ p.1 ≠ X.env.locals ∧ p.1 ∉ X.fs ∧ ∀ v, p.2.data ≠ .cell v) : Inv X pins' σ H s :=
  ⟨I.ok, I.os, I.bare, I.base, I.loc, I.cell, I.free, I.freeC, fun p hp => (List.mem_append.mp hp).elim (fun z => I.pin p (List.mem_append_left _ z)) (h p), I.hok, I.len⟩

theorem nodup_ix {N : List Str} (hN : N.Nodup) {i j : Nat} {x : Str} (a : N[i]? = some x) (b : N[j]? = some x) : i = j := by
  obtain ⟨h1, e1⟩ := List.getElem?_eq_some_iff.mp a
  obtain ⟨h2, e2⟩ := List.getElem?_eq_some_iff.mp b
  exact (List.getElem_inj hN).mp (e1.trans e2.symm)

/-- a name is stored; what changed -/
theorem store_ok2 {M : Model} {A : Around} {E : Value → Shared → Prop} {i : Nat} {x : Str} {v : V} {u : Value} {Q : Unit → Shared → Prop} (I : Inv X pins σ H s) (hN : X.N.Nodup) (hi : X.N[i]? = some x) (hx : Loc X.env.scope x) (r : RelV v u)
    (h : ∀ s', Inv X pins (σ.set i (some v)) H s' → (∃ a, Heap.SameBut a s.heap s'.heap ∧ (a = X.env.locals ∨ X.env.cells.lookup x = some a)) → Q () s') (hf : X.fn x = true ∨ X.env.scope.names.lookup x = some .local := by first | exact .inl rfl | exact .inr rfl | assumption) : wpAny M A (storeName X.env x u) Q E s := by
  obtain ⟨m, hn, hl⟩ := id I.loc
  have hcls : (X.env.scope.kind == .class || (X.env.scope.kind == .module && X.env.locals != X.env.globals)) = false := by rw [I.ok.kind]; rfl
  have hiσ : i < σ.length := by rw [I.len]; exact (List.getElem?_eq_some_iff.mp hi).1
  have cne := I.cne
  have tracked : ∀ {a : Addr} {h' : Heap}, (∃ o, s.heap.get? a = some o ∧ H a = none) → Heap.SameBut a s.heap h' → HOk X.prog X.w H h' := fun {a h'} ha hs b ob e => by
    obtain ⟨_, _, hfree⟩ := ha
    refine (I.hok b ob e).stay (fun c w' hc q => (hs.2 c ?_).trans q) (fun _ q => q) fun _ _ q => q
    rintro rfl
    rcases hc with rfl | hc
    · rw [hfree] at e; cases e
    · rw [hfree] at hc; cases hc
  rcases hx with hk | hk
  · refine wpAny_storeName_local hk hn (fun h' hn' hs => ?_) hcls
    obtain ⟨oL, _, _, hoL, _⟩ := id hn
    refine h _ ⟨I.ok, I.os, I.bare, ⟨fun b o e n hb hx => ?_, fun b o e n hb hx => ?_, I.base.free, fun b o e hx => ?_, I.base.tups, I.base.frzs, I.base.tbls⟩, ⟨_, hn', fun j y v' e1 e2 e3 => ?_⟩, fun y c e => ?_, I.free, I.freeC, fun p hp => ?_, tracked ⟨oL, hoL, I.free⟩ hs, by simpa using I.len⟩ ⟨_, hs, .inl rfl⟩
    · exact (hs.2 b (Nat.ne_of_lt (Nat.lt_of_lt_of_le (Heap.lt_size e) I.ok.above))).trans (I.base.keep b o e n hb hx)
    · obtain ⟨sl, e1⟩ := I.base.slot b o e n hb hx
      exact ⟨sl, (hs.2 b (Nat.ne_of_lt (Nat.lt_of_lt_of_le (Heap.lt_size e) I.ok.above))).trans e1⟩
    · obtain ⟨o', e1⟩ := I.base.there b o e hx
      exact ⟨o', (hs.2 b (Nat.ne_of_lt (Nat.lt_of_lt_of_le (Heap.lt_size e) I.ok.above))).trans e1⟩
    · by_cases hj : j = i
      · subst hj
        rw [hi] at e1; cases e1
        rw [List.getElem?_set_self hiσ] at e2
        cases e2
        exact ⟨u, r, .inl ⟨hk, by simp⟩⟩
      · rw [List.getElem?_set_ne (Ne.symm hj)] at e2
        obtain ⟨u', r', q⟩ := hl j y v' e1 e2 e3
        refine ⟨u', r', ?_⟩
        rcases q with ⟨k, e⟩ | ⟨k, c, e, z⟩
        · refine .inl ⟨k, ?_⟩
          have : y ≠ x := fun e => hj (nodup_ix hN e1 (e ▸ hi))
          simp [this, e]
        · exact .inr ⟨k, c, e, z.sameBut hs (cne y c e)⟩
    · obtain ⟨w', z⟩ := I.cell y c e
      exact ⟨w', z.sameBut hs (cne y c e)⟩
    · obtain ⟨e, n, ne, nf, d⟩ := I.pin p hp
      exact ⟨(hs.2 p.1 ne).trans e, n, ne, nf, d⟩
  · have hfn : X.fn x = true := by
      rcases hf with z | z
      · exact z
      · rw [z] at hk; cases hk
    obtain ⟨c, hc⟩ := I.ok.has x (.inl hk)
    obtain ⟨w', z⟩ := I.cell x c hc
    refine wpAny_storeName_cell I.ok.kind hk hc z (fun h' hc' hs => ?_)
    obtain ⟨oc, hoc, hocd⟩ := id z
    refine h { s with heap := h' } ⟨I.ok, I.os, I.bare, ⟨fun b o e n hb hx => ?_, fun b o e n hb hx => ?_, I.base.free, fun b o e hx => ?_, I.base.tups, I.base.frzs, I.base.tbls⟩, ⟨m, hn.sameBut hs (Ne.symm (cne x c hc)), fun j y v' e1 e2 e3 => ?_⟩, fun y c' e => ?_, I.free, I.freeC, fun p hp => ?_, tracked ⟨oc, hoc, I.freeC x c hc⟩ hs, by simpa using I.len⟩ ⟨c, hs, .inr hc⟩
    · exact (hs.2 b (Nat.ne_of_lt (Nat.lt_of_lt_of_le (Heap.lt_size e) (I.ok.cab x c hfn hc)))).trans (I.base.keep b o e n hb hx)
    · obtain ⟨sl, e1⟩ := I.base.slot b o e n hb hx
      exact ⟨sl, (hs.2 b (Nat.ne_of_lt (Nat.lt_of_lt_of_le (Heap.lt_size e) (I.ok.cab x c hfn hc)))).trans e1⟩
    · obtain ⟨o', e1⟩ := I.base.there b o e hx
      exact ⟨o', (hs.2 b (Nat.ne_of_lt (Nat.lt_of_lt_of_le (Heap.lt_size e) (I.ok.cab x c hfn hc)))).trans e1⟩
    · by_cases hj : j = i
      · subst hj
        rw [hi] at e1; cases e1
        rw [List.getElem?_set_self hiσ] at e2
        cases e2
        exact ⟨u, r, .inr ⟨.inl hk, c, hc, hc'⟩⟩
      · rw [List.getElem?_set_ne (Ne.symm hj)] at e2
        obtain ⟨u', r', q⟩ := hl j y v' e1 e2 e3
        refine ⟨u', r', ?_⟩
        rcases q with q | ⟨k, c', e, z'⟩
        · exact .inl q
        · refine .inr ⟨k, c', e, z'.sameBut hs ?_⟩
          rintro rfl
          exact hj (nodup_ix hN e1 (I.ok.inj _ _ _ e hc ▸ hi))
    · by_cases hcc : c' = c
      · subst hcc; exact ⟨_, hc'⟩
      · obtain ⟨w2, z2⟩ := I.cell y c' e
        exact ⟨w2, z2.sameBut hs hcc⟩
    · obtain ⟨e, n, ne, nf, d⟩ := I.pin p hp
      refine ⟨(hs.2 p.1 ?_).trans e, n, ne, nf, d⟩
      intro q
      rw [q, hoc] at e
      have q' : oc = p.2 := Option.some.inj e
      exact d w' (by rw [← q']; exact hocd)
theorem store_ok {M : Model} {A : Around} {E : Value → Shared → Prop} {i : Nat} {x : Str} {v : V} {u : Value} {Q : Unit → Shared → Prop} (I : Inv X pins σ H s) (hN : X.N.Nodup) (hi : X.N[i]? = some x) (hx : Loc X.env.scope x) (r : RelV v u)
    (h : ∀ s', Inv X pins (σ.set i (some v)) H s' → Q () s') (hf : X.fn x = true ∨ X.env.scope.names.lookup x = some .local := by first | exact .inl rfl | exact .inr rfl | assumption) : wpAny M A (storeName X.env x u) Q E s :=
  store_ok2 I hN hi hx r (fun s' I' _ => h s' I') hf
/-- behind a call or a block, the state as it is -/
theorem Inv.call' {s' : Shared} {ch : List Addr} (I : Inv X pins σ H s) (ho : s'.os = s.os) (u : Un (frs X.stack) ch H H' s.heap s'.heap) (hok : HOk X.prog X.w H' s'.heap) (hg : AllBare s'.gens)
    (hch : ∀ b ∈ ch, (b ∈ X.ex ∨ X.s₀.heap.objs.size ≤ b) ∧ b ≠ X.env.locals ∧ (∀ x c, X.env.cells.lookup x = some c → c ≠ b) ∧ ∀ p ∈ X.pn ++ pins, p.1 ≠ b) : Inv X pins σ H' s' := by
  obtain ⟨h', g', d', t', o'⟩ := s'
  have e : o' = s.os := ho
  subst e
  exact I.call (g' := g') (t' := t') (d' := d') u hok hg hch
end

/-! ### the judgements -/
/-- an exception: its class, its own dict's address (where it has one), the abstract heap behind it -/
noncomputable abbrev XK := Value → Option Addr → Hp → Prop
noncomputable abbrev St := List (Option V)
noncomputable abbrev VK := V → Hp → Prop
/-- an expression's reading; a test's; an argument list's -/
noncomputable abbrev TE := St → Hp → VK → Prop
noncomputable abbrev TT := St → Hp → (Bool → Hp → Prop) → Prop
noncomputable abbrev TA := St → Hp → (List V → Hp → Prop) → Prop
/-- what is wanted behind a statement -/
structure Ends where
  nx : St → Hp → Prop
  rt : VK
  bk : St → Hp → Prop := fun _ _ => False
  ct : St → Hp → Prop := fun _ _ => False
noncomputable abbrev TS := Ends → St → Hp → Prop

noncomputable def EP (X : Cx) (pins : List (Addr × Obj)) (σ : St) (Q : VK) (u : Value) (s' : Shared) : Prop := ∃ v H', Inv X pins σ H' s' ∧ RelV v u ∧ Q v H'
noncomputable def TP (X : Cx) (pins : List (Addr × Obj)) (σ : St) (Q : Bool → Hp → Prop) (b : Bool) (s' : Shared) : Prop := ∃ H', Inv X pins σ H' s' ∧ Q b H'
noncomputable def AP (X : Cx) (pins : List (Addr × Obj)) (σ : St) (Q : List V → Hp → Prop) (us : List Value) (s' : Shared) : Prop := ∃ vs H', Inv X pins σ H' s' ∧ Vals vs us ∧ Q vs H'
noncomputable def SP (X : Cx) (pins : List (Addr × Obj)) (D : Ends) (f : Flow) (s' : Shared) : Prop :=
  match f with
  | .next => ∃ σ' H', Inv X pins σ' H' s' ∧ D.nx σ' H'
  | .brk => ∃ σ' H', Inv X pins σ' H' s' ∧ D.bk σ' H'
  | .cont => ∃ σ' H', Inv X pins σ' H' s' ∧ D.ct σ' H'
  | .ret u => ∃ v σ' H', Inv X pins σ' H' s' ∧ RelV v u ∧ D.rt v H'

structure PE (X : Cx) (e : Expr) (t : TE) : Prop where
  go : ∀ (pins : List (Addr × Obj)) (s : Shared) (σ : St) (H : Hp) (Q : VK), Inv X pins σ H s → t σ H Q → wpAny (model X.prog X.w) X.A (eval e X.env) (EP X pins σ Q) X.xe s
noncomputable instance {X : Cx} {e : Expr} {t : TE} : CoeFun (PE X e t) fun _ => ∀ (pins : List (Addr × Obj)) (s : Shared) (σ : St) (H : Hp) (Q : VK), Inv X pins σ H s → t σ H Q → wpAny (model X.prog X.w) X.A (eval e X.env) (EP X pins σ Q) X.xe s := ⟨fun h => h.go⟩
structure PT (X : Cx) (e : Expr) (t : TT) : Prop where
  go : ∀ (pins : List (Addr × Obj)) (s : Shared) (σ : St) (H : Hp) (Q : Bool → Hp → Prop), Inv X pins σ H s → t σ H Q → wpAny (model X.prog X.w) X.A (isTrue e X.env (eval e X.env)) (TP X pins σ Q) X.xe s
noncomputable instance {X : Cx} {e : Expr} {t : TT} : CoeFun (PT X e t) fun _ => ∀ (pins : List (Addr × Obj)) (s : Shared) (σ : St) (H : Hp) (Q : Bool → Hp → Prop), Inv X pins σ H s → t σ H Q → wpAny (model X.prog X.w) X.A (isTrue e X.env (eval e X.env)) (TP X pins σ Q) X.xe s := ⟨fun h => h.go⟩
/-- a test whatever its 'whole' is (and, or) -/
structure PW (X : Cx) (e : Expr) (t : TT) : Prop where
  go : ∀ (whole : Sem Value) (pins : List (Addr × Obj)) (s : Shared) (σ : St) (H : Hp) (Q : Bool → Hp → Prop), Inv X pins σ H s → t σ H Q → wpAny (model X.prog X.w) X.A (isTrue e X.env whole) (TP X pins σ Q) X.xe s
noncomputable instance {X : Cx} {e : Expr} {t : TT} : CoeFun (PW X e t) fun _ => ∀ (whole : Sem Value) (pins : List (Addr × Obj)) (s : Shared) (σ : St) (H : Hp) (Q : Bool → Hp → Prop), Inv X pins σ H s → t σ H Q → wpAny (model X.prog X.w) X.A (isTrue e X.env whole) (TP X pins σ Q) X.xe s := ⟨fun h => h.go⟩
theorem PW.pt {X : Cx} {e : Expr} {t : TT} (h : PW X e t) : PT X e t := ⟨h.go _⟩
/-- an argument list (no star), from the left -/
structure PA (X : Cx) (es : List Expr) (t : TA) : Prop where
  go : ∀ (pos : Pos) (pins : List (Addr × Obj)) (s : Shared) (σ : St) (H : Hp) (Q : List V → Hp → Prop), Inv X pins σ H s → t σ H Q → wpAny (model X.prog X.w) X.A (spliced (backTo pos (starEach es X.env))) (AP X pins σ Q) X.xe s
noncomputable instance {X : Cx} {es : List Expr} {t : TA} : CoeFun (PA X es t) fun _ => ∀ (pos : Pos) (pins : List (Addr × Obj)) (s : Shared) (σ : St) (H : Hp) (Q : List V → Hp → Prop), Inv X pins σ H s → t σ H Q → wpAny (model X.prog X.w) X.A (spliced (backTo pos (starEach es X.env))) (AP X pins σ Q) X.xe s := ⟨fun h => h.go⟩
structure PS (X : Cx) (st : Stmt) (t : TS) : Prop where
  go : ∀ (pins : List (Addr × Obj)) (s : Shared) (σ : St) (H : Hp) (D : Ends), Inv X pins σ H s → t D σ H → wpAny (model X.prog X.w) X.A (exec st X.env) (SP X pins D) X.xe s
noncomputable instance {X : Cx} {st : Stmt} {t : TS} : CoeFun (PS X st t) fun _ => ∀ (pins : List (Addr × Obj)) (s : Shared) (σ : St) (H : Hp) (D : Ends), Inv X pins σ H s → t D σ H → wpAny (model X.prog X.w) X.A (exec st X.env) (SP X pins D) X.xe s := ⟨fun h => h.go⟩
structure PSs (X : Cx) (st : List Stmt) (t : TS) : Prop where
  go : ∀ (pins : List (Addr × Obj)) (s : Shared) (σ : St) (H : Hp) (D : Ends), Inv X pins σ H s → t D σ H → wpAny (model X.prog X.w) X.A (execs st X.env) (SP X pins D) X.xe s
noncomputable instance {X : Cx} {st : List Stmt} {t : TS} : CoeFun (PSs X st t) fun _ => ∀ (pins : List (Addr × Obj)) (s : Shared) (σ : St) (H : Hp) (D : Ends), Inv X pins σ H s → t D σ H → wpAny (model X.prog X.w) X.A (execs st X.env) (SP X pins D) X.xe s := ⟨fun h => h.go⟩
/-- weaken the end -/
theorem thn {α : Type} {t : Sem α} {Q Q' : α → Shared → Prop} {M : Model} {A : Around} {E : Value → Shared → Prop} {s : Shared} (h : wpAny M A t Q E s) (hQ : ∀ a s, Q a s → Q' a s) : wpAny M A t Q' E s := wpAny_mono h hQ fun _ _ x => x
end L2

namespace L2
open PySem PySem.Spec PyProof.Rows
section
variable {X : Cx}

/-- two expressions in a row -/
theorem bin {a b : Expr} {ta tb : TE} (ha : PE X a ta) (hb : PE X b tb) {pins : List (Addr × Obj)} {s : Shared} {σ : St} {H : Hp} {R : V → V → Hp → Prop} (I : Inv X pins σ H s) (h : ta σ H fun x H1 => tb σ H1 fun y H2 => R x y H2)
    {α : Type} {Q : α → Shared → Prop} {f : Value → Value → Sem α}
    (hf : ∀ v u s2 x y H2, Inv X pins σ H2 s2 → RelV x v → RelV y u → R x y H2 → wpAny (model X.prog X.w) X.A (f v u) Q X.xe s2) :
    wpAny (model X.prog X.w) X.A (eval a X.env) (fun v s₁ => wpAny (model X.prog X.w) X.A (eval b X.env) (fun u s₂ => wpAny (model X.prog X.w) X.A (f v u) Q X.xe s₂) X.xe s₁) X.xe s := by
  refine thn (ha pins s σ H _ I h) fun v s1 ⟨x, H1, I1, r1, q1⟩ => ?_
  refine thn (hb pins s1 σ H1 _ I1 q1) fun u s2 ⟨y, H2, I2, r2, q2⟩ => ?_
  exact hf v u s2 x y H2 I2 r1 r2 q2

/-! ### names and constants -/
noncomputable def tVar (i : Nat) : TE := fun σ H Q => ∃ v, σ[i]? = some (some v) ∧ Q v H
noncomputable def tC (v : V) : TE := fun _ H Q => Q v H
theorem pe_var {i : Nat} {x : Str} {pos : Pos} (hN : X.N[i]? = some x) (hv : Vis X.env.scope x) (hd : (x == ("__debug__" : Str)) = false := by decide) (hcd : (x == ("__classdict__" : Str)) = false := by decide) : PE X (.Name x pos) (tVar i) := by
  (try refine ⟨?_⟩); intro pins s σ H Q I h
  obtain ⟨v, e, h⟩ := h
  obtain ⟨m, hn, hl⟩ := I.loc
  obtain ⟨u, r, l⟩ := hl i x v hN e hv
  have fin : EP X pins σ Q u s := ⟨v, H, I, r, h⟩
  rcases l with ⟨hk, hm⟩ | ⟨hk, c, hc, hcell⟩
  · exact wpAny_Name (wpAny_loadName_local I.ok.kind hk hn hm fin) hd
  · rcases hk with hk | hk
    · exact wpAny_Name (wpAny_loadName_cell I.ok.kind hk hc hcell fin) hd
    · exact wpAny_Name (wpAny_loadName_free I.ok.kind hk hc hcell fin hcd) hd
theorem pe_int {i j pos} : PE X (.Constant (.int i) j pos) (tC (.int i)) := ⟨fun _ _ _ H _ I h => wpAny_Constant_int ⟨.int i, H, I.tok _, ⟨_, rfl⟩, h⟩⟩
theorem pe_bl {b j pos} : PE X (.Constant (.bool b) j pos) (tC (.bl b)) := ⟨fun _ _ _ H _ I h => Constant_bool ⟨.bl b, H, I, rfl, h⟩⟩
theorem pe_non {j pos} : PE X (.Constant .none j pos) (tC .non) := ⟨fun _ _ _ H _ I h => Constant_none ⟨.non, H, I, rfl, h⟩⟩
theorem pe_str {x j pos} : PE X (.Constant (.str x) j pos) (tC (.str x)) := ⟨fun _ _ _ H _ I h => Calls.Constant_str ⟨.str x, H, I.tok _, ⟨_, rfl⟩, h⟩⟩

/-- a global name of the def -/
noncomputable def Gl (X : Cx) (x : Str) : Prop := X.env.kindOf x = some .globalImplicit
theorem ld_glob {E : Value → Shared → Prop} {pins : List (Addr × Obj)} {s : Shared} {σ : St} {H : Hp} {x : Str} {u : Value} {pos : Pos} {Q : Value → Shared → Prop} (I : Inv X pins σ H s) (hg : Gl X x) (hm : X.mg x = some u) (h : Q u s)
    (hd : (x == ("__debug__" : Str)) = false := by decide) : wpAny (model X.prog X.w) X.A (eval (.Name x pos) X.env) Q E s :=
  Calls.Name_function_global I.ok.kind hg (Calls.loadGlobal_global (by rw [I.ok.glob]; exact I.mod.glob.keeps I.bk) hm h) hd
theorem ld_blt {E : Value → Shared → Prop} {pins : List (Addr × Obj)} {s : Shared} {σ : St} {H : Hp} {x : Str} {u : Value} {pos : Pos} {Q : Value → Shared → Prop} (I : Inv X pins σ H s) (hg : Gl X x) (hm : X.mg x = none) (hv : bootBuiltins x = some u) (h : Q u s)
    (hn : x ≠ "__name__" := by decide) (hd : (x == ("__debug__" : Str)) = false := by decide) : wpAny (model X.prog X.w) X.A (eval (.Name x pos) X.env) Q E s := by
  obtain ⟨mb, h1, h2⟩ := I.mod.blt
  exact Calls.Name_function_global I.ok.kind hg (Calls.loadGlobal_builtin (by rw [I.ok.glob]; exact I.mod.glob.keeps I.bk) hm (by rw [I.ok.blt]; exact h1.keeps I.bk) ((h2 x hn).trans hv) h) hd
/-- a module's constant, a class, a function, as a value -/
theorem pe_glob {x : Str} {v : V} {u : Value} {pos : Pos} (hg : Gl X x) (hm : X.mg x = some u) (r : RelV v u) (hd : (x == ("__debug__" : Str)) = false := by decide) : PE X (.Name x pos) (tC v) := ⟨fun _ _ _ H _ I h => ld_glob I hg hm ⟨v, H, I, r, h⟩ hd⟩
theorem pe_bltn {x : Str} {v : V} {u : Value} {pos : Pos} (hg : Gl X x) (hm : X.mg x = none) (hv : bootBuiltins x = some u) (r : RelV v u) (hn : x ≠ "__name__" := by decide) (hd : (x == ("__debug__" : Str)) = false := by decide) : PE X (.Name x pos) (tC v) := ⟨fun _ _ _ H _ I h => ld_blt I hg hm hv ⟨v, H, I, r, h⟩ hn hd⟩

/-! ### arithmetic -/
variable {a b : Expr} {ta tb : TE} {pos : Pos}
/-! ### comparisons -/
/-- a comparison as a value, as a test -/
noncomputable def tB (t : TE) : TT := fun σ H Q => t σ H fun x H1 => ∃ c, x = .bl c ∧ Q c H1
/-- an expression whose value is a bool, as a test -/
theorem pt_val {e : Expr} {t : TE} (h : PE X e t) (he : ∀ whole, isTrue e X.env whole = (do let v ← whole; standAt e.pos; holding [v] (truthy v)) := by intro _; rfl) : PT X e (tB t) := by
  (try refine ⟨?_⟩); intro pins s σ H Q I hw
  refine isTrue_plain (thn (h pins s σ H _ I hw) fun v s1 ⟨x, H1, I1, r1, q1⟩ => ?_) (he _)
  obtain ⟨d, rfl, q⟩ := q1
  cases r1
  exact wpAny_truthy_bool ⟨H1, I1, q⟩

/-! ### and, or, not -/
variable {tA tB' : TT} {rest : List Expr}
noncomputable def tOr (t u : TT) : TT := fun σ H Q => t σ H fun c H1 => if c = true then Q true H1 else u σ H1 Q
noncomputable def tNot (t : TT) : TT := fun σ H Q => t σ H fun c H1 => Q (!c) H1
theorem pw_or1 (ha : PT X a tA) : PW X (.BoolOp .Or [a] pos) tA := by
  (try refine ⟨?_⟩); intro wh pins s σ H Q I h
  refine isTrue_or (thn (ha pins s σ H Q I h) fun c s1 e => ?_)
  cases c with
  | false => exact isTrue_or_nil e
  | true => exact e
theorem pw_or (ha : PT X a tA) (hb : PW X (.BoolOp .Or (b :: rest) pos) tB') : PW X (.BoolOp .Or (a :: b :: rest) pos) (tOr tA tB') := by
  (try refine ⟨?_⟩); intro wh pins s σ H Q I h
  refine isTrue_or (thn (ha pins s σ H _ I h) fun c s1 ⟨H1, I1, q1⟩ => ?_)
  cases c with
  | true => exact ⟨H1, I1, q1⟩
  | false => exact hb wh pins s1 σ H1 Q I1 q1
theorem pt_not (ha : PT X a tA) : PT X (.UnaryOp .Not a pos) (tNot tA) := by
  (try refine ⟨?_⟩); intro pins s σ H Q I h
  exact isTrue_not (ha pins s σ H (fun c H1 => Q (!c) H1) I h)
/-- .. as values (bools) -/
noncomputable def tAndV (ta tb : TE) : TE := fun σ H Q => ta σ H fun x H1 => ∃ c, x = .bl c ∧ if c = true then tb σ H1 Q else Q (.bl false) H1
noncomputable def tNotV (ta : TE) : TE := fun σ H Q => ta σ H fun x H1 => ∃ c, x = .bl c ∧ Q (.bl (!c)) H1
theorem pe_one {op} {t : TE} (h : PE X a t) : PE X (.BoolOp op [a] pos) t := ⟨fun pins s σ H Q I hw => BoolOp_one (h pins s σ H Q I hw)⟩
theorem pe_and (ha : PE X a ta) (hb : PE X (.BoolOp .And (b :: rest) pos) tb) : PE X (.BoolOp .And (a :: b :: rest) pos) (tAndV ta tb) := by
  (try refine ⟨?_⟩); intro pins s σ H Q I h
  refine BoolOp_and (thn (ha pins s σ H _ I h) fun v s1 ⟨x, H1, I1, r1, q1⟩ => ?_)
  obtain ⟨c, rfl, q1⟩ := q1
  cases r1
  refine wpAny_truthy_bool ?_
  cases c with
  | true => exact hb pins s1 σ H1 Q I1 q1
  | false => exact ⟨.bl false, H1, I1, rfl, q1⟩
theorem pe_not (ha : PE X a ta) : PE X (.UnaryOp .Not a pos) (tNotV ta) := by
  (try refine ⟨?_⟩); intro pins s σ H Q I h
  refine UnaryOp_ (thn (ha pins s σ H _ I h) fun v s1 ⟨x, H1, I1, r1, q1⟩ => ?_)
  obtain ⟨c, rfl, q1⟩ := q1
  cases r1
  exact not_of (wpAny_truthy_bool ⟨.bl (!c), H1, I1, rfl, q1⟩)
end
end L2

namespace L2
open PySem PySem.Spec PyProof.Rows

/-! ### a list, a tuple that is read: tracked, frozen, or an object of the module -/
noncomputable def SqL (K : PySem.W.Frag) (H : Hp) (a : Addr) (xs : List V) : Prop :=
  Rd H a (.lst xs) ∨
    ∃ (o : Obj) (its : Array Value) (n : Nat), K.lookup a = some o ∧ o.cls = .type "list" ∧ o.dict = none ∧ o.data = .seq its n ∧ its.size ≤ sizeLine ∧ Vals xs its.toList
noncomputable def SqT (K : PySem.W.Frag) (H : Hp) (a : Addr) (xs : List V) : Prop :=
  Rd H a (.tup xs) ∨
    ∃ (o : Obj) (its : Array Value) (n : Nat), K.lookup a = some o ∧ o.cls = .type "tuple" ∧ o.data = .seq its n ∧ its.size ≤ sizeLine ∧ Vals xs its.toList
noncomputable def absV : Value → Option V
  | .none => some .non
  | .bool b => some (.bl b)
  | .int i _ => some (.int i)
  | .str x _ => some (.str x)
  | .bytes b _ => some (.byt b)
  | .float b _ => some (.flt b)
  | .ref a => some (.ref a)
  | .type n => some (.ty n)
  | _ => none
theorem RelV.abs {x : V} {u : Value} (r : RelV x u) : absV u = some x := by
  cases x with
  | non => cases r; rfl
  | bl _ => cases r; rfl
  | int _ => obtain ⟨t, rfl⟩ := r; rfl
  | str _ => obtain ⟨t, rfl⟩ := r; rfl
  | byt _ => obtain ⟨t, rfl⟩ := r; rfl
  | flt _ => obtain ⟨t, rfl⟩ := r; rfl
  | ref _ => cases r; rfl
  | ty _ => cases r; rfl
theorem RelV.inj {x y : V} {u : Value} (r : RelV x u) (q : RelV y u) : x = y := Option.some.inj (r.abs.symm.trans q.abs)
theorem Vals.inj : ∀ {xs ys : List V} {us : List Value}, Vals xs us → Vals ys us → xs = ys
  | _, _, _, .nil, .nil => rfl
  | _, _, _, .cons r t, .cons r' t' => by rw [r.inj r', Vals.inj t t']
section
variable {X : Cx} {pins : List (Addr × Obj)} {σ : St} {H : Hp} {s : Shared} {a : Addr} {xs ys : List V}
theorem SqL.of {K : PySem.W.Frag} (h : H a = some (.lst xs)) : SqL K H a xs := .inl (.inl h)
theorem SqT.of {K : PySem.W.Frag} (h : H a = some (.tup xs)) : SqT K H a xs := .inl (.inl h)
theorem Inv.list (I : Inv X pins σ H s) (h : SqL X.K H a xs) : ∃ its : List Value, Vals xs its ∧ PlainL s.heap a its.toArray ∧ xs.length ≤ sizeLine := by
  rcases h with h | ⟨o, its, n, hk, hc, hd, hs, hz, r⟩
  · obtain ⟨z, its, n, r, e⟩ := h.ok I.hok
    exact ⟨its, r, ⟨_, n, e, rfl, rfl, rfl⟩, z⟩
  · refine ⟨its.toList, r, ⟨o, n, I.kIn a o hk, hc, hd, by simpa using hs⟩, ?_⟩
    have e := r.length
    simp only [Array.length_toList] at e
    omega
theorem Inv.tuple (I : Inv X pins σ H s) (h : SqT X.K H a xs) : ∃ its : List Value, Vals xs its ∧ IsTup s.heap a its.toArray ∧ xs.length ≤ sizeLine := by
  rcases h with h | ⟨o, its, n, hk, hc, hs, hz, r⟩
  · obtain ⟨z, its, r, p⟩ := h.ok I.hok
    exact ⟨its, r, p, z⟩
  · refine ⟨its.toList, r, ⟨o, I.kIn a o hk, hc, n, by simpa using hs⟩, ?_⟩
    have e := r.length
    simp only [Array.length_toList] at e
    omega
theorem Inv.list_inj (I : Inv X pins σ H s) (h : SqL X.K H a xs) (h' : SqL X.K H a ys) : xs = ys := by
  obtain ⟨its, r, ⟨o, n, e, _, _, d⟩, _⟩ := I.list h
  obtain ⟨its', r', ⟨o', n', e', _, _, d'⟩, _⟩ := I.list h'
  rw [e] at e'; cases e'
  rw [d] at d'
  injection d' with d1 _
  have : its = its' := by simpa using congrArg Array.toList d1
  subst this
  exact r.inj r'
end

/-! ### another wish about exceptions -/
noncomputable abbrev Cx.wish (X : Cx) (E : Value → Shared → Prop) : Cx := { X with xe := E }
/-- no exception leaves -/
noncomputable abbrev Cx.nox (X : Cx) : Cx := X.wish fun _ _ => False
theorem Cx.Ok.wish {X : Cx} (ok : X.Ok) (E : Value → Shared → Prop) : (X.wish E).Ok :=
  ⟨ok.mod, ok.kind, ok.glob, ok.blt, ok.above, ok.inj, ok.has, ok.cab, ok.hd, ok.frames, ok.stk, ok.exf, ok.bs, ok.bsz, ok.noex, ok.exfs, ok.funs, ok.frf⟩
theorem Cx.Ok.unwish {X : Cx} {E : Value → Shared → Prop} (ok : (X.wish E).Ok) : X.Ok :=
  ⟨ok.mod, ok.kind, ok.glob, ok.blt, ok.above, ok.inj, ok.has, ok.cab, ok.hd, ok.frames, ok.stk, ok.exf, ok.bs, ok.bsz, ok.noex, ok.exfs, ok.funs, ok.frf⟩
section
variable {X : Cx} {pins : List (Addr × Obj)} {σ : St} {H : Hp} {s : Shared} {E : Value → Shared → Prop}
theorem Inv.wish (I : Inv X pins σ H s) (E : Value → Shared → Prop) : Inv (X.wish E) pins σ H s := ⟨I.ok.wish E, I.os, I.bare, I.base, I.loc, I.cell, I.free, I.freeC, I.pin, I.hok, I.len⟩
theorem Inv.unwish (I : Inv (X.wish E) pins σ H s) : Inv X pins σ H s := ⟨I.ok.unwish, I.os, I.bare, I.base, I.loc, I.cell, I.free, I.freeC, I.pin, I.hok, I.len⟩
theorem SP.unwish {D : Ends} {f : Flow} {s' : Shared} (h : SP (X.wish E) pins D f s') : SP X pins D f s' := by
  cases f with
  | next => obtain ⟨σ', H', I, q⟩ := h; exact ⟨σ', H', I.unwish, q⟩
  | brk => obtain ⟨σ', H', I, q⟩ := h; exact ⟨σ', H', I.unwish, q⟩
  | cont => obtain ⟨σ', H', I, q⟩ := h; exact ⟨σ', H', I.unwish, q⟩
  | ret u => obtain ⟨v, σ', H', I, r, q⟩ := h; exact ⟨v, σ', H', I.unwish, r, q⟩
theorem PSs.nox {st : List Stmt} {t : TS} (h : PSs X.nox st t) : PSs X st t := ⟨fun pins s σ H D I hw =>
  wpAny_mono (h pins s σ H D (I.wish _) hw) (fun _ _ q => q.unwish) fun _ _ z => False.elim z⟩
end

/-! ### blocks and small statements -/
section
variable {X : Cx} {st : Stmt} {rest : List Stmt} {t u : TS} {e : Expr} {te : TE} {pos : Pos}
noncomputable def tNext : TS := fun D σ H => D.nx σ H
noncomputable def tSeq (t u : TS) : TS := fun D σ H => t { D with nx := u D } σ H
theorem pss_nil : PSs X [] tNext := ⟨fun _ _ σ H _ I h => wpAny_execs_nil ⟨σ, H, I, h⟩⟩
theorem pss_cons (h1 : PS X st t) (h2 : PSs X rest u) : PSs X (st :: rest) (tSeq t u) := by
  (try refine ⟨?_⟩); intro pins s σ H D I h
  refine wpAny_execs_cons (thn (h1 pins s σ H { D with nx := u D } I h) fun f s1 q => ?_)
  cases f with
  | next =>
    obtain ⟨σ', H', I', q⟩ := q
    exact h2 pins s1 σ' H' D I' q
  | ret v => exact q
  | brk => exact q
  | cont => exact q
theorem pss_one (h1 : PS X st t) : PSs X [st] t := by
  (try refine ⟨?_⟩); intro pins s σ H D I h
  refine wpAny_execs_cons (thn (h1 pins s σ H D I h) fun f s1 q => ?_)
  cases f with
  | next => exact wpAny_execs_nil q
  | ret v => exact q
  | brk => exact q
  | cont => exact q
/-- in a def's body nothing is shown -/
theorem Inv.quiet {pins : List (Addr × Obj)} {σ : St} {H : Hp} {s : Shared} (I : Inv X pins σ H s) : interactive X.env = false := by simp [interactive, I.ok.kind]
/-- an expression whose value is dropped -/
noncomputable def tDrop (te : TE) : TS := fun D σ H => te σ H fun _ H1 => D.nx σ H1
theorem ps_expr (he : PE X e te) (hs : swapsWith e none pos.line X.env = pure false := by rfl) : PS X (.Expr e pos) (tDrop te) := by
  (try refine ⟨?_⟩); intro pins s σ H D I h
  exact wpAny_Expr_any (thn (he pins s σ H _ I h) fun v s1 ⟨x, H1, I1, r1, q1⟩ => ⟨σ, H1, I1, q1⟩) I.quiet hs
noncomputable def tRet (te : TE) : TS := fun D σ H => te σ H D.rt
theorem ps_ret (he : PE X e te) : PS X (.Return (some e) pos) (tRet te) := by
  (try refine ⟨?_⟩); intro pins s σ H D I h
  exact wpAny_Return_some (thn (he pins s σ H _ I h) fun v s1 ⟨x, H1, I1, r1, q1⟩ => ⟨x, σ, H1, I1, r1, q1⟩)
noncomputable def tIfS (c : TT) (t u : TS) : TS := fun D σ H => c σ H fun b H1 => if b = true then t D σ H1 else u D σ H1
theorem ps_if {c : Expr} {a b : List Stmt} {tc : TT} (hc : PT X c tc) (ha : PSs X a t) (hb : PSs X b u) : PS X (.If c a b pos) (tIfS tc t u) := by
  (try refine ⟨?_⟩); intro pins s σ H D I h
  refine wpAny_If (thn (hc pins s σ H _ I h) fun d s1 ⟨H1, I1, q1⟩ => ?_)
  cases d with
  | true => exact ha pins s1 σ H1 D I1 q1
  | false => exact hb pins s1 σ H1 D I1 q1
end

/-! ### targets -/
noncomputable abbrev TG := V → St → Hp → (St → Hp → Prop) → Prop
noncomputable abbrev TGs := List V → St → Hp → (St → Hp → Prop) → Prop
structure PG (X : Cx) (target : Expr) (t : TG) : Prop where
  go : ∀ (pins : List (Addr × Obj)) (s : Shared) (σ : St) (H : Hp) (v : V) (u : Value) (Q : St → Hp → Prop), Inv X pins σ H s → RelV v u → t v σ H Q →
    wpAny (model X.prog X.w) X.A (assign target X.env u) (fun _ s' => ∃ σ' H', Inv X pins σ' H' s' ∧ Q σ' H') X.xe s
noncomputable instance {X : Cx} {target : Expr} {t : TG} : CoeFun (PG X target t) fun _ => ∀ (pins : List (Addr × Obj)) (s : Shared) (σ : St) (H : Hp) (v : V) (u : Value) (Q : St → Hp → Prop), Inv X pins σ H s → RelV v u → t v σ H Q →
    wpAny (model X.prog X.w) X.A (assign target X.env u) (fun _ s' => ∃ σ' H', Inv X pins σ' H' s' ∧ Q σ' H') X.xe s := ⟨fun h => h.go⟩
/-- several targets, one after another -/
structure PGs (X : Cx) (ts : List Expr) (t : TGs) : Prop where
  go : ∀ (pins : List (Addr × Obj)) (s : Shared) (σ : St) (H : Hp) (vs : List V) (us : List Value) (Q : St → Hp → Prop), Inv X pins σ H s → Vals vs us → t vs σ H Q →
    wpAny (model X.prog X.w) X.A (assignInOrder ((assignEach ts X.env).map (·.2)) us) (fun _ s' => ∃ σ' H', Inv X pins σ' H' s' ∧ Q σ' H') X.xe s
noncomputable instance {X : Cx} {ts : List Expr} {t : TGs} : CoeFun (PGs X ts t) fun _ => ∀ (pins : List (Addr × Obj)) (s : Shared) (σ : St) (H : Hp) (vs : List V) (us : List Value) (Q : St → Hp → Prop), Inv X pins σ H s → Vals vs us → t vs σ H Q →
    wpAny (model X.prog X.w) X.A (assignInOrder ((assignEach ts X.env).map (·.2)) us) (fun _ s' => ∃ σ' H', Inv X pins σ' H' s' ∧ Q σ' H') X.xe s := ⟨fun h => h.go⟩
/-- o[i] = v, by values -/
noncomputable abbrev TSet := V → V → V → Hp → (Hp → Prop) → Prop
noncomputable def PSet (X : Cx) (t : TSet) : Prop :=
  ∀ (pins : List (Addr × Obj)) (s : Shared) (σ : St) (H : Hp) (o i v : V) (ov iv u : Value) (Q : Hp → Prop), Inv X pins σ H s → RelV o ov → RelV i iv → RelV v u → t o i v H Q →
    wpAny (model X.prog X.w) X.A (setItem ov iv u) (fun _ s' => ∃ H', Inv X pins σ H' s' ∧ Q H') X.xe s
section
variable {X : Cx} {pos : Pos}
noncomputable def gName (i : Nat) : TG := fun v σ H Q => Q (σ.set i (some v)) H
theorem pg_name {i : Nat} {x : Str} (hN : X.N.Nodup) (hi : X.N[i]? = some x) (hx : Loc X.env.scope x) (hf : X.fn x = true ∨ X.env.scope.names.lookup x = some .local := by first | exact .inl rfl | exact .inr rfl | assumption) : PG X (.Name x pos) (gName i) := by
  (try refine ⟨?_⟩); intro pins s σ H v u Q I r h
  exact wpAny_assign_Name (store_ok I hN hi hx r (fun s' I' => ⟨_, H, I', h⟩) hf)
noncomputable def gNil : TGs := fun vs σ H Q => vs = [] ∧ Q σ H
noncomputable def gCons (t : TG) (u : TGs) : TGs := fun vs σ H Q => ∃ v r, vs = v :: r ∧ t v σ H fun σ' H' => u r σ' H' Q
theorem pgs_nil : PGs X [] gNil := by
  (try refine ⟨?_⟩); intro pins s σ H vs us Q I r h
  obtain ⟨e, h⟩ := h
  subst e
  cases r
  exact assignInOrder_nil ⟨σ, H, I, h⟩
theorem pgs_cons {e : Expr} {es : List Expr} {t : TG} {u : TGs} (h1 : PG X e t) (h2 : PGs X es u)
    (hs : (assignEach (e :: es) X.env).map (·.2) = assign e X.env :: (assignEach es X.env).map (·.2) := by rfl) : PGs X (e :: es) (gCons t u) := by
  (try refine ⟨?_⟩); intro pins s σ H vs us Q I r h
  obtain ⟨v, vr, e1, h⟩ := h
  subst e1
  cases r with
  | cons r rr =>
    rw [hs]
    refine assignInOrder_cons (thn (h1 pins s σ H _ _ _ I r h) fun _ s1 ⟨σ1, H1, I1, q1⟩ => ?_)
    exact h2 pins s1 σ1 H1 _ _ Q I1 rr q1
/-- (a, b, ..) = a tuple of that length -/
noncomputable def gTup (K : PySem.W.Frag) (n : Nat) (t : TGs) : TG := fun v σ H Q => ∃ a xs, v = .ref a ∧ SqT K H a xs ∧ xs.length = n ∧ t xs σ H Q
theorem pg_tup {es : List Expr} {k : Nat} {t : TGs} {n : Nat} (hc : X.calm = true) (h : PGs X es t)
    (hn : (assignEach es X.env).length = n := by rfl) (hst : (assignEach es X.env).findIdx? (·.1) = none := by rfl) : PG X (.Tuple es k pos) (gTup X.K n t) := by
  (try refine ⟨?_⟩); intro pins s σ H v u Q I r hw
  obtain ⟨a, xs, e1, hq, hl, hw⟩ := hw
  subst e1
  cases r
  obtain ⟨its, rv, ht, hz⟩ := I.tuple hq
  refine assign_Tuple_tuple (I.ok.hd hc) ht (by simp [hn, ← hl, rv.length]) hst fun h' hx => ?_
  have I1 : Inv X pins σ H { s with heap := h' } := I.kept (t' := s.toks) fun b o e => hx b o (Nat.ne_of_lt (Heap.lt_size e)) e
  exact h pins _ σ H xs _ Q I1 (by simpa using rv) hw
/-- o[i] = .. -/
noncomputable def gSub (to ti : TE) (t : TSet) : TG := fun v σ H Q => to σ H fun o H1 => ti σ H1 fun i H2 => t o i v H2 fun H3 => Q σ H3
theorem pg_sub {o i : Expr} {to ti : TE} {t : TSet} (ho : PE X o to) (hi : PE X i ti) (hs : PSet X t)
    (ha : ∀ v, assign (.Subscript o i pos) X.env v = (do
      let ov ← holding [v] (eval o X.env)
      let iv ← holding [v, ov] (eval i X.env)
      standAt pos
      holding [v, ov, iv] (setItem ov iv v)
      release [v, ov, iv] []) := by intro _; rfl) : PG X (.Subscript o i pos) (gSub to ti t) := by
  (try refine ⟨?_⟩); intro pins s σ H v u Q I r h
  rw [ha]
  refine wpAny_bind (wpAny_holding (thn (ho pins s σ H _ I h) fun ov s1 ⟨x, H1, I1, r1, q1⟩ => ?_))
  refine wpAny_bind (wpAny_holding (thn (hi pins s1 σ H1 _ I1 q1) fun iv s2 ⟨y, H2, I2, r2, q2⟩ => ?_))
  refine wpAny_bind (wpAny_standAt (wpAny_bind (wpAny_holding (thn (hs pins s2 σ H2 x y v ov iv u _ I2 r1 r2 r q2) fun _ s3 ⟨H3, I3, q3⟩ => ?_))))
  exact wpAny_release ⟨σ, H3, I3, q3⟩
/-- target = value -/
noncomputable def tAsg (te : TE) (g : TG) : TS := fun D σ H => te σ H fun x H1 => g x σ H1 D.nx
theorem ps_asg {tg e : Expr} {te : TE} {g : TG} (he : PE X e te) (hg : PG X tg g) (hs : swapsWithSole [tg] e pos.line X.env = pure false := by rfl) (hw : swappedStores [tg] e X.env = pure none := by rfl)
    (h1 : (assignEach [tg] X.env).map (·.2) = [assign tg X.env] := by rfl) : PS X (.Assign [tg] e pos) (tAsg te g) := by
  (try refine ⟨?_⟩); intro pins s σ H D I h
  refine wpAny_Assign_stores (thn (he pins s σ H _ I h) fun v s1 ⟨x, H1, I1, r1, q1⟩ => ?_) hs hw
  rw [h1]
  exact thn (hg pins s1 σ H1 x v _ I1 r1 q1) fun _ s2 q => q
/-- name = value -/
theorem ps_set {i : Nat} {x : Str} {e : Expr} {te : TE} {pos' : Pos} (hN : X.N.Nodup) (hi : X.N[i]? = some x) (hx : Loc X.env.scope x) (he : PE X e te) (hs : swapsWith e (some (.Name x pos')) pos.line X.env = pure false := by rfl) (hf : X.fn x = true ∨ X.env.scope.names.lookup x = some .local := by first | exact .inl rfl | exact .inr rfl | assumption) :
    PS X (.Assign [.Name x pos'] e pos) (tAsg te (gName i)) := by
  (try refine ⟨?_⟩); intro pins s σ H D I h
  refine wpAny_Assign_Name (thn (he pins s σ H _ I h) fun v s1 ⟨y, H1, I1, r1, q1⟩ => ?_) hs
  exact store_ok I1 hN hi hx r1 (fun s2 I2 => ⟨_, H1, I2, q1⟩) hf
/-- a, b = x, y with plain local names: stored from the right; the pair itself is not tracked (the opening rows as in PyProof/Rows/TupAssign.lean:23) -/
noncomputable def tPar (i j : Nat) (ta : TA) : TS := fun D σ H => ta σ H fun vs H1 => ∃ v w, vs = [v, w] ∧ D.nx ((σ.set i (some v)).set j (some w)) H1
theorem ps_par {i j : Nat} {x y : Str} {a b : Expr} {ta : TA} {px py pt : Pos} {kt k2 pt2} (hc : X.calm = true) (hN : X.N.Nodup) (hi : X.N[i]? = some x) (hj : X.N[j]? = some y) (hij : i ≠ j)
    (hx : X.env.scope.names.lookup x = some .local) (hy : X.env.scope.names.lookup y = some .local) (ha : PA X [a, b] ta)
    (hw : swappedStores [.Tuple [.Name x px, .Name y py] kt pt] (.Tuple [a, b] k2 pt2) X.env = pure (some [x, y]))
    (hs : swapsWithSole [.Tuple [.Name x px, .Name y py] kt pt] (.Tuple [a, b] k2 pt2) pos.line X.env = pure false := by rfl) :
    PS X (.Assign [.Tuple [.Name x px, .Name y py] kt pt] (.Tuple [a, b] k2 pt2) pos) (tPar i j ta) := by
  (try refine ⟨?_⟩); intro pins s σ H D I h
  rw [exec_Assign_arm]
  refine wpAny_bind (wpAny_standAt ?_)
  rw [hs]
  refine wpAny_bind (wpAny_pure ?_)
  rw [if_neg (by decide)]
  refine wpAny_bind (Tuple_ (thn (ha _ pins s σ H _ I h) fun us s1 ⟨vs, H1, I1, r1, q1⟩ => ?_))
  obtain ⟨v, w, e1, q1⟩ := q1
  subst e1
  obtain ⟨u1, u2, rfl, rv, rw'⟩ : ∃ u1 u2, us = [u1, u2] ∧ RelV v u1 ∧ RelV w u2 := by
    cases r1 with
    | cons p q =>
      cases q with
      | cons p' q' =>
        cases q'
        exact ⟨_, _, rfl, p, p'⟩
  refine wpAny_newObj_type ?_ (by show 2 ≤ sizeLine; decide)
  have I2 : Inv X pins σ H1 { s1 with heap := s1.heap.push { cls := .type "tuple", data := .seq [u1, u2].toArray } } := I1.kept (t' := s1.toks) fun b o e => Heap.get?_push_of_some _ e
  rw [hw]
  refine wpAny_bind (wpAny_pure ?_)
  show wpAny (model X.prog X.w) X.A (do rule "assign.swapped-stores"; let items ← unpackItems (.ref s1.heap.objs.size) 2 none; assignInOrder [fun v => bindName X.env y v, fun v => bindName X.env x v] items.reverse; pure Flow.next) _ _ _
  refine wpAny_bind (wpAny_rule (wpAny_bind (unpackItems_tuple (items := #[u1, u2]) (I.ok.hd hc) (IsTup.new s1.heap _) fun h' hx' => ?_)))
  have I3 := I2.kept (h' := h') (t' := s1.toks) fun b o e => hx' b o (Nat.ne_of_lt (Heap.lt_size e)) e
  show wpAny _ _ (assignInOrder [fun v => bindName X.env y v, fun v => bindName X.env x v] [u2, u1] >>= fun _ => pure Flow.next) _ _ _
  refine wpAny_bind (assignInOrder_cons (wpAny_bindName (store_ok I3 hN hj (.inl hy) rw' (fun s2 I4 => ?_) (.inr hy))))
  refine assignInOrder_cons (wpAny_bindName (store_ok I4 hN hi (.inl hx) rv (fun s3 I5 => assignInOrder_nil (wpAny_pure ?_)) (.inr hx)))
  rw [List.set_comm _ _ (Ne.symm hij)] at I5
  exact ⟨_, H1, I5, q1⟩
end

/-! ### while -/
section
variable {X : Cx} {pos : Pos}
end

/-! ### what a loop or a comprehension walks -/
/-- at turn i: it yields x (the heap may grow), or it stops -/
structure It where
  go : Nat → Hp → Prop
  yld : Nat → Hp → V → Hp → Prop
  stop : Nat → Hp → Prop
/-- the iterator's own objects may turn: they are not the frame's, not pinned, younger than the entry (or a comprehension's own) -/
noncomputable def FpOk (X : Cx) (pins : List (Addr × Obj)) (H : Hp) (b : Addr) : Prop :=
  H b = none ∧ b ≠ X.env.locals ∧ b ∉ X.fs ∧ (b ∈ X.ex ∨ X.s₀.heap.objs.size ≤ b) ∧ (∀ x c, X.env.cells.lookup x = some c → c ≠ b) ∧ ∀ p ∈ X.pn ++ pins, p.1 ≠ b
theorem Inv.fpOk {X : Cx} {pins : List (Addr × Obj)} {σ : St} {H H' : Hp} {s : Shared} {b : Addr} (I : Inv X pins σ H s) (hb : s.heap.objs.size ≤ b) (hn : H' b = none) : FpOk X pins H' b := by
  refine ⟨hn, Nat.ne_of_gt (Nat.lt_of_lt_of_le I.lt hb), I.nofs hb, .inr (Nat.le_trans I.sz hb), fun x c e z => ?_, fun p hp z => ?_⟩
  · obtain ⟨v, q⟩ := I.cell x c e
    exact absurd (Nat.lt_of_lt_of_le q.lt (by rw [z]; exact hb)) (Nat.lt_irrefl _)
  · exact absurd (Nat.lt_of_lt_of_le (Heap.lt_size (I.pin p hp).1) (by rw [z]; exact hb)) (Nat.lt_irrefl _)
structure Turn (P : Program) (w : World) (K : PySem.W.Frag) (tg : Expr) (J : It) (fp : List Addr) (it : Addr) (tn : Nat → Heap → Prop) : Prop where
  mem : it ∈ fp
  obj : ∀ i h, tn i h → ∀ b ∈ fp, ∃ o, h.get? b = some o ∧ ∀ v, o.data ≠ .cell v
  keep : ∀ i h h', tn i h → (∀ b ∈ fp, ∀ o, h.get? b = some o → h'.get? b = some o) → tn i h'
  item : ∀ (X : Cx), X.prog = P → X.w = w → X.K = K → X.calm = true → ∀ (i : Nat) (pins : List (Addr × Obj)) (s : Shared) (σ : St) (H : Hp) (E : Value → Shared → Prop), Inv X pins σ H s → (∀ b ∈ fp, FpOk X pins H b) → tn i s.heap → J.go i H →
    wpAny (model P w) X.A (pyNext (.ref it)) (fun r s1 => ∃ u, r = some u ∧
      wpAny (model P w) X.A (letOwnedTupleGo tg (.ref it) u) (fun _ s2 => ∃ x H', Inv X pins σ H' s2 ∧ RelV x u ∧ J.yld i H x H' ∧ tn (i + 1) s2.heap ∧ ∀ b ∈ fp, H' b = none) E s1) E s
  done : ∀ (X : Cx), X.prog = P → X.w = w → X.K = K → X.calm = true → ∀ (i : Nat) (pins : List (Addr × Obj)) (s : Shared) (σ : St) (H : Hp) (E : Value → Shared → Prop), Inv X pins σ H s → (∀ b ∈ fp, FpOk X pins H b) → tn i s.heap → J.stop i H →
    wpAny (model P w) X.A (pyNext (.ref it)) (fun r s1 => r = none ∧ Inv X pins σ H s1) E s
  self : ∀ (A : Around) (i : Nat) (s : Shared) (Q : Value → Shared → Prop) (E : Value → Shared → Prop), tn i s.heap → Q (.ref it) s → wpAny (model P w) A (pyIter (.ref it)) Q E s
noncomputable abbrev TI := St → Hp → (It → Hp → Prop) → Prop
/-- an iterator has come -/
noncomputable def PIE (X : Cx) (pins : List (Addr × Obj)) (σ : St) (tg : Expr) (R : It → Hp → Prop) (itv : Value) (s2 : Shared) : Prop :=
  ∃ (it : Addr) (fp : List Addr) (tn : Nat → Heap → Prop) (J : It) (H' : Hp), itv = .ref it ∧ Inv X pins σ H' s2 ∧ Turn X.prog X.w X.K tg J fp it tn ∧ tn 0 s2.heap ∧ (∀ b ∈ fp, FpOk X pins H' b) ∧ R J H'
structure PI (X : Cx) (tg iter : Expr) (wi : TI) : Prop where
  go : ∀ (pins : List (Addr × Obj)) (s : Shared) (σ : St) (H : Hp) (R : It → Hp → Prop), Inv X pins σ H s → wi σ H R →
    wpAny (model X.prog X.w) X.A (eval iter X.env) (fun v s1 => wpAny (model X.prog X.w) X.A (pyIter v) (PIE X pins σ tg R) X.xe s1) X.xe s
noncomputable instance {X : Cx} {tg iter : Expr} {wi : TI} : CoeFun (PI X tg iter wi) fun _ => ∀ (pins : List (Addr × Obj)) (s : Shared) (σ : St) (H : Hp) (R : It → Hp → Prop), Inv X pins σ H s → wi σ H R →
    wpAny (model X.prog X.w) X.A (eval iter X.env) (fun v s1 => wpAny (model X.prog X.w) X.A (pyIter v) (PIE X pins σ tg R) X.xe s1) X.xe s := ⟨fun h => h.go⟩

/-- the step ahead of the store is nothing for an iterator that keeps no tuple -/
theorem go_of {M : Model} {A : Around} {E : Value → Shared → Prop} {s : Shared} {tg : Expr} {it : Addr} {u : Value} {o : Obj} {n : String} {vs : Array Value} {Q : Unit → Shared → Prop} (ho : s.heap.get? it = some o) (hc : o.cls = .type n) (hd : o.data = .fields vs)
    (hn : ["enumerate", "zip", "dict_itemiterator", "dict_reverseitemiterator", "odict_iterator", "itertools.zip_longest", "itertools.pairwise"].contains n = false) (hQ : Q () s) : wpAny M A (letOwnedTupleGo tg (.ref it) u) Q E s := by
  unfold letOwnedTupleGo
  cases tg <;> first
    | exact wpAny_pure hQ
    | (cases u <;> first
        | exact wpAny_pure hQ
        | (refine wpAny_bind (wpAny_load ho ?_)
           rw [hc, hd]
           show wpAny M A (if (["enumerate", "zip", "dict_itemiterator", "dict_reverseitemiterator", "odict_iterator", "itertools.zip_longest", "itertools.pairwise"].contains n && vs[0]? == some (rawInt _)) = true then _ else _) Q E s
           rw [if_neg (by intro h; rw [hn, Bool.false_and] at h; cases h)]
           exact wpAny_pure hQ))

/-- the list at a, as it stands at each turn (a loop may append to it) -/
noncomputable def Itl (K : PySem.W.Frag) (a : Addr) : It :=
  ⟨fun i H => ∃ xs x, SqL K H a xs ∧ xs[i]? = some x, fun i H x H' => H' = H ∧ ∀ xs, SqL K H a xs → xs[i]? = some x, fun i H => ∃ xs, SqL K H a xs ∧ xs.length ≤ i⟩
/-- lo, lo + 1, .. (n of them) -/
noncomputable def Itr (lo : Int) (n : Nat) : It := ⟨fun i _ => i < n, fun i H x H' => H' = H ∧ x = .int (lo + i), fun i _ => n ≤ i⟩
theorem turn_list {P : Program} {w : World} {K : PySem.W.Frag} {tg : Expr} (a it : Addr) : Turn P w K tg (Itl K a) [it] it (fun i h => h.IsListIter it a i) where
  mem := by simp
  obj := fun i h st b hb => by
    have e : b = it := by simpa using hb
    subst e
    obtain ⟨o, e, c, d⟩ := st
    exact ⟨o, e, fun v z => by rw [d] at z; cases z⟩
  keep := fun i h h' st k => st.at fun o e => k it (by simp) o e
  item := by
    intro X hP hw hK hc i pins s σ H E I hf st hg
    subst hP hw hK
    obtain ⟨xs, x, hq, hx⟩ := hg
    obtain ⟨its, rv, p, hz⟩ := I.list hq
    obtain ⟨u, hu, ru⟩ := rv.get hx
    obtain ⟨f0, f1, f2, f3, f4, f5⟩ := hf it (by simp)
    refine wpAny_pyNext_list_item st p.isList (x := u) (by simpa using hu) fun h' st' sb => ?_
    have I1 : Inv X pins σ H { s with heap := h' } := I.turned (t' := s.toks) (fun b o hb e => (sb.2 b hb).trans e) f0 f1 f3 f4 f5
    obtain ⟨o, e, c, d⟩ := id st'
    exact ⟨u, rfl, go_of (s := { s with heap := h' }) e c d (by decide) ⟨x, H, I1, ru, ⟨rfl, fun ys hy => by rw [I.list_inj hy hq]; exact hx⟩, st', fun b hb => (hf b hb).1⟩⟩
  done := by
    intro X hP hw hK hc i pins s σ H E I hf st hg
    subst hP hw hK
    obtain ⟨xs, hq, hx⟩ := hg
    obtain ⟨its, rv, p, hz⟩ := I.list hq
    obtain ⟨f0, f1, f2, f3, f4, f5⟩ := hf it (by simp)
    have hl := rv.length
    exact wpAny_pyNext_list_end (I.ok.hd hc) st p.isList (by simp; omega) fun h' eb => ⟨rfl, I.turned (t' := s.toks) (fun b o hb e => eb b o hb e) f0 f1 f3 f4 f5⟩
  self := fun _ _ _ _ _ st h => wpAny_pyIter_listiter st h
theorem turn_range {P : Program} {w : World} {K : PySem.W.Frag} {tg : Expr} (it : Addr) (lo : Int) (n : Nat) : Turn P w K tg (Itr lo n) [it] it (fun i h => IsRangeIter h it (lo + (i : Nat) * 1) ((n : Int) - (i : Nat)) 1) where
  mem := by simp
  obj := fun i h st b hb => by
    have e : b = it := by simpa using hb
    subst e
    exact ⟨_, st, fun v z => by
      have z' : Data.fields _ = Data.cell v := z
      cases z'⟩
  keep := fun i h h' st k => k it (by simp) _ st
  item := by
    intro X hP hw hK hc i pins s σ H E I hf st hg
    subst hP hw hK
    obtain ⟨f0, f1, f2, f3, f4, f5⟩ := hf it (by simp)
    have W := Walks.range (prog := X.prog) (w := X.w) (I.ok.hd hc) it lo 1 n
    refine W.item i s _ _ hg st fun v h' tk hv st' kk => ?_
    obtain ⟨t, rfl⟩ := hv
    have I1 : Inv X pins σ H { s with heap := h', toks := tk } := I.turned (fun b o hb e => kk b o (by simpa using hb) e) f0 f1 f3 f4 f5
    refine ⟨_, rfl, go_of (s := { s with heap := h', toks := tk }) (n := "range_iterator") st' rfl rfl (by decide) ⟨.int (lo + i), H, I1, ⟨t, ?_⟩, ⟨rfl, rfl⟩, st', fun b hb => (hf b hb).1⟩⟩
    rw [Int.mul_one]
  done := by
    intro X hP hw hK hc i pins s σ H E I hf st hg
    subst hP hw hK
    obtain ⟨f0, f1, f2, f3, f4, f5⟩ := hf it (by simp)
    exact wpAny_pyNext_range_end (I.ok.hd hc) st (by have : n ≤ i := hg; omega) fun h' eb => ⟨rfl, I.turned (t' := s.toks) (fun b o hb e => eb b o hb e) f0 f1 f3 f4 f5⟩
  self := fun _ _ _ _ _ st h => wpAny_pyIter_rangeiter st h
end L2

namespace L2
open PySem PySem.Spec PyProof.Rows
section
variable {X : Cx} {tg : Expr}
noncomputable def iList (K : PySem.W.Frag) (tl : TE) : TI := fun σ H R => tl σ H fun x H1 => ∃ a, x = .ref a ∧ (∃ xs, SqL K H1 a xs) ∧ R (Itl K a) H1
theorem pi_list {l : Expr} {tl : TE} (hl : PE X l tl) : PI X tg l (iList X.K tl) := by
  (try refine ⟨?_⟩); intro pins s σ H R I h
  refine thn (hl pins s σ H _ I h) fun v s1 ⟨x, H1, I1, r1, q1⟩ => ?_
  obtain ⟨a, e, ⟨xs, hq⟩, q⟩ := q1
  subst e
  cases r1
  obtain ⟨its, rv, p, hz⟩ := I1.list hq
  refine wpAny_pyIter_list p.isList ?_
  refine ⟨s1.heap.objs.size, [s1.heap.objs.size], _, _, H1, rfl, I1.kept (t' := s1.toks) fun b o e => Heap.get?_push_of_some _ e, turn_list a _, ⟨_, Heap.get?_push_size _ rfl, rfl, rfl⟩, fun b hb => ?_, q⟩
  have e : b = s1.heap.objs.size := by simpa using hb
  subst e
  exact I1.fpOk (Nat.le_refl _) (I1.hok.fresh (Nat.le_refl _))
/-- a range object just made, walked -/
theorem range_it {pins : List (Addr × Obj)} {σ : St} {H : Hp} {s : Shared} {R : It → Hp → Prop} {E : Value → Shared → Prop} {lo hi : Int} {t u v : Tok} {tk : Nat} (I : Inv X pins σ H s) (h1 : -(2 ^ 62) ≤ lo) (h2 : lo < 2 ^ 62) (h3 : -(2 ^ 62) ≤ hi) (h4 : hi < 2 ^ 62)
    (q : R (Itr lo (hi - lo).toNat) H) : wpAny (model X.prog X.w) X.A (pyIter (.ref s.heap.objs.size)) (PIE X pins σ tg R) E { s with heap := s.heap.push { cls := .type "range", data := .fields #[.int lo t, .int hi u, .int 1 v] }, toks := tk } := by
  refine wpAny_pyIter_range (IsRange.new ..) (small_one h1 h2 h3 h4) ?_
  have I1 : Inv X pins σ H { s with heap := s.heap.push { cls := .type "range", data := .fields #[.int lo t, .int hi u, .int 1 v] }, toks := tk } := I.kept fun b o e => Heap.get?_push_of_some _ e
  refine ⟨(s.heap.push { cls := .type "range", data := .fields #[.int lo t, .int hi u, .int 1 v] }).objs.size, [(s.heap.push { cls := .type "range", data := .fields #[.int lo t, .int hi u, .int 1 v] }).objs.size], _, _, H, rfl,
    I1.kept (t' := tk) fun b o e => Heap.get?_push_of_some _ e, turn_range _ lo (hi - lo).toNat, ?_, fun b hb => ?_, q⟩
  · have e1 : lo + ((0 : Nat) : Int) * 1 = lo := by simp
    have e2 : (((hi - lo).toNat : Nat) : Int) - ((0 : Nat) : Int) = Builtin.Range.rangeSize lo hi 1 := by rw [rangeSize_one]; split <;> omega
    show IsRangeIter _ _ (lo + ((0 : Nat) : Int) * 1) ((((hi - lo).toNat : Nat) : Int) - ((0 : Nat) : Int)) 1
    rw [e1, e2]
    exact Heap.get?_push_size _ rfl
  · have e : b = (s.heap.push { cls := .type "range", data := .fields #[.int lo t, .int hi u, .int 1 v] }).objs.size := by simpa using hb
    subst e
    exact I1.fpOk (Nat.le_refl _) (I1.hok.fresh (Nat.le_refl _))
noncomputable def iRng1 (ta : TA) : TI := fun σ H R => ta σ H fun vs H1 => ∃ j : Int, vs = [.int j] ∧ -(2 ^ 62) ≤ j ∧ j < 2 ^ 62 ∧ R (Itr 0 j.toNat) H1
noncomputable def iRng2 (ta : TA) : TI := fun σ H R => ta σ H fun vs H1 => ∃ i j : Int, vs = [.int i, .int j] ∧ (-(2 ^ 62) ≤ i ∧ i < 2 ^ 62 ∧ -(2 ^ 62) ≤ j ∧ j < 2 ^ 62) ∧ R (Itr i (j - i).toNat) H1
theorem pi_range1 {a : Expr} {ta : TA} {p pos : Pos} (hg : Gl X "range") (hm : X.mg "range" = none) (ha : PA X [a] ta) (hs : starEach [a] X.env = [(false, eval a X.env)] := by rfl) : PI X tg (.Call (.Name "range" p) [a] [] pos) (iRng1 ta) := by
  (try refine ⟨?_⟩); intro pins s σ H R I h
  refine Call_ (ld_blt I hg hm boot_range (PyProof.Rows.callWith_type1 (thn (ha pos pins s σ H _ I h) fun us s1 ⟨vs, H1, I1, r1, q1⟩ => ?_) hs rfl))
  obtain ⟨j, e, q1, q2, q⟩ := q1
  subst e
  cases r1 with
  | cons r rr =>
    cases rr
    obtain ⟨t, rfl⟩ := r
    exact call_range_1 (range_it I1 (by omega) (by omega) q1 q2 (by simpa using q))
theorem pi_range2 {a b : Expr} {ta : TA} {p pos : Pos} (hg : Gl X "range") (hm : X.mg "range" = none) (ha : PA X [a, b] ta) (hs : starEach [a, b] X.env = [(false, eval a X.env), (false, eval b X.env)] := by rfl) (hs2 : starEach [b] X.env = [(false, eval b X.env)] := by rfl) :
    PI X tg (.Call (.Name "range" p) [a, b] [] pos) (iRng2 ta) := by
  (try refine ⟨?_⟩); intro pins s σ H R I h
  refine Call_ (ld_blt I hg hm boot_range (PyProof.Rows.callWith_type1 (thn (ha pos pins s σ H _ I h) fun us s1 ⟨vs, H1, I1, r1, q1⟩ => ?_) (by rw [hs, hs2]) (by rw [hs2]; rfl)))
  obtain ⟨i, j, e, ⟨q1, q2, q3, q4⟩, q⟩ := q1
  subst e
  cases r1 with
  | cons r rr =>
    cases rr with
    | cons r' rr =>
      cases rr
      obtain ⟨t, rfl⟩ := r
      obtain ⟨t', rfl⟩ := r'
      exact call_range_2 (range_it I1 q1 q2 q3 q4 q)

/-! ### for -/
/-- W: the invariant by the turn and a measure; N: what the body is to reach -/
noncomputable def tFor (wi : TI) (g : TG) (tb : TS) : TS := fun D σ H => wi σ H fun J H1 => ∃ W : Nat → Nat → St → Hp → Prop, (∃ m, W 0 m σ H1) ∧ ∀ i m σ H, W i m σ H →
  (J.stop i H ∧ D.nx σ H) ∨ (J.go i H ∧ ∃ N : St → Hp → Prop, (∀ σ' H', N σ' H' → ∃ m', m' < m ∧ W (i + 1) m' σ' H') ∧ ∀ x H', J.yld i H x H' → g x σ H' fun σ2 H2 => tb { D with nx := N, ct := N, bk := D.nx } σ2 H2)
/-- the records at fp as they stand -/
noncomputable def pinsAt (fp : List Addr) (h : Heap) : List (Addr × Obj) := fp.filterMap fun b => (h.get? b).map fun o => (b, o)
theorem mem_pinsAt {fp : List Addr} {h : Heap} {b : Addr} {o : Obj} (hb : b ∈ fp) (e : h.get? b = some o) : (b, o) ∈ pinsAt fp h := List.mem_filterMap.mpr ⟨b, hb, by rw [e]; rfl⟩
theorem of_pinsAt {fp : List Addr} {h : Heap} {p : Addr × Obj} (hp : p ∈ pinsAt fp h) : p.1 ∈ fp ∧ h.get? p.1 = some p.2 := by
  obtain ⟨b, hb, e⟩ := List.mem_filterMap.mp hp
  cases q : h.get? b with
  | none => rw [q] at e; cases e
  | some o =>
    rw [q] at e
    have e' : (b, o) = p := Option.some.inj e
    subst e'
    exact ⟨hb, q⟩
theorem Inv.pinned {pins : List (Addr × Obj)} {σ : St} {H : Hp} {s : Shared} {fp : List Addr} (I : Inv X pins σ H s) (hf : ∀ b ∈ fp, FpOk X pins H b) (ho : ∀ b ∈ fp, ∃ o, s.heap.get? b = some o ∧ ∀ v, o.data ≠ .cell v) : Inv X (pins ++ pinsAt fp s.heap) σ H s :=
  I.pins_of fun p hp => (List.mem_append.mp hp).elim (fun z => I.pin p (List.mem_append_right _ z)) fun z => by
    obtain ⟨hb, e⟩ := of_pinsAt z
    obtain ⟨f0, f1, f2, _⟩ := hf p.1 hb
    obtain ⟨o, e', d⟩ := ho p.1 hb
    rw [e] at e'; cases e'
    exact ⟨e, f0, f1, f2, d⟩
theorem Inv.unpinned {pins pl : List (Addr × Obj)} {σ : St} {H : Hp} {s : Shared} (I : Inv X (pins ++ pl) σ H s) : Inv X pins σ H s := I.pins_of fun p hp => I.pin p (List.mem_append_right _ (List.mem_append_left _ hp))
theorem ps_for {iter : Expr} {body : List Stmt} {wi : TI} {g : TG} {tb : TS} {pos : Pos} (hp : PassesOwn (model X.prog X.w) X.A X.env X.xe) (hc : X.calm = true) (hi : PI X tg iter wi) (hg : PG X tg g) (hb : PSs X body tb)
    (hs : ∀ x, foldedSetIterable iter X.env x = pure x := by intro _; rfl) : PS X (.For tg iter body [] pos) (tFor wi g tb) := by
  (try refine ⟨?_⟩); intro pins s σ H D I h
  refine wpAny_For (thn (hi pins s σ H _ I h) fun v s1 h1 => thn h1 fun itv s2 h2 => ?_) hs
  obtain ⟨it, fp, tn, J, H2, e, I2, T, st2, f2, W, ⟨m0, w0⟩, turn⟩ := h2
  subst e
  -- what stays true of the iterator's objects through the loop
  have stat : ∀ {H' : Hp}, (∀ b ∈ fp, H' b = none) → ∀ b ∈ fp, FpOk X pins H' b := fun hn b hb => ⟨hn b hb, (f2 b hb).2⟩
  refine codeAny_forLoop_any (fun n s' => ∃ i σ' H', Inv X pins σ' H' s' ∧ tn i s'.heap ∧ (∀ b ∈ fp, H' b = none) ∧ W i n σ' H') ?_ m0 ⟨0, σ, H2, I2, st2, fun b hb => (f2 b hb).1, w0⟩
  rintro n s3 ⟨i, σ3, H3, I3, st3, fr3, w3⟩
  rcases turn i n σ3 H3 w3 with ⟨stop, qn⟩ | ⟨go, N, hN, step⟩
  · refine wpAny_passesOwn hp (thn (T.done X rfl rfl rfl hc i pins s3 σ3 H3 X.xe I3 (stat fr3) st3 stop) fun r s4 ⟨hr, I4⟩ => ?_)
    subst hr
    exact wpAny_execs_nil ⟨σ3, H3, I4, qn⟩
  · refine wpAny_passesOwn hp (thn (T.item X rfl rfl rfl hc i pins s3 σ3 H3 X.xe I3 (stat fr3) st3 go) fun r s4 ⟨u, hr, h4⟩ => ?_)
    subst hr
    refine wpAny_passesOwn hp (thn h4 fun _ s5 ⟨x, H5, I5, r5, y5, st5, fr5⟩ => ?_)
    have I5' := I5.pinned (stat fr5) (T.obj _ _ st5)
    refine wpAny_passesOwn hp (thn (hg _ s5 σ3 H5 x u _ I5' r5 (step x H5 y5)) fun _ s6 ⟨σ6, H6, I6, q6⟩ => ?_)
    refine wpAny_passesOwn hp (thn (hb _ s6 σ6 H6 _ I6 q6) fun f s7 q7 => ?_)
    have again : ∀ {σ7 : St} {H7 : Hp}, Inv X (pins ++ pinsAt fp s5.heap) σ7 H7 s7 → N σ7 H7 → ∃ m, m < n ∧ ∃ i σ' H', Inv X pins σ' H' s7 ∧ tn i s7.heap ∧ (∀ b ∈ fp, H' b = none) ∧ W i m σ' H' := fun {σ7 H7} I7 n7 => by
      obtain ⟨m', hm, w7⟩ := hN σ7 H7 n7
      refine ⟨m', hm, i + 1, σ7, H7, I7.unpinned, T.keep _ _ _ st5 fun b hb o e => (I7.pin (b, o) (List.mem_append_right _ (List.mem_append_right _ (mem_pinsAt hb e)))).1, fun b hb => ?_, w7⟩
      obtain ⟨o, e, d⟩ := T.obj _ _ st5 b hb
      exact (I7.pin (b, o) (List.mem_append_right _ (List.mem_append_right _ (mem_pinsAt hb e)))).2.1
    cases f with
    | next => obtain ⟨σ7, H7, I7, n7⟩ := q7; exact again I7 n7
    | cont => obtain ⟨σ7, H7, I7, n7⟩ := q7; exact again I7 n7
    | brk => obtain ⟨σ7, H7, I7, q7⟩ := q7; exact ⟨σ7, H7, I7.unpinned, q7⟩
    | ret v => obtain ⟨x7, σ7, H7, I7, r7, q7⟩ := q7; exact ⟨x7, σ7, H7, I7.unpinned, r7, q7⟩
end

/-! ### the forms one uses -/
end L2

namespace L2
open PySem PySem.Spec PyProof.Rows

noncomputable abbrev R2 := V → V → Hp → VK → Prop
/-- a two-place operation on values: f is binaryOp op, inplaceOp op or compareOp op -/
noncomputable def OpR (X : Cx) (f : Value → Value → Sem Value) (r : R2) : Prop :=
  ∀ (pins : List (Addr × Obj)) (s : Shared) (σ : St) (H : Hp) (x y : V) (v u : Value) (Q : VK), Inv X pins σ H s → RelV x v → RelV y u → r x y H Q →
    wpAny (model X.prog X.w) X.A (f v u) (EP X pins σ Q) X.xe s
/-- a one-place operation -/
noncomputable def UnR (X : Cx) (f : Value → Sem Value) (r : V → Hp → VK → Prop) : Prop :=
  ∀ (pins : List (Addr × Obj)) (s : Shared) (σ : St) (H : Hp) (x : V) (v : Value) (Q : VK), Inv X pins σ H s → RelV x v → r x H Q →
    wpAny (model X.prog X.w) X.A (f v) (EP X pins σ Q) X.xe s
/-- a call of a value that is known (a builtin, a type) with values -/
noncomputable def CallR (X : Cx) (f : Value) (r : List V → Hp → VK → Prop) : Prop :=
  ∀ (pins : List (Addr × Obj)) (s : Shared) (σ : St) (H : Hp) (xs : List V) (us : List Value) (Q : VK), Inv X pins σ H s → Vals xs us → r xs H Q →
    wpAny (model X.prog X.w) X.A (call f us) (EP X pins σ Q) X.xe s
noncomputable def tOp (r : R2) (ta tb : TE) : TE := fun σ H Q => ta σ H fun x H1 => tb σ H1 fun y H2 => r x y H2 Q
noncomputable def tUn (r : V → Hp → VK → Prop) (ta : TE) : TE := fun σ H Q => ta σ H fun x H1 => r x H1 Q
/-- ints in, under C, and a value out -/
noncomputable def rI (C : Int → Int → Prop) (g : Int → Int → V) : R2 := fun x y H Q => ∃ i j, x = .int i ∧ y = .int j ∧ C i j ∧ Q (g i j) H
noncomputable def rI0 (g : Int → Int → V) : R2 := fun x y H Q => ∃ i j, x = .int i ∧ y = .int j ∧ Q (g i j) H
noncomputable def rU (g : Int → V) : V → Hp → VK → Prop := fun x H Q => ∃ i, x = .int i ∧ Q (g i) H

section
variable {X : Cx} {a b c : Expr} {ta tb tc : TE} {pos : Pos}

theorem binT (ha : PE X a ta) (hb : PE X b tb) {pins : List (Addr × Obj)} {s : Shared} {σ : St} {H : Hp} {R : V → V → Hp → Prop} (I : Inv X pins σ H s)
    (h : ta σ H fun x H1 => tb σ H1 fun y H2 => R x y H2) {Q : Value → Shared → Prop} {f : Value → Value → Sem Value}
    (hf : ∀ v u s2 x y H2, Inv X pins σ H2 s2 → RelV x v → RelV y u → R x y H2 → wpAny (model X.prog X.w) X.A (f v u) Q X.xe s2) :
    wpAny (model X.prog X.w) X.A (eval a X.env) (fun v s₁ => wpAny (model X.prog X.w) X.A (eval b X.env) (fun u s₂ => wpAny (model X.prog X.w) X.A (f v u) Q X.xe s₂) X.xe s₁) X.xe s := by
  refine thn (ha pins s σ H _ I h) fun v s1 ⟨x, H1, I1, r1, q1⟩ => ?_
  refine thn (hb pins s1 σ H1 _ I1 q1) fun u s2 ⟨y, H2, I2, r2, q2⟩ => ?_
  exact hf v u s2 x y H2 I2 r1 r2 q2

theorem pe_op {op : Operator} {r : R2} (ho : OpR X (binaryOp op) r) (ha : PE X a ta) (hb : PE X b tb) : PE X (.BinOp a op b pos) (tOp r ta tb) := by
  (try refine ⟨?_⟩); intro pins s σ H Q I h
  exact wpAny_BinOp (binT ha hb I h fun v u s2 x y H2 I2 rx ry q => ho pins s2 σ H2 x y v u Q I2 rx ry q)
theorem pe_un {op : UnaryOp} {r : V → Hp → VK → Prop} (ho : UnR X (unaryOp op) r) (ha : PE X a ta) : PE X (.UnaryOp op a pos) (tUn r ta) := by
  (try refine ⟨?_⟩); intro pins s σ H Q I h
  exact UnaryOp_ (thn (ha pins s σ H _ I h) fun v s1 ⟨x, H1, I1, r1, q1⟩ => ho pins s1 σ H1 x v Q I1 r1 q1)
/-! ### ints -/
theorem opI {f : Value → Value → Sem Value} {C : Int → Int → Prop} {g : Int → Int → Int}
    (rule : ∀ (i j : Int) (t u : Tok) (s : Shared) (Q : Value → Shared → Prop) (E : Value → Shared → Prop), C i j → Q (.int (g i j) s.toks) { s with toks := s.toks + 1 } → wpAny (model X.prog X.w) X.A (f (.int i t) (.int j u)) Q E s) :
    OpR X f (rI C fun i j => .int (g i j)) := by
  (try refine ⟨?_⟩); intro pins s σ H x y v u Q I rx ry h
  obtain ⟨i, j, rfl, rfl, hc, q⟩ := h
  obtain ⟨t, rfl⟩ := rx
  obtain ⟨t', rfl⟩ := ry
  exact rule i j t t' s _ _ hc ⟨.int (g i j), H, I.tok _, ⟨_, rfl⟩, q⟩
theorem opI0 {f : Value → Value → Sem Value} {g : Int → Int → Int}
    (rule : ∀ (i j : Int) (t u : Tok) (s : Shared) (Q : Value → Shared → Prop) (E : Value → Shared → Prop), Q (.int (g i j) s.toks) { s with toks := s.toks + 1 } → wpAny (model X.prog X.w) X.A (f (.int i t) (.int j u)) Q E s) :
    OpR X f (rI0 fun i j => .int (g i j)) := by
  (try refine ⟨?_⟩); intro pins s σ H x y v u Q I rx ry h
  obtain ⟨i, j, rfl, rfl, q⟩ := h
  obtain ⟨t, rfl⟩ := rx
  obtain ⟨t', rfl⟩ := ry
  exact rule i j t t' s _ _ ⟨.int (g i j), H, I.tok _, ⟨_, rfl⟩, q⟩
theorem opB0 {f : Value → Value → Sem Value} {g : Int → Int → Bool}
    (rule : ∀ (i j : Int) (t u : Tok) (s : Shared) (Q : Value → Shared → Prop) (E : Value → Shared → Prop), Q (.bool (g i j)) s → wpAny (model X.prog X.w) X.A (f (.int i t) (.int j u)) Q E s) :
    OpR X f (rI0 fun i j => .bl (g i j)) := by
  (try refine ⟨?_⟩); intro pins s σ H x y v u Q I rx ry h
  obtain ⟨i, j, rfl, rfl, q⟩ := h
  obtain ⟨t, rfl⟩ := rx
  obtain ⟨t', rfl⟩ := ry
  exact rule i j t t' s _ _ ⟨.bl (g i j), H, I, rfl, q⟩

noncomputable def CDiv (i j : Int) : Prop := 0 < j ∧ j < 1073741824
noncomputable def CPow (i j : Int) : Prop := 0 ≤ j ∧ j ≤ 1000000 ∧ i.natAbs < 2 ^ 64
noncomputable def CMul (i j : Int) : Prop := (-(2 ^ 64) < i ∧ i < 2 ^ 64) ∨ (-(2 ^ 64) < j ∧ j < 2 ^ 64)
theorem CMul.ok {i j : Int} (h : CMul i j) : IntMulOk i j := by
  rcases h with ⟨h1, h2⟩ | ⟨h1, h2⟩
  · exact .of_left (intBits_le_64 h1 h2)
  · exact .of_right (intBits_le_64 h1 h2)
theorem op_add : OpR X (binaryOp .Add) (rI0 fun i j => .int (i + j)) := opI0 fun _ _ _ _ _ _ _ q => add_int q
theorem op_sub : OpR X (binaryOp .Sub) (rI0 fun i j => .int (i - j)) := opI0 fun _ _ _ _ _ _ _ q => sub_int q
theorem op_mul : OpR X (binaryOp .Mult) (rI CMul fun i j => .int (i * j)) := opI fun _ _ _ _ _ _ _ hc q => mul_int q hc.ok
/-- // by a positive divisor -/
theorem op_fdiv : OpR X (binaryOp .FloorDiv) (rI CDiv fun i j => .int (i / j)) := opI fun i j _ _ _ _ _ hc q => by
  have h1 : (0 : Int) < j := hc.1
  have h2 : j < 1073741824 := hc.2
  exact floordiv_int (by omega) (by rw [Int.fdiv_eq_ediv_of_nonneg i (by omega)]; exact q) (.inl (PyProof.noPylong_small (by omega)))
/-- % by a positive divisor of any size -/
theorem op_mod : OpR X (binaryOp .Mod) (rI (fun _ j => 0 < j) fun i j => .int (i % j)) := opI fun i j _ _ _ _ _ hc q => by
  have h1 : (0 : Int) < j := hc
  exact mod_int' (by omega) (by rw [Int.fmod_eq_emod_of_nonneg i (by omega)]; exact q)
theorem op_pow : OpR X (binaryOp .Pow) (rI CPow fun i j => .int (i ^ j.toNat)) := opI fun _ _ _ _ _ _ _ hc q => pow_int_small hc.1 hc.2.1 hc.2.2 q
theorem unI {f : Value → Sem Value} {g : Int → Int}
    (rule : ∀ (i : Int) (t : Tok) (s : Shared) (Q : Value → Shared → Prop) (E : Value → Shared → Prop), Q (.int (g i) s.toks) { s with toks := s.toks + 1 } → wpAny (model X.prog X.w) X.A (f (.int i t)) Q E s) :
    UnR X f (rU fun i => .int (g i)) := by
  (try refine ⟨?_⟩); intro pins s σ H x v Q I rx h
  obtain ⟨i, rfl, q⟩ := h
  obtain ⟨t, rfl⟩ := rx
  exact rule i t s _ _ ⟨.int (g i), H, I.tok _, ⟨_, rfl⟩, q⟩
theorem un_neg : UnR X (unaryOp .USub) (rU fun i => .int (-i)) := unI fun _ _ _ _ _ q => neg_int q
/-! ### bools among ints: n += (a < b) -/
end

/-! ### comparisons -/
section
variable {X : Cx} {a b c : Expr} {ta tb tc : TE} {pos : Pos}
theorem fin_bl {pins : List (Addr × Obj)} {σ : St} {H : Hp} {s : Shared} {Q : VK} {k k' : Bool} (I : Inv X pins σ H s) (q : Q (.bl k) H) (e : k = k') : EP X pins σ Q (.bool k') s := by
  subst e
  exact ⟨.bl k, H, I, rfl, q⟩
theorem op_lt : OpR X (compareOp .Lt) (rI0 fun i j => .bl (decide (i < j))) := opB0 fun _ _ _ _ _ _ _ q => lt_int q
theorem op_le : OpR X (compareOp .LtE) (rI0 fun i j => .bl (decide (i ≤ j))) := opB0 fun _ _ _ _ _ _ _ q => le_int q
theorem op_gt : OpR X (compareOp .Gt) (rI0 fun i j => .bl (decide (j < i))) := opB0 fun _ _ _ _ _ _ _ q => gt_int q
/-- is None, is not None: the right side a value none -/
theorem op_isN : OpR X (compareOp .Is) (fun x y H Q => y = .non ∧ Q (.bl (decide (x = .non))) H) := by
  (try refine ⟨?_⟩); intro pins s σ H x y v u Q I rx ry h
  obtain ⟨rfl, q⟩ := h
  cases ry
  refine is_none_gen (fin_bl I q ?_)
  cases x <;> first
    | (cases rx; rfl)
    | (obtain ⟨t, rfl⟩ := rx; rfl)
theorem nomark (b : Expr) {op : CmpOp} (h : op ≠ .In := by decide) (h2 : op ≠ .NotIn := by decide) : behindInMarks op b = false := by
  have e1 : (op == CmpOp.In) = false := by cases op <;> first | rfl | exact absurd rfl h
  have e2 : (op == CmpOp.NotIn) = false := by cases op <;> first | rfl | exact absurd rfl h2
  cases b <;> simp [behindInMarks, e1, e2]
/-- a comparison as a value; hm: nomark b, or (for in, not in) by with_unfolding_all rfl -/
theorem pe_cmpR {op : CmpOp} {r : R2} (ho : OpR X (compareOp op) r) (ha : PE X a ta) (hb : PE X b tb) (hm : behindInMarks op b = false) : PE X (.Compare a [op] [b] pos) (tOp r ta tb) := by
  (try refine ⟨?_⟩); intro pins s σ H Q I h
  exact wpAny_Compare1 (binT ha hb I h fun v u s2 x y H2 I2 rx ry q => ho pins s2 σ H2 x y v u Q I2 rx ry q) hm
/-- a reading of a value as a test -/
noncomputable def tTest (t : TE) : TT := fun σ H Q => t σ H fun x H' => ∃ k, x = .bl k ∧ Q k H'
theorem pt_cmpR {op : CmpOp} {r : R2} (ho : OpR X (compareOp op) r) (ha : PE X a ta) (hb : PE X b tb) (hm : behindInMarks op b = false) : PT X (.Compare a [op] [b] pos) (tTest (tOp r ta tb)) := by
  (try refine ⟨?_⟩); intro pins s σ H Q I h
  refine wpAny_isTrue_Compare1 (thn (ha pins s σ H _ I h) fun v s1 ⟨x, H1, I1, r1, q1⟩ => thn (hb pins s1 σ H1 _ I1 q1) fun u s2 ⟨y, H2, I2, r2, q2⟩ =>
    thn (ho pins s2 σ H2 x y v u _ I2 r1 r2 q2) fun c s3 ⟨z, H3, I3, r3, k, e, q3⟩ => ?_) hm
  subst e
  cases r3
  exact wpAny_truthy_bool ⟨H3, I3, q3⟩
/-- a op1 b op2 c -/
noncomputable def tChain (r r' : R2) (ta tb tc : TE) : TE := fun σ H Q => ta σ H fun x H1 => tb σ H1 fun y H2 => r x y H2 fun z H3 => ∃ k, z = .bl k ∧
  (if k = true then tc σ H3 fun w' H4 => r' y w' H4 Q else Q (.bl false) H3)
theorem pe_chain {op op' : CmpOp} {r r' : R2} (ho : OpR X (compareOp op) r) (ho' : OpR X (compareOp op') r') (ha : PE X a ta) (hb : PE X b tb) (hc : PE X c tc)
    (hm : lastMarks [op, op'] [b, c] = false := by with_unfolding_all rfl) : PE X (.Compare a [op, op'] [b, c] pos) (tChain r r' ta tb tc) := by
  (try refine ⟨?_⟩); intro pins s σ H Q I h
  refine Compare_chain (thn (ha pins s σ H _ I h) fun v s1 ⟨x, H1, I1, r1, q1⟩ => chain_link (thn (hb pins s1 σ H1 _ I1 q1) fun u s2 ⟨y, H2, I2, r2, q2⟩ =>
    thn (ho pins s2 σ H2 x y v u _ I2 r1 r2 q2) fun d s3 ⟨z, H3, I3, r3, k, e, q3⟩ => ?_)) hm
  subst e
  cases r3
  refine wpAny_truthy_bool ?_
  cases k with
  | false => exact ite_ff ⟨.bl false, H3, I3, rfl, q3⟩
  | true => exact ite_tt (chain_last (thn (hc pins s3 σ H3 _ I3 q3) fun w' s4 ⟨z', H4, I4, r4, q4⟩ => ho' pins s4 σ H4 y z' u w' Q I4 r2 r4 q4))
/-! ### truth -/
theorem line63 : (sizeLine : Nat) < 2 ^ 63 := by rw [sizeLine_eq]; decide
/-! ### strs and bytes -/
/-! ### scalar builtins, by CallR -/
theorem vals1 {x : V} {us : List Value} (r : Vals [x] us) : ∃ u, us = [u] ∧ RelV x u := by
  cases r with
  | cons r1 r2 => cases r2; exact ⟨_, rfl, r1⟩
theorem vals2 {x y : V} {us : List Value} (r : Vals [x, y] us) : ∃ u w', us = [u, w'] ∧ RelV x u ∧ RelV y w' := by
  cases r with
  | cons r1 r2 =>
    cases r2 with
    | cons r3 r4 => cases r4; exact ⟨_, _, rfl, r1, r3⟩
theorem call_max2 (hc : X.calm = true) : CallR X (.builtin "max") (fun xs H Q => ∃ i j, xs = [.int i, .int j] ∧ Q (.int (if j > i then j else i)) H) := by
  (try refine ⟨?_⟩); intro pins s σ H xs us Q I r h
  obtain ⟨i, j, rfl, q⟩ := h
  obtain ⟨u, w', rfl, ⟨t, rfl⟩, ⟨t', rfl⟩⟩ := vals2 r
  refine max_two_ints (I.ok.hd hc) fun h' tk k => ⟨_, H, I.kept k, ?_, q⟩
  by_cases hj : j > i
  · rw [if_pos hj, if_pos hj]; exact ⟨_, rfl⟩
  · rw [if_neg hj, if_neg hj]; exact ⟨_, rfl⟩
theorem call_min2 (hc : X.calm = true) : CallR X (.builtin "min") (fun xs H Q => ∃ i j, xs = [.int i, .int j] ∧ Q (.int (if j < i then j else i)) H) := by
  (try refine ⟨?_⟩); intro pins s σ H xs us Q I r h
  obtain ⟨i, j, rfl, q⟩ := h
  obtain ⟨u, w', rfl, ⟨t, rfl⟩, ⟨t', rfl⟩⟩ := vals2 r
  refine min_two_ints (I.ok.hd hc) fun h' tk k => ⟨_, H, I.kept k, ?_, q⟩
  by_cases hj : j < i
  · rw [if_pos hj, if_pos hj]; exact ⟨_, rfl⟩
  · rw [if_neg hj, if_neg hj]; exact ⟨_, rfl⟩
theorem call_int1 : CallR X (.type "int") (fun xs H Q => (∃ i, xs = [.int i] ∧ Q (.int i) H) ∨ ∃ k, xs = [.bl k] ∧ Q (.int (if k then 1 else 0)) H) := by
  (try refine ⟨?_⟩); intro pins s σ H xs us Q I r h
  rcases h with ⟨i, rfl, q⟩ | ⟨k, rfl, q⟩
  · obtain ⟨u, rfl, t, rfl⟩ := vals1 r
    exact call_int_int ⟨.int i, H, I, ⟨_, rfl⟩, q⟩
  · obtain ⟨u, rfl, r1⟩ := vals1 r
    cases r1
    exact call_int_bool ⟨.int (if k then 1 else 0), H, I.tok _, ⟨_, rfl⟩, q⟩
theorem call_str_int : CallR X (.type "str") (fun xs H Q => ∃ i, xs = [.int i] ∧ i.natAbs.log2 < 1920 ∧ Q (.str (toString i)) H) := by
  (try refine ⟨?_⟩); intro pins s σ H xs us Q I r h
  obtain ⟨i, rfl, hz, q⟩ := h
  obtain ⟨u, rfl, t, rfl⟩ := vals1 r
  exact PySem.P.str_of_int hz ⟨.str _, H, I.tok _, ⟨_, rfl⟩, q⟩
end
end L2

namespace L2
open PySem PySem.Spec PyProof.Rows

/-! ### an instance, its attributes a map -/
structure ObjM (h : Heap) (x dx C : Addr) (mA : Str → Option Value) : Prop where
  obj : h.get? x = some (PySem.W.instObj C dx)
  ns : h.Ns1 dx mA
  ne : dx ≠ x

theorem lookIn_ns {h : Heap} {dx : Addr} {mA : Str → Option Value} (n : h.Ns1 dx mA) : ∃ od, h.get? dx = some od ∧ ∀ name, PySem.W.lookIn name od = some (mA name) := by
  obtain ⟨o, es, ep, ho, hd, hk, _, hm⟩ := n
  refine ⟨o, ho, fun name => ?_⟩
  have e := hm name
  unfold nsFind findBy at e
  rw [← Array.find?_toList] at e
  unfold PySem.W.lookIn
  rw [hd]
  dsimp only
  split
  · rename_i y q
    rw [q] at e
    exact congrArg some e
  · rename_i q
    rw [q] at e
    have a : es.toList.any (·.refKey) = false := by
      rw [List.any_eq_false]
      intro y hy
      obtain ⟨z, t, hkey⟩ := hk y (Array.mem_toList_iff.mp hy)
      simp [DictEntry.refKey, hkey]
    have a' : ¬ es.toList.any (·.refKey) = true := by rw [a]; exact Bool.false_ne_true
    rw [if_neg a']
    exact congrArg some e

theorem ObjM.look {h : Heap} {x dx C : Addr} {mA : Str → Option Value} (I : ObjM h x dx C mA) : ∃ od, PySem.W.InstAt h x (PySem.W.instObj C dx) C (some od) ∧ ∀ name, PySem.W.lookIn name od = some (mA name) :=
  let ⟨od, ho, hl⟩ := lookIn_ns I.ns
  ⟨od, ⟨I.obj, rfl, rfl, ho⟩, hl⟩

section
variable {prog : Program} {w : World} {A : Around} {E : Value → Shared → Prop} {s : Shared} {K : PySem.W.Frag} {x dx C f : Addr} {mA : Str → Option Value} {name : Str} {v : Value}

end

/-! ### the attributes as a list of pairs -/
theorem RelO.some_of {v : V} {o : Option Value} (r : RelO (some v) o) : ∃ u, o = some u ∧ RelV v u := by
  cases o with
  | none => exact (show False from r).elim
  | some u => exact ⟨u, rfl, r⟩
theorem handed_of {v : V} {u : Value} (r : RelV v u) : PySem.W.handedIn u = true := by
  cases v with
  | non => cases (show u = Value.none from r); rfl
  | bl b => cases (show u = Value.bool b from r); rfl
  | int i => obtain ⟨t, e⟩ := (show ∃ t, u = Value.int i t from r); cases e; rfl
  | str x => obtain ⟨t, e⟩ := (show ∃ t, u = Value.str x t from r); cases e; rfl
  | byt b => obtain ⟨t, e⟩ := (show ∃ t, u = Value.bytes b t from r); cases e; rfl
  | flt b => obtain ⟨t, e⟩ := (show ∃ t, u = Value.float b t from r); cases e; rfl
  | ref a => cases (show u = Value.ref a from r); rfl
  | ty n => cases (show u = Value.type n from r); rfl

section
variable {P : Program} {w : World} {H H' : Hp} {h h' : Heap} {a C dx : Addr} {fs fs' : List (Str × V)}
theorem ins_get (hok : HOk P w H h) (e : H a = some (.ins C dx fs)) : ∃ mA, ObjM h a dx C mA ∧ (∀ f, RelO (fs.lookup f) (mA f)) ∧ PySem.Within mA (fs.map (·.1)) ∧ fs.length ≤ 1000 ∧ H dx = some (.own a) := by
  obtain ⟨d, z, ne, ob, mA, n, r, q⟩ := (show ObjOk P w H h a (.ins C dx fs) from hok a _ e)
  exact ⟨mA, ⟨ob, n, ne⟩, r, q, z, d⟩
end

/-! ### what of the text a class must have -/
structure Cls (K : PySem.W.Frag) (C : Addr) : Prop where
  pg : PySem.W.plainGet K C Str.empty = true
  hd : PySem.W.hasDictIn K C = true
  po : PySem.W.plainOver K C = true
  sa : PySem.W.findIn K (.ref C) "__setattr__" = some (some (.builtin "object.__setattr__"))
theorem Cls.get {K : PySem.W.Frag} {C : Addr} (c : Cls K C) (f : Str) : PySem.W.plainGet K C f = true := c.pg
section
variable {X : Cx} {pins : List (Addr × Obj)} {σ : St} {H : Hp} {s : Shared} {a C dx : Addr} {fs : List (Str × V)} {f : Str} {v : V} {A : Around} {E : Value → Shared → Prop}

/-- e.f where nothing but the object is asked: through attributeBase (super) and the last hold -/
theorem attr_of {prog : Program} {w : World} {env : Env} {e : Expr} {f : Str} {pos : Pos} {s : Shared} {Q : Value → Shared → Prop} (hb : attributeBase e f env (eval e env) = eval e env)
    (h : wpAny (model prog w) A (eval e env) (fun o s₁ => wpAny (model prog w) A (getAttr o f true) Q E s₁) E s) : wpAny (model prog w) A (eval (.Attribute e f pos) env) Q E s :=
  Attribute_any_ h (by rw [arm_eval_Attribute, hb])
end

/-! ### readings and rules -/
section
variable {X : Cx} {o e value : Expr} {f : Str} {pos pos' tpos : Pos} {ta tv : TE}
end

/-! ### isinstance -/
section
variable {X : Cx} {pins : List (Addr × Obj)} {σ : St} {H : Hp} {s : Shared} {A : Around} {E : Value → Shared → Prop} {Q : Value → Shared → Prop} {c : Value} {b : Bool}
/-- the type of a value, as the fragment's deciders take it; for an instance its class -/
inductive TyOf (K : PySem.W.Frag) (H : Hp) : V → Value → Prop where
  | non : TyOf K H .non (.type "NoneType")
  | bl (x : Bool) : TyOf K H (.bl x) (.type "bool")
  | int (i : Int) : TyOf K H (.int i) (.type "int")
  | str (x : Str) : TyOf K H (.str x) (.type "str")
  | flt (x : UInt64) : TyOf K H (.flt x) (.type "float")
  | lst {a : Addr} {xs : List V} (e : H a = some (.lst xs)) : TyOf K H (.ref a) (.type "list")
  | frz {a : Addr} {o : Obj} {xs : List V} (e : H a = some (.frz o (.lst xs))) : TyOf K H (.ref a) (.type "list")
  | tup {a : Addr} {xs : List V} (e : H a = some (.tup xs)) : TyOf K H (.ref a) (.type "tuple")
  | dK {a : Addr} {kvs : List (Key × V)} (e : H a = some (.dK kvs)) : TyOf K H (.ref a) (.type "dict")
  | dT {a : Addr} {kvs : List (List Key × V)} (e : H a = some (.dT kvs)) : TyOf K H (.ref a) (.type "dict")
  | ins {a C dx : Addr} {fs : List (Str × V)} (e : H a = some (.ins C dx fs)) (cl : Cls K C) (ha : PySem.W.findIn K (.ref C) "__class__" = some (some (.builtin "object.__class__")))
      (hn : PySem.W.specialIn K (.builtin "object.__class__") "__get__" = some (some (.builtin "getset_descriptor.__get__"))) (htk : PySem.W.takesIn K (.builtin "object.__class__") = some true)
      (hm : PySem.W.mroIn K C (.type "object") = some true) : TyOf K H (.ref a) (.ref C)
/-- isinstance(x, c) for one class c, a built-in or an own one: kitOne's answer -/
theorem isinst_ok {x : V} {u t : Value} (I : Inv X pins σ H s) (rx : RelV x u) (ty : TyOf X.K H x t) (e : PySem.W.kitOne X.K t c = some b) (h : ∀ tk, Q (.bool b) { s with toks := tk }) :
    wpAny (model X.prog X.w) A (call (.builtin "isinstance") [u, c]) Q E s := by
  cases ty with
  | non => cases (show u = Value.none from rx); exact PySem.W.kia_one PySem.W.kitx_none I.kIn True.intro e (fun z => nomatch z) h
  | bl y => cases (show u = Value.bool y from rx); exact PySem.W.kia_one PySem.W.kitx_bool I.kIn True.intro e (fun z => nomatch z) h
  | int i => obtain ⟨t, q⟩ := (show ∃ t, u = Value.int i t from rx); cases q; exact PySem.W.kia_one PySem.W.kitx_int I.kIn True.intro e (fun z => nomatch z) h
  | str y => obtain ⟨t, q⟩ := (show ∃ t, u = Value.str y t from rx); cases q; exact PySem.W.kia_one PySem.W.kitx_str I.kIn True.intro e (fun z => nomatch z) h
  | flt y => obtain ⟨t, q⟩ := (show ∃ t, u = Value.float y t from rx); cases q; exact PySem.W.kia_one PySem.W.kitx_float I.kIn True.intro e (fun z => nomatch z) h
  | @lst a xs ea =>
    cases (show u = Value.ref a from rx)
    obtain ⟨_, _, n, _, h1⟩ := (show ObjOk X.prog X.w H s.heap a (.lst xs) from I.hok a _ ea)
    exact PySem.W.kia_one PySem.W.kitx_list I.kIn ⟨_, h1, rfl⟩ e (fun z => nomatch z) h
  | @frz a ob xs ea =>
    cases (show u = Value.ref a from rx)
    obtain ⟨_, _, _, n, _, h1⟩ := (show ObjOk X.prog X.w H s.heap a (.frz ob (.lst xs)) from I.hok a _ ea)
    exact PySem.W.kia_one PySem.W.kitx_list I.kIn ⟨_, h1, rfl⟩ e (fun z => nomatch z) h
  | @tup a xs ea =>
    cases (show u = Value.ref a from rx)
    obtain ⟨_, _, _, p⟩ := (show ObjOk X.prog X.w H s.heap a (.tup xs) from I.hok a _ ea)
    obtain ⟨o, h1, h2, _⟩ := p
    exact PySem.W.kia_one PySem.W.kitx_tuple I.kIn ⟨o, h1, h2⟩ e (fun z => nomatch z) h
  | @dK a kvs ea =>
    cases (show u = Value.ref a from rx)
    obtain ⟨_, _, vs, _, p⟩ := (show ObjOk X.prog X.w H s.heap a (.dK kvs) from I.hok a _ ea)
    obtain ⟨o, es, ep, h1, h2, _⟩ := p
    exact PySem.W.kia_one PySem.W.kitx_dict I.kIn ⟨o, h1, h2.1⟩ e (fun z => nomatch z) h
  | @dT a kvs ea =>
    cases (show u = Value.ref a from rx)
    obtain ⟨_, _, xs, _, o, es, ep, h1, h2, _⟩ := (show ObjOk X.prog X.w H s.heap a (.dT kvs) from I.hok a _ ea)
    exact PySem.W.kia_one PySem.W.kitx_dict I.kIn ⟨o, h1, h2.1⟩ e (fun z => nomatch z) h
  | @ins a C dx fs ea cl ha hn htk hm =>
    cases (show u = Value.ref a from rx)
    obtain ⟨mA, O, _⟩ := ins_get I.hok ea
    obtain ⟨od, J, _⟩ := O.look
    exact PySem.W.kia_one (PySem.W.kitx_own (cl.get _) cl.hd ha hn htk hm) I.kIn J e (fun z => nomatch z) h
end
end L2

namespace L2
open PySem PySem.Spec PyProof.Rows

/-! ### room -/
structure Room (k : Nat) (A : Around) : Prop where
  hd : A.handled = none
  dp : A.depth + 3 * k + 5 < recursionLimit
  un : A.units + 16 * k + 200 < cLine
theorem Room.mono {j k : Nat} {A : Around} (r : Room k A) (h : j ≤ k) : Room j A := ⟨r.hd, by have := r.dp; omega, by have := r.un; omega⟩
theorem Room.deeper {k : Nat} {A : Around} (r : Room (k + 1) A) (env : Env) : Room k (A.deeper env) :=
  ⟨r.hd, by have := r.dp; show A.depth + 1 + 3 * k + 5 < _; omega, by have := r.un; show A.units + 3 + 16 * k + 200 < _; omega⟩
theorem make_depth {A : Around} {C : Addr} {us : List Value} {kw : List (Str × Value)} : (A.under (.builtin "type.__call__" ⟨.ref C :: us, kw⟩)).depth = A.depth + 1 := by
  first | rfl | simp [Around.under, Code.weight, Code.isCreation, Code.isGuard, Code.isCaller, Code.frames, Code.isFrame, guardIds]
theorem make_units {A : Around} {C : Addr} {us : List Value} {kw : List (Str × Value)} : (A.under (.builtin "type.__call__" ⟨.ref C :: us, kw⟩)).units = A.units + 1 := by
  first | rfl | simp [Around.under, Code.cUnits, Code.frames, Code.isFrame]
theorem Room.make {k : Nat} {A : Around} (r : Room (k + 1) A) (C : Addr) (us : List Value) (kw : List (Str × Value)) : Room k (A.under (.builtin "type.__call__" ⟨.ref C :: us, kw⟩)) :=
  ⟨r.hd, by have := r.dp; rw [make_depth]; omega, by have := r.un; rw [make_units]; omega⟩
theorem Room.depth {k : Nat} {A : Around} (r : Room k A) : A.depth < recursionLimit := by have := r.dp; omega
theorem Room.units {k : Nat} {A : Around} (r : Room k A) : A.units + 64 < cLine := by have := r.un; omega
/-! ### argument lists and displays -/
noncomputable def tNil : TA := fun _ H Q => Q [] H
noncomputable def tCons (ta : TE) (tr : TA) : TA := fun σ H Q => ta σ H fun x H1 => tr σ H1 fun xs H2 => Q (x :: xs) H2
section
variable {X : Cx} {e : Expr} {es : List Expr} {te : TE} {t : TA} {pos : Pos}
theorem pa_nil : PA X [] tNil := ⟨fun _ _ _ _ H Q I h => Calls.spliced_nil ⟨[], H, I, .nil, h⟩⟩
theorem pa_cons (ha : PE X e te) (hr : PA X es t) (hs : starEach (e :: es) X.env = (false, eval e X.env) :: starEach es X.env := by rfl) : PA X (e :: es) (tCons te t) := by
  (try refine ⟨?_⟩); intro pos pins s σ H Q I h
  rw [hs]
  show wpAny _ _ (spliced ((false, eval e X.env) :: backTo pos (starEach es X.env))) _ _ s
  refine Calls.spliced_cons (thn (ha pins s σ H _ I h) fun u s1 ⟨x, H1, I1, r1, q1⟩ => ?_)
  exact thn (hr pos pins s1 σ H1 _ I1 q1) fun us s2 ⟨xs, H2, I2, r2, q2⟩ => ⟨x :: xs, H2, I2, .cons r1 r2, q2⟩

/-- a tuple, a list of written items -/
noncomputable def tTup (t : TA) : TE := fun σ H Q => t σ H fun xs H1 => xs.length ≤ sizeLine ∧ ∀ p, H1 p = none → Q (.ref p) (upd H1 p (.tup xs))
noncomputable def tLst (t : TA) : TE := fun σ H Q => t σ H fun xs H1 => xs.length ≤ sizeLine ∧ ∀ p, H1 p = none → Q (.ref p) (upd H1 p (.lst xs))
theorem pe_tup {x1} (h : PA X es t) : PE X (.Tuple es x1 pos) (tTup t) := by
  (try refine ⟨?_⟩); intro pins s σ H Q I hq
  refine wpAny_Tuple_spliced (thn (h pos pins s σ H _ I hq) fun us s1 ⟨xs, H1, I1, r, z, q⟩ => ⟨by rw [← r.length]; exact z, ?_⟩)
  have hf : H1 s1.heap.objs.size = none := I1.hok.fresh (Nat.le_refl _)
  refine ⟨.ref s1.heap.objs.size, upd H1 s1.heap.objs.size (.tup xs), I1.laid (t' := s1.toks) (fun b u e => Heap.get?_push_of_some _ e) (Nat.le_refl _) ?_, rfl, q _ hf⟩
  exact ⟨z, us, r, ⟨_, Heap.get?_push_size _ rfl, rfl, _, rfl⟩⟩
theorem pe_lst (h : PA X es t) : PE X (.List es pos) (tLst t) := by
  (try refine ⟨?_⟩); intro pins s σ H Q I hq
  refine wpAny_List_spliced (thn (h pos pins s σ H _ I hq) fun us s1 ⟨xs, H1, I1, r, z, q⟩ => ⟨by rw [← r.length]; exact z, ?_⟩)
  have hf : H1 s1.heap.objs.size = none := I1.hok.fresh (Nat.le_refl _)
  refine ⟨.ref s1.heap.objs.size, upd H1 s1.heap.objs.size (.lst xs), I1.laid (t' := s1.toks) (fun b u e => Heap.get?_push_of_some _ e) (Nat.le_refl _) ?_, rfl, q _ hf⟩
  exact ⟨z, us, 0, r, Heap.get?_push_size _ rfl⟩
end

/-! ### what a def promises -/
/-- a def's promise: the bound arguments in the parameters' order, the heap, the wanted end, the wanted exception -/
noncomputable abbrev Sp := List V → Hp → VK → XK → Prop
/-- how an exception lies behind a call (file 08 gives it): the callers' frames, abstract heap and state ahead of the call, the wish, the exception, the state -/
noncomputable abbrev CXT := List Env → Hp → Shared → XK → Value → Shared → Prop

/-- the state at a call -/
structure Env0 (P : Program) (w : World) (K : PySem.W.Frag) (mg : Str → Option Value) (base : Heap) (A : Around) (outer : List Env) (s : Shared) (H : Hp) : Prop where
  frames : A.frames = some outer
  mod : Mod K mg base
  bs : ∀ b o, base.get? b = some o → s.heap.get? b = some o ∧ H b = none
  bsz : base.objs.size ≤ s.heap.objs.size
  funs : s.heap.FunFrames base outer
  frf : ∀ b ∈ frs outer, H b = none
  hok : HOk P w H s.heap
  bare : AllBare s.gens
/-- a call's end -/
noncomputable def CE (outer : List Env) (P : Program) (w : World) (H : Hp) (s : Shared) (Q : VK) (u : Value) (s' : Shared) : Prop :=
  ∃ v H', s'.os = s.os ∧ AllBare s'.gens ∧ Un (frs outer) [] H H' s.heap s'.heap ∧ HOk P w H' s'.heap ∧ RelV v u ∧ Q v H'
noncomputable def CR (CX : CXT) (outer : List Env) (P : Program) (w : World) (H : Hp) (s : Shared) (Q : VK) (E : XK) (r : Result) (s' : Shared) : Prop :=
  match r with
  | .ok (.ret u) => CE outer P w H s Q u s'
  | .ok _ => False
  | .error e => CX outer H s E e s'
structure FnOk (P : Program) (w : World) (K : PySem.W.Frag) (mg : Str → Option Value) (base : Heap) (CX : CXT) (k : Nat) (f : Addr) (fd : FuncData) (ps : List Str) (sp : Sp) : Prop where
  len : ∀ vs H Q E, sp vs H Q E → vs.length = ps.length
  run : ∀ (A : Around) (outer : List Env) (s : Shared) (H : Hp) (args : Args) (us : List Value) (vs : List V) (Q : VK) (E : XK), Room k A → Env0 P w K mg base A outer s H → BindsTo s fd args (ps.zip us) → Vals vs us → sp vs H Q E →
    codeAny (model P w) A (.call (.ref f) args) (CR CX outer P w H s Q E) s
/-- a weaker promise -/
theorem FnOk.imp {P : Program} {w : World} {K : PySem.W.Frag} {mg : Str → Option Value} {base : Heap} {CX : CXT} {k : Nat} {f : Addr} {fd : FuncData} {ps : List Str} {sp sp' : Sp} (F : FnOk P w K mg base CX k f fd ps sp)
    (h : ∀ vs H Q E, sp' vs H Q E → sp vs H Q E) : FnOk P w K mg base CX k f fd ps sp' :=
  ⟨fun vs H Q E q => F.len vs H Q E (h _ _ _ _ q), fun A outer s H args us vs Q E hr he hb hv hs => F.run A outer s H args us vs Q E hr he hb hv (h _ _ _ _ hs)⟩

theorem Env0.make {P : Program} {w : World} {K : PySem.W.Frag} {mg : Str → Option Value} {base : Heap} {A : Around} {outer : List Env} {s : Shared} {H : Hp} (e : Env0 P w K mg base A outer s H) (C : Addr) (us : List Value) (kw : List (Str × Value)) :
    Env0 P w K mg base (A.under (.builtin "type.__call__" ⟨.ref C :: us, kw⟩)) outer s H := ⟨by first | exact e.frames | (simpa [Around.under, Code.envs, Code.isFrame, pushEnvs] using e.frames), e.mod, e.bs, e.bsz, e.funs, e.frf, e.hok, e.bare⟩
section
variable {X : Cx} {pins : List (Addr × Obj)} {σ : St} {H : Hp} {s s' : Shared}
/-- from a body: what a callee wants -/
theorem Inv.env0 (I : Inv X pins σ H s) : Env0 X.prog X.w X.K X.mg X.base X.A X.stack s H :=
  ⟨I.ok.frames, I.ok.mod, I.bs, Nat.le_trans I.ok.bsz I.sz, I.stack, I.stkFree, I.hok, I.bare⟩
/-- behind a call -/
theorem Inv.after {Q : VK} {u : Value} (I : Inv X pins σ H s) (h : CE X.stack X.prog X.w H s Q u s') : EP X pins σ Q u s' := by
  obtain ⟨v, H', os, bare, un, hok, r, q⟩ := h
  obtain ⟨hh, g, d, t, os'⟩ := s'
  obtain rfl : os' = s.os := os
  exact ⟨v, H', I.call (h' := hh) (g' := g) (d' := d) (t' := t) (ch := []) un hok bare (fun b z => absurd z (by simp)), r, q⟩
end

/-! ### calls -/
/-- f(..): the written arguments, then the defaults dvs; E: what is wanted of an exception -/
noncomputable def tCall (sp : Sp) (dvs : List V) (E : XK) (t : TA) : TE := fun σ H Q => t σ H fun vs H1 => sp (vs ++ dvs) H1 Q E
/-- how the parameters are bound: us the positional arguments, kw the keywords' values by name, ds the defaults that fill up -/
noncomputable def Binds (K : PySem.W.Frag) (fd : FuncData) (ps : List Str) (ds : List Value) : Prop :=
  ∀ (s : Shared) (us : List Value), K.In s.heap → (us ++ ds).length = ps.length → BindsTo s fd ⟨us, []⟩ (ps.zip (us ++ ds))
/-- every parameter is given -/
theorem Binds.all {K : PySem.W.Frag} {fd : FuncData} {ps : List Str} (h : ∀ us : List Value, us.length = ps.length → bindArgs fd ⟨us, []⟩ = pure (ps.zip us)) : Binds K fd ps [] := fun s us _ hl => by
  rw [List.append_nil] at hl ⊢
  exact .of_eq (h us hl)

/-- an exception of a callee reaches what this body wants of exceptions -/
noncomputable def Passes (CX : CXT) (X : Cx) (E : XK) : Prop := ∀ (pins : List (Addr × Obj)) (σ : St) (H : Hp) (s : Shared) (e : Value) (s' : Shared), Inv X pins σ H s → CX X.stack H s E e s' → X.xe e s'

section
variable {X : Cx} {CX : CXT} {k : Nat} {f C : Addr} {fd : FuncData} {ps : List Str} {sp : Sp} {dvs : List V} {ds : List Value} {E : XK} {x m : Str} {p pos apos : Pos} {e o : Expr} {es : List Expr} {ta : TE} {t : TA}

/-- the callee runs -/
theorem run_fn {pins : List (Addr × Obj)} {σ : St} {H : Hp} {s : Shared} {Q : VK} {us : List Value} {vs : List V} (F : FnOk X.prog X.w X.K X.mg X.base CX k f fd ps sp) (hr : Room k X.A) (hb : Binds X.K fd ps ds) (hd : Vals dvs ds) (hx : Passes CX X E)
    (I : Inv X pins σ H s) (r : Vals vs us) (h : sp (vs ++ dvs) H Q E) : wpAny (model X.prog X.w) X.A (call (.ref f) us) (EP X pins σ Q) X.xe s := by
  have r2 : Vals (vs ++ dvs) (us ++ ds) := r.append hd
  have hl : (us ++ ds).length = ps.length := by rw [← r2.length]; exact F.len _ _ _ _ h
  refine wpAny_call (codeAny_mono (F.run X.A X.stack s H ⟨us, []⟩ (us ++ ds) (vs ++ dvs) Q E hr I.env0 (hb s us I.kIn hl) r2 h) fun r s' hq => ?_)
  cases r with
  | error e => exact hx pins σ H s e s' I hq
  | ok fl =>
    cases fl with
    | ret u => exact I.after hq
    | next => exact False.elim hq
    | brk => exact False.elim hq
    | cont => exact False.elim hq

theorem pe_call (F : FnOk X.prog X.w X.K X.mg X.base CX k f fd ps sp) (hr : Room k X.A) (hg : Gl X x) (hm : X.mg x = some (.ref f)) (hk : PySem.W.keepIn X.K (.ref f) = true) (hb : Binds X.K fd ps ds) (hd : Vals dvs ds) (hx : Passes CX X E)
    (ha : PA X (e :: es) t) (hdb : (x == ("__debug__" : Str)) = false := by decide) (he : starEach (e :: es) X.env = (false, eval e X.env) :: starEach es X.env := by rfl) (hpl : (backTo pos (starEach es X.env)).any (·.1) = false := by rfl) :
    PE X (.Call (.Name x p) (e :: es) [] pos) (tCall sp dvs E t) := by
  (try refine ⟨?_⟩); intro pins s σ H Q I h
  refine wpAny_Call_Name_kw (ld_glob I hg hm ?_ hdb)
  refine PySem.W.callWith_K (h₀ := X.base) I.ok.mod.kin hk (thn (ha pos pins s σ H _ I h) fun us s1 ⟨vs, H1, I1, r, q⟩ => ⟨I1.kIn, ?_⟩) he hpl
  exact run_fn F hr hb hd hx I1 r q
/-- what a class must have to be made -/
structure Mk (K : PySem.W.Frag) (C f : Addr) : Prop where
  makes : PySem.W.makesIn K C = true
  init : PySem.W.findIn K (.ref C) "__init__" = some (some (.ref f))
  fn : PySem.W.isFn K (.ref f) = true
  kp : PySem.W.keepIn K (.ref C) = true

end

/-! ### keywords -/
section
variable {X : Cx} {CX : CXT} {k : Nat} {f C : Addr} {fd : FuncData} {ps ks : List Str} {sp : Sp} {E : XK} {x m : Str} {p pos apos kpos : Pos} {e o : Expr} {es : List Expr} {kws : List Keyword} {te ta : TE} {t tk : TA} {nm : Option Str}
variable {g : List Value → List Value → List Value} {gV : List V → List V → List V}
end

/-! ### a def's body keeps its promise -/
/-- names: the parameters first -/
structure FnScope (N P : List Str) (sc : Scope) : Prop where
  kind : sc.kind = .function
  co : sc.isCoroutine = false
  gen : sc.isGenerator = false
  nd : N.Nodup
  pre : N.take P.length = P
  par : ∀ x ∈ P, sc.names.lookup x = some .local ∨ sc.names.lookup x = some .cell
  nofree : ∀ y ∈ sc.names, y.2 ≠ .free

theorem bindL_out {kindOf : Str → Option NameKind} {x : Str} : ∀ {binds : List (Str × Value)} {m : Str → Option Value}, (∀ v, (x, v) ∉ binds) → bindL kindOf binds m x = m x
  | [], _, _ => rfl
  | (n, v) :: r, m, h => by
    unfold bindL
    rw [bindL_out fun w hw => h w (List.mem_cons_of_mem _ hw)]
    split
    · have : x ≠ n := by rintro rfl; exact h v List.mem_cons_self
      simp [this]
    · rfl
theorem bindC_out {kindOf : Str → Option NameKind} {x : Str} : ∀ {binds : List (Str × Value)} {m : Str → Option Value}, (∀ v, (x, v) ∉ binds) → bindC kindOf binds m x = m x
  | [], _, _ => rfl
  | (n, v) :: r, m, h => by
    unfold bindC
    rw [bindC_out fun w hw => h w (List.mem_cons_of_mem _ hw)]
    split
    · rfl
    · have : x ≠ n := by rintro rfl; exact h v List.mem_cons_self
      simp [this]
theorem bindL_get {kindOf : Str → Option NameKind} {x : Str} {v : Value} : ∀ {P : List Str} {vs : List Value} {i : Nat} {m : Str → Option Value}, P.Nodup → P[i]? = some x → vs[i]? = some v → kindOf x = some .local →
    bindL kindOf (P.zip vs) m x = some v
  | [], _, _, _, _, h, _, _ => by simp at h
  | _ :: _, [], _, _, _, _, h, _ => by simp at h
  | p :: P, w :: vs, 0, m, nd, h1, h2, hk => by
    simp at h1 h2; subst h1; subst h2
    show bindL kindOf ((p, w) :: P.zip vs) m p = _
    unfold bindL
    rw [bindL_out fun v hv => (List.nodup_cons.mp nd).1 (List.of_mem_zip hv).1, if_pos hk]
    simp
  | p :: P, w :: vs, i + 1, m, nd, h1, h2, hk => by
    show bindL kindOf ((p, w) :: P.zip vs) m x = _
    unfold bindL
    exact bindL_get (i := i) (List.nodup_cons.mp nd).2 (by simpa using h1) (by simpa using h2) hk
theorem bindC_get {kindOf : Str → Option NameKind} {x : Str} {v : Value} : ∀ {P : List Str} {vs : List Value} {i : Nat} {m : Str → Option Value}, P.Nodup → P[i]? = some x → vs[i]? = some v → kindOf x ≠ some .local →
    bindC kindOf (P.zip vs) m x = some v
  | [], _, _, _, _, h, _, _ => by simp at h
  | _ :: _, [], _, _, _, _, h, _ => by simp at h
  | p :: P, w :: vs, 0, m, nd, h1, h2, hk => by
    simp at h1 h2; subst h1; subst h2
    show bindC kindOf ((p, w) :: P.zip vs) m p = _
    unfold bindC
    rw [bindC_out fun v hv => (List.nodup_cons.mp nd).1 (List.of_mem_zip hv).1, if_neg hk]
    simp
  | p :: P, w :: vs, i + 1, m, nd, h1, h2, hk => by
    show bindC kindOf ((p, w) :: P.zip vs) m x = _
    unfold bindC
    exact bindC_get (i := i) (List.nodup_cons.mp nd).2 (by simpa using h1) (by simpa using h2) hk

/-- the names' values at the entry -/
noncomputable def start (N : List Str) (vs : List V) : St := vs.map some ++ List.replicate (N.length - vs.length) none

/-- the context of a def's body, at its entry; an exception leaves the frame, then lies as CX says -/
noncomputable def cxOf (CX : CXT) (P : Program) (w : World) (K : PySem.W.Frag) (mg : Str → Option Value) (base : Heap) (N : List Str) (qual : Str) (scope : Scope) (f : Addr) (cd : Value) (A : Around) (outer : List Env) (s : Shared) (H : Hp) (E : XK) : Cx where
  prog := P
  w := w
  K := K
  mg := mg
  base := base
  A := A.deeper (envOfC qual scope s.heap.objs.size f cd)
  N := N
  s₀ := s
  H₀ := H
  env := envOfC qual scope s.heap.objs.size f cd
  outer := outer
  stack := envOfC qual scope s.heap.objs.size f cd :: outer
  ex := []
  calm := true
  fn := fun _ => true
  pn := []
  xe := fun e s' => wpAny (model P w) (A.deeper (envOfC qual scope s.heap.objs.size f cd)) (leaving (envOfC qual scope s.heap.objs.size f cd) e) (fun _ s'' => CX outer H s E e s'') (fun e' s'' => CX outer H s E e' s'') s'

theorem cell_has {sc : Scope} {n : Nat} {x : Str} (h : sc.names.lookup x = some .cell) : ∃ c, (cellsFrom n sc.names []).lookup x = some c := by
  have q := PySem.W.cellsFrom_some sc.names n [] (.inl h)
  exact Option.isSome_iff_exists.mp q

theorem inv_start {CX : CXT} {P : Program} {w : World} {K : PySem.W.Frag} {mg : Str → Option Value} {base : Heap} {N ps : List Str} {qual : Str} {scope : Scope} {f : Addr} {cd : Value} {A : Around} {outer : List Env} {s s1 : Shared} {H : Hp} {E : XK} {us : List Value} {vs : List V}
    (S : FnScope N ps scope) (hd : A.handled = none) (e0 : Env0 P w K mg base A outer s H) (hl : vs.length = ps.length) (r : Vals vs us)
    (x : InCallC s s.heap.objs.size (bindL (envOfC qual scope s.heap.objs.size f cd).kindOf (ps.zip us) fun _ => none) (cellsFrom (s.heap.objs.size + 1) scope.names []) (bindC (envOfC qual scope s.heap.objs.size f cd).kindOf (ps.zip us) fun _ => none) s1) :
    Inv (cxOf CX P w K mg base N qual scope f cd A outer s H E) [] (start N vs) H s1 := by
  have hpl : ps.length ≤ N.length := by have := congrArg List.length S.pre; rw [List.length_take] at this; omega
  obtain ⟨h1, tk, rfl, hk⟩ := x.done
  have noA : ∀ b : Addr, b ∉ (cxOf CX P w K mg base N qual scope f cd A outer s H E).ex := fun b z => absurd (show b ∈ ([] : List Addr) from z) (by simp)
  refine ⟨⟨e0.mod, S.kind, rfl, rfl, Nat.le_refl _, fun y z c h1 h2 => ?_, fun y hy => ?_, fun y c _ h => ?_, fun _ => hd, Around.frames_deeper e0.frames, .inr ⟨rfl, rfl⟩, fun b z => absurd z (noA b), e0.bs, e0.bsz, fun b _ _ => noA b, fun b z => absurd z (noA b), e0.funs, e0.frf⟩,
    rfl, e0.bare, Un.kept hk, ⟨_, x.toInCall.ns, fun i y v h1 h2 h3 => ?_⟩, fun y c h => ⟨_, x.cell y c h⟩, e0.hok.fresh (Nat.le_refl _), fun y c h => ?_, fun p hp => absurd (show p ∈ ([] : List (Addr × Obj)) from hp) (by simp), e0.hok.kept hk, ?_⟩
  · exact name_of_addr x.apart (PySem.mem_of_lookup h1) (PySem.mem_of_lookup h2)
  · have hy : scope.names.lookup y = some .cell ∨ scope.names.lookup y = some .free := hy
    rcases hy with hy | hy
    · exact cell_has hy
    · exact absurd rfl (S.nofree _ (PySem.mem_of_lookup hy))
  · exact Nat.le_of_lt (x.above y c (PySem.mem_of_lookup h))
  · have hi : i < vs.length := by
      unfold start at h2
      by_cases hi : i < vs.length
      · exact hi
      · rw [List.getElem?_append_right (by simpa using hi)] at h2
        rw [List.getElem?_replicate] at h2
        split at h2 <;> cases h2
    have ha : vs[i]? = some v := by
      unfold start at h2
      rw [List.getElem?_append_left (by simpa using hi), List.getElem?_map] at h2
      cases e : vs[i]? with
      | none => rw [e] at h2; cases h2
      | some a => rw [e] at h2; cases h2; rfl
    obtain ⟨u, hu, rv⟩ := r.get ha
    have hp : ps[i]? = some y := by
      rw [← S.pre, List.getElem?_take_of_lt (by omega)]; exact h1
    have ndP : ps.Nodup := by rw [← S.pre]; exact S.nd.sublist (List.take_sublist _ _)
    refine ⟨u, rv, ?_⟩
    rcases S.par y (List.mem_of_getElem? hp) with k | k
    · exact .inl ⟨k, bindL_get ndP hp hu k⟩
    · obtain ⟨c, e⟩ := cell_has (n := s.heap.objs.size + 1) k
      refine .inr ⟨.inl k, c, e, ?_⟩
      have q := x.cell y c e
      rw [bindC_get ndP hp hu (by show scope.names.lookup y ≠ _; rw [k]; decide)] at q
      exact q
  · exact e0.hok.fresh (Nat.le_of_lt (x.above y c (PySem.mem_of_lookup h)))
  · unfold start
    show _ = N.length
    rw [List.length_append, List.length_map, List.length_replicate]
    omega

/-- THE RULE: a def (or a method) of the text, by its body. The body's reading t is chosen for each entry; it is run at the parameters' values -/
theorem fn_of {CX : CXT} {P : Program} {w : World} {K : PySem.W.Frag} {mg : Str → Option Value} {base : Heap} {k : Nat} {f : Addr} {name qual : Str} {params : Arguments} {body : List Stmt} {scope : Scope} {dV kV doc pm cdv ct oc : Value} {an od : Option Addr}
    {osl : Array (Option Value)} {N ps : List Str} {sp : Sp} (lk : K.lookup f = some ⟨oc, od, .func (PySem.W.fnOf name qual params body scope dV kV doc pm an cdv ct), osl⟩) (hcd : PySem.W.codeIn K cdv qual = true) (S : FnScope N ps scope)
    (len : ∀ vs H Q E, sp vs H Q E → vs.length = ps.length)
    (hbody : ∀ (A : Around) (outer : List Env) (s : Shared) (H : Hp) (vs : List V) (Q : VK) (E : XK), Room k (A.deeper (envOfC qual scope s.heap.objs.size f cdv)) → sp vs H Q E →
      ∃ t, PSs (cxOf CX P w K mg base N qual scope f cdv A outer s H E) body t ∧ t { nx := fun _ H' => Q .non H', rt := Q } (start N vs) H) :
    FnOk P w K mg base CX (k + 1) f (PySem.W.fnOf name qual params body scope dV kV doc pm an cdv ct) ps sp := by
  refine ⟨len, fun A outer s H args us vs Q E hr e0 hb r hsp => ?_⟩
  have hl := len _ _ _ _ hsp
  have KX : K.In s.heap := e0.mod.kin.keeps fun b o e => (e0.bs b o e).1
  have lim : s.heap.NoLimit := e0.mod.nolimit.keeps fun b o e => (e0.bs b o e).1
  have hkind : ∀ y ∈ ps.zip us, scope.names.lookup y.1 = some .local ∨ (scope.names.lookup y.1 = some .cell ∧ ((cellsFrom (s.heap.objs.size + 1) scope.names []).lookup y.1).isSome = true) := fun ⟨n, v⟩ hy => by
    rcases S.par n (List.of_mem_zip hy).1 with q | q
    · exact .inl q
    · exact .inr ⟨q, PySem.W.cellsFrom_some _ _ _ (.inl q)⟩
  refine codeAny_call_function hr.depth (KX _ _ lk) rfl S.co S.gen rfl (PySem.W.codeRec_of KX hcd) (hb _ _ _ _ ?_)
  refine wpAny_newFunctionEnv_cells S.kind hkind fun env he s1 x => ?_
  subst he
  refine ⟨lim.keeps x.toInCall.keep, codeAny_func ?_⟩
  obtain ⟨t, ht, hq⟩ := hbody A outer s H vs Q E (hr.deeper _) hsp
  have I : Inv (cxOf CX P w K mg base N qual scope f cdv A outer s H E) [] (start N vs) H s1 := inv_start S hr.hd e0 hl r x
  refine wpAny_mono (ht [] s1 (start N vs) H _ I hq) (fun fl s' hs => ?_) fun e s' hs => hs
  have fin : ∀ {σ' : St} {H' : Hp} {v : V} {u : Value}, Inv (cxOf CX P w K mg base N qual scope f cdv A outer s H E) [] σ' H' s' → RelV v u → Q v H' → CE outer P w H s Q u s' :=
    fun {σ' H' v u} J rv q => ⟨v, H', J.os, J.bare, J.base, J.hok, rv, q⟩
  cases fl with
  | ret u =>
    obtain ⟨v, σ', H', J, rv, q⟩ := hs
    exact fin J rv q
  | next =>
    obtain ⟨σ', H', J, q⟩ := hs
    exact fin (v := V.non) (u := Value.none) J rfl q
  | brk =>
    obtain ⟨_, _, _, q⟩ := hs
    exact False.elim q
  | cont =>
    obtain ⟨_, _, _, q⟩ := hs
    exact False.elim q
end L2

namespace L2
open PySem PySem.Spec PyProof.Rows
section
variable {X : Cx} {x : Str} {p pos : Pos} {e : Expr} {es : List Expr} {t : TA} {id T : String} {r : List V → Hp → VK → Prop}

noncomputable def tCB (r : List V → Hp → VK → Prop) (t : TA) : TE := fun σ H Q => t σ H fun vs H1 => r vs H1 Q
/-- f(e, ..), f a built-in function -/
theorem pe_callB (hc : CallR X (.builtin id) r) (hg : Gl X x) (hm : X.mg x = none) (hv : bootBuiltins x = some (.builtin id)) (ha : PA X (e :: es) t) (hn : x ≠ "__name__" := by decide) (hdb : (x == ("__debug__" : Str)) = false := by decide)
    (he : starEach (e :: es) X.env = (false, eval e X.env) :: starEach es X.env := by rfl) (hpl : (backTo pos (starEach es X.env)).any (·.1) = false := by rfl) : PE X (.Call (.Name x p) (e :: es) [] pos) (tCB r t) := by
  (try refine ⟨?_⟩); intro pins s σ H Q I h
  refine wpAny_Call_Name_kw (ld_blt I hg hm hv ?_ hn hdb)
  exact PyProof.Rows.callWith_builtin1 (thn (ha pos pins s σ H _ I h) fun us s1 ⟨vs, H1, I1, r1, q1⟩ => hc pins s1 σ H1 vs us Q I1 r1 q1) he hpl
/-- T(e, ..), T a built-in type -/
theorem pe_callTy (hc : CallR X (.type T) r) (hg : Gl X x) (hm : X.mg x = none) (hv : bootBuiltins x = some (.type T)) (ha : PA X (e :: es) t) (hn : x ≠ "__name__" := by decide) (hdb : (x == ("__debug__" : Str)) = false := by decide)
    (he : starEach (e :: es) X.env = (false, eval e X.env) :: starEach es X.env := by rfl) (hpl : (backTo pos (starEach es X.env)).any (·.1) = false := by rfl) : PE X (.Call (.Name x p) (e :: es) [] pos) (tCB r t) := by
  (try refine ⟨?_⟩); intro pins s σ H Q I h
  refine wpAny_Call_Name_kw (ld_blt I hg hm hv ?_ hn hdb)
  exact PyProof.Rows.callWith_type1 (thn (ha pos pins s σ H _ I h) fun us s1 ⟨vs, H1, I1, r1, q1⟩ => hc pins s1 σ H1 vs us Q I1 r1 q1) he hpl
end
end L2

namespace HT
open PySem PyProof.Rows

section
open PySem.SeqAt
open PySem.AutoSeq1 (wpAny_loadPart')
open PySem.MeetsSeq PySem.MeetsSeq2 PySem.MeetsSeq3

end

section
variable {prog : Program} {w : World} {A : Around} {E : Value → Shared → Prop} {s : Shared}

/-- t + u, t not empty -/
theorem cat_tup {t b : Addr} {vs ws : List Value} {Q : Value → Shared → Prop} (ht : IsTup s.heap t vs.toArray) (hb : IsTup s.heap b ws.toArray) (hv : vs ≠ [])
    (h1 : ws = [] → Q (.ref t) s) (h2 : ws ≠ [] → Q (.ref s.heap.objs.size) { s with heap := s.heap.push { cls := .type "tuple", data := .seq (vs ++ ws).toArray } })
    (hsz : vs.length + ws.length ≤ sizeLine) : wpAny (model prog w) A (binaryOp .Add (.ref t) (.ref b)) Q E s := by
  obtain ⟨⟨cls, dd, data, sl⟩, ho, hc, n, hd⟩ := id ht
  obtain ⟨⟨cls2, dd2, data2, sl2⟩, ho2, hc2, n2, hd2⟩ := id hb
  simp only at hc hd hc2 hd2
  subst hc hd hc2 hd2
  have e : vs.toArray ++ ws.toArray = (vs ++ ws).toArray := by simp
  by_cases hw : ws = []
  · exact concat_meets ⟨_, ho, rfl⟩ ⟨_, ho2, rfl⟩ noFill_tuple_add seq_tuple_add PySem.F.slot_tuple_add PySem.F.entry_tuple_add (PySem.F.args_tuple_add_2 _ _)
      (tuple_addW1 t b vs.toArray ws.toArray n n2 dd dd2 sl sl2 (by simpa using hv) (by simp [hw])) ⟨ho, ho2, h1 hw⟩
  · refine concat_meets ⟨_, ho, rfl⟩ ⟨_, ho2, rfl⟩ noFill_tuple_add seq_tuple_add PySem.F.slot_tuple_add PySem.F.entry_tuple_add (PySem.F.args_tuple_add_2 _ _)
      (tuple_addW2 t b vs.toArray ws.toArray n n2 dd dd2 sl sl2 (by simpa using hv) (by simpa using hw) (by rw [List.size_toArray, List.size_toArray]; exact hsz)) ⟨ho, ho2, ?_⟩
    rw [e]
    exact h2 hw

/-! ### t[a:b], not the whole -/
/-- a slice's bound as a place among n (d where it is left out) -/
noncomputable def sIx (n d : Nat) : Option Int → Nat
  | none => d
  | some v => if v < 0 then (v + (n : Int)).toNat else min v.toNat n
theorem sIx_none (n d : Nat) : sIx n d none = d := rfl
theorem sIx_nat (n d k : Nat) : sIx n d (some (k : Int)) = min k n := by
  show (if (k : Int) < 0 then ((k : Int) + (n : Int)).toNat else min (k : Int).toNat n) = min k n
  rw [if_neg (by omega), Int.toNat_natCast]
theorem sIx_le (n d : Nat) (hd : d ≤ n) (o : Option Int) : sIx n d o ≤ n := by
  cases o with
  | none => exact hd
  | some v =>
    show (if v < 0 then (v + (n : Int)).toNat else min v.toNat n) ≤ n
    by_cases hv : v < 0
    · rw [if_pos hv]; omega
    · rw [if_neg hv]; exact Nat.min_le_right _ _
theorem clip_eq (v : Int) (n d : Nat) : (if v < 0 then max (v + (n : Int)) 0 else min v (n : Int)) = ((sIx n d (some v) : Nat) : Int) := by
  show (if v < 0 then max (v + (n : Int)) 0 else min v (n : Int)) = (((if v < 0 then (v + (n : Int)).toNat else min v.toNat n) : Nat) : Int)
  by_cases hv : v < 0
  · simp only [if_pos hv]; omega
  · simp only [if_neg hv]; omega
theorem adjust_gen (lo hi : Option Int) (n : Nat) : Builtin.Slice.sliceAdjust lo hi 1 (n : Int) = (((sIx n 0 lo : Nat) : Int), ((sIx n n hi : Nat) : Int)) := by
  have h1 : ¬ ((1 : Int) < 0) := by omega
  unfold Builtin.Slice.sliceAdjust
  simp only [h1, if_false]
  refine Prod.ext ?_ ?_
  · cases lo with
    | none => rfl
    | some v => exact clip_eq v n 0
  · cases hi with
    | none => rfl
    | some v => exact clip_eq v n n
theorem places_gen (i j : Nat) : Builtin.Slice.slicePlaces (i : Int) (j : Int) 1 = j - i := by
  unfold Builtin.Slice.slicePlaces
  have h1 : (1 : Int) > 0 := by omega
  simp only [h1, if_true, Int.ediv_one]
  split <;> omega
theorem slicePart_ {v : Value} {o : Option Int} {Q : Option Int → Shared → Prop} (p : IsPart v o) (h : Q o s) : wpAny (model prog w) A (Builtin.Slice.slicePartIndex v) Q E s := by
  cases p with
  | none => exact slicePart_none h
  | int i t => exact slicePart_int h
theorem sliceApplied_gen {sl : Addr} {vl vu : Value} {lo hi : Option Int} {n : Nat} {Q : Int × Int × Nat → Shared → Prop} (hs : s.heap.IsSliceOf sl vl vu .none) (pl : IsPart vl lo) (pu : IsPart vu hi)
    (h : Q (((sIx n 0 lo : Nat) : Int), 1, sIx n n hi - sIx n 0 lo) s) : wpAny (model prog w) A (Builtin.Slice.sliceApplied (.ref sl) (pure (n : Int))) Q E s := by
  obtain ⟨os, hos, hcs, hds⟩ := id hs
  unfold Builtin.Slice.sliceApplied Builtin.Slice.sliceFields
  refine wpAny_bind (wpAny_bind (wpAny_field hos hds (x := vl) rfl (wpAny_bind (wpAny_field hos hds (x := vu) rfl (wpAny_bind (wpAny_field hos hds (x := .none) rfl (wpAny_pure ?_)))))))
  refine wpAny_bind (slicePart_none ?_)
  show wpAny _ _ (if ((1 : Int) == 0) = true then _ else _) _ _ s
  rw [if_neg (by decide)]
  refine wpAny_bind (slicePart_ pl (wpAny_bind (slicePart_ pu (wpAny_bind (wpAny_pure ?_)))))
  show wpAny _ _ (match Builtin.Slice.sliceAdjust lo hi 1 (n : Int) with | (lo, hi) => pure (lo, (1 : Int), Builtin.Slice.slicePlaces lo hi 1)) _ _ s
  rw [adjust_gen lo hi n]
  show wpAny _ _ (pure (((sIx n 0 lo : Nat) : Int), (1 : Int), Builtin.Slice.slicePlaces ((sIx n 0 lo : Nat) : Int) ((sIx n n hi : Nat) : Int) 1)) _ _ s
  rw [places_gen]
  exact wpAny_pure h
theorem pick_gen (xs : Array Value) (i k : Nat) : ((List.range k).filterMap fun (m : Nat) => xs[((i : Int) + (m : Int) * 1).toNat]?).toArray = ((xs.toList.drop i).take k).toArray := by
  have e : (fun (m : Nat) => xs[((i : Int) + (m : Int) * 1).toNat]?) = fun m => xs[i + m]? := by
    funext m
    have : ((i : Int) + (m : Int) * 1).toNat = i + m := by omega
    rw [this]
  rw [e]
  have := pick_run xs i k
  rw [List.filterMap_map] at this
  have e2 : ((fun x => xs[x]?) ∘ fun x => i + x) = fun m => xs[i + m]? := rfl
  rw [e2] at this
  rw [this]

theorem getItem_tuple_cut {t sl : Addr} {items : Array Value} {vl vu : Value} {lo hi : Option Int} {Q : Value → Shared → Prop} (ht : IsTup s.heap t items) (hs : s.heap.IsSliceOf sl vl vu .none) (pl : IsPart vl lo) (pu : IsPart vu hi)
    (hw : ¬ (sIx items.size 0 lo = 0 ∧ sIx items.size items.size hi = items.size))
    (h : Q (.ref s.heap.objs.size) { s with heap := s.heap.push { cls := .type "tuple", data := .seq ((items.toList.drop (sIx items.size 0 lo)).take (sIx items.size items.size hi - sIx items.size 0 lo)).toArray } })
    (hsz : items.size ≤ sizeLine) : wpAny (model prog w) A (getItem (.ref t) (.ref sl)) Q E s := by
  have htake : sizeOk (.seq ((items.toList.drop (sIx items.size 0 lo)).take (sIx items.size items.size hi - sIx items.size 0 lo)).toArray) := by
    show ((items.toList.drop (sIx items.size 0 lo)).take (sIx items.size items.size hi - sIx items.size 0 lo)).toArray.size ≤ sizeLine
    rw [List.size_toArray, List.length_take, List.length_drop, Array.length_toList]
    omega
  have hj : sIx items.size items.size hi ≤ items.size := sIx_le _ _ (Nat.le_refl _) hi
  obtain ⟨os, hos, hcs, hds⟩ := id hs
  have hTs : s.TypeIs (.ref sl) "slice" := ⟨os, hos, hcs⟩
  unfold getItem
  try with_reducible refine wpAny_holding ?_
  first | refine wpAny_bind (wpAny_pure ?_) | skip
  refine wpAny_bind (wpAny_sequenceKey ht.typeIs (by decide) ?_)
  refine wpAny_bind (wpAny_callSpecial?_slot (name := Str.ofString "__getitem__") ht.typeIs PyProof.Rows.slot_tuple_getitem
    (wpAny_call_entry PyProof.Rows.slot_tuple_getitem ht.typeIs entry_tuple_getitem ?_ (args_tuple_getitem _ _)))
  show wpAny _ _ (Builtin.Tuple.tupleItemsOf (.ref t) >>= _) _ _ s
  refine wpAny_bind (tupleItemsOf_ ht ?_)
  refine wpAny_bind (wpAny_typeOf hTs ?_)
  rw [if_pos (by decide)]
  refine wpAny_bind (sliceApplied_gen hs pl pu ?_)
  have hno : ¬ ((((sIx items.size 0 lo : Nat) : Int) == 0 && (1 : Int) == 1 && (sIx items.size items.size hi - sIx items.size 0 lo) == items.size) = true) := by
    intro q
    rw [Bool.and_eq_true, Bool.and_eq_true] at q
    have q1 : ((sIx items.size 0 lo : Nat) : Int) = 0 := eq_of_beq q.1.1
    have q2 : sIx items.size items.size hi - sIx items.size 0 lo = items.size := eq_of_beq q.2
    exact hw ⟨by omega, by omega⟩
  show wpAny _ _ (if (((sIx items.size 0 lo : Nat) : Int) == 0 && (1 : Int) == 1 && (sIx items.size items.size hi - sIx items.size 0 lo) == items.size) = true then _ else _) _ _ s
  rw [if_neg hno, pick_gen]
  first
    | exact wpAny_bind (m := Builtin.Tuple.tupleExact _) (wpAny_newObj_type (wpAny_pure ⟨_, rfl, wpAny_pure h⟩) htake)
    | exact wpAny_bind (m := Builtin.Tuple.tupleExact _) (wpAny_newObj_type (wpAny_bind (wpAny_pure (wpAny_pure ⟨_, rfl, wpAny_pure h⟩))) htake)
    | exact wpAny_bind (wpAny_bind (m := Builtin.Tuple.tupleExact _) (wpAny_newObj_type (wpAny_pure (wpAny_pure ⟨_, rfl, wpAny_pure h⟩)) htake))
    | exact wpAny_bind (wpAny_bind (m := Builtin.Tuple.tupleExact _) (wpAny_newObj_type (wpAny_pure ⟨_, rfl, wpAny_pure h⟩) htake))
end
end HT

namespace L2
open PySem PySem.Spec PyProof.Rows

/-! ### the parts of a slice -/
noncomputable abbrev TO := St → Hp → (Option Int → Hp → Prop) → Prop
/-- a slice's part (left out, or an int) -/
structure PO (X : Cx) (e : Option Expr) (t : TO) : Prop where
  go : ∀ (pins : List (Addr × Obj)) (s : Shared) (σ : St) (H : Hp) (Q : Option Int → Hp → Prop), Inv X pins σ H s → t σ H Q →
    wpAny (model X.prog X.w) X.A (evalPart e X.env) (fun u s' => ∃ o H', Inv X pins σ H' s' ∧ IsPart u o ∧ Q o H') X.xe s
noncomputable instance {X : Cx} {e : Option Expr} {t : TO} : CoeFun (PO X e t) fun _ => ∀ (pins : List (Addr × Obj)) (s : Shared) (σ : St) (H : Hp) (Q : Option Int → Hp → Prop), Inv X pins σ H s → t σ H Q →
    wpAny (model X.prog X.w) X.A (evalPart e X.env) (fun u s' => ∃ o H', Inv X pins σ H' s' ∧ IsPart u o ∧ Q o H') X.xe s := ⟨fun h => h.go⟩
noncomputable def tNoPart : TO := fun _ H Q => Q none H
noncomputable def tPart (t : TE) : TO := fun σ H Q => t σ H fun x H1 => ∃ i, x = .int i ∧ Q (some i) H1

section
variable {X : Cx} {e : Expr} {te : TE} {lo hi : Option Expr} {tl th : TO} {pos p2 : Pos}

theorem po_none : PO X none tNoPart := by
  (try refine ⟨?_⟩); intro pins s σ H Q I h
  rw [evalPart_none]
  exact wpAny_pure ⟨none, H, I, .none, h⟩
theorem po_some (h : PE X e te) : PO X (some e) (tPart te) := by
  (try refine ⟨?_⟩); intro pins s σ H Q I hw
  rw [evalPart_some]
  refine thn (h pins s σ H _ I hw) fun u s1 ⟨x, H1, I1, r1, q1⟩ => ?_
  obtain ⟨i, rfl, q⟩ := q1
  obtain ⟨t, rfl⟩ := r1
  exact ⟨some i, H1, I1, .int i t, q⟩

/-- what a slice of a value is, by values: the slice object stands at sl -/
noncomputable def SlR (X : Cx) (r : V → Option Int → Option Int → Hp → VK → Prop) : Prop :=
  ∀ (pins : List (Addr × Obj)) (s : Shared) (σ : St) (H : Hp) (x : V) (v vl vu : Value) (lo hi : Option Int) (sl : Addr) (Q : VK), Inv X pins σ H s → RelV x v → s.heap.IsSliceOf sl vl vu .none → IsPart vl lo → IsPart vu hi → r x lo hi H Q →
    ∃ T id, typeLookup (.type T) "__getitem__" = pure (some (.builtin id)) ∧ s.TypeIs v T ∧ wpAny (model X.prog X.w) X.A (getItem v (.ref sl)) (EP X pins σ Q) X.xe s
noncomputable def tSl (r : V → Option Int → Option Int → Hp → VK → Prop) (te : TE) (tl th : TO) : TE := fun σ H Q => te σ H fun x H1 => tl σ H1 fun l H2 => th σ H2 fun u H3 => r x l u H3 Q
/-- a[lo:hi], any a -/
theorem pe_slice {r : V → Option Int → Option Int → Hp → VK → Prop} (hr : SlR X r) (he : PE X e te) (hl : PO X lo tl) (hu : PO X hi th) : PE X (.Subscript e (.Slice lo hi none p2) pos) (tSl r te tl th) := by
  (try refine ⟨?_⟩); intro pins s σ H Q I h
  refine Subscript_ (thn (he pins s σ H _ I h) fun v s1 ⟨x, H1, I1, r1, q1⟩ => ?_)
  refine wpAny_Slice (thn (hl pins s1 σ H1 _ I1 q1) fun vl s2 ⟨l, H2, I2, pl, q2⟩ => thn (hu pins s2 σ H2 _ I2 q2) fun vu s3 ⟨u, H3, I3, pu, q3⟩ => ?_)
  rw [evalPart_none]
  refine wpAny_pure ?_
  have I4 : Inv X pins σ H3 { s3 with heap := s3.heap.push { cls := .type "slice", data := .fields #[vl, vu, .none] } } := I3.kept (t' := s3.toks) fun b ob q => Heap.get?_push_of_some _ q
  obtain ⟨T, id, hT, ht, hg⟩ := hr pins { s3 with heap := s3.heap.push { cls := .type "slice", data := .fields #[vl, vu, .none] } } σ H3 x v vl vu l u s3.heap.objs.size Q I4 r1 (Heap.IsSliceOf.new ..) pl pu q3
  show wpAny (model X.prog X.w) X.A (subscriptTail e (.Slice lo hi none p2) v (.ref s3.heap.objs.size)) (EP X pins σ Q) X.xe { s3 with heap := s3.heap.push { cls := .type "slice", data := .fields #[vl, vu, .none] } }
  exact tail_any (ops := [.ref s3.heap.objs.size, v]) ht hT hg (by with_unfolding_all rfl)

/-- the items of xs[lo:hi] -/
noncomputable def cutV (xs : List V) (lo hi : Option Int) : List V := (xs.drop (HT.sIx xs.length 0 lo)).take (HT.sIx xs.length xs.length hi - HT.sIx xs.length 0 lo)
theorem cutV_length (xs : List V) (lo hi : Option Int) : (cutV xs lo hi).length ≤ xs.length := by
  unfold cutV
  rw [List.length_take, List.length_drop]
  omega
/-- t[lo:hi], not the whole of it (the whole would be t itself) -/
noncomputable def rSlT (K : PySem.W.Frag) : V → Option Int → Option Int → Hp → VK → Prop := fun x lo hi H Q => ∃ a xs, x = .ref a ∧ SqT K H a xs ∧
  ¬ (HT.sIx xs.length 0 lo = 0 ∧ HT.sIx xs.length xs.length hi = xs.length) ∧ ∀ p, H p = none → Q (.ref p) (upd H p (.tup (cutV xs lo hi)))
theorem sl_tup : SlR X (rSlT X.K) := by
  (try refine ⟨?_⟩); intro pins s σ H x v vl vu lo hi sl Q I rx hs pl pu h
  obtain ⟨a, xs, rfl, hx, hw, q⟩ := h
  cases rx
  obtain ⟨its, r, ht, hz⟩ := I.tuple hx
  have hlen : its.toArray.size = xs.length := by rw [List.size_toArray]; exact r.length.symm
  refine ⟨"tuple", _, PyProof.Rows.slot_tuple_getitem.lookup, ht.typeIs, ?_⟩
  refine HT.getItem_tuple_cut ht hs pl pu (by rw [hlen]; exact hw) ?_ (by rw [hlen]; exact hz)
  rw [hlen]
  refine ⟨.ref s.heap.objs.size, _, I.laid (t' := s.toks) (o := .tup (cutV xs lo hi)) (fun b ob q => Heap.get?_push_of_some _ q) (Nat.le_refl _) ?_, rfl, q _ (I.hok.fresh (Nat.le_refl _))⟩
  exact ⟨Nat.le_trans (cutV_length xs lo hi) hz, _, (r.drop (HT.sIx xs.length 0 lo)).take (HT.sIx xs.length xs.length hi - HT.sIx xs.length 0 lo), IsTup.new _ _⟩

/-! ### t < u, t + u -/
/-- t + u, t not empty: u empty gives t itself -/
noncomputable def rCatT (K : PySem.W.Frag) : R2 := fun x y H Q => ∃ a b xs ys, x = .ref a ∧ y = .ref b ∧ SqT K H a xs ∧ SqT K H b ys ∧ xs ≠ [] ∧ xs.length + ys.length ≤ sizeLine ∧
  (ys = [] → Q (.ref a) H) ∧ (ys ≠ [] → ∀ p, H p = none → Q (.ref p) (upd H p (.tup (xs ++ ys))))
theorem Vals.nil_iff {xs : List V} {us : List Value} (r : Vals xs us) : us = [] ↔ xs = [] := by
  cases r with
  | nil => simp
  | cons _ _ => simp
theorem op_catT : OpR X (binaryOp .Add) (rCatT X.K) := by
  (try refine ⟨?_⟩); intro pins s σ H x y v u Q I rx ry h
  obtain ⟨a, b, xs, ys, rfl, rfl, ha, hb, hx, hz, q1, q2⟩ := h
  cases rx
  cases ry
  obtain ⟨its, r1, p1, _⟩ := I.tuple ha
  obtain ⟨its2, r2, p2, _⟩ := I.tuple hb
  refine HT.cat_tup p1 p2 (fun z => hx (r1.nil_iff.mp z)) (fun z => ⟨.ref a, H, I, rfl, q1 (r2.nil_iff.mp z)⟩) (fun z => ?_) (by rw [← r1.length, ← r2.length]; exact hz)
  refine ⟨.ref s.heap.objs.size, _, I.laid (t' := s.toks) (o := .tup (xs ++ ys)) (fun b ob q => Heap.get?_push_of_some _ q) (Nat.le_refl _) ?_, rfl, q2 (fun w => z (r2.nil_iff.mpr w)) _ (I.hok.fresh (Nat.le_refl _))⟩
  exact ⟨by rw [List.length_append]; exact hz, _, r1.append r2, IsTup.new _ _⟩
end
end L2

namespace L2
open PySem PySem.Spec PyProof.Rows

/-! ### places -/
/-- the place that an index of any sign means -/
noncomputable def ixN (n : Nat) (i : Int) : Option Nat := if 0 ≤ i then (if i < n then some i.toNat else none) else if -(n : Int) ≤ i then some (i + n).toNat else none
noncomputable def atI {α : Type} (xs : List α) (i : Int) : Option α := (ixN xs.length i).bind fun j => xs[j]?
theorem ixN_seq {n : Nat} {i : Int} {j : Nat} (h : ixN n i = some j) : seqIndex? i n = some j ∧ j < n ∧ -(n : Int) ≤ i ∧ i < n := by
  unfold ixN at h
  by_cases h0 : 0 ≤ i
  · rw [if_pos h0] at h
    by_cases h1 : i < n
    · rw [if_pos h1] at h
      have e : i.toNat = j := Option.some.inj h
      exact ⟨by rw [seqIndex_of h0 h1, e], by omega, by omega, h1⟩
    · rw [if_neg h1] at h; cases h
  · rw [if_neg h0] at h
    by_cases h1 : -(n : Int) ≤ i
    · rw [if_pos h1] at h
      have e : (i + n).toNat = j := Option.some.inj h
      exact ⟨by rw [seqIndex_neg (by omega) h1, e], by omega, h1, by omega⟩
    · rw [if_neg h1] at h; cases h
theorem atI_get {α : Type} {xs : List α} {i : Int} {v : α} (h : atI xs i = some v) : ∃ j, seqIndex? i xs.length = some j ∧ xs[j]? = some v ∧ j < xs.length ∧ -(xs.length : Int) ≤ i ∧ i < xs.length := by
  unfold atI at h
  cases e : ixN xs.length i with
  | none => rw [e] at h; cases h
  | some j =>
    rw [e] at h
    obtain ⟨h1, h2, h3, h4⟩ := ixN_seq e
    exact ⟨j, h1, h, h2, h3, h4⟩
theorem atI_nat {α : Type} {xs : List α} {j : Nat} {v : α} (h : xs[j]? = some v) : atI xs (j : Int) = some v := by
  have hj : j < xs.length := (List.getElem?_eq_some_iff.mp h).1
  have e : ixN xs.length (j : Int) = some j := by
    unfold ixN
    rw [if_pos (by omega), if_pos (by omega)]; simp
  unfold atI; rw [e]; exact h
/-! ### what may be subscripted -/
/-- what stands as an index of a plain subscript -/
noncomputable def PlainIx (b : Expr) : Prop := ∀ o i, subscripted b false o i = operate [o, i] (getItem o i)
/-- a subscript by values -/
noncomputable def IxR (X : Cx) (r : R2) : Prop :=
  ∀ (value slice : Expr) (pins : List (Addr × Obj)) (s : Shared) (σ : St) (H : Hp) (x y : V) (v u : Value) (Q : VK), Inv X pins σ H s → RelV x v → RelV y u → r x y H Q →
    subscripted slice false v u = operate [v, u] (getItem v u) → wpAny (model X.prog X.w) X.A (subscriptTail value slice v u) (EP X pins σ Q) X.xe s
/-- a call of a builtin's method by values: the receiver, the arguments -/
noncomputable def MtR (X : Cx) (id : String) (r : V → List V → Hp → VK → Prop) : Prop :=
  ∀ (pins : List (Addr × Obj)) (s : Shared) (σ : St) (H : Hp) (x : V) (xs : List V) (v : Value) (us : List Value) (Q : VK), Inv X pins σ H s → RelV x v → Vals xs us → r x xs H Q →
    wpAny (model X.prog X.w) X.A (call (.builtin id) (v :: us)) (EP X pins σ Q) X.xe s
section
variable {X : Cx} {a b : Expr} {ta tb : TE} {pos : Pos}
theorem IxR.or {r r' : R2} (h : IxR X r) (h' : IxR X r') : IxR X (fun x y H Q => r x y H Q ∨ r' x y H Q) := by
  intro value slice pins s σ H x y v u Q I rx ry q hs
  rcases q with q | q
  · exact h value slice pins s σ H x y v u Q I rx ry q hs
  · exact h' value slice pins s σ H x y v u Q I rx ry q hs
/-- a[b] -/
theorem pe_ix {r : R2} (hr : IxR X r) (ha : PE X a ta) (hb : PE X b tb) (hs : PlainIx b) : PE X (.Subscript a b pos) (tOp r ta tb) := by
  (try refine ⟨?_⟩); intro pins s σ H Q I h
  exact Subscript_ (binT ha hb I h fun v u s2 x y H2 I2 rx ry q => hr a b pins s2 σ H2 x y v u Q I2 rx ry q (hs _ _))

noncomputable def rIxL (K : PySem.W.Frag) : R2 := fun x y H Q => ∃ p xs i v, x = .ref p ∧ y = .int i ∧ SqL K H p xs ∧ atI xs i = some v ∧ Q v H
noncomputable def rIxT (K : PySem.W.Frag) : R2 := fun x y H Q => ∃ p xs i v, x = .ref p ∧ y = .int i ∧ SqT K H p xs ∧ atI xs i = some v ∧ Q v H
noncomputable def rIxS : R2 := fun x y H Q => ∃ z i c, x = .str z ∧ y = .int i ∧ z.length ≤ sizeLine ∧ atI z.cps.toList i = some c ∧ Q (.str ⟨#[c]⟩) H
theorem ix_list : IxR X (rIxL X.K) := by
  intro value slice pins s σ H x y v u Q I rx ry h hs
  obtain ⟨p, xs, i, z, rfl, rfl, hq, he, q⟩ := h
  cases rx
  obtain ⟨t, rfl⟩ := ry
  obtain ⟨its, r, pl, hz⟩ := I.list hq
  obtain ⟨j, h1, h2, h3, h4, h5⟩ := atI_get he
  obtain ⟨w, ew, rw'⟩ := r.get h2
  have hl := r.length
  have hn := line63
  have fin : EP X pins σ Q w s := ⟨z, H, I, rw', q⟩
  by_cases h0 : 0 ≤ i
  · have hj : i.toNat = j := by
      rw [seqIndex_of h0 h5] at h1
      exact Option.some.inj h1
    exact item_listR pl.isList h0 (by omega) (by rw [hj]; simpa using ew) fin hs
  · have hj : (i + (its.toArray.size : Int)).toNat = j := by
      rw [seqIndex_neg (by omega) h4] at h1
      rw [List.size_toArray, ← hl]
      exact Option.some.inj h1
    exact subscriptTail_builtinR (x := w) pl.isList.typeIs slot_list_getitem.lookup
      (wpAny_getItem_list_neg (Q := fun r s' => r = w ∧ EP X pins σ Q r s') pl.isList (by omega) (by rw [List.size_toArray] <;> omega) (by omega) (by rw [hj]; simpa using ew) ⟨rfl, fin⟩) hs
theorem ix_tup : IxR X (rIxT X.K) := by
  intro value slice pins s σ H x y v u Q I rx ry h hs
  obtain ⟨p, xs, i, z, rfl, rfl, hq, he, q⟩ := h
  cases rx
  obtain ⟨t, rfl⟩ := ry
  obtain ⟨its, r, pl, hz⟩ := I.tuple hq
  obtain ⟨j, h1, h2, h3, h4, h5⟩ := atI_get he
  obtain ⟨w, ew, rw'⟩ := r.get h2
  have hl := r.length
  have hn := line63
  have fin : EP X pins σ Q w s := ⟨z, H, I, rw', q⟩
  exact subscriptTail_builtinR (x := w) pl.typeIs slot_tuple_getitem.lookup
    (getItem_tuple (j := j) (Q := fun r s' => r = w ∧ EP X pins σ Q r s') pl (by omega) (by omega) (by rw [List.size_toArray, ← hl]; exact h1) (by simpa using ew) ⟨rfl, fin⟩) hs
theorem ix_str : IxR X rIxS := by
  intro value slice pins s σ H x y v u Q I rx ry h hs
  obtain ⟨z, i, c, rfl, rfl, hz, he, q⟩ := h
  obtain ⟨t, rfl⟩ := rx
  obtain ⟨t', rfl⟩ := ry
  obtain ⟨j, h1, h2, h3, h4, h5⟩ := atI_get he
  have hl : z.cps.toList.length = z.length := by simp [Str.length]
  rw [hl] at h1 h4 h5
  have hn := line63
  exact tail_any (typeIs_str s z t) slot_str_getitem.lookup (getItem_str (c := c) (by
    have e1 : decide (i < -(2 ^ 63 : Int)) = false := decide_eq_false (by omega)
    have e2 : decide (i ≥ 2 ^ 63) = false := decide_eq_false (by omega)
    rw [e1, e2, Bool.or_false]) (by rw [h1]; simpa using h2) ⟨.str ⟨#[c]⟩, H, I.tok _, ⟨_, rfl⟩, q⟩) hs
/-- list, tuple or str -/
noncomputable def rIx (K : PySem.W.Frag) : R2 := fun x y H Q => rIxL K x y H Q ∨ rIxT K x y H Q ∨ rIxS x y H Q
theorem ix_seq : IxR X (rIx X.K) := ix_list.or (ix_tup.or ix_str)

/-! ### xs[i] = v, any sign -/
/-- the list's object behind a store -/
theorem mapSeq_set (its : List Value) (n j : Nat) (u : Value) : Obj.mapSeq (·.setIfInBounds j u) { cls := .type "list", data := .seq its.toArray n } = { cls := .type "list", data := .seq (its.set j u).toArray n } := by
  simp [Obj.mapSeq]
theorem Inv.lst {pins : List (Addr × Obj)} {σ : St} {H : Hp} {s : Shared} {p : Addr} {xs : List V} (I : Inv X pins σ H s) (h : H p = some (.lst xs)) :
    ∃ (its : List Value) (n : Nat), Vals xs its ∧ s.heap.get? p = some { cls := .type "list", data := .seq its.toArray n } ∧ xs.length ≤ sizeLine := by
  obtain ⟨z, its, n, r, e⟩ := I.hok p _ h
  exact ⟨its, n, r, e, z⟩
/-- the list at p is written by an update of its object -/
theorem Inv.lstUpd {pins : List (Addr × Obj)} {σ : St} {H : Hp} {s : Shared} {p : Addr} {xs ys : List V} {its its' : List Value} {n n' : Nat} {f : Obj → Obj} (I : Inv X pins σ H s) (h : H p = some (.lst xs))
    (ho : s.heap.get? p = some { cls := .type "list", data := .seq its.toArray n }) (hf : f { cls := .type "list", data := .seq its.toArray n } = { cls := .type "list", data := .seq its'.toArray n' }) (r : Vals ys its') (hz : ys.length ≤ sizeLine) (t : Nat) :
    Inv X pins σ (upd H p (.lst ys)) { s with heap := s.heap.update p f, toks := t } := by
  have e : (s.heap.update p f).get? p = some { cls := .type "list", data := .seq its'.toArray n' } := by
    rw [Heap.get?_update_self f ho (by rw [hf] <;> rfl), hf]
  refine I.write (x := p) (e := p) (by rw [h]; trivial) (.inl rfl) (fun b u hb q => (Heap.get?_update_other _ _ (Ne.symm hb)).trans q) ⟨_, e⟩ ?_
  exact ⟨hz, its', n', r, e⟩
noncomputable def rSetL : V → V → V → Hp → (Hp → Prop) → Prop := fun o i v H Q => ∃ p xs k j, o = .ref p ∧ i = .int k ∧ H p = some (.lst xs) ∧ ixN xs.length k = some j ∧ Q (upd H p (.lst (xs.set j v)))
theorem set_list : PSet X rSetL := by
  (try refine ⟨?_⟩); intro pins s σ H o i v ov iv u Q I ro ri rv h
  obtain ⟨p, xs, k, j, rfl, rfl, hp, hj, q⟩ := h
  cases ro
  obtain ⟨t, rfl⟩ := ri
  obtain ⟨its, n, r, ho, hz⟩ := I.lst hp
  obtain ⟨h1, h2, h3, h4⟩ := ixN_seq hj
  have hl := r.length
  have hn := line63
  have I' : Inv X pins σ (upd H p (.lst (xs.set j v))) { s with heap := s.heap.update p (Obj.mapSeq (·.setIfInBounds j u)) } :=
    I.lstUpd hp ho (mapSeq_set its n j u) (r.set rv j) (by rw [List.length_set]; exact hz) s.toks
  by_cases h0 : 0 ≤ k
  · have hk : k.toNat = j := by
      rw [seqIndex_of h0 h4] at h1
      exact Option.some.inj h1
    exact PySem.W.ki_setAt ho h0 (by omega) (by rw [List.size_toArray, ← hl]; exact h4) (by rw [hk]; exact ⟨_, I', q⟩)
  · have hk : (k + (its.toArray.size : Int)).toNat = j := by
      rw [seqIndex_neg (by omega) h3] at h1
      rw [List.size_toArray, ← hl]
      exact Option.some.inj h1
    exact PySem.W.ki_setBack ho (by omega) (by rw [List.size_toArray, ← hl]; exact h3) (by omega) (by rw [hk]; exact ⟨_, I', q⟩)

/-! ### slices -/
theorem slice_bounds (lo hi : Option Int) (n : Nat) : (sliceBounds lo hi none n).1 = ((HT.sIx n 0 lo : Nat) : Int) ∧ (sliceBounds lo hi none n).2.1 = ((HT.sIx n n hi : Nat) : Int) ∧ (sliceBounds lo hi none n).2.2 = 1 := by
  refine ⟨?_, ?_, rfl⟩
  · cases lo with
    | none => simp [sliceBounds, HT.sIx]
    | some i =>
      simp only [sliceBounds, HT.sIx, Option.getD_none, show (1 : Int) > 0 by decide, if_true]
      by_cases h : i < 0
      · simp only [h, if_true] <;> omega
      · simp only [h, if_false] <;> omega
  · cases hi with
    | none => simp [sliceBounds, HT.sIx]
    | some i =>
      simp only [sliceBounds, HT.sIx, Option.getD_none, show (1 : Int) > 0 by decide, if_true]
      by_cases h : i < 0
      · simp only [h, if_true] <;> omega
      · simp only [h, if_false] <;> omega
theorem slicePick_cut (its : List Value) (lo hi : Option Int) : slicePick its.toArray lo hi none = ((its.drop (HT.sIx its.length 0 lo)).take (HT.sIx its.length its.length hi - HT.sIx its.length 0 lo)).toArray := by
  obtain ⟨h1, h2, h3⟩ := slice_bounds lo hi its.toArray.size
  unfold slicePick
  rw [h1, h2, h3]
  simp only [sliceRange_one, pick_run, List.size_toArray] <;> rfl
/-- xs[lo:hi] of a list: a new list -/
noncomputable def rSlL (K : PySem.W.Frag) : V → Option Int → Option Int → Hp → VK → Prop := fun x lo hi H Q => ∃ a xs, x = .ref a ∧ SqL K H a xs ∧ ∀ p, H p = none → Q (.ref p) (upd H p (.lst (cutV xs lo hi)))
theorem sl_list : SlR X (rSlL X.K) := by
  (try refine ⟨?_⟩); intro pins s σ H x v vl vu lo hi sl Q I rx hs pl pu h
  obtain ⟨a, xs, rfl, hx, q⟩ := h
  cases rx
  obtain ⟨its, r, ht, hz⟩ := I.list hx
  have hlen := r.length
  refine ⟨"list", _, slot_list_getitem.lookup, ht.isList.typeIs, ?_⟩
  refine wpAny_getItem_list_slice ht.isList hs pl pu .none (by simp) ?_ (by rw [List.size_toArray] <;> omega)
  rw [slicePick_cut, ← hlen]
  refine ⟨.ref s.heap.objs.size, _, I.laid (t' := s.toks) (o := .lst (cutV xs lo hi)) (fun b ob q => Heap.get?_push_of_some _ q) (Nat.le_refl _) ?_, rfl, q _ (I.hok.fresh (Nat.le_refl _))⟩
  exact ⟨Nat.le_trans (cutV_length xs lo hi) hz, _, 0, (r.drop (HT.sIx xs.length 0 lo)).take (HT.sIx xs.length xs.length hi - HT.sIx xs.length 0 lo), Heap.get?_push_size _ rfl⟩

/-! ### in, not in: flat items -/
/-! ### len, list(x), tuple(x) of any list or tuple that is read -/
theorem call_len_seq : CallR X (.builtin "len") (fun xs H Q => ∃ p ys, xs = [.ref p] ∧ (SqL X.K H p ys ∨ SqT X.K H p ys) ∧ Q (.int ys.length) H) := by
  (try refine ⟨?_⟩); intro pins s σ H xs us Q I r h
  obtain ⟨p, ys, rfl, hq, q⟩ := h
  obtain ⟨u, rfl, rx⟩ := vals1 r
  cases rx
  have hn := line63
  rcases hq with hq | hq
  · obtain ⟨its, r', pl, hz⟩ := I.list hq
    have hlen := r'.length
    exact Calls.call_len_list pl.isList (by simp only [List.size_toArray] <;> omega) ⟨.int ys.length, H, I.tok _, ⟨s.toks + 1, by rw [List.size_toArray, hlen]⟩, q⟩
  · obtain ⟨its, r', pl, hz⟩ := I.tuple hq
    have hlen := r'.length
    exact len_tuple pl (by simp only [List.size_toArray] <;> omega) ⟨.int ys.length, H, I.tok _, ⟨s.toks + 1, by rw [List.size_toArray, hlen]⟩, q⟩
theorem call_list_of : CallR X (.type "list") (fun xs H Q => ∃ p ys, xs = [.ref p] ∧ (SqL X.K H p ys ∨ SqT X.K H p ys) ∧ ∀ l, H l = none → Q (.ref l) (upd H l (.lst ys))) := by
  (try refine ⟨?_⟩); intro pins s σ H xs us Q I r h
  obtain ⟨p, ys, rfl, hq, q⟩ := h
  obtain ⟨u, rfl, rx⟩ := vals1 r
  cases rx
  have fin : ∀ (its : List Value), Vals ys its → ys.length ≤ sizeLine → ∀ (h' : Heap) (c' : Nat), (∀ b o', s.heap.get? b = some o' → h'.get? b = some o') →
      h'.get? s.heap.objs.size = some { cls := .type "list", dict := none, data := .seq its.toArray c', slots := #[] } → EP X pins σ Q (.ref s.heap.objs.size) { s with heap := h' } := fun its r' hz h' c' kp e =>
    ⟨.ref s.heap.objs.size, _, I.laid (t' := s.toks) kp (Nat.le_refl _) (show ObjOk X.prog X.w _ h' _ (.lst ys) from ⟨hz, its, c', r', e⟩), rfl, q _ (I.hok.fresh (Nat.le_refl _))⟩
  rcases hq with hq | hq
  · obtain ⟨its, r', pl, hz⟩ := I.list hq
    have hlen := r'.length
    obtain ⟨o, ho, hc, n, hd⟩ := pl.isList
    exact call_list_seq p (.inl rfl) ho hc hd (fun h' c' kp e => fin its r' hz h' c' kp e) (by simp only [List.size_toArray] <;> omega)
  · obtain ⟨its, r', pl, hz⟩ := I.tuple hq
    have hlen := r'.length
    obtain ⟨o, ho, hc, n, hd⟩ := pl
    exact call_list_seq p (.inr rfl) ho hc hd (fun h' c' kp e => fin its r' hz h' c' kp e) (by simp only [List.size_toArray] <;> omega)
theorem call_tuple_of : CallR X (.type "tuple") (fun xs H Q => ∃ p ys, xs = [.ref p] ∧ ((SqL X.K H p ys ∧ ∀ l, H l = none → Q (.ref l) (upd H l (.tup ys))) ∨ (SqT X.K H p ys ∧ Q (.ref p) H))) := by
  (try refine ⟨?_⟩); intro pins s σ H xs us Q I r h
  obtain ⟨p, ys, rfl, h⟩ := h
  obtain ⟨u, rfl, rx⟩ := vals1 r
  cases rx
  rcases h with ⟨hq, q⟩ | ⟨hq, q⟩
  · obtain ⟨its, r', pl, hz⟩ := I.list hq
    have hlen := r'.length
    refine call_tuple_list pl.isList (fun h' kp => ?_) (by simp only [List.size_toArray] <;> omega)
    have I1 : Inv X pins σ H { s with heap := h' } := I.kept (t' := s.toks) kp
    have I2 : Inv X pins σ (upd H h'.objs.size (.tup ys)) { s with heap := h'.push { cls := .type "tuple", data := .seq its.toArray } } :=
      I1.laid (t' := s.toks) (fun b o e => Heap.get?_push_of_some _ e) (Nat.le_refl _) (show ObjOk X.prog X.w _ _ _ (.tup ys) from ⟨hz, its, r', IsTup.new _ _⟩)
    exact ⟨.ref h'.objs.size, _, I2, rfl, q _ (I1.hok.fresh (Nat.le_refl _))⟩
  · obtain ⟨its, r', pl, hz⟩ := I.tuple hq
    exact call_tuple_same pl ⟨.ref p, H, I, rfl, q⟩

/-! ### the call of a builtin's method: o.m(..) -/
/-- the value is of that builtin type -/
noncomputable def tyV (K : PySem.W.Frag) (T : String) (x : V) (H : Hp) : Prop := match x with
  | .str _ => T = "str"
  | .int _ => T = "int"
  | .ref p => (T = "list" ∧ ∃ xs, SqL K H p xs) ∨ (T = "tuple" ∧ ∃ o, K.lookup p = some o ∧ o.cls = .type "tuple" ∧ o.dict = none) ∨
      (T = "dict" ∧ ((∃ kvs, H p = some (.dK kvs)) ∨ ∃ kvs, H p = some (.dT kvs))) ∨ (T = "set" ∧ ∃ S n, H p = some (.set S n))
  | _ => False
theorem tyV_is {pins : List (Addr × Obj)} {σ : St} {H : Hp} {s : Shared} {T : String} {x : V} {v : Value} (I : Inv X pins σ H s) (r : RelV x v) (ty : tyV X.K T x H) :
    s.TypeIs v T ∧ ∀ a, v = .ref a → ∃ ob, s.heap.get? a = some ob ∧ ob.dict = none := by
  cases x with
  | str z =>
    obtain ⟨t, rfl⟩ := r
    cases (show T = "str" from ty)
    exact ⟨typeIs_str s z t, fun _ e => nomatch e⟩
  | int i =>
    obtain ⟨t, rfl⟩ := r
    cases (show T = "int" from ty)
    exact ⟨typeIs_int s i t, fun _ e => nomatch e⟩
  | ref p =>
    cases r
    rcases ty with ⟨rfl, xs, hq⟩ | ⟨rfl, o, hk, hc, hd⟩ | ⟨rfl, hk⟩ | ⟨rfl, S, n, hk⟩
    · obtain ⟨its, _, pl, _⟩ := I.list hq
      refine ⟨pl.isList.typeIs, fun a e => ?_⟩
      cases e
      obtain ⟨o, n, e, c, hd, _⟩ := pl
      exact ⟨o, e, hd⟩
    · refine ⟨⟨o, I.kIn p o hk, hc⟩, fun a e => ?_⟩
      cases e
      exact ⟨o, I.kIn _ o hk, hd⟩
    · have z : ∃ o, s.heap.get? p = some o ∧ o.ExactDict := by
        rcases hk with ⟨kvs, hk⟩ | ⟨kvs, hk⟩
        · obtain ⟨_, _, _, _, o, _, _, e, ex, _⟩ := I.hok p _ hk
          exact ⟨o, e, ex⟩
        · obtain ⟨_, _, _, _, o, _, _, e, ex, _⟩ := I.hok p _ hk
          exact ⟨o, e, ex⟩
      obtain ⟨o, e, ex⟩ := z
      refine ⟨⟨o, e, ex.1⟩, fun a e2 => ?_⟩
      cases e2
      exact ⟨o, e, ex.2.1⟩
    · obtain ⟨o, _, _, _, e, ex, _⟩ := I.hok p _ hk
      refine ⟨⟨o, e, ex.1⟩, fun a e2 => ?_⟩
      cases e2
      exact ⟨o, e, ex.2.1⟩
  | _ => exact False.elim ty
noncomputable def tBM (K : PySem.W.Frag) (T : String) (r : V → List V → Hp → VK → Prop) (to : TE) (t : TA) : TE := fun σ H Q => to σ H fun x H1 => tyV K T x H1 ∧ t σ H1 fun xs H2 => r x xs H2 Q
variable {o e : Expr} {es : List Expr} {to : TE} {t : TA} {name : Str} {apos cpos : Pos} {T id : String} {r : V → List V → Hp → VK → Prop}
theorem pe_bm (pa : PlainAttrs T) (slot : Slot T name id) (hty : typeOf (.builtin id) = pure (.type "method_descriptor")) (hm : MtR X id r) (ho : PE X o to) (ha : PA X (e :: es) t)
    (hbase : attributeBase o name X.env (eval o X.env) = eval o X.env := by rfl)
    (hfew : ((backTo cpos (starEach (e :: es) X.env)).all (fun x => !x.1) && (backToKw cpos (keywordEach [] X.env)).all (fun x => x.1.isSome)
      && decide ((e :: es).length + ([] : List Keyword).length + (if ([] : List Keyword).isEmpty then 0 else 1) < 30)) = true := by rfl)
    (hline : (apos.endLine == cpos.line) = true := by rfl) (hs : starEach (e :: es) X.env = (false, eval e X.env) :: starEach es X.env := by rfl) (hplain : (backTo cpos (starEach es X.env)).any (·.1) = false := by rfl) :
    PE X (.Call (.Attribute o name apos) (e :: es) [] cpos) (tBM X.K T r to t) := by
  (try refine ⟨?_⟩); intro pins s σ H Q I h
  refine wpAny_Call_method_late hbase hfew hline rfl (thn (ho pins s σ H _ I h) fun v s1 ⟨x, H1, I1, r1, ty, q1⟩ => ?_)
  obtain ⟨h1, h2⟩ := tyV_is I1 r1 ty
  refine ⟨T, id, pa, slot, hty, h1, h2, ?_⟩
  have hA := ha cpos pins s1 σ H1 _ I1 q1
  rw [hs] at hA ⊢
  refine Calls.callWith_builtin (by show (false || (backTo cpos (starEach es X.env)).any (·.1)) = false; rw [hplain] <;> rfl) (Calls.evalArgs_plain ?_)
  exact thn hA fun us s2 ⟨vs, H2, I2, r2, q2⟩ => hm pins s2 σ H2 x vs v us Q I2 r1 r2 q2
/- xs.append(e), list.index on a module's tuple .. are MtR facts of 06m -/
end
end L2

namespace L2
open PySem PySem.Spec PyProof.Rows

noncomputable def MtM (X : Cx) (id : String) (r : V → List V → Hp → VK → Prop) : Prop :=
  ∀ (pins : List (Addr × Obj)) (s : Shared) (σ : St) (H : Hp) (x : V) (xs : List V) (v : Value) (us : List Value) (Q : VK), Inv X pins σ H s → RelV x v → Vals xs us → r x xs H Q →
    wpAny (model X.prog X.w) X.A (call (.builtin id) (v :: us)) (EP X pins σ Q) X.xe s

/-! ### lists of values -/
theorem Vals.one : ∀ {x : V} {us : List Value}, Vals [x] us → ∃ u, us = [u] ∧ RelV x u
  | _, _, .cons r .nil => ⟨_, rfl, r⟩
theorem Vals.rep {xs : List V} {us : List Value} (h : Vals xs us) : ∀ k : Nat, Vals (List.replicate k xs).flatten (List.replicate k us).flatten
  | 0 => .nil
  | k + 1 => by
    rw [List.replicate_succ, List.replicate_succ, List.flatten_cons, List.flatten_cons]
    exact Vals.append h (Vals.rep h k)
theorem foldl_rep (its : List Value) : ∀ (k : Nat) (acc : List Value),
    List.foldl (fun x1 x2 => x1 ++ x2) acc.toArray (List.replicate k its.toArray) = (acc ++ (List.replicate k its).flatten).toArray
  | 0, acc => by simp
  | k + 1, acc => by
    have e : acc.toArray ++ its.toArray = (acc ++ its).toArray := by simp
    have e2 : (acc ++ its) ++ (List.replicate k its).flatten = acc ++ (List.replicate (k + 1) its).flatten := by
      rw [List.replicate_succ, List.flatten_cons, List.append_assoc]
    rw [← e2, ← foldl_rep its k (acc ++ its), ← e, List.replicate_succ, List.foldl_cons]

section
variable {X : Cx} {pins : List (Addr × Obj)} {σ : St} {H : Hp} {s : Shared} {l b : Addr} {xs ys zs : List V}

/-! ### the two steps: a tracked list is rewritten, a new list is laid -/
theorem Inv.lset {its its' : List Value} {n : Nat} {f : Array Value → Array Value} {t' : Nat} (I : Inv X pins σ H s) (hH : H l = some (.lst xs))
    (e : s.heap.get? l = some { cls := .type "list", data := .seq its.toArray n }) (hf : f its.toArray = its'.toArray) (hv : Vals ys its') (hz : ys.length ≤ sizeLine) :
    Inv X pins σ (upd H l (.lst ys)) { s with heap := s.heap.update l (Obj.mapSeq f), toks := t' } := by
  have q := PySem.IsL.update e f
  rw [hf] at q
  refine I.write (x := l) (e := l) (by rw [hH]; exact trivial) (.inl rfl) (fun b' u hb hu => (Heap.get?_update_other s.heap (Obj.mapSeq f) (Ne.symm hb)).trans hu) ⟨_, q⟩ ?_
  exact ⟨hz, its', _, hv, q⟩
theorem Inv.lnew {its : List Value} {t' : Nat} (I : Inv X pins σ H s) (hv : Vals ys its) (hz : ys.length ≤ sizeLine) :
    Inv X pins σ (upd H s.heap.objs.size (.lst ys)) { s with heap := s.heap.push { cls := .type "list", data := .seq its.toArray }, toks := t' } :=
  I.laid (fun _ _ q => Heap.get?_push_of_some _ q) (Nat.le_refl _) ⟨hz, its, 0, hv, Heap.get?_push_size _ rfl⟩
theorem Inv.fresh (I : Inv X pins σ H s) : H s.heap.objs.size = none := I.hok.fresh (Nat.le_refl _)
theorem Inv.lstM (I : Inv X pins σ H s) (hH : H l = some (.lst xs)) : xs.length ≤ sizeLine ∧ ∃ (its : List Value) (n : Nat), Vals xs its ∧ xs.length = its.length ∧ s.heap.get? l = some { cls := .type "list", data := .seq its.toArray n } := by
  obtain ⟨z, its, n, r, e⟩ := I.hok l _ hH
  exact ⟨z, its, n, r, r.length, e⟩

theorem notLongL {n : Nat} (h : n ≤ sizeLine) : Builtin.List.listTooLong n = false := by
  unfold Builtin.List.listTooLong
  exact decide_eq_false (by omega)
end

section
variable {X : Cx}

/-! ### methods -/
noncomputable def rAppend : V → List V → Hp → VK → Prop := fun x vs H Q => ∃ l xs y, x = .ref l ∧ vs = [y] ∧ H l = some (.lst xs) ∧ xs.length < sizeLine ∧ Q .non (upd H l (.lst (xs ++ [y])))
theorem mt_append : MtM X "list.append" rAppend := by
  (try refine ⟨?_⟩); intro pins s σ H x vs v us Q I rx rv h
  obtain ⟨l, xs, y, rfl, rfl, hH, hz, q⟩ := h
  cases rx
  obtain ⟨u, rfl, ru⟩ := rv.one
  obtain ⟨z, its, n, r, hl, e⟩ := I.lstM hH
  refine call_meets F.slot_list_append ⟨_, e, rfl⟩ F.entry_list_append (F.args_list_append_2 _ _) (PySem.list_append l its.toArray n u (by rw [List.size_toArray]; omega)) ⟨e, ?_⟩
  refine ⟨.non, _, I.lset (its' := its ++ [u]) hH e (by simp) (r.append (.cons ru .nil)) ?_, rfl, q⟩
  rw [List.length_append, List.length_singleton]
  omega

noncomputable def rExtend : V → List V → Hp → VK → Prop := fun x vs H Q => ∃ l b xs zs, x = .ref l ∧ vs = [.ref b] ∧ H l = some (.lst xs) ∧ H b = some (.lst zs) ∧ xs.length + zs.length ≤ sizeLine ∧ Q .non (upd H l (.lst (xs ++ zs)))
theorem mt_extend : MtM X "list.extend" rExtend := by
  (try refine ⟨?_⟩); intro pins s σ H x vs v us Q I rx rv h
  obtain ⟨l, b, xs, zs, rfl, rfl, hH, hB, hz, q⟩ := h
  cases rx
  obtain ⟨u, rfl, ru⟩ := rv.one
  cases ru
  obtain ⟨z, its, n, r, hl, e⟩ := I.lstM hH
  obtain ⟨z2, its2, n2, r2, hl2, e2⟩ := I.lstM hB
  have hsz : its.toArray.size + its2.toArray.size ≤ sizeLine := by rw [List.size_toArray, List.size_toArray]; omega
  have hlong : ¬ (!its.toArray.isEmpty && Builtin.List.listTooLong (its.toArray.size + its2.toArray.size)) = true := by
    rw [notLongL hsz, Bool.and_false]
    exact Bool.false_ne_true
  refine call_meets F.slot_list_extend ⟨_, e, rfl⟩ F.entry_list_extend (F.args_list_extend_2 _ _)
    (AutoSeq1.list_extend_list_list_0 l its.toArray n b its2.toArray n2 hlong (by rw [List.size_toArray]; omega) (by omega)) ⟨e, e2, ?_⟩
  refine ⟨.non, _, I.lset (its' := its ++ its2) hH e (by simp) (r.append r2) ?_, rfl, q⟩
  rw [List.length_append]
  omega

/-! ### list + list, list += list, list * int -/
noncomputable def rCat : R2 := fun x y H Q => ∃ l b xs zs, x = .ref l ∧ y = .ref b ∧ H l = some (.lst xs) ∧ H b = some (.lst zs) ∧ xs.length + zs.length ≤ sizeLine ∧ ∀ p, H p = none → Q (.ref p) (upd H p (.lst (xs ++ zs)))
theorem op_cat : OpR X (binaryOp .Add) rCat := by
  (try refine ⟨?_⟩); intro pins s σ H x y v u Q I rx ry h
  obtain ⟨l, b, xs, zs, rfl, rfl, hH, hB, hz, q⟩ := h
  cases rx
  cases ry
  obtain ⟨z, its, n, r, hl, e⟩ := I.lstM hH
  obtain ⟨z2, its2, n2, r2, hl2, e2⟩ := I.lstM hB
  refine PySem.P.add_list e e2 ?_ (by rw [List.size_toArray, List.size_toArray]; omega)
  have ea : its.toArray ++ its2.toArray = (its ++ its2).toArray := by simp
  rw [ea]
  exact ⟨.ref _, _, I.lnew (t' := s.toks) (r.append r2) (by rw [List.length_append]; omega), rfl, q _ I.fresh⟩
/-- a list times an int (a negative one is nothing) -/
noncomputable def rRep : R2 := fun x y H Q => ∃ l k xs, x = .ref l ∧ y = .int k ∧ H l = some (.lst xs) ∧ -(2 ^ 63) ≤ k ∧ k < 2 ^ 63 ∧ xs.length * k.toNat ≤ sizeLine ∧
  ∀ p, H p = none → Q (.ref p) (upd H p (.lst (List.replicate k.toNat xs).flatten))
theorem len_rep {α : Type} (xs : List α) (k : Nat) : (List.replicate k xs).flatten.length = k * xs.length := by
  induction k with
  | zero => simp
  | succ k ih => rw [List.replicate_succ, List.flatten_cons, List.length_append, ih, Nat.succ_mul, Nat.add_comm]
theorem op_rep : OpR X (binaryOp .Mult) rRep := by
  (try refine ⟨?_⟩); intro pins s σ H x y v u Q I rx ry h
  obtain ⟨l, k, xs, rfl, rfl, hH, h1, h2, hz, q⟩ := h
  cases rx
  obtain ⟨t, rfl⟩ := ry
  obtain ⟨z, its, n, r, hl, e⟩ := I.lstM hH
  have hlen : its.toArray.size * k.toNat ≤ sizeLine := by rw [List.size_toArray, ← hl]; exact hz
  have hcap : ¬ its.toArray.size * k.toNat > (2 ^ 63 - 1) / 8 := by
    have : (sizeLine : Nat) ≤ (2 ^ 63 - 1) / 8 := by decide
    omega
  have hfit : ¬ (!Builtin.List.listFitsIndex k) = true := by
    rw [fitsIndex_both h1 h2]
    exact Bool.false_ne_true
  have hlong : ¬ Builtin.List.listTooLong (its.toArray.size * k.toNat) = true := by
    rw [notLongL hlen]
    exact Bool.false_ne_true
  have hnew : List.foldl (fun x1 x2 => x1 ++ x2) #[] (List.replicate (if its.toArray.isEmpty = true then 0 else k.toNat) its.toArray) = (List.replicate k.toNat its).flatten.toArray := by
    have f0 : ∀ m : Nat, List.foldl (fun x1 x2 => x1 ++ x2) #[] (List.replicate m its.toArray) = (List.replicate m its).flatten.toArray := fun m => by
      have := foldl_rep its m []
      rw [List.nil_append] at this
      exact this
    rw [f0]
    cases its with
    | nil => simp
    | cons a r' => rw [if_neg (by simp)]
  refine wpAny_binaryOp_repeat_ref (T := "list") (U := "int") (by decide) ⟨_, e, rfl⟩ (fun s' => typeIs_int s' k t) noFill_list_mul F.fills_int_mul F.slot_int_rmul repeat_list F.slot_int_index.lookup
    (call_meets F.slot_int_rmul (typeIs_int s k t) F.entry_int_rmul (F.args_int_rmul_2 _ _) (int___rmul___int_list k t l its.toArray n)
      ⟨e, rfl, ⟨_, e, rfl⟩, call_meets F.slot_list_mul ⟨_, e, rfl⟩ F.entry_list_mul (F.args_list_mul_2 _ _) (AutoListH.list___mul___list_int_3 l its.toArray n k t hfit hcap hlong) ⟨e, ?_⟩⟩)
  rw [hnew]
  exact ⟨.ref _, _, I.lnew (t' := s.toks) (r.rep k.toNat) (by rw [len_rep, Nat.mul_comm]; exact hz), rfl, q _ I.fresh⟩

/-! ### del xs[i] -/
end

/-! ### xs[a:b] = ys -/
section
variable {prog : Program} {w : World} {A : Around} {E : Value → Shared → Prop} {s : Shared}
end

section
variable {X : Cx}
end
end L2

namespace Att
open PySem PySem.W PySem.Calls PyProof.Rows

/-! ### the script -/
theorem ints_of_wellAll {P : Params} {h : Heap} : ∀ (ns : List Int) (vs : List Value), WellAll P h vs (ns.map WData.int) → IntsAre vs ns := by
  intro ns
  induction ns with
  | nil =>
    intro vs w
    rw [List.map_nil] at w
    cases w
    exact .nil
  | cons n ns ih =>
    intro vs w
    rw [List.map_cons] at w
    cases w with
    | cons a b =>
      cases a
      exact .cons _ _ (ih _ b)

theorem script_of {l : OpenLaw} {n : Nat} (hn : l.most = some n) {P : Params} {h : Heap} {args : List WData} {vals : List Value}
    (hpre : l.row.toRowW.claim.pre args = true) (hwl : WellAll P h vals args) :
    ∃ a vs ns, vals = [Value.ref a] ∧ args = [WData.list (ns.map WData.int)] ∧ h.get? a = some { cls := .type "list", data := .seq vs.toArray } ∧ IntsAre vs ns ∧ ns.length ≤ n := by
  have hsh : WShape.hasAll [] args [.list .int] = true := (pre_splitW hpre).1
  have hc : l.pre.holds [] { args := args } = true := (pre_splitW hpre).2
  obtain ⟨d, r, rfl, h1, h2⟩ := hasAllW_cons hsh
  obtain rfl := hasAllW_nil h2
  obtain ⟨xs, rfl, h3⟩ := hasW_list h1
  obtain ⟨ns, rfl⟩ := items_int h3
  have hlen : ns.length ≤ n := by
    unfold OpenLaw.pre at hc
    have h4 : (WTm.not (.lt (.lit (.int (n : Int))) (.len (.arg 0)))).holds [] { args := [.list (ns.map .int)] } = true := by
      have h4 := (holds_andW hc).1
      rw [hn] at h4
      exact h4
    have h5 := condW_of h4 (w_not (w_lt w_lit (w_len_list (w_arg rfl))))
    rw [List.length_map] at h5
    refine Nat.le_of_not_lt fun q => ?_
    have q' : (n : Int) < ((ns.length : Nat) : Int) := by omega
    first
      | (rw [decide_eq_true q'] at h5; exact absurd h5 (by decide))
      | (simp at h5; omega)
  cases hwl with
  | cons w1 w2 =>
    cases w2
    cases w1 with
    | list ho hall => exact ⟨_, _, ns, rfl, rfl, ho, ints_of_wellAll ns _ hall, hlen⟩

theorem post_true (l : OpenLaw) (args : List WData) : l.row.toRowW.claim.post args (.bool true) args = true :=
  postW_of (r := l.row.toRowW) (X := (true == true))
    (show WShape.has [] (.bool true) .bool = true by first | rfl | decide | simp [WShape.has, WShape.arms, WShape.armsAll])
    (show (WTm.eq .res (.lit (.bool true))).value [] { args := args, res := some (.bool true), after := args } = some (.bool (true == true)) from w_eq_bool (w_res rfl) w_lit) rfl

/-! ### the attachment: holds_open's last premise (the goal 'hc' behind k_head) from a wpAny of the law's body -/
/-- the same from a codeAny of the CALL (for a layer whose function contracts speak of calls) -/
theorem attach_call {l : OpenLaw} {n : Nat} {q : Program} {loose : List Str} {XP : (Str → Option Value) → Heap → Prop} {YP : World → Heap → Prop} {d : DefRec}
    (hn : l.most = some n) (hdf : d.params.defaults = [])
    (call : ∀ (w : World) (s₀ s₁ : Shared) (mg mb : Str → Option Value) (fa : Addr) (o : Obj) (pm cd doc : Value) (a : Addr) (vs : List Value) (ns : List Int),
      Ground q loose [] XP w s₀ mg mb s₁.heap → YP w s₁.heap →
      s₁.heap.get? fa = some o → o.data = .func (docDef d.name d.params d.body d.scope pm cd doc) → s₁.heap.CodeRec cd d.name → mg d.name = some (.ref fa) →
      s₁.heap.get? a = some { cls := .type "list", data := .seq vs.toArray } → IntsAre vs ns → ns.length ≤ n → s₁.gens = #[] →
      codeAny (model l.prog w) callerA (.call (.ref fa) ⟨[.ref a], []⟩) (fun r s' => r = .ok (.ret (.bool true)) ∧ OldK s₁.heap s'.heap ∧ s'.os = s₁.os ∧ AllBare s'.gens) s₁) :
    WalkO q loose XP YP l.row.toRowW d [] (fun f vs => PySem.call f vs) := by
  intro w s₀ s₁ mg mb G Y fa o pm cd doc dV kV ho hd hcd hD hmg hg args vals as hpre hlay hrd hwl hlo
  obtain rfl : dV = .none := Dflts.none hD hdf
  obtain rfl : kV = .none := Dflts.noKw hD
  obtain ⟨a, vs, ns, rfl, rfl, hobj, hints, hlen⟩ := script_of hn hpre hwl
  refine enter_call (codeAny_mono (call w s₀ s₁ mg mb fa o pm cd doc a vs ns G Y ho (fd_plain hd) hcd hmg hobj hints hlen hg) fun r s' hq => ?_)
  obtain ⟨rfl, h2, h3, h4⟩ := hq
  exact ⟨.inl ⟨.bool true, .bool true, [], rfl, fun _ => rfl, .bool true, post_true l _, fun _ => ⟨List.Pairwise.nil, fun _ hm => (nomatch hm)⟩⟩, h2, h3, h4⟩

/-! ### rules over ANY heap (no ledger) from facts about the written part K: the library's own take a ledger (News) for what they write -/
section
variable {prog : Program} {w : World} {A : Around} {E : Value → Shared → Prop} {s : Shared} {K : Frag}

/-! the whole heap as the ledger: makes every rule that writes through a ledger a rule over any heap -/
end
end Att

namespace L2
open PySem PySem.Spec PyProof.Rows

theorem vals_ints : ∀ {vs : List Value} {ns : List Int}, IntsAre vs ns → Vals (ns.map V.int) vs
  | _, _, .nil => .nil
  | _, _, .cons n t h => .cons ⟨t, rfl⟩ (vals_ints h)

/-- nothing is tracked but the script, known to the object (or it is an object of the module) -/
noncomputable def Only (H : Hp) : Prop := ∀ b, H b = none ∨ ∃ o xs, H b = some (.frz o (.lst xs))

/-- THE HEAD: the law's promise, at the heap behind the top. F, the promise of the law's def, may use that base is part of the heap (so K.In base, base.Ns mainGlobals mg stand in Mod) -/
theorem law_call {P : Program} {w : World} {K : PySem.W.Frag} {mg mb : Str → Option Value} {CX : CXT} {k : Nat} {fa a : Addr} {fd : FuncData} {x : Str} {sp : Sp} {s₁ : Shared} {vs : List Value} {ns : List Int}
    (KX : K.In s₁.heap) (hns : s₁.heap.Ns mainGlobals mg) (hb : s₁.heap.Ns builtinsNs mb) (hbb : ∀ x : Str, x ≠ "__name__" → mb x = bootBuiltins x) (hlim : s₁.heap.NoLimit) (hg : s₁.gens = #[])
    (ha : s₁.heap.get? a = some { cls := .type "list", data := .seq vs.toArray }) (hi : IntsAre vs ns) (hl : ns.length ≤ sizeLine) (hr : Room k callerA)
    (F : ∀ base : Heap, K.In base → base.Ns mainGlobals mg → FnOk P w K mg base CX k fa fd [x] sp) (hbind : ∀ (s : Shared) (u : Value), BindsTo s fd ⟨[u], []⟩ [(x, u)])
    (hsp : ∀ H : Hp, Only H → SqL K H a (ns.map V.int) → sp [.ref a] H (fun v _ => v = .bl true) fun _ _ _ => False)
    (hCX : ∀ H e s', CX [] H s₁ (fun _ _ _ => False) e s' → False) :
    codeAny (model P w) callerA (.call (.ref fa) ⟨[.ref a], []⟩) (fun r s' => r = .ok (.ret (.bool true)) ∧ OldK s₁.heap s'.heap ∧ s'.os = s₁.os ∧ AllBare s'.gens) s₁ := by
  have rv := vals_ints hi
  have lenV := hi.length
  -- from an abstract heap in which nothing but the script may be tracked
  have core : ∀ H : Hp, Only H → SqL K H a (ns.map V.int) → HOk P w H s₁.heap → (∀ b, H b ≠ none → b = a) → (H a ≠ none → K.lookup a = none) →
      codeAny (model P w) callerA (.call (.ref fa) ⟨[.ref a], []⟩) (fun r s' => r = .ok (.ret (.bool true)) ∧ OldK s₁.heap s'.heap ∧ s'.os = s₁.os ∧ AllBare s'.gens) s₁ := by
    intro H hO hS hok hA hK
    have base_of : ∀ {b : Addr} {o : Obj}, s₁.heap.get? b = some o → H b = none → (hidT s₁.heap H).get? b = some o := fun e n => hidT_get e n
    have noA : ∀ {b : Addr} {o : Obj} {es : Array DictEntry} {ep : Nat}, s₁.heap.get? b = some o → o.data = .dict es ep → H b = none := fun {b o es ep} e d => by
      cases q : H b with
      | none => rfl
      | some u =>
        have e' : b = a := hA b (by rw [q]; simp)
        subst e'
        rw [ha] at e; cases e
        have d' : Data.seq vs.toArray _ = Data.dict es ep := d
        cases d'
    have nsK : ∀ {b : Addr} {m : Str → Option Value}, s₁.heap.Ns b m → (hidT s₁.heap H).Ns b m := fun {b m} ⟨o, es, ep, e, d, r⟩ => ⟨o, es, ep, base_of e (noA e d), d, r⟩
    have hKb : K.In (hidT s₁.heap H) := fun b o e => base_of (KX b o e) (by
      cases q : H b with
      | none => rfl
      | some u =>
        have e' : b = a := hA b (by rw [q]; simp)
        subst e'
        rw [hK (by rw [q]; simp)] at e; cases e)
    have hM : Mod K mg (hidT s₁.heap H) := ⟨hKb, nsK hns, ⟨mb, nsK hb, hbb⟩, let ⟨mc, h1, h2⟩ := hlim; ⟨mc, nsK h1, h2⟩⟩
    have e0 : Env0 P w K mg (hidT s₁.heap H) callerA [] s₁ H := ⟨rfl, hM, fun b o e => of_hidT e, Nat.le_of_eq (hidT_size _ _), trivial, fun b hb => absurd (show b ∈ ([] : List Addr) from hb) (by simp), hok, .of_eq hg⟩
    refine codeAny_mono ((F _ hKb (nsK hns)).run callerA [] s₁ H ⟨[.ref a], []⟩ [.ref a] [.ref a] _ _ hr e0 (hbind s₁ (.ref a)) (.cons rfl .nil) (hsp H hO hS)) fun r s' h => ?_
    cases r with
    | error e => exact (hCX H e s' h).elim
    | ok fl =>
      cases fl with
      | next => exact False.elim h
      | brk => exact False.elim h
      | cont => exact False.elim h
      | ret u =>
        obtain ⟨v, H', os, bare, un, hok', r', q⟩ := h
        have q' : v = .bl true := q
        subst q'
        obtain rfl : u = Value.bool true := r'
        refine ⟨rfl, OldK.of_keep fun b o e => ?_, os, bare⟩
        cases q : H b with
        | none => exact un.keep b o e q (by intro z; exact absurd (show b ∈ ([] : List Addr) from z) (by simp)) (by simp)
        | some u =>
          rcases hO b with z | ⟨ob, xs, z⟩
          · rw [q] at z; cases z
          · have z2 := un.frzs b ob _ z
            obtain ⟨e1, _⟩ := hok b _ z
            obtain ⟨e2, _⟩ := hok' b _ z2
            rw [e] at e1; cases e1
            exact e2
  cases hk : K.lookup a with
  | some o =>
    -- the script is one of the module's own objects
    have e := KX a o hk
    rw [ha] at e
    cases e
    refine core (fun _ => none) (fun _ => .inl rfl) (.inr ⟨_, vs.toArray, _, hk, rfl, rfl, rfl, by rw [List.size_toArray, lenV]; exact hl, by simpa using rv⟩) (fun b u z => by have z' : (none : Option HO) = some u := z; cases z') (fun b z => absurd rfl z) fun z => absurd rfl z
  | none =>
    refine core (fun b => if b = a then some (.frz { cls := .type "list", data := .seq vs.toArray } (.lst (ns.map V.int))) else none) (fun b => ?_) (.inl (.inr ⟨{ cls := .type "list", data := .seq vs.toArray }, if_pos rfl⟩)) (fun b u z => ?_) (fun b z => ?_) fun _ => hk
    · by_cases hb : b = a
      · exact .inr ⟨_, _, if_pos hb⟩
      · exact .inl (if_neg hb)
    · by_cases hb : b = a
      · have z' := (if_pos hb).symm.trans z
        cases z'
        subst hb
        exact ⟨ha, by rw [List.length_map]; exact hl, vs, _, rv, ha⟩
      · have z' := (if_neg hb).symm.trans z
        cases z'
    · by_cases hb : b = a
      · exact hb
      · exact absurd (if_neg hb) z
end L2

namespace L2
open PySem PySem.Spec PyProof.Rows

/-- the goal that k_head leaves (case hc), from the law's promise. F gives the function object fd (K's own) once, then the promise over every base -/
theorem walk_of {l : PySem.W.OpenLaw} {n k : Nat} {q : Program} {loose : List Str} {XP : (Str → Option Value) → Heap → Prop} {YP : World → Heap → Prop} {d : DefRec} {K : Params → PySem.W.Frag} {CX : World → CXT} {sp : World → Sp} {x : Str}
    (hn : l.most = some n) (hn2 : n ≤ sizeLine) (hdf : d.params.defaults = []) (hr : Room k callerA)
    (hY : ∀ (w : World) (h : Heap), YP w h → (K w.params).In h)
    (F : ∀ (w : World) (mg : Str → Option Value) (fa : Addr) (h : Heap), (K w.params).In h → h.Ns mainGlobals mg → mg d.name = some (.ref fa) →
      ∃ fd : FuncData, (∀ (s : Shared) (u : Value), BindsTo s fd ⟨[u], []⟩ [(x, u)]) ∧
        ∀ base : Heap, (K w.params).In base → base.Ns mainGlobals mg → FnOk l.prog w (K w.params) mg base (CX w) k fa fd [x] (sp w))
    (hsp : ∀ (w : World) (H : Hp) (a : Addr) (ns : List Int), ns.length ≤ n → Only H → SqL (K w.params) H a (ns.map V.int) → sp w [.ref a] H (fun v _ => v = .bl true) fun _ _ _ => False)
    (hCX : ∀ (w : World) (H : Hp) (s : Shared) (e : Value) (s' : Shared), CX w [] H s (fun _ _ _ => False) e s' → False) :
    PySem.W.WalkO q loose XP YP l.row.toRowW d [] (fun f vs => PySem.call f vs) := by
  refine Att.attach_call hn hdf fun w s₀ s₁ mg mb fa o pm cd doc a vs ns G Y ho hd hcd hmg hobj hints hlen hg => ?_
  have KX := hY w _ Y
  obtain ⟨fd, hb, hF⟩ := F w mg fa _ KX G.T.g hmg
  exact law_call KX G.T.g G.T.b G.T.builtins G.T.nolimit hg hobj hints (Nat.le_trans hlen hn2) hr hF hb (fun H hO hS => hsp w H a ns hlen hO hS) fun H e s' => hCX w H s₁ e s'
end L2

/- THE LAST THEOREM (shape; LID, My.* are yours):
   My.Adr: a structure of the addresses that your layer names (classes, functions); My.Txt K t: a structure (Prop) of the equations over K;
   My.txt_mk : {K} {implicit addresses ..} (e1 : nsIn K mainGlobals "law" = some (some (.ref f))) (e2 : K.lookup f = some ⟨oc, od, .func (fnOf "law" "law" params body scope dV kV doc pm an cdv ct), sl⟩) (e3 : codeIn K cdv "law" = true) .. : ∃ t, My.Txt K t

(the tactic k_is has no namespace: write k_is) -/

/-! SHORT WORDS over the layer: a def of the text, its body, what a loop and a test want. -/
namespace L2
open PySem PySem.Spec PyProof.Rows

/-! ### the text by places -/
/-- the j-th statement of a class's body -/
noncomputable def inClass (s : Stmt) (j : Nat) : Stmt := match s with
  | .ClassDef _ _ _ body _ _ _ _ _ _ _ => body.getD j (.Pass ⟨0, 0, 0, 0⟩)
  | _ => .Pass ⟨0, 0, 0, 0⟩
noncomputable def defArgs (s : Stmt) : Arguments := match s with
  | .FunctionDef _ a _ _ _ _ _ _ _ _ => a
  | _ => { posonlyargs := [], args := [], vararg := none, kwonlyargs := [], kw_defaults := [], kwarg := none, defaults := [] }
noncomputable def defBody (s : Stmt) : List Stmt := match s with
  | .FunctionDef _ _ b _ _ _ _ _ _ _ => b
  | _ => []
noncomputable def defScope (s : Stmt) : Scope := match s with
  | .FunctionDef _ _ _ _ _ _ sc _ _ _ => sc
  | _ => { kind := .function, names := [], isGenerator := false, isCoroutine := false }

/-! ### no exception leaves a def -/
noncomputable abbrev CX0 : CXT := fun _ _ _ _ _ _ => False
noncomputable abbrev E0 : XK := fun _ _ _ => False
theorem pass0 {X : Cx} : Passes CX0 X E0 := fun _ _ _ _ _ _ _ h => h.elim

/-! ### a def (or method) of the text as it stands behind the top -/
structure Fun (K : PySem.W.Frag) (x qual : Str) (st : Stmt) (f : Addr) (fd : FuncData) : Prop where
  ex : ∃ (oc : Value) (od : Option Addr) (kV doc pm : Value) (an : Option Addr) (cdv ct : Value) (osl : Array (Option Value)),
    fd = PySem.W.fnOf x qual (defArgs st) (defBody st) (defScope st) .none kV doc pm an cdv ct ∧ K.lookup f = some ⟨oc, od, .func fd, osl⟩ ∧ PySem.W.codeIn K cdv qual = true
  kp : PySem.W.keepIn K (.ref f) = true
section
variable {P : Program} {w : World} {K : PySem.W.Frag} {mg : Str → Option Value} {base : Heap}
/-- THE RULE for a def: its body as a term of rules, and the reading of that term -/
theorem Fun.ok {x qual : Str} {st : Stmt} {f : Addr} {fd : FuncData} {N ps : List Str} {k : Nat} {sp : Sp} (F : Fun K x qual st f fd) (S : FnScope N ps (defScope st)) (len : ∀ vs H Q E, sp vs H Q E → vs.length = ps.length)
    (hbody : ∀ (cdv : Value) (A : Around) (outer : List Env) (s : Shared) (H : Hp) (vs : List V) (Q : VK) (E : XK), Room k (A.deeper (envOfC qual (defScope st) s.heap.objs.size f cdv)) → sp vs H Q E →
      ∃ t, PSs (cxOf CX0 P w K mg base N qual (defScope st) f cdv A outer s H E).nox (defBody st) t ∧ t { nx := fun _ H' => Q .non H', rt := Q } (start N vs) H) : FnOk P w K mg base CX0 (k + 1) f fd ps sp := by
  obtain ⟨oc, od, kV, doc, pm, an, cdv, ct, osl, rfl, lk, hcd⟩ := F.ex
  refine fn_of lk hcd S len fun A outer s H vs Q E hr hsp => ?_
  obtain ⟨t, h, q⟩ := hbody cdv A outer s H vs Q E hr hsp
  exact ⟨t, h.nox, q⟩
/-- how its arguments bind (no defaults): h is «fun _ _ _ _ _ _ us hl => match us, hl with | [_, _], _ => rfl», one _ a parameter -/
theorem Fun.binds {x qual : Str} {st : Stmt} {f : Addr} {fd : FuncData} {ps : List Str} (F : Fun K x qual st f fd)
    (h : ∀ (kV doc pm : Value) (an : Option Addr) (cdv ct : Value) (us : List Value), us.length = ps.length → bindArgs (PySem.W.fnOf x qual (defArgs st) (defBody st) (defScope st) .none kV doc pm an cdv ct) ⟨us, []⟩ = pure (ps.zip us)) : Binds K fd ps [] := by
  obtain ⟨oc, od, kV, doc, pm, an, cdv, ct, osl, rfl, lk, hcd⟩ := F.ex
  exact .all (h kV doc pm an cdv ct)
theorem fun_mk {x qual : Str} {st : Stmt} {f : Addr} {oc : Value} {od an : Option Addr} {osl : Array (Option Value)} {kV doc pm cdv ct : Value} (l : K.lookup f = some ⟨oc, od, .func (PySem.W.fnOf x qual (defArgs st) (defBody st) (defScope st) .none kV doc pm an cdv ct), osl⟩)
    (c : PySem.W.codeIn K cdv qual = true) (k : PySem.W.keepIn K (.ref f) = true) : Fun K x qual st f (PySem.W.fnOf x qual (defArgs st) (defBody st) (defScope st) .none kV doc pm an cdv ct) := ⟨⟨oc, od, kV, doc, pm, an, cdv, ct, osl, rfl, l, c⟩, k⟩
end
theorem small1000 {n : Nat} (h : n ≤ 1000) : n < sizeLine := Nat.lt_of_le_of_lt h (by decide)

/-! ### expressions in short: the name that stands in the i-th slot -/
section
variable {X : Cx}
theorem pv (i : Nat) {x : Str} {pos : Pos} (hN : X.N[i]? = some x := by rfl) (hv : Vis X.env.scope x := by first | exact Or.inl rfl | exact Or.inr (Or.inl rfl) | exact Or.inr (Or.inr rfl)) (hd : (x == ("__debug__" : Str)) = false := by decide)
    (hcd : (x == ("__classdict__" : Str)) = false := by decide) : PE X (.Name x pos) (tVar i) := pe_var hN hv hd hcd
end

/-! ### tests -/
theorem ite2 {c A B : Prop} [Decidable c] (h1 : c → A) (h2 : ¬ c → B) : if c then A else B := by
  by_cases h : c
  · rw [if_pos h]
    exact h1 h
  · rw [if_neg h]
    exact h2 h
/-! ### heaps -/
/-- all that was tracked is as it was -/
noncomputable def Same (H H' : Hp) : Prop := ∀ b o, H b = some o → H' b = some o
theorem Same.refl (H : Hp) : Same H H := fun _ _ h => h
theorem Same.trans {H H1 H2 : Hp} (a : Same H H1) (b : Same H1 H2) : Same H H2 := fun c o h => b c o (a c o h)
end L2

set_option Elab.async false
set_option linter.all false
set_option maxRecDepth 100000
set_option maxHeartbeats 4000000
namespace L2
open PySem PySem.Spec PyProof.Rows

/-! ### plain data -/
inductive D where
  | non | bl (b : Bool) | int (i : Int) | str (x : Str) | tup (ds : List D) | lst (ds : List D) | dct | scr (φ : Addr → Prop) (ns : List Int) | ext (φ : Hp → Addr → Prop)
mutual
noncomputable def Rep (H : Hp) : D → V → Prop
  | .non, v => v = .non
  | .bl b, v => v = .bl b
  | .int i, v => v = .int i
  | .str x, v => v = .str x
  | .tup ds, v => ∃ a xs, v = .ref a ∧ H a = some (.tup xs) ∧ Reps H ds xs
  | .lst ds, v => ∃ a xs, v = .ref a ∧ H a = some (.lst xs) ∧ Reps H ds xs
  | .dct, v => ∃ a kvs, v = .ref a ∧ H a = some (.dK kvs)
  | .scr φ ns, v => ∃ a, v = .ref a ∧ ((∃ o, H a = some (.frz o (.lst (ns.map V.int)))) ∨ φ a)
  | .ext φ, v => ∃ a H0, v = .ref a ∧ Same H0 H ∧ φ H0 a
noncomputable def Reps (H : Hp) : List D → List V → Prop
  | [], xs => xs = []
  | d :: ds, xs => ∃ v vs, xs = v :: vs ∧ Rep H d v ∧ Reps H ds vs
end
theorem Reps.length {H : Hp} : ∀ {ds : List D} {xs : List V}, Reps H ds xs → xs.length = ds.length
  | [], xs, h => by rw [Reps] at h; subst h; rfl
  | d :: ds, xs, h => by
    rw [Reps] at h
    obtain ⟨v, vs, rfl, _, h2⟩ := h
    have := Reps.length h2
    simp [this]
mutual
theorem Rep.mono {H H' : Hp} (e : Same H H') : ∀ (d : D) (v : V), Rep H d v → Rep H' d v
  | .non, v, h => by rw [Rep] at *; exact h
  | .bl b, v, h => by rw [Rep] at *; exact h
  | .int i, v, h => by rw [Rep] at *; exact h
  | .str x, v, h => by rw [Rep] at *; exact h
  | .tup ds, v, h => by
    rw [Rep] at *
    obtain ⟨a, xs, h1, h2, h3⟩ := h
    exact ⟨a, xs, h1, e _ _ h2, Reps.mono e ds xs h3⟩
  | .lst ds, v, h => by
    rw [Rep] at *
    obtain ⟨a, xs, h1, h2, h3⟩ := h
    exact ⟨a, xs, h1, e _ _ h2, Reps.mono e ds xs h3⟩
  | .dct, v, h => by
    rw [Rep] at *
    obtain ⟨a, kvs, h1, h2⟩ := h
    exact ⟨a, kvs, h1, e _ _ h2⟩
  | .scr φ ns, v, h => by
    rw [Rep] at *
    obtain ⟨a, h1, h2⟩ := h
    refine ⟨a, h1, ?_⟩
    rcases h2 with ⟨o, h2⟩ | h2
    · exact .inl ⟨o, e _ _ h2⟩
    · exact .inr h2
  | .ext φ, v, h => by
    rw [Rep] at *
    obtain ⟨a, H0, h1, h2, h3⟩ := h
    exact ⟨a, H0, h1, fun b o q => e _ _ (h2 b o q), h3⟩
theorem Reps.mono {H H' : Hp} (e : Same H H') : ∀ (ds : List D) (xs : List V), Reps H ds xs → Reps H' ds xs
  | [], xs, h => by rw [Reps] at *; exact h
  | d :: ds, xs, h => by
    rw [Reps] at *
    obtain ⟨v, vs, h1, h2, h3⟩ := h
    exact ⟨v, vs, h1, Rep.mono e d v h2, Reps.mono e ds vs h3⟩
end
/-- the built-in type of a datum -/
noncomputable def D.ty : D → String
  | .non => "NoneType" | .bl _ => "bool" | .int _ => "int" | .str _ => "str" | .tup _ => "tuple" | .lst _ => "list" | .dct => "dict" | .scr _ _ => "list" | .ext _ => "object"
noncomputable def D.isS : D → Bool
  | .scr _ _ => true
  | .ext _ => true
  | _ => false
theorem Rep.ty {K : PySem.W.Frag} {H : Hp} {d : D} {v : V} (h : Rep H d v) (hs : d.isS = false) : TyOf K H v (.type d.ty) := by
  cases d with
  | non => rw [Rep] at h; subst h; exact .non
  | bl b => rw [Rep] at h; subst h; exact .bl b
  | int i => rw [Rep] at h; subst h; exact .int i
  | str x => rw [Rep] at h; subst h; exact .str x
  | tup ds => rw [Rep] at h; obtain ⟨a, xs, rfl, h2, _⟩ := h; exact .tup h2
  | lst ds => rw [Rep] at h; obtain ⟨a, xs, rfl, h2, _⟩ := h; exact .lst h2
  | dct => rw [Rep] at h; obtain ⟨a, kvs, rfl, h2⟩ := h; exact .dK h2
  | scr φ ns => cases hs
  | ext φ => cases hs

/-- without the object at p -/
noncomputable def hide (p : Addr) (H : Hp) : Hp := fun b => if b = p then none else H b
theorem rep_tup {H : Hp} {a : Addr} {xs : List V} {ds : List D} (h : H a = some (.tup xs)) (r : Reps H ds xs) : Rep H (.tup ds) (.ref a) := by rw [Rep]; exact ⟨a, xs, rfl, h, r⟩
theorem rep_lst {H : Hp} {a : Addr} {xs : List V} {ds : List D} (h : H a = some (.lst xs)) (r : Reps H ds xs) : Rep H (.lst ds) (.ref a) := by rw [Rep]; exact ⟨a, xs, rfl, h, r⟩
theorem reps_nil {H : Hp} : Reps H [] [] := by rw [Reps]
theorem reps_cons {H : Hp} {d : D} {v : V} {ds : List D} {vs : List V} (h : Rep H d v) (r : Reps H ds vs) : Reps H (d :: ds) (v :: vs) := by rw [Reps]; exact ⟨v, vs, rfl, h, r⟩
theorem rep_int {H : Hp} (i : Int) : Rep H (.int i) (.int i) := by rw [Rep]
theorem rep_bl {H : Hp} (i : Bool) : Rep H (.bl i) (.bl i) := by rw [Rep]
theorem rep_str {H : Hp} (i : Str) : Rep H (.str i) (.str i) := by rw [Rep]
theorem rep_non {H : Hp} : Rep H .non .non := by rw [Rep]
/-! ### a new object -/
theorem same_upd {H : Hp} {p : Addr} (h : H p = none) (o : HO) : Same H (upd H p o) := fun b u q => by rw [upd_ne (ne_of_none q h)]; exact q
section
variable {X : Cx}
/-! ### a statement's end by a word of one's own -/
/-! ### isinstance of a datum against one built-in type -/
noncomputable def isTy (d : D) (T : String) : Option Bool := if d.isS = true then none else if (Value.type d.ty == Value.type T) = true then some true else if PySem.W.kitMeta T = true then (fastBuiltinMro d.ty).map (·.contains (.type T)) else none
theorem isTy_kit (K : PySem.W.Frag) (d : D) (T : String) (hs : d.isS = false) : PySem.W.kitOne K (.type d.ty) (.type T) = isTy d T := by
  unfold isTy; rw [hs, if_neg (by decide)]; rfl
noncomputable def rIsI : List V → Hp → VK → Prop := fun xs H Q => ∃ x T d b, xs = [x, .ty T] ∧ Rep H d x ∧ isTy d T = some b ∧ Q (.bl b) H
theorem call_isinst : CallR X (.builtin "isinstance") rIsI := by
  intro pins s σ H xs us Q I r h
  obtain ⟨x, T, d, b, rfl, hd, e, q⟩ := h
  obtain ⟨u, w', rfl, ru, rw'⟩ := vals2 r
  cases (show w' = Value.type T from rw')
  have hs : d.isS = false := by
    cases z : d.isS with
    | false => rfl
    | true => unfold isTy at e; rw [z, if_pos rfl] at e; cases e
  rw [← isTy_kit X.K d T hs] at e
  exact isinst_ok I ru (hd.ty hs) e fun tk => ⟨.bl b, H, I.tok tk, rfl, q⟩

/-! ### is, is not: truths -/
/-! ### numbers of many figures -/
/-- at most 8000 bits -/
noncomputable def Sm (i : Int) : Prop := i.natAbs < 2 ^ 8000
theorem Sm.log {i : Int} (h : Sm i) : i.natAbs.log2 < 8000 := by
  by_cases h0 : i.natAbs = 0
  · rw [h0]; decide
  · exact (Nat.log2_lt h0).mpr h
noncomputable def CDivB (i j : Int) : Prop := 0 < j ∧ Sm j
theorem op_fdivB : OpR X (binaryOp .FloorDiv) (rI CDivB fun i j => .int (i / j)) := opI fun i j _ _ _ _ _ hc q => by
  refine floordiv_int (Int.ne_of_gt hc.1) ?_ (.inl (PyProof.noPylong_of_log2 (Nat.lt_of_lt_of_le hc.2.log (by decide))))
  rw [Int.fdiv_eq_ediv_of_nonneg _ (Int.le_of_lt hc.1)]
  exact q
end
/-! ### the built-in names -/
theorem bt_len : bootBuiltins "len" = some (.builtin "len") := by decide +kernel
theorem bt_max : bootBuiltins "max" = some (.builtin "max") := by decide +kernel
theorem bt_min : bootBuiltins "min" = some (.builtin "min") := by decide +kernel
theorem bt_isinstance : bootBuiltins "isinstance" = some (.builtin "isinstance") := by decide +kernel
theorem bt_int : bootBuiltins "int" = some (.type "int") := by decide +kernel
theorem bt_bool : bootBuiltins "bool" = some (.type "bool") := by decide +kernel
theorem bt_tuple : bootBuiltins "tuple" = some (.type "tuple") := by decide +kernel
theorem bt_list : bootBuiltins "list" = some (.type "list") := by decide +kernel
theorem bt_str : bootBuiltins "str" = some (.type "str") := by decide +kernel
theorem bt_enumerate : bootBuiltins "enumerate" = some (.type "enumerate") := by decide +kernel
/-! ### the divisor by rests -/
end L2
namespace L2
open PySem PySem.Spec PyProof.Rows
section
variable {X : Cx} {pins : List (Addr × Obj)} {σ : St} {H : Hp} {s : Shared} {pos : Pos}
theorem Inv.big (I : Inv X pins σ H s) : sysModules < s.heap.objs.size := by
  obtain ⟨o, es, ep, e, _⟩ := I.ok.mod.glob
  have h1 := Heap.lt_size (I.bk _ _ e)
  exact Nat.lt_of_le_of_lt (by decide) h1
theorem dk_empty {P : Program} {w : World} {H : Hp} (h : Heap) (hb : sysModules < h.objs.size) : ObjOk P w H (h.push { cls := .type "dict", data := .dict #[] }) h.objs.size (.dK []) :=
  ⟨Nat.zero_le _, beq_eq_false_iff_ne.mpr (Ne.symm (Nat.ne_of_lt hb)), [], .nil, Heap.DictOf.new h⟩
noncomputable def tDNewK : TE := fun _ H Q => ∀ p, H p = none → Q (.ref p) (upd H p (.dK []))
theorem pe_dnewK : PE X (.Dict [] [] pos) tDNewK := ⟨fun pins s σ H Q I h =>
  wpAny_Dict_empty ⟨.ref s.heap.objs.size, _, I.laid (a := s.heap.objs.size) (o := .dK []) (t' := s.toks) (fun _ _ q => Heap.get?_push_of_some _ q) (Nat.le_refl _) (dk_empty s.heap I.big), rfl, h _ (I.hok.fresh (Nat.le_refl _))⟩⟩
end
end L2
namespace L2
open PySem
end L2
namespace L2
open PySem
theorem sm_of {i : Int} {n : Nat} (h : i.natAbs ≤ n) (hn : n < 2 ^ 8000) : Sm i := Nat.lt_of_le_of_lt h hn
end L2

set_option Elab.async false
set_option linter.all false
set_option maxRecDepth 100000
set_option maxHeartbeats 1000000
namespace L2
open PySem PySem.Spec PyProof.Rows

section
variable {X : Cx} {pins : List (Addr × Obj)} {σ : St} {H : Hp} {s : Shared} {scope : Scope} {cl : List (Str × Addr)} {own : List Str} {js : List Nat}

/-- what the block has taken from the frame stands there still -/
noncomputable def kept : St → St → Prop
  | [], [] => True
  | none :: r, _ :: r' => kept r r'
  | some v :: r, y :: r' => y = some v ∧ kept r r'
  | [], _ :: _ => False
  | _ :: _, [] => False
theorem HOk.adopt {P : Program} {w : World} {H : Hp} {h : Heap} {a : Addr} {o : HO} (x : HOk P w H h) (hn : H a = none) (new : ObjOk P w (upd H a o) h a o) : HOk P w (upd H a o) h := fun b u e => by
  by_cases hb : b = a
  · subst hb; rw [upd_same] at e; cases e; exact new
  · rw [upd_ne hb] at e
    exact (x b u e).stay (fun c v _ q => q) (fun c q => by rw [upd_ne (ne_of_none q hn)]; exact q) fun c xs q => by rw [upd_ne (ne_of_none q hn)]; exact q

end
end L2

set_option Elab.async false
set_option linter.all false
set_option maxRecDepth 100000
set_option maxHeartbeats 1000000
namespace L2
open PySem PySem.Spec PyProof.Rows
/-- the list at a with its places: a new pair each turn -/
noncomputable def Ite (a : Addr) : It :=
  ⟨fun i H => ∃ xs x, H a = some (.lst xs) ∧ xs[i]? = some x, fun i H v H' => ∃ p x, H p = none ∧ v = .ref p ∧ H' = upd H p (.tup [.int i, x]) ∧ ∀ xs, H a = some (.lst xs) → xs[i]? = some x, fun i H => ∃ xs, H a = some (.lst xs) ∧ xs.length ≤ i⟩
theorem turn_enum {P : Program} {w : World} {K : PySem.W.Frag} {es : List Expr} {k : Nat} {pos : Pos} (a e it : Addr) (hne : e ≠ it) :
    Turn P w K (.Tuple es k pos) (Ite a) [e, it] e (fun i h => (∃ old, IsEnum h e it i old) ∧ h.IsListIter it a i) where
  mem := by simp
  obj := fun i h st b hb => by
    rw [List.mem_cons, List.mem_singleton] at hb
    rcases hb with rfl | rfl
    · obtain ⟨⟨old, q⟩, _⟩ := st
      exact ⟨_, q, fun v z => by cases z⟩
    · obtain ⟨_, o, q, c, d⟩ := st
      exact ⟨o, q, fun v z => by rw [d] at z; cases z⟩
  keep := fun i h h' st kp => ⟨by obtain ⟨old, q⟩ := st.1; exact ⟨old, kp e (by simp) _ q⟩, st.2.at fun o q => kp it (by simp) o q⟩
  item := by
    intro X hP hw hK hc i pins s σ H E I hf st hg
    subst hP hw hK
    obtain ⟨xs, x, hq, hx⟩ := hg
    obtain ⟨⟨old, he⟩, hit⟩ := st
    obtain ⟨its, rv, p, hz⟩ := I.list (SqL.of hq)
    obtain ⟨u, hu, ru⟩ := rv.get hx
    obtain ⟨f0, f1, f2, f3, f4, f5⟩ := hf e (by simp)
    obtain ⟨g0, g1, g2, g3, g4, g5⟩ := hf it (by simp)
    refine wpAny_pyNext_enum_item he hit p.isList (x := u) (by simpa using hu) hne fun h' eo it' ht hsz hk => ?_
    refine ⟨.ref s.heap.objs.size, rfl, ?_⟩
    refine wpAny_letOwnedTupleGo_enum eo fun h2 he2 hs2 => ?_
    have fr : H s.heap.objs.size = none := I.hok.fresh (Nat.le_refl _)
    have ne2 : ∀ b, b < s.heap.objs.size → b ≠ s.heap.objs.size := fun b hb => Nat.ne_of_lt hb
    have ee : e < s.heap.objs.size := Heap.lt_size he
    have k2 : ∀ b o, b ≠ e → b ≠ it → s.heap.get? b = some o → h2.get? b = some o := fun b o h1 h2' q => (hs2.2 b h1).trans (hk b o h1 h2' q)
    have ht2 : h2.get? s.heap.objs.size = some { cls := .type "tuple", data := .seq #[.int i s.toks, u] } := (hs2.2 _ (Nat.ne_of_gt ee)).trans ht
    have trk : ∀ b v, H b = some v → b ≠ e ∧ b ≠ it := fun b v q => ⟨ne_of_none q f0, ne_of_none q g0⟩
    have hok0 : HOk X.prog X.w H h2 := fun b o q => (I.hok b o q).stay (fun c v hc q' => by
      rcases hc with rfl | hc
      · exact k2 c v (trk c _ q).1 (trk c _ q).2 q'
      · exact k2 c v (trk c _ hc).1 (trk c _ hc).2 q') (fun _ z => z) fun _ _ z => z
    have I1 : Inv X pins σ (upd H s.heap.objs.size (.tup [.int i, x])) { s with heap := h2, toks := s.toks + 1 } := by
      refine I.step (g' := s.gens) (d' := s.drawn) (ch := [e, it]) (fun b hb => ?_) (fun b o _ _ hc q _ => k2 b o (fun z => hc (by simp [z])) (fun z => hc (by simp [z])) q) (fun b o _ _ hc q _ => ⟨o.slots, k2 b o (fun z => hc (by simp [z])) (fun z => hc (by simp [z])) q⟩)
        (fun b o _ q n => by rw [upd_ne (ne2 b (Heap.lt_size q))]; exact n) (fun b o hc q => ⟨o, k2 b o (fun z => hc (by simp [z])) (fun z => hc (by simp [z])) q⟩) (fun b ys q => by rw [upd_ne (ne_of_none q fr)]; exact q) (fun b o v q => by rw [upd_ne (ne_of_none q fr)]; exact q)
        (fun b ps q => ⟨#[], by rw [upd_ne (ne_of_none q fr), q]; simp⟩) (fun m hm => ?_) ?_ I.bare
      · rw [List.mem_cons, List.mem_singleton] at hb
        rcases hb with rfl | rfl
        · exact ⟨f3, f1, f4, f5⟩
        · exact ⟨g3, g1, g4, g5⟩
      · obtain ⟨o, es', ep, ho, r⟩ := hm
        exact ⟨o, es', ep, k2 _ o (Ne.symm f1) (Ne.symm g1) ho, r⟩
      · exact hok0.adopt fr ⟨by show 2 ≤ sizeLine; decide, [.int i s.toks, u], .cons ⟨_, rfl⟩ (.cons ru .nil), ⟨_, ht2, rfl, _, rfl⟩⟩
    refine ⟨.ref s.heap.objs.size, _, I1, rfl, ⟨_, x, fr, rfl, rfl, fun ys hy => by rw [hq] at hy; cases hy; exact hx⟩, ⟨⟨_, by simpa using he2⟩, it'.extBut hs2.extBut (Ne.symm hne)⟩, fun b hb => ?_⟩
    have : H b = none := (hf b hb).1
    have hb' : b < s.heap.objs.size := by
      rw [List.mem_cons, List.mem_singleton] at hb
      rcases hb with rfl | rfl
      · exact ee
      · obtain ⟨o, q, _⟩ := hit; exact Heap.lt_size q
    rw [upd_ne (ne2 b hb')]
    exact this
  done := by
    intro X hP hw hK hc i pins s σ H E I hf st hg
    subst hP hw hK
    obtain ⟨xs, hq, hx⟩ := hg
    obtain ⟨⟨old, he⟩, hit⟩ := st
    obtain ⟨its, rv, p, hz⟩ := I.list (SqL.of hq)
    obtain ⟨g0, g1, g2, g3, g4, g5⟩ := hf it (by simp)
    have hl := rv.length
    exact wpAny_pyNext_enum_end (I.ok.hd hc) he hit p.isList (by simp; omega) fun h' eb => ⟨rfl, I.turned (t' := s.toks) (fun b o hb e => eb b o hb e) g0 g1 g3 g4 g5⟩
  self := fun _ _ _ _ _ st h => by
    obtain ⟨⟨old, he⟩, _⟩ := st
    exact wpAny_pyIter_enum he h

section
variable {X : Cx} {es : List Expr} {k : Nat} {tpos : Pos}
noncomputable def iEnum (ta : TA) : TI := fun σ H R => ta σ H fun vs H1 => ∃ a, vs = [.ref a] ∧ (∃ xs, H1 a = some (.lst xs)) ∧ R (Ite a) H1
theorem pi_enum {l : Expr} {ta : TA} {p pos : Pos} (hg : Gl X "enumerate") (hm : X.mg "enumerate" = none) (ha : PA X [l] ta) (hs : starEach [l] X.env = [(false, eval l X.env)] := by rfl) : PI X (.Tuple es k tpos) (.Call (.Name "enumerate" p) [l] [] pos) (iEnum ta) := by
  refine ⟨fun pins s σ H R I h => ?_⟩
  refine wpAny_Call_Name_kw (ld_blt I hg hm bt_enumerate ?_)
  refine PyProof.Rows.callWith_type1 (thn (ha pos pins s σ H _ I h) fun us s1 ⟨vs, H1, I1, r1, a, e, ⟨xs, hx⟩, q⟩ => ?_) hs rfl
  subst e
  obtain ⟨u, rfl, ru⟩ := vals1 r1
  cases ru
  obtain ⟨_, its, n, rv, ho⟩ := (show ObjOk X.prog X.w H1 s1.heap a (.lst xs) from I1.hok a _ hx)
  refine call_enumerate_1 ho fun h' he hit hsz hk => ?_
  have I2 : Inv X pins σ H1 { s1 with heap := h' } := I1.kept (t' := s1.toks) hk
  refine wpAny_pyIter_enum he ⟨s1.heap.objs.size + 1, [s1.heap.objs.size + 1, s1.heap.objs.size], _, Ite a, H1, rfl, I2, turn_enum a (s1.heap.objs.size + 1) s1.heap.objs.size (Nat.succ_ne_self _), ⟨⟨_, he⟩, hit⟩, fun b hb => ?_, q⟩
  have hb' : s1.heap.objs.size ≤ b := by
    rw [List.mem_cons, List.mem_singleton] at hb
    rcases hb with rfl | rfl <;> omega
  have z := I1.fpOk (H' := H1) hb' (I1.hok.fresh hb')
  exact z
end
end L2

set_option Elab.async false
set_option linter.all false
set_option maxRecDepth 100000
set_option maxHeartbeats 1000000
namespace L2
open PySem PySem.Spec PyProof.Rows
mutual
noncomputable def toP : D → PyData
  | .non => .none
  | .bl b => .bool b
  | .int i => .int i
  | .str x => .str x
  | .tup ds => .tuple (toPs ds)
  | .lst ds => .list (toPs ds)
  | .dct => .dict []
  | .scr _ _ => .dict []
  | .ext _ => .dict []
noncomputable def toPs : List D → List PyData
  | [] => []
  | d :: ds => toP d :: toPs ds
end
mutual
theorem rep_reads {X : Cx} {pins : List (Addr × Obj)} {σ : St} {H : Hp} {s : Shared} (I : Inv X pins σ H s) : ∀ (d : D) (v : V) (u : Value), Rep H d v → RelV v u → (toP d).canLay0 = true → ∃ as, Reads s.heap u (toP d) as
  | .non, v, u, h, r, _ => by rw [Rep] at h; subst h; cases r; rw [toP]; exact ⟨_, .none⟩
  | .bl b, v, u, h, r, _ => by rw [Rep] at h; subst h; cases r; rw [toP]; exact ⟨_, .bool b⟩
  | .int i, v, u, h, r, _ => by rw [Rep] at h; subst h; obtain ⟨t, rfl⟩ := r; rw [toP]; exact ⟨_, .int i t⟩
  | .str x, v, u, h, r, _ => by rw [Rep] at h; subst h; obtain ⟨t, rfl⟩ := r; rw [toP]; exact ⟨_, .str x t⟩
  | .tup ds, v, u, h, r, c => by
    rw [Rep] at h
    obtain ⟨a, xs, rfl, ha, hx⟩ := h
    cases r
    rw [toP] at c ⊢
    obtain ⟨_, its, rv, o, e1, e2, n, e3⟩ := (show ObjOk X.prog X.w H s.heap a (.tup xs) from I.hok a _ ha)
    obtain ⟨as, q⟩ := reps_reads I ds xs its hx rv (by rw [PyData.canLay0] at c; exact c)
    exact ⟨_, reads_tuple_at e1 e2 e3 (by simpa using q)⟩
  | .lst ds, v, u, h, r, c => by
    rw [Rep] at h
    obtain ⟨a, xs, rfl, ha, hx⟩ := h
    cases r
    rw [toP] at c ⊢
    obtain ⟨_, its, n, rv, e1⟩ := (show ObjOk X.prog X.w H s.heap a (.lst xs) from I.hok a _ ha)
    obtain ⟨as, q⟩ := reps_reads I ds xs its hx rv (by rw [PyData.canLay0] at c; exact c)
    exact ⟨_, reads_list_at e1 rfl rfl (by simpa using q)⟩
  | .dct, v, u, h, r, c => by rw [toP, PyData.canLay0] at c; cases c
  | .scr _ _, v, u, h, r, c => by rw [toP, PyData.canLay0] at c; cases c
  | .ext _, v, u, h, r, c => by rw [toP, PyData.canLay0] at c; cases c
theorem reps_reads {X : Cx} {pins : List (Addr × Obj)} {σ : St} {H : Hp} {s : Shared} (I : Inv X pins σ H s) : ∀ (ds : List D) (vs : List V) (us : List Value), Reps H ds vs → Vals vs us → PyData.canLayAll0 (toPs ds) = true → ∃ as, ReadsAll s.heap us (toPs ds) as
  | [], vs, us, h, r, _ => by rw [Reps] at h; subst h; cases r; rw [toPs]; exact ⟨_, .nil⟩
  | d :: ds, vs, us, h, r, c => by
    rw [Reps] at h
    obtain ⟨v, vs', rfl, h1, h2⟩ := h
    rw [toPs] at c ⊢
    rw [PyData.canLayAll0, Bool.and_eq_true] at c
    cases r with
    | cons r1 r2 =>
      obtain ⟨as, q1⟩ := rep_reads I d v _ h1 r1 c.1
      obtain ⟨bs, q2⟩ := reps_reads I ds vs' _ h2 r2 c.2
      exact ⟨_, .cons q1 q2⟩
end
section
variable {X : Cx}
noncomputable def rEqD : R2 := fun x y H Q => ∃ d e, Rep H d x ∧ Rep H e y ∧ SeqAt.shaped (toP d) = true ∧ SeqAt.shaped (toP e) = true ∧ Q (.bl (PyData.eqv (toP d) (toP e))) H
noncomputable def rNeD : R2 := fun x y H Q => ∃ d e, Rep H d x ∧ Rep H e y ∧ SeqAt.shaped (toP d) = true ∧ SeqAt.shaped (toP e) = true ∧ Q (.bl (!PyData.eqv (toP d) (toP e))) H
theorem op_eqD (hu : X.A.units + 64 < cLine) : OpR X (compareOp .Eq) rEqD := by
  intro pins s σ H x y v u Q I rx ry h
  obtain ⟨d, e, h1, h2, c1, c2, q⟩ := h
  obtain ⟨as, r1⟩ := rep_reads I d x v h1 rx (SeqAt.canLay_of_shaped c1)
  obtain ⟨bs, r2⟩ := rep_reads I e y u h2 ry (SeqAt.canLay_of_shaped c2)
  exact eq_dataH r1 r2 c1 c2 hu ⟨.bl _, H, I, rfl, q⟩
theorem op_neD (hu : X.A.units + 64 < cLine) : OpR X (compareOp .NotEq) rNeD := by
  intro pins s σ H x y v u Q I rx ry h
  obtain ⟨d, e, h1, h2, c1, c2, q⟩ := h
  obtain ⟨as, r1⟩ := rep_reads I d x v h1 rx (SeqAt.canLay_of_shaped c1)
  obtain ⟨bs, r2⟩ := rep_reads I e y u h2 ry (SeqAt.canLay_of_shaped c2)
  exact ne_dataH r1 r2 c1 c2 hu ⟨.bl _, H, I, rfl, q⟩
end
/-! ### lists of numbers -/
noncomputable def dInts (ns : List Int) : D := .lst (ns.map .int)
/-- a pair of two lists of numbers -/
noncomputable def dPair (ns ms : List Int) : D := .tup [dInts ns, dInts ms]
end L2

set_option Elab.async false
set_option linter.all false
set_option maxRecDepth 100000
set_option maxHeartbeats 1000000
namespace L2
open PySem PySem.Spec PyProof.Rows
section
variable {X : Cx}
end
end L2

set_option Elab.async false
set_option linter.all false
set_option maxRecDepth 100000
set_option maxHeartbeats 1000000
namespace L2
open PySem PySem.Spec PyProof.Rows

/-! ### data in slots: what is shared, what is owned -/
noncomputable abbrev DSt := List (Option D)
/-- who owns a list's address: a slot's (2 i) or a held value's (2 j + 1) label, and the place within it -/
noncomputable abbrev Own := Addr → Option (Nat × List Nat)
mutual
noncomputable def Sep (G H : Hp) (O : Own) (i : Nat) : D → List Nat → V → Prop
  | .non, _, v => v = .non
  | .bl b, _, v => v = .bl b
  | .int n, _, v => v = .int n
  | .str x, _, v => v = .str x
  | .tup ds, π, v => ∃ a xs, v = .ref a ∧ G a = some (.tup xs) ∧ Seps G H O i ds 0 π xs
  | .lst ds, π, v => ∃ a xs, v = .ref a ∧ O a = some (i, π) ∧ H a = some (.lst xs) ∧ Seps G H O i ds 0 π xs
  | .dct, _, _ => False
  | .scr _ _, _, _ => False
  | .ext _, _, _ => False
noncomputable def Seps (G H : Hp) (O : Own) (i : Nat) : List D → Nat → List Nat → List V → Prop
  | [], _, _, xs => xs = []
  | d :: ds, k, π, xs => ∃ v vs, xs = v :: vs ∧ Sep G H O i d (k :: π) v ∧ Seps G H O i ds (k + 1) π vs
end
/-- tuples stay -/
noncomputable def TSame (G G' : Hp) : Prop := ∀ a xs, G a = some (.tup xs) → G' a = some (.tup xs)
theorem Same.ts {G G' : Hp} (h : Same G G') : TSame G G' := fun a xs e => h a _ e
mutual
theorem Sep.map {G H G' H' : Hp} {O O' : Own} {i i' : Nat} {f : List Nat → List Nat} (hG : TSame G G') (hf : ∀ k π, f (k :: π) = k :: f π) :
    ∀ (d : D) (π : List Nat) (v : V), (∀ a τ, O a = some (i, τ ++ π) → O' a = some (i', f (τ ++ π)) ∧ H' a = H a) → Sep G H O i d π v → Sep G' H' O' i' d (f π) v
  | .non, _, _, _, h => by rw [Sep] at *; exact h
  | .bl b, _, _, _, h => by rw [Sep] at *; exact h
  | .int n, _, _, _, h => by rw [Sep] at *; exact h
  | .str x, _, _, _, h => by rw [Sep] at *; exact h
  | .tup ds, π, v, hO, h => by
    rw [Sep] at *
    obtain ⟨a, xs, h1, h2, h3⟩ := h
    exact ⟨a, xs, h1, hG _ _ h2, Seps.map hG hf ds 0 π xs (fun a τ _ => hO a τ) h3⟩
  | .lst ds, π, v, hO, h => by
    rw [Sep] at *
    obtain ⟨a, xs, h1, h2, h3, h4⟩ := h
    have q := hO a [] h2
    exact ⟨a, xs, h1, q.1, q.2.trans h3, Seps.map hG hf ds 0 π xs (fun a τ _ => hO a τ) h4⟩
  | .dct, _, _, _, h => by rw [Sep] at h; exact h.elim
  | .scr _ _, _, _, _, h => by rw [Sep] at h; exact h.elim
  | .ext _, _, _, _, h => by rw [Sep] at h; exact h.elim
theorem Seps.map {G H G' H' : Hp} {O O' : Own} {i i' : Nat} {f : List Nat → List Nat} (hG : TSame G G') (hf : ∀ k π, f (k :: π) = k :: f π) :
    ∀ (ds : List D) (k : Nat) (π : List Nat) (xs : List V), (∀ a τ, τ ≠ [] → O a = some (i, τ ++ π) → O' a = some (i', f (τ ++ π)) ∧ H' a = H a) → Seps G H O i ds k π xs → Seps G' H' O' i' ds k (f π) xs
  | [], _, _, _, _, h => by rw [Seps] at *; exact h
  | d :: ds, k, π, xs, hO, h => by
    rw [Seps] at *
    obtain ⟨v, vs, h1, h2, h3⟩ := h
    refine ⟨v, vs, h1, ?_, Seps.map hG hf ds (k + 1) π vs hO h3⟩
    rw [← hf]
    refine Sep.map hG hf d (k :: π) v (fun a τ e => ?_) h2
    have e' : τ ++ k :: π = (τ ++ [k]) ++ π := by simp
    rw [e'] at e ⊢
    exact hO a (τ ++ [k]) (by simp) e
end
/-- without a change of places -/
theorem Sep.keep {G H G' H' : Hp} {O O' : Own} {i i' : Nat} {d : D} {π : List Nat} {v : V} (hG : TSame G G') (hO : ∀ a τ, O a = some (i, τ ++ π) → O' a = some (i', τ ++ π) ∧ H' a = H a) (h : Sep G H O i d π v) : Sep G' H' O' i' d π v :=
  Sep.map (f := id) hG (fun _ _ => rfl) d π v hO h
theorem Seps.keep {G H G' H' : Hp} {O O' : Own} {i i' : Nat} {ds : List D} {k : Nat} {π : List Nat} {xs : List V} (hG : TSame G G') (hO : ∀ a τ, τ ≠ [] → O a = some (i, τ ++ π) → O' a = some (i', τ ++ π) ∧ H' a = H a) (h : Seps G H O i ds k π xs) : Seps G' H' O' i' ds k π xs :=
  Seps.map (f := id) hG (fun _ _ => rfl) ds k π xs hO h
mutual
theorem Sep.rep {G H G' : Hp} {O : Own} {i : Nat} (hG : TSame G G') : ∀ (d : D) (π : List Nat) (v : V), (∀ a τ xs, O a = some (i, τ ++ π) → H a = some (.lst xs) → G' a = some (.lst xs)) → Sep G H O i d π v → Rep G' d v
  | .non, _, _, _, h => by rw [Sep] at h; rw [Rep]; exact h
  | .bl b, _, _, _, h => by rw [Sep] at h; rw [Rep]; exact h
  | .int n, _, _, _, h => by rw [Sep] at h; rw [Rep]; exact h
  | .str x, _, _, _, h => by rw [Sep] at h; rw [Rep]; exact h
  | .tup ds, π, v, hO, h => by
    rw [Sep] at h; rw [Rep]
    obtain ⟨a, xs, h1, h2, h3⟩ := h
    exact ⟨a, xs, h1, hG _ _ h2, Seps.rep hG ds 0 π xs (fun a τ ys _ => hO a τ ys) h3⟩
  | .lst ds, π, v, hO, h => by
    rw [Sep] at h; rw [Rep]
    obtain ⟨a, xs, h1, h2, h3, h4⟩ := h
    exact ⟨a, xs, h1, hO a [] xs h2 h3, Seps.rep hG ds 0 π xs (fun a τ ys _ => hO a τ ys) h4⟩
  | .dct, _, _, _, h => by rw [Sep] at h; exact h.elim
  | .scr _ _, _, _, _, h => by rw [Sep] at h; exact h.elim
  | .ext _, _, _, _, h => by rw [Sep] at h; exact h.elim
theorem Seps.rep {G H G' : Hp} {O : Own} {i : Nat} (hG : TSame G G') : ∀ (ds : List D) (k : Nat) (π : List Nat) (xs : List V), (∀ a τ ys, τ ≠ [] → O a = some (i, τ ++ π) → H a = some (.lst ys) → G' a = some (.lst ys)) → Seps G H O i ds k π xs → Reps G' ds xs
  | [], _, _, _, _, h => by rw [Seps] at h; rw [Reps]; exact h
  | d :: ds, k, π, xs, hO, h => by
    rw [Seps] at h; rw [Reps]
    obtain ⟨v, vs, h1, h2, h3⟩ := h
    refine ⟨v, vs, h1, Sep.rep hG d (k :: π) v (fun a τ ys e q => ?_) h2, Seps.rep hG ds (k + 1) π vs hO h3⟩
    have e' : τ ++ k :: π = (τ ++ [k]) ++ π := by simp
    rw [e'] at e
    exact hO a (τ ++ [k]) ys (by simp) e q
end
mutual
noncomputable def imm : D → Bool
  | .tup ds => imms ds
  | .lst _ => false
  | .dct => false
  | .scr _ _ => false
  | .ext _ => false
  | _ => true
noncomputable def imms : List D → Bool
  | [] => true
  | d :: ds => imm d && imms ds
end
mutual
theorem Rep.sep {G H : Hp} {O : Own} {i : Nat} : ∀ (d : D) (π : List Nat) (v : V), imm d = true → Rep G d v → Sep G H O i d π v
  | .non, _, _, _, h => by rw [Rep] at h; rw [Sep]; exact h
  | .bl b, _, _, _, h => by rw [Rep] at h; rw [Sep]; exact h
  | .int n, _, _, _, h => by rw [Rep] at h; rw [Sep]; exact h
  | .str x, _, _, _, h => by rw [Rep] at h; rw [Sep]; exact h
  | .tup ds, π, v, hi, h => by
    rw [Rep] at h; rw [Sep]
    obtain ⟨a, xs, h1, h2, h3⟩ := h
    exact ⟨a, xs, h1, h2, Reps.sep ds 0 π xs (by rw [imm] at hi; exact hi) h3⟩
  | .lst ds, _, _, hi, _ => by rw [imm] at hi; cases hi
  | .dct, _, _, hi, _ => by rw [imm] at hi; cases hi
  | .scr _ _, _, _, hi, _ => by rw [imm] at hi; cases hi
  | .ext _, _, _, hi, _ => by rw [imm] at hi; cases hi
theorem Reps.sep {G H : Hp} {O : Own} {i : Nat} : ∀ (ds : List D) (k : Nat) (π : List Nat) (xs : List V), imms ds = true → Reps G ds xs → Seps G H O i ds k π xs
  | [], _, _, _, _, h => by rw [Reps] at h; rw [Seps]; exact h
  | d :: ds, k, π, xs, hi, h => by
    rw [Reps] at h; rw [Seps]
    rw [imms, Bool.and_eq_true] at hi
    obtain ⟨v, vs, h1, h2, h3⟩ := h
    exact ⟨v, vs, h1, Rep.sep d (k :: π) v hi.1 h2, Reps.sep ds (k + 1) π vs hi.2 h3⟩
end
mutual
theorem Rep.imms {G G' : Hp} (hG : TSame G G') : ∀ (d : D) (v : V), L2.imm d = true → Rep G d v → Rep G' d v
  | .non, _, _, h => by rw [Rep] at *; exact h
  | .bl b, _, _, h => by rw [Rep] at *; exact h
  | .int n, _, _, h => by rw [Rep] at *; exact h
  | .str x, _, _, h => by rw [Rep] at *; exact h
  | .tup ds, v, hi, h => by
    rw [Rep] at *
    obtain ⟨a, xs, h1, h2, h3⟩ := h
    exact ⟨a, xs, h1, hG _ _ h2, Reps.imms hG ds xs (by rw [L2.imm] at hi; exact hi) h3⟩
  | .lst ds, _, hi, _ => by rw [L2.imm] at hi; cases hi
  | .dct, _, hi, _ => by rw [L2.imm] at hi; cases hi
  | .scr _ _, _, hi, _ => by rw [L2.imm] at hi; cases hi
  | .ext _, _, hi, _ => by rw [L2.imm] at hi; cases hi
theorem Reps.imms {G G' : Hp} (hG : TSame G G') : ∀ (ds : List D) (xs : List V), L2.imms ds = true → Reps G ds xs → Reps G' ds xs
  | [], _, _, h => by rw [Reps] at *; exact h
  | d :: ds, xs, hi, h => by
    rw [Reps] at *
    rw [L2.imms, Bool.and_eq_true] at hi
    obtain ⟨v, vs, h1, h2, h3⟩ := h
    exact ⟨v, vs, h1, Rep.imms hG d v hi.1 h2, Reps.imms hG ds vs hi.2 h3⟩
end
theorem Seps.length {G H : Hp} {O : Own} {i : Nat} : ∀ {ds : List D} {k : Nat} {π : List Nat} {xs : List V}, Seps G H O i ds k π xs → xs.length = ds.length
  | [], _, _, _, h => by rw [Seps] at h; subst h; rfl
  | d :: ds, k, π, xs, h => by
    rw [Seps] at h
    obtain ⟨v, vs, rfl, _, h3⟩ := h
    simp [Seps.length h3]

/-! ### the state -/
/-- what a def is entered with: the shared part, the heap, what the written parameters own, their values -/
structure Ctx where
  G : Hp
  H : Hp
  O : Own
  mu : List (Option V)
  np : Nat
noncomputable def Pend (G H : Hp) (O : Own) : List (D × V) → Prop
  | [] => True
  | (d, v) :: r => Sep G H O (2 * r.length + 1) d [] v ∧ Pend G H O r
/-- an owned address is new, or a written parameter's -/
noncomputable def Nw (C : Ctx) (a : Addr) (l : Nat) : Prop := C.H a = none ∨ ∃ π, C.O a = some (l, π)
structure RO (C : Ctx) (ow : List Bool) (G : Hp) (ρ : DSt) (σ : St) (H : Hp) (pd : List (D × V)) (O : Own) : Prop where
  len : ρ.length = σ.length
  gh : Same G H
  g0 : Same C.G G
  gn : ∀ a o, G a = some o → C.G a = some o ∨ C.H a = none
  og : ∀ a l, O a = some l → G a = none ∧ (∃ xs, H a = some (.lst xs)) ∧ Nw C a l.1
  cok : ∀ a l π, C.O a = some (l, π) → (∃ (i : Nat) (v : V), l = 2 * i ∧ C.mu[i]? = some (some v)) ∨ ∃ j, l = 2 * j + 1 ∧ j < C.np
  fr : ∀ a o, C.H a = some o → C.O a = none → H a = some o
  al : ∀ a, H a = none → C.H a = none
  mp : ∀ (i : Nat) v, C.mu[i]? = some (some v) → σ[i]? = some (some v)
  sl : ∀ (i : Nat) d, ρ[i]? = some (some d) → ∃ v, σ[i]? = some (some v) ∧ if ow[i]? = some true then Sep G H O (2 * i) d [] v else Rep G d v
  pn : Pend G H O pd
  np : C.np ≤ pd.length
noncomputable def R (C : Ctx) (ow : List Bool) (G : Hp) (ρ : DSt) (σ : St) (H : Hp) (pd : List (D × V)) : Prop := ∃ O, RO C ow G ρ σ H pd O
theorem Pend.keep {G H G' H' : Hp} {O O' : Own} (hG : TSame G G') : ∀ {pd : List (D × V)}, (∀ a j π, j < pd.length → O a = some (2 * j + 1, π) → O' a = some (2 * j + 1, π) ∧ H' a = H a) → Pend G H O pd → Pend G' H' O' pd
  | [], _, _ => trivial
  | (d, v) :: r, hO, ⟨h1, h2⟩ => ⟨h1.keep hG fun a τ e => hO a r.length _ (by simp) e, Pend.keep hG (fun a j π hj => hO a j π (by simp; omega)) h2⟩
section
variable {C : Ctx} {ow : List Bool} {G : Hp} {ρ : DSt} {σ : St} {H : Hp} {pd : List (D × V)} {O : Own}
/-- a new object that is shared -/
theorem RO.new (h : RO C ow G ρ σ H pd O) {p : Addr} (hp : H p = none) (o : HO) : RO C ow (upd G p o) ρ σ (upd H p o) pd O ∧ Same G (upd G p o) := by
  have gp : G p = none := by
    cases e : G p with
    | none => rfl
    | some z => rw [h.gh _ _ e] at hp; cases hp
  have sG := same_upd gp o
  have ne : ∀ a l, O a = some l → a ≠ p := fun a l e z => by
    obtain ⟨_, ⟨xs, q⟩, _⟩ := h.og a l e
    rw [z, hp] at q; cases q
  refine ⟨⟨h.len, ?_, fun a u e => sG _ _ (h.g0 a u e), ?_, ?_, h.cok, ?_, ?_, h.mp, ?_, ?_, h.np⟩, sG⟩
  · intro a u e
    by_cases z : a = p
    · subst z; rw [upd_same] at e ⊢; exact e
    · rw [upd_ne z] at e ⊢; exact h.gh _ _ e
  · intro a u e
    by_cases z : a = p
    · subst z; exact .inr (h.al _ hp)
    · rw [upd_ne z] at e; exact h.gn a u e
  · intro a l e
    have z := ne a l e
    rw [upd_ne z, upd_ne z]
    exact h.og a l e
  · intro a u e n
    rw [upd_ne (ne_of_none (h.fr a u e n) hp)]
    exact h.fr a u e n
  · intro a e
    by_cases z : a = p
    · subst z; rw [upd_same] at e; cases e
    · rw [upd_ne z] at e; exact h.al a e
  · intro i d e
    obtain ⟨v, h1, h2⟩ := h.sl i d e
    refine ⟨v, h1, ?_⟩
    split at h2
    · rename_i c; rw [if_pos c]; exact h2.keep sG.ts fun a τ q => ⟨q, upd_ne (ne a _ q)⟩
    · rename_i c; rw [if_neg c]; exact h2.mono sG
  · exact Pend.keep sG.ts (fun a j π _ q => ⟨q, upd_ne (ne a _ q)⟩) h.pn
/-- a new list that is held, its things without lists -/
theorem RO.newL (h : RO C ow G ρ σ H pd O) {p : Addr} (hp : H p = none) {xs : List V} {ds : List D} (hi : imms ds = true) (hr : Reps G ds xs) :
    R C ow G ρ σ (upd H p (.lst xs)) ((.lst ds, .ref p) :: pd) := by
  have gp : G p = none := by
    cases e : G p with
    | none => rfl
    | some z => rw [h.gh _ _ e] at hp; cases hp
  have ne : ∀ a l, O a = some l → a ≠ p := fun a l e z => by
    obtain ⟨_, ⟨xs, q⟩, _⟩ := h.og a l e
    rw [z, hp] at q; cases q
  let O' : Own := fun a => if a = p then some (2 * pd.length + 1, []) else O a
  have old : ∀ a l, O a = some l → O' a = some l := fun a l e => by
    show (if a = p then _ else _) = _
    rw [if_neg (ne a _ e), e]
  refine ⟨O', h.len, ?_, h.g0, h.gn, ?_, h.cok, ?_, ?_, h.mp, ?_, ⟨?_, ?_⟩, Nat.le_succ_of_le h.np⟩
  · intro a u e
    rw [upd_ne (fun z => by rw [z, gp] at e; cases e)]
    exact h.gh _ _ e
  · intro a l e
    by_cases z : a = p
    · subst z; exact ⟨gp, ⟨xs, upd_same⟩, .inl (h.al _ hp)⟩
    · rw [upd_ne z]
      change (if a = p then _ else _) = _ at e
      rw [if_neg z] at e
      exact h.og a _ e
  · intro a u e n
    rw [upd_ne (ne_of_none (h.fr a u e n) hp)]
    exact h.fr a u e n
  · intro a e
    by_cases z : a = p
    · subst z; rw [upd_same] at e; cases e
    · rw [upd_ne z] at e; exact h.al a e
  · intro i d e
    obtain ⟨v, h1, h2⟩ := h.sl i d e
    refine ⟨v, h1, ?_⟩
    split at h2
    · rename_i c; rw [if_pos c]; exact h2.keep (fun _ _ z => z) fun a τ q => ⟨old a _ q, upd_ne (ne a _ q)⟩
    · rename_i c; rw [if_neg c]; exact h2
  · rw [Sep]
    exact ⟨p, xs, rfl, by show (if p = p then _ else _) = _; rw [if_pos rfl], upd_same, hr.sep ds 0 [] xs hi⟩
  · exact Pend.keep (fun _ _ z => z) (fun a j π hj q => ⟨old a _ q, upd_ne (ne a _ q)⟩) h.pn
end
end L2

set_option Elab.async false
set_option linter.all false
set_option maxRecDepth 100000
set_option maxHeartbeats 1000000
namespace L2
open PySem PySem.Spec PyProof.Rows
theorem Seps.snoc {G H : Hp} {O : Own} {i : Nat} {d : D} {v : V} : ∀ {ds : List D} {k : Nat} {π : List Nat} {xs : List V}, Seps G H O i ds k π xs → Sep G H O i d ((k + ds.length) :: π) v → Seps G H O i (ds ++ [d]) k π (xs ++ [v])
  | [], k, π, xs, h, hd => by rw [Seps] at h; subst h; show Seps _ _ _ _ [d] _ _ [v]; rw [Seps]; exact ⟨v, [], rfl, by simpa using hd, by rw [Seps]⟩
  | e :: ds, k, π, xs, h, hd => by
    rw [Seps] at h
    obtain ⟨u, us, rfl, h2, h3⟩ := h
    show Seps _ _ _ _ (e :: (ds ++ [d])) _ _ (u :: (us ++ [v]))
    rw [Seps]
    refine ⟨u, us ++ [v], rfl, h2, Seps.snoc h3 ?_⟩
    have : k + 1 + ds.length = k + (e :: ds).length := by simp; omega
    rw [this]; exact hd
theorem Seps.set {G H : Hp} {O : Own} {i : Nat} {d : D} {v : V} : ∀ {ds : List D} {k : Nat} {π : List Nat} {xs : List V} {j : Nat}, Seps G H O i ds k π xs → Sep G H O i d ((k + j) :: π) v → Seps G H O i (ds.set j d) k π (xs.set j v)
  | [], k, π, xs, j, h, hd => by rw [Seps] at h; subst h; simp; rw [Seps]
  | e :: ds, k, π, xs, 0, h, hd => by
    rw [Seps] at h
    obtain ⟨u, us, rfl, h2, h3⟩ := h
    simp only [List.set_cons_zero]; rw [Seps]
    exact ⟨v, us, rfl, by simpa using hd, h3⟩
  | e :: ds, k, π, xs, j + 1, h, hd => by
    rw [Seps] at h
    obtain ⟨u, us, rfl, h2, h3⟩ := h
    simp only [List.set_cons_succ]; rw [Seps]
    refine ⟨u, _, rfl, h2, Seps.set h3 ?_⟩
    have : k + 1 + j = k + (j + 1) := by omega
    rw [this]; exact hd
section
variable {C : Ctx} {ow : List Bool} {G : Hp} {ρ : DSt} {σ : St} {H : Hp} {pd : List (D × V)} {O : Own}
theorem set_at {α : Type} {l : List (Option α)} {i j : Nat} {x : Option α} {d : α} (h : (l.set i x)[j]? = some (some d)) : (j = i ∧ x = some d) ∨ (j ≠ i ∧ l[j]? = some (some d)) := by
  rw [List.getElem?_set] at h
  by_cases e : i = j
  · rw [if_pos e] at h
    split at h
    · exact .inl ⟨e.symm, Option.some.inj h⟩
    · cases h
  · rw [if_neg e] at h; exact .inr ⟨fun z => e z.symm, h⟩
theorem lt_of_slot {α : Type} {l : List (Option α)} {i : Nat} {x : Option α} (h : l[i]? = some x) : i < l.length := (List.getElem?_eq_some_iff.mp h).1
/-- a slot gets a shared value -/
theorem RO.setS (h : RO C ow G ρ σ H pd O) {i : Nat} {d : D} {v : V} (hi : ow[i]? ≠ some true) (hm : ∀ v, C.mu[i]? ≠ some (some v)) (r : Rep G d v) : RO C ow G (ρ.set i (some d)) (σ.set i (some v)) H pd O := by
  refine ⟨by simp [h.len], h.gh, h.g0, h.gn, h.og, h.cok, h.fr, h.al, ?_, ?_, h.pn, h.np⟩
  · intro j u e
    have : i ≠ j := fun z => hm u (z ▸ e)
    rw [List.getElem?_set_ne this]
    exact h.mp j u e
  · intro j e q
    rcases set_at q with ⟨rfl, z⟩ | ⟨z, q'⟩
    · cases z
      have hl : j < σ.length := by have := lt_of_slot q; rw [List.length_set, h.len] at this; exact this
      exact ⟨v, by rw [List.getElem?_set_self hl], by rw [if_neg hi]; exact r⟩
    · obtain ⟨u, h1, h2⟩ := h.sl j e q'
      exact ⟨u, by rw [List.getElem?_set_ne (Ne.symm z)]; exact h1, h2⟩
/-- other labels -/
noncomputable def lab (f : Nat → List Nat → Nat × List Nat) (O : Own) : Own := fun a => (O a).map fun l => f l.1 l.2
theorem lab_at {f : Nat → List Nat → Nat × List Nat} {a : Addr} {l : Nat} {π : List Nat} (h : O a = some (l, π)) : lab f O a = some (f l π) := by unfold lab; rw [h]; rfl
theorem lab_of {f : Nat → List Nat → Nat × List Nat} {a : Addr} {m : Nat × List Nat} (h : lab f O a = some m) : ∃ l π, O a = some (l, π) ∧ m = f l π := by
  unfold lab at h
  cases e : O a with
  | none => rw [e] at h; cases h
  | some l => rw [e] at h; exact ⟨l.1, l.2, rfl, (Option.some.inj h).symm⟩
theorem even_ne {i j : Nat} : 2 * i ≠ 2 * j + 1 := by omega
/-- a slot gets the held value -/
theorem RO.setO {d : D} {v : V} (h : RO C ow G ρ σ H ((d, v) :: pd) O) {i : Nat} (hi : ow[i]? = some true) (hm : ∀ v, C.mu[i]? ≠ some (some v)) (hn : C.np ≤ pd.length) :
    R C ow G (ρ.set i (some d)) (σ.set i (some v)) H pd := by
  refine ⟨lab (fun l π => if l = 2 * pd.length + 1 then (2 * i, π) else (l, π)) O, by simp [h.len], h.gh, h.g0, h.gn, ?_, h.cok, h.fr, h.al, ?_, ?_, ?_, hn⟩
  · intro a m e
    obtain ⟨l, π, e1, rfl⟩ := lab_of e
    obtain ⟨q1, q2, q3⟩ := h.og a _ e1
    refine ⟨q1, q2, ?_⟩
    try dsimp only
    split
    · rename_i z
      rcases q3 with q3 | ⟨_, q3⟩
      · exact .inl q3
      · rcases h.cok _ _ _ q3 with ⟨k, _, q4, _⟩ | ⟨k, q4, q5⟩
        · exact absurd (q4.symm.trans z) even_ne
        · omega
    · exact q3
  · intro j u e
    have : i ≠ j := fun z => hm u (z ▸ e)
    rw [List.getElem?_set_ne this]
    exact h.mp j u e
  · intro j e q
    rcases set_at q with ⟨rfl, z⟩ | ⟨z, q'⟩
    · cases z
      have hl : j < σ.length := by have := lt_of_slot q; rw [List.length_set, h.len] at this; exact this
      refine ⟨v, by rw [List.getElem?_set_self hl], ?_⟩
      rw [if_pos hi]
      exact h.pn.1.keep (fun _ _ z => z) fun a τ q => ⟨by rw [lab_at q, if_pos rfl], rfl⟩
    · obtain ⟨u, h1, h2⟩ := h.sl j e q'
      refine ⟨u, by rw [List.getElem?_set_ne (Ne.symm z)]; exact h1, ?_⟩
      split at h2
      · rename_i c; rw [if_pos c]; exact h2.keep (fun _ _ z => z) fun a τ q => ⟨by rw [lab_at q, if_neg even_ne], rfl⟩
      · rename_i c; rw [if_neg c]; exact h2
  · exact Pend.keep (fun _ _ z => z) (fun a j π hj q => ⟨by rw [lab_at q, if_neg (by omega)], rfl⟩) h.pn.2
/-- the value of an owned slot is held, and the slot forgets it -/
theorem RO.move (h : RO C ow G ρ σ H pd O) {i : Nat} {d : D} (e : ρ[i]? = some (some d)) (hi : ow[i]? = some true) (hm : ∀ v, C.mu[i]? ≠ some (some v)) :
    ∃ v, σ[i]? = some (some v) ∧ R C ow G (ρ.set i none) σ H ((d, v) :: pd) := by
  obtain ⟨v, hv, s⟩ := h.sl i d e
  rw [if_pos hi] at s
  refine ⟨v, hv, lab (fun l π => if l = 2 * i then (2 * pd.length + 1, π) else (l, π)) O, by simp [h.len], h.gh, h.g0, h.gn, ?_, h.cok, h.fr, h.al, h.mp, ?_, ⟨?_, ?_⟩, Nat.le_succ_of_le h.np⟩
  · intro a m e
    obtain ⟨l, π, e1, rfl⟩ := lab_of e
    obtain ⟨q1, q2, q3⟩ := h.og a _ e1
    refine ⟨q1, q2, ?_⟩
    try dsimp only
    split
    · rename_i z
      rcases q3 with q3 | ⟨_, q3⟩
      · exact .inl q3
      · rcases h.cok _ _ _ q3 with ⟨k, u, q4, q5⟩ | ⟨k, q4, _⟩
        · have : k = i := by have := q4.symm.trans z; omega
          exact absurd (this ▸ q5) (hm u)
        · omega
    · exact q3
  · intro j e q
    rcases set_at q with ⟨rfl, z⟩ | ⟨z, q'⟩
    · cases z
    · obtain ⟨u, h1, h2⟩ := h.sl j e q'
      refine ⟨u, h1, ?_⟩
      split at h2
      · rename_i c; rw [if_pos c]; exact h2.keep (fun _ _ z => z) fun a τ q => ⟨by rw [lab_at q, if_neg (by omega)], rfl⟩
      · rename_i c; rw [if_neg c]; exact h2
  · exact s.keep (fun _ _ z => z) fun a τ q => ⟨by rw [lab_at q, if_pos rfl], rfl⟩
  · exact Pend.keep (fun _ _ z => z) (fun a j π hj q => ⟨by rw [lab_at q, if_neg (fun z => even_ne z.symm)], rfl⟩) h.pn
/-- is it labelled so? -/
noncomputable def hasL (O : Own) (l : Nat) (a : Addr) : Bool := match O a with
  | some m => m.1 == l
  | none => false
theorem hasL_iff {l : Nat} {a : Addr} : hasL O l a = true ↔ ∃ π, O a = some (l, π) := by
  unfold hasL
  cases e : O a with
  | none => simp
  | some m => obtain ⟨m1, m2⟩ := m; simp
/-- a held value becomes a shared one -/
theorem RO.share {d : D} {v : V} (h : RO C ow G ρ σ H ((d, v) :: pd) O) (hn : C.np ≤ pd.length) : ∃ G', Same G G' ∧ R C ow G' ρ σ H pd ∧ Rep G' d v := by
  let l₀ := 2 * pd.length + 1
  let G' : Hp := fun a => if hasL O l₀ a = true then H a else G a
  have sG : Same G G' := fun a o e => by
    show (if _ then _ else _) = _
    split
    · exact h.gh _ _ e
    · exact e
  have inH : ∀ a τ xs, O a = some (l₀, τ) → H a = some (.lst xs) → G' a = some (.lst xs) := fun a τ xs q e => by
    show (if _ then _ else _) = _
    rw [if_pos (hasL_iff.mpr ⟨_, q⟩)]; exact e
  refine ⟨G', sG, ⟨fun a => if hasL O l₀ a = true then none else O a, h.len, ?_, fun a o e => sG _ _ (h.g0 _ _ e), ?_, ?_, h.cok, h.fr, h.al, h.mp, ?_, ?_, hn⟩, h.pn.1.rep sG.ts d [] v (fun a τ xs q e => inH a _ xs q e)⟩
  · intro a o e
    change (if _ then _ else _) = _ at e
    split at e
    · exact e
    · exact h.gh _ _ e
  · intro a o e
    change (if _ then _ else _) = _ at e
    split at e
    · rename_i c
      obtain ⟨π, q⟩ := hasL_iff.mp c
      obtain ⟨_, _, q3⟩ := h.og a _ q
      rcases q3 with q3 | ⟨_, q3⟩
      · exact .inr q3
      · rcases h.cok _ _ _ q3 with ⟨k, _, q4, _⟩ | ⟨k, q4, q5⟩
        · exact absurd q4.symm even_ne
        · have q4' : 2 * pd.length + 1 = 2 * k + 1 := q4
          omega
    · exact h.gn a o e
  · intro a l e
    try dsimp only at e
    split at e
    · cases e
    · rename_i c
      obtain ⟨q1, q2, q3⟩ := h.og a l e
      exact ⟨by show (if _ then _ else _) = _; rw [if_neg c]; exact q1, q2, q3⟩
  · intro j e q
    obtain ⟨u, h1, h2⟩ := h.sl j e q
    refine ⟨u, h1, ?_⟩
    split at h2
    · rename_i c; rw [if_pos c]
      refine h2.keep sG.ts fun a τ q => ⟨?_, rfl⟩
      rw [if_neg, q]
      intro z
      obtain ⟨π, z⟩ := hasL_iff.mp z
      rw [q] at z
      have := (Prod.mk.inj (Option.some.inj z)).1
      omega
    · rename_i c; rw [if_neg c]; exact h2.mono sG
  · refine Pend.keep sG.ts (fun a j π hj q => ⟨?_, rfl⟩) h.pn.2
    rw [if_neg, q]
    intro z
    obtain ⟨π, z⟩ := hasL_iff.mp z
    rw [q] at z
    have := (Prod.mk.inj (Option.some.inj z)).1
    omega
/-- an owned list is written -/
theorem RO.write (h : RO C ow G ρ σ H pd O) {i : Nat} {ds : List D} (e : ρ[i]? = some (some (.lst ds))) (hi : ow[i]? = some true) :
    ∃ a xs, σ[i]? = some (some (.ref a)) ∧ H a = some (.lst xs) ∧ Seps G H O (2 * i) ds 0 [] xs ∧
      ∀ ds' xs', Seps G H O (2 * i) ds' 0 [] xs' → RO C ow G (ρ.set i (some (.lst ds'))) σ (upd H a (.lst xs')) pd O := by
  obtain ⟨v, hv, s⟩ := h.sl i _ e
  rw [if_pos hi, Sep] at s
  obtain ⟨a, xs, rfl, hO, hH, hs⟩ := s
  refine ⟨a, xs, hv, hH, hs, fun ds' xs' hs' => ?_⟩
  obtain ⟨g0, _, nw⟩ := h.og a _ hO
  have ne : ∀ b l π, O b = some (l, π) → (l ≠ 2 * i ∨ π ≠ []) → b ≠ a := fun b l π q n z => by
    subst z
    rw [hO] at q
    obtain ⟨q1, q2⟩ := Prod.mk.inj (Option.some.inj q)
    rcases n with n | n
    · exact n q1.symm
    · exact n q2.symm
  refine ⟨by simp [h.len], ?_, h.g0, h.gn, ?_, h.cok, ?_, ?_, h.mp, ?_, ?_, h.np⟩
  · intro b o q
    rw [upd_ne (fun z => by rw [z, g0] at q; cases q)]; exact h.gh _ _ q
  · intro b l q
    obtain ⟨q1, ⟨ys, q2⟩, q3⟩ := h.og b l q
    refine ⟨q1, ?_, q3⟩
    by_cases z : b = a
    · subst z; exact ⟨_, upd_same⟩
    · rw [upd_ne z]; exact ⟨ys, q2⟩
  · intro b o q n
    by_cases z : b = a
    · subst z
      rcases nw with nw | ⟨_, nw⟩
      · rw [nw] at q; cases q
      · rw [nw] at n; cases n
    · rw [upd_ne z]; exact h.fr b o q n
  · intro b q
    by_cases z : b = a
    · subst z; rw [upd_same] at q; cases q
    · rw [upd_ne z] at q; exact h.al b q
  · intro j u q
    rcases set_at q with ⟨rfl, z⟩ | ⟨z, q'⟩
    · cases z
      refine ⟨_, hv, ?_⟩
      rw [if_pos hi, Sep]
      exact ⟨a, xs', rfl, hO, upd_same, hs'.keep (fun _ _ z => z) fun b τ hτ q => ⟨q, upd_ne (ne b _ _ q (.inr (by simpa using hτ)))⟩⟩
    · obtain ⟨w, h1, h2⟩ := h.sl j u q'
      refine ⟨w, h1, ?_⟩
      split at h2
      · rename_i c; rw [if_pos c]; exact h2.keep (fun _ _ z => z) fun b τ q => ⟨q, upd_ne (ne b _ _ q (.inl (by omega)))⟩
      · rename_i c; rw [if_neg c]; exact h2
  · exact Pend.keep (fun _ _ z => z) (fun b j π hj q => ⟨q, upd_ne (ne b _ _ q (.inl (fun z => even_ne z.symm)))⟩) h.pn
/-- the held value is to stand at the place n of an owned list -/
theorem RO.join {d : D} {v : V} (h : RO C ow G ρ σ H ((d, v) :: pd) O) (i n : Nat) (hn : C.np ≤ pd.length) :
    ∃ O', RO C ow G ρ σ H pd O' ∧ Sep G H O' (2 * i) d [n] v ∧ ∀ (l : Nat) ds k π xs, l ≠ 2 * pd.length + 1 → Seps G H O l ds k π xs → Seps G H O' l ds k π xs := by
  refine ⟨lab (fun l π => if l = 2 * pd.length + 1 then (2 * i, π ++ [n]) else (l, π)) O, ⟨h.len, h.gh, h.g0, h.gn, ?_, h.cok, h.fr, h.al, h.mp, ?_, ?_, hn⟩, ?_, ?_⟩
  · intro a m e
    obtain ⟨l, π, e1, rfl⟩ := lab_of e
    obtain ⟨q1, q2, q3⟩ := h.og a _ e1
    refine ⟨q1, q2, ?_⟩
    try dsimp only
    split
    · rename_i z
      rcases q3 with q3 | ⟨_, q3⟩
      · exact .inl q3
      · rcases h.cok _ _ _ q3 with ⟨k, _, q4, _⟩ | ⟨k, q4, q5⟩
        · exact absurd (q4.symm.trans z) even_ne
        · omega
    · exact q3
  · intro j e q
    obtain ⟨u, h1, h2⟩ := h.sl j e q
    refine ⟨u, h1, ?_⟩
    split at h2
    · rename_i c; rw [if_pos c]; exact h2.keep (fun _ _ z => z) fun a τ q => ⟨by rw [lab_at q, if_neg even_ne], rfl⟩
    · rename_i c; rw [if_neg c]; exact h2
  · exact Pend.keep (fun _ _ z => z) (fun a j π hj q => ⟨by rw [lab_at q, if_neg (by omega)], rfl⟩) h.pn.2
  · exact Sep.map (f := fun π => π ++ [n]) (fun _ _ z => z) (fun _ _ => rfl) d [] v (fun a τ q => ⟨by rw [lab_at q, if_pos rfl], rfl⟩) h.pn.1
  · intro l ds k π xs hl hs
    exact hs.keep (fun _ _ z => z) fun a τ _ q => ⟨by rw [lab_at q, if_neg hl], rfl⟩
end
end L2

set_option Elab.async false
set_option linter.all false
set_option maxRecDepth 100000
set_option maxHeartbeats 1000000
namespace L2
open PySem PySem.Spec PyProof.Rows
/-! ### owned slots read as shared ones for a while -/
noncomputable def bor (js : List Nat) (ow : List Bool) : List Bool := ow.mapIdx fun j b => b && !js.contains j
theorem bor_iff {js : List Nat} {ow : List Bool} {j : Nat} : (bor js ow)[j]? = some true ↔ ow[j]? = some true ∧ js.contains j = false := by
  unfold bor
  rw [List.getElem?_mapIdx]
  cases e : ow[j]? with
  | none => simp
  | some b => cases b <;> simp
noncomputable def livB (ρ : DSt) (js : List Nat) (n l : Nat) : Bool := if l % 2 = 0 then (match ρ[l / 2]? with | some (some _) => !js.contains (l / 2) | _ => false) else decide (l / 2 < n)
noncomputable def demB (js : List Nat) (l : Nat) : Bool := decide (l % 2 = 0) && js.contains (l / 2)
noncomputable def ownOf (f : Nat → Bool) (O : Own) : Own := fun a => match O a with
  | some m => if f m.1 = true then some m else none
  | none => none
theorem ownOf_at {f : Nat → Bool} {O : Own} {a : Addr} {m : Nat × List Nat} (h : O a = some m) (hf : f m.1 = true) : ownOf f O a = some m := by unfold ownOf; rw [h]; show (if _ then _ else _) = _; rw [if_pos hf]
theorem ownOf_of {f : Nat → Bool} {O : Own} {a : Addr} {m : Nat × List Nat} (h : ownOf f O a = some m) : O a = some m ∧ f m.1 = true := by
  unfold ownOf at h
  cases e : O a with
  | none => rw [e] at h; cases h
  | some n =>
    rw [e] at h
    change (if _ then _ else _) = _ at h
    split at h
    · rename_i c; cases h; exact ⟨rfl, c⟩
    · cases h
noncomputable def isSm {α : Type} : Option α → Bool
  | some _ => true
  | none => false
section
variable {C : Ctx} {ow : List Bool} {G : Hp} {ρ : DSt} {σ : St} {H : Hp} {pd : List (D × V)} {O : Own}
noncomputable def gBor (js : List Nat) (G H : Hp) (O : Own) : Hp := fun a => if isSm (ownOf (demB js) O a) = true then H a else G a
noncomputable def cBor (js : List Nat) (G H : Hp) (O : Own) (ρ : DSt) (σ : St) (n : Nat) : Ctx := ⟨gBor js G H O, H, ownOf (livB ρ js n) O, σ, n⟩
theorem gBor_same (h : RO C ow G ρ σ H pd O) (js : List Nat) : Same G (gBor js G H O) := fun a o e => by
  show (if _ then _ else _) = _
  split
  · exact h.gh _ _ e
  · exact e
theorem isSm_of {α : Type} {o : Option α} (h : isSm o = true) : ∃ x, o = some x := by cases o with | none => cases h | some x => exact ⟨x, rfl⟩
theorem RO.enter (h : RO C ow G ρ σ H pd O) (js : List Nat) : RO (cBor js G H O ρ σ pd.length) (bor js ow) (gBor js G H O) ρ σ H pd (ownOf (livB ρ js pd.length) O) := by
  have sG := gBor_same h js
  refine ⟨h.len, ?_, fun _ _ e => e, fun _ _ e => .inl e, ?_, ?_, fun _ _ e _ => e, fun _ e => e, fun _ _ e => e, ?_, ?_, Nat.le_refl _⟩
  · intro a o e
    change (if _ then _ else _) = _ at e
    split at e
    · exact e
    · exact h.gh _ _ e
  · intro a l e
    obtain ⟨e1, e2⟩ := ownOf_of e
    obtain ⟨q1, q2, q3⟩ := h.og a l e1
    refine ⟨?_, q2, .inr ⟨l.2, e⟩⟩
    · show (if _ then _ else _) = _
      rw [if_neg]; exact q1
      intro z
      obtain ⟨m, z⟩ := isSm_of z
      obtain ⟨z1, z2⟩ := ownOf_of z
      rw [e1] at z1; cases z1
      unfold demB at z2; unfold livB at e2
      simp only [Bool.and_eq_true, decide_eq_true_eq] at z2
      rw [if_pos z2.1] at e2
      split at e2
      · rw [z2.2] at e2; cases e2
      · cases e2
  · intro a l π e
    obtain ⟨e1, e2⟩ := ownOf_of e
    unfold livB at e2
    split at e2
    · rename_i c
      split at e2
      · rename_i d hd
        obtain ⟨v, hv, _⟩ := h.sl _ _ hd
        exact .inl ⟨l / 2, v, by omega, hv⟩
      · cases e2
    · exact .inr ⟨l / 2, by omega, of_decide_eq_true e2⟩
  · intro j d e
    obtain ⟨v, h1, h2⟩ := h.sl j d e
    refine ⟨v, h1, ?_⟩
    by_cases c : ow[j]? = some true
    · rw [if_pos c] at h2
      by_cases c2 : js.contains j = true
      · rw [if_neg (fun z => by rw [bor_iff] at z; rw [c2] at z; exact absurd z.2 (by decide))]
        refine h2.rep sG.ts d [] v fun a τ xs q e => ?_
        show (if _ then _ else _) = _
        rw [if_pos]; exact e
        rw [ownOf_at q]; rfl
        unfold demB
        simp only [Bool.and_eq_true, decide_eq_true_eq]
        exact ⟨by omega, by rw [show 2 * j / 2 = j by omega]; exact c2⟩
      · rw [if_pos (bor_iff.mpr ⟨c, by simpa using c2⟩)]
        refine h2.keep sG.ts fun a τ q => ⟨ownOf_at q ?_, rfl⟩
        unfold livB
        show (if 2 * j % 2 = 0 then _ else _) = _
        rw [if_pos (by omega), show 2 * j / 2 = j by omega, e]
        simp at c2 ⊢; exact c2
    · rw [if_neg c] at h2
      rw [if_neg (fun z => c (bor_iff.mp z).1)]
      exact h2.mono sG
  · refine Pend.keep sG.ts (fun a j π hj q => ⟨ownOf_at q ?_, rfl⟩) h.pn
    unfold livB
    show (if (2 * j + 1) % 2 = 0 then _ else _) = _
    rw [if_neg (by omega), show (2 * j + 1) / 2 = j by omega]
    simpa using hj
/-- slots that are not owned stay -/
noncomputable def Kp (ow : List Bool) (ρ ρ' : DSt) : Prop := ∀ (j : Nat), ow[j]? ≠ some true → ρ'[j]? = ρ[j]?
noncomputable def gBack (js : List Nat) (O : Own) (G2 : Hp) : Hp := fun a => if isSm (ownOf (demB js) O a) = true then none else G2 a
noncomputable def oBack (js : List Nat) (O O2 : Own) : Own := fun a => match O2 a with
  | some l => some l
  | none => ownOf (demB js) O a
theorem RO.leave (h : RO C ow G ρ σ H pd O) {js : List Nat} {G2 : Hp} {ρ2 : DSt} {H2 : Hp} {pd2 : List (D × V)} {O2 : Own}
    (h2 : RO (cBor js G H O ρ σ pd.length) (bor js ow) G2 ρ2 σ H2 pd2 O2) (kp : Kp (bor js ow) ρ ρ2) :
    RO C ow (gBack js O G2) ρ2 σ H2 pd2 (oBack js O O2) ∧ Same G (gBack js O G2) ∧ TSame G2 (gBack js O G2) := by
  have sG := gBor_same h js
  have dm : ∀ a m, ownOf (demB js) O a = some m → O a = some m ∧ G a = none ∧ ∃ xs, H a = some (.lst xs) ∧ G2 a = some (.lst xs) := fun a m e => by
    obtain ⟨e1, e2⟩ := ownOf_of e
    obtain ⟨q1, ⟨xs, q2⟩, q3⟩ := h.og a m e1
    refine ⟨e1, q1, xs, q2, h2.g0 a _ ?_⟩
    show (if _ then _ else _) = _
    rw [if_pos (by rw [e]; rfl)]; exact q2
  have nd : ∀ a, G a ≠ none → ¬ isSm (ownOf (demB js) O a) = true := fun a g z => by
    obtain ⟨m, z⟩ := isSm_of z
    exact g (dm a m z).2.1
  have sG3 : Same G (gBack js O G2) := fun a o e => by
    show (if _ then _ else _) = _
    rw [if_neg (nd a (by rw [e]; simp))]
    exact h2.g0 a o (sG a o e)
  have ts : TSame G2 (gBack js O G2) := fun a xs e => by
    show (if _ then _ else _) = _
    rw [if_neg]; exact e
    intro z
    obtain ⟨m, z⟩ := isSm_of z
    obtain ⟨_, _, ys, _, q⟩ := dm a m z
    rw [e] at q; cases q
  have o2 : ∀ a l, O2 a = some l → oBack js O O2 a = some l := fun a l e => by show (match O2 a with | some l => some l | none => _) = _; rw [e]
  refine ⟨⟨h2.len, ?_, fun a o e => sG3 _ _ (h.g0 _ _ e), ?_, ?_, h.cok, ?_, fun a e => h.al a (h2.al a e), h.mp, ?_, ?_, Nat.le_trans h.np h2.np⟩, sG3, ts⟩
  · intro a o e
    change (if _ then _ else _) = _ at e
    split at e
    · cases e
    · exact h2.gh _ _ e
  · intro a o e
    change (if _ then _ else _) = _ at e
    split at e
    · cases e
    · rename_i c
      rcases h2.gn a o e with q | q
      · change (if _ then _ else _) = _ at q
        rw [if_neg c] at q
        exact h.gn a o q
      · exact .inr (h.al a q)
  · intro a l e
    change (match O2 a with | some l => some l | none => _) = _ at e
    cases q : O2 a with
    | some l' =>
      rw [q] at e; cases e
      obtain ⟨q1, q2, q3⟩ := h2.og a l q
      refine ⟨by show (if _ then _ else _) = _; split <;> first | rfl | exact q1, q2, ?_⟩
      rcases q3 with q3 | ⟨q3, q4⟩
      · exact .inl (h.al a q3)
      · exact (h.og a _ (ownOf_of q4).1).2.2
    | none =>
      rw [q] at e
      change ownOf (demB js) O a = some l at e
      obtain ⟨e1, q1, xs, q2, q3⟩ := dm a l e
      refine ⟨by show (if _ then _ else _) = _; rw [if_pos (by rw [e]; rfl)], ⟨xs, h2.gh _ _ q3⟩, (h.og a l e1).2.2⟩
  · intro a o e n
    have q := h.fr a o e n
    refine h2.fr a o q ?_
    show ownOf _ O a = none
    cases z : ownOf (livB ρ js pd.length) O a with
    | none => rfl
    | some m =>
      obtain ⟨z1, _⟩ := ownOf_of z
      obtain ⟨_, _, z3⟩ := h.og a m z1
      rcases z3 with z3 | ⟨_, z3⟩
      · rw [z3] at e; cases e
      · rw [z3] at n; cases n
  · intro j d e
    by_cases c : (bor js ow)[j]? = some true
    · obtain ⟨v, q1, q2⟩ := h2.sl j d e
      rw [if_pos c] at q2
      refine ⟨v, q1, ?_⟩
      rw [if_pos (bor_iff.mp c).1]
      exact q2.keep ts fun a τ q => ⟨o2 _ _ q, rfl⟩
    · rw [kp j c] at e
      obtain ⟨v, q1, q2⟩ := h.sl j d e
      refine ⟨v, q1, ?_⟩
      by_cases c2 : ow[j]? = some true
      · rw [if_pos c2] at q2 ⊢
        have hj : js.contains j = true := by
          cases z : js.contains j with
          | true => rfl
          | false => exact absurd (bor_iff.mpr ⟨c2, z⟩) c
        refine q2.keep sG3.ts fun a τ q => ?_
        have dd : ownOf (demB js) O a = some (2 * j, τ ++ []) := ownOf_at q (by
          unfold demB
          simp only [Bool.and_eq_true, decide_eq_true_eq]
          exact ⟨by omega, by rw [show 2 * j / 2 = j by omega]; exact hj⟩)
        obtain ⟨_, _, xs, q4, q5⟩ := dm a _ dd
        refine ⟨?_, by rw [q4]; exact h2.gh _ _ q5⟩
        show (match O2 a with | some l => some l | none => _) = _
        cases z : O2 a with
        | some l => have := (h2.og a l z).1; rw [q5] at this; cases this
        | none => exact dd
      · rw [if_neg c2] at q2 ⊢
        exact q2.mono sG3
  · exact Pend.keep ts (fun a j π hj q => ⟨o2 _ _ q, rfl⟩) h2.pn
end
end L2

set_option Elab.async false
set_option linter.all false
set_option maxRecDepth 100000
set_option maxHeartbeats 1000000
namespace L2
open PySem PySem.Spec PyProof.Rows
/-! ### the judgements over data -/
noncomputable abbrev ME := DSt → (D → DSt → Prop) → Prop
noncomputable abbrev MT := DSt → (Bool → DSt → Prop) → Prop
noncomputable abbrev MA := DSt → (List D → DSt → Prop) → Prop
noncomputable def SE (ow : List Bool) (t : TE) (m : ME) : Prop := ∀ (C : Ctx) (G : Hp) (ρ : DSt) (σ : St) (H : Hp) (pd : List (D × V)) (q : D → DSt → Prop) (Q : VK), R C ow G ρ σ H pd → m ρ q →
  (∀ d ρ' v G' H', q d ρ' → Same G G' → Kp ow ρ ρ' → R C ow G' ρ' σ H' pd → Rep G' d v → Q v H') → t σ H Q
noncomputable def SF (ow : List Bool) (t : TE) (m : ME) : Prop := ∀ (C : Ctx) (G : Hp) (ρ : DSt) (σ : St) (H : Hp) (pd : List (D × V)) (q : D → DSt → Prop) (Q : VK), R C ow G ρ σ H pd → m ρ q →
  (∀ d ρ' v G' H', q d ρ' → Same G G' → Kp ow ρ ρ' → R C ow G' ρ' σ H' ((d, v) :: pd) → Q v H') → t σ H Q
noncomputable def STe (ow : List Bool) (t : TT) (m : MT) : Prop := ∀ (C : Ctx) (G : Hp) (ρ : DSt) (σ : St) (H : Hp) (pd : List (D × V)) (q : Bool → DSt → Prop) (Q : Bool → Hp → Prop), R C ow G ρ σ H pd → m ρ q →
  (∀ b ρ' G' H', q b ρ' → Same G G' → Kp ow ρ ρ' → R C ow G' ρ' σ H' pd → Q b H') → t σ H Q
noncomputable def SA (ow : List Bool) (n : Nat) (t : TA) (m : MA) : Prop := ∀ (C : Ctx) (G : Hp) (ρ : DSt) (σ : St) (H : Hp) (pd : List (D × V)) (q : List D → DSt → Prop) (Q : List V → Hp → Prop), R C ow G ρ σ H pd → m ρ q →
  (∀ ds ρ' vs G' H', q ds ρ' → Same G G' → Kp ow ρ ρ' → R C ow G' ρ' σ H' pd → Reps G' ds vs → vs.length = n → Q vs H') → t σ H Q
structure QE (X : Cx) (ow : List Bool) (e : Expr) (m : ME) : Prop where
  ex : ∃ t, PE X e t ∧ SE ow t m
structure QF (X : Cx) (ow : List Bool) (e : Expr) (m : ME) : Prop where
  ex : ∃ t, PE X e t ∧ SF ow t m
structure QT (X : Cx) (ow : List Bool) (e : Expr) (m : MT) : Prop where
  ex : ∃ t, PT X e t ∧ STe ow t m
structure QW (X : Cx) (ow : List Bool) (e : Expr) (m : MT) : Prop where
  ex : ∃ t, PW X e t ∧ STe ow t m
structure QA (X : Cx) (ow : List Bool) (es : List Expr) (m : MA) : Prop where
  ex : ∃ t, PA X es t ∧ SA ow es.length t m
theorem Kp.refl {ow : List Bool} {ρ : DSt} : Kp ow ρ ρ := fun _ _ => rfl
theorem Kp.trans {ow : List Bool} {ρ ρ1 ρ2 : DSt} (a : Kp ow ρ ρ1) (b : Kp ow ρ1 ρ2) : Kp ow ρ ρ2 := fun j h => (b j h).trans (a j h)
theorem R.gh {C : Ctx} {ow : List Bool} {G : Hp} {ρ : DSt} {σ : St} {H : Hp} {pd : List (D × V)} (h : R C ow G ρ σ H pd) : Same G H := let ⟨_, h⟩ := h; h.gh
theorem R.np {C : Ctx} {ow : List Bool} {G : Hp} {ρ : DSt} {σ : St} {H : Hp} {pd : List (D × V)} (h : R C ow G ρ σ H pd) : C.np ≤ pd.length := let ⟨_, h⟩ := h; h.np
section
variable {X : Cx} {ow : List Bool} {a b c e : Expr} {ma mb mc : ME} {pos : Pos}
/-! ### names, constants -/
noncomputable def mVar (i : Nat) : ME := fun ρ q => match ρ[i]? with
  | some (some d) => q d ρ
  | _ => False
theorem qe_var (i : Nat) {x : Str} (hs : ow[i]? ≠ some true := by decide) (hN : X.N[i]? = some x := by rfl) (hv : Vis X.env.scope x := by first | exact Or.inl rfl | exact Or.inr (Or.inl rfl) | exact Or.inr (Or.inr rfl)) (hd : (x == ("__debug__" : Str)) = false := by decide)
    (hcd : (x == ("__classdict__" : Str)) = false := by decide) : QE X ow (.Name x pos) (mVar i) := ⟨_, pe_var hN hv hd hcd, fun C G ρ σ H pd q Q r h k => by
  unfold mVar at h
  split at h
  · rename_i d e
    obtain ⟨O, ro⟩ := r
    obtain ⟨v, h1, h2⟩ := ro.sl i d e
    rw [if_neg hs] at h2
    exact ⟨v, h1, k d ρ v G H h (Same.refl _) Kp.refl ⟨O, ro⟩ h2⟩
  · exact h.elim⟩
noncomputable def mC (d : D) : ME := fun ρ q => q d ρ
theorem qe_c {v : V} {d : D} (h : PE X e (tC v)) (hr : ∀ G, Rep G d v) : QE X ow e (mC d) := ⟨_, h, fun C G ρ σ H pd q Q r h k => k d ρ v G H h (Same.refl _) Kp.refl r (hr G)⟩
theorem qe_int {i j} : QE X ow (.Constant (.int i) j pos) (mC (.int i)) := qe_c pe_int fun _ => rep_int _
theorem qe_bl {i j} : QE X ow (.Constant (.bool i) j pos) (mC (.bl i)) := qe_c pe_bl fun _ => rep_bl _
theorem qe_non {j} : QE X ow (.Constant .none j pos) (mC .non) := qe_c pe_non fun _ => rep_non
theorem qe_str {i j} : QE X ow (.Constant (.str i) j pos) (mC (.str i)) := qe_c pe_str fun _ => rep_str _
theorem qe_globI {x : Str} {i : Int} (hg : Gl X x) (hm : ∃ t, X.mg x = some (.int i t)) (hd : (x == ("__debug__" : Str)) = false := by decide) : QE X ow (.Name x pos) (mC (.int i)) := by
  obtain ⟨t, hm⟩ := hm
  exact qe_c (pe_glob (v := .int i) hg hm ⟨t, rfl⟩ hd) fun _ => rep_int _
/-! ### two things and an operation -/
theorem se_two {ta tb : TE} (ha : SE ow ta ma) (hb : SE ow tb mb) {C : Ctx} {G : Hp} {ρ : DSt} {σ : St} {H : Hp} {pd : List (D × V)} {f : D → D → DSt → Prop} {Q : V → V → Hp → Prop}
    (r : R C ow G ρ σ H pd) (h : ma ρ fun x ρ1 => mb ρ1 fun y ρ2 => f x y ρ2)
    (k : ∀ dx dy ρ' x y G' H', f dx dy ρ' → Same G G' → Kp ow ρ ρ' → R C ow G' ρ' σ H' pd → Rep G' dx x → Rep G' dy y → Q x y H') : ta σ H fun x H1 => tb σ H1 fun y H2 => Q x y H2 := by
  refine ha C G ρ σ H pd _ _ r h fun dx ρ1 x G1 H1 h1 s1 k1 r1 p1 => ?_
  refine hb C G1 ρ1 σ H1 pd _ _ r1 h1 fun dy ρ2 y G2 H2 h2 s2 k2 r2 p2 => ?_
  exact k dx dy ρ2 x y G2 H2 h2 (s1.trans s2) (k1.trans k2) r2 (Rep.mono s2 _ _ p1) p2
noncomputable def DOp (r : R2) (f : D → D → (D → Prop) → Prop) : Prop := ∀ (G H : Hp) (x y : V) (dx dy : D) (q : D → Prop) (Q : VK), Same G H → Rep G dx x → Rep G dy y → f dx dy q → (∀ d v, q d → Rep G d v → Q v H) → r x y H Q
noncomputable def mOp (f : D → D → (D → Prop) → Prop) (ma mb : ME) : ME := fun ρ q => ma ρ fun x ρ1 => mb ρ1 fun y ρ2 => f x y fun d => q d ρ2
theorem se_op {r : R2} {f : D → D → (D → Prop) → Prop} {ta tb : TE} (hd : DOp r f) (ha : SE ow ta ma) (hb : SE ow tb mb) : SE ow (tOp r ta tb) (mOp f ma mb) := fun C G ρ σ H pd q Q hr h k => by
  refine se_two ha hb hr h fun dx dy ρ' x y G' H' hf s kp r' p1 p2 => ?_
  exact hd G' H' x y dx dy _ _ r'.gh p1 p2 hf fun d v hq p => k d ρ' v G' H' hq s kp r' p
theorem qe_op {op : Operator} {r : R2} {f : D → D → (D → Prop) → Prop} (ho : OpR X (binaryOp op) r) (hd : DOp r f) (ha : QE X ow a ma) (hb : QE X ow b mb) : QE X ow (.BinOp a op b pos) (mOp f ma mb) := by
  obtain ⟨ta, pa, sa⟩ := ha; obtain ⟨tb, pb, sb⟩ := hb
  exact ⟨_, pe_op ho pa pb, se_op hd sa sb⟩
theorem qe_cmp {op : CmpOp} {r : R2} {f : D → D → (D → Prop) → Prop} (ho : OpR X (compareOp op) r) (hd : DOp r f) (ha : QE X ow a ma) (hb : QE X ow b mb) (hm : behindInMarks op b = false) : QE X ow (.Compare a [op] [b] pos) (mOp f ma mb) := by
  obtain ⟨ta, pa, sa⟩ := ha; obtain ⟨tb, pb, sb⟩ := hb
  exact ⟨_, pe_cmpR ho pa pb hm, se_op hd sa sb⟩
theorem qe_ix {r : R2} {f : D → D → (D → Prop) → Prop} (ho : IxR X r) (hd : DOp r f) (ha : QE X ow a ma) (hb : QE X ow b mb) (hs : PlainIx b) : QE X ow (.Subscript a b pos) (mOp f ma mb) := by
  obtain ⟨ta, pa, sa⟩ := ha; obtain ⟨tb, pb, sb⟩ := hb
  exact ⟨_, pe_ix ho pa pb hs, se_op hd sa sb⟩
noncomputable def mB (m : ME) : MT := fun ρ q => m ρ fun d ρ' => match d with
  | .bl b => q b ρ'
  | _ => False
theorem rep_bl_of {G : Hp} {b : Bool} {v : V} (h : Rep G (.bl b) v) : v = .bl b := by rw [Rep] at h; exact h
theorem rep_int_of {G : Hp} {b : Int} {v : V} (h : Rep G (.int b) v) : v = .int b := by rw [Rep] at h; exact h
theorem st_of {t : TE} {m : ME} (h : SE ow t m) : STe ow (tTest t) (mB m) := fun C G ρ σ H pd q Q r hm k => by
  refine h C G ρ σ H pd _ _ r hm fun d ρ' v G' H' hq s kp r' p => ?_
  cases d with
  | bl b => exact ⟨b, rep_bl_of p, k b ρ' G' H' hq s kp r'⟩
  | _ => exact hq.elim
theorem qt_cmp {op : CmpOp} {r : R2} {f : D → D → (D → Prop) → Prop} (ho : OpR X (compareOp op) r) (hd : DOp r f) (ha : QE X ow a ma) (hb : QE X ow b mb) (hm : behindInMarks op b = false) : QT X ow (.Compare a [op] [b] pos) (mB (mOp f ma mb)) := by
  obtain ⟨ta, pa, sa⟩ := ha; obtain ⟨tb, pb, sb⟩ := hb
  exact ⟨_, pt_cmpR ho pa pb hm, st_of (se_op hd sa sb)⟩
theorem qt_val (h : QE X ow e ma) (he : ∀ whole, isTrue e X.env whole = (do let v ← whole; standAt e.pos; holding [v] (truthy v)) := by intro _; rfl) : QT X ow e (mB ma) := by
  obtain ⟨ta, pa, sa⟩ := h
  exact ⟨_, pt_val pa he, st_of sa⟩
/-! ### and, or, not, a if c else b -/
noncomputable def mIf {α : Type} (m : MT) (x y : DSt → (α → DSt → Prop) → Prop) : DSt → (α → DSt → Prop) → Prop := fun ρ q => m ρ fun b ρ1 => if b = true then x ρ1 q else y ρ1 q
noncomputable def mYes (b : Bool) : MT := fun ρ q => q b ρ
theorem st_if {t t1 t2 : TT} {m m1 m2 : MT} (h : STe ow t m) (h1 : STe ow t1 m1) (h2 : STe ow t2 m2) : STe ow (fun σ H Q => t σ H fun c H1 => if c = true then t1 σ H1 Q else t2 σ H1 Q) (mIf m m1 m2) := fun C G ρ σ H pd q Q r hm k => by
  refine h C G ρ σ H pd _ _ r hm fun b ρ' G' H' hq s kp r' => ?_
  cases b with
  | true => rw [if_pos rfl] at hq ⊢; exact h1 C G' ρ' σ H' pd _ _ r' hq fun b ρ2 G2 H2 hq2 s2 kp2 r2 => k b ρ2 G2 H2 hq2 (s.trans s2) (kp.trans kp2) r2
  | false => rw [if_neg (by decide)] at hq ⊢; exact h2 C G' ρ' σ H' pd _ _ r' hq fun b ρ2 G2 H2 hq2 s2 kp2 r2 => k b ρ2 G2 H2 hq2 (s.trans s2) (kp.trans kp2) r2
theorem st_yes (b : Bool) : STe ow (fun _ H Q => Q b H) (mYes b) := fun C G ρ σ H pd q Q r hm k => k b ρ G H hm (Same.refl _) Kp.refl r
variable {mt mu mv : MT} {rest : List Expr}
theorem qw_or1 (h : QT X ow a mt) : QW X ow (.BoolOp .Or [a] pos) mt := by obtain ⟨t, p, s⟩ := h; exact ⟨_, pw_or1 p, s⟩
theorem qw_or (h : QT X ow a mt) (h2 : QW X ow (.BoolOp .Or (b :: rest) pos) mu) : QW X ow (.BoolOp .Or (a :: b :: rest) pos) (mIf mt (mYes true) mu) := by
  obtain ⟨t, p, s⟩ := h; obtain ⟨t2, p2, s2⟩ := h2; exact ⟨_, pw_or p p2, st_if s (st_yes true) s2⟩
theorem QW.qt (h : QW X ow e mt) : QT X ow e mt := by obtain ⟨t, p, s⟩ := h; exact ⟨_, p.pt, s⟩
noncomputable def mNot (m : MT) : MT := fun ρ q => m ρ fun b ρ' => q (!b) ρ'
theorem qt_not (h : QT X ow a mt) : QT X ow (.UnaryOp .Not a pos) (mNot mt) := by
  obtain ⟨t, p, s⟩ := h
  exact ⟨_, pt_not p, fun C G ρ σ H pd q Q r hm k => s C G ρ σ H pd _ _ r hm fun b ρ' G' H' hq s kp r' => k _ ρ' G' H' hq s kp r'⟩
/-- a truth as a value -/
noncomputable def mV (m : MT) : ME := fun ρ q => m ρ fun b ρ' => q (.bl b) ρ'
theorem qe_one {op} (h : QE X ow a ma) : QE X ow (.BoolOp op [a] pos) ma := by obtain ⟨t, p, s⟩ := h; exact ⟨_, pe_one p, s⟩
theorem qe_not (h : QE X ow a ma) : QE X ow (.UnaryOp .Not a pos) (mV (mNot (mB ma))) := by
  obtain ⟨t, p, s⟩ := h
  refine ⟨_, pe_not p, fun C G ρ σ H pd q Q r hm k => ?_⟩
  refine s C G ρ σ H pd _ _ r hm fun d ρ' v G' H' hq s kp r' p => ?_
  cases d with
  | bl b => exact ⟨b, rep_bl_of p, k _ ρ' _ G' H' hq s kp r' (rep_bl _)⟩
  | _ => exact hq.elim
theorem qe_and (h : QE X ow a ma) (h2 : QE X ow (.BoolOp .And (b :: rest) pos) mb) : QE X ow (.BoolOp .And (a :: b :: rest) pos) (mIf (mB ma) mb (mC (.bl false))) := by
  obtain ⟨t, p, s⟩ := h; obtain ⟨t2, p2, s2⟩ := h2
  refine ⟨_, pe_and p p2, fun C G ρ σ H pd q Q r hm k => ?_⟩
  refine s C G ρ σ H pd _ _ r hm fun d ρ' v G' H' hq s kp r' p => ?_
  cases d with
  | bl b =>
    refine ⟨b, rep_bl_of p, ?_⟩
    change (if b = true then _ else _) at hq
    cases b with
    | true => rw [if_pos rfl] at hq ⊢; exact s2 C G' ρ' σ H' pd _ _ r' hq fun d ρ2 v G2 H2 hq2 z2 kp2 r2 p2 => k d ρ2 v G2 H2 hq2 (s.trans z2) (kp.trans kp2) r2 p2
    | false => rw [if_neg (by decide)] at hq ⊢; exact k _ ρ' _ G' H' hq s kp r' (rep_bl _)
  | _ => exact hq.elim
/-! ### between shared and held -/
theorem QF.qe (h : QF X ow e ma) : QE X ow e ma := by
  obtain ⟨t, p, s⟩ := h
  refine ⟨_, p, fun C G ρ σ H pd q Q r hm k => s C G ρ σ H pd _ _ r hm fun d ρ' v G' H' hq s kp r' => ?_⟩
  obtain ⟨O, r'⟩ := r'
  obtain ⟨G2, s2, r2, p2⟩ := r'.share r.np
  exact k d ρ' v G2 H' hq (s.trans s2) kp r2 p2
noncomputable def mImm (m : ME) : ME := fun ρ q => m ρ fun d ρ' => imm d = true ∧ q d ρ'
theorem QE.qf (h : QE X ow e ma) : QF X ow e (mImm ma) := by
  obtain ⟨t, p, s⟩ := h
  refine ⟨_, p, fun C G ρ σ H pd q Q r hm k => s C G ρ σ H pd _ _ r hm fun d ρ' v G' H' hq s kp r' p => ?_⟩
  obtain ⟨O, r'⟩ := r'
  exact k d ρ' v G' H' hq.2 s kp ⟨O, r'.len, r'.gh, r'.g0, r'.gn, r'.og, r'.cok, r'.fr, r'.al, r'.mp, r'.sl, ⟨p.sep d [] v hq.1, r'.pn⟩, Nat.le_succ_of_le r'.np⟩
/-- owned slots, read -/
theorem kp_bor {js : List Nat} {ρ ρ' : DSt} (h : Kp (bor js ow) ρ ρ') : Kp ow ρ ρ' := fun j n => h j fun z => n (bor_iff.mp z).1
theorem QE.bor (js : List Nat) (h : QE X (bor js ow) e ma) : QE X ow e (mImm ma) := by
  obtain ⟨t, p, s⟩ := h
  refine ⟨_, p, fun C G ρ σ H pd q Q r hm k => ?_⟩
  obtain ⟨O, r⟩ := r
  refine s _ _ ρ σ H pd _ _ ⟨_, r.enter js⟩ hm fun d ρ' v G' H' hq s kp r' p => ?_
  obtain ⟨O', r'⟩ := r'
  obtain ⟨r2, s2, ts⟩ := r.leave r' kp
  exact k d ρ' v _ H' hq.2 s2 (kp_bor kp) ⟨_, r2⟩ (p.imms ts d v hq.1)
theorem QF.bor (js : List Nat) (h : QF X (bor js ow) e ma) : QF X ow e ma := by
  obtain ⟨t, p, s⟩ := h
  refine ⟨_, p, fun C G ρ σ H pd q Q r hm k => ?_⟩
  obtain ⟨O, r⟩ := r
  refine s _ _ ρ σ H pd _ _ ⟨_, r.enter js⟩ hm fun d ρ' v G' H' hq s kp r' => ?_
  obtain ⟨O', r'⟩ := r'
  obtain ⟨r2, s2, ts⟩ := r.leave r' kp
  exact k d ρ' v _ H' hq s2 (kp_bor kp) ⟨_, r2⟩
theorem QT.bor (js : List Nat) (h : QT X (bor js ow) e mt) : QT X ow e mt := by
  obtain ⟨t, p, s⟩ := h
  refine ⟨_, p, fun C G ρ σ H pd q Q r hm k => ?_⟩
  obtain ⟨O, r⟩ := r
  refine s _ _ ρ σ H pd _ _ ⟨_, r.enter js⟩ hm fun d ρ' G' H' hq s kp r' => ?_
  obtain ⟨O', r'⟩ := r'
  obtain ⟨r2, s2, ts⟩ := r.leave r' kp
  exact k d ρ' _ H' hq s2 (kp_bor kp) ⟨_, r2⟩
/-! ### argument lists, displays -/
noncomputable def mNil : MA := fun ρ q => q [] ρ
noncomputable def mCons (m : ME) (r : MA) : MA := fun ρ q => m ρ fun d ρ1 => r ρ1 fun ds ρ2 => q (d :: ds) ρ2
variable {mr : MA} {es : List Expr}
theorem qa_nil : QA X ow [] mNil := ⟨_, pa_nil, fun C G ρ σ H pd q Q r h k => k [] ρ [] G H h (Same.refl _) Kp.refl r reps_nil rfl⟩
theorem qa_cons (ha : QE X ow e ma) (hr : QA X ow es mr) (hs : starEach (e :: es) X.env = (false, eval e X.env) :: starEach es X.env := by rfl) : QA X ow (e :: es) (mCons ma mr) := by
  obtain ⟨t, p, s⟩ := ha; obtain ⟨t2, p2, s2⟩ := hr
  refine ⟨_, pa_cons p p2 hs, fun C G ρ σ H pd q Q r hm k => ?_⟩
  refine s C G ρ σ H pd _ _ r hm fun d ρ' v G' H' hq z kp r' p => ?_
  refine s2 C G' ρ' σ H' pd _ _ r' hq fun ds ρ2 vs G2 H2 hq2 z2 kp2 r2 p2 hl => ?_
  exact k (d :: ds) ρ2 (v :: vs) G2 H2 hq2 (z.trans z2) (kp.trans kp2) r2 (reps_cons (Rep.mono z2 _ _ p) p2) (by simp [hl])
noncomputable def mTup (m : MA) : ME := fun ρ q => m ρ fun ds ρ' => q (.tup ds) ρ'
noncomputable def mLst (m : MA) : ME := fun ρ q => m ρ fun ds ρ' => q (.lst ds) ρ'
noncomputable def mLstI (m : MA) : ME := fun ρ q => m ρ fun ds ρ' => imms ds = true ∧ q (.lst ds) ρ'
theorem le_line {n : Nat} (h : n ≤ 1000) : n ≤ sizeLine := Nat.le_of_lt (small1000 h)
theorem qe_tup {x1} (h : QA X ow es mr) (hl : es.length ≤ 1000 := by decide) : QE X ow (.Tuple es x1 pos) (mTup mr) := by
  obtain ⟨t, p, s⟩ := h
  refine ⟨_, pe_tup p, fun C G ρ σ H pd q Q r hm k => s C G ρ σ H pd _ _ r hm fun ds ρ' vs G' H' hq z kp r' p hn => ⟨le_line (by omega), fun a ha => ?_⟩⟩
  obtain ⟨O, r'⟩ := r'
  obtain ⟨r2, s2⟩ := r'.new ha (.tup vs)
  exact k _ ρ' _ _ _ hq (z.trans s2) kp ⟨O, r2⟩ (rep_tup upd_same (Reps.mono s2 _ _ p))
theorem qe_lst (h : QA X ow es mr) (hl : es.length ≤ 1000 := by decide) : QE X ow (.List es pos) (mLst mr) := by
  obtain ⟨t, p, s⟩ := h
  refine ⟨_, pe_lst p, fun C G ρ σ H pd q Q r hm k => s C G ρ σ H pd _ _ r hm fun ds ρ' vs G' H' hq z kp r' p hn => ⟨le_line (by omega), fun a ha => ?_⟩⟩
  obtain ⟨O, r'⟩ := r'
  obtain ⟨r2, s2⟩ := r'.new ha (.lst vs)
  exact k _ ρ' _ _ _ hq (z.trans s2) kp ⟨O, r2⟩ (rep_lst upd_same (Reps.mono s2 _ _ p))
theorem qf_lst (h : QA X ow es mr) (hl : es.length ≤ 1000 := by decide) : QF X ow (.List es pos) (mLstI mr) := by
  obtain ⟨t, p, s⟩ := h
  refine ⟨_, pe_lst p, fun C G ρ σ H pd q Q r hm k => s C G ρ σ H pd _ _ r hm fun ds ρ' vs G' H' hq z kp r' p hn => ⟨le_line (by omega), fun a ha => ?_⟩⟩
  obtain ⟨O, r'⟩ := r'
  exact k _ ρ' _ _ _ hq.2 z kp (r'.newL ha hq.1 p)
/-! ### built-in functions -/
noncomputable def DCall (r : List V → Hp → VK → Prop) (f : List D → (D → Prop) → Prop) : Prop := ∀ (G H : Hp) (xs : List V) (ds : List D) (q : D → Prop) (Q : VK), Same G H → Reps G ds xs → f ds q → (∀ d v, q d → Rep G d v → Q v H) → r xs H Q
noncomputable def mCB (f : List D → (D → Prop) → Prop) (m : MA) : ME := fun ρ q => m ρ fun ds ρ' => f ds fun d => q d ρ'
theorem se_cb {r : List V → Hp → VK → Prop} {f : List D → (D → Prop) → Prop} {t : TA} {n : Nat} (hd : DCall r f) (s : SA ow n t mr) : SE ow (tCB r t) (mCB f mr) := fun C G ρ σ H pd q Q hr hm k =>
  s C G ρ σ H pd _ _ hr hm fun ds ρ' vs G' H' hq z kp r' p hn => hd G' H' vs ds _ _ r'.gh p hq fun d v hq p => k d ρ' v G' H' hq z kp r' p
variable {x : Str} {p' : Pos}
theorem qe_callB {id : String} {r : List V → Hp → VK → Prop} {f : List D → (D → Prop) → Prop} (hc : CallR X (.builtin id) r) (hd : DCall r f) (hg : Gl X x) (hm : X.mg x = none) (hv : bootBuiltins x = some (.builtin id)) (ha : QA X ow (e :: es) mr) (hn : x ≠ "__name__" := by decide) (hdb : (x == ("__debug__" : Str)) = false := by decide)
    (he : starEach (e :: es) X.env = (false, eval e X.env) :: starEach es X.env := by rfl) (hpl : (backTo pos (starEach es X.env)).any (·.1) = false := by rfl) : QE X ow (.Call (.Name x p') (e :: es) [] pos) (mCB f mr) := by
  obtain ⟨t, p, s⟩ := ha
  exact ⟨_, pe_callB hc hg hm hv p hn hdb he hpl, se_cb hd s⟩
theorem qe_callTy {id : String} {r : List V → Hp → VK → Prop} {f : List D → (D → Prop) → Prop} (hc : CallR X (.type id) r) (hd : DCall r f) (hg : Gl X x) (hm : X.mg x = none) (hv : bootBuiltins x = some (.type id)) (ha : QA X ow (e :: es) mr) (hn : x ≠ "__name__" := by decide) (hdb : (x == ("__debug__" : Str)) = false := by decide)
    (he : starEach (e :: es) X.env = (false, eval e X.env) :: starEach es X.env := by rfl) (hpl : (backTo pos (starEach es X.env)).any (·.1) = false := by rfl) : QE X ow (.Call (.Name x p') (e :: es) [] pos) (mCB f mr) := by
  obtain ⟨t, p, s⟩ := ha
  exact ⟨_, pe_callTy hc hg hm hv p hn hdb he hpl, se_cb hd s⟩
end
end L2

set_option Elab.async false
set_option linter.all false
set_option maxRecDepth 100000
set_option maxHeartbeats 1000000
namespace L2
open PySem PySem.Spec PyProof.Rows
/-! ### operations of data -/
noncomputable def fI (g : Int → Int → Int) : D → D → (D → Prop) → Prop := fun a b q => match a, b with
  | .int i, .int j => q (.int (g i j))
  | _, _ => False
noncomputable def fIC (C : Int → Int → Prop) (g : Int → Int → Int) : D → D → (D → Prop) → Prop := fun a b q => match a, b with
  | .int i, .int j => C i j ∧ q (.int (g i j))
  | _, _ => False
noncomputable def fB (g : Int → Int → Bool) : D → D → (D → Prop) → Prop := fun a b q => match a, b with
  | .int i, .int j => q (.bl (g i j))
  | _, _ => False
theorem dI {g : Int → Int → Int} : DOp (rI0 fun i j => .int (g i j)) (fI g) := fun G H x y dx dy q Q s p1 p2 hf k => by
  unfold fI at hf
  split at hf
  · exact ⟨_, _, rep_int_of p1, rep_int_of p2, k _ _ hf (rep_int _)⟩
  · exact hf.elim
theorem dIC {C : Int → Int → Prop} {g : Int → Int → Int} : DOp (rI C fun i j => .int (g i j)) (fIC C g) := fun G H x y dx dy q Q s p1 p2 hf k => by
  unfold fIC at hf
  split at hf
  · exact ⟨_, _, rep_int_of p1, rep_int_of p2, hf.1, k _ _ hf.2 (rep_int _)⟩
  · exact hf.elim
theorem dB {g : Int → Int → Bool} : DOp (rI0 fun i j => .bl (g i j)) (fB g) := fun G H x y dx dy q Q s p1 p2 hf k => by
  unfold fB at hf
  split at hf
  · exact ⟨_, _, rep_int_of p1, rep_int_of p2, k _ _ hf (rep_bl _)⟩
  · exact hf.elim
/-- == : of numbers at once, of other data by their shape -/
noncomputable def eqD (a b : D) : Bool := PyData.eqv (toP a) (toP b)
noncomputable def okD (a : D) : Bool := SeqAt.shaped (toP a)
noncomputable def fEq : D → D → (D → Prop) → Prop := fun a b q => match a, b with
  | .int i, .int j => q (.bl (decide (i = j)))
  | a, b => okD a = true ∧ okD b = true ∧ q (.bl (eqD a b))
noncomputable def fNe : D → D → (D → Prop) → Prop := fun a b q => match a, b with
  | .int i, .int j => q (.bl (!decide (i = j)))
  | a, b => okD a = true ∧ okD b = true ∧ q (.bl (!eqD a b))
theorem eqD_int (i j : Int) : eqD (.int i) (.int j) = decide (i = j) := by
  unfold eqD; rw [toP, toP, PyData.eqv]; first | rfl | (rw [Bool.beq_eq_decide_eq])
theorem okD_int (i : Int) : okD (.int i) = true := by unfold okD; rw [toP]; rfl
theorem dEq : DOp rEqD fEq := fun G H x y dx dy q Q s p1 p2 hf k => by
  have main : okD dx = true ∧ okD dy = true ∧ q (.bl (eqD dx dy)) := by
    unfold fEq at hf
    split at hf
    · exact ⟨okD_int _, okD_int _, by rw [eqD_int]; exact hf⟩
    · exact hf
  exact ⟨dx, dy, Rep.mono s _ _ p1, Rep.mono s _ _ p2, main.1, main.2.1, k _ _ main.2.2 (rep_bl _)⟩
theorem dNe : DOp rNeD fNe := fun G H x y dx dy q Q s p1 p2 hf k => by
  have main : okD dx = true ∧ okD dy = true ∧ q (.bl (!eqD dx dy)) := by
    unfold fNe at hf
    split at hf
    · exact ⟨okD_int _, okD_int _, by rw [eqD_int]; exact hf⟩
    · exact hf
  exact ⟨dx, dy, Rep.mono s _ _ p1, Rep.mono s _ _ p2, main.1, main.2.1, k _ _ main.2.2 (rep_bl _)⟩
noncomputable def isNon : D → Bool
  | .non => true
  | _ => false
theorem rep_non_iff {G : Hp} {d : D} {v : V} (h : Rep G d v) : decide (v = .non) = isNon d := by
  cases d <;> rw [Rep] at h
  case non => subst h; rfl
  case tup => obtain ⟨a, xs, rfl, _⟩ := h; rfl
  case lst => obtain ⟨a, xs, rfl, _⟩ := h; rfl
  case dct => obtain ⟨a, xs, rfl, _⟩ := h; rfl
  case scr => obtain ⟨a, rfl, _⟩ := h; rfl
  case ext => obtain ⟨a, H0, rfl, _⟩ := h; rfl
  all_goals subst h; rfl
noncomputable def fIsN : D → D → (D → Prop) → Prop := fun a b q => match b with
  | .non => q (.bl (isNon a))
  | _ => False
theorem dIsN : DOp (fun x y H Q => y = .non ∧ Q (.bl (decide (x = .non))) H) fIsN := fun G H x y dx dy q Q s p1 p2 hf k => by
  unfold fIsN at hf
  split at hf
  · rw [Rep] at p2; exact ⟨p2, by rw [rep_non_iff p1]; exact k _ _ hf (rep_bl _)⟩
  · exact hf.elim
noncomputable def fIsB : D → D → (D → Prop) → Prop := fun a b q => match a, b with
  | .bl x, .bl y => q (.bl (x == y))
  | _, _ => False
/-! ### in -/
noncomputable def flatD : D → Bool
  | .non => true
  | .bl _ => true
  | .int _ => true
  | .str _ => true
  | _ => false
noncomputable def eqF : D → D → Bool
  | .non, .non => true
  | .bl a, .bl b => a == b
  | .bl a, .int b => (if a then 1 else 0) == b
  | .int a, .bl b => a == (if b then 1 else 0)
  | .int a, .int b => a == b
  | .str a, .str b => a == b
  | _, _ => false
noncomputable def inD (a : D) (ds : List D) : Bool := ds.any fun y => eqF y a
noncomputable def fIn (neg : Bool) : D → D → (D → Prop) → Prop := fun a b q => match b with
  | .lst ds => flatD a = true ∧ ds.all flatD = true ∧ q (.bl (if neg then !inD a ds else inD a ds))
  | .tup ds => flatD a = true ∧ ds.all flatD = true ∧ q (.bl (if neg then !inD a ds else inD a ds))
  | _ => False
/-! ### an item -/
noncomputable def atD (ds : List D) (i : Int) (q : D → Prop) : Prop := match atI ds i with
  | some d => q d
  | none => False
noncomputable def fIx (K : PySem.W.Frag) : D → D → (D → Prop) → Prop := fun a b q => match a, b with
  | .lst ds, .int i => atD ds i q
  | .tup ds, .int i => atD ds i q
  | .scr φ ns, .int i => (∀ a H, φ a → SqL K H a (ns.map V.int)) ∧ match atI ns i with
    | some n => q (.int n)
    | none => False
  | _, _ => False
theorem reps_get {G : Hp} : ∀ {ds : List D} {xs : List V} {j : Nat} {d : D}, Reps G ds xs → ds[j]? = some d → ∃ v, xs[j]? = some v ∧ Rep G d v
  | [], _, _, _, _, e => by simp at e
  | d :: ds, xs, 0, e, h, q => by rw [Reps] at h; obtain ⟨v, vs, rfl, h1, _⟩ := h; simp at q; subst q; exact ⟨v, rfl, h1⟩
  | d :: ds, xs, j + 1, e, h, q => by
    rw [Reps] at h
    obtain ⟨v, vs, rfl, _, h2⟩ := h
    obtain ⟨u, e1, e2⟩ := reps_get (j := j) h2 (by simpa using q)
    exact ⟨u, by simpa using e1, e2⟩
theorem reps_atI {G : Hp} {ds : List D} {xs : List V} {i : Int} {d : D} (h : Reps G ds xs) (e : atI ds i = some d) : ∃ v, atI xs i = some v ∧ Rep G d v := by
  unfold atI at *
  rw [h.length]
  cases q : ixN ds.length i with
  | none => rw [q] at e; cases e
  | some j => rw [q] at e; exact reps_get h e
theorem atI_map {α β : Type} {f : α → β} {xs : List α} {i : Int} {x : α} (h : atI xs i = some x) : atI (xs.map f) i = some (f x) := by
  unfold atI at *
  rw [List.length_map]
  cases q : ixN xs.length i with
  | none => rw [q] at h; cases h
  | some j => rw [q] at h; rw [show (Option.some j).bind _ = (xs.map f)[j]? from rfl, List.getElem?_map, show xs[j]? = some x from h]; rfl
theorem dIx {K : PySem.W.Frag} : DOp (rIx K) (fIx K) := fun G H x y dx dy q Q s p1 p2 hf k => by
  unfold fIx at hf
  split at hf
  · rw [Rep] at p1
    obtain ⟨a, xs, rfl, h1, h2⟩ := p1
    unfold atD at hf
    split at hf
    · rename_i e
      obtain ⟨v, e1, e2⟩ := reps_atI h2 e
      exact .inl ⟨a, xs, _, v, rfl, rep_int_of p2, SqL.of (s _ _ h1), e1, k _ _ hf e2⟩
    · exact hf.elim
  · rw [Rep] at p1
    obtain ⟨a, xs, rfl, h1, h2⟩ := p1
    unfold atD at hf
    split at hf
    · rename_i e
      obtain ⟨v, e1, e2⟩ := reps_atI h2 e
      exact .inr (.inl ⟨a, xs, _, v, rfl, rep_int_of p2, SqT.of (s _ _ h1), e1, k _ _ hf e2⟩)
    · exact hf.elim
  · rw [Rep] at p1
    obtain ⟨a, rfl, h1⟩ := p1
    obtain ⟨hk, hf⟩ := hf
    split at hf
    · rename_i e
      refine .inl ⟨a, _, _, _, rfl, rep_int_of p2, ?_, atI_map e, k _ _ hf (rep_int _)⟩
      rcases h1 with ⟨o, h1⟩ | h1
      · exact .inl (.inr ⟨o, s _ _ h1⟩)
      · exact hk a H h1
    · exact hf.elim
  · exact hf.elim
/-! ### built-in functions -/
noncomputable def fLen (K : PySem.W.Frag) : List D → (D → Prop) → Prop := fun ds q => match ds with
  | [.lst ds] => q (.int ds.length)
  | [.tup ds] => q (.int ds.length)
  | [.scr φ ns] => (∀ a H, φ a → SqL K H a (ns.map V.int)) ∧ q (.int ns.length)
  | _ => False
theorem rep_lst_of {G : Hp} {ds : List D} {v : V} (h : Rep G (.lst ds) v) : ∃ a xs, v = .ref a ∧ G a = some (.lst xs) ∧ Reps G ds xs := by rw [Rep] at h; exact h
theorem rep_tup_of {G : Hp} {ds : List D} {v : V} (h : Rep G (.tup ds) v) : ∃ a xs, v = .ref a ∧ G a = some (.tup xs) ∧ Reps G ds xs := by rw [Rep] at h; exact h
theorem rep_scr_of {G : Hp} {φ : Addr → Prop} {ns : List Int} {v : V} (h : Rep G (.scr φ ns) v) : ∃ a, v = .ref a ∧ ((∃ o, G a = some (.frz o (.lst (ns.map V.int)))) ∨ φ a) := by rw [Rep] at h; exact h
theorem reps_one {G : Hp} {d : D} {xs : List V} (h : Reps G [d] xs) : ∃ v, xs = [v] ∧ Rep G d v := by
  rw [Reps] at h; obtain ⟨v, vs, rfl, h1, h2⟩ := h; rw [Reps] at h2; subst h2; exact ⟨v, rfl, h1⟩
theorem reps_two {G : Hp} {d e : D} {xs : List V} (h : Reps G [d, e] xs) : ∃ v u, xs = [v, u] ∧ Rep G d v ∧ Rep G e u := by
  rw [Reps] at h; obtain ⟨v, vs, rfl, h1, h2⟩ := h; obtain ⟨u, rfl, h3⟩ := reps_one h2; exact ⟨v, u, rfl, h1, h3⟩
theorem dLen {K : PySem.W.Frag} : DCall (fun xs H Q => ∃ p ys, xs = [.ref p] ∧ (SqL K H p ys ∨ SqT K H p ys) ∧ Q (.int ys.length) H) (fLen K) := fun G H xs ds q Q s p hf k => by
  unfold fLen at hf
  split at hf
  · obtain ⟨v, rfl, p1⟩ := reps_one p
    obtain ⟨a, xs, rfl, h1, h2⟩ := rep_lst_of p1
    exact ⟨a, xs, rfl, .inl (SqL.of (s _ _ h1)), by rw [h2.length]; exact k _ _ hf (rep_int _)⟩
  · obtain ⟨v, rfl, p1⟩ := reps_one p
    obtain ⟨a, xs, rfl, h1, h2⟩ := rep_tup_of p1
    exact ⟨a, xs, rfl, .inr (SqT.of (s _ _ h1)), by rw [h2.length]; exact k _ _ hf (rep_int _)⟩
  · obtain ⟨v, rfl, p1⟩ := reps_one p
    obtain ⟨a, rfl, h1⟩ := rep_scr_of p1
    rename_i φ ns
    have hS : SqL K H a (ns.map V.int) := by
      rcases h1 with ⟨o, h1⟩ | h1
      · exact .inl (.inr ⟨o, s _ _ h1⟩)
      · exact hf.1 a H h1
    exact ⟨a, _, rfl, .inl hS, by rw [List.length_map]; exact k _ _ hf.2 (rep_int _)⟩
  · exact hf.elim
noncomputable def fMax : List D → (D → Prop) → Prop := fun ds q => match ds with
  | [.int i, .int j] => q (.int (if j > i then j else i))
  | _ => False
noncomputable def fMin : List D → (D → Prop) → Prop := fun ds q => match ds with
  | [.int i, .int j] => q (.int (if j < i then j else i))
  | _ => False
theorem dMax : DCall (fun xs H Q => ∃ i j, xs = [.int i, .int j] ∧ Q (.int (if j > i then j else i)) H) fMax := fun G H xs ds q Q s p hf k => by
  unfold fMax at hf
  split at hf
  · obtain ⟨v, u, rfl, p1, p2⟩ := reps_two p
    rw [rep_int_of p1, rep_int_of p2]
    exact ⟨_, _, rfl, k _ _ hf (rep_int _)⟩
  · exact hf.elim
theorem dMin : DCall (fun xs H Q => ∃ i j, xs = [.int i, .int j] ∧ Q (.int (if j < i then j else i)) H) fMin := fun G H xs ds q Q s p hf k => by
  unfold fMin at hf
  split at hf
  · obtain ⟨v, u, rfl, p1, p2⟩ := reps_two p
    rw [rep_int_of p1, rep_int_of p2]
    exact ⟨_, _, rfl, k _ _ hf (rep_int _)⟩
  · exact hf.elim
noncomputable def fInt1 : List D → (D → Prop) → Prop := fun ds q => match ds with
  | [.int i] => q (.int i)
  | [.bl k] => q (.int (if k then 1 else 0))
  | _ => False
theorem dInt1 : DCall (fun xs H Q => (∃ i, xs = [.int i] ∧ Q (.int i) H) ∨ ∃ k, xs = [.bl k] ∧ Q (.int (if k then 1 else 0)) H) fInt1 := fun G H xs ds q Q s p hf k => by
  unfold fInt1 at hf
  split at hf
  · obtain ⟨v, rfl, p1⟩ := reps_one p
    rw [rep_int_of p1]
    exact .inl ⟨_, rfl, k _ _ hf (rep_int _)⟩
  · obtain ⟨v, rfl, p1⟩ := reps_one p
    rw [rep_bl_of p1]
    exact .inr ⟨_, rfl, k _ _ hf (rep_int _)⟩
  · exact hf.elim
section
variable {X : Cx} {ow : List Bool} {a b c e : Expr} {ma mb mc : ME} {pos : Pos} {mr : MA} {es : List Expr}
/-- -x -/
noncomputable def mNeg (m : ME) : ME := fun ρ q => m ρ fun d ρ' => match d with
  | .int i => q (.int (-i)) ρ'
  | _ => False
theorem qe_neg (h : QE X ow a ma) : QE X ow (.UnaryOp .USub a pos) (mNeg ma) := by
  obtain ⟨t, p, s⟩ := h
  refine ⟨_, pe_un un_neg p, fun C G ρ σ H pd q Q r hm k => s C G ρ σ H pd _ _ r hm fun d ρ' v G' H' hq s kp r' p => ?_⟩
  cases d with
  | int i => exact ⟨i, rep_int_of p, k _ ρ' _ G' H' hq s kp r' (rep_int _)⟩
  | _ => exact hq.elim
/-- isinstance(x, T) -/
noncomputable def mIsT (T : String) (m : ME) : ME := fun ρ q => m ρ fun d ρ' => match isTy d T with
  | some b => q (.bl b) ρ'
  | none => False
theorem qe_isT {T : String} {x y : Str} {p1 p2 : Pos} (hg : Gl X x) (hm : X.mg x = none) (hv : bootBuiltins x = some (.builtin "isinstance")) (ha : QE X ow a ma) (ht : PE X (.Name y p2) (tC (.ty T)))
    (hn : x ≠ "__name__" := by decide) (hdb : (x == ("__debug__" : Str)) = false := by decide)
    (hs : starEach [.Name y p2] X.env = [(false, eval (.Name y p2) X.env)] := by rfl)
    (he : starEach [a, .Name y p2] X.env = (false, eval a X.env) :: starEach [.Name y p2] X.env := by rfl) (hpl : (backTo pos (starEach [.Name y p2] X.env)).any (·.1) = false := by rfl) :
    QE X ow (.Call (.Name x p1) [a, .Name y p2] [] pos) (mIsT T ma) := by
  obtain ⟨t, p, s⟩ := ha
  refine ⟨_, pe_callB call_isinst hg hm hv (pa_cons p (pa_cons ht pa_nil hs) he) hn hdb he hpl, fun C G ρ σ H pd q Q r hm k => s C G ρ σ H pd _ _ r hm fun d ρ' v G' H' hq s kp r' p => ?_⟩
  cases e : isTy d T with
  | none => rw [e] at hq; exact hq.elim
  | some b => rw [e] at hq; exact ⟨v, T, d, b, rfl, Rep.mono r'.gh _ _ p, e, k _ ρ' _ G' H' hq s kp r' (rep_bl _)⟩
/-- a < b < c -/
noncomputable def mChain (f g : D → D → (D → Prop) → Prop) (ma mb mc : ME) : ME := fun ρ q => ma ρ fun x ρ1 => mb ρ1 fun y ρ2 => f x y fun z => match z with
  | .bl k => if k = true then mc ρ2 fun w ρ3 => g y w fun d => q d ρ3 else q (.bl false) ρ2
  | _ => False
theorem se_chain {r r' : R2} {f g : D → D → (D → Prop) → Prop} {ta tb tc : TE} (hf : DOp r f) (hg : DOp r' g) (ha : SE ow ta ma) (hb : SE ow tb mb) (hc : SE ow tc mc) : SE ow (tChain r r' ta tb tc) (mChain f g ma mb mc) := fun C G ρ σ H pd q Q hr h k => by
  refine se_two (Q := fun x y H2 => r x y H2 _) ha hb hr h fun dx dy ρ' x y G' H' h1 s kp r1 p1 p2 => ?_
  refine hf G' H' x y dx dy _ _ r1.gh p1 p2 h1 fun d v hq p => ?_
  cases d with
  | bl b =>
    refine ⟨b, rep_bl_of p, ?_⟩
    change (if b = true then _ else _) at hq
    cases b with
    | true =>
      rw [if_pos rfl] at hq ⊢
      refine hc C G' ρ' σ H' pd _ _ r1 hq fun dw ρ3 w G3 H3 h3 s3 kp3 r3 p3 => ?_
      exact hg G3 H3 y w dy dw _ _ r3.gh (Rep.mono s3 _ _ p2) p3 h3 fun d v hq p => k d ρ3 v G3 H3 hq (s.trans s3) (kp.trans kp3) r3 p
    | false => rw [if_neg (by decide)] at hq ⊢; exact k _ ρ' _ G' H' hq s kp r1 (rep_bl _)
  | _ => exact hq.elim
theorem qe_chain {op op' : CmpOp} {r r' : R2} {f g : D → D → (D → Prop) → Prop} (ho : OpR X (compareOp op) r) (ho' : OpR X (compareOp op') r') (hf : DOp r f) (hg : DOp r' g) (ha : QE X ow a ma) (hb : QE X ow b mb) (hc : QE X ow c mc)
    (hm : lastMarks [op, op'] [b, c] = false := by with_unfolding_all rfl) : QE X ow (.Compare a [op, op'] [b, c] pos) (mChain f g ma mb mc) := by
  obtain ⟨ta, pa, sa⟩ := ha; obtain ⟨tb, pb, sb⟩ := hb; obtain ⟨tc, pc, sc⟩ := hc
  exact ⟨_, pe_chain ho ho' pa pb pc hm, se_chain hf hg sa sb sc⟩
/-! ### new lists: things of a list (a slice, list(..), a + b, a * n) without lists within are held; others shared -/
noncomputable def DNew (r : List V → Hp → VK → Prop) (f : List D → (List D → Prop) → Prop) : Prop := ∀ (G H : Hp) (xs : List V) (ds : List D) (q : List D → Prop) (Q : VK), Same G H → Reps G ds xs → f ds q →
  (∀ es ys p, q es → Reps G es ys → H p = none → Q (.ref p) (upd H p (.lst ys))) → r xs H Q
noncomputable def mNewS (f : List D → (List D → Prop) → Prop) (m : MA) : ME := fun ρ q => m ρ fun ds ρ' => f ds fun es => q (.lst es) ρ'
theorem se_new {r : List V → Hp → VK → Prop} {f : List D → (List D → Prop) → Prop} {t : TA} {n : Nat} (hd : DNew r f) (s : SA ow n t mr) : SE ow (fun σ H Q => t σ H fun xs H1 => r xs H1 Q) (mNewS f mr) := fun C G ρ σ H pd q Q hr hm k =>
  s C G ρ σ H pd _ _ hr hm fun ds ρ' vs G' H' hq z kp r' p hn => hd G' H' vs ds _ _ r'.gh p hq fun es ys a hq p ha => by
    obtain ⟨O, r'⟩ := r'
    obtain ⟨r2, s2⟩ := r'.new ha (.lst ys)
    exact k _ ρ' _ _ _ hq (z.trans s2) kp ⟨O, r2⟩ (rep_lst upd_same (Reps.mono s2 _ _ p))
/-- two arguments as one list of them -/
theorem sa_two {ta tb : TE} (ha : SE ow ta ma) (hb : SE ow tb mb) : SA ow 2 (fun σ H Q => ta σ H fun x H1 => tb σ H1 fun y H2 => Q [x, y] H2) (mCons ma (mCons mb mNil)) := fun C G ρ σ H pd q Q hr hm k =>
  se_two (Q := fun x y H2 => Q [x, y] H2) ha hb hr hm fun dx dy ρ' x y G' H' h1 s kp r1 p1 p2 => k [dx, dy] ρ' [x, y] G' H' h1 s kp r1 (reps_cons p1 (reps_cons p2 reps_nil)) rfl
theorem reps_app {G : Hp} : ∀ {ds es : List D} {xs ys : List V}, Reps G ds xs → Reps G es ys → Reps G (ds ++ es) (xs ++ ys)
  | [], es, xs, ys, h, h2 => by rw [Reps] at h; subst h; exact h2
  | d :: ds, es, xs, ys, h, h2 => by rw [Reps] at h; obtain ⟨v, vs, rfl, h1, h3⟩ := h; exact reps_cons h1 (reps_app h3 h2)
theorem reps_drop {G : Hp} : ∀ {ds : List D} {xs : List V} (n : Nat), Reps G ds xs → Reps G (ds.drop n) (xs.drop n)
  | [], xs, n, h => by rw [Reps] at h; subst h; simp; exact reps_nil
  | d :: ds, xs, 0, h => h
  | d :: ds, xs, n + 1, h => by rw [Reps] at h; obtain ⟨v, vs, rfl, h1, h3⟩ := h; exact reps_drop n h3
theorem reps_take {G : Hp} : ∀ {ds : List D} {xs : List V} (n : Nat), Reps G ds xs → Reps G (ds.take n) (xs.take n)
  | [], xs, n, h => by rw [Reps] at h; subst h; simp; exact reps_nil
  | d :: ds, xs, 0, h => by simp; exact reps_nil
  | d :: ds, xs, n + 1, h => by rw [Reps] at h; obtain ⟨v, vs, rfl, h1, h3⟩ := h; exact reps_cons h1 (reps_take n h3)
theorem reps_rep {G : Hp} {ds : List D} {xs : List V} (h : Reps G ds xs) : ∀ n : Nat, Reps G (List.replicate n ds).flatten (List.replicate n xs).flatten
  | 0 => by simp; exact reps_nil
  | n + 1 => by simp [List.replicate_succ]; exact reps_app h (reps_rep h n)
noncomputable def fCat : List D → (List D → Prop) → Prop := fun ds q => match ds with
  | [.lst xs, .lst ys] => xs.length + ys.length ≤ 1000 ∧ q (xs ++ ys)
  | _ => False
theorem dCat : DNew (fun xs H Q => ∃ x y, xs = [x, y] ∧ rCat x y H Q) fCat := fun G H xs ds q Q s p hf k => by
  unfold fCat at hf
  split at hf
  · obtain ⟨v, u, rfl, p1, p2⟩ := reps_two p
    rw [Rep] at p1 p2
    obtain ⟨a1, xs, rfl, h1, h2⟩ := p1
    obtain ⟨a2, ys, rfl, h3, h4⟩ := p2
    exact ⟨_, _, rfl, a1, a2, xs, ys, rfl, rfl, s _ _ h1, s _ _ h3, le_line (by rw [h2.length, h4.length]; exact hf.1), fun p hp => k _ _ p hf.2 (reps_app h2 h4) hp⟩
  · exact hf.elim
noncomputable def fRep : List D → (List D → Prop) → Prop := fun ds q => match ds with
  | [.lst xs, .int n] => (-(2 ^ 63) ≤ n ∧ n < 2 ^ 63 ∧ xs.length * n.toNat ≤ 1000) ∧ q (List.replicate n.toNat xs).flatten
  | _ => False
theorem dRep : DNew (fun xs H Q => ∃ x y, xs = [x, y] ∧ rRep x y H Q) fRep := fun G H xs ds q Q s p hf k => by
  unfold fRep at hf
  split at hf
  · obtain ⟨v, u, rfl, p1, p2⟩ := reps_two p
    obtain ⟨a1, xs, rfl, h1, h2⟩ := rep_lst_of p1
    rw [rep_int_of p2]
    exact ⟨_, _, rfl, a1, _, xs, rfl, rfl, s _ _ h1, hf.1.1, hf.1.2.1, le_line (by rw [h2.length]; exact hf.1.2.2), fun p hp => k _ _ p hf.2 (reps_rep h2 _) hp⟩
  · exact hf.elim
noncomputable def mMkS (f : List D → (List D → Prop) → Prop) (ma mb : ME) : ME := mNewS f (mCons ma (mCons mb mNil))
noncomputable def R2ok (r : R2) : List V → Hp → VK → Prop := fun xs H Q => match xs with
  | [x, y] => r x y H Q
  | _ => False
theorem DNew.r2 {r : R2} {f : List D → (List D → Prop) → Prop} (h : DNew (fun xs H Q => ∃ x y, xs = [x, y] ∧ r x y H Q) f) : DNew (R2ok r) f := fun G H xs ds q Q s p hf k => by
  obtain ⟨x, y, rfl, z⟩ := h G H xs ds q Q s p hf k
  exact z
theorem qe_mk {op : Operator} {r : R2} {f : List D → (List D → Prop) → Prop} (ho : OpR X (binaryOp op) r) (hd : DNew (fun xs H Q => ∃ x y, xs = [x, y] ∧ r x y H Q) f) (ha : QE X ow a ma) (hb : QE X ow b mb) : QE X ow (.BinOp a op b pos) (mMkS f ma mb) := by
  obtain ⟨ta, pa, sa⟩ := ha; obtain ⟨tb, pb, sb⟩ := hb
  exact ⟨tOp r ta tb, pe_op ho pa pb, se_new (r := R2ok r) hd.r2 (sa_two sa sb)⟩
/-- list(x) -/
noncomputable def fList : List D → (List D → Prop) → Prop := fun ds q => match ds with
  | [.lst xs] => q xs
  | [.tup xs] => q xs
  | _ => False
theorem dList {K : PySem.W.Frag} : DNew (fun xs H Q => ∃ p ys, xs = [.ref p] ∧ (SqL K H p ys ∨ SqT K H p ys) ∧ ∀ l, H l = none → Q (.ref l) (upd H l (.lst ys))) fList := fun G H xs ds q Q s p hf k => by
  unfold fList at hf
  split at hf
  · obtain ⟨v, rfl, p1⟩ := reps_one p
    obtain ⟨a, xs, rfl, h1, h2⟩ := rep_lst_of p1
    exact ⟨a, xs, rfl, .inl (SqL.of (s _ _ h1)), fun l hl => k _ _ l hf h2 hl⟩
  · obtain ⟨v, rfl, p1⟩ := reps_one p
    obtain ⟨a, xs, rfl, h1, h2⟩ := rep_tup_of p1
    exact ⟨a, xs, rfl, .inr (SqT.of (s _ _ h1)), fun l hl => k _ _ l hf h2 hl⟩
  · exact hf.elim
variable {x : Str} {p' : Pos}
theorem qe_callTyN {id : String} {r : List V → Hp → VK → Prop} {f : List D → (List D → Prop) → Prop} (hc : CallR X (.type id) r) (hd : DNew r f) (hg : Gl X x) (hm : X.mg x = none) (hv : bootBuiltins x = some (.type id)) (ha : QA X ow (e :: es) mr) (hn : x ≠ "__name__" := by decide) (hdb : (x == ("__debug__" : Str)) = false := by decide)
    (he : starEach (e :: es) X.env = (false, eval e X.env) :: starEach es X.env := by rfl) (hpl : (backTo pos (starEach es X.env)).any (·.1) = false := by rfl) : QE X ow (.Call (.Name x p') (e :: es) [] pos) (mNewS f mr) := by
  obtain ⟨t, p, s⟩ := ha
  exact ⟨_, pe_callTy hc hg hm hv p hn hdb he hpl, se_new hd s⟩
/-- a slice -/
noncomputable def cutD (xs : List D) (lo hi : Option Int) : List D := (xs.drop (HT.sIx xs.length 0 lo)).take (HT.sIx xs.length xs.length hi - HT.sIx xs.length 0 lo)
theorem reps_cut {G : Hp} {ds : List D} {xs : List V} (h : Reps G ds xs) (lo hi : Option Int) : Reps G (cutD ds lo hi) (cutV xs lo hi) := by
  unfold cutD cutV
  rw [h.length]
  exact reps_take _ (reps_drop _ h)
noncomputable abbrev MO := DSt → (Option Int → DSt → Prop) → Prop
noncomputable def SO (ow : List Bool) (t : TO) (m : MO) : Prop := ∀ (C : Ctx) (G : Hp) (ρ : DSt) (σ : St) (H : Hp) (pd : List (D × V)) (q : Option Int → DSt → Prop) (Q : Option Int → Hp → Prop), R C ow G ρ σ H pd → m ρ q →
  (∀ b ρ' G' H', q b ρ' → Same G G' → Kp ow ρ ρ' → R C ow G' ρ' σ H' pd → Q b H') → t σ H Q
structure QO (X : Cx) (ow : List Bool) (e : Option Expr) (m : MO) : Prop where
  ex : ∃ t, PO X e t ∧ SO ow t m
noncomputable def mNoPart : MO := fun ρ q => q none ρ
noncomputable def mPart (m : ME) : MO := fun ρ q => m ρ fun d ρ' => match d with
  | .int i => q (some i) ρ'
  | _ => False
theorem qo_none : QO X ow none mNoPart := ⟨_, po_none, fun C G ρ σ H pd q Q r h k => k none ρ G H h (Same.refl _) Kp.refl r⟩
theorem qo_some (h : QE X ow e ma) : QO X ow (some e) (mPart ma) := by
  obtain ⟨t, p, s⟩ := h
  refine ⟨_, po_some p, fun C G ρ σ H pd q Q r hm k => s C G ρ σ H pd _ _ r hm fun d ρ' v G' H' hq s kp r' p => ?_⟩
  cases d with
  | int i => exact ⟨i, rep_int_of p, k _ ρ' G' H' hq s kp r'⟩
  | _ => exact hq.elim
noncomputable def mSl (m : ME) (ml mh : MO) : ME := fun ρ q => m ρ fun d ρ1 => ml ρ1 fun lo ρ2 => mh ρ2 fun hi ρ3 => match d with
  | .lst ds => imms (cutD ds lo hi) = true ∧ q (.lst (cutD ds lo hi)) ρ3
  | _ => False
noncomputable def mSlS (m : ME) (ml mh : MO) : ME := fun ρ q => m ρ fun d ρ1 => ml ρ1 fun lo ρ2 => mh ρ2 fun hi ρ3 => match d with
  | .lst ds => q (.lst (cutD ds lo hi)) ρ3
  | _ => False
variable {lo hi : Option Expr} {ml mh : MO} {p2 : Pos}
theorem qe_slice (h : QE X ow e ma) (hl : QO X ow lo ml) (hh : QO X ow hi mh) : QE X ow (.Subscript e (.Slice lo hi none p2) pos) (mSlS ma ml mh) := by
  obtain ⟨t, p, s⟩ := h; obtain ⟨t1, p1, s1⟩ := hl; obtain ⟨t2, p2, s2⟩ := hh
  refine ⟨_, pe_slice sl_list p p1 p2, fun C G ρ σ H pd q Q r hm k => s C G ρ σ H pd _ _ r hm fun d ρ' v G' H' hq z kp r' p => ?_⟩
  refine s1 C G' ρ' σ H' pd _ _ r' hq fun l ρ1 G1 H1 hq1 z1 kp1 r1 => s2 C G1 ρ1 σ H1 pd _ _ r1 hq1 fun u ρ2 G2 H2 hq2 z2 kp2 r2 => ?_
  cases d with
  | lst ds =>
    obtain ⟨a, xs, rfl, h1, h2⟩ := rep_lst_of (Rep.mono (z1.trans z2) _ _ p)
    refine ⟨a, xs, rfl, SqL.of (r2.gh _ _ h1), fun b hb => ?_⟩
    obtain ⟨O, r2⟩ := r2
    obtain ⟨r3, z3⟩ := r2.new hb (.lst (cutV xs l u))
    exact k _ ρ2 _ _ _ hq2 (z.trans (z1.trans (z2.trans z3))) (kp.trans (kp1.trans kp2)) ⟨O, r3⟩ (rep_lst upd_same (Reps.mono z3 _ _ (reps_cut h2 _ _)))
  | _ => exact hq2.elim
end
end L2

set_option Elab.async false
set_option linter.all false
set_option maxRecDepth 100000
set_option maxHeartbeats 1000000
namespace L2
open PySem PySem.Spec PyProof.Rows
/-! ### into a frame and out of it -/
noncomputable def ownM (f : Nat → Option Nat) (O : Own) : Own := fun a => match O a with
  | some m => (f m.1).map fun l => (l, m.2)
  | none => none
theorem ownM_at {f : Nat → Option Nat} {O : Own} {a : Addr} {l l' : Nat} {π : List Nat} (h : O a = some (l, π)) (hf : f l = some l') : ownM f O a = some (l', π) := by unfold ownM; rw [h]; show (f l).map _ = _; rw [hf]; rfl
theorem ownM_of {f : Nat → Option Nat} {O : Own} {a : Addr} {l' : Nat} {π : List Nat} (h : ownM f O a = some (l', π)) : ∃ l, O a = some (l, π) ∧ f l = some l' := by
  unfold ownM at h
  cases e : O a with
  | none => rw [e] at h; cases h
  | some m =>
    rw [e] at h
    change (f m.1).map _ = _ at h
    cases e2 : f m.1 with
    | none => rw [e2] at h; cases h
    | some l => rw [e2] at h; cases h; exact ⟨m.1, rfl, e2⟩
theorem ownM_none {f : Nat → Option Nat} {O : Own} {a : Addr} {l : Nat} {π : List Nat} (h : O a = some (l, π)) (hf : f l = none) : ownM f O a = none := by unfold ownM; rw [h]; show (f l).map _ = _; rw [hf]; rfl
/-- the values of the written parameters -/
noncomputable def msV : List Bool → List V → List (Option V)
  | b :: bs, v :: vs => (if b = true then some v else none) :: msV bs vs
  | _, _ => []
theorem msV_of : ∀ {mu : List Bool} {vs : List V} {k : Nat} {v : V}, (msV mu vs)[k]? = some (some v) → mu[k]? = some true ∧ vs[k]? = some v
  | [], vs, k, v, h => by simp [msV] at h
  | b :: bs, [], k, v, h => by simp [msV] at h
  | b :: bs, u :: vs, 0, v, h => by
    simp only [msV, List.getElem?_cons_zero, Option.some.injEq] at h
    split at h
    · rename_i c; cases h; subst c; exact ⟨rfl, rfl⟩
    · cases h
  | b :: bs, u :: vs, k + 1, v, h => by
    simp only [msV, List.getElem?_cons_succ] at h
    simpa using msV_of h
theorem msV_at : ∀ {mu : List Bool} {vs : List V} {k : Nat} {v : V}, mu[k]? = some true → vs[k]? = some v → (msV mu vs)[k]? = some (some v)
  | [], vs, k, v, h, _ => by simp at h
  | b :: bs, [], k, v, _, h => by simp at h
  | b :: bs, u :: vs, 0, v, h, h2 => by simp at h h2; subst h; subst h2; simp [msV]
  | b :: bs, u :: vs, k + 1, v, h, h2 => by simp only [msV, List.getElem?_cons_succ]; exact msV_at (by simpa using h) (by simpa using h2)
section
variable {C : Ctx} {ow mu : List Bool} {G : Hp} {ρ : DSt} {σ : St} {H : Hp} {pd : List (D × V)} {O : Own} {fin fbk : Nat → Option Nat}
theorem RO.into (ro : RO C ow G ρ σ H pd O) {ds : List D} {vs : List V} (hl : ds.length = vs.length)
    (hs : ∀ (k : Nat) d, ds[k]? = some d → ∃ v, vs[k]? = some v ∧ if mu[k]? = some true then ∃ l, Sep G H O l d [] v ∧ fin l = some (2 * k) else Rep G d v)
    (hc : ∀ l l', fin l = some l' → ∃ k, l' = 2 * k ∧ mu[k]? = some true ∧ k < vs.length) :
    RO ⟨G, H, ownM fin O, msV mu vs, 0⟩ mu G (ds.map some) (vs.map some) H [] (ownM fin O) := by
  refine ⟨by simp [hl], ro.gh, fun _ _ e => e, fun _ _ e => .inl e, ?_, ?_, fun _ _ e _ => e, fun _ e => e, ?_, ?_, trivial, Nat.le_refl _⟩
  · intro a m e
    obtain ⟨l', π⟩ := m
    obtain ⟨l, e1, e2⟩ := ownM_of e
    obtain ⟨q1, q2, _⟩ := ro.og a _ e1
    exact ⟨q1, q2, .inr ⟨π, e⟩⟩
  · intro a l' π e
    obtain ⟨l, e1, e2⟩ := ownM_of e
    obtain ⟨k, rfl, h2, h3⟩ := hc _ _ e2
    exact .inl ⟨k, vs[k], rfl, msV_at h2 (List.getElem?_eq_getElem h3)⟩
  · intro k v e
    rw [List.getElem?_map, (msV_of e).2]; rfl
  · intro k d e
    rw [List.getElem?_map] at e
    cases e1 : ds[k]? with
    | none => rw [e1] at e; cases e
    | some d' =>
      rw [e1] at e
      cases e
      obtain ⟨v, h1, h2⟩ := hs k d e1
      refine ⟨v, by rw [List.getElem?_map, h1]; rfl, ?_⟩
      split at h2
      · rename_i c
        rw [if_pos c]
        obtain ⟨l, h3, h4⟩ := h2
        exact h3.keep (fun _ _ z => z) fun a τ q => ⟨ownM_at q h4, rfl⟩
      · rename_i c; rw [if_neg c]; exact h2
noncomputable def ownB (fin fbk : Nat → Option Nat) (O O2 : Own) : Own := fun a => match O2 a with
  | some m => (fbk m.1).map fun l => (l, m.2)
  | none => match ownM fin O a with
    | some _ => none
    | none => O a
theorem RO.out (ro : RO C ow G ρ σ H pd O) {vs : List V} {G2 : Hp} {ρ2 : DSt} {σ2 : St} {H2 : Hp} {pd2 pd3 : List (D × V)} {O2 : Own} {ρ3 : DSt} {ow2 : List Bool} {np : Nat} {mv : List (Option V)}
    (ri : RO ⟨G, H, ownM fin O, mv, np⟩ ow2 G2 ρ2 σ2 H2 pd2 O2) (hib : ∀ l0 l' l, fin l0 = some l' → fbk l' = some l → l = l0)
    (hlen : ρ3.length = σ.length) (hnp : C.np ≤ pd3.length)
    (hS : ∀ (i : Nat) d, ow[i]? ≠ some true → ρ3[i]? = some (some d) → ρ[i]? = some (some d))
    (hO : ∀ (i : Nat) d, ow[i]? = some true → ρ3[i]? = some (some d) → (fin (2 * i) = none ∧ ρ[i]? = some (some d)) ∨ ∃ (k : Nat) (v : V), fbk (2 * k) = some (2 * i) ∧ ow2[k]? = some true ∧ ρ2[k]? = some (some d) ∧ σ[i]? = some (some v) ∧ σ2[k]? = some (some v))
    (hP : ∀ (O3 : Own), (∀ a l π, O a = some (l, π) → fin l = none → O3 a = some (l, π) ∧ H2 a = H a) → (∀ a l l' π, O2 a = some (l', π) → fbk l' = some l → O3 a = some (l, π)) → TSame G G2 → Pend G2 H2 O3 pd3) :
    RO C ow G2 ρ3 σ H2 pd3 (ownB fin fbk O O2) := by
  have keep : ∀ a l π, O a = some (l, π) → fin l = none → ownB fin fbk O O2 a = some (l, π) ∧ H2 a = H a := fun a l π e hn => by
    have e1 := ownM_none (f := fin) e hn
    obtain ⟨g, ⟨xs, hx⟩, _⟩ := ro.og a _ e
    have e2 : O2 a = none := by
      cases q : O2 a with
      | none => rfl
      | some m =>
        obtain ⟨_, _, q3⟩ := ri.og a m q
        rcases q3 with q3 | ⟨π', q3⟩
        · change H a = none at q3; rw [hx] at q3; cases q3
        · change ownM fin O a = _ at q3; rw [e1] at q3; cases q3
    constructor
    · show (match O2 a with | some m => _ | none => _) = _
      rw [e2]
      show (match ownM fin O a with | some _ => none | none => O a) = _
      rw [e1]; exact e
    · rw [ri.fr a _ hx e1, hx]
  have come : ∀ a l l' π, O2 a = some (l', π) → fbk l' = some l → ownB fin fbk O O2 a = some (l, π) := fun a l l' π e hb => by
    show (match O2 a with | some m => _ | none => _) = _
    rw [e]
    show (fbk l').map _ = _
    rw [hb]; rfl
  have ts : TSame G G2 := (Same.ts ri.g0)
  refine ⟨hlen, ri.gh, fun a o e => ri.g0 a o (ro.g0 a o e), ?_, ?_, ro.cok, ?_, fun a e => ro.al a (ri.al a e), ro.mp, ?_, hP _ keep come ts, hnp⟩
  · intro a o e
    rcases ri.gn a o e with q | q
    · exact ro.gn a o q
    · exact .inr (ro.al a q)
  · intro a m e
    change (match O2 a with | some m => _ | none => _) = _ at e
    cases q : O2 a with
    | some m' =>
      rw [q] at e
      change (fbk m'.1).map _ = _ at e
      cases q2 : fbk m'.1 with
      | none => rw [q2] at e; cases e
      | some l =>
        rw [q2] at e; cases e
        obtain ⟨g1, g2, g3⟩ := ri.og a m' q
        refine ⟨g1, g2, ?_⟩
        rcases g3 with g3 | ⟨π', g3⟩
        · exact .inl (ro.al a g3)
        · obtain ⟨l0, g4, g5⟩ := ownM_of g3
          have := hib _ _ _ g5 q2
          subst this
          exact (ro.og a _ g4).2.2
    | none =>
      rw [q] at e
      change (match ownM fin O a with | some _ => none | none => O a) = _ at e
      cases q2 : ownM fin O a with
      | some _ => rw [q2] at e; cases e
      | none =>
        rw [q2] at e
        change O a = some m at e
        obtain ⟨g1, ⟨xs, g2⟩, g3⟩ := ro.og a m e
        refine ⟨?_, ⟨xs, ri.fr a _ g2 q2⟩, g3⟩
        cases z : G2 a with
        | none => rfl
        | some o =>
          rcases ri.gn a o z with z | z
          · change G a = _ at z; rw [g1] at z; cases z
          · change H a = _ at z; rw [g2] at z; cases z
  · intro a o e n
    have q := ro.fr a o e n
    refine ri.fr a o q ?_
    show ownM fin O a = none
    cases z : ownM fin O a with
    | none => rfl
    | some m =>
      obtain ⟨l', π⟩ := m
      obtain ⟨l, z1, _⟩ := ownM_of z
      obtain ⟨_, _, z3⟩ := ro.og a _ z1
      rcases z3 with z3 | ⟨_, z3⟩
      · rw [z3] at e; cases e
      · rw [z3] at n; cases n
  · intro i d e
    by_cases c : ow[i]? = some true
    · rcases hO i d c e with ⟨h1, h2⟩ | ⟨k, v, h1, h2, h3, h4, h5⟩
      · obtain ⟨v, q1, q2⟩ := ro.sl i d h2
        rw [if_pos c] at q2
        exact ⟨v, q1, by rw [if_pos c]; exact q2.keep ts fun a τ q => keep a _ _ q h1⟩
      · obtain ⟨v', q1, q2⟩ := ri.sl k d h3
        rw [if_pos h2] at q2
        rw [h5] at q1; cases q1
        exact ⟨v, h4, by rw [if_pos c]; exact q2.keep (fun _ _ z => z) fun a τ q => ⟨come _ _ _ _ q h1, rfl⟩⟩
    · obtain ⟨v, q1, q2⟩ := ro.sl i d (hS i d c e)
      rw [if_neg c] at q2
      exact ⟨v, q1, by rw [if_neg c]; exact q2.mono ri.g0⟩
end
/-! ### a def's promise over data -/
noncomputable def Ret (fr : Bool) (C : Ctx) (ow : List Bool) (G : Hp) (ρ : DSt) (σ : St) (H : Hp) (d : D) (v : V) : Prop := if fr = true then R C ow G ρ σ H [(d, v)] else R C ow G ρ σ H [] ∧ Rep G d v
/-- the written parameters' values -/
noncomputable def mus : List Bool → DSt → DSt
  | true :: bs, x :: ρ => x :: mus bs ρ
  | false :: bs, _ :: ρ => mus bs ρ
  | true :: bs, [] => none :: mus bs []
  | false :: bs, [] => mus bs []
  | [], _ => []
/-- so many slots -/
noncomputable def padS {α : Type} : Nat → List (Option α) → List (Option α)
  | 0, _ => []
  | n + 1, x :: ρ => x :: padS n ρ
  | n + 1, [] => none :: padS n []
theorem padS_len {α : Type} : ∀ (n : Nat) (ρ : List (Option α)), (padS n ρ).length = n
  | 0, _ => rfl
  | n + 1, x :: ρ => by simp [padS, padS_len n ρ]
  | n + 1, [] => by simp [padS, padS_len n []]
theorem padS_mus : ∀ (mu : List Bool) (ρ : DSt), mus mu (padS mu.length ρ) = mus mu ρ
  | [], _ => by simp [mus]
  | true :: bs, x :: ρ => by simp [padS, mus, padS_mus bs ρ]
  | false :: bs, x :: ρ => by simp [padS, mus, padS_mus bs ρ]
  | true :: bs, [] => by simp [padS, mus, padS_mus bs []]
  | false :: bs, [] => by simp [padS, mus, padS_mus bs []]
theorem padS_of {α : Type} : ∀ {n : Nat} {ρ : List (Option α)} {i : Nat} {d : α}, (padS n ρ)[i]? = some (some d) → i < n ∧ ρ[i]? = some (some d)
  | 0, _, _, _, h => by simp [padS] at h
  | n + 1, x :: ρ, 0, d, h => by simp [padS] at h; exact ⟨by omega, by simp [h]⟩
  | n + 1, x :: ρ, i + 1, d, h => by simp only [padS, List.getElem?_cons_succ] at h; obtain ⟨a, b⟩ := padS_of h; exact ⟨by omega, by simpa using b⟩
  | n + 1, [], 0, d, h => by simp [padS] at h
  | n + 1, [], i + 1, d, h => by simp only [padS, List.getElem?_cons_succ] at h; obtain ⟨a, b⟩ := padS_of h; simp at b
theorem padS_at {α : Type} : ∀ {n : Nat} {ρ : List (Option α)} {i : Nat} {d : α}, i < n → ρ[i]? = some (some d) → (padS n ρ)[i]? = some (some d)
  | 0, _, _, _, h, _ => by omega
  | n + 1, x :: ρ, 0, d, h, e => by simp at e; simp [padS, e]
  | n + 1, x :: ρ, i + 1, d, h, e => by simp only [padS, List.getElem?_cons_succ]; exact padS_at (by omega) (by simpa using e)
  | n + 1, [], i, d, h, e => by simp at e
noncomputable abbrev SpD := List D → (D → DSt → Prop) → Prop
noncomputable def spOf (mu : List Bool) (fr : Bool) (sd : SpD) : Sp := fun vs H Q _ => ∃ (C : Ctx) (G : Hp) (ds : List D) (q : D → DSt → Prop), C.np = 0 ∧ C.mu = msV mu vs ∧ R C mu G (ds.map some) (vs.map some) H [] ∧ sd ds q ∧ mu.length = ds.length ∧
  ∀ d ρ' σ' v G' H', q d (mus mu ρ') → Same G G' → ρ'.length = mu.length → Ret fr C mu G' ρ' σ' H' d v → Q v H'
end L2

set_option Elab.async false
set_option linter.all false
set_option maxRecDepth 100000
set_option maxHeartbeats 1000000
namespace L2
open PySem PySem.Spec PyProof.Rows
/-! ### statements over data -/
structure EndsD where
  nx : DSt → Prop
  rt : D → DSt → Prop
  bk : DSt → Prop := fun _ => False
  ct : DSt → Prop := fun _ => False
noncomputable abbrev MS := EndsD → DSt → Prop
structure Ks (C : Ctx) (ow : List Bool) (fr : Bool) (G : Hp) (n : EndsD) (D : Ends) : Prop where
  nx : ∀ ρ σ G' H, n.nx ρ → Same G G' → R C ow G' ρ σ H [] → D.nx σ H
  bk : ∀ ρ σ G' H, n.bk ρ → Same G G' → R C ow G' ρ σ H [] → D.bk σ H
  ct : ∀ ρ σ G' H, n.ct ρ → Same G G' → R C ow G' ρ σ H [] → D.ct σ H
  rt : ∀ d ρ σ v G' H, n.rt d ρ → Same G G' → Ret fr C ow G' ρ σ H d v → D.rt v H
theorem Ks.mono {C : Ctx} {ow : List Bool} {fr : Bool} {G G1 : Hp} {n : EndsD} {D : Ends} (h : Ks C ow fr G n D) (s : Same G G1) : Ks C ow fr G1 n D :=
  ⟨fun ρ σ G' H a b c => h.nx ρ σ G' H a (s.trans b) c, fun ρ σ G' H a b c => h.bk ρ σ G' H a (s.trans b) c, fun ρ σ G' H a b c => h.ct ρ σ G' H a (s.trans b) c, fun d ρ σ v G' H a b c => h.rt d ρ σ v G' H a (s.trans b) c⟩
noncomputable def MuOk (C : Ctx) (mu : List Bool) : Prop := ∀ (i : Nat) v, C.mu[i]? = some (some v) → mu[i]? = some true
theorem MuOk.no {C : Ctx} {mu : List Bool} (h : MuOk C mu) {i : Nat} (hi : mu[i]? ≠ some true) : ∀ v, C.mu[i]? ≠ some (some v) := fun v e => hi (h i v e)
/-- modes: which parameters are written, which slots are owned, whether what is handed back is held -/
structure Md where
  mu : List Bool
  ow : List Bool
  fr : Bool
noncomputable def SS (M : Md) (t : TS) (m : MS) : Prop := ∀ (C : Ctx) (G : Hp) (ρ : DSt) (σ : St) (H : Hp) (n : EndsD) (D : Ends), MuOk C M.mu → C.np = 0 → R C M.ow G ρ σ H [] → m n ρ → Ks C M.ow M.fr G n D → t D σ H
structure QS (X : Cx) (M : Md) (st : Stmt) (m : MS) : Prop where
  ex : ∃ t, PS X st t ∧ SS M t m
structure QSs (X : Cx) (M : Md) (st : List Stmt) (m : MS) : Prop where
  ex : ∃ t, PSs X st t ∧ SS M t m
section
variable {X : Cx} {M : Md} {a b c e : Expr} {ma mb mc : ME} {mt : MT} {pos pos' : Pos} {st : Stmt} {rest : List Stmt} {m m1 m2 : MS}
noncomputable def mSeq (m1 m2 : MS) : MS := fun n ρ => m1 { n with nx := fun ρ' => m2 n ρ' } ρ
noncomputable def mNext : MS := fun n ρ => n.nx ρ
theorem qss_nil : QSs X M [] mNext := ⟨_, pss_nil, fun C G ρ σ H n D hm hn r h k => k.nx ρ σ G H h (Same.refl _) r⟩
theorem qss_one (h : QS X M st m) : QSs X M [st] m := by obtain ⟨t, p, s⟩ := h; exact ⟨_, pss_one p, s⟩
theorem qss_cons (h : QS X M st m1) (h2 : QSs X M rest m2) : QSs X M (st :: rest) (mSeq m1 m2) := by
  obtain ⟨t, p, s⟩ := h; obtain ⟨t2, p2, s2⟩ := h2
  refine ⟨_, pss_cons p p2, fun C G ρ σ H n D hm hn r h k => s C G ρ σ H _ _ hm hn r h ?_⟩
  exact ⟨fun ρ' σ' G' H' h' z r' => s2 C G' ρ' σ' H' n D hm hn r' h' (k.mono z), k.bk, k.ct, k.rt⟩
noncomputable def mIfS (mt : MT) (m1 m2 : MS) : MS := fun n ρ => mt ρ fun b ρ1 => if b = true then m1 n ρ1 else m2 n ρ1
theorem qs_if {s1 s2 : List Stmt} (h : QT X M.ow c mt) (h1 : QSs X M s1 m1) (h2 : QSs X M s2 m2) : QS X M (.If c s1 s2 pos) (mIfS mt m1 m2) := by
  obtain ⟨t, p, s⟩ := h; obtain ⟨t1, p1, s1⟩ := h1; obtain ⟨t2, p2, s2⟩ := h2
  refine ⟨_, ps_if p p1 p2, fun C G ρ σ H n D hm hn r h k => s C G ρ σ H [] _ _ r h fun b ρ' G' H' hq z kp r' => ?_⟩
  cases b with
  | true => rw [if_pos rfl] at hq ⊢; exact s1 C G' ρ' σ H' n D hm hn r' hq (k.mono z)
  | false => rw [if_neg (by decide)] at hq ⊢; exact s2 C G' ρ' σ H' n D hm hn r' hq (k.mono z)
noncomputable def mRet (m : ME) : MS := fun n ρ => m ρ n.rt
theorem qs_ret (h : QE X M.ow e ma) (hf : M.fr = false := by rfl) : QS X M (.Return (some e) pos) (mRet ma) := by
  obtain ⟨t, p, s⟩ := h
  refine ⟨_, ps_ret p, fun C G ρ σ H n D hm hn r h k => s C G ρ σ H [] _ _ r h fun d ρ' v G' H' hq z kp r' p => k.rt d ρ' σ v G' H' hq z (by unfold Ret; rw [if_neg (by rw [hf]; decide)]; exact ⟨r', p⟩)⟩
theorem R.non {C : Ctx} {ow : List Bool} {fr : Bool} {G : Hp} {ρ : DSt} {σ : St} {H : Hp} (r : R C ow G ρ σ H []) : Ret fr C ow G ρ σ H .non .non := by
  unfold Ret
  split
  · obtain ⟨O, r⟩ := r
    exact ⟨O, r.len, r.gh, r.g0, r.gn, r.og, r.cok, r.fr, r.al, r.mp, r.sl, ⟨by rw [Sep], trivial⟩, Nat.le_succ_of_le r.np⟩
  · exact ⟨r, rep_non⟩
/-! ### names get values -/
noncomputable def mSet (i : Nat) (m : ME) : MS := fun n ρ => m ρ fun d ρ1 => n.nx (ρ1.set i (some d))
theorem ss_set {t : TE} {i : Nat} (s : SE M.ow t ma) (ho : M.ow[i]? ≠ some true) (hu : M.mu[i]? ≠ some true) : SS M (tAsg t (gName i)) (mSet i ma) := fun C G ρ σ H n D hm hn r h k =>
  s C G ρ σ H [] _ _ r h fun d ρ' v G' H' hq z kp r' p => by
    obtain ⟨O, r'⟩ := r'
    exact k.nx _ _ G' H' hq z ⟨O, r'.setS ho (hm.no hu) p⟩
theorem ss_setO {t : TE} {i : Nat} (s : SF M.ow t ma) (ho : M.ow[i]? = some true) (hu : M.mu[i]? ≠ some true) : SS M (tAsg t (gName i)) (mSet i ma) := fun C G ρ σ H n D hm hn r h k =>
  s C G ρ σ H [] _ _ r h fun d ρ' v G' H' hq z kp r' => by
    obtain ⟨O, r'⟩ := r'
    exact k.nx _ _ G' H' hq z (r'.setO ho (hm.no hu) (by rw [hn]; exact Nat.zero_le _))
theorem qs_set {i : Nat} {x : Str} (hN : X.N.Nodup) (hi : X.N[i]? = some x) (hx : Loc X.env.scope x) (he : QE X M.ow e ma) (ho : M.ow[i]? ≠ some true := by decide) (hu : M.mu[i]? ≠ some true := by decide) (hs : swapsWith e (some (.Name x pos')) pos.line X.env = pure false := by rfl) (hf : X.fn x = true ∨ X.env.scope.names.lookup x = some .local := by first | exact .inl rfl | exact .inr rfl | assumption) :
    QS X M (.Assign [.Name x pos'] e pos) (mSet i ma) := by
  obtain ⟨t, p, s⟩ := he
  exact ⟨_, ps_set hN hi hx p hs hf, ss_set s ho hu⟩
theorem qs_setO {i : Nat} {x : Str} (hN : X.N.Nodup) (hi : X.N[i]? = some x) (hx : Loc X.env.scope x) (he : QF X M.ow e ma) (ho : M.ow[i]? = some true := by decide) (hu : M.mu[i]? ≠ some true := by decide) (hs : swapsWith e (some (.Name x pos')) pos.line X.env = pure false := by rfl) (hf : X.fn x = true ∨ X.env.scope.names.lookup x = some .local := by first | exact .inl rfl | exact .inr rfl | assumption) :
    QS X M (.Assign [.Name x pos'] e pos) (mSet i ma) := by
  obtain ⟨t, p, s⟩ := he
  exact ⟨_, ps_set hN hi hx p hs hf, ss_setO s ho hu⟩
/-- a, b = x, y -/
noncomputable def mPar (i j : Nat) (ma mb : ME) : MS := fun n ρ => ma ρ fun x ρ1 => mb ρ1 fun y ρ2 => n.nx ((ρ2.set i (some x)).set j (some y))
theorem qs_par {i j : Nat} {x y : Str} {px py pt : Pos} {kt k2 pt2} (hc : X.calm = true) (hN : X.N.Nodup) (hi : X.N[i]? = some x) (hj : X.N[j]? = some y) (hij : i ≠ j)
    (hx : X.env.scope.names.lookup x = some .local) (hy : X.env.scope.names.lookup y = some .local) (ha : QE X M.ow a ma) (hb : QE X M.ow b mb)
    (hw : swappedStores [.Tuple [.Name x px, .Name y py] kt pt] (.Tuple [a, b] k2 pt2) X.env = pure (some [x, y]))
    (oi : M.ow[i]? ≠ some true := by decide) (oj : M.ow[j]? ≠ some true := by decide) (ui : M.mu[i]? ≠ some true := by decide) (uj : M.mu[j]? ≠ some true := by decide)
    (hs1 : starEach [a, b] X.env = (false, eval a X.env) :: starEach [b] X.env := by rfl) (hs2 : starEach [b] X.env = [(false, eval b X.env)] := by rfl)
    (hs : swapsWithSole [.Tuple [.Name x px, .Name y py] kt pt] (.Tuple [a, b] k2 pt2) pos.line X.env = pure false := by rfl) :
    QS X M (.Assign [.Tuple [.Name x px, .Name y py] kt pt] (.Tuple [a, b] k2 pt2) pos) (mPar i j ma mb) := by
  obtain ⟨ta, pa, sa⟩ := ha; obtain ⟨tb, pb, sb⟩ := hb
  refine ⟨_, ps_par hc hN hi hj hij hx hy (pa_cons pa (pa_cons pb pa_nil hs2) hs1) hw hs, fun C G ρ σ H n D hm hn r h k => ?_⟩
  refine se_two (Q := fun u w H2 => ∃ v w', [u, w] = [v, w'] ∧ D.nx ((σ.set i (some v)).set j (some w')) H2) sa sb r h fun dx dy ρ' u w G' H' hq z kp r' p1 p2 => ⟨u, w, rfl, ?_⟩
  obtain ⟨O, r'⟩ := r'
  exact k.nx _ _ G' H' hq z ⟨O, (r'.setS oi (hm.no ui) p1).setS oj (hm.no uj) p2⟩
/-! ### targets -/
noncomputable abbrev MG := D → DSt → (DSt → Prop) → Prop
noncomputable abbrev MGs := List D → DSt → (DSt → Prop) → Prop
noncomputable def SG (M : Md) (g : TG) (m : MG) : Prop := ∀ (C : Ctx) (G : Hp) (ρ : DSt) (σ : St) (H : Hp) (pd : List (D × V)) (d : D) (v : V) (k : DSt → Prop) (K : St → Hp → Prop), MuOk C M.mu → R C M.ow G ρ σ H pd → Rep G d v → m d ρ k →
  (∀ ρ' σ', k ρ' → R C M.ow G ρ' σ' H pd → K σ' H) → g v σ H K
noncomputable def SGs (M : Md) (g : TGs) (m : MGs) : Prop := ∀ (C : Ctx) (G : Hp) (ρ : DSt) (σ : St) (H : Hp) (pd : List (D × V)) (d : List D) (v : List V) (k : DSt → Prop) (K : St → Hp → Prop), MuOk C M.mu → R C M.ow G ρ σ H pd → Reps G d v → m d ρ k →
  (∀ ρ' σ', k ρ' → R C M.ow G ρ' σ' H pd → K σ' H) → g v σ H K
structure QG (X : Cx) (M : Md) (e : Expr) (m : MG) : Prop where
  ex : ∃ t, PG X e t ∧ SG M t m
structure QGs (X : Cx) (M : Md) (e : List Expr) (m : MGs) : Prop where
  ex : ∃ t, PGs X e t ∧ SGs M t m
noncomputable def gmName (i : Nat) : MG := fun d ρ k => k (ρ.set i (some d))
theorem qg_name {i : Nat} {x : Str} (hN : X.N.Nodup) (hi : X.N[i]? = some x) (hx : Loc X.env.scope x) (ho : M.ow[i]? ≠ some true := by decide) (hu : M.mu[i]? ≠ some true := by decide) (hf : X.fn x = true ∨ X.env.scope.names.lookup x = some .local := by first | exact .inl rfl | exact .inr rfl | assumption) : QG X M (.Name x pos) (gmName i) :=
  ⟨_, pg_name hN hi hx hf, fun C G ρ σ H pd d v k K hm r p h kk => by obtain ⟨O, r⟩ := r; exact kk _ _ h ⟨O, r.setS ho (hm.no hu) p⟩⟩
noncomputable def gmNil : MGs := fun ds ρ k => match ds with
  | [] => k ρ
  | _ => False
noncomputable def gmCons (t : MG) (u : MGs) : MGs := fun ds ρ k => match ds with
  | d :: ds => t d ρ fun ρ1 => u ds ρ1 k
  | [] => False
noncomputable def gmTup (t : MGs) : MG := fun d ρ k => match d with
  | .tup ds => t ds ρ k
  | _ => False
variable {mg : MG} {mgs : MGs} {es : List Expr}
theorem qgs_nil : QGs X M [] gmNil := ⟨_, pgs_nil, fun C G ρ σ H pd d v k K hm r p h kk => by
  cases d with
  | nil => rw [Reps] at p; exact ⟨p, kk _ _ h r⟩
  | cons _ _ => exact h.elim⟩
theorem qgs_cons (h1 : QG X M e mg) (h2 : QGs X M es mgs) (hs : (assignEach (e :: es) X.env).map (·.2) = assign e X.env :: (assignEach es X.env).map (·.2) := by rfl) : QGs X M (e :: es) (gmCons mg mgs) := by
  obtain ⟨t, p, s⟩ := h1; obtain ⟨t2, p2, s2⟩ := h2
  refine ⟨_, pgs_cons p p2 hs, fun C G ρ σ H pd d v k K hm r p h kk => ?_⟩
  cases d with
  | nil => exact h.elim
  | cons d ds =>
    rw [Reps] at p
    obtain ⟨v, vs, rfl, p1, p3⟩ := p
    exact ⟨v, vs, rfl, s C G ρ σ H pd d v _ _ hm r p1 h fun ρ' σ' h' r' => s2 C G ρ' σ' H pd ds vs k K hm r' p3 h' kk⟩
/-- how many things a target takes -/
noncomputable def takes (n : Nat) (m : MGs) : Prop := ∀ ds ρ k, m ds ρ k → ds.length = n
theorem takes_nil : takes 0 gmNil := fun ds ρ k h => by cases ds with | nil => rfl | cons _ _ => exact h.elim
theorem takes_cons1 {n : Nat} {i : Nat} (h : takes n mgs) : takes (n + 1) (gmCons (gmName i) mgs) := fun ds ρ k q => by
  cases ds with
  | nil => exact q.elim
  | cons d ds => simp [h ds _ _ q]
theorem qg_tup {kk : Nat} {n : Nat} (hc : X.calm = true) (h : QGs X M es mgs) (ht : takes n mgs)
    (hn : (assignEach es X.env).length = n := by rfl) (hst : (assignEach es X.env).findIdx? (·.1) = none := by rfl) : QG X M (.Tuple es kk pos) (gmTup mgs) := by
  obtain ⟨t, p, s⟩ := h
  refine ⟨_, pg_tup hc p hn hst, fun C G ρ σ H pd d v k K hm r p h kk => ?_⟩
  cases d with
  | tup ds =>
    obtain ⟨a, xs, rfl, h1, h2⟩ := rep_tup_of p
    exact ⟨a, xs, rfl, SqT.of (r.gh _ _ h1), by rw [h2.length]; exact ht _ _ _ h, s C G ρ σ H pd ds xs k K hm r h2 h kk⟩
  | _ => exact h.elim
/-- a, b = e (shared) -/
noncomputable def mAsg (m : ME) (g : MG) : MS := fun n ρ => m ρ fun d ρ1 => g d ρ1 n.nx
theorem qs_asg {tg : Expr} (he : QE X M.ow e ma) (hg : QG X M tg mg) (hs : swapsWithSole [tg] e pos.line X.env = pure false := by rfl) (hw : swappedStores [tg] e X.env = pure none := by rfl)
    (h1 : (assignEach [tg] X.env).map (·.2) = [assign tg X.env] := by rfl) : QS X M (.Assign [tg] e pos) (mAsg ma mg) := by
  obtain ⟨t, p, s⟩ := he; obtain ⟨t2, p2, s2⟩ := hg
  refine ⟨_, ps_asg p p2 hs hw h1, fun C G ρ σ H n D hm hn r h k => s C G ρ σ H [] _ _ r h fun d ρ' v G' H' hq z kp r' p => ?_⟩
  exact s2 C G' ρ' σ H' [] d v _ _ hm r' p hq fun ρ2 σ2 h2 r2 => k.nx ρ2 σ2 G' H' h2 z r2
/-- a call by itself -/
noncomputable def mDrop (m : ME) : MS := fun n ρ => m ρ fun _ ρ1 => n.nx ρ1
/-! ### owned lists are written -/
noncomputable def mAppend (i : Nat) (m : ME) : MS := fun n ρ => match ρ[i]? with
  | some (some (.lst _)) => m ρ fun d ρ1 => match ρ1[i]? with
    | some (some (.lst ds)) => ds.length < 1000 ∧ n.nx (ρ1.set i (some (.lst (ds ++ [d]))))
    | _ => False
  | _ => False
theorem qs_append {i : Nat} {x : Str} {apos cpos npos : Pos} (hN : X.N[i]? = some x) (he : QF X M.ow e ma) (ho : M.ow[i]? = some true := by decide)
    (hv : Vis X.env.scope x := by first | exact Or.inl rfl | exact Or.inr (Or.inl rfl) | exact Or.inr (Or.inr rfl)) (hd : (x == ("__debug__" : Str)) = false := by decide) (hcd : (x == ("__classdict__" : Str)) = false := by decide)
    (hbase : attributeBase (.Name x npos) "append" X.env (eval (.Name x npos) X.env) = eval (.Name x npos) X.env := by rfl)
    (hfew : ((backTo cpos (starEach [e] X.env)).all (fun x => !x.1) && (backToKw cpos (keywordEach [] X.env)).all (fun x => x.1.isSome)
      && decide ([e].length + ([] : List Keyword).length + (if ([] : List Keyword).isEmpty then 0 else 1) < 30)) = true := by rfl)
    (hline : (apos.endLine == cpos.line) = true := by rfl) (hst : starEach [e] X.env = [(false, eval e X.env)] := by rfl)
    (hs : swapsWith (.Call (.Attribute (.Name x npos) "append" apos) [e] [] cpos) none pos.line X.env = pure false := by rfl) :
    QS X M (.Expr (.Call (.Attribute (.Name x npos) "append" apos) [e] [] cpos) pos) (mAppend i ma) := by
  obtain ⟨t, p, s⟩ := he
  refine ⟨_, ps_expr (pe_bm PySem.F.plainAttrs_list PySem.F.slot_list_append PySem.F.type_list_append mt_append (pe_var hN hv hd hcd) (pa_cons p pa_nil hst) hbase hfew hline hst (by rfl)) hs, fun C G ρ σ H n D hm hn r h k => ?_⟩
  unfold mAppend at h
  split at h
  · rename_i ds e1
    obtain ⟨O, ro⟩ := r
    obtain ⟨a, xs, h1, h2, _, _⟩ := ro.write e1 ho
    refine ⟨.ref a, h1, .inl ⟨rfl, xs, SqL.of h2⟩, ?_⟩
    refine s C G ρ σ H [] _ _ ⟨O, ro⟩ h fun d ρ' v G' H' hq z kp r' => ?_
    split at hq
    · rename_i ds' e2
      obtain ⟨O', r'⟩ := r'
      obtain ⟨O2, r2, s2, s3⟩ := r'.join i ds'.length (by rw [hn]; exact Nat.zero_le _)
      obtain ⟨a', xs', g1, g2, g3, g4⟩ := r2.write e2 ho
      rw [h1] at g1; cases g1
      have hl := g3.length
      refine ⟨a, xs', v, rfl, rfl, g2, by rw [hl]; exact small1000 (Nat.le_of_lt hq.1), ?_⟩
      exact k.nx _ _ G' _ hq.2 z ⟨O2, g4 _ _ (g3.snoc (by simpa using s2))⟩
    · exact hq.elim
  · exact h.elim
noncomputable def mSetI (i : Nat) (mk m : ME) : MS := fun n ρ => m ρ fun d ρ1 => match ρ1[i]? with
  | some (some (.lst _)) => mk ρ1 fun k ρ2 => match ρ2[i]? with
    | some (some (.lst ds)) => match k with
      | .int j => match ixN ds.length j with
        | some p => n.nx (ρ2.set i (some (.lst (ds.set p d))))
        | none => False
      | _ => False
    | _ => False
  | _ => False
theorem qs_setI {i : Nat} {x : Str} {npos spos : Pos} (hN : X.N[i]? = some x) (he : QF X M.ow e ma) (hk : QE X M.ow b mb) (ho : M.ow[i]? = some true := by decide)
    (hv : Vis X.env.scope x := by first | exact Or.inl rfl | exact Or.inr (Or.inl rfl) | exact Or.inr (Or.inr rfl)) (hd : (x == ("__debug__" : Str)) = false := by decide) (hcd : (x == ("__classdict__" : Str)) = false := by decide)
    (ha : ∀ v, assign (.Subscript (.Name x npos) b spos) X.env v = (do
      let ov ← holding [v] (eval (.Name x npos) X.env)
      let iv ← holding [v, ov] (eval b X.env)
      standAt spos
      holding [v, ov, iv] (setItem ov iv v)
      release [v, ov, iv] []) := by intro _; rfl)
    (hs : swapsWithSole [.Subscript (.Name x npos) b spos] e pos.line X.env = pure false := by rfl) (hw : swappedStores [.Subscript (.Name x npos) b spos] e X.env = pure none := by rfl)
    (h1 : (assignEach [.Subscript (.Name x npos) b spos] X.env).map (·.2) = [assign (.Subscript (.Name x npos) b spos) X.env] := by rfl) :
    QS X M (.Assign [.Subscript (.Name x npos) b spos] e pos) (mSetI i mb ma) := by
  obtain ⟨t, p, s⟩ := he; obtain ⟨t2, p2, s2⟩ := hk
  refine ⟨_, ps_asg p (pg_sub (pe_var hN hv hd hcd) p2 set_list ha) hs hw h1, fun C G ρ σ H n D hm hn r h k => s C G ρ σ H [] _ _ r h fun d ρ' v G' H' hq z kp r' => ?_⟩
  split at hq
  · rename_i ds0 e0
    obtain ⟨O0, ro⟩ := r'
    obtain ⟨a, xs, hu, _, _, _⟩ := ro.write e0 ho
    refine ⟨.ref a, hu, ?_⟩
    refine s2 C G' ρ' σ H' _ _ _ ⟨O0, ro⟩ hq fun dk ρ2 jv G2 H2 hq2 z2 kp2 r2 pj => ?_
    split at hq2
    · rename_i ds e2
      cases dk with
      | int j =>
        dsimp only at hq2
        split at hq2
        · rename_i pl e3
          obtain ⟨O', r2⟩ := r2
          obtain ⟨O2, r3, w2, w3⟩ := r2.join i pl (by rw [hn]; exact Nat.zero_le _)
          obtain ⟨a', xs', g1, g2, g3, g4⟩ := r3.write e2 ho
          rw [hu] at g1; cases g1
          refine ⟨a, xs', j, pl, rfl, rep_int_of pj, g2, by rw [g3.length]; exact e3, ?_⟩
          exact k.nx _ _ G2 _ hq2 (z.trans z2) ⟨O2, g4 _ _ (g3.set (by simpa using w2))⟩
        · exact hq2.elim
      | _ => exact hq2.elim
    · exact hq2.elim
  · exact hq.elim
/-! ### loops -/
/-- what is walked: its things -/
noncomputable def ItOk (J : It) (G : Hp) (ds : List D) : Prop := ∀ (C : Ctx) (ow : List Bool) (G' : Hp) (ρ : DSt) (σ : St) (H : Hp) (pd : List (D × V)) (i : Nat), Same G G' → R C ow G' ρ σ H pd →
  (ds.length ≤ i → J.stop i H) ∧ ∀ d, ds[i]? = some d → J.go i H ∧ ∀ x H', J.yld i H x H' → ∃ G2, Same G' G2 ∧ R C ow G2 ρ σ H' pd ∧ Rep G2 d x
noncomputable def SI (ow : List Bool) (wi : TI) (mi : MA) : Prop := ∀ (C : Ctx) (G : Hp) (ρ : DSt) (σ : St) (H : Hp) (pd : List (D × V)) (q : List D → DSt → Prop) (Q : It → Hp → Prop), R C ow G ρ σ H pd → mi ρ q →
  (∀ ds ρ' G' H' J, q ds ρ' → Same G G' → Kp ow ρ ρ' → R C ow G' ρ' σ H' pd → ItOk J G' ds → Q J H') → wi σ H Q
structure QI (X : Cx) (ow : List Bool) (tg iter : Expr) (mi : MA) : Prop where
  ex : ∃ t, PI X tg iter t ∧ SI ow t mi
noncomputable def forD (g : MG) (mb : MS) (n : EndsD) (ds : List D) (ρ : DSt) : Prop := ∃ I : Nat → DSt → Prop, I 0 ρ ∧
  (∀ i d ρ, ds[i]? = some d → I i ρ → g d ρ fun ρ1 => mb { n with nx := I (i + 1), ct := I (i + 1), bk := n.nx } ρ1) ∧ ∀ ρ, I ds.length ρ → n.nx ρ
noncomputable def mFor (mi : MA) (g : MG) (mb : MS) : MS := fun n ρ => mi ρ fun ds ρ1 => forD g mb n ds ρ1
theorem qs_for {mi : MA} {tg iter : Expr} {body : List Stmt} (hp : PassesOwn (model X.prog X.w) X.A X.env X.xe) (hc : X.calm = true) (hi : QI X M.ow tg iter mi) (hg : QG X M tg mg) (hb : QSs X M body m)
    (hs : ∀ x, foldedSetIterable iter X.env x = pure x := by intro _; rfl) : QS X M (.For tg iter body [] pos) (mFor mi mg m) := by
  obtain ⟨ti, pi, si⟩ := hi; obtain ⟨tg', pg, sg⟩ := hg; obtain ⟨tb, pb, sb⟩ := hb
  refine ⟨_, ps_for hp hc pi pg pb hs, fun C G ρ σ H n D hm hn r h k => si C G ρ σ H [] _ _ r h fun ds ρ0 G0 H0 J hq z0 kp r0 jo => ?_⟩
  obtain ⟨I, i0, turn, fin⟩ := hq
  refine ⟨fun i j σ' H' => j = ds.length - i ∧ i ≤ ds.length ∧ ∃ G' ρ', Same G0 G' ∧ R C M.ow G' ρ' σ' H' [] ∧ I i ρ', ⟨_, rfl, Nat.zero_le _, G0, ρ0, Same.refl _, r0, i0⟩, ?_⟩
  rintro i j σ' H' ⟨rfl, hi, G', ρ', z, r', w⟩
  obtain ⟨st, go⟩ := jo C M.ow G' ρ' σ' H' [] i z r'
  by_cases hlt : i < ds.length
  · obtain ⟨g1, g2⟩ := go ds[i] (List.getElem?_eq_getElem hlt)
    refine .inr ⟨g1, fun σ2 H2 => ∃ G2 ρ2, Same G0 G2 ∧ R C M.ow G2 ρ2 σ2 H2 [] ∧ I (i + 1) ρ2, fun σ2 H2 h => ⟨ds.length - (i + 1), by omega, rfl, hlt, h⟩, fun x H1 hy => ?_⟩
    obtain ⟨G1, z1, r1, p1⟩ := g2 x H1 hy
    refine sg C G1 ρ' σ' H1 [] ds[i] x _ _ hm r1 p1 (turn i ds[i] ρ' (List.getElem?_eq_getElem hlt) w) fun ρ2 σ2 h2 r2 => ?_
    refine sb C G1 ρ2 σ2 H1 _ _ hm hn r2 h2 ⟨?_, ?_, ?_, ?_⟩
    · intro ρ3 σ3 G3 H3 h3 z3 r3; exact ⟨G3, ρ3, z.trans (z1.trans z3), r3, h3⟩
    · intro ρ3 σ3 G3 H3 h3 z3 r3; exact k.nx ρ3 σ3 G3 H3 h3 (z0.trans (z.trans (z1.trans z3))) r3
    · intro ρ3 σ3 G3 H3 h3 z3 r3; exact ⟨G3, ρ3, z.trans (z1.trans z3), r3, h3⟩
    · intro d ρ3 σ3 v G3 H3 h3 z3 r3; exact k.rt d ρ3 σ3 v G3 H3 h3 (z0.trans (z.trans (z1.trans z3))) r3
  · have e : i = ds.length := by omega
    subst e
    exact .inl ⟨st (Nat.le_refl _), k.nx ρ' σ' G' H' (fin ρ' w) (z0.trans z) r'⟩
end
end L2

set_option Elab.async false
set_option linter.all false
set_option maxRecDepth 100000
set_option maxHeartbeats 1000000
namespace L2
open PySem PySem.Spec PyProof.Rows
section
variable {X : Cx} {ow : List Bool} {a b c e tg : Expr} {ma mb mc : ME} {pos : Pos} {mr : MA} {es : List Expr}
/-! ### what is walked -/
theorem itl_ok {K : PySem.W.Frag} {G : Hp} {p : Addr} {xs : List V} {ds : List D} (h1 : G p = some (.lst xs)) (h2 : Reps G ds xs) : ItOk (Itl K p) G ds := fun C ow G' ρ σ H pd i z r => by
  have hp := r.gh _ _ (z _ _ h1)
  refine ⟨fun hl => ⟨xs, SqL.of hp, by rw [h2.length]; exact hl⟩, fun d e => ?_⟩
  obtain ⟨v, e1, e2⟩ := reps_get h2 e
  refine ⟨⟨xs, v, SqL.of hp, e1⟩, fun x H' hy => ?_⟩
  obtain ⟨rfl, hy⟩ := hy
  have := hy xs (SqL.of hp)
  rw [e1] at this; cases this
  exact ⟨G', Same.refl _, r, Rep.mono z _ _ e2⟩
noncomputable def miLst (m : ME) : MA := fun ρ q => m ρ fun d ρ' => match d with
  | .lst ds => q ds ρ'
  | _ => False
theorem qi_list (h : QE X ow e ma) : QI X ow tg e (miLst ma) := by
  obtain ⟨t, p, s⟩ := h
  refine ⟨_, pi_list p, fun C G ρ σ H pd q Q r hm k => s C G ρ σ H pd _ _ r hm fun d ρ' v G' H' hq z kp r' p => ?_⟩
  cases d with
  | lst ds => obtain ⟨a, xs, rfl, h1, h2⟩ := rep_lst_of p; exact ⟨a, rfl, ⟨xs, SqL.of (r'.gh _ _ h1)⟩, k ds ρ' G' H' _ hq z kp r' (itl_ok h1 h2)⟩
  | _ => exact hq.elim
/-- lo, lo + 1, .. -/
noncomputable def rngD (lo : Int) (n : Nat) : List D := (List.range n).map fun (i : Nat) => .int (lo + i)
theorem rngD_at {lo : Int} {n i : Nat} {d : D} (h : (rngD lo n)[i]? = some d) : i < n ∧ d = .int (lo + i) := by
  unfold rngD at h
  rw [List.getElem?_map] at h
  by_cases c : i < n
  · rw [List.getElem?_range c] at h; exact ⟨c, (Option.some.inj h).symm⟩
  · rw [List.getElem?_eq_none (by simp; omega)] at h; cases h
theorem rngD_len (lo : Int) (n : Nat) : (rngD lo n).length = n := by unfold rngD; simp
theorem itr_ok {G : Hp} {lo : Int} {n : Nat} : ItOk (Itr lo n) G (rngD lo n) := fun C ow G' ρ σ H pd i z r => by
  refine ⟨fun hl => by rw [rngD_len] at hl; exact hl, fun d e => ?_⟩
  obtain ⟨h1, rfl⟩ := rngD_at e
  refine ⟨h1, fun x H' hy => ?_⟩
  obtain ⟨rfl, rfl⟩ := hy
  exact ⟨G', Same.refl _, r, rep_int _⟩
noncomputable def miR1 (m : MA) : MA := fun ρ q => m ρ fun ds ρ' => match ds with
  | [.int j] => (-(2 ^ 62) ≤ j ∧ j < 2 ^ 62) ∧ q (rngD 0 j.toNat) ρ'
  | _ => False
noncomputable def miR2 (m : MA) : MA := fun ρ q => m ρ fun ds ρ' => match ds with
  | [.int i, .int j] => (-(2 ^ 62) ≤ i ∧ i < 2 ^ 62 ∧ -(2 ^ 62) ≤ j ∧ j < 2 ^ 62) ∧ q (rngD i (j - i).toNat) ρ'
  | _ => False
theorem qi_range1 {p : Pos} (hg : Gl X "range") (hm : X.mg "range" = none) (ha : QA X ow [a] mr) (hs : starEach [a] X.env = [(false, eval a X.env)] := by rfl) : QI X ow tg (.Call (.Name "range" p) [a] [] pos) (miR1 mr) := by
  obtain ⟨t, p, s⟩ := ha
  refine ⟨_, pi_range1 hg hm p hs, fun C G ρ σ H pd q Q r hm k => s C G ρ σ H pd _ _ r hm fun ds ρ' vs G' H' hq z kp r' p hn => ?_⟩
  split at hq
  · obtain ⟨v, rfl, p1⟩ := reps_one p
    rw [rep_int_of p1]
    exact ⟨_, rfl, hq.1.1, hq.1.2, k _ ρ' G' H' _ hq.2 z kp r' itr_ok⟩
  · exact hq.elim
theorem qi_range2 {p : Pos} (hg : Gl X "range") (hm : X.mg "range" = none) (ha : QA X ow [a, b] mr) (hs : starEach [a, b] X.env = [(false, eval a X.env), (false, eval b X.env)] := by rfl) (hs2 : starEach [b] X.env = [(false, eval b X.env)] := by rfl) : QI X ow tg (.Call (.Name "range" p) [a, b] [] pos) (miR2 mr) := by
  obtain ⟨t, p, s⟩ := ha
  refine ⟨_, pi_range2 hg hm p hs hs2, fun C G ρ σ H pd q Q r hm k => s C G ρ σ H pd _ _ r hm fun ds ρ' vs G' H' hq z kp r' p hn => ?_⟩
  split at hq
  · obtain ⟨v, u, rfl, p1, p2⟩ := reps_two p
    rw [rep_int_of p1, rep_int_of p2]
    exact ⟨_, _, rfl, hq.1, k _ ρ' G' H' _ hq.2 z kp r' itr_ok⟩
  · exact hq.elim
/-- (0, x), (1, y), .. -/
noncomputable def enuD (ds : List D) : List D := ds.mapIdx fun i d => .tup [.int i, d]
theorem enuD_len (ds : List D) : (enuD ds).length = ds.length := by unfold enuD; simp
theorem enuD_at {ds : List D} {i : Nat} {d : D} (h : (enuD ds)[i]? = some d) : ∃ d', ds[i]? = some d' ∧ d = .tup [.int i, d'] := by
  unfold enuD at h
  rw [List.getElem?_mapIdx] at h
  cases e : ds[i]? with
  | none => rw [e] at h; cases h
  | some d' => rw [e] at h; exact ⟨d', rfl, (Option.some.inj h).symm⟩
theorem ite_ok {G : Hp} {p : Addr} {xs : List V} {ds : List D} (h1 : G p = some (.lst xs)) (h2 : Reps G ds xs) : ItOk (Ite p) G (enuD ds) := fun C ow G' ρ σ H pd i z r => by
  have hp := r.gh _ _ (z _ _ h1)
  refine ⟨fun hl => ⟨xs, hp, by rw [h2.length]; rw [enuD_len] at hl; exact hl⟩, fun d e => ?_⟩
  obtain ⟨d', e0, rfl⟩ := enuD_at e
  obtain ⟨v, e1, e2⟩ := reps_get h2 e0
  refine ⟨⟨xs, v, hp, e1⟩, fun x H' hy => ?_⟩
  obtain ⟨a, x', ha, rfl, rfl, hy⟩ := hy
  have := hy xs hp
  rw [e1] at this; cases this
  obtain ⟨O, r⟩ := r
  obtain ⟨r2, s2⟩ := r.new ha (.tup [.int i, v])
  exact ⟨_, s2, ⟨O, r2⟩, rep_tup upd_same (reps_cons (rep_int _) (reps_cons (Rep.mono (z.trans s2) _ _ e2) reps_nil))⟩
noncomputable def miEnu (m : MA) : MA := fun ρ q => m ρ fun ds ρ' => match ds with
  | [.lst ds] => q (enuD ds) ρ'
  | _ => False
theorem qi_enum {k : Nat} {tpos p : Pos} (hg : Gl X "enumerate") (hm : X.mg "enumerate" = none) (ha : QA X ow [a] mr) (hs : starEach [a] X.env = [(false, eval a X.env)] := by rfl) : QI X ow (.Tuple es k tpos) (.Call (.Name "enumerate" p) [a] [] pos) (miEnu mr) := by
  obtain ⟨t, p, s⟩ := ha
  refine ⟨_, pi_enum hg hm p hs, fun C G ρ σ H pd q Q r hm k => s C G ρ σ H pd _ _ r hm fun ds ρ' vs G' H' hq z kp r' p hn => ?_⟩
  split at hq
  · obtain ⟨v, rfl, p1⟩ := reps_one p
    obtain ⟨a, xs, rfl, h1, h2⟩ := rep_lst_of p1
    exact ⟨a, rfl, ⟨xs, r'.gh _ _ h1⟩, k _ ρ' G' H' _ hq z kp r' (ite_ok h1 h2)⟩
  · exact hq.elim
/-! ### the value of an owned slot is handed on -/
noncomputable def mMove (i : Nat) : ME := fun ρ q => match ρ[i]? with
  | some (some d) => q d (ρ.set i none)
  | _ => False
end
/-! ### calls of defs -/
inductive AK where
  | s | m (i : Nat) | t
noncomputable def AK.isM : AK → Bool
  | .s => false
  | _ => true
/-- what the arguments come to, as they stand; t: held values, in their order -/
noncomputable def ArgsK (G : Hp) (σ : St) : List AK → List D → List V → List (D × V) → Prop
  | [], [], [], [] => True
  | .s :: ks, d :: ds, v :: vs, T => Rep G d v ∧ ArgsK G σ ks ds vs T
  | .m i :: ks, _ :: ds, v :: vs, T => σ[i]? = some (some v) ∧ ArgsK G σ ks ds vs T
  | .t :: ks, d :: ds, v :: vs, x :: T => x = (d, v) ∧ ArgsK G σ ks ds vs T
  | _, _, _, _ => False
noncomputable def SAk (ow : List Bool) (ks : List AK) (t : TA) (m : MA) : Prop := ∀ (C : Ctx) (G : Hp) (ρ : DSt) (σ : St) (H : Hp) (pd : List (D × V)) (q : List D → DSt → Prop) (Q : List V → Hp → Prop), R C ow G ρ σ H pd → m ρ q →
  (∀ ds ρ' vs T G' H', q ds ρ' → Same G G' → Kp ow ρ ρ' → R C ow G' ρ' σ H' (T.reverse ++ pd) → ArgsK G' σ ks ds vs T → Q vs H') → t σ H Q
structure QAk (X : Cx) (ow : List Bool) (ks : List AK) (es : List Expr) (m : MA) : Prop where
  ex : ∃ t, PA X es t ∧ SAk ow ks t m
section
variable {X : Cx} {ow : List Bool} {a b c e tg : Expr} {ma mb mc : ME} {pos : Pos} {mr : MA} {es : List Expr} {ks : List AK}
theorem qk_nil : QAk X ow [] [] mNil := ⟨_, pa_nil, fun C G ρ σ H pd q Q r h k => k [] ρ [] [] G H h (Same.refl _) Kp.refl r trivial⟩
theorem qk_s (ha : QE X ow e ma) (hr : QAk X ow ks es mr) (hs : starEach (e :: es) X.env = (false, eval e X.env) :: starEach es X.env := by rfl) : QAk X ow (.s :: ks) (e :: es) (mCons ma mr) := by
  obtain ⟨t, p, s⟩ := ha; obtain ⟨t2, p2, s2⟩ := hr
  refine ⟨_, pa_cons p p2 hs, fun C G ρ σ H pd q Q r hm k => s C G ρ σ H pd _ _ r hm fun d ρ' v G' H' hq z kp r' p => ?_⟩
  exact s2 C G' ρ' σ H' pd _ _ r' hq fun ds ρ2 vs T G2 H2 hq2 z2 kp2 r2 p2 => k (d :: ds) ρ2 (v :: vs) T G2 H2 hq2 (z.trans z2) (kp.trans kp2) r2 ⟨Rep.mono z2 _ _ p, p2⟩
/-- an owned slot's name: it is there, its value is looked up when all arguments are there -/
noncomputable def mConsM (i : Nat) (r : MA) : MA := fun ρ q => match ρ[i]? with
  | some (some _) => r ρ fun ds ρ2 => q (.non :: ds) ρ2
  | _ => False
theorem qk_m (i : Nat) {x : Str} (hr : QAk X ow ks es mr) (hN : X.N[i]? = some x := by rfl) (hv : Vis X.env.scope x := by first | exact Or.inl rfl | exact Or.inr (Or.inl rfl) | exact Or.inr (Or.inr rfl)) (hd : (x == ("__debug__" : Str)) = false := by decide)
    (hcd : (x == ("__classdict__" : Str)) = false := by decide) (hs : starEach (.Name x pos :: es) X.env = (false, eval (.Name x pos) X.env) :: starEach es X.env := by rfl) : QAk X ow (.m i :: ks) (.Name x pos :: es) (mConsM i mr) := by
  obtain ⟨t2, p2, s2⟩ := hr
  refine ⟨_, pa_cons (pe_var hN hv hd hcd) p2 hs, fun C G ρ σ H pd q Q r hm k => ?_⟩
  unfold mConsM at hm
  split at hm
  · rename_i d e
    obtain ⟨O, ro⟩ := r
    obtain ⟨v, h1, _⟩ := ro.sl i d e
    exact ⟨v, h1, s2 C G ρ σ H pd _ _ ⟨O, ro⟩ hm fun ds ρ2 vs T G2 H2 hq2 z2 kp2 r2 p2 => k (.non :: ds) ρ2 (v :: vs) T G2 H2 hq2 z2 kp2 r2 ⟨h1, p2⟩⟩
  · exact hm.elim
noncomputable def fillA : List AK → List D → DSt → Option (List D)
  | [], [], _ => some []
  | .s :: ks, d :: ds, ρ => (fillA ks ds ρ).map (d :: ·)
  | .t :: ks, d :: ds, ρ => (fillA ks ds ρ).map (d :: ·)
  | .m i :: ks, _ :: ds, ρ => match ρ[i]? with
    | some (some d) => (fillA ks ds ρ).map (d :: ·)
    | _ => none
  | _, _, _ => none
/-- the labels of the written arguments -/
noncomputable def lbs : List AK → Nat → List (Option Nat)
  | [], _ => []
  | .s :: ks, r => none :: lbs ks r
  | .m i :: ks, r => some (2 * i) :: lbs ks r
  | .t :: ks, r => some (2 * r + 1) :: lbs ks (r + 1)
noncomputable def slotsOf : List AK → List Nat
  | [] => []
  | .m i :: ks => i :: slotsOf ks
  | _ :: ks => slotsOf ks
noncomputable def fnd (l : Nat) : List (Option Nat) → Nat → Option Nat
  | [], _ => none
  | x :: xs, k => if x = some l then some k else fnd l xs (k + 1)
theorem fnd_of {l : Nat} : ∀ {xs : List (Option Nat)} {k j : Nat}, fnd l xs k = some j → ∃ i, j = k + i ∧ xs[i]? = some (some l)
  | [], _, _, h => by cases h
  | x :: xs, k, j, h => by
    unfold fnd at h
    split at h
    · rename_i c; cases h; exact ⟨0, rfl, by simp [c]⟩
    · obtain ⟨i, rfl, e⟩ := fnd_of h; exact ⟨i + 1, by omega, by simpa using e⟩
theorem fnd_none {l : Nat} : ∀ {xs : List (Option Nat)} {k : Nat}, (∀ i : Nat, xs[i]? ≠ some (some l)) → fnd l xs k = none
  | [], _, _ => rfl
  | x :: xs, k, h => by
    unfold fnd
    rw [if_neg (fun c => h 0 (by simp [c]))]
    exact fnd_none fun i => by simpa using h (i + 1)
theorem fnd_at {l : Nat} : ∀ {xs : List (Option Nat)} {k i : Nat}, (∀ (i j : Nat) (l : Nat), xs[i]? = some (some l) → xs[j]? = some (some l) → i = j) → xs[i]? = some (some l) → fnd l xs k = some (k + i)
  | [], _, _, _, h => by simp at h
  | x :: xs, k, i, u, h => by
    unfold fnd
    by_cases c : x = some l
    · rw [if_pos c]
      have := u 0 i l (by simp [c]) h
      subst this; rfl
    · rw [if_neg c]
      cases i with
      | zero => simp at h; exact absurd h c
      | succ i =>
        have := fnd_at (k := k + 1) (i := i) (fun i j l a b => by have := u (i + 1) (j + 1) l (by simpa using a) (by simpa using b); omega) (by simpa using h)
        rw [this]; congr 1; omega
theorem lbs_odd : ∀ {ks : List AK} {r : Nat} {i l : Nat}, (lbs ks r)[i]? = some (some l) → (∃ j ∈ slotsOf ks, l = 2 * j) ∨ ∃ j, r ≤ j ∧ l = 2 * j + 1
  | [], _, _, _, h => by simp [lbs] at h
  | .s :: ks, r, 0, l, h => by simp [lbs] at h
  | .s :: ks, r, i + 1, l, h => by simp only [lbs, List.getElem?_cons_succ] at h; have := lbs_odd (ks := ks) h; simpa [slotsOf] using this
  | .m j :: ks, r, 0, l, h => by simp [lbs] at h; exact .inl ⟨j, by simp [slotsOf], h.symm⟩
  | .m j :: ks, r, i + 1, l, h => by
    simp only [lbs, List.getElem?_cons_succ] at h
    rcases lbs_odd h with ⟨z, h1, h2⟩ | h
    · exact .inl ⟨z, by simp [slotsOf, h1], h2⟩
    · exact .inr h
  | .t :: ks, r, 0, l, h => by simp [lbs] at h; exact .inr ⟨r, Nat.le_refl _, h.symm⟩
  | .t :: ks, r, i + 1, l, h => by
    simp only [lbs, List.getElem?_cons_succ] at h
    rcases lbs_odd h with ⟨z, h1, h2⟩ | ⟨j, h1, h2⟩
    · exact .inl ⟨z, by simpa [slotsOf] using h1, h2⟩
    · exact .inr ⟨j, by omega, h2⟩
theorem lbs_uniq : ∀ {ks : List AK} {r : Nat}, (slotsOf ks).Nodup → ∀ (i j l : Nat), (lbs ks r)[i]? = some (some l) → (lbs ks r)[j]? = some (some l) → i = j
  | [], _, _, i, j, l, h, _ => by simp [lbs] at h
  | .s :: ks, r, nd, 0, j, l, h, _ => by simp [lbs] at h
  | .s :: ks, r, nd, i + 1, 0, l, _, h => by simp [lbs] at h
  | .s :: ks, r, nd, i + 1, j + 1, l, h, h2 => by simp only [lbs, List.getElem?_cons_succ] at h h2; rw [lbs_uniq (ks := ks) (by simpa [slotsOf] using nd) i j l h h2]
  | .m a :: ks, r, nd, 0, 0, l, _, _ => rfl
  | .m a :: ks, r, nd, 0, j + 1, l, h, h2 => by
    simp only [lbs, List.getElem?_cons_succ] at h2; simp [lbs] at h
    simp only [slotsOf, List.nodup_cons] at nd
    rcases lbs_odd h2 with ⟨z, h3, h4⟩ | ⟨z, h3, h4⟩
    · exact absurd h3 (by rw [show z = a by omega]; exact nd.1)
    · omega
  | .m a :: ks, r, nd, i + 1, 0, l, h2, h => by
    simp only [lbs, List.getElem?_cons_succ] at h2; simp [lbs] at h
    simp only [slotsOf, List.nodup_cons] at nd
    rcases lbs_odd h2 with ⟨z, h3, h4⟩ | ⟨z, h3, h4⟩
    · exact absurd h3 (by rw [show z = a by omega]; exact nd.1)
    · omega
  | .m a :: ks, r, nd, i + 1, j + 1, l, h, h2 => by
    simp only [slotsOf, List.nodup_cons] at nd
    simp only [lbs, List.getElem?_cons_succ] at h h2; rw [lbs_uniq (ks := ks) nd.2 i j l h h2]
  | .t :: ks, r, nd, 0, 0, l, _, _ => rfl
  | .t :: ks, r, nd, 0, j + 1, l, h, h2 => by
    simp only [lbs, List.getElem?_cons_succ] at h2; simp [lbs] at h
    rcases lbs_odd h2 with ⟨z, h3, h4⟩ | ⟨z, h3, h4⟩ <;> omega
  | .t :: ks, r, nd, i + 1, 0, l, h2, h => by
    simp only [lbs, List.getElem?_cons_succ] at h2; simp [lbs] at h
    rcases lbs_odd h2 with ⟨z, h3, h4⟩ | ⟨z, h3, h4⟩ <;> omega
  | .t :: ks, r, nd, i + 1, j + 1, l, h, h2 => by simp only [lbs, List.getElem?_cons_succ] at h h2; rw [lbs_uniq (ks := ks) (by simpa [slotsOf] using nd) i j l h h2]
end
end L2

set_option Elab.async false
set_option linter.all false
set_option maxRecDepth 100000
set_option maxHeartbeats 1000000
namespace L2
open PySem PySem.Spec PyProof.Rows
theorem pend_tail {G H : Hp} {O : Own} : ∀ {T pd : List (D × V)}, Pend G H O (T ++ pd) → Pend G H O pd
  | [], _, h => h
  | _ :: T, _, h => pend_tail (T := T) h.2
theorem pend_at {G H : Hp} {O : Own} : ∀ {T pd : List (D × V)} {j : Nat} {x : D × V}, Pend G H O (T.reverse ++ pd) → T[j]? = some x → Sep G H O (2 * (pd.length + j) + 1) x.1 [] x.2
  | [], _, _, _, _, e => by simp at e
  | y :: T, pd, j, x, h, e => by
    have h' : Pend G H O (T.reverse ++ (y :: pd)) := by simpa using h
    cases j with
    | zero => simp at e; subst e; exact (pend_tail h').1
    | succ j =>
      have := pend_at (j := j) h' (by simpa using e)
      rw [show pd.length + (j + 1) = (y :: pd).length + j by simp; omega]
      exact this
theorem args_at {G H : Hp} {O : Own} {σ : St} {ρ : DSt} : ∀ {ks : List AK} {ds ds' : List D} {vs : List V} {T : List (D × V)} {r : Nat}, ArgsK G σ ks ds vs T → fillA ks ds ρ = some ds' →
    (∀ (j : Nat) x, T[j]? = some x → Sep G H O (2 * (r + j) + 1) x.1 [] x.2) → (∀ i ∈ slotsOf ks, ∀ d, ρ[i]? = some (some d) → ∃ v, σ[i]? = some (some v) ∧ Sep G H O (2 * i) d [] v) →
    ds'.length = vs.length ∧ vs.length = ks.length ∧ ∀ (k : Nat) d, ds'[k]? = some d → ∃ v, vs[k]? = some v ∧ ((∃ l, (lbs ks r)[k]? = some (some l) ∧ (ks.map AK.isM)[k]? = some true ∧ Sep G H O l d [] v) ∨ ((ks.map AK.isM)[k]? = some false ∧ Rep G d v))
  | [], [], ds', [], [], r, _, hf, _, _ => by simp [fillA] at hf; subst hf; exact ⟨rfl, rfl, fun k d e => by simp at e⟩
  | .s :: ks, d :: ds, ds', v :: vs, T, r, h, hf, hT, hS => by
    rw [fillA] at hf
    cases e : fillA ks ds ρ with
    | none => rw [e] at hf; cases hf
    | some es =>
      rw [e] at hf; cases hf
      obtain ⟨l1, l2, ih⟩ := args_at (ks := ks) h.2 e hT (fun i hi => hS i (by simpa [slotsOf] using hi))
      refine ⟨by simp [l1], by simp [l2], fun k d' e' => ?_⟩
      cases k with
      | zero => simp at e'; subst e'; exact ⟨v, rfl, .inr ⟨rfl, h.1⟩⟩
      | succ k => obtain ⟨u, g1, g2⟩ := ih k d' (by simpa using e'); exact ⟨u, by simpa using g1, by simpa [lbs] using g2⟩
  | .m i :: ks, d :: ds, ds', v :: vs, T, r, h, hf, hT, hS => by
    rw [fillA] at hf
    cases e0 : ρ[i]? with
    | none => rw [e0] at hf; cases hf
    | some o =>
      cases o with
      | none => rw [e0] at hf; cases hf
      | some d0 =>
        rw [e0] at hf
        dsimp only at hf
        cases e : fillA ks ds ρ with
        | none => rw [e] at hf; cases hf
        | some es =>
          rw [e] at hf; cases hf
          obtain ⟨l1, l2, ih⟩ := args_at (ks := ks) h.2 e hT (fun i hi => hS i (by simp [slotsOf, hi]))
          refine ⟨by simp [l1], by simp [l2], fun k d' e' => ?_⟩
          cases k with
          | zero =>
            simp at e'; subst e'
            obtain ⟨u, g1, g2⟩ := hS i (by simp [slotsOf]) d0 e0
            rw [h.1] at g1; cases g1
            exact ⟨v, rfl, .inl ⟨2 * i, by simp [lbs], rfl, g2⟩⟩
          | succ k => obtain ⟨u, g1, g2⟩ := ih k d' (by simpa using e'); exact ⟨u, by simpa using g1, by simpa [lbs] using g2⟩
  | .t :: ks, d :: ds, ds', v :: vs, x :: T, r, h, hf, hT, hS => by
    rw [fillA] at hf
    cases e : fillA ks ds ρ with
    | none => rw [e] at hf; cases hf
    | some es =>
      rw [e] at hf; cases hf
      obtain ⟨l1, l2, ih⟩ := args_at (ks := ks) (r := r + 1) h.2 e (fun j x e => by rw [show r + 1 + j = r + (j + 1) by omega]; exact hT (j + 1) x (by simpa using e)) (fun i hi => hS i (by simpa [slotsOf] using hi))
      refine ⟨by simp [l1], by simp [l2], fun k d' e' => ?_⟩
      cases k with
      | zero =>
        simp at e'; subst e'
        have := hT 0 x rfl
        rw [h.1] at this
        exact ⟨v, rfl, .inl ⟨2 * r + 1, by simp [lbs], rfl, this⟩⟩
      | succ k => obtain ⟨u, g1, g2⟩ := ih k d' (by simpa using e'); exact ⟨u, by simpa using g1, by simpa [lbs] using g2⟩
  | [], _ :: _, _, _, _, _, h, _, _, _ => h.elim
  | [], [], _, _ :: _, _, _, h, _, _, _ => h.elim
  | [], [], _, [], _ :: _, _, h, _, _, _ => h.elim
  | .s :: _, [], _, _, _, _, h, _, _, _ => h.elim
  | .s :: _, _ :: _, _, [], _, _, h, _, _, _ => h.elim
  | .m _ :: _, [], _, _, _, _, h, _, _, _ => h.elim
  | .m _ :: _, _ :: _, _, [], _, _, h, _, _, _ => h.elim
  | .t :: _, [], _, _, _, _, h, _, _, _ => h.elim
  | .t :: _, _ :: _, _, [], _, _, h, _, _, _ => h.elim
  | .t :: _, _ :: _, _, _ :: _, [], _, h, _, _, _ => h.elim
theorem args_slot {G : Hp} {σ : St} : ∀ {ks : List AK} {ds : List D} {vs : List V} {T : List (D × V)} {k i : Nat}, ArgsK G σ ks ds vs T → ks[k]? = some (.m i) → ∃ v, vs[k]? = some v ∧ σ[i]? = some (some v)
  | [], _, _, _, k, i, _, e => by simp at e
  | .s :: ks, d :: ds, v :: vs, T, 0, i, h, e => by simp at e
  | .s :: ks, d :: ds, v :: vs, T, k + 1, i, h, e => by obtain ⟨u, g1, g2⟩ := args_slot (k := k) h.2 (by simpa using e); exact ⟨u, by simpa using g1, g2⟩
  | .m j :: ks, d :: ds, v :: vs, T, 0, i, h, e => by simp at e; subst e; exact ⟨v, rfl, h.1⟩
  | .m j :: ks, d :: ds, v :: vs, T, k + 1, i, h, e => by obtain ⟨u, g1, g2⟩ := args_slot (k := k) h.2 (by simpa using e); exact ⟨u, by simpa using g1, g2⟩
  | .t :: ks, d :: ds, v :: vs, x :: T, 0, i, h, e => by simp at e
  | .t :: ks, d :: ds, v :: vs, x :: T, k + 1, i, h, e => by obtain ⟨u, g1, g2⟩ := args_slot (k := k) h.2 (by simpa using e); exact ⟨u, by simpa using g1, g2⟩
  | .s :: _, [], _, _, _, _, h, _ => h.elim
  | .s :: _, _ :: _, [], _, _, _, h, _ => h.elim
  | .m _ :: _, [], _, _, _, _, h, _ => h.elim
  | .m _ :: _, _ :: _, [], _, _, _, h, _ => h.elim
  | .t :: _, [], _, _, _, _, h, _ => h.elim
  | .t :: _, _ :: _, [], _, _, _, h, _ => h.elim
  | .t :: _, _ :: _, _ :: _, [], _, _, h, _ => h.elim
/-- what the written slots get -/
noncomputable def putR : List AK → DSt → DSt → DSt
  | .m i :: ks, x :: ρ2, ρ => putR ks ρ2 (ρ.set i x)
  | _ :: ks, _ :: ρ2, ρ => putR ks ρ2 ρ
  | _, _, ρ => ρ
noncomputable def putK : List AK → DSt → DSt → DSt
  | .s :: ks, os, ρ => putK ks os ρ
  | .m i :: ks, o :: os, ρ => putK ks os (ρ.set i o)
  | .t :: ks, _ :: os, ρ => putK ks os ρ
  | _, _, ρ => ρ
theorem putK_eq : ∀ {ks : List AK} {ρ2 ρ : DSt}, ρ2.length = ks.length → putK ks (mus (ks.map AK.isM) ρ2) ρ = putR ks ρ2 ρ
  | [], [], ρ, _ => rfl
  | .s :: ks, x :: ρ2, ρ, h => by simp only [List.map, AK.isM, mus, putK, putR]; exact putK_eq (by simpa using h)
  | .m i :: ks, x :: ρ2, ρ, h => by simp only [List.map, AK.isM, mus, putK, putR]; exact putK_eq (by simpa using h)
  | .t :: ks, x :: ρ2, ρ, h => by simp only [List.map, AK.isM, mus, putK, putR]; exact putK_eq (by simpa using h)
theorem putR_len : ∀ {ks : List AK} {ρ2 ρ : DSt}, (putR ks ρ2 ρ).length = ρ.length
  | [], _, _ => by simp [putR]
  | .s :: ks, [], _ => by simp [putR]
  | .m i :: ks, [], _ => by simp [putR]
  | .t :: ks, [], _ => by simp [putR]
  | .s :: ks, x :: ρ2, ρ => by simp only [putR]; exact putR_len
  | .m i :: ks, x :: ρ2, ρ => by simp only [putR]; rw [putR_len]; simp
  | .t :: ks, x :: ρ2, ρ => by simp only [putR]; exact putR_len
theorem putR_off : ∀ {ks : List AK} {ρ2 ρ : DSt} {i : Nat}, i ∉ slotsOf ks → (putR ks ρ2 ρ)[i]? = ρ[i]?
  | [], _, _, _, _ => by simp [putR]
  | .s :: ks, [], _, _, _ => by simp [putR]
  | .m i :: ks, [], _, _, _ => by simp [putR]
  | .t :: ks, [], _, _, _ => by simp [putR]
  | .s :: ks, x :: ρ2, ρ, i, h => by simp only [putR]; exact putR_off (by simpa [slotsOf] using h)
  | .t :: ks, x :: ρ2, ρ, i, h => by simp only [putR]; exact putR_off (by simpa [slotsOf] using h)
  | .m j :: ks, x :: ρ2, ρ, i, h => by
    simp only [putR]
    simp only [slotsOf, List.mem_cons, not_or] at h
    rw [putR_off h.2, List.getElem?_set_ne (Ne.symm h.1)]
theorem putR_at : ∀ {ks : List AK} {ρ2 ρ : DSt} {i : Nat} {d : D}, (putR ks ρ2 ρ)[i]? = some (some d) → ρ2.length = ks.length → (i ∉ slotsOf ks ∧ ρ[i]? = some (some d)) ∨ ∃ k : Nat, ks[k]? = some (.m i) ∧ ρ2[k]? = some (some d)
  | [], [], ρ, i, d, h, _ => .inl ⟨by simp [slotsOf], by simpa [putR] using h⟩
  | .s :: ks, x :: ρ2, ρ, i, d, h, hl => by
    simp only [putR] at h
    rcases putR_at h (by simpa using hl) with ⟨h1, h2⟩ | ⟨k, h1, h2⟩
    · exact .inl ⟨by simpa [slotsOf] using h1, h2⟩
    · exact .inr ⟨k + 1, by simpa using h1, by simpa using h2⟩
  | .t :: ks, x :: ρ2, ρ, i, d, h, hl => by
    simp only [putR] at h
    rcases putR_at h (by simpa using hl) with ⟨h1, h2⟩ | ⟨k, h1, h2⟩
    · exact .inl ⟨by simpa [slotsOf] using h1, h2⟩
    · exact .inr ⟨k + 1, by simpa using h1, by simpa using h2⟩
  | .m j :: ks, x :: ρ2, ρ, i, d, h, hl => by
    simp only [putR] at h
    rcases putR_at h (by simpa using hl) with ⟨h1, h2⟩ | ⟨k, h1, h2⟩
    · rcases set_at h2 with ⟨rfl, rfl⟩ | ⟨h3, h4⟩
      · exact .inr ⟨0, rfl, rfl⟩
      · exact .inl ⟨by simp [slotsOf, h1, h3], h4⟩
    · exact .inr ⟨k + 1, by simpa using h1, by simpa using h2⟩
theorem lbs_m : ∀ {ks : List AK} {r k i : Nat}, ks[k]? = some (.m i) → (lbs ks r)[k]? = some (some (2 * i))
  | [], _, _, _, e => by simp at e
  | .s :: ks, r, 0, i, e => by simp at e
  | .s :: ks, r, k + 1, i, e => by simp only [lbs, List.getElem?_cons_succ]; exact lbs_m (by simpa using e)
  | .m j :: ks, r, 0, i, e => by simp at e; subst e; simp [lbs]
  | .m j :: ks, r, k + 1, i, e => by simp only [lbs, List.getElem?_cons_succ]; exact lbs_m (by simpa using e)
  | .t :: ks, r, 0, i, e => by simp at e
  | .t :: ks, r, k + 1, i, e => by simp only [lbs, List.getElem?_cons_succ]; exact lbs_m (by simpa using e)
theorem lbs_isM : ∀ {ks : List AK} {r k l : Nat}, (lbs ks r)[k]? = some (some l) → (ks.map AK.isM)[k]? = some true
  | [], _, _, _, e => by simp [lbs] at e
  | .s :: ks, r, 0, i, e => by simp [lbs] at e
  | .s :: ks, r, k + 1, i, e => by simp only [lbs, List.getElem?_cons_succ] at e; simp only [List.map, List.getElem?_cons_succ]; exact lbs_isM e
  | .m j :: ks, r, 0, i, e => rfl
  | .m j :: ks, r, k + 1, i, e => by simp only [lbs, List.getElem?_cons_succ] at e; simp only [List.map, List.getElem?_cons_succ]; exact lbs_isM e
  | .t :: ks, r, 0, i, e => rfl
  | .t :: ks, r, k + 1, i, e => by simp only [lbs, List.getElem?_cons_succ] at e; simp only [List.map, List.getElem?_cons_succ]; exact lbs_isM e
theorem slot_of {ks : List AK} {k i : Nat} (h : ks[k]? = some (.m i)) : i ∈ slotsOf ks := by
  induction ks generalizing k with
  | nil => simp at h
  | cons x ks ih =>
    cases k with
    | zero => simp at h; subst h; simp [slotsOf]
    | succ k => have := ih (by simpa using h); cases x <;> simp [slotsOf, this]
/-- into a call and out of it -/
theorem run_call {C : Ctx} {ow : List Bool} {G : Hp} {ρ : DSt} {σ : St} {H : Hp} {pd T : List (D × V)} {ks : List AK} {ds ds' : List D} {vs : List V} {fr : Bool} {sd : SpD} {q : D → DSt → Prop} {Q : VK} {E : XK}
    (hn : C.np ≤ pd.length) (r : R C ow G ρ σ H (T.reverse ++ pd)) (ha : ArgsK G σ ks ds vs T) (hf : fillA ks ds ρ = some ds') (nd : (slotsOf ks).Nodup) (hw : ∀ i ∈ slotsOf ks, ow[i]? = some true)
    (h : sd ds' fun d os => q d (putK ks os ρ))
    (k : ∀ d ρ' v G' H', q d ρ' → Same G G' → Kp ow ρ ρ' → (if fr = true then R C ow G' ρ' σ H' ((d, v) :: pd) else R C ow G' ρ' σ H' pd ∧ Rep G' d v) → Q v H') : spOf (ks.map AK.isM) fr sd vs H Q E := by
  obtain ⟨O, ro⟩ := r
  have pn := ro.pn
  obtain ⟨l1, l2, hat⟩ := args_at (O := O) (H := H) (r := pd.length) ha hf (fun j x e => pend_at pn e) (fun i hi d e => by
    obtain ⟨v, h1, h2⟩ := ro.sl i d e; rw [if_pos (hw i hi)] at h2; exact ⟨v, h1, h2⟩)
  let lb := lbs ks pd.length
  let fin : Nat → Option Nat := fun l => (fnd l lb 0).map (2 * ·)
  let fbk : Nat → Option Nat := fun l => if l = 1 then some (2 * pd.length + 1) else if l % 2 = 0 then (match lb[l / 2]? with | some o => o | none => none) else none
  have uq := lbs_uniq (ks := ks) (r := pd.length) nd
  have fin_at : ∀ (i l : Nat), lb[i]? = some (some l) → fin l = some (2 * i) := fun i l e => by
    show (fnd l lb 0).map _ = _
    rw [fnd_at uq e]; simp
  have fin_of : ∀ l l', fin l = some l' → ∃ i, l' = 2 * i ∧ lb[i]? = some (some l) := fun l l' e => by
    change (fnd l lb 0).map _ = _ at e
    cases z : fnd l lb 0 with
    | none => rw [z] at e; cases e
    | some j => rw [z] at e; cases e; obtain ⟨i, rfl, e2⟩ := fnd_of z; exact ⟨i, by show 2 * (0 + i) = 2 * i; omega, e2⟩
  have fin_none : ∀ l, (∀ i : Nat, lb[i]? ≠ some (some l)) → fin l = none := fun l e => by
    show (fnd l lb 0).map _ = _
    rw [fnd_none e]; rfl
  have ri := ro.into (mu := ks.map AK.isM) (fin := fin) (ds := ds') (vs := vs) l1 (fun j d e => by
    obtain ⟨v, h1, h2⟩ := hat j d e
    refine ⟨v, h1, ?_⟩
    rcases h2 with ⟨l, h2, h3, h4⟩ | ⟨h2, h3⟩
    · rw [if_pos h3]; exact ⟨l, h4, fin_at j l h2⟩
    · rw [if_neg (by rw [h2]; decide)]; exact h3) (fun l l' e => by
    obtain ⟨i, rfl, e2⟩ := fin_of l l' e
    exact ⟨i, rfl, lbs_isM e2, by have := (List.getElem?_eq_some_iff.mp (lbs_isM e2)).1; rw [List.length_map] at this; omega⟩)
  refine ⟨_, G, ds', fun d os => q d (putK ks os ρ), rfl, rfl, ⟨_, ri⟩, h, by rw [List.length_map, l1, l2], ?_⟩
  intro d ρ2 σ2 v G2 H2 hq z hl hr
  rw [List.length_map] at hl
  rw [putK_eq hl] at hq
  have out : ∀ (pd2 pd3 : List (D × V)) (O2 : Own), RO ⟨G, H, ownM fin O, msV (ks.map AK.isM) vs, 0⟩ (ks.map AK.isM) G2 ρ2 σ2 H2 pd2 O2 → C.np ≤ pd3.length →
      (∀ (O3 : Own), (∀ a l π, O a = some (l, π) → fin l = none → O3 a = some (l, π) ∧ H2 a = H a) → (∀ a l l' π, O2 a = some (l', π) → fbk l' = some l → O3 a = some (l, π)) → TSame G G2 → Pend G2 H2 O3 pd3) →
      RO C ow G2 (putR ks ρ2 ρ) σ H2 pd3 (ownB fin fbk O O2) := fun pd2 pd3 O2 r2 hn3 hP => by
    refine ro.out (vs := vs) r2 ?_ (by rw [putR_len]; exact ro.len) hn3 ?_ ?_ hP
    · intro l0 l' l e1 e2
      obtain ⟨i, rfl, e3⟩ := fin_of l0 l' e1
      change (if 2 * i = 1 then _ else if 2 * i % 2 = 0 then _ else _) = _ at e2
      rw [if_neg (by omega), if_pos (by omega), show 2 * i / 2 = i by omega, e3] at e2
      exact (Option.some.inj e2).symm
    · intro i d c e
      rcases putR_at e hl with ⟨_, h2⟩ | ⟨k, h1, _⟩
      · exact h2
      · exact absurd (hw i (slot_of h1)) c
    · intro i d c e
      rcases putR_at e hl with ⟨h1, h2⟩ | ⟨j, h1, h2⟩
      · refine .inl ⟨fin_none _ fun j e => ?_, h2⟩
        rcases lbs_odd e with ⟨z, h3, h4⟩ | ⟨z, h3, h4⟩
        · exact h1 (by rw [show i = z by omega]; exact h3)
        · omega
      · obtain ⟨u, g1, g2⟩ := args_slot ha h1
        have im : (ks.map AK.isM)[j]? = some true := by rw [List.getElem?_map, h1]; rfl
        refine .inr ⟨j, u, ?_, im, h2, g2, r2.mp j u (msV_at im g1)⟩
        show (if 2 * j = 1 then _ else if 2 * j % 2 = 0 then _ else _) = _
        rw [if_neg (by omega), if_pos (by omega), show 2 * j / 2 = j by omega, lbs_m h1]
  have pdk : ∀ (O3 : Own), (∀ a l π, O a = some (l, π) → fin l = none → O3 a = some (l, π) ∧ H2 a = H a) → TSame G G2 → Pend G2 H2 O3 pd := fun O3 h1 ts =>
    Pend.keep ts (fun a j π hj e => h1 a _ _ e (fin_none _ fun i e => by
      rcases lbs_odd e with ⟨z, h3, h4⟩ | ⟨z, h3, h4⟩ <;> omega)) (pend_tail (T := T.reverse) pn)
  have kp : Kp ow ρ (putR ks ρ2 ρ) := fun j hj => putR_off fun hs => hj (hw j hs)
  refine k d (putR ks ρ2 ρ) v G2 H2 hq z kp ?_
  unfold Ret at hr
  split at hr
  · rename_i c
    rw [if_pos c]
    obtain ⟨O2, r2⟩ := hr
    refine ⟨_, out _ ((d, v) :: pd) O2 r2 (Nat.le_succ_of_le hn) fun O3 h1 h2 ts => ⟨?_, pdk O3 h1 ts⟩⟩
    exact r2.pn.1.keep (fun _ _ z => z) fun a τ e => ⟨h2 a _ _ _ e (by show (if 2 * 0 + 1 = 1 then _ else _) = _; rw [if_pos rfl]), rfl⟩
  · rename_i c
    rw [if_neg c]
    obtain ⟨⟨O2, r2⟩, p⟩ := hr
    exact ⟨⟨_, out _ pd O2 r2 hn fun O3 h1 h2 ts => pdk O3 h1 ts⟩, p⟩
end L2

set_option Elab.async false
set_option linter.all false
set_option maxRecDepth 100000
set_option maxHeartbeats 1000000
namespace L2
open PySem PySem.Spec PyProof.Rows
section
variable {X : Cx} {ow : List Bool} {a b c e tg : Expr} {ma mb mc : ME} {pos p' : Pos} {mr : MA} {es : List Expr} {ks : List AK} {x : Str}
noncomputable def mCall (ks : List AK) (sd : SpD) (m : MA) : ME := fun ρ q => m ρ fun ds ρ1 => match fillA ks ds ρ1 with
  | some ds' => sd ds' fun d os => q d (putK ks os ρ1)
  | none => False
theorem qe_call {k : Nat} {f : Addr} {fd : FuncData} {ps : List Str} {mu : List Bool} {sd : SpD} (F : FnOk X.prog X.w X.K X.mg X.base CX0 k f fd ps (spOf mu false sd)) (hr : Room k X.A) (hg : Gl X x) (hm : X.mg x = some (.ref f)) (hk : PySem.W.keepIn X.K (.ref f) = true) (hb : Binds X.K fd ps [])
    (ha : QAk X ow ks (e :: es) mr) (hmu : mu = ks.map AK.isM := by rfl) (nd : (slotsOf ks).Nodup := by decide) (hw : ∀ i ∈ slotsOf ks, ow[i]? = some true := by decide) (hdb : (x == ("__debug__" : Str)) = false := by decide)
    (he : starEach (e :: es) X.env = (false, eval e X.env) :: starEach es X.env := by rfl) (hpl : (backTo pos (starEach es X.env)).any (·.1) = false := by rfl) : QE X ow (.Call (.Name x p') (e :: es) [] pos) (mCall ks sd mr) := by
  obtain ⟨t, p, s⟩ := ha
  subst hmu
  refine ⟨_, pe_call F hr hg hm hk hb .nil pass0 p hdb he hpl, fun C G ρ σ H pd q Q r hm k => s C G ρ σ H pd _ _ r hm fun ds ρ' vs T G' H' hq z kp r' p => ?_⟩
  rw [List.append_nil]
  split at hq
  · rename_i ds' ef
    exact run_call (fr := false) r.np r' p ef nd hw hq fun d ρ2 v G2 H2 hq2 z2 kp2 h2 => by
      rw [if_neg (by decide)] at h2
      exact k d ρ2 v G2 H2 hq2 (z.trans z2) (kp.trans kp2) h2.1 h2.2
  · exact hq.elim
theorem qf_call {k : Nat} {f : Addr} {fd : FuncData} {ps : List Str} {mu : List Bool} {sd : SpD} (F : FnOk X.prog X.w X.K X.mg X.base CX0 k f fd ps (spOf mu true sd)) (hr : Room k X.A) (hg : Gl X x) (hm : X.mg x = some (.ref f)) (hk : PySem.W.keepIn X.K (.ref f) = true) (hb : Binds X.K fd ps [])
    (ha : QAk X ow ks (e :: es) mr) (hmu : mu = ks.map AK.isM := by rfl) (nd : (slotsOf ks).Nodup := by decide) (hw : ∀ i ∈ slotsOf ks, ow[i]? = some true := by decide) (hdb : (x == ("__debug__" : Str)) = false := by decide)
    (he : starEach (e :: es) X.env = (false, eval e X.env) :: starEach es X.env := by rfl) (hpl : (backTo pos (starEach es X.env)).any (·.1) = false := by rfl) : QF X ow (.Call (.Name x p') (e :: es) [] pos) (mCall ks sd mr) := by
  obtain ⟨t, p, s⟩ := ha
  subst hmu
  refine ⟨_, pe_call F hr hg hm hk hb .nil pass0 p hdb he hpl, fun C G ρ σ H pd q Q r hm k => s C G ρ σ H pd _ _ r hm fun ds ρ' vs T G' H' hq z kp r' p => ?_⟩
  rw [List.append_nil]
  split at hq
  · rename_i ds' ef
    exact run_call (fr := true) r.np r' p ef nd hw hq fun d ρ2 v G2 H2 hq2 z2 kp2 h2 => by
      rw [if_pos rfl] at h2
      exact k d ρ2 v G2 H2 hq2 (z.trans z2) (kp.trans kp2) h2
  · exact hq.elim
end
/-! ### a def -/
theorem RO.grow {C : Ctx} {mu ow : List Bool} {G : Hp} {ds : List D} {vs : List V} {H : Hp} {O : Own} (n : Nat) (h : RO C mu G (ds.map some) (vs.map some) H [] O) (ho : ∀ i : Nat, i < ds.length → ow[i]? = mu[i]?) :
    RO C ow G (ds.map some ++ List.replicate n none) (vs.map some ++ List.replicate n none) H [] O := by
  have hl : ds.length = vs.length := by simpa using h.len
  have up : ∀ {α : Type} {l : List α} {i : Nat} {d : α}, (l.map some ++ List.replicate n none)[i]? = some (some d) → i < l.length ∧ (l.map some)[i]? = some (some d) := fun {α l i d} e => by
    by_cases c : i < l.length
    · rw [List.getElem?_append_left (by simpa using c)] at e; exact ⟨c, e⟩
    · rw [List.getElem?_append_right (by simpa using c)] at e
      rw [List.getElem?_replicate] at e
      split at e <;> cases e
  refine ⟨by simp [hl], h.gh, h.g0, h.gn, h.og, h.cok, h.fr, h.al, ?_, ?_, h.pn, h.np⟩
  · intro i v e
    have := h.mp i v e
    rw [List.getElem?_append_left (lt_of_slot this)]; exact this
  · intro i d e
    obtain ⟨c, e1⟩ := up e
    obtain ⟨v, h1, h2⟩ := h.sl i d e1
    exact ⟨v, by rw [List.getElem?_append_left (lt_of_slot h1)]; exact h1, by rw [ho i c]; exact h2⟩
theorem RO.trim {C : Ctx} {mu ow : List Bool} {G : Hp} {ρ : DSt} {σ : St} {H : Hp} {pd : List (D × V)} {O : Own} (h : RO C ow G ρ σ H pd O) (hm : MuOk C mu) (ho : ∀ i : Nat, i < mu.length → ow[i]? = mu[i]?) :
    RO C mu G (padS mu.length ρ) (padS mu.length σ) H pd O := by
  refine ⟨by rw [padS_len, padS_len], h.gh, h.g0, h.gn, h.og, h.cok, h.fr, h.al, ?_, ?_, h.pn, h.np⟩
  · intro i v e
    exact padS_at (lt_of_slot' (hm i v e)) (h.mp i v e)
  · intro i d e
    obtain ⟨c, e1⟩ := padS_of e
    obtain ⟨v, h1, h2⟩ := h.sl i d e1
    exact ⟨v, padS_at c h1, by rw [← ho i c]; exact h2⟩
where
  lt_of_slot' {l : List Bool} {i : Nat} {x : Bool} (h : l[i]? = some x) : i < l.length := (List.getElem?_eq_some_iff.mp h).1
noncomputable def endsOf (mu : List Bool) (q : D → DSt → Prop) : EndsD := ⟨fun ρ => q .non (mus mu ρ), fun d ρ => q d (mus mu ρ), fun _ => False, fun _ => False⟩
theorem fnD {P : Program} {w : World} {K : PySem.W.Frag} {mg : Str → Option Value} {base : Heap} {x qual : Str} {st : Stmt} {f : Addr} {fd : FuncData} {N ps : List Str} {k : Nat} (F : Fun K x qual st f fd) (S : FnScope N ps (defScope st)) (M : Md) (sd : SpD)
    (hl : ∀ ds q, sd ds q → ds.length = ps.length) (ho : M.ow.take ps.length = M.mu) (hml : M.mu.length = ps.length)
    (hbody : ∀ (cdv : Value) (A : Around) (outer : List Env) (s : Shared) (H : Hp) (E : XK), Room k (A.deeper (envOfC qual (defScope st) s.heap.objs.size f cdv)) →
      ∃ m, QSs (cxOf CX0 P w K mg base N qual (defScope st) f cdv A outer s H E).nox M (defBody st) m ∧ ∀ ds q, sd ds q → m (endsOf M.mu q) (ds.map some ++ List.replicate (N.length - ps.length) none)) :
    FnOk P w K mg base CX0 (k + 1) f fd ps (spOf M.mu M.fr sd) := by
  have hov : ∀ i : Nat, i < M.mu.length → M.ow[i]? = M.mu[i]? := fun i hi => by rw [← ho, List.getElem?_take_of_lt (by omega)]
  have hlen : ∀ vs H Q E, spOf M.mu M.fr sd vs H Q E → vs.length = ps.length := fun vs H Q E ⟨C, G, ds, q, _, _, ⟨O, ro⟩, h1, _, _⟩ => by
    have := ro.len; simp at this; rw [← this]; exact hl ds q h1
  refine F.ok S hlen fun cdv A outer s H vs Q E hr hsp => ?_
  obtain ⟨m, ⟨t, p, ss⟩, hm⟩ := hbody cdv A outer s H E hr
  have hvl := hlen vs H Q E hsp
  obtain ⟨C, G, ds, q, hnp, hmu, ⟨O, ro⟩, hsd, hml2, kk⟩ := hsp
  refine ⟨t, p, ?_⟩
  have hmo : MuOk C M.mu := fun i v e => by rw [hmu] at e; exact (msV_of e).1
  have r0 : R C M.ow G (ds.map some ++ List.replicate (N.length - ps.length) none) (start N vs) H [] := by
    unfold start; rw [hvl]
    exact ⟨O, ro.grow _ fun i hi => hov i (by omega)⟩
  refine ss C G _ _ H (endsOf M.mu q) _ hmo hnp r0 (hm ds q hsd) ⟨?_, fun _ _ _ _ h => h.elim, fun _ _ _ _ h => h.elim, ?_⟩
  · intro ρ σ G' H' h z ⟨O', r'⟩
    refine kk .non (padS M.mu.length ρ) (padS M.mu.length σ) .non G' H' (by rw [padS_mus]; exact h) z (padS_len _ _) (R.non ⟨O', r'.trim hmo hov⟩)
  · intro d ρ σ v G' H' h z hr'
    refine kk d (padS M.mu.length ρ) (padS M.mu.length σ) v G' H' (by rw [padS_mus]; exact h) z (padS_len _ _) ?_
    unfold Ret at hr' ⊢
    split at hr'
    · rename_i c; rw [if_pos c]; obtain ⟨O', r'⟩ := hr'; exact ⟨O', r'.trim hmo hov⟩
    · rename_i c; rw [if_neg c]; obtain ⟨⟨O', r'⟩, p⟩ := hr'; exact ⟨⟨O', r'.trim hmo hov⟩, p⟩
end L2

set_option Elab.async false
set_option linter.all false
set_option maxRecDepth 100000
set_option maxHeartbeats 1000000
namespace L2
open PySem PySem.Spec PyProof.Rows
/-! ### held values gathered -/
theorem Seps.mk {G H : Hp} {O : Own} {i : Nat} : ∀ {T : List (D × V)} {k : Nat} {π : List Nat}, (∀ (j : Nat) x, T[j]? = some x → Sep G H O i x.1 ((k + j) :: π) x.2) → Seps G H O i (T.map (·.1)) k π (T.map (·.2))
  | [], _, _, _ => by simp; rw [Seps]
  | x :: T, k, π, h => by
    simp only [List.map]; rw [Seps]
    exact ⟨x.2, _, rfl, by simpa using h 0 x rfl, Seps.mk fun j y e => by rw [show k + 1 + j = k + (j + 1) by omega]; exact h (j + 1) y (by simpa using e)⟩
section
variable {C : Ctx} {ow : List Bool} {G : Hp} {ρ : DSt} {σ : St} {H : Hp} {pd T : List (D × V)} {O : Own}
theorem RO.gather (h : RO C ow G ρ σ H (T.reverse ++ pd) O) (hn : C.np ≤ pd.length) : ∃ O', RO C ow G ρ σ H pd O' ∧ Seps G H O' (2 * pd.length + 1) (T.map (·.1)) 0 [] (T.map (·.2)) := by
  refine ⟨lab (fun l π => if l % 2 = 1 ∧ pd.length ≤ l / 2 then (2 * pd.length + 1, π ++ [l / 2 - pd.length]) else (l, π)) O, ⟨h.len, h.gh, h.g0, h.gn, ?_, h.cok, h.fr, h.al, h.mp, ?_, ?_, hn⟩, ?_⟩
  · intro a m e
    obtain ⟨l, π, e1, rfl⟩ := lab_of e
    obtain ⟨q1, q2, q3⟩ := h.og a _ e1
    refine ⟨q1, q2, ?_⟩
    split
    · rename_i z
      rcases q3 with q3 | ⟨_, q3⟩
      · exact .inl q3
      · rcases h.cok _ _ _ q3 with ⟨k, _, q4, _⟩ | ⟨k, q4, q5⟩
        · omega
        · omega
    · exact q3
  · intro j e q
    obtain ⟨u, h1, h2⟩ := h.sl j e q
    refine ⟨u, h1, ?_⟩
    split at h2
    · rename_i c; rw [if_pos c]; exact h2.keep (fun _ _ z => z) fun a τ q => ⟨by rw [lab_at q, if_neg (by omega)], rfl⟩
    · rename_i c; rw [if_neg c]; exact h2
  · exact Pend.keep (fun _ _ z => z) (fun a j π hj q => ⟨by rw [lab_at q, if_neg (by omega)], rfl⟩) (pend_tail (T := T.reverse) h.pn)
  · refine Seps.mk fun j x e => ?_
    have := pend_at h.pn e
    refine Sep.map (f := fun π => π ++ [0 + j]) (fun _ _ z => z) (fun _ _ => rfl) x.1 [] x.2 (fun a τ q => ⟨?_, rfl⟩) this
    rw [lab_at q, if_pos (by omega)]
    rw [show (2 * (pd.length + j) + 1) / 2 - pd.length = 0 + j by omega]
theorem RO.newT (h : RO C ow G ρ σ H pd O) {p : Addr} (hp : H p = none) {ds : List D} {vs : List V} (hs : Seps G H O (2 * pd.length + 1) ds 0 [] vs) : R C ow (upd G p (.tup vs)) ρ σ (upd H p (.tup vs)) ((.tup ds, .ref p) :: pd) ∧ Same G (upd G p (.tup vs)) := by
  obtain ⟨r, z⟩ := h.new hp (.tup vs)
  refine ⟨⟨O, r.len, r.gh, r.g0, r.gn, r.og, r.cok, r.fr, r.al, r.mp, r.sl, ⟨?_, r.pn⟩, Nat.le_succ_of_le r.np⟩, z⟩
  rw [Sep]
  exact ⟨p, vs, rfl, upd_same, hs.keep z.ts fun a τ _ q => ⟨q, upd_ne (fun e => by obtain ⟨_, ⟨xs, w⟩, _⟩ := h.og a _ q; rw [e, hp] at w; cases w)⟩⟩
end
/-! ### what is handed back or kept: names of owned slots, tuples and lists of held values -/
noncomputable def SFm (M : Md) (t : TE) (m : ME) : Prop := ∀ (C : Ctx) (G : Hp) (ρ : DSt) (σ : St) (H : Hp) (pd : List (D × V)) (q : D → DSt → Prop) (Q : VK), MuOk C M.mu → R C M.ow G ρ σ H pd → m ρ q →
  (∀ d ρ' v G' H', q d ρ' → Same G G' → R C M.ow G' ρ' σ H' ((d, v) :: pd) → Q v H') → t σ H Q
structure QM (X : Cx) (M : Md) (e : Expr) (m : ME) : Prop where
  ex : ∃ t, PE X e t ∧ SFm M t m
noncomputable def SAm (M : Md) (n : Nat) (t : TA) (m : MA) : Prop := ∀ (C : Ctx) (G : Hp) (ρ : DSt) (σ : St) (H : Hp) (pd : List (D × V)) (q : List D → DSt → Prop) (Q : List V → Hp → Prop), MuOk C M.mu → R C M.ow G ρ σ H pd → m ρ q →
  (∀ (T : List (D × V)) ρ' G' H', q (T.map (·.1)) ρ' → Same G G' → R C M.ow G' ρ' σ H' (T.reverse ++ pd) → T.length = n → Q (T.map (·.2)) H') → t σ H Q
structure QMs (X : Cx) (M : Md) (es : List Expr) (m : MA) : Prop where
  ex : ∃ t, PA X es t ∧ SAm M es.length t m
section
variable {X : Cx} {M : Md} {a b c e : Expr} {ma mb mc : ME} {pos pos' : Pos} {mr : MA} {es : List Expr}
theorem QF.qm (h : QF X M.ow e ma) : QM X M e ma := by
  obtain ⟨t, p, s⟩ := h
  exact ⟨_, p, fun C G ρ σ H pd q Q hm r h k => s C G ρ σ H pd q Q r h fun d ρ' v G' H' hq z kp r' => k d ρ' v G' H' hq z r'⟩
theorem qm_move (i : Nat) {x : Str} (ho : M.ow[i]? = some true := by decide) (hu : M.mu[i]? ≠ some true := by decide) (hN : X.N[i]? = some x := by rfl) (hv : Vis X.env.scope x := by first | exact Or.inl rfl | exact Or.inr (Or.inl rfl) | exact Or.inr (Or.inr rfl)) (hd : (x == ("__debug__" : Str)) = false := by decide)
    (hcd : (x == ("__classdict__" : Str)) = false := by decide) : QM X M (.Name x pos) (mMove i) := ⟨_, pe_var hN hv hd hcd, fun C G ρ σ H pd q Q hm r h k => by
  unfold mMove at h
  split at h
  · rename_i d e
    obtain ⟨O, ro⟩ := r
    obtain ⟨v, h1, h2⟩ := ro.move e ho (hm.no hu)
    exact ⟨v, h1, k d _ v G H h (Same.refl _) h2⟩
  · exact h.elim⟩
theorem qms_nil : QMs X M [] mNil := ⟨_, pa_nil, fun C G ρ σ H pd q Q hm r h k => k [] ρ G H h (Same.refl _) r rfl⟩
theorem qms_cons (ha : QM X M e ma) (hr : QMs X M es mr) (hs : starEach (e :: es) X.env = (false, eval e X.env) :: starEach es X.env := by rfl) : QMs X M (e :: es) (mCons ma mr) := by
  obtain ⟨t, p, s⟩ := ha; obtain ⟨t2, p2, s2⟩ := hr
  refine ⟨_, pa_cons p p2 hs, fun C G ρ σ H pd q Q hm r h k => s C G ρ σ H pd _ _ hm r h fun d ρ' v G' H' hq z r' => ?_⟩
  exact s2 C G' ρ' σ H' _ _ _ hm r' hq fun T ρ2 G2 H2 hq2 z2 r2 hn => k ((d, v) :: T) ρ2 G2 H2 hq2 (z.trans z2) (by simpa using r2) (by simp [hn])
theorem qm_tup {x1} (h : QMs X M es mr) (hl : es.length ≤ 1000 := by decide) : QM X M (.Tuple es x1 pos) (mTup mr) := by
  obtain ⟨t, p, s⟩ := h
  refine ⟨_, pe_tup p, fun C G ρ σ H pd q Q hm r h k => s C G ρ σ H pd _ _ hm r h fun T ρ' G' H' hq z r' hn => ⟨le_line (by simp; omega), fun a ha => ?_⟩⟩
  obtain ⟨O, r'⟩ := r'
  obtain ⟨O2, r2, s2⟩ := r'.gather r.np
  obtain ⟨r3, z3⟩ := r2.newT ha s2
  exact k _ ρ' _ _ _ hq (z.trans z3) r3
theorem qs_retM (h : QM X M e ma) (hf : M.fr = true := by rfl) : QS X M (.Return (some e) pos) (mRet ma) := by
  obtain ⟨t, p, s⟩ := h
  refine ⟨_, ps_ret p, fun C G ρ σ H n D hm hn r h k => s C G ρ σ H [] _ _ hm r h fun d ρ' v G' H' hq z r' => k.rt d ρ' σ v G' H' hq z (by unfold Ret; rw [if_pos hf]; exact r')⟩
end
/-! ### list comprehensions that write nothing -/
section
variable {C : Ctx} {ow : List Bool} {G : Hp} {ρ : DSt} {σ : St} {H : Hp} {pd : List (D × V)} {O : Own}
end
section
variable {X : Cx} {ow : List Bool} {elt tg iter : Expr} {ifs : List Expr} {pos : Pos} {mi : MA} {mg : MG} {mt : MT} {me : ME} {scope : Scope} {cl : List (Str × Addr)}
end
end L2

set_option Elab.async false
set_option linter.all false
set_option maxRecDepth 100000
set_option maxHeartbeats 1000000
namespace L2
open PySem PySem.Spec PyProof.Rows
/-! ### sorted, sum, any, all -/
section
variable {X : Cx}
end
/-! ### a list within an owned tuple is written -/
section
variable {C : Ctx} {ow : List Bool} {G : Hp} {ρ : DSt} {σ : St} {H : Hp} {pd : List (D × V)} {O : Own}
end
end L2

set_option Elab.async false
set_option linter.all false
set_option maxRecDepth 100000
set_option maxHeartbeats 1000000
namespace L2
open PySem PySem.Spec PyProof.Rows
section
variable {ow : List Bool} {t : TE} {m : ME}
end
section
variable {X : Cx} {M : Md} {a b c e : Expr} {ma mb mc : ME} {pos pos' : Pos} {mr : MA} {es : List Expr}
/-! ### a comprehension over owned slots gets a name -/
/-! ### x[c][k] = e, x an owned tuple -/
/-! ### xs.pop() -/
/-! ### xs.clear() -/
/-! ### list(range(n)) -/
end
/-! ### a word of one's own behind a statement -/
noncomputable def mCut (m : MS) : MS := fun n ρ => ∃ I : DSt → Prop, m { n with nx := I } ρ ∧ ∀ ρ', I ρ' → n.nx ρ'
theorem qs_cut {X : Cx} {M : Md} {st : Stmt} {m : MS} (h : QS X M st m) : QS X M st (mCut m) := by
  obtain ⟨t, p, s⟩ := h
  refine ⟨_, p, fun C G ρ σ H n D hm hn r h k => ?_⟩
  obtain ⟨I, h1, h2⟩ := h
  exact s C G ρ σ H _ D hm hn r h1 ⟨fun ρ' σ' G' H' hi => k.nx ρ' σ' G' H' (h2 ρ' hi), k.bk, k.ct, k.rt⟩
/-! ### a, b = e: a held tuple's things -/
section
variable {C : Ctx} {ow : List Bool} {G : Hp} {ρ : DSt} {σ : St} {H : Hp} {pd : List (D × V)} {O : Own}
end
section
variable {X : Cx} {M : Md} {a b c e : Expr} {ma mb mc : ME} {pos pos' : Pos} {mr : MA} {es : List Expr} {mgs : MGs}
end
end L2

set_option Elab.async false
set_option linter.all false
set_option maxRecDepth 100000
set_option maxHeartbeats 1000000
namespace L2
open PySem PySem.Spec PyProof.Rows
/-! ### x[k] += e, x an owned list of numbers -/
section
variable {X : Cx} {M : Md} {a b c e : Expr} {ma mb mc : ME} {pos pos' : Pos}
end
/-! ### list comprehensions that write one owned slot -/
section
variable {X : Cx} {ow : List Bool} {elt tg iter : Expr} {ifs : List Expr} {pos : Pos} {mi : MA} {mg : MG} {mt : MT} {me : ME} {scope : Scope} {cl : List (Str × Addr)}
end
end L2

set_option Elab.async false
set_option linter.all false
set_option maxRecDepth 100000
set_option maxHeartbeats 1000000
namespace L2
open PySem PySem.Spec PyProof.Rows
/-! ### xs[::-1] -/
section
variable {X : Cx} {M : Md} {a b c e : Expr} {ma mb mc : ME} {pos pos' p1 p2 p3 : Pos} {te : TE} {j1 : Nat} {ow : List Bool}
/-! ### a comprehension that writes an owned slot gets a name -/
end
end L2

set_option Elab.async false
set_option linter.all false
set_option maxRecDepth 100000
set_option maxHeartbeats 1000000
namespace L2
open PySem PySem.Spec PyProof.Rows
/-! ### what the defs are worth: numbers, trees -/
noncomputable def isW : D → Bool
  | .int _ => true
  | _ => false
noncomputable def btw (lo hi : Int) : D → Bool
  | .int i => decide (lo ≤ i) && decide (i ≤ hi)
  | _ => false
noncomputable def twoL : D → Bool
  | .tup [.lst ps, .lst rs] => decide (ps.length = rs.length) && (decide (1 ≤ ps.length) && decide (ps.length ≤ 23))
  | _ => false
/-- a tree by its two lists -/
structure Tree (ps rs : List Int) : Prop where
  len : ps.length = rs.length
  lo : 1 ≤ ps.length
  hi : ps.length ≤ 23
  par : ∀ (i : Nat) (x : Int), ps[i]? = some x → 0 ≤ x ∧ x ≤ i
  room : ∀ (i : Nat) (x : Int), rs[i]? = some x → 1 ≤ x ∧ x ≤ 1000000
noncomputable def sdWhole : SpD := fun ds q => ∃ d, ds = [d] ∧ d.isS = false ∧ q (.bl (isW d)) []
noncomputable def sdBetween : SpD := fun ds q => ∃ d lo hi, ds = [d, .int lo, .int hi] ∧ d.isS = false ∧ q (.bl (btw lo hi d)) []
noncomputable def cellZ (ns : List Int) (k : Int) : Int := ns.getD k.toNat 0
noncomputable def ScrOk (K : PySem.W.Frag) (φ : Addr → Prop) (ns : List Int) : Prop := ∀ a H, φ a → SqL K H a (ns.map V.int)
noncomputable def sdCell (K : PySem.W.Frag) : SpD := fun ds q => ∃ φ ns k, ds = [.scr φ ns, .int k] ∧ ScrOk K φ ns ∧ 0 ≤ k ∧ q (.int (cellZ ns k)) []
noncomputable def sdPool (K : PySem.W.Frag) : SpD := fun ds q => ∃ φ ns k, ds = [.scr φ ns, .int k] ∧ ScrOk K φ ns ∧ 0 ≤ k ∧ k ≤ 1000 ∧ ∀ c m, 0 ≤ c → q (dInts [c, m]) []
noncomputable def sdTake : SpD := fun ds q => ∃ c m many, ds = [dInts [c, m], .int many] ∧ 0 ≤ c ∧ 0 < many ∧ Sm many ∧ ∀ r c' m', 0 ≤ r → r < many → 0 ≤ c' → q (.int r) [some (dInts [c', m'])]
noncomputable def sdLaw (K : PySem.W.Frag) : SpD := fun ds q => ∃ φ ns, ds = [.scr φ ns] ∧ ScrOk K φ ns ∧ ns.length ≤ 63 ∧ q (.bl true) []
/-- the law's promise, as the head wants it -/
noncomputable def spLaw (K : PySem.W.Frag) : Sp := fun vs H Q _ => ∃ (a : Addr) (ns : List Int), vs = [.ref a] ∧ Only H ∧ SqL K H a (ns.map V.int) ∧ ns.length ≤ 63 ∧ ∀ H', Q (.bl true) H'
theorem spLaw_of {K : PySem.W.Frag} {vs : List V} {H : Hp} {Q : VK} {E : XK} (h : spLaw K vs H Q E) : spOf [false] false (sdLaw K) vs H Q E := by
  obtain ⟨a, ns, rfl, hO, hS, hl, hq⟩ := h
  have main : ∀ φ : Addr → Prop, ScrOk K φ ns → Rep H (.scr φ ns) (.ref a) → spOf [false] false (sdLaw K) [.ref a] H Q E := fun φ hφ r => by
    refine ⟨⟨H, H, fun _ => none, [none], 0⟩, H, [.scr φ ns], fun d _ => d = .bl true, rfl, rfl, ⟨fun _ => none, rfl, Same.refl _, Same.refl _, fun _ _ e => .inl e, fun a l e => by (first | cases e), fun a l π e => by (first | cases e), fun _ _ e _ => e, fun _ e => e, fun i v e => ?_, ?_, trivial, Nat.le_refl _⟩, ⟨φ, ns, rfl, hφ, hl, rfl⟩, rfl, ?_⟩
    · cases i with
      | zero => simp at e
      | succ i => simp at e
    · intro i d e
      cases i with
      | zero => simp at e; subst e; exact ⟨_, rfl, by simpa using r⟩
      | succ i => simp at e
    · intro d ρ' σ' v G' H' hd _ _ hr
      subst hd
      unfold Ret at hr
      rw [if_neg (by decide)] at hr
      rw [rep_bl_of hr.2]
      exact hq H'
  rcases hS with (h1 | ⟨o, h1⟩) | h1
  · rcases hO a with z | ⟨o, xs, z⟩
    · rw [h1] at z; cases z
    · rw [h1] at z; cases z
  · exact main (fun _ => False) (fun _ _ z => z.elim) (by rw [Rep]; exact ⟨a, rfl, .inl ⟨o, h1⟩⟩)
  · exact main (fun b => b = a) (fun b H' z => by subst z; exact .inr h1) (by rw [Rep]; exact ⟨a, rfl, .inr rfl⟩)
theorem atI_ints {ns : List Int} {k : Int} (h0 : 0 ≤ k) (h1 : k < ns.length) : atI (ns.map D.int) k = some (.int (ns.getD k.toNat 0)) := by
  have ek : k = ((k.toNat : Nat) : Int) := by omega
  have hl : k.toNat < ns.length := by omega
  have : atI (ns.map D.int) ((k.toNat : Nat) : Int) = some (.int (ns.getD k.toNat 0)) := atI_nat (by rw [List.getElem?_map, List.getD_eq_getElem?_getD, List.getElem?_eq_getElem hl]; rfl)
  rw [← ek] at this
  exact this
theorem atI_ns {ns : List Int} {k : Int} (h0 : 0 ≤ k) (h1 : k < ns.length) : atI ns k = some (ns.getD k.toNat 0) := by
  have ek : k = ((k.toNat : Nat) : Int) := by omega
  have hl : k.toNat < ns.length := by omega
  have : atI ns ((k.toNat : Nat) : Int) = some (ns.getD k.toNat 0) := atI_nat (by rw [List.getD_eq_getElem?_getD, List.getElem?_eq_getElem hl]; rfl)
  rw [← ek] at this
  exact this
theorem atD_of {ds : List D} {k : Int} {d : D} {q : D → Prop} (h : atI ds k = some d) (hq : q d) : atD ds k q := by unfold atD; rw [h]; exact hq
theorem map_at {ns : List Int} {i : Nat} {d : D} (h : (ns.map D.int)[i]? = some d) : ∃ z, ns[i]? = some z ∧ d = .int z := by
  rw [List.getElem?_map] at h
  cases e : ns[i]? with
  | none => rw [e] at h; cases h
  | some z => rw [e] at h; exact ⟨z, rfl, (Option.some.inj h).symm⟩
theorem twoL_pair {ps rs : List Int} (hT : Tree ps rs) : twoL (dPair ps rs) = true := by
  show (decide ((ps.map D.int).length = (rs.map D.int).length) && (decide (1 ≤ (ps.map D.int).length) && decide ((ps.map D.int).length ≤ 23))) = true
  rw [List.length_map, List.length_map, decide_eq_true hT.len, decide_eq_true hT.lo, decide_eq_true hT.hi]; rfl
theorem btw_int {lo hi z : Int} (h1 : lo ≤ z) (h2 : z ≤ hi) : btw lo hi (.int z) = true := by show (decide (lo ≤ z) && decide (z ≤ hi)) = true; rw [decide_eq_true h1, decide_eq_true h2]; rfl
end L2

set_option Elab.async false
set_option linter.all false
set_option maxRecDepth 100000
set_option maxHeartbeats 1000000
namespace L2
open PySem PySem.Spec PyProof.Rows
/-! ### ways in a tree -/
/-! ### what the defs of ways promise -/
structure Ends2 (ps : List Int) (a b : Int) : Prop where
  a0 : 0 ≤ a
  a1 : a ≤ ps.length
  b0 : 0 ≤ b
  b1 : b ≤ ps.length
  ne : a ≠ b
noncomputable def sdPlace : SpD := fun ds q => ∃ ps rs d, ds = [dPair ps rs, d] ∧ d.isS = false ∧ q (.bl (btw 0 ps.length d)) []
noncomputable def sdTree : SpD := fun ds q => ∃ c m most sizes, ds = [dInts [c, m], .int most, dInts sizes] ∧ 0 ≤ c ∧ 0 < most ∧ most ≤ 23 ∧ 1 ≤ sizes.length ∧ sizes.length ≤ 100 ∧ (∀ s ∈ sizes, 1 ≤ s ∧ s ≤ 1000000) ∧ ∀ ps rs c' m', Tree ps rs → (ps.length : Int) ≤ most → 0 ≤ c' → q (dPair ps rs) [some (dInts [c', m'])]
theorem ints_snoc (ps : List Int) (y : Int) : D.lst (ps.map D.int ++ [D.int y]) = dInts (ps ++ [y]) := by unfold dInts; rw [List.map_append]; rfl
theorem len_ints (ps : List Int) : (ps.map D.int).length = ps.length := List.length_map _
theorem getD_mem {ns : List Int} {k : Nat} (h : k < ns.length) : ns.getD k 0 ∈ ns := by rw [List.getD_eq_getElem?_getD, List.getElem?_eq_getElem h]; exact List.getElem_mem h
theorem snoc_at {P : Nat → Int → Prop} {ps : List Int} {y : Int} (h : ∀ (j : Nat) (x : Int), ps[j]? = some x → P j x) (hy : P ps.length y) : ∀ (j : Nat) (x : Int), (ps ++ [y])[j]? = some x → P j x := by
  intro j x hj
  by_cases hjl : j < ps.length
  · rw [List.getElem?_append_left hjl] at hj; exact h j x hj
  · rw [List.getElem?_append_right (by omega)] at hj
    cases e : j - ps.length with
    | zero => rw [e] at hj; have : y = x := by simpa using hj
              subst this; rw [show j = ps.length by omega]; exact hy
    | succ q => rw [e] at hj; simp at hj
theorem mem_ints {ns : List Int} {d : D} (h : d ∈ ns.map D.int) : ∃ x ∈ ns, d = .int x := by
  obtain ⟨x, h1, h2⟩ := List.mem_map.mp h
  exact ⟨x, h1, h2.symm⟩
end L2

set_option Elab.async false
set_option linter.all false
set_option maxRecDepth 100000
set_option maxHeartbeats 1000000
namespace L2
open PySem PySem.Spec PyProof.Rows
/-! ### plain data compared -/
noncomputable def lay : Nat → D → Bool
  | _, .int _ => true
  | _, .bl _ => true
  | _, .non => true
  | n + 1, .tup ds => ds.all (lay n)
  | n + 1, .lst ds => ds.all (lay n)
  | _, _ => false
theorem lay_all {n : Nat} (ih : ∀ d, lay n d = true → (toP d).canLay0 = true ∧ (toP d).depth ≤ n + 1) : ∀ ds : List D, ds.all (lay n) = true → PyData.canLayAll0 (toPs ds) = true ∧ PyData.depthAll (toPs ds) ≤ n + 1
  | [], _ => by rw [toPs]; simp [PyData.canLayAll0, PyData.depthAll]
  | d :: ds, h => by
    rw [List.all_cons, Bool.and_eq_true] at h
    have h1 := ih d h.1
    have h2 := lay_all ih ds h.2
    rw [toPs]
    simp only [PyData.canLayAll0, PyData.depthAll, h1.1, h2.1, Bool.and_self, true_and]
    omega
theorem lay_ok : ∀ (n : Nat) (d : D), lay n d = true → (toP d).canLay0 = true ∧ (toP d).depth ≤ n + 1
  | n, .int _, _ => by rw [toP]; simp [PyData.canLay0, PyData.depth]
  | n, .bl _, _ => by rw [toP]; simp [PyData.canLay0, PyData.depth]
  | n, .non, _ => by rw [toP]; simp [PyData.canLay0, PyData.depth]
  | n + 1, .tup ds, h => by
    have := lay_all (lay_ok n) ds (by simpa [lay] using h)
    rw [toP]; simp only [PyData.canLay0, PyData.depth, this.1, true_and]; omega
  | n + 1, .lst ds, h => by
    have := lay_all (lay_ok n) ds (by simpa [lay] using h)
    rw [toP]; simp only [PyData.canLay0, PyData.depth, this.1, true_and]; omega
  | 0, .tup _, h => by simp [lay] at h
  | 0, .lst _, h => by simp [lay] at h
  | n, .str _, h => by cases n <;> simp [lay] at h
  | n, .dct, h => by cases n <;> simp [lay] at h
  | n, .scr _ _, h => by cases n <;> simp [lay] at h
  | n, .ext _, h => by cases n <;> simp [lay] at h
theorem okD_lay {n : Nat} {d : D} (h : lay n d = true) (hn : n ≤ 60) : okD d = true := by
  have := lay_ok n d h
  unfold okD SeqAt.shaped
  rw [this.1, Bool.true_and]
  exact decide_eq_true (by omega)
theorem eqv_all {n : Nat} (ih : ∀ d, lay n d = true → PyData.eqv (toP d) (toP d) = true) : ∀ ds : List D, ds.all (lay n) = true → PyData.eqvAll (toPs ds) (toPs ds) = true
  | [], _ => by rw [toPs]; simp [PyData.eqvAll]
  | d :: ds, h => by
    rw [List.all_cons, Bool.and_eq_true] at h
    rw [toPs, PyData.eqvAll, ih d h.1, eqv_all ih ds h.2]; rfl
theorem eqD_self : ∀ (n : Nat) (d : D), lay n d = true → eqD d d = true
  | n, .int _, _ => by unfold eqD; rw [toP, PyData.eqv]; simp
  | n, .bl _, _ => by unfold eqD; rw [toP, PyData.eqv]; simp
  | n, .non, _ => by unfold eqD; rw [toP, PyData.eqv]
  | n + 1, .tup ds, h => by unfold eqD; rw [toP, PyData.eqv]; exact eqv_all (eqD_self n) ds (by simpa [lay] using h)
  | n + 1, .lst ds, h => by unfold eqD; rw [toP, PyData.eqv]; exact eqv_all (eqD_self n) ds (by simpa [lay] using h)
  | 0, .tup _, h => by simp [lay] at h
  | 0, .lst _, h => by simp [lay] at h
  | n, .str _, h => by cases n <;> simp [lay] at h
  | n, .dct, h => by cases n <;> simp [lay] at h
  | n, .scr _ _, h => by cases n <;> simp [lay] at h
  | n, .ext _, h => by cases n <;> simp [lay] at h
theorem lay_ints0 (n : Nat) (ns : List Int) : (ns.map D.int).all (lay n) = true := by
  rw [List.all_eq_true]; intro d hd; obtain ⟨x, _, rfl⟩ := mem_ints hd; cases n <;> rfl
theorem lay_dInts (n : Nat) (ns : List Int) : lay (n + 1) (dInts ns) = true := by unfold dInts; rw [lay]; exact lay_ints0 n ns
theorem lay_dPair (n : Nat) (ns ms : List Int) : lay (n + 2) (dPair ns ms) = true := by unfold dPair; rw [lay, List.all_cons, List.all_cons, lay_dInts, lay_dInts]; rfl
/-! ### asks -/
structure Ask where
  one : Int
  other : Int
  size : Int
  worth : Int
noncomputable def dAsk (a : Ask) : D := .tup [.int a.one, .int a.other, .int a.size, .int a.worth]
noncomputable def dAsks (as : List Ask) : D := .lst (as.map dAsk)
structure AskOk (ps : List Int) (a : Ask) : Prop where
  ends : Ends2 ps a.one a.other
  s0 : 1 ≤ a.size
  s1 : a.size ≤ 1000000
  w0 : 1 ≤ a.worth
  w1 : a.worth ≤ 1000000000000
structure AsksOk (ps : List Int) (as : List Ask) : Prop where
  len : as.length ≤ 30
  ok : ∀ a ∈ as, AskOk ps a
theorem lay_dAsks (n : Nat) (as : List Ask) : lay (n + 2) (dAsks as) = true := by
  unfold dAsks; rw [lay, List.all_eq_true]; intro d hd
  obtain ⟨a, _, rfl⟩ := List.mem_map.mp hd
  rw [dAsk, lay]
  exact lay_ints0 n [a.one, a.other, a.size, a.worth]
theorem asks_at {as : List Ask} {i : Nat} {d : D} (h : (as.map dAsk)[i]? = some d) : ∃ a, as[i]? = some a ∧ d = dAsk a := by
  rw [List.getElem?_map] at h
  cases e : as[i]? with
  | none => rw [e] at h; cases h
  | some z => rw [e] at h; exact ⟨z, rfl, (Option.some.inj h).symm⟩
noncomputable def ask0 : Ask := ⟨0, 0, 0, 0⟩
theorem atI_asks {as : List Ask} {k : Int} (h0 : 0 ≤ k) (h1 : k < as.length) : atI (as.map dAsk) k = some (dAsk (as.getD k.toNat ask0)) := by
  have ek : k = ((k.toNat : Nat) : Int) := by omega
  have hl : k.toNat < as.length := by omega
  have : atI (as.map dAsk) ((k.toNat : Nat) : Int) = some (dAsk (as.getD k.toNat ask0)) := atI_nat (by rw [List.getElem?_map, List.getD_eq_getElem?_getD, List.getElem?_eq_getElem hl]; rfl)
  rw [← ek] at this
  exact this
theorem getD_ask {as : List Ask} {k : Nat} (h : k < as.length) : as.getD k ask0 ∈ as := by rw [List.getD_eq_getElem?_getD, List.getElem?_eq_getElem h]; exact List.getElem_mem h
theorem len_asks (as : List Ask) : (as.map dAsk).length = as.length := List.length_map _
theorem asks_snoc (as : List Ask) (a : Ask) : D.lst (as.map dAsk ++ [dAsk a]) = dAsks (as ++ [a]) := by unfold dAsks; rw [List.map_append]; rfl
/-! ### keeps, loads -/
theorem rep_flat (n : Nat) (d : D) : (List.replicate n [d]).flatten = List.replicate n d := by
  induction n with
  | zero => rfl
  | succ n ih => rw [List.replicate_succ, List.flatten_cons, ih, List.replicate_succ]; rfl
theorem ixN_nat {n : Nat} {k : Int} (h0 : 0 ≤ k) (h1 : k < n) : ixN n k = some k.toNat := by unfold ixN; rw [if_pos h0, if_pos h1]
end L2
namespace L2
open PySem PySem.Spec PyProof.Rows
noncomputable def sdAsksG : SpD := fun ds q => ∃ c m ps rs least most sizes, ds = [dInts [c, m], dPair ps rs, .int least, .int most, dInts sizes] ∧ 0 ≤ c ∧ Tree ps rs ∧ 0 ≤ least ∧ least ≤ most ∧ most ≤ 30 ∧ 1 ≤ sizes.length ∧ sizes.length ≤ 100 ∧ (∀ s ∈ sizes, 1 ≤ s ∧ s ≤ 1000000) ∧
  ∀ as c' m', AsksOk ps as → least ≤ as.length → (as.length : Int) ≤ most → (∀ a ∈ as, ∃ s ∈ sizes, a.size ≤ s) → 0 ≤ c' → q (dAsks as) [some (dInts [c', m'])]
theorem other_ends {ps : List Int} {a r : Int} (a0 : 0 ≤ a) (a1 : a < 1 + (ps.length : Int)) (r0 : 0 ≤ r) (r1 : r < ps.length) : Ends2 ps a ((a + 1 + r) % (1 + (ps.length : Int))) := by
  refine ⟨a0, by omega, Int.emod_nonneg _ (by omega), ?_, ?_⟩
  · have := Int.emod_lt_of_pos (a + 1 + r) (show 0 < 1 + (ps.length : Int) by omega); omega
  · intro he
    by_cases hlt : a + 1 + r < 1 + (ps.length : Int)
    · rw [Int.emod_eq_of_lt (by omega) hlt] at he; omega
    · have e : (a + 1 + r) % (1 + (ps.length : Int)) = a + 1 + r - (1 + (ps.length : Int)) := by
        rw [← Int.sub_emod_right, Int.emod_eq_of_lt (by omega) (by omega)]
      omega
end L2

set_option Elab.async false
set_option linter.all false
set_option maxRecDepth 100000
set_option maxHeartbeats 1000000
namespace L2
open PySem PySem.Spec PyProof.Rows
/-! ### loads tie by tie -/
end L2
namespace L2
open PySem PySem.Spec PyProof.Rows
end L2
namespace L2
open PySem PySem.Spec PyProof.Rows
end L2

set_option Elab.async false
set_option linter.all false
set_option maxRecDepth 100000
set_option maxHeartbeats 1000000
namespace L2
open PySem PySem.Spec PyProof.Rows
/-! ### remove, of lists of ints -/
section
variable {X : Cx}
end
/-! ### an owned list of ints loses one -/
section
variable {X : Cx} {M : Md} {e : Expr} {ma : ME} {pos : Pos}
end
end L2

set_option Elab.async false
set_option linter.all false
set_option maxRecDepth 100000
set_option maxHeartbeats 1000000
namespace L2
open PySem PySem.Spec PyProof.Rows
/-! ### how often True stands in a list of truths -/
section
variable {X : Cx}
variable {ow : List Bool} {e : Expr} {ma : ME}
end
end L2

set_option Elab.async false
set_option linter.all false
set_option maxRecDepth 100000
set_option maxHeartbeats 1000000
namespace L2
open PySem PySem.Spec PyProof.Rows
/-! ### len(set(a list of ints)) -/
section
variable {X : Cx}
variable {ow : List Bool} {e : Expr} {ma : ME} {pos p1 p2 p3 : Pos}
end
end L2

set_option Elab.async false
set_option linter.all false
set_option maxRecDepth 100000
namespace L2
open PySem
/-! depths, for k14 -/
/-! the way from a place up to another -/
/-! three places -/
end L2

set_option Elab.async false
set_option linter.all false
set_option maxRecDepth 100000
set_option maxHeartbeats 1000000
namespace L2
open PySem PySem.Spec PyProof.Rows
/-! ### a, b, c = a list -/
section
variable {prog : Program} {w : World} {A : Around} {E : Value → Shared → Prop} {s : Shared}
theorem drawL {it t : Addr} {items : Array Value} (hne : t ≠ it) : ∀ (n i : Nat) (s : Shared) (Q : List Value → Shared → Prop), s.heap.IsListIter it t i → s.heap.IsList t items → i + n ≤ items.size →
    (∀ h' : Heap, h'.IsListIter it t (i + n) → Heap.SameBut it s.heap h' → Q ((items.toList.drop i).take n) { s with heap := h' }) → wpAny (model prog w) A (draw (.ref it) n) Q E s
  | 0, i, s, Q, hit, _, _, hQ => wpAny_pure (by simpa using hQ s.heap hit (Heap.SameBut.refl ..))
  | n + 1, i, s, Q, hit, ht, hle, hQ => by
    have hlt : i < items.size := by omega
    unfold draw
    refine wpAny_bind (wpAny_pyNext_list_item hit ht (x := items[i]) (by simp [hlt]) fun g1 it1 sb1 => ?_)
    refine wpAny_bind (wpAny_holding (drawL hne n (i + 1) _ _ it1 (ht.extBut sb1.extBut hne) (by omega) fun g2 it2 sb2 => wpAny_pure ?_))
    have hd : items.toList.drop i = items[i] :: items.toList.drop (i + 1) := by simp [List.drop_eq_getElem_cons, hlt]
    have z := hQ g2 (by have e : i + (n + 1) = i + 1 + n := by omega
                        rw [e]; exact it2) (sb1.trans sb2)
    rwa [hd, List.take_succ_cons] at z
theorem unpackL {t : Addr} {items : Array Value} {Q : List Value → Shared → Prop} (hh : A.handled = none) (ht : s.heap.IsList t items)
    (hQ : ∀ h', Heap.ExtBut s.heap.objs.size s.heap h' → Q items.toList { s with heap := h' }) : wpAny (model prog w) A (unpackItems (.ref t) items.size none) Q E s := by
  have hlt : t ≠ s.heap.objs.size := by obtain ⟨o, ho, _⟩ := ht; exact Nat.ne_of_lt (Heap.lt_size ho)
  unfold unpackItems
  refine wpAny_bind ?_
  unfold notIterableAtAll
  refine wpAny_bind (wpAny_specialOf ht.typeIs slot_list_iter.lookup (wpAny_pure ?_))
  simp only [Bool.false_eq_true, if_false]
  refine wpAny_bind (wpAny_holding (wpAny_pyIter_list ht ?_))
  refine wpAny_bind (wpAny_holding (drawL hlt items.size 0 _ _ ⟨_, Heap.get?_push_size _ rfl, rfl, rfl⟩ (ht.push _) (by omega) fun g1 it1 sb1 => ?_))
  have hall : List.take items.size (List.drop 0 items.toList) = items.toList := by
    rw [List.drop_zero]; exact List.take_of_length_le (by simp)
  rw [hall, if_neg (by simp)]
  refine wpAny_bind (wpAny_holding (wpAny_pyNext_list_end hh it1 ((ht.push _).extBut sb1.extBut hlt) (by simp) fun g2 eb2 => ?_))
  simp only [Option.isSome_none, Bool.false_eq_true, if_false]
  exact wpAny_pure (hQ g2 fun b o hb e => eb2 b o hb (sb1.extBut b o hb (Heap.get?_push_of_some _ e)))
theorem assign_TupL {env : Env} {elts : List Expr} {x1} {pos : Pos} {t : Addr} {items : Array Value} {Q : Unit → Shared → Prop} (hh : A.handled = none) (ht : s.heap.IsList t items)
    (hn : (assignEach elts env).length = items.size) (hstar : (assignEach elts env).findIdx? (·.1) = none)
    (h : ∀ h', Heap.ExtBut s.heap.objs.size s.heap h' → wpAny (model prog w) A (assignInOrder ((assignEach elts env).map (·.2)) items.toList) Q E { s with heap := h' }) :
    wpAny (model prog w) A (assign (.Tuple elts x1 pos) env (.ref t)) Q E s := by
  rw [assign_Tuple]
  refine wpAny_bind (wpAny_standAt ?_)
  unfold unpack
  rw [hn, hstar]
  exact wpAny_bind (wpAny_holding (unpackL hh ht h))
end
section
variable {X : Cx} {M : Md} {e : Expr} {es : List Expr} {mgs : MGs} {pos : Pos}
noncomputable def gLst (K : PySem.W.Frag) (n : Nat) (t : TGs) : TG := fun v σ H Q => ∃ a xs, v = .ref a ∧ SqL K H a xs ∧ xs.length = n ∧ t xs σ H Q
theorem pg_lst {k : Nat} {t : TGs} {n : Nat} (hc : X.calm = true) (h : PGs X es t)
    (hn : (assignEach es X.env).length = n := by rfl) (hst : (assignEach es X.env).findIdx? (·.1) = none := by rfl) : PG X (.Tuple es k pos) (gLst X.K n t) := by
  refine ⟨?_⟩; intro pins s σ H v u Q I r hw
  obtain ⟨a, xs, e1, hq, hl, hw⟩ := hw
  subst e1
  cases r
  obtain ⟨its, rv, ht, hz⟩ := I.list hq
  refine assign_TupL (I.ok.hd hc) ht.isList (by simp [hn, ← hl, rv.length]) hst fun h' hx => ?_
  have I1 : Inv X pins σ H { s with heap := h' } := I.kept (t' := s.toks) fun b o e => hx b o (Nat.ne_of_lt (Heap.lt_size e)) e
  exact h pins _ σ H xs _ Q I1 (by simpa using rv) hw
noncomputable def gmLst (t : MGs) : MG := fun d ρ k => match d with
  | .lst ds => t ds ρ k
  | _ => False
theorem qg_lst {kk : Nat} {n : Nat} (hc : X.calm = true) (h : QGs X M es mgs) (ht : takes n mgs)
    (hn : (assignEach es X.env).length = n := by rfl) (hst : (assignEach es X.env).findIdx? (·.1) = none := by rfl) : QG X M (.Tuple es kk pos) (gmLst mgs) := by
  obtain ⟨t, p, s⟩ := h
  refine ⟨_, pg_lst hc p hn hst, fun C G ρ σ H pd d v k K hm r p h kk => ?_⟩
  cases d with
  | lst ds =>
    obtain ⟨a, xs, rfl, h1, h2⟩ := rep_lst_of p
    exact ⟨a, xs, rfl, SqL.of (r.gh _ _ h1), by rw [h2.length]; exact ht _ _ _ h, s C G ρ σ H pd ds xs k K hm r h2 h kk⟩
  | _ => exact h.elim
end
end L2

set_option Elab.async false
set_option linter.all false
set_option maxRecDepth 100000
set_option maxHeartbeats 1000000
namespace L2
open PySem PySem.Spec PyProof.Rows
section
variable {X : Cx} {M : Md} {pos : Pos}
/-! ### a comprehension that writes an owned slot, into an owned slot -/
end
end L2

set_option Elab.async false
set_option linter.all false
set_option maxRecDepth 100000
set_option maxHeartbeats 1000000
namespace L2
open PySem PySem.Spec PyProof.Rows
/-! ### zip of two lists -/
section
variable {X : Cx} {es : List Expr} {k : Nat} {tpos : Pos}
variable {ow : List Bool} {a b : Expr} {mr : MA} {pos : Pos}
end
end L2

set_option Elab.async false
set_option linter.all false
set_option maxRecDepth 100000
set_option exponentiation.threshold 9000
namespace L2
open PySem
/-! ### fractions -/
/-! specs -/
end L2

set_option Elab.async false
set_option linter.all false
set_option maxRecDepth 100000
set_option exponentiation.threshold 9000
namespace L2
open PySem
/-! ### prices -/
end L2
namespace L2
open PySem
end L2
namespace L2
open PySem
theorem eqD_asks_nil (as : List Ask) : eqD (dAsks as) (.lst []) = as.isEmpty := by
  cases as with
  | nil => exact eqD_self 1 _ rfl
  | cons a as => unfold eqD dAsks; rw [List.map_cons, toP, toP, toPs, toPs, PyData.eqv, PyData.eqvAll]; rfl
end L2

set_option Elab.async false
set_option linter.all false
set_option maxRecDepth 100000
set_option exponentiation.threshold 9000
namespace L2
open PySem
/-! ### bounds -/
end L2
namespace L2
open PySem
end L2

set_option Elab.async false
set_option linter.all false
set_option maxRecDepth 100000
set_option maxHeartbeats 1000000
namespace L2
open PySem PySem.Spec PyProof.Rows
/-! ### exceptions in flight -/
/-- the object at e: an exception of the class cls, its dict, the head of its traceback -/
noncomputable def ExcAt (h : Heap) (e : Addr) (cls : Value) (dx : Option Addr) (tb : Value) : Prop :=
  ∃ (vs : Array Value) (sl : Array (Option Value)), h.get? e = some { cls := cls, dict := dx, data := .fields vs, slots := sl } ∧ vs[1]? = some tb
noncomputable def TbAt (h : Heap) (t : Addr) (v : Value) : Prop := ∃ o ts, h.get? t = some o ∧ o.data = .fields ts ∧ ts[3]? = some v
noncomputable def tbV : Option Addr → Value
  | none => .none
  | some t => .ref t
structure FlyO (h : Heap) (e : Addr) (cls : Value) (dx : Option Addr) (T : Option Addr) : Prop where
  ex : ExcAt h e cls dx (tbV T)
  tb : ∀ t, T = some t → t ≠ e ∧ TbAt h t .none
theorem ExcAt.notFrame {h base : Heap} {l : List Env} {e : Addr} {cls : Value} {dx : Option Addr} {tb : Value} (x : ExcAt h e cls dx tb) (hl : h.FunFrames base l) : e ∉ frs l := fun hm => by
  obtain ⟨vs, sl, he, _⟩ := x
  obtain ⟨_, o, ho, hnf⟩ := hl.mem hm
  rw [he] at ho; cases ho; exact hnf vs rfl
theorem TbAt.notFrame {h base : Heap} {l : List Env} {t : Addr} {v : Value} (x : TbAt h t v) (hl : h.FunFrames base l) : t ∉ frs l := fun hm => by
  obtain ⟨o', ts, he, hd, _⟩ := x
  obtain ⟨_, o, ho, hnf⟩ := hl.mem hm
  rw [he] at ho; cases ho; exact hnf ts hd
section
variable {M : Model} {A : Around} {E : Value → Shared → Prop} {s : Shared}
/-- the objects but e and t are kept, those of frames up to slots -/
noncomputable def KeptBut (l : List Env) (e : Addr) (T : Option Addr) (h h' : Heap) : Prop := ∀ b o, b ≠ e → T ≠ some b → h.get? b = some o → (b ∉ frs l → h'.get? b = some o) ∧ ∃ sl, h'.get? b = some { o with slots := sl }
theorem entry_fly {base : Heap} {env : Env} {outer : List Env} {L e : Addr} {cls : Value} {dx : Option Addr} {tb head : Value} {hadNext : Bool} {Q : Unit → Shared → Prop}
    (hfr : A.frames = some (env :: outer)) (hl : s.heap.FunFrames base (env :: outer)) (hf : env.frame = some L) (F : ExcAt s.heap e cls dx tb)
    (h : ∀ h', s.heap.objs.size ≤ h'.objs.size → ∀ t', s.heap.objs.size ≤ t' → FlyO h' e cls dx (some t') → KeptBut (env :: outer) e none s.heap h' → Q () { s with heap := h' }) :
    wpAny M A (do let a ← frameOf env; let pl ← entryPlaceOf L hadNext; let b ← EntryCells.newEntry head a .none (rawInt L) .none pl; setField (.ref e) 1 b) (fun _ s' => wpAny M A (setFlight (.ref e) none) Q E s') E s := by
  have hene := F.notFrame hl
  obtain ⟨vs, sl, he, h1⟩ := F
  have hsz : 1 < vs.size := (Array.getElem?_eq_some_iff.mp h1).1
  refine wpAny_bind (wpAny_frameOf_fun hfr hl hf fun g1 hs1 => ?_)
  refine wpAny_bind (wpAny_entryPlaceOf fun pl hpl => ?_)
  unfold EntryCells.newEntry newFields
  refine wpAny_bind (wpAny_newObj_type ?_ (hpl.sizeOk5 _ _ _ _ _))
  have he1 : g1.get? e = some { cls := cls, dict := dx, data := .fields vs, slots := sl } := (hs1.2.1 e hene).trans he
  generalize hO : ({ cls := .type "traceback", dict := none, data := .fields ([head, .ref L, .none, rawInt L, .none] ++ (if pl.isEmpty then List.replicate 6 Value.none else pl)).toArray } : Obj) = O
  have hOd : ∃ ts : Array Value, O.data = .fields ts ∧ 3 < ts.size := by
    rw [← hO]; exact ⟨_, rfl, by simp only [List.size_toArray, List.length_append, List.length_cons, List.length_nil]; omega⟩
  have hOf : O.isFreed = false := by rw [← hO]; rfl
  obtain ⟨ts, hts, h3⟩ := hOd
  have he2 := Heap.get?_push_of_some (h := g1) O he1
  refine wpAny_setField he2 rfl hsz ?_
  have hTe : g1.objs.size ≠ e := Nat.ne_of_gt (Heap.lt_size he1)
  have he3 := Heap.get?_update_self (Obj.mapFields (·.setIfInBounds 1 (Value.ref g1.objs.size))) he2 (Obj.isFreed_of_fields (Obj.data_mapFields rfl _))
  have hT3 : ((g1.push O).update e (Obj.mapFields (·.setIfInBounds 1 (Value.ref g1.objs.size)))).get? g1.objs.size = some O := (Heap.get?_update_other _ _ (Ne.symm hTe)).trans (Heap.get?_push_size g1 hOf)
  unfold setFlight
  refine wpAny_bind (wpAny_field he3 (Obj.data_mapFields rfl _) (x := .ref g1.objs.size) (by simp [hsz]) ?_)
  rw [if_pos (show (Value.ref g1.objs.size != Value.none) = true from by simp)]
  refine wpAny_setField hT3 hts h3 ?_
  have hsz1 : g1.objs.size = s.heap.objs.size := hs1.1
  refine h _ ?_ g1.objs.size (Nat.le_of_eq hsz1.symm) ⟨⟨_, sl, ?_, by show (vs.setIfInBounds 1 (Value.ref g1.objs.size))[1]? = _; simp [hsz]; rfl⟩, fun t ht => ?_⟩ fun b o hbe _ hb => ?_
  · rw [Heap.size_after_update, Heap.size_after_update, Heap.size_push]; exact Nat.le_succ_of_le (Nat.le_of_eq hsz1.symm)
  · rw [Heap.get?_update_other _ _ hTe]; exact he3
  · cases ht
    refine ⟨hTe, _, _, Heap.get?_update_self _ hT3 (Obj.isFreed_of_fields (Obj.data_mapFields hts _)), Obj.data_mapFields hts _, ?_⟩
    show (ts.setIfInBounds 3 ((none : Option Addr).elim Value.none fun f => rawInt f))[3]? = _
    simp [h3]
  · have keep : ∀ o', g1.get? b = some o' → (((g1.push O).update e (Obj.mapFields (·.setIfInBounds 1 (Value.ref g1.objs.size)))).update g1.objs.size (Obj.mapFields (·.setIfInBounds 3 ((none : Option Addr).elim Value.none fun f => rawInt f)))).get? b = some o' := fun o' ho' => by
      have hbT : g1.objs.size ≠ b := Nat.ne_of_gt (Heap.lt_size ho')
      rw [Heap.get?_update_other _ _ hbT, Heap.get?_update_other _ _ (Ne.symm hbe)]
      exact Heap.get?_push_of_some _ ho'
    obtain ⟨sl', hb'⟩ := hs1.2.2 b o hb
    exact ⟨fun hn => keep o ((hs1.2.1 b hn).trans hb), sl', keep _ hb'⟩
/-- noteFrame, then setFlight none -/
theorem note_fly {base : Heap} {env : Env} {outer : List Env} {L e : Addr} {cls : Value} {dx : Option Addr} {T : Option Addr} {Q : Unit → Shared → Prop}
    (hfr : A.frames = some (env :: outer)) (hl : s.heap.FunFrames base (env :: outer)) (hf : env.frame = some L) (F : FlyO s.heap e cls dx T)
    (h : ∀ h', s.heap.objs.size ≤ h'.objs.size → ∀ t', s.heap.objs.size ≤ t' → FlyO h' e cls dx (some t') → KeptBut (env :: outer) e T s.heap h' → (∀ t, T = some t → ∃ o, h'.get? t = some o) → Q () { s with heap := h' }) :
    wpAny M A (noteFrame (.ref e) env) (fun _ s' => wpAny M A (setFlight (.ref e) none) Q E s') E s := by
  obtain ⟨X, tb⟩ := F
  obtain ⟨vs, sl, he, h1⟩ := id X
  unfold noteFrame
  simp only [hf]
  refine wpAny_bind (wpAny_field he rfl h1 ?_)
  cases T with
  | none =>
    rw [if_neg (by decide)]
    exact entry_fly hfr hl hf X fun h' hs t' ht' fl kb => h h' hs t' ht' fl kb fun t z => by cases z
  | some T =>
    obtain ⟨hTe, oT, ts, hT, hdT, h3⟩ := tb T rfl
    show wpAny M A (if (Value.ref T != Value.none) = true then _ else _) _ _ _
    rw [if_pos (show (Value.ref T != Value.none) = true from by simp)]
    refine wpAny_bind (wpAny_field hT hdT h3 ?_)
    rw [if_neg (show ¬ ((Value.none == rawInt L) = true) from by simp [rawInt])]
    refine wpAny_bind (wpAny_setField hT hdT (Array.getElem?_eq_some_iff.mp h3).1 ?_)
    have other : ∀ b, b ≠ T → (s.heap.update T (Obj.mapFields (·.setIfInBounds 3 Value.none))).get? b = s.heap.get? b := fun b hb => Heap.get?_update_other _ _ (Ne.symm hb)
    have hTn := TbAt.notFrame ⟨oT, ts, hT, hdT, h3⟩ hl
    have hl2 : (s.heap.update T (Obj.mapFields (·.setIfInBounds 3 Value.none))).FunFrames base (env :: outer) := hl.of_keeps fun b o hb hnf => ⟨o, (other b fun q => by subst q; rw [hT] at hb; cases hb; exact hnf ts hdT).trans hb, rfl⟩
    have hT2 := Heap.get?_update_self (Obj.mapFields (·.setIfInBounds 3 Value.none)) hT (Obj.isFreed_of_fields (Obj.data_mapFields hdT _))
    refine entry_fly (s := { s with heap := s.heap.update T (Obj.mapFields (·.setIfInBounds 3 Value.none)) }) hfr hl2 hf ⟨vs, sl, (other e (Ne.symm hTe)).trans he, h1⟩ fun h' hs t' ht' fl kb => ?_
    have hs' : s.heap.objs.size ≤ h'.objs.size := by rw [Heap.size_after_update] at hs; exact hs
    have ht2 : s.heap.objs.size ≤ t' := by rw [Heap.size_after_update] at ht'; exact ht'
    refine h h' hs' t' ht2 fl (fun b o hbe hbT hb => kb b o hbe (by simp) ((other b fun q => hbT (by rw [q])).trans hb)) fun t z => ?_
    cases z
    obtain ⟨_, sl2, q⟩ := kb T _ hTe (by simp) hT2
    exact ⟨_, q⟩
theorem leave_fly {base : Heap} {env : Env} {outer : List Env} {L e : Addr} {cls : Value} {dx : Option Addr} {T : Option Addr} {Q : Unit → Shared → Prop}
    (hfr : A.frames = some (env :: outer)) (hl : s.heap.FunFrames base (env :: outer)) (hf : env.frame = some L) (F : FlyO s.heap e cls dx T)
    (h : ∀ h', s.heap.objs.size ≤ h'.objs.size → ∀ t', s.heap.objs.size ≤ t' → FlyO h' e cls dx (some t') → KeptBut (env :: outer) e T s.heap h' → (∀ t, T = some t → ∃ o, h'.get? t = some o) → Q () { s with heap := h' }) : wpAny M A (leaving env (.ref e)) Q E s := by
  unfold leaving
  exact wpAny_bind (note_fly hfr hl hf F h)
end
end L2

set_option Elab.async false
set_option linter.all false
set_option maxRecDepth 100000
set_option maxHeartbeats 1000000
namespace L2
open PySem PySem.Spec PyProof.Rows
/-! ### exceptions behind a call, in a body -/
noncomputable abbrev XS := St → XK
/-- an object of the exception's own: new since the entry, untracked, no pin -/
structure Out (X : Cx) (pins : List (Addr × Obj)) (H : Hp) (a : Addr) : Prop where
  new : X.s₀.heap.get? a = none
  unt : H a = none
  pin : ∀ p ∈ X.pn ++ pins, p.1 ≠ a
structure Fly (X : Cx) (pins : List (Addr × Obj)) (H : Hp) (s : Shared) (e : Addr) (cls : Value) (dx : Option Addr) : Prop where
  go : ∃ T, FlyO s.heap e cls dx T ∧ Out X pins H e ∧ ∀ t, T = some t → Out X pins H t
/-- what is wanted of an exception that leaves the code -/
structure Acc (X : Cx) (xk : XS) : Prop where
  go : ∀ (pins : List (Addr × Obj)) (σ : St) (H : Hp) (s : Shared) (e : Addr) (cls : Value) (dx : Option Addr), Inv X pins σ H s → Fly X pins H s e cls dx → xk σ cls dx H → X.xe (.ref e) s
noncomputable def CX1 (P : Program) (w : World) : CXT := fun outer H s E e s' => ∃ ea H' cls dx T, e = .ref ea ∧ s'.os = s.os ∧ AllBare s'.gens ∧ Un (frs outer) [] H H' s.heap s'.heap ∧ HOk P w H' s'.heap ∧ FlyO s'.heap ea cls dx T ∧
  (s.heap.get? ea = none ∧ H' ea = none) ∧ (∀ t, T = some t → s.heap.get? t = none ∧ H' t = none) ∧ E cls dx H'
section
variable {X : Cx} {pins : List (Addr × Obj)} {σ : St} {H H' : Hp} {s s' : Shared} {e : Addr} {cls : Value} {dx : Option Addr} {T : Option Addr}
theorem ObjOk.here {P : Program} {w : World} {H : Hp} {h : Heap} {a : Addr} {o : HO} (x : ObjOk P w H h a o) : ∃ u, h.get? a = some u := by
  cases o with
  | lst xs => obtain ⟨_, _, _, _, e⟩ := x; exact ⟨_, e⟩
  | tup xs => obtain ⟨_, _, _, _, e, _⟩ := x; exact ⟨_, e⟩
  | dK kvs => obtain ⟨_, _, _, _, o, _, _, e, _⟩ := x; exact ⟨_, e⟩
  | dT kvs => obtain ⟨_, _, _, _, o, _, _, e, _⟩ := x; exact ⟨_, e⟩
  | set S n => obtain ⟨o, _, _, _, e, _⟩ := x; exact ⟨_, e⟩
  | ins C dx fs => obtain ⟨_, _, _, e, _⟩ := x; exact ⟨_, e⟩
  | own y => exact x
  | xd fs => obtain ⟨_, ⟨_, _, _, e, _⟩, _⟩ := x; exact ⟨_, e⟩
  | rng lo hi => obtain ⟨_, _, _, e⟩ := x; exact ⟨_, e⟩
  | frz ob u => obtain ⟨e, _⟩ := x; exact ⟨_, e⟩
  | tbl ps => exact ⟨_, (show h.get? a = some _ from x)⟩
  | met f y => exact ⟨_, (show h.get? a = some _ from x)⟩
  | ext φ => obtain ⟨_, e, _⟩ := x; exact e
theorem HOk.no {P : Program} {w : World} {H : Hp} {h : Heap} {a : Addr} (x : HOk P w H h) (e : h.get? a = none) : H a = none := by
  cases q : H a with
  | none => rfl
  | some o => obtain ⟨u, z⟩ := (x a o q).here; rw [e] at z; cases z
theorem Inv.pinNo (I : Inv X pins σ H s) {a : Addr} (h : s.heap.get? a = none) : ∀ p ∈ X.pn ++ pins, p.1 ≠ a := fun p hp z => by
  have := (I.pin p hp).1
  rw [z, h] at this; cases this
theorem Inv.old (I : Inv X pins σ H s) (hex : X.ex = []) {a : Addr} (h : s.heap.get? a = none) : X.s₀.heap.get? a = none := by
  cases q : X.s₀.heap.get? a with
  | none => rfl
  | some o => obtain ⟨u, z⟩ := I.base.there a o q (by rw [hex]; simp); rw [h] at z; cases z
/-- behind a call, what ch names is new since the entry -/
theorem Inv.callN {h' : Heap} {g' : Array GenState} {t' : Nat} {d' : Drawn} {ch : List Addr} (I : Inv X pins σ H s) (u : Un (frs X.stack) ch H H' s.heap h') (hok : HOk X.prog X.w H' h') (hg : AllBare g')
    (hch : ∀ b ∈ ch, X.s₀.heap.get? b = none ∧ b ≠ X.env.locals ∧ (∀ x c, X.env.cells.lookup x = some c → c ≠ b) ∧ (∀ p ∈ X.pn ++ pins, p.1 ≠ b) ∧ b ∉ X.fs) :
    Inv X pins σ H' { s with heap := h', gens := g', drawn := d', toks := t' } := by
  have nin : ∀ b o, X.s₀.heap.get? b = some o → b ∉ ch := fun b o q hb => by rw [(hch b hb).1] at q; cases q
  have sp : ∀ {b : Addr}, b ∈ ch ++ X.ex → b ∈ ch ∨ b ∈ X.ex := fun z => List.mem_append.mp z
  have ok1 : Cx.Ok { X with ex := ch ++ X.ex } := { I.ok with
    exf := fun b hb => (sp hb).elim (fun z => ⟨(hch b z).2.1, (hch b z).2.2.1⟩) (I.ok.exf b)
    noex := fun b o q hb => (sp hb).elim (nin b o (I.ok.bs b o q).1) (I.ok.noex b o q)
    exfs := fun b hb => (sp hb).elim (fun z => (hch b z).2.2.2.2) (I.ok.exfs b) }
  have I1 : Inv { X with ex := ch ++ X.ex } pins σ H s := ⟨ok1, I.os, I.bare, I.base.mono (fun _ z => z) (fun _ z => List.mem_append_right _ z), I.loc, I.cell, I.free, I.freeC, I.pin, I.hok, I.len⟩
  have J := I1.call (g' := g') (t' := t') (d' := d') u hok hg fun b hb => ⟨.inl (List.mem_append_left _ hb), (hch b hb).2.1, (hch b hb).2.2.1, (hch b hb).2.2.2.1⟩
  have nn : ∀ b o, X.s₀.heap.get? b = some o → b ∉ X.ex → b ∉ ch ++ X.ex := fun b o q hx hb => (sp hb).elim (nin b o q) hx
  exact ⟨I.ok, J.os, J.bare, ⟨fun b o q n hb hx => J.base.keep b o q n hb (nn b o q hx), fun b o q n hb hx => J.base.slot b o q n hb (nn b o q hx), fun b o q n hx => J.base.free b o q n (nn b o q hx), fun b o q hx => J.base.there b o q (nn b o q hx),
    J.base.tups, J.base.frzs, J.base.tbls⟩, J.loc, J.cell, J.free, J.freeC, J.pin, J.hok, J.len⟩
theorem Inv.fieldsNot (I : Inv X pins σ H s) {a : Addr} {o : Obj} {vs : Array Value} (h : s.heap.get? a = some o) (hd : o.data = .fields vs) : a ≠ X.env.locals ∧ ∀ x c, X.env.cells.lookup x = some c → c ≠ a := by
  constructor
  · intro z
    obtain ⟨m, ⟨o', es, ep, ho, r⟩, _⟩ := I.loc
    rw [z] at h; rw [h] at ho; cases ho
    obtain ⟨r1, r2, _⟩ := r
    rw [hd] at r1; cases r1
  · intro x c hc z
    obtain ⟨v, q⟩ := I.cell x c hc
    subst z
    obtain ⟨o', ho, hd'⟩ := q
    rw [h] at ho; cases ho
    rw [hd] at hd'; cases hd'
/-- behind noteFrame and setFlight -/
theorem Inv.noted {h' : Heap} {t' : Addr} (I : Inv X pins σ H s) (hst : X.stack = X.env :: X.outer) (fl : FlyO s.heap e cls dx T) (oe : Out X pins H e) (ot : ∀ t, T = some t → Out X pins H t) (hs : s.heap.objs.size ≤ h'.objs.size)
    (ht : s.heap.objs.size ≤ t') (fl' : FlyO h' e cls dx (some t')) (kb : KeptBut (X.env :: X.outer) e T s.heap h') (there : ∀ t, T = some t → ∃ o, h'.get? t = some o) :
    Inv X pins σ H { s with heap := h' } ∧ Fly X pins H { s with heap := h' } e cls dx := by
  have hst' : X.env :: X.outer = X.stack := hst.symm
  rw [hst'] at kb
  have hch : ∀ b ∈ e :: T.toList, X.s₀.heap.get? b = none ∧ b ≠ X.env.locals ∧ (∀ x c, X.env.cells.lookup x = some c → c ≠ b) ∧ (∀ p ∈ X.pn ++ pins, p.1 ≠ b) ∧ b ∉ X.fs := fun b hb => by
    have out : ∀ z, z ∈ X.fs → z ∈ frs (X.env :: X.outer) := fun z hz => by unfold frs; rw [List.filterMap_cons]; split; exact hz; exact List.mem_cons_of_mem _ hz
    have stk : s.heap.FunFrames X.base (X.env :: X.outer) := by rw [hst']; exact I.stack
    rcases List.mem_cons.mp hb with rfl | hb
    · obtain ⟨vs, sl, q, _⟩ := fl.ex
      exact ⟨oe.new, (I.fieldsNot q rfl).1, (I.fieldsNot q rfl).2, oe.pin, fun z => fl.ex.notFrame stk (out _ z)⟩
    · have : T = some b := by cases T with | none => cases hb | some t => simp at hb; rw [hb]
      obtain ⟨_, o, ts, q, hd, h3⟩ := fl.tb b this
      exact ⟨(ot b this).new, (I.fieldsNot q hd).1, (I.fieldsNot q hd).2, (ot b this).pin, fun z => TbAt.notFrame ⟨o, ts, q, hd, h3⟩ stk (out _ z)⟩
  have nb : ∀ b, b ∉ e :: T.toList → b ≠ e ∧ T ≠ some b := fun b hb => ⟨fun z => hb (by simp [z]), fun z => hb (by simp [z])⟩
  have un : Un (frs X.stack) (e :: T.toList) H H s.heap h' := {
    keep := fun b o q _ hn hx => ((kb b o (nb b hx).1 (nb b hx).2 q).1 hn)
    slot := fun b o q _ _ hx => (kb b o (nb b hx).1 (nb b hx).2 q).2
    free := fun _ _ _ n _ => n
    there := fun b o q hx => let ⟨sl, z⟩ := (kb b o (nb b hx).1 (nb b hx).2 q).2; ⟨_, z⟩
    tups := fun _ _ z => z
    frzs := fun _ _ _ z => z
    tbls := fun b ps z => ⟨#[], by rw [z]; simp⟩ }
  have hok : HOk X.prog X.w H h' := fun a o q => (I.hok a o q).stay (fun c v hc z => by
    have hH : ∃ u, H c = some u := by rcases hc with hc | hc; exact ⟨_, hc ▸ q⟩; exact ⟨_, hc⟩
    obtain ⟨u, hu⟩ := hH
    have c1 : c ≠ e := fun y => by rw [y, oe.unt] at hu; cases hu
    have c2 : T ≠ some c := fun y => by rw [(ot c y).unt] at hu; cases hu
    exact (kb c v c1 c2 z).1 fun y => by rw [I.stkFree c y] at hu; cases hu) (fun _ z => z) fun _ _ z => z
  refine ⟨I.callN (h' := h') (g' := s.gens) (d' := s.drawn) (t' := s.toks) un hok I.bare hch, ⟨some t', fl', oe, fun t z => ?_⟩⟩
  cases z
  exact ⟨Heap.get?_none_of_le (Nat.le_trans I.sz ht), I.hok.fresh ht, I.pinNo (Heap.get?_none_of_le ht)⟩
end
theorem acc_fn {P : Program} {w : World} {K : PySem.W.Frag} {mg : Str → Option Value} {base : Heap} {N : List Str} {qual : Str} {scope : Scope} {f : Addr} {cd : Value} {A : Around} {outer : List Env} {s : Shared} {H : Hp} {E : XK} :
    Acc (cxOf (CX1 P w) P w K mg base N qual scope f cd A outer s H E) (fun _ => E) := by
  refine ⟨fun pins σ H' s' e cls dx I fl h => ?_⟩
  obtain ⟨T, flo, oe, ot⟩ := fl.go
  show wpAny _ _ (leaving _ (.ref e)) _ _ s'
  refine leave_fly (base := base) (outer := outer) (L := s.heap.objs.size) (T := T) I.ok.frames I.stack rfl flo fun h' hs t' ht fl' kb there => ?_
  obtain ⟨I2, fl2⟩ := I.noted rfl flo oe ot hs ht fl' kb there
  refine ⟨e, H', cls, dx, some t', rfl, I.os, I.bare, ?_, I2.hok, fl', ⟨oe.new, oe.unt⟩, fun t z => ?_, h⟩
  · exact I2.base
  · cases z; exact ⟨Heap.get?_none_of_le (Nat.le_trans I.sz ht), I.hok.fresh ht⟩
section
variable {X : Cx} {x : Str} {p pos : Pos} {e : Expr} {es : List Expr} {t : TA} {k : Nat} {f : Addr} {fd : FuncData} {ps : List Str} {sp : Sp} {xk : XS}
/-- an exception behind a call -/
theorem Inv.raised {pins : List (Addr × Obj)} {σ : St} {H : Hp} {s s' : Shared} {ev : Value} (hex : X.ex = []) (I : Inv X pins σ H s) (ac : Acc X xk) (h : CX1 X.prog X.w X.stack H s (xk σ) ev s') : X.xe ev s' := by
  obtain ⟨ea, H', cls, dx, T, rfl, os, bare, un, hok, fl, oe, ot, q⟩ := h
  have I2 := I.call' os un hok bare (ch := []) fun b z => absurd z (by simp)
  exact ac.go pins σ H' s' ea cls dx I2 ⟨T, fl, ⟨I.old hex oe.1, oe.2, I.pinNo oe.1⟩, fun t z => ⟨I.old hex (ot t z).1, (ot t z).2, I.pinNo (ot t z).1⟩⟩ q
theorem run_fnX {pins : List (Addr × Obj)} {σ : St} {H : Hp} {s : Shared} {Q : VK} {us : List Value} {vs : List V} (F : FnOk X.prog X.w X.K X.mg X.base (CX1 X.prog X.w) k f fd ps sp) (hr : Room k X.A) (hb : Binds X.K fd ps [])
    (hex : X.ex = []) (ac : Acc X xk) (I : Inv X pins σ H s) (r : Vals vs us) (h : sp vs H Q (xk σ)) : wpAny (model X.prog X.w) X.A (call (.ref f) us) (EP X pins σ Q) X.xe s := by
  have hl : us.length = ps.length := by rw [← F.len _ _ _ _ h]; exact r.length.symm
  have hb' := hb s us I.kIn (by simpa using hl)
  rw [List.append_nil] at hb'
  refine wpAny_call (codeAny_mono (F.run X.A X.stack s H ⟨us, []⟩ us vs Q (xk σ) hr I.env0 hb' r h) fun r s' hq => ?_)
  cases r with
  | error e => exact I.raised hex ac hq
  | ok fl =>
    cases fl with
    | ret u => exact I.after hq
    | next => exact False.elim hq
    | brk => exact False.elim hq
    | cont => exact False.elim hq
/-- f(..) that may raise -/
noncomputable def tCallX (xk : XS) (sp : Sp) (t : TA) : TE := fun σ H Q => t σ H fun vs H1 => sp vs H1 Q (xk σ)
theorem pe_callX (hex : X.ex = []) (ac : Acc X xk) (F : FnOk X.prog X.w X.K X.mg X.base (CX1 X.prog X.w) k f fd ps sp) (hr : Room k X.A) (hg : Gl X x) (hm : X.mg x = some (.ref f)) (hk : PySem.W.keepIn X.K (.ref f) = true) (hb : Binds X.K fd ps [])
    (ha : PA X (e :: es) t) (hdb : (x == ("__debug__" : Str)) = false := by decide) (he : starEach (e :: es) X.env = (false, eval e X.env) :: starEach es X.env := by rfl) (hpl : (backTo pos (starEach es X.env)).any (·.1) = false := by rfl) :
    PE X (.Call (.Name x p) (e :: es) [] pos) (tCallX xk sp t) := by
  (try refine ⟨?_⟩); intro pins s σ H Q I h
  refine wpAny_Call_Name_kw (ld_glob I hg hm ?_ hdb)
  refine PySem.W.callWith_K (h₀ := X.base) I.ok.mod.kin hk (thn (ha pos pins s σ H _ I h) fun us s1 ⟨vs, H1, I1, r, q⟩ => ⟨I1.kIn, ?_⟩) he hpl
  exact run_fnX F hr hb hex ac I1 r q
end
end L2

set_option Elab.async false
set_option linter.all false
set_option maxRecDepth 100000
set_option maxHeartbeats 1000000
namespace L2
open PySem PySem.Spec PyProof.Rows
/-! ### classes of exceptions, raise -/
noncomputable abbrev bmV : List Value := [.type "ValueError", .type "Exception", .type "BaseException", .type "object"]
/-- the class at C: what stands behind it, its own __init__ -/
noncomputable def xcIn (K : PySem.W.Frag) (C : Addr) (bm : List Value) (ini : Option Value) : Bool := match K.lookup C with
  | some ⟨.type "type", _, .cls cd, sl⟩ => (match cd.mro, sl.toList with
    | .ref C' :: bm', [_, _, _, _, some (.builtin n), _] => C' == C && n == "ValueError.__new__" && !cd.hasDel && bm' == bm && PySem.W.tailIn K bmV bm && PySem.W.nsOkIn K cd.ns && PySem.W.nsIn K cd.ns "__init__" == some ini
    | _, _ => false)
  | _ => false
noncomputable def XObj (h : Heap) (C : Addr) (bm : List Value) (ini : Option Value) : Prop := ∃ N nm q bs hdct sn sub ab col dd k0 k1 k2 k3 k5 mN, h.get? C = some (excClassObj nm q C N bs bm hdct sn sub ab col dd k0 k1 k2 k3 k5 "ValueError.__new__") ∧ h.Ns N mN ∧ mN "__init__" = ini ∧ OwnTail h bmV bm
theorem nsMap_some_of_in {K : PySem.W.Frag} {h : Heap} {N : Addr} {mg : Str → Option Value} {n : Str} {v : Value} (X : K.In h) (G : h.Ns N mg) (e : PySem.W.nsIn K N n = some (some v)) : mg n = some v := by
  obtain ⟨o, es, ep, ho, hd, _, hf⟩ := G
  unfold PySem.W.nsIn at e
  split at e
  · rename_i c d es' n' sl q
    have := X _ _ q
    rw [ho] at this
    cases this
    cases hd
    split at e
    · rename_i w he
      cases e
      rw [← hf]
      unfold nsFind findBy
      rw [← Array.find?_toList, he]
      rfl
    · split at e <;> cases e
  · cases e
theorem xobj_of {K : PySem.W.Frag} {h : Heap} {C : Addr} {bm : List Value} {ini : Option Value} (X : K.In h) (q : xcIn K C bm ini = true) : XObj h C bm ini := by
  unfold xcIn at q
  split at q
  · rename_i dd cd sl ho
    split at q
    · rename_i C' bm' k0 k1 k2 k3 n k5 hm hs
      simp only [Bool.and_eq_true, beq_iff_eq, Bool.not_eq_true'] at q
      obtain ⟨⟨⟨⟨⟨⟨rfl, rfl⟩, hdel⟩, rfl⟩, ht⟩, hok⟩, hni⟩ := q
      obtain ⟨nm, bs, mro, ns, qn, hd, sn, sub, ab, col, del⟩ := cd
      dsimp only at hm hdel hok hni
      subst hm hdel
      have hsl : sl = #[k0, k1, k2, k3, some (.builtin "ValueError.__new__"), k5] := by
        obtain ⟨l⟩ := sl
        simp only at hs
        rw [hs]
      subst hsl
      refine ⟨ns, nm, qn, bs, hd, sn, sub, ab, col, dd, k0, k1, k2, k3, k5, _, X _ _ ho, .of_isNs (PySem.W.isNs_of_in X hok), ?_, PySem.W.tail_of_in X ht⟩
      cases ini with
      | none => exact PySem.W.nsMap_none_of_in X hok hni
      | some v => exact nsMap_some_of_in X (.of_isNs (PySem.W.isNs_of_in X hok)) hni
    · cases q
  · cases q
theorem tail_base {h : Heap} {bm : List Value} (T : OwnTail h bmV bm) : bm.contains (.type "BaseException") = true := T.hasType (by decide)
section
variable {X : Cx} {pins : List (Addr × Obj)} {σ : St} {H : Hp} {s : Shared} {xk : XS}
variable {x : Str} {C : Addr} {bm : List Value} {e : Expr} {args : List Expr} {np cpos pos : Pos} {t : TA}
end
end L2

set_option Elab.async false
set_option linter.all false
set_option maxRecDepth 100000
set_option maxHeartbeats 1000000
namespace L2
open PySem PySem.Spec PyProof.Rows
/-! ### try -/
noncomputable def excφ (e : Addr) (cls : Value) (dx : Option Addr) : Heap → Prop := fun h => ∃ vs sl, h.get? e = some { cls := cls, dict := dx, data := .fields vs, slots := sl }
noncomputable abbrev Cx.tr (X : Cx) (E : Value → Shared → Prop) (p : List (Addr × Obj)) : Cx := { X with xe := E, pn := X.pn ++ p }
noncomputable abbrev Cx.hand (X : Cx) (v : Value) : Cx := { X with A := X.A.mark (some v), calm := false, xe := fun _ _ => False }
noncomputable def Ends.unb (D : Ends) (i : Nat) : Ends := { nx := fun σ H => D.nx (σ.set i none) H, rt := D.rt, bk := fun σ H => D.bk (σ.set i none) H, ct := fun σ H => D.ct (σ.set i none) H }
section
variable {X : Cx} {pins p : List (Addr × Obj)} {σ : St} {H : Hp} {s : Shared} {E : Value → Shared → Prop} {v : Value}
theorem Cx.Ok.tr (ok : X.Ok) : (X.tr E p).Ok := { ok with }
theorem Cx.Ok.untr (ok : (X.tr E p).Ok) : X.Ok := { ok with }
theorem Inv.tr (I : Inv X (p ++ pins) σ H s) : Inv (X.tr E p) pins σ H s := ⟨I.ok.tr, I.os, I.bare, I.base, I.loc, I.cell, I.free, I.freeC, fun q hq => I.pin q (by simpa using hq), I.hok, I.len⟩
theorem Inv.untr (I : Inv (X.tr E p) pins σ H s) : Inv X (p ++ pins) σ H s := ⟨I.ok.untr, I.os, I.bare, I.base, I.loc, I.cell, I.free, I.freeC, fun q hq => I.pin q (by simpa using hq), I.hok, I.len⟩
theorem SP.untr {D : Ends} {f : Flow} {s' : Shared} (h : SP (X.tr E p) pins D f s') : SP X (p ++ pins) D f s' := by
  cases f with
  | next => obtain ⟨σ', H', I, q⟩ := h; exact ⟨σ', H', I.untr, q⟩
  | brk => obtain ⟨σ', H', I, q⟩ := h; exact ⟨σ', H', I.untr, q⟩
  | cont => obtain ⟨σ', H', I, q⟩ := h; exact ⟨σ', H', I.untr, q⟩
  | ret u => obtain ⟨v, σ', H', I, r, q⟩ := h; exact ⟨v, σ', H', I.untr, r, q⟩
theorem Inv.drop (I : Inv X (p ++ pins) σ H s) : Inv X p σ H s := I.pins_of fun q hq => I.pin q (by simp [hq])
theorem Cx.Ok.hand (ok : X.Ok) : (X.hand v).Ok := { ok with hd := (fun z => by cases z), frames := ok.frames }
theorem Inv.hand (I : Inv X pins σ H s) : Inv (X.hand v) pins σ H s := ⟨I.ok.hand, I.os, I.bare, I.base, I.loc, I.cell, I.free, I.freeC, I.pin, I.hok, I.len⟩
theorem Inv.unhand (ok : X.Ok) (I : Inv (X.hand v) pins σ H s) : Inv X pins σ H s := ⟨ok, I.os, I.bare, I.base, I.loc, I.cell, I.free, I.freeC, I.pin, I.hok, I.len⟩
/-- an ordinary statement anywhere -/
theorem PS.any {st : Stmt} {t : TS} (h : PS X.nox st t) : PS (X.tr E p) st t := ⟨fun pins s σ H D I hw =>
  wpAny_mono (h (p ++ pins) s σ H D (I.untr.wish _) hw) (fun f s' q => by
    have q := q.unwish
    cases f with
    | next => obtain ⟨σ', H', I, q⟩ := q; exact ⟨σ', H', I.tr, q⟩
    | brk => obtain ⟨σ', H', I, q⟩ := q; exact ⟨σ', H', I.tr, q⟩
    | cont => obtain ⟨σ', H', I, q⟩ := q; exact ⟨σ', H', I.tr, q⟩
    | ret u => obtain ⟨v, σ', H', I, r, q⟩ := q; exact ⟨v, σ', H', I.tr, r, q⟩) fun _ _ z => False.elim z⟩
theorem PA.any {es : List Expr} {t : TA} (h : PA X.nox es t) : PA (X.tr E p) es t := ⟨fun pos pins s σ H D I hw =>
  wpAny_mono (h pos (p ++ pins) s σ H D (I.untr.wish _) hw) (fun f s' ⟨vs, H', I', r, q⟩ => ⟨vs, H', (I'.unwish).tr, r, q⟩) fun _ _ z => False.elim z⟩
theorem PT.any {e : Expr} {t : TT} (h : PT X.nox e t) : PT (X.tr E p) e t := ⟨fun pins s σ H D I hw =>
  wpAny_mono (h (p ++ pins) s σ H D (I.untr.wish _) hw) (fun f s' ⟨H', I', q⟩ => ⟨H', (I'.unwish).tr, q⟩) fun _ _ z => False.elim z⟩
variable {e : Addr} {cls : Value} {dx T : Option Addr}
/-- a caught exception is tracked -/
theorem Inv.track {vs : Array Value} {sl : Array (Option Value)} (I : Inv X pins σ H s) (he : s.heap.get? e = some { cls := cls, dict := dx, data := .fields vs, slots := sl }) (o : Out X pins H e) :
    Inv X pins σ (upd H e (.ext (excφ e cls dx))) s := by
  have ne : ∀ b u, H b = some u → b ≠ e := fun b u q z => by rw [z, o.unt] at q; cases q
  have up : ∀ b, b ≠ e → upd H e (.ext (excφ e cls dx)) b = H b := fun b z => by simp [upd, z]
  have old : ∀ b ob, X.s₀.heap.get? b = some ob → b ≠ e := fun b ob q z => by rw [z, o.new] at q; cases q
  refine ⟨I.ok, I.os, I.bare, ⟨I.base.keep, I.base.slot, fun b ob q n hx => (up b (old b ob q)).trans (I.base.free b ob q n hx), I.base.there, fun b xs q => ?_, fun b ob u q => ?_, fun b ps q => ?_⟩, I.loc, I.cell,
    (up _ (Ne.symm (I.fieldsNot he rfl).1)).trans I.free, fun x c q => (up _ ((I.fieldsNot he rfl).2 x c q)).trans (I.freeC x c q), fun q hq => ?_, fun b u q => ?_, I.len⟩
  · have z := I.base.tups b xs q; exact (up b (ne b _ z)).trans z
  · have z := I.base.frzs b ob u q; exact (up b (ne b _ z)).trans z
  · obtain ⟨m, z⟩ := I.base.tbls b ps q; exact ⟨m, (up b (ne b _ z)).trans z⟩
  · obtain ⟨a1, a2, a3⟩ := I.pin q hq; exact ⟨a1, (up _ (o.pin q hq)).trans a2, a3⟩
  · by_cases hb : b = e
    · subst hb
      have : u = .ext (excφ b cls dx) := by simp [upd] at q; exact q.symm
      subst this
      exact ⟨⟨vs, sl, he⟩, ⟨_, he⟩, fun h1 h2 ⟨vs', sl', q'⟩ k => ⟨vs', sl', k _ q'⟩⟩
    · rw [up b hb] at q
      exact (I.hok b u q).stay (fun _ _ _ z => z) (fun c z => (up c (ne c _ z)).trans z) fun c xs z => (up c (ne c _ z)).trans z
theorem flight_fly {M : Model} {A : Around} {t : Addr} {Q : Unit → Shared → Prop} (F : FlyO s.heap e cls dx (some t))
    (h : ∀ h', FlyO h' e cls dx (some t) → (∀ b o, b ≠ t → s.heap.get? b = some o → h'.get? b = some o) → Q () { s with heap := h' }) : wpAny M A (setFlight (.ref e) none) Q E s := by
  obtain ⟨⟨vs, sl, he, h1⟩, tb⟩ := F
  obtain ⟨hte, o, ts, ht, hd, h3⟩ := tb t rfl
  unfold setFlight
  refine wpAny_bind (wpAny_field he rfl h1 ?_)
  show wpAny M A (if (Value.ref t != Value.none) = true then _ else _) _ _ _
  rw [if_pos (show (Value.ref t != Value.none) = true from by simp)]
  refine wpAny_setField ht hd (Array.getElem?_eq_some_iff.mp h3).1 ?_
  have hsz : 3 < ts.size := (Array.getElem?_eq_some_iff.mp h3).1
  refine h _ ⟨⟨vs, sl, (Heap.get?_update_other _ _ hte).trans he, h1⟩, fun t' z => ?_⟩ fun b ob hb q => (Heap.get?_update_other _ _ (Ne.symm hb)).trans q
  cases z
  refine ⟨hte, _, _, Heap.get?_update_self _ ht (Obj.isFreed_of_fields (Obj.data_mapFields hd _)), Obj.data_mapFields hd _, ?_⟩
  show (ts.setIfInBounds 3 ((none : Option Addr).elim Value.none fun f => rawInt f))[3]? = _
  simp [hsz]
/-- the name goes behind the suite -/
theorem Inv.goes {h' : Heap} {m : Str → Option Value} {w : Option Value} {n : Str} {i t' : Nat} (I : Inv X pins σ H s) (hN : X.N.Nodup) (hi : X.N[i]? = some n)
    (hl : ∀ (i : Nat) (x : Str) (v : V), X.N[i]? = some x → σ[i]? = some (some v) → Vis X.env.scope x → ∃ u, RelV v u ∧ Look X.env s.heap m x u) (hn : s.heap.Ns X.env.locals m)
    (hn' : h'.Ns X.env.locals (fun x => if x = n then w else m x)) (hs : Heap.SameBut X.env.locals s.heap h') : Inv X pins (σ.set i none) H { s with heap := h', toks := t' } := by
  have oth : ∀ b o, X.s₀.heap.get? b = some o → b ≠ X.env.locals := fun b o e => Nat.ne_of_lt (Nat.lt_of_lt_of_le (Heap.lt_size e) I.ok.above)
  refine ⟨I.ok, I.os, I.bare, ⟨fun b o e n hb hx => (hs.2 b (oth b o e)).trans (I.base.keep b o e n hb hx), fun b o e n hb hx => ?_, I.base.free, fun b o e hx => ?_, I.base.tups, I.base.frzs, I.base.tbls⟩, ⟨_, hn', fun j y v' e1 e2 e3 => ?_⟩, fun y c e => ?_, I.free, I.freeC, fun q hq => ?_, fun b u q => ?_, by simpa using I.len⟩
  · obtain ⟨sl, e1⟩ := I.base.slot b o e n hb hx
    exact ⟨sl, (hs.2 b (oth b o e)).trans e1⟩
  · obtain ⟨o', e1⟩ := I.base.there b o e hx
    exact ⟨o', (hs.2 b (oth b o e)).trans e1⟩
  · by_cases hj : j = i
    · subst hj
      have : j < σ.length := by rw [I.len]; exact (List.getElem?_eq_some_iff.mp hi).1
      rw [List.getElem?_set_self this] at e2; cases e2
    · rw [List.getElem?_set_ne (Ne.symm hj)] at e2
      obtain ⟨u', r', q⟩ := hl j y v' e1 e2 e3
      refine ⟨u', r', ?_⟩
      rcases q with ⟨k, e⟩ | ⟨k, c, e, z⟩
      · refine .inl ⟨k, ?_⟩
        have : y ≠ n := fun e => hj (nodup_ix hN e1 (e ▸ hi))
        simp [this, e]
      · exact .inr ⟨k, c, e, z.sameBut hs (I.cne y c e)⟩
  · obtain ⟨w', z⟩ := I.cell y c e
    exact ⟨w', z.sameBut hs (I.cne y c e)⟩
  · obtain ⟨e, n, ne, nf, d⟩ := I.pin q hq
    exact ⟨(hs.2 q.1 ne).trans e, n, ne, nf, d⟩
  · refine (I.hok b u q).stay (fun c w' hc z => (hs.2 c ?_).trans z) (fun _ z => z) fun _ _ z => z
    rintro rfl
    rcases hc with rfl | hc
    · rw [I.free] at q; cases q
    · rw [I.free] at hc; cases hc
theorem excMatches_own {M : Model} {A : Around} {C D0 : Addr} {bm bmD : List Value} {ini iniD : Option Value} {oe : Obj} {Q : Bool → Shared → Prop} (hC : XObj s.heap C bm ini) (hD : XObj s.heap D0 bmD iniD) (he : s.heap.get? e = some oe) (hcls : oe.cls = .ref C)
    (hq : Q ((Value.ref C :: bm).contains (.ref D0)) s) : wpAny M A (excMatches (.ref e) (.ref D0)) Q E s := by
  obtain ⟨N, nm, q, bs, hdct, sn, sub, ab, col, dd, k0, k1, k2, k3, k5, mN, hC, hN, hni, T⟩ := hC
  obtain ⟨N', nm', q', bs', hdct', sn', sub', ab', col', dd', k0', k1', k2', k3', k5', mN', hD, hN', hni', T'⟩ := hD
  obtain ⟨h, g, d, t, os⟩ := s
  have hbD : (Value.ref D0 :: bmD).contains (.type "BaseException") = true := by rw [List.contains_cons, tail_base T', Bool.or_true]
  have f := tc_notTuple
  generalize hb : (Value.ref C :: bm).contains (.ref D0) = b at hq
  unfold excMatches
  repeat (first | (with_reducible refine wpAny_loadPart_at he ?_; rw [hcls]) | with_reducible refine wpAny_loadPart_at hD ?_ | (with_reducible refine wpAny_isSubtype_exc hD ?_; rw [hbD]) | (with_reducible refine wpAny_isSubtype_exc hC ?_; rw [hb]) | wp_step)
  cases b <;> (wp_walk; exact hq)
theorem goes_ok {A : Around} {D : Ends} {n : Str} {i : Nat} {f : Flow} {s' : Shared} {npos : Pos} (ok : X.Ok) (hN : X.N.Nodup) (hi : X.N[i]? = some n) (hl : X.env.kindOf n = some .local) (h : SP (X.hand v) pins (D.unb i) f s') :
    wpAny (model X.prog X.w) A (do bindName X.env n .none; unbindBehindTheSuite X.env n npos) (fun _ s5 => SP X pins D f s5) E s' := by
  have hcls : (X.env.scope.kind == .class || (X.env.scope.kind == .module && X.env.locals != X.env.globals)) = false := by rw [ok.kind]; rfl
  have main : ∀ σ' H', Inv (X.hand v) pins σ' H' s' → (∀ s5, Inv X pins (σ'.set i none) H' s5 → SP X pins D f s5) → wpAny (model X.prog X.w) A (do bindName X.env n .none; unbindBehindTheSuite X.env n npos) (fun _ s5 => SP X pins D f s5) E s' := fun σ' H' J k => by
    have J := J.unhand ok
    obtain ⟨m, hn, hll⟩ := id J.loc
    exact wpAny_nameGoes_keeps hl hn hcls fun h' w hn' hs => k _ (J.goes hN hi hll hn hn' hs)
  cases f with
  | next => obtain ⟨σ', H', J, q⟩ := h; exact main σ' H' J fun s5 J5 => ⟨_, H', J5, q⟩
  | brk => obtain ⟨σ', H', J, q⟩ := h; exact main σ' H' J fun s5 J5 => ⟨_, H', J5, q⟩
  | cont => obtain ⟨σ', H', J, q⟩ := h; exact main σ' H' J fun s5 J5 => ⟨_, H', J5, q⟩
  | ret u => obtain ⟨v', σ', H', J, r, q⟩ := h; exact main σ' H' J fun s5 J5 => ⟨v', _, H', J5, r, q⟩
variable {x n : Str} {i : Nat} {C D0 : Addr} {bm bmD : List Value} {ini iniD : Option Value} {b0 : Stmt} {suite : List Stmt} {np npos : Pos} {ts : TS} {D : Ends} {t : Addr}
theorem handle_as (hN : X.N.Nodup) (hi : X.N[i]? = some n) (hl : X.env.kindOf n = some .local) (hg : Gl X x) (hm : X.mg x = some (.ref D0)) (hD : xcIn X.K D0 bmD iniD = true) (hC : xcIn X.K C bm ini = true)
    (hsub : (Value.ref C :: bm).contains (.ref D0) = true) (hs : PSs (X.hand (.ref e)) (b0 :: suite) ts) (I : Inv X pins σ H s) (F : FlyO s.heap e (.ref C) dx (some t)) (oe : Out X pins H e) (ot : Out X pins H t) (ht : X.s₀.heap.objs.size ≤ t)
    (q : ts (D.unb i) (σ.set i (some (.ref e))) (upd H e (.ext (excφ e (.ref C) dx)))) (hdb : (x == ("__debug__" : Str)) = false := by decide) :
    wpAny (model X.prog X.w) X.A (handleBy (.ref e) X.env [.ExceptHandler (some (.Name x np)) (some n) (b0 :: suite) npos]) (SP X pins D) X.xe s := by
  refine wpAny_handleBy_cons (codeAny_handlers_test (ld_glob (X := X.hand (.ref e)) I.hand hg hm ?_ hdb)) (by intro q; cases q)
  obtain ⟨⟨vs, sl, he, h1⟩, tb⟩ := id F
  refine excMatches_own (xobj_of I.kIn hC) (xobj_of I.kIn hD) he rfl ?_
  rw [hsub]
  refine codeAny_handlers_suite_as (flight_fly F fun h' F' k => ?_)
  obtain ⟨hte, o', ts', ht', hd', _⟩ := tb t rfl
  have I2 : Inv X pins σ H { s with heap := h' } := I.turned (t' := s.toks) k ot.unt (I.fieldsNot ht' hd').1 (.inr ht) (I.fieldsNot ht' hd').2 ot.pin
  obtain ⟨vs2, sl2, he2, _⟩ := F'.ex
  have I3 := I2.track he2 oe
  refine store_ok (X := X.hand (.ref e)) I3.hand hN hi (.inl hl) (v := .ref e) rfl (fun s3 I4 => ?_) (.inr hl)
  refine wpAny_mono (hs pins s3 _ _ _ I4 q) (fun f s4 h4 => ?_) fun _ _ z => False.elim z
  exact goes_ok I.ok hN hi hl h4
/-- try: a body that may raise, one clause with a name -/
noncomputable def tTry (i : Nat) (okc : Value → Prop) (tb : XS → TS) (ts : Addr → TS) : TS := fun D σ H => tb (fun σ' cls dx H' => okc cls ∧ ∀ ea, H' ea = none → ts ea (D.unb i) (σ'.set i (some (.ref ea))) (upd H' ea (.ext (excφ ea cls dx)))) D σ H
/-- the classes that the clause of D0 catches -/
noncomputable def Caught (K : PySem.W.Frag) (D0 : Addr) (cls : Value) : Prop := ∃ C bm ini, cls = .ref C ∧ xcIn K C bm ini = true ∧ (Value.ref C :: bm).contains (.ref D0) = true
theorem ps_try {body : List Stmt} {pos : Pos} {tb : XS → TS} {ts : Addr → TS} (hst : X.stack = X.env :: X.outer) (hf : X.env.frame = some X.env.locals) (hN : X.N.Nodup) (hi : X.N[i]? = some n) (hl : X.env.kindOf n = some .local) (hg : Gl X x) (hm : X.mg x = some (.ref D0)) (hD : xcIn X.K D0 bmD iniD = true)
    (hb : ∀ E p xk, PassesOwn (model X.prog X.w) X.A X.env E → Acc (X.tr E p) xk → PSs (X.tr E p) body (tb xk)) (hs : ∀ ea, PSs (X.hand (.ref ea)) (b0 :: suite) (ts ea)) (hdb : (x == ("__debug__" : Str)) = false := by decide) :
    PS X (.Try body [.ExceptHandler (some (.Name x np)) (some n) (b0 :: suite) npos] [] [] pos) (tTry i (Caught X.K D0) tb ts) := by
  refine ⟨fun pins s σ H D I h => ?_⟩
  refine wpAny_Try_except ?_
  have ac : Acc (X.tr (fun e s₁ => wpAny (model X.prog X.w) X.A (noteFrame e X.env) (fun _ s₂ => wpAny (model X.prog X.w) X.A (setFlight e none) (fun _ s₃ =>
      wpAny (model X.prog X.w) X.A (handleBy e X.env [.ExceptHandler (some (.Name x np)) (some n) (b0 :: suite) npos]) (SP X pins D) X.xe s₃) X.xe s₂) X.xe s₁) pins)
      (fun σ' cls dx H' => Caught X.K D0 cls ∧ ∀ ea, H' ea = none → ts ea (D.unb i) (σ'.set i (some (.ref ea))) (upd H' ea (.ext (excφ ea cls dx)))) := by
    refine ⟨fun pins' σ' H' s' ea cls dx J fl ⟨⟨C, bm, ini, hc, hC, hsub⟩, hk⟩ => ?_⟩
    subst hc
    obtain ⟨T, flo, oe, ot⟩ := fl.go
    have J := J.untr.drop
    have oe : Out X pins H' ea := ⟨oe.new, oe.unt, fun q hq => oe.pin q (List.mem_append_left _ hq)⟩
    have ot : ∀ t, T = some t → Out X pins H' t := fun t z => ⟨(ot t z).new, (ot t z).unt, fun q hq => (ot t z).pin q (List.mem_append_left _ hq)⟩
    show wpAny _ _ (noteFrame (.ref ea) X.env) _ _ s'
    refine note_fly (base := X.base) (outer := X.outer) (L := X.env.locals) (T := T) (by rw [← hst]; exact J.ok.frames) (by rw [← hst]; exact J.stack) hf flo fun h' hs' t' ht fl' kb there => ?_
    obtain ⟨J2, fl2⟩ := J.noted hst flo oe ot hs' ht fl' kb there
    have hsz : X.s₀.heap.objs.size ≤ t' := Nat.le_trans J.sz ht
    exact handle_as hN hi hl hg hm hD hC hsub (hs _) J2 fl' oe ⟨Heap.get?_none_of_le hsz, J.hok.fresh ht, J.pinNo (Heap.get?_none_of_le ht)⟩ hsz (hk ea oe.unt) hdb
  refine wpAny_mono (hb _ pins _ PassesOwn.looking ac [] s σ H D (Inv.tr (by simpa using I)) h) (fun f s' q => ?_) fun e s' q => q
  have q := q.untr
  rw [List.append_nil] at q
  cases f with
  | next => exact wpAny_execs_nil q
  | ret v => exact q
  | brk => exact q
  | cont => exact q
end
end L2

set_option Elab.async false
set_option linter.all false
set_option maxRecDepth 100000
set_option maxHeartbeats 1000000
namespace L2
open PySem PySem.Spec PyProof.Rows
/-! ### exceptions over data -/
/-- into a call and out of it, however it ends -/
theorem call_frame {C : Ctx} {ow : List Bool} {G : Hp} {ρ : DSt} {σ : St} {H : Hp} {pd T : List (D × V)} {ks : List AK} {ds ds' : List D} {vs : List V}
    (hn : C.np ≤ pd.length) (r : R C ow G ρ σ H (T.reverse ++ pd)) (ha : ArgsK G σ ks ds vs T) (hf : fillA ks ds ρ = some ds') (nd : (slotsOf ks).Nodup) (hw : ∀ i ∈ slotsOf ks, ow[i]? = some true) :
    ∃ C' : Ctx, C'.np = 0 ∧ C'.mu = msV (ks.map AK.isM) vs ∧ R C' (ks.map AK.isM) G (ds'.map some) (vs.map some) H [] ∧ (ks.map AK.isM).length = ds'.length ∧
      ∀ (fr : Bool) d ρ2 σ2 v G2 H2, Same G G2 → ρ2.length = (ks.map AK.isM).length → Ret fr C' (ks.map AK.isM) G2 ρ2 σ2 H2 d v → Kp ow ρ (putK ks (mus (ks.map AK.isM) ρ2) ρ) ∧
        (if fr = true then R C ow G2 (putK ks (mus (ks.map AK.isM) ρ2) ρ) σ H2 ((d, v) :: pd) else R C ow G2 (putK ks (mus (ks.map AK.isM) ρ2) ρ) σ H2 pd ∧ Rep G2 d v) := by
  obtain ⟨O, ro⟩ := r
  have pn := ro.pn
  obtain ⟨l1, l2, hat⟩ := args_at (O := O) (H := H) (r := pd.length) ha hf (fun j x e => pend_at pn e) (fun i hi d e => by
    obtain ⟨v, h1, h2⟩ := ro.sl i d e; rw [if_pos (hw i hi)] at h2; exact ⟨v, h1, h2⟩)
  let lb := lbs ks pd.length
  let fin : Nat → Option Nat := fun l => (fnd l lb 0).map (2 * ·)
  let fbk : Nat → Option Nat := fun l => if l = 1 then some (2 * pd.length + 1) else if l % 2 = 0 then (match lb[l / 2]? with | some o => o | none => none) else none
  have uq := lbs_uniq (ks := ks) (r := pd.length) nd
  have fin_at : ∀ (i l : Nat), lb[i]? = some (some l) → fin l = some (2 * i) := fun i l e => by
    show (fnd l lb 0).map _ = _
    rw [fnd_at uq e]; simp
  have fin_of : ∀ l l', fin l = some l' → ∃ i, l' = 2 * i ∧ lb[i]? = some (some l) := fun l l' e => by
    change (fnd l lb 0).map _ = _ at e
    cases z : fnd l lb 0 with
    | none => rw [z] at e; cases e
    | some j => rw [z] at e; cases e; obtain ⟨i, rfl, e2⟩ := fnd_of z; exact ⟨i, by show 2 * (0 + i) = 2 * i; omega, e2⟩
  have fin_none : ∀ l, (∀ i : Nat, lb[i]? ≠ some (some l)) → fin l = none := fun l e => by
    show (fnd l lb 0).map _ = _
    rw [fnd_none e]; rfl
  have ri := ro.into (mu := ks.map AK.isM) (fin := fin) (ds := ds') (vs := vs) l1 (fun j d e => by
    obtain ⟨v, h1, h2⟩ := hat j d e
    refine ⟨v, h1, ?_⟩
    rcases h2 with ⟨l, h2, h3, h4⟩ | ⟨h2, h3⟩
    · rw [if_pos h3]; exact ⟨l, h4, fin_at j l h2⟩
    · rw [if_neg (by rw [h2]; decide)]; exact h3) (fun l l' e => by
    obtain ⟨i, rfl, e2⟩ := fin_of l l' e
    exact ⟨i, rfl, lbs_isM e2, by have := (List.getElem?_eq_some_iff.mp (lbs_isM e2)).1; rw [List.length_map] at this; omega⟩)
  refine ⟨_, rfl, rfl, ⟨_, ri⟩, by rw [List.length_map, l1, l2], ?_⟩
  intro fr d ρ2 σ2 v G2 H2 z hl hr
  rw [List.length_map] at hl
  rw [putK_eq hl]
  have out : ∀ (pd2 pd3 : List (D × V)) (O2 : Own), RO ⟨G, H, ownM fin O, msV (ks.map AK.isM) vs, 0⟩ (ks.map AK.isM) G2 ρ2 σ2 H2 pd2 O2 → C.np ≤ pd3.length →
      (∀ (O3 : Own), (∀ a l π, O a = some (l, π) → fin l = none → O3 a = some (l, π) ∧ H2 a = H a) → (∀ a l l' π, O2 a = some (l', π) → fbk l' = some l → O3 a = some (l, π)) → TSame G G2 → Pend G2 H2 O3 pd3) →
      RO C ow G2 (putR ks ρ2 ρ) σ H2 pd3 (ownB fin fbk O O2) := fun pd2 pd3 O2 r2 hn3 hP => by
    refine ro.out (vs := vs) r2 ?_ (by rw [putR_len]; exact ro.len) hn3 ?_ ?_ hP
    · intro l0 l' l e1 e2
      obtain ⟨i, rfl, e3⟩ := fin_of l0 l' e1
      change (if 2 * i = 1 then _ else if 2 * i % 2 = 0 then _ else _) = _ at e2
      rw [if_neg (by omega), if_pos (by omega), show 2 * i / 2 = i by omega, e3] at e2
      exact (Option.some.inj e2).symm
    · intro i d c e
      rcases putR_at e hl with ⟨_, h2⟩ | ⟨k, h1, _⟩
      · exact h2
      · exact absurd (hw i (slot_of h1)) c
    · intro i d c e
      rcases putR_at e hl with ⟨h1, h2⟩ | ⟨j, h1, h2⟩
      · refine .inl ⟨fin_none _ fun j e => ?_, h2⟩
        rcases lbs_odd e with ⟨z, h3, h4⟩ | ⟨z, h3, h4⟩
        · exact h1 (by rw [show i = z by omega]; exact h3)
        · omega
      · obtain ⟨u, g1, g2⟩ := args_slot ha h1
        have im : (ks.map AK.isM)[j]? = some true := by rw [List.getElem?_map, h1]; rfl
        refine .inr ⟨j, u, ?_, im, h2, g2, r2.mp j u (msV_at im g1)⟩
        show (if 2 * j = 1 then _ else if 2 * j % 2 = 0 then _ else _) = _
        rw [if_neg (by omega), if_pos (by omega), show 2 * j / 2 = j by omega, lbs_m h1]
  have pdk : ∀ (O3 : Own), (∀ a l π, O a = some (l, π) → fin l = none → O3 a = some (l, π) ∧ H2 a = H a) → TSame G G2 → Pend G2 H2 O3 pd := fun O3 h1 ts =>
    Pend.keep ts (fun a j π hj e => h1 a _ _ e (fin_none _ fun i e => by
      rcases lbs_odd e with ⟨z, h3, h4⟩ | ⟨z, h3, h4⟩ <;> omega)) (pend_tail (T := T.reverse) pn)
  have kp : Kp ow ρ (putR ks ρ2 ρ) := fun j hj => putR_off fun hs => hj (hw j hs)
  refine ⟨kp, ?_⟩
  unfold Ret at hr
  split at hr
  · rename_i c
    rw [if_pos c]
    obtain ⟨O2, r2⟩ := hr
    refine ⟨_, out _ ((d, v) :: pd) O2 r2 (Nat.le_succ_of_le hn) fun O3 h1 h2 ts => ⟨?_, pdk O3 h1 ts⟩⟩
    exact r2.pn.1.keep (fun _ _ z => z) fun a τ e => ⟨h2 a _ _ _ e (by show (if 2 * 0 + 1 = 1 then _ else _) = _; rw [if_pos rfl]), rfl⟩
  · rename_i c
    rw [if_neg c]
    obtain ⟨⟨O2, r2⟩, p⟩ := hr
    exact ⟨⟨_, out _ pd O2 r2 hn fun O3 h1 h2 ts => pdk O3 h1 ts⟩, p⟩

/-- what an exception bears: the names and values of its own dict -/
noncomputable def XRep (H : Hp) (ns : List Str) (ds : List D) : Option Addr → Prop
  | none => ns = [] ∧ ds = []
  | some d => ∃ xs, H d = some (.xd (ns.zip xs)) ∧ xs.length = ns.length ∧ Reps H ds xs
theorem XRep.mono {H H' : Hp} {ns : List Str} {ds : List D} {dx : Option Addr} (s : Same H H') (h : XRep H ns ds dx) : XRep H' ns ds dx := by
  cases dx with
  | none => exact h
  | some d => obtain ⟨xs, h1, h2, h3⟩ := h; exact ⟨xs, s _ _ h1, h2, Reps.mono s _ _ h3⟩
/-- an exception as data: class, names, values, the state -/
noncomputable abbrev XD := Addr → List Str → List D → DSt → Prop
noncomputable abbrev SpX := List D → (D → DSt → Prop) → XD → Prop
noncomputable def spOfX (mu : List Bool) (fr : Bool) (sd : SpX) : Sp := fun vs H Q E => ∃ (C : Ctx) (G : Hp) (ds : List D) (q : D → DSt → Prop) (qx : XD), C.np = 0 ∧ C.mu = msV mu vs ∧ R C mu G (ds.map some) (vs.map some) H [] ∧ sd ds q qx ∧ mu.length = ds.length ∧
  (∀ d ρ' σ' v G' H', q d (mus mu ρ') → Same G G' → ρ'.length = mu.length → Ret fr C mu G' ρ' σ' H' d v → Q v H') ∧
  (∀ c ns es ρ' σ' dx G' H', qx c ns es (mus mu ρ') → Same G G' → ρ'.length = mu.length → R C mu G' ρ' σ' H' [] → XRep G' ns es dx → E (.ref c) dx H')
theorem run_callX {C : Ctx} {ow : List Bool} {G : Hp} {ρ : DSt} {σ : St} {H : Hp} {pd T : List (D × V)} {ks : List AK} {ds ds' : List D} {vs : List V} {fr : Bool} {sd : SpX} {q : D → DSt → Prop} {qx : XD} {Q : VK} {E : XK}
    (hn : C.np ≤ pd.length) (r : R C ow G ρ σ H (T.reverse ++ pd)) (ha : ArgsK G σ ks ds vs T) (hf : fillA ks ds ρ = some ds') (nd : (slotsOf ks).Nodup) (hw : ∀ i ∈ slotsOf ks, ow[i]? = some true)
    (h : sd ds' (fun d os => q d (putK ks os ρ)) fun c ns es os => qx c ns es (putK ks os ρ))
    (k : ∀ d ρ' v G' H', q d ρ' → Same G G' → Kp ow ρ ρ' → (if fr = true then R C ow G' ρ' σ H' ((d, v) :: pd) else R C ow G' ρ' σ H' pd ∧ Rep G' d v) → Q v H')
    (kx : ∀ c ns es ρ' dx G' H', qx c ns es ρ' → Same G G' → Kp ow ρ ρ' → R C ow G' ρ' σ H' pd → XRep G' ns es dx → E (.ref c) dx H') : spOfX (ks.map AK.isM) fr sd vs H Q E := by
  obtain ⟨C', h1, h2, h3, h4, h5⟩ := call_frame hn r ha hf nd hw
  refine ⟨C', G, ds', _, _, h1, h2, h3, h, h4, fun d ρ' σ' v G' H' hq z hl hr => ?_, fun c ns es ρ' σ' dx G' H' hq z hl hr hx => ?_⟩
  · obtain ⟨kp, hr⟩ := h5 fr d ρ' σ' v G' H' z hl hr
    exact k d _ v G' H' hq z kp hr
  · obtain ⟨kp, hr⟩ := h5 false .non ρ' σ' .non G' H' z hl (by unfold Ret; rw [if_neg (by decide)]; exact ⟨hr, rep_non⟩)
    rw [if_neg (by decide)] at hr
    exact kx c ns es _ dx G' H' hq z kp hr.1 hx
end L2

set_option Elab.async false
set_option linter.all false
set_option maxRecDepth 100000
set_option maxHeartbeats 1000000
namespace L2
open PySem PySem.Spec PyProof.Rows
section
variable {X : Cx} {E : Value → Shared → Prop} {p : List (Addr × Obj)}
theorem FpOk.tr {pins : List (Addr × Obj)} {H : Hp} {b : Addr} (h : FpOk X (p ++ pins) H b) : FpOk (X.tr E p) pins H b := ⟨h.1, h.2.1, h.2.2.1, h.2.2.2.1, h.2.2.2.2.1, fun q hq => h.2.2.2.2.2 q (by simpa using hq)⟩
theorem PI.any {tg iter : Expr} {wi : TI} (h : PI X.nox tg iter wi) : PI (X.tr E p) tg iter wi := ⟨fun pins s σ H R I hw =>
  wpAny_mono (h (p ++ pins) s σ H R (I.untr.wish _) hw) (fun v s1 h1 => wpAny_mono h1 (fun u s2 ⟨it, fp, tn, J, H', e, I', T, t0, f, r⟩ => ⟨it, fp, tn, J, H', e, (I'.unwish).tr, T, t0, fun b hb => FpOk.tr (f b hb), r⟩) fun _ _ z => False.elim z) fun _ _ z => False.elim z⟩
theorem PG.any {tg : Expr} {t : TG} (h : PG X.nox tg t) : PG (X.tr E p) tg t := ⟨fun pins s σ H v u Q I r hw =>
  wpAny_mono (h (p ++ pins) s σ H v u Q (I.untr.wish _) r hw) (fun _ s1 ⟨σ', H', I', q⟩ => ⟨σ', H', (I'.unwish).tr, q⟩) fun _ _ z => False.elim z⟩
end
/-! ### statements and expressions that may raise, over data -/
structure KsX (C : Ctx) (ow : List Bool) (G : Hp) (pd : List (D × V)) (xx : XD) (xk : XS) : Prop where
  go : ∀ c ns es ρ σ dx G' H, xx c ns es ρ → Same G G' → R C ow G' ρ σ H pd → XRep G' ns es dx → xk σ (.ref c) dx H
theorem KsX.mono {C : Ctx} {ow : List Bool} {G G1 : Hp} {pd : List (D × V)} {xx : XD} {xk : XS} (h : KsX C ow G pd xx xk) (s : Same G G1) : KsX C ow G1 pd xx xk := ⟨fun c ns es ρ σ dx G' H a b => h.go c ns es ρ σ dx G' H a (s.trans b)⟩
noncomputable abbrev MSX := XD → MS
noncomputable abbrev MEX := XD → ME
noncomputable def Good (X : Cx) (E : Value → Shared → Prop) (p : List (Addr × Obj)) (xk : XS) : Prop := PassesOwn (model X.prog X.w) X.A X.env E ∧ Acc (X.tr E p) xk
noncomputable def SSX (M : Md) (t : XS → TS) (m : MSX) : Prop := ∀ (C : Ctx) (G : Hp) (ρ : DSt) (σ : St) (H : Hp) (n : EndsD) (D : Ends) (xx : XD) (xk : XS), MuOk C M.mu → C.np = 0 → R C M.ow G ρ σ H [] → m xx n ρ → Ks C M.ow M.fr G n D → KsX C M.ow G [] xx xk → t xk D σ H
noncomputable def SEX (ow : List Bool) (t : XS → TE) (m : MEX) : Prop := ∀ (C : Ctx) (G : Hp) (ρ : DSt) (σ : St) (H : Hp) (pd : List (D × V)) (q : D → DSt → Prop) (Q : VK) (xx : XD) (xk : XS), R C ow G ρ σ H pd → m xx ρ q → KsX C ow G pd xx xk →
  (∀ d ρ' v G' H', q d ρ' → Same G G' → Kp ow ρ ρ' → R C ow G' ρ' σ H' pd → Rep G' d v → Q v H') → t xk σ H Q
structure QX (X : Cx) (M : Md) (st : Stmt) (m : MSX) : Prop where
  ex : ∃ t, (∀ E p xk, Good X E p xk → PS (X.tr E p) st (t xk)) ∧ SSX M t m
structure QXs (X : Cx) (M : Md) (st : List Stmt) (m : MSX) : Prop where
  ex : ∃ t, (∀ E p xk, Good X E p xk → PSs (X.tr E p) st (t xk)) ∧ SSX M t m
structure QXE (X : Cx) (ow : List Bool) (e : Expr) (m : MEX) : Prop where
  ex : ∃ t, (∀ E p xk, Good X E p xk → PE (X.tr E p) e (t xk)) ∧ SEX ow t m
section
variable {X : Cx} {M : Md} {a b c e : Expr} {mt : MT} {pos pos' : Pos} {st : Stmt} {rest : List Stmt} {m : MS} {m1 m2 : MSX} {mex : MEX}
theorem qx_of (h : QS X.nox M st m) : QX X M st (fun _ => m) := by
  obtain ⟨t, p, s⟩ := h
  exact ⟨fun _ => t, fun E q xk g => PS.any p, fun C G ρ σ H n D xx xk hm hn r h k kx => s C G ρ σ H n D hm hn r h k⟩
theorem qxs_nil : QXs X M [] (fun _ => mNext) := ⟨fun _ => _, fun E q xk g => pss_nil, fun C G ρ σ H n D xx xk hm hn r h k kx => k.nx ρ σ G H h (Same.refl _) r⟩
theorem qxs_one (h : QX X M st m1) : QXs X M [st] m1 := by obtain ⟨t, p, s⟩ := h; exact ⟨_, fun E q xk g => pss_one (p E q xk g), s⟩
theorem qxs_cons (h : QX X M st m1) (h2 : QXs X M rest m2) : QXs X M (st :: rest) (fun xx => mSeq (m1 xx) (m2 xx)) := by
  obtain ⟨t, p, s⟩ := h; obtain ⟨t2, p2, s2⟩ := h2
  refine ⟨fun xk => tSeq (t xk) (t2 xk), fun E q xk g => pss_cons (p E q xk g) (p2 E q xk g), fun C G ρ σ H n D xx xk hm hn r h k kx => s C G ρ σ H _ _ xx xk hm hn r h ?_ kx⟩
  exact ⟨fun ρ' σ' G' H' h' z r' => s2 C G' ρ' σ' H' n D xx xk hm hn r' h' (k.mono z) (kx.mono z), k.bk, k.ct, k.rt⟩
theorem qx_if {s1 s2 : List Stmt} (h : QT X.nox M.ow c mt) (h1 : QXs X M s1 m1) (h2 : QXs X M s2 m2) : QX X M (.If c s1 s2 pos) (fun xx => mIfS mt (m1 xx) (m2 xx)) := by
  obtain ⟨t, p, s⟩ := h; obtain ⟨t1, p1, s1⟩ := h1; obtain ⟨t2, p2, s2⟩ := h2
  refine ⟨fun xk => tIfS t (t1 xk) (t2 xk), fun E q xk g => ps_if (PT.any p) (p1 E q xk g) (p2 E q xk g), fun C G ρ σ H n D xx xk hm hn r h k kx => s C G ρ σ H [] _ _ r h fun b ρ' G' H' hq z kp r' => ?_⟩
  cases b with
  | true => rw [if_pos rfl] at hq ⊢; exact s1 C G' ρ' σ H' n D xx xk hm hn r' hq (k.mono z) (kx.mono z)
  | false => rw [if_neg (by decide)] at hq ⊢; exact s2 C G' ρ' σ H' n D xx xk hm hn r' hq (k.mono z) (kx.mono z)
theorem qx_drop (h : QXE X M.ow e mex) (hs : swapsWith e none pos.line X.env = pure false := by rfl) : QX X M (.Expr e pos) (fun xx => mDrop (mex xx)) := by
  obtain ⟨t, p, s⟩ := h
  exact ⟨fun xk => tDrop (t xk), fun E q xk g => ps_expr (p E q xk g) hs, fun C G ρ σ H n D xx xk hm hn r h k kx => s C G ρ σ H [] _ _ xx xk r h kx fun d ρ' v G' H' hq z kp r' p => k.nx ρ' σ G' H' hq z r'⟩
variable {mg : MG}
theorem qx_for {mi : MA} {tg iter : Expr} {body : List Stmt} (hc : X.calm = true) (hi : QI X.nox M.ow tg iter mi) (hg : QG X.nox M tg mg) (hb : QXs X M body m1)
    (hs : ∀ x, foldedSetIterable iter X.env x = pure x := by intro _; rfl) : QX X M (.For tg iter body [] pos) (fun xx => mFor mi mg (m1 xx)) := by
  obtain ⟨ti, pi, si⟩ := hi; obtain ⟨tg', pg, sg⟩ := hg; obtain ⟨tb, pb, sb⟩ := hb
  refine ⟨fun xk => tFor ti tg' (tb xk), fun E q xk g => ps_for g.1 hc (PI.any pi) (PG.any pg) (pb E q xk g) hs, fun C G ρ σ H n D xx xk hm hn r h k kx => si C G ρ σ H [] _ _ r h fun ds ρ0 G0 H0 J hq z0 kp r0 jo => ?_⟩
  obtain ⟨I, i0, turn, fin⟩ := hq
  refine ⟨fun i j σ' H' => j = ds.length - i ∧ i ≤ ds.length ∧ ∃ G' ρ', Same G0 G' ∧ R C M.ow G' ρ' σ' H' [] ∧ I i ρ', ⟨_, rfl, Nat.zero_le _, G0, ρ0, Same.refl _, r0, i0⟩, ?_⟩
  rintro i j σ' H' ⟨rfl, hi, G', ρ', z, r', w⟩
  obtain ⟨st, go⟩ := jo C M.ow G' ρ' σ' H' [] i z r'
  by_cases hlt : i < ds.length
  · obtain ⟨g1, g2⟩ := go ds[i] (List.getElem?_eq_getElem hlt)
    refine .inr ⟨g1, fun σ2 H2 => ∃ G2 ρ2, Same G0 G2 ∧ R C M.ow G2 ρ2 σ2 H2 [] ∧ I (i + 1) ρ2, fun σ2 H2 h => ⟨ds.length - (i + 1), by omega, rfl, hlt, h⟩, fun x H1 hy => ?_⟩
    obtain ⟨G1, z1, r1, p1⟩ := g2 x H1 hy
    refine sg C G1 ρ' σ' H1 [] ds[i] x _ _ hm r1 p1 (turn i ds[i] ρ' (List.getElem?_eq_getElem hlt) w) fun ρ2 σ2 h2 r2 => ?_
    refine sb C G1 ρ2 σ2 H1 _ _ xx xk hm hn r2 h2 ⟨?_, ?_, ?_, ?_⟩ (kx.mono (z0.trans (z.trans z1)))
    · intro ρ3 σ3 G3 H3 h3 z3 r3; exact ⟨G3, ρ3, z.trans (z1.trans z3), r3, h3⟩
    · intro ρ3 σ3 G3 H3 h3 z3 r3; exact k.nx ρ3 σ3 G3 H3 h3 (z0.trans (z.trans (z1.trans z3))) r3
    · intro ρ3 σ3 G3 H3 h3 z3 r3; exact ⟨G3, ρ3, z.trans (z1.trans z3), r3, h3⟩
    · intro d ρ3 σ3 v G3 H3 h3 z3 r3; exact k.rt d ρ3 σ3 v G3 H3 h3 (z0.trans (z.trans (z1.trans z3))) r3
  · have e : i = ds.length := by omega
    subst e
    exact .inl ⟨st (Nat.le_refl _), k.nx ρ' σ' G' H' (fin ρ' w) (z0.trans z) r'⟩
/-! ### calls, raise -/
variable {es : List Expr} {ks : List AK} {mr : MA} {x : Str} {p' : Pos} {ow : List Bool}
noncomputable def mCallX (ks : List AK) (sd : SpX) (m : MA) : MEX := fun xx ρ q => m ρ fun ds ρ1 => match fillA ks ds ρ1 with
  | some ds' => sd ds' (fun d os => q d (putK ks os ρ1)) fun c ns es os => xx c ns es (putK ks os ρ1)
  | none => False
end
end L2

set_option Elab.async false
set_option linter.all false
set_option maxRecDepth 100000
set_option maxHeartbeats 1000000
namespace L2
open PySem PySem.Spec PyProof.Rows
section
variable {X : Cx} {M : Md} {e : Expr} {es : List Expr} {ks : List AK} {mr : MA} {x : Str} {pos p' : Pos} {ow : List Bool} {mu : List Bool} {k : Nat} {f : Addr} {fd : FuncData} {ps : List Str} {sd : SpX}
theorem qxe_call (F : FnOk X.prog X.w X.K X.mg X.base (CX1 X.prog X.w) k f fd ps (spOfX mu false sd)) (hr : Room k X.A) (hg : Gl X x) (hm : X.mg x = some (.ref f)) (hk : PySem.W.keepIn X.K (.ref f) = true) (hb : Binds X.K fd ps [])
    (ha : QAk X.nox ow ks (e :: es) mr) (hex : X.ex = [] := by rfl) (hmu : mu = ks.map AK.isM := by rfl) (nd : (slotsOf ks).Nodup := by decide) (hw : ∀ i ∈ slotsOf ks, ow[i]? = some true := by decide) (hdb : (x == ("__debug__" : Str)) = false := by decide)
    (he : starEach (e :: es) X.env = (false, eval e X.env) :: starEach es X.env := by rfl) (hpl : (backTo pos (starEach es X.env)).any (·.1) = false := by rfl) : QXE X ow (.Call (.Name x p') (e :: es) [] pos) (mCallX ks sd mr) := by
  obtain ⟨t, p, s⟩ := ha
  subst hmu
  refine ⟨fun xk => tCallX xk (spOfX (ks.map AK.isM) false sd) t, fun E q xk g => pe_callX (X := X.tr E q) hex g.2 F hr hg hm hk hb (PA.any p) hdb he hpl, fun C G ρ σ H pd q Q xx xk r hm kx k => s C G ρ σ H pd _ _ r hm fun ds ρ' vs T G' H' hq z kp r' p => ?_⟩
  split at hq
  · rename_i ds' ef
    exact run_callX (fr := false) r.np r' p ef nd hw hq (fun d ρ2 v G2 H2 hq2 z2 kp2 h2 => by
      rw [if_neg (by decide)] at h2
      exact k d ρ2 v G2 H2 hq2 (z.trans z2) (kp.trans kp2) h2.1 h2.2) fun c ns es ρ2 dx G2 H2 hq2 z2 kp2 r2 x2 => kx.go c ns es ρ2 σ dx G2 H2 hq2 (z.trans z2) r2 x2
  · exact hq.elim
end
/-! ### a def that may raise -/
theorem Fun.okX {P : Program} {w : World} {K : PySem.W.Frag} {mg : Str → Option Value} {base : Heap} {x qual : Str} {st : Stmt} {f : Addr} {fd : FuncData} {N ps : List Str} {k : Nat} {sp : Sp} (F : Fun K x qual st f fd) (S : FnScope N ps (defScope st)) (len : ∀ vs H Q E, sp vs H Q E → vs.length = ps.length)
    (hbody : ∀ (cdv : Value) (A : Around) (outer : List Env) (s : Shared) (H : Hp) (vs : List V) (Q : VK) (E : XK), Room k (A.deeper (envOfC qual (defScope st) s.heap.objs.size f cdv)) → sp vs H Q E →
      ∃ t, PSs (cxOf (CX1 P w) P w K mg base N qual (defScope st) f cdv A outer s H E) (defBody st) t ∧ t { nx := fun _ H' => Q .non H', rt := Q } (start N vs) H) : FnOk P w K mg base (CX1 P w) (k + 1) f fd ps sp := by
  obtain ⟨oc, od, kV, doc, pm, an, cdv, ct, osl, rfl, lk, hcd⟩ := F.ex
  exact fn_of lk hcd S len fun A outer s H vs Q E hr hsp => hbody cdv A outer s H vs Q E hr hsp
theorem fnX {P : Program} {w : World} {K : PySem.W.Frag} {mg : Str → Option Value} {base : Heap} {x qual : Str} {st : Stmt} {f : Addr} {fd : FuncData} {N ps : List Str} {k : Nat} (F : Fun K x qual st f fd) (S : FnScope N ps (defScope st)) (M : Md) (sd : SpX)
    (hl : ∀ ds q qx, sd ds q qx → ds.length = ps.length) (ho : M.ow.take ps.length = M.mu) (hml : M.mu.length = ps.length)
    (hbody : ∀ (cdv : Value) (A : Around) (outer : List Env) (s : Shared) (H : Hp) (E : XK), Room k (A.deeper (envOfC qual (defScope st) s.heap.objs.size f cdv)) →
      ∃ m, QXs (cxOf (CX1 P w) P w K mg base N qual (defScope st) f cdv A outer s H E) M (defBody st) m ∧ ∀ ds q qx, sd ds q qx → m (fun c ns es ρ => qx c ns es (mus M.mu ρ)) (endsOf M.mu q) (ds.map some ++ List.replicate (N.length - ps.length) none)) :
    FnOk P w K mg base (CX1 P w) (k + 1) f fd ps (spOfX M.mu M.fr sd) := by
  have hov : ∀ i : Nat, i < M.mu.length → M.ow[i]? = M.mu[i]? := fun i hi => by rw [← ho, List.getElem?_take_of_lt (by omega)]
  have hlen : ∀ vs H Q E, spOfX M.mu M.fr sd vs H Q E → vs.length = ps.length := fun vs H Q E ⟨C, G, ds, q, qx, _, _, ⟨O, ro⟩, h1, _, _⟩ => by
    have := ro.len; simp at this; rw [← this]; exact hl ds q qx h1
  refine F.okX S hlen fun cdv A outer s H vs Q E hr hsp => ?_
  obtain ⟨m, ⟨t, p, ss⟩, hm⟩ := hbody cdv A outer s H E hr
  have hvl := hlen vs H Q E hsp
  obtain ⟨C, G, ds, q, qx, hnp, hmu, ⟨O, ro⟩, hsd, hml2, kk, kkx⟩ := hsp
  refine ⟨t (fun _ => E), p _ [] (fun _ => E) ⟨PassesOwn.leaving, acc_fn⟩, ?_⟩
  have hmo : MuOk C M.mu := fun i v e => by rw [hmu] at e; exact (msV_of e).1
  have r0 : R C M.ow G (ds.map some ++ List.replicate (N.length - ps.length) none) (start N vs) H [] := by
    unfold start; rw [hvl]
    exact ⟨O, ro.grow _ fun i hi => hov i (by omega)⟩
  refine ss C G _ _ H (endsOf M.mu q) _ _ _ hmo hnp r0 (hm ds q qx hsd) ⟨?_, fun _ _ _ _ h => h.elim, fun _ _ _ _ h => h.elim, ?_⟩ ⟨?_⟩
  · intro ρ σ G' H' h z ⟨O', r'⟩
    refine kk .non (padS M.mu.length ρ) (padS M.mu.length σ) .non G' H' (by rw [padS_mus]; exact h) z (padS_len _ _) (R.non ⟨O', r'.trim hmo hov⟩)
  · intro d ρ σ v G' H' h z hr'
    refine kk d (padS M.mu.length ρ) (padS M.mu.length σ) v G' H' (by rw [padS_mus]; exact h) z (padS_len _ _) ?_
    unfold Ret at hr' ⊢
    split at hr'
    · rename_i c; rw [if_pos c]; obtain ⟨O', r'⟩ := hr'; exact ⟨O', r'.trim hmo hov⟩
    · rename_i c; rw [if_neg c]; obtain ⟨⟨O', r'⟩, p⟩ := hr'; exact ⟨⟨O', r'.trim hmo hov⟩, p⟩
  · intro c ns es ρ σ dx G' H' h z ⟨O', r'⟩ hx
    exact kkx c ns es (padS M.mu.length ρ) (padS M.mu.length σ) dx G' H' (by rw [padS_mus]; exact h) z (padS_len _ _) ⟨O', r'.trim hmo hov⟩ hx
/-! ### try -/
noncomputable def dExc (c : Addr) (ns : List Str) (es : List D) : D := .ext fun H a => ∃ dx, H a = some (.ext (excφ a (.ref c) dx)) ∧ XRep H ns es dx
noncomputable def EndsD.unb (n : EndsD) (i : Nat) : EndsD := { nx := fun ρ => n.nx (ρ.set i none), rt := fun d ρ => n.rt d (ρ.set i none), bk := fun ρ => n.bk (ρ.set i none), ct := fun ρ => n.ct (ρ.set i none) }
theorem RO.gone {C : Ctx} {ow : List Bool} {G : Hp} {ρ : DSt} {σ : St} {H : Hp} {pd : List (D × V)} {O : Own} (h : RO C ow G ρ σ H pd O) (i : Nat) (hm : ∀ v, C.mu[i]? ≠ some (some v)) : RO C ow G (ρ.set i none) (σ.set i none) H pd O := by
  refine ⟨by simpa using h.len, h.gh, h.g0, h.gn, h.og, h.cok, h.fr, h.al, fun j v e => ?_, fun j d e => ?_, h.pn, h.np⟩
  · have : i ≠ j := fun z => by subst z; exact hm v e
    rw [List.getElem?_set_ne this]; exact h.mp j v e
  · have : i ≠ j := fun z => by
      subst z
      rw [List.getElem?_set] at e
      split at e
      · split at e <;> cases e
      · rename_i c; exact c rfl
    rw [List.getElem?_set_ne this] at e ⊢
    exact h.sl j d e
noncomputable def mTry (i : Nat) (ok : Value → Prop) (mb : MSX) (ms : Value → MS) : MSX := fun _ n ρ => mb (fun c ns es ρ' => ok (.ref c) ∧ ∀ v, ms v (n.unb i) (ρ'.set i (some (dExc c ns es)))) n ρ
theorem qx_try {X : Cx} {M : Md} {body : List Stmt} {b0 : Stmt} {suite : List Stmt} {x n : Str} {i : Nat} {D0 : Addr} {bmD : List Value} {iniD : Option Value} {np npos pos : Pos} {mb : MSX} {ms : Value → MS} (hN : X.N.Nodup) (hi : X.N[i]? = some n) (hl : X.env.kindOf n = some .local) (hg : Gl X x) (hm : X.mg x = some (.ref D0)) (hD : xcIn X.K D0 bmD iniD = true)
    (hb : QXs X M body mb) (hs : ∀ v, QSs (X.hand v) M (b0 :: suite) (ms v)) (hst : X.stack = X.env :: X.outer := by rfl) (hf : X.env.frame = some X.env.locals := by rfl) (ho : M.ow[i]? ≠ some true := by decide) (hu : M.mu[i]? ≠ some true := by decide) (hdb : (x == ("__debug__" : Str)) = false := by decide) :
    QX X M (.Try body [.ExceptHandler (some (.Name x np)) (some n) (b0 :: suite) npos] [] [] pos) (mTry i (Caught X.K D0) mb ms) := by
  obtain ⟨tb, pb, sb⟩ := hb
  have hs' : ∀ ea : Addr, ∃ t, PSs (X.hand (.ref ea)) (b0 :: suite) t ∧ SS M t (ms (.ref ea)) := fun ea => (hs (.ref ea)).ex
  let ts : Addr → TS := fun ea => (hs' ea).choose
  have hts : ∀ ea, PSs (X.hand (.ref ea)) (b0 :: suite) (ts ea) ∧ SS M (ts ea) (ms (.ref ea)) := fun ea => (hs' ea).choose_spec
  refine ⟨fun _ => tTry i (Caught X.K D0) tb ts, fun E q xk g => ps_try (X := X.tr E q) hst hf hN hi hl hg hm hD (fun E' p' xk' h1 h2 => ?_) (fun ea => ?_) hdb, fun C G ρ σ H n D xx xk hm hn r h k kx => ?_⟩
  · have e : (X.tr E q).tr E' p' = X.tr E' (q ++ p') := by
      show ({ X with xe := E', pn := (X.pn ++ q) ++ p' } : Cx) = { X with xe := E', pn := X.pn ++ (q ++ p') }
      rw [List.append_assoc]
    rw [e] at h2 ⊢
    exact pb E' (q ++ p') xk' ⟨h1, h2⟩
  · refine ⟨fun pins s σ H D I hw => ?_⟩
    have I' : Inv (X.hand (.ref ea)) (q ++ pins) σ H s := ⟨{ I.ok with }, I.os, I.bare, I.base, I.loc, I.cell, I.free, I.freeC, fun z hz => I.pin z (by simpa using hz), I.hok, I.len⟩
    refine wpAny_mono ((hts ea).1 (q ++ pins) s σ H D I' hw) (fun f s' z => ?_) fun _ _ z => False.elim z
    have back : ∀ {σ' H'}, Inv (X.hand (.ref ea)) (q ++ pins) σ' H' s' → Inv ((X.tr E q).hand (.ref ea)) pins σ' H' s' := fun {σ' H'} J => ⟨{ J.ok with }, J.os, J.bare, J.base, J.loc, J.cell, J.free, J.freeC, fun z hz => J.pin z (by simpa using hz), J.hok, J.len⟩
    cases f with
    | next => obtain ⟨σ', H', J, q⟩ := z; exact ⟨σ', H', back J, q⟩
    | brk => obtain ⟨σ', H', J, q⟩ := z; exact ⟨σ', H', back J, q⟩
    | cont => obtain ⟨σ', H', J, q⟩ := z; exact ⟨σ', H', back J, q⟩
    | ret u => obtain ⟨v, σ', H', J, r, q⟩ := z; exact ⟨v, σ', H', back J, r, q⟩
  · refine sb C G ρ σ H n D _ _ hm hn r h k ⟨fun c ns es ρ' σ' dx G' H' hq z r' hx => ⟨hq.1, fun ea hea => ?_⟩⟩
    obtain ⟨O, ro⟩ := r'
    obtain ⟨ro2, z2⟩ := ro.new hea (.ext (excφ ea (.ref c) dx))
    have rep : Rep (upd G' ea (.ext (excφ ea (.ref c) dx))) (dExc c ns es) (.ref ea) := by
      unfold dExc
      rw [Rep]
      exact ⟨ea, _, rfl, Same.refl _, dx, by simp [upd], hx.mono z2⟩
    refine (hts ea).2 C _ _ _ _ (n.unb i) (D.unb i) hm hn ⟨O, ro2.setS ho (hm.no hu) rep⟩ (hq.2 (.ref ea)) ⟨?_, ?_, ?_, ?_⟩
    · intro ρ3 σ3 G3 H3 h3 z3 ⟨O3, r3⟩; exact k.nx _ _ G3 H3 h3 (z.trans (z2.trans z3)) ⟨O3, r3.gone i (hm.no hu)⟩
    · intro ρ3 σ3 G3 H3 h3 z3 ⟨O3, r3⟩; exact k.bk _ _ G3 H3 h3 (z.trans (z2.trans z3)) ⟨O3, r3.gone i (hm.no hu)⟩
    · intro ρ3 σ3 G3 H3 h3 z3 ⟨O3, r3⟩; exact k.ct _ _ G3 H3 h3 (z.trans (z2.trans z3)) ⟨O3, r3.gone i (hm.no hu)⟩
    · intro d ρ3 σ3 v G3 H3 h3 z3 r3
      refine k.rt d (ρ3.set i none) (σ3.set i none) v G3 H3 h3 (z.trans (z2.trans z3)) ?_
      unfold Ret at r3 ⊢
      split at r3
      · rename_i c; rw [if_pos c]; obtain ⟨O3, r3⟩ := r3; exact ⟨O3, r3.gone i (hm.no hu)⟩
      · rename_i c; rw [if_neg c]; obtain ⟨⟨O3, r3⟩, p⟩ := r3; exact ⟨⟨O3, r3.gone i (hm.no hu)⟩, p⟩
end L2

set_option Elab.async false
set_option linter.all false
set_option maxRecDepth 100000
set_option maxHeartbeats 1000000
namespace L2
open PySem PySem.Spec PyProof.Rows PySem.W Builtin.ObjectAttr
/-! ### attributes and types of a caught exception -/
section
variable {prog : Program} {w : World} {A : Around} {E : Value → Shared → Prop} {s : Shared} {K : PySem.W.Frag} {x D : Addr} {ox : Obj} {od : Option Obj} {name : Str} {bm : List Value} {ini : Option Value} {tk : Tok}
theorem exc_check {M : Model} {nameV : Value} {Q : Unit → Shared → Prop} (I : PySem.W.InstAt s.heap x ox D od) (hC : XObj s.heap D bm ini) (hq : Q () s) : wpAny M A (checkBuiltinCall "BaseException.__getattribute__" ⟨[.ref x, nameV], []⟩) Q E s := by
  obtain ⟨N, nm, q, bs, hdct, sn, sub, ab, col, dd, k0, k1, k2, k3, k5, mN, hC, hN, hni, T⟩ := hC
  obtain ⟨h, g, d, t, os⟩ := s
  have hx := I.at_
  have hc := I.cls
  have hk : builtinKind "BaseException.__getattribute__" = some .slot := by decide +kernel
  have hsplit : splitId "BaseException.__getattribute__" = some ("BaseException", "__getattribute__") := by decide +kernel
  have hcB : (Value.ref D :: bm).contains (.type "BaseException") = true := by rw [List.contains_cons, tail_base T, Bool.or_true]
  have ha := PySem.F.args_bexc_ga (.ref x) nameV
  simp only [checkBuiltinCall, hk, hsplit]
  refine wpAny_bind ?_
  · unfold isInstance
    repeat (first | (with_reducible refine wpAny_loadPart_at hx ?_; rw [hc]) | (with_reducible refine wpAny_isSubtype_exc hC ?_; rw [hcB]) | wp_step)
    exact hq
theorem exc_value {v : Value} {Q : Fin → Shared → Prop} (X : K.In s.heap) (I : PySem.W.InstAt s.heap x ox D od) (hf : PySem.W.findObj K D od name = some (.value v)) (h : Q (.done (.ret v)) s) :
    wpAny (model prog w) A (Builtin.«object.__getattribute__» ⟨[.ref x, .str name tk], []⟩) Q E s := by
  have L0 := I.type (M := model prog w)
  have L1 := PySem.W.looks_find (M := model prog w) X I hf
  refine wpAny_bind (wpAny_pure (wpAny_bind (wpAny_pure (wpAny_bind (L0.at (wpAny_bind (L1.at ?_)))))))
  exact wpAny_pure h
theorem exc_bind {g a : Value} {Q : Fin → Shared → Prop} (X : K.In s.heap) (I : PySem.W.InstAt s.heap x ox D od) (hf : PySem.W.findObj K D od name = some (.bind g a)) (h : wpAny (model prog w) A (call g [a, .ref x, .ref D]) (fun v s' => Q (.done (.ret v)) s') E s) :
    wpAny (model prog w) A (Builtin.«object.__getattribute__» ⟨[.ref x, .str name tk], []⟩) Q E s := by
  have L0 := I.type (M := model prog w)
  have L1 := PySem.W.looks_find (M := model prog w) X I hf
  refine wpAny_bind (wpAny_pure (wpAny_bind (wpAny_pure (wpAny_bind (L0.at (wpAny_bind (L1.at ?_)))))))
  show wpAny _ _ (bindTo g a (.ref x) (.ref D)) _ _ _
  unfold bindTo
  exact wpAny_bind (wpAny_holding (wpAny_mono h (fun v s' z => wpAny_pure z) fun _ _ z => z))
theorem exc_by {fill expr : Bool} {Q : Value → Shared → Prop} (X : K.In s.heap) (I : PySem.W.InstAt s.heap x ox D od) (hC : XObj s.heap D bm ini) (hga : PySem.W.findIn K (.ref D) "__getattribute__" = some (some (.builtin "BaseException.__getattribute__")))
    (hgn : PySem.W.findIn K (.ref D) "__getattr__" = some none)
    (h : wpAny (model prog w) A.in1 (Builtin.«object.__getattribute__» ⟨[.ref x, .str name tk], []⟩) (fun fin s' => match fin with | .done (.ret v) => wpAny (model prog w) A (handedOut v) Q E s' | _ => False) (fun _ _ => False) s) :
    wpAny (model prog w) A (getAttrBy (.ref x) (.str name tk) fill expr) Q E s := by
  obtain ⟨hh, g, d, t, os⟩ := s
  have L0 := I.type (M := model prog w)
  have L1 := PySem.W.looks_findIn (M := model prog w) X hga
  have L2 := PySem.W.looks_findIn (M := model prog w) X hgn
  have f3 := PySem.F.attr_ValueError.ga.bind (.ref x)
  unfold getAttrBy
  refine wpAny_holding (wpAny_bind (L0.at (wpAny_bind (L1.at ?_))))
  show wpAny _ _ (if (true && (Value.builtin "BaseException.__getattribute__" == Value.builtin "object.__getattribute__")) = true then _ else getAttrByItsOwn _ _ _ _ _ _) _ _ _
  rw [if_neg (by decide +kernel)]
  unfold getAttrByItsOwn
  show wpAny _ _ (typeLookup (.ref D) "__getattr__" >>= _) _ _ _
  refine wpAny_bind (L2.at (wpAny_bind (wpAny_attempt (wpAny_holding ?_))))
  unfold callGetattribute
  rw [if_neg (by cases expr <;> decide)]
  unfold boundAndCalled
  rw [f3]
  refine wpAny_bind (wpAny_pure (wpAny_call (codeAny_call_builtin PySem.F.attr_ValueError.ga.plain PySem.F.entry_bexc_ga (exc_check I hC ?_))))
  refine wpAny_mono h (fun fin s' z => ?_) fun _ _ z => z.elim
  rcases fin with (_ | _ | _ | _) | _ <;> first | exact z | exact z.elim
theorem exc_attr {v : Value} {expr : Bool} {Q : Value → Shared → Prop} (X : K.In s.heap) (I : PySem.W.InstAt s.heap x ox D od) (hC : XObj s.heap D bm ini) (hga : PySem.W.findIn K (.ref D) "__getattribute__" = some (some (.builtin "BaseException.__getattribute__")))
    (hgn : PySem.W.findIn K (.ref D) "__getattr__" = some none) (hf : PySem.W.findObj K D od name = some (.value v)) (hv : ∀ tk, wpAny (model prog w) A (handedOut v) Q E { s with toks := tk }) : wpAny (model prog w) A (getAttr (.ref x) name expr) Q E s := by
  unfold getAttr
  refine wpAny_bind (wpAny_mkText ?_)
  exact exc_by (s := { s with toks := s.toks + 1 }) X I hC hga hgn (exc_value (s := { s with toks := s.toks + 1 }) X I hf (hv _))
theorem exc_class {Q : Option Value → Shared → Prop} (X : K.In s.heap) (I : PySem.W.InstAt s.heap x ox D od) (hC : XObj s.heap D bm ini) (hga : PySem.W.findIn K (.ref D) "__getattribute__" = some (some (.builtin "BaseException.__getattribute__")))
    (hgn : PySem.W.findIn K (.ref D) "__getattr__" = some none) (hf : PySem.W.findObj K D od "__class__" = some (.bind (.builtin "getset_descriptor.__get__") (.builtin "object.__class__"))) (hm : PySem.W.mroIn K D (.type "object") = some true)
    (h : Q (some (.ref D)) { s with toks := s.toks + 1 }) : wpAny (model prog w) A (getAttr? (.ref x) "__class__") Q E s := by
  unfold getAttr?
  refine wpAny_bind (wpAny_mkText ?_)
  unfold getAttrBy?
  refine wpAny_bind (wpAny_attempt ?_)
  refine exc_by (s := { s with toks := s.toks + 1 }) X I hC hga hgn (exc_bind (s := { s with toks := s.toks + 1 }) X I hf ?_)
  exact wpAny_call (PySem.W.class_get (s := { s with toks := s.toks + 1 }) X I hm (PySem.W.handed_on rfl (wpAny_pure h)))
/-- what the fragment must say of a class of exceptions -/
noncomputable def xcOk (K : PySem.W.Frag) (D : Addr) : Bool := PySem.W.findIn K (.ref D) "__getattribute__" == some (some (.builtin "BaseException.__getattribute__")) && PySem.W.findIn K (.ref D) "__getattr__" == some none &&
  PySem.W.findIn K (.ref D) "__class__" == some (some (.builtin "object.__class__")) && PySem.W.specialIn K (.builtin "object.__class__") "__get__" == some (some (.builtin "getset_descriptor.__get__")) && PySem.W.takesIn K (.builtin "object.__class__") == some true &&
  PySem.W.mroIn K D (.type "object") == some true && PySem.W.hasDictIn K D
theorem kitx_exc (q : xcOk K D = true) (hq : xcIn K D bm ini = true) : PySem.W.KitX K (.ref x) (.ref D) (fun h => ∃ ox od, PySem.W.InstAt h x ox D od) := by
  simp only [xcOk, Bool.and_eq_true, beq_iff_eq] at q
  obtain ⟨⟨⟨⟨⟨⟨q1, q2⟩, q3⟩, q4⟩, q5⟩, q6⟩, q7⟩ := q
  obtain ⟨cdD, hcD, _⟩ := PySem.W.any_some q7
  refine ⟨fun _ _ _ ⟨ox, od, I⟩ => I.type, fun _ _ X _ => ?_, fun h tp dd its n sl X htp => ?_, fun {_ _ _ _ _ s} X ⟨ox, od, I⟩ k => ?_⟩
  · unfold PySem.W.clsIn at hcD
    split at hcD
    · rename_i c' d' cd' sl' ho
      intro A' Q' E' s' k q
      unfold isType loadHead
      exact wpAny_bind (wpAny_loadPart (k _ _ (X _ _ ho)) (wpAny_pure q))
    · cases hcD
  · refine Bool.eq_false_iff.mpr fun q => ?_
    have e : D = tp := Value.ref.inj (beq_iff_eq.mp q)
    subst e
    unfold PySem.W.clsIn at hcD
    split at hcD
    · rename_i c' d' cd' sl' ho
      have z := (X _ _ ho).symm.trans htp
      cases z
    · cases hcD
  · refine exc_class X I (xobj_of X hq) q1 q2 ?_ q6 k
    unfold PySem.W.findObj
    rw [hcD, q3]
    simp only [Option.bind_some, q4, q5]
end
end L2

set_option Elab.async false
set_option linter.all false
set_option maxRecDepth 100000
set_option maxHeartbeats 1000000
namespace L2
open PySem PySem.Spec PyProof.Rows
/-! ### isinstance against one class, a built-in or an own one -/
section
variable {X : Cx}
theorem ext_inst {pins : List (Addr × Obj)} {σ : St} {H : Hp} {s : Shared} {a : Addr} {C : Addr} {dx : Option Addr} {ns : List Str} {es : List D} (I : Inv X pins σ H s) (h : H a = some (.ext (excφ a (.ref C) dx))) (hx : XRep H ns es dx) : ∃ ox od, PySem.W.InstAt s.heap a ox C od := by
  obtain ⟨⟨vs, sl, q⟩, _, _⟩ := (show ObjOk X.prog X.w H s.heap a (.ext (excφ a (.ref C) dx)) from I.hok a _ h)
  cases dx with
  | none => exact ⟨_, none, q, rfl, rfl, trivial⟩
  | some d =>
    obtain ⟨xs, h1, _, _⟩ := hx
    obtain ⟨u, z⟩ := (I.hok d _ h1).here
    exact ⟨_, some u, q, rfl, rfl, z⟩
/-- what isinstance answers of a datum -/
noncomputable def IsX (K : PySem.W.Frag) (c : Value) (d : D) (b : Bool) : Prop := (∃ C ns es bm ini, d = dExc C ns es ∧ xcIn K C bm ini = true ∧ xcOk K C = true ∧ PySem.W.kitOne K (.ref C) c = some b) ∨ (d.isS = false ∧ PySem.W.kitOne K (.type d.ty) c = some b)
noncomputable def rIsX (K : PySem.W.Frag) (c : V) (cv : Value) : List V → Hp → VK → Prop := fun xs H Q => ∃ x d b, xs = [x, c] ∧ Rep H d x ∧ IsX K cv d b ∧ Q (.bl b) H
theorem call_isX {c : V} {cv : Value} (hc : ∀ u, RelV c u → u = cv) : CallR X (.builtin "isinstance") (rIsX X.K c cv) := by
  intro pins s σ H xs us Q I r h
  obtain ⟨x, d, b, rfl, hd, e, q⟩ := h
  obtain ⟨u, w', rfl, ru, rw'⟩ := vals2 r
  obtain rfl := hc _ rw'
  have fin : ∀ tk, EP X pins σ Q (.bool b) { s with toks := tk } := fun tk => ⟨.bl b, H, I.tok tk, rfl, q⟩
  rcases e with ⟨C, ns, es, bm, ini, rfl, h1, h2, h3⟩ | ⟨hs, e⟩
  · unfold dExc at hd
    rw [Rep] at hd
    obtain ⟨a, H0, rfl, z, dx, h4, h5⟩ := hd
    cases (show u = Value.ref a from ru)
    exact PySem.W.kia_one (kitx_exc h2 h1) I.kIn (ext_inst I (z _ _ h4) (h5.mono z)) h3 (fun z => nomatch z) fin
  · exact isinst_ok I ru (hd.ty hs) e fin
variable {ow : List Bool} {a : Expr} {ma : ME} {pos : Pos}
noncomputable def mIsX (K : PySem.W.Frag) (c : Value) (m : ME) : ME := fun ρ q => m ρ fun d ρ' => ∃ b, IsX K c d b ∧ q (.bl b) ρ'
theorem qe_isX {c : V} {cv : Value} {x y : Str} {p1 p2 : Pos} (hc : ∀ u, RelV c u → u = cv) (hg : Gl X x) (hm : X.mg x = none) (hv : bootBuiltins x = some (.builtin "isinstance")) (ha : QE X ow a ma) (ht : PE X (.Name y p2) (tC c))
    (hn : x ≠ "__name__" := by decide) (hdb : (x == ("__debug__" : Str)) = false := by decide)
    (hs : starEach [.Name y p2] X.env = [(false, eval (.Name y p2) X.env)] := by rfl)
    (he : starEach [a, .Name y p2] X.env = (false, eval a X.env) :: starEach [.Name y p2] X.env := by rfl) (hpl : (backTo pos (starEach [.Name y p2] X.env)).any (·.1) = false := by rfl) :
    QE X ow (.Call (.Name x p1) [a, .Name y p2] [] pos) (mIsX X.K cv ma) := by
  obtain ⟨t, p, s⟩ := ha
  refine ⟨_, pe_callB (call_isX hc) hg hm hv (pa_cons p (pa_cons ht pa_nil hs) he) hn hdb he hpl, fun C G ρ σ H pd q Q r hm k => s C G ρ σ H pd _ _ r hm fun d ρ' v G' H' hq s kp r' p => ?_⟩
  obtain ⟨b, h1, h2⟩ := hq
  exact ⟨v, d, b, rfl, Rep.mono r'.gh _ _ p, h1, k _ ρ' _ G' H' h2 s kp r' (rep_bl _)⟩
theorem relRef {C : Addr} : ∀ u, RelV (.ref C) u → u = .ref C := fun _ h => h
theorem relTy {T : String} : ∀ u, RelV (.ty T) u → u = .type T := fun _ h => h
end
/-! ### the facts of the classes -/
section
variable {K : PySem.W.Frag} {C a N : Addr} {dd nd : Option Addr} {nm qn : Str} {bs bm sub : List Value} {hd ab : Bool} {sn : List Str} {col : Option Bool} {k0 k1 k2 k3 k5 ini : Option Value} {no : Value} {es : Array DictEntry} {np : Nat} {nl : Array (Option Value)} {sl : Array (Option Value)} {oc : Value} {cd : ClassData}
theorem tail_bm : PySem.W.tailIn K bmV bmV = true := by unfold PySem.W.tailIn; simp
theorem nsOk_mk (n : K.lookup N = some ⟨no, nd, .dict es np, nl⟩) (q : (es.all fun e => match e.key with | .str _ _ => true | _ => false) = true) : PySem.W.nsOkIn K N = true := by unfold PySem.W.nsOkIn; rw [n]; exact q
theorem tail_mk (l : K.lookup a = some ⟨oc, dd, .cls cd, sl⟩) (n : PySem.W.nsOkIn K cd.ns = true) (t : PySem.W.nsIn K cd.ns "__init__" = some none) (r : PySem.W.tailIn K bmV bm = true) : PySem.W.tailIn K bmV (.ref a :: bm) = true := by
  unfold PySem.W.tailIn
  simp only [l, n, t, r, beq_self_eq_true, Bool.and_self, Bool.or_true]
theorem xc_mk (l : K.lookup C = some ⟨.type "type", dd, .cls ⟨nm, bs, .ref C :: bm, N, qn, hd, sn, sub, ab, col, false⟩, #[k0, k1, k2, k3, some (.builtin "ValueError.__new__"), k5]⟩) (n : PySem.W.nsOkIn K N = true) (t : PySem.W.nsIn K N "__init__" = some ini)
    (r : PySem.W.tailIn K bmV bm = true) : xcIn K C bm ini = true := by
  unfold xcIn
  simp only [l, n, t, r, beq_self_eq_true, Bool.not_false, Bool.and_self]
theorem kit_self {t : Value} : PySem.W.kitOne K t t = some true := by unfold PySem.W.kitOne; simp
theorem kit_own {t : Value} {b : Bool} (l : K.lookup a = some ⟨oc, dd, .cls cd, sl⟩) (y : PySem.W.typeIn K (.ref a) = some (.type "type")) (s : PySem.W.subIn K t (.ref a) = some b) (ne : b = true ∨ (t == .ref a) = false) : PySem.W.kitOne K t (.ref a) = some b := by
  have c : PySem.W.kitCls K t (.ref a) = some b := by
    unfold PySem.W.kitCls PySem.W.clsIn
    simp only [l, y, Option.isSome_some, beq_self_eq_true, Bool.and_self, if_true, s]
  unfold PySem.W.kitOne
  rw [c]
  rcases ne with rfl | ne
  · split <;> rfl
  · rw [ne]; rfl
theorem kit_val {t : Value} (s : PySem.W.subIn K t (.type "ValueError") = some true) : PySem.W.kitOne K t (.type "ValueError") = some true := by
  have c : PySem.W.kitCls K t (.type "ValueError") = some true := by
    unfold PySem.W.kitCls
    show (if PySem.W.kitMeta "ValueError" = true then _ else _) = _
    rw [if_pos (by decide +kernel), s]
  unfold PySem.W.kitOne
  rw [c]
  split <;> rfl
theorem xcOk_mk (g : PySem.W.findIn K (.ref C) "__getattribute__" = some (some (.builtin "BaseException.__getattribute__"))) (h : PySem.W.findIn K (.ref C) "__getattr__" = some none) (c : PySem.W.findIn K (.ref C) "__class__" = some (some (.builtin "object.__class__")))
    (s : PySem.W.specialIn K (.builtin "object.__class__") "__get__" = some (some (.builtin "getset_descriptor.__get__"))) (t : PySem.W.takesIn K (.builtin "object.__class__") = some true) (m : PySem.W.mroIn K C (.type "object") = some true) (d : PySem.W.hasDictIn K C = true) : xcOk K C = true := by
  unfold xcOk
  simp only [g, h, c, s, t, m, d, beq_self_eq_true, Bool.and_self]
theorem bt_ValueError : bootBuiltins "ValueError" = some (.type "ValueError") := by decide +kernel
end
end L2

set_option Elab.async false
set_option linter.all false
set_option maxRecDepth 100000
set_option maxHeartbeats 1000000
namespace L2
open PySem PySem.Spec PyProof.Rows
/-- a def that catches what is raised within it -/
theorem fnT {P : Program} {w : World} {K : PySem.W.Frag} {mg : Str → Option Value} {base : Heap} {x qual : Str} {st : Stmt} {f : Addr} {fd : FuncData} {N ps : List Str} {k : Nat} (F : Fun K x qual st f fd) (S : FnScope N ps (defScope st)) (M : Md) (sd : SpD)
    (hl : ∀ ds q, sd ds q → ds.length = ps.length) (ho : M.ow.take ps.length = M.mu) (hml : M.mu.length = ps.length)
    (hbody : ∀ (cdv : Value) (A : Around) (outer : List Env) (s : Shared) (H : Hp) (E : XK), Room k (A.deeper (envOfC qual (defScope st) s.heap.objs.size f cdv)) →
      ∃ m, QXs (cxOf CX0 P w K mg base N qual (defScope st) f cdv A outer s H E) M (defBody st) m ∧ ∀ ds q, sd ds q → m (fun _ _ _ _ => False) (endsOf M.mu q) (ds.map some ++ List.replicate (N.length - ps.length) none)) :
    FnOk P w K mg base CX0 (k + 1) f fd ps (spOf M.mu M.fr sd) := by
  refine fnD F S M sd hl ho hml fun cdv A outer s H E hr => ?_
  obtain ⟨m, ⟨t, p, ss⟩, hm⟩ := hbody cdv A outer s H E hr
  refine ⟨m fun _ _ _ _ => False, ⟨t fun _ _ _ _ => False, p (fun _ _ => False) [] (fun _ _ _ _ => False) ⟨PassesOwn.never, ⟨fun _ _ _ _ _ _ _ _ _ z => z.elim⟩⟩, fun C G ρ σ H n D hm hn r h k => ss C G ρ σ H n D _ _ hm hn r h k ⟨fun _ _ _ _ _ _ _ _ z => z.elim⟩⟩, hm⟩
theorem qx_cut {X : Cx} {M : Md} {st : Stmt} {m : MSX} (h : QX X M st m) : QX X M st (fun xx => mCut (m xx)) := by
  obtain ⟨t, p, s⟩ := h
  refine ⟨t, p, fun C G ρ σ H n D xx xk hm hn r h k kx => ?_⟩
  obtain ⟨I, h1, h2⟩ := h
  exact s C G ρ σ H _ D xx xk hm hn r h1 ⟨fun ρ' σ' G' H' a b c => k.nx ρ' σ' G' H' (h2 ρ' a) b c, k.bk, k.ct, k.rt⟩ kx
end L2

set_option Elab.async false
set_option linter.all false
set_option maxRecDepth 100000
set_option maxHeartbeats 1000000
namespace L2
open PySem PySem.Spec PyProof.Rows
/-! ### isinstance against a tuple of own classes -/
section
variable {X : Cx}
theorem isXs_data {pins : List (Addr × Obj)} {σ : St} {H : Hp} {s : Shared} {A : Around} {E : Value → Shared → Prop} {Q : Value → Shared → Prop} {d : D} {x : V} {u : Value} {tp : Addr} {dd : Option Addr} {its : List Value} {n : Nat} {sl : Array (Option Value)} {b : Bool}
    (I : Inv X pins σ H s) (hd : Rep H d x) (ru : RelV x u) (hs : d.isS = false) (htp : s.heap.get? tp = some ⟨.type "tuple", dd, .seq its.toArray n, sl⟩) (e : PySem.W.kitAny X.K (.type d.ty) its = some b) (h : ∀ tk, Q (.bool b) { s with toks := tk }) :
    wpAny (model X.prog X.w) A (call (.builtin "isinstance") [u, .ref tp]) Q E s := by
  cases d with
  | non => rw [Rep] at hd; subst hd; cases (show u = Value.none from ru); exact PySem.W.kia_tup PySem.W.kitx_none I.kIn True.intro htp e (fun z => nomatch z) h
  | bl y => rw [Rep] at hd; subst hd; cases (show u = Value.bool y from ru); exact PySem.W.kia_tup PySem.W.kitx_bool I.kIn True.intro htp e (fun z => nomatch z) h
  | int i => rw [Rep] at hd; subst hd; obtain ⟨t, q⟩ := (show ∃ t, u = Value.int i t from ru); cases q; exact PySem.W.kia_tup PySem.W.kitx_int I.kIn True.intro htp e (fun z => nomatch z) h
  | str y => rw [Rep] at hd; subst hd; obtain ⟨t, q⟩ := (show ∃ t, u = Value.str y t from ru); cases q; exact PySem.W.kia_tup PySem.W.kitx_str I.kIn True.intro htp e (fun z => nomatch z) h
  | tup ds =>
    rw [Rep] at hd; obtain ⟨a, xs, rfl, ea, _⟩ := hd
    cases (show u = Value.ref a from ru)
    obtain ⟨_, _, _, o, h1, h2, _⟩ := (show ObjOk X.prog X.w H s.heap a (.tup xs) from I.hok a _ ea)
    exact PySem.W.kia_tup PySem.W.kitx_tuple I.kIn ⟨o, h1, h2⟩ htp e (fun z => nomatch z) h
  | lst ds =>
    rw [Rep] at hd; obtain ⟨a, xs, rfl, ea, _⟩ := hd
    cases (show u = Value.ref a from ru)
    obtain ⟨_, _, n, _, h1⟩ := (show ObjOk X.prog X.w H s.heap a (.lst xs) from I.hok a _ ea)
    exact PySem.W.kia_tup PySem.W.kitx_list I.kIn ⟨_, h1, rfl⟩ htp e (fun z => nomatch z) h
  | dct =>
    rw [Rep] at hd; obtain ⟨a, kvs, rfl, ea⟩ := hd
    cases (show u = Value.ref a from ru)
    obtain ⟨_, _, vs, _, o, es, ep, h1, h2, _⟩ := (show ObjOk X.prog X.w H s.heap a (.dK kvs) from I.hok a _ ea)
    exact PySem.W.kia_tup PySem.W.kitx_dict I.kIn ⟨o, h1, h2.1⟩ htp e (fun z => nomatch z) h
  | scr φ ns => cases hs
  | ext φ => cases hs
noncomputable def IsXs (K : PySem.W.Frag) (cs : List Addr) (d : D) (b : Bool) : Prop := (∃ C ns es bm ini, d = dExc C ns es ∧ xcIn K C bm ini = true ∧ xcOk K C = true ∧ PySem.W.kitAny K (.ref C) (cs.map .ref) = some b) ∨ (d.isS = false ∧ PySem.W.kitAny K (.type d.ty) (cs.map .ref) = some b)
noncomputable def rIsXs (K : PySem.W.Frag) (cs : List Addr) : List V → Hp → VK → Prop := fun xs H Q => ∃ x d b tp, xs = [x, .ref tp] ∧ H tp = some (.tup (cs.map .ref)) ∧ Rep H d x ∧ IsXs K cs d b ∧ Q (.bl b) H
theorem vals_refs : ∀ {cs : List Addr} {us : List Value}, Vals (cs.map V.ref) us → us = cs.map Value.ref
  | [], us, h => by cases h; rfl
  | c :: cs, us, h => by
    cases h with
    | cons r t => cases (show _ = Value.ref c from r); rw [vals_refs t]; rfl
theorem call_isXs {cs : List Addr} : CallR X (.builtin "isinstance") (rIsXs X.K cs) := by
  intro pins s σ H xs us Q I r h
  obtain ⟨x, d, b, tp, rfl, ht, hd, e, q⟩ := h
  obtain ⟨u, w', rfl, ru, rw'⟩ := vals2 r
  cases (show w' = Value.ref tp from rw')
  obtain ⟨_, its, rv, o, h1, h2, n, h3⟩ := (show ObjOk X.prog X.w H s.heap tp (.tup (cs.map .ref)) from I.hok tp _ ht)
  obtain rfl := vals_refs rv
  obtain ⟨oc, od, oda, sl⟩ := o
  cases h2; cases h3
  have fin : ∀ tk, EP X pins σ Q (.bool b) { s with toks := tk } := fun tk => ⟨.bl b, H, I.tok tk, rfl, q⟩
  rcases e with ⟨C, ns, es, bm, ini, rfl, g1, g2, g3⟩ | ⟨hs, e⟩
  · unfold dExc at hd
    rw [Rep] at hd
    obtain ⟨a, H0, rfl, z, dx, h4, h5⟩ := hd
    cases (show u = Value.ref a from ru)
    exact PySem.W.kia_tup (kitx_exc g2 g1) I.kIn (ext_inst I (z _ _ h4) (h5.mono z)) h1 g3 (fun z => nomatch z) fin
  · exact isXs_data I hd ru hs h1 e fin
noncomputable def tClss (cs : List Addr) : TA := fun _ H Q => Q (cs.map .ref) H
theorem pa_cls0 : PA X [] (tClss []) := pa_nil
theorem pa_cls {c : Addr} {cs : List Addr} {y : Str} {p : Pos} {es : List Expr} (hg : Gl X y) (hm : X.mg y = some (.ref c)) (h : PA X es (tClss cs)) (hd : (y == ("__debug__" : Str)) = false := by decide) (hs : starEach (.Name y p :: es) X.env = (false, eval (.Name y p) X.env) :: starEach es X.env := by rfl) :
    PA X (.Name y p :: es) (tClss (c :: cs)) := pa_cons (pe_glob (v := .ref c) hg hm rfl hd) h hs
variable {ow : List Bool} {a : Expr} {ma : ME} {pos : Pos}
noncomputable def mIsXs (K : PySem.W.Frag) (cs : List Addr) (m : ME) : ME := fun ρ q => m ρ fun d ρ' => ∃ b, IsXs K cs d b ∧ q (.bl b) ρ'
theorem qe_isXs {cs : List Addr} {x : Str} {p1 p2 : Pos} {k2} {names : List Expr} (hg : Gl X x) (hm : X.mg x = none) (hv : bootBuiltins x = some (.builtin "isinstance")) (ha : QE X ow a ma) (ht : PA X names (tClss cs)) (hz : cs.length ≤ sizeLine := by simp [sizeLine])
    (hn : x ≠ "__name__" := by decide) (hdb : (x == ("__debug__" : Str)) = false := by decide)
    (hs : starEach [.Tuple names k2 p2] X.env = [(false, eval (.Tuple names k2 p2) X.env)] := by rfl)
    (he : starEach [a, .Tuple names k2 p2] X.env = (false, eval a X.env) :: starEach [.Tuple names k2 p2] X.env := by rfl) (hpl : (backTo pos (starEach [.Tuple names k2 p2] X.env)).any (·.1) = false := by rfl) :
    QE X ow (.Call (.Name x p1) [a, .Tuple names k2 p2] [] pos) (mIsXs X.K cs ma) := by
  obtain ⟨t, p, s⟩ := ha
  refine ⟨_, pe_callB (call_isXs (cs := cs)) hg hm hv (pa_cons p (pa_cons (pe_tup ht) pa_nil hs) he) hn hdb he hpl, fun C G ρ σ H pd q Q r hm k => s C G ρ σ H pd _ _ r hm fun d ρ' v G' H' hq s kp r' p => ?_⟩
  obtain ⟨b, h1, h2⟩ := hq
  refine ⟨by rw [List.length_map]; exact hz, fun tp hp => ?_⟩
  obtain ⟨O, ro⟩ := r'
  obtain ⟨ro2, z2⟩ := ro.new hp (.tup (cs.map .ref))
  refine ⟨v, d, b, tp, rfl, by simp [upd], Rep.mono (fun b o q => ro2.gh b o (z2 b o q)) _ _ p, h1, ?_⟩
  exact k _ ρ' _ _ _ h2 (s.trans z2) kp ⟨O, ro2⟩ (rep_bl _)
end
section
variable {K : PySem.W.Frag} {t c : Value} {cs : List Value} {b : Bool}
theorem kany_nil : PySem.W.kitAny K t [] = some false := rfl
theorem kany_f (h : PySem.W.kitOne K t c = some false) (r : PySem.W.kitAny K t cs = some b) : PySem.W.kitAny K t (c :: cs) = some b := by unfold PySem.W.kitAny; rw [h]; exact r
end
end L2

set_option Elab.async false
set_option linter.all false
set_option maxRecDepth 100000
set_option maxHeartbeats 1000000
namespace L2
open PySem PySem.Spec PyProof.Rows
/-! ### a class of exceptions with an __init__ of its own: C(..) makes the object, then runs __init__ -/
section
variable {prog : Program} {w : World} {A : Around} {E : Value → Shared → Prop} {h : Heap} {g : Array GenState} {d : Drawn} {t : Nat} {os : OsState}
variable {nm q : Str} {C N : Addr} {bs bm : List Value} {hdct : Bool} {sn : List Str} {sub : List Value} {ab : Bool} {col : Option Bool} {dd : Option Addr} {k0 k1 k2 k3 k5 : Option Value}
theorem typecall_init (T : OwnTail h bmV bm) {mN : Str → Option Value} {rest : List Value} {fI : Addr} {oI : Obj} {Q : Fin → Shared → Prop}
    (hC : h.get? C = some (excClassObj nm q C N bs bm hdct sn sub ab col dd k0 k1 k2 k3 k5 "ValueError.__new__")) (hn : h.Ns N mN) (hi : mN "__init__" = some (.ref fI)) (hfI : h.get? fI = some oI) (hfc : oI.cls = .type "function")
    (hq : ∀ h' e, h.objs.size ≤ e → Heap.MadeExcOf h h' e (.ref C) rest → wpAny (model prog w) A (call (.ref fI) (.ref e :: rest)) (fun r s' => r = .none ∧ Q (.done (.ret (.ref e))) s') E ⟨h', g, d, t, os⟩) (hrest : rest.length ≤ sizeLine) :
    wpAny (model prog w) A (Builtin.«type.__call__» ⟨.ref C :: rest, []⟩) Q E ⟨h, g, d, t, os⟩ := by
  have F := PySem.F.excBase_ValueError
  repeat (first | with_reducible refine wpAny_loadPart_at hC ?_ | with_reducible refine wpAny_madeBy_exc hC ?_ | wp_step)
  refine codeAny_call_builtin_code (Code.quiet_builtin _ F.quiet) (wpAny_check_new_subT F T hC (codeAny_exc_new_subT F T hC ?_ hrest))
  show wpAny _ _ _ _ _ _
  generalize ho1 : ({ cls := .type "tuple", data := .seq rest.toArray } : Obj) = o1
  generalize ho2 : ({ cls := .ref C, data := .fields #[.ref h.objs.size, .none, .none, .none, .bool false, .none] } : Obj) = o2
  have keep : ∀ b o, h.get? b = some o → ((h.push o1).push o2).get? b = some o := fun b o z => Heap.get?_push_of_some _ (Heap.get?_push_of_some _ z)
  have hC₁ := keep _ _ hC
  have hfI₁ := keep _ _ hfI
  have hn₁ : ((h.push o1).push o2).Ns N mN := hn.keeps keep
  have T₁ := T.keeps keep
  have hf2 : o2.isFreed = false := by rw [← ho2]; rfl
  have hf1 : o1.isFreed = false := by rw [← ho1]; rfl
  have hget : ((h.push o1).push o2).get? (h.objs.size + 1) = some o2 := Heap.get?_push_at (by rw [Heap.size_push]) hf2
  have hcls : o2.cls = .ref C := by rw [← ho2]
  have hcC : (Value.ref C :: bm).contains (.ref C) = true := by simp
  unfold isInstance
  repeat (first | (with_reducible refine wpAny_loadPart_at hget ?_; rw [hcls]) | (with_reducible refine wpAny_isSubtype_exc hC₁ ?_; rw [hcC]) | wp_step)
  show wpAny _ _ (typeLookup (.ref C) _) _ _ _
  refine wpAny_typeLookup_tail hC₁ hn₁ T₁ F.mroIs F.init.lookup ?_
  rw [hi]
  refine wpAny_holding (wpAny_bind ?_)
  unfold bindSpecial
  refine wpAny_bind (wpAny_typeOf (T := "function") ⟨_, hfI₁, hfc⟩ ?_)
  rw [if_pos (by decide)]
  refine wpAny_pure (wpAny_bind (wpAny_mono (hq _ (h.objs.size + 1) (Nat.le_succ _) ⟨keep, Heap.get?_none_of_le (Nat.le_succ _), h.objs.size, by rw [hget, ho2], Heap.get?_none_of_le (Nat.le_refl _), ?_⟩) (fun r s' hr => ?_) fun _ _ x => x))
  · rw [ho1]; exact Heap.get?_push_of_some _ (Heap.get?_push_at rfl hf1)
  · obtain ⟨rfl, hQ⟩ := hr
    wp_walk
    exact hQ
theorem call_init (T : OwnTail h bmV bm) {mN : Str → Option Value} {rest : List Value} {fI : Addr} {oI : Obj} {Q : Value → Shared → Prop}
    (hC : h.get? C = some (excClassObj nm q C N bs bm hdct sn sub ab col dd k0 k1 k2 k3 k5 "ValueError.__new__")) (hn : h.Ns N mN) (hi : mN "__init__" = some (.ref fI)) (hfI : h.get? fI = some oI) (hfc : oI.cls = .type "function")
    (hq : ∀ h' e, h.objs.size ≤ e → Heap.MadeExcOf h h' e (.ref C) rest → wpAny (model prog w) (A.under (.builtin "type.__call__" ⟨.ref C :: rest, []⟩)) (call (.ref fI) (.ref e :: rest)) (fun r s' => r = .none ∧ Q (.ref e) s') E ⟨h', g, d, t, os⟩) (hrest : rest.length ≤ sizeLine) :
    wpAny (model prog w) A (call (.ref C) rest) Q E ⟨h, g, d, t, os⟩ := by
  have f1 := tc_lookup
  have f2 := tc_bind (.ref C)
  have hT : (⟨h, g, d, t, os⟩ : Shared).TypeIs (.ref C) "type" := ⟨_, hC, rfl⟩
  refine wpAny_call (codeAny_of_tree ?_)
  show wpAny _ _ (callAny (.ref C) _) _ _ _
  repeat (any_goals (first | assumption | with_reducible refine wpAny_loadPart_at hC ?_ | wp_step))
  refine ⟨rfl, ?_⟩
  refine codeAny_call_builtin_at (Code.quiet_builtin _ (by decide +kernel)) entry_typeCall (wpAny_check_type_call_sub hC (typecall_init T hC hn hi hfI hfc (fun h' e hz hm => ?_) hrest))
  exact hq h' e hz hm
end
end L2

set_option Elab.async false
set_option linter.all false
set_option maxRecDepth 100000
set_option maxHeartbeats 1000000
namespace L2
open PySem PySem.Spec PyProof.Rows
section
variable {prog : Program} {w : World} {A : Around} {E : Value → Shared → Prop} {h : Heap} {g : Array GenState} {d : Drawn} {t : Nat} {os : OsState}
variable {nm q : Str} {C N : Addr} {bs bm : List Value} {hdct : Bool} {sn : List Str} {sub : List Value} {ab : Bool} {col : Option Bool} {dd : Option Addr} {k0 k1 k2 k3 k5 : Option Value}
/-- ValueError.__init__(e, ..) lays the arguments' tuple -/
theorem init_base (T : OwnTail h bmV bm) {rest : List Value} {e : Addr} {oe : Obj} {vs : Array Value} {Q : Value → Shared → Prop}
    (hC : h.get? C = some (excClassObj nm q C N bs bm hdct sn sub ab col dd k0 k1 k2 k3 k5 "ValueError.__new__")) (he : h.get? e = some oe) (hcls : oe.cls = .ref C) (hd : oe.data = .fields vs) {x0 : Value} (hx0 : vs[0]? = some x0)
    (hq : Q .none ⟨(h.push { cls := .type "tuple", data := .seq rest.toArray }).update e (Obj.mapFields (·.setIfInBounds 0 (Value.ref h.objs.size))), g, d, t, os⟩) (hrest : rest.length ≤ sizeLine) :
    wpAny (model prog w) A (call (.builtin "ValueError.__init__") (.ref e :: rest)) Q E ⟨h, g, d, t, os⟩ := by
  have F := PySem.F.excBase_ValueError
  have h0 : 0 < vs.size := (Array.getElem?_eq_some_iff.mp hx0).1
  have he1 := Heap.get?_push_of_some { cls := .type "tuple", data := .seq rest.toArray } he
  refine wpAny_call (codeAny_call_builtin F.init.plain F.initEntry (wpAny_check_init_subT F T hC he hcls ?_))
  repeat (first | with_reducible refine wpAny_field he1 hd hx0 ?_ | with_reducible refine wpAny_setField he1 hd h0 ?_ | wp_step)
  cases x0 <;> (repeat wp_step) <;> exact hq
end
end L2

set_option Elab.async false
set_option linter.all false
set_option maxRecDepth 100000
set_option maxHeartbeats 1000000
namespace L2
open PySem PySem.Spec PyProof.Rows PySem.W Builtin.ObjectAttr Builtin
/-! ### self.f = v on an exception -/
theorem refuse_tail {h : Heap} {bm : List Value} (T : OwnTail h bmV bm) (self : Value) : refuseLoop self "__setattr__" bm = pure () := by
  induction T with
  | base => exact PySem.F.store_ValueError.passes self
  | own _ _ _ _ ih => exact (refuseLoop_ref self "__setattr__" _ _).trans ih
section
variable {prog : Program} {w : World} {A : Around} {E : Value → Shared → Prop} {s : Shared} {K : PySem.W.Frag} {x C : Addr} {ox : Obj} {od : Option Obj} {name : Str} {bm : List Value} {ini : Option Value} {v : Value}
theorem xc_cls (q : xcIn K C bm ini = true) : ∃ cd, clsIn K C = some cd ∧ cd.mro = .ref C :: bm := by
  unfold xcIn at q
  split at q
  · rename_i dd cd sl ho
    split at q
    · rename_i C' bm' k0 k1 k2 k3 n k5 hm hs
      simp only [Bool.and_eq_true, beq_iff_eq] at q
      obtain ⟨⟨⟨⟨⟨⟨rfl, _⟩, _⟩, rfl⟩, _⟩, _⟩, _⟩ := q
      exact ⟨cd, by unfold clsIn; rw [ho], hm⟩
    · cases q
  · cases q
/-- what the fragment must say of an attribute's name in a class of exceptions that is stored to and read -/
noncomputable def xaOk (K : PySem.W.Frag) (C : Addr) (name : Str) : Prop := findIn K (.ref C) "__setattr__" = some (some (.builtin "object.__setattr__")) ∧ findIn K (.ref C) name = some none
theorem osa_exc {tk : Tok} {R : Result → Shared → Prop} (X : K.In s.heap) (I : InstAt s.heap x ox C od) (hc : xcIn K C bm ini = true) (hm : mroIn K C (.type "object") = some true) (ha : findIn K (.ref C) name = some none)
    (h : wpAny (model prog w) A.in1 (storeInOwnDict (.ref x) (.ref C) (.str name tk) name v false) (fun fin s' => match fin with | .done f => R (.ok f) s' | .again c' => c'.quiet = true ∧ codeAny (model prog w) A c' R s') (fun e s' => R (.error e) s') s) :
    codeAny (model prog w) A (.call (.builtin "object.__setattr__") ⟨[.ref x, .str name tk, v], []⟩) R s := by
  have F := PySem.F.store_object
  obtain ⟨cd, hcd, hmro⟩ := xc_cls hc
  obtain ⟨N, nm, q, bs, hdct, sn, sub, ab, col, dd, k0, k1, k2, k3, k5, mN, hC, hN, hni, T⟩ := xobj_of X hc
  have L1 : Looks (model prog w) s.heap (isInstance (.ref x) (.type "object")) true := I.type.andThen (looks_mroIn X hm)
  have L2 : Looks (model prog w) s.heap (mroOf (.ref C)) cd.mro := (looks_clsIn X hcd).andThen .now
  refine codeAny_call_builtin F.slot.plain F.entry ?_
  refine check_slot (i := "object.__setattr__") (owner := "object") (n := "__setattr__") F.kind F.split L1 (F.args _ _ _) ?_
  rw [osa_eq, refuse_eq]
  refine wpAny_bind (wpAny_bind (I.type.here (wpAny_bind (L2.here ?_))))
  rw [hmro, refuseLoop_ref, refuse_tail T]
  refine wpAny_pure (wpAny_bind (I.type.here ?_))
  refine wpAny_bind ((looks_findIn X ha).here (wpAny_bind ?_))
  exact wpAny_pure h
theorem hasD (hd : hasDictIn K C = true) : ∃ cd, clsIn K C = some cd ∧ cd.hasDict = true := any_some hd
/-- into the dict that is there -/
theorem xset1 {d0 : Addr} {mA : Str → Option Value} {ns : List Str} {Q : Unit → Shared → Prop} {vs : Array Value} {sl : Array (Option Value)} (X : K.In s.heap) (hx : s.heap.get? x = some ⟨.ref C, some d0, .fields vs, sl⟩) (hn : s.heap.Ns1 d0 mA) (hne : d0 ≠ x)
    (hc : xcIn K C bm ini = true) (ho : xcOk K C = true) (hs : xaOk K C name) (hw : PySem.Within mA ns) (hz : ns.length ≤ 100)
    (h : ∀ h' tk', h'.Ns1 d0 (fun y => if y = name then some v else mA y) → Heap.SameBut d0 s.heap h' → Q () { s with heap := h', toks := tk' }) : wpAny (model prog w) A (setAttr (.ref x) name v) Q E s := by
  obtain ⟨o, es, ep, e1, e2⟩ := id hn
  have J : InstAt s.heap x ⟨.ref C, some d0, .fields vs, sl⟩ C (some o) := ⟨hx, rfl, rfl, e1⟩
  simp only [xcOk, Bool.and_eq_true, beq_iff_eq] at ho
  obtain ⟨cd, hcd, hd'⟩ := hasD ho.2
  refine set_plain X J hs.1 (osa_exc (s := { s with toks := s.toks + 1 }) X J hc ho.1.2 hs.2 ?_)
  refine wpAny_bind (wpAny_pure (wpAny_bind (wpAny_bind (wpAny_loadPart hx (wpAny_bind (Looks.here (s := { s with toks := s.toks + 1 }) (looks_clsIn X hcd) ?_))))))
  rw [hd']
  refine wpAny_pure (a := some d0) (wpAny_bind (wpAny_pure (wpAny_bind ?_)))
  refine wpAny_nsSet1 (s := { s with toks := s.toks + 1 }) hn fun h' hn2 hs2 => ?_
  obtain ⟨oD, esD, epD, hoD, hdD, hcD⟩ := hn2.count (Within.cons name v hw)
  refine wpAny_bind (wpAny_lookBehind hoD ?_ ?_)
  · rw [hdD]; exact pastItsLine_dict (Nat.le_trans hcD (by rw [List.length_cons, sizeLine_eq]; omega))
  · exact wpAny_pure (h h' _ hn2 hs2)
/-- the first one makes the dict -/
theorem xset0 {Q : Unit → Shared → Prop} {vs : Array Value} {sl : Array (Option Value)} (X : K.In s.heap) (hx : s.heap.get? x = some ⟨.ref C, none, .fields vs, sl⟩)
    (hc : xcIn K C bm ini = true) (ho : xcOk K C = true) (hs : xaOk K C name)
    (h : ∀ h' tk', h'.Ns1 s.heap.objs.size (fun y => if y = name then some v else none) → h'.get? x = some ⟨.ref C, some s.heap.objs.size, .fields vs, sl⟩ → (∀ b o, b ≠ x → s.heap.get? b = some o → h'.get? b = some o) → Q () { s with heap := h', toks := tk' }) :
    wpAny (model prog w) A (setAttr (.ref x) name v) Q E s := by
  have J : InstAt s.heap x ⟨.ref C, none, .fields vs, sl⟩ C none := ⟨hx, rfl, rfl, trivial⟩
  simp only [xcOk, Bool.and_eq_true, beq_iff_eq] at ho
  obtain ⟨cd, hcd, hd'⟩ := hasD ho.2
  refine set_plain X J hs.1 (osa_exc (s := { s with toks := s.toks + 1 }) X J hc ho.1.2 hs.2 ?_)
  refine wpAny_bind (wpAny_pure (wpAny_bind (wpAny_bind (wpAny_loadPart hx (wpAny_bind (Looks.here (s := { s with toks := s.toks + 1 }) (looks_clsIn X hcd) ?_))))))
  rw [hd']
  show wpAny _ _ (do let d ← alloc ({ cls := .type "dict", data := .dict #[] } : Obj); update x (fun o => { o with dict := some d }); pure (some d)) _ _ _
  generalize hO : ({ cls := .type "dict", data := .dict #[] } : Obj) = O
  have hOf : O.isFreed = false := by rw [← hO]; rfl
  have hx1 : (s.heap.push O).get? x = some ⟨.ref C, none, .fields vs, sl⟩ := Heap.get?_push_of_some _ hx
  have hne : s.heap.objs.size ≠ x := Nat.ne_of_gt (Heap.lt_size hx)
  generalize hU : (fun o : Obj => { o with dict := some s.heap.objs.size }) = U
  have hx2 : ((s.heap.push O).update x U).get? x = some ⟨.ref C, some s.heap.objs.size, .fields vs, sl⟩ := by
    have z := Heap.get?_update_self U hx1 (by rw [← hU]; rfl)
    rw [z, ← hU]
  have hd2 : ((s.heap.push O).update x U).get? s.heap.objs.size = some O := (Heap.get?_update_other _ _ (Ne.symm hne)).trans (Heap.get?_push_size _ hOf)
  have hn : ((s.heap.push O).update x U).Ns s.heap.objs.size (fun _ => none) := ⟨O, #[], _, hd2, by rw [← hO], fun e he => absurd he (by simp), fun _ => rfl⟩
  refine wpAny_bind (wpAny_alloc' ?_)
  refine wpAny_bind (wpAny_update' hx1 ?_)
  refine wpAny_pure ?_
  show wpAny _ _ (storeInDict s.heap.objs.size (.str name s.toks) name v) _ _ _
  rw [hU]
  refine wpAny_bind (wpAny_pure (wpAny_bind ?_))
  refine wpAny_nsSet1 (s := { s with heap := (s.heap.push O).update x U, toks := s.toks + 1 }) (Heap.Ns1.of_empty hn) fun h' hn2 hs2 => ?_
  obtain ⟨oD, esD, epD, hoD, hdD, hcD⟩ := hn2.count (Within.cons name v Within.nil)
  refine wpAny_bind (wpAny_lookBehind hoD ?_ ?_)
  · rw [hdD]; exact pastItsLine_dict (Nat.le_trans hcD (by rw [List.length_cons, List.length_nil, sizeLine_eq]; omega))
  · refine wpAny_pure (h h' _ hn2 ((hs2.2 x (Ne.symm hne)).trans hx2) fun b o hb q => ?_)
    have hbs : b ≠ s.heap.objs.size := Nat.ne_of_lt (Heap.lt_size q)
    exact (hs2.2 b hbs).trans ((Heap.get?_update_other _ _ (Ne.symm hb)).trans (Heap.get?_push_of_some _ q))
end
end L2

set_option Elab.async false
set_option linter.all false
set_option maxRecDepth 100000
set_option maxHeartbeats 1000000
namespace L2
open PySem PySem.Spec PyProof.Rows
/-! ### raise C(..) where C has an __init__ of its own -/
noncomputable def excψ (e : Addr) (cls : Value) (dx : Option Addr) : Heap → Prop := fun h => ∃ (vs : Array Value) (sl : Array (Option Value)), h.get? e = some ⟨cls, dx, .fields vs, sl⟩ ∧ (∃ x0, vs[0]? = some x0) ∧ vs[1]? = some .none
noncomputable def xdφ (d : Addr) (fs : List (Str × V)) : Heap → Prop := fun h => ∃ mA, h.Ns1 d mA ∧ (∀ f, RelO (fs.lookup f) (mA f)) ∧ ∃ ns, PySem.Within mA ns ∧ ns.length ≤ fs.length
theorem excψ.st {e : Addr} {cls : Value} {dx : Option Addr} {h1 h2 : Heap} (q : excψ e cls dx h1) (k : ∀ o, h1.get? e = some o → h2.get? e = some o) : excψ e cls dx h2 := by
  obtain ⟨vs, sl, a, b⟩ := q; exact ⟨vs, sl, k _ a, b⟩
theorem xdφ.st {d : Addr} {fs : List (Str × V)} {h1 h2 : Heap} (q : xdφ d fs h1) (k : ∀ o, h1.get? d = some o → h2.get? d = some o) : xdφ d fs h2 := by
  obtain ⟨mA, a, b⟩ := q; exact ⟨mA, a.at k, b⟩
theorem excψ.ok {P : Program} {w : World} {H : Hp} {e : Addr} {cls : Value} {dx : Option Addr} {h : Heap} (q : excψ e cls dx h) : ObjOk P w H h e (.ext (excψ e cls dx)) := ⟨q, ⟨_, q.choose_spec.choose_spec.1⟩, fun _ _ a b => a.st b⟩
theorem xdφ.ok {P : Program} {w : World} {H : Hp} {d : Addr} {fs : List (Str × V)} {h : Heap} (q : xdφ d fs h) : ObjOk P w H h d (.ext (xdφ d fs)) := by
  obtain ⟨mA, ⟨o, es, ep, e1, e2⟩, b⟩ := id q
  exact ⟨q, ⟨_, e1⟩, fun _ _ a b => a.st b⟩
/-- what an f-string can write here -/
noncomputable def FmtV : V → Prop
  | .non => True
  | .int i => i.natAbs.log2 < 1920
  | .str x => x.length ≤ 1000
  | _ => False
noncomputable def spInit (C : Addr) (ns : List Str) : Sp := fun vs H Q E => ∃ e xs, vs = .ref e :: xs ∧ xs.length = ns.length ∧ (∀ x ∈ xs, FmtV x) ∧ H e = some (.ext (excψ e (.ref C) none)) ∧
  ∀ d, H d = none → Q .non (upd (upd H e (.ext (excψ e (.ref C) (some d)))) d (.ext (xdφ d (ns.zip xs))))
section
variable {X : Cx} {pins : List (Addr × Obj)} {σ : St} {H : Hp} {s : Shared} {e C fI : Addr} {bm : List Value}
/-- a new object is tracked by a word of one's own -/
theorem Inv.trackφ {φ : Heap → Prop} {o0 : Obj} {vs : Array Value} (I : Inv X pins σ H s) (he : s.heap.get? e = some o0) (hd : o0.data = .fields vs) (o : Out X pins H e) (hφ : ObjOk X.prog X.w (upd H e (.ext φ)) s.heap e (.ext φ)) : Inv X pins σ (upd H e (.ext φ)) s := by
  have ne : ∀ b u, H b = some u → b ≠ e := fun b u q z => by rw [z, o.unt] at q; cases q
  have up : ∀ b, b ≠ e → upd H e (.ext φ) b = H b := fun b z => upd_ne z
  have old : ∀ b ob, X.s₀.heap.get? b = some ob → b ≠ e := fun b ob q z => by rw [z, o.new] at q; cases q
  have nf := I.fieldsNot he hd
  refine ⟨I.ok, I.os, I.bare, ⟨I.base.keep, I.base.slot, fun b ob q n hx => (up b (old b ob q)).trans (I.base.free b ob q n hx), I.base.there, fun b xs q => ?_, fun b ob u q => ?_, fun b ps q => ?_⟩, I.loc, I.cell,
    (up _ (Ne.symm nf.1)).trans I.free, fun x c q => (up _ (nf.2 x c q)).trans (I.freeC x c q), fun q hq => ?_, fun b u q => ?_, I.len⟩
  · have z := I.base.tups b xs q; exact (up b (ne b _ z)).trans z
  · have z := I.base.frzs b ob u q; exact (up b (ne b _ z)).trans z
  · obtain ⟨m, z⟩ := I.base.tbls b ps q; exact ⟨m, (up b (ne b _ z)).trans z⟩
  · obtain ⟨a1, a2, a3⟩ := I.pin q hq; exact ⟨a1, (up _ (o.pin q hq)).trans a2, a3⟩
  · by_cases hb : b = e
    · subst hb; rw [upd_same] at q; cases q; exact hφ
    · rw [up b hb] at q
      exact (I.hok b u q).stay (fun _ _ _ z => z) (fun c z => (up c (ne c _ z)).trans z) fun c xs z => (up c (ne c _ z)).trans z
theorem run_init {k : Nat} {fd : FuncData} {ps ns : List Str} {Q : Value → Shared → Prop} {us : List Value} {vs : List V} (F : FnOk X.prog X.w X.K X.mg X.base CX0 k fI fd ps (spInit C ns)) (hr : Room (k + 1) X.A) (hb : Binds X.K fd ps [])
    (hc : xcIn X.K C bm (some (.ref fI)) = true) (hf : PySem.W.typeIn X.K (.ref fI) = some (.type "function")) (hex : X.ex = []) (hps : ps.length = ns.length + 1) (hsz : ns.length ≤ sizeLine) (I : Inv X pins σ H s) (r : Vals vs us) (hl : vs.length = ns.length) (hv : ∀ x ∈ vs, FmtV x)
    (h : ∀ ea d s', Inv X pins σ (upd H d (.xd (ns.zip vs))) s' → H d = none → FlyO s'.heap ea (.ref C) (some d) none → Out X pins (upd H d (.xd (ns.zip vs))) ea → Q (.ref ea) s') :
    wpAny (model X.prog X.w) X.A (call (.ref C) us) Q X.xe s := by
  obtain ⟨N, nm, q, bs, hdct, sn, sub, ab, col, dd, k0, k1, k2, k3, k5, mN, hC, hN, hni, T⟩ := xobj_of I.kIn hc
  obtain ⟨oI, hoI, hcl⟩ : ∃ o, X.K.lookup fI = some o ∧ o.cls = .type "function" := by
    unfold PySem.W.typeIn at hf
    exact Option.map_eq_some_iff.mp hf
  obtain ⟨h0, g0, d0, t0, os0⟩ := s
  refine call_init T hC hN hni (I.kIn _ _ hoI) hcl (fun h' e hz m => ?_) (by rw [← r.length, hl]; exact hsz)
  have I1 : Inv X pins σ H ⟨h', g0, d0, t0, os0⟩ := I.kept (t' := t0) m.keeps
  have hno : H e = none := I.hok.no m.new
  have oe : Out X pins H e := ⟨I.old hex m.new, hno, I.pinNo m.new⟩
  obtain ⟨tt, ht, _, _⟩ := m.there
  have ψ0 : excψ e (.ref C) none h' := ⟨_, _, ht, ⟨_, rfl⟩, rfl⟩
  have I2 := I1.trackφ (φ := excψ e (.ref C) none) ht rfl oe ψ0.ok
  have r2 : Vals (V.ref e :: vs) (Value.ref e :: us) := .cons rfl r
  have hlen : (Value.ref e :: us).length = ps.length := by rw [List.length_cons, hps, ← r.length, hl]
  have bnd := hb ⟨h', g0, d0, t0, os0⟩ (Value.ref e :: us) I2.kIn (by rw [List.append_nil]; exact hlen)
  rw [List.append_nil] at bnd
  have run := F.run _ X.stack ⟨h', g0, d0, t0, os0⟩ _ ⟨Value.ref e :: us, []⟩ (Value.ref e :: us) (V.ref e :: vs)
    (fun v H' => v = .non ∧ ∃ d, upd H e (.ext (excψ e (.ref C) none)) d = none ∧ H' = upd (upd (upd H e (.ext (excψ e (.ref C) none))) e (.ext (excψ e (.ref C) (some d)))) d (.ext (xdφ d (ns.zip vs)))) E0
    (hr.make C us []) (I2.env0.make C us []) bnd r2 ⟨e, vs, rfl, hl, hv, upd_same, fun d hd => ⟨rfl, d, hd, rfl⟩⟩
  refine wpAny_call (codeAny_mono run fun rr s' hq' => ?_)
  cases rr with
  | error x => exact hq'.elim
  | ok fl =>
    cases fl with
    | next => exact False.elim hq'
    | brk => exact False.elim hq'
    | cont => exact False.elim hq'
    | ret u =>
      obtain ⟨v, H', hos, bare, un, hok, rv, rfl, d, hd, rfl⟩ := hq'
      have hde : d ≠ e := fun z => by rw [z, upd_same] at hd; cases hd
      have hHd : H d = none := by rw [upd_ne hde] at hd; exact hd
      refine ⟨rv, ?_⟩
      rw [upd_upd] at un hok
      generalize hHf : upd H d (.xd (ns.zip vs)) = Hf
      have at' : ∀ b, b ≠ e → b ≠ d → upd (upd H e (.ext (excψ e (.ref C) (some d)))) d (.ext (xdφ d (ns.zip vs))) b = Hf b := fun b h1 h2 => by rw [upd_ne h2, upd_ne h1, ← hHf, upd_ne h2]
      have atd : upd (upd H e (.ext (excψ e (.ref C) (some d)))) d (.ext (xdφ d (ns.zip vs))) d = some (.ext (xdφ d (ns.zip vs))) := upd_same
      have ate : upd (upd H e (.ext (excψ e (.ref C) (some d)))) d (.ext (xdφ d (ns.zip vs))) e = some (.ext (excψ e (.ref C) (some d))) := by rw [upd_ne (Ne.symm hde), upd_same]
      have fe : Hf e = none := by rw [← hHf, upd_ne (Ne.symm hde)]; exact hno
      have hne : ∀ b o, h0.get? b = some o → b ≠ e := fun b o q z => by rw [z, m.new] at q; cases q
      have hup : ∀ b o, h0.get? b = some o → H b = none → upd H e (.ext (excψ e (.ref C) none)) b = none := fun b o q n => by rw [upd_ne (hne b o q)]; exact n
      have un0 : Un (frs X.stack) [] H Hf h0 s'.heap := {
        keep := fun b o q n hn hx => un.keep b o (m.keeps b o q) (hup b o q n) hn hx
        slot := fun b o q n hn hx => un.slot b o (m.keeps b o q) (hup b o q n) hn hx
        free := fun b o q n hx => by
          have z := un.free b o (m.keeps b o q) (hup b o q n) hx
          have hbd : b ≠ d := fun y => by rw [y, atd] at z; cases z
          rw [← hHf, upd_ne hbd]; exact n
        there := fun b o q hx => un.there b o (m.keeps b o q) hx
        tups := fun b xs z => by rw [← hHf, upd_ne (ne_of_none z hHd)]; exact z
        frzs := fun b o u z => by rw [← hHf, upd_ne (ne_of_none z hHd)]; exact z
        tbls := fun b ps z => ⟨#[], by rw [← hHf, upd_ne (ne_of_none z hHd), z]; simp⟩ }
      have hokf : HOk X.prog X.w Hf s'.heap := fun a o q => by
        by_cases had : a = d
        · subst had
          rw [← hHf, upd_same] at q; cases q
          obtain ⟨⟨mA, z1, z2, z3⟩, _⟩ := (show ObjOk X.prog X.w _ s'.heap a (.ext (xdφ a (ns.zip vs))) from hok a _ atd)
          exact ⟨mA, z1, z2⟩
        · have hae : a ≠ e := fun z => by rw [z, fe] at q; cases q
          refine (hok a o ((at' a hae had).trans q)).stay (fun _ _ _ z => z) (fun b z => ?_) fun b xs z => ?_
          · have h1 : b ≠ e := fun y => by rw [y, ate] at z; cases z
            have h2 : b ≠ d := fun y => by rw [y, atd] at z; cases z
            rw [← at' b h1 h2]; exact z
          · have h1 : b ≠ e := fun y => by rw [y, ate] at z; cases z
            have h2 : b ≠ d := fun y => by rw [y, atd] at z; cases z
            rw [← at' b h1 h2]; exact z
      have I3 : Inv X pins σ Hf s' := I.call' hos un0 hokf bare (ch := []) fun b z => absurd z (by simp)
      have hx := h e d s'
      rw [hHf] at hx
      obtain ⟨⟨ws, sl, z1, _, z2⟩, _⟩ := (show ObjOk X.prog X.w _ s'.heap e (.ext (excψ e (.ref C) (some d))) from hok e _ ate)
      exact hx I3 hHd ⟨⟨ws, sl, z1, z2⟩, fun t z => by cases z⟩ ⟨oe.new, fe, oe.pin⟩
end
end L2

set_option Elab.async false
set_option linter.all false
set_option maxRecDepth 100000
set_option maxHeartbeats 1000000
namespace L2
open PySem PySem.Spec PyProof.Rows
section
variable {prog : Program} {w : World} {A : Around} {E : Value → Shared → Prop} {s : Shared} {env : Env}
/-- raise of an exception that an expression made -/
theorem raise_made {x : Expr} {pos : Pos} {Q : Flow → Shared → Prop} (hh : A.handled = none)
    (h : wpAny (model prog w) A (eval x env) (fun v s₁ => ∃ e C bm ini dx, v = .ref e ∧ XObj s₁.heap C bm ini ∧ ExcAt s₁.heap e (.ref C) dx .none ∧ E v s₁) E s) :
    wpAny (model prog w) A (exec (.Raise (some x) none pos) env) Q E s := by
  rw [arm_exec_Raise]
  simp only [evalOpt, Option.map]
  refine wpAny_bind (wpAny_standAt ?_)
  unfold raiseStmt
  refine wpAny_bind (wpAny_bind (wpAny_mono h (fun v s₁ z => wpAny_bind (wpAny_standAt (wpAny_pure ?_))) fun _ _ y => y))
  obtain ⟨e, C, bm, ini, dx, rfl, ⟨N, nm, q, bs, hdct, sn, sub, ab, col, dd, k0, k1, k2, k3, k5, mN, hC, hN, hni, T⟩, ⟨vs, sl, he, h1⟩, hE⟩ := z
  obtain ⟨hp, g, d, tk, os⟩ := s₁
  have hcB : (Value.ref C :: bm).contains (.type "BaseException") = true := by rw [List.contains_cons, tail_base T, Bool.or_true]
  have fl : ∀ {α : Type} {k : Sem α} {Q : α → Shared → Prop}, wpAny (model prog w) A k Q E ⟨hp, g, d, tk, os⟩ → wpAny (model prog w) A (setFlight (.ref e) none >>= fun _ => k) Q E ⟨hp, g, d, tk, os⟩ := fun {α k Q} hk => by
    unfold setFlight
    exact wpAny_bind (wpAny_bind (wpAny_field he rfl h1 (wpAny_pure hk)))
  repeat (first | with_reducible refine wpAny_loadPart_at he ?_ | with_reducible refine wpAny_loadPart_at hC ?_ | (with_reducible refine wpAny_isSubtype_exc hC ?_; rw [hcB]) | with_reducible refine fl ?_ | wp_step)
  exact wpAny_raiseNew_none hh hE
end
section
variable {X : Cx} {xk : XS} {x : Str} {C fI : Addr} {bm : List Value} {e : Expr} {args : List Expr} {np cpos pos : Pos} {t : TA} {k : Nat} {fd : FuncData} {ps ns : List Str}
noncomputable def tRaise1 (xk : XS) (C : Addr) (ns : List Str) (t : TA) : TS := fun _ σ H => t σ H fun vs H1 => vs.length = ns.length ∧ (∀ x ∈ vs, FmtV x) ∧ ∀ d, H1 d = none → xk σ (.ref C) (some d) (upd H1 d (.xd (ns.zip vs)))
theorem ps_raise1 (hex : X.ex = []) (hcalm : X.calm = true) (ac : Acc X xk) (F : FnOk X.prog X.w X.K X.mg X.base CX0 k fI fd ps (spInit C ns)) (hr : Room (k + 1) X.A) (hb : Binds X.K fd ps []) (hc : xcIn X.K C bm (some (.ref fI)) = true)
    (hf : PySem.W.typeIn X.K (.ref fI) = some (.type "function")) (hk : PySem.W.keepIn X.K (.ref C) = true) (hps : ps.length = ns.length + 1) (hsz : ns.length ≤ sizeLine) (hg : Gl X x) (hm : X.mg x = some (.ref C)) (ha : PA X (e :: args) t)
    (hdb : (x == ("__debug__" : Str)) = false := by decide) (he : starEach (e :: args) X.env = (false, eval e X.env) :: starEach args X.env := by rfl) (hpl : (backTo cpos (starEach args X.env)).any (·.1) = false := by rfl) :
    PS X (.Raise (some (.Call (.Name x np) (e :: args) [] cpos)) none pos) (tRaise1 xk C ns t) := by
  refine ⟨fun pins s σ H D I h => raise_made (I.ok.hd hcalm) (wpAny_Call_Name_kw (ld_glob I hg hm ?_ hdb))⟩
  refine PySem.W.callWith_K (h₀ := X.base) I.ok.mod.kin hk (thn (ha cpos pins s σ H _ I h) fun us s1 ⟨vs, H1, I1, r, hl, hv, q⟩ => ⟨I1.kIn, ?_⟩) he hpl
  refine run_init F hr hb hc hf hex hps hsz I1 r hl hv fun ea d s' J hd fl oe => ?_
  exact ⟨ea, C, bm, _, some d, rfl, xobj_of J.kIn hc, fl.ex, ac.go pins σ _ s' ea (.ref C) (some d) J ⟨none, fl, oe, fun t z => by cases z⟩ (q d hd)⟩
end
/-! ### over data -/
noncomputable def FmtD : D → Prop
  | .non => True
  | .int i => i.natAbs.log2 < 1920
  | .str x => x.length ≤ 1000
  | _ => False
theorem FmtD.v {H : Hp} {d : D} {v : V} (h : FmtD d) (r : Rep H d v) : FmtV v := by
  cases d with
  | non => rw [Rep] at r; subst r; exact h
  | int i => rw [Rep] at r; subst r; exact h
  | str x => rw [Rep] at r; subst r; exact h
  | _ => exact h.elim
theorem fmt_reps {H : Hp} : ∀ {ds : List D} {vs : List V}, (∀ d ∈ ds, FmtD d) → Reps H ds vs → ∀ v ∈ vs, FmtV v
  | [], vs, _, r, v, hv => by rw [Reps] at r; subst r; cases hv
  | d :: ds, vs, h, r, v, hv => by
    rw [Reps] at r
    obtain ⟨w, ws, rfl, r1, r2⟩ := r
    rcases List.mem_cons.mp hv with rfl | hv
    · exact (h d (by simp)).v r1
    · exact fmt_reps (fun d' hd => h d' (by simp [hd])) r2 v hv
section
variable {X : Cx} {M : Md} {e : Expr} {es : List Expr} {mr : MA} {x : Str} {pos : Pos} {k : Nat} {fd : FuncData} {ps ns : List Str}
noncomputable def mRaise1 (c : Addr) (ns : List Str) (m : MA) : MSX := fun xx _ ρ => m ρ fun ds ρ1 => ds.length = ns.length ∧ (∀ d ∈ ds, FmtD d) ∧ xx c ns ds ρ1
theorem qx_raise1 {C fI : Addr} {bm : List Value} {np cpos : Pos} (F : FnOk X.prog X.w X.K X.mg X.base CX0 k fI fd ps (spInit C ns)) (hr : Room (k + 1) X.A) (hb : Binds X.K fd ps []) (hc : xcIn X.K C bm (some (.ref fI)) = true)
    (hf : PySem.W.typeIn X.K (.ref fI) = some (.type "function")) (hk : PySem.W.keepIn X.K (.ref C) = true) (hg : Gl X x) (hm : X.mg x = some (.ref C)) (ha : QA X.nox M.ow (e :: es) mr) (hps : ps.length = ns.length + 1 := by rfl) (hsz : ns.length ≤ sizeLine := by simp [sizeLine]) (hcalm : X.calm = true := by rfl) (hex : X.ex = [] := by rfl)
    (hdb : (x == ("__debug__" : Str)) = false := by decide) (he : starEach (e :: es) X.env = (false, eval e X.env) :: starEach es X.env := by rfl) (hpl : (backTo cpos (starEach es X.env)).any (·.1) = false := by rfl) :
    QX X M (.Raise (some (.Call (.Name x np) (e :: es) [] cpos)) none pos) (mRaise1 C ns mr) := by
  obtain ⟨t, p, s⟩ := ha
  refine ⟨fun xk => tRaise1 xk C ns t, fun E q xk g => ps_raise1 (X := X.tr E q) hex hcalm g.2 F hr hb hc hf hk hps hsz hg hm (PA.any p) hdb he hpl, fun C' G ρ σ H n D xx xk hm hn r h k kx => s C' G ρ σ H [] _ _ r h fun ds ρ' vs G' H' hq z kp r' p' hl => ?_⟩
  obtain ⟨h1, h2, h3⟩ := hq
  have hvl := p'.length
  refine ⟨by rw [hvl, h1], fmt_reps h2 p', fun d hd => ?_⟩
  obtain ⟨O, ro⟩ := r'
  obtain ⟨ro2, z2⟩ := ro.new hd (.xd (ns.zip vs))
  exact kx.go C ns ds ρ' σ (some d) _ _ h3 (z.trans z2) ⟨O, ro2⟩ ⟨vs, by simp [upd], by rw [hvl, h1], Reps.mono z2 _ _ p'⟩
end
end L2

set_option Elab.async false
set_option linter.all false
set_option maxRecDepth 100000
set_option maxHeartbeats 1000000
namespace L2
open PySem PySem.Spec PyProof.Rows
/-! ### f-strings of names -/
structure PJ (X : Cx) (es : List Expr) (c : St → Prop) : Prop where
  go : ∀ (pins : List (Addr × Obj)) (s : Shared) (σ : St) (H : Hp) (acc : Str) (Q : Str → Shared → Prop), Inv X pins σ H s → c σ → acc.length + 2000 * es.length ≤ sizeLine →
    (∀ out s', Inv X pins σ H s' → out.length ≤ acc.length + 2000 * es.length → Q out s') → Joins (model X.prog X.w) X.A X.xe (evalEach es X.env) acc Q s
section
variable {X : Cx} {es : List Expr} {c : St → Prop}
theorem pj_nil : PJ X [] (fun _ => True) := ⟨fun pins s σ H acc Q I _ hz k => k acc s I (Nat.le_add_right _ _)⟩
theorem pj_step {e : Expr} {c' : St → Prop} (h : PJ X es c) (he : ∀ (pins : List (Addr × Obj)) (s : Shared) (σ : St) (H : Hp) (Q : Value → Shared → Prop), Inv X pins σ H s → c' σ → (∀ y t s', Inv X pins σ H s' → y.length ≤ 2000 → Q (.str y t) s') → wpAny (model X.prog X.w) X.A (eval e X.env) Q X.xe s) :
    PJ X (e :: es) (fun σ => c' σ ∧ c σ) := by
  refine ⟨fun pins s σ H acc Q I hc hz k => ?_⟩
  rw [List.length_cons] at hz k
  refine he pins s σ H _ I hc.1 fun y t s' I' hy => ⟨y, t, rfl, ?_, ?_⟩
  · rw [strLen_append]; omega
  · refine h.go pins s' σ H (acc ++ y) Q I' hc.2 (by rw [strLen_append]; omega) fun out s2 I2 ho => k out s2 I2 ?_
    rw [strLen_append] at ho; omega
theorem pj_lit {x : Str} {k : Nat} {p : Pos} (h : PJ X es c) (hx : x.length ≤ 2000 := by decide) : PJ X (.Constant (.str x) k p :: es) (fun σ => True ∧ c σ) :=
  pj_step h fun pins s σ H Q I _ q => thn (pe_str.go pins s σ H (fun v H' => v = .str x ∧ H' = H) I ⟨rfl, rfl⟩) fun u s1 ⟨v, H1, I1, r1, e1, e2⟩ => by
    subst e1 e2; obtain ⟨t, rfl⟩ := (show ∃ t, u = Value.str x t from r1); exact q x t s1 I1 hx
theorem pj_var {i : Nat} {x : Str} {np p : Pos} (hv : PE X (.Name x np) (tVar i)) (h : PJ X es c) : PJ X (.FormattedValue (.Name x np) (-1) none p :: es) (fun σ => (∃ v, σ[i]? = some (some v) ∧ FmtV v) ∧ c σ) :=
  pj_step h fun pins s σ H Q I hc q => by
    obtain ⟨v, h1, h2⟩ := hc
    refine wpAny_FormattedValue_plain (thn (hv.go pins s σ H (fun v' H' => v' = v ∧ H' = H) I ⟨v, h1, rfl, rfl⟩) fun u s1 ⟨v1, H1, I1, r1, e1, e2⟩ => ?_)
    subst e1 e2
    cases v1 with
    | non => cases (show u = Value.none from r1); exact wpAny_formatField_none (q _ _ _ (I1.tok _) (by decide))
    | int a => obtain ⟨t, rfl⟩ := (show ∃ t, u = Value.int a t from r1); exact wpAny_formatField_int h2 (q _ _ _ (I1.tok _) (Nat.le_trans (PyProof.Rows.int_text_len_1921 h2) (by decide)))
    | str y => obtain ⟨t, rfl⟩ := (show ∃ t, u = Value.str y t from r1); exact wpAny_formatField_str (q _ _ _ I1 (Nat.le_trans h2 (by decide))) (q _ _ _ (I1.tok _) (Nat.le_trans h2 (by decide))) (Nat.le_trans h2 (by decide))
    | _ => exact h2.elim
noncomputable def tJoin (c : St → Prop) : TE := fun σ H Q => c σ ∧ ∀ y : Str, Q (.str y) H
theorem pe_join {a b : Expr} {p : Pos} (h : PJ X (a :: b :: es) c) (hz : (a :: b :: es).length ≤ 1000 := by decide) : PE X (.JoinedStr (a :: b :: es) p) (tJoin c) := by
  refine ⟨fun pins s σ H Q I hq => wpAny_JoinedStr (h.go pins s σ H _ _ I hq.1 ?_ fun out s' I' ho => ⟨?_, .str out, H, I'.tok _, ⟨_, rfl⟩, hq.2 out⟩)⟩
  · have : (Str.empty : Str).length = 0 := rfl
    rw [sizeLine_eq]; omega
  · have : (Str.empty : Str).length = 0 := rfl
    rw [sizeLine_eq]; omega
end
end L2

set_option Elab.async false
set_option linter.all false
set_option maxRecDepth 100000
set_option maxHeartbeats 1000000
namespace L2
open PySem PySem.Spec PyProof.Rows
/-! ### the body of an __init__ -/
/-- what the fragment says of the class whose __init__ is called by its name -/
structure BaseIn (K : PySem.W.Frag) (B : Addr) : Prop where
  r : PySem.W.readsIn K B (.type "type") = true
  f : PySem.W.findCls K (.ref B) (.type "type") "__init__" = some (.val (.builtin "ValueError.__init__"))
  g : PySem.W.specialIn K (.ref B) "__getattribute__" = some (some (.builtin "type.__getattribute__"))
section
variable {X : Cx} {C B : Addr} {bm : List Value} {ini : Option Value} {x : Str} {a b : Expr} {np apos pos pos' : Pos} {t : TA}
noncomputable def tBInit (C : Addr) (t : TA) : TE := fun σ H Q => t σ H fun vs H1 => ∃ e y dx, vs = [.ref e, .str y] ∧ H1 e = some (.ext (excψ e (.ref C) dx)) ∧ Q .non (upd H1 e (.ext (excψ e (.ref C) dx)))
theorem pe_binit {pl : Sem Bool} (hB : BaseIn X.K B) (hc : xcIn X.K C bm ini = true) (hg : Gl X x) (hm : X.mg x = some (.ref B)) (ha : PA X [a, b] t) (hdb : (x == ("__debug__" : Str)) = false := by decide)
    (he : starEach [a, b] X.env = (false, eval a X.env) :: starEach [b] X.env := by rfl) (hpl : (backTo pos (starEach [b] X.env)).any (·.1) = false := by rfl)
    (ht : eval (.Call (.Attribute (.Name x np) "__init__" apos) [a, b] [] pos) X.env = (do
      let ov ← eval (.Name x np) X.env
      standAt apos.atName
      let (f, first) ← holding [ov] (getMethod ov "__init__" pl)
      callWith pos f first (backTo pos (starEach [a, b] X.env)) (backToKw pos (keywordEach [] X.env))) := by rfl) :
    PE X (.Call (.Attribute (.Name x np) "__init__" apos) [a, b] [] pos) (tBInit C t) := by
  refine ⟨fun pins s σ H Q I h => PySem.W.methodCall_KW (pl := pl) (ld_glob I hg hm ?_ hdb) ht⟩
  refine PySem.W.method_cls I.kIn hB.g (PySem.W.cls_value I.kIn hB.r hB.f rfl ?_)
  have I0 := I.tok (s.toks + 1)
  have hA := ha pos pins _ σ H _ I0 h
  show wpAny _ _ (callWith pos (.builtin "ValueError.__init__") [] (backTo pos (starEach [a, b] X.env)) []) _ _ _
  rw [he] at hA ⊢
  refine Calls.callWith_builtin (by show (false || (backTo pos (starEach [b] X.env)).any (·.1)) = false; rw [hpl] <;> rfl) (Calls.evalArgs_plain (thn hA fun us s2 ⟨vs, H2, I2, r2, e, y, dx, ev, hH, q⟩ => ?_))
  subst ev
  obtain ⟨u1, u2, rfl, r3, r4⟩ := vals2 r2
  cases (show u1 = Value.ref e from r3)
  obtain ⟨ty, rfl⟩ := (show ∃ t, u2 = Value.str y t from r4)
  obtain ⟨⟨ws, sl, z1, ⟨x0, z0⟩, z2⟩, _⟩ := (show ObjOk X.prog X.w _ s2.heap e (.ext (excψ e (.ref C) dx)) from I2.hok e _ hH)
  obtain ⟨N, nm, q', bs, hdct, sn, sub, ab, col, dd, k0, k1, k2, k3, k5, mN, hC, hN, hni, T⟩ := xobj_of I2.kIn hc
  obtain ⟨h0, g0, d0, t0, os0⟩ := s2
  refine init_base T hC z1 rfl rfl z0 ?_ (by simp [sizeLine])
  generalize hO : ({ cls := .type "tuple", data := .seq ([Value.str y ty] : List Value).toArray } : Obj) = O
  have e1 := Heap.get?_push_of_some O z1
  have e2 := Heap.get?_update_self (Obj.mapFields (·.setIfInBounds 0 (Value.ref h0.objs.size))) e1 (Obj.isFreed_of_fields (Obj.data_mapFields rfl _))
  have h00 : 0 < ws.size := (Array.getElem?_eq_some_iff.mp z0).1
  have h01 : 1 < ws.size := (Array.getElem?_eq_some_iff.mp z2).1
  have ψ : excψ e (.ref C) dx ((h0.push O).update e (Obj.mapFields (·.setIfInBounds 0 (Value.ref h0.objs.size)))) := by
    refine ⟨ws.setIfInBounds 0 (Value.ref h0.objs.size), sl, e2, ⟨_, by simp [h00]; rfl⟩, ?_⟩
    rw [Array.getElem?_setIfInBounds_ne (by decide)]; exact z2
  exact ⟨.non, _, I2.write (x := e) (e := e) (t' := t0) (by rw [hH]; trivial) (.inl rfl) (fun b u hb z => (Heap.get?_update_other _ _ (Ne.symm hb)).trans (Heap.get?_push_of_some _ z)) ⟨_, e2⟩ ψ.ok, rfl, q⟩
end
section
variable {X : Cx} {pins : List (Addr × Obj)} {σ : St} {H : Hp} {s : Shared} {h' : Heap} {a : Addr} {oa od : HO}
/-- an object is changed, another one laid behind the heap's end -/
theorem Inv.two {t' : Nat} (I : Inv X pins σ H s) (mu : Mut (H a)) (k : ∀ b o, b ≠ a → s.heap.get? b = some o → h'.get? b = some o) (heo : ∃ u, h'.get? a = some u)
    (oka : ObjOk X.prog X.w (upd (upd H a oa) s.heap.objs.size od) h' a oa) (okd : ObjOk X.prog X.w (upd (upd H a oa) s.heap.objs.size od) h' s.heap.objs.size od) :
    Inv X pins σ (upd (upd H a oa) s.heap.objs.size od) { s with heap := h', toks := t' } := by
  have hn : H s.heap.objs.size = none := I.hok.fresh (Nat.le_refl _)
  have up : ∀ b, b ≠ a → b ≠ s.heap.objs.size → upd (upd H a oa) s.heap.objs.size od b = H b := fun b h1 h2 => by rw [upd_ne h2, upd_ne h1]
  have na : ∀ b, H b = none → b ≠ a := fun b z y => by rw [y] at z; rw [z] at mu; exact mu
  have lt : ∀ b o, s.heap.get? b = some o → b ≠ s.heap.objs.size := fun b o z => Nat.ne_of_lt (Heap.lt_size z)
  have nd : ∀ b u, H b = some u → b ≠ s.heap.objs.size := fun b u z y => by rw [y, hn] at z; cases z
  have nt : ∀ b xs, H b = some (.tup xs) → b ≠ a := fun b xs z y => by rw [← y, z] at mu; exact mu
  have nf : ∀ b o u, H b = some (.frz o u) → b ≠ a := fun b o u z y => by rw [← y, z] at mu; exact mu
  have ntb : ∀ b ps, H b = some (.tbl ps) → b ≠ a := fun b ps z y => by rw [← y, z] at mu; exact mu
  have no : ∀ b y, H b = some (.own y) → b ≠ a := fun b y' z y => by rw [← y, z] at mu; exact mu
  refine I.un (t' := t') {
    keep := fun b o q n _ _ => k b o (na b n) q
    slot := fun b o q n _ _ => ⟨o.slots, k b o (na b n) q⟩
    free := fun b o q n _ => (up b (na b n) (lt b o q)).trans n
    there := fun b o q _ => by
      by_cases hb : b = a
      · subst hb; exact heo
      · exact ⟨o, k b o hb q⟩
    tups := fun b xs z => (up b (nt b xs z) (nd b _ z)).trans z
    frzs := fun b o u z => (up b (nf b o u z) (nd b _ z)).trans z
    tbls := fun b ps z => ⟨#[], by rw [up b (ntb b ps z) (nd b _ z), z]; simp⟩ } fun b u q => ?_
  by_cases h1 : b = s.heap.objs.size
  · subst h1; rw [upd_same] at q; cases q; exact okd
  by_cases h2 : b = a
  · subst h2; rw [upd_ne h1, upd_same] at q; cases q; exact oka
  rw [up b h2 h1] at q
  refine (I.hok b u q).stay (fun c v hc z => k c v ?_ z) (fun c z => (up c (no c _ z) (nd c _ z)).trans z) fun c xs z => (up c (nt c _ z) (nd c _ z)).trans z
  rcases hc with rfl | hc
  · exact h2
  · exact no c _ hc
end
section
variable {X : Cx} {C : Addr} {bm : List Value} {ini : Option Value} {f : Str} {o value : Expr} {pos pos' : Pos} {ta tv : TE}
noncomputable def sX0 (C : Addr) (f : Str) (ta tv : TE) : TS := fun D σ H => tv σ H fun y H1 => ta σ H1 fun x H2 => ∃ a, x = .ref a ∧ H2 a = some (.ext (excψ a (.ref C) none)) ∧
  ∀ d, H2 d = none → D.nx σ (upd (upd H2 a (.ext (excψ a (.ref C) (some d)))) d (.ext (xdφ d [(f, y)])))
noncomputable def sX1 (C : Addr) (f : Str) (ta tv : TE) : TS := fun D σ H => tv σ H fun y H1 => ta σ H1 fun x H2 => ∃ a d fs, x = .ref a ∧ H2 a = some (.ext (excψ a (.ref C) (some d))) ∧ H2 d = some (.ext (xdφ d fs)) ∧ d ≠ a ∧ fs.length ≤ 50 ∧ fs.lookup f = none ∧
  D.nx σ (upd H2 d (.ext (xdφ d (fs ++ [(f, y)]))))
theorem look_snoc (g : Str) (y : V) : ∀ {fs : List (Str × V)}, fs.lookup f = none → (fs ++ [(f, y)]).lookup g = if g = f then some y else fs.lookup g
  | [], _ => by
    show List.lookup g [(f, y)] = _
    by_cases h : g = f
    · have hb : (g == f) = true := beq_iff_eq.mpr h
      simp only [List.lookup, hb, if_pos h]
    · have hb : (g == f) = false := beq_eq_false_iff_ne.mpr h
      simp only [List.lookup, hb, if_neg h]
  | (k, x) :: fs, h => by
    show List.lookup g ((k, x) :: (fs ++ [(f, y)])) = _
    by_cases hk : f = k
    · have hb : (f == k) = true := beq_iff_eq.mpr hk
      simp only [List.lookup, hb] at h; cases h
    · have hb : (f == k) = false := beq_eq_false_iff_ne.mpr hk
      simp only [List.lookup, hb] at h
      have ih := look_snoc g y h
      by_cases hg : g = k
      · have hb2 : (g == k) = true := beq_iff_eq.mpr hg
        simp only [List.lookup, hb2]
        rw [if_neg (fun z => hk (z.symm.trans hg))]
      · have hb2 : (g == k) = false := beq_eq_false_iff_ne.mpr hg
        simp only [List.lookup, hb2]
        exact ih
theorem ps_x0 (hc : xcIn X.K C bm ini = true) (ho : xcOk X.K C = true) (hs : xaOk X.K C f) (ha : PE X o ta) (hv : PE X value tv) (hsw : swapsWith value (some (.Attribute o f pos')) pos.line X.env = pure false := by rfl) : PS X (.Assign [.Attribute o f pos'] value pos) (sX0 C f ta tv) := by
  refine ⟨fun pins s σ H D I h => plainObj_wpAny_Assign_Attribute (thn (hv pins s σ H _ I h) fun u s1 ⟨y, H1, I1, ry, q⟩ => thn (ha pins s1 σ H1 _ I1 q) fun ov s2 ⟨x, H2, I2, rx, a, ex, hH, q2⟩ => ?_) hsw⟩
  subst ex
  obtain rfl : ov = Value.ref a := rx
  obtain ⟨⟨ws, sl, z1, z0, z2⟩, _⟩ := (show ObjOk X.prog X.w _ s2.heap a (.ext (excψ a (.ref C) none)) from I2.hok a _ hH)
  refine xset0 I2.kIn z1 hc ho hs fun h' tk' hn hx k => ?_
  refine ⟨σ, _, I2.two (t' := tk') (oa := .ext (excψ a (.ref C) (some s2.heap.objs.size))) (od := .ext (xdφ s2.heap.objs.size [(f, y)])) (by rw [hH]; trivial) k ⟨_, hx⟩ (excψ.ok ⟨ws, sl, hx, z0, z2⟩) (xdφ.ok ⟨_, hn, fun g => ?_, [f], Within.cons f u Within.nil, by simp⟩), q2 _ (I2.hok.fresh (Nat.le_refl _))⟩
  have e := look_snoc (f := f) g y (fs := []) rfl
  rw [List.nil_append] at e
  rw [e]
  by_cases hg : g = f
  · rw [if_pos hg, if_pos hg]; exact ry
  · rw [if_neg hg, if_neg hg]; exact True.intro
theorem ps_x1 (hc : xcIn X.K C bm ini = true) (ho : xcOk X.K C = true) (hs : xaOk X.K C f) (ha : PE X o ta) (hv : PE X value tv) (hsw : swapsWith value (some (.Attribute o f pos')) pos.line X.env = pure false := by rfl) : PS X (.Assign [.Attribute o f pos'] value pos) (sX1 C f ta tv) := by
  refine ⟨fun pins s σ H D I h => plainObj_wpAny_Assign_Attribute (thn (hv pins s σ H _ I h) fun u s1 ⟨y, H1, I1, ry, q⟩ => thn (ha pins s1 σ H1 _ I1 q) fun ov s2 ⟨x, H2, I2, rx, a, d, fs, ex, hH, hd, hne, hfs, hl, q2⟩ => ?_) hsw⟩
  subst ex
  obtain rfl : ov = Value.ref a := rx
  obtain ⟨⟨ws, sl, z1, z0, z2⟩, _⟩ := (show ObjOk X.prog X.w _ s2.heap a (.ext (excψ a (.ref C) (some d))) from I2.hok a _ hH)
  obtain ⟨⟨mA, y1, y2, ns, y3, y4⟩, ⟨od, yd⟩, _⟩ := (show ObjOk X.prog X.w _ s2.heap d (.ext (xdφ d fs)) from I2.hok d _ hd)
  refine xset1 I2.kIn z1 y1 hne hc ho hs y3 (by omega) fun h' tk' hn hsb => ?_
  obtain ⟨o2, es2, ep2, e2, e3⟩ := id hn
  refine ⟨σ, _, I2.write (x := d) (e := d) (t' := tk') (by rw [hd]; trivial) (.inl rfl) (fun b u hb z => (hsb.2 b hb).trans z) ⟨_, e2⟩ (xdφ.ok ⟨_, hn, fun g => ?_, f :: ns, Within.cons f u y3, ?_⟩), q2⟩
  · rw [look_snoc g y hl]
    by_cases hg : g = f
    · rw [if_pos hg, if_pos hg]; exact ry
    · rw [if_neg hg, if_neg hg]; exact y2 g
  · rw [List.length_cons, List.length_append]; simp; omega
/-! ### e.f of a caught exception -/
noncomputable def tXat (K : PySem.W.Frag) (f : Str) (ta : TE) : TE := fun σ H Q => ta σ H fun x H1 => ∃ a C d fs v bm ini, x = .ref a ∧ H1 a = some (.ext (excφ a (.ref C) (some d))) ∧ H1 d = some (.xd fs) ∧ xcIn K C bm ini = true ∧ xcOk K C = true ∧ xaOk K C f ∧ fs.lookup f = some v ∧ Q v H1
theorem pe_xat (he : PE X o ta) (hb : attributeBase o f X.env (eval o X.env) = eval o X.env := by rfl) : PE X (.Attribute o f pos) (tXat X.K f ta) := by
  refine ⟨fun pins s σ H Q I h => attr_of hb (thn (he pins s σ H _ I h) fun u s1 ⟨x, H1, I1, rx, a, C, d, fs, v, bm, ini, ex, hH, hd, hc, ho, hs, hl, q⟩ => ?_)⟩
  subst ex
  obtain rfl : u = Value.ref a := rx
  obtain ⟨⟨ws, sl, z1⟩, _⟩ := (show ObjOk X.prog X.w _ s1.heap a (.ext (excφ a (.ref C) (some d))) from I1.hok a _ hH)
  obtain ⟨mA, y1, y2⟩ := (show ObjOk X.prog X.w _ s1.heap d (.xd fs) from I1.hok d _ hd)
  obtain ⟨od, o1, o2⟩ := lookIn_ns y1
  have rl := y2 f
  rw [hl] at rl
  obtain ⟨u, e1, e2⟩ := rl.some_of
  have J : PySem.W.InstAt s1.heap a ⟨.ref C, some d, .fields ws, sl⟩ C (some od) := ⟨z1, rfl, rfl, o1⟩
  simp only [xcOk, Bool.and_eq_true, beq_iff_eq] at ho
  refine exc_attr I1.kIn J (xobj_of I1.kIn hc) ho.1.1.1.1.1.1 ho.1.1.1.1.1.2 (PySem.W.findObj_own ho.2 hs.2 rfl (by rw [o2, e1])) fun tk => PySem.W.handed_on (handed_of e2) ⟨v, H1, I1.tok tk, e2, q⟩
end
/-! ### over data -/
theorem zip_look {H : Hp} {f : Str} {dv : D} : ∀ {ns : List Str} {es : List D} {xs : List V}, Reps H es xs → (ns.zip es).lookup f = some dv → ∃ v, (ns.zip xs).lookup f = some v ∧ Rep H dv v
  | [], es, xs, _, h => by simp at h
  | n :: ns, [], xs, _, h => by simp at h
  | n :: ns, e :: es, xs, r, h => by
    rw [Reps] at r
    obtain ⟨w, ws, rfl, r1, r2⟩ := r
    rw [List.zip_cons_cons] at h ⊢
    by_cases hf : f = n
    · have hb : (f == n) = true := beq_iff_eq.mpr hf
      simp only [List.lookup, hb] at h ⊢
      cases h; exact ⟨w, rfl, r1⟩
    · have hb : (f == n) = false := beq_eq_false_iff_ne.mpr hf
      simp only [List.lookup, hb] at h ⊢
      exact zip_look r2 h
section
variable {X : Cx} {ow : List Bool} {a : Expr} {ma : ME} {pos : Pos} {f : Str}
noncomputable def mXat (K : PySem.W.Frag) (f : Str) (m : ME) : ME := fun ρ q => m ρ fun d ρ' => ∃ C ns es dv bm ini, d = dExc C ns es ∧ xcIn K C bm ini = true ∧ xcOk K C = true ∧ xaOk K C f ∧ (ns.zip es).lookup f = some dv ∧ q dv ρ'
theorem qe_xat (ha : QE X ow a ma) (hb : attributeBase a f X.env (eval a X.env) = eval a X.env := by rfl) : QE X ow (.Attribute a f pos) (mXat X.K f ma) := by
  obtain ⟨t, p, s⟩ := ha
  refine ⟨_, pe_xat p hb, fun C G ρ σ H pd q Q r hm k => s C G ρ σ H pd _ _ r hm fun d ρ' v G' H' hq s kp r' p => ?_⟩
  obtain ⟨C1, ns, es, dv, bm, ini, rfl, h1, h2, h3, h4, h5⟩ := hq
  unfold dExc at p
  rw [Rep] at p
  obtain ⟨a1, H0, rfl, z, dx, g1, g2⟩ := p
  cases dx with
  | none => obtain ⟨rfl, rfl⟩ := g2; simp at h4
  | some d =>
    obtain ⟨xs, g3, g4, g5⟩ := g2
    obtain ⟨v, l1, l2⟩ := zip_look (Reps.mono z _ _ g5) h4
    exact ⟨a1, C1, d, _, v, bm, ini, rfl, r'.gh _ _ (z _ _ g1), r'.gh _ _ (z _ _ g3), h1, h2, h3, l1, k dv ρ' v G' H' h5 s kp r' l2⟩
end
end L2

set_option Elab.async false
set_option linter.all false
set_option maxRecDepth 100000
set_option maxHeartbeats 1000000
namespace L2
open PySem PySem.Spec PyProof.Rows
/-! ### where True stands first in a list of truths -/
section
variable {X : Cx}
variable {ow : List Bool} {e : Expr} {ma : ME}
end
end L2

set_option Elab.async false
set_option linter.all false
set_option maxRecDepth 100000
set_option maxHeartbeats 1000000
namespace L2
open PySem PySem.Spec PyProof.Rows
/-! ### a walk over what a call tells that may raise -/
section
variable {X : Cx} {M : Md} {ow : List Bool} {a e : Expr} {es : List Expr} {pos : Pos} {mex : MEX} {m1 : MSX} {mg : MG}
noncomputable def miEnuX (m : MEX) : XD → MA := fun xx ρ q => m xx ρ fun d ρ' => match d with
  | .lst ds => q (enuD ds) ρ'
  | _ => False
/-! ### {}, tuple(..) -/
theorem qe_dict0 : QE X ow (.Dict [] [] pos) (mC .dct) := by
  refine ⟨_, pe_dnewK, fun C G ρ σ H pd q Q r hm k => fun p hp => ?_⟩
  obtain ⟨O, ro⟩ := r
  obtain ⟨r2, s2⟩ := ro.new hp (.dK [])
  exact k _ ρ _ _ _ hm s2 Kp.refl ⟨O, r2⟩ (by rw [Rep]; exact ⟨p, [], rfl, upd_same⟩)
variable {x : Str} {p' : Pos} {ma : ME}
noncomputable def mTupOf (m : ME) : ME := fun ρ q => m ρ fun d ρ' => match d with
  | .lst ds => q (.tup ds) ρ'
  | _ => False
theorem qe_tupOf (hg : Gl X x) (hm : X.mg x = none) (hv : bootBuiltins x = some (.type "tuple")) (ha : QE X ow e ma) (hn : x ≠ "__name__" := by decide) (hdb : (x == ("__debug__" : Str)) = false := by decide)
    (he : starEach [e] X.env = [(false, eval e X.env)] := by rfl) : QE X ow (.Call (.Name x p') [e] [] pos) (mTupOf ma) := by
  obtain ⟨t, p, s⟩ := ha
  refine ⟨_, pe_callTy call_tuple_of hg hm hv (pa_cons p pa_nil he) hn hdb he rfl, fun C G ρ σ H pd q Q r hm k => s C G ρ σ H pd _ _ r hm fun d ρ' v G' H' hq z kp r' p1 => ?_⟩
  cases d with
  | lst ds =>
    obtain ⟨a, xs, rfl, h1, h2⟩ := rep_lst_of p1
    refine ⟨a, xs, rfl, .inl ⟨SqL.of (r'.gh _ _ h1), fun l hl => ?_⟩⟩
    obtain ⟨O, ro⟩ := r'
    obtain ⟨r2, s2⟩ := ro.new hl (.tup xs)
    exact k _ ρ' _ _ _ hq (z.trans s2) kp ⟨O, r2⟩ (rep_tup upd_same (Reps.mono s2 _ _ h2))
  | _ => exact hq.elim
end
end L2

set_option Elab.async false
set_option linter.all false
set_option maxRecDepth 100000
set_option maxHeartbeats 1000000
namespace L2
open PySem PySem.Spec PyProof.Rows
/-! ### a list that is written while its things are shared: it stands in no part of the state until it is shared -/
structure FlO (C : Ctx) (G H : Hp) (O : Own) (p : Addr) (xs : List V) : Prop where
  gp : G p = none
  op : O p = none
  cp : C.H p = none
  hp : H p = some (.lst xs)
noncomputable def Ctx.pin (C : Ctx) (p : Addr) (o : HO) : Ctx := { C with H := fun a => if a = p then some o else C.H a, O := fun a => if a = p then none else C.O a }
section
variable {C : Ctx} {ow : List Bool} {G : Hp} {ρ : DSt} {σ : St} {H : Hp} {pd : List (D × V)} {O : Own} {p : Addr} {xs : List V}
theorem RO.off (h : RO C ow G ρ σ H pd O) (gp : G p = none) (op : O p = none) (cp : C.H p = none) (o : HO) : RO C ow G ρ σ (upd H p o) pd O := by
  have ne : ∀ a l, O a = some l → a ≠ p := fun a l e z => by rw [z, op] at e; cases e
  refine ⟨h.len, fun a u e => ?_, h.g0, h.gn, fun a l e => ?_, h.cok, fun a u e n => ?_, fun a e => ?_, h.mp, fun i d e => ?_, ?_, h.np⟩
  · rw [upd_ne (fun z => by rw [z, gp] at e; cases e)]; exact h.gh _ _ e
  · rw [upd_ne (ne a l e)]; exact h.og a l e
  · rw [upd_ne (fun z => by rw [z, cp] at e; cases e)]; exact h.fr a u e n
  · by_cases z : a = p
    · rw [z]; exact cp
    · rw [upd_ne z] at e; exact h.al a e
  · obtain ⟨v, h1, h2⟩ := h.sl i d e
    refine ⟨v, h1, ?_⟩
    split at h2
    · rename_i c; rw [if_pos c]; exact h2.keep (fun _ _ z => z) fun a τ q => ⟨q, upd_ne (ne a _ q)⟩
    · rename_i c; rw [if_neg c]; exact h2
  · exact Pend.keep (fun _ _ z => z) (fun a j π _ q => ⟨q, upd_ne (ne a _ q)⟩) h.pn
theorem RO.free (h : RO C ow G ρ σ H pd O) (hp : H p = none) : G p = none ∧ O p = none ∧ C.H p = none := by
  refine ⟨?_, ?_, h.al p hp⟩
  · cases e : G p with
    | none => rfl
    | some z => rw [h.gh _ _ e] at hp; cases hp
  · cases e : O p with
    | none => rfl
    | some l => obtain ⟨_, ⟨xs, q⟩, _⟩ := h.og p l e; rw [hp] at q; cases q
theorem RO.frame (h : RO C ow G ρ σ H pd O) (f : FlO C G H O p xs) : RO (C.pin p (.lst xs)) ow G ρ σ H pd O := by
  have at1 : ∀ a, a ≠ p → (C.pin p (.lst xs)).H a = C.H a := fun a z => if_neg z
  have at2 : ∀ a, a ≠ p → (C.pin p (.lst xs)).O a = C.O a := fun a z => if_neg z
  have ap : (C.pin p (.lst xs)).H p = some (.lst xs) := if_pos rfl
  have ap2 : (C.pin p (.lst xs)).O p = none := if_pos rfl
  refine ⟨h.len, h.gh, h.g0, fun a u e => ?_, fun a l e => ?_, fun a l π e => ?_, fun a u e n => ?_, fun a e => ?_, h.mp, h.sl, h.pn, h.np⟩
  · have z : a ≠ p := fun z => by rw [z, f.gp] at e; cases e
    rw [at1 a z]; exact h.gn a u e
  · have z : a ≠ p := fun z => by rw [z, f.op] at e; cases e
    obtain ⟨q1, q2, q3⟩ := h.og a l e
    refine ⟨q1, q2, ?_⟩
    unfold Nw at q3 ⊢
    rw [at1 a z, at2 a z]; exact q3
  · have z : a ≠ p := fun z => by rw [z, ap2] at e; cases e
    rw [at2 a z] at e; exact h.cok a l π e
  · by_cases z : a = p
    · subst z; rw [ap] at e; cases e; exact f.hp
    · rw [at1 a z] at e; rw [at2 a z] at n; exact h.fr a u e n
  · have z : a ≠ p := fun z => by rw [z, f.hp] at e; cases e
    rw [at1 a z]; exact h.al a e
theorem RO.unframe {G2 : Hp} {ρ2 : DSt} {σ2 : St} {H2 : Hp} {pd2 : List (D × V)} {O2 : Own} {ow2 : List Bool} (h : RO C ow G ρ σ H pd O) (f : FlO C G H O p xs) (h2 : RO (C.pin p (.lst xs)) ow2 G2 ρ2 σ2 H2 pd2 O2) : RO C ow2 G2 ρ2 σ2 H2 pd2 O2 ∧ FlO C G2 H2 O2 p xs := by
  have at1 : ∀ a, a ≠ p → (C.pin p (.lst xs)).H a = C.H a := fun a z => if_neg z
  have at2 : ∀ a, a ≠ p → (C.pin p (.lst xs)).O a = C.O a := fun a z => if_neg z
  have ap : (C.pin p (.lst xs)).H p = some (.lst xs) := if_pos rfl
  have ap2 : (C.pin p (.lst xs)).O p = none := if_pos rfl
  have gp0 : C.G p = none := by
    cases e : C.G p with
    | none => rfl
    | some z => have := h.g0 p z e; rw [f.gp] at this; cases this
  have gp : G2 p = none := by
    cases e : G2 p with
    | none => rfl
    | some z =>
      rcases h2.gn p z e with q | q
      · rw [show (C.pin p (.lst xs)).G p = C.G p from rfl, gp0] at q; cases q
      · rw [ap] at q; cases q
  have op : O2 p = none := by
    cases e : O2 p with
    | none => rfl
    | some l =>
      obtain ⟨_, _, q⟩ := h2.og p l e
      rcases q with q | ⟨π, q⟩
      · rw [ap] at q; cases q
      · rw [ap2] at q; cases q
  refine ⟨⟨h2.len, h2.gh, h2.g0, fun a u e => ?_, fun a l e => ?_, h.cok, fun a u e n => ?_, fun a e => ?_, h2.mp, h2.sl, h2.pn, h2.np⟩, gp, op, f.cp, h2.fr p _ ap ap2⟩
  · have z : a ≠ p := fun z => by rw [z, gp] at e; cases e
    have := h2.gn a u e; rw [at1 a z] at this; exact this
  · have z : a ≠ p := fun z => by rw [z, op] at e; cases e
    obtain ⟨q1, q2, q3⟩ := h2.og a l e
    refine ⟨q1, q2, ?_⟩
    unfold Nw at q3 ⊢
    rw [at1 a z, at2 a z] at q3; exact q3
  · have z : a ≠ p := fun z => by rw [z, f.cp] at e; cases e
    exact h2.fr a u (by rw [at1 a z]; exact e) (by rw [at2 a z]; exact n)
  · by_cases z : a = p
    · rw [z]; exact f.cp
    · have := h2.al a e; rw [at1 a z] at this; exact this
theorem RO.catch (h : RO C ow G ρ σ H pd O) (f : FlO C G H O p xs) : RO C ow (upd G p (.lst xs)) ρ σ H pd O ∧ Same G (upd G p (.lst xs)) := by
  have sG := same_upd f.gp (.lst xs)
  refine ⟨⟨h.len, fun a u e => ?_, fun a u e => sG _ _ (h.g0 a u e), fun a u e => ?_, fun a l e => ?_, h.cok, h.fr, h.al, h.mp, fun i d e => ?_, ?_, h.np⟩, sG⟩
  · by_cases z : a = p
    · subst z; rw [upd_same] at e; cases e; exact f.hp
    · rw [upd_ne z] at e; exact h.gh _ _ e
  · by_cases z : a = p
    · subst z; exact .inr f.cp
    · rw [upd_ne z] at e; exact h.gn a u e
  · have z : a ≠ p := fun z => by rw [z, f.op] at e; cases e
    rw [upd_ne z]; exact h.og a l e
  · obtain ⟨v, h1, h2⟩ := h.sl i d e
    refine ⟨v, h1, ?_⟩
    split at h2
    · rename_i c; rw [if_pos c]; exact h2.keep sG.ts fun a τ q => ⟨q, rfl⟩
    · rename_i c; rw [if_neg c]; exact h2.mono sG
  · exact Pend.keep sG.ts (fun a j π _ q => ⟨q, rfl⟩) h.pn
/-- what was shared for a while is taken out again -/
theorem RO.release {G2 : Hp} {ρ2 : DSt} {H2 : Hp} {O2 : Own} (h : RO C ow G ρ σ H pd O) (f : FlO C G H O p xs) (h2 : RO C ow G2 ρ2 σ H2 pd O2) (s : Same (upd G p (.lst xs)) G2)
    (hs : ∀ (j : Nat) d v, ow[j]? ≠ some true → ρ2[j]? = some (some d) → σ[j]? = some (some v) → Rep (hide p G2) d v) : RO C ow (hide p G2) ρ2 σ H2 pd O2 ∧ FlO C (hide p G2) H2 O2 p xs ∧ Same G (hide p G2) := by
  have g2 : G2 p = some (.lst xs) := s _ _ upd_same
  have hid : ∀ a, a ≠ p → hide p G2 a = G2 a := fun a z => by unfold hide; rw [if_neg z]
  have hidp : hide p G2 p = none := by unfold hide; rw [if_pos rfl]
  have ts : TSame G2 (hide p G2) := fun a ys e => by
    have z : a ≠ p := fun z => by rw [z, g2] at e; cases e
    rw [hid a z]; exact e
  have sG : Same G (hide p G2) := fun a o e => by
    have z : a ≠ p := fun z => by rw [z, f.gp] at e; cases e
    rw [hid a z]; exact s a o (by rw [upd_ne z]; exact e)
  have op : O2 p = none := by
    cases e : O2 p with
    | none => rfl
    | some l => have := (h2.og p l e).1; rw [g2] at this; cases this
  have sub : ∀ a o, hide p G2 a = some o → G2 a = some o := fun a o e => by
    have z : a ≠ p := fun z => by rw [z, hidp] at e; cases e
    rw [hid a z] at e; exact e
  refine ⟨⟨h2.len, fun a u e => h2.gh _ _ (sub a u e), fun a u e => sG _ _ (h.g0 a u e), fun a u e => h2.gn a u (sub a u e), fun a l e => ?_, h2.cok, h2.fr, h2.al, h2.mp, fun i d e => ?_, ?_, h2.np⟩, ⟨hidp, op, f.cp, h2.gh _ _ g2⟩, sG⟩
  · obtain ⟨q1, q2, q3⟩ := h2.og a l e
    refine ⟨?_, q2, q3⟩
    cases z : hide p G2 a with
    | none => rfl
    | some u => rw [sub a u z] at q1; cases q1
  · obtain ⟨v, h3, h4⟩ := h2.sl i d e
    refine ⟨v, h3, ?_⟩
    split at h4
    · rename_i c; rw [if_pos c]; exact h4.keep ts fun a τ q => ⟨q, rfl⟩
    · rename_i c; rw [if_neg c]; exact hs i d v c e h3
  · exact Pend.keep ts (fun a j π _ q => ⟨q, rfl⟩) h2.pn
end
end L2

set_option Elab.async false
set_option linter.all false
set_option maxRecDepth 100000
set_option maxHeartbeats 1000000
namespace L2
open PySem PySem.Spec PyProof.Rows
/-! ### new lists of shared things -/
noncomputable def SN (ow : List Bool) (t : TE) (m : MA) : Prop := ∀ (C : Ctx) (G : Hp) (ρ : DSt) (σ : St) (H : Hp) (pd : List (D × V)) (q : List D → DSt → Prop) (Q : VK), R C ow G ρ σ H pd → m ρ q →
  (∀ ds ρ' xs p G' H', q ds ρ' → Same G G' → Kp ow ρ ρ' → R C ow G' ρ' σ H' pd → H' p = none → Reps G' ds xs → Q (.ref p) (upd H' p (.lst xs))) → t σ H Q
structure QN (X : Cx) (ow : List Bool) (e : Expr) (m : MA) : Prop where
  ex : ∃ t, PE X e t ∧ SN ow t m
noncomputable def mNewN (f : List D → (List D → Prop) → Prop) (m : MA) : MA := fun ρ q => m ρ fun ds ρ' => f ds fun es => q es ρ'
theorem sn_new {ow : List Bool} {mr : MA} {r : List V → Hp → VK → Prop} {f : List D → (List D → Prop) → Prop} {t : TA} {n : Nat} (hd : DNew r f) (s : SA ow n t mr) : SN ow (fun σ H Q => t σ H fun xs H1 => r xs H1 Q) (mNewN f mr) := fun C G ρ σ H pd q Q hr hm k =>
  s C G ρ σ H pd _ _ hr hm fun ds ρ' vs G' H' hq z kp r' p hn => hd G' H' vs ds _ _ r'.gh p hq fun es ys a hq p ha => k es ρ' ys a G' H' hq z kp r' ha p
section
variable {X : Cx} {ow : List Bool} {a b e : Expr} {es : List Expr} {ma mb : ME} {mr : MA} {pos : Pos} {x : Str} {p' : Pos}
theorem qn_mk {op : Operator} {r : R2} {f : List D → (List D → Prop) → Prop} (ho : OpR X (binaryOp op) r) (hd : DNew (fun xs H Q => ∃ x y, xs = [x, y] ∧ r x y H Q) f) (ha : QE X ow a ma) (hb : QE X ow b mb) : QN X ow (.BinOp a op b pos) (mNewN f (mCons ma (mCons mb mNil))) := by
  obtain ⟨ta, pa, sa⟩ := ha; obtain ⟨tb, pb, sb⟩ := hb
  exact ⟨tOp r ta tb, pe_op ho pa pb, sn_new (r := R2ok r) hd.r2 (sa_two sa sb)⟩
theorem qn_callTy {id : String} {r : List V → Hp → VK → Prop} {f : List D → (List D → Prop) → Prop} (hc : CallR X (.type id) r) (hd : DNew r f) (hg : Gl X x) (hm : X.mg x = none) (hv : bootBuiltins x = some (.type id)) (ha : QA X ow (e :: es) mr) (hn : x ≠ "__name__" := by decide) (hdb : (x == ("__debug__" : Str)) = false := by decide)
    (he : starEach (e :: es) X.env = (false, eval e X.env) :: starEach es X.env := by rfl) (hpl : (backTo pos (starEach es X.env)).any (·.1) = false := by rfl) : QN X ow (.Call (.Name x p') (e :: es) [] pos) (mNewN f mr) := by
  obtain ⟨t, p, s⟩ := ha
  exact ⟨_, pe_callTy hc hg hm hv p hn hdb he hpl, sn_new hd s⟩
end
/-! ### statements while a list floats in the slot i -/
noncomputable def RF (C : Ctx) (ow : List Bool) (G : Hp) (ρ : DSt) (σ : St) (H : Hp) (p : Addr) (xs : List V) : Prop := ∃ O, RO C ow G ρ σ H [] O ∧ FlO C G H O p xs
structure Fl (C : Ctx) (ow : List Bool) (i : Nat) (G : Hp) (ρ : DSt) (σ : St) (H : Hp) (p : Addr) (ds : List D) : Prop where
  ex : ∃ xs, RF C ow G ρ σ H p xs ∧ Reps G ds xs
  no : ρ[i]? = some none
  at' : σ[i]? = some (some (.ref p))
noncomputable abbrev MFl := (List D → DSt → Prop) → List D → DSt → Prop
noncomputable abbrev MFe := EndsD → List D → DSt → Prop
noncomputable def SFl (M : Md) (i : Nat) (t : TS) (m : MFl) : Prop := ∀ (C : Ctx) (G : Hp) (ρ : DSt) (σ : St) (H : Hp) (p : Addr) (ds : List D) (n : List D → DSt → Prop) (D : Ends), MuOk C M.mu → C.np = 0 → Fl C M.ow i G ρ σ H p ds → m n ds ρ →
  (∀ ds' ρ' σ' G' H', n ds' ρ' → Same G G' → Fl C M.ow i G' ρ' σ' H' p ds' → D.nx σ' H') → t D σ H
noncomputable def SFe (M : Md) (i : Nat) (t : TS) (m : MFe) : Prop := ∀ (C : Ctx) (G : Hp) (ρ : DSt) (σ : St) (H : Hp) (p : Addr) (ds : List D) (n : EndsD) (D : Ends), MuOk C M.mu → C.np = 0 → Fl C M.ow i G ρ σ H p ds → m n ds ρ → Ks C M.ow M.fr G n D → t D σ H
structure QFl (X : Cx) (M : Md) (i : Nat) (st : Stmt) (m : MFl) : Prop where
  ex : ∃ t, PS X st t ∧ SFl M i t m
structure QFls (X : Cx) (M : Md) (i : Nat) (st : List Stmt) (m : MFl) : Prop where
  ex : ∃ t, PSs X st t ∧ SFl M i t m
structure QFe (X : Cx) (M : Md) (i : Nat) (st : List Stmt) (m : MFe) : Prop where
  ex : ∃ t, PSs X st t ∧ SFe M i t m
section
variable {X : Cx} {M : Md} {i : Nat} {st : Stmt} {rest : List Stmt} {m1 m2 : MFl} {me : MFe} {ms : MS} {pos pos' : Pos}
noncomputable def fNil : MFl := fun n ds ρ => n ds ρ
noncomputable def fSeq (a b : MFl) : MFl := fun n ds ρ => a (fun ds' ρ' => b n ds' ρ') ds ρ
theorem fls_nil : QFls X M i [] fNil := ⟨_, pss_nil, fun C G ρ σ H p ds n D hm hn f h k => k ds ρ σ G H h (Same.refl _) f⟩
theorem fls_cons (h : QFl X M i st m1) (h2 : QFls X M i rest m2) : QFls X M i (st :: rest) (fSeq m1 m2) := by
  obtain ⟨t, p, s⟩ := h; obtain ⟨t2, p2, s2⟩ := h2
  exact ⟨_, pss_cons p p2, fun C G ρ σ H p ds n D hm hn f h k => s C G ρ σ H p ds _ _ hm hn f h fun ds' ρ' σ' G' H' h' z f' => s2 C G' ρ' σ' H' p ds' n D hm hn f' h' fun ds2 ρ2 σ2 G2 H2 h2 z2 f2 => k ds2 ρ2 σ2 G2 H2 h2 (z.trans z2) f2⟩
theorem fe_cons (h : QFl X M i st m1) (h2 : QFe X M i rest me) : QFe X M i (st :: rest) (fun n ds ρ => m1 (fun ds' ρ' => me n ds' ρ') ds ρ) := by
  obtain ⟨t, p, s⟩ := h; obtain ⟨t2, p2, s2⟩ := h2
  refine ⟨_, pss_cons p p2, fun C G ρ σ H p ds n D hm hn f h k => s C G ρ σ H p ds _ _ hm hn f h fun ds' ρ' σ' G' H' h' z f' => ?_⟩
  exact s2 C G' ρ' σ' H' p ds' n D hm hn f' h' (k.mono z)
/-- from here on it is shared -/
theorem fe_end (h : QSs X M rest ms) (ho : M.ow[i]? ≠ some true := by decide) (hu : M.mu[i]? ≠ some true := by decide) : QFe X M i rest (fun n ds ρ => ms n (ρ.set i (some (.lst ds)))) := by
  obtain ⟨t, p, s⟩ := h
  refine ⟨_, p, fun C G ρ σ H p ds n D hm hn f h k => ?_⟩
  obtain ⟨xs, ⟨O, ro, fo⟩, rs⟩ := f.ex
  obtain ⟨r1, z1⟩ := ro.catch fo
  have r2 := r1.setS ho (hm.no hu) (rep_lst upd_same (Reps.mono z1 _ _ rs))
  have e : σ.set i (some (.ref p)) = σ := by
    apply List.ext_getElem?
    intro j
    by_cases c : i = j
    · subst c
      rw [f.at', List.getElem?_set_self (List.getElem?_eq_some_iff.mp f.at').1]
    · rw [List.getElem?_set_ne c]
  rw [e] at r2
  exact s C _ _ σ H n D hm hn ⟨O, r2⟩ h (k.mono z1)
noncomputable def mBegin (i : Nat) (mN : MA) (me : MFe) : MS := fun n ρ => mN ρ fun ds ρ' => i < ρ'.length ∧ me n ds (ρ'.set i none)
theorem fl_begin {x : Str} {e : Expr} {mN : MA} (hN : X.N.Nodup) (hi : X.N[i]? = some x) (hx : Loc X.env.scope x) (he : QN X M.ow e mN) (hr : QFe X M i rest me) (ho : M.ow[i]? ≠ some true := by decide) (hu : M.mu[i]? ≠ some true := by decide)
    (hs : swapsWith e (some (.Name x pos')) pos.line X.env = pure false := by rfl) (hf : X.fn x = true ∨ X.env.scope.names.lookup x = some .local := by first | exact .inl rfl | exact .inr rfl | assumption) :
    QSs X M (.Assign [.Name x pos'] e pos :: rest) (mBegin i mN me) := by
  obtain ⟨t, p, s⟩ := he; obtain ⟨t2, p2, s2⟩ := hr
  refine ⟨_, pss_cons (ps_set hN hi hx p hs hf) p2, fun C G ρ σ H n D hm hn r h k => s C G ρ σ H [] _ _ r h fun ds ρ' xs p G' H' hq z kp r' hp rs => ?_⟩
  obtain ⟨O, ro⟩ := r'
  obtain ⟨g1, g2, g3⟩ := ro.free hp
  have hl : i < σ.length := by rw [← ro.len]; exact hq.1
  have r1 := (ro.off g1 g2 g3 (.lst xs)).gone i (hm.no hu)
  have r2 : RO C M.ow G' (ρ'.set i none) (σ.set i (some (.ref p))) (upd H' p (.lst xs)) [] O := by
    refine ⟨by have := ro.len; simp [this], r1.gh, r1.g0, r1.gn, r1.og, r1.cok, r1.fr, r1.al, fun j v e => ?_, fun j d e => ?_, r1.pn, r1.np⟩
    · have c : i ≠ j := fun z => hm.no hu v (z ▸ e)
      rw [List.getElem?_set_ne c]; have := r1.mp j v e; rw [List.getElem?_set_ne c] at this; exact this
    · have c : i ≠ j := fun z => by
        subst z
        rw [List.getElem?_set_self (by omega)] at e; cases e
      obtain ⟨v, h1, h2⟩ := r1.sl j d e
      rw [List.getElem?_set_ne c] at h1
      exact ⟨v, by rw [List.getElem?_set_ne c]; exact h1, h2⟩
  refine s2 C G' _ _ _ p ds n D hm hn ⟨⟨xs, ⟨O, r2, g1, g2, g3, upd_same⟩, rs⟩, List.getElem?_set_self hq.1, List.getElem?_set_self hl⟩ hq.2 (k.mono z)
/-! ### it is written -/
variable {e b c : Expr} {ma mb : ME} {mt : MT}
noncomputable def fAppend (ma : ME) : MFl := fun n ds ρ => ma ρ fun d ρ' => ds.length < 1000 ∧ n (ds ++ [d]) ρ'
theorem kp_no {ow : List Bool} {i : Nat} {ρ ρ' : DSt} (kp : Kp ow ρ ρ') (ho : ow[i]? ≠ some true) (h : ρ[i]? = some none) : ρ'[i]? = some none := (kp i ho).trans h
theorem fl_append {x : Str} {apos cpos npos : Pos} (hN : X.N[i]? = some x) (he : QE X M.ow e ma) (ho : M.ow[i]? ≠ some true := by decide)
    (hv : Vis X.env.scope x := by first | exact Or.inl rfl | exact Or.inr (Or.inl rfl) | exact Or.inr (Or.inr rfl)) (hd : (x == ("__debug__" : Str)) = false := by decide) (hcd : (x == ("__classdict__" : Str)) = false := by decide)
    (hbase : attributeBase (.Name x npos) "append" X.env (eval (.Name x npos) X.env) = eval (.Name x npos) X.env := by rfl)
    (hfew : ((backTo cpos (starEach [e] X.env)).all (fun x => !x.1) && (backToKw cpos (keywordEach [] X.env)).all (fun x => x.1.isSome)
      && decide ([e].length + ([] : List Keyword).length + (if ([] : List Keyword).isEmpty then 0 else 1) < 30)) = true := by rfl)
    (hline : (apos.endLine == cpos.line) = true := by rfl) (hst : starEach [e] X.env = [(false, eval e X.env)] := by rfl)
    (hs : swapsWith (.Call (.Attribute (.Name x npos) "append" apos) [e] [] cpos) none pos.line X.env = pure false := by rfl) :
    QFl X M i (.Expr (.Call (.Attribute (.Name x npos) "append" apos) [e] [] cpos) pos) (fAppend ma) := by
  obtain ⟨t, p, s⟩ := he
  refine ⟨_, ps_expr (pe_bm PySem.F.plainAttrs_list PySem.F.slot_list_append PySem.F.type_list_append mt_append (pe_var hN hv hd hcd) (pa_cons p pa_nil hst) hbase hfew hline hst (by rfl)) hs, fun C G ρ σ H p ds n D hm hn f h k => ?_⟩
  obtain ⟨xs, ⟨O, ro, fo⟩, rs⟩ := f.ex
  refine ⟨.ref p, f.at', .inl ⟨rfl, xs, SqL.of fo.hp⟩, ?_⟩
  refine s (C.pin p (.lst xs)) G ρ σ H [] _ _ ⟨O, ro.frame fo⟩ h fun d ρ' v G' H' hq z kp r' pv => ?_
  obtain ⟨O2, r2⟩ := r'
  obtain ⟨r3, f3⟩ := ro.unframe fo r2
  have hl := rs.length
  refine ⟨p, xs, v, rfl, rfl, f3.hp, by rw [hl]; exact small1000 (Nat.le_of_lt hq.1), ?_⟩
  exact k _ ρ' σ G' _ hq.2 z ⟨⟨xs ++ [v], ⟨O2, r3.off f3.gp f3.op f3.cp _, f3.gp, f3.op, f3.cp, upd_same⟩, reps_app (Reps.mono z _ _ rs) (reps_cons pv reps_nil)⟩, kp_no kp ho f.no, f.at'⟩
theorem reps_set {G : Hp} {d : D} {v : V} (h : Rep G d v) : ∀ {ds : List D} {xs : List V} (k : Nat), Reps G ds xs → Reps G (ds.set k d) (xs.set k v)
  | [], xs, k, r => by rw [Reps] at r; subst r; simp; exact reps_nil
  | e :: ds, xs, 0, r => by rw [Reps] at r; obtain ⟨w, ws, rfl, r1, r2⟩ := r; exact reps_cons h r2
  | e :: ds, xs, k + 1, r => by rw [Reps] at r; obtain ⟨w, ws, rfl, r1, r2⟩ := r; exact reps_cons r1 (reps_set h k r2)
noncomputable def fSetI (mk ma : ME) : MFl := fun n ds ρ => ma ρ fun d ρ1 => mk ρ1 fun k ρ2 => match k with
  | .int j => match ixN ds.length j with
    | some q => n (ds.set q d) ρ2
    | none => False
  | _ => False
theorem fl_setI {x : Str} {npos spos : Pos} (hN : X.N[i]? = some x) (he : QE X M.ow e ma) (hk : QE X M.ow b mb) (ho : M.ow[i]? ≠ some true := by decide)
    (hv : Vis X.env.scope x := by first | exact Or.inl rfl | exact Or.inr (Or.inl rfl) | exact Or.inr (Or.inr rfl)) (hd : (x == ("__debug__" : Str)) = false := by decide) (hcd : (x == ("__classdict__" : Str)) = false := by decide)
    (ha : ∀ v, assign (.Subscript (.Name x npos) b spos) X.env v = (do
      let ov ← holding [v] (eval (.Name x npos) X.env)
      let iv ← holding [v, ov] (eval b X.env)
      standAt spos
      holding [v, ov, iv] (setItem ov iv v)
      release [v, ov, iv] []) := by intro _; rfl)
    (hs : swapsWithSole [.Subscript (.Name x npos) b spos] e pos.line X.env = pure false := by rfl) (hw : swappedStores [.Subscript (.Name x npos) b spos] e X.env = pure none := by rfl)
    (h1 : (assignEach [.Subscript (.Name x npos) b spos] X.env).map (·.2) = [assign (.Subscript (.Name x npos) b spos) X.env] := by rfl) :
    QFl X M i (.Assign [.Subscript (.Name x npos) b spos] e pos) (fSetI mb ma) := by
  obtain ⟨t, p, s⟩ := he; obtain ⟨t2, p2, s2⟩ := hk
  refine ⟨_, ps_asg p (pg_sub (pe_var hN hv hd hcd) p2 set_list ha) hs hw h1, fun C G ρ σ H p ds n D hm hn f h k => ?_⟩
  obtain ⟨xs, ⟨O, ro, fo⟩, rs⟩ := f.ex
  refine s (C.pin p (.lst xs)) G ρ σ H [] _ _ ⟨O, ro.frame fo⟩ h fun d ρ' v G' H' hq z kp r' pv => ?_
  refine ⟨.ref p, f.at', ?_⟩
  refine s2 (C.pin p (.lst xs)) G' ρ' σ H' _ _ _ r' hq fun dk ρ2 jv G2 H2 hq2 z2 kp2 r2 pj => ?_
  obtain ⟨O2, r2⟩ := r2
  obtain ⟨r3, f3⟩ := ro.unframe fo r2
  cases dk with
  | int j =>
    dsimp only at hq2
    split at hq2
    · rename_i pl e3
      refine ⟨p, xs, j, pl, rfl, rep_int_of pj, f3.hp, by rw [rs.length]; exact e3, ?_⟩
      exact k _ ρ2 σ G2 _ hq2 (z.trans z2) ⟨⟨xs.set pl v, ⟨O2, r3.off f3.gp f3.op f3.cp _, f3.gp, f3.op, f3.cp, upd_same⟩, reps_set (Rep.mono z2 _ _ pv) pl (Reps.mono (z.trans z2) _ _ rs)⟩, kp_no (kp.trans kp2) ho f.no, f.at'⟩
    · exact hq2.elim
  | _ => exact hq2.elim
end
end L2

set_option Elab.async false
set_option linter.all false
set_option maxRecDepth 100000
set_option maxHeartbeats 1000000
namespace L2
open PySem PySem.Spec PyProof.Rows
/-! ### a floating list is read -/
theorem RO.forget {C : Ctx} {ow : List Bool} {G : Hp} {ρ : DSt} {σ : St} {H : Hp} {pd : List (D × V)} {O : Own} (h : RO C ow G ρ σ H pd O) (i : Nat) : RO C ow G (ρ.set i none) σ H pd O := by
  refine ⟨by simpa using h.len, h.gh, h.g0, h.gn, h.og, h.cok, h.fr, h.al, h.mp, fun j d e => ?_, h.pn, h.np⟩
  have : i ≠ j := fun z => by
    subst z
    rw [List.getElem?_set] at e
    split at e
    · split at e <;> cases e
    · rename_i c; exact c rfl
  rw [List.getElem?_set_ne this] at e
  exact h.sl j d e
section
variable {C : Ctx} {ow : List Bool} {i : Nat} {G : Hp} {ρ : DSt} {σ : St} {H : Hp} {p : Addr} {ds : List D}
theorem Fl.borrow (f : Fl C ow i G ρ σ H p ds) (ho : ow[i]? ≠ some true) (hm : ∀ v, C.mu[i]? ≠ some (some v)) : ∃ Gp, R C ow Gp (ρ.set i (some (.lst ds))) σ H [] ∧
    ∀ ρ2 G2 H2, Same Gp G2 → Kp ow (ρ.set i (some (.lst ds))) ρ2 → R C ow G2 ρ2 σ H2 [] → ∃ G3, Same G G3 ∧ TSame G2 G3 ∧ Fl C ow i G3 (ρ2.set i none) σ H2 p ds := by
  obtain ⟨xs, ⟨O, ro, fo⟩, rs⟩ := f.ex
  obtain ⟨r1, z1⟩ := ro.catch fo
  have r2 := r1.setS ho hm (rep_lst upd_same (Reps.mono z1 _ _ rs))
  have hil : i < ρ.length := (List.getElem?_eq_some_iff.mp f.no).1
  have e : σ.set i (some (.ref p)) = σ := by
    apply List.ext_getElem?
    intro j
    by_cases c : i = j
    · subst c; rw [f.at', List.getElem?_set_self (List.getElem?_eq_some_iff.mp f.at').1]
    · rw [List.getElem?_set_ne c]
  rw [e] at r2
  refine ⟨_, ⟨O, r2⟩, fun ρ2 G2 H2 s kp ⟨O2, r3⟩ => ?_⟩
  have g2 : G2 p = some (.lst xs) := s _ _ upd_same
  have sG : Same G (hide p G2) := fun a o e => by
    have z : a ≠ p := fun z => by rw [z, fo.gp] at e; cases e
    unfold hide; rw [if_neg z]; exact s a o (by rw [upd_ne z]; exact e)
  have ts : TSame G2 (hide p G2) := fun a ys e => by
    have z : a ≠ p := fun z => by rw [z, g2] at e; cases e
    unfold hide; rw [if_neg z]; exact e
  have l2 : ρ2[i]? = some (some (.lst ds)) := by rw [kp i ho, List.getElem?_set_self hil]
  have hil2 : i < ρ2.length := (List.getElem?_eq_some_iff.mp l2).1
  obtain ⟨r4, f4, _⟩ := ro.release fo (r3.forget i) s fun j d v hj e1 e2 => by
    have c : i ≠ j := fun z => by subst z; rw [List.getElem?_set_self hil2] at e1; cases e1
    rw [List.getElem?_set_ne c, kp j hj, List.getElem?_set_ne c] at e1
    obtain ⟨v', h1, h2⟩ := ro.sl j d e1
    rw [if_neg hj] at h2
    rw [h1] at e2; cases e2
    exact h2.mono sG
  exact ⟨_, sG, ts, ⟨xs, ⟨O2, r4, f4⟩, Reps.mono sG _ _ rs⟩, List.getElem?_set_self hil2, f.at'⟩
end
section
variable {X : Cx} {M : Md} {i : Nat} {pos pos' : Pos} {e c : Expr} {ma : ME} {mt : MT} {m1 m2 : MFl}
noncomputable def fLet (i j : Nat) (ma : ME) : MFl := fun n ds ρ => ma (ρ.set i (some (.lst ds))) fun d ρ' => imm d = true ∧ n ds ((ρ'.set i none).set j (some d))
theorem fl_let {j : Nat} {y : Str} (hN : X.N.Nodup) (hj : X.N[j]? = some y) (hy : Loc X.env.scope y) (he : QE X M.ow e ma) (hij : i ≠ j := by decide) (ho : M.ow[i]? ≠ some true := by decide) (hu : M.mu[i]? ≠ some true := by decide)
    (oj : M.ow[j]? ≠ some true := by decide) (uj : M.mu[j]? ≠ some true := by decide) (hs : swapsWith e (some (.Name y pos')) pos.line X.env = pure false := by rfl) (hf : X.fn y = true ∨ X.env.scope.names.lookup y = some .local := by first | exact .inl rfl | exact .inr rfl | assumption) :
    QFl X M i (.Assign [.Name y pos'] e pos) (fLet i j ma) := by
  obtain ⟨t, p, s⟩ := he
  refine ⟨_, ps_set hN hj hy p hs hf, fun C G ρ σ H p ds n D hm hn f h k => ?_⟩
  obtain ⟨Gp, rp, back⟩ := f.borrow ho (hm.no hu)
  refine s C Gp _ σ H [] _ _ rp h fun d ρ' v G' H' hq z kp r' pv => ?_
  obtain ⟨G3, z3, ts, f3⟩ := back ρ' G' H' z kp r'
  obtain ⟨xs, ⟨O, ro, fo⟩, rs⟩ := f3.ex
  exact k ds _ _ G3 H' hq.2 z3 ⟨⟨xs, ⟨O, ro.setS oj (hm.no uj) (pv.imms ts d v hq.1), fo⟩, rs⟩, by rw [List.getElem?_set_ne (Ne.symm hij)]; exact f3.no, by rw [List.getElem?_set_ne (Ne.symm hij)]; exact f3.at'⟩
noncomputable def fIf (i : Nat) (mt : MT) (m1 m2 : MFl) : MFl := fun n ds ρ => mt (ρ.set i (some (.lst ds))) fun b ρ' => if b = true then m1 n ds (ρ'.set i none) else m2 n ds (ρ'.set i none)
theorem fl_if {s1 s2 : List Stmt} (h : QT X M.ow c mt) (h1 : QFls X M i s1 m1) (h2 : QFls X M i s2 m2) (ho : M.ow[i]? ≠ some true := by decide) (hu : M.mu[i]? ≠ some true := by decide) : QFl X M i (.If c s1 s2 pos) (fIf i mt m1 m2) := by
  obtain ⟨t, p, s⟩ := h; obtain ⟨t1, p1, s1⟩ := h1; obtain ⟨t2, p2, s2⟩ := h2
  refine ⟨_, ps_if p p1 p2, fun C G ρ σ H p ds n D hm hn f h k => ?_⟩
  obtain ⟨Gp, rp, back⟩ := f.borrow ho (hm.no hu)
  refine s C Gp _ σ H [] _ _ rp h fun b ρ' G' H' hq z kp r' => ?_
  obtain ⟨G3, z3, ts, f3⟩ := back ρ' G' H' z kp r'
  cases b with
  | true => rw [if_pos rfl] at hq ⊢; exact s1 C G3 _ σ H' p ds n D hm hn f3 hq fun ds2 ρ2 σ2 G2 H2 a b c => k ds2 ρ2 σ2 G2 H2 a (z3.trans b) c
  | false => rw [if_neg (by decide)] at hq ⊢; exact s2 C G3 _ σ H' p ds n D hm hn f3 hq fun ds2 ρ2 σ2 G2 H2 a b c => k ds2 ρ2 σ2 G2 H2 a (z3.trans b) c
end
/-! ### more of what k06 writes: shared ends of moved values, two owned slots at once -/
section
variable {X : Cx} {M : Md} {a b e : Expr} {ma mb : ME} {pos : Pos}
end
/-! ### one thing out of a held list -/
section
variable {X : Cx} {M : Md} {a b : Expr} {ma mb : ME} {pos : Pos}
end
end L2

set_option Elab.async false
set_option linter.all false
set_option maxRecDepth 100000
set_option maxHeartbeats 1000000
namespace L2
open PySem PySem.Spec PyProof.Rows
/-! ### a dict of two texts' keys, its values in two slots -/
section
variable {X : Cx} {pos p1 p2 q1 q2 : Pos} {n1 n2 : Nat} {k1 k2 x y : Str} {i j : Nat} {ow : List Bool}
end
end L2

set_option Elab.async false
set_option linter.all false
set_option maxRecDepth 100000
set_option maxHeartbeats 1000000
namespace L2
open PySem PySem.Spec PyProof.Rows
/-! ### tuples: a part, put together; str of a number -/
section
variable {X : Cx} {ow : List Bool} {a b e : Expr} {ma mb : ME} {pos p2 : Pos} {lo hi : Option Expr} {ml mh : MO}
noncomputable def mSlT (m : ME) (ml mh : MO) : ME := fun ρ q => m ρ fun d ρ1 => ml ρ1 fun lo ρ2 => mh ρ2 fun hi ρ3 => match d with
  | .tup ds => ¬ (HT.sIx ds.length 0 lo = 0 ∧ HT.sIx ds.length ds.length hi = ds.length) ∧ q (.tup (cutD ds lo hi)) ρ3
  | _ => False
theorem qe_sliceT (h : QE X ow e ma) (hl : QO X ow lo ml) (hh : QO X ow hi mh) : QE X ow (.Subscript e (.Slice lo hi none p2) pos) (mSlT ma ml mh) := by
  obtain ⟨t, p, s⟩ := h; obtain ⟨t1, p1, s1⟩ := hl; obtain ⟨t2, p2, s2⟩ := hh
  refine ⟨_, pe_slice sl_tup p p1 p2, fun C G ρ σ H pd q Q r hm k => s C G ρ σ H pd _ _ r hm fun d ρ' v G' H' hq z kp r' p => ?_⟩
  refine s1 C G' ρ' σ H' pd _ _ r' hq fun l ρ1 G1 H1 hq1 z1 kp1 r1 => s2 C G1 ρ1 σ H1 pd _ _ r1 hq1 fun u ρ2 G2 H2 hq2 z2 kp2 r2 => ?_
  cases d with
  | tup ds =>
    obtain ⟨a, xs, rfl, h1, h2⟩ := rep_tup_of (Rep.mono (z1.trans z2) _ _ p)
    refine ⟨a, xs, rfl, SqT.of (r2.gh _ _ h1), by rw [h2.length]; exact hq2.1, fun b hb => ?_⟩
    obtain ⟨O, r2⟩ := r2
    obtain ⟨r3, z3⟩ := r2.new hb (.tup (cutV xs l u))
    exact k _ ρ2 _ _ _ hq2.2 (z.trans (z1.trans (z2.trans z3))) (kp.trans (kp1.trans kp2)) ⟨O, r3⟩ (rep_tup upd_same (Reps.mono z3 _ _ (reps_cut h2 _ _)))
  | _ => exact hq2.elim
noncomputable def mCatT (ma mb : ME) : ME := fun ρ q => ma ρ fun x ρ1 => mb ρ1 fun y ρ2 => match x, y with
  | .tup xs, .tup ys => xs ≠ [] ∧ ys ≠ [] ∧ xs.length + ys.length ≤ 1000 ∧ q (.tup (xs ++ ys)) ρ2
  | _, _ => False
theorem qe_catT (ha : QE X ow a ma) (hb : QE X ow b mb) : QE X ow (.BinOp a .Add b pos) (mCatT ma mb) := by
  obtain ⟨ta, pa, sa⟩ := ha; obtain ⟨tb, pb, sb⟩ := hb
  refine ⟨_, pe_op op_catT pa pb, fun C G ρ σ H pd q Q r hm k => se_two sa sb r hm fun dx dy ρ' x y G' H' hf z kp r' p1 p2 => ?_⟩
  cases dx with
  | tup xs =>
    cases dy with
    | tup ys =>
      obtain ⟨n1, n2, hl, hq⟩ := hf
      obtain ⟨a1, us, rfl, g1, g2⟩ := rep_tup_of p1
      obtain ⟨a2, ws, rfl, g3, g4⟩ := rep_tup_of p2
      have l1 : us ≠ [] := fun z => n1 (List.length_eq_zero_iff.mp (by rw [← g2.length, z]; rfl))
      have l2 : ws ≠ [] := fun z => n2 (List.length_eq_zero_iff.mp (by rw [← g4.length, z]; rfl))
      refine ⟨a1, a2, us, ws, rfl, rfl, SqT.of (r'.gh _ _ g1), SqT.of (r'.gh _ _ g3), l1, le_line (by rw [g2.length, g4.length]; exact hl), fun z => absurd z l2, fun _ p hp => ?_⟩
      obtain ⟨O, ro⟩ := r'
      obtain ⟨r3, z3⟩ := ro.new hp (.tup (us ++ ws))
      exact k _ ρ' _ _ _ hq (z.trans z3) kp ⟨O, r3⟩ (rep_tup upd_same (Reps.mono z3 _ _ (reps_app g2 g4)))
    | _ => exact hf.elim
  | _ => exact hf.elim
noncomputable def fStr1 : List D → (D → Prop) → Prop := fun ds q => match ds with
  | [.int i] => i.natAbs.log2 < 1920 ∧ q (.str (toString i))
  | _ => False
theorem dStr1 : DCall (fun xs H Q => ∃ i, xs = [.int i] ∧ i.natAbs.log2 < 1920 ∧ Q (.str (toString i)) H) fStr1 := fun G H xs ds q Q s p hf k => by
  unfold fStr1 at hf
  split at hf
  · obtain ⟨v, rfl, p1⟩ := reps_one p
    exact ⟨_, by rw [rep_int_of p1], hf.1, k _ _ hf.2 (rep_str _)⟩
  · exact hf.elim
end
/-! ### a floating statement's end by a word of one's own -/
section
variable {X : Cx} {M : Md} {i : Nat} {st : Stmt} {m : MFl}
noncomputable def fCut (m : MFl) : MFl := fun n ds ρ => ∃ I : List D → DSt → Prop, m I ds ρ ∧ ∀ ds' ρ', I ds' ρ' → n ds' ρ'
theorem fl_cut (h : QFl X M i st m) : QFl X M i st (fCut m) := by
  obtain ⟨t, p, s⟩ := h
  refine ⟨t, p, fun C G ρ σ H p ds n D hm hn f h k => ?_⟩
  obtain ⟨I, h1, h2⟩ := h
  exact s C G ρ σ H p ds I D hm hn f h1 fun ds' ρ' σ' G' H' a b c => k ds' ρ' σ' G' H' (h2 ds' ρ' a) b c
end
end L2

set_option Elab.async false
set_option linter.all false
set_option maxRecDepth 100000
set_option maxHeartbeats 1000000
namespace L2
open PySem PySem.Spec PyProof.Rows
/-! ### any thing for a tree -/
mutual
noncomputable def pln : D → Bool
  | .tup ds => plns ds
  | .lst ds => plns ds
  | .scr _ _ => false
  | .ext _ => false
  | _ => true
noncomputable def plns : List D → Bool
  | [] => true
  | d :: ds => pln d && plns ds
end
theorem pln_isS {d : D} (h : pln d = true) : d.isS = false := by
  cases d <;> first | rfl | (rw [pln] at h; cases h)
theorem plns_cons {d : D} {ds : List D} : plns (d :: ds) = true ↔ pln d = true ∧ plns ds = true := by rw [plns, Bool.and_eq_true]
theorem plns_at : ∀ {ds : List D} {i : Nat} {d : D}, plns ds = true → ds[i]? = some d → pln d = true
  | [], i, d, _, e => by simp at e
  | x :: ds, 0, d, h, e => by simp at e; subst e; exact (plns_cons.mp h).1
  | x :: ds, i + 1, d, h, e => plns_at (plns_cons.mp h).2 (by simpa using e)
theorem plns_of : ∀ {ds : List D}, (∀ d ∈ ds, pln d = true) → plns ds = true
  | [], _ => rfl
  | d :: ds, h => plns_cons.mpr ⟨h d (by simp), plns_of fun x hx => h x (by simp [hx])⟩
theorem plns_mem : ∀ {ds : List D} {d : D}, plns ds = true → d ∈ ds → pln d = true
  | x :: ds, d, h, e => by
    rcases List.mem_cons.mp e with rfl | e
    · exact (plns_cons.mp h).1
    · exact plns_mem (plns_cons.mp h).2 e
theorem plns_ints (ns : List Int) : plns (ns.map D.int) = true := plns_of fun d h => by
  obtain ⟨x, _, rfl⟩ := List.mem_map.mp h; rfl
theorem pln_dInts (ns : List Int) : pln (dInts ns) = true := by unfold dInts; rw [pln]; exact plns_ints ns
theorem pln_pair (ps rs : List Int) : pln (dPair ps rs) = true := by
  unfold dPair; rw [pln, plns_cons, plns_cons]; exact ⟨pln_dInts _, pln_dInts _, rfl⟩
/-- the first place at which it is not so -/
noncomputable def firstBad (f : Nat → D → Bool) : List D → Nat → Option Nat
  | [], _ => none
  | d :: ds, i => if f i d = true then firstBad f ds (i + 1) else some i
theorem firstBad_step {f : Nat → D → Bool} {ds : List D} {i : Nat} {d : D} (e : ds[i]? = some d) (k : Nat) : firstBad f (ds.drop i) k = if f k d = true then firstBad f (ds.drop (i + 1)) (k + 1) else some k := by
  have hl : i < ds.length := (List.getElem?_eq_some_iff.mp e).1
  have : ds.drop i = d :: ds.drop (i + 1) := by
    rw [List.drop_eq_getElem_cons hl]
    have := (List.getElem?_eq_some_iff.mp e).2
    rw [this]
  rw [this, firstBad]
theorem firstBad_none {f : Nat → D → Bool} : ∀ {ds : List D} {k : Nat}, (∀ (i : Nat) d, ds[i]? = some d → f (k + i) d = true) → firstBad f ds k = none
  | [], _, _ => rfl
  | d :: ds, k, h => by
    rw [firstBad, if_pos (show f k d = true from h 0 d rfl)]
    exact firstBad_none fun i d' e => by
      have := h (i + 1) d' (by simpa using e)
      rw [show k + 1 + i = k + (i + 1) by omega]; exact this
theorem firstBad_some {f : Nat → D → Bool} : ∀ {ds : List D} {k j : Nat} {x : D}, (∀ (i : Nat) d, i < j → ds[i]? = some d → f (k + i) d = true) → ds[j]? = some x → f (k + j) x = false → firstBad f ds k = some (k + j)
  | [], _, j, x, _, e, _ => by simp at e
  | d :: ds, k, 0, x, _, e, hf => by
    simp at e; subst e
    rw [firstBad, if_neg (by rw [show k = k + 0 from rfl, hf]; decide)]; rfl
  | d :: ds, k, j + 1, x, h, e, hf => by
    rw [firstBad, if_pos (show f k d = true from h 0 d (by omega) rfl)]
    rw [firstBad_some (j := j) (x := x) (fun i d' hi e' => by
      have := h (i + 1) d' (by omega) (by simpa using e')
      rw [show k + 1 + i = k + (i + 1) by omega]; exact this) (by simpa using e) (by rw [show k + 1 + j = k + (j + 1) by omega]; exact hf)]
    rw [show k + 1 + j = k + (j + 1) by omega]
noncomputable def fPar (i : Nat) (d : D) : Bool := btw 0 i d
noncomputable def fRoom (_ : Nat) (d : D) : Bool := btw 1 1000000 d
/-- what is wrong with a thing as a tree -/
noncomputable def treeErr (d : D) : Option (Str × D) := if twoL d = true then (match d with
  | .tup [.lst ps, .lst rs] => (match firstBad fPar ps 0 with
    | some i => some ("parents", .int i)
    | none => (match firstBad fRoom rs 0 with
      | some i => some ("rooms", .int i)
      | none => none))
  | _ => none) else some ("tree", .non)
theorem twoL_shape {d : D} (h : twoL d = true) : ∃ ps rs, d = .tup [.lst ps, .lst rs] ∧ ps.length = rs.length ∧ 1 ≤ ps.length ∧ ps.length ≤ 23 := by
  unfold twoL at h
  split at h
  · rename_i ps rs
    simp only [Bool.and_eq_true, decide_eq_true_eq] at h
    exact ⟨ps, rs, rfl, h.1, h.2.1, h.2.2⟩
  · cases h
theorem treeErr_no {d : D} (h : twoL d = false) : treeErr d = some (("tree" : Str), D.non) := by unfold treeErr; rw [if_neg (by rw [h]; decide)]
theorem treeErr_two {ps rs : List D} (h : twoL (.tup [.lst ps, .lst rs]) = true) : treeErr (.tup [.lst ps, .lst rs]) = (match firstBad fPar ps 0 with
    | some i => some ("parents", .int i)
    | none => (match firstBad fRoom rs 0 with
      | some i => some ("rooms", .int i)
      | none => none)) := by unfold treeErr; rw [if_pos h]
theorem treeErr_tree {ps rs : List Int} (hT : Tree ps rs) : treeErr (dPair ps rs) = none := by
  have h := twoL_pair hT
  unfold dPair dInts at h ⊢
  rw [treeErr_two h]
  rw [firstBad_none (f := fPar) (k := 0) fun i d e => by
    obtain ⟨z, hz, rfl⟩ := map_at e
    have := hT.par i z hz
    rw [Nat.zero_add]; exact btw_int this.1 this.2]
  rw [firstBad_none (f := fRoom) (k := 0) fun i d e => by
    obtain ⟨z, hz, rfl⟩ := map_at e
    have := hT.room i z hz
    exact btw_int this.1 this.2]
theorem fmt_nat {n : Nat} (h : n < 2 ^ 1000) : FmtD (.int (n : Int)) := by
  show (n : Int).natAbs.log2 < 1920
  rw [Int.natAbs_natCast]
  by_cases h0 : n = 0
  · rw [h0]; decide
  · exact Nat.lt_trans ((Nat.log2_lt h0).mpr h) (by decide)
theorem fmt_non : FmtD .non := True.intro
theorem fmt_str {x : Str} (h : x.length ≤ 1000) : FmtD (.str x) := h
theorem fmt2 {a b : D} (ha : FmtD a) (hb : FmtD b) : ∀ d ∈ [a, b], FmtD d := fun d h => by
  simp only [List.mem_cons, List.not_mem_nil, or_false] at h
  rcases h with rfl | rfl
  · exact ha
  · exact hb
theorem fmt1 {a : D} (ha : FmtD a) : ∀ d ∈ [a], FmtD d := fun d h => by
  simp only [List.mem_cons, List.not_mem_nil, or_false] at h
  subst h; exact ha
noncomputable def sdTwoD : SpD := fun ds q => ∃ d, ds = [d] ∧ pln d = true ∧ q (.bl (twoL d)) []
noncomputable abbrev nTree : List Str := ["part", "number"]
noncomputable def sdLookT (c : Addr) : SpX := fun ds q qx => ∃ d, ds = [d] ∧ pln d = true ∧ (treeErr d = none → q .non []) ∧ ∀ p n, treeErr d = some (p, n) → qx c nTree [.str p, n] []
/-! ### data with texts compared -/
noncomputable def layS : Nat → D → Bool
  | _, .int _ => true
  | _, .bl _ => true
  | _, .non => true
  | _, .str x => (PyData.str x).canLay0
  | n + 1, .tup ds => ds.all (layS n)
  | n + 1, .lst ds => ds.all (layS n)
  | _, _ => false
theorem layS_all {n : Nat} (ih : ∀ d, layS n d = true → (toP d).canLay0 = true ∧ (toP d).depth ≤ n + 1) : ∀ ds : List D, ds.all (layS n) = true → PyData.canLayAll0 (toPs ds) = true ∧ PyData.depthAll (toPs ds) ≤ n + 1
  | [], _ => by rw [toPs]; simp [PyData.canLayAll0, PyData.depthAll]
  | d :: ds, h => by
    rw [List.all_cons, Bool.and_eq_true] at h
    have h1 := ih d h.1
    have h2 := layS_all ih ds h.2
    rw [toPs]
    simp only [PyData.canLayAll0, PyData.depthAll, h1.1, h2.1, Bool.and_self, true_and]
    omega
theorem layS_ok : ∀ (n : Nat) (d : D), layS n d = true → (toP d).canLay0 = true ∧ (toP d).depth ≤ n + 1
  | n, .int _, _ => by rw [toP]; simp [PyData.canLay0, PyData.depth]
  | n, .bl _, _ => by rw [toP]; simp [PyData.canLay0, PyData.depth]
  | n, .non, _ => by rw [toP]; simp [PyData.canLay0, PyData.depth]
  | n, .str x, h => by rw [toP]; exact ⟨by cases n <;> exact h, by simp [PyData.depth]⟩
  | n + 1, .tup ds, h => by
    have := layS_all (layS_ok n) ds (by simpa [layS] using h)
    rw [toP]; simp only [PyData.canLay0, PyData.depth, this.1, true_and]; omega
  | n + 1, .lst ds, h => by
    have := layS_all (layS_ok n) ds (by simpa [layS] using h)
    rw [toP]; simp only [PyData.canLay0, PyData.depth, this.1, true_and]; omega
  | 0, .tup _, h => by simp [layS] at h
  | 0, .lst _, h => by simp [layS] at h
  | n, .dct, h => by cases n <;> simp [layS] at h
  | n, .scr _ _, h => by cases n <;> simp [layS] at h
  | n, .ext _, h => by cases n <;> simp [layS] at h
theorem okD_layS {n : Nat} {d : D} (h : layS n d = true) (hn : n ≤ 60) : okD d = true := by
  have := layS_ok n d h
  unfold okD SeqAt.shaped
  rw [this.1, Bool.true_and]
  exact decide_eq_true (by omega)
theorem eqvS_all {n : Nat} (ih : ∀ d, layS n d = true → PyData.eqv (toP d) (toP d) = true) : ∀ ds : List D, ds.all (layS n) = true → PyData.eqvAll (toPs ds) (toPs ds) = true
  | [], _ => by rw [toPs]; simp [PyData.eqvAll]
  | d :: ds, h => by
    rw [List.all_cons, Bool.and_eq_true] at h
    rw [toPs, PyData.eqvAll, ih d h.1, eqvS_all ih ds h.2]; rfl
theorem eqD_selfS : ∀ (n : Nat) (d : D), layS n d = true → eqD d d = true
  | n, .int _, _ => by unfold eqD; rw [toP, PyData.eqv]; simp
  | n, .bl _, _ => by unfold eqD; rw [toP, PyData.eqv]; simp
  | n, .non, _ => by unfold eqD; rw [toP, PyData.eqv]
  | n, .str _, _ => by unfold eqD; rw [toP, PyData.eqv]; simp
  | n + 1, .tup ds, h => by unfold eqD; rw [toP, PyData.eqv]; exact eqvS_all (eqD_selfS n) ds (by simpa [layS] using h)
  | n + 1, .lst ds, h => by unfold eqD; rw [toP, PyData.eqv]; exact eqvS_all (eqD_selfS n) ds (by simpa [layS] using h)
  | 0, .tup _, h => by simp [layS] at h
  | 0, .lst _, h => by simp [layS] at h
  | n, .dct, h => by cases n <;> simp [layS] at h
  | n, .scr _ _, h => by cases n <;> simp [layS] at h
  | n, .ext _, h => by cases n <;> simp [layS] at h
theorem okD_str {x : Str} (h : (PyData.str x).canLay0 = true) : okD (.str x) = true := okD_layS (n := 0) h (by decide)
theorem eqD_str (a b : Str) : eqD (.str a) (.str b) = (a == b) := by unfold eqD; rw [toP, toP, PyData.eqv]
end L2

set_option Elab.async false
set_option linter.all false
set_option maxRecDepth 100000
set_option maxHeartbeats 1000000
namespace L2
open PySem PySem.Spec PyProof.Rows
/-! ### any things for places -/
theorem btw_shape {lo hi : Int} {d : D} (h : btw lo hi d = true) : ∃ i, d = .int i ∧ lo ≤ i ∧ i ≤ hi := by
  cases d with
  | int i => simp only [btw, Bool.and_eq_true, decide_eq_true_eq] at h; exact ⟨i, rfl, h.1, h.2⟩
  | _ => cases h
theorem btw_f {lo hi z : Int} (h : ¬ (lo ≤ z ∧ z ≤ hi)) : btw lo hi (.int z) = false := by
  cases e : btw lo hi (.int z) with
  | false => rfl
  | true => obtain ⟨i, q, h1, h2⟩ := btw_shape e; cases q; exact absurd ⟨h1, h2⟩ h
noncomputable def neZ : D → D → Bool
  | .int i, .int j => !decide (i = j)
  | _, _ => false
noncomputable def endsB (n : Nat) (a b : D) : Bool := btw 0 n a && (btw 0 n b && neZ a b)
theorem endsB_of {ps : List Int} {a b : D} (h : endsB ps.length a b = true) : ∃ i j, a = .int i ∧ b = .int j ∧ Ends2 ps i j := by
  unfold endsB at h
  rw [Bool.and_eq_true, Bool.and_eq_true] at h
  obtain ⟨i, rfl, i0, i1⟩ := btw_shape h.1
  obtain ⟨j, rfl, j0, j1⟩ := btw_shape h.2.1
  have := h.2.2
  simp only [neZ, Bool.not_eq_true', decide_eq_false_iff_not] at this
  exact ⟨i, j, rfl, rfl, i0, i1, j0, j1, this⟩
theorem endsB_to {ps : List Int} {i j : Int} (h : Ends2 ps i j) : endsB ps.length (.int i) (.int j) = true := by
  unfold endsB
  rw [btw_int h.a0 h.a1, btw_int h.b0 h.b1]
  simp [neZ, h.ne]
noncomputable def sdEndsD : SpD := fun ds q => ∃ ps rs a b, ds = [dPair ps rs, a, b] ∧ pln a = true ∧ pln b = true ∧ q (.bl (endsB ps.length a b)) []
end L2

set_option Elab.async false
set_option linter.all false
set_option maxRecDepth 100000
set_option maxHeartbeats 1000000
namespace L2
open PySem PySem.Spec PyProof.Rows
/-! ### any things for asks, keeps -/
noncomputable def askB (n : Nat) : D → Bool
  | .tup [a, b, s, w] => endsB n a b && (btw 1 1000000 s && btw 1 1000000000000 w)
  | _ => false
theorem askB_of {ps : List Int} {d : D} (h : askB ps.length d = true) : ∃ a, d = dAsk a ∧ AskOk ps a := by
  unfold askB at h
  split at h
  · rename_i a b s w
    rw [Bool.and_eq_true, Bool.and_eq_true] at h
    obtain ⟨i, j, rfl, rfl, hE⟩ := endsB_of h.1
    obtain ⟨s', rfl, s0, s1⟩ := btw_shape h.2.1
    obtain ⟨w', rfl, w0, w1⟩ := btw_shape h.2.2
    exact ⟨⟨i, j, s', w'⟩, rfl, hE, s0, s1, w0, w1⟩
  · cases h
theorem askB_to {ps : List Int} {a : Ask} (h : AskOk ps a) : askB ps.length (dAsk a) = true := by
  show (endsB ps.length (.int a.one) (.int a.other) && (btw 1 1000000 (.int a.size) && btw 1 1000000000000 (.int a.worth))) = true
  rw [endsB_to h.ends, btw_int h.s0 h.s1, btw_int h.w0 h.w1]; rfl
noncomputable def fAsk (n : Nat) (_ : Nat) (d : D) : Bool := askB n d
/-- what is wrong with a thing as asks: the number told -/
noncomputable def asksErr (n : Nat) : D → Option D
  | .lst ds => if ds.length ≤ 30 then (firstBad (fAsk n) ds 0).map fun (i : Nat) => D.int i else some .non
  | _ => some .non
theorem asksErr_ok {ps : List Int} {as : List Ask} (h : AsksOk ps as) : asksErr ps.length (dAsks as) = none := by
  show (if (as.map dAsk).length ≤ 30 then _ else _) = none
  rw [if_pos (by rw [List.length_map]; exact h.len), firstBad_none fun i d e => ?_]
  · rfl
  · obtain ⟨a, ha, rfl⟩ := asks_at e
    exact askB_to (h.ok a (List.mem_of_getElem? ha))
noncomputable def sdIsAskD : SpD := fun ds q => ∃ ps rs d, ds = [dPair ps rs, d] ∧ pln d = true ∧ q (.bl (askB ps.length d)) []
noncomputable abbrev nNum : List Str := ["number"]
noncomputable def sdAsksX (cT cA : Addr) : SpX := fun ds q qx => ∃ t x, ds = [t, x] ∧ ((∃ p n, pln t = true ∧ treeErr t = some (p, n) ∧ qx cT nTree [.str p, n] []) ∨
  ∃ ps rs, t = dPair ps rs ∧ Tree ps rs ∧ pln x = true ∧ ((∃ n, asksErr ps.length x = some n ∧ qx cA nNum [n] []) ∨ (asksErr ps.length x = none ∧ q .non [])))
theorem pln_dAsks (as : List Ask) : pln (dAsks as) = true := by
  unfold dAsks; rw [pln]
  exact plns_of fun d h => by obtain ⟨a, _, rfl⟩ := List.mem_map.mp h; rfl
theorem cutD_take {xs : List D} {k : Int} (h0 : 0 ≤ k) : cutD xs none (some k) = xs.take k.toNat := by
  have ek : k = ((k.toNat : Nat) : Int) := by omega
  unfold cutD
  rw [HT.sIx_none, ek, HT.sIx_nat, List.drop_zero, Nat.sub_zero, Int.toNat_natCast]
  by_cases h : k.toNat ≤ xs.length
  · rw [show min k.toNat xs.length = k.toNat by omega]
  · rw [show min k.toNat xs.length = xs.length by omega, List.take_length, List.take_of_length_le (by omega)]
theorem plns_app {xs ys : List D} (h1 : plns xs = true) (h2 : plns ys = true) : plns (xs ++ ys) = true := plns_of fun d hd => (List.mem_append.mp hd).elim (plns_mem h1) (plns_mem h2)
end L2

set_option Elab.async false
set_option linter.all false
set_option maxRecDepth 100000
set_option maxHeartbeats 4000000
set_option exponentiation.threshold 9000
namespace K07
open PySem L2
noncomputable def top (i : Nat) : Stmt := PySem.Challenge.pw_treeasks_k07_what_are_no_asks.main.body.getD i (.Pass ⟨0, 0, 0, 0⟩)
noncomputable abbrev s_is_whole : Stmt := top 7
noncomputable abbrev s_is_between : Stmt := top 8
noncomputable abbrev s_has_two_lists : Stmt := top 12
noncomputable abbrev s_look_at_tree : Stmt := top 13
noncomputable abbrev s_is_place : Stmt := top 14
noncomputable abbrev s_are_ends : Stmt := top 15
noncomputable abbrev s_is_ask : Stmt := top 20
noncomputable abbrev s_look_at_asks : Stmt := top 21
noncomputable abbrev s_l_cell_at : Stmt := top 23
noncomputable abbrev s_l_pool : Stmt := top 24
noncomputable abbrev s_l_take : Stmt := top 25
noncomputable abbrev s_l_tree : Stmt := top 26
noncomputable abbrev s_l_asks : Stmt := top 27
noncomputable abbrev s_l_asked : Stmt := top 28
noncomputable abbrev s_l_no_ask : Stmt := top 29
noncomputable abbrev s_l_spoiled : Stmt := top 30
noncomputable abbrev s_l_right : Stmt := top 31
noncomputable abbrev s_law : Stmt := top 32
set_option genInjectivity false in
structure Adr where
  f_is_whole : Addr
  d_is_whole : FuncData
  f_is_between : Addr
  d_is_between : FuncData
  f_has_two_lists : Addr
  d_has_two_lists : FuncData
  f_look_at_tree : Addr
  d_look_at_tree : FuncData
  f_is_place : Addr
  d_is_place : FuncData
  f_are_ends : Addr
  d_are_ends : FuncData
  f_is_ask : Addr
  d_is_ask : FuncData
  f_look_at_asks : Addr
  d_look_at_asks : FuncData
  f_l_cell_at : Addr
  d_l_cell_at : FuncData
  f_l_pool : Addr
  d_l_pool : FuncData
  f_l_take : Addr
  d_l_take : FuncData
  f_l_tree : Addr
  d_l_tree : FuncData
  f_l_asks : Addr
  d_l_asks : FuncData
  f_l_asked : Addr
  d_l_asked : FuncData
  f_l_no_ask : Addr
  d_l_no_ask : FuncData
  f_l_spoiled : Addr
  d_l_spoiled : FuncData
  f_l_right : Addr
  d_l_right : FuncData
  f_law : Addr
  d_law : FuncData
  c_AskError : Addr
  c_NoAsks : Addr
  c_NoKeep : Addr
  c_NoPlace : Addr
  c_NoTree : Addr
  n_NoAsks : Addr
  n_NoTree : Addr
  nd_NoAsks : FuncData
  nd_NoTree : FuncData
set_option genInjectivity false in
structure Txt (K : PySem.W.Frag) (mg : Str → Option Value) (A : Adr) : Prop where
  F_is_whole : Fun K "is_whole" "is_whole" s_is_whole A.f_is_whole A.d_is_whole
  b_is_whole : Binds K A.d_is_whole ["thing"] []
  k_is_whole : PySem.W.keepIn K (.ref A.f_is_whole) = true
  m_is_whole : mg "is_whole" = some (.ref A.f_is_whole)
  F_is_between : Fun K "is_between" "is_between" s_is_between A.f_is_between A.d_is_between
  b_is_between : Binds K A.d_is_between ["thing", "least", "most"] []
  k_is_between : PySem.W.keepIn K (.ref A.f_is_between) = true
  m_is_between : mg "is_between" = some (.ref A.f_is_between)
  F_has_two_lists : Fun K "has_two_lists" "has_two_lists" s_has_two_lists A.f_has_two_lists A.d_has_two_lists
  b_has_two_lists : Binds K A.d_has_two_lists ["thing"] []
  k_has_two_lists : PySem.W.keepIn K (.ref A.f_has_two_lists) = true
  m_has_two_lists : mg "has_two_lists" = some (.ref A.f_has_two_lists)
  F_look_at_tree : Fun K "look_at_tree" "look_at_tree" s_look_at_tree A.f_look_at_tree A.d_look_at_tree
  b_look_at_tree : Binds K A.d_look_at_tree ["thing"] []
  k_look_at_tree : PySem.W.keepIn K (.ref A.f_look_at_tree) = true
  m_look_at_tree : mg "look_at_tree" = some (.ref A.f_look_at_tree)
  F_is_place : Fun K "is_place" "is_place" s_is_place A.f_is_place A.d_is_place
  b_is_place : Binds K A.d_is_place ["tree", "thing"] []
  k_is_place : PySem.W.keepIn K (.ref A.f_is_place) = true
  m_is_place : mg "is_place" = some (.ref A.f_is_place)
  F_are_ends : Fun K "are_ends" "are_ends" s_are_ends A.f_are_ends A.d_are_ends
  b_are_ends : Binds K A.d_are_ends ["tree", "one", "other"] []
  k_are_ends : PySem.W.keepIn K (.ref A.f_are_ends) = true
  m_are_ends : mg "are_ends" = some (.ref A.f_are_ends)
  F_is_ask : Fun K "is_ask" "is_ask" s_is_ask A.f_is_ask A.d_is_ask
  b_is_ask : Binds K A.d_is_ask ["tree", "thing"] []
  k_is_ask : PySem.W.keepIn K (.ref A.f_is_ask) = true
  m_is_ask : mg "is_ask" = some (.ref A.f_is_ask)
  F_look_at_asks : Fun K "look_at_asks" "look_at_asks" s_look_at_asks A.f_look_at_asks A.d_look_at_asks
  b_look_at_asks : Binds K A.d_look_at_asks ["tree", "thing"] []
  k_look_at_asks : PySem.W.keepIn K (.ref A.f_look_at_asks) = true
  m_look_at_asks : mg "look_at_asks" = some (.ref A.f_look_at_asks)
  F_l_cell_at : Fun K "_law_cell_at" "_law_cell_at" s_l_cell_at A.f_l_cell_at A.d_l_cell_at
  b_l_cell_at : Binds K A.d_l_cell_at ["_law_script", "_law_k"] []
  k_l_cell_at : PySem.W.keepIn K (.ref A.f_l_cell_at) = true
  m_l_cell_at : mg "_law_cell_at" = some (.ref A.f_l_cell_at)
  F_l_pool : Fun K "_law_pool" "_law_pool" s_l_pool A.f_l_pool A.d_l_pool
  b_l_pool : Binds K A.d_l_pool ["_law_script", "_law_k"] []
  k_l_pool : PySem.W.keepIn K (.ref A.f_l_pool) = true
  m_l_pool : mg "_law_pool" = some (.ref A.f_l_pool)
  F_l_take : Fun K "_law_take" "_law_take" s_l_take A.f_l_take A.d_l_take
  b_l_take : Binds K A.d_l_take ["_law_pool_here", "_law_many"] []
  k_l_take : PySem.W.keepIn K (.ref A.f_l_take) = true
  m_l_take : mg "_law_take" = some (.ref A.f_l_take)
  F_l_tree : Fun K "_law_tree" "_law_tree" s_l_tree A.f_l_tree A.d_l_tree
  b_l_tree : Binds K A.d_l_tree ["_law_pool_here", "_law_most", "_law_sizes"] []
  k_l_tree : PySem.W.keepIn K (.ref A.f_l_tree) = true
  m_l_tree : mg "_law_tree" = some (.ref A.f_l_tree)
  F_l_asks : Fun K "_law_asks" "_law_asks" s_l_asks A.f_l_asks A.d_l_asks
  b_l_asks : Binds K A.d_l_asks ["_law_pool_here", "_law_tree_here", "_law_least", "_law_most", "_law_sizes"] []
  k_l_asks : PySem.W.keepIn K (.ref A.f_l_asks) = true
  m_l_asks : mg "_law_asks" = some (.ref A.f_l_asks)
  F_l_asked : Fun K "_law_asked" "_law_asked" s_l_asked A.f_l_asked A.d_l_asked
  b_l_asked : Binds K A.d_l_asked ["_law_tree_here", "_law_thing"] []
  k_l_asked : PySem.W.keepIn K (.ref A.f_l_asked) = true
  m_l_asked : mg "_law_asked" = some (.ref A.f_l_asked)
  F_l_no_ask : Fun K "_law_no_ask" "_law_no_ask" s_l_no_ask A.f_l_no_ask A.d_l_no_ask
  b_l_no_ask : Binds K A.d_l_no_ask ["_law_pool_here", "_law_tree_here", "_law_ask"] []
  k_l_no_ask : PySem.W.keepIn K (.ref A.f_l_no_ask) = true
  m_l_no_ask : mg "_law_no_ask" = some (.ref A.f_l_no_ask)
  F_l_spoiled : Fun K "_law_spoiled" "_law_spoiled" s_l_spoiled A.f_l_spoiled A.d_l_spoiled
  b_l_spoiled : Binds K A.d_l_spoiled ["_law_pool_here", "_law_tree_here", "_law_asks_here"] []
  k_l_spoiled : PySem.W.keepIn K (.ref A.f_l_spoiled) = true
  m_l_spoiled : mg "_law_spoiled" = some (.ref A.f_l_spoiled)
  F_l_right : Fun K "_law_right" "_law_right" s_l_right A.f_l_right A.d_l_right
  b_l_right : Binds K A.d_l_right ["_law_pool_here", "_law_tree_here", "_law_asks_here"] []
  k_l_right : PySem.W.keepIn K (.ref A.f_l_right) = true
  m_l_right : mg "_law_right" = some (.ref A.f_l_right)
  F_law : Fun K "law" "law" s_law A.f_law A.d_law
  b_law : Binds K A.d_law ["_law_script"] []
  k_law : PySem.W.keepIn K (.ref A.f_law) = true
  m_law : mg "law" = some (.ref A.f_law)
  z_ValueError : mg "ValueError" = none
  z_bool : mg "bool" = none
  z_enumerate : mg "enumerate" = none
  z_int : mg "int" = none
  z_isinstance : mg "isinstance" = none
  z_len : mg "len" = none
  z_list : mg "list" = none
  z_max : mg "max" = none
  z_min : mg "min" = none
  z_range : mg "range" = none
  z_str : mg "str" = none
  z_tuple : mg "tuple" = none
  c_MOST_TIES : ∃ t, mg "MOST_TIES" = some (.int 23 t)
  c_MOST_ROOM : ∃ t, mg "MOST_ROOM" = some (.int 1000000 t)
  c_MOST_ASKS : ∃ t, mg "MOST_ASKS" = some (.int 30 t)
  c_MOST_SIZE : ∃ t, mg "MOST_SIZE" = some (.int 1000000 t)
  c_MOST_WORTH : ∃ t, mg "MOST_WORTH" = some (.int 1000000000000 t)
  m_AskError : mg "AskError" = some (.ref A.c_AskError)
  m_NoAsks : mg "NoAsks" = some (.ref A.c_NoAsks)
  m_NoKeep : mg "NoKeep" = some (.ref A.c_NoKeep)
  m_NoPlace : mg "NoPlace" = some (.ref A.c_NoPlace)
  m_NoTree : mg "NoTree" = some (.ref A.c_NoTree)
  x_AskError : xcIn K A.c_AskError bmV none = true
  x_NoAsks : xcIn K A.c_NoAsks ([.ref A.c_AskError] ++ bmV) (some (.ref A.n_NoAsks)) = true
  x_NoTree : xcIn K A.c_NoTree ([.ref A.c_AskError] ++ bmV) (some (.ref A.n_NoTree)) = true
  o_NoAsks : xcOk K A.c_NoAsks = true
  v_NoAsks : PySem.W.kitOne K (.ref A.c_NoAsks) (.type "ValueError") = some true
  i_NoAsks_NoKeep : PySem.W.kitOne K (.ref A.c_NoAsks) (.ref A.c_NoKeep) = some false
  i_NoAsks_NoPlace : PySem.W.kitOne K (.ref A.c_NoAsks) (.ref A.c_NoPlace) = some false
  i_NoAsks_NoTree : PySem.W.kitOne K (.ref A.c_NoAsks) (.ref A.c_NoTree) = some false
  o_NoTree : xcOk K A.c_NoTree = true
  v_NoTree : PySem.W.kitOne K (.ref A.c_NoTree) (.type "ValueError") = some true
  i_NoTree_NoAsks : PySem.W.kitOne K (.ref A.c_NoTree) (.ref A.c_NoAsks) = some false
  i_NoTree_NoKeep : PySem.W.kitOne K (.ref A.c_NoTree) (.ref A.c_NoKeep) = some false
  i_NoTree_NoPlace : PySem.W.kitOne K (.ref A.c_NoTree) (.ref A.c_NoPlace) = some false
  I_NoAsks : Fun K "__init__" "NoAsks.__init__" (inClass (top 3) 0) A.n_NoAsks A.nd_NoAsks
  bi_NoAsks : Binds K A.nd_NoAsks ["self", "number"] []
  fi_NoAsks : PySem.W.typeIn K (.ref A.n_NoAsks) = some (.type "function")
  kc_NoAsks : PySem.W.keepIn K (.ref A.c_NoAsks) = true
  xa_NoAsks_number : xaOk K A.c_NoAsks "number"
  I_NoTree : Fun K "__init__" "NoTree.__init__" (inClass (top 2) 0) A.n_NoTree A.nd_NoTree
  bi_NoTree : Binds K A.nd_NoTree ["self", "part", "number"] []
  fi_NoTree : PySem.W.typeIn K (.ref A.n_NoTree) = some (.type "function")
  kc_NoTree : PySem.W.keepIn K (.ref A.c_NoTree) = true
  xa_NoTree_part : xaOk K A.c_NoTree "part"
  xa_NoTree_number : xaOk K A.c_NoTree "number"
  B_AskError : BaseIn K A.c_AskError
theorem sc_is_whole : FnScope ["thing"] ["thing"] (defScope s_is_whole) := ⟨rfl, rfl, rfl, by decide +kernel, rfl, by decide +kernel, by decide +kernel⟩
theorem sc_is_between : FnScope ["thing", "least", "most"] ["thing", "least", "most"] (defScope s_is_between) := ⟨rfl, rfl, rfl, by decide +kernel, rfl, by decide +kernel, by decide +kernel⟩
theorem sc_has_two_lists : FnScope ["thing", "parents", "rooms"] ["thing"] (defScope s_has_two_lists) := ⟨rfl, rfl, rfl, by decide +kernel, rfl, by decide +kernel, by decide +kernel⟩
theorem sc_look_at_tree : FnScope ["thing", "parents", "rooms", "number", "parent", "room"] ["thing"] (defScope s_look_at_tree) := ⟨rfl, rfl, rfl, by decide +kernel, rfl, by decide +kernel, by decide +kernel⟩
theorem sc_is_place : FnScope ["tree", "thing"] ["tree", "thing"] (defScope s_is_place) := ⟨rfl, rfl, rfl, by decide +kernel, rfl, by decide +kernel, by decide +kernel⟩
theorem sc_are_ends : FnScope ["tree", "one", "other"] ["tree", "one", "other"] (defScope s_are_ends) := ⟨rfl, rfl, rfl, by decide +kernel, rfl, by decide +kernel, by decide +kernel⟩
theorem sc_is_ask : FnScope ["tree", "thing", "one", "other", "size", "worth"] ["tree", "thing"] (defScope s_is_ask) := ⟨rfl, rfl, rfl, by decide +kernel, rfl, by decide +kernel, by decide +kernel⟩
theorem sc_look_at_asks : FnScope ["tree", "thing", "number", "ask"] ["tree", "thing"] (defScope s_look_at_asks) := ⟨rfl, rfl, rfl, by decide +kernel, rfl, by decide +kernel, by decide +kernel⟩
theorem sc_l_cell_at : FnScope ["_law_script", "_law_k"] ["_law_script", "_law_k"] (defScope s_l_cell_at) := ⟨rfl, rfl, rfl, by decide +kernel, rfl, by decide +kernel, by decide +kernel⟩
theorem sc_l_pool : FnScope ["_law_script", "_law_k", "_law_cell", "_law_mixed"] ["_law_script", "_law_k"] (defScope s_l_pool) := ⟨rfl, rfl, rfl, by decide +kernel, rfl, by decide +kernel, by decide +kernel⟩
theorem sc_l_take : FnScope ["_law_pool_here", "_law_many", "_law_found", "_law_made", "_law_turn"] ["_law_pool_here", "_law_many"] (defScope s_l_take) := ⟨rfl, rfl, rfl, by decide +kernel, rfl, by decide +kernel, by decide +kernel⟩
theorem sc_l_tree : FnScope ["_law_pool_here", "_law_most", "_law_sizes", "_law_way", "_law_parents", "_law_rooms", "_law_size", "_law_k"] ["_law_pool_here", "_law_most", "_law_sizes"] (defScope s_l_tree) := ⟨rfl, rfl, rfl, by decide +kernel, rfl, by decide +kernel, by decide +kernel⟩
theorem sc_l_asks : FnScope ["_law_pool_here", "_law_tree_here", "_law_least", "_law_most", "_law_sizes", "_law_places", "_law_asks_here", "_law_k", "_law_one", "_law_other", "_law_size", "_law_worth"] ["_law_pool_here", "_law_tree_here", "_law_least", "_law_most", "_law_sizes"] (defScope s_l_asks) := ⟨rfl, rfl, rfl, by decide +kernel, rfl, by decide +kernel, by decide +kernel⟩
theorem sc_l_asked : FnScope ["_law_tree_here", "_law_thing", "_law_error", "e"] ["_law_tree_here", "_law_thing"] (defScope s_l_asked) := ⟨rfl, rfl, rfl, by decide +kernel, rfl, by decide +kernel, by decide +kernel⟩
theorem sc_l_no_ask : FnScope ["_law_pool_here", "_law_tree_here", "_law_ask", "_law_one", "_law_other", "_law_size", "_law_worth", "_law_far", "_law_some"] ["_law_pool_here", "_law_tree_here", "_law_ask"] (defScope s_l_no_ask) := ⟨rfl, rfl, rfl, by decide +kernel, rfl, by decide +kernel, by decide +kernel⟩
theorem sc_l_spoiled : FnScope ["_law_pool_here", "_law_tree_here", "_law_asks_here", "_law_made", "_law_at", "_law_there"] ["_law_pool_here", "_law_tree_here", "_law_asks_here"] (defScope s_l_spoiled) := ⟨rfl, rfl, rfl, by decide +kernel, rfl, by decide +kernel, by decide +kernel⟩
theorem sc_l_right : FnScope ["_law_pool_here", "_law_tree_here", "_law_asks_here", "_law_kept", "_law_made", "_law_due", "_law_full", "_law_others", "_law_other", "_law_some", "_law_way", "_law_thing"] ["_law_pool_here", "_law_tree_here", "_law_asks_here"] (defScope s_l_right) := ⟨rfl, rfl, rfl, by decide +kernel, rfl, by decide +kernel, by decide +kernel⟩
theorem sc_law : FnScope ["_law_script", "_law_k", "_law_pool_here", "_law_tree_here", "_law_asks_here"] ["_law_script"] (defScope s_law) := ⟨rfl, rfl, rfl, by decide +kernel, rfl, by decide +kernel, by decide +kernel⟩
theorem sci_NoAsks : FnScope ["self", "number"] ["self", "number"] (defScope (inClass (top 3) 0)) := ⟨rfl, rfl, rfl, by decide +kernel, rfl, by decide +kernel, by decide +kernel⟩
theorem sci_NoTree : FnScope ["self", "part", "number"] ["self", "part", "number"] (defScope (inClass (top 2) 0)) := ⟨rfl, rfl, rfl, by decide +kernel, rfl, by decide +kernel, by decide +kernel⟩
section
variable {P : Program} {w : World} {K : PySem.W.Frag} {mg : Str → Option Value} {base : Heap} {A : Adr}
set_option maxHeartbeats 4000000 in
theorem oki_NoAsks (T : Txt K mg A) : FnOk P w K mg base CX0 1 A.n_NoAsks A.nd_NoAsks ["self", "number"] (spInit A.c_NoAsks ["number"]) := by
  refine T.I_NoAsks.ok (k := 0) sci_NoAsks (fun vs H Q E h => by obtain ⟨e, xs, rfl, h, _⟩ := h; rw [List.length_cons, h]; rfl) (fun cdv Ar outer s H vs Q E hr h => ?_)
  obtain ⟨e, xs, rfl, hl, hv, hH, q⟩ := h
  obtain ⟨x1, rfl⟩ : ∃ x1, xs = [x1] := match xs, hl with | [x1], _ => ⟨x1, rfl⟩
  refine ⟨_, pss_cons (ps_expr (pe_binit T.B_AskError T.x_NoAsks rfl T.m_AskError (pa_cons (pv 0) (pa_cons (pe_join (pj_lit (pj_var (pv 1) pj_nil))) pa_nil)))) (pss_one (ps_x0 T.x_NoAsks T.o_NoAsks T.xa_NoAsks_number (pv 0) (pv 1))), ?_⟩
  refine ⟨_, rfl, ⟨trivial, ⟨⟨x1, rfl, hv x1 (by simp)⟩, trivial⟩⟩, fun y => ?_⟩
  refine ⟨e, y, none, rfl, hH, ?_⟩
  refine ⟨_, rfl, _, rfl, e, rfl, upd_same, fun d hd => ?_⟩
  have hde : d ≠ e := fun z => by rw [z, upd_same] at hd; cases hd
  have hd0 : H d = none := by rw [upd_ne hde] at hd; exact hd
  have := q d hd0
  simp only [upd_upd]
  exact this
set_option maxHeartbeats 4000000 in
theorem oki_NoTree (T : Txt K mg A) : FnOk P w K mg base CX0 1 A.n_NoTree A.nd_NoTree ["self", "part", "number"] (spInit A.c_NoTree ["part", "number"]) := by
  refine T.I_NoTree.ok (k := 0) sci_NoTree (fun vs H Q E h => by obtain ⟨e, xs, rfl, h, _⟩ := h; rw [List.length_cons, h]; rfl) (fun cdv Ar outer s H vs Q E hr h => ?_)
  obtain ⟨e, xs, rfl, hl, hv, hH, q⟩ := h
  obtain ⟨x1, x2, rfl⟩ : ∃ x1 x2, xs = [x1, x2] := match xs, hl with | [x1, x2], _ => ⟨x1, x2, rfl⟩
  refine ⟨_, pss_cons (ps_expr (pe_binit T.B_AskError T.x_NoTree rfl T.m_AskError (pa_cons (pv 0) (pa_cons (pe_join (pj_lit (pj_var (pv 1) (pj_lit (pj_var (pv 2) pj_nil))))) pa_nil)))) (pss_cons (ps_x0 T.x_NoTree T.o_NoTree T.xa_NoTree_part (pv 0) (pv 1)) (pss_one (ps_x1 T.x_NoTree T.o_NoTree T.xa_NoTree_number (pv 0) (pv 2)))), ?_⟩
  refine ⟨_, rfl, ⟨trivial, ⟨⟨x1, rfl, hv x1 (by simp)⟩, ⟨trivial, ⟨⟨x2, rfl, hv x2 (by simp)⟩, trivial⟩⟩⟩⟩, fun y => ?_⟩
  refine ⟨e, y, none, rfl, hH, ?_⟩
  refine ⟨_, rfl, _, rfl, e, rfl, upd_same, fun d hd => ?_⟩
  have hde : d ≠ e := fun z => by rw [z, upd_same] at hd; cases hd
  have hd0 : H d = none := by rw [upd_ne hde] at hd; exact hd
  refine ⟨_, rfl, _, rfl, e, d, _, rfl, by rw [upd_ne (Ne.symm hde), upd_same], upd_same, hde, by simp, rfl, ?_⟩
  have := q d hd0
  simp only [upd_upd]
  exact this
set_option maxHeartbeats 4000000 in
theorem ok_is_whole (T : Txt K mg A) : FnOk P w K mg base CX0 1 A.f_is_whole A.d_is_whole ["thing"] (spOf [false] false (sdWhole)) := by
  have S := sc_is_whole
  refine fnD T.F_is_whole S ⟨[false], [false], false⟩ _ ?hl rfl rfl fun cdv Ar outer s H E hr => ⟨_, (qss_one (qs_ret (qe_and (qe_isT rfl T.z_isinstance bt_isinstance (qe_var 0) (pe_bltn (v := .ty "int") rfl T.z_int bt_int rfl)) (qe_one (qe_not (qe_isT rfl T.z_isinstance bt_isinstance (qe_var 0) (pe_bltn (v := .ty "bool") rfl T.z_bool bt_bool rfl))))))), fun ds q h => ?_⟩
  case hl => intro ds q h; obtain ⟨d, rfl, _⟩ := h; rfl
  obtain ⟨d, rfl, hs, q0⟩ := h
  cases d <;> first | exact q0 | cases hs
set_option maxHeartbeats 4000000 in
theorem ok_is_between (T : Txt K mg A) : FnOk P w K mg base CX0 2 A.f_is_between A.d_is_between ["thing", "least", "most"] (spOf [false, false, false] false (sdBetween)) := by
  have G_is_whole := ok_is_whole (P := P) (w := w) (base := base) T
  have S := sc_is_between
  refine fnD T.F_is_between S ⟨[false, false, false], [false, false, false], false⟩ _ ?hl rfl rfl fun cdv Ar outer s H E hr => ⟨_, (qss_one (qs_ret (qe_and (qe_call (G_is_whole) (hr.mono (by decide)) rfl T.m_is_whole T.k_is_whole T.b_is_whole (qk_s (qe_var 0) qk_nil)) (qe_one (qe_chain op_le op_le dB dB (qe_var 1) (qe_var 0) (qe_var 2)))))), fun ds q h => ?_⟩
  case hl => intro ds q h; obtain ⟨d, lo, hi, rfl, _⟩ := h; rfl
  obtain ⟨d, lo, hi, rfl, hs, q0⟩ := h
  refine ⟨d, rfl, hs, ?_⟩
  cases d
  case int i =>
    refine (ite2 (c := decide (lo ≤ i) = true) (fun c => ?_) (fun c => ?_))
    · have : btw lo hi (.int i) = decide (i ≤ hi) := by show (decide (lo ≤ i) && decide (i ≤ hi)) = _; rw [c, Bool.true_and]
      rw [this] at q0; exact q0
    · have : btw lo hi (.int i) = false := by show (decide (lo ≤ i) && decide (i ≤ hi)) = _; rw [Bool.eq_false_iff.mpr c, Bool.false_and]
      rw [this] at q0; exact q0
  all_goals first | exact q0 | cases hs
set_option maxHeartbeats 4000000 in
theorem ok_has_two_lists (T : Txt K mg A) : FnOk P w K mg base CX0 1 A.f_has_two_lists A.d_has_two_lists ["thing"] (spOf [false] false (sdTwoD)) := by
  have S := sc_has_two_lists
  refine fnD T.F_has_two_lists S ⟨[false], [false, false, false], false⟩ _ ?hl rfl rfl fun cdv Ar outer s H E hr => ⟨_, (qss_cons (qs_if (QW.qt (qw_or (qt_not (qt_val (qe_isT rfl T.z_isinstance bt_isinstance (qe_var 0) (pe_bltn (v := .ty "tuple") rfl T.z_tuple bt_tuple rfl)))) (qw_or1 (qt_cmp (op_neD hr.units) dNe (qe_callB call_len_seq dLen rfl T.z_len bt_len (qa_cons (qe_var 0) qa_nil)) qe_int (nomark _))))) (qss_one (qs_ret qe_bl)) qss_nil)
      (qss_cons (qs_asg (qe_var 0) (qg_tup rfl (qgs_cons (qg_name (i := 1) S.nd rfl (Or.inl rfl)) (qgs_cons (qg_name (i := 2) S.nd rfl (Or.inl rfl)) qgs_nil)) (takes_cons1 (takes_cons1 takes_nil))))
      (qss_cons (qs_if (QW.qt (qw_or (qt_not (qt_val (qe_isT rfl T.z_isinstance bt_isinstance (qe_var 1) (pe_bltn (v := .ty "list") rfl T.z_list bt_list rfl)))) (qw_or1 (qt_not (qt_val (qe_isT rfl T.z_isinstance bt_isinstance (qe_var 2) (pe_bltn (v := .ty "list") rfl T.z_list bt_list rfl))))))) (qss_one (qs_ret qe_bl)) qss_nil)
      (qss_one (qs_ret (qe_and (qe_cmp (op_eqD hr.units) dEq (qe_callB call_len_seq dLen rfl T.z_len bt_len (qa_cons (qe_var 1) qa_nil)) (qe_callB call_len_seq dLen rfl T.z_len bt_len (qa_cons (qe_var 2) qa_nil)) (nomark _)) (qe_one (qe_chain op_le op_le dB dB qe_int (qe_callB call_len_seq dLen rfl T.z_len bt_len (qa_cons (qe_var 1) qa_nil)) (qe_globI (i := 23) rfl T.c_MOST_TIES))))))))), fun ds q h => ?_⟩
  case hl => intro ds q h; obtain ⟨d, rfl, _⟩ := h; rfl
  obtain ⟨d, rfl, hp, q0⟩ := h
  cases d with
  | tup ds =>
    refine (ite2 (c := (!decide ((ds.length : Int) = 2)) = true) (fun c => ?_) (fun c => ?_))
    · have : twoL (.tup ds) = false := by
        cases h : twoL (.tup ds) with
        | false => rfl
        | true =>
          obtain ⟨ps, rs, e, _⟩ := twoL_shape h
          cases e; simp at c
      rw [this] at q0; exact q0
    · obtain ⟨a, b, rfl⟩ : ∃ a b, ds = [a, b] := by
        have hl : ds.length = 2 := by simp at c; omega
        match ds, hl with
        | [a, b], _ => exact ⟨a, b, rfl⟩
      rw [pln, plns_cons, plns_cons] at hp
      have ha := pln_isS hp.1
      have hb := pln_isS hp.2.1
      cases a with
      | lst ps =>
        cases b with
        | lst rs =>
          refine (ite2 (c := decide ((ps.length : Int) = (rs.length : Int)) = true) (fun c1 => ?_) (fun c1 => ?_))
          · refine (ite2 (c := decide ((1 : Int) ≤ (ps.length : Int)) = true) (fun c2 => ?_) (fun c2 => ?_))
            · have e : twoL (.tup [.lst ps, .lst rs]) = decide ((ps.length : Int) ≤ 23) := by
                have c1' : ps.length = rs.length := by have := of_decide_eq_true c1; omega
                have c2' : 1 ≤ ps.length := by simp at c2; omega
                show (decide (ps.length = rs.length) && (decide (1 ≤ ps.length) && decide (ps.length ≤ 23))) = _
                rw [decide_eq_true c1', decide_eq_true c2', Bool.true_and, Bool.true_and]
                exact decide_eq_decide.mpr (by omega)
              rw [e] at q0; exact q0
            · have e : twoL (.tup [.lst ps, .lst rs]) = false := by
                have c2' : ¬ 1 ≤ ps.length := by simp at c2; omega
                show (decide (ps.length = rs.length) && (decide (1 ≤ ps.length) && decide (ps.length ≤ 23))) = _
                rw [decide_eq_false c2', Bool.false_and, Bool.and_false]
              rw [e] at q0; exact q0
          · have e : twoL (.tup [.lst ps, .lst rs]) = false := by
              have c1' : ¬ ps.length = rs.length := fun z => c1 (decide_eq_true (by omega))
              show (decide (ps.length = rs.length) && (decide (1 ≤ ps.length) && decide (ps.length ≤ 23))) = _
              rw [decide_eq_false c1', Bool.false_and]
            rw [e] at q0; exact q0
        | _ => first | exact q0 | cases hb
      | _ => first | exact q0 | cases ha
  | _ => first | exact q0 | (rw [pln] at hp; cases hp)
set_option maxHeartbeats 4000000 in
theorem okx_look_at_tree (T : Txt K mg A) : FnOk P w K mg base (CX1 P w) 3 A.f_look_at_tree A.d_look_at_tree ["thing"] (spOfX [false] false ((sdLookT A.c_NoTree))) := by
  have G_has_two_lists := ok_has_two_lists (P := P) (w := w) (base := base) T
  have G_is_between := ok_is_between (P := P) (w := w) (base := base) T
  have S := sc_look_at_tree
  refine fnX T.F_look_at_tree S ⟨[false], [false, false, false, false, false, false], false⟩ _ ?hl rfl rfl fun cdv Ar outer s H E hr => ⟨_, (qxs_cons (qx_if (qt_not (qt_val (qe_call (G_has_two_lists) (hr.mono (by decide)) rfl T.m_has_two_lists T.k_has_two_lists T.b_has_two_lists (qk_s (qe_var 0) qk_nil)))) (qxs_one (qx_raise1 (oki_NoTree T) (hr.mono (by decide)) T.bi_NoTree T.x_NoTree T.fi_NoTree T.kc_NoTree rfl T.m_NoTree (qa_cons qe_str (qa_cons qe_non qa_nil)))) qxs_nil)
      (qxs_cons (qx_of (qs_asg (qe_var 0) (qg_tup rfl (qgs_cons (qg_name (i := 1) S.nd rfl (Or.inl rfl)) (qgs_cons (qg_name (i := 2) S.nd rfl (Or.inl rfl)) qgs_nil)) (takes_cons1 (takes_cons1 takes_nil)))))
      (qxs_cons (qx_for rfl (qi_enum rfl T.z_enumerate (qa_cons (qe_var 1) qa_nil)) (qg_tup rfl (qgs_cons (qg_name (i := 3) S.nd rfl (Or.inl rfl)) (qgs_cons (qg_name (i := 4) S.nd rfl (Or.inl rfl)) qgs_nil)) (takes_cons1 (takes_cons1 takes_nil))) (qxs_one (qx_if (qt_not (qt_val (qe_call (G_is_between) (hr.mono (by decide)) rfl T.m_is_between T.k_is_between T.b_is_between (qk_s (qe_var 4) (qk_s qe_int (qk_s (qe_var 3) qk_nil)))))) (qxs_one (qx_raise1 (oki_NoTree T) (hr.mono (by decide)) T.bi_NoTree T.x_NoTree T.fi_NoTree T.kc_NoTree rfl T.m_NoTree (qa_cons qe_str (qa_cons (qe_var 3) qa_nil)))) qxs_nil)))
      (qxs_one (qx_for rfl (qi_enum rfl T.z_enumerate (qa_cons (qe_var 2) qa_nil)) (qg_tup rfl (qgs_cons (qg_name (i := 3) S.nd rfl (Or.inl rfl)) (qgs_cons (qg_name (i := 5) S.nd rfl (Or.inl rfl)) qgs_nil)) (takes_cons1 (takes_cons1 takes_nil))) (qxs_one (qx_if (qt_not (qt_val (qe_call (G_is_between) (hr.mono (by decide)) rfl T.m_is_between T.k_is_between T.b_is_between (qk_s (qe_var 5) (qk_s qe_int (qk_s (qe_globI (i := 1000000) rfl T.c_MOST_ROOM) qk_nil)))))) (qxs_one (qx_raise1 (oki_NoTree T) (hr.mono (by decide)) T.bi_NoTree T.x_NoTree T.fi_NoTree T.kc_NoTree rfl T.m_NoTree (qa_cons qe_str (qa_cons (qe_var 3) qa_nil)))) qxs_nil))))))), fun ds q qx h => ?_⟩
  case hl => intro ds q qx h; obtain ⟨d, rfl, _⟩ := h; rfl
  obtain ⟨d, rfl, hp, q0, x0⟩ := h
  refine ⟨d, rfl, hp, ?_⟩
  cases hT : twoL d with
  | false => exact ⟨rfl, fmt2 (fmt_str (by decide)) fmt_non, x0 _ _ (treeErr_no hT)⟩
  | true =>
    obtain ⟨ps, rs, rfl, hl, h1, h2⟩ := twoL_shape hT
    rw [treeErr_two hT] at q0 x0
    rw [pln, plns_cons, plns_cons, pln, pln] at hp
    refine ⟨fun i ρ => ∃ v1 v2 v3, ρ = [some (.tup [.lst ps, .lst rs]), some (.lst ps), some (.lst rs), v1, v2, v3] ∧ firstBad fPar ps 0 = firstBad fPar (ps.drop i) i, ⟨_, _, _, rfl, rfl⟩, ?_, ?_⟩
    · rintro i d ρ hd ⟨v1, v2, v3, rfl, hf⟩
      obtain ⟨d', hd', rfl⟩ := enuD_at hd
      have hi : i < ps.length := (List.getElem?_eq_some_iff.mp hd').1
      refine ⟨d', 0, (i : Int), rfl, pln_isS (plns_at hp.1 hd'), ?_⟩
      rw [firstBad_step hd'] at hf
      cases hb : btw 0 (i : Int) d' with
      | true =>
        rw [if_pos (show fPar i d' = true from hb)] at hf
        exact ⟨_, _, _, rfl, hf⟩
      | false =>
        rw [if_neg (show ¬ fPar i d' = true by show ¬ btw 0 (i : Int) d' = true; rw [hb]; decide)] at hf
        exact ⟨rfl, fmt2 (fmt_str (by decide)) (fmt_nat (Nat.lt_trans (show i < 23 by omega) (by decide))), x0 _ _ (by rw [hf])⟩
    · rintro ρ ⟨v1, v2, v3, rfl, hf⟩
      rw [show (enuD ps).length = ps.length by simp [enuD], List.drop_length] at hf
      have hf : firstBad fPar ps 0 = none := hf
      rw [hf] at q0 x0
      refine ⟨fun i ρ => ∃ v1 v2 v3, ρ = [some (.tup [.lst ps, .lst rs]), some (.lst ps), some (.lst rs), v1, v2, v3] ∧ firstBad fRoom rs 0 = firstBad fRoom (rs.drop i) i, ⟨_, _, _, rfl, rfl⟩, ?_, ?_⟩
      · rintro i d ρ hd ⟨v1, v2, v3, rfl, hg⟩
        obtain ⟨d', hd', rfl⟩ := enuD_at hd
        have hi : i < rs.length := (List.getElem?_eq_some_iff.mp hd').1
        refine ⟨d', 1, 1000000, rfl, pln_isS (plns_at hp.2.1 hd'), ?_⟩
        rw [firstBad_step hd'] at hg
        cases hb : btw 1 1000000 d' with
        | true =>
          rw [if_pos (show fRoom i d' = true from hb)] at hg
          exact ⟨_, _, _, rfl, hg⟩
        | false =>
          rw [if_neg (show ¬ fRoom i d' = true by show ¬ btw 1 1000000 d' = true; rw [hb]; decide)] at hg
          exact ⟨rfl, fmt2 (fmt_str (by decide)) (fmt_nat (Nat.lt_trans (show i < 23 by omega) (by decide))), x0 _ _ (by rw [hg])⟩
      · rintro ρ ⟨v1, v2, v3, rfl, hg⟩
        rw [show (enuD rs).length = rs.length by simp [enuD], List.drop_length] at hg
        have hg : firstBad fRoom rs 0 = none := hg
        rw [hg] at q0
        exact q0 rfl
set_option maxHeartbeats 4000000 in
theorem ok_is_place (T : Txt K mg A) : FnOk P w K mg base CX0 3 A.f_is_place A.d_is_place ["tree", "thing"] (spOf [false, false] false (sdPlace)) := by
  have G_is_between := ok_is_between (P := P) (w := w) (base := base) T
  have S := sc_is_place
  refine fnD T.F_is_place S ⟨[false, false], [false, false], false⟩ _ ?hl rfl rfl fun cdv Ar outer s H E hr => ⟨_, (qss_one (qs_ret (qe_call (G_is_between) (hr.mono (by decide)) rfl T.m_is_between T.k_is_between T.b_is_between (qk_s (qe_var 1) (qk_s qe_int (qk_s (qe_callB call_len_seq dLen rfl T.z_len bt_len (qa_cons (qe_ix ix_seq dIx (qe_var 0) qe_int (fun _ _ => rfl)) qa_nil)) qk_nil)))))), fun ds q h => ?_⟩
  case hl => intro ds q h; obtain ⟨ps, rs, d, rfl, _⟩ := h; rfl
  obtain ⟨ps, rs, d, rfl, hs, q0⟩ := h
  refine ⟨d, 0, ((ps.map D.int).length : Int), rfl, hs, ?_⟩
  rw [List.length_map]; exact q0
set_option maxHeartbeats 4000000 in
theorem ok_are_ends (T : Txt K mg A) : FnOk P w K mg base CX0 4 A.f_are_ends A.d_are_ends ["tree", "one", "other"] (spOf [false, false, false] false (sdEndsD)) := by
  have G_is_place := ok_is_place (P := P) (w := w) (base := base) T
  have S := sc_are_ends
  refine fnD T.F_are_ends S ⟨[false, false, false], [false, false, false], false⟩ _ ?hl rfl rfl fun cdv Ar outer s H E hr => ⟨_, (qss_one (qs_ret (qe_and (qe_call (G_is_place) (hr.mono (by decide)) rfl T.m_is_place T.k_is_place T.b_is_place (qk_s (qe_var 0) (qk_s (qe_var 1) qk_nil))) (qe_and (qe_call (G_is_place) (hr.mono (by decide)) rfl T.m_is_place T.k_is_place T.b_is_place (qk_s (qe_var 0) (qk_s (qe_var 2) qk_nil))) (qe_one (qe_cmp (op_neD hr.units) dNe (qe_var 1) (qe_var 2) (nomark _))))))), fun ds q h => ?_⟩
  case hl => intro ds q h; obtain ⟨ps, rs, a, b, rfl, _⟩ := h; rfl
  obtain ⟨ps, rs, a, b, rfl, ha, hb, q0⟩ := h
  refine ⟨ps, rs, a, rfl, pln_isS ha, ?_⟩
  unfold endsB at q0
  cases h1 : btw 0 ps.length a with
  | false => rw [h1, Bool.false_and] at q0; exact q0
  | true =>
    rw [h1, Bool.true_and] at q0
    refine ⟨ps, rs, b, rfl, pln_isS hb, ?_⟩
    cases h2 : btw 0 ps.length b with
    | false => rw [h2, Bool.false_and] at q0; exact q0
    | true =>
      rw [h2, Bool.true_and] at q0
      obtain ⟨i, rfl, _⟩ := btw_shape h1
      obtain ⟨j, rfl, _⟩ := btw_shape h2
      exact q0
set_option maxHeartbeats 4000000 in
theorem ok_is_ask (T : Txt K mg A) : FnOk P w K mg base CX0 5 A.f_is_ask A.d_is_ask ["tree", "thing"] (spOf [false, false] false (sdIsAskD)) := by
  have G_are_ends := ok_are_ends (P := P) (w := w) (base := base) T
  have G_is_between := ok_is_between (P := P) (w := w) (base := base) T
  have S := sc_is_ask
  refine fnD T.F_is_ask S ⟨[false, false], [false, false, false, false, false, false], false⟩ _ ?hl rfl rfl fun cdv Ar outer s H E hr => ⟨_, (qss_cons (qs_if (QW.qt (qw_or (qt_not (qt_val (qe_isT rfl T.z_isinstance bt_isinstance (qe_var 1) (pe_bltn (v := .ty "tuple") rfl T.z_tuple bt_tuple rfl)))) (qw_or1 (qt_cmp (op_neD hr.units) dNe (qe_callB call_len_seq dLen rfl T.z_len bt_len (qa_cons (qe_var 1) qa_nil)) qe_int (nomark _))))) (qss_one (qs_ret qe_bl)) qss_nil)
      (qss_cons (qs_asg (qe_var 1) (qg_tup rfl (qgs_cons (qg_name (i := 2) S.nd rfl (Or.inl rfl)) (qgs_cons (qg_name (i := 3) S.nd rfl (Or.inl rfl)) (qgs_cons (qg_name (i := 4) S.nd rfl (Or.inl rfl)) (qgs_cons (qg_name (i := 5) S.nd rfl (Or.inl rfl)) qgs_nil)))) (takes_cons1 (takes_cons1 (takes_cons1 (takes_cons1 takes_nil))))))
      (qss_one (qs_ret (qe_and (qe_call (G_are_ends) (hr.mono (by decide)) rfl T.m_are_ends T.k_are_ends T.b_are_ends (qk_s (qe_var 0) (qk_s (qe_var 2) (qk_s (qe_var 3) qk_nil)))) (qe_and (qe_call (G_is_between) (hr.mono (by decide)) rfl T.m_is_between T.k_is_between T.b_is_between (qk_s (qe_var 4) (qk_s qe_int (qk_s (qe_globI (i := 1000000) rfl T.c_MOST_SIZE) qk_nil)))) (qe_one (qe_call (G_is_between) (hr.mono (by decide)) rfl T.m_is_between T.k_is_between T.b_is_between (qk_s (qe_var 5) (qk_s qe_int (qk_s (qe_globI (i := 1000000000000) rfl T.c_MOST_WORTH) qk_nil))))))))))), fun ds q h => ?_⟩
  case hl => intro ds q h; obtain ⟨ps, rs, d, rfl, _⟩ := h; rfl
  obtain ⟨ps, rs, d, rfl, hp, q0⟩ := h
  cases d with
  | tup ds =>
    refine (ite2 (c := (!decide ((ds.length : Int) = 4)) = true) (fun c => ?_) (fun c => ?_))
    · have : askB ps.length (.tup ds) = false := by
        cases h : askB ps.length (.tup ds) with
        | false => rfl
        | true =>
          obtain ⟨a, e, _⟩ := askB_of h
          unfold dAsk at e; cases e; simp at c
      rw [this] at q0; exact q0
    · obtain ⟨a, b, s', w', rfl⟩ : ∃ a b s w, ds = [a, b, s, w] := by
        have hl : ds.length = 4 := by simp at c; omega
        match ds, hl with
        | [a, b, s, w], _ => exact ⟨a, b, s, w, rfl⟩
      rw [pln, plns_cons, plns_cons, plns_cons, plns_cons] at hp
      have e : askB ps.length (.tup [a, b, s', w']) = (endsB ps.length a b && (btw 1 1000000 s' && btw 1 1000000000000 w')) := rfl
      rw [e] at q0
      refine ⟨ps, rs, a, b, rfl, hp.1, hp.2.1, ?_⟩
      cases h1 : endsB ps.length a b with
      | false => rw [h1, Bool.false_and] at q0; exact q0
      | true =>
        rw [h1, Bool.true_and] at q0
        refine ⟨s', 1, 1000000, rfl, pln_isS hp.2.2.1, ?_⟩
        cases h2 : btw 1 1000000 s' with
        | false => rw [h2, Bool.false_and] at q0; exact q0
        | true =>
          rw [h2, Bool.true_and] at q0
          exact ⟨w', 1, 1000000000000, rfl, pln_isS hp.2.2.2.1, q0⟩
  | _ => first | exact q0 | (rw [pln] at hp; cases hp)
set_option maxHeartbeats 4000000 in
theorem okx_look_at_asks (T : Txt K mg A) : FnOk P w K mg base (CX1 P w) 6 A.f_look_at_asks A.d_look_at_asks ["tree", "thing"] (spOfX [false, false] false ((sdAsksX A.c_NoTree A.c_NoAsks))) := by
  have G_is_ask := ok_is_ask (P := P) (w := w) (base := base) T
  have GX_look_at_tree := okx_look_at_tree (P := P) (w := w) (base := base) T
  have S := sc_look_at_asks
  refine fnX T.F_look_at_asks S ⟨[false, false], [false, false, false, false], false⟩ _ ?hl rfl rfl fun cdv Ar outer s H E hr => ⟨_, (qxs_cons (qx_drop (qxe_call (GX_look_at_tree) (hr.mono (by decide)) rfl T.m_look_at_tree T.k_look_at_tree T.b_look_at_tree (qk_s (qe_var 0) qk_nil)))
      (qxs_cons (qx_if (QW.qt (qw_or (qt_not (qt_val (qe_isT rfl T.z_isinstance bt_isinstance (qe_var 1) (pe_bltn (v := .ty "list") rfl T.z_list bt_list rfl)))) (qw_or1 (qt_cmp op_gt dB (qe_callB call_len_seq dLen rfl T.z_len bt_len (qa_cons (qe_var 1) qa_nil)) (qe_globI (i := 30) rfl T.c_MOST_ASKS) (nomark _))))) (qxs_one (qx_raise1 (oki_NoAsks T) (hr.mono (by decide)) T.bi_NoAsks T.x_NoAsks T.fi_NoAsks T.kc_NoAsks rfl T.m_NoAsks (qa_cons qe_non qa_nil))) qxs_nil)
      (qxs_one (qx_for rfl (qi_enum rfl T.z_enumerate (qa_cons (qe_var 1) qa_nil)) (qg_tup rfl (qgs_cons (qg_name (i := 2) S.nd rfl (Or.inl rfl)) (qgs_cons (qg_name (i := 3) S.nd rfl (Or.inl rfl)) qgs_nil)) (takes_cons1 (takes_cons1 takes_nil))) (qxs_one (qx_if (qt_not (qt_val (qe_call (G_is_ask) (hr.mono (by decide)) rfl T.m_is_ask T.k_is_ask T.b_is_ask (qk_s (qe_var 0) (qk_s (qe_var 3) qk_nil))))) (qxs_one (qx_raise1 (oki_NoAsks T) (hr.mono (by decide)) T.bi_NoAsks T.x_NoAsks T.fi_NoAsks T.kc_NoAsks rfl T.m_NoAsks (qa_cons (qe_var 2) qa_nil))) qxs_nil)))))), fun ds q qx h => ?_⟩
  case hl => intro ds q qx h; obtain ⟨t, x, rfl, _⟩ := h; rfl
  obtain ⟨t, x, rfl, h⟩ := h
  rcases h with ⟨p, n, hp, he, x0⟩ | ⟨ps, rs, rfl, hT, hx, h⟩
  · refine ⟨t, rfl, hp, fun z => ?_, fun p' n' z => ?_⟩
    · rw [he] at z; cases z
    · rw [he] at z; cases z; exact x0
  · refine ⟨dPair ps rs, rfl, pln_pair ps rs, fun _ => ?_, fun p' n' z => by rw [treeErr_tree hT] at z; cases z⟩
    have no : (∃ n, some D.non = some n ∧ qx A.c_NoAsks nNum [n] []) ∨ (some D.non = none ∧ q .non []) → qx A.c_NoAsks nNum [.non] [] := fun h => by
      rcases h with ⟨n, e, z⟩ | ⟨e, _⟩
      · cases e; exact z
      · cases e
    cases x with
    | lst ds =>
      have e : asksErr ps.length (.lst ds) = if ds.length ≤ 30 then (firstBad (fAsk ps.length) ds 0).map (fun (i : Nat) => D.int i) else some .non := rfl
      rw [e] at h
      refine (ite2 (c := decide ((30 : Int) < (ds.length : Int)) = true) (fun c => ?_) (fun c => ?_))
      · have c' : ¬ ds.length ≤ 30 := by have := of_decide_eq_true c; omega
        rw [if_neg c'] at h
        exact ⟨rfl, fmt1 fmt_non, no h⟩
      · have c' : ds.length ≤ 30 := by have : ¬ ((30 : Int) < (ds.length : Int)) := fun z => c (decide_eq_true z); omega
        rw [if_pos c'] at h
        rw [pln] at hx
        refine ⟨fun i ρ => ∃ v1 v2, ρ = [some (dPair ps rs), some (.lst ds), v1, v2] ∧ firstBad (fAsk ps.length) ds 0 = firstBad (fAsk ps.length) (ds.drop i) i, ⟨_, _, rfl, rfl⟩, ?_, ?_⟩
        · rintro i d ρ hd ⟨v1, v2, rfl, hf⟩
          obtain ⟨d', hd', rfl⟩ := enuD_at hd
          have hi : i < ds.length := (List.getElem?_eq_some_iff.mp hd').1
          refine ⟨ps, rs, d', rfl, plns_at hx hd', ?_⟩
          rw [firstBad_step hd'] at hf
          cases hb : askB ps.length d' with
          | true =>
            rw [if_pos (show fAsk ps.length i d' = true from hb)] at hf
            exact ⟨_, _, rfl, hf⟩
          | false =>
            rw [if_neg (show ¬ fAsk ps.length i d' = true by show ¬ askB ps.length d' = true; rw [hb]; decide)] at hf
            rw [hf] at h
            refine ⟨rfl, fmt1 (fmt_nat (Nat.lt_trans (show i < 31 by omega) (by decide))), ?_⟩
            rcases h with ⟨n, e, z⟩ | ⟨e, _⟩
            · cases e; exact z
            · cases e
        · rintro ρ ⟨v1, v2, rfl, hf⟩
          rw [show (enuD ds).length = ds.length by simp [enuD], List.drop_length] at hf
          have hf : firstBad (fAsk ps.length) ds 0 = none := hf
          rw [hf] at h
          rcases h with ⟨n, e, z⟩ | ⟨_, z⟩
          · cases e
          · exact z
    | _ => first | exact ⟨rfl, fmt1 fmt_non, no h⟩ | (rw [pln] at hx; cases hx)
set_option maxHeartbeats 4000000 in
theorem ok_l_cell_at (T : Txt K mg A) : FnOk P w K mg base CX0 1 A.f_l_cell_at A.d_l_cell_at ["_law_script", "_law_k"] (spOf [false, false] false (sdCell K)) := by
  have S := sc_l_cell_at
  refine fnD T.F_l_cell_at S ⟨[false, false], [false, false], false⟩ _ ?hl rfl rfl fun cdv Ar outer s H E hr => ⟨_, (qss_cons (qs_if (qt_cmp op_lt dB (qe_var 1) (qe_callB call_len_seq dLen rfl T.z_len bt_len (qa_cons (qe_var 0) qa_nil)) (nomark _)) (qss_one (qs_ret (qe_ix ix_seq dIx (qe_var 0) (qe_var 1) (fun _ _ => rfl)))) qss_nil)
      (qss_one (qs_ret qe_int))), fun ds q h => ?_⟩
  case hl => intro ds q h; obtain ⟨φ, ns, k, rfl, _⟩ := h; rfl
  obtain ⟨φ, ns, k, rfl, hφ, h0, q0⟩ := h
  refine ⟨hφ, ?_⟩
  refine (ite2 (c := decide (k < (ns.length : Int)) = true) (fun c => ?_) (fun c => ?_))
  · have c' : k < ns.length := by simpa using c
    refine ⟨hφ, ?_⟩
    show (match atI ns k with | some n => q (.int n) [] | none => False)
    rw [atI_ns h0 c']; exact q0
  · have c' : ns.length ≤ k.toNat := by simp at c; omega
    have e : cellZ ns k = 0 := by unfold cellZ; rw [List.getD_eq_getElem?_getD, List.getElem?_eq_none c']; rfl
    rw [e] at q0; exact q0
set_option maxHeartbeats 4000000 in
theorem ok_l_pool (T : Txt K mg A) : FnOk P w K mg base CX0 2 A.f_l_pool A.d_l_pool ["_law_script", "_law_k"] (spOf [false, false] true (sdPool K)) := by
  have G_l_cell_at := ok_l_cell_at (P := P) (w := w) (base := base) T
  have S := sc_l_pool
  refine fnD T.F_l_pool S ⟨[false, false], [false, false, false, false], true⟩ _ ?hl rfl rfl fun cdv Ar outer s H E hr => ⟨_, (qss_cons (qs_set (i := 2) S.nd rfl (Or.inl rfl) (qe_call (G_l_cell_at) (hr.mono (by decide)) rfl T.m_l_cell_at T.k_l_cell_at T.b_l_cell_at (qk_s (qe_var 0) (qk_s (qe_var 1) qk_nil))))
      (qss_cons (qs_set (i := 3) S.nd rfl (Or.inl rfl) (qe_op op_add dI (qe_op op_add dI (qe_op op_add dI (qe_op op_mul dIC (qe_op op_mod dIC (qe_var 2) qe_int) qe_int) (qe_op op_mul dIC (qe_op op_mul dIC qe_int (qe_var 1)) (qe_var 1))) (qe_op op_mul dIC qe_int (qe_var 1))) qe_int))
      (qss_cons (qs_if (qt_cmp op_lt dB (qe_var 2) (qe_op op_pow dIC qe_int qe_int) (nomark _)) (qss_one (qs_set (i := 2) S.nd rfl (Or.inl rfl) qe_int)) qss_nil)
      (qss_one (qs_retM (QF.qm (qf_lst (qa_cons (qe_var 2) (qa_cons (qe_op op_mod dIC (qe_var 3) qe_int) qa_nil))))))))), fun ds q h => ?_⟩
  case hl => intro ds q h; obtain ⟨φ, ns, k, rfl, _⟩ := h; rfl
  obtain ⟨φ, ns, k, rfl, hφ, h0, h1, q0⟩ := h
  refine ⟨φ, ns, k, rfl, hφ, h0, ?_⟩
  generalize cellZ ns k = z
  refine ⟨(show (0 : Int) < 2147483629 by decide), Or.inr ⟨by decide, by decide⟩, Or.inl ⟨by decide, by decide⟩, Or.inr ⟨by omega, by omega⟩, Or.inl ⟨by decide, by decide⟩, ?_⟩
  refine ⟨⟨by decide, by decide, by decide⟩, ?_⟩
  refine (ite2 (c := decide (z < 10 ^ 18) = true) (fun c => ?_) (fun c => ?_))
  · exact ⟨(show (0 : Int) < 2147483647 by decide), rfl, q0 _ _ (Int.le_refl 0)⟩
  · have c' : (10 : Int) ^ 18 ≤ z := by simpa using c
    exact ⟨(show (0 : Int) < 2147483647 by decide), rfl, q0 _ _ (by omega)⟩
set_option maxHeartbeats 4000000 in
theorem ok_l_take (T : Txt K mg A) : FnOk P w K mg base CX0 1 A.f_l_take A.d_l_take ["_law_pool_here", "_law_many"] (spOf [true, false] false (sdTake)) := by
  have S := sc_l_take
  refine fnD T.F_l_take S ⟨[true, false], [true, false, false, false, false], false⟩ _ ?hl rfl rfl fun cdv Ar outer s H E hr => ⟨_, (qss_cons (qs_if (QT.bor [0] (qt_cmp op_gt dB (qe_ix ix_seq dIx (qe_var 0) qe_int (fun _ _ => rfl)) qe_int (nomark _))) (qss_cons (qs_set (i := 2) S.nd rfl (Or.inl rfl) (QE.bor [0] (qe_op op_mod dIC (qe_ix ix_seq dIx (qe_var 0) qe_int (fun _ _ => rfl)) (qe_var 1))))
      (qss_cons (qs_setI (i := 0) rfl (QF.bor [0] (QE.qf (qe_op op_fdivB dIC (qe_ix ix_seq dIx (qe_var 0) qe_int (fun _ _ => rfl)) (qe_var 1)))) qe_int)
      (qss_one (qs_ret (qe_var 2))))) qss_nil)
      (qss_cons (qs_set (i := 3) S.nd rfl (Or.inl rfl) qe_int)
      (qss_cons (qs_for PassesOwn.never rfl (qi_range1 rfl T.z_range (qa_cons (qe_op op_add dI qe_int (qe_op op_mul dIC qe_int (qe_callTy call_int1 dInt1 rfl T.z_int bt_int (qa_cons (qe_cmp op_gt dB (qe_var 1) (qe_op op_pow dIC qe_int qe_int) (nomark _)) qa_nil)))) qa_nil)) (qg_name (i := 4) S.nd rfl (Or.inl rfl)) (qss_cons (qs_setI (i := 0) rfl (QF.bor [0] (QE.qf (qe_op op_mod dIC (qe_op op_add dI (qe_op op_mul dIC (qe_ix ix_seq dIx (qe_var 0) qe_int (fun _ _ => rfl)) qe_int) qe_int) qe_int))) qe_int)
      (qss_one (qs_set (i := 3) S.nd rfl (Or.inl rfl) (QE.bor [0] (qe_op op_add dI (qe_op op_mul dIC (qe_var 3) qe_int) (qe_op op_mod dIC (qe_op op_mul dIC (qe_ix ix_seq dIx (qe_var 0) qe_int (fun _ _ => rfl)) qe_int) qe_int)))))))
      (qss_one (qs_ret (qe_op op_mod dIC (qe_op op_fdiv dIC (qe_var 3) qe_int) (qe_var 1))))))), fun ds q h => ?_⟩
  case hl => intro ds q h; obtain ⟨c, m, many, rfl, _⟩ := h; rfl
  obtain ⟨c, m, many, rfl, h0, hm, hs, q0⟩ := h
  refine (ite2 (c := decide (0 < c) = true) (fun c1 => ?_) (fun c1 => ?_))
  · refine ⟨hm, rfl, ?_⟩
    refine ⟨⟨hm, hs⟩, rfl, ?_⟩
    exact q0 _ (c / many) m (Int.emod_nonneg _ (Int.ne_of_gt hm)) (Int.emod_lt_of_pos _ hm) (Int.ediv_nonneg h0 (Int.le_of_lt hm))
  · refine ⟨⟨by decide, by decide, by decide⟩, Or.inl ⟨by decide, by decide⟩, ⟨by split <;> decide, by split <;> decide⟩, ?_⟩
    refine ⟨fun i ρ => ∃ (v : Option D) (m' made : Int), ρ = [some (dInts [c, m']), some (.int many), none, some (.int made), v], ⟨_, m, 0, rfl⟩, ?_, ?_⟩
    · rintro i d ρ hd ⟨v, m', made, rfl⟩
      obtain ⟨_, rfl⟩ := rngD_at hd
      refine ⟨Or.inr ⟨by decide, by decide⟩, (show (0 : Int) < 2147483587 by decide), rfl, ?_⟩
      refine ⟨Or.inr ⟨by decide, by decide⟩, ⟨Or.inr ⟨by decide, by decide⟩, (show (0 : Int) < 2147483629 by decide), ?_⟩⟩
      exact ⟨rfl, _, _, _, rfl⟩
    · rintro ρ ⟨v, m', made, rfl⟩
      refine ⟨⟨by decide, by decide⟩, hm, ?_⟩
      exact q0 _ c m' (Int.emod_nonneg _ (Int.ne_of_gt hm)) (Int.emod_lt_of_pos _ hm) h0
set_option maxHeartbeats 4000000 in
theorem ok_l_tree (T : Txt K mg A) : FnOk P w K mg base CX0 2 A.f_l_tree A.d_l_tree ["_law_pool_here", "_law_most", "_law_sizes"] (spOf [true, false, false] true (sdTree)) := by
  have G_l_take := ok_l_take (P := P) (w := w) (base := base) T
  have S := sc_l_tree
  refine fnD T.F_l_tree S ⟨[true, false, false], [true, false, false, false, true, true, false, false], true⟩ _ ?hl rfl rfl fun cdv Ar outer s H E hr => ⟨_, (qss_cons (qs_set (i := 3) S.nd rfl (Or.inl rfl) (qe_call (G_l_take) (hr.mono (by decide)) rfl T.m_l_take T.k_l_take T.b_l_take (qk_m 0 (qk_s qe_int qk_nil))))
      (qss_cons (qs_setO (i := 4) S.nd rfl (Or.inl rfl) (qf_lst qa_nil))
      (qss_cons (qs_setO (i := 5) S.nd rfl (Or.inl rfl) (qf_lst qa_nil))
      (qss_cons (qs_set (i := 6) S.nd rfl (Or.inl rfl) (qe_ix ix_seq dIx (qe_var 2) (qe_call (G_l_take) (hr.mono (by decide)) rfl T.m_l_take T.k_l_take T.b_l_take (qk_m 0 (qk_s (qe_callB call_len_seq dLen rfl T.z_len bt_len (qa_cons (qe_var 2) qa_nil)) qk_nil))) (fun _ _ => rfl)))
      (qss_cons (qs_for PassesOwn.never rfl (qi_range2 rfl T.z_range (qa_cons qe_int (qa_cons (qe_op op_add dI qe_int (qe_call (G_l_take) (hr.mono (by decide)) rfl T.m_l_take T.k_l_take T.b_l_take (qk_m 0 (qk_s (qe_var 1) qk_nil)))) qa_nil))) (qg_name (i := 7) S.nd rfl (Or.inl rfl)) (qss_cons (qs_append (i := 4) rfl (QE.qf (qe_ix ix_seq dIx (qe_lst (qa_cons (qe_call (G_l_take) (hr.mono (by decide)) rfl T.m_l_take T.k_l_take T.b_l_take (qk_m 0 (qk_s (qe_var 7) qk_nil))) (qa_cons (qe_op op_sub dI (qe_var 7) qe_int) (qa_cons qe_int (qa_cons (qe_callB (call_max2 rfl) dMax rfl T.z_max bt_max (qa_cons qe_int (qa_cons (qe_op op_sub dI (qe_op op_sub dI (qe_var 7) qe_int) (qe_op op_mod dIC (qe_var 7) qe_int)) qa_nil))) (qa_cons (qe_op op_fdiv dIC (qe_var 7) qe_int) qa_nil)))))) (qe_var 3) (fun _ _ => rfl))))
      (qss_one (qs_append (i := 5) rfl (QE.qf (qe_op op_add dI qe_int (qe_call (G_l_take) (hr.mono (by decide)) rfl T.m_l_take T.k_l_take T.b_l_take (qk_m 0 (qk_s (qe_var 6) qk_nil)))))))))
      (qss_one (qs_retM (qm_tup (qms_cons (qm_move 4) (qms_cons (qm_move 5) qms_nil)))))))))), fun ds q h => ?_⟩
  case hl => intro ds q h; obtain ⟨c, m, most, sizes, rfl, _⟩ := h; rfl
  obtain ⟨c, m, most, sizes, rfl, h0, hm0, hm1, hs0, hs1, hs, q0⟩ := h
  refine ⟨c, m, 5, rfl, h0, by decide, sm_of (n := 5) (by decide) (by decide +kernel), fun w0 c1 m1 w00 w01 c10 => ?_⟩
  refine ⟨rfl, rfl, ?_⟩
  refine ⟨c1, m1, ((sizes.map D.int).length : Int), rfl, c10, by rw [len_ints]; omega, sm_of (n := 100) (by rw [len_ints]; omega) (by decide +kernel), fun r1 c2 m2 r10 r11 c20 => ?_⟩
  rw [len_ints] at r11
  refine atD_of (atI_ints r10 (by omega)) ?_
  have hz := hs _ (L2.getD_mem (show r1.toNat < sizes.length by omega))
  generalize sizes.getD r1.toNat 0 = z at hz
  refine ⟨c2, m2, most, rfl, c20, hm0, sm_of (n := 23) (by omega) (by decide +kernel), fun r2 c3 m3 r20 r21 c30 => ?_⟩
  refine ⟨⟨by decide, by decide, by omega, by omega⟩, ?_⟩
  refine ⟨fun i ρ => ∃ (ps rs : List Int) (c m : Int) (v : Option D), ρ = [some (dInts [c, m]), some (.int most), some (dInts sizes), some (.int w0), some (dInts ps), some (dInts rs), some (.int z), v] ∧ 0 ≤ c ∧ ps.length = i ∧ rs.length = i ∧
      (∀ (j : Nat) (x : Int), ps[j]? = some x → 0 ≤ x ∧ x ≤ j) ∧ (∀ (j : Nat) (x : Int), rs[j]? = some x → 1 ≤ x ∧ x ≤ 1000000), ⟨[], [], c3, m3, _, rfl, c30, rfl, rfl, (fun j x h => by simp at h), (fun j x h => by simp at h)⟩, ?_, ?_⟩
  · rintro i d ρ hd ⟨ps, rs, c4, m4, v, rfl, c40, lp, lr, hpar, hroom⟩
    obtain ⟨hi, rfl⟩ := rngD_at hd
    have hin : i < 23 := by omega
    refine ⟨c4, m4, 1 + (i : Int), rfl, c40, by omega, sm_of (n := 100) (by omega) (by decide +kernel), fun r3 c5 m5 r30 r31 c50 => ?_⟩
    refine ⟨(show (0 : Int) < 2 by decide), ⟨(show (0 : Int) < 2 by decide), (show (2 : Int) < 1073741824 by decide)⟩, ?_⟩
    obtain ⟨y, hy, y1, y2⟩ : ∃ y : Int, atI [D.int r3, D.int (1 + (i : Int) - 1), D.int 0, D.int (if 1 + (i : Int) - 1 - (1 + (i : Int)) % 2 > 0 then 1 + (i : Int) - 1 - (1 + (i : Int)) % 2 else 0), D.int ((1 + (i : Int)) / 2)] w0 = some (.int y) ∧ 0 ≤ y ∧ y ≤ i := by
      have : w0 = 0 ∨ w0 = 1 ∨ w0 = 2 ∨ w0 = 3 ∨ w0 = 4 := by omega
      rcases this with rfl | rfl | rfl | rfl | rfl
      · exact ⟨_, rfl, by omega, by omega⟩
      · exact ⟨_, rfl, by omega, by omega⟩
      · exact ⟨_, rfl, by omega, by omega⟩
      · refine ⟨_, rfl, ?_, ?_⟩ <;> split <;> omega
      · exact ⟨_, rfl, by omega, by omega⟩
    refine atD_of hy ?_
    refine ⟨rfl, by rw [len_ints]; omega, ?_⟩
    refine ⟨c5, m5, z, rfl, c50, by omega, sm_of (n := 1000000) (by omega) (by decide +kernel), fun r4 c6 m6 r40 r41 c60 => ?_⟩
    refine ⟨rfl, by rw [len_ints]; omega, ?_⟩
    refine ⟨ps ++ [y], rs ++ [1 + r4], c6, m6, some (.int (1 + (i : Int))), ?_, c60, by rw [List.length_append, lp]; rfl, by rw [List.length_append, lr]; rfl, snoc_at hpar ⟨y1, by omega⟩, snoc_at hroom ⟨by omega, by omega⟩⟩
    rw [← ints_snoc, ← ints_snoc]; rfl
  · rintro ρ ⟨ps, rs, c4, m4, v, rfl, c40, lp, lr, hpar, hroom⟩
    rw [rngD_len] at lp lr
    exact q0 ps rs c4 m4 ⟨by omega, by omega, by omega, hpar, hroom⟩ (by omega) c40
set_option maxHeartbeats 4000000 in
theorem ok_l_asks (T : Txt K mg A) : FnOk P w K mg base CX0 2 A.f_l_asks A.d_l_asks ["_law_pool_here", "_law_tree_here", "_law_least", "_law_most", "_law_sizes"] (spOf [true, false, false, false, false] true (sdAsksG)) := by
  have G_l_take := ok_l_take (P := P) (w := w) (base := base) T
  have S := sc_l_asks
  refine fnD T.F_l_asks S ⟨[true, false, false, false, false], [true, false, false, false, false, false, true, false, false, false, false, false], true⟩ _ ?hl rfl rfl fun cdv Ar outer s H E hr => ⟨_, (qss_cons (qs_set (i := 5) S.nd rfl (Or.inl rfl) (qe_op op_add dI qe_int (qe_callB call_len_seq dLen rfl T.z_len bt_len (qa_cons (qe_ix ix_seq dIx (qe_var 1) qe_int (fun _ _ => rfl)) qa_nil))))
      (qss_cons (qs_setO (i := 6) S.nd rfl (Or.inl rfl) (qf_lst qa_nil))
      (qss_cons (qs_for PassesOwn.never rfl (qi_range1 rfl T.z_range (qa_cons (qe_op op_add dI (qe_var 2) (qe_call (G_l_take) (hr.mono (by decide)) rfl T.m_l_take T.k_l_take T.b_l_take (qk_m 0 (qk_s (qe_op op_add dI (qe_op op_sub dI (qe_var 3) (qe_var 2)) qe_int) qk_nil)))) qa_nil)) (qg_name (i := 7) S.nd rfl (Or.inl rfl)) (qss_cons (qs_set (i := 8) S.nd rfl (Or.inl rfl) (qe_call (G_l_take) (hr.mono (by decide)) rfl T.m_l_take T.k_l_take T.b_l_take (qk_m 0 (qk_s (qe_var 5) qk_nil))))
      (qss_cons (qs_set (i := 9) S.nd rfl (Or.inl rfl) (qe_op op_mod dIC (qe_op op_add dI (qe_op op_add dI (qe_var 8) qe_int) (qe_call (G_l_take) (hr.mono (by decide)) rfl T.m_l_take T.k_l_take T.b_l_take (qk_m 0 (qk_s (qe_op op_sub dI (qe_var 5) qe_int) qk_nil)))) (qe_var 5)))
      (qss_cons (qs_set (i := 10) S.nd rfl (Or.inl rfl) (qe_op op_add dI qe_int (qe_call (G_l_take) (hr.mono (by decide)) rfl T.m_l_take T.k_l_take T.b_l_take (qk_m 0 (qk_s (qe_ix ix_seq dIx (qe_var 4) (qe_call (G_l_take) (hr.mono (by decide)) rfl T.m_l_take T.k_l_take T.b_l_take (qk_m 0 (qk_s (qe_callB call_len_seq dLen rfl T.z_len bt_len (qa_cons (qe_var 4) qa_nil)) qk_nil))) (fun _ _ => rfl)) qk_nil)))))
      (qss_cons (qs_set (i := 11) S.nd rfl (Or.inl rfl) (qe_op op_add dI qe_int (qe_call (G_l_take) (hr.mono (by decide)) rfl T.m_l_take T.k_l_take T.b_l_take (qk_m 0 (qk_s (qe_ix ix_seq dIx (qe_lst (qa_cons qe_int (qa_cons qe_int (qa_cons (qe_op op_pow dIC qe_int qe_int) (qa_cons (qe_op op_pow dIC qe_int qe_int) qa_nil))))) (qe_call (G_l_take) (hr.mono (by decide)) rfl T.m_l_take T.k_l_take T.b_l_take (qk_m 0 (qk_s qe_int qk_nil))) (fun _ _ => rfl)) qk_nil)))))
      (qss_one (qs_append (i := 6) rfl (QE.qf (qe_tup (qa_cons (qe_var 8) (qa_cons (qe_var 9) (qa_cons (qe_var 10) (qa_cons (qe_var 11) qa_nil)))))))))))))
      (qss_one (qs_retM (qm_move 6)))))), fun ds q h => ?_⟩
  case hl => intro ds q h; obtain ⟨c, m, ps, rs, least, most, sizes, rfl, _⟩ := h; rfl
  obtain ⟨c, m, ps, rs, least, most, sizes, rfl, h0, hT, hl0, hlm, hm1, hs0, hs1, hs, q0⟩ := h
  have hi := hT.hi
  have hlo := hT.lo
  refine ⟨rfl, ?_⟩
  refine ⟨c, m, most - least + 1, rfl, h0, by omega, sm_of (n := 100) (by omega) (by decide +kernel), fun r c1 m1 r0 r1 c10 => ?_⟩
  refine ⟨⟨by omega, by omega⟩, ?_⟩
  refine ⟨fun i ρ => ∃ (as : List Ask) (c m : Int) (v1 v2 v3 v4 v5 : Option D), ρ = [some (dInts [c, m]), some (dPair ps rs), some (.int least), some (.int most), some (dInts sizes), some (.int (1 + ((ps.map D.int).length : Int))), some (dAsks as), v1, v2, v3, v4, v5] ∧ 0 ≤ c ∧ as.length = i ∧ (∀ a ∈ as, AskOk ps a) ∧ (∀ a ∈ as, ∃ s ∈ sizes, a.size ≤ s), ⟨[], c1, m1, _, _, _, _, _, rfl, c10, rfl, (fun a h => by cases h), (fun a h => by cases h)⟩, ?_, ?_⟩
  · rintro i d ρ hd ⟨as, c2, m2, v1, v2, v3, v4, v5, rfl, c20, la, hok, hsz⟩
    obtain ⟨hi2, rfl⟩ := rngD_at hd
    have hi3 : i < 30 := by omega
    refine ⟨c2, m2, 1 + ((ps.map D.int).length : Int), rfl, c20, by omega, sm_of (n := 100) (by rw [len_ints]; omega) (by decide +kernel), fun a c3 m3 a0 a1 c30 => ?_⟩
    rw [len_ints] at a1
    refine ⟨c3, m3, 1 + ((ps.map D.int).length : Int) - 1, rfl, c30, by rw [len_ints]; omega, sm_of (n := 100) (by rw [len_ints]; omega) (by decide +kernel), fun r c4 m4 r0 r1 c40 => ?_⟩
    rw [len_ints] at r1
    refine ⟨(show (0 : Int) < 1 + ((ps.map D.int).length : Int) by omega), ?_⟩
    refine ⟨c4, m4, ((sizes.map D.int).length : Int), rfl, c40, by rw [len_ints]; omega, sm_of (n := 100) (by rw [len_ints]; omega) (by decide +kernel), fun r2 c5 m5 r20 r21 c50 => ?_⟩
    rw [len_ints] at r21
    refine atD_of (atI_ints r20 (by omega)) ?_
    have hzm := L2.getD_mem (show r2.toNat < sizes.length by omega)
    have hz := hs _ hzm
    generalize sizes.getD r2.toNat 0 = z at hz hzm
    refine ⟨c5, m5, z, rfl, c50, by omega, sm_of (n := 1000000) (by omega) (by decide +kernel), fun s c6 m6 s0 s1 c60 => ?_⟩
    refine ⟨⟨by decide, by decide, by decide⟩, ⟨by decide, by decide, by decide⟩, ?_⟩
    refine ⟨c6, m6, 4, rfl, c60, by decide, sm_of (n := 4) (by decide) (by decide +kernel), fun r3 c7 m7 r30 r31 c70 => ?_⟩
    obtain ⟨y, hy, y1, y2⟩ : ∃ y : Int, atI [D.int 3, D.int 30, D.int (10 ^ Int.toNat 6), D.int (10 ^ Int.toNat 12)] r3 = some (.int y) ∧ 1 ≤ y ∧ y ≤ 1000000000000 := by
      have : r3 = 0 ∨ r3 = 1 ∨ r3 = 2 ∨ r3 = 3 := by omega
      rcases this with rfl | rfl | rfl | rfl
      all_goals exact ⟨_, rfl, by decide, by decide⟩
    refine atD_of hy ?_
    refine ⟨c7, m7, y, rfl, c70, by omega, sm_of (n := 1000000000000) (by omega) (by decide +kernel), fun wo c8 m8 w0 w1 c80 => ?_⟩
    refine ⟨rfl, by rw [len_asks]; omega, ?_⟩
    have he := other_ends (ps := ps) (a := a) (r := r) a0 (by omega) r0 (by omega)
    refine ⟨as ++ [⟨a, (a + 1 + r) % (1 + ((ps.map D.int).length : Int)), 1 + s, 1 + wo⟩], c8, m8, _, _, _, _, _, by rw [← asks_snoc]; rfl, c80, by rw [List.length_append, la]; rfl, ?_, ?_⟩
    · intro b hb
      rcases List.mem_append.mp hb with hb | hb
      · exact hok b hb
      · have : b = _ := List.mem_singleton.mp hb
        subst this
        exact ⟨by rw [len_ints]; exact he, by show 1 ≤ 1 + s; omega, by show 1 + s ≤ 1000000; omega, by show 1 ≤ 1 + wo; omega, by show 1 + wo ≤ 1000000000000; omega⟩
    · intro b hb
      rcases List.mem_append.mp hb with hb | hb
      · exact hsz b hb
      · have : b = _ := List.mem_singleton.mp hb
        subst this
        exact ⟨z, hzm, by show 1 + s ≤ z; omega⟩
  · rintro ρ ⟨as, c2, m2, v1, v2, v3, v4, v5, rfl, c20, la, hok, hsz⟩
    rw [rngD_len] at la
    exact q0 as c2 m2 ⟨by omega, hok⟩ (by omega) (by omega) hsz c20
noncomputable def NumD (n : D) : Prop := n = .non ∨ ∃ i : Int, n = .int i
theorem treeErr_num {d n : D} {p : Str} (h : treeErr d = some (p, n)) : NumD n := by
  unfold treeErr at h
  split at h
  · split at h
    · split at h
      · cases h; exact .inr ⟨_, rfl⟩
      · split at h
        · cases h; exact .inr ⟨_, rfl⟩
        · cases h
    · cases h
  · cases h; exact .inl rfl
theorem asksErr_num {k : Nat} {d n : D} (h : asksErr k d = some n) : NumD n := by
  unfold asksErr at h
  split at h
  · split at h
    · obtain ⟨i, _, rfl⟩ := Option.map_eq_some_iff.mp h; exact .inr ⟨_, rfl⟩
    · cases h; exact .inl rfl
  · cases h; exact .inl rfl
noncomputable def sdAsk07 : SpD := fun ds q => ∃ (t x : D), ds = [t, x] ∧ ((∃ p n, pln t = true ∧ treeErr t = some (p, n) ∧ q (.lst [.str "tree", .str p, n]) []) ∨
  ∃ ps rs, t = dPair ps rs ∧ Tree ps rs ∧ pln x = true ∧ ((∃ n, asksErr ps.length x = some n ∧ q (.lst [n]) []) ∨ (asksErr ps.length x = none ∧ q (.str "fine") [])))
set_option maxHeartbeats 4000000 in
theorem ok_l_asked (T : Txt K mg A) : FnOk P w K mg base CX0 7 A.f_l_asked A.d_l_asked ["_law_tree_here", "_law_thing"] (spOf [false, false] true (sdAsk07)) := by
  have GX_look_at_asks := okx_look_at_asks (P := P) (w := w) (base := base) T
  have S := sc_l_asked
  refine fnT T.F_l_asked S ⟨[false, false], [false, false, false, false], true⟩ _ ?hl rfl rfl fun cdv Ar outer s H E hr => ⟨_, (qxs_cons (qx_of (qs_set (i := 2) S.nd rfl (Or.inl rfl) qe_non))
      (qxs_cons (qx_cut (qx_try (i := 3) S.nd rfl rfl rfl T.m_AskError T.x_AskError (qxs_one (qx_drop (qxe_call (GX_look_at_asks) (hr.mono (by decide)) rfl T.m_look_at_asks T.k_look_at_asks T.b_look_at_asks (qk_s (qe_var 0) (qk_s (qe_var 1) qk_nil))))) (fun _ => (qss_one (qs_set (i := 2) S.nd rfl (Or.inl rfl) (qe_var 3))))))
      (qxs_cons (qx_of (qs_if (qt_cmp op_isN dIsN (qe_var 2) qe_non (nomark _)) (qss_one (qs_retM (QF.qm (QE.qf qe_str)))) qss_nil))
      (qxs_cons (qx_of (qs_if (QW.qt (qw_or (qt_not (qt_val (qe_isX relTy rfl T.z_isinstance bt_isinstance (qe_var 2) (pe_bltn (v := .ty "ValueError") rfl T.z_ValueError bt_ValueError rfl)))) (qw_or1 (qt_val (qe_isXs (cs := [A.c_NoKeep, A.c_NoPlace]) rfl T.z_isinstance bt_isinstance (qe_var 2) (pa_cls rfl T.m_NoKeep (pa_cls rfl T.m_NoPlace pa_cls0))))))) (qss_one (qs_retM (QF.qm (QE.qf qe_str)))) qss_nil))
      (qxs_cons (qx_of (qs_if (qt_val (qe_isX relRef rfl T.z_isinstance bt_isinstance (qe_var 2) (pe_glob (v := .ref A.c_NoTree) rfl T.m_NoTree rfl))) (qss_cons (qs_if (QW.qt (qw_or (qt_val (qe_isX relRef rfl T.z_isinstance bt_isinstance (qe_var 2) (pe_glob (v := .ref A.c_NoAsks) rfl T.m_NoAsks rfl))) (qw_or1 (qt_val (qe_isT rfl T.z_isinstance bt_isinstance (qe_xat (qe_var 2)) (pe_bltn (v := .ty "bool") rfl T.z_bool bt_bool rfl)))))) (qss_one (qs_retM (QF.qm (QE.qf qe_str)))) qss_nil)
      (qss_one (qs_retM (QF.qm (qf_lst (qa_cons qe_str (qa_cons (qe_xat (qe_var 2)) (qa_cons (qe_xat (qe_var 2)) qa_nil)))))))) qss_nil))
      (qxs_cons (qx_of (qs_if (QW.qt (qw_or (qt_not (qt_val (qe_isX relRef rfl T.z_isinstance bt_isinstance (qe_var 2) (pe_glob (v := .ref A.c_NoAsks) rfl T.m_NoAsks rfl)))) (qw_or1 (qt_val (qe_isT rfl T.z_isinstance bt_isinstance (qe_xat (qe_var 2)) (pe_bltn (v := .ty "bool") rfl T.z_bool bt_bool rfl)))))) (qss_one (qs_retM (QF.qm (QE.qf qe_str)))) qss_nil))
      (qxs_one (qx_of (qs_retM (QF.qm (qf_lst (qa_cons (qe_xat (qe_var 2)) qa_nil)))))))))))), fun ds q h => ?_⟩
  case hl => intro ds q h; obtain ⟨t, x, rfl, _⟩ := h; rfl
  obtain ⟨t, x, rfl, h⟩ := h
  refine ⟨fun ρ => ∃ e, ρ = [some t, some x, some e, none] ∧ ((e = .non ∧ q (.str "fine") []) ∨ (∃ p n, NumD n ∧ e = dExc A.c_NoTree nTree [.str p, n] ∧ q (.lst [.str "tree", .str p, n]) []) ∨ (∃ n, NumD n ∧ e = dExc A.c_NoAsks nNum [n] ∧ q (.lst [n]) [])), ?_, ?_⟩
  · have ct : Caught K A.c_AskError (.ref A.c_NoTree) := ⟨A.c_NoTree, _, _, rfl, T.x_NoTree, by simp⟩
    have ca : Caught K A.c_AskError (.ref A.c_NoAsks) := ⟨A.c_NoAsks, _, _, rfl, T.x_NoAsks, by simp⟩
    rcases h with ⟨p, n, hp, he, q0⟩ | ⟨ps, rs, rfl, hT, hx, ⟨n, he, q0⟩ | ⟨he, q0⟩⟩
    · exact ⟨t, x, rfl, .inl ⟨p, n, hp, he, ct, fun _ => ⟨_, rfl, .inr (.inl ⟨p, n, treeErr_num he, rfl, q0⟩)⟩⟩⟩
    · exact ⟨_, x, rfl, .inr ⟨ps, rs, rfl, hT, hx, .inl ⟨n, he, ca, fun _ => ⟨_, rfl, .inr (.inr ⟨n, asksErr_num he, rfl, q0⟩)⟩⟩⟩⟩
    · exact ⟨_, x, rfl, .inr ⟨ps, rs, rfl, hT, hx, .inr ⟨he, ⟨_, rfl, .inl ⟨rfl, q0⟩⟩⟩⟩⟩
  · rintro ρ ⟨e, rfl, h⟩
    rcases h with ⟨rfl, q0⟩ | ⟨p, n, hn, rfl, q0⟩ | ⟨n, hn, rfl, q0⟩
    · exact ⟨rfl, q0⟩
    · refine ⟨true, .inl ⟨_, _, _, _, _, rfl, T.x_NoTree, T.o_NoTree, T.v_NoTree⟩, ?_⟩
      refine ⟨false, .inl ⟨_, _, _, _, _, rfl, T.x_NoTree, T.o_NoTree, kany_f T.i_NoTree_NoKeep (kany_f T.i_NoTree_NoPlace kany_nil)⟩, ?_⟩
      refine ⟨true, .inl ⟨_, _, _, _, _, rfl, T.x_NoTree, T.o_NoTree, kit_self⟩, ?_⟩
      refine ⟨false, .inl ⟨_, _, _, _, _, rfl, T.x_NoTree, T.o_NoTree, T.i_NoTree_NoAsks⟩, ?_⟩
      refine ⟨A.c_NoTree, nTree, _, n, _, _, rfl, T.x_NoTree, T.o_NoTree, T.xa_NoTree_number, rfl, ?_⟩
      rcases hn with rfl | ⟨i, rfl⟩
      · refine ⟨A.c_NoTree, nTree, _, .str p, _, _, rfl, T.x_NoTree, T.o_NoTree, T.xa_NoTree_part, rfl, ?_⟩
        refine ⟨A.c_NoTree, nTree, _, _, _, _, rfl, T.x_NoTree, T.o_NoTree, T.xa_NoTree_number, rfl, ?_⟩
        exact ⟨rfl, q0⟩
      · refine ⟨A.c_NoTree, nTree, _, .str p, _, _, rfl, T.x_NoTree, T.o_NoTree, T.xa_NoTree_part, rfl, ?_⟩
        refine ⟨A.c_NoTree, nTree, _, _, _, _, rfl, T.x_NoTree, T.o_NoTree, T.xa_NoTree_number, rfl, ?_⟩
        exact ⟨rfl, q0⟩
    · refine ⟨true, .inl ⟨_, _, _, _, _, rfl, T.x_NoAsks, T.o_NoAsks, T.v_NoAsks⟩, ?_⟩
      refine ⟨false, .inl ⟨_, _, _, _, _, rfl, T.x_NoAsks, T.o_NoAsks, kany_f T.i_NoAsks_NoKeep (kany_f T.i_NoAsks_NoPlace kany_nil)⟩, ?_⟩
      refine ⟨false, .inl ⟨_, _, _, _, _, rfl, T.x_NoAsks, T.o_NoAsks, T.i_NoAsks_NoTree⟩, ?_⟩
      refine ⟨true, .inl ⟨_, _, _, _, _, rfl, T.x_NoAsks, T.o_NoAsks, kit_self⟩, ?_⟩
      refine ⟨A.c_NoAsks, nNum, _, n, _, _, rfl, T.x_NoAsks, T.o_NoAsks, T.xa_NoAsks_number, rfl, ?_⟩
      rcases hn with rfl | ⟨i, rfl⟩
      · refine ⟨A.c_NoAsks, nNum, _, _, _, _, rfl, T.x_NoAsks, T.o_NoAsks, T.xa_NoAsks_number, rfl, ?_⟩
        exact ⟨rfl, q0⟩
      · refine ⟨A.c_NoAsks, nNum, _, _, _, _, rfl, T.x_NoAsks, T.o_NoAsks, T.xa_NoAsks_number, rfl, ?_⟩
        exact ⟨rfl, q0⟩
end
end K07


set_option Elab.async false
set_option linter.all false
set_option maxRecDepth 100000
set_option maxHeartbeats 4000000
set_option exponentiation.threshold 9000
namespace K07
open PySem L2
section
variable {P : Program} {w : World} {K : PySem.W.Frag} {mg : Str → Option Value} {base : Heap} {A : Adr}
theorem ask_e {n : Nat} {a b s w : D} (h : endsB n a b = false) : askB n (.tup [a, b, s, w]) = false := by show (endsB n a b && _) = false; rw [h, Bool.false_and]
theorem ask_s {n : Nat} {a b s w : D} (h : btw 1 1000000 s = false) : askB n (.tup [a, b, s, w]) = false := by show (endsB n a b && (btw 1 1000000 s && _)) = false; rw [h, Bool.false_and, Bool.and_false]
theorem ask_w {n : Nat} {a b s w : D} (h : btw 1 1000000000000 w = false) : askB n (.tup [a, b, s, w]) = false := by show (endsB n a b && (btw 1 1000000 s && btw 1 1000000000000 w)) = false; rw [h, Bool.and_false, Bool.and_false]
theorem ends_l {n : Nat} {a b : D} (h : btw 0 n a = false) : endsB n a b = false := by unfold endsB; rw [h, Bool.false_and]
theorem ends_r {n : Nat} {a b : D} (h : btw 0 n b = false) : endsB n a b = false := by unfold endsB; rw [h, Bool.false_and, Bool.and_false]
theorem ends_s {n : Nat} {a : Int} : endsB n (.int a) (.int a) = false := by unfold endsB; simp [neZ]
noncomputable def sdNoAsk : SpD := fun ds q => ∃ c m ps rs a, ds = [dInts [c, m], dPair ps rs, dAsk a] ∧ 0 ≤ c ∧ Tree ps rs ∧ AskOk ps a ∧ ∀ d c' m', pln d = true → askB ps.length d = false → 0 ≤ c' → q d [some (dInts [c', m'])]
set_option maxHeartbeats 4000000 in
theorem ok_l_no_ask (T : Txt K mg A) : FnOk P w K mg base CX0 2 A.f_l_no_ask A.d_l_no_ask ["_law_pool_here", "_law_tree_here", "_law_ask"] (spOf [true, false, false] false (sdNoAsk)) := by
  have G_l_take := ok_l_take (P := P) (w := w) (base := base) T
  have S := sc_l_no_ask
  refine fnD T.F_l_no_ask S ⟨[true, false, false], [true, false, false, false, false, false, false, false, false], false⟩ _ ?hl rfl rfl fun cdv Ar outer s H E hr => ⟨_, (qss_cons (qs_asg (qe_var 2) (qg_tup rfl (qgs_cons (qg_name (i := 3) S.nd rfl (Or.inl rfl)) (qgs_cons (qg_name (i := 4) S.nd rfl (Or.inl rfl)) (qgs_cons (qg_name (i := 5) S.nd rfl (Or.inl rfl)) (qgs_cons (qg_name (i := 6) S.nd rfl (Or.inl rfl)) qgs_nil)))) (takes_cons1 (takes_cons1 (takes_cons1 (takes_cons1 takes_nil))))))
      (qss_cons (qs_cut (qs_if (qt_cmp (op_eqD hr.units) dEq (qe_call (G_l_take) (hr.mono (by decide)) rfl T.m_l_take T.k_l_take T.b_l_take (qk_m 0 (qk_s qe_int qk_nil))) qe_int (nomark _)) (qss_one (qs_par (i := 3) (j := 4) rfl S.nd rfl rfl (by decide) rfl rfl (qe_var 4) (qe_var 3) rfl)) qss_nil))
      (qss_cons (qs_set (i := 7) S.nd rfl (Or.inl rfl) (qe_op op_add dI qe_int (qe_callB call_len_seq dLen rfl T.z_len bt_len (qa_cons (qe_ix ix_seq dIx (qe_var 1) qe_int (fun _ _ => rfl)) qa_nil))))
      (qss_cons (qs_set (i := 8) S.nd rfl (Or.inl rfl) (qe_lst (qa_cons (qe_tup (qa_cons (qe_var 3) (qa_cons (qe_var 3) (qa_cons (qe_var 5) (qa_cons (qe_var 6) qa_nil))))) (qa_cons (qe_tup (qa_cons (qe_var 3) (qa_cons (qe_var 7) (qa_cons (qe_var 5) (qa_cons (qe_var 6) qa_nil))))) (qa_cons (qe_tup (qa_cons (qe_neg qe_int) (qa_cons (qe_var 4) (qa_cons (qe_var 5) (qa_cons (qe_var 6) qa_nil))))) qa_nil)))))
      (qss_cons (qs_set (i := 8) S.nd rfl (Or.inl rfl) (qe_mk op_cat dCat (qe_var 8) (qe_lst (qa_cons (qe_tup (qa_cons (qe_var 3) (qa_cons (qe_var 4) (qa_cons qe_int (qa_cons (qe_var 6) qa_nil))))) (qa_cons (qe_tup (qa_cons (qe_var 3) (qa_cons (qe_var 4) (qa_cons (qe_op op_add dI (qe_op op_pow dIC qe_int qe_int) qe_int) (qa_cons (qe_var 6) qa_nil))))) qa_nil)))))
      (qss_cons (qs_set (i := 8) S.nd rfl (Or.inl rfl) (qe_mk op_cat dCat (qe_var 8) (qe_lst (qa_cons (qe_tup (qa_cons (qe_var 3) (qa_cons (qe_var 4) (qa_cons (qe_var 5) (qa_cons qe_int qa_nil))))) (qa_cons (qe_tup (qa_cons (qe_var 3) (qa_cons (qe_var 4) (qa_cons (qe_var 5) (qa_cons (qe_op op_add dI (qe_op op_pow dIC qe_int qe_int) qe_int) qa_nil))))) qa_nil)))))
      (qss_cons (qs_cut (qs_set (i := 8) S.nd rfl (Or.inl rfl) (qe_mk op_cat dCat (qe_var 8) (qe_lst (qa_cons (qe_tup (qa_cons (qe_var 3) (qa_cons (qe_var 4) (qa_cons qe_bl (qa_cons (qe_var 6) qa_nil))))) (qa_cons (qe_tup (qa_cons (qe_var 3) (qa_cons (qe_var 4) (qa_cons (qe_var 5) (qa_cons qe_bl qa_nil))))) qa_nil))))))
      (qss_cons (qs_set (i := 8) S.nd rfl (Or.inl rfl) (qe_mk op_cat dCat (qe_var 8) (qe_lst (qa_cons (qe_sliceT (qe_var 2) qo_none (qo_some qe_int)) (qa_cons (qe_catT (qe_var 2) (qe_tup (qa_cons qe_int qa_nil))) (qa_cons (qe_callTyN call_list_of dList rfl T.z_list bt_list (qa_cons (qe_var 2) qa_nil)) (qa_cons qe_non (qa_cons (qe_tup (qa_cons (qe_callTy call_str_int dStr1 rfl T.z_str bt_str (qa_cons (qe_var 3) qa_nil)) (qa_cons (qe_var 4) (qa_cons (qe_var 5) (qa_cons (qe_var 6) qa_nil))))) qa_nil))))))))
      (fl_begin (i := 8) S.nd rfl (Or.inl rfl) (qn_mk op_cat dCat (qe_var 8) (qe_lst (qa_cons (qe_tup (qa_cons (qe_var 3) (qa_cons qe_non (qa_cons (qe_var 5) (qa_cons (qe_var 6) qa_nil))))) (qa_cons (qe_tup (qa_cons (qe_var 3) (qa_cons (qe_var 4) (qa_cons (qe_op op_sub dI qe_int (qe_var 5)) (qa_cons (qe_var 6) qa_nil))))) qa_nil))))
      (fe_cons (fl_append rfl (qe_tup (qa_cons (qe_var 3) (qa_cons (qe_var 4) (qa_cons qe_str (qa_cons (qe_var 6) qa_nil))))))
      (fe_end (fl_begin (i := 8) S.nd rfl (Or.inl rfl) (qn_mk op_cat dCat (qe_var 8) (qe_lst (qa_cons (qe_tup (qa_cons (qe_var 3) (qa_cons (qe_var 4) (qa_cons (qe_var 5) (qa_cons (qe_tup (qa_cons (qe_var 6) (qa_cons qe_int qa_nil))) qa_nil))))) (qa_cons (qe_tup (qa_cons qe_bl (qa_cons (qe_var 4) (qa_cons (qe_var 5) (qa_cons (qe_var 6) qa_nil))))) qa_nil))))
      (fe_cons (fl_append rfl (qe_tup (qa_cons (qe_var 3) (qa_cons qe_bl (qa_cons (qe_var 5) (qa_cons (qe_var 6) qa_nil))))))
      (fe_end (qss_one (qs_ret (qe_ix ix_seq dIx (qe_var 8) (qe_call (G_l_take) (hr.mono (by decide)) rfl T.m_l_take T.k_l_take T.b_l_take (qk_m 0 (qk_s qe_int qk_nil))) (fun _ _ => rfl)))))))))))))))))), fun ds q h => ?_⟩
  case hl => intro ds q h; obtain ⟨c, m, ps, rs, a, rfl, _⟩ := h; rfl
  obtain ⟨c, m, ps, rs, a, rfl, h0, hT, hA, q0⟩ := h
  have hhi := hT.hi
  refine ⟨fun ρ => ∃ o1 o2 c1 m1, ρ = [some (dInts [c1, m1]), some (dPair ps rs), some (dAsk a), some (.int o1), some (.int o2), some (.int a.size), some (.int a.worth), none, none] ∧ 0 ≤ c1 ∧ 0 ≤ o1 ∧ o1 ≤ 23, ?_, ?_⟩
  · have e1 := hA.ends.a0; have e2 := hA.ends.a1; have e3 := hA.ends.b0; have e4 := hA.ends.b1
    refine ⟨c, m, 2, rfl, h0, by decide, sm_of (n := 2) (by decide) (by decide +kernel), fun r c1 m1 r0 r1 h1 => ?_⟩
    refine (ite2 (c := decide (r = 1) = true) (fun _ => ?_) (fun _ => ?_))
    · exact ⟨a.other, a.one, c1, m1, rfl, h1, by omega, by omega⟩
    · exact ⟨a.one, a.other, c1, m1, rfl, h1, by omega, by omega⟩
  rintro ρ ⟨o1, o2, c1, m1, rfl, h1, o10, o11⟩
  have s0 := hA.s0; have s1' := hA.s1; have w0 := hA.w0; have w1 := hA.w1
  refine ⟨⟨by decide, by decide, by decide⟩, by simp, ?_⟩
  refine ⟨⟨by decide, by decide, by decide⟩, by simp, ?_⟩
  refine ⟨fun ρ => ρ = [some (dInts [c1, m1]), some (dPair ps rs), some (dAsk a), some (.int o1), some (.int o2), some (.int a.size), some (.int a.worth), some (.int (1 + (ps.length : Int))), some (.lst [.tup [.int o1, .int o1, .int a.size, .int a.worth], .tup [.int o1, .int (1 + (ps.length : Int)), .int a.size, .int a.worth], .tup [.int (-1), .int o2, .int a.size, .int a.worth],
    .tup [.int o1, .int o2, .int 0, .int a.worth], .tup [.int o1, .int o2, .int (10 ^ Int.toNat 6 + 1), .int a.worth], .tup [.int o1, .int o2, .int a.size, .int 0], .tup [.int o1, .int o2, .int a.size, .int (10 ^ Int.toNat 12 + 1)], .tup [.int o1, .int o2, .bl true, .int a.worth], .tup [.int o1, .int o2, .int a.size, .bl true]])], ?_, ?_⟩
  · refine ⟨by simp, ?_⟩
    rw [len_ints]; rfl
  rintro ρ rfl
  have hlog : o1.natAbs.log2 < 1920 := by
    by_cases z : o1.natAbs = 0
    · rw [z]; decide
    · exact Nat.lt_trans ((Nat.log2_lt z).mpr (show o1.natAbs < 2 ^ 10 by omega)) (by decide)
  refine ⟨by simp [HT.sIx, dAsk], ?_⟩
  refine ⟨by simp, by simp, by simp, ?_⟩
  refine ⟨hlog, ?_⟩
  refine ⟨by simp, ?_⟩
  refine ⟨by simp, by simp, ?_⟩
  refine ⟨by simp, ?_⟩
  refine ⟨by simp, by simp, ?_⟩
  refine ⟨by simp, ?_⟩
  refine ⟨c1, m1, 20, rfl, h1, by decide, sm_of (n := 20) (by decide) (by decide +kernel), fun r c2 m2 r0 r1 h2 => ?_⟩
  have e5 : cutD [D.int a.one, D.int a.other, D.int a.size, D.int a.worth] none (some 3) = [D.int a.one, D.int a.other, D.int a.size] := rfl
  obtain ⟨x, hx, x1, x2⟩ : ∃ x : D, atI [.tup [.int o1, .int o1, .int a.size, .int a.worth], .tup [.int o1, .int (1 + (ps.length : Int)), .int a.size, .int a.worth], .tup [.int (-1), .int o2, .int a.size, .int a.worth],
      .tup [.int o1, .int o2, .int 0, .int a.worth], .tup [.int o1, .int o2, .int (10 ^ Int.toNat 6 + 1), .int a.worth], .tup [.int o1, .int o2, .int a.size, .int 0], .tup [.int o1, .int o2, .int a.size, .int (10 ^ Int.toNat 12 + 1)], .tup [.int o1, .int o2, .bl true, .int a.worth], .tup [.int o1, .int o2, .int a.size, .bl true],
      .tup (cutD [D.int a.one, D.int a.other, D.int a.size, D.int a.worth] none (some 3)), .tup [D.int a.one, D.int a.other, D.int a.size, D.int a.worth, D.int 1], .lst [D.int a.one, D.int a.other, D.int a.size, D.int a.worth], .non, .tup [.str (toString o1), .int o2, .int a.size, .int a.worth],
      .tup [.int o1, .non, .int a.size, .int a.worth], .tup [.int o1, .int o2, .int (0 - a.size), .int a.worth], .tup [.int o1, .int o2, .str "1", .int a.worth], .tup [.int o1, .int o2, .int a.size, .tup [.int a.worth, .int 1]], .tup [.bl true, .int o2, .int a.size, .int a.worth], .tup [.int o1, .bl false, .int a.size, .int a.worth]] r = some x ∧ pln x = true ∧ askB ps.length x = false := by
    have : r = 0 ∨ r = 1 ∨ r = 2 ∨ r = 3 ∨ r = 4 ∨ r = 5 ∨ r = 6 ∨ r = 7 ∨ r = 8 ∨ r = 9 ∨ r = 10 ∨ r = 11 ∨ r = 12 ∨ r = 13 ∨ r = 14 ∨ r = 15 ∨ r = 16 ∨ r = 17 ∨ r = 18 ∨ r = 19 := by omega
    rcases this with rfl | rfl | rfl | rfl | rfl | rfl | rfl | rfl | rfl | rfl | rfl | rfl | rfl | rfl | rfl | rfl | rfl | rfl | rfl | rfl
    · exact ⟨_, rfl, rfl, ask_e ends_s⟩
    · exact ⟨_, rfl, rfl, ask_e (ends_r (btw_f (by omega)))⟩
    · exact ⟨_, rfl, rfl, ask_e (ends_l (btw_f (by omega)))⟩
    · exact ⟨_, rfl, rfl, ask_s (by decide)⟩
    · exact ⟨_, rfl, rfl, ask_s (by decide)⟩
    · exact ⟨_, rfl, rfl, ask_w (by decide)⟩
    · exact ⟨_, rfl, rfl, ask_w (by decide)⟩
    · exact ⟨_, rfl, rfl, ask_s rfl⟩
    · exact ⟨_, rfl, rfl, ask_w rfl⟩
    · exact ⟨_, rfl, rfl, rfl⟩
    · exact ⟨_, rfl, rfl, rfl⟩
    · exact ⟨_, rfl, rfl, rfl⟩
    · exact ⟨_, rfl, rfl, rfl⟩
    · exact ⟨_, rfl, rfl, ask_e (ends_l rfl)⟩
    · exact ⟨_, rfl, rfl, ask_e (ends_r rfl)⟩
    · exact ⟨_, rfl, rfl, ask_s (btw_f (by omega))⟩
    · exact ⟨_, rfl, rfl, ask_s rfl⟩
    · exact ⟨_, rfl, rfl, ask_w rfl⟩
    · exact ⟨_, rfl, rfl, ask_e (ends_l rfl)⟩
    · exact ⟨_, rfl, rfl, ask_e (ends_r rfl)⟩
  refine atD_of hx ?_
  exact q0 x c2 m2 x1 x2 h2
noncomputable def sdSpoil07 : SpD := fun ds q => ∃ c m ps rs as, ds = [dInts [c, m], dPair ps rs, dAsks as] ∧ 0 ≤ c ∧ Tree ps rs ∧ AsksOk ps as ∧ as ≠ [] ∧ ∀ L (j : Nat) c' m', plns L = true → asksErr ps.length (.lst L) = some (.int j) → 0 ≤ c' → q (.lst [.lst L, .lst [.int j]]) [some (dInts [c', m'])]
theorem asks_bad {ps : List Int} {as : List Ask} (hA : AsksOk ps as) {L : List D} {j : Nat} {x : D} (hl : L.length = as.length) (h1 : ∀ i : Nat, i < j → L[i]? = (as.map dAsk)[i]?) (h2 : L[j]? = some x) (h3 : askB ps.length x = false) : asksErr ps.length (.lst L) = some (.int j) := by
  show (if L.length ≤ 30 then _ else _) = _
  rw [if_pos (by rw [hl]; exact hA.len), firstBad_some (f := fAsk ps.length) (k := 0) (j := j) (x := x) (fun i d hi e => ?_) h2 (by exact h3)]
  · rw [Nat.zero_add]; rfl
  · rw [h1 i hi] at e
    obtain ⟨a, ha, rfl⟩ := asks_at e
    exact askB_to (hA.ok a (List.mem_of_getElem? ha))
theorem plns_set {L : List D} {d : D} (h : plns L = true) (hd : pln d = true) (k : Nat) : plns (L.set k d) = true := plns_of fun x hx => by
  rcases List.mem_or_eq_of_mem_set hx with h' | h'
  · exact plns_mem h h'
  · rw [h']; exact hd
set_option maxHeartbeats 4000000 in
theorem ok_l_spoiled (T : Txt K mg A) : FnOk P w K mg base CX0 3 A.f_l_spoiled A.d_l_spoiled ["_law_pool_here", "_law_tree_here", "_law_asks_here"] (spOf [true, false, false] false (sdSpoil07)) := by
  have G_l_no_ask := ok_l_no_ask (P := P) (w := w) (base := base) T
  have G_l_take := ok_l_take (P := P) (w := w) (base := base) T
  have S := sc_l_spoiled
  refine fnD T.F_l_spoiled S ⟨[true, false, false], [true, false, false, false, false, false], false⟩ _ ?hl rfl rfl fun cdv Ar outer s H E hr => ⟨_, (fl_begin (i := 3) S.nd rfl (Or.inl rfl) (qn_callTy call_list_of dList rfl T.z_list bt_list (qa_cons (qe_var 2) qa_nil))
      (fe_cons (fl_let (j := 4) S.nd rfl (Or.inl rfl) (qe_call (G_l_take) (hr.mono (by decide)) rfl T.m_l_take T.k_l_take T.b_l_take (qk_m 0 (qk_s (qe_callB call_len_seq dLen rfl T.z_len bt_len (qa_cons (qe_var 3) qa_nil)) qk_nil))))
      (fe_cons (fl_cut (fl_setI rfl (qe_call (G_l_no_ask) (hr.mono (by decide)) rfl T.m_l_no_ask T.k_l_no_ask T.b_l_no_ask (qk_m 0 (qk_s (qe_var 1) (qk_s (qe_ix ix_seq dIx (qe_var 2) (qe_var 4) (fun _ _ => rfl)) qk_nil)))) (qe_var 4)))
      (fe_cons (fl_cut (fl_if (qt_cmp (op_eqD hr.units) dEq (qe_call (G_l_take) (hr.mono (by decide)) rfl T.m_l_take T.k_l_take T.b_l_take (qk_m 0 (qk_s qe_int qk_nil))) qe_int (nomark _)) (fls_cons (fl_cut (fl_let (j := 5) S.nd rfl (Or.inl rfl) (qe_call (G_l_take) (hr.mono (by decide)) rfl T.m_l_take T.k_l_take T.b_l_take (qk_m 0 (qk_s (qe_callB call_len_seq dLen rfl T.z_len bt_len (qa_cons (qe_var 3) qa_nil)) qk_nil))))) (fls_cons (fl_cut (fl_setI rfl (qe_call (G_l_no_ask) (hr.mono (by decide)) rfl T.m_l_no_ask T.k_l_no_ask T.b_l_no_ask (qk_m 0 (qk_s (qe_var 1) (qk_s (qe_ix ix_seq dIx (qe_var 2) (qe_var 5) (fun _ _ => rfl)) qk_nil)))) (qe_var 5))) (fls_cons (fl_let (j := 4) S.nd rfl (Or.inl rfl) (qe_callB (call_min2 rfl) dMin rfl T.z_min bt_min (qa_cons (qe_var 4) (qa_cons (qe_var 5) qa_nil)))) fls_nil))) fls_nil))
      (fe_end (qss_one (qs_ret (qe_lst (qa_cons (qe_var 3) (qa_cons (qe_lst (qa_cons (qe_var 4) qa_nil)) qa_nil)))))))))), fun ds q h => ?_⟩
  case hl => intro ds q h; obtain ⟨c, m, ps, rs, as, rfl, _⟩ := h; rfl
  obtain ⟨c, m, ps, rs, as, rfl, h0, hT, hA, hne, q0⟩ := h
  have hlen := hA.len
  have hpos : 0 < as.length := List.length_pos_iff.mpr hne
  have lA : (as.map dAsk).length = as.length := len_asks as
  have ix : ∀ L : List D, L.length = as.length → ∀ k : Nat, k < as.length → ixN L.length (k : Int) = some k := fun L h k hk => by rw [h, ixN_nat (by omega) (by omega)]; rfl
  have pA : plns (as.map dAsk) = true := by have := pln_dAsks as; unfold dAsks at this; rw [pln] at this; exact this
  refine ⟨by simp, ?_⟩
  refine ⟨c, m, ((as.map dAsk).length : Int), rfl, h0, by rw [lA]; omega, sm_of (n := 100) (by rw [lA]; omega) (by decide +kernel), fun a c1 m1 a0 a1 h1 => ?_⟩
  refine ⟨rfl, ?_⟩
  rw [lA] at a1
  obtain ⟨n, rfl⟩ : ∃ n : Nat, a = n := ⟨a.toNat, by omega⟩
  refine ⟨fun L ρ => ∃ (d : D) (c2 m2 : Int), pln d = true ∧ askB ps.length d = false ∧ 0 ≤ c2 ∧ L = (as.map dAsk).set n d ∧ ρ = [some (dInts [c2, m2]), some (dPair ps rs), some (dAsks as), none, some (.int (n : Int)), none], ?_, ?_⟩
  · refine atD_of (atI_asks a0 a1) ?_
    refine ⟨c1, m1, ps, rs, _, rfl, h1, hT, hA.ok _ (getD_ask (by omega)), fun d c2 m2 hd hb h2 => ?_⟩
    show (match ixN (as.map dAsk).length (n : Int) with | some _ => _ | none => False)
    rw [ix _ lA n (by omega)]
    exact ⟨d, c2, m2, hd, hb, h2, rfl, rfl⟩
  rintro LL ρ ⟨d, c2, m2, hd, hb, h2, hLL, rfl⟩
  have lL : LL.length = as.length := by rw [hLL, List.length_set]; exact lA
  have pL : plns LL = true := by rw [hLL]; exact plns_set pA hd n
  have L1 : ∀ i : Nat, i < n → LL[i]? = (as.map dAsk)[i]? := fun i hi => by rw [hLL]; exact List.getElem?_set_ne (by omega)
  have L2 : LL[n]? = some d := by rw [hLL]; exact List.getElem?_set_self (by omega)
  clear hLL
  refine ⟨fun L ρ => ∃ (j : Nat) (x : D) (c3 m3 : Int) (v : Option D), ρ = [some (dInts [c3, m3]), some (dPair ps rs), some (dAsks as), none, some (.int (j : Int)), v] ∧ 0 ≤ c3 ∧ plns L = true ∧ L.length = as.length ∧ (∀ i : Nat, i < j → L[i]? = (as.map dAsk)[i]?) ∧ L[j]? = some x ∧ askB ps.length x = false, ?_, ?_⟩
  · refine ⟨_, _, 2, rfl, h2, by decide, sm_of (n := 2) (by decide) (by decide +kernel), fun z c3 m3 z0 z1 h3 => ?_⟩
    refine (ite2 (c := decide (z = 0) = true) (fun cz => ?_) (fun cz => ?_))
    · refine ⟨fun L ρ => ∃ (t' : Nat) (c4 m4 : Int), t' < as.length ∧ 0 ≤ c4 ∧ L = LL ∧ ρ = [some (dInts [c4, m4]), some (dPair ps rs), some (dAsks as), none, some (.int (n : Int)), some (.int (t' : Int))], ?_, ?_⟩
      · refine ⟨_, _, (LL.length : Int), rfl, h3, by rw [lL]; omega, sm_of (n := 100) (by rw [lL]; omega) (by decide +kernel), fun t c4 m4 t0 t1 h4 => ?_⟩
        rw [lL] at t1
        obtain ⟨t', rfl⟩ : ∃ n : Nat, t = n := ⟨t.toNat, by omega⟩
        exact ⟨rfl, t', c4, m4, by omega, h4, rfl, rfl⟩
      rintro L ρ ⟨t', c4, m4, ht, h4, rfl, rfl⟩
      refine ⟨fun L' ρ => ∃ (d3 : D) (c5 m5 : Int), pln d3 = true ∧ askB ps.length d3 = false ∧ 0 ≤ c5 ∧ L' = L.set t' d3 ∧ ρ = [some (dInts [c5, m5]), some (dPair ps rs), some (dAsks as), none, some (.int (n : Int)), some (.int (t' : Int))], ?_, ?_⟩
      · refine atD_of (atI_asks (show 0 ≤ (t' : Int) by omega) (by omega)) ?_
        refine ⟨c4, m4, ps, rs, _, rfl, h4, hT, hA.ok _ (getD_ask (by omega)), fun d3 c5 m5 hd3 hb3 h5 => ?_⟩
        show (match ixN L.length (t' : Int) with | some _ => _ | none => False)
        rw [ix _ lL t' ht]
        exact ⟨d3, c5, m5, hd3, hb3, h5, rfl, rfl⟩
      rintro L' ρ ⟨d3, c5, m5, hd3, hb3, h5, hL', rfl⟩
      have st : L'[t']? = some d3 := by rw [hL']; exact List.getElem?_set_self (by rw [lL]; exact ht)
      have lS : L'.length = as.length := by rw [hL', List.length_set]; exact lL
      have pS : plns L' = true := by rw [hL']; exact plns_set pL hd3 t'
      have ne : ∀ i : Nat, i ≠ t' → L'[i]? = L[i]? := fun i hi => by rw [hL']; exact List.getElem?_set_ne (Ne.symm hi)
      by_cases hc : t' < n
      · have e : (if (t' : Int) < (n : Int) then (t' : Int) else (n : Int)) = (t' : Int) := if_pos (by omega)
        refine ⟨rfl, t', d3, c5, m5, _, congrArg (fun z => [some (dInts [c5, m5]), some (dPair ps rs), some (dAsks as), none, some (D.int z), some (D.int (t' : Int))]) e, h5, pS, lS, fun i hi => by rw [ne i (by omega)]; exact L1 i (by omega), st, hb3⟩
      · have e : (if (t' : Int) < (n : Int) then (t' : Int) else (n : Int)) = (n : Int) := if_neg (by omega)
        by_cases hc2 : t' = n
        · subst hc2
          refine ⟨rfl, t', d3, c5, m5, _, congrArg (fun z => [some (dInts [c5, m5]), some (dPair ps rs), some (dAsks as), none, some (D.int z), some (D.int (t' : Int))]) e, h5, pS, lS, fun i hi => by rw [ne i (by omega)]; exact L1 i hi, st, hb3⟩
        · refine ⟨rfl, n, d, c5, m5, _, congrArg (fun z => [some (dInts [c5, m5]), some (dPair ps rs), some (dAsks as), none, some (D.int z), some (D.int (t' : Int))]) e, h5, pS, lS, fun i hi => by rw [ne i (by omega)]; exact L1 i hi, by rw [ne n (by omega)]; exact L2, hb⟩
    · exact ⟨n, d, c3, m3, _, rfl, h3, pL, lL, L1, L2, hb⟩
  rintro L ρ ⟨j, x, c3, m3, v, rfl, h3, l1, l2, l3, l4, l5⟩
  exact q0 _ j c3 m3 l1 (asks_bad hA l2 l3 l4 l5) h3
end
end K07


set_option Elab.async false
set_option linter.all false
set_option maxRecDepth 100000
set_option maxHeartbeats 4000000
set_option exponentiation.threshold 9000
namespace K07
open PySem L2
section
variable {P : Program} {w : World} {K : PySem.W.Frag} {mg : Str → Option Value} {base : Heap} {A : Adr}
theorem two_bad {ps rs : List Int} (hT : Tree ps rs) : treeErr (.tup [dInts ps, .lst (rs.map D.int ++ [.int 1])]) = some (("tree" : Str), D.non) := by
  refine treeErr_no ?_
  have := hT.len
  show (decide ((ps.map D.int).length = (rs.map D.int ++ [D.int 1]).length) && _) = false
  rw [List.length_append, List.length_map, List.length_map, decide_eq_false (by rw [List.length_cons, List.length_nil]; omega), Bool.false_and]
theorem rep_at {d : D} {n : Nat} : ∀ {i : Nat} {x : D}, (List.replicate n d)[i]? = some x → x = d := fun {i x} h => by
  rw [List.getElem?_replicate] at h
  split at h
  · cases h; rfl
  · cases h
theorem zero_bad {ps rs : List Int} (hT : Tree ps rs) : treeErr (.tup [dInts ps, .lst (List.replicate rs.length (D.int 0))]) = some (("rooms" : Str), D.int 0) := by
  have hl := hT.len
  have hlo := hT.lo
  have two : twoL (.tup [.lst (ps.map D.int), .lst (List.replicate rs.length (D.int 0))]) = true := by
    show (decide ((ps.map D.int).length = (List.replicate rs.length (D.int 0)).length) && (decide (1 ≤ (ps.map D.int).length) && decide ((ps.map D.int).length ≤ 23))) = true
    rw [List.length_map, List.length_replicate, decide_eq_true hl, decide_eq_true hT.lo, decide_eq_true hT.hi]; rfl
  unfold dInts
  rw [treeErr_two two, firstBad_none (f := fPar) (k := 0) fun i d e => by
    obtain ⟨z, hz, rfl⟩ := map_at e
    have := hT.par i z hz
    rw [Nat.zero_add]; exact btw_int this.1 this.2]
  rw [firstBad_some (f := fRoom) (k := 0) (j := 0) (x := .int 0) (fun i d hi _ => absurd hi (Nat.not_lt_zero _)) (by rw [List.getElem?_replicate, if_pos (by omega)]) rfl]
  rfl
noncomputable def ask1 : Ask := ⟨0, 1, 1000000, 1000000000000⟩
theorem ask1_ok {ps rs : List Int} (hT : Tree ps rs) : AskOk ps ask1 := by
  have := hT.lo
  exact ⟨⟨by decide, by show (0 : Int) ≤ _; omega, by decide, by show (1 : Int) ≤ _; omega, by decide⟩, by decide, by decide, by decide, by decide⟩
theorem rep_asks (n : Nat) (a : Ask) : List.replicate n (dAsk a) = (List.replicate n a).map dAsk := by rw [List.map_replicate]
theorem many_non {n : Nat} {L : List D} (h : 30 < L.length) : asksErr n (.lst L) = some .non := by
  show (if L.length ≤ 30 then _ else _) = _
  rw [if_neg (by omega)]
noncomputable def sdRight07 : SpD := fun ds q => ∃ c m ps rs as, ds = [dInts [c, m], dPair ps rs, dAsks as] ∧ 0 ≤ c ∧ Tree ps rs ∧ AsksOk ps as ∧ ∀ c' m', q (.bl true) [some (dInts [c', m'])]
set_option maxHeartbeats 4000000 in
theorem ok_l_right (T : Txt K mg A) : FnOk P w K mg base CX0 8 A.f_l_right A.d_l_right ["_law_pool_here", "_law_tree_here", "_law_asks_here"] (spOf [true, false, false] false (sdRight07)) := by
  have G_l_asked := ok_l_asked (P := P) (w := w) (base := base) T
  have G_l_spoiled := ok_l_spoiled (P := P) (w := w) (base := base) T
  have G_l_take := ok_l_take (P := P) (w := w) (base := base) T
  have S := sc_l_right
  refine fnD T.F_l_right S ⟨[true, false, false], [true, false, false, false, false, false, false, false, false, false, false, false], false⟩ _ ?hl rfl rfl fun cdv Ar outer s H E hr => ⟨_, (qss_cons (qs_set (i := 3) S.nd rfl (Or.inl rfl) (qe_lst (qa_cons (qe_tup (qa_cons (qe_callTyN call_list_of dList rfl T.z_list bt_list (qa_cons (qe_ix ix_seq dIx (qe_var 1) qe_int (fun _ _ => rfl)) qa_nil)) (qa_cons (qe_callTyN call_list_of dList rfl T.z_list bt_list (qa_cons (qe_ix ix_seq dIx (qe_var 1) qe_int (fun _ _ => rfl)) qa_nil)) qa_nil))) (qa_cons (qe_callTyN call_list_of dList rfl T.z_list bt_list (qa_cons (qe_var 2) qa_nil)) qa_nil))))
      (qss_cons (qs_cut (qs_if (qt_cmp (op_neD hr.units) dNe (QF.qe (qf_call (G_l_asked) (hr.mono (by decide)) rfl T.m_l_asked T.k_l_asked T.b_l_asked (qk_s (qe_var 1) (qk_s (qe_var 2) qk_nil)))) qe_str (nomark _)) (qss_one (qs_ret qe_bl)) qss_nil))
      (qss_cons (qs_set (i := 4) S.nd rfl (Or.inl rfl) (qe_lst (qa_cons qe_non qa_nil)))
      (qss_cons (qs_cut (qs_if (qt_cmp (op_neD hr.units) dNe (qe_var 2) (qe_lst qa_nil) (nomark _)) (qss_cons (qs_asg (qe_call (G_l_spoiled) (hr.mono (by decide)) rfl T.m_l_spoiled T.k_l_spoiled T.b_l_spoiled (qk_m 0 (qk_s (qe_var 1) (qk_s (qe_var 2) qk_nil)))) (qg_lst rfl (qgs_cons (qg_name (i := 4) S.nd rfl (Or.inl rfl)) (qgs_cons (qg_name (i := 5) S.nd rfl (Or.inl rfl)) qgs_nil)) (takes_cons1 (takes_cons1 takes_nil))))
      (qss_one (qs_if (qt_cmp (op_neD hr.units) dNe (QF.qe (qf_call (G_l_asked) (hr.mono (by decide)) rfl T.m_l_asked T.k_l_asked T.b_l_asked (qk_s (qe_var 1) (qk_s (qe_var 4) qk_nil)))) (qe_var 5) (nomark _)) (qss_one (qs_ret qe_bl)) qss_nil))) qss_nil))
      (qss_cons (qs_cut (qs_set (i := 6) S.nd rfl (Or.inl rfl) (qe_mk op_rep dRep (qe_lst (qa_cons (qe_tup (qa_cons qe_int (qa_cons qe_int (qa_cons (qe_op op_pow dIC qe_int qe_int) (qa_cons (qe_op op_pow dIC qe_int qe_int) qa_nil))))) qa_nil)) qe_int)))
      (qss_cons (qs_set (i := 7) S.nd rfl (Or.inl rfl) (qe_lst (qa_cons qe_non (qa_cons (qe_tupOf rfl T.z_tuple bt_tuple (qe_var 2)) (qa_cons qe_str (qa_cons qe_dict0 (qa_cons qe_int (qa_cons (qe_var 6) (qa_cons (qe_mk op_cat dCat (qe_mk op_cat dCat (qe_slice (qe_var 6) qo_none (qo_some qe_int)) (qe_lst (qa_cons qe_non qa_nil))) (qe_slice (qe_var 6) qo_none (qo_some qe_int))) qa_nil)))))))))
      (qss_cons (qs_cut (qs_set (i := 8) S.nd rfl (Or.inl rfl) (qe_ix ix_seq dIx (qe_var 7) (qe_call (G_l_take) (hr.mono (by decide)) rfl T.m_l_take T.k_l_take T.b_l_take (qk_m 0 (qk_s qe_int qk_nil))) (fun _ _ => rfl))))
      (qss_cons (qs_cut (qs_if (QW.qt (qw_or (qt_cmp (op_neD hr.units) dNe (QF.qe (qf_call (G_l_asked) (hr.mono (by decide)) rfl T.m_l_asked T.k_l_asked T.b_l_asked (qk_s (qe_var 1) (qk_s (qe_var 8) qk_nil)))) (qe_lst (qa_cons qe_non qa_nil)) (nomark _)) (qw_or1 (qt_cmp (op_neD hr.units) dNe (QF.qe (qf_call (G_l_asked) (hr.mono (by decide)) rfl T.m_l_asked T.k_l_asked T.b_l_asked (qk_s (qe_var 1) (qk_s (qe_slice (qe_var 6) qo_none (qo_some qe_int)) qk_nil)))) qe_str (nomark _))))) (qss_one (qs_ret qe_bl)) qss_nil))
      (qss_cons (qs_set (i := 9) S.nd rfl (Or.inl rfl) (qe_lst (qa_cons qe_non (qa_cons (qe_tup (qa_cons (qe_lst qa_nil) (qa_cons (qe_lst qa_nil) qa_nil))) (qa_cons (qe_tup (qa_cons (qe_ix ix_seq dIx (qe_var 1) qe_int (fun _ _ => rfl)) (qa_cons (qe_mk op_cat dCat (qe_ix ix_seq dIx (qe_var 1) qe_int (fun _ _ => rfl)) (qe_lst (qa_cons qe_int qa_nil))) qa_nil))) (qa_cons (qe_tup (qa_cons (qe_ix ix_seq dIx (qe_var 1) qe_int (fun _ _ => rfl)) (qa_cons (qe_mk op_rep dRep (qe_lst (qa_cons qe_int qa_nil)) (qe_callB call_len_seq dLen rfl T.z_len bt_len (qa_cons (qe_ix ix_seq dIx (qe_var 1) qe_int (fun _ _ => rfl)) qa_nil))) qa_nil))) qa_nil))))))
      (qss_cons (qs_set (i := 10) S.nd rfl (Or.inl rfl) (qe_call (G_l_take) (hr.mono (by decide)) rfl T.m_l_take T.k_l_take T.b_l_take (qk_m 0 (qk_s qe_int qk_nil))))
      (qss_cons (qs_cut (qs_set (i := 5) S.nd rfl (Or.inl rfl) (qe_lst (qa_cons qe_str (qa_cons (qe_ix ix_seq dIx (qe_lst (qa_cons qe_str (qa_cons qe_str qa_nil))) (qe_op op_fdiv dIC (qe_var 10) qe_int) (fun _ _ => rfl)) (qa_cons (qe_ix ix_seq dIx (qe_lst (qa_cons qe_non (qa_cons qe_int qa_nil))) (qe_op op_fdiv dIC (qe_var 10) qe_int) (fun _ _ => rfl)) qa_nil))))))
      (qss_cons (qs_for PassesOwn.never rfl (qi_list (qe_lst (qa_cons (qe_var 2) (qa_cons (qe_var 4) (qa_cons (qe_var 8) qa_nil))))) (qg_name (i := 11) S.nd rfl (Or.inl rfl)) (qss_one (qs_if (qt_cmp (op_neD hr.units) dNe (QF.qe (qf_call (G_l_asked) (hr.mono (by decide)) rfl T.m_l_asked T.k_l_asked T.b_l_asked (qk_s (qe_ix ix_seq dIx (qe_var 9) (qe_var 10) (fun _ _ => rfl)) (qk_s (qe_var 11) qk_nil)))) (qe_var 5) (nomark _)) (qss_one (qs_ret qe_bl)) qss_nil)))
      (qss_one (qs_ret (qe_cmp (op_eqD hr.units) dEq (qe_lst (qa_cons (qe_var 1) (qa_cons (qe_var 2) qa_nil))) (qe_var 3) (nomark _)))))))))))))))), fun ds q h => ?_⟩
  case hl => intro ds q h; obtain ⟨c, m, ps, rs, as, rfl, _⟩ := h; rfl
  obtain ⟨c, m, ps, rs, as, rfl, h0, hT, hA, q0⟩ := h
  have hl := hT.len
  have hlo := hT.lo
  have hhi := hT.hi
  have hal := hA.len
  have okF : okD (.str "fine") = true := okD_str (by decide +kernel)
  have pA := pln_dAsks as
  have pA' : plns (as.map dAsk) = true := by unfold dAsks at pA; rw [pln] at pA; exact pA
  refine ⟨fun ρ => ρ = [some (dInts [c, m]), some (dPair ps rs), some (dAsks as), some (.lst [dPair ps rs, dAsks as]), none, none, none, none, none, none, none, none], ?_, ?_⟩
  · refine ⟨_, _, rfl, .inr ⟨ps, rs, rfl, hT, pA, .inr ⟨asksErr_ok hA, ?_⟩⟩⟩
    refine ⟨okF, okF, ?_⟩
    rw [eqD_str, beq_self_eq_true]; rfl
  rintro ρ rfl
  refine ⟨fun ρ => ∃ (M : D) (v : Option D) (c1 m1 : Int), ρ = [some (dInts [c1, m1]), some (dPair ps rs), some (dAsks as), some (.lst [dPair ps rs, dAsks as]), some M, v, none, none, none, none, none, none] ∧ 0 ≤ c1 ∧ pln M = true, ?_, ?_⟩
  · by_cases hne : as = []
    · subst hne
      refine ⟨?_, ?_, ?_⟩
      · exact okD_lay (lay_dAsks 0 []) (by decide)
      · exact okD_lay (n := 1) rfl (by decide)
      · rw [eqD_asks_nil]
        exact ⟨_, _, _, _, rfl, h0, rfl⟩
    · refine ⟨?_, ?_, ?_⟩
      · exact okD_lay (lay_dAsks 0 as) (by decide)
      · exact okD_lay (n := 1) rfl (by decide)
      · rw [eqD_asks_nil, show as.isEmpty = false by cases as; exact absurd rfl hne; rfl]
        refine ⟨c, m, ps, rs, as, rfl, h0, hT, hA, hne, fun L j c1 m1 l1 l2 h1 => ?_⟩
        refine ⟨_, _, rfl, .inr ⟨ps, rs, rfl, hT, by rw [pln]; exact l1, .inl ⟨_, l2, ?_⟩⟩⟩
        have lay1 : layS 1 (.lst [D.int (j : Int)]) = true := rfl
        refine ⟨okD_layS lay1 (by decide), okD_layS lay1 (by decide), ?_⟩
        rw [eqD_selfS 1 _ lay1]
        exact ⟨_, _, _, _, rfl, h1, by rw [pln]; exact l1⟩
  rintro ρ ⟨M, v, c1, m1, rfl, h1, pM⟩
  refine ⟨fun ρ => ρ = [some (dInts [c1, m1]), some (dPair ps rs), some (dAsks as), some (.lst [dPair ps rs, dAsks as]), some M, v, some (.lst (List.replicate 31 (dAsk ask1))), none, none, none, none, none], ?_, ?_⟩
  · refine ⟨⟨by decide, by decide, by decide⟩, ⟨by decide, by decide, by decide⟩, ?_⟩
    refine ⟨⟨by decide, by decide, by decide⟩, ?_⟩
    rfl
  rintro ρ rfl
  have hrep : (List.replicate 31 (dAsk ask1)).length = 31 := List.length_replicate
  have e3 : cutD (List.replicate 31 (dAsk ask1)) none (some 3) = List.replicate 3 (dAsk ask1) := by rw [cutD_take (by decide)]; rfl
  have e27 : cutD (List.replicate 31 (dAsk ask1)) none (some 27) = List.replicate 27 (dAsk ask1) := by rw [cutD_take (by decide)]; rfl
  refine ⟨by rw [e3]; simp, by rw [e3, e27]; simp, ?_⟩
  refine ⟨fun ρ => ∃ (o : D) (v7 : Option D) (c2 m2 : Int), ρ = [some (dInts [c2, m2]), some (dPair ps rs), some (dAsks as), some (.lst [dPair ps rs, dAsks as]), some M, v, some (.lst (List.replicate 31 (dAsk ask1))), v7, some o, none, none, none] ∧ 0 ≤ c2 ∧ pln o = true ∧ asksErr ps.length o = some .non, ?_, ?_⟩
  · refine ⟨c1, m1, 7, rfl, h1, by decide, sm_of (n := 7) (by decide) (by decide +kernel), fun r c2 m2 r0 r1 h2 => ?_⟩
    have pR : ∀ n : Nat, plns (List.replicate n (dAsk ask1)) = true := fun n => plns_of fun d hd => by rw [List.eq_of_mem_replicate hd]; rfl
    obtain ⟨x, hx, x1, x2⟩ : ∃ x : D, atI [D.non, D.tup (as.map dAsk), D.str "asks", D.dct, D.int 5, D.lst (List.replicate 31 (dAsk ask1)), D.lst (cutD (List.replicate 31 (dAsk ask1)) none (some 3) ++ [D.non] ++ cutD (List.replicate 31 (dAsk ask1)) none (some 27))] r = some x ∧ pln x = true ∧ asksErr ps.length x = some .non := by
      have : r = 0 ∨ r = 1 ∨ r = 2 ∨ r = 3 ∨ r = 4 ∨ r = 5 ∨ r = 6 := by omega
      rcases this with rfl | rfl | rfl | rfl | rfl | rfl | rfl
      · exact ⟨_, rfl, rfl, rfl⟩
      · exact ⟨_, rfl, by rw [pln]; exact pA', rfl⟩
      · exact ⟨_, rfl, rfl, rfl⟩
      · exact ⟨_, rfl, rfl, rfl⟩
      · exact ⟨_, rfl, rfl, rfl⟩
      · exact ⟨_, rfl, by rw [pln]; exact pR 31, many_non (by rw [hrep]; decide)⟩
      · refine ⟨_, rfl, ?_, many_non ?_⟩
        · rw [pln, e3, e27]; exact plns_app (plns_app (pR 3) rfl) (pR 27)
        · rw [e3, e27]; simp
    refine atD_of hx ?_
    exact ⟨x, _, c2, m2, rfl, h2, x1, x2⟩
  rintro ρ ⟨o, v7, c2, m2, rfl, h2, o1, o2⟩
  refine ⟨fun ρ => ρ = [some (dInts [c2, m2]), some (dPair ps rs), some (dAsks as), some (.lst [dPair ps rs, dAsks as]), some M, v, some (.lst (List.replicate 31 (dAsk ask1))), v7, some o, none, none, none], ?_, ?_⟩
  · refine ⟨_, _, rfl, .inr ⟨ps, rs, rfl, hT, o1, .inl ⟨_, o2, ?_⟩⟩⟩
    have lay1 : layS 1 (.lst [D.non]) = true := rfl
    refine ⟨okD_layS lay1 (by decide), okD_layS lay1 (by decide), ?_⟩
    rw [eqD_selfS 1 _ lay1]
    have e30 : cutD (List.replicate 31 (dAsk ask1)) none (some 30) = (List.replicate 30 ask1).map dAsk := by rw [cutD_take (by decide), ← rep_asks]; rfl
    have a30 : AsksOk ps (List.replicate 30 ask1) := ⟨by rw [List.length_replicate]; decide, fun a ha => by rw [List.eq_of_mem_replicate ha]; exact ask1_ok hT⟩
    refine ⟨_, _, rfl, .inr ⟨ps, rs, rfl, hT, ?_, .inr ⟨?_, ?_⟩⟩⟩
    · rw [e30]; exact pln_dAsks _
    · rw [e30]; exact asksErr_ok a30
    refine ⟨okF, okF, ?_⟩
    rw [eqD_str, beq_self_eq_true]; rfl
  rintro ρ rfl
  refine ⟨by show (rs.map D.int).length + 1 ≤ 1000; rw [len_ints]; omega, ?_⟩
  refine ⟨⟨by rw [len_ints]; omega, by rw [len_ints]; omega, by rw [len_ints]; simp; omega⟩, ?_⟩
  refine ⟨c2, m2, 4, rfl, h2, by decide, sm_of (n := 4) (by decide) (by decide +kernel), fun way c3 m3 w0 w1 h3 => ?_⟩
  have hbad : ∀ k : Nat, k < 4 → ∃ t p n, atI [D.non, D.tup [D.lst [], D.lst []], D.tup [dInts ps, .lst (rs.map D.int ++ [.int 1])], D.tup [dInts ps, .lst (List.replicate rs.length (D.int 0))]] (k : Int) = some t ∧ pln t = true ∧ treeErr t = some (p, n) ∧
      atI [D.str "tree", D.str "rooms"] ((k : Int) / 3) = some (.str p) ∧ atI [D.non, D.int 0] ((k : Int) / 3) = some n ∧ okD (.lst [.str "tree", .str p, n]) = true ∧ eqD (.lst [.str "tree", .str p, n]) (.lst [.str "tree", .str p, n]) = true := by
    have l0 : layS 1 (.lst [.str "tree", .str "tree", .non]) = true := by decide +kernel
    have l1 : layS 1 (.lst [.str "tree", .str "rooms", .int 0]) = true := by decide +kernel
    intro k hk
    have : k = 0 ∨ k = 1 ∨ k = 2 ∨ k = 3 := by omega
    rcases this with rfl | rfl | rfl | rfl
    · exact ⟨_, _, _, rfl, rfl, treeErr_no rfl, rfl, rfl, okD_layS l0 (by decide), eqD_selfS 1 _ l0⟩
    · exact ⟨_, _, _, rfl, rfl, treeErr_no rfl, rfl, rfl, okD_layS l0 (by decide), eqD_selfS 1 _ l0⟩
    · refine ⟨_, _, _, rfl, ?_, two_bad hT, rfl, rfl, okD_layS l0 (by decide), eqD_selfS 1 _ l0⟩
      rw [pln, plns_cons, plns_cons, pln]; exact ⟨pln_dInts _, plns_app (plns_ints rs) rfl, rfl⟩
    · refine ⟨_, _, _, rfl, ?_, zero_bad hT, rfl, rfl, okD_layS l1 (by decide), eqD_selfS 1 _ l1⟩
      rw [pln, plns_cons, plns_cons, pln]; exact ⟨pln_dInts _, plns_of fun d hd => by rw [List.eq_of_mem_replicate hd]; rfl, rfl⟩
  obtain ⟨k, rfl⟩ : ∃ k : Nat, way = k := ⟨way.toNat, by omega⟩
  obtain ⟨t, p, n, t1, t2, t3, t4, t5, t6, t7⟩ := hbad k (by omega)
  refine ⟨fun ρ => ρ = [some (dInts [c3, m3]), some (dPair ps rs), some (dAsks as), some (.lst [dPair ps rs, dAsks as]), some M, some (.lst [.str "tree", .str p, n]), some (.lst (List.replicate 31 (dAsk ask1))), v7, some o, some (.lst [D.non, D.tup [D.lst [], D.lst []], D.tup [dInts ps, .lst (rs.map D.int ++ [.int 1])], D.tup [dInts ps, .lst (List.replicate rs.length (D.int 0))]]), some (.int (k : Int)), none], ?_, ?_⟩
  · refine ⟨⟨by decide, by decide⟩, ?_⟩
    refine atD_of t4 ?_
    refine ⟨⟨by decide, by decide⟩, ?_⟩
    refine atD_of t5 ?_
    have ef : (List.replicate (((rs.map D.int).length : Int)).toNat [D.int 0]).flatten = List.replicate rs.length (D.int 0) := by rw [rep_flat, len_ints, Int.toNat_natCast]
    exact congrArg (fun z => [some (dInts [c3, m3]), some (dPair ps rs), some (dAsks as), some (D.lst [dPair ps rs, dAsks as]), some M, some (D.lst [D.str "tree", D.str p, n]), some (D.lst (List.replicate 31 (dAsk ask1))), v7, some o, some (D.lst [D.non, D.tup [D.lst [], D.lst []], D.tup [dInts ps, D.lst (rs.map D.int ++ [D.int 1])], D.tup [dInts ps, D.lst z]]), some (D.int (k : Int)), none]) ef
  rintro ρ rfl
  refine ⟨fun i ρ => ∃ u, ρ = [some (dInts [c3, m3]), some (dPair ps rs), some (dAsks as), some (.lst [dPair ps rs, dAsks as]), some M, some (.lst [.str "tree", .str p, n]), some (.lst (List.replicate 31 (dAsk ask1))), v7, some o, some (.lst [D.non, D.tup [D.lst [], D.lst []], D.tup [dInts ps, .lst (rs.map D.int ++ [.int 1])], D.tup [dInts ps, .lst (List.replicate rs.length (D.int 0))]]), some (.int (k : Int)), u], ⟨_, rfl⟩, ?_, ?_⟩
  · rintro i d ρ hd ⟨u, rfl⟩
    refine atD_of t1 ?_
    refine ⟨t, d, rfl, .inl ⟨p, n, t2, t3, ?_⟩⟩
    refine ⟨t6, t6, ?_⟩
    rw [t7]
    exact ⟨_, rfl⟩
  · rintro ρ ⟨u, rfl⟩
    have ll : lay 3 (.lst [dPair ps rs, dAsks as]) = true := by
      show [dPair ps rs, dAsks as].all (lay 2) = true
      rw [List.all_cons, List.all_cons, lay_dPair 0, lay_dAsks 0]; rfl
    refine ⟨okD_lay ll (by decide), okD_lay ll (by decide), ?_⟩
    rw [eqD_self 3 _ ll]
    exact q0 c3 m3
set_option maxHeartbeats 4000000 in
theorem ok_law (T : Txt K mg A) : FnOk P w K mg base CX0 9 A.f_law A.d_law ["_law_script"] (spOf [false] false (sdLaw K)) := by
  have G_l_asked := ok_l_asked (P := P) (w := w) (base := base) T
  have G_l_asks := ok_l_asks (P := P) (w := w) (base := base) T
  have G_l_pool := ok_l_pool (P := P) (w := w) (base := base) T
  have G_l_right := ok_l_right (P := P) (w := w) (base := base) T
  have G_l_tree := ok_l_tree (P := P) (w := w) (base := base) T
  have S := sc_law
  refine fnD T.F_law S ⟨[false], [false, false, true, false, false], false⟩ _ ?hl rfl rfl fun cdv Ar outer s H E hr => ⟨_, (qss_cons (qs_for PassesOwn.never rfl (qi_range1 rfl T.z_range (qa_cons (qe_callB (call_max2 rfl) dMax rfl T.z_max bt_max (qa_cons qe_int (qa_cons (qe_callB (call_min2 rfl) dMin rfl T.z_min bt_min (qa_cons qe_int (qa_cons (qe_callB call_len_seq dLen rfl T.z_len bt_len (qa_cons (qe_var 0) qa_nil)) qa_nil))) qa_nil))) qa_nil)) (qg_name (i := 1) S.nd rfl (Or.inl rfl)) (qss_cons (qs_setO (i := 2) S.nd rfl (Or.inl rfl) (qf_call (G_l_pool) (hr.mono (by decide)) rfl T.m_l_pool T.k_l_pool T.b_l_pool (qk_s (qe_var 0) (qk_s (qe_var 1) qk_nil))))
      (qss_cons (qs_set (i := 3) S.nd rfl (Or.inl rfl) (QF.qe (qf_call (G_l_tree) (hr.mono (by decide)) rfl T.m_l_tree T.k_l_tree T.b_l_tree (qk_m 2 (qk_s qe_int (qk_s (qe_lst (qa_cons qe_int (qa_cons qe_int (qa_cons (qe_op op_pow dIC qe_int qe_int) qa_nil)))) qk_nil))))))
      (qss_cons (qs_set (i := 4) S.nd rfl (Or.inl rfl) (QF.qe (qf_call (G_l_asks) (hr.mono (by decide)) rfl T.m_l_asks T.k_l_asks T.b_l_asks (qk_m 2 (qk_s (qe_var 3) (qk_s qe_int (qk_s qe_int (qk_s (qe_lst (qa_cons qe_int (qa_cons qe_int (qa_cons qe_int (qa_cons (qe_op op_pow dIC qe_int qe_int) qa_nil))))) qk_nil))))))))
      (qss_one (qs_if (qt_not (qt_val (qe_call (G_l_right) (hr.mono (by decide)) rfl T.m_l_right T.k_l_right T.b_l_right (qk_m 2 (qk_s (qe_var 3) (qk_s (qe_var 4) qk_nil)))))) (qss_one (qs_ret qe_bl)) qss_nil))))))
      (qss_one (qs_ret (qe_cmp (op_eqD hr.units) dEq (QF.qe (qf_call (G_l_asked) (hr.mono (by decide)) rfl T.m_l_asked T.k_l_asked T.b_l_asked (qk_s (qe_tup (qa_cons (qe_lst (qa_cons qe_int qa_nil)) (qa_cons (qe_lst (qa_cons qe_int qa_nil)) qa_nil))) (qk_s (qe_lst qa_nil) qk_nil)))) qe_str (nomark _))))), fun ds q h => ?_⟩
  case hl => intro ds q h; obtain ⟨φ, ns, rfl, _⟩ := h; rfl
  obtain ⟨φ, ns, rfl, hφ, hl, q0⟩ := h
  refine ⟨hφ, ?_⟩
  refine ⟨⟨by split <;> split <;> omega, by split <;> split <;> omega⟩, ?_⟩
  refine ⟨fun i ρ => ∃ (v1 v2 v3 v4 : Option D), ρ = [some (.scr φ ns), v1, v2, v3, v4], ⟨_, _, _, _, rfl⟩, ?_, ?_⟩
  · rintro i d ρ hd ⟨v1, v2, v3, v4, rfl⟩
    obtain ⟨hi, rfl⟩ := rngD_at hd
    have hi2 : i < 30 := by
      revert hi; split <;> split <;> omega
    refine ⟨φ, ns, 0 + (i : Int), rfl, hφ, by omega, by omega, fun c m h0 => ?_⟩
    refine ⟨⟨by decide, by decide, by decide⟩, ?_⟩
    refine ⟨c, m, 23, [3, 60, 1000000], rfl, h0, by decide, by decide, by decide, by decide, by simp, fun ps rs c1 m1 hT hlen h1 => ?_⟩
    refine ⟨⟨by decide, by decide, by decide⟩, ?_⟩
    refine ⟨c1, m1, ps, rs, 0, 30, [1, 4, 60, 1000000], rfl, h1, hT, by decide, by decide, by decide, by decide, by decide, by simp, fun as c2 m2 hA hlo hhi hsz h2 => ?_⟩
    refine ⟨c2, m2, ps, rs, as, rfl, h2, hT, hA, fun c3 m3 => ?_⟩
    exact ⟨_, _, _, _, rfl⟩
  · rintro ρ ⟨v1, v2, v3, v4, rfl⟩
    have hT : Tree [0] [1] := ⟨rfl, by decide, by decide, fun i x e => by
      cases i with
      | zero => simp at e; subst e; simp
      | succ i => simp at e, fun i x e => by
      cases i with
      | zero => simp at e; subst e; simp
      | succ i => simp at e⟩
    have hA : AsksOk [0] [] := ⟨by decide, fun a h => by cases h⟩
    refine ⟨_, _, rfl, .inr ⟨[0], [1], rfl, hT, rfl, .inr ⟨asksErr_ok hA, ?_⟩⟩⟩
    have okF : okD (.str "fine") = true := okD_str (by decide +kernel)
    refine ⟨okF, okF, ?_⟩
    rw [eqD_str, beq_self_eq_true]
    exact q0
end
end K07


set_option Elab.async false
set_option linter.all false
set_option maxRecDepth 100000
set_option maxHeartbeats 4000000
set_option exponentiation.threshold 9000
namespace K07
open PySem L2
theorem all_mk {l : PySem.W.OpenLaw} {w : World} {K : PySem.W.Frag} {h : Heap} {mg : Str → Option Value} {fa f_is_whole f_is_between f_has_two_lists f_look_at_tree f_is_place f_are_ends f_is_ask f_look_at_asks f_l_cell_at f_l_pool f_l_take f_l_tree f_l_asks f_l_asked f_l_no_ask f_l_spoiled f_l_right f_law : Addr} (X : K.In h) (G : h.Ns mainGlobals mg) (hfa : mg "law" = some (.ref fa))
    {od_is_whole an_is_whole : Option Addr} {sl_is_whole : Array (Option Value)} {oc_is_whole kV_is_whole dc_is_whole pm_is_whole cd_is_whole ct_is_whole : Value} (a_is_whole : PySem.W.nsIn K mainGlobals "is_whole" = some (some (.ref f_is_whole))) (l_is_whole : K.lookup f_is_whole = some ⟨oc_is_whole, od_is_whole, .func (PySem.W.fnOf "is_whole" "is_whole" (defArgs s_is_whole) (defBody s_is_whole) (defScope s_is_whole) .none kV_is_whole dc_is_whole pm_is_whole an_is_whole cd_is_whole ct_is_whole), sl_is_whole⟩) (c_is_whole : PySem.W.codeIn K cd_is_whole "is_whole" = true) (k_is_whole : PySem.W.keepIn K (.ref f_is_whole) = true)
    {od_is_between an_is_between : Option Addr} {sl_is_between : Array (Option Value)} {oc_is_between kV_is_between dc_is_between pm_is_between cd_is_between ct_is_between : Value} (a_is_between : PySem.W.nsIn K mainGlobals "is_between" = some (some (.ref f_is_between))) (l_is_between : K.lookup f_is_between = some ⟨oc_is_between, od_is_between, .func (PySem.W.fnOf "is_between" "is_between" (defArgs s_is_between) (defBody s_is_between) (defScope s_is_between) .none kV_is_between dc_is_between pm_is_between an_is_between cd_is_between ct_is_between), sl_is_between⟩) (c_is_between : PySem.W.codeIn K cd_is_between "is_between" = true) (k_is_between : PySem.W.keepIn K (.ref f_is_between) = true)
    {od_has_two_lists an_has_two_lists : Option Addr} {sl_has_two_lists : Array (Option Value)} {oc_has_two_lists kV_has_two_lists dc_has_two_lists pm_has_two_lists cd_has_two_lists ct_has_two_lists : Value} (a_has_two_lists : PySem.W.nsIn K mainGlobals "has_two_lists" = some (some (.ref f_has_two_lists))) (l_has_two_lists : K.lookup f_has_two_lists = some ⟨oc_has_two_lists, od_has_two_lists, .func (PySem.W.fnOf "has_two_lists" "has_two_lists" (defArgs s_has_two_lists) (defBody s_has_two_lists) (defScope s_has_two_lists) .none kV_has_two_lists dc_has_two_lists pm_has_two_lists an_has_two_lists cd_has_two_lists ct_has_two_lists), sl_has_two_lists⟩) (c_has_two_lists : PySem.W.codeIn K cd_has_two_lists "has_two_lists" = true) (k_has_two_lists : PySem.W.keepIn K (.ref f_has_two_lists) = true)
    {od_look_at_tree an_look_at_tree : Option Addr} {sl_look_at_tree : Array (Option Value)} {oc_look_at_tree kV_look_at_tree dc_look_at_tree pm_look_at_tree cd_look_at_tree ct_look_at_tree : Value} (a_look_at_tree : PySem.W.nsIn K mainGlobals "look_at_tree" = some (some (.ref f_look_at_tree))) (l_look_at_tree : K.lookup f_look_at_tree = some ⟨oc_look_at_tree, od_look_at_tree, .func (PySem.W.fnOf "look_at_tree" "look_at_tree" (defArgs s_look_at_tree) (defBody s_look_at_tree) (defScope s_look_at_tree) .none kV_look_at_tree dc_look_at_tree pm_look_at_tree an_look_at_tree cd_look_at_tree ct_look_at_tree), sl_look_at_tree⟩) (c_look_at_tree : PySem.W.codeIn K cd_look_at_tree "look_at_tree" = true) (k_look_at_tree : PySem.W.keepIn K (.ref f_look_at_tree) = true)
    {od_is_place an_is_place : Option Addr} {sl_is_place : Array (Option Value)} {oc_is_place kV_is_place dc_is_place pm_is_place cd_is_place ct_is_place : Value} (a_is_place : PySem.W.nsIn K mainGlobals "is_place" = some (some (.ref f_is_place))) (l_is_place : K.lookup f_is_place = some ⟨oc_is_place, od_is_place, .func (PySem.W.fnOf "is_place" "is_place" (defArgs s_is_place) (defBody s_is_place) (defScope s_is_place) .none kV_is_place dc_is_place pm_is_place an_is_place cd_is_place ct_is_place), sl_is_place⟩) (c_is_place : PySem.W.codeIn K cd_is_place "is_place" = true) (k_is_place : PySem.W.keepIn K (.ref f_is_place) = true)
    {od_are_ends an_are_ends : Option Addr} {sl_are_ends : Array (Option Value)} {oc_are_ends kV_are_ends dc_are_ends pm_are_ends cd_are_ends ct_are_ends : Value} (a_are_ends : PySem.W.nsIn K mainGlobals "are_ends" = some (some (.ref f_are_ends))) (l_are_ends : K.lookup f_are_ends = some ⟨oc_are_ends, od_are_ends, .func (PySem.W.fnOf "are_ends" "are_ends" (defArgs s_are_ends) (defBody s_are_ends) (defScope s_are_ends) .none kV_are_ends dc_are_ends pm_are_ends an_are_ends cd_are_ends ct_are_ends), sl_are_ends⟩) (c_are_ends : PySem.W.codeIn K cd_are_ends "are_ends" = true) (k_are_ends : PySem.W.keepIn K (.ref f_are_ends) = true)
    {od_is_ask an_is_ask : Option Addr} {sl_is_ask : Array (Option Value)} {oc_is_ask kV_is_ask dc_is_ask pm_is_ask cd_is_ask ct_is_ask : Value} (a_is_ask : PySem.W.nsIn K mainGlobals "is_ask" = some (some (.ref f_is_ask))) (l_is_ask : K.lookup f_is_ask = some ⟨oc_is_ask, od_is_ask, .func (PySem.W.fnOf "is_ask" "is_ask" (defArgs s_is_ask) (defBody s_is_ask) (defScope s_is_ask) .none kV_is_ask dc_is_ask pm_is_ask an_is_ask cd_is_ask ct_is_ask), sl_is_ask⟩) (c_is_ask : PySem.W.codeIn K cd_is_ask "is_ask" = true) (k_is_ask : PySem.W.keepIn K (.ref f_is_ask) = true)
    {od_look_at_asks an_look_at_asks : Option Addr} {sl_look_at_asks : Array (Option Value)} {oc_look_at_asks kV_look_at_asks dc_look_at_asks pm_look_at_asks cd_look_at_asks ct_look_at_asks : Value} (a_look_at_asks : PySem.W.nsIn K mainGlobals "look_at_asks" = some (some (.ref f_look_at_asks))) (l_look_at_asks : K.lookup f_look_at_asks = some ⟨oc_look_at_asks, od_look_at_asks, .func (PySem.W.fnOf "look_at_asks" "look_at_asks" (defArgs s_look_at_asks) (defBody s_look_at_asks) (defScope s_look_at_asks) .none kV_look_at_asks dc_look_at_asks pm_look_at_asks an_look_at_asks cd_look_at_asks ct_look_at_asks), sl_look_at_asks⟩) (c_look_at_asks : PySem.W.codeIn K cd_look_at_asks "look_at_asks" = true) (k_look_at_asks : PySem.W.keepIn K (.ref f_look_at_asks) = true)
    {od_l_cell_at an_l_cell_at : Option Addr} {sl_l_cell_at : Array (Option Value)} {oc_l_cell_at kV_l_cell_at dc_l_cell_at pm_l_cell_at cd_l_cell_at ct_l_cell_at : Value} (a_l_cell_at : PySem.W.nsIn K mainGlobals "_law_cell_at" = some (some (.ref f_l_cell_at))) (l_l_cell_at : K.lookup f_l_cell_at = some ⟨oc_l_cell_at, od_l_cell_at, .func (PySem.W.fnOf "_law_cell_at" "_law_cell_at" (defArgs s_l_cell_at) (defBody s_l_cell_at) (defScope s_l_cell_at) .none kV_l_cell_at dc_l_cell_at pm_l_cell_at an_l_cell_at cd_l_cell_at ct_l_cell_at), sl_l_cell_at⟩) (c_l_cell_at : PySem.W.codeIn K cd_l_cell_at "_law_cell_at" = true) (k_l_cell_at : PySem.W.keepIn K (.ref f_l_cell_at) = true)
    {od_l_pool an_l_pool : Option Addr} {sl_l_pool : Array (Option Value)} {oc_l_pool kV_l_pool dc_l_pool pm_l_pool cd_l_pool ct_l_pool : Value} (a_l_pool : PySem.W.nsIn K mainGlobals "_law_pool" = some (some (.ref f_l_pool))) (l_l_pool : K.lookup f_l_pool = some ⟨oc_l_pool, od_l_pool, .func (PySem.W.fnOf "_law_pool" "_law_pool" (defArgs s_l_pool) (defBody s_l_pool) (defScope s_l_pool) .none kV_l_pool dc_l_pool pm_l_pool an_l_pool cd_l_pool ct_l_pool), sl_l_pool⟩) (c_l_pool : PySem.W.codeIn K cd_l_pool "_law_pool" = true) (k_l_pool : PySem.W.keepIn K (.ref f_l_pool) = true)
    {od_l_take an_l_take : Option Addr} {sl_l_take : Array (Option Value)} {oc_l_take kV_l_take dc_l_take pm_l_take cd_l_take ct_l_take : Value} (a_l_take : PySem.W.nsIn K mainGlobals "_law_take" = some (some (.ref f_l_take))) (l_l_take : K.lookup f_l_take = some ⟨oc_l_take, od_l_take, .func (PySem.W.fnOf "_law_take" "_law_take" (defArgs s_l_take) (defBody s_l_take) (defScope s_l_take) .none kV_l_take dc_l_take pm_l_take an_l_take cd_l_take ct_l_take), sl_l_take⟩) (c_l_take : PySem.W.codeIn K cd_l_take "_law_take" = true) (k_l_take : PySem.W.keepIn K (.ref f_l_take) = true)
    {od_l_tree an_l_tree : Option Addr} {sl_l_tree : Array (Option Value)} {oc_l_tree kV_l_tree dc_l_tree pm_l_tree cd_l_tree ct_l_tree : Value} (a_l_tree : PySem.W.nsIn K mainGlobals "_law_tree" = some (some (.ref f_l_tree))) (l_l_tree : K.lookup f_l_tree = some ⟨oc_l_tree, od_l_tree, .func (PySem.W.fnOf "_law_tree" "_law_tree" (defArgs s_l_tree) (defBody s_l_tree) (defScope s_l_tree) .none kV_l_tree dc_l_tree pm_l_tree an_l_tree cd_l_tree ct_l_tree), sl_l_tree⟩) (c_l_tree : PySem.W.codeIn K cd_l_tree "_law_tree" = true) (k_l_tree : PySem.W.keepIn K (.ref f_l_tree) = true)
    {od_l_asks an_l_asks : Option Addr} {sl_l_asks : Array (Option Value)} {oc_l_asks kV_l_asks dc_l_asks pm_l_asks cd_l_asks ct_l_asks : Value} (a_l_asks : PySem.W.nsIn K mainGlobals "_law_asks" = some (some (.ref f_l_asks))) (l_l_asks : K.lookup f_l_asks = some ⟨oc_l_asks, od_l_asks, .func (PySem.W.fnOf "_law_asks" "_law_asks" (defArgs s_l_asks) (defBody s_l_asks) (defScope s_l_asks) .none kV_l_asks dc_l_asks pm_l_asks an_l_asks cd_l_asks ct_l_asks), sl_l_asks⟩) (c_l_asks : PySem.W.codeIn K cd_l_asks "_law_asks" = true) (k_l_asks : PySem.W.keepIn K (.ref f_l_asks) = true)
    {od_l_asked an_l_asked : Option Addr} {sl_l_asked : Array (Option Value)} {oc_l_asked kV_l_asked dc_l_asked pm_l_asked cd_l_asked ct_l_asked : Value} (a_l_asked : PySem.W.nsIn K mainGlobals "_law_asked" = some (some (.ref f_l_asked))) (l_l_asked : K.lookup f_l_asked = some ⟨oc_l_asked, od_l_asked, .func (PySem.W.fnOf "_law_asked" "_law_asked" (defArgs s_l_asked) (defBody s_l_asked) (defScope s_l_asked) .none kV_l_asked dc_l_asked pm_l_asked an_l_asked cd_l_asked ct_l_asked), sl_l_asked⟩) (c_l_asked : PySem.W.codeIn K cd_l_asked "_law_asked" = true) (k_l_asked : PySem.W.keepIn K (.ref f_l_asked) = true)
    {od_l_no_ask an_l_no_ask : Option Addr} {sl_l_no_ask : Array (Option Value)} {oc_l_no_ask kV_l_no_ask dc_l_no_ask pm_l_no_ask cd_l_no_ask ct_l_no_ask : Value} (a_l_no_ask : PySem.W.nsIn K mainGlobals "_law_no_ask" = some (some (.ref f_l_no_ask))) (l_l_no_ask : K.lookup f_l_no_ask = some ⟨oc_l_no_ask, od_l_no_ask, .func (PySem.W.fnOf "_law_no_ask" "_law_no_ask" (defArgs s_l_no_ask) (defBody s_l_no_ask) (defScope s_l_no_ask) .none kV_l_no_ask dc_l_no_ask pm_l_no_ask an_l_no_ask cd_l_no_ask ct_l_no_ask), sl_l_no_ask⟩) (c_l_no_ask : PySem.W.codeIn K cd_l_no_ask "_law_no_ask" = true) (k_l_no_ask : PySem.W.keepIn K (.ref f_l_no_ask) = true)
    {od_l_spoiled an_l_spoiled : Option Addr} {sl_l_spoiled : Array (Option Value)} {oc_l_spoiled kV_l_spoiled dc_l_spoiled pm_l_spoiled cd_l_spoiled ct_l_spoiled : Value} (a_l_spoiled : PySem.W.nsIn K mainGlobals "_law_spoiled" = some (some (.ref f_l_spoiled))) (l_l_spoiled : K.lookup f_l_spoiled = some ⟨oc_l_spoiled, od_l_spoiled, .func (PySem.W.fnOf "_law_spoiled" "_law_spoiled" (defArgs s_l_spoiled) (defBody s_l_spoiled) (defScope s_l_spoiled) .none kV_l_spoiled dc_l_spoiled pm_l_spoiled an_l_spoiled cd_l_spoiled ct_l_spoiled), sl_l_spoiled⟩) (c_l_spoiled : PySem.W.codeIn K cd_l_spoiled "_law_spoiled" = true) (k_l_spoiled : PySem.W.keepIn K (.ref f_l_spoiled) = true)
    {od_l_right an_l_right : Option Addr} {sl_l_right : Array (Option Value)} {oc_l_right kV_l_right dc_l_right pm_l_right cd_l_right ct_l_right : Value} (a_l_right : PySem.W.nsIn K mainGlobals "_law_right" = some (some (.ref f_l_right))) (l_l_right : K.lookup f_l_right = some ⟨oc_l_right, od_l_right, .func (PySem.W.fnOf "_law_right" "_law_right" (defArgs s_l_right) (defBody s_l_right) (defScope s_l_right) .none kV_l_right dc_l_right pm_l_right an_l_right cd_l_right ct_l_right), sl_l_right⟩) (c_l_right : PySem.W.codeIn K cd_l_right "_law_right" = true) (k_l_right : PySem.W.keepIn K (.ref f_l_right) = true)
    {od_law an_law : Option Addr} {sl_law : Array (Option Value)} {oc_law kV_law dc_law pm_law cd_law ct_law : Value} (a_law : PySem.W.nsIn K mainGlobals "law" = some (some (.ref f_law))) (l_law : K.lookup f_law = some ⟨oc_law, od_law, .func (PySem.W.fnOf "law" "law" (defArgs s_law) (defBody s_law) (defScope s_law) .none kV_law dc_law pm_law an_law cd_law ct_law), sl_law⟩) (c_law : PySem.W.codeIn K cd_law "law" = true) (k_law : PySem.W.keepIn K (.ref f_law) = true)
    {t_MOST_TIES : Tok} (c_MOST_TIES : PySem.W.nsIn K mainGlobals "MOST_TIES" = some (some (.int 23 t_MOST_TIES)))
    {t_MOST_ROOM : Tok} (c_MOST_ROOM : PySem.W.nsIn K mainGlobals "MOST_ROOM" = some (some (.int 1000000 t_MOST_ROOM)))
    {t_MOST_ASKS : Tok} (c_MOST_ASKS : PySem.W.nsIn K mainGlobals "MOST_ASKS" = some (some (.int 30 t_MOST_ASKS)))
    {t_MOST_SIZE : Tok} (c_MOST_SIZE : PySem.W.nsIn K mainGlobals "MOST_SIZE" = some (some (.int 1000000 t_MOST_SIZE)))
    {t_MOST_WORTH : Tok} (c_MOST_WORTH : PySem.W.nsIn K mainGlobals "MOST_WORTH" = some (some (.int 1000000000000 t_MOST_WORTH)))
    (z_ValueError : PySem.W.nsIn K mainGlobals "ValueError" = some none)
    (z_bool : PySem.W.nsIn K mainGlobals "bool" = some none)
    (z_enumerate : PySem.W.nsIn K mainGlobals "enumerate" = some none)
    (z_int : PySem.W.nsIn K mainGlobals "int" = some none)
    (z_isinstance : PySem.W.nsIn K mainGlobals "isinstance" = some none)
    (z_len : PySem.W.nsIn K mainGlobals "len" = some none)
    (z_list : PySem.W.nsIn K mainGlobals "list" = some none)
    (z_max : PySem.W.nsIn K mainGlobals "max" = some none)
    (z_min : PySem.W.nsIn K mainGlobals "min" = some none)
    (z_range : PySem.W.nsIn K mainGlobals "range" = some none)
    (z_str : PySem.W.nsIn K mainGlobals "str" = some none)
    (z_tuple : PySem.W.nsIn K mainGlobals "tuple" = some none)
    {c_AskError : Addr} (e_AskError : PySem.W.nsIn K mainGlobals "AskError" = some (some (.ref c_AskError)))
    {c_NoAsks : Addr} (e_NoAsks : PySem.W.nsIn K mainGlobals "NoAsks" = some (some (.ref c_NoAsks)))
    {c_NoKeep : Addr} (e_NoKeep : PySem.W.nsIn K mainGlobals "NoKeep" = some (some (.ref c_NoKeep)))
    {c_NoPlace : Addr} (e_NoPlace : PySem.W.nsIn K mainGlobals "NoPlace" = some (some (.ref c_NoPlace)))
    {c_NoTree : Addr} (e_NoTree : PySem.W.nsIn K mainGlobals "NoTree" = some (some (.ref c_NoTree)))
    {dd_AskError : Option Addr} {nm_AskError qn_AskError : Str} {bs_AskError su_AskError : List Value} {ns_AskError : Addr} {hb_AskError ab_AskError : Bool} {sn_AskError : List Str} {co_AskError : Option Bool} {u0_AskError u1_AskError u2_AskError u3_AskError u5_AskError : Option Value} (l_AskError : K.lookup c_AskError = some ⟨.type "type", dd_AskError, .cls ⟨nm_AskError, bs_AskError, .ref c_AskError :: bmV, ns_AskError, qn_AskError, hb_AskError, sn_AskError, su_AskError, ab_AskError, co_AskError, false⟩, #[u0_AskError, u1_AskError, u2_AskError, u3_AskError, some (.builtin "ValueError.__new__"), u5_AskError]⟩)
    {no_AskError : Value} {nd_AskError : Option Addr} {es_AskError : Array DictEntry} {np_AskError : Nat} {nl_AskError : Array (Option Value)} (n_AskError' : K.lookup ns_AskError = some ⟨no_AskError, nd_AskError, .dict es_AskError np_AskError, nl_AskError⟩)
     (q_AskError : (es_AskError.all fun e => match e.key with | .str _ _ => true | _ => false) = true)
     (t_AskError : PySem.W.nsIn K ns_AskError "__init__" = some none)
    {dd_NoAsks : Option Addr} {nm_NoAsks qn_NoAsks : Str} {bs_NoAsks su_NoAsks : List Value} {ns_NoAsks : Addr} {hb_NoAsks ab_NoAsks : Bool} {sn_NoAsks : List Str} {co_NoAsks : Option Bool} {u0_NoAsks u1_NoAsks u2_NoAsks u3_NoAsks u5_NoAsks : Option Value} (l_NoAsks : K.lookup c_NoAsks = some ⟨.type "type", dd_NoAsks, .cls ⟨nm_NoAsks, bs_NoAsks, .ref c_NoAsks :: ([.ref c_AskError] ++ bmV), ns_NoAsks, qn_NoAsks, hb_NoAsks, sn_NoAsks, su_NoAsks, ab_NoAsks, co_NoAsks, false⟩, #[u0_NoAsks, u1_NoAsks, u2_NoAsks, u3_NoAsks, some (.builtin "ValueError.__new__"), u5_NoAsks]⟩)
    {no_NoAsks : Value} {nd_NoAsks : Option Addr} {es_NoAsks : Array DictEntry} {np_NoAsks : Nat} {nl_NoAsks : Array (Option Value)} (n_NoAsks' : K.lookup ns_NoAsks = some ⟨no_NoAsks, nd_NoAsks, .dict es_NoAsks np_NoAsks, nl_NoAsks⟩)
     (q_NoAsks : (es_NoAsks.all fun e => match e.key with | .str _ _ => true | _ => false) = true)
    {n_NoAsks : Addr} (t_NoAsks : PySem.W.nsIn K ns_NoAsks "__init__" = some (some (.ref n_NoAsks)))
    {dd_NoKeep : Option Addr} {nm_NoKeep qn_NoKeep : Str} {bs_NoKeep su_NoKeep : List Value} {ns_NoKeep : Addr} {hb_NoKeep ab_NoKeep : Bool} {sn_NoKeep : List Str} {co_NoKeep : Option Bool} {u0_NoKeep u1_NoKeep u2_NoKeep u3_NoKeep u5_NoKeep : Option Value} (l_NoKeep : K.lookup c_NoKeep = some ⟨.type "type", dd_NoKeep, .cls ⟨nm_NoKeep, bs_NoKeep, .ref c_NoKeep :: ([.ref c_AskError] ++ bmV), ns_NoKeep, qn_NoKeep, hb_NoKeep, sn_NoKeep, su_NoKeep, ab_NoKeep, co_NoKeep, false⟩, #[u0_NoKeep, u1_NoKeep, u2_NoKeep, u3_NoKeep, some (.builtin "ValueError.__new__"), u5_NoKeep]⟩)
    {dd_NoPlace : Option Addr} {nm_NoPlace qn_NoPlace : Str} {bs_NoPlace su_NoPlace : List Value} {ns_NoPlace : Addr} {hb_NoPlace ab_NoPlace : Bool} {sn_NoPlace : List Str} {co_NoPlace : Option Bool} {u0_NoPlace u1_NoPlace u2_NoPlace u3_NoPlace u5_NoPlace : Option Value} (l_NoPlace : K.lookup c_NoPlace = some ⟨.type "type", dd_NoPlace, .cls ⟨nm_NoPlace, bs_NoPlace, .ref c_NoPlace :: ([.ref c_AskError] ++ bmV), ns_NoPlace, qn_NoPlace, hb_NoPlace, sn_NoPlace, su_NoPlace, ab_NoPlace, co_NoPlace, false⟩, #[u0_NoPlace, u1_NoPlace, u2_NoPlace, u3_NoPlace, some (.builtin "ValueError.__new__"), u5_NoPlace]⟩)
    {dd_NoTree : Option Addr} {nm_NoTree qn_NoTree : Str} {bs_NoTree su_NoTree : List Value} {ns_NoTree : Addr} {hb_NoTree ab_NoTree : Bool} {sn_NoTree : List Str} {co_NoTree : Option Bool} {u0_NoTree u1_NoTree u2_NoTree u3_NoTree u5_NoTree : Option Value} (l_NoTree : K.lookup c_NoTree = some ⟨.type "type", dd_NoTree, .cls ⟨nm_NoTree, bs_NoTree, .ref c_NoTree :: ([.ref c_AskError] ++ bmV), ns_NoTree, qn_NoTree, hb_NoTree, sn_NoTree, su_NoTree, ab_NoTree, co_NoTree, false⟩, #[u0_NoTree, u1_NoTree, u2_NoTree, u3_NoTree, some (.builtin "ValueError.__new__"), u5_NoTree]⟩)
    {no_NoTree : Value} {nd_NoTree : Option Addr} {es_NoTree : Array DictEntry} {np_NoTree : Nat} {nl_NoTree : Array (Option Value)} (n_NoTree' : K.lookup ns_NoTree = some ⟨no_NoTree, nd_NoTree, .dict es_NoTree np_NoTree, nl_NoTree⟩)
     (q_NoTree : (es_NoTree.all fun e => match e.key with | .str _ _ => true | _ => false) = true)
    {n_NoTree : Addr} (t_NoTree : PySem.W.nsIn K ns_NoTree "__init__" = some (some (.ref n_NoTree)))
     (sp_ : PySem.W.specialIn K (.builtin "object.__class__") "__get__" = some (some (.builtin "getset_descriptor.__get__")))
     (tk_ : PySem.W.takesIn K (.builtin "object.__class__") = some true)
     (g_NoAsks : PySem.W.findIn K (.ref c_NoAsks) "__getattribute__" = some (some (.builtin "BaseException.__getattribute__")))
     (h_NoAsks : PySem.W.findIn K (.ref c_NoAsks) "__getattr__" = some none)
     (w_NoAsks : PySem.W.findIn K (.ref c_NoAsks) "__class__" = some (some (.builtin "object.__class__")))
     (mo_NoAsks : PySem.W.mroIn K c_NoAsks (.type "object") = some true)
     (hd_NoAsks : PySem.W.hasDictIn K c_NoAsks = true)
     (sv_NoAsks : PySem.W.subIn K (.ref c_NoAsks) (.type "ValueError") = some true)
     (s_NoAsks_NoKeep : PySem.W.subIn K (.ref c_NoAsks) (.ref c_NoKeep) = some false)
     (ne_NoAsks_NoKeep : (Value.ref c_NoAsks == Value.ref c_NoKeep) = false)
     (s_NoAsks_NoPlace : PySem.W.subIn K (.ref c_NoAsks) (.ref c_NoPlace) = some false)
     (ne_NoAsks_NoPlace : (Value.ref c_NoAsks == Value.ref c_NoPlace) = false)
     (s_NoAsks_NoTree : PySem.W.subIn K (.ref c_NoAsks) (.ref c_NoTree) = some false)
     (ne_NoAsks_NoTree : (Value.ref c_NoAsks == Value.ref c_NoTree) = false)
     (g_NoTree : PySem.W.findIn K (.ref c_NoTree) "__getattribute__" = some (some (.builtin "BaseException.__getattribute__")))
     (h_NoTree : PySem.W.findIn K (.ref c_NoTree) "__getattr__" = some none)
     (w_NoTree : PySem.W.findIn K (.ref c_NoTree) "__class__" = some (some (.builtin "object.__class__")))
     (mo_NoTree : PySem.W.mroIn K c_NoTree (.type "object") = some true)
     (hd_NoTree : PySem.W.hasDictIn K c_NoTree = true)
     (sv_NoTree : PySem.W.subIn K (.ref c_NoTree) (.type "ValueError") = some true)
     (s_NoTree_NoAsks : PySem.W.subIn K (.ref c_NoTree) (.ref c_NoAsks) = some false)
     (ne_NoTree_NoAsks : (Value.ref c_NoTree == Value.ref c_NoAsks) = false)
     (s_NoTree_NoKeep : PySem.W.subIn K (.ref c_NoTree) (.ref c_NoKeep) = some false)
     (ne_NoTree_NoKeep : (Value.ref c_NoTree == Value.ref c_NoKeep) = false)
     (s_NoTree_NoPlace : PySem.W.subIn K (.ref c_NoTree) (.ref c_NoPlace) = some false)
     (ne_NoTree_NoPlace : (Value.ref c_NoTree == Value.ref c_NoPlace) = false)
     (y_NoAsks : PySem.W.typeIn K (.ref c_NoAsks) = some (.type "type"))
     (y_NoKeep : PySem.W.typeIn K (.ref c_NoKeep) = some (.type "type"))
     (y_NoPlace : PySem.W.typeIn K (.ref c_NoPlace) = some (.type "type"))
     (y_NoTree : PySem.W.typeIn K (.ref c_NoTree) = some (.type "type"))
    {odi_NoAsks ani_NoAsks : Option Addr} {sli_NoAsks : Array (Option Value)} {oci_NoAsks kVi_NoAsks dci_NoAsks pmi_NoAsks cdi_NoAsks cti_NoAsks : Value} (li_NoAsks : K.lookup n_NoAsks = some ⟨oci_NoAsks, odi_NoAsks, .func (PySem.W.fnOf "__init__" "NoAsks.__init__" (defArgs (inClass (top 3) 0)) (defBody (inClass (top 3) 0)) (defScope (inClass (top 3) 0)) .none kVi_NoAsks dci_NoAsks pmi_NoAsks ani_NoAsks cdi_NoAsks cti_NoAsks), sli_NoAsks⟩)
     (ci_NoAsks : PySem.W.codeIn K cdi_NoAsks "NoAsks.__init__" = true)
     (ki_NoAsks : PySem.W.keepIn K (.ref n_NoAsks) = true)
     (fi_NoAsks : PySem.W.typeIn K (.ref n_NoAsks) = some (.type "function"))
     (kc_NoAsks : PySem.W.keepIn K (.ref c_NoAsks) = true)
     (sa_NoAsks : PySem.W.findIn K (.ref c_NoAsks) "__setattr__" = some (some (.builtin "object.__setattr__")))
     (at_NoAsks_number : PySem.W.findIn K (.ref c_NoAsks) "number" = some none)
    {odi_NoTree ani_NoTree : Option Addr} {sli_NoTree : Array (Option Value)} {oci_NoTree kVi_NoTree dci_NoTree pmi_NoTree cdi_NoTree cti_NoTree : Value} (li_NoTree : K.lookup n_NoTree = some ⟨oci_NoTree, odi_NoTree, .func (PySem.W.fnOf "__init__" "NoTree.__init__" (defArgs (inClass (top 2) 0)) (defBody (inClass (top 2) 0)) (defScope (inClass (top 2) 0)) .none kVi_NoTree dci_NoTree pmi_NoTree ani_NoTree cdi_NoTree cti_NoTree), sli_NoTree⟩)
     (ci_NoTree : PySem.W.codeIn K cdi_NoTree "NoTree.__init__" = true)
     (ki_NoTree : PySem.W.keepIn K (.ref n_NoTree) = true)
     (fi_NoTree : PySem.W.typeIn K (.ref n_NoTree) = some (.type "function"))
     (kc_NoTree : PySem.W.keepIn K (.ref c_NoTree) = true)
     (sa_NoTree : PySem.W.findIn K (.ref c_NoTree) "__setattr__" = some (some (.builtin "object.__setattr__")))
     (at_NoTree_part : PySem.W.findIn K (.ref c_NoTree) "part" = some none)
     (at_NoTree_number : PySem.W.findIn K (.ref c_NoTree) "number" = some none)
     (rb_AskError : PySem.W.readsIn K c_AskError (.type "type") = true)
     (fb_AskError : PySem.W.findCls K (.ref c_AskError) (.type "type") "__init__" = some (.val (.builtin "ValueError.__init__")))
     (gb_AskError : PySem.W.specialIn K (.ref c_AskError) "__getattribute__" = some (some (.builtin "type.__getattribute__")))
    : ∃ fd : FuncData, (∀ (s : Shared) (v : Value), BindsTo s fd ⟨[v], []⟩ [("_law_script", v)]) ∧ ∀ base : Heap, K.In base → base.Ns mainGlobals mg → FnOk l.prog w K mg base CX0 9 fa fd ["_law_script"] (spLaw K) := by
  have e := hfa.symm.trans (PySem.W.mg_of X G a_law)
  cases e
  have F_is_whole := fun_mk (st := s_is_whole) l_is_whole c_is_whole k_is_whole
  have b_is_whole := F_is_whole.binds (ps := ["thing"]) fun _ _ _ _ _ _ us hl => match us, hl with | [_], _ => rfl
  have F_is_between := fun_mk (st := s_is_between) l_is_between c_is_between k_is_between
  have b_is_between := F_is_between.binds (ps := ["thing", "least", "most"]) fun _ _ _ _ _ _ us hl => match us, hl with | [_, _, _], _ => rfl
  have F_has_two_lists := fun_mk (st := s_has_two_lists) l_has_two_lists c_has_two_lists k_has_two_lists
  have b_has_two_lists := F_has_two_lists.binds (ps := ["thing"]) fun _ _ _ _ _ _ us hl => match us, hl with | [_], _ => rfl
  have F_look_at_tree := fun_mk (st := s_look_at_tree) l_look_at_tree c_look_at_tree k_look_at_tree
  have b_look_at_tree := F_look_at_tree.binds (ps := ["thing"]) fun _ _ _ _ _ _ us hl => match us, hl with | [_], _ => rfl
  have F_is_place := fun_mk (st := s_is_place) l_is_place c_is_place k_is_place
  have b_is_place := F_is_place.binds (ps := ["tree", "thing"]) fun _ _ _ _ _ _ us hl => match us, hl with | [_, _], _ => rfl
  have F_are_ends := fun_mk (st := s_are_ends) l_are_ends c_are_ends k_are_ends
  have b_are_ends := F_are_ends.binds (ps := ["tree", "one", "other"]) fun _ _ _ _ _ _ us hl => match us, hl with | [_, _, _], _ => rfl
  have F_is_ask := fun_mk (st := s_is_ask) l_is_ask c_is_ask k_is_ask
  have b_is_ask := F_is_ask.binds (ps := ["tree", "thing"]) fun _ _ _ _ _ _ us hl => match us, hl with | [_, _], _ => rfl
  have F_look_at_asks := fun_mk (st := s_look_at_asks) l_look_at_asks c_look_at_asks k_look_at_asks
  have b_look_at_asks := F_look_at_asks.binds (ps := ["tree", "thing"]) fun _ _ _ _ _ _ us hl => match us, hl with | [_, _], _ => rfl
  have F_l_cell_at := fun_mk (st := s_l_cell_at) l_l_cell_at c_l_cell_at k_l_cell_at
  have b_l_cell_at := F_l_cell_at.binds (ps := ["_law_script", "_law_k"]) fun _ _ _ _ _ _ us hl => match us, hl with | [_, _], _ => rfl
  have F_l_pool := fun_mk (st := s_l_pool) l_l_pool c_l_pool k_l_pool
  have b_l_pool := F_l_pool.binds (ps := ["_law_script", "_law_k"]) fun _ _ _ _ _ _ us hl => match us, hl with | [_, _], _ => rfl
  have F_l_take := fun_mk (st := s_l_take) l_l_take c_l_take k_l_take
  have b_l_take := F_l_take.binds (ps := ["_law_pool_here", "_law_many"]) fun _ _ _ _ _ _ us hl => match us, hl with | [_, _], _ => rfl
  have F_l_tree := fun_mk (st := s_l_tree) l_l_tree c_l_tree k_l_tree
  have b_l_tree := F_l_tree.binds (ps := ["_law_pool_here", "_law_most", "_law_sizes"]) fun _ _ _ _ _ _ us hl => match us, hl with | [_, _, _], _ => rfl
  have F_l_asks := fun_mk (st := s_l_asks) l_l_asks c_l_asks k_l_asks
  have b_l_asks := F_l_asks.binds (ps := ["_law_pool_here", "_law_tree_here", "_law_least", "_law_most", "_law_sizes"]) fun _ _ _ _ _ _ us hl => match us, hl with | [_, _, _, _, _], _ => rfl
  have F_l_asked := fun_mk (st := s_l_asked) l_l_asked c_l_asked k_l_asked
  have b_l_asked := F_l_asked.binds (ps := ["_law_tree_here", "_law_thing"]) fun _ _ _ _ _ _ us hl => match us, hl with | [_, _], _ => rfl
  have F_l_no_ask := fun_mk (st := s_l_no_ask) l_l_no_ask c_l_no_ask k_l_no_ask
  have b_l_no_ask := F_l_no_ask.binds (ps := ["_law_pool_here", "_law_tree_here", "_law_ask"]) fun _ _ _ _ _ _ us hl => match us, hl with | [_, _, _], _ => rfl
  have F_l_spoiled := fun_mk (st := s_l_spoiled) l_l_spoiled c_l_spoiled k_l_spoiled
  have b_l_spoiled := F_l_spoiled.binds (ps := ["_law_pool_here", "_law_tree_here", "_law_asks_here"]) fun _ _ _ _ _ _ us hl => match us, hl with | [_, _, _], _ => rfl
  have F_l_right := fun_mk (st := s_l_right) l_l_right c_l_right k_l_right
  have b_l_right := F_l_right.binds (ps := ["_law_pool_here", "_law_tree_here", "_law_asks_here"]) fun _ _ _ _ _ _ us hl => match us, hl with | [_, _, _], _ => rfl
  have F_law := fun_mk (st := s_law) l_law c_law k_law
  have b_law := F_law.binds (ps := ["_law_script"]) fun _ _ _ _ _ _ us hl => match us, hl with | [_], _ => rfl
  have I_NoAsks := fun_mk (st := inClass (top 3) 0) li_NoAsks ci_NoAsks ki_NoAsks
  have bi_NoAsks := I_NoAsks.binds (ps := ["self", "number"]) fun _ _ _ _ _ _ us hl => match us, hl with | [_, _], _ => rfl
  have I_NoTree := fun_mk (st := inClass (top 2) 0) li_NoTree ci_NoTree ki_NoTree
  have bi_NoTree := I_NoTree.binds (ps := ["self", "part", "number"]) fun _ _ _ _ _ _ us hl => match us, hl with | [_, _, _], _ => rfl
  have T : Txt K mg ⟨f_is_whole, _, f_is_between, _, f_has_two_lists, _, f_look_at_tree, _, f_is_place, _, f_are_ends, _, f_is_ask, _, f_look_at_asks, _, f_l_cell_at, _, f_l_pool, _, f_l_take, _, f_l_tree, _, f_l_asks, _, f_l_asked, _, f_l_no_ask, _, f_l_spoiled, _, f_l_right, _, fa, _, c_AskError, c_NoAsks, c_NoKeep, c_NoPlace, c_NoTree, n_NoAsks, n_NoTree, _, _⟩ := ⟨F_is_whole, b_is_whole, k_is_whole, PySem.W.mg_of X G a_is_whole, F_is_between, b_is_between, k_is_between, PySem.W.mg_of X G a_is_between, F_has_two_lists, b_has_two_lists, k_has_two_lists, PySem.W.mg_of X G a_has_two_lists, F_look_at_tree, b_look_at_tree, k_look_at_tree, PySem.W.mg_of X G a_look_at_tree, F_is_place, b_is_place, k_is_place, PySem.W.mg_of X G a_is_place, F_are_ends, b_are_ends, k_are_ends, PySem.W.mg_of X G a_are_ends, F_is_ask, b_is_ask, k_is_ask, PySem.W.mg_of X G a_is_ask, F_look_at_asks, b_look_at_asks, k_look_at_asks, PySem.W.mg_of X G a_look_at_asks, F_l_cell_at, b_l_cell_at, k_l_cell_at, PySem.W.mg_of X G a_l_cell_at, F_l_pool, b_l_pool, k_l_pool, PySem.W.mg_of X G a_l_pool, F_l_take, b_l_take, k_l_take, PySem.W.mg_of X G a_l_take, F_l_tree, b_l_tree, k_l_tree, PySem.W.mg_of X G a_l_tree, F_l_asks, b_l_asks, k_l_asks, PySem.W.mg_of X G a_l_asks, F_l_asked, b_l_asked, k_l_asked, PySem.W.mg_of X G a_l_asked, F_l_no_ask, b_l_no_ask, k_l_no_ask, PySem.W.mg_of X G a_l_no_ask, F_l_spoiled, b_l_spoiled, k_l_spoiled, PySem.W.mg_of X G a_l_spoiled, F_l_right, b_l_right, k_l_right, PySem.W.mg_of X G a_l_right, F_law, b_law, k_law, PySem.W.mg_of X G a_law, PySem.W.mg_none_of X G z_ValueError, PySem.W.mg_none_of X G z_bool, PySem.W.mg_none_of X G z_enumerate, PySem.W.mg_none_of X G z_int, PySem.W.mg_none_of X G z_isinstance, PySem.W.mg_none_of X G z_len, PySem.W.mg_none_of X G z_list, PySem.W.mg_none_of X G z_max, PySem.W.mg_none_of X G z_min, PySem.W.mg_none_of X G z_range, PySem.W.mg_none_of X G z_str, PySem.W.mg_none_of X G z_tuple, ⟨_, PySem.W.mg_of X G c_MOST_TIES⟩, ⟨_, PySem.W.mg_of X G c_MOST_ROOM⟩, ⟨_, PySem.W.mg_of X G c_MOST_ASKS⟩, ⟨_, PySem.W.mg_of X G c_MOST_SIZE⟩, ⟨_, PySem.W.mg_of X G c_MOST_WORTH⟩, PySem.W.mg_of X G e_AskError, PySem.W.mg_of X G e_NoAsks, PySem.W.mg_of X G e_NoKeep, PySem.W.mg_of X G e_NoPlace, PySem.W.mg_of X G e_NoTree, (xc_mk l_AskError (nsOk_mk n_AskError' q_AskError) t_AskError tail_bm), (xc_mk l_NoAsks (nsOk_mk n_NoAsks' q_NoAsks) t_NoAsks (tail_mk l_AskError (nsOk_mk n_AskError' q_AskError) t_AskError tail_bm)), (xc_mk l_NoTree (nsOk_mk n_NoTree' q_NoTree) t_NoTree (tail_mk l_AskError (nsOk_mk n_AskError' q_AskError) t_AskError tail_bm)), (xcOk_mk g_NoAsks h_NoAsks w_NoAsks sp_ tk_ mo_NoAsks hd_NoAsks), (kit_val sv_NoAsks), (kit_own l_NoKeep y_NoKeep s_NoAsks_NoKeep (.inr ne_NoAsks_NoKeep)), (kit_own l_NoPlace y_NoPlace s_NoAsks_NoPlace (.inr ne_NoAsks_NoPlace)), (kit_own l_NoTree y_NoTree s_NoAsks_NoTree (.inr ne_NoAsks_NoTree)), (xcOk_mk g_NoTree h_NoTree w_NoTree sp_ tk_ mo_NoTree hd_NoTree), (kit_val sv_NoTree), (kit_own l_NoAsks y_NoAsks s_NoTree_NoAsks (.inr ne_NoTree_NoAsks)), (kit_own l_NoKeep y_NoKeep s_NoTree_NoKeep (.inr ne_NoTree_NoKeep)), (kit_own l_NoPlace y_NoPlace s_NoTree_NoPlace (.inr ne_NoTree_NoPlace)), I_NoAsks, bi_NoAsks, fi_NoAsks, kc_NoAsks, ⟨sa_NoAsks, at_NoAsks_number⟩, I_NoTree, bi_NoTree, fi_NoTree, kc_NoTree, ⟨sa_NoTree, at_NoTree_part⟩, ⟨sa_NoTree, at_NoTree_number⟩, ⟨rb_AskError, fb_AskError, gb_AskError⟩⟩
  exact ⟨PySem.W.fnOf "law" "law" (defArgs s_law) (defBody s_law) (defScope s_law) .none kV_law dc_law pm_law an_law cd_law ct_law, fun s v => .of_eq rfl, fun base _ _ => (ok_law T).imp fun _ _ _ _ h => spLaw_of h⟩
theorem walk {l : PySem.W.OpenLaw} {q : Program} {loose : List Str} {XP : (Str → Option Value) → Heap → Prop} {YP : World → Heap → Prop} {d : DefRec} {K : Params → PySem.W.Frag} (hn : l.most = some 63) (hdf : d.params.defaults = [])
    (hY : ∀ (w : World) (h : Heap), YP w h → (K w.params).In h)
    (F : ∀ (w : World) (mg : Str → Option Value) (fa : Addr) (h : Heap), (K w.params).In h → h.Ns mainGlobals mg → mg d.name = some (.ref fa) →
      ∃ fd : FuncData, (∀ (s : Shared) (u : Value), BindsTo s fd ⟨[u], []⟩ [("_law_script", u)]) ∧ ∀ base : Heap, (K w.params).In base → base.Ns mainGlobals mg → FnOk l.prog w (K w.params) mg base CX0 9 fa fd ["_law_script"] (spLaw (K w.params))) :
    PySem.W.WalkO q loose XP YP l.row.toRowW d [] (fun f vs => PySem.call f vs) :=
  L2.walk_of (n := 63) (k := 9) (x := "_law_script") (CX := fun _ => CX0) (sp := fun w => spLaw (K w.params)) hn (by decide) hdf ⟨rfl, by decide, by decide⟩ hY F (fun _ _ a ns hl hO hS => ⟨a, ns, rfl, hO, hS, hl, fun _ => rfl⟩) fun _ _ _ _ _ z => z
end K07
open PySem PySem.W PyProof.Rows
set_option maxRecDepth 100000 in
set_option maxHeartbeats 0 in
theorem PySem.Challenge.cw_treeasks_k07_what_are_no_asks_holds : PySem.Challenge.rw_treeasks_k07_what_are_no_asks.Holds := by
  w_on; o_law; k_head; (case hw => w_witness2)
  k_fill
  refine K07.walk (l := PySem.Challenge.rw_treeasks_k07_what_are_no_asks) rfl rfl (fun w h Y => PySem.W.kIn_of Y) ?F
  case F =>
    intro w mg fa h KX G hmg
    refine' K07.all_mk KX G hmg ?a_is_whole ?l_is_whole ?c_is_whole ?k_is_whole ?a_is_between ?l_is_between ?c_is_between ?k_is_between ?a_has_two_lists ?l_has_two_lists ?c_has_two_lists ?k_has_two_lists ?a_look_at_tree ?l_look_at_tree ?c_look_at_tree ?k_look_at_tree ?a_is_place ?l_is_place ?c_is_place ?k_is_place ?a_are_ends ?l_are_ends ?c_are_ends ?k_are_ends ?a_is_ask ?l_is_ask ?c_is_ask ?k_is_ask ?a_look_at_asks ?l_look_at_asks ?c_look_at_asks ?k_look_at_asks ?a_l_cell_at ?l_l_cell_at ?c_l_cell_at ?k_l_cell_at ?a_l_pool ?l_l_pool ?c_l_pool ?k_l_pool ?a_l_take ?l_l_take ?c_l_take ?k_l_take ?a_l_tree ?l_l_tree ?c_l_tree ?k_l_tree ?a_l_asks ?l_l_asks ?c_l_asks ?k_l_asks ?a_l_asked ?l_l_asked ?c_l_asked ?k_l_asked ?a_l_no_ask ?l_l_no_ask ?c_l_no_ask ?k_l_no_ask ?a_l_spoiled ?l_l_spoiled ?c_l_spoiled ?k_l_spoiled ?a_l_right ?l_l_right ?c_l_right ?k_l_right ?a_law ?l_law ?c_law ?k_law ?c_MOST_TIES ?c_MOST_ROOM ?c_MOST_ASKS ?c_MOST_SIZE ?c_MOST_WORTH ?z_ValueError ?z_bool ?z_enumerate ?z_int ?z_isinstance ?z_len ?z_list ?z_max ?z_min ?z_range ?z_str ?z_tuple ?e_AskError ?e_NoAsks ?e_NoKeep ?e_NoPlace ?e_NoTree ?l_AskError ?n_AskError' ?q_AskError ?t_AskError ?l_NoAsks ?n_NoAsks' ?q_NoAsks ?t_NoAsks ?l_NoKeep ?l_NoPlace ?l_NoTree ?n_NoTree' ?q_NoTree ?t_NoTree ?sp_ ?tk_ ?g_NoAsks ?h_NoAsks ?w_NoAsks ?mo_NoAsks ?hd_NoAsks ?sv_NoAsks ?s_NoAsks_NoKeep ?ne_NoAsks_NoKeep ?s_NoAsks_NoPlace ?ne_NoAsks_NoPlace ?s_NoAsks_NoTree ?ne_NoAsks_NoTree ?g_NoTree ?h_NoTree ?w_NoTree ?mo_NoTree ?hd_NoTree ?sv_NoTree ?s_NoTree_NoAsks ?ne_NoTree_NoAsks ?s_NoTree_NoKeep ?ne_NoTree_NoKeep ?s_NoTree_NoPlace ?ne_NoTree_NoPlace ?y_NoAsks ?y_NoKeep ?y_NoPlace ?y_NoTree ?li_NoAsks ?ci_NoAsks ?ki_NoAsks ?fi_NoAsks ?kc_NoAsks ?sa_NoAsks ?at_NoAsks_number ?li_NoTree ?ci_NoTree ?ki_NoTree ?fi_NoTree ?kc_NoTree ?sa_NoTree ?at_NoTree_part ?at_NoTree_number ?rb_AskError ?fb_AskError ?gb_AskError
    (case a_is_whole => k_is)
    (case l_is_whole => k_is)
    (case c_is_whole => k_is)
    (case k_is_whole => k_is)
    (case a_is_between => k_is)
    (case l_is_between => k_is)
    (case c_is_between => k_is)
    (case k_is_between => k_is)
    (case a_has_two_lists => k_is)
    (case l_has_two_lists => k_is)
    (case c_has_two_lists => k_is)
    (case k_has_two_lists => k_is)
    (case a_look_at_tree => k_is)
    (case l_look_at_tree => k_is)
    (case c_look_at_tree => k_is)
    (case k_look_at_tree => k_is)
    (case a_is_place => k_is)
    (case l_is_place => k_is)
    (case c_is_place => k_is)
    (case k_is_place => k_is)
    (case a_are_ends => k_is)
    (case l_are_ends => k_is)
    (case c_are_ends => k_is)
    (case k_are_ends => k_is)
    (case a_is_ask => k_is)
    (case l_is_ask => k_is)
    (case c_is_ask => k_is)
    (case k_is_ask => k_is)
    (case a_look_at_asks => k_is)
    (case l_look_at_asks => k_is)
    (case c_look_at_asks => k_is)
    (case k_look_at_asks => k_is)
    (case a_l_cell_at => k_is)
    (case l_l_cell_at => k_is)
    (case c_l_cell_at => k_is)
    (case k_l_cell_at => k_is)
    (case a_l_pool => k_is)
    (case l_l_pool => k_is)
    (case c_l_pool => k_is)
    (case k_l_pool => k_is)
    (case a_l_take => k_is)
    (case l_l_take => k_is)
    (case c_l_take => k_is)
    (case k_l_take => k_is)
    (case a_l_tree => k_is)
    (case l_l_tree => k_is)
    (case c_l_tree => k_is)
    (case k_l_tree => k_is)
    (case a_l_asks => k_is)
    (case l_l_asks => k_is)
    (case c_l_asks => k_is)
    (case k_l_asks => k_is)
    (case a_l_asked => k_is)
    (case l_l_asked => k_is)
    (case c_l_asked => k_is)
    (case k_l_asked => k_is)
    (case a_l_no_ask => k_is)
    (case l_l_no_ask => k_is)
    (case c_l_no_ask => k_is)
    (case k_l_no_ask => k_is)
    (case a_l_spoiled => k_is)
    (case l_l_spoiled => k_is)
    (case c_l_spoiled => k_is)
    (case k_l_spoiled => k_is)
    (case a_l_right => k_is)
    (case l_l_right => k_is)
    (case c_l_right => k_is)
    (case k_l_right => k_is)
    (case a_law => k_is)
    (case l_law => k_is)
    (case c_law => k_is)
    (case k_law => k_is)
    (case c_MOST_TIES => k_is)
    (case c_MOST_ROOM => k_is)
    (case c_MOST_ASKS => k_is)
    (case c_MOST_SIZE => k_is)
    (case c_MOST_WORTH => k_is)
    (case z_ValueError => k_is)
    (case z_bool => k_is)
    (case z_enumerate => k_is)
    (case z_int => k_is)
    (case z_isinstance => k_is)
    (case z_len => k_is)
    (case z_list => k_is)
    (case z_max => k_is)
    (case z_min => k_is)
    (case z_range => k_is)
    (case z_str => k_is)
    (case z_tuple => k_is)
    (case e_AskError => k_is)
    (case e_NoAsks => k_is)
    (case e_NoKeep => k_is)
    (case e_NoPlace => k_is)
    (case e_NoTree => k_is)
    (case l_AskError => k_is)
    (case n_AskError' => k_is)
    (case q_AskError => (rw [← Array.all_toList]; rfl))
    (case t_AskError => k_is)
    (case l_NoAsks => k_is)
    (case n_NoAsks' => k_is)
    (case q_NoAsks => (rw [← Array.all_toList]; rfl))
    (case t_NoAsks => k_is)
    (case l_NoKeep => k_is)
    (case l_NoPlace => k_is)
    (case l_NoTree => k_is)
    (case n_NoTree' => k_is)
    (case q_NoTree => (rw [← Array.all_toList]; rfl))
    (case t_NoTree => k_is)
    (case sp_ => k_is)
    (case tk_ => k_is)
    (case g_NoAsks => k_is)
    (case h_NoAsks => k_is)
    (case w_NoAsks => k_is)
    (case mo_NoAsks => k_is)
    (case hd_NoAsks => k_is)
    (case sv_NoAsks => k_is)
    (case s_NoAsks_NoKeep => k_is)
    (case ne_NoAsks_NoKeep => rfl)
    (case s_NoAsks_NoPlace => k_is)
    (case ne_NoAsks_NoPlace => rfl)
    (case s_NoAsks_NoTree => k_is)
    (case ne_NoAsks_NoTree => rfl)
    (case g_NoTree => k_is)
    (case h_NoTree => k_is)
    (case w_NoTree => k_is)
    (case mo_NoTree => k_is)
    (case hd_NoTree => k_is)
    (case sv_NoTree => k_is)
    (case s_NoTree_NoAsks => k_is)
    (case ne_NoTree_NoAsks => rfl)
    (case s_NoTree_NoKeep => k_is)
    (case ne_NoTree_NoKeep => rfl)
    (case s_NoTree_NoPlace => k_is)
    (case ne_NoTree_NoPlace => rfl)
    (case y_NoAsks => k_is)
    (case y_NoKeep => k_is)
    (case y_NoPlace => k_is)
    (case y_NoTree => k_is)
    (case li_NoAsks => k_is)
    (case ci_NoAsks => k_is)
    (case ki_NoAsks => k_is)
    (case fi_NoAsks => k_is)
    (case kc_NoAsks => k_is)
    (case sa_NoAsks => k_is)
    (case at_NoAsks_number => k_is)
    (case li_NoTree => k_is)
    (case ci_NoTree => k_is)
    (case ki_NoTree => k_is)
    (case fi_NoTree => k_is)
    (case kc_NoTree => k_is)
    (case sa_NoTree => k_is)
    (case at_NoTree_part => k_is)
    (case at_NoTree_number => k_is)
    (case rb_AskError => k_is)
    (case fb_AskError => k_is)
    (case gb_AskError => k_is)


