import PyProof.Rows.All
import Wide.All
import OpenK.AllK
import Wide.FinOn
import Lean
import PyProof.EqAt
import PyProof.EqKinds
import PyProof.TupleCall
import PyProof.Rows.ListRangeD
import KE.LcSums
import KE.KRevSl
import PyProof.Rows.SetFrom
import PySem.Challenge.RW_treeasks_k27_whole_no_keep_beats_a_bound
set_option Elab.async false
set_option linter.all false
set_option maxRecDepth 100000
set_option genSizeOf false
theorem PySem.W.Fast.te7917354778444010129 : True := trivial
noncomputable def PySem.W.Fast.tw7917354778444010129 : Nat := 0
theorem PySem.W.Fast.te13622638828364213161 : True := trivial
noncomputable def PySem.W.Fast.tw13622638828364213161 : Nat := 0
noncomputable def PySem.W.Fast.tw8360028709946907701 : PySem.Program := PySem.Challenge.pw_treeasks_k27_whole_no_keep_beats_a_bound
theorem PySem.W.Fast.te8360028709946907701 : PySem.Challenge.pw_treeasks_k27_whole_no_keep_beats_a_bound = PySem.W.Fast.tw8360028709946907701 := rfl

namespace L2
open PySem PySem.Spec PyProof.Rows


noncomputable abbrev Key := Sum Int Str
noncomputable def keyIs : Key → Value → Bool
  | .inl k, v => Value.isInt k v
  | .inr x, v => Value.isStrOf x v
noncomputable def keyH (w : World) : Key → Int
  | .inl k => hashInt k
  | .inr x => hashStr w x
theorem keyIs_shape : ∀ {k : Key} {v : Value}, keyIs k v = true → (∃ i t, k = Sum.inl i ∧ v = Value.int i t) ∨ (∃ x t, k = Sum.inr x ∧ v = Value.str x t)
  | .inl i, v, h => by
    obtain ⟨t, e⟩ := Value.isInt_shape (k := i) (v := v) h
    exact .inl ⟨i, t, rfl, e⟩
  | .inr x, v, h => by
    obtain ⟨t, e⟩ := Value.isStrOf_shape (x := x) (v := v) h
    exact .inr ⟨x, t, rfl, e⟩
theorem key_ll (a b : Int) : decide ((Sum.inl a : Key) = Sum.inl b) = (a == b) := by
  by_cases e : a = b
  · subst e; simp
  · have h : ¬ (Sum.inl a : Key) = Sum.inl b := fun q => e (Sum.inl.inj q)
    rw [decide_eq_false h]
    exact (beq_eq_false_iff_ne.mpr e).symm
theorem key_rr (a b : Str) : decide ((Sum.inr a : Key) = Sum.inr b) = decide (a = b) := by
  by_cases e : a = b
  · subst e; simp
  · have h : ¬ (Sum.inr a : Key) = Sum.inr b := fun q => e (Sum.inr.inj q)
    rw [decide_eq_false h, decide_eq_false e]
theorem key_lr (a : Int) (b : Str) : decide ((Sum.inl a : Key) = Sum.inr b) = false := decide_eq_false (fun q => nomatch q)
theorem key_rl (a : Str) (b : Int) : decide ((Sum.inr a : Key) = Sum.inl b) = false := decide_eq_false (fun q => nomatch q)

noncomputable def mixKind (prog : Program) (w : World) : PySem.KeyKind prog w Key where
  is := keyIs
  hash := keyH w
  inj := fun v a b ha hb => by
    rcases keyIs_shape ha with ⟨i, t, rfl, rfl⟩ | ⟨x, t, rfl, rfl⟩
    · rcases keyIs_shape hb with ⟨j, u, rfl, e⟩ | ⟨y, u, rfl, e⟩
      · injection e with e1 _; rw [e1]
      · exact nomatch e
    · rcases keyIs_shape hb with ⟨j, u, rfl, e⟩ | ⟨y, u, rfl, e⟩
      · exact nomatch e
      · injection e with e1 _; rw [e1]
  byValue := fun k v h => by
    rcases keyIs_shape h with ⟨i, t, rfl, rfl⟩ | ⟨x, t, rfl, rfl⟩ <;> rfl
  pyHash := fun hv h => by
    rcases keyIs_shape hv with ⟨i, t, rfl, rfl⟩ | ⟨x, t, rfl, rfl⟩
    · exact wpAny_pyHash_int h
    · exact wpAny_pyHash_str h
  eqBool := fun hu hv h => by
    rcases keyIs_shape hu with ⟨i, t, rfl, rfl⟩ | ⟨x, t, rfl, rfl⟩
    · rcases keyIs_shape hv with ⟨j, u, rfl, rfl⟩ | ⟨y, u, rfl, rfl⟩
      · rw [key_ll] at h; exact wpAny_eqBool_int h
      · rw [key_lr] at h; exact SeqAt.EqAt.int_str i t y u _ _ _ _ h
    · rcases keyIs_shape hv with ⟨j, u, rfl, rfl⟩ | ⟨y, u, rfl, rfl⟩
      · rw [key_rl] at h; exact SeqAt.EqAt.str_int x t j u _ _ _ _ h
      · rw [key_rr] at h; exact wpAny_eqBool_str h
  «strs» := fun k x t v h => by
    rcases keyIs_shape h with ⟨i, u, rfl, e⟩ | ⟨y, u, rfl, e⟩
    · exact nomatch e
    · injection e with e1 _
      subst e1
      cases v <;> rfl

end L2

namespace L2
open PySem PySem.Spec PyProof.Rows


inductive V where
  | non | bl (b : Bool) | int (i : Int) | str (x : Str) | byt (b : Array UInt8) | flt (b : UInt64) | ref (a : Addr) | ty (n : String)
  deriving DecidableEq

noncomputable def RelV : V → Value → Prop
  | .non, u => u = Value.none
  | .bl b, u => u = Value.bool b
  | .int i, u => ∃ t, u = Value.int i t
  | .str x, u => ∃ t, u = Value.str x t
  | .byt b, u => ∃ t, u = Value.bytes b t
  | .flt b, u => ∃ t, u = Value.float b t
  | .ref a, u => u = Value.ref a
  | .ty n, u => u = Value.type n

noncomputable abbrev Vals : List V → List Value → Prop := Paired RelV
theorem Vals.length {xs : List V} {us : List Value} (r : Vals xs us) : xs.length = us.length := Paired.length r
theorem Vals.get : ∀ {xs : List V} {us : List Value} {i : Nat} {x : V}, Vals xs us → xs[i]? = some x → ∃ u, us[i]? = some u ∧ RelV x u
  | _, _, _, _, .nil, e => by simp at e
  | _, _, 0, _, .cons r _, e => by simp at e; subst e; exact ⟨_, rfl, r⟩
  | _, _, i + 1, x, .cons _ t, e => by
    obtain ⟨u, h1, h2⟩ := Vals.get (i := i) (x := x) t (by simpa using e)
    exact ⟨u, by simpa using h1, h2⟩
theorem Vals.set {x : V} {u : Value} (r : RelV x u) : ∀ {xs : List V} {us : List Value} (i : Nat), Vals xs us → Vals (xs.set i x) (us.set i u)
  | _, _, _, .nil => .nil
  | _, _, 0, .cons _ t => .cons r t
  | _, _, i + 1, .cons q t => .cons q (Vals.set r i t)
theorem Vals.append : ∀ {xs ys : List V} {us ws : List Value}, Vals xs us → Vals ys ws → Vals (xs ++ ys) (us ++ ws)
  | _, _, _, _, .nil, s => s
  | _, _, _, _, .cons r t, s => .cons r (Vals.append t s)
theorem Vals.take : ∀ {xs : List V} {us : List Value} (n : Nat), Vals xs us → Vals (xs.take n) (us.take n)
  | _, _, 0, _ => .nil
  | _, _, _ + 1, .nil => .nil
  | _, _, n + 1, .cons r t => .cons r (Vals.take n t)
theorem Vals.drop : ∀ {xs : List V} {us : List Value} (n : Nat), Vals xs us → Vals (xs.drop n) (us.drop n)
  | _, _, 0, r => r
  | _, _, _ + 1, .nil => .nil
  | _, _, n + 1, .cons _ t => Vals.drop n t
noncomputable def RelO : Option V → Option Value → Prop
  | some v, some u => RelV v u
  | none, none => True
  | _, _ => False
noncomputable def KV {κ : Type} : List (κ × V) → List (κ × Value) → Prop := Paired fun (p : κ × V) (q : κ × Value) => p.1 = q.1 ∧ RelV p.2 q.2


noncomputable def kV : Key → V
  | .inl i => .int i
  | .inr x => .str x


inductive HO where
  
  | lst (xs : List V)
  
  | tup (xs : List V)
  
  | dK (kvs : List (Key × V)) | dT (kvs : List (List Key × V))
  
  | set (S : Int → Bool) (n : Nat)
  
  | ins (C dx : Addr) (fs : List (Str × V))
  
  | own (x : Addr)
  
  | xd (fs : List (Str × V))
  
  | met (f x : Addr)
  
  | rng (lo hi : Int)
  
  | frz (o : Obj) (u : HO)
  
  | tbl (ps : Array Value)
  
  | ext (φ : Heap → Prop)

noncomputable abbrev Hp := Addr → Option HO
noncomputable def upd (H : Hp) (a : Addr) (o : HO) : Hp := fun b => if b = a then some o else H b
theorem upd_same {H : Hp} {a : Addr} {o : HO} : upd H a o a = some o := by unfold upd; rw [if_pos rfl]
theorem upd_ne {H : Hp} {a b : Addr} {o : HO} (h : b ≠ a) : upd H a o b = H b := by unfold upd; rw [if_neg h]
theorem ne_of_none {H : Hp} {a b : Addr} {o : HO} (h : H a = some o) (h' : H b = none) : a ≠ b := by
  intro e; subst e; rw [h] at h'; cases h'

section
variable (P : Program) (w : World)
noncomputable def ObjOk (H : Hp) (h : Heap) (a : Addr) : HO → Prop
  | .lst xs => xs.length ≤ sizeLine ∧ ∃ (its : List Value) (n : Nat), Vals xs its ∧ h.get? a = some { cls := .type "list", data := .seq its.toArray n }
  | .tup xs => xs.length ≤ sizeLine ∧ ∃ its : List Value, Vals xs its ∧ IsTup h a its.toArray
  | .dK kvs => kvs.length ≤ sizeLine ∧ (a == sysModules) = false ∧ ∃ vs, KV kvs vs ∧ h.DictOf (mixKind P w) a vs
  | .dT kvs => kvs.length ≤ sizeLine ∧ (a == sysModules) = false ∧ ∃ xs : List (List Key × Addr × Value),
      Paired (fun (p : List Key × V) (q : List Key × Addr × Value) => p.1 = q.1 ∧ H q.2.1 = some (.tup (p.1.map kV)) ∧ RelV p.2 q.2.2) kvs xs ∧
      ∃ o es ep, h.get? a = some o ∧ o.ExactDict ∧ o.data = .dict es ep ∧ es.toList = xs.map (entryOfKey (tupleKind (mixKind P w))) ∧ (xs.map (·.1)).Nodup
  | .set S n => h.SetOf (intKind P w) a S n
  | .ins C dx fs => H dx = some (.own a) ∧ fs.length ≤ 1000 ∧ dx ≠ a ∧ h.get? a = some (PySem.W.instObj C dx) ∧
      ∃ mA, h.Ns1 dx mA ∧ (∀ f, RelO (fs.lookup f) (mA f)) ∧ PySem.Within mA (fs.map (·.1))
  | .own _ => ∃ o, h.get? a = some o
  | .xd fs => ∃ mA, h.Ns1 a mA ∧ ∀ f, RelO (fs.lookup f) (mA f)
  | .rng lo hi => ∃ t u v, h.get? a = some { cls := .type "range", data := .fields #[.int lo t, .int hi u, .int 1 v] }
  | .frz o u => h.get? a = some o ∧ ObjOk H h a u
  | .tbl ps => h.get? a = some { cls := .none, data := .fields ps }
  | .met f x => h.get? a = some (PySem.W.methodObj (.ref f) (.ref x))
  | .ext φ => φ h ∧ (∃ o, h.get? a = some o) ∧ ∀ h1 h2 : Heap, φ h1 → (∀ o, h1.get? a = some o → h2.get? a = some o) → φ h2

noncomputable def HOk (H : Hp) (h : Heap) : Prop := ∀ a o, H a = some o → ObjOk P w H h a o
end

section
variable {P : Program} {w : World} {H H' : Hp} {h h' : Heap} {a : Addr} {o : HO}
theorem ObjOk.lt (x : ObjOk P w H h a o) : a < h.objs.size := by
  cases o with
  | lst xs => obtain ⟨_, _, _, _, e⟩ := x; exact Heap.lt_size e
  | tup xs => obtain ⟨_, _, _, p⟩ := x; exact p.lt
  | dK kvs => obtain ⟨_, _, _, _, o, _, _, e, _⟩ := x; exact Heap.lt_size e
  | dT kvs => obtain ⟨_, _, _, _, o, _, _, e, _⟩ := x; exact Heap.lt_size e
  | set S n => obtain ⟨o, _, _, _, e, _⟩ := x; exact Heap.lt_size e
  | ins C dx fs => obtain ⟨_, _, _, e, _⟩ := x; exact Heap.lt_size e
  | own y => obtain ⟨_, e⟩ := x; exact Heap.lt_size e
  | xd fs => obtain ⟨_, ⟨_, _, _, e, _⟩, _⟩ := x; exact Heap.lt_size e
  | rng lo hi => obtain ⟨_, _, _, e⟩ := x; exact Heap.lt_size e
  | frz ob u => obtain ⟨e, _⟩ := x; exact Heap.lt_size e
  | tbl ps => exact Heap.lt_size (show h.get? a = some _ from x)
  | met f y => exact Heap.lt_size (show h.get? a = some _ from x)
  | ext φ => obtain ⟨_, ⟨_, e⟩, _⟩ := x; exact Heap.lt_size e
theorem Paired.mapP {α β : Type} {F G : α → β → Prop} : ∀ {l₁ : List α} {l₂ : List β}, Paired F l₁ l₂ → (∀ a b, F a b → G a b) → Paired G l₁ l₂
  | _, _, .nil, _ => .nil
  | _, _, .cons r t, f => .cons (f _ _ r) (Paired.mapP t f)

theorem ObjOk.stay (x : ObjOk P w H h a o) (k : ∀ b u, (b = a ∨ H b = some (.own a)) → h.get? b = some u → h'.get? b = some u)
    (ho : ∀ b, H b = some (.own a) → H' b = some (.own a)) (ht : ∀ b xs, H b = some (.tup xs) → H' b = some (.tup xs)) : ObjOk P w H' h' a o := by
  induction o with
  | lst xs => obtain ⟨z, its, n, r, e⟩ := x; exact ⟨z, its, n, r, k _ _ (.inl rfl) e⟩
  | tup xs => obtain ⟨z, its, r, ob, e, c⟩ := x; exact ⟨z, its, r, ob, k _ _ (.inl rfl) e, c⟩
  | dK kvs => obtain ⟨z, y, vs, r, ob, es, ep, e, c⟩ := x; exact ⟨z, y, vs, r, ob, es, ep, k _ _ (.inl rfl) e, c⟩
  | dT kvs =>
    obtain ⟨z, y, xs, r, ob, es, ep, e, c⟩ := x
    exact ⟨z, y, xs, Paired.mapP r fun p q z => ⟨z.1, ht _ _ z.2.1, z.2.2⟩, ob, es, ep, k _ _ (.inl rfl) e, c⟩
  | set S n => obtain ⟨ob, es, ep, t, e, c⟩ := x; exact ⟨ob, es, ep, t, k _ _ (.inl rfl) e, c⟩
  | ins C dx fs =>
    obtain ⟨d, z, ne, e, mA, ⟨od, es, ep, e2, c⟩, r⟩ := x
    exact ⟨ho _ d, z, ne, k _ _ (.inl rfl) e, mA, ⟨od, es, ep, k _ _ (.inr d) e2, c⟩, r⟩
  | own y => obtain ⟨ob, e⟩ := x; exact ⟨ob, k _ _ (.inl rfl) e⟩
  | xd fs => obtain ⟨mA, ⟨od, es, ep, e, c⟩, r⟩ := x; exact ⟨mA, ⟨od, es, ep, k _ _ (.inl rfl) e, c⟩, r⟩
  | rng lo hi => obtain ⟨t, u, v, e⟩ := x; exact ⟨t, u, v, k _ _ (.inl rfl) e⟩
  | frz ob u ih => obtain ⟨e, q⟩ := x; exact ⟨k _ _ (.inl rfl) e, ih q⟩
  | tbl ps =>
    have e : h.get? a = some { cls := .none, data := .fields ps } := x
    show h'.get? a = some { cls := .none, data := .fields ps }
    exact k a _ (.inl rfl) e
  | met f y =>
    have e : h.get? a = some (PySem.W.methodObj (.ref f) (.ref y)) := x
    show h'.get? a = some (PySem.W.methodObj (.ref f) (.ref y))
    exact k a _ (.inl rfl) e
  | ext φ => obtain ⟨p, ⟨o, e⟩, st⟩ := x; exact ⟨st _ _ p fun o q => k _ _ (.inl rfl) q, ⟨o, k _ _ (.inl rfl) e⟩, st⟩
theorem HOk.lt (x : HOk P w H h) (e : H a = some o) : a < h.objs.size := (x a o e).lt
theorem HOk.fresh (x : HOk P w H h) (e : h.objs.size ≤ a) : H a = none := by
  cases q : H a with
  | none => rfl
  | some u => exact absurd (Nat.lt_of_lt_of_le (x.lt q) e) (Nat.lt_irrefl _)

theorem HOk.kept (x : HOk P w H h) (k : ∀ b u, h.get? b = some u → h'.get? b = some u) : HOk P w H h' := fun a o e =>
  (x a o e).stay (fun b u _ q => k b u q) (fun _ q => q) fun _ _ q => q

theorem HOk.laid (x : HOk P w H h) (k : ∀ b u, h.get? b = some u → h'.get? b = some u) (hp : h.objs.size ≤ a) (new : ObjOk P w (upd H a o) h' a o) : HOk P w (upd H a o) h' := fun b u e => by
  have hn := x.fresh hp
  by_cases hb : b = a
  · subst hb; rw [upd_same] at e; cases e; exact new
  · rw [upd_ne hb] at e
    exact (x b u e).stay (fun c v _ q => k c v q) (fun c q => by rw [upd_ne (ne_of_none q hn)]; exact q) fun c xs q => by rw [upd_ne (ne_of_none q hn)]; exact q
end


noncomputable def Rd (H : Hp) (a : Addr) (u : HO) : Prop := H a = some u ∨ ∃ o, H a = some (.frz o u)
theorem Rd.ok {P : Program} {w : World} {H : Hp} {h : Heap} {a : Addr} {u : HO} (r : Rd H a u) (x : HOk P w H h) : ObjOk P w H h a u := by
  rcases r with r | ⟨o, r⟩
  · exact x a u r
  · obtain ⟨_, q⟩ := x a _ r
    exact q

noncomputable def Mut : Option HO → Prop
  | some (.lst _) => True
  | some (.dK _) => True
  | some (.dT _) => True
  | some (.set _ _) => True
  | some (.ins _ _ _) => True
  | some (.ext _) => True
  | _ => False
section
variable {P : Program} {w : World} {H : Hp} {h h' : Heap} {x e : Addr} {o' : HO}

theorem HOk.write (ok : HOk P w H h) (mu : Mut (H x)) (he : e = x ∨ H e = some (.own x)) (k : ∀ b u, b ≠ e → h.get? b = some u → h'.get? b = some u) (heo : ∃ u, h'.get? e = some u)
    (new : ObjOk P w (upd H x o') h' x o') : HOk P w (upd H x o') h' := fun b u q => by
  have nown : ∀ c y, H c = some (.own y) → c ≠ x := fun c y r z => by subst z; rw [r] at mu; exact mu
  have ntup : ∀ c xs, H c = some (.tup xs) → c ≠ x := fun c xs r z => by subst z; rw [r] at mu; exact mu
  by_cases hb : b = x
  · subst hb; rw [upd_same] at q; cases q; exact new
  · rw [upd_ne hb] at q
    by_cases hbe : b = e
    · have q' : H b = some (.own x) := by
        rcases he with z | z
        · exact absurd (hbe.trans z) hb
        · rw [hbe]; exact z
      rw [q] at q'; cases q'
      obtain ⟨v, hv⟩ := heo
      exact ⟨v, by rw [hbe]; exact hv⟩
    · refine (ok b u q).stay (fun c v hc r => k c v ?_ r) (fun c r => by rw [upd_ne (nown c b r)]; exact r) fun c xs r => by rw [upd_ne (ntup c xs r)]; exact r
      rcases hc with rfl | hc
      · exact hbe
      · rintro rfl
        rcases he with z | z
        · exact nown c b hc z
        · rw [hc] at z; cases z; exact hb rfl
end


structure Un (fs ex : List Addr) (H H' : Hp) (h h' : Heap) : Prop where
  keep : ∀ b o, h.get? b = some o → H b = none → b ∉ fs → b ∉ ex → h'.get? b = some o
  slot : ∀ b o, h.get? b = some o → H b = none → b ∈ fs → b ∉ ex → ∃ sl, h'.get? b = some { o with slots := sl }
  free : ∀ b o, h.get? b = some o → H b = none → b ∉ ex → H' b = none
  there : ∀ b o, h.get? b = some o → b ∉ ex → ∃ o', h'.get? b = some o'
  tups : ∀ b xs, H b = some (.tup xs) → H' b = some (.tup xs)
  frzs : ∀ b o u, H b = some (.frz o u) → H' b = some (.frz o u)
  tbls : ∀ b ps, H b = some (.tbl ps) → ∃ more, H' b = some (.tbl (ps ++ more))
section
variable {fs fs' ex ex' : List Addr} {H H1 H2 : Hp} {h h1 h2 h' : Heap} {a x e : Addr} {o : HO}
theorem Un.any (u : Un fs ex H H1 h h1) {b : Addr} {ob : Obj} (q : h.get? b = some ob) (n : H b = none) (hx : b ∉ ex) : ∃ sl, h1.get? b = some { ob with slots := sl } := by
  by_cases hb : b ∈ fs
  · exact u.slot b ob q n hb hx
  · exact ⟨ob.slots, u.keep b ob q n hb hx⟩
theorem Un.kept (k : ∀ b u, h.get? b = some u → h'.get? b = some u) : Un fs ex H H h h' :=
  ⟨fun b ob q _ _ _ => k b ob q, fun b ob q _ _ _ => ⟨ob.slots, k b ob q⟩, fun _ _ _ n _ => n, fun b ob q _ => ⟨ob, k b ob q⟩, fun _ _ q => q, fun _ _ _ q => q, fun _ ps q => ⟨#[], by rw [q]; simp⟩⟩
theorem Un.refl : Un fs ex H H h h := Un.kept fun _ _ q => q
theorem Un.laid (k : ∀ b u, h.get? b = some u → h'.get? b = some u) (hp : h.objs.size ≤ a) (hn : H a = none) : Un fs ex H (upd H a o) h h' where
  keep := fun b u q _ _ _ => k b u q
  slot := fun b u q _ _ _ => ⟨u.slots, k b u q⟩
  free := fun b u q n _ => by rw [upd_ne (Nat.ne_of_lt (Nat.lt_of_lt_of_le (Heap.lt_size q) hp))]; exact n
  there := fun b u q _ => ⟨u, k b u q⟩
  tups := fun b xs q => by rw [upd_ne (ne_of_none q hn)]; exact q
  frzs := fun b u xs q => by rw [upd_ne (ne_of_none q hn)]; exact q
  tbls := fun b ps q => ⟨#[], by rw [upd_ne (ne_of_none q hn), q]; simp⟩
theorem Un.write (mu : Mut (H x)) (he : e = x ∨ H e = some (.own x)) (k : ∀ b u, b ≠ e → h.get? b = some u → h'.get? b = some u) (heo : ∃ u, h'.get? e = some u) : Un fs ex H (upd H x o) h h' := by
  have hx : ∀ b, H b = none → b ≠ x := fun b n z => by subst z; rw [n] at mu; exact mu
  have hb : ∀ b, H b = none → b ≠ e := fun b n z => by
    subst z
    rcases he with r | r
    · exact hx b n r
    · rw [n] at r; cases r
  have hm : ∀ b u, H b = some u → ¬ Mut (some u) → b ≠ x := fun b u q nm z => by subst z; rw [q] at mu; exact nm mu
  refine ⟨fun b u q n _ _ => k b u (hb b n) q, fun b u q n _ _ => ⟨u.slots, k b u (hb b n) q⟩, fun b u q n _ => by rw [upd_ne (hx b n)]; exact n, fun b u q _ => ?_,
    fun b xs q => by rw [upd_ne (hm b _ q fun z => z)]; exact q, fun b u xs q => by rw [upd_ne (hm b _ q fun z => z)]; exact q, fun b ps q => ⟨#[], by rw [upd_ne (hm b _ q fun z => z), q]; simp⟩⟩
  by_cases hbe : b = e
  · subst hbe; exact heo
  · exact ⟨u, k b u hbe q⟩
end


noncomputable def trk (h : Heap) (H : Hp) : List Addr := (List.range h.objs.size).filter fun a => (H a).isSome
noncomputable def hidT (h : Heap) (H : Hp) : Heap := PySem.W.hideAll h (trk h H)
theorem hidT_size (h : Heap) (H : Hp) : (hidT h H).objs.size = h.objs.size := PySem.W.hideAll_size _ _
theorem hidT_get {h : Heap} {H : Hp} {b : Addr} {o : Obj} (e : h.get? b = some o) (n : H b = none) : (hidT h H).get? b = some o :=
  PySem.W.hideAll_get _ e fun hm => by
    have q : (H b).isSome = true := (List.mem_filter.mp hm).2
    rw [n] at q; simp at q
theorem of_hidT {h : Heap} {H : Hp} {b : Addr} {o : Obj} (e : (hidT h H).get? b = some o) : h.get? b = some o ∧ H b = none := by
  have e' : h.get? b = some o := PySem.W.of_hideAll (trk h H) e
  refine ⟨e', ?_⟩
  cases q : H b with
  | none => rfl
  | some x =>
    have hm : b ∈ trk h H := List.mem_filter.mpr ⟨List.mem_range.mpr (Heap.lt_size e'), by simp [q]⟩
    have z : (hidT h H).get? b = none := PySem.W.hideAll_none (trk h H) hm
    rw [z] at e; cases e


end L2

namespace L2
open PySem PySem.Spec PyProof.Rows


structure Mod (K : PySem.W.Frag) (mg : Str → Option Value) (base : Heap) : Prop where
  kin : K.In base
  glob : base.Ns mainGlobals mg
  blt : ∃ mb, base.Ns builtinsNs mb ∧ ∀ x : Str, x ≠ "__name__" → mb x = bootBuiltins x
  nolimit : base.NoLimit


structure Cx where
  prog : Program
  w : World
  K : PySem.W.Frag
  mg : Str → Option Value
  base : Heap
  A : Around
  N : List Str
  s₀ : Shared
  H₀ : Hp
  env : Env
  outer : List Env
  stack : List Env
  ex : List Addr
  fn : Str → Bool
  calm : Bool
  pn : List (Addr × Obj)
  xe : Value → Shared → Prop

noncomputable def frs (l : List Env) : List Addr := l.filterMap (·.frame)
noncomputable abbrev Cx.fs (X : Cx) : List Addr := frs X.outer

noncomputable def Vis (sc : Scope) (x : Str) : Prop := sc.names.lookup x = some .local ∨ sc.names.lookup x = some .cell ∨ sc.names.lookup x = some .free
noncomputable def Loc (sc : Scope) (x : Str) : Prop := sc.names.lookup x = some .local ∨ sc.names.lookup x = some .cell
noncomputable def Look (env : Env) (h : Heap) (m : Str → Option Value) (x : Str) (u : Value) : Prop :=
  (env.kindOf x = some .local ∧ m x = some u) ∨ ((env.kindOf x = some .cell ∨ env.kindOf x = some .free) ∧ ∃ c, env.cells.lookup x = some c ∧ h.IsCell c (some u))

structure Cx.Ok (X : Cx) : Prop where
  mod : Mod X.K X.mg X.base
  kind : X.env.scope.kind = .function
  glob : X.env.globals = mainGlobals
  blt : X.env.builtins = builtinsNs
  above : X.s₀.heap.objs.size ≤ X.env.locals
  inj : ∀ x y c, X.env.cells.lookup x = some c → X.env.cells.lookup y = some c → x = y
  has : ∀ x, (X.env.kindOf x = some .cell ∨ X.env.kindOf x = some .free) → ∃ c, X.env.cells.lookup x = some c
  cab : ∀ x c, X.fn x = true → X.env.cells.lookup x = some c → X.s₀.heap.objs.size ≤ c
  hd : X.calm = true → X.A.handled = none
  frames : X.A.frames = some X.stack
  stk : X.stack = X.outer ∨ (X.stack = X.env :: X.outer ∧ X.env.frame = some X.env.locals)
  exf : ∀ b ∈ X.ex, b ≠ X.env.locals ∧ ∀ x c, X.env.cells.lookup x = some c → c ≠ b
  bs : ∀ b o, X.base.get? b = some o → X.s₀.heap.get? b = some o ∧ X.H₀ b = none
  bsz : X.base.objs.size ≤ X.s₀.heap.objs.size
  noex : ∀ b o, X.base.get? b = some o → b ∉ X.ex
  exfs : ∀ b ∈ X.ex, b ∉ X.fs
  funs : X.s₀.heap.FunFrames X.base X.outer
  frf : ∀ b ∈ X.fs, X.H₀ b = none

structure Inv (X : Cx) (pins : List (Addr × Obj)) (σ : List (Option V)) (H : Hp) (s : Shared) : Prop where
  ok : X.Ok
  os : s.os = X.s₀.os
  bare : AllBare s.gens
  base : Un X.fs X.ex X.H₀ H X.s₀.heap s.heap
  loc : ∃ m, s.heap.Ns X.env.locals m ∧ ∀ (i : Nat) (x : Str) (v : V), X.N[i]? = some x → σ[i]? = some (some v) → Vis X.env.scope x → ∃ u, RelV v u ∧ Look X.env s.heap m x u
  cell : ∀ x c, X.env.cells.lookup x = some c → ∃ v, s.heap.IsCell c v
  free : H X.env.locals = none
  freeC : ∀ x c, X.env.cells.lookup x = some c → H c = none
  pin : ∀ p ∈ X.pn ++ pins, s.heap.get? p.1 = some p.2 ∧ H p.1 = none ∧ p.1 ≠ X.env.locals ∧ p.1 ∉ X.fs ∧ ∀ v, p.2.data ≠ .cell v
  hok : HOk X.prog X.w H s.heap
  len : σ.length = X.N.length

section
variable {X : Cx} {pins : List (Addr × Obj)} {σ : List (Option V)} {H H' : Hp} {s : Shared} {h' : Heap}

theorem Cx.Ok.nofr (ok : X.Ok) {b : Addr} {o : Obj} (e : X.base.get? b = some o) : b ∉ X.fs := fun hb => by
  have := (ok.funs.mem hb).1
  rw [e] at this; cases this
theorem Inv.bs (I : Inv X pins σ H s) : ∀ b o, X.base.get? b = some o → s.heap.get? b = some o ∧ H b = none := fun b o e =>
  ⟨I.base.keep b o (I.ok.bs b o e).1 (I.ok.bs b o e).2 (I.ok.nofr e) (I.ok.noex b o e), I.base.free b o (I.ok.bs b o e).1 (I.ok.bs b o e).2 (I.ok.noex b o e)⟩
theorem Inv.bk (I : Inv X pins σ H s) : ∀ b o, X.base.get? b = some o → s.heap.get? b = some o := fun b o e => (I.bs b o e).1
theorem Inv.mod (I : Inv X pins σ H s) : Mod X.K X.mg X.base := I.ok.mod
theorem Inv.kIn (I : Inv X pins σ H s) : X.K.In s.heap := I.ok.mod.kin.keeps I.bk

theorem Inv.fr (I : Inv X pins σ H s) : ∃ m, Fr X.base X.env.locals s.heap m :=
  let ⟨m, hn, _⟩ := I.loc
  ⟨m, hn, I.bk, Nat.le_trans I.ok.bsz I.ok.above⟩
theorem Inv.lt (I : Inv X pins σ H s) : X.env.locals < s.heap.objs.size := let ⟨_, hn, _⟩ := I.loc; hn.lt
theorem Inv.sz (I : Inv X pins σ H s) : X.s₀.heap.objs.size ≤ s.heap.objs.size := Nat.le_trans I.ok.above (Nat.le_of_lt I.lt)
theorem Inv.nofs (I : Inv X pins σ H s) {a : Addr} (h : s.heap.objs.size ≤ a) : a ∉ X.fs := fun hb => by
  obtain ⟨_, o, ho, _⟩ := I.ok.funs.mem hb
  exact absurd (Nat.lt_of_lt_of_le (Heap.lt_size ho) (Nat.le_trans I.sz h)) (Nat.lt_irrefl _)
theorem Inv.cne (I : Inv X pins σ H s) : ∀ x c, X.env.cells.lookup x = some c → c ≠ X.env.locals := fun x c e z => by
  obtain ⟨v, o, ho, hd⟩ := I.cell x c e
  obtain ⟨m, ⟨o', es, ep, ho', hd', _⟩, _⟩ := I.loc
  rw [z, ho'] at ho; cases ho; rw [hd'] at hd; cases hd
theorem Inv.funs (I : Inv X pins σ H s) : s.heap.FunFrames X.base X.outer := by
  have all : ∀ (l : List Env), (∀ b ∈ frs l, b ∈ X.fs) → X.s₀.heap.FunFrames X.base l → s.heap.FunFrames X.base l := by
    intro l
    induction l with
    | nil => intro _ _; trivial
    | cons env r ih =>
      intro hs hl
      obtain ⟨hk, ⟨L, o, hf, hn, ho, hd⟩, hr⟩ := hl
      have hL : L ∈ X.fs := hs L (by unfold frs; rw [List.filterMap_cons, hf]; exact List.mem_cons_self)
      obtain ⟨sl, e⟩ := I.base.slot L o ho (I.ok.frf L hL) hL fun z => I.ok.exfs L z hL
      exact ⟨hk, ⟨L, _, hf, hn, e, hd⟩, ih (fun b hb => hs b (by unfold frs; rw [List.filterMap_cons, hf]; exact List.mem_cons_of_mem _ hb)) hr⟩
  exact all X.outer (fun _ hb => hb) I.ok.funs


theorem Inv.stack (I : Inv X pins σ H s) : s.heap.FunFrames X.base X.stack := by
  rcases I.ok.stk with e | ⟨e, hf⟩
  · rw [e]; exact I.funs
  · rw [e]
    obtain ⟨m, hn, _⟩ := I.loc
    refine .cons (by rw [I.ok.kind]; decide) hf hn ?_ I.funs
    exact Heap.get?_none_of_le (Nat.le_trans I.ok.bsz I.ok.above)
theorem Inv.stkSub (I : Inv X pins σ H s) : ∀ b ∈ frs X.stack, b ∈ X.env.locals :: X.fs := fun b hb => by
  rcases I.ok.stk with e | ⟨e, hf⟩
  · rw [e] at hb; exact List.mem_cons_of_mem _ hb
  · rw [e] at hb
    unfold frs at hb
    rw [List.filterMap_cons, hf] at hb
    exact hb
theorem Inv.stkFree (I : Inv X pins σ H s) : ∀ b ∈ frs X.stack, H b = none := fun b hb => by
  rcases List.mem_cons.mp (I.stkSub b hb) with e | hb
  · rw [e]; exact I.free
  · obtain ⟨_, o, ho, _⟩ := I.ok.funs.mem hb
    exact I.base.free b o ho (I.ok.frf b hb) fun z => I.ok.exfs b z hb


theorem Inv.step {g' : Array GenState} {t' : Nat} {d' : Drawn} {ch : List Addr} (I : Inv X pins σ H s)
    (hch : ∀ b ∈ ch, (b ∈ X.ex ∨ X.s₀.heap.objs.size ≤ b) ∧ b ≠ X.env.locals ∧ (∀ x c, X.env.cells.lookup x = some c → c ≠ b) ∧ ∀ p ∈ X.pn ++ pins, p.1 ≠ b)
    (keep : ∀ b o, b ≠ X.env.locals → b ∉ X.fs → b ∉ ch → s.heap.get? b = some o → H b = none → h'.get? b = some o)
    (slot : ∀ b o, b ≠ X.env.locals → b ∈ X.fs → b ∉ ch → s.heap.get? b = some o → H b = none → ∃ sl, h'.get? b = some { o with slots := sl }) (free : ∀ b o, b ∉ ch → s.heap.get? b = some o → H b = none → H' b = none)
    (there : ∀ b o, b ∉ ch → s.heap.get? b = some o → ∃ o', h'.get? b = some o')
    (tups : ∀ b xs, H b = some (.tup xs) → H' b = some (.tup xs)) (frzs : ∀ b o u, H b = some (.frz o u) → H' b = some (.frz o u)) (tbls : ∀ b ps, H b = some (.tbl ps) → ∃ more, H' b = some (.tbl (ps ++ more)))
    (ns : ∀ m, s.heap.Ns X.env.locals m → h'.Ns X.env.locals m) (hok : HOk X.prog X.w H' h') (hg : AllBare g') :
    Inv X pins σ H' { s with heap := h', gens := g', drawn := d', toks := t' } := by
  have neL : ∀ b o, X.s₀.heap.get? b = some o → b ≠ X.env.locals := fun b o e => Nat.ne_of_lt (Nat.lt_of_lt_of_le (Heap.lt_size e) I.ok.above)
  have neC : ∀ b o, X.s₀.heap.get? b = some o → b ∉ X.ex → b ∉ ch := fun b o e hx hb => by
    rcases (hch b hb).1 with z | z
    · exact hx z
    · exact absurd (Nat.lt_of_lt_of_le (Heap.lt_size e) z) (Nat.lt_irrefl _)
  have cellK : ∀ x c, X.env.cells.lookup x = some c → ∀ v, s.heap.IsCell c v → h'.IsCell c v := fun x c e v ⟨o, ho, hd⟩ => by
    have nch : c ∉ ch := fun z => (hch c z).2.2.1 x c e rfl
    by_cases hc : c ∈ X.fs
    · obtain ⟨sl, q⟩ := slot c o (I.cne x c e) hc nch ho (I.freeC x c e)
      exact ⟨_, q, hd⟩
    · exact ⟨o, keep c o (I.cne x c e) hc nch ho (I.freeC x c e), hd⟩
  refine ⟨I.ok, I.os, hg, ⟨fun b o e n hb hx => ?_, fun b o e n hb hx => ?_, fun b o e n hx => ?_, fun b o e hx => ?_, fun b xs e => tups b xs (I.base.tups b xs e), fun b o xs e => frzs b o xs (I.base.frzs b o xs e), fun b ps e => ?_⟩, ?_, fun x c e => ?_, ?_, fun x c e => ?_, fun p hp => ?_, hok, I.len⟩
  · exact keep b o (neL b o e) hb (neC b o e hx) (I.base.keep b o e n hb hx) (I.base.free b o e n hx)
  · obtain ⟨sl, e1⟩ := I.base.slot b o e n hb hx
    obtain ⟨sl', e2⟩ := slot b _ (neL b o e) hb (neC b o e hx) e1 (I.base.free b o e n hx)
    exact ⟨sl', e2⟩
  · obtain ⟨o', e1⟩ := I.base.there b o e hx
    exact free b o' (neC b o e hx) e1 (I.base.free b o e n hx)
  · obtain ⟨o', e1⟩ := I.base.there b o e hx
    exact there b o' (neC b o e hx) e1
  · obtain ⟨m1, e1⟩ := I.base.tbls b ps e
    obtain ⟨m2, e2⟩ := tbls b _ e1
    exact ⟨m1 ++ m2, by rw [e2, Array.append_assoc]⟩
  · obtain ⟨m, hn, hl⟩ := I.loc
    refine ⟨m, ns m hn, fun i x v e1 e2 e3 => ?_⟩
    obtain ⟨u, r, l⟩ := hl i x v e1 e2 e3
    refine ⟨u, r, ?_⟩
    rcases l with l | ⟨k, c, e, z⟩
    · exact .inl l
    · exact .inr ⟨k, c, e, cellK x c e _ z⟩
  · obtain ⟨v, z⟩ := I.cell x c e
    exact ⟨v, cellK x c e v z⟩
  · obtain ⟨m, ⟨o, _, _, ho, _⟩, _⟩ := I.loc
    exact free _ o (fun z => (hch _ z).2.1 rfl) ho I.free
  · obtain ⟨v, o, ho, hd⟩ := I.cell x c e
    exact free c o (fun z => (hch c z).2.2.1 x c e rfl) ho (I.freeC x c e)
  · obtain ⟨e, n, ne, nf, d⟩ := I.pin p hp
    have nch : p.1 ∉ ch := fun z => (hch p.1 z).2.2.2 p hp rfl
    exact ⟨keep p.1 p.2 ne nf nch e n, free p.1 p.2 nch e n, ne, nf, d⟩

theorem Inv.un {t' : Nat} (I : Inv X pins σ H s) (u : Un X.fs [] H H' s.heap h') (hok : HOk X.prog X.w H' h') : Inv X pins σ H' { s with heap := h', toks := t' } := by
  obtain ⟨m, ⟨o, es, ep, ho, r⟩, _⟩ := id I.loc
  obtain ⟨sl, hL⟩ := u.any ho I.free (by simp)
  exact I.step (g' := s.gens) (d' := s.drawn) (ch := []) (fun _ z => nomatch z) (fun b o _ hb _ e n => u.keep b o e n hb (by simp)) (fun b o _ hb _ e n => u.slot b o e n hb (by simp)) (fun b o _ e n => u.free b o e n (by simp)) (fun b o _ e => u.there b o e (by simp)) u.tups u.frzs u.tbls (fun m' hm => by
    obtain ⟨o', es', ep', ho', r'⟩ := hm
    rw [ho] at ho'; cases ho'
    exact ⟨_, es', ep', hL, r'⟩) hok I.bare

theorem Inv.call {g' : Array GenState} {t' : Nat} {d' : Drawn} {ch : List Addr} (I : Inv X pins σ H s) (u : Un (frs X.stack) ch H H' s.heap h') (hok : HOk X.prog X.w H' h') (hg : AllBare g')
    (hch : ∀ b ∈ ch, (b ∈ X.ex ∨ X.s₀.heap.objs.size ≤ b) ∧ b ≠ X.env.locals ∧ (∀ x c, X.env.cells.lookup x = some c → c ≠ b) ∧ ∀ p ∈ X.pn ++ pins, p.1 ≠ b) :
    Inv X pins σ H' { s with heap := h', gens := g', drawn := d', toks := t' } := by
  obtain ⟨m, ⟨o, es, ep, ho, r⟩, _⟩ := id I.loc
  obtain ⟨sl, hL⟩ := u.any ho I.free fun z => (hch _ z).2.1 rfl
  exact I.step (ch := ch) hch (fun b o hL hb hc e n => u.keep b o e n (fun z => (List.mem_cons.mp (I.stkSub b z)).elim hL hb) hc) (fun b o _ _ hc e n => u.any e n hc) (fun b o hc e n => u.free b o e n hc) (fun b o hc e => u.there b o e hc) u.tups u.frzs u.tbls (fun m' hm => by
    obtain ⟨o', es', ep', ho', r'⟩ := hm
    rw [ho] at ho'; cases ho'
    exact ⟨_, es', ep', hL, r'⟩) hok hg

theorem Inv.turned {t' : Nat} {it : Addr} (I : Inv X pins σ H s) (k : ∀ b o, b ≠ it → s.heap.get? b = some o → h'.get? b = some o) (hn : H it = none) (hL : it ≠ X.env.locals)
    (h1 : it ∈ X.ex ∨ X.s₀.heap.objs.size ≤ it) (h2 : ∀ x c, X.env.cells.lookup x = some c → c ≠ it) (h3 : ∀ p ∈ X.pn ++ pins, p.1 ≠ it) : Inv X pins σ H { s with heap := h', toks := t' } := by
  have nit : ∀ b u, H b = some u → b ≠ it := fun b u e z => by rw [z, hn] at e; cases e
  refine I.step (g' := s.gens) (d' := s.drawn) (ch := [it]) (fun b hb => ?_) (fun b o _ _ hc e _ => k b o (fun z => hc (by simp [z])) e) (fun b o _ _ hc e _ => ⟨o.slots, k b o (fun z => hc (by simp [z])) e⟩) (fun _ _ _ _ n => n)
    (fun b o hc e => ⟨o, k b o (fun z => hc (by simp [z])) e⟩) (fun _ _ e => e) (fun _ _ _ e => e) (fun b ps e => ⟨#[], by rw [e]; simp⟩) (fun m hm => ?_) (fun b u e => ?_) I.bare
  · have e : b = it := by simpa using hb
    subst e
    exact ⟨h1, hL, h2, h3⟩
  · obtain ⟨o, es, ep, ho, r⟩ := hm
    exact ⟨o, es, ep, k _ o (Ne.symm hL) ho, r⟩
  · refine (I.hok b u e).stay (fun c v hc q => k c v ?_ q) (fun _ q => q) fun _ _ q => q
    rcases hc with z | z
    · rw [z]; exact nit b u e
    · exact nit c _ z
theorem Inv.tok (I : Inv X pins σ H s) (t : Nat) : Inv X pins σ H { s with toks := t } := I.un (h' := s.heap) (t' := t) Un.refl I.hok

theorem Inv.kept {t' : Nat} (I : Inv X pins σ H s) (k : ∀ b u, s.heap.get? b = some u → h'.get? b = some u) : Inv X pins σ H { s with heap := h', toks := t' } := I.un (Un.kept k) (I.hok.kept k)

theorem Inv.laid {a : Addr} {o : HO} {t' : Nat} (I : Inv X pins σ H s) (k : ∀ b u, s.heap.get? b = some u → h'.get? b = some u) (hp : s.heap.objs.size ≤ a) (new : ObjOk X.prog X.w (upd H a o) h' a o) :
    Inv X pins σ (upd H a o) { s with heap := h', toks := t' } := I.un (Un.laid k hp (I.hok.fresh hp)) (I.hok.laid k hp new)

theorem Inv.write {x e : Addr} {o : HO} {t' : Nat} (I : Inv X pins σ H s) (mu : Mut (H x)) (he : e = x ∨ H e = some (.own x)) (k : ∀ b u, b ≠ e → s.heap.get? b = some u → h'.get? b = some u) (heo : ∃ u, h'.get? e = some u)
    (new : ObjOk X.prog X.w (upd H x o) h' x o) : Inv X pins σ (upd H x o) { s with heap := h', toks := t' } := I.un (Un.write mu he k heo) (I.hok.write mu he k heo new)

theorem Inv.weak {σ' : List (Option V)} (I : Inv X pins σ H s) (hl : σ'.length = σ.length) (w : ∀ (i : Nat) v, σ'[i]? = some (some v) → σ[i]? = some (some v)) : Inv X pins σ' H s :=
  ⟨I.ok, I.os, I.bare, I.base, let ⟨m, hn, hl'⟩ := I.loc; ⟨m, hn, fun i x v e1 e2 e3 => hl' i x v e1 (w i v e2) e3⟩, I.cell, I.free, I.freeC, I.pin, I.hok, hl.trans I.len⟩
theorem Inv.pins_of {pins' : List (Addr × Obj)} (I : Inv X pins σ H s) (h : ∀ p ∈ pins', s.heap.get? p.1 = some p.2 ∧ H p.1 = none ∧ p.1 ≠ X.env.locals ∧ p.1 ∉ X.fs ∧ ∀ v, p.2.data ≠ .cell v) : Inv X pins' σ H s :=
  ⟨I.ok, I.os, I.bare, I.base, I.loc, I.cell, I.free, I.freeC, fun p hp => (List.mem_append.mp hp).elim (fun z => I.pin p (List.mem_append_left _ z)) (h p), I.hok, I.len⟩

theorem nodup_ix {N : List Str} (hN : N.Nodup) {i j : Nat} {x : Str} (a : N[i]? = some x) (b : N[j]? = some x) : i = j := by
  obtain ⟨h1, e1⟩ := List.getElem?_eq_some_iff.mp a
  obtain ⟨h2, e2⟩ := List.getElem?_eq_some_iff.mp b
  exact (List.getElem_inj hN).mp (e1.trans e2.symm)


theorem store_ok2 {M : Model} {A : Around} {E : Value → Shared → Prop} {i : Nat} {x : Str} {v : V} {u : Value} {Q : Unit → Shared → Prop} (I : Inv X pins σ H s) (hN : X.N.Nodup) (hi : X.N[i]? = some x) (hx : Loc X.env.scope x) (r : RelV v u)
    (h : ∀ s', Inv X pins (σ.set i (some v)) H s' → (∃ a, Heap.SameBut a s.heap s'.heap ∧ (a = X.env.locals ∨ X.env.cells.lookup x = some a)) → Q () s') (hf : X.fn x = true ∨ X.env.scope.names.lookup x = some .local := by first | exact .inl rfl | exact .inr rfl | assumption) : wpAny M A (storeName X.env x u) Q E s := by
  obtain ⟨m, hn, hl⟩ := id I.loc
  have hcls : (X.env.scope.kind == .class || (X.env.scope.kind == .module && X.env.locals != X.env.globals)) = false := by rw [I.ok.kind]; rfl
  have hiσ : i < σ.length := by rw [I.len]; exact (List.getElem?_eq_some_iff.mp hi).1
  have cne := I.cne
  have tracked : ∀ {a : Addr} {h' : Heap}, (∃ o, s.heap.get? a = some o ∧ H a = none) → Heap.SameBut a s.heap h' → HOk X.prog X.w H h' := fun {a h'} ha hs b ob e => by
    obtain ⟨_, _, hfree⟩ := ha
    refine (I.hok b ob e).stay (fun c w' hc q => (hs.2 c ?_).trans q) (fun _ q => q) fun _ _ q => q
    rintro rfl
    rcases hc with rfl | hc
    · rw [hfree] at e; cases e
    · rw [hfree] at hc; cases hc
  rcases hx with hk | hk
  · refine wpAny_storeName_local hk hn (fun h' hn' hs => ?_) hcls
    obtain ⟨oL, _, _, hoL, _⟩ := id hn
    refine h _ ⟨I.ok, I.os, I.bare, ⟨fun b o e n hb hx => ?_, fun b o e n hb hx => ?_, I.base.free, fun b o e hx => ?_, I.base.tups, I.base.frzs, I.base.tbls⟩, ⟨_, hn', fun j y v' e1 e2 e3 => ?_⟩, fun y c e => ?_, I.free, I.freeC, fun p hp => ?_, tracked ⟨oL, hoL, I.free⟩ hs, by simpa using I.len⟩ ⟨_, hs, .inl rfl⟩
    · exact (hs.2 b (Nat.ne_of_lt (Nat.lt_of_lt_of_le (Heap.lt_size e) I.ok.above))).trans (I.base.keep b o e n hb hx)
    · obtain ⟨sl, e1⟩ := I.base.slot b o e n hb hx
      exact ⟨sl, (hs.2 b (Nat.ne_of_lt (Nat.lt_of_lt_of_le (Heap.lt_size e) I.ok.above))).trans e1⟩
    · obtain ⟨o', e1⟩ := I.base.there b o e hx
      exact ⟨o', (hs.2 b (Nat.ne_of_lt (Nat.lt_of_lt_of_le (Heap.lt_size e) I.ok.above))).trans e1⟩
    · by_cases hj : j = i
      · subst hj
        rw [hi] at e1; cases e1
        rw [List.getElem?_set_self hiσ] at e2
        cases e2
        exact ⟨u, r, .inl ⟨hk, by simp⟩⟩
      · rw [List.getElem?_set_ne (Ne.symm hj)] at e2
        obtain ⟨u', r', q⟩ := hl j y v' e1 e2 e3
        refine ⟨u', r', ?_⟩
        rcases q with ⟨k, e⟩ | ⟨k, c, e, z⟩
        · refine .inl ⟨k, ?_⟩
          have : y ≠ x := fun e => hj (nodup_ix hN e1 (e ▸ hi))
          simp [this, e]
        · exact .inr ⟨k, c, e, z.sameBut hs (cne y c e)⟩
    · obtain ⟨w', z⟩ := I.cell y c e
      exact ⟨w', z.sameBut hs (cne y c e)⟩
    · obtain ⟨e, n, ne, nf, d⟩ := I.pin p hp
      exact ⟨(hs.2 p.1 ne).trans e, n, ne, nf, d⟩
  · have hfn : X.fn x = true := by
      rcases hf with z | z
      · exact z
      · rw [z] at hk; cases hk
    obtain ⟨c, hc⟩ := I.ok.has x (.inl hk)
    obtain ⟨w', z⟩ := I.cell x c hc
    refine wpAny_storeName_cell I.ok.kind hk hc z (fun h' hc' hs => ?_)
    obtain ⟨oc, hoc, hocd⟩ := id z
    refine h { s with heap := h' } ⟨I.ok, I.os, I.bare, ⟨fun b o e n hb hx => ?_, fun b o e n hb hx => ?_, I.base.free, fun b o e hx => ?_, I.base.tups, I.base.frzs, I.base.tbls⟩, ⟨m, hn.sameBut hs (Ne.symm (cne x c hc)), fun j y v' e1 e2 e3 => ?_⟩, fun y c' e => ?_, I.free, I.freeC, fun p hp => ?_, tracked ⟨oc, hoc, I.freeC x c hc⟩ hs, by simpa using I.len⟩ ⟨c, hs, .inr hc⟩
    · exact (hs.2 b (Nat.ne_of_lt (Nat.lt_of_lt_of_le (Heap.lt_size e) (I.ok.cab x c hfn hc)))).trans (I.base.keep b o e n hb hx)
    · obtain ⟨sl, e1⟩ := I.base.slot b o e n hb hx
      exact ⟨sl, (hs.2 b (Nat.ne_of_lt (Nat.lt_of_lt_of_le (Heap.lt_size e) (I.ok.cab x c hfn hc)))).trans e1⟩
    · obtain ⟨o', e1⟩ := I.base.there b o e hx
      exact ⟨o', (hs.2 b (Nat.ne_of_lt (Nat.lt_of_lt_of_le (Heap.lt_size e) (I.ok.cab x c hfn hc)))).trans e1⟩
    · by_cases hj : j = i
      · subst hj
        rw [hi] at e1; cases e1
        rw [List.getElem?_set_self hiσ] at e2
        cases e2
        exact ⟨u, r, .inr ⟨.inl hk, c, hc, hc'⟩⟩
      · rw [List.getElem?_set_ne (Ne.symm hj)] at e2
        obtain ⟨u', r', q⟩ := hl j y v' e1 e2 e3
        refine ⟨u', r', ?_⟩
        rcases q with q | ⟨k, c', e, z'⟩
        · exact .inl q
        · refine .inr ⟨k, c', e, z'.sameBut hs ?_⟩
          rintro rfl
          exact hj (nodup_ix hN e1 (I.ok.inj _ _ _ e hc ▸ hi))
    · by_cases hcc : c' = c
      · subst hcc; exact ⟨_, hc'⟩
      · obtain ⟨w2, z2⟩ := I.cell y c' e
        exact ⟨w2, z2.sameBut hs hcc⟩
    · obtain ⟨e, n, ne, nf, d⟩ := I.pin p hp
      refine ⟨(hs.2 p.1 ?_).trans e, n, ne, nf, d⟩
      intro q
      rw [q, hoc] at e
      have q' : oc = p.2 := Option.some.inj e
      exact d w' (by rw [← q']; exact hocd)
theorem store_ok {M : Model} {A : Around} {E : Value → Shared → Prop} {i : Nat} {x : Str} {v : V} {u : Value} {Q : Unit → Shared → Prop} (I : Inv X pins σ H s) (hN : X.N.Nodup) (hi : X.N[i]? = some x) (hx : Loc X.env.scope x) (r : RelV v u)
    (h : ∀ s', Inv X pins (σ.set i (some v)) H s' → Q () s') (hf : X.fn x = true ∨ X.env.scope.names.lookup x = some .local := by first | exact .inl rfl | exact .inr rfl | assumption) : wpAny M A (storeName X.env x u) Q E s :=
  store_ok2 I hN hi hx r (fun s' I' _ => h s' I') hf

theorem Inv.call' {s' : Shared} {ch : List Addr} (I : Inv X pins σ H s) (ho : s'.os = s.os) (u : Un (frs X.stack) ch H H' s.heap s'.heap) (hok : HOk X.prog X.w H' s'.heap) (hg : AllBare s'.gens)
    (hch : ∀ b ∈ ch, (b ∈ X.ex ∨ X.s₀.heap.objs.size ≤ b) ∧ b ≠ X.env.locals ∧ (∀ x c, X.env.cells.lookup x = some c → c ≠ b) ∧ ∀ p ∈ X.pn ++ pins, p.1 ≠ b) : Inv X pins σ H' s' := by
  obtain ⟨h', g', d', t', o'⟩ := s'
  have e : o' = s.os := ho
  subst e
  exact I.call (g' := g') (t' := t') (d' := d') u hok hg hch
end



noncomputable abbrev XK := Value → Option Addr → Hp → Prop
noncomputable abbrev St := List (Option V)
noncomputable abbrev VK := V → Hp → Prop

noncomputable abbrev TE := St → Hp → VK → Prop
noncomputable abbrev TT := St → Hp → (Bool → Hp → Prop) → Prop
noncomputable abbrev TA := St → Hp → (List V → Hp → Prop) → Prop

structure Ends where
  nx : St → Hp → Prop
  rt : VK
  bk : St → Hp → Prop := fun _ _ => False
  ct : St → Hp → Prop := fun _ _ => False
noncomputable abbrev TS := Ends → St → Hp → Prop

noncomputable def EP (X : Cx) (pins : List (Addr × Obj)) (σ : St) (Q : VK) (u : Value) (s' : Shared) : Prop := ∃ v H', Inv X pins σ H' s' ∧ RelV v u ∧ Q v H'
noncomputable def TP (X : Cx) (pins : List (Addr × Obj)) (σ : St) (Q : Bool → Hp → Prop) (b : Bool) (s' : Shared) : Prop := ∃ H', Inv X pins σ H' s' ∧ Q b H'
noncomputable def AP (X : Cx) (pins : List (Addr × Obj)) (σ : St) (Q : List V → Hp → Prop) (us : List Value) (s' : Shared) : Prop := ∃ vs H', Inv X pins σ H' s' ∧ Vals vs us ∧ Q vs H'
noncomputable def SP (X : Cx) (pins : List (Addr × Obj)) (D : Ends) (f : Flow) (s' : Shared) : Prop :=
  match f with
  | .next => ∃ σ' H', Inv X pins σ' H' s' ∧ D.nx σ' H'
  | .brk => ∃ σ' H', Inv X pins σ' H' s' ∧ D.bk σ' H'
  | .cont => ∃ σ' H', Inv X pins σ' H' s' ∧ D.ct σ' H'
  | .ret u => ∃ v σ' H', Inv X pins σ' H' s' ∧ RelV v u ∧ D.rt v H'

structure PE (X : Cx) (e : Expr) (t : TE) : Prop where
  go : ∀ (pins : List (Addr × Obj)) (s : Shared) (σ : St) (H : Hp) (Q : VK), Inv X pins σ H s → t σ H Q → wpAny (model X.prog X.w) X.A (eval e X.env) (EP X pins σ Q) X.xe s
noncomputable instance {X : Cx} {e : Expr} {t : TE} : CoeFun (PE X e t) fun _ => ∀ (pins : List (Addr × Obj)) (s : Shared) (σ : St) (H : Hp) (Q : VK), Inv X pins σ H s → t σ H Q → wpAny (model X.prog X.w) X.A (eval e X.env) (EP X pins σ Q) X.xe s := ⟨fun h => h.go⟩
structure PT (X : Cx) (e : Expr) (t : TT) : Prop where
  go : ∀ (pins : List (Addr × Obj)) (s : Shared) (σ : St) (H : Hp) (Q : Bool → Hp → Prop), Inv X pins σ H s → t σ H Q → wpAny (model X.prog X.w) X.A (isTrue e X.env (eval e X.env)) (TP X pins σ Q) X.xe s
noncomputable instance {X : Cx} {e : Expr} {t : TT} : CoeFun (PT X e t) fun _ => ∀ (pins : List (Addr × Obj)) (s : Shared) (σ : St) (H : Hp) (Q : Bool → Hp → Prop), Inv X pins σ H s → t σ H Q → wpAny (model X.prog X.w) X.A (isTrue e X.env (eval e X.env)) (TP X pins σ Q) X.xe s := ⟨fun h => h.go⟩

structure PW (X : Cx) (e : Expr) (t : TT) : Prop where
  go : ∀ (whole : Sem Value) (pins : List (Addr × Obj)) (s : Shared) (σ : St) (H : Hp) (Q : Bool → Hp → Prop), Inv X pins σ H s → t σ H Q → wpAny (model X.prog X.w) X.A (isTrue e X.env whole) (TP X pins σ Q) X.xe s
noncomputable instance {X : Cx} {e : Expr} {t : TT} : CoeFun (PW X e t) fun _ => ∀ (whole : Sem Value) (pins : List (Addr × Obj)) (s : Shared) (σ : St) (H : Hp) (Q : Bool → Hp → Prop), Inv X pins σ H s → t σ H Q → wpAny (model X.prog X.w) X.A (isTrue e X.env whole) (TP X pins σ Q) X.xe s := ⟨fun h => h.go⟩
theorem PW.pt {X : Cx} {e : Expr} {t : TT} (h : PW X e t) : PT X e t := ⟨h.go _⟩

structure PA (X : Cx) (es : List Expr) (t : TA) : Prop where
  go : ∀ (pos : Pos) (pins : List (Addr × Obj)) (s : Shared) (σ : St) (H : Hp) (Q : List V → Hp → Prop), Inv X pins σ H s → t σ H Q → wpAny (model X.prog X.w) X.A (spliced (backTo pos (starEach es X.env))) (AP X pins σ Q) X.xe s
noncomputable instance {X : Cx} {es : List Expr} {t : TA} : CoeFun (PA X es t) fun _ => ∀ (pos : Pos) (pins : List (Addr × Obj)) (s : Shared) (σ : St) (H : Hp) (Q : List V → Hp → Prop), Inv X pins σ H s → t σ H Q → wpAny (model X.prog X.w) X.A (spliced (backTo pos (starEach es X.env))) (AP X pins σ Q) X.xe s := ⟨fun h => h.go⟩
structure PS (X : Cx) (st : Stmt) (t : TS) : Prop where
  go : ∀ (pins : List (Addr × Obj)) (s : Shared) (σ : St) (H : Hp) (D : Ends), Inv X pins σ H s → t D σ H → wpAny (model X.prog X.w) X.A (exec st X.env) (SP X pins D) X.xe s
noncomputable instance {X : Cx} {st : Stmt} {t : TS} : CoeFun (PS X st t) fun _ => ∀ (pins : List (Addr × Obj)) (s : Shared) (σ : St) (H : Hp) (D : Ends), Inv X pins σ H s → t D σ H → wpAny (model X.prog X.w) X.A (exec st X.env) (SP X pins D) X.xe s := ⟨fun h => h.go⟩
structure PSs (X : Cx) (st : List Stmt) (t : TS) : Prop where
  go : ∀ (pins : List (Addr × Obj)) (s : Shared) (σ : St) (H : Hp) (D : Ends), Inv X pins σ H s → t D σ H → wpAny (model X.prog X.w) X.A (execs st X.env) (SP X pins D) X.xe s
noncomputable instance {X : Cx} {st : List Stmt} {t : TS} : CoeFun (PSs X st t) fun _ => ∀ (pins : List (Addr × Obj)) (s : Shared) (σ : St) (H : Hp) (D : Ends), Inv X pins σ H s → t D σ H → wpAny (model X.prog X.w) X.A (execs st X.env) (SP X pins D) X.xe s := ⟨fun h => h.go⟩

theorem thn {α : Type} {t : Sem α} {Q Q' : α → Shared → Prop} {M : Model} {A : Around} {E : Value → Shared → Prop} {s : Shared} (h : wpAny M A t Q E s) (hQ : ∀ a s, Q a s → Q' a s) : wpAny M A t Q' E s := wpAny_mono h hQ fun _ _ x => x
end L2

namespace L2
open PySem PySem.Spec PyProof.Rows
section
variable {X : Cx}


theorem bin {a b : Expr} {ta tb : TE} (ha : PE X a ta) (hb : PE X b tb) {pins : List (Addr × Obj)} {s : Shared} {σ : St} {H : Hp} {R : V → V → Hp → Prop} (I : Inv X pins σ H s) (h : ta σ H fun x H1 => tb σ H1 fun y H2 => R x y H2)
    {α : Type} {Q : α → Shared → Prop} {f : Value → Value → Sem α}
    (hf : ∀ v u s2 x y H2, Inv X pins σ H2 s2 → RelV x v → RelV y u → R x y H2 → wpAny (model X.prog X.w) X.A (f v u) Q X.xe s2) :
    wpAny (model X.prog X.w) X.A (eval a X.env) (fun v s₁ => wpAny (model X.prog X.w) X.A (eval b X.env) (fun u s₂ => wpAny (model X.prog X.w) X.A (f v u) Q X.xe s₂) X.xe s₁) X.xe s := by
  refine thn (ha pins s σ H _ I h) fun v s1 ⟨x, H1, I1, r1, q1⟩ => ?_
  refine thn (hb pins s1 σ H1 _ I1 q1) fun u s2 ⟨y, H2, I2, r2, q2⟩ => ?_
  exact hf v u s2 x y H2 I2 r1 r2 q2


noncomputable def tVar (i : Nat) : TE := fun σ H Q => ∃ v, σ[i]? = some (some v) ∧ Q v H
noncomputable def tC (v : V) : TE := fun _ H Q => Q v H
theorem pe_var {i : Nat} {x : Str} {pos : Pos} (hN : X.N[i]? = some x) (hv : Vis X.env.scope x) (hd : (x == ("__debug__" : Str)) = false := by decide) (hcd : (x == ("__classdict__" : Str)) = false := by decide) : PE X (.Name x pos) (tVar i) := by
  (try refine ⟨?_⟩); intro pins s σ H Q I h
  obtain ⟨v, e, h⟩ := h
  obtain ⟨m, hn, hl⟩ := I.loc
  obtain ⟨u, r, l⟩ := hl i x v hN e hv
  have fin : EP X pins σ Q u s := ⟨v, H, I, r, h⟩
  rcases l with ⟨hk, hm⟩ | ⟨hk, c, hc, hcell⟩
  · exact wpAny_Name (wpAny_loadName_local I.ok.kind hk hn hm fin) hd
  · rcases hk with hk | hk
    · exact wpAny_Name (wpAny_loadName_cell I.ok.kind hk hc hcell fin) hd
    · exact wpAny_Name (wpAny_loadName_free I.ok.kind hk hc hcell fin hcd) hd
theorem pe_int {i j pos} : PE X (.Constant (.int i) j pos) (tC (.int i)) := ⟨fun _ _ _ H _ I h => wpAny_Constant_int ⟨.int i, H, I.tok _, ⟨_, rfl⟩, h⟩⟩
theorem pe_bl {b j pos} : PE X (.Constant (.bool b) j pos) (tC (.bl b)) := ⟨fun _ _ _ H _ I h => Constant_bool ⟨.bl b, H, I, rfl, h⟩⟩

noncomputable def Gl (X : Cx) (x : Str) : Prop := X.env.kindOf x = some .globalImplicit
theorem ld_glob {E : Value → Shared → Prop} {pins : List (Addr × Obj)} {s : Shared} {σ : St} {H : Hp} {x : Str} {u : Value} {pos : Pos} {Q : Value → Shared → Prop} (I : Inv X pins σ H s) (hg : Gl X x) (hm : X.mg x = some u) (h : Q u s)
    (hd : (x == ("__debug__" : Str)) = false := by decide) : wpAny (model X.prog X.w) X.A (eval (.Name x pos) X.env) Q E s :=
  Calls.Name_function_global I.ok.kind hg (Calls.loadGlobal_global (by rw [I.ok.glob]; exact I.mod.glob.keeps I.bk) hm h) hd
theorem ld_blt {E : Value → Shared → Prop} {pins : List (Addr × Obj)} {s : Shared} {σ : St} {H : Hp} {x : Str} {u : Value} {pos : Pos} {Q : Value → Shared → Prop} (I : Inv X pins σ H s) (hg : Gl X x) (hm : X.mg x = none) (hv : bootBuiltins x = some u) (h : Q u s)
    (hn : x ≠ "__name__" := by decide) (hd : (x == ("__debug__" : Str)) = false := by decide) : wpAny (model X.prog X.w) X.A (eval (.Name x pos) X.env) Q E s := by
  obtain ⟨mb, h1, h2⟩ := I.mod.blt
  exact Calls.Name_function_global I.ok.kind hg (Calls.loadGlobal_builtin (by rw [I.ok.glob]; exact I.mod.glob.keeps I.bk) hm (by rw [I.ok.blt]; exact h1.keeps I.bk) ((h2 x hn).trans hv) h) hd

theorem pe_glob {x : Str} {v : V} {u : Value} {pos : Pos} (hg : Gl X x) (hm : X.mg x = some u) (r : RelV v u) (hd : (x == ("__debug__" : Str)) = false := by decide) : PE X (.Name x pos) (tC v) := ⟨fun _ _ _ H _ I h => ld_glob I hg hm ⟨v, H, I, r, h⟩ hd⟩
theorem pe_bltn {x : Str} {v : V} {u : Value} {pos : Pos} (hg : Gl X x) (hm : X.mg x = none) (hv : bootBuiltins x = some u) (r : RelV v u) (hn : x ≠ "__name__" := by decide) (hd : (x == ("__debug__" : Str)) = false := by decide) : PE X (.Name x pos) (tC v) := ⟨fun _ _ _ H _ I h => ld_blt I hg hm hv ⟨v, H, I, r, h⟩ hn hd⟩


variable {a b : Expr} {ta tb : TE} {pos : Pos}


noncomputable def tB (t : TE) : TT := fun σ H Q => t σ H fun x H1 => ∃ c, x = .bl c ∧ Q c H1

theorem pt_val {e : Expr} {t : TE} (h : PE X e t) (he : ∀ whole, isTrue e X.env whole = (do let v ← whole; standAt e.pos; holding [v] (truthy v)) := by intro _; rfl) : PT X e (tB t) := by
  (try refine ⟨?_⟩); intro pins s σ H Q I hw
  refine isTrue_plain (thn (h pins s σ H _ I hw) fun v s1 ⟨x, H1, I1, r1, q1⟩ => ?_) (he _)
  obtain ⟨d, rfl, q⟩ := q1
  cases r1
  exact wpAny_truthy_bool ⟨H1, I1, q⟩


variable {tA tB' : TT} {rest : List Expr}
noncomputable def tOr (t u : TT) : TT := fun σ H Q => t σ H fun c H1 => if c = true then Q true H1 else u σ H1 Q
noncomputable def tNot (t : TT) : TT := fun σ H Q => t σ H fun c H1 => Q (!c) H1
theorem pw_or1 (ha : PT X a tA) : PW X (.BoolOp .Or [a] pos) tA := by
  (try refine ⟨?_⟩); intro wh pins s σ H Q I h
  refine isTrue_or (thn (ha pins s σ H Q I h) fun c s1 e => ?_)
  cases c with
  | false => exact isTrue_or_nil e
  | true => exact e
theorem pw_or (ha : PT X a tA) (hb : PW X (.BoolOp .Or (b :: rest) pos) tB') : PW X (.BoolOp .Or (a :: b :: rest) pos) (tOr tA tB') := by
  (try refine ⟨?_⟩); intro wh pins s σ H Q I h
  refine isTrue_or (thn (ha pins s σ H _ I h) fun c s1 ⟨H1, I1, q1⟩ => ?_)
  cases c with
  | true => exact ⟨H1, I1, q1⟩
  | false => exact hb wh pins s1 σ H1 Q I1 q1
theorem pt_not (ha : PT X a tA) : PT X (.UnaryOp .Not a pos) (tNot tA) := by
  (try refine ⟨?_⟩); intro pins s σ H Q I h
  exact isTrue_not (ha pins s σ H (fun c H1 => Q (!c) H1) I h)

noncomputable def tAndV (ta tb : TE) : TE := fun σ H Q => ta σ H fun x H1 => ∃ c, x = .bl c ∧ if c = true then tb σ H1 Q else Q (.bl false) H1
noncomputable def tNotV (ta : TE) : TE := fun σ H Q => ta σ H fun x H1 => ∃ c, x = .bl c ∧ Q (.bl (!c)) H1
theorem pe_one {op} {t : TE} (h : PE X a t) : PE X (.BoolOp op [a] pos) t := ⟨fun pins s σ H Q I hw => BoolOp_one (h pins s σ H Q I hw)⟩
theorem pe_and (ha : PE X a ta) (hb : PE X (.BoolOp .And (b :: rest) pos) tb) : PE X (.BoolOp .And (a :: b :: rest) pos) (tAndV ta tb) := by
  (try refine ⟨?_⟩); intro pins s σ H Q I h
  refine BoolOp_and (thn (ha pins s σ H _ I h) fun v s1 ⟨x, H1, I1, r1, q1⟩ => ?_)
  obtain ⟨c, rfl, q1⟩ := q1
  cases r1
  refine wpAny_truthy_bool ?_
  cases c with
  | true => exact hb pins s1 σ H1 Q I1 q1
  | false => exact ⟨.bl false, H1, I1, rfl, q1⟩
theorem pe_not (ha : PE X a ta) : PE X (.UnaryOp .Not a pos) (tNotV ta) := by
  (try refine ⟨?_⟩); intro pins s σ H Q I h
  refine UnaryOp_ (thn (ha pins s σ H _ I h) fun v s1 ⟨x, H1, I1, r1, q1⟩ => ?_)
  obtain ⟨c, rfl, q1⟩ := q1
  cases r1
  exact not_of (wpAny_truthy_bool ⟨.bl (!c), H1, I1, rfl, q1⟩)

noncomputable def tIf (t : TT) (ta tb : TE) : TE := fun σ H Q => t σ H fun c H1 => if c = true then ta σ H1 Q else tb σ H1 Q
theorem pe_ifExp {c : Expr} (hc : PT X c tA) (ha : PE X a ta) (hb : PE X b tb) : PE X (.IfExp c a b pos) (tIf tA ta tb) := by
  (try refine ⟨?_⟩); intro pins s σ H Q I h
  refine wpAny_IfExp (thn (hc pins s σ H _ I h) fun d s1 ⟨H1, I1, q1⟩ => ?_)
  cases d with
  | true => exact ha pins s1 σ H1 Q I1 q1
  | false => exact hb pins s1 σ H1 Q I1 q1
end
end L2

namespace L2
open PySem PySem.Spec PyProof.Rows


noncomputable def SqL (K : PySem.W.Frag) (H : Hp) (a : Addr) (xs : List V) : Prop :=
  Rd H a (.lst xs) ∨
    ∃ (o : Obj) (its : Array Value) (n : Nat), K.lookup a = some o ∧ o.cls = .type "list" ∧ o.dict = none ∧ o.data = .seq its n ∧ its.size ≤ sizeLine ∧ Vals xs its.toList
noncomputable def SqT (K : PySem.W.Frag) (H : Hp) (a : Addr) (xs : List V) : Prop :=
  Rd H a (.tup xs) ∨
    ∃ (o : Obj) (its : Array Value) (n : Nat), K.lookup a = some o ∧ o.cls = .type "tuple" ∧ o.data = .seq its n ∧ its.size ≤ sizeLine ∧ Vals xs its.toList
noncomputable def absV : Value → Option V
  | .none => some .non
  | .bool b => some (.bl b)
  | .int i _ => some (.int i)
  | .str x _ => some (.str x)
  | .bytes b _ => some (.byt b)
  | .float b _ => some (.flt b)
  | .ref a => some (.ref a)
  | .type n => some (.ty n)
  | _ => none
theorem RelV.abs {x : V} {u : Value} (r : RelV x u) : absV u = some x := by
  cases x with
  | non => cases r; rfl
  | bl _ => cases r; rfl
  | int _ => obtain ⟨t, rfl⟩ := r; rfl
  | str _ => obtain ⟨t, rfl⟩ := r; rfl
  | byt _ => obtain ⟨t, rfl⟩ := r; rfl
  | flt _ => obtain ⟨t, rfl⟩ := r; rfl
  | ref _ => cases r; rfl
  | ty _ => cases r; rfl
theorem RelV.inj {x y : V} {u : Value} (r : RelV x u) (q : RelV y u) : x = y := Option.some.inj (r.abs.symm.trans q.abs)
theorem Vals.inj : ∀ {xs ys : List V} {us : List Value}, Vals xs us → Vals ys us → xs = ys
  | _, _, _, .nil, .nil => rfl
  | _, _, _, .cons r t, .cons r' t' => by rw [r.inj r', Vals.inj t t']
section
variable {X : Cx} {pins : List (Addr × Obj)} {σ : St} {H : Hp} {s : Shared} {a : Addr} {xs ys : List V}
theorem SqL.of {K : PySem.W.Frag} (h : H a = some (.lst xs)) : SqL K H a xs := .inl (.inl h)
theorem SqT.of {K : PySem.W.Frag} (h : H a = some (.tup xs)) : SqT K H a xs := .inl (.inl h)
theorem Inv.list (I : Inv X pins σ H s) (h : SqL X.K H a xs) : ∃ its : List Value, Vals xs its ∧ PlainL s.heap a its.toArray ∧ xs.length ≤ sizeLine := by
  rcases h with h | ⟨o, its, n, hk, hc, hd, hs, hz, r⟩
  · obtain ⟨z, its, n, r, e⟩ := h.ok I.hok
    exact ⟨its, r, ⟨_, n, e, rfl, rfl, rfl⟩, z⟩
  · refine ⟨its.toList, r, ⟨o, n, I.kIn a o hk, hc, hd, by simpa using hs⟩, ?_⟩
    have e := r.length
    simp only [Array.length_toList] at e
    omega
theorem Inv.tuple (I : Inv X pins σ H s) (h : SqT X.K H a xs) : ∃ its : List Value, Vals xs its ∧ IsTup s.heap a its.toArray ∧ xs.length ≤ sizeLine := by
  rcases h with h | ⟨o, its, n, hk, hc, hs, hz, r⟩
  · obtain ⟨z, its, r, p⟩ := h.ok I.hok
    exact ⟨its, r, p, z⟩
  · refine ⟨its.toList, r, ⟨o, I.kIn a o hk, hc, n, by simpa using hs⟩, ?_⟩
    have e := r.length
    simp only [Array.length_toList] at e
    omega
theorem Inv.list_inj (I : Inv X pins σ H s) (h : SqL X.K H a xs) (h' : SqL X.K H a ys) : xs = ys := by
  obtain ⟨its, r, ⟨o, n, e, _, _, d⟩, _⟩ := I.list h
  obtain ⟨its', r', ⟨o', n', e', _, _, d'⟩, _⟩ := I.list h'
  rw [e] at e'; cases e'
  rw [d] at d'
  injection d' with d1 _
  have : its = its' := by simpa using congrArg Array.toList d1
  subst this
  exact r.inj r'
end


noncomputable abbrev Cx.wish (X : Cx) (E : Value → Shared → Prop) : Cx := { X with xe := E }

noncomputable abbrev Cx.nox (X : Cx) : Cx := X.wish fun _ _ => False
theorem Cx.Ok.wish {X : Cx} (ok : X.Ok) (E : Value → Shared → Prop) : (X.wish E).Ok :=
  ⟨ok.mod, ok.kind, ok.glob, ok.blt, ok.above, ok.inj, ok.has, ok.cab, ok.hd, ok.frames, ok.stk, ok.exf, ok.bs, ok.bsz, ok.noex, ok.exfs, ok.funs, ok.frf⟩
theorem Cx.Ok.unwish {X : Cx} {E : Value → Shared → Prop} (ok : (X.wish E).Ok) : X.Ok :=
  ⟨ok.mod, ok.kind, ok.glob, ok.blt, ok.above, ok.inj, ok.has, ok.cab, ok.hd, ok.frames, ok.stk, ok.exf, ok.bs, ok.bsz, ok.noex, ok.exfs, ok.funs, ok.frf⟩
section
variable {X : Cx} {pins : List (Addr × Obj)} {σ : St} {H : Hp} {s : Shared} {E : Value → Shared → Prop}
theorem Inv.wish (I : Inv X pins σ H s) (E : Value → Shared → Prop) : Inv (X.wish E) pins σ H s := ⟨I.ok.wish E, I.os, I.bare, I.base, I.loc, I.cell, I.free, I.freeC, I.pin, I.hok, I.len⟩
theorem Inv.unwish (I : Inv (X.wish E) pins σ H s) : Inv X pins σ H s := ⟨I.ok.unwish, I.os, I.bare, I.base, I.loc, I.cell, I.free, I.freeC, I.pin, I.hok, I.len⟩
theorem SP.unwish {D : Ends} {f : Flow} {s' : Shared} (h : SP (X.wish E) pins D f s') : SP X pins D f s' := by
  cases f with
  | next => obtain ⟨σ', H', I, q⟩ := h; exact ⟨σ', H', I.unwish, q⟩
  | brk => obtain ⟨σ', H', I, q⟩ := h; exact ⟨σ', H', I.unwish, q⟩
  | cont => obtain ⟨σ', H', I, q⟩ := h; exact ⟨σ', H', I.unwish, q⟩
  | ret u => obtain ⟨v, σ', H', I, r, q⟩ := h; exact ⟨v, σ', H', I.unwish, r, q⟩
theorem PSs.nox {st : List Stmt} {t : TS} (h : PSs X.nox st t) : PSs X st t := ⟨fun pins s σ H D I hw =>
  wpAny_mono (h pins s σ H D (I.wish _) hw) (fun _ _ q => q.unwish) fun _ _ z => False.elim z⟩
end


section
variable {X : Cx} {st : Stmt} {rest : List Stmt} {t u : TS} {e : Expr} {te : TE} {pos : Pos}
noncomputable def tNext : TS := fun D σ H => D.nx σ H
noncomputable def tSeq (t u : TS) : TS := fun D σ H => t { D with nx := u D } σ H
theorem pss_nil : PSs X [] tNext := ⟨fun _ _ σ H _ I h => wpAny_execs_nil ⟨σ, H, I, h⟩⟩
theorem pss_cons (h1 : PS X st t) (h2 : PSs X rest u) : PSs X (st :: rest) (tSeq t u) := by
  (try refine ⟨?_⟩); intro pins s σ H D I h
  refine wpAny_execs_cons (thn (h1 pins s σ H { D with nx := u D } I h) fun f s1 q => ?_)
  cases f with
  | next =>
    obtain ⟨σ', H', I', q⟩ := q
    exact h2 pins s1 σ' H' D I' q
  | ret v => exact q
  | brk => exact q
  | cont => exact q
theorem pss_one (h1 : PS X st t) : PSs X [st] t := by
  (try refine ⟨?_⟩); intro pins s σ H D I h
  refine wpAny_execs_cons (thn (h1 pins s σ H D I h) fun f s1 q => ?_)
  cases f with
  | next => exact wpAny_execs_nil q
  | ret v => exact q
  | brk => exact q
  | cont => exact q

theorem Inv.quiet {pins : List (Addr × Obj)} {σ : St} {H : Hp} {s : Shared} (I : Inv X pins σ H s) : interactive X.env = false := by simp [interactive, I.ok.kind]

noncomputable def tDrop (te : TE) : TS := fun D σ H => te σ H fun _ H1 => D.nx σ H1
theorem ps_expr (he : PE X e te) (hs : swapsWith e none pos.line X.env = pure false := by rfl) : PS X (.Expr e pos) (tDrop te) := by
  (try refine ⟨?_⟩); intro pins s σ H D I h
  exact wpAny_Expr_any (thn (he pins s σ H _ I h) fun v s1 ⟨x, H1, I1, r1, q1⟩ => ⟨σ, H1, I1, q1⟩) I.quiet hs
noncomputable def tRet (te : TE) : TS := fun D σ H => te σ H D.rt
theorem ps_ret (he : PE X e te) : PS X (.Return (some e) pos) (tRet te) := by
  (try refine ⟨?_⟩); intro pins s σ H D I h
  exact wpAny_Return_some (thn (he pins s σ H _ I h) fun v s1 ⟨x, H1, I1, r1, q1⟩ => ⟨x, σ, H1, I1, r1, q1⟩)
noncomputable def tIfS (c : TT) (t u : TS) : TS := fun D σ H => c σ H fun b H1 => if b = true then t D σ H1 else u D σ H1
theorem ps_if {c : Expr} {a b : List Stmt} {tc : TT} (hc : PT X c tc) (ha : PSs X a t) (hb : PSs X b u) : PS X (.If c a b pos) (tIfS tc t u) := by
  (try refine ⟨?_⟩); intro pins s σ H D I h
  refine wpAny_If (thn (hc pins s σ H _ I h) fun d s1 ⟨H1, I1, q1⟩ => ?_)
  cases d with
  | true => exact ha pins s1 σ H1 D I1 q1
  | false => exact hb pins s1 σ H1 D I1 q1

noncomputable def tNever : TS := fun _ _ _ => False
theorem ps_never : PS X st tNever := ⟨fun _ _ _ _ _ _ h => h.elim⟩
end


noncomputable abbrev TG := V → St → Hp → (St → Hp → Prop) → Prop
noncomputable abbrev TGs := List V → St → Hp → (St → Hp → Prop) → Prop
structure PG (X : Cx) (target : Expr) (t : TG) : Prop where
  go : ∀ (pins : List (Addr × Obj)) (s : Shared) (σ : St) (H : Hp) (v : V) (u : Value) (Q : St → Hp → Prop), Inv X pins σ H s → RelV v u → t v σ H Q →
    wpAny (model X.prog X.w) X.A (assign target X.env u) (fun _ s' => ∃ σ' H', Inv X pins σ' H' s' ∧ Q σ' H') X.xe s
noncomputable instance {X : Cx} {target : Expr} {t : TG} : CoeFun (PG X target t) fun _ => ∀ (pins : List (Addr × Obj)) (s : Shared) (σ : St) (H : Hp) (v : V) (u : Value) (Q : St → Hp → Prop), Inv X pins σ H s → RelV v u → t v σ H Q →
    wpAny (model X.prog X.w) X.A (assign target X.env u) (fun _ s' => ∃ σ' H', Inv X pins σ' H' s' ∧ Q σ' H') X.xe s := ⟨fun h => h.go⟩

structure PGs (X : Cx) (ts : List Expr) (t : TGs) : Prop where
  go : ∀ (pins : List (Addr × Obj)) (s : Shared) (σ : St) (H : Hp) (vs : List V) (us : List Value) (Q : St → Hp → Prop), Inv X pins σ H s → Vals vs us → t vs σ H Q →
    wpAny (model X.prog X.w) X.A (assignInOrder ((assignEach ts X.env).map (·.2)) us) (fun _ s' => ∃ σ' H', Inv X pins σ' H' s' ∧ Q σ' H') X.xe s
noncomputable instance {X : Cx} {ts : List Expr} {t : TGs} : CoeFun (PGs X ts t) fun _ => ∀ (pins : List (Addr × Obj)) (s : Shared) (σ : St) (H : Hp) (vs : List V) (us : List Value) (Q : St → Hp → Prop), Inv X pins σ H s → Vals vs us → t vs σ H Q →
    wpAny (model X.prog X.w) X.A (assignInOrder ((assignEach ts X.env).map (·.2)) us) (fun _ s' => ∃ σ' H', Inv X pins σ' H' s' ∧ Q σ' H') X.xe s := ⟨fun h => h.go⟩

noncomputable abbrev TSet := V → V → V → Hp → (Hp → Prop) → Prop
noncomputable def PSet (X : Cx) (t : TSet) : Prop :=
  ∀ (pins : List (Addr × Obj)) (s : Shared) (σ : St) (H : Hp) (o i v : V) (ov iv u : Value) (Q : Hp → Prop), Inv X pins σ H s → RelV o ov → RelV i iv → RelV v u → t o i v H Q →
    wpAny (model X.prog X.w) X.A (setItem ov iv u) (fun _ s' => ∃ H', Inv X pins σ H' s' ∧ Q H') X.xe s
section
variable {X : Cx} {pos : Pos}
noncomputable def gName (i : Nat) : TG := fun v σ H Q => Q (σ.set i (some v)) H
theorem pg_name {i : Nat} {x : Str} (hN : X.N.Nodup) (hi : X.N[i]? = some x) (hx : Loc X.env.scope x) (hf : X.fn x = true ∨ X.env.scope.names.lookup x = some .local := by first | exact .inl rfl | exact .inr rfl | assumption) : PG X (.Name x pos) (gName i) := by
  (try refine ⟨?_⟩); intro pins s σ H v u Q I r h
  exact wpAny_assign_Name (store_ok I hN hi hx r (fun s' I' => ⟨_, H, I', h⟩) hf)
noncomputable def gNil : TGs := fun vs σ H Q => vs = [] ∧ Q σ H
noncomputable def gCons (t : TG) (u : TGs) : TGs := fun vs σ H Q => ∃ v r, vs = v :: r ∧ t v σ H fun σ' H' => u r σ' H' Q
theorem pgs_nil : PGs X [] gNil := by
  (try refine ⟨?_⟩); intro pins s σ H vs us Q I r h
  obtain ⟨e, h⟩ := h
  subst e
  cases r
  exact assignInOrder_nil ⟨σ, H, I, h⟩
theorem pgs_cons {e : Expr} {es : List Expr} {t : TG} {u : TGs} (h1 : PG X e t) (h2 : PGs X es u)
    (hs : (assignEach (e :: es) X.env).map (·.2) = assign e X.env :: (assignEach es X.env).map (·.2) := by rfl) : PGs X (e :: es) (gCons t u) := by
  (try refine ⟨?_⟩); intro pins s σ H vs us Q I r h
  obtain ⟨v, vr, e1, h⟩ := h
  subst e1
  cases r with
  | cons r rr =>
    rw [hs]
    refine assignInOrder_cons (thn (h1 pins s σ H _ _ _ I r h) fun _ s1 ⟨σ1, H1, I1, q1⟩ => ?_)
    exact h2 pins s1 σ1 H1 _ _ Q I1 rr q1

noncomputable def gTup (K : PySem.W.Frag) (n : Nat) (t : TGs) : TG := fun v σ H Q => ∃ a xs, v = .ref a ∧ SqT K H a xs ∧ xs.length = n ∧ t xs σ H Q
theorem pg_tup {es : List Expr} {k : Nat} {t : TGs} {n : Nat} (hc : X.calm = true) (h : PGs X es t)
    (hn : (assignEach es X.env).length = n := by rfl) (hst : (assignEach es X.env).findIdx? (·.1) = none := by rfl) : PG X (.Tuple es k pos) (gTup X.K n t) := by
  (try refine ⟨?_⟩); intro pins s σ H v u Q I r hw
  obtain ⟨a, xs, e1, hq, hl, hw⟩ := hw
  subst e1
  cases r
  obtain ⟨its, rv, ht, hz⟩ := I.tuple hq
  refine assign_Tuple_tuple (I.ok.hd hc) ht (by simp [hn, ← hl, rv.length]) hst fun h' hx => ?_
  have I1 : Inv X pins σ H { s with heap := h' } := I.kept (t' := s.toks) fun b o e => hx b o (Nat.ne_of_lt (Heap.lt_size e)) e
  exact h pins _ σ H xs _ Q I1 (by simpa using rv) hw

noncomputable def gSub (to ti : TE) (t : TSet) : TG := fun v σ H Q => to σ H fun o H1 => ti σ H1 fun i H2 => t o i v H2 fun H3 => Q σ H3
theorem pg_sub {o i : Expr} {to ti : TE} {t : TSet} (ho : PE X o to) (hi : PE X i ti) (hs : PSet X t)
    (ha : ∀ v, assign (.Subscript o i pos) X.env v = (do
      let ov ← holding [v] (eval o X.env)
      let iv ← holding [v, ov] (eval i X.env)
      standAt pos
      holding [v, ov, iv] (setItem ov iv v)
      release [v, ov, iv] []) := by intro _; rfl) : PG X (.Subscript o i pos) (gSub to ti t) := by
  (try refine ⟨?_⟩); intro pins s σ H v u Q I r h
  rw [ha]
  refine wpAny_bind (wpAny_holding (thn (ho pins s σ H _ I h) fun ov s1 ⟨x, H1, I1, r1, q1⟩ => ?_))
  refine wpAny_bind (wpAny_holding (thn (hi pins s1 σ H1 _ I1 q1) fun iv s2 ⟨y, H2, I2, r2, q2⟩ => ?_))
  refine wpAny_bind (wpAny_standAt (wpAny_bind (wpAny_holding (thn (hs pins s2 σ H2 x y v ov iv u _ I2 r1 r2 r q2) fun _ s3 ⟨H3, I3, q3⟩ => ?_))))
  exact wpAny_release ⟨σ, H3, I3, q3⟩

noncomputable def tAsg (te : TE) (g : TG) : TS := fun D σ H => te σ H fun x H1 => g x σ H1 D.nx
theorem ps_asg {tg e : Expr} {te : TE} {g : TG} (he : PE X e te) (hg : PG X tg g) (hs : swapsWithSole [tg] e pos.line X.env = pure false := by rfl) (hw : swappedStores [tg] e X.env = pure none := by rfl)
    (h1 : (assignEach [tg] X.env).map (·.2) = [assign tg X.env] := by rfl) : PS X (.Assign [tg] e pos) (tAsg te g) := by
  (try refine ⟨?_⟩); intro pins s σ H D I h
  refine wpAny_Assign_stores (thn (he pins s σ H _ I h) fun v s1 ⟨x, H1, I1, r1, q1⟩ => ?_) hs hw
  rw [h1]
  exact thn (hg pins s1 σ H1 x v _ I1 r1 q1) fun _ s2 q => q

theorem ps_set {i : Nat} {x : Str} {e : Expr} {te : TE} {pos' : Pos} (hN : X.N.Nodup) (hi : X.N[i]? = some x) (hx : Loc X.env.scope x) (he : PE X e te) (hs : swapsWith e (some (.Name x pos')) pos.line X.env = pure false := by rfl) (hf : X.fn x = true ∨ X.env.scope.names.lookup x = some .local := by first | exact .inl rfl | exact .inr rfl | assumption) :
    PS X (.Assign [.Name x pos'] e pos) (tAsg te (gName i)) := by
  (try refine ⟨?_⟩); intro pins s σ H D I h
  refine wpAny_Assign_Name (thn (he pins s σ H _ I h) fun v s1 ⟨y, H1, I1, r1, q1⟩ => ?_) hs
  exact store_ok I1 hN hi hx r1 (fun s2 I2 => ⟨_, H1, I2, q1⟩) hf

noncomputable def tPar (i j : Nat) (ta : TA) : TS := fun D σ H => ta σ H fun vs H1 => ∃ v w, vs = [v, w] ∧ D.nx ((σ.set i (some v)).set j (some w)) H1
theorem ps_par {i j : Nat} {x y : Str} {a b : Expr} {ta : TA} {px py pt : Pos} {kt k2 pt2} (hc : X.calm = true) (hN : X.N.Nodup) (hi : X.N[i]? = some x) (hj : X.N[j]? = some y) (hij : i ≠ j)
    (hx : X.env.scope.names.lookup x = some .local) (hy : X.env.scope.names.lookup y = some .local) (ha : PA X [a, b] ta)
    (hw : swappedStores [.Tuple [.Name x px, .Name y py] kt pt] (.Tuple [a, b] k2 pt2) X.env = pure (some [x, y]))
    (hs : swapsWithSole [.Tuple [.Name x px, .Name y py] kt pt] (.Tuple [a, b] k2 pt2) pos.line X.env = pure false := by rfl) :
    PS X (.Assign [.Tuple [.Name x px, .Name y py] kt pt] (.Tuple [a, b] k2 pt2) pos) (tPar i j ta) := by
  (try refine ⟨?_⟩); intro pins s σ H D I h
  rw [exec_Assign_arm]
  refine wpAny_bind (wpAny_standAt ?_)
  rw [hs]
  refine wpAny_bind (wpAny_pure ?_)
  rw [if_neg (by decide)]
  refine wpAny_bind (Tuple_ (thn (ha _ pins s σ H _ I h) fun us s1 ⟨vs, H1, I1, r1, q1⟩ => ?_))
  obtain ⟨v, w, e1, q1⟩ := q1
  subst e1
  obtain ⟨u1, u2, rfl, rv, rw'⟩ : ∃ u1 u2, us = [u1, u2] ∧ RelV v u1 ∧ RelV w u2 := by
    cases r1 with
    | cons p q =>
      cases q with
      | cons p' q' =>
        cases q'
        exact ⟨_, _, rfl, p, p'⟩
  refine wpAny_newObj_type ?_ (by show 2 ≤ sizeLine; decide)
  have I2 : Inv X pins σ H1 { s1 with heap := s1.heap.push { cls := .type "tuple", data := .seq [u1, u2].toArray } } := I1.kept (t' := s1.toks) fun b o e => Heap.get?_push_of_some _ e
  rw [hw]
  refine wpAny_bind (wpAny_pure ?_)
  show wpAny (model X.prog X.w) X.A (do rule "assign.swapped-stores"; let items ← unpackItems (.ref s1.heap.objs.size) 2 none; assignInOrder [fun v => bindName X.env y v, fun v => bindName X.env x v] items.reverse; pure Flow.next) _ _ _
  refine wpAny_bind (wpAny_rule (wpAny_bind (unpackItems_tuple (items := #[u1, u2]) (I.ok.hd hc) (IsTup.new s1.heap _) fun h' hx' => ?_)))
  have I3 := I2.kept (h' := h') (t' := s1.toks) fun b o e => hx' b o (Nat.ne_of_lt (Heap.lt_size e)) e
  show wpAny _ _ (assignInOrder [fun v => bindName X.env y v, fun v => bindName X.env x v] [u2, u1] >>= fun _ => pure Flow.next) _ _ _
  refine wpAny_bind (assignInOrder_cons (wpAny_bindName (store_ok I3 hN hj (.inl hy) rw' (fun s2 I4 => ?_) (.inr hy))))
  refine assignInOrder_cons (wpAny_bindName (store_ok I4 hN hi (.inl hx) rv (fun s3 I5 => assignInOrder_nil (wpAny_pure ?_)) (.inr hx)))
  rw [List.set_comm _ _ (Ne.symm hij)] at I5
  exact ⟨_, H1, I5, q1⟩
end


section
variable {X : Cx} {pos : Pos}

noncomputable def tWhile (c : TT) (tb : TS) : TS := fun D σ H => ∃ W : Nat → St → Hp → Prop, (∃ m, W m σ H) ∧ ∀ m σ H, W m σ H →
  c σ H fun b H1 => if b = true then ∃ N : St → Hp → Prop, (∀ σ' H', N σ' H' → ∃ m', m' < m ∧ W m' σ' H') ∧ tb { D with nx := N, ct := N, bk := D.nx } σ H1 else D.nx σ H1
theorem ps_while {c : Expr} {body : List Stmt} {tc : TT} {tb : TS} (hp : PassesOwn (model X.prog X.w) X.A X.env X.xe) (hc : PT X c tc) (hb : PSs X body tb) : PS X (.While c body [] pos) (tWhile tc tb) := by
  (try refine ⟨?_⟩); intro pins s σ H D I h
  obtain ⟨W, ⟨m0, w0⟩, turn⟩ := h
  refine wpAny_While (codeAny_whileLoop (fun n s' => ∃ σ' H', Inv X pins σ' H' s' ∧ W n σ' H') ?_ m0 ⟨σ, H, I, w0⟩)
  rintro n s1 ⟨σ1, H1, I1, w1⟩
  refine wpAny_passesOwn hp (thn (hc pins s1 σ1 H1 _ I1 (turn n σ1 H1 w1)) fun b s2 ⟨H2, I2, q2⟩ => ?_)
  cases b with
  | true =>
    obtain ⟨N, hN, q2⟩ := q2
    rw [if_pos rfl]
    refine wpAny_passesOwn hp (thn (hb pins s2 σ1 H2 _ I2 q2) fun f s3 q3 => ?_)
    cases f with
    | next =>
      obtain ⟨σ3, H3, I3, n3⟩ := q3
      obtain ⟨m', hm, w3⟩ := hN σ3 H3 n3
      exact ⟨m', hm, σ3, H3, I3, w3⟩
    | cont =>
      obtain ⟨σ3, H3, I3, n3⟩ := q3
      obtain ⟨m', hm, w3⟩ := hN σ3 H3 n3
      exact ⟨m', hm, σ3, H3, I3, w3⟩
    | brk => exact q3
    | ret v => exact q3
  | false =>
    rw [if_neg Bool.false_ne_true]
    exact wpAny_execs_nil ⟨σ1, H2, I2, q2⟩
end



structure It where
  go : Nat → Hp → Prop
  yld : Nat → Hp → V → Hp → Prop
  stop : Nat → Hp → Prop

noncomputable def FpOk (X : Cx) (pins : List (Addr × Obj)) (H : Hp) (b : Addr) : Prop :=
  H b = none ∧ b ≠ X.env.locals ∧ b ∉ X.fs ∧ (b ∈ X.ex ∨ X.s₀.heap.objs.size ≤ b) ∧ (∀ x c, X.env.cells.lookup x = some c → c ≠ b) ∧ ∀ p ∈ X.pn ++ pins, p.1 ≠ b
theorem Inv.fpOk {X : Cx} {pins : List (Addr × Obj)} {σ : St} {H H' : Hp} {s : Shared} {b : Addr} (I : Inv X pins σ H s) (hb : s.heap.objs.size ≤ b) (hn : H' b = none) : FpOk X pins H' b := by
  refine ⟨hn, Nat.ne_of_gt (Nat.lt_of_lt_of_le I.lt hb), I.nofs hb, .inr (Nat.le_trans I.sz hb), fun x c e z => ?_, fun p hp z => ?_⟩
  · obtain ⟨v, q⟩ := I.cell x c e
    exact absurd (Nat.lt_of_lt_of_le q.lt (by rw [z]; exact hb)) (Nat.lt_irrefl _)
  · exact absurd (Nat.lt_of_lt_of_le (Heap.lt_size (I.pin p hp).1) (by rw [z]; exact hb)) (Nat.lt_irrefl _)
structure Turn (P : Program) (w : World) (K : PySem.W.Frag) (tg : Expr) (J : It) (fp : List Addr) (it : Addr) (tn : Nat → Heap → Prop) : Prop where
  mem : it ∈ fp
  obj : ∀ i h, tn i h → ∀ b ∈ fp, ∃ o, h.get? b = some o ∧ ∀ v, o.data ≠ .cell v
  keep : ∀ i h h', tn i h → (∀ b ∈ fp, ∀ o, h.get? b = some o → h'.get? b = some o) → tn i h'
  item : ∀ (X : Cx), X.prog = P → X.w = w → X.K = K → X.calm = true → ∀ (i : Nat) (pins : List (Addr × Obj)) (s : Shared) (σ : St) (H : Hp) (E : Value → Shared → Prop), Inv X pins σ H s → (∀ b ∈ fp, FpOk X pins H b) → tn i s.heap → J.go i H →
    wpAny (model P w) X.A (pyNext (.ref it)) (fun r s1 => ∃ u, r = some u ∧
      wpAny (model P w) X.A (letOwnedTupleGo tg (.ref it) u) (fun _ s2 => ∃ x H', Inv X pins σ H' s2 ∧ RelV x u ∧ J.yld i H x H' ∧ tn (i + 1) s2.heap ∧ ∀ b ∈ fp, H' b = none) E s1) E s
  done : ∀ (X : Cx), X.prog = P → X.w = w → X.K = K → X.calm = true → ∀ (i : Nat) (pins : List (Addr × Obj)) (s : Shared) (σ : St) (H : Hp) (E : Value → Shared → Prop), Inv X pins σ H s → (∀ b ∈ fp, FpOk X pins H b) → tn i s.heap → J.stop i H →
    wpAny (model P w) X.A (pyNext (.ref it)) (fun r s1 => r = none ∧ Inv X pins σ H s1) E s
  self : ∀ (A : Around) (i : Nat) (s : Shared) (Q : Value → Shared → Prop) (E : Value → Shared → Prop), tn i s.heap → Q (.ref it) s → wpAny (model P w) A (pyIter (.ref it)) Q E s
noncomputable abbrev TI := St → Hp → (It → Hp → Prop) → Prop

noncomputable def PIE (X : Cx) (pins : List (Addr × Obj)) (σ : St) (tg : Expr) (R : It → Hp → Prop) (itv : Value) (s2 : Shared) : Prop :=
  ∃ (it : Addr) (fp : List Addr) (tn : Nat → Heap → Prop) (J : It) (H' : Hp), itv = .ref it ∧ Inv X pins σ H' s2 ∧ Turn X.prog X.w X.K tg J fp it tn ∧ tn 0 s2.heap ∧ (∀ b ∈ fp, FpOk X pins H' b) ∧ R J H'
structure PI (X : Cx) (tg iter : Expr) (wi : TI) : Prop where
  go : ∀ (pins : List (Addr × Obj)) (s : Shared) (σ : St) (H : Hp) (R : It → Hp → Prop), Inv X pins σ H s → wi σ H R →
    wpAny (model X.prog X.w) X.A (eval iter X.env) (fun v s1 => wpAny (model X.prog X.w) X.A (pyIter v) (PIE X pins σ tg R) X.xe s1) X.xe s
noncomputable instance {X : Cx} {tg iter : Expr} {wi : TI} : CoeFun (PI X tg iter wi) fun _ => ∀ (pins : List (Addr × Obj)) (s : Shared) (σ : St) (H : Hp) (R : It → Hp → Prop), Inv X pins σ H s → wi σ H R →
    wpAny (model X.prog X.w) X.A (eval iter X.env) (fun v s1 => wpAny (model X.prog X.w) X.A (pyIter v) (PIE X pins σ tg R) X.xe s1) X.xe s := ⟨fun h => h.go⟩


theorem go_of {M : Model} {A : Around} {E : Value → Shared → Prop} {s : Shared} {tg : Expr} {it : Addr} {u : Value} {o : Obj} {n : String} {vs : Array Value} {Q : Unit → Shared → Prop} (ho : s.heap.get? it = some o) (hc : o.cls = .type n) (hd : o.data = .fields vs)
    (hn : ["enumerate", "zip", "dict_itemiterator", "dict_reverseitemiterator", "odict_iterator", "itertools.zip_longest", "itertools.pairwise"].contains n = false) (hQ : Q () s) : wpAny M A (letOwnedTupleGo tg (.ref it) u) Q E s := by
  unfold letOwnedTupleGo
  cases tg <;> first
    | exact wpAny_pure hQ
    | (cases u <;> first
        | exact wpAny_pure hQ
        | (refine wpAny_bind (wpAny_load ho ?_)
           rw [hc, hd]
           show wpAny M A (if (["enumerate", "zip", "dict_itemiterator", "dict_reverseitemiterator", "odict_iterator", "itertools.zip_longest", "itertools.pairwise"].contains n && vs[0]? == some (rawInt _)) = true then _ else _) Q E s
           rw [if_neg (by intro h; rw [hn, Bool.false_and] at h; cases h)]
           exact wpAny_pure hQ))


noncomputable def Itl (K : PySem.W.Frag) (a : Addr) : It :=
  ⟨fun i H => ∃ xs x, SqL K H a xs ∧ xs[i]? = some x, fun i H x H' => H' = H ∧ ∀ xs, SqL K H a xs → xs[i]? = some x, fun i H => ∃ xs, SqL K H a xs ∧ xs.length ≤ i⟩

noncomputable def Itr (lo : Int) (n : Nat) : It := ⟨fun i _ => i < n, fun i H x H' => H' = H ∧ x = .int (lo + i), fun i _ => n ≤ i⟩
theorem turn_list {P : Program} {w : World} {K : PySem.W.Frag} {tg : Expr} (a it : Addr) : Turn P w K tg (Itl K a) [it] it (fun i h => h.IsListIter it a i) where
  mem := by simp
  obj := fun i h st b hb => by
    have e : b = it := by simpa using hb
    subst e
    obtain ⟨o, e, c, d⟩ := st
    exact ⟨o, e, fun v z => by rw [d] at z; cases z⟩
  keep := fun i h h' st k => st.at fun o e => k it (by simp) o e
  item := by
    intro X hP hw hK hc i pins s σ H E I hf st hg
    subst hP hw hK
    obtain ⟨xs, x, hq, hx⟩ := hg
    obtain ⟨its, rv, p, hz⟩ := I.list hq
    obtain ⟨u, hu, ru⟩ := rv.get hx
    obtain ⟨f0, f1, f2, f3, f4, f5⟩ := hf it (by simp)
    refine wpAny_pyNext_list_item st p.isList (x := u) (by simpa using hu) fun h' st' sb => ?_
    have I1 : Inv X pins σ H { s with heap := h' } := I.turned (t' := s.toks) (fun b o hb e => (sb.2 b hb).trans e) f0 f1 f3 f4 f5
    obtain ⟨o, e, c, d⟩ := id st'
    exact ⟨u, rfl, go_of (s := { s with heap := h' }) e c d (by decide) ⟨x, H, I1, ru, ⟨rfl, fun ys hy => by rw [I.list_inj hy hq]; exact hx⟩, st', fun b hb => (hf b hb).1⟩⟩
  done := by
    intro X hP hw hK hc i pins s σ H E I hf st hg
    subst hP hw hK
    obtain ⟨xs, hq, hx⟩ := hg
    obtain ⟨its, rv, p, hz⟩ := I.list hq
    obtain ⟨f0, f1, f2, f3, f4, f5⟩ := hf it (by simp)
    have hl := rv.length
    exact wpAny_pyNext_list_end (I.ok.hd hc) st p.isList (by simp; omega) fun h' eb => ⟨rfl, I.turned (t' := s.toks) (fun b o hb e => eb b o hb e) f0 f1 f3 f4 f5⟩
  self := fun _ _ _ _ _ st h => wpAny_pyIter_listiter st h
theorem turn_range {P : Program} {w : World} {K : PySem.W.Frag} {tg : Expr} (it : Addr) (lo : Int) (n : Nat) : Turn P w K tg (Itr lo n) [it] it (fun i h => IsRangeIter h it (lo + (i : Nat) * 1) ((n : Int) - (i : Nat)) 1) where
  mem := by simp
  obj := fun i h st b hb => by
    have e : b = it := by simpa using hb
    subst e
    exact ⟨_, st, fun v z => by
      have z' : Data.fields _ = Data.cell v := z
      cases z'⟩
  keep := fun i h h' st k => k it (by simp) _ st
  item := by
    intro X hP hw hK hc i pins s σ H E I hf st hg
    subst hP hw hK
    obtain ⟨f0, f1, f2, f3, f4, f5⟩ := hf it (by simp)
    have W := Walks.range (prog := X.prog) (w := X.w) (I.ok.hd hc) it lo 1 n
    refine W.item i s _ _ hg st fun v h' tk hv st' kk => ?_
    obtain ⟨t, rfl⟩ := hv
    have I1 : Inv X pins σ H { s with heap := h', toks := tk } := I.turned (fun b o hb e => kk b o (by simpa using hb) e) f0 f1 f3 f4 f5
    refine ⟨_, rfl, go_of (s := { s with heap := h', toks := tk }) (n := "range_iterator") st' rfl rfl (by decide) ⟨.int (lo + i), H, I1, ⟨t, ?_⟩, ⟨rfl, rfl⟩, st', fun b hb => (hf b hb).1⟩⟩
    rw [Int.mul_one]
  done := by
    intro X hP hw hK hc i pins s σ H E I hf st hg
    subst hP hw hK
    obtain ⟨f0, f1, f2, f3, f4, f5⟩ := hf it (by simp)
    exact wpAny_pyNext_range_end (I.ok.hd hc) st (by have : n ≤ i := hg; omega) fun h' eb => ⟨rfl, I.turned (t' := s.toks) (fun b o hb e => eb b o hb e) f0 f1 f3 f4 f5⟩
  self := fun _ _ _ _ _ st h => wpAny_pyIter_rangeiter st h
end L2

namespace L2
open PySem PySem.Spec PyProof.Rows
section
variable {X : Cx} {tg : Expr}
noncomputable def iList (K : PySem.W.Frag) (tl : TE) : TI := fun σ H R => tl σ H fun x H1 => ∃ a, x = .ref a ∧ (∃ xs, SqL K H1 a xs) ∧ R (Itl K a) H1
theorem pi_list {l : Expr} {tl : TE} (hl : PE X l tl) : PI X tg l (iList X.K tl) := by
  (try refine ⟨?_⟩); intro pins s σ H R I h
  refine thn (hl pins s σ H _ I h) fun v s1 ⟨x, H1, I1, r1, q1⟩ => ?_
  obtain ⟨a, e, ⟨xs, hq⟩, q⟩ := q1
  subst e
  cases r1
  obtain ⟨its, rv, p, hz⟩ := I1.list hq
  refine wpAny_pyIter_list p.isList ?_
  refine ⟨s1.heap.objs.size, [s1.heap.objs.size], _, _, H1, rfl, I1.kept (t' := s1.toks) fun b o e => Heap.get?_push_of_some _ e, turn_list a _, ⟨_, Heap.get?_push_size _ rfl, rfl, rfl⟩, fun b hb => ?_, q⟩
  have e : b = s1.heap.objs.size := by simpa using hb
  subst e
  exact I1.fpOk (Nat.le_refl _) (I1.hok.fresh (Nat.le_refl _))

theorem range_it {pins : List (Addr × Obj)} {σ : St} {H : Hp} {s : Shared} {R : It → Hp → Prop} {E : Value → Shared → Prop} {lo hi : Int} {t u v : Tok} {tk : Nat} (I : Inv X pins σ H s) (h1 : -(2 ^ 62) ≤ lo) (h2 : lo < 2 ^ 62) (h3 : -(2 ^ 62) ≤ hi) (h4 : hi < 2 ^ 62)
    (q : R (Itr lo (hi - lo).toNat) H) : wpAny (model X.prog X.w) X.A (pyIter (.ref s.heap.objs.size)) (PIE X pins σ tg R) E { s with heap := s.heap.push { cls := .type "range", data := .fields #[.int lo t, .int hi u, .int 1 v] }, toks := tk } := by
  refine wpAny_pyIter_range (IsRange.new ..) (small_one h1 h2 h3 h4) ?_
  have I1 : Inv X pins σ H { s with heap := s.heap.push { cls := .type "range", data := .fields #[.int lo t, .int hi u, .int 1 v] }, toks := tk } := I.kept fun b o e => Heap.get?_push_of_some _ e
  refine ⟨(s.heap.push { cls := .type "range", data := .fields #[.int lo t, .int hi u, .int 1 v] }).objs.size, [(s.heap.push { cls := .type "range", data := .fields #[.int lo t, .int hi u, .int 1 v] }).objs.size], _, _, H, rfl,
    I1.kept (t' := tk) fun b o e => Heap.get?_push_of_some _ e, turn_range _ lo (hi - lo).toNat, ?_, fun b hb => ?_, q⟩
  · have e1 : lo + ((0 : Nat) : Int) * 1 = lo := by simp
    have e2 : (((hi - lo).toNat : Nat) : Int) - ((0 : Nat) : Int) = Builtin.Range.rangeSize lo hi 1 := by rw [rangeSize_one]; split <;> omega
    show IsRangeIter _ _ (lo + ((0 : Nat) : Int) * 1) ((((hi - lo).toNat : Nat) : Int) - ((0 : Nat) : Int)) 1
    rw [e1, e2]
    exact Heap.get?_push_size _ rfl
  · have e : b = (s.heap.push { cls := .type "range", data := .fields #[.int lo t, .int hi u, .int 1 v] }).objs.size := by simpa using hb
    subst e
    exact I1.fpOk (Nat.le_refl _) (I1.hok.fresh (Nat.le_refl _))
noncomputable def iRng1 (ta : TA) : TI := fun σ H R => ta σ H fun vs H1 => ∃ j : Int, vs = [.int j] ∧ -(2 ^ 62) ≤ j ∧ j < 2 ^ 62 ∧ R (Itr 0 j.toNat) H1
noncomputable def iRng2 (ta : TA) : TI := fun σ H R => ta σ H fun vs H1 => ∃ i j : Int, vs = [.int i, .int j] ∧ (-(2 ^ 62) ≤ i ∧ i < 2 ^ 62 ∧ -(2 ^ 62) ≤ j ∧ j < 2 ^ 62) ∧ R (Itr i (j - i).toNat) H1
theorem pi_range1 {a : Expr} {ta : TA} {p pos : Pos} (hg : Gl X "range") (hm : X.mg "range" = none) (ha : PA X [a] ta) (hs : starEach [a] X.env = [(false, eval a X.env)] := by rfl) : PI X tg (.Call (.Name "range" p) [a] [] pos) (iRng1 ta) := by
  (try refine ⟨?_⟩); intro pins s σ H R I h
  refine Call_ (ld_blt I hg hm boot_range (PyProof.Rows.callWith_type1 (thn (ha pos pins s σ H _ I h) fun us s1 ⟨vs, H1, I1, r1, q1⟩ => ?_) hs rfl))
  obtain ⟨j, e, q1, q2, q⟩ := q1
  subst e
  cases r1 with
  | cons r rr =>
    cases rr
    obtain ⟨t, rfl⟩ := r
    exact call_range_1 (range_it I1 (by omega) (by omega) q1 q2 (by simpa using q))
theorem pi_range2 {a b : Expr} {ta : TA} {p pos : Pos} (hg : Gl X "range") (hm : X.mg "range" = none) (ha : PA X [a, b] ta) (hs : starEach [a, b] X.env = [(false, eval a X.env), (false, eval b X.env)] := by rfl) (hs2 : starEach [b] X.env = [(false, eval b X.env)] := by rfl) :
    PI X tg (.Call (.Name "range" p) [a, b] [] pos) (iRng2 ta) := by
  (try refine ⟨?_⟩); intro pins s σ H R I h
  refine Call_ (ld_blt I hg hm boot_range (PyProof.Rows.callWith_type1 (thn (ha pos pins s σ H _ I h) fun us s1 ⟨vs, H1, I1, r1, q1⟩ => ?_) (by rw [hs, hs2]) (by rw [hs2]; rfl)))
  obtain ⟨i, j, e, ⟨q1, q2, q3, q4⟩, q⟩ := q1
  subst e
  cases r1 with
  | cons r rr =>
    cases rr with
    | cons r' rr =>
      cases rr
      obtain ⟨t, rfl⟩ := r
      obtain ⟨t', rfl⟩ := r'
      exact call_range_2 (range_it I1 q1 q2 q3 q4 q)



noncomputable def tFor (wi : TI) (g : TG) (tb : TS) : TS := fun D σ H => wi σ H fun J H1 => ∃ W : Nat → Nat → St → Hp → Prop, (∃ m, W 0 m σ H1) ∧ ∀ i m σ H, W i m σ H →
  (J.stop i H ∧ D.nx σ H) ∨ (J.go i H ∧ ∃ N : St → Hp → Prop, (∀ σ' H', N σ' H' → ∃ m', m' < m ∧ W (i + 1) m' σ' H') ∧ ∀ x H', J.yld i H x H' → g x σ H' fun σ2 H2 => tb { D with nx := N, ct := N, bk := D.nx } σ2 H2)

noncomputable def pinsAt (fp : List Addr) (h : Heap) : List (Addr × Obj) := fp.filterMap fun b => (h.get? b).map fun o => (b, o)
theorem mem_pinsAt {fp : List Addr} {h : Heap} {b : Addr} {o : Obj} (hb : b ∈ fp) (e : h.get? b = some o) : (b, o) ∈ pinsAt fp h := List.mem_filterMap.mpr ⟨b, hb, by rw [e]; rfl⟩
theorem of_pinsAt {fp : List Addr} {h : Heap} {p : Addr × Obj} (hp : p ∈ pinsAt fp h) : p.1 ∈ fp ∧ h.get? p.1 = some p.2 := by
  obtain ⟨b, hb, e⟩ := List.mem_filterMap.mp hp
  cases q : h.get? b with
  | none => rw [q] at e; cases e
  | some o =>
    rw [q] at e
    have e' : (b, o) = p := Option.some.inj e
    subst e'
    exact ⟨hb, q⟩
theorem Inv.pinned {pins : List (Addr × Obj)} {σ : St} {H : Hp} {s : Shared} {fp : List Addr} (I : Inv X pins σ H s) (hf : ∀ b ∈ fp, FpOk X pins H b) (ho : ∀ b ∈ fp, ∃ o, s.heap.get? b = some o ∧ ∀ v, o.data ≠ .cell v) : Inv X (pins ++ pinsAt fp s.heap) σ H s :=
  I.pins_of fun p hp => (List.mem_append.mp hp).elim (fun z => I.pin p (List.mem_append_right _ z)) fun z => by
    obtain ⟨hb, e⟩ := of_pinsAt z
    obtain ⟨f0, f1, f2, _⟩ := hf p.1 hb
    obtain ⟨o, e', d⟩ := ho p.1 hb
    rw [e] at e'; cases e'
    exact ⟨e, f0, f1, f2, d⟩
theorem Inv.unpinned {pins pl : List (Addr × Obj)} {σ : St} {H : Hp} {s : Shared} (I : Inv X (pins ++ pl) σ H s) : Inv X pins σ H s := I.pins_of fun p hp => I.pin p (List.mem_append_right _ (List.mem_append_left _ hp))
theorem ps_for {iter : Expr} {body : List Stmt} {wi : TI} {g : TG} {tb : TS} {pos : Pos} (hp : PassesOwn (model X.prog X.w) X.A X.env X.xe) (hc : X.calm = true) (hi : PI X tg iter wi) (hg : PG X tg g) (hb : PSs X body tb)
    (hs : ∀ x, foldedSetIterable iter X.env x = pure x := by intro _; rfl) : PS X (.For tg iter body [] pos) (tFor wi g tb) := by
  (try refine ⟨?_⟩); intro pins s σ H D I h
  refine wpAny_For (thn (hi pins s σ H _ I h) fun v s1 h1 => thn h1 fun itv s2 h2 => ?_) hs
  obtain ⟨it, fp, tn, J, H2, e, I2, T, st2, f2, W, ⟨m0, w0⟩, turn⟩ := h2
  subst e
  -- what stays true of the iterator's objects through the loop
  have stat : ∀ {H' : Hp}, (∀ b ∈ fp, H' b = none) → ∀ b ∈ fp, FpOk X pins H' b := fun hn b hb => ⟨hn b hb, (f2 b hb).2⟩
  refine codeAny_forLoop_any (fun n s' => ∃ i σ' H', Inv X pins σ' H' s' ∧ tn i s'.heap ∧ (∀ b ∈ fp, H' b = none) ∧ W i n σ' H') ?_ m0 ⟨0, σ, H2, I2, st2, fun b hb => (f2 b hb).1, w0⟩
  rintro n s3 ⟨i, σ3, H3, I3, st3, fr3, w3⟩
  rcases turn i n σ3 H3 w3 with ⟨stop, qn⟩ | ⟨go, N, hN, step⟩
  · refine wpAny_passesOwn hp (thn (T.done X rfl rfl rfl hc i pins s3 σ3 H3 X.xe I3 (stat fr3) st3 stop) fun r s4 ⟨hr, I4⟩ => ?_)
    subst hr
    exact wpAny_execs_nil ⟨σ3, H3, I4, qn⟩
  · refine wpAny_passesOwn hp (thn (T.item X rfl rfl rfl hc i pins s3 σ3 H3 X.xe I3 (stat fr3) st3 go) fun r s4 ⟨u, hr, h4⟩ => ?_)
    subst hr
    refine wpAny_passesOwn hp (thn h4 fun _ s5 ⟨x, H5, I5, r5, y5, st5, fr5⟩ => ?_)
    have I5' := I5.pinned (stat fr5) (T.obj _ _ st5)
    refine wpAny_passesOwn hp (thn (hg _ s5 σ3 H5 x u _ I5' r5 (step x H5 y5)) fun _ s6 ⟨σ6, H6, I6, q6⟩ => ?_)
    refine wpAny_passesOwn hp (thn (hb _ s6 σ6 H6 _ I6 q6) fun f s7 q7 => ?_)
    have again : ∀ {σ7 : St} {H7 : Hp}, Inv X (pins ++ pinsAt fp s5.heap) σ7 H7 s7 → N σ7 H7 → ∃ m, m < n ∧ ∃ i σ' H', Inv X pins σ' H' s7 ∧ tn i s7.heap ∧ (∀ b ∈ fp, H' b = none) ∧ W i m σ' H' := fun {σ7 H7} I7 n7 => by
      obtain ⟨m', hm, w7⟩ := hN σ7 H7 n7
      refine ⟨m', hm, i + 1, σ7, H7, I7.unpinned, T.keep _ _ _ st5 fun b hb o e => (I7.pin (b, o) (List.mem_append_right _ (List.mem_append_right _ (mem_pinsAt hb e)))).1, fun b hb => ?_, w7⟩
      obtain ⟨o, e, d⟩ := T.obj _ _ st5 b hb
      exact (I7.pin (b, o) (List.mem_append_right _ (List.mem_append_right _ (mem_pinsAt hb e)))).2.1
    cases f with
    | next => obtain ⟨σ7, H7, I7, n7⟩ := q7; exact again I7 n7
    | cont => obtain ⟨σ7, H7, I7, n7⟩ := q7; exact again I7 n7
    | brk => obtain ⟨σ7, H7, I7, q7⟩ := q7; exact ⟨σ7, H7, I7.unpinned, q7⟩
    | ret v => obtain ⟨x7, σ7, H7, I7, r7, q7⟩ := q7; exact ⟨x7, σ7, H7, I7.unpinned, r7, q7⟩
end


end L2

namespace L2
open PySem PySem.Spec PyProof.Rows

noncomputable abbrev R2 := V → V → Hp → VK → Prop

noncomputable def OpR (X : Cx) (f : Value → Value → Sem Value) (r : R2) : Prop :=
  ∀ (pins : List (Addr × Obj)) (s : Shared) (σ : St) (H : Hp) (x y : V) (v u : Value) (Q : VK), Inv X pins σ H s → RelV x v → RelV y u → r x y H Q →
    wpAny (model X.prog X.w) X.A (f v u) (EP X pins σ Q) X.xe s

noncomputable def UnR (X : Cx) (f : Value → Sem Value) (r : V → Hp → VK → Prop) : Prop :=
  ∀ (pins : List (Addr × Obj)) (s : Shared) (σ : St) (H : Hp) (x : V) (v : Value) (Q : VK), Inv X pins σ H s → RelV x v → r x H Q →
    wpAny (model X.prog X.w) X.A (f v) (EP X pins σ Q) X.xe s

noncomputable def CallR (X : Cx) (f : Value) (r : List V → Hp → VK → Prop) : Prop :=
  ∀ (pins : List (Addr × Obj)) (s : Shared) (σ : St) (H : Hp) (xs : List V) (us : List Value) (Q : VK), Inv X pins σ H s → Vals xs us → r xs H Q →
    wpAny (model X.prog X.w) X.A (call f us) (EP X pins σ Q) X.xe s
noncomputable def tOp (r : R2) (ta tb : TE) : TE := fun σ H Q => ta σ H fun x H1 => tb σ H1 fun y H2 => r x y H2 Q
noncomputable def tUn (r : V → Hp → VK → Prop) (ta : TE) : TE := fun σ H Q => ta σ H fun x H1 => r x H1 Q

noncomputable def rI (C : Int → Int → Prop) (g : Int → Int → V) : R2 := fun x y H Q => ∃ i j, x = .int i ∧ y = .int j ∧ C i j ∧ Q (g i j) H
noncomputable def rI0 (g : Int → Int → V) : R2 := fun x y H Q => ∃ i j, x = .int i ∧ y = .int j ∧ Q (g i j) H
noncomputable def rU (g : Int → V) : V → Hp → VK → Prop := fun x H Q => ∃ i, x = .int i ∧ Q (g i) H

section
variable {X : Cx} {a b c : Expr} {ta tb tc : TE} {pos : Pos}

theorem binT (ha : PE X a ta) (hb : PE X b tb) {pins : List (Addr × Obj)} {s : Shared} {σ : St} {H : Hp} {R : V → V → Hp → Prop} (I : Inv X pins σ H s)
    (h : ta σ H fun x H1 => tb σ H1 fun y H2 => R x y H2) {Q : Value → Shared → Prop} {f : Value → Value → Sem Value}
    (hf : ∀ v u s2 x y H2, Inv X pins σ H2 s2 → RelV x v → RelV y u → R x y H2 → wpAny (model X.prog X.w) X.A (f v u) Q X.xe s2) :
    wpAny (model X.prog X.w) X.A (eval a X.env) (fun v s₁ => wpAny (model X.prog X.w) X.A (eval b X.env) (fun u s₂ => wpAny (model X.prog X.w) X.A (f v u) Q X.xe s₂) X.xe s₁) X.xe s := by
  refine thn (ha pins s σ H _ I h) fun v s1 ⟨x, H1, I1, r1, q1⟩ => ?_
  refine thn (hb pins s1 σ H1 _ I1 q1) fun u s2 ⟨y, H2, I2, r2, q2⟩ => ?_
  exact hf v u s2 x y H2 I2 r1 r2 q2

theorem pe_op {op : Operator} {r : R2} (ho : OpR X (binaryOp op) r) (ha : PE X a ta) (hb : PE X b tb) : PE X (.BinOp a op b pos) (tOp r ta tb) := by
  (try refine ⟨?_⟩); intro pins s σ H Q I h
  exact wpAny_BinOp (binT ha hb I h fun v u s2 x y H2 I2 rx ry q => ho pins s2 σ H2 x y v u Q I2 rx ry q)
theorem pe_un {op : UnaryOp} {r : V → Hp → VK → Prop} (ho : UnR X (unaryOp op) r) (ha : PE X a ta) : PE X (.UnaryOp op a pos) (tUn r ta) := by
  (try refine ⟨?_⟩); intro pins s σ H Q I h
  exact UnaryOp_ (thn (ha pins s σ H _ I h) fun v s1 ⟨x, H1, I1, r1, q1⟩ => ho pins s1 σ H1 x v Q I1 r1 q1)

theorem opI {f : Value → Value → Sem Value} {C : Int → Int → Prop} {g : Int → Int → Int}
    (rule : ∀ (i j : Int) (t u : Tok) (s : Shared) (Q : Value → Shared → Prop) (E : Value → Shared → Prop), C i j → Q (.int (g i j) s.toks) { s with toks := s.toks + 1 } → wpAny (model X.prog X.w) X.A (f (.int i t) (.int j u)) Q E s) :
    OpR X f (rI C fun i j => .int (g i j)) := by
  (try refine ⟨?_⟩); intro pins s σ H x y v u Q I rx ry h
  obtain ⟨i, j, rfl, rfl, hc, q⟩ := h
  obtain ⟨t, rfl⟩ := rx
  obtain ⟨t', rfl⟩ := ry
  exact rule i j t t' s _ _ hc ⟨.int (g i j), H, I.tok _, ⟨_, rfl⟩, q⟩
theorem opI0 {f : Value → Value → Sem Value} {g : Int → Int → Int}
    (rule : ∀ (i j : Int) (t u : Tok) (s : Shared) (Q : Value → Shared → Prop) (E : Value → Shared → Prop), Q (.int (g i j) s.toks) { s with toks := s.toks + 1 } → wpAny (model X.prog X.w) X.A (f (.int i t) (.int j u)) Q E s) :
    OpR X f (rI0 fun i j => .int (g i j)) := by
  (try refine ⟨?_⟩); intro pins s σ H x y v u Q I rx ry h
  obtain ⟨i, j, rfl, rfl, q⟩ := h
  obtain ⟨t, rfl⟩ := rx
  obtain ⟨t', rfl⟩ := ry
  exact rule i j t t' s _ _ ⟨.int (g i j), H, I.tok _, ⟨_, rfl⟩, q⟩
theorem opB0 {f : Value → Value → Sem Value} {g : Int → Int → Bool}
    (rule : ∀ (i j : Int) (t u : Tok) (s : Shared) (Q : Value → Shared → Prop) (E : Value → Shared → Prop), Q (.bool (g i j)) s → wpAny (model X.prog X.w) X.A (f (.int i t) (.int j u)) Q E s) :
    OpR X f (rI0 fun i j => .bl (g i j)) := by
  (try refine ⟨?_⟩); intro pins s σ H x y v u Q I rx ry h
  obtain ⟨i, j, rfl, rfl, q⟩ := h
  obtain ⟨t, rfl⟩ := rx
  obtain ⟨t', rfl⟩ := ry
  exact rule i j t t' s _ _ ⟨.bl (g i j), H, I, rfl, q⟩

noncomputable def CDiv (i j : Int) : Prop := 0 < j ∧ j < 1073741824
noncomputable def CPow (i j : Int) : Prop := 0 ≤ j ∧ j ≤ 1000000 ∧ i.natAbs < 2 ^ 64
noncomputable def CMul (i j : Int) : Prop := (-(2 ^ 64) < i ∧ i < 2 ^ 64) ∨ (-(2 ^ 64) < j ∧ j < 2 ^ 64)
theorem CMul.ok {i j : Int} (h : CMul i j) : IntMulOk i j := by
  rcases h with ⟨h1, h2⟩ | ⟨h1, h2⟩
  · exact .of_left (intBits_le_64 h1 h2)
  · exact .of_right (intBits_le_64 h1 h2)
theorem op_add : OpR X (binaryOp .Add) (rI0 fun i j => .int (i + j)) := opI0 fun _ _ _ _ _ _ _ q => add_int q
theorem op_sub : OpR X (binaryOp .Sub) (rI0 fun i j => .int (i - j)) := opI0 fun _ _ _ _ _ _ _ q => sub_int q
theorem op_mul : OpR X (binaryOp .Mult) (rI CMul fun i j => .int (i * j)) := opI fun _ _ _ _ _ _ _ hc q => mul_int q hc.ok

theorem op_fdiv : OpR X (binaryOp .FloorDiv) (rI CDiv fun i j => .int (i / j)) := opI fun i j _ _ _ _ _ hc q => by
  have h1 : (0 : Int) < j := hc.1
  have h2 : j < 1073741824 := hc.2
  exact floordiv_int (by omega) (by rw [Int.fdiv_eq_ediv_of_nonneg i (by omega)]; exact q) (.inl (PyProof.noPylong_small (by omega)))

theorem op_mod : OpR X (binaryOp .Mod) (rI (fun _ j => 0 < j) fun i j => .int (i % j)) := opI fun i j _ _ _ _ _ hc q => by
  have h1 : (0 : Int) < j := hc
  exact mod_int' (by omega) (by rw [Int.fmod_eq_emod_of_nonneg i (by omega)]; exact q)
theorem op_pow : OpR X (binaryOp .Pow) (rI CPow fun i j => .int (i ^ j.toNat)) := opI fun _ _ _ _ _ _ _ hc q => pow_int_small hc.1 hc.2.1 hc.2.2 q
theorem unI {f : Value → Sem Value} {g : Int → Int}
    (rule : ∀ (i : Int) (t : Tok) (s : Shared) (Q : Value → Shared → Prop) (E : Value → Shared → Prop), Q (.int (g i) s.toks) { s with toks := s.toks + 1 } → wpAny (model X.prog X.w) X.A (f (.int i t)) Q E s) :
    UnR X f (rU fun i => .int (g i)) := by
  (try refine ⟨?_⟩); intro pins s σ H x v Q I rx h
  obtain ⟨i, rfl, q⟩ := h
  obtain ⟨t, rfl⟩ := rx
  exact rule i t s _ _ ⟨.int (g i), H, I.tok _, ⟨_, rfl⟩, q⟩
theorem un_neg : UnR X (unaryOp .USub) (rU fun i => .int (-i)) := unI fun _ _ _ _ _ q => neg_int q

end


section
variable {X : Cx} {a b c : Expr} {ta tb tc : TE} {pos : Pos}
theorem op_lt : OpR X (compareOp .Lt) (rI0 fun i j => .bl (decide (i < j))) := opB0 fun _ _ _ _ _ _ _ q => lt_int q
theorem op_le : OpR X (compareOp .LtE) (rI0 fun i j => .bl (decide (i ≤ j))) := opB0 fun _ _ _ _ _ _ _ q => le_int q
theorem op_gt : OpR X (compareOp .Gt) (rI0 fun i j => .bl (decide (j < i))) := opB0 fun _ _ _ _ _ _ _ q => gt_int q
theorem op_ge : OpR X (compareOp .GtE) (rI0 fun i j => .bl (decide (j ≤ i))) := opB0 fun _ _ _ _ _ _ _ q => ge_int q
theorem nomark (b : Expr) {op : CmpOp} (h : op ≠ .In := by decide) (h2 : op ≠ .NotIn := by decide) : behindInMarks op b = false := by
  have e1 : (op == CmpOp.In) = false := by cases op <;> first | rfl | exact absurd rfl h
  have e2 : (op == CmpOp.NotIn) = false := by cases op <;> first | rfl | exact absurd rfl h2
  cases b <;> simp [behindInMarks, e1, e2]

theorem pe_cmpR {op : CmpOp} {r : R2} (ho : OpR X (compareOp op) r) (ha : PE X a ta) (hb : PE X b tb) (hm : behindInMarks op b = false) : PE X (.Compare a [op] [b] pos) (tOp r ta tb) := by
  (try refine ⟨?_⟩); intro pins s σ H Q I h
  exact wpAny_Compare1 (binT ha hb I h fun v u s2 x y H2 I2 rx ry q => ho pins s2 σ H2 x y v u Q I2 rx ry q) hm

noncomputable def tTest (t : TE) : TT := fun σ H Q => t σ H fun x H' => ∃ k, x = .bl k ∧ Q k H'
theorem pt_cmpR {op : CmpOp} {r : R2} (ho : OpR X (compareOp op) r) (ha : PE X a ta) (hb : PE X b tb) (hm : behindInMarks op b = false) : PT X (.Compare a [op] [b] pos) (tTest (tOp r ta tb)) := by
  (try refine ⟨?_⟩); intro pins s σ H Q I h
  refine wpAny_isTrue_Compare1 (thn (ha pins s σ H _ I h) fun v s1 ⟨x, H1, I1, r1, q1⟩ => thn (hb pins s1 σ H1 _ I1 q1) fun u s2 ⟨y, H2, I2, r2, q2⟩ =>
    thn (ho pins s2 σ H2 x y v u _ I2 r1 r2 q2) fun c s3 ⟨z, H3, I3, r3, k, e, q3⟩ => ?_) hm
  subst e
  cases r3
  exact wpAny_truthy_bool ⟨H3, I3, q3⟩

noncomputable def tChain (r r' : R2) (ta tb tc : TE) : TE := fun σ H Q => ta σ H fun x H1 => tb σ H1 fun y H2 => r x y H2 fun z H3 => ∃ k, z = .bl k ∧
  (if k = true then tc σ H3 fun w' H4 => r' y w' H4 Q else Q (.bl false) H3)
theorem pe_chain {op op' : CmpOp} {r r' : R2} (ho : OpR X (compareOp op) r) (ho' : OpR X (compareOp op') r') (ha : PE X a ta) (hb : PE X b tb) (hc : PE X c tc)
    (hm : lastMarks [op, op'] [b, c] = false := by with_unfolding_all rfl) : PE X (.Compare a [op, op'] [b, c] pos) (tChain r r' ta tb tc) := by
  (try refine ⟨?_⟩); intro pins s σ H Q I h
  refine Compare_chain (thn (ha pins s σ H _ I h) fun v s1 ⟨x, H1, I1, r1, q1⟩ => chain_link (thn (hb pins s1 σ H1 _ I1 q1) fun u s2 ⟨y, H2, I2, r2, q2⟩ =>
    thn (ho pins s2 σ H2 x y v u _ I2 r1 r2 q2) fun d s3 ⟨z, H3, I3, r3, k, e, q3⟩ => ?_)) hm
  subst e
  cases r3
  refine wpAny_truthy_bool ?_
  cases k with
  | false => exact ite_ff ⟨.bl false, H3, I3, rfl, q3⟩
  | true => exact ite_tt (chain_last (thn (hc pins s3 σ H3 _ I3 q3) fun w' s4 ⟨z', H4, I4, r4, q4⟩ => ho' pins s4 σ H4 y z' u w' Q I4 r2 r4 q4))

theorem line63 : (sizeLine : Nat) < 2 ^ 63 := by rw [sizeLine_eq]; decide


theorem vals1 {x : V} {us : List Value} (r : Vals [x] us) : ∃ u, us = [u] ∧ RelV x u := by
  cases r with
  | cons r1 r2 => cases r2; exact ⟨_, rfl, r1⟩
theorem vals2 {x y : V} {us : List Value} (r : Vals [x, y] us) : ∃ u w', us = [u, w'] ∧ RelV x u ∧ RelV y w' := by
  cases r with
  | cons r1 r2 =>
    cases r2 with
    | cons r3 r4 => cases r4; exact ⟨_, _, rfl, r1, r3⟩
theorem call_abs : CallR X (.builtin "abs") (fun xs H Q => ∃ i, xs = [.int i] ∧ Q (.int (if i < 0 then -i else i)) H) := by
  (try refine ⟨?_⟩); intro pins s σ H xs us Q I r h
  obtain ⟨i, rfl, q⟩ := h
  obtain ⟨u, rfl, t, rfl⟩ := vals1 r
  exact call_abs_int fun u tk => ⟨.int (if i < 0 then -i else i), H, I.tok _, ⟨_, rfl⟩, q⟩
theorem call_max2 (hc : X.calm = true) : CallR X (.builtin "max") (fun xs H Q => ∃ i j, xs = [.int i, .int j] ∧ Q (.int (if j > i then j else i)) H) := by
  (try refine ⟨?_⟩); intro pins s σ H xs us Q I r h
  obtain ⟨i, j, rfl, q⟩ := h
  obtain ⟨u, w', rfl, ⟨t, rfl⟩, ⟨t', rfl⟩⟩ := vals2 r
  refine max_two_ints (I.ok.hd hc) fun h' tk k => ⟨_, H, I.kept k, ?_, q⟩
  by_cases hj : j > i
  · rw [if_pos hj, if_pos hj]; exact ⟨_, rfl⟩
  · rw [if_neg hj, if_neg hj]; exact ⟨_, rfl⟩
theorem call_min2 (hc : X.calm = true) : CallR X (.builtin "min") (fun xs H Q => ∃ i j, xs = [.int i, .int j] ∧ Q (.int (if j < i then j else i)) H) := by
  (try refine ⟨?_⟩); intro pins s σ H xs us Q I r h
  obtain ⟨i, j, rfl, q⟩ := h
  obtain ⟨u, w', rfl, ⟨t, rfl⟩, ⟨t', rfl⟩⟩ := vals2 r
  refine min_two_ints (I.ok.hd hc) fun h' tk k => ⟨_, H, I.kept k, ?_, q⟩
  by_cases hj : j < i
  · rw [if_pos hj, if_pos hj]; exact ⟨_, rfl⟩
  · rw [if_neg hj, if_neg hj]; exact ⟨_, rfl⟩
theorem call_int1 : CallR X (.type "int") (fun xs H Q => (∃ i, xs = [.int i] ∧ Q (.int i) H) ∨ ∃ k, xs = [.bl k] ∧ Q (.int (if k then 1 else 0)) H) := by
  (try refine ⟨?_⟩); intro pins s σ H xs us Q I r h
  rcases h with ⟨i, rfl, q⟩ | ⟨k, rfl, q⟩
  · obtain ⟨u, rfl, t, rfl⟩ := vals1 r
    exact call_int_int ⟨.int i, H, I, ⟨_, rfl⟩, q⟩
  · obtain ⟨u, rfl, r1⟩ := vals1 r
    cases r1
    exact call_int_bool ⟨.int (if k then 1 else 0), H, I.tok _, ⟨_, rfl⟩, q⟩
end
end L2

namespace L2
open PySem PySem.Spec PyProof.Rows


structure ObjM (h : Heap) (x dx C : Addr) (mA : Str → Option Value) : Prop where
  obj : h.get? x = some (PySem.W.instObj C dx)
  ns : h.Ns1 dx mA
  ne : dx ≠ x

theorem lookIn_ns {h : Heap} {dx : Addr} {mA : Str → Option Value} (n : h.Ns1 dx mA) : ∃ od, h.get? dx = some od ∧ ∀ name, PySem.W.lookIn name od = some (mA name) := by
  obtain ⟨o, es, ep, ho, hd, hk, _, hm⟩ := n
  refine ⟨o, ho, fun name => ?_⟩
  have e := hm name
  unfold nsFind findBy at e
  rw [← Array.find?_toList] at e
  unfold PySem.W.lookIn
  rw [hd]
  dsimp only
  split
  · rename_i y q
    rw [q] at e
    exact congrArg some e
  · rename_i q
    rw [q] at e
    have a : es.toList.any (·.refKey) = false := by
      rw [List.any_eq_false]
      intro y hy
      obtain ⟨z, t, hkey⟩ := hk y (Array.mem_toList_iff.mp hy)
      simp [DictEntry.refKey, hkey]
    have a' : ¬ es.toList.any (·.refKey) = true := by rw [a]; exact Bool.false_ne_true
    rw [if_neg a']
    exact congrArg some e

theorem ObjM.look {h : Heap} {x dx C : Addr} {mA : Str → Option Value} (I : ObjM h x dx C mA) : ∃ od, PySem.W.InstAt h x (PySem.W.instObj C dx) C (some od) ∧ ∀ name, PySem.W.lookIn name od = some (mA name) :=
  let ⟨od, ho, hl⟩ := lookIn_ns I.ns
  ⟨od, ⟨I.obj, rfl, rfl, ho⟩, hl⟩

section
variable {prog : Program} {w : World} {A : Around} {E : Value → Shared → Prop} {s : Shared} {K : PySem.W.Frag} {x dx C f : Addr} {mA : Str → Option Value} {name : Str} {v : Value}

end


section
variable {P : Program} {w : World} {H H' : Hp} {h h' : Heap} {a C dx : Addr} {fs fs' : List (Str × V)}
theorem ins_get (hok : HOk P w H h) (e : H a = some (.ins C dx fs)) : ∃ mA, ObjM h a dx C mA ∧ (∀ f, RelO (fs.lookup f) (mA f)) ∧ PySem.Within mA (fs.map (·.1)) ∧ fs.length ≤ 1000 ∧ H dx = some (.own a) := by
  obtain ⟨d, z, ne, ob, mA, n, r, q⟩ := (show ObjOk P w H h a (.ins C dx fs) from hok a _ e)
  exact ⟨mA, ⟨ob, n, ne⟩, r, q, z, d⟩
end


structure Cls (K : PySem.W.Frag) (C : Addr) : Prop where
  pg : PySem.W.plainGet K C Str.empty = true
  hd : PySem.W.hasDictIn K C = true
  po : PySem.W.plainOver K C = true
  sa : PySem.W.findIn K (.ref C) "__setattr__" = some (some (.builtin "object.__setattr__"))
theorem Cls.get {K : PySem.W.Frag} {C : Addr} (c : Cls K C) (f : Str) : PySem.W.plainGet K C f = true := c.pg
section
variable {X : Cx} {pins : List (Addr × Obj)} {σ : St} {H : Hp} {s : Shared} {a C dx : Addr} {fs : List (Str × V)} {f : Str} {v : V} {A : Around} {E : Value → Shared → Prop}

end


section
variable {X : Cx} {o e value : Expr} {f : Str} {pos pos' tpos : Pos} {ta tv : TE}
end


section
variable {X : Cx} {pins : List (Addr × Obj)} {σ : St} {H : Hp} {s : Shared} {A : Around} {E : Value → Shared → Prop} {Q : Value → Shared → Prop} {c : Value} {b : Bool}

inductive TyOf (K : PySem.W.Frag) (H : Hp) : V → Value → Prop where
  | non : TyOf K H .non (.type "NoneType")
  | bl (x : Bool) : TyOf K H (.bl x) (.type "bool")
  | int (i : Int) : TyOf K H (.int i) (.type "int")
  | str (x : Str) : TyOf K H (.str x) (.type "str")
  | flt (x : UInt64) : TyOf K H (.flt x) (.type "float")
  | lst {a : Addr} {xs : List V} (e : H a = some (.lst xs)) : TyOf K H (.ref a) (.type "list")
  | frz {a : Addr} {o : Obj} {xs : List V} (e : H a = some (.frz o (.lst xs))) : TyOf K H (.ref a) (.type "list")
  | tup {a : Addr} {xs : List V} (e : H a = some (.tup xs)) : TyOf K H (.ref a) (.type "tuple")
  | dK {a : Addr} {kvs : List (Key × V)} (e : H a = some (.dK kvs)) : TyOf K H (.ref a) (.type "dict")
  | dT {a : Addr} {kvs : List (List Key × V)} (e : H a = some (.dT kvs)) : TyOf K H (.ref a) (.type "dict")
  | ins {a C dx : Addr} {fs : List (Str × V)} (e : H a = some (.ins C dx fs)) (cl : Cls K C) (ha : PySem.W.findIn K (.ref C) "__class__" = some (some (.builtin "object.__class__")))
      (hn : PySem.W.specialIn K (.builtin "object.__class__") "__get__" = some (some (.builtin "getset_descriptor.__get__"))) (htk : PySem.W.takesIn K (.builtin "object.__class__") = some true)
      (hm : PySem.W.mroIn K C (.type "object") = some true) : TyOf K H (.ref a) (.ref C)

theorem isinst_ok {x : V} {u t : Value} (I : Inv X pins σ H s) (rx : RelV x u) (ty : TyOf X.K H x t) (e : PySem.W.kitOne X.K t c = some b) (h : ∀ tk, Q (.bool b) { s with toks := tk }) :
    wpAny (model X.prog X.w) A (call (.builtin "isinstance") [u, c]) Q E s := by
  cases ty with
  | non => cases (show u = Value.none from rx); exact PySem.W.kia_one PySem.W.kitx_none I.kIn True.intro e (fun z => nomatch z) h
  | bl y => cases (show u = Value.bool y from rx); exact PySem.W.kia_one PySem.W.kitx_bool I.kIn True.intro e (fun z => nomatch z) h
  | int i => obtain ⟨t, q⟩ := (show ∃ t, u = Value.int i t from rx); cases q; exact PySem.W.kia_one PySem.W.kitx_int I.kIn True.intro e (fun z => nomatch z) h
  | str y => obtain ⟨t, q⟩ := (show ∃ t, u = Value.str y t from rx); cases q; exact PySem.W.kia_one PySem.W.kitx_str I.kIn True.intro e (fun z => nomatch z) h
  | flt y => obtain ⟨t, q⟩ := (show ∃ t, u = Value.float y t from rx); cases q; exact PySem.W.kia_one PySem.W.kitx_float I.kIn True.intro e (fun z => nomatch z) h
  | @lst a xs ea =>
    cases (show u = Value.ref a from rx)
    obtain ⟨_, _, n, _, h1⟩ := (show ObjOk X.prog X.w H s.heap a (.lst xs) from I.hok a _ ea)
    exact PySem.W.kia_one PySem.W.kitx_list I.kIn ⟨_, h1, rfl⟩ e (fun z => nomatch z) h
  | @frz a ob xs ea =>
    cases (show u = Value.ref a from rx)
    obtain ⟨_, _, _, n, _, h1⟩ := (show ObjOk X.prog X.w H s.heap a (.frz ob (.lst xs)) from I.hok a _ ea)
    exact PySem.W.kia_one PySem.W.kitx_list I.kIn ⟨_, h1, rfl⟩ e (fun z => nomatch z) h
  | @tup a xs ea =>
    cases (show u = Value.ref a from rx)
    obtain ⟨_, _, _, p⟩ := (show ObjOk X.prog X.w H s.heap a (.tup xs) from I.hok a _ ea)
    obtain ⟨o, h1, h2, _⟩ := p
    exact PySem.W.kia_one PySem.W.kitx_tuple I.kIn ⟨o, h1, h2⟩ e (fun z => nomatch z) h
  | @dK a kvs ea =>
    cases (show u = Value.ref a from rx)
    obtain ⟨_, _, vs, _, p⟩ := (show ObjOk X.prog X.w H s.heap a (.dK kvs) from I.hok a _ ea)
    obtain ⟨o, es, ep, h1, h2, _⟩ := p
    exact PySem.W.kia_one PySem.W.kitx_dict I.kIn ⟨o, h1, h2.1⟩ e (fun z => nomatch z) h
  | @dT a kvs ea =>
    cases (show u = Value.ref a from rx)
    obtain ⟨_, _, xs, _, o, es, ep, h1, h2, _⟩ := (show ObjOk X.prog X.w H s.heap a (.dT kvs) from I.hok a _ ea)
    exact PySem.W.kia_one PySem.W.kitx_dict I.kIn ⟨o, h1, h2.1⟩ e (fun z => nomatch z) h
  | @ins a C dx fs ea cl ha hn htk hm =>
    cases (show u = Value.ref a from rx)
    obtain ⟨mA, O, _⟩ := ins_get I.hok ea
    obtain ⟨od, J, _⟩ := O.look
    exact PySem.W.kia_one (PySem.W.kitx_own (cl.get _) cl.hd ha hn htk hm) I.kIn J e (fun z => nomatch z) h
end
end L2

namespace L2
open PySem PySem.Spec PyProof.Rows


structure Room (k : Nat) (A : Around) : Prop where
  hd : A.handled = none
  dp : A.depth + 3 * k + 5 < recursionLimit
  un : A.units + 16 * k + 200 < cLine
theorem Room.mono {j k : Nat} {A : Around} (r : Room k A) (h : j ≤ k) : Room j A := ⟨r.hd, by have := r.dp; omega, by have := r.un; omega⟩
theorem Room.deeper {k : Nat} {A : Around} (r : Room (k + 1) A) (env : Env) : Room k (A.deeper env) :=
  ⟨r.hd, by have := r.dp; show A.depth + 1 + 3 * k + 5 < _; omega, by have := r.un; show A.units + 3 + 16 * k + 200 < _; omega⟩
theorem Room.depth {k : Nat} {A : Around} (r : Room k A) : A.depth < recursionLimit := by have := r.dp; omega
theorem Room.units {k : Nat} {A : Around} (r : Room k A) : A.units + 64 < cLine := by have := r.un; omega

noncomputable def tNil : TA := fun _ H Q => Q [] H
noncomputable def tCons (ta : TE) (tr : TA) : TA := fun σ H Q => ta σ H fun x H1 => tr σ H1 fun xs H2 => Q (x :: xs) H2
section
variable {X : Cx} {e : Expr} {es : List Expr} {te : TE} {t : TA} {pos : Pos}
theorem pa_nil : PA X [] tNil := ⟨fun _ _ _ _ H Q I h => Calls.spliced_nil ⟨[], H, I, .nil, h⟩⟩
theorem pa_cons (ha : PE X e te) (hr : PA X es t) (hs : starEach (e :: es) X.env = (false, eval e X.env) :: starEach es X.env := by rfl) : PA X (e :: es) (tCons te t) := by
  (try refine ⟨?_⟩); intro pos pins s σ H Q I h
  rw [hs]
  show wpAny _ _ (spliced ((false, eval e X.env) :: backTo pos (starEach es X.env))) _ _ s
  refine Calls.spliced_cons (thn (ha pins s σ H _ I h) fun u s1 ⟨x, H1, I1, r1, q1⟩ => ?_)
  exact thn (hr pos pins s1 σ H1 _ I1 q1) fun us s2 ⟨xs, H2, I2, r2, q2⟩ => ⟨x :: xs, H2, I2, .cons r1 r2, q2⟩


noncomputable def tTup (t : TA) : TE := fun σ H Q => t σ H fun xs H1 => xs.length ≤ sizeLine ∧ ∀ p, H1 p = none → Q (.ref p) (upd H1 p (.tup xs))
noncomputable def tLst (t : TA) : TE := fun σ H Q => t σ H fun xs H1 => xs.length ≤ sizeLine ∧ ∀ p, H1 p = none → Q (.ref p) (upd H1 p (.lst xs))
theorem pe_tup {x1} (h : PA X es t) : PE X (.Tuple es x1 pos) (tTup t) := by
  (try refine ⟨?_⟩); intro pins s σ H Q I hq
  refine wpAny_Tuple_spliced (thn (h pos pins s σ H _ I hq) fun us s1 ⟨xs, H1, I1, r, z, q⟩ => ⟨by rw [← r.length]; exact z, ?_⟩)
  have hf : H1 s1.heap.objs.size = none := I1.hok.fresh (Nat.le_refl _)
  refine ⟨.ref s1.heap.objs.size, upd H1 s1.heap.objs.size (.tup xs), I1.laid (t' := s1.toks) (fun b u e => Heap.get?_push_of_some _ e) (Nat.le_refl _) ?_, rfl, q _ hf⟩
  exact ⟨z, us, r, ⟨_, Heap.get?_push_size _ rfl, rfl, _, rfl⟩⟩
theorem pe_lst (h : PA X es t) : PE X (.List es pos) (tLst t) := by
  (try refine ⟨?_⟩); intro pins s σ H Q I hq
  refine wpAny_List_spliced (thn (h pos pins s σ H _ I hq) fun us s1 ⟨xs, H1, I1, r, z, q⟩ => ⟨by rw [← r.length]; exact z, ?_⟩)
  have hf : H1 s1.heap.objs.size = none := I1.hok.fresh (Nat.le_refl _)
  refine ⟨.ref s1.heap.objs.size, upd H1 s1.heap.objs.size (.lst xs), I1.laid (t' := s1.toks) (fun b u e => Heap.get?_push_of_some _ e) (Nat.le_refl _) ?_, rfl, q _ hf⟩
  exact ⟨z, us, 0, r, Heap.get?_push_size _ rfl⟩
end



noncomputable abbrev Sp := List V → Hp → VK → XK → Prop

noncomputable abbrev CXT := List Env → Hp → Shared → XK → Value → Shared → Prop


structure Env0 (P : Program) (w : World) (K : PySem.W.Frag) (mg : Str → Option Value) (base : Heap) (A : Around) (outer : List Env) (s : Shared) (H : Hp) : Prop where
  frames : A.frames = some outer
  mod : Mod K mg base
  bs : ∀ b o, base.get? b = some o → s.heap.get? b = some o ∧ H b = none
  bsz : base.objs.size ≤ s.heap.objs.size
  funs : s.heap.FunFrames base outer
  frf : ∀ b ∈ frs outer, H b = none
  hok : HOk P w H s.heap
  bare : AllBare s.gens

noncomputable def CE (outer : List Env) (P : Program) (w : World) (H : Hp) (s : Shared) (Q : VK) (u : Value) (s' : Shared) : Prop :=
  ∃ v H', s'.os = s.os ∧ AllBare s'.gens ∧ Un (frs outer) [] H H' s.heap s'.heap ∧ HOk P w H' s'.heap ∧ RelV v u ∧ Q v H'
noncomputable def CR (CX : CXT) (outer : List Env) (P : Program) (w : World) (H : Hp) (s : Shared) (Q : VK) (E : XK) (r : Result) (s' : Shared) : Prop :=
  match r with
  | .ok (.ret u) => CE outer P w H s Q u s'
  | .ok _ => False
  | .error e => CX outer H s E e s'
structure FnOk (P : Program) (w : World) (K : PySem.W.Frag) (mg : Str → Option Value) (base : Heap) (CX : CXT) (k : Nat) (f : Addr) (fd : FuncData) (ps : List Str) (sp : Sp) : Prop where
  len : ∀ vs H Q E, sp vs H Q E → vs.length = ps.length
  run : ∀ (A : Around) (outer : List Env) (s : Shared) (H : Hp) (args : Args) (us : List Value) (vs : List V) (Q : VK) (E : XK), Room k A → Env0 P w K mg base A outer s H → BindsTo s fd args (ps.zip us) → Vals vs us → sp vs H Q E →
    codeAny (model P w) A (.call (.ref f) args) (CR CX outer P w H s Q E) s

theorem FnOk.imp {P : Program} {w : World} {K : PySem.W.Frag} {mg : Str → Option Value} {base : Heap} {CX : CXT} {k : Nat} {f : Addr} {fd : FuncData} {ps : List Str} {sp sp' : Sp} (F : FnOk P w K mg base CX k f fd ps sp)
    (h : ∀ vs H Q E, sp' vs H Q E → sp vs H Q E) : FnOk P w K mg base CX k f fd ps sp' :=
  ⟨fun vs H Q E q => F.len vs H Q E (h _ _ _ _ q), fun A outer s H args us vs Q E hr he hb hv hs => F.run A outer s H args us vs Q E hr he hb hv (h _ _ _ _ hs)⟩

section
variable {X : Cx} {pins : List (Addr × Obj)} {σ : St} {H : Hp} {s s' : Shared}

theorem Inv.env0 (I : Inv X pins σ H s) : Env0 X.prog X.w X.K X.mg X.base X.A X.stack s H :=
  ⟨I.ok.frames, I.ok.mod, I.bs, Nat.le_trans I.ok.bsz I.sz, I.stack, I.stkFree, I.hok, I.bare⟩

theorem Inv.after {Q : VK} {u : Value} (I : Inv X pins σ H s) (h : CE X.stack X.prog X.w H s Q u s') : EP X pins σ Q u s' := by
  obtain ⟨v, H', os, bare, un, hok, r, q⟩ := h
  obtain ⟨hh, g, d, t, os'⟩ := s'
  obtain rfl : os' = s.os := os
  exact ⟨v, H', I.call (h' := hh) (g' := g) (d' := d) (t' := t) (ch := []) un hok bare (fun b z => absurd z (by simp)), r, q⟩
end



noncomputable def tCall (sp : Sp) (dvs : List V) (E : XK) (t : TA) : TE := fun σ H Q => t σ H fun vs H1 => sp (vs ++ dvs) H1 Q E

noncomputable def Binds (K : PySem.W.Frag) (fd : FuncData) (ps : List Str) (ds : List Value) : Prop :=
  ∀ (s : Shared) (us : List Value), K.In s.heap → (us ++ ds).length = ps.length → BindsTo s fd ⟨us, []⟩ (ps.zip (us ++ ds))

theorem Binds.all {K : PySem.W.Frag} {fd : FuncData} {ps : List Str} (h : ∀ us : List Value, us.length = ps.length → bindArgs fd ⟨us, []⟩ = pure (ps.zip us)) : Binds K fd ps [] := fun s us _ hl => by
  rw [List.append_nil] at hl ⊢
  exact .of_eq (h us hl)


noncomputable def Passes (CX : CXT) (X : Cx) (E : XK) : Prop := ∀ (pins : List (Addr × Obj)) (σ : St) (H : Hp) (s : Shared) (e : Value) (s' : Shared), Inv X pins σ H s → CX X.stack H s E e s' → X.xe e s'

section
variable {X : Cx} {CX : CXT} {k : Nat} {f C : Addr} {fd : FuncData} {ps : List Str} {sp : Sp} {dvs : List V} {ds : List Value} {E : XK} {x m : Str} {p pos apos : Pos} {e o : Expr} {es : List Expr} {ta : TE} {t : TA}


theorem run_fn {pins : List (Addr × Obj)} {σ : St} {H : Hp} {s : Shared} {Q : VK} {us : List Value} {vs : List V} (F : FnOk X.prog X.w X.K X.mg X.base CX k f fd ps sp) (hr : Room k X.A) (hb : Binds X.K fd ps ds) (hd : Vals dvs ds) (hx : Passes CX X E)
    (I : Inv X pins σ H s) (r : Vals vs us) (h : sp (vs ++ dvs) H Q E) : wpAny (model X.prog X.w) X.A (call (.ref f) us) (EP X pins σ Q) X.xe s := by
  have r2 : Vals (vs ++ dvs) (us ++ ds) := r.append hd
  have hl : (us ++ ds).length = ps.length := by rw [← r2.length]; exact F.len _ _ _ _ h
  refine wpAny_call (codeAny_mono (F.run X.A X.stack s H ⟨us, []⟩ (us ++ ds) (vs ++ dvs) Q E hr I.env0 (hb s us I.kIn hl) r2 h) fun r s' hq => ?_)
  cases r with
  | error e => exact hx pins σ H s e s' I hq
  | ok fl =>
    cases fl with
    | ret u => exact I.after hq
    | next => exact False.elim hq
    | brk => exact False.elim hq
    | cont => exact False.elim hq

theorem pe_call (F : FnOk X.prog X.w X.K X.mg X.base CX k f fd ps sp) (hr : Room k X.A) (hg : Gl X x) (hm : X.mg x = some (.ref f)) (hk : PySem.W.keepIn X.K (.ref f) = true) (hb : Binds X.K fd ps ds) (hd : Vals dvs ds) (hx : Passes CX X E)
    (ha : PA X (e :: es) t) (hdb : (x == ("__debug__" : Str)) = false := by decide) (he : starEach (e :: es) X.env = (false, eval e X.env) :: starEach es X.env := by rfl) (hpl : (backTo pos (starEach es X.env)).any (·.1) = false := by rfl) :
    PE X (.Call (.Name x p) (e :: es) [] pos) (tCall sp dvs E t) := by
  (try refine ⟨?_⟩); intro pins s σ H Q I h
  refine wpAny_Call_Name_kw (ld_glob I hg hm ?_ hdb)
  refine PySem.W.callWith_K (h₀ := X.base) I.ok.mod.kin hk (thn (ha pos pins s σ H _ I h) fun us s1 ⟨vs, H1, I1, r, q⟩ => ⟨I1.kIn, ?_⟩) he hpl
  exact run_fn F hr hb hd hx I1 r q
end


section
variable {X : Cx} {CX : CXT} {k : Nat} {f C : Addr} {fd : FuncData} {ps ks : List Str} {sp : Sp} {E : XK} {x m : Str} {p pos apos kpos : Pos} {e o : Expr} {es : List Expr} {kws : List Keyword} {te ta : TE} {t tk : TA} {nm : Option Str}
variable {g : List Value → List Value → List Value} {gV : List V → List V → List V}
end



structure FnScope (N P : List Str) (sc : Scope) : Prop where
  kind : sc.kind = .function
  co : sc.isCoroutine = false
  gen : sc.isGenerator = false
  nd : N.Nodup
  pre : N.take P.length = P
  par : ∀ x ∈ P, sc.names.lookup x = some .local ∨ sc.names.lookup x = some .cell
  nofree : ∀ y ∈ sc.names, y.2 ≠ .free

theorem bindL_out {kindOf : Str → Option NameKind} {x : Str} : ∀ {binds : List (Str × Value)} {m : Str → Option Value}, (∀ v, (x, v) ∉ binds) → bindL kindOf binds m x = m x
  | [], _, _ => rfl
  | (n, v) :: r, m, h => by
    unfold bindL
    rw [bindL_out fun w hw => h w (List.mem_cons_of_mem _ hw)]
    split
    · have : x ≠ n := by rintro rfl; exact h v List.mem_cons_self
      simp [this]
    · rfl
theorem bindC_out {kindOf : Str → Option NameKind} {x : Str} : ∀ {binds : List (Str × Value)} {m : Str → Option Value}, (∀ v, (x, v) ∉ binds) → bindC kindOf binds m x = m x
  | [], _, _ => rfl
  | (n, v) :: r, m, h => by
    unfold bindC
    rw [bindC_out fun w hw => h w (List.mem_cons_of_mem _ hw)]
    split
    · rfl
    · have : x ≠ n := by rintro rfl; exact h v List.mem_cons_self
      simp [this]
theorem bindL_get {kindOf : Str → Option NameKind} {x : Str} {v : Value} : ∀ {P : List Str} {vs : List Value} {i : Nat} {m : Str → Option Value}, P.Nodup → P[i]? = some x → vs[i]? = some v → kindOf x = some .local →
    bindL kindOf (P.zip vs) m x = some v
  | [], _, _, _, _, h, _, _ => by simp at h
  | _ :: _, [], _, _, _, _, h, _ => by simp at h
  | p :: P, w :: vs, 0, m, nd, h1, h2, hk => by
    simp at h1 h2; subst h1; subst h2
    show bindL kindOf ((p, w) :: P.zip vs) m p = _
    unfold bindL
    rw [bindL_out fun v hv => (List.nodup_cons.mp nd).1 (List.of_mem_zip hv).1, if_pos hk]
    simp
  | p :: P, w :: vs, i + 1, m, nd, h1, h2, hk => by
    show bindL kindOf ((p, w) :: P.zip vs) m x = _
    unfold bindL
    exact bindL_get (i := i) (List.nodup_cons.mp nd).2 (by simpa using h1) (by simpa using h2) hk
theorem bindC_get {kindOf : Str → Option NameKind} {x : Str} {v : Value} : ∀ {P : List Str} {vs : List Value} {i : Nat} {m : Str → Option Value}, P.Nodup → P[i]? = some x → vs[i]? = some v → kindOf x ≠ some .local →
    bindC kindOf (P.zip vs) m x = some v
  | [], _, _, _, _, h, _, _ => by simp at h
  | _ :: _, [], _, _, _, _, h, _ => by simp at h
  | p :: P, w :: vs, 0, m, nd, h1, h2, hk => by
    simp at h1 h2; subst h1; subst h2
    show bindC kindOf ((p, w) :: P.zip vs) m p = _
    unfold bindC
    rw [bindC_out fun v hv => (List.nodup_cons.mp nd).1 (List.of_mem_zip hv).1, if_neg hk]
    simp
  | p :: P, w :: vs, i + 1, m, nd, h1, h2, hk => by
    show bindC kindOf ((p, w) :: P.zip vs) m x = _
    unfold bindC
    exact bindC_get (i := i) (List.nodup_cons.mp nd).2 (by simpa using h1) (by simpa using h2) hk


noncomputable def start (N : List Str) (vs : List V) : St := vs.map some ++ List.replicate (N.length - vs.length) none


noncomputable def cxOf (CX : CXT) (P : Program) (w : World) (K : PySem.W.Frag) (mg : Str → Option Value) (base : Heap) (N : List Str) (qual : Str) (scope : Scope) (f : Addr) (cd : Value) (A : Around) (outer : List Env) (s : Shared) (H : Hp) (E : XK) : Cx where
  prog := P
  w := w
  K := K
  mg := mg
  base := base
  A := A.deeper (envOfC qual scope s.heap.objs.size f cd)
  N := N
  s₀ := s
  H₀ := H
  env := envOfC qual scope s.heap.objs.size f cd
  outer := outer
  stack := envOfC qual scope s.heap.objs.size f cd :: outer
  ex := []
  calm := true
  fn := fun _ => true
  pn := []
  xe := fun e s' => wpAny (model P w) (A.deeper (envOfC qual scope s.heap.objs.size f cd)) (leaving (envOfC qual scope s.heap.objs.size f cd) e) (fun _ s'' => CX outer H s E e s'') (fun e' s'' => CX outer H s E e' s'') s'

theorem cell_has {sc : Scope} {n : Nat} {x : Str} (h : sc.names.lookup x = some .cell) : ∃ c, (cellsFrom n sc.names []).lookup x = some c := by
  have q := PySem.W.cellsFrom_some sc.names n [] (.inl h)
  exact Option.isSome_iff_exists.mp q

theorem inv_start {CX : CXT} {P : Program} {w : World} {K : PySem.W.Frag} {mg : Str → Option Value} {base : Heap} {N ps : List Str} {qual : Str} {scope : Scope} {f : Addr} {cd : Value} {A : Around} {outer : List Env} {s s1 : Shared} {H : Hp} {E : XK} {us : List Value} {vs : List V}
    (S : FnScope N ps scope) (hd : A.handled = none) (e0 : Env0 P w K mg base A outer s H) (hl : vs.length = ps.length) (r : Vals vs us)
    (x : InCallC s s.heap.objs.size (bindL (envOfC qual scope s.heap.objs.size f cd).kindOf (ps.zip us) fun _ => none) (cellsFrom (s.heap.objs.size + 1) scope.names []) (bindC (envOfC qual scope s.heap.objs.size f cd).kindOf (ps.zip us) fun _ => none) s1) :
    Inv (cxOf CX P w K mg base N qual scope f cd A outer s H E) [] (start N vs) H s1 := by
  have hpl : ps.length ≤ N.length := by have := congrArg List.length S.pre; rw [List.length_take] at this; omega
  obtain ⟨h1, tk, rfl, hk⟩ := x.done
  have noA : ∀ b : Addr, b ∉ (cxOf CX P w K mg base N qual scope f cd A outer s H E).ex := fun b z => absurd (show b ∈ ([] : List Addr) from z) (by simp)
  refine ⟨⟨e0.mod, S.kind, rfl, rfl, Nat.le_refl _, fun y z c h1 h2 => ?_, fun y hy => ?_, fun y c _ h => ?_, fun _ => hd, Around.frames_deeper e0.frames, .inr ⟨rfl, rfl⟩, fun b z => absurd z (noA b), e0.bs, e0.bsz, fun b _ _ => noA b, fun b z => absurd z (noA b), e0.funs, e0.frf⟩,
    rfl, e0.bare, Un.kept hk, ⟨_, x.toInCall.ns, fun i y v h1 h2 h3 => ?_⟩, fun y c h => ⟨_, x.cell y c h⟩, e0.hok.fresh (Nat.le_refl _), fun y c h => ?_, fun p hp => absurd (show p ∈ ([] : List (Addr × Obj)) from hp) (by simp), e0.hok.kept hk, ?_⟩
  · exact name_of_addr x.apart (PySem.mem_of_lookup h1) (PySem.mem_of_lookup h2)
  · have hy : scope.names.lookup y = some .cell ∨ scope.names.lookup y = some .free := hy
    rcases hy with hy | hy
    · exact cell_has hy
    · exact absurd rfl (S.nofree _ (PySem.mem_of_lookup hy))
  · exact Nat.le_of_lt (x.above y c (PySem.mem_of_lookup h))
  · have hi : i < vs.length := by
      unfold start at h2
      by_cases hi : i < vs.length
      · exact hi
      · rw [List.getElem?_append_right (by simpa using hi)] at h2
        rw [List.getElem?_replicate] at h2
        split at h2 <;> cases h2
    have ha : vs[i]? = some v := by
      unfold start at h2
      rw [List.getElem?_append_left (by simpa using hi), List.getElem?_map] at h2
      cases e : vs[i]? with
      | none => rw [e] at h2; cases h2
      | some a => rw [e] at h2; cases h2; rfl
    obtain ⟨u, hu, rv⟩ := r.get ha
    have hp : ps[i]? = some y := by
      rw [← S.pre, List.getElem?_take_of_lt (by omega)]; exact h1
    have ndP : ps.Nodup := by rw [← S.pre]; exact S.nd.sublist (List.take_sublist _ _)
    refine ⟨u, rv, ?_⟩
    rcases S.par y (List.mem_of_getElem? hp) with k | k
    · exact .inl ⟨k, bindL_get ndP hp hu k⟩
    · obtain ⟨c, e⟩ := cell_has (n := s.heap.objs.size + 1) k
      refine .inr ⟨.inl k, c, e, ?_⟩
      have q := x.cell y c e
      rw [bindC_get ndP hp hu (by show scope.names.lookup y ≠ _; rw [k]; decide)] at q
      exact q
  · exact e0.hok.fresh (Nat.le_of_lt (x.above y c (PySem.mem_of_lookup h)))
  · unfold start
    show _ = N.length
    rw [List.length_append, List.length_map, List.length_replicate]
    omega


theorem fn_of {CX : CXT} {P : Program} {w : World} {K : PySem.W.Frag} {mg : Str → Option Value} {base : Heap} {k : Nat} {f : Addr} {name qual : Str} {params : Arguments} {body : List Stmt} {scope : Scope} {dV kV doc pm cdv ct oc : Value} {an od : Option Addr}
    {osl : Array (Option Value)} {N ps : List Str} {sp : Sp} (lk : K.lookup f = some ⟨oc, od, .func (PySem.W.fnOf name qual params body scope dV kV doc pm an cdv ct), osl⟩) (hcd : PySem.W.codeIn K cdv qual = true) (S : FnScope N ps scope)
    (len : ∀ vs H Q E, sp vs H Q E → vs.length = ps.length)
    (hbody : ∀ (A : Around) (outer : List Env) (s : Shared) (H : Hp) (vs : List V) (Q : VK) (E : XK), Room k (A.deeper (envOfC qual scope s.heap.objs.size f cdv)) → sp vs H Q E →
      ∃ t, PSs (cxOf CX P w K mg base N qual scope f cdv A outer s H E) body t ∧ t { nx := fun _ H' => Q .non H', rt := Q } (start N vs) H) :
    FnOk P w K mg base CX (k + 1) f (PySem.W.fnOf name qual params body scope dV kV doc pm an cdv ct) ps sp := by
  refine ⟨len, fun A outer s H args us vs Q E hr e0 hb r hsp => ?_⟩
  have hl := len _ _ _ _ hsp
  have KX : K.In s.heap := e0.mod.kin.keeps fun b o e => (e0.bs b o e).1
  have lim : s.heap.NoLimit := e0.mod.nolimit.keeps fun b o e => (e0.bs b o e).1
  have hkind : ∀ y ∈ ps.zip us, scope.names.lookup y.1 = some .local ∨ (scope.names.lookup y.1 = some .cell ∧ ((cellsFrom (s.heap.objs.size + 1) scope.names []).lookup y.1).isSome = true) := fun ⟨n, v⟩ hy => by
    rcases S.par n (List.of_mem_zip hy).1 with q | q
    · exact .inl q
    · exact .inr ⟨q, PySem.W.cellsFrom_some _ _ _ (.inl q)⟩
  refine codeAny_call_function hr.depth (KX _ _ lk) rfl S.co S.gen rfl (PySem.W.codeRec_of KX hcd) (hb _ _ _ _ ?_)
  refine wpAny_newFunctionEnv_cells S.kind hkind fun env he s1 x => ?_
  subst he
  refine ⟨lim.keeps x.toInCall.keep, codeAny_func ?_⟩
  obtain ⟨t, ht, hq⟩ := hbody A outer s H vs Q E (hr.deeper _) hsp
  have I : Inv (cxOf CX P w K mg base N qual scope f cdv A outer s H E) [] (start N vs) H s1 := inv_start S hr.hd e0 hl r x
  refine wpAny_mono (ht [] s1 (start N vs) H _ I hq) (fun fl s' hs => ?_) fun e s' hs => hs
  have fin : ∀ {σ' : St} {H' : Hp} {v : V} {u : Value}, Inv (cxOf CX P w K mg base N qual scope f cdv A outer s H E) [] σ' H' s' → RelV v u → Q v H' → CE outer P w H s Q u s' :=
    fun {σ' H' v u} J rv q => ⟨v, H', J.os, J.bare, J.base, J.hok, rv, q⟩
  cases fl with
  | ret u =>
    obtain ⟨v, σ', H', J, rv, q⟩ := hs
    exact fin J rv q
  | next =>
    obtain ⟨σ', H', J, q⟩ := hs
    exact fin (v := V.non) (u := Value.none) J rfl q
  | brk =>
    obtain ⟨_, _, _, q⟩ := hs
    exact False.elim q
  | cont =>
    obtain ⟨_, _, _, q⟩ := hs
    exact False.elim q
end L2

namespace L2
open PySem PySem.Spec PyProof.Rows
section
variable {X : Cx} {x : Str} {p pos : Pos} {e : Expr} {es : List Expr} {t : TA} {id T : String} {r : List V → Hp → VK → Prop}

noncomputable def tCB (r : List V → Hp → VK → Prop) (t : TA) : TE := fun σ H Q => t σ H fun vs H1 => r vs H1 Q

theorem pe_callB (hc : CallR X (.builtin id) r) (hg : Gl X x) (hm : X.mg x = none) (hv : bootBuiltins x = some (.builtin id)) (ha : PA X (e :: es) t) (hn : x ≠ "__name__" := by decide) (hdb : (x == ("__debug__" : Str)) = false := by decide)
    (he : starEach (e :: es) X.env = (false, eval e X.env) :: starEach es X.env := by rfl) (hpl : (backTo pos (starEach es X.env)).any (·.1) = false := by rfl) : PE X (.Call (.Name x p) (e :: es) [] pos) (tCB r t) := by
  (try refine ⟨?_⟩); intro pins s σ H Q I h
  refine wpAny_Call_Name_kw (ld_blt I hg hm hv ?_ hn hdb)
  exact PyProof.Rows.callWith_builtin1 (thn (ha pos pins s σ H _ I h) fun us s1 ⟨vs, H1, I1, r1, q1⟩ => hc pins s1 σ H1 vs us Q I1 r1 q1) he hpl

theorem pe_callTy (hc : CallR X (.type T) r) (hg : Gl X x) (hm : X.mg x = none) (hv : bootBuiltins x = some (.type T)) (ha : PA X (e :: es) t) (hn : x ≠ "__name__" := by decide) (hdb : (x == ("__debug__" : Str)) = false := by decide)
    (he : starEach (e :: es) X.env = (false, eval e X.env) :: starEach es X.env := by rfl) (hpl : (backTo pos (starEach es X.env)).any (·.1) = false := by rfl) : PE X (.Call (.Name x p) (e :: es) [] pos) (tCB r t) := by
  (try refine ⟨?_⟩); intro pins s σ H Q I h
  refine wpAny_Call_Name_kw (ld_blt I hg hm hv ?_ hn hdb)
  exact PyProof.Rows.callWith_type1 (thn (ha pos pins s σ H _ I h) fun us s1 ⟨vs, H1, I1, r1, q1⟩ => hc pins s1 σ H1 vs us Q I1 r1 q1) he hpl
end
end L2

namespace HT
open PySem PyProof.Rows

section
open PySem.SeqAt
open PySem.AutoSeq1 (wpAny_loadPart')
open PySem.MeetsSeq PySem.MeetsSeq2 PySem.MeetsSeq3

end

section
variable {prog : Program} {w : World} {A : Around} {E : Value → Shared → Prop} {s : Shared}



noncomputable def sIx (n d : Nat) : Option Int → Nat
  | none => d
  | some v => if v < 0 then (v + (n : Int)).toNat else min v.toNat n
theorem sIx_none (n d : Nat) : sIx n d none = d := rfl
theorem sIx_nat (n d k : Nat) : sIx n d (some (k : Int)) = min k n := by
  show (if (k : Int) < 0 then ((k : Int) + (n : Int)).toNat else min (k : Int).toNat n) = min k n
  rw [if_neg (by omega), Int.toNat_natCast]
end
end HT

namespace L2
open PySem PySem.Spec PyProof.Rows


noncomputable abbrev TO := St → Hp → (Option Int → Hp → Prop) → Prop

structure PO (X : Cx) (e : Option Expr) (t : TO) : Prop where
  go : ∀ (pins : List (Addr × Obj)) (s : Shared) (σ : St) (H : Hp) (Q : Option Int → Hp → Prop), Inv X pins σ H s → t σ H Q →
    wpAny (model X.prog X.w) X.A (evalPart e X.env) (fun u s' => ∃ o H', Inv X pins σ H' s' ∧ IsPart u o ∧ Q o H') X.xe s
noncomputable instance {X : Cx} {e : Option Expr} {t : TO} : CoeFun (PO X e t) fun _ => ∀ (pins : List (Addr × Obj)) (s : Shared) (σ : St) (H : Hp) (Q : Option Int → Hp → Prop), Inv X pins σ H s → t σ H Q →
    wpAny (model X.prog X.w) X.A (evalPart e X.env) (fun u s' => ∃ o H', Inv X pins σ H' s' ∧ IsPart u o ∧ Q o H') X.xe s := ⟨fun h => h.go⟩
noncomputable def tNoPart : TO := fun _ H Q => Q none H
noncomputable def tPart (t : TE) : TO := fun σ H Q => t σ H fun x H1 => ∃ i, x = .int i ∧ Q (some i) H1

theorem intsAre_of {ns : List Int} : ∀ {us : List Value}, Vals (ns.map V.int) us → IntsAre us ns := by
  induction ns with
  | nil => intro us r; rw [List.map_nil] at r; cases r; exact .nil
  | cons n ns ih =>
    intro us r
    rw [List.map_cons] at r
    cases r with
    | cons r1 r2 =>
      obtain ⟨t, e⟩ := r1
      subst e
      exact .cons n t (ih r2)

section
variable {X : Cx} {e : Expr} {te : TE} {lo hi : Option Expr} {tl th : TO} {pos p2 : Pos}

theorem po_none : PO X none tNoPart := by
  (try refine ⟨?_⟩); intro pins s σ H Q I h
  rw [evalPart_none]
  exact wpAny_pure ⟨none, H, I, .none, h⟩
theorem po_some (h : PE X e te) : PO X (some e) (tPart te) := by
  (try refine ⟨?_⟩); intro pins s σ H Q I hw
  rw [evalPart_some]
  refine thn (h pins s σ H _ I hw) fun u s1 ⟨x, H1, I1, r1, q1⟩ => ?_
  obtain ⟨i, rfl, q⟩ := q1
  obtain ⟨t, rfl⟩ := r1
  exact ⟨some i, H1, I1, .int i t, q⟩


noncomputable def SlR (X : Cx) (r : V → Option Int → Option Int → Hp → VK → Prop) : Prop :=
  ∀ (pins : List (Addr × Obj)) (s : Shared) (σ : St) (H : Hp) (x : V) (v vl vu : Value) (lo hi : Option Int) (sl : Addr) (Q : VK), Inv X pins σ H s → RelV x v → s.heap.IsSliceOf sl vl vu .none → IsPart vl lo → IsPart vu hi → r x lo hi H Q →
    ∃ T id, typeLookup (.type T) "__getitem__" = pure (some (.builtin id)) ∧ s.TypeIs v T ∧ wpAny (model X.prog X.w) X.A (getItem v (.ref sl)) (EP X pins σ Q) X.xe s
noncomputable def tSl (r : V → Option Int → Option Int → Hp → VK → Prop) (te : TE) (tl th : TO) : TE := fun σ H Q => te σ H fun x H1 => tl σ H1 fun l H2 => th σ H2 fun u H3 => r x l u H3 Q

theorem pe_slice {r : V → Option Int → Option Int → Hp → VK → Prop} (hr : SlR X r) (he : PE X e te) (hl : PO X lo tl) (hu : PO X hi th) : PE X (.Subscript e (.Slice lo hi none p2) pos) (tSl r te tl th) := by
  (try refine ⟨?_⟩); intro pins s σ H Q I h
  refine Subscript_ (thn (he pins s σ H _ I h) fun v s1 ⟨x, H1, I1, r1, q1⟩ => ?_)
  refine wpAny_Slice (thn (hl pins s1 σ H1 _ I1 q1) fun vl s2 ⟨l, H2, I2, pl, q2⟩ => thn (hu pins s2 σ H2 _ I2 q2) fun vu s3 ⟨u, H3, I3, pu, q3⟩ => ?_)
  rw [evalPart_none]
  refine wpAny_pure ?_
  have I4 : Inv X pins σ H3 { s3 with heap := s3.heap.push { cls := .type "slice", data := .fields #[vl, vu, .none] } } := I3.kept (t' := s3.toks) fun b ob q => Heap.get?_push_of_some _ q
  obtain ⟨T, id, hT, ht, hg⟩ := hr pins { s3 with heap := s3.heap.push { cls := .type "slice", data := .fields #[vl, vu, .none] } } σ H3 x v vl vu l u s3.heap.objs.size Q I4 r1 (Heap.IsSliceOf.new ..) pl pu q3
  show wpAny (model X.prog X.w) X.A (subscriptTail e (.Slice lo hi none p2) v (.ref s3.heap.objs.size)) (EP X pins σ Q) X.xe { s3 with heap := s3.heap.push { cls := .type "slice", data := .fields #[vl, vu, .none] } }
  exact tail_any (ops := [.ref s3.heap.objs.size, v]) ht hT hg (by with_unfolding_all rfl)


noncomputable def cutV (xs : List V) (lo hi : Option Int) : List V := (xs.drop (HT.sIx xs.length 0 lo)).take (HT.sIx xs.length xs.length hi - HT.sIx xs.length 0 lo)
theorem cutV_length (xs : List V) (lo hi : Option Int) : (cutV xs lo hi).length ≤ xs.length := by
  unfold cutV
  rw [List.length_take, List.length_drop]
  omega

end
end L2

namespace L2
open PySem PySem.Spec PyProof.Rows



noncomputable def ixN (n : Nat) (i : Int) : Option Nat := if 0 ≤ i then (if i < n then some i.toNat else none) else if -(n : Int) ≤ i then some (i + n).toNat else none
noncomputable def atI {α : Type} (xs : List α) (i : Int) : Option α := (ixN xs.length i).bind fun j => xs[j]?
theorem ixN_seq {n : Nat} {i : Int} {j : Nat} (h : ixN n i = some j) : seqIndex? i n = some j ∧ j < n ∧ -(n : Int) ≤ i ∧ i < n := by
  unfold ixN at h
  by_cases h0 : 0 ≤ i
  · rw [if_pos h0] at h
    by_cases h1 : i < n
    · rw [if_pos h1] at h
      have e : i.toNat = j := Option.some.inj h
      exact ⟨by rw [seqIndex_of h0 h1, e], by omega, by omega, h1⟩
    · rw [if_neg h1] at h; cases h
  · rw [if_neg h0] at h
    by_cases h1 : -(n : Int) ≤ i
    · rw [if_pos h1] at h
      have e : (i + n).toNat = j := Option.some.inj h
      exact ⟨by rw [seqIndex_neg (by omega) h1, e], by omega, h1, by omega⟩
    · rw [if_neg h1] at h; cases h
theorem atI_get {α : Type} {xs : List α} {i : Int} {v : α} (h : atI xs i = some v) : ∃ j, seqIndex? i xs.length = some j ∧ xs[j]? = some v ∧ j < xs.length ∧ -(xs.length : Int) ≤ i ∧ i < xs.length := by
  unfold atI at h
  cases e : ixN xs.length i with
  | none => rw [e] at h; cases h
  | some j =>
    rw [e] at h
    obtain ⟨h1, h2, h3, h4⟩ := ixN_seq e
    exact ⟨j, h1, h, h2, h3, h4⟩
theorem atI_nat {α : Type} {xs : List α} {j : Nat} {v : α} (h : xs[j]? = some v) : atI xs (j : Int) = some v := by
  have hj : j < xs.length := (List.getElem?_eq_some_iff.mp h).1
  have e : ixN xs.length (j : Int) = some j := by
    unfold ixN
    rw [if_pos (by omega), if_pos (by omega)]; simp
  unfold atI; rw [e]; exact h


noncomputable def PlainIx (b : Expr) : Prop := ∀ o i, subscripted b false o i = operate [o, i] (getItem o i)

noncomputable def IxR (X : Cx) (r : R2) : Prop :=
  ∀ (value slice : Expr) (pins : List (Addr × Obj)) (s : Shared) (σ : St) (H : Hp) (x y : V) (v u : Value) (Q : VK), Inv X pins σ H s → RelV x v → RelV y u → r x y H Q →
    subscripted slice false v u = operate [v, u] (getItem v u) → wpAny (model X.prog X.w) X.A (subscriptTail value slice v u) (EP X pins σ Q) X.xe s

noncomputable def MtR (X : Cx) (id : String) (r : V → List V → Hp → VK → Prop) : Prop :=
  ∀ (pins : List (Addr × Obj)) (s : Shared) (σ : St) (H : Hp) (x : V) (xs : List V) (v : Value) (us : List Value) (Q : VK), Inv X pins σ H s → RelV x v → Vals xs us → r x xs H Q →
    wpAny (model X.prog X.w) X.A (call (.builtin id) (v :: us)) (EP X pins σ Q) X.xe s
section
variable {X : Cx} {a b : Expr} {ta tb : TE} {pos : Pos}
theorem IxR.or {r r' : R2} (h : IxR X r) (h' : IxR X r') : IxR X (fun x y H Q => r x y H Q ∨ r' x y H Q) := by
  intro value slice pins s σ H x y v u Q I rx ry q hs
  rcases q with q | q
  · exact h value slice pins s σ H x y v u Q I rx ry q hs
  · exact h' value slice pins s σ H x y v u Q I rx ry q hs

theorem pe_ix {r : R2} (hr : IxR X r) (ha : PE X a ta) (hb : PE X b tb) (hs : PlainIx b) : PE X (.Subscript a b pos) (tOp r ta tb) := by
  (try refine ⟨?_⟩); intro pins s σ H Q I h
  exact Subscript_ (binT ha hb I h fun v u s2 x y H2 I2 rx ry q => hr a b pins s2 σ H2 x y v u Q I2 rx ry q (hs _ _))

noncomputable def rIxL (K : PySem.W.Frag) : R2 := fun x y H Q => ∃ p xs i v, x = .ref p ∧ y = .int i ∧ SqL K H p xs ∧ atI xs i = some v ∧ Q v H
noncomputable def rIxT (K : PySem.W.Frag) : R2 := fun x y H Q => ∃ p xs i v, x = .ref p ∧ y = .int i ∧ SqT K H p xs ∧ atI xs i = some v ∧ Q v H
noncomputable def rIxS : R2 := fun x y H Q => ∃ z i c, x = .str z ∧ y = .int i ∧ z.length ≤ sizeLine ∧ atI z.cps.toList i = some c ∧ Q (.str ⟨#[c]⟩) H
theorem ix_list : IxR X (rIxL X.K) := by
  intro value slice pins s σ H x y v u Q I rx ry h hs
  obtain ⟨p, xs, i, z, rfl, rfl, hq, he, q⟩ := h
  cases rx
  obtain ⟨t, rfl⟩ := ry
  obtain ⟨its, r, pl, hz⟩ := I.list hq
  obtain ⟨j, h1, h2, h3, h4, h5⟩ := atI_get he
  obtain ⟨w, ew, rw'⟩ := r.get h2
  have hl := r.length
  have hn := line63
  have fin : EP X pins σ Q w s := ⟨z, H, I, rw', q⟩
  by_cases h0 : 0 ≤ i
  · have hj : i.toNat = j := by
      rw [seqIndex_of h0 h5] at h1
      exact Option.some.inj h1
    exact item_listR pl.isList h0 (by omega) (by rw [hj]; simpa using ew) fin hs
  · have hj : (i + (its.toArray.size : Int)).toNat = j := by
      rw [seqIndex_neg (by omega) h4] at h1
      rw [List.size_toArray, ← hl]
      exact Option.some.inj h1
    exact subscriptTail_builtinR (x := w) pl.isList.typeIs slot_list_getitem.lookup
      (wpAny_getItem_list_neg (Q := fun r s' => r = w ∧ EP X pins σ Q r s') pl.isList (by omega) (by rw [List.size_toArray] <;> omega) (by omega) (by rw [hj]; simpa using ew) ⟨rfl, fin⟩) hs
theorem ix_tup : IxR X (rIxT X.K) := by
  intro value slice pins s σ H x y v u Q I rx ry h hs
  obtain ⟨p, xs, i, z, rfl, rfl, hq, he, q⟩ := h
  cases rx
  obtain ⟨t, rfl⟩ := ry
  obtain ⟨its, r, pl, hz⟩ := I.tuple hq
  obtain ⟨j, h1, h2, h3, h4, h5⟩ := atI_get he
  obtain ⟨w, ew, rw'⟩ := r.get h2
  have hl := r.length
  have hn := line63
  have fin : EP X pins σ Q w s := ⟨z, H, I, rw', q⟩
  exact subscriptTail_builtinR (x := w) pl.typeIs slot_tuple_getitem.lookup
    (getItem_tuple (j := j) (Q := fun r s' => r = w ∧ EP X pins σ Q r s') pl (by omega) (by omega) (by rw [List.size_toArray, ← hl]; exact h1) (by simpa using ew) ⟨rfl, fin⟩) hs
theorem ix_str : IxR X rIxS := by
  intro value slice pins s σ H x y v u Q I rx ry h hs
  obtain ⟨z, i, c, rfl, rfl, hz, he, q⟩ := h
  obtain ⟨t, rfl⟩ := rx
  obtain ⟨t', rfl⟩ := ry
  obtain ⟨j, h1, h2, h3, h4, h5⟩ := atI_get he
  have hl : z.cps.toList.length = z.length := by simp [Str.length]
  rw [hl] at h1 h4 h5
  have hn := line63
  exact tail_any (typeIs_str s z t) slot_str_getitem.lookup (getItem_str (c := c) (by
    have e1 : decide (i < -(2 ^ 63 : Int)) = false := decide_eq_false (by omega)
    have e2 : decide (i ≥ 2 ^ 63) = false := decide_eq_false (by omega)
    rw [e1, e2, Bool.or_false]) (by rw [h1]; simpa using h2) ⟨.str ⟨#[c]⟩, H, I.tok _, ⟨_, rfl⟩, q⟩) hs

noncomputable def rIx (K : PySem.W.Frag) : R2 := fun x y H Q => rIxL K x y H Q ∨ rIxT K x y H Q ∨ rIxS x y H Q
theorem ix_seq : IxR X (rIx X.K) := ix_list.or (ix_tup.or ix_str)



theorem mapSeq_set (its : List Value) (n j : Nat) (u : Value) : Obj.mapSeq (·.setIfInBounds j u) { cls := .type "list", data := .seq its.toArray n } = { cls := .type "list", data := .seq (its.set j u).toArray n } := by
  simp [Obj.mapSeq]
theorem Inv.lst {pins : List (Addr × Obj)} {σ : St} {H : Hp} {s : Shared} {p : Addr} {xs : List V} (I : Inv X pins σ H s) (h : H p = some (.lst xs)) :
    ∃ (its : List Value) (n : Nat), Vals xs its ∧ s.heap.get? p = some { cls := .type "list", data := .seq its.toArray n } ∧ xs.length ≤ sizeLine := by
  obtain ⟨z, its, n, r, e⟩ := I.hok p _ h
  exact ⟨its, n, r, e, z⟩

theorem Inv.lstUpd {pins : List (Addr × Obj)} {σ : St} {H : Hp} {s : Shared} {p : Addr} {xs ys : List V} {its its' : List Value} {n n' : Nat} {f : Obj → Obj} (I : Inv X pins σ H s) (h : H p = some (.lst xs))
    (ho : s.heap.get? p = some { cls := .type "list", data := .seq its.toArray n }) (hf : f { cls := .type "list", data := .seq its.toArray n } = { cls := .type "list", data := .seq its'.toArray n' }) (r : Vals ys its') (hz : ys.length ≤ sizeLine) (t : Nat) :
    Inv X pins σ (upd H p (.lst ys)) { s with heap := s.heap.update p f, toks := t } := by
  have e : (s.heap.update p f).get? p = some { cls := .type "list", data := .seq its'.toArray n' } := by
    rw [Heap.get?_update_self f ho (by rw [hf] <;> rfl), hf]
  refine I.write (x := p) (e := p) (by rw [h]; trivial) (.inl rfl) (fun b u hb q => (Heap.get?_update_other _ _ (Ne.symm hb)).trans q) ⟨_, e⟩ ?_
  exact ⟨hz, its', n', r, e⟩
noncomputable def rSetL : V → V → V → Hp → (Hp → Prop) → Prop := fun o i v H Q => ∃ p xs k j, o = .ref p ∧ i = .int k ∧ H p = some (.lst xs) ∧ ixN xs.length k = some j ∧ Q (upd H p (.lst (xs.set j v)))
theorem set_list : PSet X rSetL := by
  (try refine ⟨?_⟩); intro pins s σ H o i v ov iv u Q I ro ri rv h
  obtain ⟨p, xs, k, j, rfl, rfl, hp, hj, q⟩ := h
  cases ro
  obtain ⟨t, rfl⟩ := ri
  obtain ⟨its, n, r, ho, hz⟩ := I.lst hp
  obtain ⟨h1, h2, h3, h4⟩ := ixN_seq hj
  have hl := r.length
  have hn := line63
  have I' : Inv X pins σ (upd H p (.lst (xs.set j v))) { s with heap := s.heap.update p (Obj.mapSeq (·.setIfInBounds j u)) } :=
    I.lstUpd hp ho (mapSeq_set its n j u) (r.set rv j) (by rw [List.length_set]; exact hz) s.toks
  by_cases h0 : 0 ≤ k
  · have hk : k.toNat = j := by
      rw [seqIndex_of h0 h4] at h1
      exact Option.some.inj h1
    exact PySem.W.ki_setAt ho h0 (by omega) (by rw [List.size_toArray, ← hl]; exact h4) (by rw [hk]; exact ⟨_, I', q⟩)
  · have hk : (k + (its.toArray.size : Int)).toNat = j := by
      rw [seqIndex_neg (by omega) h3] at h1
      rw [List.size_toArray, ← hl]
      exact Option.some.inj h1
    exact PySem.W.ki_setBack ho (by omega) (by rw [List.size_toArray, ← hl]; exact h3) (by omega) (by rw [hk]; exact ⟨_, I', q⟩)


theorem slice_bounds (lo hi : Option Int) (n : Nat) : (sliceBounds lo hi none n).1 = ((HT.sIx n 0 lo : Nat) : Int) ∧ (sliceBounds lo hi none n).2.1 = ((HT.sIx n n hi : Nat) : Int) ∧ (sliceBounds lo hi none n).2.2 = 1 := by
  refine ⟨?_, ?_, rfl⟩
  · cases lo with
    | none => simp [sliceBounds, HT.sIx]
    | some i =>
      simp only [sliceBounds, HT.sIx, Option.getD_none, show (1 : Int) > 0 by decide, if_true]
      by_cases h : i < 0
      · simp only [h, if_true] <;> omega
      · simp only [h, if_false] <;> omega
  · cases hi with
    | none => simp [sliceBounds, HT.sIx]
    | some i =>
      simp only [sliceBounds, HT.sIx, Option.getD_none, show (1 : Int) > 0 by decide, if_true]
      by_cases h : i < 0
      · simp only [h, if_true] <;> omega
      · simp only [h, if_false] <;> omega
theorem slicePick_cut (its : List Value) (lo hi : Option Int) : slicePick its.toArray lo hi none = ((its.drop (HT.sIx its.length 0 lo)).take (HT.sIx its.length its.length hi - HT.sIx its.length 0 lo)).toArray := by
  obtain ⟨h1, h2, h3⟩ := slice_bounds lo hi its.toArray.size
  unfold slicePick
  rw [h1, h2, h3]
  simp only [sliceRange_one, pick_run, List.size_toArray] <;> rfl

noncomputable def rSlL (K : PySem.W.Frag) : V → Option Int → Option Int → Hp → VK → Prop := fun x lo hi H Q => ∃ a xs, x = .ref a ∧ SqL K H a xs ∧ ∀ p, H p = none → Q (.ref p) (upd H p (.lst (cutV xs lo hi)))
theorem sl_list : SlR X (rSlL X.K) := by
  (try refine ⟨?_⟩); intro pins s σ H x v vl vu lo hi sl Q I rx hs pl pu h
  obtain ⟨a, xs, rfl, hx, q⟩ := h
  cases rx
  obtain ⟨its, r, ht, hz⟩ := I.list hx
  have hlen := r.length
  refine ⟨"list", _, slot_list_getitem.lookup, ht.isList.typeIs, ?_⟩
  refine wpAny_getItem_list_slice ht.isList hs pl pu .none (by simp) ?_ (by rw [List.size_toArray] <;> omega)
  rw [slicePick_cut, ← hlen]
  refine ⟨.ref s.heap.objs.size, _, I.laid (t' := s.toks) (o := .lst (cutV xs lo hi)) (fun b ob q => Heap.get?_push_of_some _ q) (Nat.le_refl _) ?_, rfl, q _ (I.hok.fresh (Nat.le_refl _))⟩
  exact ⟨Nat.le_trans (cutV_length xs lo hi) hz, _, 0, (r.drop (HT.sIx xs.length 0 lo)).take (HT.sIx xs.length xs.length hi - HT.sIx xs.length 0 lo), Heap.get?_push_size _ rfl⟩



theorem call_len_seq : CallR X (.builtin "len") (fun xs H Q => ∃ p ys, xs = [.ref p] ∧ (SqL X.K H p ys ∨ SqT X.K H p ys) ∧ Q (.int ys.length) H) := by
  (try refine ⟨?_⟩); intro pins s σ H xs us Q I r h
  obtain ⟨p, ys, rfl, hq, q⟩ := h
  obtain ⟨u, rfl, rx⟩ := vals1 r
  cases rx
  have hn := line63
  rcases hq with hq | hq
  · obtain ⟨its, r', pl, hz⟩ := I.list hq
    have hlen := r'.length
    exact Calls.call_len_list pl.isList (by simp only [List.size_toArray] <;> omega) ⟨.int ys.length, H, I.tok _, ⟨s.toks + 1, by rw [List.size_toArray, hlen]⟩, q⟩
  · obtain ⟨its, r', pl, hz⟩ := I.tuple hq
    have hlen := r'.length
    exact len_tuple pl (by simp only [List.size_toArray] <;> omega) ⟨.int ys.length, H, I.tok _, ⟨s.toks + 1, by rw [List.size_toArray, hlen]⟩, q⟩


noncomputable def tyV (K : PySem.W.Frag) (T : String) (x : V) (H : Hp) : Prop := match x with
  | .str _ => T = "str"
  | .int _ => T = "int"
  | .ref p => (T = "list" ∧ ∃ xs, SqL K H p xs) ∨ (T = "tuple" ∧ ∃ o, K.lookup p = some o ∧ o.cls = .type "tuple" ∧ o.dict = none) ∨
      (T = "dict" ∧ ((∃ kvs, H p = some (.dK kvs)) ∨ ∃ kvs, H p = some (.dT kvs))) ∨ (T = "set" ∧ ∃ S n, H p = some (.set S n))
  | _ => False
theorem tyV_is {pins : List (Addr × Obj)} {σ : St} {H : Hp} {s : Shared} {T : String} {x : V} {v : Value} (I : Inv X pins σ H s) (r : RelV x v) (ty : tyV X.K T x H) :
    s.TypeIs v T ∧ ∀ a, v = .ref a → ∃ ob, s.heap.get? a = some ob ∧ ob.dict = none := by
  cases x with
  | str z =>
    obtain ⟨t, rfl⟩ := r
    cases (show T = "str" from ty)
    exact ⟨typeIs_str s z t, fun _ e => nomatch e⟩
  | int i =>
    obtain ⟨t, rfl⟩ := r
    cases (show T = "int" from ty)
    exact ⟨typeIs_int s i t, fun _ e => nomatch e⟩
  | ref p =>
    cases r
    rcases ty with ⟨rfl, xs, hq⟩ | ⟨rfl, o, hk, hc, hd⟩ | ⟨rfl, hk⟩ | ⟨rfl, S, n, hk⟩
    · obtain ⟨its, _, pl, _⟩ := I.list hq
      refine ⟨pl.isList.typeIs, fun a e => ?_⟩
      cases e
      obtain ⟨o, n, e, c, hd, _⟩ := pl
      exact ⟨o, e, hd⟩
    · refine ⟨⟨o, I.kIn p o hk, hc⟩, fun a e => ?_⟩
      cases e
      exact ⟨o, I.kIn _ o hk, hd⟩
    · have z : ∃ o, s.heap.get? p = some o ∧ o.ExactDict := by
        rcases hk with ⟨kvs, hk⟩ | ⟨kvs, hk⟩
        · obtain ⟨_, _, _, _, o, _, _, e, ex, _⟩ := I.hok p _ hk
          exact ⟨o, e, ex⟩
        · obtain ⟨_, _, _, _, o, _, _, e, ex, _⟩ := I.hok p _ hk
          exact ⟨o, e, ex⟩
      obtain ⟨o, e, ex⟩ := z
      refine ⟨⟨o, e, ex.1⟩, fun a e2 => ?_⟩
      cases e2
      exact ⟨o, e, ex.2.1⟩
    · obtain ⟨o, _, _, _, e, ex, _⟩ := I.hok p _ hk
      refine ⟨⟨o, e, ex.1⟩, fun a e2 => ?_⟩
      cases e2
      exact ⟨o, e, ex.2.1⟩
  | _ => exact False.elim ty
noncomputable def tBM (K : PySem.W.Frag) (T : String) (r : V → List V → Hp → VK → Prop) (to : TE) (t : TA) : TE := fun σ H Q => to σ H fun x H1 => tyV K T x H1 ∧ t σ H1 fun xs H2 => r x xs H2 Q
variable {o e : Expr} {es : List Expr} {to : TE} {t : TA} {name : Str} {apos cpos : Pos} {T id : String} {r : V → List V → Hp → VK → Prop}
theorem pe_bm (pa : PlainAttrs T) (slot : Slot T name id) (hty : typeOf (.builtin id) = pure (.type "method_descriptor")) (hm : MtR X id r) (ho : PE X o to) (ha : PA X (e :: es) t)
    (hbase : attributeBase o name X.env (eval o X.env) = eval o X.env := by rfl)
    (hfew : ((backTo cpos (starEach (e :: es) X.env)).all (fun x => !x.1) && (backToKw cpos (keywordEach [] X.env)).all (fun x => x.1.isSome)
      && decide ((e :: es).length + ([] : List Keyword).length + (if ([] : List Keyword).isEmpty then 0 else 1) < 30)) = true := by rfl)
    (hline : (apos.endLine == cpos.line) = true := by rfl) (hs : starEach (e :: es) X.env = (false, eval e X.env) :: starEach es X.env := by rfl) (hplain : (backTo cpos (starEach es X.env)).any (·.1) = false := by rfl) :
    PE X (.Call (.Attribute o name apos) (e :: es) [] cpos) (tBM X.K T r to t) := by
  (try refine ⟨?_⟩); intro pins s σ H Q I h
  refine wpAny_Call_method_late hbase hfew hline rfl (thn (ho pins s σ H _ I h) fun v s1 ⟨x, H1, I1, r1, ty, q1⟩ => ?_)
  obtain ⟨h1, h2⟩ := tyV_is I1 r1 ty
  refine ⟨T, id, pa, slot, hty, h1, h2, ?_⟩
  have hA := ha cpos pins s1 σ H1 _ I1 q1
  rw [hs] at hA ⊢
  refine Calls.callWith_builtin (by show (false || (backTo cpos (starEach es X.env)).any (·.1)) = false; rw [hplain] <;> rfl) (Calls.evalArgs_plain ?_)
  exact thn hA fun us s2 ⟨vs, H2, I2, r2, q2⟩ => hm pins s2 σ H2 x vs v us Q I2 r1 r2 q2
/- xs.append(e), list.index on a module's tuple .. are MtR facts of 06m -/
end
end L2

namespace L2
open PySem PySem.Spec PyProof.Rows

noncomputable def MtM (X : Cx) (id : String) (r : V → List V → Hp → VK → Prop) : Prop :=
  ∀ (pins : List (Addr × Obj)) (s : Shared) (σ : St) (H : Hp) (x : V) (xs : List V) (v : Value) (us : List Value) (Q : VK), Inv X pins σ H s → RelV x v → Vals xs us → r x xs H Q →
    wpAny (model X.prog X.w) X.A (call (.builtin id) (v :: us)) (EP X pins σ Q) X.xe s


theorem Vals.one : ∀ {x : V} {us : List Value}, Vals [x] us → ∃ u, us = [u] ∧ RelV x u
  | _, _, .cons r .nil => ⟨_, rfl, r⟩
theorem Vals.eraseIdx : ∀ {xs : List V} {us : List Value} (i : Nat), Vals xs us → Vals (xs.eraseIdx i) (us.eraseIdx i)
  | _, _, _, .nil => .nil
  | _, _, 0, .cons _ t => t
  | _, _, i + 1, .cons r t => .cons r (Vals.eraseIdx i t)
theorem Vals.rep {xs : List V} {us : List Value} (h : Vals xs us) : ∀ k : Nat, Vals (List.replicate k xs).flatten (List.replicate k us).flatten
  | 0 => .nil
  | k + 1 => by
    rw [List.replicate_succ, List.replicate_succ, List.flatten_cons, List.flatten_cons]
    exact Vals.append h (Vals.rep h k)
theorem foldl_rep (its : List Value) : ∀ (k : Nat) (acc : List Value),
    List.foldl (fun x1 x2 => x1 ++ x2) acc.toArray (List.replicate k its.toArray) = (acc ++ (List.replicate k its).flatten).toArray
  | 0, acc => by simp
  | k + 1, acc => by
    have e : acc.toArray ++ its.toArray = (acc ++ its).toArray := by simp
    have e2 : (acc ++ its) ++ (List.replicate k its).flatten = acc ++ (List.replicate (k + 1) its).flatten := by
      rw [List.replicate_succ, List.flatten_cons, List.append_assoc]
    rw [← e2, ← foldl_rep its k (acc ++ its), ← e, List.replicate_succ, List.foldl_cons]

section
variable {X : Cx} {pins : List (Addr × Obj)} {σ : St} {H : Hp} {s : Shared} {l b : Addr} {xs ys zs : List V}


theorem Inv.lset {its its' : List Value} {n : Nat} {f : Array Value → Array Value} {t' : Nat} (I : Inv X pins σ H s) (hH : H l = some (.lst xs))
    (e : s.heap.get? l = some { cls := .type "list", data := .seq its.toArray n }) (hf : f its.toArray = its'.toArray) (hv : Vals ys its') (hz : ys.length ≤ sizeLine) :
    Inv X pins σ (upd H l (.lst ys)) { s with heap := s.heap.update l (Obj.mapSeq f), toks := t' } := by
  have q := PySem.IsL.update e f
  rw [hf] at q
  refine I.write (x := l) (e := l) (by rw [hH]; exact trivial) (.inl rfl) (fun b' u hb hu => (Heap.get?_update_other s.heap (Obj.mapSeq f) (Ne.symm hb)).trans hu) ⟨_, q⟩ ?_
  exact ⟨hz, its', _, hv, q⟩
theorem Inv.lnew {its : List Value} {t' : Nat} (I : Inv X pins σ H s) (hv : Vals ys its) (hz : ys.length ≤ sizeLine) :
    Inv X pins σ (upd H s.heap.objs.size (.lst ys)) { s with heap := s.heap.push { cls := .type "list", data := .seq its.toArray }, toks := t' } :=
  I.laid (fun _ _ q => Heap.get?_push_of_some _ q) (Nat.le_refl _) ⟨hz, its, 0, hv, Heap.get?_push_size _ rfl⟩
theorem Inv.fresh (I : Inv X pins σ H s) : H s.heap.objs.size = none := I.hok.fresh (Nat.le_refl _)
theorem Inv.lstM (I : Inv X pins σ H s) (hH : H l = some (.lst xs)) : xs.length ≤ sizeLine ∧ ∃ (its : List Value) (n : Nat), Vals xs its ∧ xs.length = its.length ∧ s.heap.get? l = some { cls := .type "list", data := .seq its.toArray n } := by
  obtain ⟨z, its, n, r, e⟩ := I.hok l _ hH
  exact ⟨z, its, n, r, r.length, e⟩

theorem notLongL {n : Nat} (h : n ≤ sizeLine) : Builtin.List.listTooLong n = false := by
  unfold Builtin.List.listTooLong
  exact decide_eq_false (by omega)
end

section
variable {X : Cx}


noncomputable def rAppend : V → List V → Hp → VK → Prop := fun x vs H Q => ∃ l xs y, x = .ref l ∧ vs = [y] ∧ H l = some (.lst xs) ∧ xs.length < sizeLine ∧ Q .non (upd H l (.lst (xs ++ [y])))
theorem mt_append : MtM X "list.append" rAppend := by
  (try refine ⟨?_⟩); intro pins s σ H x vs v us Q I rx rv h
  obtain ⟨l, xs, y, rfl, rfl, hH, hz, q⟩ := h
  cases rx
  obtain ⟨u, rfl, ru⟩ := rv.one
  obtain ⟨z, its, n, r, hl, e⟩ := I.lstM hH
  refine call_meets F.slot_list_append ⟨_, e, rfl⟩ F.entry_list_append (F.args_list_append_2 _ _) (PySem.list_append l its.toArray n u (by rw [List.size_toArray]; omega)) ⟨e, ?_⟩
  refine ⟨.non, _, I.lset (its' := its ++ [u]) hH e (by simp) (r.append (.cons ru .nil)) ?_, rfl, q⟩
  rw [List.length_append, List.length_singleton]
  omega

noncomputable def rExtend : V → List V → Hp → VK → Prop := fun x vs H Q => ∃ l b xs zs, x = .ref l ∧ vs = [.ref b] ∧ H l = some (.lst xs) ∧ H b = some (.lst zs) ∧ xs.length + zs.length ≤ sizeLine ∧ Q .non (upd H l (.lst (xs ++ zs)))
theorem mt_extend : MtM X "list.extend" rExtend := by
  (try refine ⟨?_⟩); intro pins s σ H x vs v us Q I rx rv h
  obtain ⟨l, b, xs, zs, rfl, rfl, hH, hB, hz, q⟩ := h
  cases rx
  obtain ⟨u, rfl, ru⟩ := rv.one
  cases ru
  obtain ⟨z, its, n, r, hl, e⟩ := I.lstM hH
  obtain ⟨z2, its2, n2, r2, hl2, e2⟩ := I.lstM hB
  have hsz : its.toArray.size + its2.toArray.size ≤ sizeLine := by rw [List.size_toArray, List.size_toArray]; omega
  have hlong : ¬ (!its.toArray.isEmpty && Builtin.List.listTooLong (its.toArray.size + its2.toArray.size)) = true := by
    rw [notLongL hsz, Bool.and_false]
    exact Bool.false_ne_true
  refine call_meets F.slot_list_extend ⟨_, e, rfl⟩ F.entry_list_extend (F.args_list_extend_2 _ _)
    (AutoSeq1.list_extend_list_list_0 l its.toArray n b its2.toArray n2 hlong (by rw [List.size_toArray]; omega) (by omega)) ⟨e, e2, ?_⟩
  refine ⟨.non, _, I.lset (its' := its ++ its2) hH e (by simp) (r.append r2) ?_, rfl, q⟩
  rw [List.length_append]
  omega


noncomputable def rCat : R2 := fun x y H Q => ∃ l b xs zs, x = .ref l ∧ y = .ref b ∧ H l = some (.lst xs) ∧ H b = some (.lst zs) ∧ xs.length + zs.length ≤ sizeLine ∧ ∀ p, H p = none → Q (.ref p) (upd H p (.lst (xs ++ zs)))
theorem op_cat : OpR X (binaryOp .Add) rCat := by
  (try refine ⟨?_⟩); intro pins s σ H x y v u Q I rx ry h
  obtain ⟨l, b, xs, zs, rfl, rfl, hH, hB, hz, q⟩ := h
  cases rx
  cases ry
  obtain ⟨z, its, n, r, hl, e⟩ := I.lstM hH
  obtain ⟨z2, its2, n2, r2, hl2, e2⟩ := I.lstM hB
  refine PySem.P.add_list e e2 ?_ (by rw [List.size_toArray, List.size_toArray]; omega)
  have ea : its.toArray ++ its2.toArray = (its ++ its2).toArray := by simp
  rw [ea]
  exact ⟨.ref _, _, I.lnew (t' := s.toks) (r.append r2) (by rw [List.length_append]; omega), rfl, q _ I.fresh⟩

noncomputable def rRep : R2 := fun x y H Q => ∃ l k xs, x = .ref l ∧ y = .int k ∧ H l = some (.lst xs) ∧ -(2 ^ 63) ≤ k ∧ k < 2 ^ 63 ∧ xs.length * k.toNat ≤ sizeLine ∧
  ∀ p, H p = none → Q (.ref p) (upd H p (.lst (List.replicate k.toNat xs).flatten))
theorem len_rep {α : Type} (xs : List α) (k : Nat) : (List.replicate k xs).flatten.length = k * xs.length := by
  induction k with
  | zero => simp
  | succ k ih => rw [List.replicate_succ, List.flatten_cons, List.length_append, ih, Nat.succ_mul, Nat.add_comm]
theorem op_rep : OpR X (binaryOp .Mult) rRep := by
  (try refine ⟨?_⟩); intro pins s σ H x y v u Q I rx ry h
  obtain ⟨l, k, xs, rfl, rfl, hH, h1, h2, hz, q⟩ := h
  cases rx
  obtain ⟨t, rfl⟩ := ry
  obtain ⟨z, its, n, r, hl, e⟩ := I.lstM hH
  have hlen : its.toArray.size * k.toNat ≤ sizeLine := by rw [List.size_toArray, ← hl]; exact hz
  have hcap : ¬ its.toArray.size * k.toNat > (2 ^ 63 - 1) / 8 := by
    have : (sizeLine : Nat) ≤ (2 ^ 63 - 1) / 8 := by decide
    omega
  have hfit : ¬ (!Builtin.List.listFitsIndex k) = true := by
    rw [fitsIndex_both h1 h2]
    exact Bool.false_ne_true
  have hlong : ¬ Builtin.List.listTooLong (its.toArray.size * k.toNat) = true := by
    rw [notLongL hlen]
    exact Bool.false_ne_true
  have hnew : List.foldl (fun x1 x2 => x1 ++ x2) #[] (List.replicate (if its.toArray.isEmpty = true then 0 else k.toNat) its.toArray) = (List.replicate k.toNat its).flatten.toArray := by
    have f0 : ∀ m : Nat, List.foldl (fun x1 x2 => x1 ++ x2) #[] (List.replicate m its.toArray) = (List.replicate m its).flatten.toArray := fun m => by
      have := foldl_rep its m []
      rw [List.nil_append] at this
      exact this
    rw [f0]
    cases its with
    | nil => simp
    | cons a r' => rw [if_neg (by simp)]
  refine wpAny_binaryOp_repeat_ref (T := "list") (U := "int") (by decide) ⟨_, e, rfl⟩ (fun s' => typeIs_int s' k t) noFill_list_mul F.fills_int_mul F.slot_int_rmul repeat_list F.slot_int_index.lookup
    (call_meets F.slot_int_rmul (typeIs_int s k t) F.entry_int_rmul (F.args_int_rmul_2 _ _) (int___rmul___int_list k t l its.toArray n)
      ⟨e, rfl, ⟨_, e, rfl⟩, call_meets F.slot_list_mul ⟨_, e, rfl⟩ F.entry_list_mul (F.args_list_mul_2 _ _) (AutoListH.list___mul___list_int_3 l its.toArray n k t hfit hcap hlong) ⟨e, ?_⟩⟩)
  rw [hnew]
  exact ⟨.ref _, _, I.lnew (t' := s.toks) (r.rep k.toNat) (by rw [len_rep, Nat.mul_comm]; exact hz), rfl, q _ I.fresh⟩


end


section
variable {prog : Program} {w : World} {A : Around} {E : Value → Shared → Prop} {s : Shared}
end

section
variable {X : Cx}
end
end L2

namespace Att
open PySem PySem.W PySem.Calls PyProof.Rows


theorem ints_of_wellAll {P : Params} {h : Heap} : ∀ (ns : List Int) (vs : List Value), WellAll P h vs (ns.map WData.int) → IntsAre vs ns := by
  intro ns
  induction ns with
  | nil =>
    intro vs w
    rw [List.map_nil] at w
    cases w
    exact .nil
  | cons n ns ih =>
    intro vs w
    rw [List.map_cons] at w
    cases w with
    | cons a b =>
      cases a
      exact .cons _ _ (ih _ b)

theorem script_of {l : OpenLaw} {n : Nat} (hn : l.most = some n) {P : Params} {h : Heap} {args : List WData} {vals : List Value}
    (hpre : l.row.toRowW.claim.pre args = true) (hwl : WellAll P h vals args) :
    ∃ a vs ns, vals = [Value.ref a] ∧ args = [WData.list (ns.map WData.int)] ∧ h.get? a = some { cls := .type "list", data := .seq vs.toArray } ∧ IntsAre vs ns ∧ ns.length ≤ n := by
  have hsh : WShape.hasAll [] args [.list .int] = true := (pre_splitW hpre).1
  have hc : l.pre.holds [] { args := args } = true := (pre_splitW hpre).2
  obtain ⟨d, r, rfl, h1, h2⟩ := hasAllW_cons hsh
  obtain rfl := hasAllW_nil h2
  obtain ⟨xs, rfl, h3⟩ := hasW_list h1
  obtain ⟨ns, rfl⟩ := items_int h3
  have hlen : ns.length ≤ n := by
    unfold OpenLaw.pre at hc
    have h4 : (WTm.not (.lt (.lit (.int (n : Int))) (.len (.arg 0)))).holds [] { args := [.list (ns.map .int)] } = true := by
      have h4 := (holds_andW hc).1
      rw [hn] at h4
      exact h4
    have h5 := condW_of h4 (w_not (w_lt w_lit (w_len_list (w_arg rfl))))
    rw [List.length_map] at h5
    refine Nat.le_of_not_lt fun q => ?_
    have q' : (n : Int) < ((ns.length : Nat) : Int) := by omega
    first
      | (rw [decide_eq_true q'] at h5; exact absurd h5 (by decide))
      | (simp at h5; omega)
  cases hwl with
  | cons w1 w2 =>
    cases w2
    cases w1 with
    | list ho hall => exact ⟨_, _, ns, rfl, rfl, ho, ints_of_wellAll ns _ hall, hlen⟩

theorem post_true (l : OpenLaw) (args : List WData) : l.row.toRowW.claim.post args (.bool true) args = true :=
  postW_of (r := l.row.toRowW) (X := (true == true))
    (show WShape.has [] (.bool true) .bool = true by first | rfl | decide | simp [WShape.has, WShape.arms, WShape.armsAll])
    (show (WTm.eq .res (.lit (.bool true))).value [] { args := args, res := some (.bool true), after := args } = some (.bool (true == true)) from w_eq_bool (w_res rfl) w_lit) rfl



theorem attach_call {l : OpenLaw} {n : Nat} {q : Program} {loose : List Str} {XP : (Str → Option Value) → Heap → Prop} {YP : World → Heap → Prop} {d : DefRec}
    (hn : l.most = some n) (hdf : d.params.defaults = [])
    (call : ∀ (w : World) (s₀ s₁ : Shared) (mg mb : Str → Option Value) (fa : Addr) (o : Obj) (pm cd doc : Value) (a : Addr) (vs : List Value) (ns : List Int),
      Ground q loose [] XP w s₀ mg mb s₁.heap → YP w s₁.heap →
      s₁.heap.get? fa = some o → o.data = .func (docDef d.name d.params d.body d.scope pm cd doc) → s₁.heap.CodeRec cd d.name → mg d.name = some (.ref fa) →
      s₁.heap.get? a = some { cls := .type "list", data := .seq vs.toArray } → IntsAre vs ns → ns.length ≤ n → s₁.gens = #[] →
      codeAny (model l.prog w) callerA (.call (.ref fa) ⟨[.ref a], []⟩) (fun r s' => r = .ok (.ret (.bool true)) ∧ OldK s₁.heap s'.heap ∧ s'.os = s₁.os ∧ AllBare s'.gens) s₁) :
    WalkO q loose XP YP l.row.toRowW d [] (fun f vs => PySem.call f vs) := by
  intro w s₀ s₁ mg mb G Y fa o pm cd doc dV kV ho hd hcd hD hmg hg args vals as hpre hlay hrd hwl hlo
  obtain rfl : dV = .none := Dflts.none hD hdf
  obtain rfl : kV = .none := Dflts.noKw hD
  obtain ⟨a, vs, ns, rfl, rfl, hobj, hints, hlen⟩ := script_of hn hpre hwl
  refine enter_call (codeAny_mono (call w s₀ s₁ mg mb fa o pm cd doc a vs ns G Y ho (fd_plain hd) hcd hmg hobj hints hlen hg) fun r s' hq => ?_)
  obtain ⟨rfl, h2, h3, h4⟩ := hq
  exact ⟨.inl ⟨.bool true, .bool true, [], rfl, fun _ => rfl, .bool true, post_true l _, fun _ => ⟨List.Pairwise.nil, fun _ hm => (nomatch hm)⟩⟩, h2, h3, h4⟩


section
variable {prog : Program} {w : World} {A : Around} {E : Value → Shared → Prop} {s : Shared} {K : Frag}


end
end Att

namespace L2
open PySem PySem.Spec PyProof.Rows

theorem vals_ints : ∀ {vs : List Value} {ns : List Int}, IntsAre vs ns → Vals (ns.map V.int) vs
  | _, _, .nil => .nil
  | _, _, .cons n t h => .cons ⟨t, rfl⟩ (vals_ints h)


noncomputable def Only (H : Hp) : Prop := ∀ b, H b = none ∨ ∃ o xs, H b = some (.frz o (.lst xs))


theorem law_call {P : Program} {w : World} {K : PySem.W.Frag} {mg mb : Str → Option Value} {CX : CXT} {k : Nat} {fa a : Addr} {fd : FuncData} {x : Str} {sp : Sp} {s₁ : Shared} {vs : List Value} {ns : List Int}
    (KX : K.In s₁.heap) (hns : s₁.heap.Ns mainGlobals mg) (hb : s₁.heap.Ns builtinsNs mb) (hbb : ∀ x : Str, x ≠ "__name__" → mb x = bootBuiltins x) (hlim : s₁.heap.NoLimit) (hg : s₁.gens = #[])
    (ha : s₁.heap.get? a = some { cls := .type "list", data := .seq vs.toArray }) (hi : IntsAre vs ns) (hl : ns.length ≤ sizeLine) (hr : Room k callerA)
    (F : ∀ base : Heap, K.In base → base.Ns mainGlobals mg → FnOk P w K mg base CX k fa fd [x] sp) (hbind : ∀ (s : Shared) (u : Value), BindsTo s fd ⟨[u], []⟩ [(x, u)])
    (hsp : ∀ H : Hp, Only H → SqL K H a (ns.map V.int) → sp [.ref a] H (fun v _ => v = .bl true) fun _ _ _ => False)
    (hCX : ∀ H e s', CX [] H s₁ (fun _ _ _ => False) e s' → False) :
    codeAny (model P w) callerA (.call (.ref fa) ⟨[.ref a], []⟩) (fun r s' => r = .ok (.ret (.bool true)) ∧ OldK s₁.heap s'.heap ∧ s'.os = s₁.os ∧ AllBare s'.gens) s₁ := by
  have rv := vals_ints hi
  have lenV := hi.length
  -- from an abstract heap in which nothing but the script may be tracked
  have core : ∀ H : Hp, Only H → SqL K H a (ns.map V.int) → HOk P w H s₁.heap → (∀ b, H b ≠ none → b = a) → (H a ≠ none → K.lookup a = none) →
      codeAny (model P w) callerA (.call (.ref fa) ⟨[.ref a], []⟩) (fun r s' => r = .ok (.ret (.bool true)) ∧ OldK s₁.heap s'.heap ∧ s'.os = s₁.os ∧ AllBare s'.gens) s₁ := by
    intro H hO hS hok hA hK
    have base_of : ∀ {b : Addr} {o : Obj}, s₁.heap.get? b = some o → H b = none → (hidT s₁.heap H).get? b = some o := fun e n => hidT_get e n
    have noA : ∀ {b : Addr} {o : Obj} {es : Array DictEntry} {ep : Nat}, s₁.heap.get? b = some o → o.data = .dict es ep → H b = none := fun {b o es ep} e d => by
      cases q : H b with
      | none => rfl
      | some u =>
        have e' : b = a := hA b (by rw [q]; simp)
        subst e'
        rw [ha] at e; cases e
        have d' : Data.seq vs.toArray _ = Data.dict es ep := d
        cases d'
    have nsK : ∀ {b : Addr} {m : Str → Option Value}, s₁.heap.Ns b m → (hidT s₁.heap H).Ns b m := fun {b m} ⟨o, es, ep, e, d, r⟩ => ⟨o, es, ep, base_of e (noA e d), d, r⟩
    have hKb : K.In (hidT s₁.heap H) := fun b o e => base_of (KX b o e) (by
      cases q : H b with
      | none => rfl
      | some u =>
        have e' : b = a := hA b (by rw [q]; simp)
        subst e'
        rw [hK (by rw [q]; simp)] at e; cases e)
    have hM : Mod K mg (hidT s₁.heap H) := ⟨hKb, nsK hns, ⟨mb, nsK hb, hbb⟩, let ⟨mc, h1, h2⟩ := hlim; ⟨mc, nsK h1, h2⟩⟩
    have e0 : Env0 P w K mg (hidT s₁.heap H) callerA [] s₁ H := ⟨rfl, hM, fun b o e => of_hidT e, Nat.le_of_eq (hidT_size _ _), trivial, fun b hb => absurd (show b ∈ ([] : List Addr) from hb) (by simp), hok, .of_eq hg⟩
    refine codeAny_mono ((F _ hKb (nsK hns)).run callerA [] s₁ H ⟨[.ref a], []⟩ [.ref a] [.ref a] _ _ hr e0 (hbind s₁ (.ref a)) (.cons rfl .nil) (hsp H hO hS)) fun r s' h => ?_
    cases r with
    | error e => exact (hCX H e s' h).elim
    | ok fl =>
      cases fl with
      | next => exact False.elim h
      | brk => exact False.elim h
      | cont => exact False.elim h
      | ret u =>
        obtain ⟨v, H', os, bare, un, hok', r', q⟩ := h
        have q' : v = .bl true := q
        subst q'
        obtain rfl : u = Value.bool true := r'
        refine ⟨rfl, OldK.of_keep fun b o e => ?_, os, bare⟩
        cases q : H b with
        | none => exact un.keep b o e q (by intro z; exact absurd (show b ∈ ([] : List Addr) from z) (by simp)) (by simp)
        | some u =>
          rcases hO b with z | ⟨ob, xs, z⟩
          · rw [q] at z; cases z
          · have z2 := un.frzs b ob _ z
            obtain ⟨e1, _⟩ := hok b _ z
            obtain ⟨e2, _⟩ := hok' b _ z2
            rw [e] at e1; cases e1
            exact e2
  cases hk : K.lookup a with
  | some o =>
    -- the script is one of the module's own objects
    have e := KX a o hk
    rw [ha] at e
    cases e
    refine core (fun _ => none) (fun _ => .inl rfl) (.inr ⟨_, vs.toArray, _, hk, rfl, rfl, rfl, by rw [List.size_toArray, lenV]; exact hl, by simpa using rv⟩) (fun b u z => by have z' : (none : Option HO) = some u := z; cases z') (fun b z => absurd rfl z) fun z => absurd rfl z
  | none =>
    refine core (fun b => if b = a then some (.frz { cls := .type "list", data := .seq vs.toArray } (.lst (ns.map V.int))) else none) (fun b => ?_) (.inl (.inr ⟨{ cls := .type "list", data := .seq vs.toArray }, if_pos rfl⟩)) (fun b u z => ?_) (fun b z => ?_) fun _ => hk
    · by_cases hb : b = a
      · exact .inr ⟨_, _, if_pos hb⟩
      · exact .inl (if_neg hb)
    · by_cases hb : b = a
      · have z' := (if_pos hb).symm.trans z
        cases z'
        subst hb
        exact ⟨ha, by rw [List.length_map]; exact hl, vs, _, rv, ha⟩
      · have z' := (if_neg hb).symm.trans z
        cases z'
    · by_cases hb : b = a
      · exact hb
      · exact absurd (if_neg hb) z
end L2

namespace L2
open PySem PySem.Spec PyProof.Rows


theorem walk_of {l : PySem.W.OpenLaw} {n k : Nat} {q : Program} {loose : List Str} {XP : (Str → Option Value) → Heap → Prop} {YP : World → Heap → Prop} {d : DefRec} {K : Params → PySem.W.Frag} {CX : World → CXT} {sp : World → Sp} {x : Str}
    (hn : l.most = some n) (hn2 : n ≤ sizeLine) (hdf : d.params.defaults = []) (hr : Room k callerA)
    (hY : ∀ (w : World) (h : Heap), YP w h → (K w.params).In h)
    (F : ∀ (w : World) (mg : Str → Option Value) (fa : Addr) (h : Heap), (K w.params).In h → h.Ns mainGlobals mg → mg d.name = some (.ref fa) →
      ∃ fd : FuncData, (∀ (s : Shared) (u : Value), BindsTo s fd ⟨[u], []⟩ [(x, u)]) ∧
        ∀ base : Heap, (K w.params).In base → base.Ns mainGlobals mg → FnOk l.prog w (K w.params) mg base (CX w) k fa fd [x] (sp w))
    (hsp : ∀ (w : World) (H : Hp) (a : Addr) (ns : List Int), ns.length ≤ n → Only H → SqL (K w.params) H a (ns.map V.int) → sp w [.ref a] H (fun v _ => v = .bl true) fun _ _ _ => False)
    (hCX : ∀ (w : World) (H : Hp) (s : Shared) (e : Value) (s' : Shared), CX w [] H s (fun _ _ _ => False) e s' → False) :
    PySem.W.WalkO q loose XP YP l.row.toRowW d [] (fun f vs => PySem.call f vs) := by
  refine Att.attach_call hn hdf fun w s₀ s₁ mg mb fa o pm cd doc a vs ns G Y ho hd hcd hmg hobj hints hlen hg => ?_
  have KX := hY w _ Y
  obtain ⟨fd, hb, hF⟩ := F w mg fa _ KX G.T.g hmg
  exact law_call KX G.T.g G.T.b G.T.builtins G.T.nolimit hg hobj hints (Nat.le_trans hlen hn2) hr hF hb (fun H hO hS => hsp w H a ns hlen hO hS) fun H e s' => hCX w H s₁ e s'
end L2

/- THE LAST THEOREM (shape; LID, My.* are yours):
   My.Adr: a structure of the addresses that your layer names (classes, functions); My.Txt K t: a structure (Prop) of the equations over K;
   My.txt_mk : {K} {implicit addresses ..} (e1 : nsIn K mainGlobals "law" = some (some (.ref f))) (e2 : K.lookup f = some ⟨oc, od, .func (fnOf "law" "law" params body scope dV kV doc pm an cdv ct), sl⟩) (e3 : codeIn K cdv "law" = true) .. : ∃ t, My.Txt K t

(the tactic k_is has no namespace: write k_is) -/


namespace L2
open PySem PySem.Spec PyProof.Rows


noncomputable def defArgs (s : Stmt) : Arguments := match s with
  | .FunctionDef _ a _ _ _ _ _ _ _ _ => a
  | _ => { posonlyargs := [], args := [], vararg := none, kwonlyargs := [], kw_defaults := [], kwarg := none, defaults := [] }
noncomputable def defBody (s : Stmt) : List Stmt := match s with
  | .FunctionDef _ _ b _ _ _ _ _ _ _ => b
  | _ => []
noncomputable def defScope (s : Stmt) : Scope := match s with
  | .FunctionDef _ _ _ _ _ _ sc _ _ _ => sc
  | _ => { kind := .function, names := [], isGenerator := false, isCoroutine := false }


noncomputable abbrev CX0 : CXT := fun _ _ _ _ _ _ => False
noncomputable abbrev E0 : XK := fun _ _ _ => False
theorem pass0 {X : Cx} : Passes CX0 X E0 := fun _ _ _ _ _ _ _ h => h.elim


structure Fun (K : PySem.W.Frag) (x qual : Str) (st : Stmt) (f : Addr) (fd : FuncData) : Prop where
  ex : ∃ (oc : Value) (od : Option Addr) (kV doc pm : Value) (an : Option Addr) (cdv ct : Value) (osl : Array (Option Value)),
    fd = PySem.W.fnOf x qual (defArgs st) (defBody st) (defScope st) .none kV doc pm an cdv ct ∧ K.lookup f = some ⟨oc, od, .func fd, osl⟩ ∧ PySem.W.codeIn K cdv qual = true
  kp : PySem.W.keepIn K (.ref f) = true
section
variable {P : Program} {w : World} {K : PySem.W.Frag} {mg : Str → Option Value} {base : Heap}

theorem Fun.ok {x qual : Str} {st : Stmt} {f : Addr} {fd : FuncData} {N ps : List Str} {k : Nat} {sp : Sp} (F : Fun K x qual st f fd) (S : FnScope N ps (defScope st)) (len : ∀ vs H Q E, sp vs H Q E → vs.length = ps.length)
    (hbody : ∀ (cdv : Value) (A : Around) (outer : List Env) (s : Shared) (H : Hp) (vs : List V) (Q : VK) (E : XK), Room k (A.deeper (envOfC qual (defScope st) s.heap.objs.size f cdv)) → sp vs H Q E →
      ∃ t, PSs (cxOf CX0 P w K mg base N qual (defScope st) f cdv A outer s H E).nox (defBody st) t ∧ t { nx := fun _ H' => Q .non H', rt := Q } (start N vs) H) : FnOk P w K mg base CX0 (k + 1) f fd ps sp := by
  obtain ⟨oc, od, kV, doc, pm, an, cdv, ct, osl, rfl, lk, hcd⟩ := F.ex
  refine fn_of lk hcd S len fun A outer s H vs Q E hr hsp => ?_
  obtain ⟨t, h, q⟩ := hbody cdv A outer s H vs Q E hr hsp
  exact ⟨t, h.nox, q⟩

theorem Fun.binds {x qual : Str} {st : Stmt} {f : Addr} {fd : FuncData} {ps : List Str} (F : Fun K x qual st f fd)
    (h : ∀ (kV doc pm : Value) (an : Option Addr) (cdv ct : Value) (us : List Value), us.length = ps.length → bindArgs (PySem.W.fnOf x qual (defArgs st) (defBody st) (defScope st) .none kV doc pm an cdv ct) ⟨us, []⟩ = pure (ps.zip us)) : Binds K fd ps [] := by
  obtain ⟨oc, od, kV, doc, pm, an, cdv, ct, osl, rfl, lk, hcd⟩ := F.ex
  exact .all (h kV doc pm an cdv ct)
theorem fun_mk {x qual : Str} {st : Stmt} {f : Addr} {oc : Value} {od an : Option Addr} {osl : Array (Option Value)} {kV doc pm cdv ct : Value} (l : K.lookup f = some ⟨oc, od, .func (PySem.W.fnOf x qual (defArgs st) (defBody st) (defScope st) .none kV doc pm an cdv ct), osl⟩)
    (c : PySem.W.codeIn K cdv qual = true) (k : PySem.W.keepIn K (.ref f) = true) : Fun K x qual st f (PySem.W.fnOf x qual (defArgs st) (defBody st) (defScope st) .none kV doc pm an cdv ct) := ⟨⟨oc, od, kV, doc, pm, an, cdv, ct, osl, rfl, l, c⟩, k⟩
end
theorem small1000 {n : Nat} (h : n ≤ 1000) : n < sizeLine := Nat.lt_of_le_of_lt h (by decide)


section
variable {X : Cx}
end


theorem ite2 {c A B : Prop} [Decidable c] (h1 : c → A) (h2 : ¬ c → B) : if c then A else B := by
  by_cases h : c
  · rw [if_pos h]
    exact h1 h
  · rw [if_neg h]
    exact h2 h


noncomputable def Same (H H' : Hp) : Prop := ∀ b o, H b = some o → H' b = some o
theorem Same.refl (H : Hp) : Same H H := fun _ _ h => h
theorem Same.trans {H H1 H2 : Hp} (a : Same H H1) (b : Same H1 H2) : Same H H2 := fun c o h => b c o (a c o h)
end L2

set_option Elab.async false
set_option linter.all false
set_option maxRecDepth 100000
set_option maxHeartbeats 4000000
namespace L2
open PySem PySem.Spec PyProof.Rows


inductive D where
  | non | bl (b : Bool) | int (i : Int) | str (x : Str) | tup (ds : List D) | lst (ds : List D) | dct | scr (φ : Addr → Prop) (ns : List Int) | ext (φ : Hp → Addr → Prop)
mutual
noncomputable def Rep (H : Hp) : D → V → Prop
  | .non, v => v = .non
  | .bl b, v => v = .bl b
  | .int i, v => v = .int i
  | .str x, v => v = .str x
  | .tup ds, v => ∃ a xs, v = .ref a ∧ H a = some (.tup xs) ∧ Reps H ds xs
  | .lst ds, v => ∃ a xs, v = .ref a ∧ H a = some (.lst xs) ∧ Reps H ds xs
  | .dct, v => ∃ a kvs, v = .ref a ∧ H a = some (.dK kvs)
  | .scr φ ns, v => ∃ a, v = .ref a ∧ ((∃ o, H a = some (.frz o (.lst (ns.map V.int)))) ∨ φ a)
  | .ext φ, v => ∃ a H0, v = .ref a ∧ Same H0 H ∧ φ H0 a
noncomputable def Reps (H : Hp) : List D → List V → Prop
  | [], xs => xs = []
  | d :: ds, xs => ∃ v vs, xs = v :: vs ∧ Rep H d v ∧ Reps H ds vs
end
theorem Reps.length {H : Hp} : ∀ {ds : List D} {xs : List V}, Reps H ds xs → xs.length = ds.length
  | [], xs, h => by rw [Reps] at h; subst h; rfl
  | d :: ds, xs, h => by
    rw [Reps] at h
    obtain ⟨v, vs, rfl, _, h2⟩ := h
    have := Reps.length h2
    simp [this]
mutual
theorem Rep.mono {H H' : Hp} (e : Same H H') : ∀ (d : D) (v : V), Rep H d v → Rep H' d v
  | .non, v, h => by rw [Rep] at *; exact h
  | .bl b, v, h => by rw [Rep] at *; exact h
  | .int i, v, h => by rw [Rep] at *; exact h
  | .str x, v, h => by rw [Rep] at *; exact h
  | .tup ds, v, h => by
    rw [Rep] at *
    obtain ⟨a, xs, h1, h2, h3⟩ := h
    exact ⟨a, xs, h1, e _ _ h2, Reps.mono e ds xs h3⟩
  | .lst ds, v, h => by
    rw [Rep] at *
    obtain ⟨a, xs, h1, h2, h3⟩ := h
    exact ⟨a, xs, h1, e _ _ h2, Reps.mono e ds xs h3⟩
  | .dct, v, h => by
    rw [Rep] at *
    obtain ⟨a, kvs, h1, h2⟩ := h
    exact ⟨a, kvs, h1, e _ _ h2⟩
  | .scr φ ns, v, h => by
    rw [Rep] at *
    obtain ⟨a, h1, h2⟩ := h
    refine ⟨a, h1, ?_⟩
    rcases h2 with ⟨o, h2⟩ | h2
    · exact .inl ⟨o, e _ _ h2⟩
    · exact .inr h2
  | .ext φ, v, h => by
    rw [Rep] at *
    obtain ⟨a, H0, h1, h2, h3⟩ := h
    exact ⟨a, H0, h1, fun b o q => e _ _ (h2 b o q), h3⟩
theorem Reps.mono {H H' : Hp} (e : Same H H') : ∀ (ds : List D) (xs : List V), Reps H ds xs → Reps H' ds xs
  | [], xs, h => by rw [Reps] at *; exact h
  | d :: ds, xs, h => by
    rw [Reps] at *
    obtain ⟨v, vs, h1, h2, h3⟩ := h
    exact ⟨v, vs, h1, Rep.mono e d v h2, Reps.mono e ds vs h3⟩
end

noncomputable def D.ty : D → String
  | .non => "NoneType" | .bl _ => "bool" | .int _ => "int" | .str _ => "str" | .tup _ => "tuple" | .lst _ => "list" | .dct => "dict" | .scr _ _ => "list" | .ext _ => "object"
noncomputable def D.isS : D → Bool
  | .scr _ _ => true
  | .ext _ => true
  | _ => false
theorem Rep.ty {K : PySem.W.Frag} {H : Hp} {d : D} {v : V} (h : Rep H d v) (hs : d.isS = false) : TyOf K H v (.type d.ty) := by
  cases d with
  | non => rw [Rep] at h; subst h; exact .non
  | bl b => rw [Rep] at h; subst h; exact .bl b
  | int i => rw [Rep] at h; subst h; exact .int i
  | str x => rw [Rep] at h; subst h; exact .str x
  | tup ds => rw [Rep] at h; obtain ⟨a, xs, rfl, h2, _⟩ := h; exact .tup h2
  | lst ds => rw [Rep] at h; obtain ⟨a, xs, rfl, h2, _⟩ := h; exact .lst h2
  | dct => rw [Rep] at h; obtain ⟨a, kvs, rfl, h2⟩ := h; exact .dK h2
  | scr φ ns => cases hs
  | ext φ => cases hs

theorem rep_tup {H : Hp} {a : Addr} {xs : List V} {ds : List D} (h : H a = some (.tup xs)) (r : Reps H ds xs) : Rep H (.tup ds) (.ref a) := by rw [Rep]; exact ⟨a, xs, rfl, h, r⟩
theorem rep_lst {H : Hp} {a : Addr} {xs : List V} {ds : List D} (h : H a = some (.lst xs)) (r : Reps H ds xs) : Rep H (.lst ds) (.ref a) := by rw [Rep]; exact ⟨a, xs, rfl, h, r⟩
theorem reps_nil {H : Hp} : Reps H [] [] := by rw [Reps]
theorem reps_cons {H : Hp} {d : D} {v : V} {ds : List D} {vs : List V} (h : Rep H d v) (r : Reps H ds vs) : Reps H (d :: ds) (v :: vs) := by rw [Reps]; exact ⟨v, vs, rfl, h, r⟩
theorem rep_int {H : Hp} (i : Int) : Rep H (.int i) (.int i) := by rw [Rep]
theorem rep_bl {H : Hp} (i : Bool) : Rep H (.bl i) (.bl i) := by rw [Rep]
theorem rep_non {H : Hp} : Rep H .non .non := by rw [Rep]

theorem same_upd {H : Hp} {p : Addr} (h : H p = none) (o : HO) : Same H (upd H p o) := fun b u q => by rw [upd_ne (ne_of_none q h)]; exact q
section
variable {X : Cx}


noncomputable def isTy (d : D) (T : String) : Option Bool := if d.isS = true then none else if (Value.type d.ty == Value.type T) = true then some true else if PySem.W.kitMeta T = true then (fastBuiltinMro d.ty).map (·.contains (.type T)) else none
theorem isTy_kit (K : PySem.W.Frag) (d : D) (T : String) (hs : d.isS = false) : PySem.W.kitOne K (.type d.ty) (.type T) = isTy d T := by
  unfold isTy; rw [hs, if_neg (by decide)]; rfl
noncomputable def rIsI : List V → Hp → VK → Prop := fun xs H Q => ∃ x T d b, xs = [x, .ty T] ∧ Rep H d x ∧ isTy d T = some b ∧ Q (.bl b) H
theorem call_isinst : CallR X (.builtin "isinstance") rIsI := by
  intro pins s σ H xs us Q I r h
  obtain ⟨x, T, d, b, rfl, hd, e, q⟩ := h
  obtain ⟨u, w', rfl, ru, rw'⟩ := vals2 r
  cases (show w' = Value.type T from rw')
  have hs : d.isS = false := by
    cases z : d.isS with
    | false => rfl
    | true => unfold isTy at e; rw [z, if_pos rfl] at e; cases e
  rw [← isTy_kit X.K d T hs] at e
  exact isinst_ok I ru (hd.ty hs) e fun tk => ⟨.bl b, H, I.tok tk, rfl, q⟩




noncomputable def Sm (i : Int) : Prop := i.natAbs < 2 ^ 8000
theorem Sm.log {i : Int} (h : Sm i) : i.natAbs.log2 < 8000 := by
  by_cases h0 : i.natAbs = 0
  · rw [h0]; decide
  · exact (Nat.log2_lt h0).mpr h
theorem Sm.bits {i : Int} (h : Sm i) : Builtin.Int.intBits i ≤ 8000 := by
  unfold Builtin.Int.intBits
  split
  · exact Nat.zero_le _
  · have := h.log; omega
theorem Sm.mul {i j : Int} (h : Sm i) (h' : Sm j) : IntMulOk i j := by
  have a := h.bits
  have b := h'.bits
  unfold IntMulOk Builtin.Int.intTooBig
  have e : ¬ ((Builtin.Int.intBits i : Int) + (Builtin.Int.intBits j : Int) > (bitsLine : Int)) := by
    have : bitsLine = 134217728 := by decide
    omega
  rw [decide_eq_false e]
  simp
noncomputable def CMulB (i j : Int) : Prop := Sm i ∧ Sm j
noncomputable def CDivB (i j : Int) : Prop := 0 < j ∧ Sm j
theorem op_mulB : OpR X (binaryOp .Mult) (rI CMulB fun i j => .int (i * j)) := opI fun _ _ _ _ _ _ _ hc q => mul_int q (hc.1.mul hc.2)
theorem op_fdivB : OpR X (binaryOp .FloorDiv) (rI CDivB fun i j => .int (i / j)) := opI fun i j _ _ _ _ _ hc q => by
  refine floordiv_int (Int.ne_of_gt hc.1) ?_ (.inl (PyProof.noPylong_of_log2 (Nat.lt_of_lt_of_le hc.2.log (by decide))))
  rw [Int.fdiv_eq_ediv_of_nonneg _ (Int.le_of_lt hc.1)]
  exact q
end

theorem bt_len : bootBuiltins "len" = some (.builtin "len") := by decide +kernel
theorem bt_abs : bootBuiltins "abs" = some (.builtin "abs") := by decide +kernel
theorem bt_max : bootBuiltins "max" = some (.builtin "max") := by decide +kernel
theorem bt_min : bootBuiltins "min" = some (.builtin "min") := by decide +kernel
theorem bt_isinstance : bootBuiltins "isinstance" = some (.builtin "isinstance") := by decide +kernel
theorem bt_sum : bootBuiltins "sum" = some (.builtin "sum") := by decide +kernel
theorem bt_sorted : bootBuiltins "sorted" = some (.builtin "sorted") := by decide +kernel
theorem bt_range : bootBuiltins "range" = some (.type "range") := by decide +kernel
theorem bt_int : bootBuiltins "int" = some (.type "int") := by decide +kernel
theorem bt_bool : bootBuiltins "bool" = some (.type "bool") := by decide +kernel
theorem bt_tuple : bootBuiltins "tuple" = some (.type "tuple") := by decide +kernel
theorem bt_list : bootBuiltins "list" = some (.type "list") := by decide +kernel
theorem bt_enumerate : bootBuiltins "enumerate" = some (.type "enumerate") := by decide +kernel
theorem bt_zip : bootBuiltins "zip" = some (.type "zip") := by decide +kernel

noncomputable def gcdP (n b : Int) : Int := if b = 0 then n else (Int.gcd n b : Int)
theorem gcdP_step {n b : Int} (h : 0 < b) : gcdP b (n % b) = gcdP n b := by
  unfold gcdP
  have e : Int.gcd n b = Int.gcd b (n % b) := by
    rw [Int.emod_def, Int.gcd_sub_mul_left_right, Int.gcd_comm]
  rw [if_neg (show ¬ b = 0 by omega)]
  split
  · rename_i h0
    rw [e, h0, Int.gcd_zero_right]
    omega
  · rw [e]
theorem gcdP_pos {n b : Int} (h : 0 < b) : 0 < gcdP n b := by
  unfold gcdP
  rw [if_neg (by omega)]
  have : 0 < Int.gcd n b := Int.gcd_pos_of_ne_zero_right _ (by omega)
  omega
theorem gcdP_le {n b : Int} (h : 0 < b) : gcdP n b ≤ b := by
  unfold gcdP
  rw [if_neg (by omega)]
  exact Int.le_of_dvd h (Int.gcd_dvd_right ..)
theorem gcdP_dl {n b : Int} (h : 0 < b) : gcdP n b ∣ n := by
  unfold gcdP
  rw [if_neg (by omega)]
  exact Int.gcd_dvd_left ..
theorem gcdP_dr {n b : Int} (h : 0 < b) : gcdP n b ∣ b := by
  unfold gcdP
  rw [if_neg (by omega)]
  exact Int.gcd_dvd_right ..
end L2
namespace L2
open PySem PySem.Spec PyProof.Rows
section
variable {X : Cx} {pins : List (Addr × Obj)} {σ : St} {H : Hp} {s : Shared} {pos : Pos}
end
end L2
namespace L2
open PySem
end L2
namespace L2
open PySem
theorem sm_of {i : Int} {n : Nat} (h : i.natAbs ≤ n) (hn : n < 2 ^ 8000) : Sm i := Nat.lt_of_le_of_lt h hn
end L2

set_option Elab.async false
set_option linter.all false
set_option maxRecDepth 100000
set_option maxHeartbeats 1000000
namespace L2
open PySem PySem.Spec PyProof.Rows


noncomputable def CL (env : Env) : List (Str × Addr) → Prop
  | [] => True
  | p :: r => env.cells.lookup p.1 = some p.2 ∧ CL env r
theorem CL.get {env : Env} : ∀ {cl : List (Str × Addr)}, CL env cl → ∀ {x : Str} {c : Addr}, cl.lookup x = some c → env.cells.lookup x = some c
  | [], _, x, c, h => by simp at h
  | (y, d) :: r, h, x, c, e => by
    rw [List.lookup_cons] at e
    cases hx : x == y with
    | true =>
      rw [hx] at e
      have e1 : x = y := by simpa using hx
      have e2 : d = c := Option.some.inj e
      subst e1 e2
      exact h.1
    | false =>
      rw [hx] at e
      exact CL.get h.2 e
theorem lookup_relabel {env : Env} : ∀ {names : List (Str × NameKind)} {x : Str} {k : NameKind},
    (names.map fun (n, k) => if (k == NameKind.free && env.scope.kind == .function && env.kindOf n == some .cell) then (n, NameKind.cell) else (n, k)).lookup x = some k →
    ∃ k', names.lookup x = some k' ∧ (k' = k ∨ (k' = .free ∧ k = .cell))
  | [], x, k, h => by simp at h
  | (n, kn) :: r, x, k, h => by
    have ih := @lookup_relabel env r x k
    by_cases hc : (kn == NameKind.free && env.scope.kind == .function && env.kindOf n == some .cell) = true
    · have h' : List.lookup x ((n, NameKind.cell) :: (r.map fun (n, k) => if (k == NameKind.free && env.scope.kind == .function && env.kindOf n == some .cell) then (n, NameKind.cell) else (n, k))) = some k := by
        rw [List.map_cons] at h
        simp only [hc, if_true] at h
        exact h
      rw [List.lookup_cons] at h' ⊢
      cases hx : x == n with
      | true =>
        rw [hx] at h'
        have : kn = .free := by
          simp only [Bool.and_eq_true, beq_iff_eq] at hc
          exact hc.1.1
        exact ⟨kn, rfl, .inr ⟨this, (Option.some.inj h').symm⟩⟩
      | false => rw [hx] at h'; exact ih h'
    · have h' : List.lookup x ((n, kn) :: (r.map fun (n, k) => if (k == NameKind.free && env.scope.kind == .function && env.kindOf n == some .cell) then (n, NameKind.cell) else (n, k))) = some k := by
        rw [List.map_cons] at h
        simp only [hc] at h
        exact h
      rw [List.lookup_cons] at h' ⊢
      cases hx : x == n with
      | true => rw [hx] at h'; exact ⟨kn, rfl, .inl (Option.some.inj h')⟩
      | false => rw [hx] at h'; exact ih h'


noncomputable def compCx (X : Cx) (scope : Scope) (cl : List (Str × Addr)) (N : List Str) (C : Addr) (s₀ : Shared) (H₀ : Hp) (ex : List Addr) : Cx where
  prog := X.prog
  w := X.w
  K := X.K
  mg := X.mg
  base := X.base
  A := X.A
  N := N
  s₀ := s₀
  H₀ := H₀
  env := compEnvC scope cl C X.env
  outer := X.stack
  stack := X.stack
  ex := ex
  fn := fun _ => false
  calm := X.calm
  pn := []
  xe := fun _ _ => False


noncomputable def okJ (X : Cx) (scope : Scope) (j : Nat) : Bool := match X.N[j]? with
  | some x => (match X.env.scope.names.lookup x with | some .cell => true | _ => false) && (match scope.names.lookup x with | some .free => true | _ => false)
  | none => false
noncomputable def sig0 (own : List Str) (js : List Nat) (σ : St) : St := own.map (fun _ => none) ++ js.map fun j => (σ[j]?).getD none
noncomputable def nam0 (X : Cx) (own : List Str) (js : List Nat) : List Str := own ++ js.map fun j => (X.N[j]?).getD (Str.ofString "")
structure CompOk (X : Cx) (scope : Scope) (cl : List (Str × Addr)) (own : List Str) (js : List Nat) : Prop where
  clos : closureFor scope X.env = pure cl
  kind : scope.kind = .function
  names : ∀ x ∈ scope.names, x.2 = .local → scope.names.lookup x.1 = some .local
  ncell : (scope.names.all fun y => match y.2 with | .cell => false | _ => true) = true
  has : (scope.names.all fun y => match y.2 with | .free => (cl.lookup y.1).isSome | _ => true) = true
  cells : CL X.env cl
  js : js.all (okJ X scope) = true

theorem CompOk.nc {X : Cx} {scope : Scope} {cl : List (Str × Addr)} {own : List Str} {js : List Nat} (c : CompOk X scope cl own js) : ∀ y ∈ scope.names, y.2 ≠ .cell := fun y hy e => by
  have := List.all_eq_true.mp c.ncell y hy
  rw [e] at this
  cases this
theorem CompOk.fr {X : Cx} {scope : Scope} {cl : List (Str × Addr)} {own : List Str} {js : List Nat} (c : CompOk X scope cl own js) {x : Str} (h : scope.names.lookup x = some .free) : ∃ d, cl.lookup x = some d := by
  have := List.all_eq_true.mp c.has (x, .free) (PySem.mem_of_lookup h)
  exact Option.isSome_iff_exists.mp this

section
variable {X : Cx} {pins : List (Addr × Obj)} {σ : St} {H : Hp} {s : Shared} {scope : Scope} {cl : List (Str × Addr)} {own : List Str} {js : List Nat}

theorem comp_start {h1 : Heap} {C : Addr} {fp : List Addr} {t' : Nat} (c : CompOk X scope cl own js) (I : Inv X pins σ H s) (hf : ∀ b ∈ fp, FpOk X pins H b) (hlt : ∀ b ∈ fp, b < s.heap.objs.size)
    (hC : s.heap.objs.size ≤ C) (hk : ∀ b o, s.heap.get? b = some o → h1.get? b = some o) (hn : h1.Ns C fun _ => none) :
    Inv (compCx X scope cl (nam0 X own js) C s H fp) [] (sig0 own js σ) H { s with heap := h1, toks := t' } := by
  have kindOfY : ∀ x k, (compCx X scope cl (nam0 X own js) C s H fp).env.kindOf x = some k → ∃ k', scope.names.lookup x = some k' ∧ (k' = k ∨ (k' = .free ∧ k = .cell)) := fun x k e => lookup_relabel (env := X.env) (names := scope.names) e
  refine ⟨⟨I.ok.mod, c.kind, I.ok.glob, I.ok.blt, hC, fun x y d h1 h2 => I.ok.inj x y d (c.cells.get h1) (c.cells.get h2), fun x hx => ?_, fun x d h => (by cases h), I.ok.hd, I.ok.frames, .inl rfl, fun b hb => ⟨?_, fun x d e => (hf b hb).2.2.2.2.1 x d (c.cells.get e)⟩,
    fun b o e => I.bs b o e, Nat.le_trans I.ok.bsz I.sz, fun b o e hb => ?_, fun b hb z => ?_, I.stack, I.stkFree⟩, rfl, I.bare, Un.kept hk, ⟨_, hn, fun i x v e1 e2 e3 => ?_⟩, fun x d e => ?_, I.hok.fresh hC, fun x d e => I.freeC x d (c.cells.get e), fun p hp => (by cases hp), I.hok.kept hk, ?_⟩
  · rcases hx with hx | hx
    · obtain ⟨k', e1, e2⟩ := kindOfY x _ hx
      rcases e2 with e2 | ⟨e2, _⟩
      · exact absurd e2 (c.nc _ (PySem.mem_of_lookup e1))
      · subst e2; exact c.fr e1
    · obtain ⟨k', e1, e2⟩ := kindOfY x _ hx
      rcases e2 with e2 | ⟨_, e2⟩
      · subst e2; exact c.fr e1
      · cases e2
  · exact Nat.ne_of_lt (Nat.lt_of_lt_of_le (hlt b hb) hC)
  · rcases (hf b hb).2.2.2.1 with z | z
    · exact I.ok.noex b o e z
    · exact absurd (Nat.lt_of_lt_of_le (Heap.lt_size e) (Nat.le_trans I.ok.bsz z)) (Nat.lt_irrefl _)
  · rcases List.mem_cons.mp (I.stkSub b z) with q | q
    · exact (hf b hb).2.1 q
    · exact (hf b hb).2.2.1 q
  · -- a name taken from the frame
    have e1 : (nam0 X own js)[i]? = some x := e1
    unfold nam0 at e1
    unfold sig0 at e2
    by_cases hi : i < own.length
    · rw [List.getElem?_append_left (by simpa using hi), List.getElem?_map, List.getElem?_eq_getElem hi] at e2
      cases e2
    · rw [List.getElem?_append_right (by simpa using Nat.not_lt.mp hi), List.getElem?_map, List.length_map] at e2
      rw [List.getElem?_append_right (Nat.not_lt.mp hi), List.getElem?_map] at e1
      cases ej : js[i - own.length]? with
      | none => rw [ej] at e2; cases e2
      | some j =>
        rw [ej] at e1 e2
        have hj := List.all_eq_true.mp c.js j (List.mem_of_getElem? ej)
        unfold okJ at hj
        have e1' : (X.N[j]?).getD (Str.ofString "") = x := Option.some.inj e1
        have e2' : (σ[j]?).getD none = some v := Option.some.inj e2
        cases en : X.N[j]? with
        | none => rw [en] at hj; cases hj
        | some y =>
          rw [en] at hj e1'
          have e1'' : y = x := e1'
          subst e1''
          have hv : σ[j]? = some (some v) := by
            cases es : σ[j]? with
            | none => rw [es] at e2'; cases e2'
            | some ov => rw [es] at e2'; rw [show ov = some v from e2']
          dsimp only at hj
          rw [Bool.and_eq_true] at hj
          have k1 : X.env.scope.names.lookup y = some .cell := by
            have := hj.1
            split at this
            · assumption
            · cases this
          have k2 : scope.names.lookup y = some .free := by
            have := hj.2
            split at this
            · assumption
            · cases this
          obtain ⟨m, _, hl⟩ := I.loc
          obtain ⟨u, ru, l⟩ := hl j y v en hv (.inr (.inl k1))
          refine ⟨u, ru, ?_⟩
          rcases l with ⟨l, _⟩ | ⟨_, d, ed, z⟩
          · rw [show X.env.kindOf y = some .cell from k1] at l; cases l
          · obtain ⟨d', ed'⟩ := c.fr k2
            have := c.cells.get ed'
            rw [ed] at this
            cases this
            obtain ⟨o, ho, hd⟩ := z
            refine .inr ⟨?_, d, ed', ⟨o, hk _ _ ho, hd⟩⟩
            have e3 : (compCx X scope cl (nam0 X own js) C s H fp).env.scope.names.lookup y = some .local ∨ (compCx X scope cl (nam0 X own js) C s H fp).env.scope.names.lookup y = some .cell ∨ (compCx X scope cl (nam0 X own js) C s H fp).env.scope.names.lookup y = some .free := e3
            rcases e3 with e3 | e3 | e3
            · obtain ⟨k', q1, q2⟩ := kindOfY y _ e3
              rw [k2] at q1
              cases q1
              rcases q2 with q2 | ⟨_, q2⟩ <;> cases q2
            · exact .inl e3
            · exact .inr e3
  · obtain ⟨v, o, ho, hd⟩ := I.cell x d (c.cells.get e)
    exact ⟨v, o, hk _ _ ho, hd⟩
  · show (sig0 own js σ).length = (nam0 X own js).length
    unfold sig0 nam0
    simp


structure PIf (X : Cx) (ifs : List Expr) (t : TT) : Prop where
  go : ∀ (pins : List (Addr × Obj)) (s : Shared) (σ : St) (H : Hp) (Q : Bool → Hp → Prop), Inv X pins σ H s → t σ H Q →
    wpAny (model X.prog X.w) X.A (forIn ifs true fun c r => if r = true then do let ok ← isTrue c X.env (eval c X.env); pure (ForInStep.yield ok) else pure (ForInStep.yield r)) (TP X pins σ Q) X.xe s
noncomputable def tYes : TT := fun _ H Q => Q true H
theorem pif_nil : PIf X [] tYes := ⟨fun pins s σ H Q I h => wpAny_tests_nil ⟨H, I, h⟩⟩
theorem pif_one {c : Expr} {t : TT} (h : PT X c t) : PIf X [c] t := ⟨fun pins s σ H Q I q => wpAny_tests_one (h.go pins s σ H Q I q)⟩

theorem codeAny_compLoop_go {prog : Program} {w : World} {A : Around} {R : Result → Shared → Prop} {s : Shared} {elt target iter : Expr} {ifs : List Expr} {scope : Scope} {pos : Pos} {it acc : Value} {env : Env} (I : Nat → Shared → Prop)
    (turn : ∀ n s, I n s → wpAny (model prog w) A (pyNext it) (fun r s₁ => match r with
      | none => R (.ok .next) s₁
      | some v => wpAny (model prog w) A (letOwnedTupleGo target it v) (fun _ s₁ => wpAny (model prog w) A (assign target env v) (fun _ s₂ =>
          wpAny (model prog w) A (forIn ifs true fun c r => if r = true then do let ok ← isTrue c env (eval c env); pure (ForInStep.yield ok) else pure (ForInStep.yield r)) (fun ok s₃ =>
            if ok = true then wpAny (model prog w) A (eval elt env) (fun x s₄ =>
              wpAny (model prog w) A (call (.builtin "list.append") [acc, x]) (fun _ s₅ => ∃ m, m < n ∧ I m s₅) (fun _ _ => False) s₄) (fun _ _ => False) s₃
            else ∃ m, m < n ∧ I m s₃) (fun _ _ => False) s₂) (fun _ _ => False) s₁) (fun _ _ => False) s₁) (fun _ _ => False) s)
    (n : Nat) (h : I n s) :
    codeAny (model prog w) A (.compLoop (.ListComp elt [⟨target, iter, ifs, 0⟩] scope pos) 0 it acc env) R s := by
  refine codeAny_loop rfl I (fun n s hI => ?_) n h
  show wpAny _ A ((compTurn (.ListComp elt [⟨target, iter, ifs, 0⟩] scope pos) 0 it acc env).onRaise (fun x => do noteFrame x env; theTreesLotGoes x)) _ _ s
  refine wpAny_noted ?_
  rw [compTurn_list]
  refine wpAny_bind (wpAny_standAt (wpAny_bind (wpAny_mono (turn n s hI) (fun r s₁ h₁ => ?_) fun _ _ h' => h'.elim)))
  cases r with
  | none => exact wpAny_pure h₁
  | some v =>
    refine wpAny_bind (wpAny_mono h₁ (fun _ s₁ h₁ => ?_) fun _ _ h' => h'.elim)
    refine wpAny_bind (wpAny_mono h₁ (fun _ s₂ h₂ => wpAny_bind (wpAny_mono h₂ (fun ok s₃ h₃ => ?_) fun _ _ h' => h'.elim)) fun _ _ h' => h'.elim)
    cases ok with
    | false => exact wpAny_pure ⟨rfl, h₃⟩
    | true =>
      exact wpAny_bind (wpAny_bind (wpAny_mono h₃ (fun x s₄ h₄ => wpAny_bind (wpAny_mono h₄ (fun _ s₅ h₅ => wpAny_pure (wpAny_pure ⟨rfl, h₅⟩)) fun _ _ h' => h'.elim)) fun _ _ h' => h'.elim))


noncomputable def kept : St → St → Prop
  | [], [] => True
  | none :: r, _ :: r' => kept r r'
  | some v :: r, y :: r' => y = some v ∧ kept r r'
  | [], _ :: _ => False
  | _ :: _, [] => False
theorem kept_len : ∀ {a b : St}, kept a b → a.length = b.length
  | [], [], _ => rfl
  | none :: r, _ :: r', h => congrArg (· + 1) (kept_len (a := r) (b := r') h)
  | some v :: r, y :: r', h => congrArg (· + 1) (kept_len (a := r) (b := r') h.2)
  | [], _ :: _, h => False.elim h
  | none :: _, [], h => False.elim h
  | some _ :: _, [], h => False.elim h
theorem kept_get : ∀ {a b : St}, kept a b → ∀ (i : Nat) (v : V), a[i]? = some (some v) → b[i]? = some (some v)
  | [], [], _, i, v, e => by simp at e
  | none :: r, _ :: r', h, 0, v, e => by simp at e
  | none :: r, _ :: r', h, i + 1, v, e => by simpa using kept_get (a := r) (b := r') h i v (by simpa using e)
  | some w :: r, y :: r', h, 0, v, e => by simp at e; subst e; simp [h.1]
  | some w :: r, y :: r', h, i + 1, v, e => by simpa using kept_get (a := r) (b := r') h.2 i v (by simpa using e)
  | [], _ :: _, h, _, _, _ => False.elim h
  | none :: _, [], h, _, _, _ => False.elim h
  | some _ :: _, [], h, _, _, _ => False.elim h

noncomputable def CompW (J : It) (g : TG) (tt : TT) (te : TE) (σ0 : St) (H : Hp) (Z : List V → Hp → Prop) : Prop :=
  ∃ W : Nat → Nat → List V → Hp → Prop, (∃ m, W 0 m [] H) ∧ ∀ i m acc H, W i m acc H →
    (J.stop i H ∧ acc.length ≤ sizeLine ∧ Z acc H) ∨ (J.go i H ∧ acc.length < sizeLine ∧ ∃ N : List V → Hp → Prop, (∀ acc' H', N acc' H' → ∃ m', m' < m ∧ W (i + 1) m' acc' H') ∧
      ∀ x H', J.yld i H x H' → g x σ0 H' fun σ2 H2 => kept σ0 σ2 ∧ tt σ2 H2 fun b H3 => if b = true then te σ2 H3 fun v H4 => N (acc ++ [v]) H4 else N acc H3)

theorem HOk.adopt {P : Program} {w : World} {H : Hp} {h : Heap} {a : Addr} {o : HO} (x : HOk P w H h) (hn : H a = none) (new : ObjOk P w (upd H a o) h a o) : HOk P w (upd H a o) h := fun b u e => by
  by_cases hb : b = a
  · subst hb; rw [upd_same] at e; cases e; exact new
  · rw [upd_ne hb] at e
    exact (x b u e).stay (fun c v _ q => q) (fun c q => by rw [upd_ne (ne_of_none q hn)]; exact q) fun c xs q => by rw [upd_ne (ne_of_none q hn)]; exact q

theorem comp_core {elt tg iter : Expr} {ifs : List Expr} {pos : Pos} {J : It} {fp : List Addr} {it : Addr} {tn : Nat → Heap → Prop} {g : TG} {tt : TT} {te : TE} {Z : List V → Hp → Prop} {E : Value → Shared → Prop}
    {RR : Value → Addr → Result → Shared → Prop} (c : CompOk X scope cl own js) (hc : X.calm = true) (I : Inv X pins σ H s) (T : Turn X.prog X.w X.K tg J fp it tn) (t0 : tn 0 s.heap) (hf : ∀ b ∈ fp, FpOk X pins H b)
    (inner : ∀ (C : Addr) (s₀ : Shared) (H₀ : Hp) (ex : List Addr), PG (compCx X scope cl (nam0 X own js) C s₀ H₀ ex) tg g ∧ PIf (compCx X scope cl (nam0 X own js) C s₀ H₀ ex) ifs tt ∧ PE (compCx X scope cl (nam0 X own js) C s₀ H₀ ex) elt te)
    (hW : CompW J g tt te (sig0 own js σ) H Z)
    (hRR : ∀ (D C : Addr) (s' : Shared) (acc : List V) (H' : Hp), (∃ m, s'.heap.Ns C m) → H' D = none → Z acc H' → s.heap.objs.size ≤ C → C ≠ X.env.locals → (upd H' D (.lst acc)) C = none → (∀ h', Heap.SameBut C s'.heap h' → Inv X pins σ (upd H' D (.lst acc)) { s' with heap := h' }) → RR (.ref D) C (.ok .next) s') :
    wpAny (model X.prog X.w) X.A (newList []) (fun acc s₃ => wpAny (model X.prog X.w) X.A (newFunctionEnv scope X.env.globals cl [] X.env.qual none .none (some X.env)) (fun cenv s₄ =>
      codeAny (model X.prog X.w) X.A (.compStart (.ListComp elt [⟨tg, iter, ifs, 0⟩] scope pos) 0 (.ref it) acc { cenv with scope := relabel scope X.env }) (RR acc cenv.locals) s₄) E s₃) E s := by
  refine wpAny_newObj_type (wpAny_newFunctionEnv c.nc (by intro y hy; simp at hy) (fun h₁ hns₁ hsb₁ => ?_) c.kind)
  dsimp only at hns₁ hsb₁ ⊢
  generalize hH2 : s.heap.push { cls := .type "list", dict := none, data := .seq ([] : List Value).toArray } = H2 at hns₁ hsb₁ ⊢
  have hCs : H2.objs.size = s.heap.objs.size + 1 := by rw [← hH2, Heap.size_push]
  have hns₁ : h₁.Ns H2.objs.size (fun _ => none) := hns₁
  have hCle : s.heap.objs.size ≤ H2.objs.size := by rw [hCs]; exact Nat.le_succ _
  have hDC : s.heap.objs.size ≠ H2.objs.size := by rw [hCs]; exact Nat.ne_of_lt (Nat.lt_succ_self _)
  have below : ∀ b, b < s.heap.objs.size → b ≠ H2.objs.size ∧ b ≠ s.heap.objs.size := fun b hb => ⟨by rw [hCs]; exact Nat.ne_of_lt (Nat.lt_succ_of_lt hb), Nat.ne_of_lt hb⟩
  have old : ∀ b o, s.heap.get? b = some o → h₁.get? b = some o := fun b o e => hsb₁.extBut b o (below b (Heap.lt_size e)).1 (Heap.get?_push_of_some _ (hH2 ▸ Heap.get?_push_of_some _ e))
  have hD1 : h₁.get? s.heap.objs.size = some { cls := .type "list", data := .seq ([] : List Value).toArray } := hsb₁.extBut _ _ hDC (Heap.get?_push_of_some _ (hH2 ▸ Heap.get?_push_size _ rfl))
  have hlt : ∀ b ∈ fp, b < s.heap.objs.size := fun b hb => by
    obtain ⟨o, e, _⟩ := T.obj 0 _ t0 b hb
    exact Heap.lt_size e
  have hCL : H2.objs.size ≠ X.env.locals := fun z => absurd (Nat.lt_of_lt_of_le I.lt (by rw [← z]; exact hCle)) (Nat.lt_irrefl _)
  have hDfs : s.heap.objs.size ∉ frs X.stack := fun z => by
    rcases List.mem_cons.mp (I.stkSub _ z) with q | q
    · exact absurd I.lt (by rw [← q]; exact Nat.lt_irrefl _)
    · exact I.nofs (Nat.le_refl _) q
  have hfs : ∀ b ∈ fp, b ∉ frs X.stack := fun b hb z => by
    rcases List.mem_cons.mp (I.stkSub b z) with q | q
    · exact (hf b hb).2.1 q
    · exact (hf b hb).2.2.1 q
  have hDcell : ∀ x d, cl.lookup x = some d → d ≠ s.heap.objs.size := fun x d e => by
    obtain ⟨v, q⟩ := I.cell x d (c.cells.get e)
    exact Nat.ne_of_lt q.lt
  have fresh : H s.heap.objs.size = none := I.hok.fresh (Nat.le_refl _)
  obtain ⟨W, ⟨m0, w0⟩, turn⟩ := hW
  have loop : ∀ s₃ : Shared, s₃ = { s with heap := h₁, toks := s.toks + ([] : List (Str × Value)).length } →
      codeAny (model X.prog X.w) X.A (.compLoop (.ListComp elt [⟨tg, iter, ifs, 0⟩] scope pos) 0 (.ref it) (.ref s.heap.objs.size) (compEnvC scope cl H2.objs.size X.env)) (RR (.ref s.heap.objs.size) H2.objs.size) s₃ := by
    rintro s₃ rfl
    have I0 := comp_start (t' := s.toks + ([] : List (Str × Value)).length) c I hf hlt hCle old hns₁
    obtain ⟨hg, hi, he⟩ := inner H2.objs.size s H fp
    generalize hY : compCx X scope cl (nam0 X own js) H2.objs.size s H fp = Y at I0 hg hi he
    have Yp : Y.prog = X.prog := by rw [← hY]; rfl
    have Yw : Y.w = X.w := by rw [← hY]; rfl
    have YK : Y.K = X.K := by rw [← hY]; rfl
    have YA : Y.A = X.A := by rw [← hY]; rfl
    have Ye : Y.env = compEnvC scope cl H2.objs.size X.env := by rw [← hY]; rfl
    have Yl : Y.env.locals = H2.objs.size := by rw [← hY]; rfl
    have Yc : Y.env.cells = cl := by rw [← hY]; rfl
    have Yf : Y.fs = frs X.stack := by rw [← hY]; rfl
    have Yx : Y.ex = fp := by rw [← hY]; rfl
    have Ys : Y.s₀ = s := by rw [← hY]; rfl
    have YH : Y.H₀ = H := by rw [← hY]; rfl
    have Yn : Y.pn = [] := by rw [← hY]; rfl
    have Yo : Y.calm = true := by rw [← hY]; exact hc
    have YE : Y.xe = fun _ _ => False := by rw [← hY]; rfl
    have fpY : ∀ {H' : Hp} (pn : List (Addr × Obj)), (∀ b ∈ fp, H' b = none) → (∀ b ∈ fp, ∀ p ∈ pn, p.1 ≠ b) → ∀ b ∈ fp, FpOk Y pn H' b := fun pn hn hp b hb =>
      ⟨hn b hb, by rw [Yl]; exact (below b (hlt b hb)).1, by rw [Yf]; exact hfs b hb, .inl (by rw [Yx]; exact hb), fun x d e => (hf b hb).2.2.2.2.1 x d (c.cells.get (by rw [← Yc]; exact e)), fun p hp' => hp b hb p (by rw [Yn] at hp'; exact hp')⟩
    refine codeAny_compLoop_go (fun n s' => ∃ i acc its k H', Inv Y [] (sig0 own js σ) H' s' ∧ tn i s'.heap ∧ (∀ b ∈ fp, H' b = none) ∧ W i n acc H' ∧ H' s.heap.objs.size = none ∧ s'.heap.get? s.heap.objs.size = some { cls := .type "list", data := .seq (its : List Value).toArray k } ∧ Vals acc its) ?_ m0
      ⟨0, [], [], 0, H, I0, T.keep 0 _ _ t0 (fun b hb o e => old b o e), fun b hb => (hf b hb).1, w0, fresh, hD1, .nil⟩
    rintro n s' ⟨i, acc, its, k, H', I', tn', fr', w', hD', oD', hv'⟩
    have hpinD : ∀ b ∈ fp, ∀ p ∈ [(s.heap.objs.size, ({ cls := .type "list", data := .seq its.toArray k } : Obj))], p.1 ≠ b := fun b hb p hp => by
      rw [List.mem_singleton] at hp
      subst hp
      exact fun z => (below b (hlt b hb)).2 z.symm
    have ID : Inv Y [(s.heap.objs.size, ({ cls := .type "list", data := .seq its.toArray k } : Obj))] (sig0 own js σ) H' s' := I'.pins_of fun p hp => by
      rw [List.mem_singleton] at hp
      subst hp
      exact ⟨oD', hD', by rw [Yl]; exact hDC, by rw [Yf]; exact hDfs, fun v z => by cases z⟩
    rcases turn i n acc H' w' with ⟨stop, hlen, hz⟩ | ⟨go, hlen, N, hN, step⟩
    · have hd := T.done Y Yp Yw YK Yo i _ s' (sig0 own js σ) H' (fun _ _ => False) ID (fpY _ fr' hpinD) tn' stop
      rw [YA] at hd
      refine thn hd fun r s1 ⟨hr, I1⟩ => ?_
      subst hr
      obtain ⟨oD1, _⟩ := I1.pin _ (List.mem_append_right _ (List.mem_singleton.mpr rfl))
      have hC0 : H' H2.objs.size = none := by have := I1.free; rw [Yl] at this; exact this
      have B1 : Un (frs X.stack) fp H H' s.heap s1.heap := by have := I1.base; rw [Yf, Yx, YH, Ys] at this; exact this
      refine hRR s.heap.objs.size H2.objs.size s1 acc H' (by obtain ⟨m, hn, _⟩ := I1.loc; rw [Yl] at hn; exact ⟨m, hn⟩) hD' hz hCle hCL (by rw [upd_ne (Ne.symm hDC)]; exact hC0) fun h' hsb => ?_
      have at' : ∀ b o, b ≠ H2.objs.size → s1.heap.get? b = some o → h'.get? b = some o := fun b o hb e => by rw [hsb.2 b hb]; exact e
      refine I.call' (s' := { s1 with heap := h' }) (ch := fp) (by have := I1.os; rw [Ys] at this; exact this) ⟨fun b o q nn hb hx => ?_, fun b o q nn hb hx => ?_, fun b o q nn hx => ?_, fun b o q hx => ?_, fun b xs q => ?_, fun b o u q => ?_, fun b ps q => ?_⟩ ?_ I1.bare fun b hb => ⟨(hf b hb).2.2.2.1, (hf b hb).2.1, (hf b hb).2.2.2.2.1, (hf b hb).2.2.2.2.2⟩
      · exact at' b o (below b (Heap.lt_size q)).1 (B1.keep b o q nn hb hx)
      · obtain ⟨sl, e⟩ := B1.slot b o q nn hb hx
        exact ⟨sl, at' b _ (below b (Heap.lt_size q)).1 e⟩
      · rw [upd_ne (below b (Heap.lt_size q)).2]; exact B1.free b o q nn hx
      · obtain ⟨o', e⟩ := B1.there b o q hx
        exact ⟨o', at' b _ (below b (Heap.lt_size q)).1 e⟩
      · have q' := B1.tups b xs q
        rw [upd_ne (ne_of_none q' hD')]; exact q'
      · have q' := B1.frzs b o u q
        rw [upd_ne (ne_of_none q' hD')]; exact q'
      · obtain ⟨more, q'⟩ := B1.tbls b ps q
        exact ⟨more, by rw [upd_ne (ne_of_none q' hD')]; exact q'⟩
      · have hok1 : HOk X.prog X.w H' h' := fun a o e => by
          have hok := I1.hok
          rw [Yp, Yw] at hok
          refine (hok a o e).stay (fun b u hb q => at' b u ?_ q) (fun _ q => q) fun _ _ q => q
          rcases hb with rfl | hb
          · exact ne_of_none e hC0
          · exact ne_of_none hb hC0
        exact hok1.adopt hD' ⟨hlen, its, k, hv', at' _ _ hDC oD1⟩
    · have hd := T.item Y Yp Yw YK Yo i _ s' (sig0 own js σ) H' (fun _ _ => False) ID (fpY _ fr' hpinD) tn' go
      rw [YA] at hd
      refine thn hd fun r s1 ⟨u, hr, h4⟩ => ?_
      subst hr
      have h4 := h4
      refine thn h4 fun _ s2 ⟨x, H5, I5, r5, y5, tn5, fr5⟩ => ?_
      have I5' := I5.pinned (fpY _ fr5 hpinD) (T.obj _ _ tn5)
      have hg' := hg.go _ s2 _ H5 x u _ I5' r5 (step x H5 y5)
      rw [Yp, Yw, YA, Ye, YE] at hg'
      refine thn hg' fun _ s3 ⟨σ6, H6, I6, kp6, q6⟩ => ?_
      have hi' := hi.go _ s3 σ6 H6 _ I6 q6
      rw [Yp, Yw, YA, Ye, YE] at hi'
      refine thn hi' fun ok s4 ⟨H7, I7, q7⟩ => ?_
      cases ok with
      | false =>
        rw [if_neg Bool.false_ne_true] at q7 ⊢
        obtain ⟨m', hm, w7⟩ := hN _ _ q7
        obtain ⟨oD7, hD7, _⟩ := I7.pin _ (List.mem_append_right _ (List.mem_append_left _ (List.mem_singleton.mpr rfl)))
        refine ⟨m', hm, i + 1, acc, its, k, H7, (I7.pins_of (pins' := []) fun p hp => (by cases hp)).weak (kept_len kp6) (kept_get kp6), T.keep _ _ _ tn5 fun b hb o e => (I7.pin (b, o) (List.mem_append_right _ (List.mem_append_right _ (mem_pinsAt hb e)))).1, fun b hb => ?_, w7, hD7, oD7, hv'⟩
        obtain ⟨o, e, _⟩ := T.obj _ _ tn5 b hb
        exact (I7.pin (b, o) (List.mem_append_right _ (List.mem_append_right _ (mem_pinsAt hb e)))).2.1
      | true =>
        rw [if_pos rfl] at q7 ⊢
        have he' := he.go _ s4 σ6 H7 _ I7 q7
        rw [Yp, Yw, YA, Ye, YE] at he'
        refine thn he' fun v s5 ⟨xv, H8, I8, r8, n8⟩ => ?_
        obtain ⟨m', hm, w8⟩ := hN _ _ n8
        obtain ⟨oD8, hD8, _⟩ := I8.pin _ (List.mem_append_right _ (List.mem_append_left _ (List.mem_singleton.mpr rfl)))
        have hsz : its.toArray.size < sizeLine := by rw [List.size_toArray, ← hv'.length]; exact hlen
        refine call_meets F.slot_list_append ⟨_, oD8, rfl⟩ F.entry_list_append (F.args_list_append_2 _ _) (PySem.list_append s.heap.objs.size its.toArray k v (Nat.le_of_lt hsz)) ⟨oD8, ?_⟩
        have q := PySem.IsL.update oD8 (fun a => a.push v)
        have J8 : Inv Y (pinsAt fp s2.heap) σ6 H8 s5 := I8.pins_of fun p hp => I8.pin p (List.mem_append_right _ (List.mem_append_right _ hp))
        have ne8 : ∀ b, b ∈ fp → b ≠ s.heap.objs.size := fun b hb => (below b (hlt b hb)).2
        have J9 := J8.turned (t' := s5.toks) (h' := s5.heap.update s.heap.objs.size (Obj.mapSeq fun a => a.push v)) (it := s.heap.objs.size) (fun b o hb e => (Heap.get?_update_other s5.heap _ (Ne.symm hb)).trans e) hD8 (by rw [Yl]; exact hDC) (.inr (by rw [Ys]; exact Nat.le_refl _)) (fun x d e => hDcell x d (by rw [← Yc]; exact e))
          (fun p hp => by
            rw [Yn, List.nil_append] at hp
            obtain ⟨hb, _⟩ := of_pinsAt hp
            exact ne8 _ hb)
        have keep9 : ∀ b o, b ∈ fp → s2.heap.get? b = some o → (s5.heap.update s.heap.objs.size (Obj.mapSeq fun a => a.push v)).get? b = some o := fun b o hb e => (J9.pin (b, o) (List.mem_append_right _ (mem_pinsAt hb e))).1
        refine ⟨m', hm, i + 1, acc ++ [xv], its ++ [v], (if ((its ++ [v]).toArray.size == its.toArray.size) = true then k else k + 1), H8, (J9.pins_of (pins' := []) fun p hp => (by cases hp)).weak (kept_len kp6) (kept_get kp6), T.keep _ _ _ tn5 fun b hb o e => keep9 b o hb e, fun b hb => ?_, w8, hD8, ?_, hv'.append (.cons r8 .nil)⟩
        · obtain ⟨o, e, _⟩ := T.obj _ _ tn5 b hb
          exact (J9.pin (b, o) (List.mem_append_right _ (mem_pinsAt hb e))).2.1
        · have q' := q
          simp only [List.push_toArray] at q'
          exact q'
  exact codeAny_compStart_list (loop _ rfl) (T.self _ 0 _ _ _ (T.keep 0 _ _ t0 (fun b hb o e => old b o e)) (loop _ rfl))


noncomputable def tComp (wi : TI) (g : TG) (tt : TT) (te : TE) (own : List Str) (js : List Nat) : TE := fun σ H Q => wi σ H fun J H1 => CompW J g tt te (sig0 own js σ) H1 fun acc H2 => ∀ p, H2 p = none → Q (.ref p) (upd H2 p (.lst acc))
theorem pe_comp {elt tg iter : Expr} {ifs : List Expr} {pos : Pos} {wi : TI} {g : TG} {tt : TT} {te : TE} (own : List Str) (js : List Nat) (c : CompOk X scope cl own js) (hc : X.calm = true) (hi : PI X tg iter wi)
    (inner : ∀ (C : Addr) (s₀ : Shared) (H₀ : Hp) (ex : List Addr), PG (compCx X scope cl (nam0 X own js) C s₀ H₀ ex) tg g ∧ PIf (compCx X scope cl (nam0 X own js) C s₀ H₀ ex) ifs tt ∧ PE (compCx X scope cl (nam0 X own js) C s₀ H₀ ex) elt te)
    (hs : ∀ x, foldedSetIterable iter X.env x = pure x := by intro _; rfl) : PE X (.ListComp elt [⟨tg, iter, ifs, 0⟩] scope pos) (tComp wi g tt te own js) := by
  refine ⟨fun pins s σ H Q I h => ?_⟩
  rw [eval_ListComp]
  refine wpAny_comprehension_free (use := none) rfl hs c.clos c.kind c.names (thn (hi.go pins s σ H _ I h) fun v s1 h1 => thn h1 fun itv s2 h2 => ?_)
  obtain ⟨it, fp, tn, J, H2, e, I2, T, st2, f2, hW⟩ := h2
  subst e
  refine comp_core (RR := fun acc C => compPost (model X.prog X.w) X.A X.xe none (EP X pins σ Q) acc C) c hc I2 T st2 f2 inner hW ?_
  intro D C s' acc H' hn hD hz hDC hCL hUC hI
  exact ⟨hn.choose, hn.choose_spec, fun h' hsb => ⟨.ref D, _, hI h' hsb, rfl, hz D hD⟩⟩

theorem ps_setComp {elt tg iter : Expr} {ifs : List Expr} {pos spos py : Pos} {wi : TI} {g : TG} {tt : TT} {te : TE} {i : Nat} {y : Str} (own : List Str) (js : List Nat) (c : CompOk X scope cl own js) (hc : X.calm = true) (hN : X.N.Nodup) (hy : X.N[i]? = some y) (hx : Loc X.env.scope y) (hi : PI X tg iter wi)
    (inner : ∀ (C : Addr) (s₀ : Shared) (H₀ : Hp) (ex : List Addr), PG (compCx X scope cl (nam0 X own js) C s₀ H₀ ex) tg g ∧ PIf (compCx X scope cl (nam0 X own js) C s₀ H₀ ex) ifs tt ∧ PE (compCx X scope cl (nam0 X own js) C s₀ H₀ ex) elt te)
    (hsw : swapsWith (.ListComp elt [⟨tg, iter, ifs, 0⟩] scope pos) (some (.Name y py)) spos.line X.env = pure true := by rfl)
    (hs : ∀ x, foldedSetIterable iter X.env x = pure x := by intro _; rfl) (hf : X.fn y = true ∨ X.env.scope.names.lookup y = some .local := by first | exact .inl rfl | exact .inr rfl | assumption) :
    PS X (.Assign [.Name y py] (.ListComp elt [⟨tg, iter, ifs, 0⟩] scope pos) spos) (tAsg (tComp wi g tt te own js) (gName i)) := by
  refine ⟨fun pins s σ H D I h => ?_⟩
  rw [exec_Assign_Name_used _ _ _ _ hsw]
  refine wpAny_bind (wpAny_standAt (wpAny_bind ?_))
  show wpAny _ X.A (do let _ ← comprehension (.ListComp elt [⟨tg, iter, ifs, 0⟩] scope pos) scope X.env _ (newList []) false (eval iter X.env) (some (assign (.Name y py) X.env))) _ _ s
  refine wpAny_bind (wpAny_mono (wpAny_comprehension_free (use := some (assign (.Name y py) X.env)) (Q := fun _ s' => SP X pins D .next s') rfl hs c.clos c.kind c.names
    (thn (hi.go pins s σ H _ I h) fun v s1 h1 => thn h1 fun itv s2 h2 => ?_)) (fun _ s' hq => wpAny_pure (wpAny_pure hq)) fun _ _ e => e)
  obtain ⟨it, fp, tn, J, H2, e, I2, T, st2, f2, hW⟩ := h2
  subst e
  refine comp_core (RR := fun acc C => compPost (model X.prog X.w) X.A X.xe (some (assign (.Name y py) X.env)) (fun _ s' => SP X pins D .next s') acc C) c hc I2 T st2 f2 inner hW ?_
  intro D' C s' acc H' hn hD hz hDC hCL hUC hI
  show wpAny _ X.A (assign (.Name y py) X.env (.ref D')) _ _ _
  have I9 := hI s'.heap (Heap.SameBut.refl _ _)
  obtain ⟨m, hm⟩ := hn
  refine wpAny_assign_Name (store_ok2 (v := .ref D') I9 hN hy hx rfl (fun s'' I'' ⟨a, sb, ha⟩ => ?_) hf)
  have aC : C ≠ a := by
    rcases ha with ha | ha
    · rw [ha]; exact hCL
    · intro z
      subst z
      obtain ⟨v, q⟩ := I2.cell y C ha
      exact absurd (Nat.lt_of_lt_of_le q.lt hDC) (Nat.lt_irrefl _)
  refine ⟨m, hm.sameBut sb aC, fun h' hsb => ?_⟩
  refine ⟨σ.set i (some (.ref D')), upd H' D' (.lst acc), I''.turned (t' := s''.toks) (it := C) (fun b o hb e => by rw [hsb.2 b hb]; exact e) ?_ hCL (.inr (Nat.le_trans I2.sz hDC)) (fun x d e z => ?_) (fun p hp z => ?_), hz D' hD⟩
  · exact hUC
  · obtain ⟨v, q⟩ := I2.cell x d e
    rw [z] at q
    exact absurd (Nat.lt_of_lt_of_le q.lt hDC) (Nat.lt_irrefl _)
  · have q := Heap.lt_size (I2.pin p hp).1
    rw [z] at q
    exact absurd (Nat.lt_of_lt_of_le q hDC) (Nat.lt_irrefl _)
end
end L2

set_option Elab.async false
set_option linter.all false
set_option maxRecDepth 100000
set_option maxHeartbeats 1000000
namespace L2
open PySem PySem.Spec PyProof.Rows

noncomputable def Ite (a : Addr) : It :=
  ⟨fun i H => ∃ xs x, H a = some (.lst xs) ∧ xs[i]? = some x, fun i H v H' => ∃ p x, H p = none ∧ v = .ref p ∧ H' = upd H p (.tup [.int i, x]) ∧ ∀ xs, H a = some (.lst xs) → xs[i]? = some x, fun i H => ∃ xs, H a = some (.lst xs) ∧ xs.length ≤ i⟩
theorem turn_enum {P : Program} {w : World} {K : PySem.W.Frag} {es : List Expr} {k : Nat} {pos : Pos} (a e it : Addr) (hne : e ≠ it) :
    Turn P w K (.Tuple es k pos) (Ite a) [e, it] e (fun i h => (∃ old, IsEnum h e it i old) ∧ h.IsListIter it a i) where
  mem := by simp
  obj := fun i h st b hb => by
    rw [List.mem_cons, List.mem_singleton] at hb
    rcases hb with rfl | rfl
    · obtain ⟨⟨old, q⟩, _⟩ := st
      exact ⟨_, q, fun v z => by cases z⟩
    · obtain ⟨_, o, q, c, d⟩ := st
      exact ⟨o, q, fun v z => by rw [d] at z; cases z⟩
  keep := fun i h h' st kp => ⟨by obtain ⟨old, q⟩ := st.1; exact ⟨old, kp e (by simp) _ q⟩, st.2.at fun o q => kp it (by simp) o q⟩
  item := by
    intro X hP hw hK hc i pins s σ H E I hf st hg
    subst hP hw hK
    obtain ⟨xs, x, hq, hx⟩ := hg
    obtain ⟨⟨old, he⟩, hit⟩ := st
    obtain ⟨its, rv, p, hz⟩ := I.list (SqL.of hq)
    obtain ⟨u, hu, ru⟩ := rv.get hx
    obtain ⟨f0, f1, f2, f3, f4, f5⟩ := hf e (by simp)
    obtain ⟨g0, g1, g2, g3, g4, g5⟩ := hf it (by simp)
    refine wpAny_pyNext_enum_item he hit p.isList (x := u) (by simpa using hu) hne fun h' eo it' ht hsz hk => ?_
    refine ⟨.ref s.heap.objs.size, rfl, ?_⟩
    refine wpAny_letOwnedTupleGo_enum eo fun h2 he2 hs2 => ?_
    have fr : H s.heap.objs.size = none := I.hok.fresh (Nat.le_refl _)
    have ne2 : ∀ b, b < s.heap.objs.size → b ≠ s.heap.objs.size := fun b hb => Nat.ne_of_lt hb
    have ee : e < s.heap.objs.size := Heap.lt_size he
    have k2 : ∀ b o, b ≠ e → b ≠ it → s.heap.get? b = some o → h2.get? b = some o := fun b o h1 h2' q => (hs2.2 b h1).trans (hk b o h1 h2' q)
    have ht2 : h2.get? s.heap.objs.size = some { cls := .type "tuple", data := .seq #[.int i s.toks, u] } := (hs2.2 _ (Nat.ne_of_gt ee)).trans ht
    have trk : ∀ b v, H b = some v → b ≠ e ∧ b ≠ it := fun b v q => ⟨ne_of_none q f0, ne_of_none q g0⟩
    have hok0 : HOk X.prog X.w H h2 := fun b o q => (I.hok b o q).stay (fun c v hc q' => by
      rcases hc with rfl | hc
      · exact k2 c v (trk c _ q).1 (trk c _ q).2 q'
      · exact k2 c v (trk c _ hc).1 (trk c _ hc).2 q') (fun _ z => z) fun _ _ z => z
    have I1 : Inv X pins σ (upd H s.heap.objs.size (.tup [.int i, x])) { s with heap := h2, toks := s.toks + 1 } := by
      refine I.step (g' := s.gens) (d' := s.drawn) (ch := [e, it]) (fun b hb => ?_) (fun b o _ _ hc q _ => k2 b o (fun z => hc (by simp [z])) (fun z => hc (by simp [z])) q) (fun b o _ _ hc q _ => ⟨o.slots, k2 b o (fun z => hc (by simp [z])) (fun z => hc (by simp [z])) q⟩)
        (fun b o _ q n => by rw [upd_ne (ne2 b (Heap.lt_size q))]; exact n) (fun b o hc q => ⟨o, k2 b o (fun z => hc (by simp [z])) (fun z => hc (by simp [z])) q⟩) (fun b ys q => by rw [upd_ne (ne_of_none q fr)]; exact q) (fun b o v q => by rw [upd_ne (ne_of_none q fr)]; exact q)
        (fun b ps q => ⟨#[], by rw [upd_ne (ne_of_none q fr), q]; simp⟩) (fun m hm => ?_) ?_ I.bare
      · rw [List.mem_cons, List.mem_singleton] at hb
        rcases hb with rfl | rfl
        · exact ⟨f3, f1, f4, f5⟩
        · exact ⟨g3, g1, g4, g5⟩
      · obtain ⟨o, es', ep, ho, r⟩ := hm
        exact ⟨o, es', ep, k2 _ o (Ne.symm f1) (Ne.symm g1) ho, r⟩
      · exact hok0.adopt fr ⟨by show 2 ≤ sizeLine; decide, [.int i s.toks, u], .cons ⟨_, rfl⟩ (.cons ru .nil), ⟨_, ht2, rfl, _, rfl⟩⟩
    refine ⟨.ref s.heap.objs.size, _, I1, rfl, ⟨_, x, fr, rfl, rfl, fun ys hy => by rw [hq] at hy; cases hy; exact hx⟩, ⟨⟨_, by simpa using he2⟩, it'.extBut hs2.extBut (Ne.symm hne)⟩, fun b hb => ?_⟩
    have : H b = none := (hf b hb).1
    have hb' : b < s.heap.objs.size := by
      rw [List.mem_cons, List.mem_singleton] at hb
      rcases hb with rfl | rfl
      · exact ee
      · obtain ⟨o, q, _⟩ := hit; exact Heap.lt_size q
    rw [upd_ne (ne2 b hb')]
    exact this
  done := by
    intro X hP hw hK hc i pins s σ H E I hf st hg
    subst hP hw hK
    obtain ⟨xs, hq, hx⟩ := hg
    obtain ⟨⟨old, he⟩, hit⟩ := st
    obtain ⟨its, rv, p, hz⟩ := I.list (SqL.of hq)
    obtain ⟨g0, g1, g2, g3, g4, g5⟩ := hf it (by simp)
    have hl := rv.length
    exact wpAny_pyNext_enum_end (I.ok.hd hc) he hit p.isList (by simp; omega) fun h' eb => ⟨rfl, I.turned (t' := s.toks) (fun b o hb e => eb b o hb e) g0 g1 g3 g4 g5⟩
  self := fun _ _ _ _ _ st h => by
    obtain ⟨⟨old, he⟩, _⟩ := st
    exact wpAny_pyIter_enum he h

section
variable {X : Cx} {es : List Expr} {k : Nat} {tpos : Pos}
noncomputable def iEnum (ta : TA) : TI := fun σ H R => ta σ H fun vs H1 => ∃ a, vs = [.ref a] ∧ (∃ xs, H1 a = some (.lst xs)) ∧ R (Ite a) H1
theorem pi_enum {l : Expr} {ta : TA} {p pos : Pos} (hg : Gl X "enumerate") (hm : X.mg "enumerate" = none) (ha : PA X [l] ta) (hs : starEach [l] X.env = [(false, eval l X.env)] := by rfl) : PI X (.Tuple es k tpos) (.Call (.Name "enumerate" p) [l] [] pos) (iEnum ta) := by
  refine ⟨fun pins s σ H R I h => ?_⟩
  refine wpAny_Call_Name_kw (ld_blt I hg hm bt_enumerate ?_)
  refine PyProof.Rows.callWith_type1 (thn (ha pos pins s σ H _ I h) fun us s1 ⟨vs, H1, I1, r1, a, e, ⟨xs, hx⟩, q⟩ => ?_) hs rfl
  subst e
  obtain ⟨u, rfl, ru⟩ := vals1 r1
  cases ru
  obtain ⟨_, its, n, rv, ho⟩ := (show ObjOk X.prog X.w H1 s1.heap a (.lst xs) from I1.hok a _ hx)
  refine call_enumerate_1 ho fun h' he hit hsz hk => ?_
  have I2 : Inv X pins σ H1 { s1 with heap := h' } := I1.kept (t' := s1.toks) hk
  refine wpAny_pyIter_enum he ⟨s1.heap.objs.size + 1, [s1.heap.objs.size + 1, s1.heap.objs.size], _, Ite a, H1, rfl, I2, turn_enum a (s1.heap.objs.size + 1) s1.heap.objs.size (Nat.succ_ne_self _), ⟨⟨_, he⟩, hit⟩, fun b hb => ?_, q⟩
  have hb' : s1.heap.objs.size ≤ b := by
    rw [List.mem_cons, List.mem_singleton] at hb
    rcases hb with rfl | rfl <;> omega
  have z := I1.fpOk (H' := H1) hb' (I1.hok.fresh hb')
  exact z
end
end L2

set_option Elab.async false
set_option linter.all false
set_option maxRecDepth 100000
set_option maxHeartbeats 1000000
namespace L2
open PySem PySem.Spec PyProof.Rows
mutual
noncomputable def toP : D → PyData
  | .non => .none
  | .bl b => .bool b
  | .int i => .int i
  | .str x => .str x
  | .tup ds => .tuple (toPs ds)
  | .lst ds => .list (toPs ds)
  | .dct => .dict []
  | .scr _ _ => .dict []
  | .ext _ => .dict []
noncomputable def toPs : List D → List PyData
  | [] => []
  | d :: ds => toP d :: toPs ds
end
mutual
theorem rep_reads {X : Cx} {pins : List (Addr × Obj)} {σ : St} {H : Hp} {s : Shared} (I : Inv X pins σ H s) : ∀ (d : D) (v : V) (u : Value), Rep H d v → RelV v u → (toP d).canLay0 = true → ∃ as, Reads s.heap u (toP d) as
  | .non, v, u, h, r, _ => by rw [Rep] at h; subst h; cases r; rw [toP]; exact ⟨_, .none⟩
  | .bl b, v, u, h, r, _ => by rw [Rep] at h; subst h; cases r; rw [toP]; exact ⟨_, .bool b⟩
  | .int i, v, u, h, r, _ => by rw [Rep] at h; subst h; obtain ⟨t, rfl⟩ := r; rw [toP]; exact ⟨_, .int i t⟩
  | .str x, v, u, h, r, _ => by rw [Rep] at h; subst h; obtain ⟨t, rfl⟩ := r; rw [toP]; exact ⟨_, .str x t⟩
  | .tup ds, v, u, h, r, c => by
    rw [Rep] at h
    obtain ⟨a, xs, rfl, ha, hx⟩ := h
    cases r
    rw [toP] at c ⊢
    obtain ⟨_, its, rv, o, e1, e2, n, e3⟩ := (show ObjOk X.prog X.w H s.heap a (.tup xs) from I.hok a _ ha)
    obtain ⟨as, q⟩ := reps_reads I ds xs its hx rv (by rw [PyData.canLay0] at c; exact c)
    exact ⟨_, reads_tuple_at e1 e2 e3 (by simpa using q)⟩
  | .lst ds, v, u, h, r, c => by
    rw [Rep] at h
    obtain ⟨a, xs, rfl, ha, hx⟩ := h
    cases r
    rw [toP] at c ⊢
    obtain ⟨_, its, n, rv, e1⟩ := (show ObjOk X.prog X.w H s.heap a (.lst xs) from I.hok a _ ha)
    obtain ⟨as, q⟩ := reps_reads I ds xs its hx rv (by rw [PyData.canLay0] at c; exact c)
    exact ⟨_, reads_list_at e1 rfl rfl (by simpa using q)⟩
  | .dct, v, u, h, r, c => by rw [toP, PyData.canLay0] at c; cases c
  | .scr _ _, v, u, h, r, c => by rw [toP, PyData.canLay0] at c; cases c
  | .ext _, v, u, h, r, c => by rw [toP, PyData.canLay0] at c; cases c
theorem reps_reads {X : Cx} {pins : List (Addr × Obj)} {σ : St} {H : Hp} {s : Shared} (I : Inv X pins σ H s) : ∀ (ds : List D) (vs : List V) (us : List Value), Reps H ds vs → Vals vs us → PyData.canLayAll0 (toPs ds) = true → ∃ as, ReadsAll s.heap us (toPs ds) as
  | [], vs, us, h, r, _ => by rw [Reps] at h; subst h; cases r; rw [toPs]; exact ⟨_, .nil⟩
  | d :: ds, vs, us, h, r, c => by
    rw [Reps] at h
    obtain ⟨v, vs', rfl, h1, h2⟩ := h
    rw [toPs] at c ⊢
    rw [PyData.canLayAll0, Bool.and_eq_true] at c
    cases r with
    | cons r1 r2 =>
      obtain ⟨as, q1⟩ := rep_reads I d v _ h1 r1 c.1
      obtain ⟨bs, q2⟩ := reps_reads I ds vs' _ h2 r2 c.2
      exact ⟨_, .cons q1 q2⟩
end
section
variable {X : Cx}
noncomputable def rEqD : R2 := fun x y H Q => ∃ d e, Rep H d x ∧ Rep H e y ∧ SeqAt.shaped (toP d) = true ∧ SeqAt.shaped (toP e) = true ∧ Q (.bl (PyData.eqv (toP d) (toP e))) H
noncomputable def rNeD : R2 := fun x y H Q => ∃ d e, Rep H d x ∧ Rep H e y ∧ SeqAt.shaped (toP d) = true ∧ SeqAt.shaped (toP e) = true ∧ Q (.bl (!PyData.eqv (toP d) (toP e))) H
theorem op_eqD (hu : X.A.units + 64 < cLine) : OpR X (compareOp .Eq) rEqD := by
  intro pins s σ H x y v u Q I rx ry h
  obtain ⟨d, e, h1, h2, c1, c2, q⟩ := h
  obtain ⟨as, r1⟩ := rep_reads I d x v h1 rx (SeqAt.canLay_of_shaped c1)
  obtain ⟨bs, r2⟩ := rep_reads I e y u h2 ry (SeqAt.canLay_of_shaped c2)
  exact eq_dataH r1 r2 c1 c2 hu ⟨.bl _, H, I, rfl, q⟩
theorem op_neD (hu : X.A.units + 64 < cLine) : OpR X (compareOp .NotEq) rNeD := by
  intro pins s σ H x y v u Q I rx ry h
  obtain ⟨d, e, h1, h2, c1, c2, q⟩ := h
  obtain ⟨as, r1⟩ := rep_reads I d x v h1 rx (SeqAt.canLay_of_shaped c1)
  obtain ⟨bs, r2⟩ := rep_reads I e y u h2 ry (SeqAt.canLay_of_shaped c2)
  exact ne_dataH r1 r2 c1 c2 hu ⟨.bl _, H, I, rfl, q⟩
end

noncomputable def dInts (ns : List Int) : D := .lst (ns.map .int)
theorem toPs_ints (ns : List Int) : toPs (ns.map .int) = ns.map .int := by
  induction ns with
  | nil => rw [List.map_nil, toPs]; rfl
  | cons n r ih => rw [List.map_cons, toPs, ih, toP]; rfl
theorem lay_ints (ns : List Int) : PyData.canLayAll0 (ns.map .int) = true ∧ PyData.depthAll (ns.map .int) ≤ 1 := by
  induction ns with
  | nil => simp [PyData.canLayAll0, PyData.depthAll]
  | cons n r ih => simp only [List.map_cons, PyData.canLayAll0, PyData.canLay0, PyData.depthAll, PyData.depth, ih.1, Bool.and_self, true_and]; have := ih.2; omega
theorem eqv_ints (ns ms : List Int) : PyData.eqvAll (ns.map .int) (ms.map .int) = decide (ns = ms) := by
  induction ns generalizing ms with
  | nil => cases ms <;> simp [PyData.eqvAll]
  | cons n r ih =>
    cases ms with
    | nil => simp [PyData.eqvAll]
    | cons m q =>
      rw [List.map_cons, List.map_cons, PyData.eqvAll, PyData.eqv, ih]
      by_cases h : n = m
      · subst h; simp
      · simp [h]
theorem shaped_ints (ns : List Int) : SeqAt.shaped (toP (dInts ns)) = true := by
  have h := lay_ints ns
  unfold SeqAt.shaped dInts
  rw [toP, toPs_ints, PyData.canLay0, PyData.depth, h.1, Bool.true_and]
  exact decide_eq_true (by have := h.2; omega)
theorem eqD_ints (ns ms : List Int) : PyData.eqv (toP (dInts ns)) (toP (dInts ms)) = decide (ns = ms) := by
  unfold dInts
  rw [toP, toP, toPs_ints, toPs_ints, PyData.eqv, eqv_ints]
theorem reps_ints {H : Hp} : ∀ ns : List Int, Reps H (ns.map .int) (ns.map V.int)
  | [] => reps_nil
  | n :: r => reps_cons (rep_int n) (reps_ints r)

noncomputable def dPair (ns ms : List Int) : D := .tup [dInts ns, dInts ms]
end L2

set_option Elab.async false
set_option linter.all false
set_option maxRecDepth 100000
set_option maxHeartbeats 1000000
namespace L2
open PySem PySem.Spec PyProof.Rows
section
variable {X : Cx}
theorem call_range1 : CallR X (.type "range") (fun xs H Q => ∃ j : Int, xs = [.int j] ∧ ∀ p, H p = none → Q (.ref p) (upd H p (.rng 0 j))) := by
  intro pins s σ H xs us Q I r h
  obtain ⟨j, rfl, q⟩ := h
  obtain ⟨u, rfl, t, rfl⟩ := vals1 r
  refine call_range_1 ⟨.ref s.heap.objs.size, _, I.laid (a := s.heap.objs.size) (o := .rng 0 j) (fun _ _ e => Heap.get?_push_of_some _ e) (Nat.le_refl _) ⟨_, _, _, Heap.get?_push_size _ rfl⟩, rfl, q _ (I.hok.fresh (Nat.le_refl _))⟩
noncomputable def ranI (lo : Int) (n : Nat) : List Int := (List.range n).map fun (i : Nat) => lo + i
theorem vals_of_get : ∀ {xs : List V} {us : List Value}, xs.length = us.length → (∀ (i : Nat) x u, xs[i]? = some x → us[i]? = some u → RelV x u) → Vals xs us
  | [], [], _, _ => .nil
  | x :: xs, u :: us, hl, h => .cons (h 0 x u rfl rfl) (vals_of_get (by simpa using hl) fun i x' u' e1 e2 => h (i + 1) x' u' (by simpa using e1) (by simpa using e2))
  | [], _ :: _, hl, _ => by simp at hl
  | _ :: _, [], hl, _ => by simp at hl
theorem call_list_rng (hc : X.calm = true) : CallR X (.type "list") (fun xs H Q => ∃ (r : Addr) (j : Int), xs = [.ref r] ∧ H r = some (.rng 0 j) ∧ 0 ≤ j ∧ j ≤ 1000 ∧ ∀ p, H p = none → Q (.ref p) (upd H p (.lst ((ranI 0 j.toNat).map V.int)))) := by
  intro pins s σ H xs us Q I r h
  obtain ⟨a, j, rfl, ha, h0, h1, q⟩ := h
  obtain ⟨u, rfl, ru⟩ := vals1 r
  cases ru
  obtain ⟨t, u, v, e⟩ := (show ObjOk X.prog X.w H s.heap a (.rng 0 j) from I.hok a _ ha)
  refine call_list_range (n := j.toNat) (I.ok.hd hc) e (small_one (by decide) (by decide) (by omega) (by omega)) (by rw [rangeSize_one]; split <;> omega) (by omega) fun h' tk acc' c' hk hS hacc => ?_
  refine ⟨.ref s.heap.objs.size, _, I.laid (a := s.heap.objs.size) (o := .lst ((ranI 0 j.toNat).map V.int)) hk (Nat.le_refl _) ?_, rfl, q _ (I.hok.fresh (Nat.le_refl _))⟩
  have hl : ((ranI 0 j.toNat).map V.int).length = j.toNat := by simp [ranI]
  refine ⟨Nat.le_of_lt (small1000 (by rw [hl]; omega)), acc'.toList, c', vals_of_get (by rw [hl]; simpa using hacc.1.symm) (fun i x w e1 e2 => ?_), by simpa using hS⟩
  have e3 := hacc.2 i w (by simpa using e2)
  obtain ⟨t', rfl⟩ := e3
  rw [List.getElem?_map] at e1
  unfold ranI at e1
  rw [List.getElem?_map] at e1
  have hi : i < j.toNat := by
    cases z : (List.range j.toNat)[i]? with
    | none => rw [z] at e1; cases e1
    | some k => have := (List.getElem?_eq_some_iff.mp z).1; simpa using this
  rw [List.getElem?_range hi] at e1
  have e1' : V.int (0 + (i : Int)) = x := Option.some.inj e1
  subst e1'
  exact ⟨t', by simp⟩
end
end L2

set_option Elab.async false
set_option linter.all false
set_option maxRecDepth 100000
set_option maxHeartbeats 1000000
namespace L2
open PySem PySem.Spec PyProof.Rows


noncomputable abbrev DSt := List (Option D)

noncomputable abbrev Own := Addr → Option (Nat × List Nat)
mutual
noncomputable def Sep (G H : Hp) (O : Own) (i : Nat) : D → List Nat → V → Prop
  | .non, _, v => v = .non
  | .bl b, _, v => v = .bl b
  | .int n, _, v => v = .int n
  | .str x, _, v => v = .str x
  | .tup ds, π, v => ∃ a xs, v = .ref a ∧ G a = some (.tup xs) ∧ Seps G H O i ds 0 π xs
  | .lst ds, π, v => ∃ a xs, v = .ref a ∧ O a = some (i, π) ∧ H a = some (.lst xs) ∧ Seps G H O i ds 0 π xs
  | .dct, _, _ => False
  | .scr _ _, _, _ => False
  | .ext _, _, _ => False
noncomputable def Seps (G H : Hp) (O : Own) (i : Nat) : List D → Nat → List Nat → List V → Prop
  | [], _, _, xs => xs = []
  | d :: ds, k, π, xs => ∃ v vs, xs = v :: vs ∧ Sep G H O i d (k :: π) v ∧ Seps G H O i ds (k + 1) π vs
end

noncomputable def TSame (G G' : Hp) : Prop := ∀ a xs, G a = some (.tup xs) → G' a = some (.tup xs)
theorem Same.ts {G G' : Hp} (h : Same G G') : TSame G G' := fun a xs e => h a _ e
mutual
theorem Sep.map {G H G' H' : Hp} {O O' : Own} {i i' : Nat} {f : List Nat → List Nat} (hG : TSame G G') (hf : ∀ k π, f (k :: π) = k :: f π) :
    ∀ (d : D) (π : List Nat) (v : V), (∀ a τ, O a = some (i, τ ++ π) → O' a = some (i', f (τ ++ π)) ∧ H' a = H a) → Sep G H O i d π v → Sep G' H' O' i' d (f π) v
  | .non, _, _, _, h => by rw [Sep] at *; exact h
  | .bl b, _, _, _, h => by rw [Sep] at *; exact h
  | .int n, _, _, _, h => by rw [Sep] at *; exact h
  | .str x, _, _, _, h => by rw [Sep] at *; exact h
  | .tup ds, π, v, hO, h => by
    rw [Sep] at *
    obtain ⟨a, xs, h1, h2, h3⟩ := h
    exact ⟨a, xs, h1, hG _ _ h2, Seps.map hG hf ds 0 π xs (fun a τ _ => hO a τ) h3⟩
  | .lst ds, π, v, hO, h => by
    rw [Sep] at *
    obtain ⟨a, xs, h1, h2, h3, h4⟩ := h
    have q := hO a [] h2
    exact ⟨a, xs, h1, q.1, q.2.trans h3, Seps.map hG hf ds 0 π xs (fun a τ _ => hO a τ) h4⟩
  | .dct, _, _, _, h => by rw [Sep] at h; exact h.elim
  | .scr _ _, _, _, _, h => by rw [Sep] at h; exact h.elim
  | .ext _, _, _, _, h => by rw [Sep] at h; exact h.elim
theorem Seps.map {G H G' H' : Hp} {O O' : Own} {i i' : Nat} {f : List Nat → List Nat} (hG : TSame G G') (hf : ∀ k π, f (k :: π) = k :: f π) :
    ∀ (ds : List D) (k : Nat) (π : List Nat) (xs : List V), (∀ a τ, τ ≠ [] → O a = some (i, τ ++ π) → O' a = some (i', f (τ ++ π)) ∧ H' a = H a) → Seps G H O i ds k π xs → Seps G' H' O' i' ds k (f π) xs
  | [], _, _, _, _, h => by rw [Seps] at *; exact h
  | d :: ds, k, π, xs, hO, h => by
    rw [Seps] at *
    obtain ⟨v, vs, h1, h2, h3⟩ := h
    refine ⟨v, vs, h1, ?_, Seps.map hG hf ds (k + 1) π vs hO h3⟩
    rw [← hf]
    refine Sep.map hG hf d (k :: π) v (fun a τ e => ?_) h2
    have e' : τ ++ k :: π = (τ ++ [k]) ++ π := by simp
    rw [e'] at e ⊢
    exact hO a (τ ++ [k]) (by simp) e
end

theorem Sep.keep {G H G' H' : Hp} {O O' : Own} {i i' : Nat} {d : D} {π : List Nat} {v : V} (hG : TSame G G') (hO : ∀ a τ, O a = some (i, τ ++ π) → O' a = some (i', τ ++ π) ∧ H' a = H a) (h : Sep G H O i d π v) : Sep G' H' O' i' d π v :=
  Sep.map (f := id) hG (fun _ _ => rfl) d π v hO h
theorem Seps.keep {G H G' H' : Hp} {O O' : Own} {i i' : Nat} {ds : List D} {k : Nat} {π : List Nat} {xs : List V} (hG : TSame G G') (hO : ∀ a τ, τ ≠ [] → O a = some (i, τ ++ π) → O' a = some (i', τ ++ π) ∧ H' a = H a) (h : Seps G H O i ds k π xs) : Seps G' H' O' i' ds k π xs :=
  Seps.map (f := id) hG (fun _ _ => rfl) ds k π xs hO h
mutual
theorem Sep.rep {G H G' : Hp} {O : Own} {i : Nat} (hG : TSame G G') : ∀ (d : D) (π : List Nat) (v : V), (∀ a τ xs, O a = some (i, τ ++ π) → H a = some (.lst xs) → G' a = some (.lst xs)) → Sep G H O i d π v → Rep G' d v
  | .non, _, _, _, h => by rw [Sep] at h; rw [Rep]; exact h
  | .bl b, _, _, _, h => by rw [Sep] at h; rw [Rep]; exact h
  | .int n, _, _, _, h => by rw [Sep] at h; rw [Rep]; exact h
  | .str x, _, _, _, h => by rw [Sep] at h; rw [Rep]; exact h
  | .tup ds, π, v, hO, h => by
    rw [Sep] at h; rw [Rep]
    obtain ⟨a, xs, h1, h2, h3⟩ := h
    exact ⟨a, xs, h1, hG _ _ h2, Seps.rep hG ds 0 π xs (fun a τ ys _ => hO a τ ys) h3⟩
  | .lst ds, π, v, hO, h => by
    rw [Sep] at h; rw [Rep]
    obtain ⟨a, xs, h1, h2, h3, h4⟩ := h
    exact ⟨a, xs, h1, hO a [] xs h2 h3, Seps.rep hG ds 0 π xs (fun a τ ys _ => hO a τ ys) h4⟩
  | .dct, _, _, _, h => by rw [Sep] at h; exact h.elim
  | .scr _ _, _, _, _, h => by rw [Sep] at h; exact h.elim
  | .ext _, _, _, _, h => by rw [Sep] at h; exact h.elim
theorem Seps.rep {G H G' : Hp} {O : Own} {i : Nat} (hG : TSame G G') : ∀ (ds : List D) (k : Nat) (π : List Nat) (xs : List V), (∀ a τ ys, τ ≠ [] → O a = some (i, τ ++ π) → H a = some (.lst ys) → G' a = some (.lst ys)) → Seps G H O i ds k π xs → Reps G' ds xs
  | [], _, _, _, _, h => by rw [Seps] at h; rw [Reps]; exact h
  | d :: ds, k, π, xs, hO, h => by
    rw [Seps] at h; rw [Reps]
    obtain ⟨v, vs, h1, h2, h3⟩ := h
    refine ⟨v, vs, h1, Sep.rep hG d (k :: π) v (fun a τ ys e q => ?_) h2, Seps.rep hG ds (k + 1) π vs hO h3⟩
    have e' : τ ++ k :: π = (τ ++ [k]) ++ π := by simp
    rw [e'] at e
    exact hO a (τ ++ [k]) ys (by simp) e q
end
mutual
noncomputable def imm : D → Bool
  | .tup ds => imms ds
  | .lst _ => false
  | .dct => false
  | .scr _ _ => false
  | .ext _ => false
  | _ => true
noncomputable def imms : List D → Bool
  | [] => true
  | d :: ds => imm d && imms ds
end
mutual
theorem Rep.sep {G H : Hp} {O : Own} {i : Nat} : ∀ (d : D) (π : List Nat) (v : V), imm d = true → Rep G d v → Sep G H O i d π v
  | .non, _, _, _, h => by rw [Rep] at h; rw [Sep]; exact h
  | .bl b, _, _, _, h => by rw [Rep] at h; rw [Sep]; exact h
  | .int n, _, _, _, h => by rw [Rep] at h; rw [Sep]; exact h
  | .str x, _, _, _, h => by rw [Rep] at h; rw [Sep]; exact h
  | .tup ds, π, v, hi, h => by
    rw [Rep] at h; rw [Sep]
    obtain ⟨a, xs, h1, h2, h3⟩ := h
    exact ⟨a, xs, h1, h2, Reps.sep ds 0 π xs (by rw [imm] at hi; exact hi) h3⟩
  | .lst ds, _, _, hi, _ => by rw [imm] at hi; cases hi
  | .dct, _, _, hi, _ => by rw [imm] at hi; cases hi
  | .scr _ _, _, _, hi, _ => by rw [imm] at hi; cases hi
  | .ext _, _, _, hi, _ => by rw [imm] at hi; cases hi
theorem Reps.sep {G H : Hp} {O : Own} {i : Nat} : ∀ (ds : List D) (k : Nat) (π : List Nat) (xs : List V), imms ds = true → Reps G ds xs → Seps G H O i ds k π xs
  | [], _, _, _, _, h => by rw [Reps] at h; rw [Seps]; exact h
  | d :: ds, k, π, xs, hi, h => by
    rw [Reps] at h; rw [Seps]
    rw [imms, Bool.and_eq_true] at hi
    obtain ⟨v, vs, h1, h2, h3⟩ := h
    exact ⟨v, vs, h1, Rep.sep d (k :: π) v hi.1 h2, Reps.sep ds (k + 1) π vs hi.2 h3⟩
end
mutual
theorem Sep.imm {G H : Hp} {O : Own} {i : Nat} : ∀ (d : D) (π : List Nat) (v : V), L2.imm d = true → Sep G H O i d π v → Rep G d v
  | .non, _, _, _, h => by rw [Sep] at h; rw [Rep]; exact h
  | .bl b, _, _, _, h => by rw [Sep] at h; rw [Rep]; exact h
  | .int n, _, _, _, h => by rw [Sep] at h; rw [Rep]; exact h
  | .str x, _, _, _, h => by rw [Sep] at h; rw [Rep]; exact h
  | .tup ds, π, v, hi, h => by
    rw [Sep] at h; rw [Rep]
    obtain ⟨a, xs, h1, h2, h3⟩ := h
    exact ⟨a, xs, h1, h2, Seps.imm ds 0 π xs (by rw [L2.imm] at hi; exact hi) h3⟩
  | .lst ds, _, _, hi, _ => by rw [L2.imm] at hi; cases hi
  | .dct, _, _, hi, _ => by rw [L2.imm] at hi; cases hi
  | .scr _ _, _, _, hi, _ => by rw [L2.imm] at hi; cases hi
  | .ext _, _, _, hi, _ => by rw [L2.imm] at hi; cases hi
theorem Seps.imm {G H : Hp} {O : Own} {i : Nat} : ∀ (ds : List D) (k : Nat) (π : List Nat) (xs : List V), imms ds = true → Seps G H O i ds k π xs → Reps G ds xs
  | [], _, _, _, _, h => by rw [Seps] at h; rw [Reps]; exact h
  | d :: ds, k, π, xs, hi, h => by
    rw [Seps] at h; rw [Reps]
    rw [imms, Bool.and_eq_true] at hi
    obtain ⟨v, vs, h1, h2, h3⟩ := h
    exact ⟨v, vs, h1, Sep.imm d (k :: π) v hi.1 h2, Seps.imm ds (k + 1) π vs hi.2 h3⟩
end
mutual
theorem Rep.imms {G G' : Hp} (hG : TSame G G') : ∀ (d : D) (v : V), L2.imm d = true → Rep G d v → Rep G' d v
  | .non, _, _, h => by rw [Rep] at *; exact h
  | .bl b, _, _, h => by rw [Rep] at *; exact h
  | .int n, _, _, h => by rw [Rep] at *; exact h
  | .str x, _, _, h => by rw [Rep] at *; exact h
  | .tup ds, v, hi, h => by
    rw [Rep] at *
    obtain ⟨a, xs, h1, h2, h3⟩ := h
    exact ⟨a, xs, h1, hG _ _ h2, Reps.imms hG ds xs (by rw [L2.imm] at hi; exact hi) h3⟩
  | .lst ds, _, hi, _ => by rw [L2.imm] at hi; cases hi
  | .dct, _, hi, _ => by rw [L2.imm] at hi; cases hi
  | .scr _ _, _, hi, _ => by rw [L2.imm] at hi; cases hi
  | .ext _, _, hi, _ => by rw [L2.imm] at hi; cases hi
theorem Reps.imms {G G' : Hp} (hG : TSame G G') : ∀ (ds : List D) (xs : List V), L2.imms ds = true → Reps G ds xs → Reps G' ds xs
  | [], _, _, h => by rw [Reps] at *; exact h
  | d :: ds, xs, hi, h => by
    rw [Reps] at *
    rw [L2.imms, Bool.and_eq_true] at hi
    obtain ⟨v, vs, h1, h2, h3⟩ := h
    exact ⟨v, vs, h1, Rep.imms hG d v hi.1 h2, Reps.imms hG ds vs hi.2 h3⟩
end
theorem Seps.length {G H : Hp} {O : Own} {i : Nat} : ∀ {ds : List D} {k : Nat} {π : List Nat} {xs : List V}, Seps G H O i ds k π xs → xs.length = ds.length
  | [], _, _, _, h => by rw [Seps] at h; subst h; rfl
  | d :: ds, k, π, xs, h => by
    rw [Seps] at h
    obtain ⟨v, vs, rfl, _, h3⟩ := h
    simp [Seps.length h3]



structure Ctx where
  G : Hp
  H : Hp
  O : Own
  mu : List (Option V)
  np : Nat
noncomputable def Pend (G H : Hp) (O : Own) : List (D × V) → Prop
  | [] => True
  | (d, v) :: r => Sep G H O (2 * r.length + 1) d [] v ∧ Pend G H O r

noncomputable def Nw (C : Ctx) (a : Addr) (l : Nat) : Prop := C.H a = none ∨ ∃ π, C.O a = some (l, π)
structure RO (C : Ctx) (ow : List Bool) (G : Hp) (ρ : DSt) (σ : St) (H : Hp) (pd : List (D × V)) (O : Own) : Prop where
  len : ρ.length = σ.length
  gh : Same G H
  g0 : Same C.G G
  gn : ∀ a o, G a = some o → C.G a = some o ∨ C.H a = none
  og : ∀ a l, O a = some l → G a = none ∧ (∃ xs, H a = some (.lst xs)) ∧ Nw C a l.1
  cok : ∀ a l π, C.O a = some (l, π) → (∃ (i : Nat) (v : V), l = 2 * i ∧ C.mu[i]? = some (some v)) ∨ ∃ j, l = 2 * j + 1 ∧ j < C.np
  fr : ∀ a o, C.H a = some o → C.O a = none → H a = some o
  al : ∀ a, H a = none → C.H a = none
  mp : ∀ (i : Nat) v, C.mu[i]? = some (some v) → σ[i]? = some (some v)
  sl : ∀ (i : Nat) d, ρ[i]? = some (some d) → ∃ v, σ[i]? = some (some v) ∧ if ow[i]? = some true then Sep G H O (2 * i) d [] v else Rep G d v
  pn : Pend G H O pd
  np : C.np ≤ pd.length
noncomputable def R (C : Ctx) (ow : List Bool) (G : Hp) (ρ : DSt) (σ : St) (H : Hp) (pd : List (D × V)) : Prop := ∃ O, RO C ow G ρ σ H pd O
theorem Pend.keep {G H G' H' : Hp} {O O' : Own} (hG : TSame G G') : ∀ {pd : List (D × V)}, (∀ a j π, j < pd.length → O a = some (2 * j + 1, π) → O' a = some (2 * j + 1, π) ∧ H' a = H a) → Pend G H O pd → Pend G' H' O' pd
  | [], _, _ => trivial
  | (d, v) :: r, hO, ⟨h1, h2⟩ => ⟨h1.keep hG fun a τ e => hO a r.length _ (by simp) e, Pend.keep hG (fun a j π hj => hO a j π (by simp; omega)) h2⟩
section
variable {C : Ctx} {ow : List Bool} {G : Hp} {ρ : DSt} {σ : St} {H : Hp} {pd : List (D × V)} {O : Own}

theorem RO.new (h : RO C ow G ρ σ H pd O) {p : Addr} (hp : H p = none) (o : HO) : RO C ow (upd G p o) ρ σ (upd H p o) pd O ∧ Same G (upd G p o) := by
  have gp : G p = none := by
    cases e : G p with
    | none => rfl
    | some z => rw [h.gh _ _ e] at hp; cases hp
  have sG := same_upd gp o
  have ne : ∀ a l, O a = some l → a ≠ p := fun a l e z => by
    obtain ⟨_, ⟨xs, q⟩, _⟩ := h.og a l e
    rw [z, hp] at q; cases q
  refine ⟨⟨h.len, ?_, fun a u e => sG _ _ (h.g0 a u e), ?_, ?_, h.cok, ?_, ?_, h.mp, ?_, ?_, h.np⟩, sG⟩
  · intro a u e
    by_cases z : a = p
    · subst z; rw [upd_same] at e ⊢; exact e
    · rw [upd_ne z] at e ⊢; exact h.gh _ _ e
  · intro a u e
    by_cases z : a = p
    · subst z; exact .inr (h.al _ hp)
    · rw [upd_ne z] at e; exact h.gn a u e
  · intro a l e
    have z := ne a l e
    rw [upd_ne z, upd_ne z]
    exact h.og a l e
  · intro a u e n
    rw [upd_ne (ne_of_none (h.fr a u e n) hp)]
    exact h.fr a u e n
  · intro a e
    by_cases z : a = p
    · subst z; rw [upd_same] at e; cases e
    · rw [upd_ne z] at e; exact h.al a e
  · intro i d e
    obtain ⟨v, h1, h2⟩ := h.sl i d e
    refine ⟨v, h1, ?_⟩
    split at h2
    · rename_i c; rw [if_pos c]; exact h2.keep sG.ts fun a τ q => ⟨q, upd_ne (ne a _ q)⟩
    · rename_i c; rw [if_neg c]; exact h2.mono sG
  · exact Pend.keep sG.ts (fun a j π _ q => ⟨q, upd_ne (ne a _ q)⟩) h.pn

theorem RO.newL (h : RO C ow G ρ σ H pd O) {p : Addr} (hp : H p = none) {xs : List V} {ds : List D} (hi : imms ds = true) (hr : Reps G ds xs) :
    R C ow G ρ σ (upd H p (.lst xs)) ((.lst ds, .ref p) :: pd) := by
  have gp : G p = none := by
    cases e : G p with
    | none => rfl
    | some z => rw [h.gh _ _ e] at hp; cases hp
  have ne : ∀ a l, O a = some l → a ≠ p := fun a l e z => by
    obtain ⟨_, ⟨xs, q⟩, _⟩ := h.og a l e
    rw [z, hp] at q; cases q
  let O' : Own := fun a => if a = p then some (2 * pd.length + 1, []) else O a
  have old : ∀ a l, O a = some l → O' a = some l := fun a l e => by
    show (if a = p then _ else _) = _
    rw [if_neg (ne a _ e), e]
  refine ⟨O', h.len, ?_, h.g0, h.gn, ?_, h.cok, ?_, ?_, h.mp, ?_, ⟨?_, ?_⟩, Nat.le_succ_of_le h.np⟩
  · intro a u e
    rw [upd_ne (fun z => by rw [z, gp] at e; cases e)]
    exact h.gh _ _ e
  · intro a l e
    by_cases z : a = p
    · subst z; exact ⟨gp, ⟨xs, upd_same⟩, .inl (h.al _ hp)⟩
    · rw [upd_ne z]
      change (if a = p then _ else _) = _ at e
      rw [if_neg z] at e
      exact h.og a _ e
  · intro a u e n
    rw [upd_ne (ne_of_none (h.fr a u e n) hp)]
    exact h.fr a u e n
  · intro a e
    by_cases z : a = p
    · subst z; rw [upd_same] at e; cases e
    · rw [upd_ne z] at e; exact h.al a e
  · intro i d e
    obtain ⟨v, h1, h2⟩ := h.sl i d e
    refine ⟨v, h1, ?_⟩
    split at h2
    · rename_i c; rw [if_pos c]; exact h2.keep (fun _ _ z => z) fun a τ q => ⟨old a _ q, upd_ne (ne a _ q)⟩
    · rename_i c; rw [if_neg c]; exact h2
  · rw [Sep]
    exact ⟨p, xs, rfl, by show (if p = p then _ else _) = _; rw [if_pos rfl], upd_same, hr.sep ds 0 [] xs hi⟩
  · exact Pend.keep (fun _ _ z => z) (fun a j π hj q => ⟨old a _ q, upd_ne (ne a _ q)⟩) h.pn
end
end L2

set_option Elab.async false
set_option linter.all false
set_option maxRecDepth 100000
set_option maxHeartbeats 1000000
namespace L2
open PySem PySem.Spec PyProof.Rows
theorem Seps.snoc {G H : Hp} {O : Own} {i : Nat} {d : D} {v : V} : ∀ {ds : List D} {k : Nat} {π : List Nat} {xs : List V}, Seps G H O i ds k π xs → Sep G H O i d ((k + ds.length) :: π) v → Seps G H O i (ds ++ [d]) k π (xs ++ [v])
  | [], k, π, xs, h, hd => by rw [Seps] at h; subst h; show Seps _ _ _ _ [d] _ _ [v]; rw [Seps]; exact ⟨v, [], rfl, by simpa using hd, by rw [Seps]⟩
  | e :: ds, k, π, xs, h, hd => by
    rw [Seps] at h
    obtain ⟨u, us, rfl, h2, h3⟩ := h
    show Seps _ _ _ _ (e :: (ds ++ [d])) _ _ (u :: (us ++ [v]))
    rw [Seps]
    refine ⟨u, us ++ [v], rfl, h2, Seps.snoc h3 ?_⟩
    have : k + 1 + ds.length = k + (e :: ds).length := by simp; omega
    rw [this]; exact hd
theorem Seps.set {G H : Hp} {O : Own} {i : Nat} {d : D} {v : V} : ∀ {ds : List D} {k : Nat} {π : List Nat} {xs : List V} {j : Nat}, Seps G H O i ds k π xs → Sep G H O i d ((k + j) :: π) v → Seps G H O i (ds.set j d) k π (xs.set j v)
  | [], k, π, xs, j, h, hd => by rw [Seps] at h; subst h; simp; rw [Seps]
  | e :: ds, k, π, xs, 0, h, hd => by
    rw [Seps] at h
    obtain ⟨u, us, rfl, h2, h3⟩ := h
    simp only [List.set_cons_zero]; rw [Seps]
    exact ⟨v, us, rfl, by simpa using hd, h3⟩
  | e :: ds, k, π, xs, j + 1, h, hd => by
    rw [Seps] at h
    obtain ⟨u, us, rfl, h2, h3⟩ := h
    simp only [List.set_cons_succ]; rw [Seps]
    refine ⟨u, _, rfl, h2, Seps.set h3 ?_⟩
    have : k + 1 + j = k + (j + 1) := by omega
    rw [this]; exact hd
section
variable {C : Ctx} {ow : List Bool} {G : Hp} {ρ : DSt} {σ : St} {H : Hp} {pd : List (D × V)} {O : Own}
theorem set_at {α : Type} {l : List (Option α)} {i j : Nat} {x : Option α} {d : α} (h : (l.set i x)[j]? = some (some d)) : (j = i ∧ x = some d) ∨ (j ≠ i ∧ l[j]? = some (some d)) := by
  rw [List.getElem?_set] at h
  by_cases e : i = j
  · rw [if_pos e] at h
    split at h
    · exact .inl ⟨e.symm, Option.some.inj h⟩
    · cases h
  · rw [if_neg e] at h; exact .inr ⟨fun z => e z.symm, h⟩
theorem lt_of_slot {α : Type} {l : List (Option α)} {i : Nat} {x : Option α} (h : l[i]? = some x) : i < l.length := (List.getElem?_eq_some_iff.mp h).1

theorem RO.setS (h : RO C ow G ρ σ H pd O) {i : Nat} {d : D} {v : V} (hi : ow[i]? ≠ some true) (hm : ∀ v, C.mu[i]? ≠ some (some v)) (r : Rep G d v) : RO C ow G (ρ.set i (some d)) (σ.set i (some v)) H pd O := by
  refine ⟨by simp [h.len], h.gh, h.g0, h.gn, h.og, h.cok, h.fr, h.al, ?_, ?_, h.pn, h.np⟩
  · intro j u e
    have : i ≠ j := fun z => hm u (z ▸ e)
    rw [List.getElem?_set_ne this]
    exact h.mp j u e
  · intro j e q
    rcases set_at q with ⟨rfl, z⟩ | ⟨z, q'⟩
    · cases z
      have hl : j < σ.length := by have := lt_of_slot q; rw [List.length_set, h.len] at this; exact this
      exact ⟨v, by rw [List.getElem?_set_self hl], by rw [if_neg hi]; exact r⟩
    · obtain ⟨u, h1, h2⟩ := h.sl j e q'
      exact ⟨u, by rw [List.getElem?_set_ne (Ne.symm z)]; exact h1, h2⟩

noncomputable def lab (f : Nat → List Nat → Nat × List Nat) (O : Own) : Own := fun a => (O a).map fun l => f l.1 l.2
theorem lab_at {f : Nat → List Nat → Nat × List Nat} {a : Addr} {l : Nat} {π : List Nat} (h : O a = some (l, π)) : lab f O a = some (f l π) := by unfold lab; rw [h]; rfl
theorem lab_of {f : Nat → List Nat → Nat × List Nat} {a : Addr} {m : Nat × List Nat} (h : lab f O a = some m) : ∃ l π, O a = some (l, π) ∧ m = f l π := by
  unfold lab at h
  cases e : O a with
  | none => rw [e] at h; cases h
  | some l => rw [e] at h; exact ⟨l.1, l.2, rfl, (Option.some.inj h).symm⟩
theorem even_ne {i j : Nat} : 2 * i ≠ 2 * j + 1 := by omega

theorem RO.setO {d : D} {v : V} (h : RO C ow G ρ σ H ((d, v) :: pd) O) {i : Nat} (hi : ow[i]? = some true) (hm : ∀ v, C.mu[i]? ≠ some (some v)) (hn : C.np ≤ pd.length) :
    R C ow G (ρ.set i (some d)) (σ.set i (some v)) H pd := by
  refine ⟨lab (fun l π => if l = 2 * pd.length + 1 then (2 * i, π) else (l, π)) O, by simp [h.len], h.gh, h.g0, h.gn, ?_, h.cok, h.fr, h.al, ?_, ?_, ?_, hn⟩
  · intro a m e
    obtain ⟨l, π, e1, rfl⟩ := lab_of e
    obtain ⟨q1, q2, q3⟩ := h.og a _ e1
    refine ⟨q1, q2, ?_⟩
    try dsimp only
    split
    · rename_i z
      rcases q3 with q3 | ⟨_, q3⟩
      · exact .inl q3
      · rcases h.cok _ _ _ q3 with ⟨k, _, q4, _⟩ | ⟨k, q4, q5⟩
        · exact absurd (q4.symm.trans z) even_ne
        · omega
    · exact q3
  · intro j u e
    have : i ≠ j := fun z => hm u (z ▸ e)
    rw [List.getElem?_set_ne this]
    exact h.mp j u e
  · intro j e q
    rcases set_at q with ⟨rfl, z⟩ | ⟨z, q'⟩
    · cases z
      have hl : j < σ.length := by have := lt_of_slot q; rw [List.length_set, h.len] at this; exact this
      refine ⟨v, by rw [List.getElem?_set_self hl], ?_⟩
      rw [if_pos hi]
      exact h.pn.1.keep (fun _ _ z => z) fun a τ q => ⟨by rw [lab_at q, if_pos rfl], rfl⟩
    · obtain ⟨u, h1, h2⟩ := h.sl j e q'
      refine ⟨u, by rw [List.getElem?_set_ne (Ne.symm z)]; exact h1, ?_⟩
      split at h2
      · rename_i c; rw [if_pos c]; exact h2.keep (fun _ _ z => z) fun a τ q => ⟨by rw [lab_at q, if_neg even_ne], rfl⟩
      · rename_i c; rw [if_neg c]; exact h2
  · exact Pend.keep (fun _ _ z => z) (fun a j π hj q => ⟨by rw [lab_at q, if_neg (by omega)], rfl⟩) h.pn.2

theorem RO.move (h : RO C ow G ρ σ H pd O) {i : Nat} {d : D} (e : ρ[i]? = some (some d)) (hi : ow[i]? = some true) (hm : ∀ v, C.mu[i]? ≠ some (some v)) :
    ∃ v, σ[i]? = some (some v) ∧ R C ow G (ρ.set i none) σ H ((d, v) :: pd) := by
  obtain ⟨v, hv, s⟩ := h.sl i d e
  rw [if_pos hi] at s
  refine ⟨v, hv, lab (fun l π => if l = 2 * i then (2 * pd.length + 1, π) else (l, π)) O, by simp [h.len], h.gh, h.g0, h.gn, ?_, h.cok, h.fr, h.al, h.mp, ?_, ⟨?_, ?_⟩, Nat.le_succ_of_le h.np⟩
  · intro a m e
    obtain ⟨l, π, e1, rfl⟩ := lab_of e
    obtain ⟨q1, q2, q3⟩ := h.og a _ e1
    refine ⟨q1, q2, ?_⟩
    try dsimp only
    split
    · rename_i z
      rcases q3 with q3 | ⟨_, q3⟩
      · exact .inl q3
      · rcases h.cok _ _ _ q3 with ⟨k, u, q4, q5⟩ | ⟨k, q4, _⟩
        · have : k = i := by have := q4.symm.trans z; omega
          exact absurd (this ▸ q5) (hm u)
        · omega
    · exact q3
  · intro j e q
    rcases set_at q with ⟨rfl, z⟩ | ⟨z, q'⟩
    · cases z
    · obtain ⟨u, h1, h2⟩ := h.sl j e q'
      refine ⟨u, h1, ?_⟩
      split at h2
      · rename_i c; rw [if_pos c]; exact h2.keep (fun _ _ z => z) fun a τ q => ⟨by rw [lab_at q, if_neg (by omega)], rfl⟩
      · rename_i c; rw [if_neg c]; exact h2
  · exact s.keep (fun _ _ z => z) fun a τ q => ⟨by rw [lab_at q, if_pos rfl], rfl⟩
  · exact Pend.keep (fun _ _ z => z) (fun a j π hj q => ⟨by rw [lab_at q, if_neg (fun z => even_ne z.symm)], rfl⟩) h.pn

noncomputable def hasL (O : Own) (l : Nat) (a : Addr) : Bool := match O a with
  | some m => m.1 == l
  | none => false
theorem hasL_iff {l : Nat} {a : Addr} : hasL O l a = true ↔ ∃ π, O a = some (l, π) := by
  unfold hasL
  cases e : O a with
  | none => simp
  | some m => obtain ⟨m1, m2⟩ := m; simp

theorem RO.share {d : D} {v : V} (h : RO C ow G ρ σ H ((d, v) :: pd) O) (hn : C.np ≤ pd.length) : ∃ G', Same G G' ∧ R C ow G' ρ σ H pd ∧ Rep G' d v := by
  let l₀ := 2 * pd.length + 1
  let G' : Hp := fun a => if hasL O l₀ a = true then H a else G a
  have sG : Same G G' := fun a o e => by
    show (if _ then _ else _) = _
    split
    · exact h.gh _ _ e
    · exact e
  have inH : ∀ a τ xs, O a = some (l₀, τ) → H a = some (.lst xs) → G' a = some (.lst xs) := fun a τ xs q e => by
    show (if _ then _ else _) = _
    rw [if_pos (hasL_iff.mpr ⟨_, q⟩)]; exact e
  refine ⟨G', sG, ⟨fun a => if hasL O l₀ a = true then none else O a, h.len, ?_, fun a o e => sG _ _ (h.g0 _ _ e), ?_, ?_, h.cok, h.fr, h.al, h.mp, ?_, ?_, hn⟩, h.pn.1.rep sG.ts d [] v (fun a τ xs q e => inH a _ xs q e)⟩
  · intro a o e
    change (if _ then _ else _) = _ at e
    split at e
    · exact e
    · exact h.gh _ _ e
  · intro a o e
    change (if _ then _ else _) = _ at e
    split at e
    · rename_i c
      obtain ⟨π, q⟩ := hasL_iff.mp c
      obtain ⟨_, _, q3⟩ := h.og a _ q
      rcases q3 with q3 | ⟨_, q3⟩
      · exact .inr q3
      · rcases h.cok _ _ _ q3 with ⟨k, _, q4, _⟩ | ⟨k, q4, q5⟩
        · exact absurd q4.symm even_ne
        · have q4' : 2 * pd.length + 1 = 2 * k + 1 := q4
          omega
    · exact h.gn a o e
  · intro a l e
    try dsimp only at e
    split at e
    · cases e
    · rename_i c
      obtain ⟨q1, q2, q3⟩ := h.og a l e
      exact ⟨by show (if _ then _ else _) = _; rw [if_neg c]; exact q1, q2, q3⟩
  · intro j e q
    obtain ⟨u, h1, h2⟩ := h.sl j e q
    refine ⟨u, h1, ?_⟩
    split at h2
    · rename_i c; rw [if_pos c]
      refine h2.keep sG.ts fun a τ q => ⟨?_, rfl⟩
      rw [if_neg, q]
      intro z
      obtain ⟨π, z⟩ := hasL_iff.mp z
      rw [q] at z
      have := (Prod.mk.inj (Option.some.inj z)).1
      omega
    · rename_i c; rw [if_neg c]; exact h2.mono sG
  · refine Pend.keep sG.ts (fun a j π hj q => ⟨?_, rfl⟩) h.pn.2
    rw [if_neg, q]
    intro z
    obtain ⟨π, z⟩ := hasL_iff.mp z
    rw [q] at z
    have := (Prod.mk.inj (Option.some.inj z)).1
    omega

theorem RO.write (h : RO C ow G ρ σ H pd O) {i : Nat} {ds : List D} (e : ρ[i]? = some (some (.lst ds))) (hi : ow[i]? = some true) :
    ∃ a xs, σ[i]? = some (some (.ref a)) ∧ H a = some (.lst xs) ∧ Seps G H O (2 * i) ds 0 [] xs ∧
      ∀ ds' xs', Seps G H O (2 * i) ds' 0 [] xs' → RO C ow G (ρ.set i (some (.lst ds'))) σ (upd H a (.lst xs')) pd O := by
  obtain ⟨v, hv, s⟩ := h.sl i _ e
  rw [if_pos hi, Sep] at s
  obtain ⟨a, xs, rfl, hO, hH, hs⟩ := s
  refine ⟨a, xs, hv, hH, hs, fun ds' xs' hs' => ?_⟩
  obtain ⟨g0, _, nw⟩ := h.og a _ hO
  have ne : ∀ b l π, O b = some (l, π) → (l ≠ 2 * i ∨ π ≠ []) → b ≠ a := fun b l π q n z => by
    subst z
    rw [hO] at q
    obtain ⟨q1, q2⟩ := Prod.mk.inj (Option.some.inj q)
    rcases n with n | n
    · exact n q1.symm
    · exact n q2.symm
  refine ⟨by simp [h.len], ?_, h.g0, h.gn, ?_, h.cok, ?_, ?_, h.mp, ?_, ?_, h.np⟩
  · intro b o q
    rw [upd_ne (fun z => by rw [z, g0] at q; cases q)]; exact h.gh _ _ q
  · intro b l q
    obtain ⟨q1, ⟨ys, q2⟩, q3⟩ := h.og b l q
    refine ⟨q1, ?_, q3⟩
    by_cases z : b = a
    · subst z; exact ⟨_, upd_same⟩
    · rw [upd_ne z]; exact ⟨ys, q2⟩
  · intro b o q n
    by_cases z : b = a
    · subst z
      rcases nw with nw | ⟨_, nw⟩
      · rw [nw] at q; cases q
      · rw [nw] at n; cases n
    · rw [upd_ne z]; exact h.fr b o q n
  · intro b q
    by_cases z : b = a
    · subst z; rw [upd_same] at q; cases q
    · rw [upd_ne z] at q; exact h.al b q
  · intro j u q
    rcases set_at q with ⟨rfl, z⟩ | ⟨z, q'⟩
    · cases z
      refine ⟨_, hv, ?_⟩
      rw [if_pos hi, Sep]
      exact ⟨a, xs', rfl, hO, upd_same, hs'.keep (fun _ _ z => z) fun b τ hτ q => ⟨q, upd_ne (ne b _ _ q (.inr (by simpa using hτ)))⟩⟩
    · obtain ⟨w, h1, h2⟩ := h.sl j u q'
      refine ⟨w, h1, ?_⟩
      split at h2
      · rename_i c; rw [if_pos c]; exact h2.keep (fun _ _ z => z) fun b τ q => ⟨q, upd_ne (ne b _ _ q (.inl (by omega)))⟩
      · rename_i c; rw [if_neg c]; exact h2
  · exact Pend.keep (fun _ _ z => z) (fun b j π hj q => ⟨q, upd_ne (ne b _ _ q (.inl (fun z => even_ne z.symm)))⟩) h.pn

theorem RO.join {d : D} {v : V} (h : RO C ow G ρ σ H ((d, v) :: pd) O) (i n : Nat) (hn : C.np ≤ pd.length) :
    ∃ O', RO C ow G ρ σ H pd O' ∧ Sep G H O' (2 * i) d [n] v ∧ ∀ (l : Nat) ds k π xs, l ≠ 2 * pd.length + 1 → Seps G H O l ds k π xs → Seps G H O' l ds k π xs := by
  refine ⟨lab (fun l π => if l = 2 * pd.length + 1 then (2 * i, π ++ [n]) else (l, π)) O, ⟨h.len, h.gh, h.g0, h.gn, ?_, h.cok, h.fr, h.al, h.mp, ?_, ?_, hn⟩, ?_, ?_⟩
  · intro a m e
    obtain ⟨l, π, e1, rfl⟩ := lab_of e
    obtain ⟨q1, q2, q3⟩ := h.og a _ e1
    refine ⟨q1, q2, ?_⟩
    try dsimp only
    split
    · rename_i z
      rcases q3 with q3 | ⟨_, q3⟩
      · exact .inl q3
      · rcases h.cok _ _ _ q3 with ⟨k, _, q4, _⟩ | ⟨k, q4, q5⟩
        · exact absurd (q4.symm.trans z) even_ne
        · omega
    · exact q3
  · intro j e q
    obtain ⟨u, h1, h2⟩ := h.sl j e q
    refine ⟨u, h1, ?_⟩
    split at h2
    · rename_i c; rw [if_pos c]; exact h2.keep (fun _ _ z => z) fun a τ q => ⟨by rw [lab_at q, if_neg even_ne], rfl⟩
    · rename_i c; rw [if_neg c]; exact h2
  · exact Pend.keep (fun _ _ z => z) (fun a j π hj q => ⟨by rw [lab_at q, if_neg (by omega)], rfl⟩) h.pn.2
  · exact Sep.map (f := fun π => π ++ [n]) (fun _ _ z => z) (fun _ _ => rfl) d [] v (fun a τ q => ⟨by rw [lab_at q, if_pos rfl], rfl⟩) h.pn.1
  · intro l ds k π xs hl hs
    exact hs.keep (fun _ _ z => z) fun a τ _ q => ⟨by rw [lab_at q, if_neg hl], rfl⟩
end
end L2

set_option Elab.async false
set_option linter.all false
set_option maxRecDepth 100000
set_option maxHeartbeats 1000000
namespace L2
open PySem PySem.Spec PyProof.Rows

noncomputable def bor (js : List Nat) (ow : List Bool) : List Bool := ow.mapIdx fun j b => b && !js.contains j
theorem bor_iff {js : List Nat} {ow : List Bool} {j : Nat} : (bor js ow)[j]? = some true ↔ ow[j]? = some true ∧ js.contains j = false := by
  unfold bor
  rw [List.getElem?_mapIdx]
  cases e : ow[j]? with
  | none => simp
  | some b => cases b <;> simp
noncomputable def livB (ρ : DSt) (js : List Nat) (n l : Nat) : Bool := if l % 2 = 0 then (match ρ[l / 2]? with | some (some _) => !js.contains (l / 2) | _ => false) else decide (l / 2 < n)
noncomputable def demB (js : List Nat) (l : Nat) : Bool := decide (l % 2 = 0) && js.contains (l / 2)
noncomputable def ownOf (f : Nat → Bool) (O : Own) : Own := fun a => match O a with
  | some m => if f m.1 = true then some m else none
  | none => none
theorem ownOf_at {f : Nat → Bool} {O : Own} {a : Addr} {m : Nat × List Nat} (h : O a = some m) (hf : f m.1 = true) : ownOf f O a = some m := by unfold ownOf; rw [h]; show (if _ then _ else _) = _; rw [if_pos hf]
theorem ownOf_of {f : Nat → Bool} {O : Own} {a : Addr} {m : Nat × List Nat} (h : ownOf f O a = some m) : O a = some m ∧ f m.1 = true := by
  unfold ownOf at h
  cases e : O a with
  | none => rw [e] at h; cases h
  | some n =>
    rw [e] at h
    change (if _ then _ else _) = _ at h
    split at h
    · rename_i c; cases h; exact ⟨rfl, c⟩
    · cases h
noncomputable def isSm {α : Type} : Option α → Bool
  | some _ => true
  | none => false
section
variable {C : Ctx} {ow : List Bool} {G : Hp} {ρ : DSt} {σ : St} {H : Hp} {pd : List (D × V)} {O : Own}
noncomputable def gBor (js : List Nat) (G H : Hp) (O : Own) : Hp := fun a => if isSm (ownOf (demB js) O a) = true then H a else G a
noncomputable def cBor (js : List Nat) (G H : Hp) (O : Own) (ρ : DSt) (σ : St) (n : Nat) : Ctx := ⟨gBor js G H O, H, ownOf (livB ρ js n) O, σ, n⟩
theorem gBor_same (h : RO C ow G ρ σ H pd O) (js : List Nat) : Same G (gBor js G H O) := fun a o e => by
  show (if _ then _ else _) = _
  split
  · exact h.gh _ _ e
  · exact e
theorem isSm_of {α : Type} {o : Option α} (h : isSm o = true) : ∃ x, o = some x := by cases o with | none => cases h | some x => exact ⟨x, rfl⟩
theorem RO.enter (h : RO C ow G ρ σ H pd O) (js : List Nat) : RO (cBor js G H O ρ σ pd.length) (bor js ow) (gBor js G H O) ρ σ H pd (ownOf (livB ρ js pd.length) O) := by
  have sG := gBor_same h js
  refine ⟨h.len, ?_, fun _ _ e => e, fun _ _ e => .inl e, ?_, ?_, fun _ _ e _ => e, fun _ e => e, fun _ _ e => e, ?_, ?_, Nat.le_refl _⟩
  · intro a o e
    change (if _ then _ else _) = _ at e
    split at e
    · exact e
    · exact h.gh _ _ e
  · intro a l e
    obtain ⟨e1, e2⟩ := ownOf_of e
    obtain ⟨q1, q2, q3⟩ := h.og a l e1
    refine ⟨?_, q2, .inr ⟨l.2, e⟩⟩
    · show (if _ then _ else _) = _
      rw [if_neg]; exact q1
      intro z
      obtain ⟨m, z⟩ := isSm_of z
      obtain ⟨z1, z2⟩ := ownOf_of z
      rw [e1] at z1; cases z1
      unfold demB at z2; unfold livB at e2
      simp only [Bool.and_eq_true, decide_eq_true_eq] at z2
      rw [if_pos z2.1] at e2
      split at e2
      · rw [z2.2] at e2; cases e2
      · cases e2
  · intro a l π e
    obtain ⟨e1, e2⟩ := ownOf_of e
    unfold livB at e2
    split at e2
    · rename_i c
      split at e2
      · rename_i d hd
        obtain ⟨v, hv, _⟩ := h.sl _ _ hd
        exact .inl ⟨l / 2, v, by omega, hv⟩
      · cases e2
    · exact .inr ⟨l / 2, by omega, of_decide_eq_true e2⟩
  · intro j d e
    obtain ⟨v, h1, h2⟩ := h.sl j d e
    refine ⟨v, h1, ?_⟩
    by_cases c : ow[j]? = some true
    · rw [if_pos c] at h2
      by_cases c2 : js.contains j = true
      · rw [if_neg (fun z => by rw [bor_iff] at z; rw [c2] at z; exact absurd z.2 (by decide))]
        refine h2.rep sG.ts d [] v fun a τ xs q e => ?_
        show (if _ then _ else _) = _
        rw [if_pos]; exact e
        rw [ownOf_at q]; rfl
        unfold demB
        simp only [Bool.and_eq_true, decide_eq_true_eq]
        exact ⟨by omega, by rw [show 2 * j / 2 = j by omega]; exact c2⟩
      · rw [if_pos (bor_iff.mpr ⟨c, by simpa using c2⟩)]
        refine h2.keep sG.ts fun a τ q => ⟨ownOf_at q ?_, rfl⟩
        unfold livB
        show (if 2 * j % 2 = 0 then _ else _) = _
        rw [if_pos (by omega), show 2 * j / 2 = j by omega, e]
        simp at c2 ⊢; exact c2
    · rw [if_neg c] at h2
      rw [if_neg (fun z => c (bor_iff.mp z).1)]
      exact h2.mono sG
  · refine Pend.keep sG.ts (fun a j π hj q => ⟨ownOf_at q ?_, rfl⟩) h.pn
    unfold livB
    show (if (2 * j + 1) % 2 = 0 then _ else _) = _
    rw [if_neg (by omega), show (2 * j + 1) / 2 = j by omega]
    simpa using hj

noncomputable def Kp (ow : List Bool) (ρ ρ' : DSt) : Prop := ∀ (j : Nat), ow[j]? ≠ some true → ρ'[j]? = ρ[j]?
noncomputable def gBack (js : List Nat) (O : Own) (G2 : Hp) : Hp := fun a => if isSm (ownOf (demB js) O a) = true then none else G2 a
noncomputable def oBack (js : List Nat) (O O2 : Own) : Own := fun a => match O2 a with
  | some l => some l
  | none => ownOf (demB js) O a
theorem RO.leave (h : RO C ow G ρ σ H pd O) {js : List Nat} {G2 : Hp} {ρ2 : DSt} {H2 : Hp} {pd2 : List (D × V)} {O2 : Own}
    (h2 : RO (cBor js G H O ρ σ pd.length) (bor js ow) G2 ρ2 σ H2 pd2 O2) (kp : Kp (bor js ow) ρ ρ2) :
    RO C ow (gBack js O G2) ρ2 σ H2 pd2 (oBack js O O2) ∧ Same G (gBack js O G2) ∧ TSame G2 (gBack js O G2) := by
  have sG := gBor_same h js
  have dm : ∀ a m, ownOf (demB js) O a = some m → O a = some m ∧ G a = none ∧ ∃ xs, H a = some (.lst xs) ∧ G2 a = some (.lst xs) := fun a m e => by
    obtain ⟨e1, e2⟩ := ownOf_of e
    obtain ⟨q1, ⟨xs, q2⟩, q3⟩ := h.og a m e1
    refine ⟨e1, q1, xs, q2, h2.g0 a _ ?_⟩
    show (if _ then _ else _) = _
    rw [if_pos (by rw [e]; rfl)]; exact q2
  have nd : ∀ a, G a ≠ none → ¬ isSm (ownOf (demB js) O a) = true := fun a g z => by
    obtain ⟨m, z⟩ := isSm_of z
    exact g (dm a m z).2.1
  have sG3 : Same G (gBack js O G2) := fun a o e => by
    show (if _ then _ else _) = _
    rw [if_neg (nd a (by rw [e]; simp))]
    exact h2.g0 a o (sG a o e)
  have ts : TSame G2 (gBack js O G2) := fun a xs e => by
    show (if _ then _ else _) = _
    rw [if_neg]; exact e
    intro z
    obtain ⟨m, z⟩ := isSm_of z
    obtain ⟨_, _, ys, _, q⟩ := dm a m z
    rw [e] at q; cases q
  have o2 : ∀ a l, O2 a = some l → oBack js O O2 a = some l := fun a l e => by show (match O2 a with | some l => some l | none => _) = _; rw [e]
  refine ⟨⟨h2.len, ?_, fun a o e => sG3 _ _ (h.g0 _ _ e), ?_, ?_, h.cok, ?_, fun a e => h.al a (h2.al a e), h.mp, ?_, ?_, Nat.le_trans h.np h2.np⟩, sG3, ts⟩
  · intro a o e
    change (if _ then _ else _) = _ at e
    split at e
    · cases e
    · exact h2.gh _ _ e
  · intro a o e
    change (if _ then _ else _) = _ at e
    split at e
    · cases e
    · rename_i c
      rcases h2.gn a o e with q | q
      · change (if _ then _ else _) = _ at q
        rw [if_neg c] at q
        exact h.gn a o q
      · exact .inr (h.al a q)
  · intro a l e
    change (match O2 a with | some l => some l | none => _) = _ at e
    cases q : O2 a with
    | some l' =>
      rw [q] at e; cases e
      obtain ⟨q1, q2, q3⟩ := h2.og a l q
      refine ⟨by show (if _ then _ else _) = _; split <;> first | rfl | exact q1, q2, ?_⟩
      rcases q3 with q3 | ⟨q3, q4⟩
      · exact .inl (h.al a q3)
      · exact (h.og a _ (ownOf_of q4).1).2.2
    | none =>
      rw [q] at e
      change ownOf (demB js) O a = some l at e
      obtain ⟨e1, q1, xs, q2, q3⟩ := dm a l e
      refine ⟨by show (if _ then _ else _) = _; rw [if_pos (by rw [e]; rfl)], ⟨xs, h2.gh _ _ q3⟩, (h.og a l e1).2.2⟩
  · intro a o e n
    have q := h.fr a o e n
    refine h2.fr a o q ?_
    show ownOf _ O a = none
    cases z : ownOf (livB ρ js pd.length) O a with
    | none => rfl
    | some m =>
      obtain ⟨z1, _⟩ := ownOf_of z
      obtain ⟨_, _, z3⟩ := h.og a m z1
      rcases z3 with z3 | ⟨_, z3⟩
      · rw [z3] at e; cases e
      · rw [z3] at n; cases n
  · intro j d e
    by_cases c : (bor js ow)[j]? = some true
    · obtain ⟨v, q1, q2⟩ := h2.sl j d e
      rw [if_pos c] at q2
      refine ⟨v, q1, ?_⟩
      rw [if_pos (bor_iff.mp c).1]
      exact q2.keep ts fun a τ q => ⟨o2 _ _ q, rfl⟩
    · rw [kp j c] at e
      obtain ⟨v, q1, q2⟩ := h.sl j d e
      refine ⟨v, q1, ?_⟩
      by_cases c2 : ow[j]? = some true
      · rw [if_pos c2] at q2 ⊢
        have hj : js.contains j = true := by
          cases z : js.contains j with
          | true => rfl
          | false => exact absurd (bor_iff.mpr ⟨c2, z⟩) c
        refine q2.keep sG3.ts fun a τ q => ?_
        have dd : ownOf (demB js) O a = some (2 * j, τ ++ []) := ownOf_at q (by
          unfold demB
          simp only [Bool.and_eq_true, decide_eq_true_eq]
          exact ⟨by omega, by rw [show 2 * j / 2 = j by omega]; exact hj⟩)
        obtain ⟨_, _, xs, q4, q5⟩ := dm a _ dd
        refine ⟨?_, by rw [q4]; exact h2.gh _ _ q5⟩
        show (match O2 a with | some l => some l | none => _) = _
        cases z : O2 a with
        | some l => have := (h2.og a l z).1; rw [q5] at this; cases this
        | none => exact dd
      · rw [if_neg c2] at q2 ⊢
        exact q2.mono sG3
  · exact Pend.keep ts (fun a j π hj q => ⟨o2 _ _ q, rfl⟩) h2.pn
end
end L2

set_option Elab.async false
set_option linter.all false
set_option maxRecDepth 100000
set_option maxHeartbeats 1000000
namespace L2
open PySem PySem.Spec PyProof.Rows

noncomputable abbrev ME := DSt → (D → DSt → Prop) → Prop
noncomputable abbrev MT := DSt → (Bool → DSt → Prop) → Prop
noncomputable abbrev MA := DSt → (List D → DSt → Prop) → Prop
noncomputable def SE (ow : List Bool) (t : TE) (m : ME) : Prop := ∀ (C : Ctx) (G : Hp) (ρ : DSt) (σ : St) (H : Hp) (pd : List (D × V)) (q : D → DSt → Prop) (Q : VK), R C ow G ρ σ H pd → m ρ q →
  (∀ d ρ' v G' H', q d ρ' → Same G G' → Kp ow ρ ρ' → R C ow G' ρ' σ H' pd → Rep G' d v → Q v H') → t σ H Q
noncomputable def SF (ow : List Bool) (t : TE) (m : ME) : Prop := ∀ (C : Ctx) (G : Hp) (ρ : DSt) (σ : St) (H : Hp) (pd : List (D × V)) (q : D → DSt → Prop) (Q : VK), R C ow G ρ σ H pd → m ρ q →
  (∀ d ρ' v G' H', q d ρ' → Same G G' → Kp ow ρ ρ' → R C ow G' ρ' σ H' ((d, v) :: pd) → Q v H') → t σ H Q
noncomputable def STe (ow : List Bool) (t : TT) (m : MT) : Prop := ∀ (C : Ctx) (G : Hp) (ρ : DSt) (σ : St) (H : Hp) (pd : List (D × V)) (q : Bool → DSt → Prop) (Q : Bool → Hp → Prop), R C ow G ρ σ H pd → m ρ q →
  (∀ b ρ' G' H', q b ρ' → Same G G' → Kp ow ρ ρ' → R C ow G' ρ' σ H' pd → Q b H') → t σ H Q
noncomputable def SA (ow : List Bool) (n : Nat) (t : TA) (m : MA) : Prop := ∀ (C : Ctx) (G : Hp) (ρ : DSt) (σ : St) (H : Hp) (pd : List (D × V)) (q : List D → DSt → Prop) (Q : List V → Hp → Prop), R C ow G ρ σ H pd → m ρ q →
  (∀ ds ρ' vs G' H', q ds ρ' → Same G G' → Kp ow ρ ρ' → R C ow G' ρ' σ H' pd → Reps G' ds vs → vs.length = n → Q vs H') → t σ H Q
structure QE (X : Cx) (ow : List Bool) (e : Expr) (m : ME) : Prop where
  ex : ∃ t, PE X e t ∧ SE ow t m
structure QF (X : Cx) (ow : List Bool) (e : Expr) (m : ME) : Prop where
  ex : ∃ t, PE X e t ∧ SF ow t m
structure QT (X : Cx) (ow : List Bool) (e : Expr) (m : MT) : Prop where
  ex : ∃ t, PT X e t ∧ STe ow t m
structure QW (X : Cx) (ow : List Bool) (e : Expr) (m : MT) : Prop where
  ex : ∃ t, PW X e t ∧ STe ow t m
structure QA (X : Cx) (ow : List Bool) (es : List Expr) (m : MA) : Prop where
  ex : ∃ t, PA X es t ∧ SA ow es.length t m
theorem Kp.refl {ow : List Bool} {ρ : DSt} : Kp ow ρ ρ := fun _ _ => rfl
theorem Kp.trans {ow : List Bool} {ρ ρ1 ρ2 : DSt} (a : Kp ow ρ ρ1) (b : Kp ow ρ1 ρ2) : Kp ow ρ ρ2 := fun j h => (b j h).trans (a j h)
theorem R.gh {C : Ctx} {ow : List Bool} {G : Hp} {ρ : DSt} {σ : St} {H : Hp} {pd : List (D × V)} (h : R C ow G ρ σ H pd) : Same G H := let ⟨_, h⟩ := h; h.gh
theorem R.np {C : Ctx} {ow : List Bool} {G : Hp} {ρ : DSt} {σ : St} {H : Hp} {pd : List (D × V)} (h : R C ow G ρ σ H pd) : C.np ≤ pd.length := let ⟨_, h⟩ := h; h.np
section
variable {X : Cx} {ow : List Bool} {a b c e : Expr} {ma mb mc : ME} {pos : Pos}

noncomputable def mVar (i : Nat) : ME := fun ρ q => match ρ[i]? with
  | some (some d) => q d ρ
  | _ => False
theorem qe_var (i : Nat) {x : Str} (hs : ow[i]? ≠ some true := by decide) (hN : X.N[i]? = some x := by rfl) (hv : Vis X.env.scope x := by first | exact Or.inl rfl | exact Or.inr (Or.inl rfl) | exact Or.inr (Or.inr rfl)) (hd : (x == ("__debug__" : Str)) = false := by decide)
    (hcd : (x == ("__classdict__" : Str)) = false := by decide) : QE X ow (.Name x pos) (mVar i) := ⟨_, pe_var hN hv hd hcd, fun C G ρ σ H pd q Q r h k => by
  unfold mVar at h
  split at h
  · rename_i d e
    obtain ⟨O, ro⟩ := r
    obtain ⟨v, h1, h2⟩ := ro.sl i d e
    rw [if_neg hs] at h2
    exact ⟨v, h1, k d ρ v G H h (Same.refl _) Kp.refl ⟨O, ro⟩ h2⟩
  · exact h.elim⟩
noncomputable def mC (d : D) : ME := fun ρ q => q d ρ
theorem qe_c {v : V} {d : D} (h : PE X e (tC v)) (hr : ∀ G, Rep G d v) : QE X ow e (mC d) := ⟨_, h, fun C G ρ σ H pd q Q r h k => k d ρ v G H h (Same.refl _) Kp.refl r (hr G)⟩
theorem qe_int {i j} : QE X ow (.Constant (.int i) j pos) (mC (.int i)) := qe_c pe_int fun _ => rep_int _
theorem qe_bl {i j} : QE X ow (.Constant (.bool i) j pos) (mC (.bl i)) := qe_c pe_bl fun _ => rep_bl _
theorem qe_globI {x : Str} {i : Int} (hg : Gl X x) (hm : ∃ t, X.mg x = some (.int i t)) (hd : (x == ("__debug__" : Str)) = false := by decide) : QE X ow (.Name x pos) (mC (.int i)) := by
  obtain ⟨t, hm⟩ := hm
  exact qe_c (pe_glob (v := .int i) hg hm ⟨t, rfl⟩ hd) fun _ => rep_int _

theorem se_two {ta tb : TE} (ha : SE ow ta ma) (hb : SE ow tb mb) {C : Ctx} {G : Hp} {ρ : DSt} {σ : St} {H : Hp} {pd : List (D × V)} {f : D → D → DSt → Prop} {Q : V → V → Hp → Prop}
    (r : R C ow G ρ σ H pd) (h : ma ρ fun x ρ1 => mb ρ1 fun y ρ2 => f x y ρ2)
    (k : ∀ dx dy ρ' x y G' H', f dx dy ρ' → Same G G' → Kp ow ρ ρ' → R C ow G' ρ' σ H' pd → Rep G' dx x → Rep G' dy y → Q x y H') : ta σ H fun x H1 => tb σ H1 fun y H2 => Q x y H2 := by
  refine ha C G ρ σ H pd _ _ r h fun dx ρ1 x G1 H1 h1 s1 k1 r1 p1 => ?_
  refine hb C G1 ρ1 σ H1 pd _ _ r1 h1 fun dy ρ2 y G2 H2 h2 s2 k2 r2 p2 => ?_
  exact k dx dy ρ2 x y G2 H2 h2 (s1.trans s2) (k1.trans k2) r2 (Rep.mono s2 _ _ p1) p2
noncomputable def DOp (r : R2) (f : D → D → (D → Prop) → Prop) : Prop := ∀ (G H : Hp) (x y : V) (dx dy : D) (q : D → Prop) (Q : VK), Same G H → Rep G dx x → Rep G dy y → f dx dy q → (∀ d v, q d → Rep G d v → Q v H) → r x y H Q
noncomputable def mOp (f : D → D → (D → Prop) → Prop) (ma mb : ME) : ME := fun ρ q => ma ρ fun x ρ1 => mb ρ1 fun y ρ2 => f x y fun d => q d ρ2
theorem se_op {r : R2} {f : D → D → (D → Prop) → Prop} {ta tb : TE} (hd : DOp r f) (ha : SE ow ta ma) (hb : SE ow tb mb) : SE ow (tOp r ta tb) (mOp f ma mb) := fun C G ρ σ H pd q Q hr h k => by
  refine se_two ha hb hr h fun dx dy ρ' x y G' H' hf s kp r' p1 p2 => ?_
  exact hd G' H' x y dx dy _ _ r'.gh p1 p2 hf fun d v hq p => k d ρ' v G' H' hq s kp r' p
theorem qe_op {op : Operator} {r : R2} {f : D → D → (D → Prop) → Prop} (ho : OpR X (binaryOp op) r) (hd : DOp r f) (ha : QE X ow a ma) (hb : QE X ow b mb) : QE X ow (.BinOp a op b pos) (mOp f ma mb) := by
  obtain ⟨ta, pa, sa⟩ := ha; obtain ⟨tb, pb, sb⟩ := hb
  exact ⟨_, pe_op ho pa pb, se_op hd sa sb⟩
theorem qe_cmp {op : CmpOp} {r : R2} {f : D → D → (D → Prop) → Prop} (ho : OpR X (compareOp op) r) (hd : DOp r f) (ha : QE X ow a ma) (hb : QE X ow b mb) (hm : behindInMarks op b = false) : QE X ow (.Compare a [op] [b] pos) (mOp f ma mb) := by
  obtain ⟨ta, pa, sa⟩ := ha; obtain ⟨tb, pb, sb⟩ := hb
  exact ⟨_, pe_cmpR ho pa pb hm, se_op hd sa sb⟩
theorem qe_ix {r : R2} {f : D → D → (D → Prop) → Prop} (ho : IxR X r) (hd : DOp r f) (ha : QE X ow a ma) (hb : QE X ow b mb) (hs : PlainIx b) : QE X ow (.Subscript a b pos) (mOp f ma mb) := by
  obtain ⟨ta, pa, sa⟩ := ha; obtain ⟨tb, pb, sb⟩ := hb
  exact ⟨_, pe_ix ho pa pb hs, se_op hd sa sb⟩
noncomputable def mB (m : ME) : MT := fun ρ q => m ρ fun d ρ' => match d with
  | .bl b => q b ρ'
  | _ => False
theorem rep_bl_of {G : Hp} {b : Bool} {v : V} (h : Rep G (.bl b) v) : v = .bl b := by rw [Rep] at h; exact h
theorem rep_int_of {G : Hp} {b : Int} {v : V} (h : Rep G (.int b) v) : v = .int b := by rw [Rep] at h; exact h
theorem st_of {t : TE} {m : ME} (h : SE ow t m) : STe ow (tTest t) (mB m) := fun C G ρ σ H pd q Q r hm k => by
  refine h C G ρ σ H pd _ _ r hm fun d ρ' v G' H' hq s kp r' p => ?_
  cases d with
  | bl b => exact ⟨b, rep_bl_of p, k b ρ' G' H' hq s kp r'⟩
  | _ => exact hq.elim
theorem qt_cmp {op : CmpOp} {r : R2} {f : D → D → (D → Prop) → Prop} (ho : OpR X (compareOp op) r) (hd : DOp r f) (ha : QE X ow a ma) (hb : QE X ow b mb) (hm : behindInMarks op b = false) : QT X ow (.Compare a [op] [b] pos) (mB (mOp f ma mb)) := by
  obtain ⟨ta, pa, sa⟩ := ha; obtain ⟨tb, pb, sb⟩ := hb
  exact ⟨_, pt_cmpR ho pa pb hm, st_of (se_op hd sa sb)⟩
theorem qt_val (h : QE X ow e ma) (he : ∀ whole, isTrue e X.env whole = (do let v ← whole; standAt e.pos; holding [v] (truthy v)) := by intro _; rfl) : QT X ow e (mB ma) := by
  obtain ⟨ta, pa, sa⟩ := h
  exact ⟨_, pt_val pa he, st_of sa⟩

noncomputable def mIf {α : Type} (m : MT) (x y : DSt → (α → DSt → Prop) → Prop) : DSt → (α → DSt → Prop) → Prop := fun ρ q => m ρ fun b ρ1 => if b = true then x ρ1 q else y ρ1 q
noncomputable def mYes (b : Bool) : MT := fun ρ q => q b ρ
theorem st_if {t t1 t2 : TT} {m m1 m2 : MT} (h : STe ow t m) (h1 : STe ow t1 m1) (h2 : STe ow t2 m2) : STe ow (fun σ H Q => t σ H fun c H1 => if c = true then t1 σ H1 Q else t2 σ H1 Q) (mIf m m1 m2) := fun C G ρ σ H pd q Q r hm k => by
  refine h C G ρ σ H pd _ _ r hm fun b ρ' G' H' hq s kp r' => ?_
  cases b with
  | true => rw [if_pos rfl] at hq ⊢; exact h1 C G' ρ' σ H' pd _ _ r' hq fun b ρ2 G2 H2 hq2 s2 kp2 r2 => k b ρ2 G2 H2 hq2 (s.trans s2) (kp.trans kp2) r2
  | false => rw [if_neg (by decide)] at hq ⊢; exact h2 C G' ρ' σ H' pd _ _ r' hq fun b ρ2 G2 H2 hq2 s2 kp2 r2 => k b ρ2 G2 H2 hq2 (s.trans s2) (kp.trans kp2) r2
theorem st_yes (b : Bool) : STe ow (fun _ H Q => Q b H) (mYes b) := fun C G ρ σ H pd q Q r hm k => k b ρ G H hm (Same.refl _) Kp.refl r
variable {mt mu mv : MT} {rest : List Expr}
theorem qw_or1 (h : QT X ow a mt) : QW X ow (.BoolOp .Or [a] pos) mt := by obtain ⟨t, p, s⟩ := h; exact ⟨_, pw_or1 p, s⟩
theorem qw_or (h : QT X ow a mt) (h2 : QW X ow (.BoolOp .Or (b :: rest) pos) mu) : QW X ow (.BoolOp .Or (a :: b :: rest) pos) (mIf mt (mYes true) mu) := by
  obtain ⟨t, p, s⟩ := h; obtain ⟨t2, p2, s2⟩ := h2; exact ⟨_, pw_or p p2, st_if s (st_yes true) s2⟩
theorem QW.qt (h : QW X ow e mt) : QT X ow e mt := by obtain ⟨t, p, s⟩ := h; exact ⟨_, p.pt, s⟩
noncomputable def mNot (m : MT) : MT := fun ρ q => m ρ fun b ρ' => q (!b) ρ'
theorem qt_not (h : QT X ow a mt) : QT X ow (.UnaryOp .Not a pos) (mNot mt) := by
  obtain ⟨t, p, s⟩ := h
  exact ⟨_, pt_not p, fun C G ρ σ H pd q Q r hm k => s C G ρ σ H pd _ _ r hm fun b ρ' G' H' hq s kp r' => k _ ρ' G' H' hq s kp r'⟩

noncomputable def mV (m : MT) : ME := fun ρ q => m ρ fun b ρ' => q (.bl b) ρ'
theorem qe_one {op} (h : QE X ow a ma) : QE X ow (.BoolOp op [a] pos) ma := by obtain ⟨t, p, s⟩ := h; exact ⟨_, pe_one p, s⟩
theorem qe_not (h : QE X ow a ma) : QE X ow (.UnaryOp .Not a pos) (mV (mNot (mB ma))) := by
  obtain ⟨t, p, s⟩ := h
  refine ⟨_, pe_not p, fun C G ρ σ H pd q Q r hm k => ?_⟩
  refine s C G ρ σ H pd _ _ r hm fun d ρ' v G' H' hq s kp r' p => ?_
  cases d with
  | bl b => exact ⟨b, rep_bl_of p, k _ ρ' _ G' H' hq s kp r' (rep_bl _)⟩
  | _ => exact hq.elim
theorem qe_and (h : QE X ow a ma) (h2 : QE X ow (.BoolOp .And (b :: rest) pos) mb) : QE X ow (.BoolOp .And (a :: b :: rest) pos) (mIf (mB ma) mb (mC (.bl false))) := by
  obtain ⟨t, p, s⟩ := h; obtain ⟨t2, p2, s2⟩ := h2
  refine ⟨_, pe_and p p2, fun C G ρ σ H pd q Q r hm k => ?_⟩
  refine s C G ρ σ H pd _ _ r hm fun d ρ' v G' H' hq s kp r' p => ?_
  cases d with
  | bl b =>
    refine ⟨b, rep_bl_of p, ?_⟩
    change (if b = true then _ else _) at hq
    cases b with
    | true => rw [if_pos rfl] at hq ⊢; exact s2 C G' ρ' σ H' pd _ _ r' hq fun d ρ2 v G2 H2 hq2 z2 kp2 r2 p2 => k d ρ2 v G2 H2 hq2 (s.trans z2) (kp.trans kp2) r2 p2
    | false => rw [if_neg (by decide)] at hq ⊢; exact k _ ρ' _ G' H' hq s kp r' (rep_bl _)
  | _ => exact hq.elim
theorem qe_ifExp (h : QT X ow c mt) (ha : QE X ow a ma) (hb : QE X ow b mb) : QE X ow (.IfExp c a b pos) (mIf mt ma mb) := by
  obtain ⟨t, p, s⟩ := h; obtain ⟨t1, p1, s1⟩ := ha; obtain ⟨t2, p2, s2⟩ := hb
  refine ⟨_, pe_ifExp p p1 p2, fun C G ρ σ H pd q Q r hm k => ?_⟩
  refine s C G ρ σ H pd _ _ r hm fun d ρ' G' H' hq s kp r' => ?_
  cases d with
  | true => rw [if_pos rfl] at hq ⊢; exact s1 C G' ρ' σ H' pd _ _ r' hq fun d ρ2 v G2 H2 hq2 z2 kp2 r2 p2 => k d ρ2 v G2 H2 hq2 (s.trans z2) (kp.trans kp2) r2 p2
  | false => rw [if_neg (by decide)] at hq ⊢; exact s2 C G' ρ' σ H' pd _ _ r' hq fun d ρ2 v G2 H2 hq2 z2 kp2 r2 p2 => k d ρ2 v G2 H2 hq2 (s.trans z2) (kp.trans kp2) r2 p2

theorem QF.qe (h : QF X ow e ma) : QE X ow e ma := by
  obtain ⟨t, p, s⟩ := h
  refine ⟨_, p, fun C G ρ σ H pd q Q r hm k => s C G ρ σ H pd _ _ r hm fun d ρ' v G' H' hq s kp r' => ?_⟩
  obtain ⟨O, r'⟩ := r'
  obtain ⟨G2, s2, r2, p2⟩ := r'.share r.np
  exact k d ρ' v G2 H' hq (s.trans s2) kp r2 p2
noncomputable def mImm (m : ME) : ME := fun ρ q => m ρ fun d ρ' => imm d = true ∧ q d ρ'
theorem QE.qf (h : QE X ow e ma) : QF X ow e (mImm ma) := by
  obtain ⟨t, p, s⟩ := h
  refine ⟨_, p, fun C G ρ σ H pd q Q r hm k => s C G ρ σ H pd _ _ r hm fun d ρ' v G' H' hq s kp r' p => ?_⟩
  obtain ⟨O, r'⟩ := r'
  exact k d ρ' v G' H' hq.2 s kp ⟨O, r'.len, r'.gh, r'.g0, r'.gn, r'.og, r'.cok, r'.fr, r'.al, r'.mp, r'.sl, ⟨p.sep d [] v hq.1, r'.pn⟩, Nat.le_succ_of_le r'.np⟩

theorem kp_bor {js : List Nat} {ρ ρ' : DSt} (h : Kp (bor js ow) ρ ρ') : Kp ow ρ ρ' := fun j n => h j fun z => n (bor_iff.mp z).1
theorem QE.bor (js : List Nat) (h : QE X (bor js ow) e ma) : QE X ow e (mImm ma) := by
  obtain ⟨t, p, s⟩ := h
  refine ⟨_, p, fun C G ρ σ H pd q Q r hm k => ?_⟩
  obtain ⟨O, r⟩ := r
  refine s _ _ ρ σ H pd _ _ ⟨_, r.enter js⟩ hm fun d ρ' v G' H' hq s kp r' p => ?_
  obtain ⟨O', r'⟩ := r'
  obtain ⟨r2, s2, ts⟩ := r.leave r' kp
  exact k d ρ' v _ H' hq.2 s2 (kp_bor kp) ⟨_, r2⟩ (p.imms ts d v hq.1)
theorem QF.bor (js : List Nat) (h : QF X (bor js ow) e ma) : QF X ow e ma := by
  obtain ⟨t, p, s⟩ := h
  refine ⟨_, p, fun C G ρ σ H pd q Q r hm k => ?_⟩
  obtain ⟨O, r⟩ := r
  refine s _ _ ρ σ H pd _ _ ⟨_, r.enter js⟩ hm fun d ρ' v G' H' hq s kp r' => ?_
  obtain ⟨O', r'⟩ := r'
  obtain ⟨r2, s2, ts⟩ := r.leave r' kp
  exact k d ρ' v _ H' hq s2 (kp_bor kp) ⟨_, r2⟩
theorem QT.bor (js : List Nat) (h : QT X (bor js ow) e mt) : QT X ow e mt := by
  obtain ⟨t, p, s⟩ := h
  refine ⟨_, p, fun C G ρ σ H pd q Q r hm k => ?_⟩
  obtain ⟨O, r⟩ := r
  refine s _ _ ρ σ H pd _ _ ⟨_, r.enter js⟩ hm fun d ρ' G' H' hq s kp r' => ?_
  obtain ⟨O', r'⟩ := r'
  obtain ⟨r2, s2, ts⟩ := r.leave r' kp
  exact k d ρ' _ H' hq s2 (kp_bor kp) ⟨_, r2⟩

noncomputable def mNil : MA := fun ρ q => q [] ρ
noncomputable def mCons (m : ME) (r : MA) : MA := fun ρ q => m ρ fun d ρ1 => r ρ1 fun ds ρ2 => q (d :: ds) ρ2
variable {mr : MA} {es : List Expr}
theorem qa_nil : QA X ow [] mNil := ⟨_, pa_nil, fun C G ρ σ H pd q Q r h k => k [] ρ [] G H h (Same.refl _) Kp.refl r reps_nil rfl⟩
theorem qa_cons (ha : QE X ow e ma) (hr : QA X ow es mr) (hs : starEach (e :: es) X.env = (false, eval e X.env) :: starEach es X.env := by rfl) : QA X ow (e :: es) (mCons ma mr) := by
  obtain ⟨t, p, s⟩ := ha; obtain ⟨t2, p2, s2⟩ := hr
  refine ⟨_, pa_cons p p2 hs, fun C G ρ σ H pd q Q r hm k => ?_⟩
  refine s C G ρ σ H pd _ _ r hm fun d ρ' v G' H' hq z kp r' p => ?_
  refine s2 C G' ρ' σ H' pd _ _ r' hq fun ds ρ2 vs G2 H2 hq2 z2 kp2 r2 p2 hl => ?_
  exact k (d :: ds) ρ2 (v :: vs) G2 H2 hq2 (z.trans z2) (kp.trans kp2) r2 (reps_cons (Rep.mono z2 _ _ p) p2) (by simp [hl])
noncomputable def mTup (m : MA) : ME := fun ρ q => m ρ fun ds ρ' => q (.tup ds) ρ'
noncomputable def mLst (m : MA) : ME := fun ρ q => m ρ fun ds ρ' => q (.lst ds) ρ'
noncomputable def mLstI (m : MA) : ME := fun ρ q => m ρ fun ds ρ' => imms ds = true ∧ q (.lst ds) ρ'
theorem le_line {n : Nat} (h : n ≤ 1000) : n ≤ sizeLine := Nat.le_of_lt (small1000 h)
theorem qe_tup {x1} (h : QA X ow es mr) (hl : es.length ≤ 1000 := by decide) : QE X ow (.Tuple es x1 pos) (mTup mr) := by
  obtain ⟨t, p, s⟩ := h
  refine ⟨_, pe_tup p, fun C G ρ σ H pd q Q r hm k => s C G ρ σ H pd _ _ r hm fun ds ρ' vs G' H' hq z kp r' p hn => ⟨le_line (by omega), fun a ha => ?_⟩⟩
  obtain ⟨O, r'⟩ := r'
  obtain ⟨r2, s2⟩ := r'.new ha (.tup vs)
  exact k _ ρ' _ _ _ hq (z.trans s2) kp ⟨O, r2⟩ (rep_tup upd_same (Reps.mono s2 _ _ p))
theorem qe_lst (h : QA X ow es mr) (hl : es.length ≤ 1000 := by decide) : QE X ow (.List es pos) (mLst mr) := by
  obtain ⟨t, p, s⟩ := h
  refine ⟨_, pe_lst p, fun C G ρ σ H pd q Q r hm k => s C G ρ σ H pd _ _ r hm fun ds ρ' vs G' H' hq z kp r' p hn => ⟨le_line (by omega), fun a ha => ?_⟩⟩
  obtain ⟨O, r'⟩ := r'
  obtain ⟨r2, s2⟩ := r'.new ha (.lst vs)
  exact k _ ρ' _ _ _ hq (z.trans s2) kp ⟨O, r2⟩ (rep_lst upd_same (Reps.mono s2 _ _ p))
theorem qf_lst (h : QA X ow es mr) (hl : es.length ≤ 1000 := by decide) : QF X ow (.List es pos) (mLstI mr) := by
  obtain ⟨t, p, s⟩ := h
  refine ⟨_, pe_lst p, fun C G ρ σ H pd q Q r hm k => s C G ρ σ H pd _ _ r hm fun ds ρ' vs G' H' hq z kp r' p hn => ⟨le_line (by omega), fun a ha => ?_⟩⟩
  obtain ⟨O, r'⟩ := r'
  exact k _ ρ' _ _ _ hq.2 z kp (r'.newL ha hq.1 p)

noncomputable def DCall (r : List V → Hp → VK → Prop) (f : List D → (D → Prop) → Prop) : Prop := ∀ (G H : Hp) (xs : List V) (ds : List D) (q : D → Prop) (Q : VK), Same G H → Reps G ds xs → f ds q → (∀ d v, q d → Rep G d v → Q v H) → r xs H Q
noncomputable def mCB (f : List D → (D → Prop) → Prop) (m : MA) : ME := fun ρ q => m ρ fun ds ρ' => f ds fun d => q d ρ'
theorem se_cb {r : List V → Hp → VK → Prop} {f : List D → (D → Prop) → Prop} {t : TA} {n : Nat} (hd : DCall r f) (s : SA ow n t mr) : SE ow (tCB r t) (mCB f mr) := fun C G ρ σ H pd q Q hr hm k =>
  s C G ρ σ H pd _ _ hr hm fun ds ρ' vs G' H' hq z kp r' p hn => hd G' H' vs ds _ _ r'.gh p hq fun d v hq p => k d ρ' v G' H' hq z kp r' p
variable {x : Str} {p' : Pos}
theorem qe_callB {id : String} {r : List V → Hp → VK → Prop} {f : List D → (D → Prop) → Prop} (hc : CallR X (.builtin id) r) (hd : DCall r f) (hg : Gl X x) (hm : X.mg x = none) (hv : bootBuiltins x = some (.builtin id)) (ha : QA X ow (e :: es) mr) (hn : x ≠ "__name__" := by decide) (hdb : (x == ("__debug__" : Str)) = false := by decide)
    (he : starEach (e :: es) X.env = (false, eval e X.env) :: starEach es X.env := by rfl) (hpl : (backTo pos (starEach es X.env)).any (·.1) = false := by rfl) : QE X ow (.Call (.Name x p') (e :: es) [] pos) (mCB f mr) := by
  obtain ⟨t, p, s⟩ := ha
  exact ⟨_, pe_callB hc hg hm hv p hn hdb he hpl, se_cb hd s⟩
theorem qe_callTy {id : String} {r : List V → Hp → VK → Prop} {f : List D → (D → Prop) → Prop} (hc : CallR X (.type id) r) (hd : DCall r f) (hg : Gl X x) (hm : X.mg x = none) (hv : bootBuiltins x = some (.type id)) (ha : QA X ow (e :: es) mr) (hn : x ≠ "__name__" := by decide) (hdb : (x == ("__debug__" : Str)) = false := by decide)
    (he : starEach (e :: es) X.env = (false, eval e X.env) :: starEach es X.env := by rfl) (hpl : (backTo pos (starEach es X.env)).any (·.1) = false := by rfl) : QE X ow (.Call (.Name x p') (e :: es) [] pos) (mCB f mr) := by
  obtain ⟨t, p, s⟩ := ha
  exact ⟨_, pe_callTy hc hg hm hv p hn hdb he hpl, se_cb hd s⟩
end
end L2

set_option Elab.async false
set_option linter.all false
set_option maxRecDepth 100000
set_option maxHeartbeats 1000000
namespace L2
open PySem PySem.Spec PyProof.Rows

noncomputable def fI (g : Int → Int → Int) : D → D → (D → Prop) → Prop := fun a b q => match a, b with
  | .int i, .int j => q (.int (g i j))
  | _, _ => False
noncomputable def fIC (C : Int → Int → Prop) (g : Int → Int → Int) : D → D → (D → Prop) → Prop := fun a b q => match a, b with
  | .int i, .int j => C i j ∧ q (.int (g i j))
  | _, _ => False
noncomputable def fB (g : Int → Int → Bool) : D → D → (D → Prop) → Prop := fun a b q => match a, b with
  | .int i, .int j => q (.bl (g i j))
  | _, _ => False
theorem dI {g : Int → Int → Int} : DOp (rI0 fun i j => .int (g i j)) (fI g) := fun G H x y dx dy q Q s p1 p2 hf k => by
  unfold fI at hf
  split at hf
  · exact ⟨_, _, rep_int_of p1, rep_int_of p2, k _ _ hf (rep_int _)⟩
  · exact hf.elim
theorem dIC {C : Int → Int → Prop} {g : Int → Int → Int} : DOp (rI C fun i j => .int (g i j)) (fIC C g) := fun G H x y dx dy q Q s p1 p2 hf k => by
  unfold fIC at hf
  split at hf
  · exact ⟨_, _, rep_int_of p1, rep_int_of p2, hf.1, k _ _ hf.2 (rep_int _)⟩
  · exact hf.elim
theorem dB {g : Int → Int → Bool} : DOp (rI0 fun i j => .bl (g i j)) (fB g) := fun G H x y dx dy q Q s p1 p2 hf k => by
  unfold fB at hf
  split at hf
  · exact ⟨_, _, rep_int_of p1, rep_int_of p2, k _ _ hf (rep_bl _)⟩
  · exact hf.elim

noncomputable def eqD (a b : D) : Bool := PyData.eqv (toP a) (toP b)
noncomputable def okD (a : D) : Bool := SeqAt.shaped (toP a)
noncomputable def fEq : D → D → (D → Prop) → Prop := fun a b q => match a, b with
  | .int i, .int j => q (.bl (decide (i = j)))
  | a, b => okD a = true ∧ okD b = true ∧ q (.bl (eqD a b))
noncomputable def fNe : D → D → (D → Prop) → Prop := fun a b q => match a, b with
  | .int i, .int j => q (.bl (!decide (i = j)))
  | a, b => okD a = true ∧ okD b = true ∧ q (.bl (!eqD a b))
theorem eqD_int (i j : Int) : eqD (.int i) (.int j) = decide (i = j) := by
  unfold eqD; rw [toP, toP, PyData.eqv]; first | rfl | (rw [Bool.beq_eq_decide_eq])
theorem okD_int (i : Int) : okD (.int i) = true := by unfold okD; rw [toP]; rfl
theorem dEq : DOp rEqD fEq := fun G H x y dx dy q Q s p1 p2 hf k => by
  have main : okD dx = true ∧ okD dy = true ∧ q (.bl (eqD dx dy)) := by
    unfold fEq at hf
    split at hf
    · exact ⟨okD_int _, okD_int _, by rw [eqD_int]; exact hf⟩
    · exact hf
  exact ⟨dx, dy, Rep.mono s _ _ p1, Rep.mono s _ _ p2, main.1, main.2.1, k _ _ main.2.2 (rep_bl _)⟩
theorem dNe : DOp rNeD fNe := fun G H x y dx dy q Q s p1 p2 hf k => by
  have main : okD dx = true ∧ okD dy = true ∧ q (.bl (!eqD dx dy)) := by
    unfold fNe at hf
    split at hf
    · exact ⟨okD_int _, okD_int _, by rw [eqD_int]; exact hf⟩
    · exact hf
  exact ⟨dx, dy, Rep.mono s _ _ p1, Rep.mono s _ _ p2, main.1, main.2.1, k _ _ main.2.2 (rep_bl _)⟩
noncomputable def fIsB : D → D → (D → Prop) → Prop := fun a b q => match a, b with
  | .bl x, .bl y => q (.bl (x == y))
  | _, _ => False


noncomputable def atD (ds : List D) (i : Int) (q : D → Prop) : Prop := match atI ds i with
  | some d => q d
  | none => False
noncomputable def fIx (K : PySem.W.Frag) : D → D → (D → Prop) → Prop := fun a b q => match a, b with
  | .lst ds, .int i => atD ds i q
  | .tup ds, .int i => atD ds i q
  | .scr φ ns, .int i => (∀ a H, φ a → SqL K H a (ns.map V.int)) ∧ match atI ns i with
    | some n => q (.int n)
    | none => False
  | _, _ => False
theorem reps_get {G : Hp} : ∀ {ds : List D} {xs : List V} {j : Nat} {d : D}, Reps G ds xs → ds[j]? = some d → ∃ v, xs[j]? = some v ∧ Rep G d v
  | [], _, _, _, _, e => by simp at e
  | d :: ds, xs, 0, e, h, q => by rw [Reps] at h; obtain ⟨v, vs, rfl, h1, _⟩ := h; simp at q; subst q; exact ⟨v, rfl, h1⟩
  | d :: ds, xs, j + 1, e, h, q => by
    rw [Reps] at h
    obtain ⟨v, vs, rfl, _, h2⟩ := h
    obtain ⟨u, e1, e2⟩ := reps_get (j := j) h2 (by simpa using q)
    exact ⟨u, by simpa using e1, e2⟩
theorem reps_atI {G : Hp} {ds : List D} {xs : List V} {i : Int} {d : D} (h : Reps G ds xs) (e : atI ds i = some d) : ∃ v, atI xs i = some v ∧ Rep G d v := by
  unfold atI at *
  rw [h.length]
  cases q : ixN ds.length i with
  | none => rw [q] at e; cases e
  | some j => rw [q] at e; exact reps_get h e
theorem atI_map {α β : Type} {f : α → β} {xs : List α} {i : Int} {x : α} (h : atI xs i = some x) : atI (xs.map f) i = some (f x) := by
  unfold atI at *
  rw [List.length_map]
  cases q : ixN xs.length i with
  | none => rw [q] at h; cases h
  | some j => rw [q] at h; rw [show (Option.some j).bind _ = (xs.map f)[j]? from rfl, List.getElem?_map, show xs[j]? = some x from h]; rfl
theorem dIx {K : PySem.W.Frag} : DOp (rIx K) (fIx K) := fun G H x y dx dy q Q s p1 p2 hf k => by
  unfold fIx at hf
  split at hf
  · rw [Rep] at p1
    obtain ⟨a, xs, rfl, h1, h2⟩ := p1
    unfold atD at hf
    split at hf
    · rename_i e
      obtain ⟨v, e1, e2⟩ := reps_atI h2 e
      exact .inl ⟨a, xs, _, v, rfl, rep_int_of p2, SqL.of (s _ _ h1), e1, k _ _ hf e2⟩
    · exact hf.elim
  · rw [Rep] at p1
    obtain ⟨a, xs, rfl, h1, h2⟩ := p1
    unfold atD at hf
    split at hf
    · rename_i e
      obtain ⟨v, e1, e2⟩ := reps_atI h2 e
      exact .inr (.inl ⟨a, xs, _, v, rfl, rep_int_of p2, SqT.of (s _ _ h1), e1, k _ _ hf e2⟩)
    · exact hf.elim
  · rw [Rep] at p1
    obtain ⟨a, rfl, h1⟩ := p1
    obtain ⟨hk, hf⟩ := hf
    split at hf
    · rename_i e
      refine .inl ⟨a, _, _, _, rfl, rep_int_of p2, ?_, atI_map e, k _ _ hf (rep_int _)⟩
      rcases h1 with ⟨o, h1⟩ | h1
      · exact .inl (.inr ⟨o, s _ _ h1⟩)
      · exact hk a H h1
    · exact hf.elim
  · exact hf.elim

noncomputable def fLen (K : PySem.W.Frag) : List D → (D → Prop) → Prop := fun ds q => match ds with
  | [.lst ds] => q (.int ds.length)
  | [.tup ds] => q (.int ds.length)
  | [.scr φ ns] => (∀ a H, φ a → SqL K H a (ns.map V.int)) ∧ q (.int ns.length)
  | _ => False
theorem rep_lst_of {G : Hp} {ds : List D} {v : V} (h : Rep G (.lst ds) v) : ∃ a xs, v = .ref a ∧ G a = some (.lst xs) ∧ Reps G ds xs := by rw [Rep] at h; exact h
theorem rep_tup_of {G : Hp} {ds : List D} {v : V} (h : Rep G (.tup ds) v) : ∃ a xs, v = .ref a ∧ G a = some (.tup xs) ∧ Reps G ds xs := by rw [Rep] at h; exact h
theorem rep_scr_of {G : Hp} {φ : Addr → Prop} {ns : List Int} {v : V} (h : Rep G (.scr φ ns) v) : ∃ a, v = .ref a ∧ ((∃ o, G a = some (.frz o (.lst (ns.map V.int)))) ∨ φ a) := by rw [Rep] at h; exact h
theorem reps_one {G : Hp} {d : D} {xs : List V} (h : Reps G [d] xs) : ∃ v, xs = [v] ∧ Rep G d v := by
  rw [Reps] at h; obtain ⟨v, vs, rfl, h1, h2⟩ := h; rw [Reps] at h2; subst h2; exact ⟨v, rfl, h1⟩
theorem reps_two {G : Hp} {d e : D} {xs : List V} (h : Reps G [d, e] xs) : ∃ v u, xs = [v, u] ∧ Rep G d v ∧ Rep G e u := by
  rw [Reps] at h; obtain ⟨v, vs, rfl, h1, h2⟩ := h; obtain ⟨u, rfl, h3⟩ := reps_one h2; exact ⟨v, u, rfl, h1, h3⟩
theorem dLen {K : PySem.W.Frag} : DCall (fun xs H Q => ∃ p ys, xs = [.ref p] ∧ (SqL K H p ys ∨ SqT K H p ys) ∧ Q (.int ys.length) H) (fLen K) := fun G H xs ds q Q s p hf k => by
  unfold fLen at hf
  split at hf
  · obtain ⟨v, rfl, p1⟩ := reps_one p
    obtain ⟨a, xs, rfl, h1, h2⟩ := rep_lst_of p1
    exact ⟨a, xs, rfl, .inl (SqL.of (s _ _ h1)), by rw [h2.length]; exact k _ _ hf (rep_int _)⟩
  · obtain ⟨v, rfl, p1⟩ := reps_one p
    obtain ⟨a, xs, rfl, h1, h2⟩ := rep_tup_of p1
    exact ⟨a, xs, rfl, .inr (SqT.of (s _ _ h1)), by rw [h2.length]; exact k _ _ hf (rep_int _)⟩
  · obtain ⟨v, rfl, p1⟩ := reps_one p
    obtain ⟨a, rfl, h1⟩ := rep_scr_of p1
    rename_i φ ns
    have hS : SqL K H a (ns.map V.int) := by
      rcases h1 with ⟨o, h1⟩ | h1
      · exact .inl (.inr ⟨o, s _ _ h1⟩)
      · exact hf.1 a H h1
    exact ⟨a, _, rfl, .inl hS, by rw [List.length_map]; exact k _ _ hf.2 (rep_int _)⟩
  · exact hf.elim
noncomputable def fMax : List D → (D → Prop) → Prop := fun ds q => match ds with
  | [.int i, .int j] => q (.int (if j > i then j else i))
  | _ => False
noncomputable def fMin : List D → (D → Prop) → Prop := fun ds q => match ds with
  | [.int i, .int j] => q (.int (if j < i then j else i))
  | _ => False
theorem dMax : DCall (fun xs H Q => ∃ i j, xs = [.int i, .int j] ∧ Q (.int (if j > i then j else i)) H) fMax := fun G H xs ds q Q s p hf k => by
  unfold fMax at hf
  split at hf
  · obtain ⟨v, u, rfl, p1, p2⟩ := reps_two p
    rw [rep_int_of p1, rep_int_of p2]
    exact ⟨_, _, rfl, k _ _ hf (rep_int _)⟩
  · exact hf.elim
theorem dMin : DCall (fun xs H Q => ∃ i j, xs = [.int i, .int j] ∧ Q (.int (if j < i then j else i)) H) fMin := fun G H xs ds q Q s p hf k => by
  unfold fMin at hf
  split at hf
  · obtain ⟨v, u, rfl, p1, p2⟩ := reps_two p
    rw [rep_int_of p1, rep_int_of p2]
    exact ⟨_, _, rfl, k _ _ hf (rep_int _)⟩
  · exact hf.elim
noncomputable def fInt1 : List D → (D → Prop) → Prop := fun ds q => match ds with
  | [.int i] => q (.int i)
  | [.bl k] => q (.int (if k then 1 else 0))
  | _ => False
theorem dInt1 : DCall (fun xs H Q => (∃ i, xs = [.int i] ∧ Q (.int i) H) ∨ ∃ k, xs = [.bl k] ∧ Q (.int (if k then 1 else 0)) H) fInt1 := fun G H xs ds q Q s p hf k => by
  unfold fInt1 at hf
  split at hf
  · obtain ⟨v, rfl, p1⟩ := reps_one p
    rw [rep_int_of p1]
    exact .inl ⟨_, rfl, k _ _ hf (rep_int _)⟩
  · obtain ⟨v, rfl, p1⟩ := reps_one p
    rw [rep_bl_of p1]
    exact .inr ⟨_, rfl, k _ _ hf (rep_int _)⟩
  · exact hf.elim
noncomputable def fAbs : List D → (D → Prop) → Prop := fun ds q => match ds with
  | [.int i] => q (.int (if i < 0 then -i else i))
  | _ => False
theorem dAbs : DCall (fun xs H Q => ∃ i, xs = [.int i] ∧ Q (.int (if i < 0 then -i else i)) H) fAbs := fun G H xs ds q Q s p hf k => by
  unfold fAbs at hf
  split at hf
  · obtain ⟨v, rfl, p1⟩ := reps_one p
    rw [rep_int_of p1]
    exact ⟨_, rfl, k _ _ hf (rep_int _)⟩
  · exact hf.elim
section
variable {X : Cx} {ow : List Bool} {a b c e : Expr} {ma mb mc : ME} {pos : Pos} {mr : MA} {es : List Expr}

noncomputable def mNeg (m : ME) : ME := fun ρ q => m ρ fun d ρ' => match d with
  | .int i => q (.int (-i)) ρ'
  | _ => False
theorem qe_neg (h : QE X ow a ma) : QE X ow (.UnaryOp .USub a pos) (mNeg ma) := by
  obtain ⟨t, p, s⟩ := h
  refine ⟨_, pe_un un_neg p, fun C G ρ σ H pd q Q r hm k => s C G ρ σ H pd _ _ r hm fun d ρ' v G' H' hq s kp r' p => ?_⟩
  cases d with
  | int i => exact ⟨i, rep_int_of p, k _ ρ' _ G' H' hq s kp r' (rep_int _)⟩
  | _ => exact hq.elim

noncomputable def mIsT (T : String) (m : ME) : ME := fun ρ q => m ρ fun d ρ' => match isTy d T with
  | some b => q (.bl b) ρ'
  | none => False
theorem qe_isT {T : String} {x y : Str} {p1 p2 : Pos} (hg : Gl X x) (hm : X.mg x = none) (hv : bootBuiltins x = some (.builtin "isinstance")) (ha : QE X ow a ma) (ht : PE X (.Name y p2) (tC (.ty T)))
    (hn : x ≠ "__name__" := by decide) (hdb : (x == ("__debug__" : Str)) = false := by decide)
    (hs : starEach [.Name y p2] X.env = [(false, eval (.Name y p2) X.env)] := by rfl)
    (he : starEach [a, .Name y p2] X.env = (false, eval a X.env) :: starEach [.Name y p2] X.env := by rfl) (hpl : (backTo pos (starEach [.Name y p2] X.env)).any (·.1) = false := by rfl) :
    QE X ow (.Call (.Name x p1) [a, .Name y p2] [] pos) (mIsT T ma) := by
  obtain ⟨t, p, s⟩ := ha
  refine ⟨_, pe_callB call_isinst hg hm hv (pa_cons p (pa_cons ht pa_nil hs) he) hn hdb he hpl, fun C G ρ σ H pd q Q r hm k => s C G ρ σ H pd _ _ r hm fun d ρ' v G' H' hq s kp r' p => ?_⟩
  cases e : isTy d T with
  | none => rw [e] at hq; exact hq.elim
  | some b => rw [e] at hq; exact ⟨v, T, d, b, rfl, Rep.mono r'.gh _ _ p, e, k _ ρ' _ G' H' hq s kp r' (rep_bl _)⟩

noncomputable def mChain (f g : D → D → (D → Prop) → Prop) (ma mb mc : ME) : ME := fun ρ q => ma ρ fun x ρ1 => mb ρ1 fun y ρ2 => f x y fun z => match z with
  | .bl k => if k = true then mc ρ2 fun w ρ3 => g y w fun d => q d ρ3 else q (.bl false) ρ2
  | _ => False
theorem se_chain {r r' : R2} {f g : D → D → (D → Prop) → Prop} {ta tb tc : TE} (hf : DOp r f) (hg : DOp r' g) (ha : SE ow ta ma) (hb : SE ow tb mb) (hc : SE ow tc mc) : SE ow (tChain r r' ta tb tc) (mChain f g ma mb mc) := fun C G ρ σ H pd q Q hr h k => by
  refine se_two (Q := fun x y H2 => r x y H2 _) ha hb hr h fun dx dy ρ' x y G' H' h1 s kp r1 p1 p2 => ?_
  refine hf G' H' x y dx dy _ _ r1.gh p1 p2 h1 fun d v hq p => ?_
  cases d with
  | bl b =>
    refine ⟨b, rep_bl_of p, ?_⟩
    change (if b = true then _ else _) at hq
    cases b with
    | true =>
      rw [if_pos rfl] at hq ⊢
      refine hc C G' ρ' σ H' pd _ _ r1 hq fun dw ρ3 w G3 H3 h3 s3 kp3 r3 p3 => ?_
      exact hg G3 H3 y w dy dw _ _ r3.gh (Rep.mono s3 _ _ p2) p3 h3 fun d v hq p => k d ρ3 v G3 H3 hq (s.trans s3) (kp.trans kp3) r3 p
    | false => rw [if_neg (by decide)] at hq ⊢; exact k _ ρ' _ G' H' hq s kp r1 (rep_bl _)
  | _ => exact hq.elim
theorem qe_chain {op op' : CmpOp} {r r' : R2} {f g : D → D → (D → Prop) → Prop} (ho : OpR X (compareOp op) r) (ho' : OpR X (compareOp op') r') (hf : DOp r f) (hg : DOp r' g) (ha : QE X ow a ma) (hb : QE X ow b mb) (hc : QE X ow c mc)
    (hm : lastMarks [op, op'] [b, c] = false := by with_unfolding_all rfl) : QE X ow (.Compare a [op, op'] [b, c] pos) (mChain f g ma mb mc) := by
  obtain ⟨ta, pa, sa⟩ := ha; obtain ⟨tb, pb, sb⟩ := hb; obtain ⟨tc, pc, sc⟩ := hc
  exact ⟨_, pe_chain ho ho' pa pb pc hm, se_chain hf hg sa sb sc⟩

noncomputable def DNew (r : List V → Hp → VK → Prop) (f : List D → (List D → Prop) → Prop) : Prop := ∀ (G H : Hp) (xs : List V) (ds : List D) (q : List D → Prop) (Q : VK), Same G H → Reps G ds xs → f ds q →
  (∀ es ys p, q es → Reps G es ys → H p = none → Q (.ref p) (upd H p (.lst ys))) → r xs H Q
noncomputable def mNew (f : List D → (List D → Prop) → Prop) (m : MA) : ME := fun ρ q => m ρ fun ds ρ' => f ds fun es => imms es = true ∧ q (.lst es) ρ'
noncomputable def mNewS (f : List D → (List D → Prop) → Prop) (m : MA) : ME := fun ρ q => m ρ fun ds ρ' => f ds fun es => q (.lst es) ρ'
theorem sf_new {r : List V → Hp → VK → Prop} {f : List D → (List D → Prop) → Prop} {t : TA} {n : Nat} (hd : DNew r f) (s : SA ow n t mr) : SF ow (fun σ H Q => t σ H fun xs H1 => r xs H1 Q) (mNew f mr) := fun C G ρ σ H pd q Q hr hm k =>
  s C G ρ σ H pd _ _ hr hm fun ds ρ' vs G' H' hq z kp r' p hn => hd G' H' vs ds _ _ r'.gh p hq fun es ys a hq p ha => by
    obtain ⟨O, r'⟩ := r'
    exact k _ ρ' _ _ _ hq.2 z kp (r'.newL ha hq.1 p)
theorem se_new {r : List V → Hp → VK → Prop} {f : List D → (List D → Prop) → Prop} {t : TA} {n : Nat} (hd : DNew r f) (s : SA ow n t mr) : SE ow (fun σ H Q => t σ H fun xs H1 => r xs H1 Q) (mNewS f mr) := fun C G ρ σ H pd q Q hr hm k =>
  s C G ρ σ H pd _ _ hr hm fun ds ρ' vs G' H' hq z kp r' p hn => hd G' H' vs ds _ _ r'.gh p hq fun es ys a hq p ha => by
    obtain ⟨O, r'⟩ := r'
    obtain ⟨r2, s2⟩ := r'.new ha (.lst ys)
    exact k _ ρ' _ _ _ hq (z.trans s2) kp ⟨O, r2⟩ (rep_lst upd_same (Reps.mono s2 _ _ p))

theorem sa_two {ta tb : TE} (ha : SE ow ta ma) (hb : SE ow tb mb) : SA ow 2 (fun σ H Q => ta σ H fun x H1 => tb σ H1 fun y H2 => Q [x, y] H2) (mCons ma (mCons mb mNil)) := fun C G ρ σ H pd q Q hr hm k =>
  se_two (Q := fun x y H2 => Q [x, y] H2) ha hb hr hm fun dx dy ρ' x y G' H' h1 s kp r1 p1 p2 => k [dx, dy] ρ' [x, y] G' H' h1 s kp r1 (reps_cons p1 (reps_cons p2 reps_nil)) rfl
theorem reps_app {G : Hp} : ∀ {ds es : List D} {xs ys : List V}, Reps G ds xs → Reps G es ys → Reps G (ds ++ es) (xs ++ ys)
  | [], es, xs, ys, h, h2 => by rw [Reps] at h; subst h; exact h2
  | d :: ds, es, xs, ys, h, h2 => by rw [Reps] at h; obtain ⟨v, vs, rfl, h1, h3⟩ := h; exact reps_cons h1 (reps_app h3 h2)
theorem reps_drop {G : Hp} : ∀ {ds : List D} {xs : List V} (n : Nat), Reps G ds xs → Reps G (ds.drop n) (xs.drop n)
  | [], xs, n, h => by rw [Reps] at h; subst h; simp; exact reps_nil
  | d :: ds, xs, 0, h => h
  | d :: ds, xs, n + 1, h => by rw [Reps] at h; obtain ⟨v, vs, rfl, h1, h3⟩ := h; exact reps_drop n h3
theorem reps_take {G : Hp} : ∀ {ds : List D} {xs : List V} (n : Nat), Reps G ds xs → Reps G (ds.take n) (xs.take n)
  | [], xs, n, h => by rw [Reps] at h; subst h; simp; exact reps_nil
  | d :: ds, xs, 0, h => by simp; exact reps_nil
  | d :: ds, xs, n + 1, h => by rw [Reps] at h; obtain ⟨v, vs, rfl, h1, h3⟩ := h; exact reps_cons h1 (reps_take n h3)
theorem reps_rep {G : Hp} {ds : List D} {xs : List V} (h : Reps G ds xs) : ∀ n : Nat, Reps G (List.replicate n ds).flatten (List.replicate n xs).flatten
  | 0 => by simp; exact reps_nil
  | n + 1 => by simp [List.replicate_succ]; exact reps_app h (reps_rep h n)
noncomputable def fCat : List D → (List D → Prop) → Prop := fun ds q => match ds with
  | [.lst xs, .lst ys] => xs.length + ys.length ≤ 1000 ∧ q (xs ++ ys)
  | _ => False
theorem dCat : DNew (fun xs H Q => ∃ x y, xs = [x, y] ∧ rCat x y H Q) fCat := fun G H xs ds q Q s p hf k => by
  unfold fCat at hf
  split at hf
  · obtain ⟨v, u, rfl, p1, p2⟩ := reps_two p
    rw [Rep] at p1 p2
    obtain ⟨a1, xs, rfl, h1, h2⟩ := p1
    obtain ⟨a2, ys, rfl, h3, h4⟩ := p2
    exact ⟨_, _, rfl, a1, a2, xs, ys, rfl, rfl, s _ _ h1, s _ _ h3, le_line (by rw [h2.length, h4.length]; exact hf.1), fun p hp => k _ _ p hf.2 (reps_app h2 h4) hp⟩
  · exact hf.elim
noncomputable def fRep : List D → (List D → Prop) → Prop := fun ds q => match ds with
  | [.lst xs, .int n] => (-(2 ^ 63) ≤ n ∧ n < 2 ^ 63 ∧ xs.length * n.toNat ≤ 1000) ∧ q (List.replicate n.toNat xs).flatten
  | _ => False
theorem dRep : DNew (fun xs H Q => ∃ x y, xs = [x, y] ∧ rRep x y H Q) fRep := fun G H xs ds q Q s p hf k => by
  unfold fRep at hf
  split at hf
  · obtain ⟨v, u, rfl, p1, p2⟩ := reps_two p
    obtain ⟨a1, xs, rfl, h1, h2⟩ := rep_lst_of p1
    rw [rep_int_of p2]
    exact ⟨_, _, rfl, a1, _, xs, rfl, rfl, s _ _ h1, hf.1.1, hf.1.2.1, le_line (by rw [h2.length]; exact hf.1.2.2), fun p hp => k _ _ p hf.2 (reps_rep h2 _) hp⟩
  · exact hf.elim

noncomputable def mMk (f : List D → (List D → Prop) → Prop) (ma mb : ME) : ME := mNew f (mCons ma (mCons mb mNil))
noncomputable def mMkS (f : List D → (List D → Prop) → Prop) (ma mb : ME) : ME := mNewS f (mCons ma (mCons mb mNil))
noncomputable def R2ok (r : R2) : List V → Hp → VK → Prop := fun xs H Q => match xs with
  | [x, y] => r x y H Q
  | _ => False
theorem DNew.r2 {r : R2} {f : List D → (List D → Prop) → Prop} (h : DNew (fun xs H Q => ∃ x y, xs = [x, y] ∧ r x y H Q) f) : DNew (R2ok r) f := fun G H xs ds q Q s p hf k => by
  obtain ⟨x, y, rfl, z⟩ := h G H xs ds q Q s p hf k
  exact z
theorem qf_mk {op : Operator} {r : R2} {f : List D → (List D → Prop) → Prop} (ho : OpR X (binaryOp op) r) (hd : DNew (fun xs H Q => ∃ x y, xs = [x, y] ∧ r x y H Q) f) (ha : QE X ow a ma) (hb : QE X ow b mb) : QF X ow (.BinOp a op b pos) (mMk f ma mb) := by
  obtain ⟨ta, pa, sa⟩ := ha; obtain ⟨tb, pb, sb⟩ := hb
  exact ⟨tOp r ta tb, pe_op ho pa pb, sf_new (r := R2ok r) hd.r2 (sa_two sa sb)⟩
theorem qe_mk {op : Operator} {r : R2} {f : List D → (List D → Prop) → Prop} (ho : OpR X (binaryOp op) r) (hd : DNew (fun xs H Q => ∃ x y, xs = [x, y] ∧ r x y H Q) f) (ha : QE X ow a ma) (hb : QE X ow b mb) : QE X ow (.BinOp a op b pos) (mMkS f ma mb) := by
  obtain ⟨ta, pa, sa⟩ := ha; obtain ⟨tb, pb, sb⟩ := hb
  exact ⟨tOp r ta tb, pe_op ho pa pb, se_new (r := R2ok r) hd.r2 (sa_two sa sb)⟩
variable {x : Str} {p' : Pos}
theorem qf_callB {id : String} {r : List V → Hp → VK → Prop} {f : List D → (List D → Prop) → Prop} (hc : CallR X (.builtin id) r) (hd : DNew r f) (hg : Gl X x) (hm : X.mg x = none) (hv : bootBuiltins x = some (.builtin id)) (ha : QA X ow (e :: es) mr) (hn : x ≠ "__name__" := by decide) (hdb : (x == ("__debug__" : Str)) = false := by decide)
    (he : starEach (e :: es) X.env = (false, eval e X.env) :: starEach es X.env := by rfl) (hpl : (backTo pos (starEach es X.env)).any (·.1) = false := by rfl) : QF X ow (.Call (.Name x p') (e :: es) [] pos) (mNew f mr) := by
  obtain ⟨t, p, s⟩ := ha
  exact ⟨_, pe_callB hc hg hm hv p hn hdb he hpl, sf_new hd s⟩

noncomputable def cutD (xs : List D) (lo hi : Option Int) : List D := (xs.drop (HT.sIx xs.length 0 lo)).take (HT.sIx xs.length xs.length hi - HT.sIx xs.length 0 lo)
theorem reps_cut {G : Hp} {ds : List D} {xs : List V} (h : Reps G ds xs) (lo hi : Option Int) : Reps G (cutD ds lo hi) (cutV xs lo hi) := by
  unfold cutD cutV
  rw [h.length]
  exact reps_take _ (reps_drop _ h)
noncomputable abbrev MO := DSt → (Option Int → DSt → Prop) → Prop
noncomputable def SO (ow : List Bool) (t : TO) (m : MO) : Prop := ∀ (C : Ctx) (G : Hp) (ρ : DSt) (σ : St) (H : Hp) (pd : List (D × V)) (q : Option Int → DSt → Prop) (Q : Option Int → Hp → Prop), R C ow G ρ σ H pd → m ρ q →
  (∀ b ρ' G' H', q b ρ' → Same G G' → Kp ow ρ ρ' → R C ow G' ρ' σ H' pd → Q b H') → t σ H Q
structure QO (X : Cx) (ow : List Bool) (e : Option Expr) (m : MO) : Prop where
  ex : ∃ t, PO X e t ∧ SO ow t m
noncomputable def mNoPart : MO := fun ρ q => q none ρ
noncomputable def mPart (m : ME) : MO := fun ρ q => m ρ fun d ρ' => match d with
  | .int i => q (some i) ρ'
  | _ => False
theorem qo_none : QO X ow none mNoPart := ⟨_, po_none, fun C G ρ σ H pd q Q r h k => k none ρ G H h (Same.refl _) Kp.refl r⟩
theorem qo_some (h : QE X ow e ma) : QO X ow (some e) (mPart ma) := by
  obtain ⟨t, p, s⟩ := h
  refine ⟨_, po_some p, fun C G ρ σ H pd q Q r hm k => s C G ρ σ H pd _ _ r hm fun d ρ' v G' H' hq s kp r' p => ?_⟩
  cases d with
  | int i => exact ⟨i, rep_int_of p, k _ ρ' G' H' hq s kp r'⟩
  | _ => exact hq.elim
noncomputable def mSl (m : ME) (ml mh : MO) : ME := fun ρ q => m ρ fun d ρ1 => ml ρ1 fun lo ρ2 => mh ρ2 fun hi ρ3 => match d with
  | .lst ds => imms (cutD ds lo hi) = true ∧ q (.lst (cutD ds lo hi)) ρ3
  | _ => False
noncomputable def mSlS (m : ME) (ml mh : MO) : ME := fun ρ q => m ρ fun d ρ1 => ml ρ1 fun lo ρ2 => mh ρ2 fun hi ρ3 => match d with
  | .lst ds => q (.lst (cutD ds lo hi)) ρ3
  | _ => False
variable {lo hi : Option Expr} {ml mh : MO} {p2 : Pos}
theorem qe_slice (h : QE X ow e ma) (hl : QO X ow lo ml) (hh : QO X ow hi mh) : QE X ow (.Subscript e (.Slice lo hi none p2) pos) (mSlS ma ml mh) := by
  obtain ⟨t, p, s⟩ := h; obtain ⟨t1, p1, s1⟩ := hl; obtain ⟨t2, p2, s2⟩ := hh
  refine ⟨_, pe_slice sl_list p p1 p2, fun C G ρ σ H pd q Q r hm k => s C G ρ σ H pd _ _ r hm fun d ρ' v G' H' hq z kp r' p => ?_⟩
  refine s1 C G' ρ' σ H' pd _ _ r' hq fun l ρ1 G1 H1 hq1 z1 kp1 r1 => s2 C G1 ρ1 σ H1 pd _ _ r1 hq1 fun u ρ2 G2 H2 hq2 z2 kp2 r2 => ?_
  cases d with
  | lst ds =>
    obtain ⟨a, xs, rfl, h1, h2⟩ := rep_lst_of (Rep.mono (z1.trans z2) _ _ p)
    refine ⟨a, xs, rfl, SqL.of (r2.gh _ _ h1), fun b hb => ?_⟩
    obtain ⟨O, r2⟩ := r2
    obtain ⟨r3, z3⟩ := r2.new hb (.lst (cutV xs l u))
    exact k _ ρ2 _ _ _ hq2 (z.trans (z1.trans (z2.trans z3))) (kp.trans (kp1.trans kp2)) ⟨O, r3⟩ (rep_lst upd_same (Reps.mono z3 _ _ (reps_cut h2 _ _)))
  | _ => exact hq2.elim
end
end L2

set_option Elab.async false
set_option linter.all false
set_option maxRecDepth 100000
set_option maxHeartbeats 1000000
namespace L2
open PySem PySem.Spec PyProof.Rows

noncomputable def ownM (f : Nat → Option Nat) (O : Own) : Own := fun a => match O a with
  | some m => (f m.1).map fun l => (l, m.2)
  | none => none
theorem ownM_at {f : Nat → Option Nat} {O : Own} {a : Addr} {l l' : Nat} {π : List Nat} (h : O a = some (l, π)) (hf : f l = some l') : ownM f O a = some (l', π) := by unfold ownM; rw [h]; show (f l).map _ = _; rw [hf]; rfl
theorem ownM_of {f : Nat → Option Nat} {O : Own} {a : Addr} {l' : Nat} {π : List Nat} (h : ownM f O a = some (l', π)) : ∃ l, O a = some (l, π) ∧ f l = some l' := by
  unfold ownM at h
  cases e : O a with
  | none => rw [e] at h; cases h
  | some m =>
    rw [e] at h
    change (f m.1).map _ = _ at h
    cases e2 : f m.1 with
    | none => rw [e2] at h; cases h
    | some l => rw [e2] at h; cases h; exact ⟨m.1, rfl, e2⟩
theorem ownM_none {f : Nat → Option Nat} {O : Own} {a : Addr} {l : Nat} {π : List Nat} (h : O a = some (l, π)) (hf : f l = none) : ownM f O a = none := by unfold ownM; rw [h]; show (f l).map _ = _; rw [hf]; rfl

noncomputable def msV : List Bool → List V → List (Option V)
  | b :: bs, v :: vs => (if b = true then some v else none) :: msV bs vs
  | _, _ => []
theorem msV_of : ∀ {mu : List Bool} {vs : List V} {k : Nat} {v : V}, (msV mu vs)[k]? = some (some v) → mu[k]? = some true ∧ vs[k]? = some v
  | [], vs, k, v, h => by simp [msV] at h
  | b :: bs, [], k, v, h => by simp [msV] at h
  | b :: bs, u :: vs, 0, v, h => by
    simp only [msV, List.getElem?_cons_zero, Option.some.injEq] at h
    split at h
    · rename_i c; cases h; subst c; exact ⟨rfl, rfl⟩
    · cases h
  | b :: bs, u :: vs, k + 1, v, h => by
    simp only [msV, List.getElem?_cons_succ] at h
    simpa using msV_of h
theorem msV_at : ∀ {mu : List Bool} {vs : List V} {k : Nat} {v : V}, mu[k]? = some true → vs[k]? = some v → (msV mu vs)[k]? = some (some v)
  | [], vs, k, v, h, _ => by simp at h
  | b :: bs, [], k, v, _, h => by simp at h
  | b :: bs, u :: vs, 0, v, h, h2 => by simp at h h2; subst h; subst h2; simp [msV]
  | b :: bs, u :: vs, k + 1, v, h, h2 => by simp only [msV, List.getElem?_cons_succ]; exact msV_at (by simpa using h) (by simpa using h2)
section
variable {C : Ctx} {ow mu : List Bool} {G : Hp} {ρ : DSt} {σ : St} {H : Hp} {pd : List (D × V)} {O : Own} {fin fbk : Nat → Option Nat}
theorem RO.into (ro : RO C ow G ρ σ H pd O) {ds : List D} {vs : List V} (hl : ds.length = vs.length)
    (hs : ∀ (k : Nat) d, ds[k]? = some d → ∃ v, vs[k]? = some v ∧ if mu[k]? = some true then ∃ l, Sep G H O l d [] v ∧ fin l = some (2 * k) else Rep G d v)
    (hc : ∀ l l', fin l = some l' → ∃ k, l' = 2 * k ∧ mu[k]? = some true ∧ k < vs.length) :
    RO ⟨G, H, ownM fin O, msV mu vs, 0⟩ mu G (ds.map some) (vs.map some) H [] (ownM fin O) := by
  refine ⟨by simp [hl], ro.gh, fun _ _ e => e, fun _ _ e => .inl e, ?_, ?_, fun _ _ e _ => e, fun _ e => e, ?_, ?_, trivial, Nat.le_refl _⟩
  · intro a m e
    obtain ⟨l', π⟩ := m
    obtain ⟨l, e1, e2⟩ := ownM_of e
    obtain ⟨q1, q2, _⟩ := ro.og a _ e1
    exact ⟨q1, q2, .inr ⟨π, e⟩⟩
  · intro a l' π e
    obtain ⟨l, e1, e2⟩ := ownM_of e
    obtain ⟨k, rfl, h2, h3⟩ := hc _ _ e2
    exact .inl ⟨k, vs[k], rfl, msV_at h2 (List.getElem?_eq_getElem h3)⟩
  · intro k v e
    rw [List.getElem?_map, (msV_of e).2]; rfl
  · intro k d e
    rw [List.getElem?_map] at e
    cases e1 : ds[k]? with
    | none => rw [e1] at e; cases e
    | some d' =>
      rw [e1] at e
      cases e
      obtain ⟨v, h1, h2⟩ := hs k d e1
      refine ⟨v, by rw [List.getElem?_map, h1]; rfl, ?_⟩
      split at h2
      · rename_i c
        rw [if_pos c]
        obtain ⟨l, h3, h4⟩ := h2
        exact h3.keep (fun _ _ z => z) fun a τ q => ⟨ownM_at q h4, rfl⟩
      · rename_i c; rw [if_neg c]; exact h2
noncomputable def ownB (fin fbk : Nat → Option Nat) (O O2 : Own) : Own := fun a => match O2 a with
  | some m => (fbk m.1).map fun l => (l, m.2)
  | none => match ownM fin O a with
    | some _ => none
    | none => O a
theorem RO.out (ro : RO C ow G ρ σ H pd O) {vs : List V} {G2 : Hp} {ρ2 : DSt} {σ2 : St} {H2 : Hp} {pd2 pd3 : List (D × V)} {O2 : Own} {ρ3 : DSt} {ow2 : List Bool} {np : Nat} {mv : List (Option V)}
    (ri : RO ⟨G, H, ownM fin O, mv, np⟩ ow2 G2 ρ2 σ2 H2 pd2 O2) (hib : ∀ l0 l' l, fin l0 = some l' → fbk l' = some l → l = l0)
    (hlen : ρ3.length = σ.length) (hnp : C.np ≤ pd3.length)
    (hS : ∀ (i : Nat) d, ow[i]? ≠ some true → ρ3[i]? = some (some d) → ρ[i]? = some (some d))
    (hO : ∀ (i : Nat) d, ow[i]? = some true → ρ3[i]? = some (some d) → (fin (2 * i) = none ∧ ρ[i]? = some (some d)) ∨ ∃ (k : Nat) (v : V), fbk (2 * k) = some (2 * i) ∧ ow2[k]? = some true ∧ ρ2[k]? = some (some d) ∧ σ[i]? = some (some v) ∧ σ2[k]? = some (some v))
    (hP : ∀ (O3 : Own), (∀ a l π, O a = some (l, π) → fin l = none → O3 a = some (l, π) ∧ H2 a = H a) → (∀ a l l' π, O2 a = some (l', π) → fbk l' = some l → O3 a = some (l, π)) → TSame G G2 → Pend G2 H2 O3 pd3) :
    RO C ow G2 ρ3 σ H2 pd3 (ownB fin fbk O O2) := by
  have keep : ∀ a l π, O a = some (l, π) → fin l = none → ownB fin fbk O O2 a = some (l, π) ∧ H2 a = H a := fun a l π e hn => by
    have e1 := ownM_none (f := fin) e hn
    obtain ⟨g, ⟨xs, hx⟩, _⟩ := ro.og a _ e
    have e2 : O2 a = none := by
      cases q : O2 a with
      | none => rfl
      | some m =>
        obtain ⟨_, _, q3⟩ := ri.og a m q
        rcases q3 with q3 | ⟨π', q3⟩
        · change H a = none at q3; rw [hx] at q3; cases q3
        · change ownM fin O a = _ at q3; rw [e1] at q3; cases q3
    constructor
    · show (match O2 a with | some m => _ | none => _) = _
      rw [e2]
      show (match ownM fin O a with | some _ => none | none => O a) = _
      rw [e1]; exact e
    · rw [ri.fr a _ hx e1, hx]
  have come : ∀ a l l' π, O2 a = some (l', π) → fbk l' = some l → ownB fin fbk O O2 a = some (l, π) := fun a l l' π e hb => by
    show (match O2 a with | some m => _ | none => _) = _
    rw [e]
    show (fbk l').map _ = _
    rw [hb]; rfl
  have ts : TSame G G2 := (Same.ts ri.g0)
  refine ⟨hlen, ri.gh, fun a o e => ri.g0 a o (ro.g0 a o e), ?_, ?_, ro.cok, ?_, fun a e => ro.al a (ri.al a e), ro.mp, ?_, hP _ keep come ts, hnp⟩
  · intro a o e
    rcases ri.gn a o e with q | q
    · exact ro.gn a o q
    · exact .inr (ro.al a q)
  · intro a m e
    change (match O2 a with | some m => _ | none => _) = _ at e
    cases q : O2 a with
    | some m' =>
      rw [q] at e
      change (fbk m'.1).map _ = _ at e
      cases q2 : fbk m'.1 with
      | none => rw [q2] at e; cases e
      | some l =>
        rw [q2] at e; cases e
        obtain ⟨g1, g2, g3⟩ := ri.og a m' q
        refine ⟨g1, g2, ?_⟩
        rcases g3 with g3 | ⟨π', g3⟩
        · exact .inl (ro.al a g3)
        · obtain ⟨l0, g4, g5⟩ := ownM_of g3
          have := hib _ _ _ g5 q2
          subst this
          exact (ro.og a _ g4).2.2
    | none =>
      rw [q] at e
      change (match ownM fin O a with | some _ => none | none => O a) = _ at e
      cases q2 : ownM fin O a with
      | some _ => rw [q2] at e; cases e
      | none =>
        rw [q2] at e
        change O a = some m at e
        obtain ⟨g1, ⟨xs, g2⟩, g3⟩ := ro.og a m e
        refine ⟨?_, ⟨xs, ri.fr a _ g2 q2⟩, g3⟩
        cases z : G2 a with
        | none => rfl
        | some o =>
          rcases ri.gn a o z with z | z
          · change G a = _ at z; rw [g1] at z; cases z
          · change H a = _ at z; rw [g2] at z; cases z
  · intro a o e n
    have q := ro.fr a o e n
    refine ri.fr a o q ?_
    show ownM fin O a = none
    cases z : ownM fin O a with
    | none => rfl
    | some m =>
      obtain ⟨l', π⟩ := m
      obtain ⟨l, z1, _⟩ := ownM_of z
      obtain ⟨_, _, z3⟩ := ro.og a _ z1
      rcases z3 with z3 | ⟨_, z3⟩
      · rw [z3] at e; cases e
      · rw [z3] at n; cases n
  · intro i d e
    by_cases c : ow[i]? = some true
    · rcases hO i d c e with ⟨h1, h2⟩ | ⟨k, v, h1, h2, h3, h4, h5⟩
      · obtain ⟨v, q1, q2⟩ := ro.sl i d h2
        rw [if_pos c] at q2
        exact ⟨v, q1, by rw [if_pos c]; exact q2.keep ts fun a τ q => keep a _ _ q h1⟩
      · obtain ⟨v', q1, q2⟩ := ri.sl k d h3
        rw [if_pos h2] at q2
        rw [h5] at q1; cases q1
        exact ⟨v, h4, by rw [if_pos c]; exact q2.keep (fun _ _ z => z) fun a τ q => ⟨come _ _ _ _ q h1, rfl⟩⟩
    · obtain ⟨v, q1, q2⟩ := ro.sl i d (hS i d c e)
      rw [if_neg c] at q2
      exact ⟨v, q1, by rw [if_neg c]; exact q2.mono ri.g0⟩
end

noncomputable def Ret (fr : Bool) (C : Ctx) (ow : List Bool) (G : Hp) (ρ : DSt) (σ : St) (H : Hp) (d : D) (v : V) : Prop := if fr = true then R C ow G ρ σ H [(d, v)] else R C ow G ρ σ H [] ∧ Rep G d v

noncomputable def mus : List Bool → DSt → DSt
  | true :: bs, x :: ρ => x :: mus bs ρ
  | false :: bs, _ :: ρ => mus bs ρ
  | true :: bs, [] => none :: mus bs []
  | false :: bs, [] => mus bs []
  | [], _ => []

noncomputable def padS {α : Type} : Nat → List (Option α) → List (Option α)
  | 0, _ => []
  | n + 1, x :: ρ => x :: padS n ρ
  | n + 1, [] => none :: padS n []
theorem padS_len {α : Type} : ∀ (n : Nat) (ρ : List (Option α)), (padS n ρ).length = n
  | 0, _ => rfl
  | n + 1, x :: ρ => by simp [padS, padS_len n ρ]
  | n + 1, [] => by simp [padS, padS_len n []]
theorem padS_mus : ∀ (mu : List Bool) (ρ : DSt), mus mu (padS mu.length ρ) = mus mu ρ
  | [], _ => by simp [mus]
  | true :: bs, x :: ρ => by simp [padS, mus, padS_mus bs ρ]
  | false :: bs, x :: ρ => by simp [padS, mus, padS_mus bs ρ]
  | true :: bs, [] => by simp [padS, mus, padS_mus bs []]
  | false :: bs, [] => by simp [padS, mus, padS_mus bs []]
theorem padS_of {α : Type} : ∀ {n : Nat} {ρ : List (Option α)} {i : Nat} {d : α}, (padS n ρ)[i]? = some (some d) → i < n ∧ ρ[i]? = some (some d)
  | 0, _, _, _, h => by simp [padS] at h
  | n + 1, x :: ρ, 0, d, h => by simp [padS] at h; exact ⟨by omega, by simp [h]⟩
  | n + 1, x :: ρ, i + 1, d, h => by simp only [padS, List.getElem?_cons_succ] at h; obtain ⟨a, b⟩ := padS_of h; exact ⟨by omega, by simpa using b⟩
  | n + 1, [], 0, d, h => by simp [padS] at h
  | n + 1, [], i + 1, d, h => by simp only [padS, List.getElem?_cons_succ] at h; obtain ⟨a, b⟩ := padS_of h; simp at b
theorem padS_at {α : Type} : ∀ {n : Nat} {ρ : List (Option α)} {i : Nat} {d : α}, i < n → ρ[i]? = some (some d) → (padS n ρ)[i]? = some (some d)
  | 0, _, _, _, h, _ => by omega
  | n + 1, x :: ρ, 0, d, h, e => by simp at e; simp [padS, e]
  | n + 1, x :: ρ, i + 1, d, h, e => by simp only [padS, List.getElem?_cons_succ]; exact padS_at (by omega) (by simpa using e)
  | n + 1, [], i, d, h, e => by simp at e
noncomputable abbrev SpD := List D → (D → DSt → Prop) → Prop
noncomputable def spOf (mu : List Bool) (fr : Bool) (sd : SpD) : Sp := fun vs H Q _ => ∃ (C : Ctx) (G : Hp) (ds : List D) (q : D → DSt → Prop), C.np = 0 ∧ C.mu = msV mu vs ∧ R C mu G (ds.map some) (vs.map some) H [] ∧ sd ds q ∧ mu.length = ds.length ∧
  ∀ d ρ' σ' v G' H', q d (mus mu ρ') → Same G G' → ρ'.length = mu.length → Ret fr C mu G' ρ' σ' H' d v → Q v H'
end L2

set_option Elab.async false
set_option linter.all false
set_option maxRecDepth 100000
set_option maxHeartbeats 1000000
namespace L2
open PySem PySem.Spec PyProof.Rows

structure EndsD where
  nx : DSt → Prop
  rt : D → DSt → Prop
  bk : DSt → Prop := fun _ => False
  ct : DSt → Prop := fun _ => False
noncomputable abbrev MS := EndsD → DSt → Prop
structure Ks (C : Ctx) (ow : List Bool) (fr : Bool) (G : Hp) (n : EndsD) (D : Ends) : Prop where
  nx : ∀ ρ σ G' H, n.nx ρ → Same G G' → R C ow G' ρ σ H [] → D.nx σ H
  bk : ∀ ρ σ G' H, n.bk ρ → Same G G' → R C ow G' ρ σ H [] → D.bk σ H
  ct : ∀ ρ σ G' H, n.ct ρ → Same G G' → R C ow G' ρ σ H [] → D.ct σ H
  rt : ∀ d ρ σ v G' H, n.rt d ρ → Same G G' → Ret fr C ow G' ρ σ H d v → D.rt v H
theorem Ks.mono {C : Ctx} {ow : List Bool} {fr : Bool} {G G1 : Hp} {n : EndsD} {D : Ends} (h : Ks C ow fr G n D) (s : Same G G1) : Ks C ow fr G1 n D :=
  ⟨fun ρ σ G' H a b c => h.nx ρ σ G' H a (s.trans b) c, fun ρ σ G' H a b c => h.bk ρ σ G' H a (s.trans b) c, fun ρ σ G' H a b c => h.ct ρ σ G' H a (s.trans b) c, fun d ρ σ v G' H a b c => h.rt d ρ σ v G' H a (s.trans b) c⟩
noncomputable def MuOk (C : Ctx) (mu : List Bool) : Prop := ∀ (i : Nat) v, C.mu[i]? = some (some v) → mu[i]? = some true
theorem MuOk.no {C : Ctx} {mu : List Bool} (h : MuOk C mu) {i : Nat} (hi : mu[i]? ≠ some true) : ∀ v, C.mu[i]? ≠ some (some v) := fun v e => hi (h i v e)

structure Md where
  mu : List Bool
  ow : List Bool
  fr : Bool
noncomputable def SS (M : Md) (t : TS) (m : MS) : Prop := ∀ (C : Ctx) (G : Hp) (ρ : DSt) (σ : St) (H : Hp) (n : EndsD) (D : Ends), MuOk C M.mu → C.np = 0 → R C M.ow G ρ σ H [] → m n ρ → Ks C M.ow M.fr G n D → t D σ H
structure QS (X : Cx) (M : Md) (st : Stmt) (m : MS) : Prop where
  ex : ∃ t, PS X st t ∧ SS M t m
structure QSs (X : Cx) (M : Md) (st : List Stmt) (m : MS) : Prop where
  ex : ∃ t, PSs X st t ∧ SS M t m
section
variable {X : Cx} {M : Md} {a b c e : Expr} {ma mb mc : ME} {mt : MT} {pos pos' : Pos} {st : Stmt} {rest : List Stmt} {m m1 m2 : MS}
noncomputable def mSeq (m1 m2 : MS) : MS := fun n ρ => m1 { n with nx := fun ρ' => m2 n ρ' } ρ
noncomputable def mNext : MS := fun n ρ => n.nx ρ
theorem qss_nil : QSs X M [] mNext := ⟨_, pss_nil, fun C G ρ σ H n D hm hn r h k => k.nx ρ σ G H h (Same.refl _) r⟩
theorem qss_one (h : QS X M st m) : QSs X M [st] m := by obtain ⟨t, p, s⟩ := h; exact ⟨_, pss_one p, s⟩
theorem qss_cons (h : QS X M st m1) (h2 : QSs X M rest m2) : QSs X M (st :: rest) (mSeq m1 m2) := by
  obtain ⟨t, p, s⟩ := h; obtain ⟨t2, p2, s2⟩ := h2
  refine ⟨_, pss_cons p p2, fun C G ρ σ H n D hm hn r h k => s C G ρ σ H _ _ hm hn r h ?_⟩
  exact ⟨fun ρ' σ' G' H' h' z r' => s2 C G' ρ' σ' H' n D hm hn r' h' (k.mono z), k.bk, k.ct, k.rt⟩
noncomputable def mNever : MS := fun _ _ => False
theorem qs_never : QS X M st mNever := ⟨_, ps_never, fun C G ρ σ H n D hm hn r h k => h.elim⟩
noncomputable def mIfS (mt : MT) (m1 m2 : MS) : MS := fun n ρ => mt ρ fun b ρ1 => if b = true then m1 n ρ1 else m2 n ρ1
theorem qs_if {s1 s2 : List Stmt} (h : QT X M.ow c mt) (h1 : QSs X M s1 m1) (h2 : QSs X M s2 m2) : QS X M (.If c s1 s2 pos) (mIfS mt m1 m2) := by
  obtain ⟨t, p, s⟩ := h; obtain ⟨t1, p1, s1⟩ := h1; obtain ⟨t2, p2, s2⟩ := h2
  refine ⟨_, ps_if p p1 p2, fun C G ρ σ H n D hm hn r h k => s C G ρ σ H [] _ _ r h fun b ρ' G' H' hq z kp r' => ?_⟩
  cases b with
  | true => rw [if_pos rfl] at hq ⊢; exact s1 C G' ρ' σ H' n D hm hn r' hq (k.mono z)
  | false => rw [if_neg (by decide)] at hq ⊢; exact s2 C G' ρ' σ H' n D hm hn r' hq (k.mono z)
noncomputable def mRet (m : ME) : MS := fun n ρ => m ρ n.rt
theorem qs_ret (h : QE X M.ow e ma) (hf : M.fr = false := by rfl) : QS X M (.Return (some e) pos) (mRet ma) := by
  obtain ⟨t, p, s⟩ := h
  refine ⟨_, ps_ret p, fun C G ρ σ H n D hm hn r h k => s C G ρ σ H [] _ _ r h fun d ρ' v G' H' hq z kp r' p => k.rt d ρ' σ v G' H' hq z (by unfold Ret; rw [if_neg (by rw [hf]; decide)]; exact ⟨r', p⟩)⟩
theorem R.non {C : Ctx} {ow : List Bool} {fr : Bool} {G : Hp} {ρ : DSt} {σ : St} {H : Hp} (r : R C ow G ρ σ H []) : Ret fr C ow G ρ σ H .non .non := by
  unfold Ret
  split
  · obtain ⟨O, r⟩ := r
    exact ⟨O, r.len, r.gh, r.g0, r.gn, r.og, r.cok, r.fr, r.al, r.mp, r.sl, ⟨by rw [Sep], trivial⟩, Nat.le_succ_of_le r.np⟩
  · exact ⟨r, rep_non⟩

noncomputable def mSet (i : Nat) (m : ME) : MS := fun n ρ => m ρ fun d ρ1 => n.nx (ρ1.set i (some d))
theorem ss_set {t : TE} {i : Nat} (s : SE M.ow t ma) (ho : M.ow[i]? ≠ some true) (hu : M.mu[i]? ≠ some true) : SS M (tAsg t (gName i)) (mSet i ma) := fun C G ρ σ H n D hm hn r h k =>
  s C G ρ σ H [] _ _ r h fun d ρ' v G' H' hq z kp r' p => by
    obtain ⟨O, r'⟩ := r'
    exact k.nx _ _ G' H' hq z ⟨O, r'.setS ho (hm.no hu) p⟩
theorem ss_setO {t : TE} {i : Nat} (s : SF M.ow t ma) (ho : M.ow[i]? = some true) (hu : M.mu[i]? ≠ some true) : SS M (tAsg t (gName i)) (mSet i ma) := fun C G ρ σ H n D hm hn r h k =>
  s C G ρ σ H [] _ _ r h fun d ρ' v G' H' hq z kp r' => by
    obtain ⟨O, r'⟩ := r'
    exact k.nx _ _ G' H' hq z (r'.setO ho (hm.no hu) (by rw [hn]; exact Nat.zero_le _))
theorem qs_set {i : Nat} {x : Str} (hN : X.N.Nodup) (hi : X.N[i]? = some x) (hx : Loc X.env.scope x) (he : QE X M.ow e ma) (ho : M.ow[i]? ≠ some true := by decide) (hu : M.mu[i]? ≠ some true := by decide) (hs : swapsWith e (some (.Name x pos')) pos.line X.env = pure false := by rfl) (hf : X.fn x = true ∨ X.env.scope.names.lookup x = some .local := by first | exact .inl rfl | exact .inr rfl | assumption) :
    QS X M (.Assign [.Name x pos'] e pos) (mSet i ma) := by
  obtain ⟨t, p, s⟩ := he
  exact ⟨_, ps_set hN hi hx p hs hf, ss_set s ho hu⟩
theorem qs_setO {i : Nat} {x : Str} (hN : X.N.Nodup) (hi : X.N[i]? = some x) (hx : Loc X.env.scope x) (he : QF X M.ow e ma) (ho : M.ow[i]? = some true := by decide) (hu : M.mu[i]? ≠ some true := by decide) (hs : swapsWith e (some (.Name x pos')) pos.line X.env = pure false := by rfl) (hf : X.fn x = true ∨ X.env.scope.names.lookup x = some .local := by first | exact .inl rfl | exact .inr rfl | assumption) :
    QS X M (.Assign [.Name x pos'] e pos) (mSet i ma) := by
  obtain ⟨t, p, s⟩ := he
  exact ⟨_, ps_set hN hi hx p hs hf, ss_setO s ho hu⟩

noncomputable def mPar (i j : Nat) (ma mb : ME) : MS := fun n ρ => ma ρ fun x ρ1 => mb ρ1 fun y ρ2 => n.nx ((ρ2.set i (some x)).set j (some y))
theorem qs_par {i j : Nat} {x y : Str} {px py pt : Pos} {kt k2 pt2} (hc : X.calm = true) (hN : X.N.Nodup) (hi : X.N[i]? = some x) (hj : X.N[j]? = some y) (hij : i ≠ j)
    (hx : X.env.scope.names.lookup x = some .local) (hy : X.env.scope.names.lookup y = some .local) (ha : QE X M.ow a ma) (hb : QE X M.ow b mb)
    (hw : swappedStores [.Tuple [.Name x px, .Name y py] kt pt] (.Tuple [a, b] k2 pt2) X.env = pure (some [x, y]))
    (oi : M.ow[i]? ≠ some true := by decide) (oj : M.ow[j]? ≠ some true := by decide) (ui : M.mu[i]? ≠ some true := by decide) (uj : M.mu[j]? ≠ some true := by decide)
    (hs1 : starEach [a, b] X.env = (false, eval a X.env) :: starEach [b] X.env := by rfl) (hs2 : starEach [b] X.env = [(false, eval b X.env)] := by rfl)
    (hs : swapsWithSole [.Tuple [.Name x px, .Name y py] kt pt] (.Tuple [a, b] k2 pt2) pos.line X.env = pure false := by rfl) :
    QS X M (.Assign [.Tuple [.Name x px, .Name y py] kt pt] (.Tuple [a, b] k2 pt2) pos) (mPar i j ma mb) := by
  obtain ⟨ta, pa, sa⟩ := ha; obtain ⟨tb, pb, sb⟩ := hb
  refine ⟨_, ps_par hc hN hi hj hij hx hy (pa_cons pa (pa_cons pb pa_nil hs2) hs1) hw hs, fun C G ρ σ H n D hm hn r h k => ?_⟩
  refine se_two (Q := fun u w H2 => ∃ v w', [u, w] = [v, w'] ∧ D.nx ((σ.set i (some v)).set j (some w')) H2) sa sb r h fun dx dy ρ' u w G' H' hq z kp r' p1 p2 => ⟨u, w, rfl, ?_⟩
  obtain ⟨O, r'⟩ := r'
  exact k.nx _ _ G' H' hq z ⟨O, (r'.setS oi (hm.no ui) p1).setS oj (hm.no uj) p2⟩

noncomputable abbrev MG := D → DSt → (DSt → Prop) → Prop
noncomputable abbrev MGs := List D → DSt → (DSt → Prop) → Prop
noncomputable def SG (M : Md) (g : TG) (m : MG) : Prop := ∀ (C : Ctx) (G : Hp) (ρ : DSt) (σ : St) (H : Hp) (pd : List (D × V)) (d : D) (v : V) (k : DSt → Prop) (K : St → Hp → Prop), MuOk C M.mu → R C M.ow G ρ σ H pd → Rep G d v → m d ρ k →
  (∀ ρ' σ', k ρ' → R C M.ow G ρ' σ' H pd → K σ' H) → g v σ H K
noncomputable def SGs (M : Md) (g : TGs) (m : MGs) : Prop := ∀ (C : Ctx) (G : Hp) (ρ : DSt) (σ : St) (H : Hp) (pd : List (D × V)) (d : List D) (v : List V) (k : DSt → Prop) (K : St → Hp → Prop), MuOk C M.mu → R C M.ow G ρ σ H pd → Reps G d v → m d ρ k →
  (∀ ρ' σ', k ρ' → R C M.ow G ρ' σ' H pd → K σ' H) → g v σ H K
structure QG (X : Cx) (M : Md) (e : Expr) (m : MG) : Prop where
  ex : ∃ t, PG X e t ∧ SG M t m
structure QGs (X : Cx) (M : Md) (e : List Expr) (m : MGs) : Prop where
  ex : ∃ t, PGs X e t ∧ SGs M t m
noncomputable def gmName (i : Nat) : MG := fun d ρ k => k (ρ.set i (some d))
theorem qg_name {i : Nat} {x : Str} (hN : X.N.Nodup) (hi : X.N[i]? = some x) (hx : Loc X.env.scope x) (ho : M.ow[i]? ≠ some true := by decide) (hu : M.mu[i]? ≠ some true := by decide) (hf : X.fn x = true ∨ X.env.scope.names.lookup x = some .local := by first | exact .inl rfl | exact .inr rfl | assumption) : QG X M (.Name x pos) (gmName i) :=
  ⟨_, pg_name hN hi hx hf, fun C G ρ σ H pd d v k K hm r p h kk => by obtain ⟨O, r⟩ := r; exact kk _ _ h ⟨O, r.setS ho (hm.no hu) p⟩⟩
noncomputable def gmNil : MGs := fun ds ρ k => match ds with
  | [] => k ρ
  | _ => False
noncomputable def gmCons (t : MG) (u : MGs) : MGs := fun ds ρ k => match ds with
  | d :: ds => t d ρ fun ρ1 => u ds ρ1 k
  | [] => False
noncomputable def gmTup (t : MGs) : MG := fun d ρ k => match d with
  | .tup ds => t ds ρ k
  | _ => False
variable {mg : MG} {mgs : MGs} {es : List Expr}
theorem qgs_nil : QGs X M [] gmNil := ⟨_, pgs_nil, fun C G ρ σ H pd d v k K hm r p h kk => by
  cases d with
  | nil => rw [Reps] at p; exact ⟨p, kk _ _ h r⟩
  | cons _ _ => exact h.elim⟩
theorem qgs_cons (h1 : QG X M e mg) (h2 : QGs X M es mgs) (hs : (assignEach (e :: es) X.env).map (·.2) = assign e X.env :: (assignEach es X.env).map (·.2) := by rfl) : QGs X M (e :: es) (gmCons mg mgs) := by
  obtain ⟨t, p, s⟩ := h1; obtain ⟨t2, p2, s2⟩ := h2
  refine ⟨_, pgs_cons p p2 hs, fun C G ρ σ H pd d v k K hm r p h kk => ?_⟩
  cases d with
  | nil => exact h.elim
  | cons d ds =>
    rw [Reps] at p
    obtain ⟨v, vs, rfl, p1, p3⟩ := p
    exact ⟨v, vs, rfl, s C G ρ σ H pd d v _ _ hm r p1 h fun ρ' σ' h' r' => s2 C G ρ' σ' H pd ds vs k K hm r' p3 h' kk⟩

noncomputable def takes (n : Nat) (m : MGs) : Prop := ∀ ds ρ k, m ds ρ k → ds.length = n
theorem takes_nil : takes 0 gmNil := fun ds ρ k h => by cases ds with | nil => rfl | cons _ _ => exact h.elim
theorem takes_cons1 {n : Nat} {i : Nat} (h : takes n mgs) : takes (n + 1) (gmCons (gmName i) mgs) := fun ds ρ k q => by
  cases ds with
  | nil => exact q.elim
  | cons d ds => simp [h ds _ _ q]
theorem qg_tup {kk : Nat} {n : Nat} (hc : X.calm = true) (h : QGs X M es mgs) (ht : takes n mgs)
    (hn : (assignEach es X.env).length = n := by rfl) (hst : (assignEach es X.env).findIdx? (·.1) = none := by rfl) : QG X M (.Tuple es kk pos) (gmTup mgs) := by
  obtain ⟨t, p, s⟩ := h
  refine ⟨_, pg_tup hc p hn hst, fun C G ρ σ H pd d v k K hm r p h kk => ?_⟩
  cases d with
  | tup ds =>
    obtain ⟨a, xs, rfl, h1, h2⟩ := rep_tup_of p
    exact ⟨a, xs, rfl, SqT.of (r.gh _ _ h1), by rw [h2.length]; exact ht _ _ _ h, s C G ρ σ H pd ds xs k K hm r h2 h kk⟩
  | _ => exact h.elim

noncomputable def mAsg (m : ME) (g : MG) : MS := fun n ρ => m ρ fun d ρ1 => g d ρ1 n.nx
theorem qs_asg {tg : Expr} (he : QE X M.ow e ma) (hg : QG X M tg mg) (hs : swapsWithSole [tg] e pos.line X.env = pure false := by rfl) (hw : swappedStores [tg] e X.env = pure none := by rfl)
    (h1 : (assignEach [tg] X.env).map (·.2) = [assign tg X.env] := by rfl) : QS X M (.Assign [tg] e pos) (mAsg ma mg) := by
  obtain ⟨t, p, s⟩ := he; obtain ⟨t2, p2, s2⟩ := hg
  refine ⟨_, ps_asg p p2 hs hw h1, fun C G ρ σ H n D hm hn r h k => s C G ρ σ H [] _ _ r h fun d ρ' v G' H' hq z kp r' p => ?_⟩
  exact s2 C G' ρ' σ H' [] d v _ _ hm r' p hq fun ρ2 σ2 h2 r2 => k.nx ρ2 σ2 G' H' h2 z r2

noncomputable def mDrop (m : ME) : MS := fun n ρ => m ρ fun _ ρ1 => n.nx ρ1
theorem qs_expr (he : QE X M.ow e ma) (hs : swapsWith e none pos.line X.env = pure false := by rfl) : QS X M (.Expr e pos) (mDrop ma) := by
  obtain ⟨t, p, s⟩ := he
  exact ⟨_, ps_expr p hs, fun C G ρ σ H n D hm hn r h k => s C G ρ σ H [] _ _ r h fun d ρ' v G' H' hq z kp r' p => k.nx ρ' σ G' H' hq z r'⟩

noncomputable def mAppend (i : Nat) (m : ME) : MS := fun n ρ => match ρ[i]? with
  | some (some (.lst _)) => m ρ fun d ρ1 => match ρ1[i]? with
    | some (some (.lst ds)) => ds.length < 1000 ∧ n.nx (ρ1.set i (some (.lst (ds ++ [d]))))
    | _ => False
  | _ => False
theorem qs_append {i : Nat} {x : Str} {apos cpos npos : Pos} (hN : X.N[i]? = some x) (he : QF X M.ow e ma) (ho : M.ow[i]? = some true := by decide)
    (hv : Vis X.env.scope x := by first | exact Or.inl rfl | exact Or.inr (Or.inl rfl) | exact Or.inr (Or.inr rfl)) (hd : (x == ("__debug__" : Str)) = false := by decide) (hcd : (x == ("__classdict__" : Str)) = false := by decide)
    (hbase : attributeBase (.Name x npos) "append" X.env (eval (.Name x npos) X.env) = eval (.Name x npos) X.env := by rfl)
    (hfew : ((backTo cpos (starEach [e] X.env)).all (fun x => !x.1) && (backToKw cpos (keywordEach [] X.env)).all (fun x => x.1.isSome)
      && decide ([e].length + ([] : List Keyword).length + (if ([] : List Keyword).isEmpty then 0 else 1) < 30)) = true := by rfl)
    (hline : (apos.endLine == cpos.line) = true := by rfl) (hst : starEach [e] X.env = [(false, eval e X.env)] := by rfl)
    (hs : swapsWith (.Call (.Attribute (.Name x npos) "append" apos) [e] [] cpos) none pos.line X.env = pure false := by rfl) :
    QS X M (.Expr (.Call (.Attribute (.Name x npos) "append" apos) [e] [] cpos) pos) (mAppend i ma) := by
  obtain ⟨t, p, s⟩ := he
  refine ⟨_, ps_expr (pe_bm PySem.F.plainAttrs_list PySem.F.slot_list_append PySem.F.type_list_append mt_append (pe_var hN hv hd hcd) (pa_cons p pa_nil hst) hbase hfew hline hst (by rfl)) hs, fun C G ρ σ H n D hm hn r h k => ?_⟩
  unfold mAppend at h
  split at h
  · rename_i ds e1
    obtain ⟨O, ro⟩ := r
    obtain ⟨a, xs, h1, h2, _, _⟩ := ro.write e1 ho
    refine ⟨.ref a, h1, .inl ⟨rfl, xs, SqL.of h2⟩, ?_⟩
    refine s C G ρ σ H [] _ _ ⟨O, ro⟩ h fun d ρ' v G' H' hq z kp r' => ?_
    split at hq
    · rename_i ds' e2
      obtain ⟨O', r'⟩ := r'
      obtain ⟨O2, r2, s2, s3⟩ := r'.join i ds'.length (by rw [hn]; exact Nat.zero_le _)
      obtain ⟨a', xs', g1, g2, g3, g4⟩ := r2.write e2 ho
      rw [h1] at g1; cases g1
      have hl := g3.length
      refine ⟨a, xs', v, rfl, rfl, g2, by rw [hl]; exact small1000 (Nat.le_of_lt hq.1), ?_⟩
      exact k.nx _ _ G' _ hq.2 z ⟨O2, g4 _ _ (g3.snoc (by simpa using s2))⟩
    · exact hq.elim
  · exact h.elim
noncomputable def mSetI (i : Nat) (mk m : ME) : MS := fun n ρ => m ρ fun d ρ1 => match ρ1[i]? with
  | some (some (.lst _)) => mk ρ1 fun k ρ2 => match ρ2[i]? with
    | some (some (.lst ds)) => match k with
      | .int j => match ixN ds.length j with
        | some p => n.nx (ρ2.set i (some (.lst (ds.set p d))))
        | none => False
      | _ => False
    | _ => False
  | _ => False
theorem qs_setI {i : Nat} {x : Str} {npos spos : Pos} (hN : X.N[i]? = some x) (he : QF X M.ow e ma) (hk : QE X M.ow b mb) (ho : M.ow[i]? = some true := by decide)
    (hv : Vis X.env.scope x := by first | exact Or.inl rfl | exact Or.inr (Or.inl rfl) | exact Or.inr (Or.inr rfl)) (hd : (x == ("__debug__" : Str)) = false := by decide) (hcd : (x == ("__classdict__" : Str)) = false := by decide)
    (ha : ∀ v, assign (.Subscript (.Name x npos) b spos) X.env v = (do
      let ov ← holding [v] (eval (.Name x npos) X.env)
      let iv ← holding [v, ov] (eval b X.env)
      standAt spos
      holding [v, ov, iv] (setItem ov iv v)
      release [v, ov, iv] []) := by intro _; rfl)
    (hs : swapsWithSole [.Subscript (.Name x npos) b spos] e pos.line X.env = pure false := by rfl) (hw : swappedStores [.Subscript (.Name x npos) b spos] e X.env = pure none := by rfl)
    (h1 : (assignEach [.Subscript (.Name x npos) b spos] X.env).map (·.2) = [assign (.Subscript (.Name x npos) b spos) X.env] := by rfl) :
    QS X M (.Assign [.Subscript (.Name x npos) b spos] e pos) (mSetI i mb ma) := by
  obtain ⟨t, p, s⟩ := he; obtain ⟨t2, p2, s2⟩ := hk
  refine ⟨_, ps_asg p (pg_sub (pe_var hN hv hd hcd) p2 set_list ha) hs hw h1, fun C G ρ σ H n D hm hn r h k => s C G ρ σ H [] _ _ r h fun d ρ' v G' H' hq z kp r' => ?_⟩
  split at hq
  · rename_i ds0 e0
    obtain ⟨O0, ro⟩ := r'
    obtain ⟨a, xs, hu, _, _, _⟩ := ro.write e0 ho
    refine ⟨.ref a, hu, ?_⟩
    refine s2 C G' ρ' σ H' _ _ _ ⟨O0, ro⟩ hq fun dk ρ2 jv G2 H2 hq2 z2 kp2 r2 pj => ?_
    split at hq2
    · rename_i ds e2
      cases dk with
      | int j =>
        dsimp only at hq2
        split at hq2
        · rename_i pl e3
          obtain ⟨O', r2⟩ := r2
          obtain ⟨O2, r3, w2, w3⟩ := r2.join i pl (by rw [hn]; exact Nat.zero_le _)
          obtain ⟨a', xs', g1, g2, g3, g4⟩ := r3.write e2 ho
          rw [hu] at g1; cases g1
          refine ⟨a, xs', j, pl, rfl, rep_int_of pj, g2, by rw [g3.length]; exact e3, ?_⟩
          exact k.nx _ _ G2 _ hq2 (z.trans z2) ⟨O2, g4 _ _ (g3.set (by simpa using w2))⟩
        · exact hq2.elim
      | _ => exact hq2.elim
    · exact hq2.elim
  · exact hq.elim

noncomputable def mWhile (mt : MT) (mb : MS) : MS := fun n ρ => ∃ W : Nat → DSt → Prop, (∃ k, W k ρ) ∧ ∀ k ρ, W k ρ → mt ρ fun b ρ1 =>
  if b = true then mb { n with nx := fun ρ' => ∃ k', k' < k ∧ W k' ρ', ct := fun ρ' => ∃ k', k' < k ∧ W k' ρ', bk := n.nx } ρ1 else n.nx ρ1
theorem qs_while {body : List Stmt} (hp : PassesOwn (model X.prog X.w) X.A X.env X.xe) (hc : QT X M.ow c mt) (hb : QSs X M body m) : QS X M (.While c body [] pos) (mWhile mt m) := by
  obtain ⟨t, p, s⟩ := hc; obtain ⟨t2, p2, s2⟩ := hb
  refine ⟨_, ps_while hp p p2, fun C G ρ σ H n D hm hn r h k => ?_⟩
  obtain ⟨W, ⟨k0, w0⟩, turn⟩ := h
  refine ⟨fun j σ' H' => ∃ G' ρ', Same G G' ∧ R C M.ow G' ρ' σ' H' [] ∧ W j ρ', ⟨k0, G, ρ, Same.refl _, r, w0⟩, ?_⟩
  rintro j σ' H' ⟨G', ρ', z, r', w⟩
  refine s C G' ρ' σ' H' [] _ _ r' (turn j ρ' w) fun b ρ1 G1 H1 hq z1 kp r1 => ?_
  cases b with
  | true =>
    rw [if_pos rfl] at hq ⊢
    refine ⟨fun σ2 H2 => ∃ j', j' < j ∧ ∃ G2 ρ2, Same G G2 ∧ R C M.ow G2 ρ2 σ2 H2 [] ∧ W j' ρ2, fun σ2 H2 h => h, ?_⟩
    refine s2 C G1 ρ1 σ' H1 _ _ hm hn r1 hq ⟨?_, ?_, ?_, ?_⟩
    · rintro ρ2 σ2 G2 H2 ⟨j', hj, w'⟩ z2 r2; exact ⟨j', hj, G2, ρ2, z.trans (z1.trans z2), r2, w'⟩
    · intro ρ2 σ2 G2 H2 h z2 r2; exact k.nx ρ2 σ2 G2 H2 h (z.trans (z1.trans z2)) r2
    · rintro ρ2 σ2 G2 H2 ⟨j', hj, w'⟩ z2 r2; exact ⟨j', hj, G2, ρ2, z.trans (z1.trans z2), r2, w'⟩
    · intro d ρ2 σ2 v G2 H2 h z2 r2; exact k.rt d ρ2 σ2 v G2 H2 h (z.trans (z1.trans z2)) r2
  | false => rw [if_neg (by decide)] at hq ⊢; exact k.nx ρ1 σ' G1 H1 hq (z.trans z1) r1

noncomputable def ItOk (J : It) (G : Hp) (ds : List D) : Prop := ∀ (C : Ctx) (ow : List Bool) (G' : Hp) (ρ : DSt) (σ : St) (H : Hp) (pd : List (D × V)) (i : Nat), Same G G' → R C ow G' ρ σ H pd →
  (ds.length ≤ i → J.stop i H) ∧ ∀ d, ds[i]? = some d → J.go i H ∧ ∀ x H', J.yld i H x H' → ∃ G2, Same G' G2 ∧ R C ow G2 ρ σ H' pd ∧ Rep G2 d x
noncomputable def SI (ow : List Bool) (wi : TI) (mi : MA) : Prop := ∀ (C : Ctx) (G : Hp) (ρ : DSt) (σ : St) (H : Hp) (pd : List (D × V)) (q : List D → DSt → Prop) (Q : It → Hp → Prop), R C ow G ρ σ H pd → mi ρ q →
  (∀ ds ρ' G' H' J, q ds ρ' → Same G G' → Kp ow ρ ρ' → R C ow G' ρ' σ H' pd → ItOk J G' ds → Q J H') → wi σ H Q
structure QI (X : Cx) (ow : List Bool) (tg iter : Expr) (mi : MA) : Prop where
  ex : ∃ t, PI X tg iter t ∧ SI ow t mi
noncomputable def forD (g : MG) (mb : MS) (n : EndsD) (ds : List D) (ρ : DSt) : Prop := ∃ I : Nat → DSt → Prop, I 0 ρ ∧
  (∀ i d ρ, ds[i]? = some d → I i ρ → g d ρ fun ρ1 => mb { n with nx := I (i + 1), ct := I (i + 1), bk := n.nx } ρ1) ∧ ∀ ρ, I ds.length ρ → n.nx ρ
noncomputable def mFor (mi : MA) (g : MG) (mb : MS) : MS := fun n ρ => mi ρ fun ds ρ1 => forD g mb n ds ρ1
theorem qs_for {mi : MA} {tg iter : Expr} {body : List Stmt} (hp : PassesOwn (model X.prog X.w) X.A X.env X.xe) (hc : X.calm = true) (hi : QI X M.ow tg iter mi) (hg : QG X M tg mg) (hb : QSs X M body m)
    (hs : ∀ x, foldedSetIterable iter X.env x = pure x := by intro _; rfl) : QS X M (.For tg iter body [] pos) (mFor mi mg m) := by
  obtain ⟨ti, pi, si⟩ := hi; obtain ⟨tg', pg, sg⟩ := hg; obtain ⟨tb, pb, sb⟩ := hb
  refine ⟨_, ps_for hp hc pi pg pb hs, fun C G ρ σ H n D hm hn r h k => si C G ρ σ H [] _ _ r h fun ds ρ0 G0 H0 J hq z0 kp r0 jo => ?_⟩
  obtain ⟨I, i0, turn, fin⟩ := hq
  refine ⟨fun i j σ' H' => j = ds.length - i ∧ i ≤ ds.length ∧ ∃ G' ρ', Same G0 G' ∧ R C M.ow G' ρ' σ' H' [] ∧ I i ρ', ⟨_, rfl, Nat.zero_le _, G0, ρ0, Same.refl _, r0, i0⟩, ?_⟩
  rintro i j σ' H' ⟨rfl, hi, G', ρ', z, r', w⟩
  obtain ⟨st, go⟩ := jo C M.ow G' ρ' σ' H' [] i z r'
  by_cases hlt : i < ds.length
  · obtain ⟨g1, g2⟩ := go ds[i] (List.getElem?_eq_getElem hlt)
    refine .inr ⟨g1, fun σ2 H2 => ∃ G2 ρ2, Same G0 G2 ∧ R C M.ow G2 ρ2 σ2 H2 [] ∧ I (i + 1) ρ2, fun σ2 H2 h => ⟨ds.length - (i + 1), by omega, rfl, hlt, h⟩, fun x H1 hy => ?_⟩
    obtain ⟨G1, z1, r1, p1⟩ := g2 x H1 hy
    refine sg C G1 ρ' σ' H1 [] ds[i] x _ _ hm r1 p1 (turn i ds[i] ρ' (List.getElem?_eq_getElem hlt) w) fun ρ2 σ2 h2 r2 => ?_
    refine sb C G1 ρ2 σ2 H1 _ _ hm hn r2 h2 ⟨?_, ?_, ?_, ?_⟩
    · intro ρ3 σ3 G3 H3 h3 z3 r3; exact ⟨G3, ρ3, z.trans (z1.trans z3), r3, h3⟩
    · intro ρ3 σ3 G3 H3 h3 z3 r3; exact k.nx ρ3 σ3 G3 H3 h3 (z0.trans (z.trans (z1.trans z3))) r3
    · intro ρ3 σ3 G3 H3 h3 z3 r3; exact ⟨G3, ρ3, z.trans (z1.trans z3), r3, h3⟩
    · intro d ρ3 σ3 v G3 H3 h3 z3 r3; exact k.rt d ρ3 σ3 v G3 H3 h3 (z0.trans (z.trans (z1.trans z3))) r3
  · have e : i = ds.length := by omega
    subst e
    exact .inl ⟨st (Nat.le_refl _), k.nx ρ' σ' G' H' (fin ρ' w) (z0.trans z) r'⟩
end
end L2

set_option Elab.async false
set_option linter.all false
set_option maxRecDepth 100000
set_option maxHeartbeats 1000000
namespace L2
open PySem PySem.Spec PyProof.Rows
section
variable {X : Cx} {ow : List Bool} {a b c e tg : Expr} {ma mb mc : ME} {pos : Pos} {mr : MA} {es : List Expr}

theorem itl_ok {K : PySem.W.Frag} {G : Hp} {p : Addr} {xs : List V} {ds : List D} (h1 : G p = some (.lst xs)) (h2 : Reps G ds xs) : ItOk (Itl K p) G ds := fun C ow G' ρ σ H pd i z r => by
  have hp := r.gh _ _ (z _ _ h1)
  refine ⟨fun hl => ⟨xs, SqL.of hp, by rw [h2.length]; exact hl⟩, fun d e => ?_⟩
  obtain ⟨v, e1, e2⟩ := reps_get h2 e
  refine ⟨⟨xs, v, SqL.of hp, e1⟩, fun x H' hy => ?_⟩
  obtain ⟨rfl, hy⟩ := hy
  have := hy xs (SqL.of hp)
  rw [e1] at this; cases this
  exact ⟨G', Same.refl _, r, Rep.mono z _ _ e2⟩
noncomputable def miLst (m : ME) : MA := fun ρ q => m ρ fun d ρ' => match d with
  | .lst ds => q ds ρ'
  | _ => False
theorem qi_list (h : QE X ow e ma) : QI X ow tg e (miLst ma) := by
  obtain ⟨t, p, s⟩ := h
  refine ⟨_, pi_list p, fun C G ρ σ H pd q Q r hm k => s C G ρ σ H pd _ _ r hm fun d ρ' v G' H' hq z kp r' p => ?_⟩
  cases d with
  | lst ds => obtain ⟨a, xs, rfl, h1, h2⟩ := rep_lst_of p; exact ⟨a, rfl, ⟨xs, SqL.of (r'.gh _ _ h1)⟩, k ds ρ' G' H' _ hq z kp r' (itl_ok h1 h2)⟩
  | _ => exact hq.elim

noncomputable def rngD (lo : Int) (n : Nat) : List D := (List.range n).map fun (i : Nat) => .int (lo + i)
theorem rngD_at {lo : Int} {n i : Nat} {d : D} (h : (rngD lo n)[i]? = some d) : i < n ∧ d = .int (lo + i) := by
  unfold rngD at h
  rw [List.getElem?_map] at h
  by_cases c : i < n
  · rw [List.getElem?_range c] at h; exact ⟨c, (Option.some.inj h).symm⟩
  · rw [List.getElem?_eq_none (by simp; omega)] at h; cases h
theorem rngD_len (lo : Int) (n : Nat) : (rngD lo n).length = n := by unfold rngD; simp
theorem itr_ok {G : Hp} {lo : Int} {n : Nat} : ItOk (Itr lo n) G (rngD lo n) := fun C ow G' ρ σ H pd i z r => by
  refine ⟨fun hl => by rw [rngD_len] at hl; exact hl, fun d e => ?_⟩
  obtain ⟨h1, rfl⟩ := rngD_at e
  refine ⟨h1, fun x H' hy => ?_⟩
  obtain ⟨rfl, rfl⟩ := hy
  exact ⟨G', Same.refl _, r, rep_int _⟩
noncomputable def miR1 (m : MA) : MA := fun ρ q => m ρ fun ds ρ' => match ds with
  | [.int j] => (-(2 ^ 62) ≤ j ∧ j < 2 ^ 62) ∧ q (rngD 0 j.toNat) ρ'
  | _ => False
noncomputable def miR2 (m : MA) : MA := fun ρ q => m ρ fun ds ρ' => match ds with
  | [.int i, .int j] => (-(2 ^ 62) ≤ i ∧ i < 2 ^ 62 ∧ -(2 ^ 62) ≤ j ∧ j < 2 ^ 62) ∧ q (rngD i (j - i).toNat) ρ'
  | _ => False
theorem qi_range1 {p : Pos} (hg : Gl X "range") (hm : X.mg "range" = none) (ha : QA X ow [a] mr) (hs : starEach [a] X.env = [(false, eval a X.env)] := by rfl) : QI X ow tg (.Call (.Name "range" p) [a] [] pos) (miR1 mr) := by
  obtain ⟨t, p, s⟩ := ha
  refine ⟨_, pi_range1 hg hm p hs, fun C G ρ σ H pd q Q r hm k => s C G ρ σ H pd _ _ r hm fun ds ρ' vs G' H' hq z kp r' p hn => ?_⟩
  split at hq
  · obtain ⟨v, rfl, p1⟩ := reps_one p
    rw [rep_int_of p1]
    exact ⟨_, rfl, hq.1.1, hq.1.2, k _ ρ' G' H' _ hq.2 z kp r' itr_ok⟩
  · exact hq.elim
theorem qi_range2 {p : Pos} (hg : Gl X "range") (hm : X.mg "range" = none) (ha : QA X ow [a, b] mr) (hs : starEach [a, b] X.env = [(false, eval a X.env), (false, eval b X.env)] := by rfl) (hs2 : starEach [b] X.env = [(false, eval b X.env)] := by rfl) : QI X ow tg (.Call (.Name "range" p) [a, b] [] pos) (miR2 mr) := by
  obtain ⟨t, p, s⟩ := ha
  refine ⟨_, pi_range2 hg hm p hs hs2, fun C G ρ σ H pd q Q r hm k => s C G ρ σ H pd _ _ r hm fun ds ρ' vs G' H' hq z kp r' p hn => ?_⟩
  split at hq
  · obtain ⟨v, u, rfl, p1, p2⟩ := reps_two p
    rw [rep_int_of p1, rep_int_of p2]
    exact ⟨_, _, rfl, hq.1, k _ ρ' G' H' _ hq.2 z kp r' itr_ok⟩
  · exact hq.elim

noncomputable def enuD (ds : List D) : List D := ds.mapIdx fun i d => .tup [.int i, d]
theorem enuD_len (ds : List D) : (enuD ds).length = ds.length := by unfold enuD; simp
theorem enuD_at {ds : List D} {i : Nat} {d : D} (h : (enuD ds)[i]? = some d) : ∃ d', ds[i]? = some d' ∧ d = .tup [.int i, d'] := by
  unfold enuD at h
  rw [List.getElem?_mapIdx] at h
  cases e : ds[i]? with
  | none => rw [e] at h; cases h
  | some d' => rw [e] at h; exact ⟨d', rfl, (Option.some.inj h).symm⟩
theorem ite_ok {G : Hp} {p : Addr} {xs : List V} {ds : List D} (h1 : G p = some (.lst xs)) (h2 : Reps G ds xs) : ItOk (Ite p) G (enuD ds) := fun C ow G' ρ σ H pd i z r => by
  have hp := r.gh _ _ (z _ _ h1)
  refine ⟨fun hl => ⟨xs, hp, by rw [h2.length]; rw [enuD_len] at hl; exact hl⟩, fun d e => ?_⟩
  obtain ⟨d', e0, rfl⟩ := enuD_at e
  obtain ⟨v, e1, e2⟩ := reps_get h2 e0
  refine ⟨⟨xs, v, hp, e1⟩, fun x H' hy => ?_⟩
  obtain ⟨a, x', ha, rfl, rfl, hy⟩ := hy
  have := hy xs hp
  rw [e1] at this; cases this
  obtain ⟨O, r⟩ := r
  obtain ⟨r2, s2⟩ := r.new ha (.tup [.int i, v])
  exact ⟨_, s2, ⟨O, r2⟩, rep_tup upd_same (reps_cons (rep_int _) (reps_cons (Rep.mono (z.trans s2) _ _ e2) reps_nil))⟩
noncomputable def miEnu (m : MA) : MA := fun ρ q => m ρ fun ds ρ' => match ds with
  | [.lst ds] => q (enuD ds) ρ'
  | _ => False
theorem qi_enum {k : Nat} {tpos p : Pos} (hg : Gl X "enumerate") (hm : X.mg "enumerate" = none) (ha : QA X ow [a] mr) (hs : starEach [a] X.env = [(false, eval a X.env)] := by rfl) : QI X ow (.Tuple es k tpos) (.Call (.Name "enumerate" p) [a] [] pos) (miEnu mr) := by
  obtain ⟨t, p, s⟩ := ha
  refine ⟨_, pi_enum hg hm p hs, fun C G ρ σ H pd q Q r hm k => s C G ρ σ H pd _ _ r hm fun ds ρ' vs G' H' hq z kp r' p hn => ?_⟩
  split at hq
  · obtain ⟨v, rfl, p1⟩ := reps_one p
    obtain ⟨a, xs, rfl, h1, h2⟩ := rep_lst_of p1
    exact ⟨a, rfl, ⟨xs, r'.gh _ _ h1⟩, k _ ρ' G' H' _ hq z kp r' (ite_ok h1 h2)⟩
  · exact hq.elim

noncomputable def mMove (i : Nat) : ME := fun ρ q => match ρ[i]? with
  | some (some d) => q d (ρ.set i none)
  | _ => False
end

inductive AK where
  | s | m (i : Nat) | t
noncomputable def AK.isM : AK → Bool
  | .s => false
  | _ => true

noncomputable def ArgsK (G : Hp) (σ : St) : List AK → List D → List V → List (D × V) → Prop
  | [], [], [], [] => True
  | .s :: ks, d :: ds, v :: vs, T => Rep G d v ∧ ArgsK G σ ks ds vs T
  | .m i :: ks, _ :: ds, v :: vs, T => σ[i]? = some (some v) ∧ ArgsK G σ ks ds vs T
  | .t :: ks, d :: ds, v :: vs, x :: T => x = (d, v) ∧ ArgsK G σ ks ds vs T
  | _, _, _, _ => False
noncomputable def SAk (ow : List Bool) (ks : List AK) (t : TA) (m : MA) : Prop := ∀ (C : Ctx) (G : Hp) (ρ : DSt) (σ : St) (H : Hp) (pd : List (D × V)) (q : List D → DSt → Prop) (Q : List V → Hp → Prop), R C ow G ρ σ H pd → m ρ q →
  (∀ ds ρ' vs T G' H', q ds ρ' → Same G G' → Kp ow ρ ρ' → R C ow G' ρ' σ H' (T.reverse ++ pd) → ArgsK G' σ ks ds vs T → Q vs H') → t σ H Q
structure QAk (X : Cx) (ow : List Bool) (ks : List AK) (es : List Expr) (m : MA) : Prop where
  ex : ∃ t, PA X es t ∧ SAk ow ks t m
section
variable {X : Cx} {ow : List Bool} {a b c e tg : Expr} {ma mb mc : ME} {pos : Pos} {mr : MA} {es : List Expr} {ks : List AK}
theorem qk_nil : QAk X ow [] [] mNil := ⟨_, pa_nil, fun C G ρ σ H pd q Q r h k => k [] ρ [] [] G H h (Same.refl _) Kp.refl r trivial⟩
theorem qk_s (ha : QE X ow e ma) (hr : QAk X ow ks es mr) (hs : starEach (e :: es) X.env = (false, eval e X.env) :: starEach es X.env := by rfl) : QAk X ow (.s :: ks) (e :: es) (mCons ma mr) := by
  obtain ⟨t, p, s⟩ := ha; obtain ⟨t2, p2, s2⟩ := hr
  refine ⟨_, pa_cons p p2 hs, fun C G ρ σ H pd q Q r hm k => s C G ρ σ H pd _ _ r hm fun d ρ' v G' H' hq z kp r' p => ?_⟩
  exact s2 C G' ρ' σ H' pd _ _ r' hq fun ds ρ2 vs T G2 H2 hq2 z2 kp2 r2 p2 => k (d :: ds) ρ2 (v :: vs) T G2 H2 hq2 (z.trans z2) (kp.trans kp2) r2 ⟨Rep.mono z2 _ _ p, p2⟩
theorem qk_t (ha : QF X ow e ma) (hr : QAk X ow ks es mr) (hs : starEach (e :: es) X.env = (false, eval e X.env) :: starEach es X.env := by rfl) : QAk X ow (.t :: ks) (e :: es) (mCons ma mr) := by
  obtain ⟨t, p, s⟩ := ha; obtain ⟨t2, p2, s2⟩ := hr
  refine ⟨_, pa_cons p p2 hs, fun C G ρ σ H pd q Q r hm k => s C G ρ σ H pd _ _ r hm fun d ρ' v G' H' hq z kp r' => ?_⟩
  exact s2 C G' ρ' σ H' _ _ _ r' hq fun ds ρ2 vs T G2 H2 hq2 z2 kp2 r2 p2 => k (d :: ds) ρ2 (v :: vs) ((d, v) :: T) G2 H2 hq2 (z.trans z2) (kp.trans kp2) (by simpa using r2) ⟨rfl, p2⟩

noncomputable def mConsM (i : Nat) (r : MA) : MA := fun ρ q => match ρ[i]? with
  | some (some _) => r ρ fun ds ρ2 => q (.non :: ds) ρ2
  | _ => False
theorem qk_m (i : Nat) {x : Str} (hr : QAk X ow ks es mr) (hN : X.N[i]? = some x := by rfl) (hv : Vis X.env.scope x := by first | exact Or.inl rfl | exact Or.inr (Or.inl rfl) | exact Or.inr (Or.inr rfl)) (hd : (x == ("__debug__" : Str)) = false := by decide)
    (hcd : (x == ("__classdict__" : Str)) = false := by decide) (hs : starEach (.Name x pos :: es) X.env = (false, eval (.Name x pos) X.env) :: starEach es X.env := by rfl) : QAk X ow (.m i :: ks) (.Name x pos :: es) (mConsM i mr) := by
  obtain ⟨t2, p2, s2⟩ := hr
  refine ⟨_, pa_cons (pe_var hN hv hd hcd) p2 hs, fun C G ρ σ H pd q Q r hm k => ?_⟩
  unfold mConsM at hm
  split at hm
  · rename_i d e
    obtain ⟨O, ro⟩ := r
    obtain ⟨v, h1, _⟩ := ro.sl i d e
    exact ⟨v, h1, s2 C G ρ σ H pd _ _ ⟨O, ro⟩ hm fun ds ρ2 vs T G2 H2 hq2 z2 kp2 r2 p2 => k (.non :: ds) ρ2 (v :: vs) T G2 H2 hq2 z2 kp2 r2 ⟨h1, p2⟩⟩
  · exact hm.elim
noncomputable def fillA : List AK → List D → DSt → Option (List D)
  | [], [], _ => some []
  | .s :: ks, d :: ds, ρ => (fillA ks ds ρ).map (d :: ·)
  | .t :: ks, d :: ds, ρ => (fillA ks ds ρ).map (d :: ·)
  | .m i :: ks, _ :: ds, ρ => match ρ[i]? with
    | some (some d) => (fillA ks ds ρ).map (d :: ·)
    | _ => none
  | _, _, _ => none

noncomputable def lbs : List AK → Nat → List (Option Nat)
  | [], _ => []
  | .s :: ks, r => none :: lbs ks r
  | .m i :: ks, r => some (2 * i) :: lbs ks r
  | .t :: ks, r => some (2 * r + 1) :: lbs ks (r + 1)
noncomputable def slotsOf : List AK → List Nat
  | [] => []
  | .m i :: ks => i :: slotsOf ks
  | _ :: ks => slotsOf ks
noncomputable def fnd (l : Nat) : List (Option Nat) → Nat → Option Nat
  | [], _ => none
  | x :: xs, k => if x = some l then some k else fnd l xs (k + 1)
theorem fnd_of {l : Nat} : ∀ {xs : List (Option Nat)} {k j : Nat}, fnd l xs k = some j → ∃ i, j = k + i ∧ xs[i]? = some (some l)
  | [], _, _, h => by cases h
  | x :: xs, k, j, h => by
    unfold fnd at h
    split at h
    · rename_i c; cases h; exact ⟨0, rfl, by simp [c]⟩
    · obtain ⟨i, rfl, e⟩ := fnd_of h; exact ⟨i + 1, by omega, by simpa using e⟩
theorem fnd_none {l : Nat} : ∀ {xs : List (Option Nat)} {k : Nat}, (∀ i : Nat, xs[i]? ≠ some (some l)) → fnd l xs k = none
  | [], _, _ => rfl
  | x :: xs, k, h => by
    unfold fnd
    rw [if_neg (fun c => h 0 (by simp [c]))]
    exact fnd_none fun i => by simpa using h (i + 1)
theorem fnd_at {l : Nat} : ∀ {xs : List (Option Nat)} {k i : Nat}, (∀ (i j : Nat) (l : Nat), xs[i]? = some (some l) → xs[j]? = some (some l) → i = j) → xs[i]? = some (some l) → fnd l xs k = some (k + i)
  | [], _, _, _, h => by simp at h
  | x :: xs, k, i, u, h => by
    unfold fnd
    by_cases c : x = some l
    · rw [if_pos c]
      have := u 0 i l (by simp [c]) h
      subst this; rfl
    · rw [if_neg c]
      cases i with
      | zero => simp at h; exact absurd h c
      | succ i =>
        have := fnd_at (k := k + 1) (i := i) (fun i j l a b => by have := u (i + 1) (j + 1) l (by simpa using a) (by simpa using b); omega) (by simpa using h)
        rw [this]; congr 1; omega
theorem lbs_odd : ∀ {ks : List AK} {r : Nat} {i l : Nat}, (lbs ks r)[i]? = some (some l) → (∃ j ∈ slotsOf ks, l = 2 * j) ∨ ∃ j, r ≤ j ∧ l = 2 * j + 1
  | [], _, _, _, h => by simp [lbs] at h
  | .s :: ks, r, 0, l, h => by simp [lbs] at h
  | .s :: ks, r, i + 1, l, h => by simp only [lbs, List.getElem?_cons_succ] at h; have := lbs_odd (ks := ks) h; simpa [slotsOf] using this
  | .m j :: ks, r, 0, l, h => by simp [lbs] at h; exact .inl ⟨j, by simp [slotsOf], h.symm⟩
  | .m j :: ks, r, i + 1, l, h => by
    simp only [lbs, List.getElem?_cons_succ] at h
    rcases lbs_odd h with ⟨z, h1, h2⟩ | h
    · exact .inl ⟨z, by simp [slotsOf, h1], h2⟩
    · exact .inr h
  | .t :: ks, r, 0, l, h => by simp [lbs] at h; exact .inr ⟨r, Nat.le_refl _, h.symm⟩
  | .t :: ks, r, i + 1, l, h => by
    simp only [lbs, List.getElem?_cons_succ] at h
    rcases lbs_odd h with ⟨z, h1, h2⟩ | ⟨j, h1, h2⟩
    · exact .inl ⟨z, by simpa [slotsOf] using h1, h2⟩
    · exact .inr ⟨j, by omega, h2⟩
theorem lbs_uniq : ∀ {ks : List AK} {r : Nat}, (slotsOf ks).Nodup → ∀ (i j l : Nat), (lbs ks r)[i]? = some (some l) → (lbs ks r)[j]? = some (some l) → i = j
  | [], _, _, i, j, l, h, _ => by simp [lbs] at h
  | .s :: ks, r, nd, 0, j, l, h, _ => by simp [lbs] at h
  | .s :: ks, r, nd, i + 1, 0, l, _, h => by simp [lbs] at h
  | .s :: ks, r, nd, i + 1, j + 1, l, h, h2 => by simp only [lbs, List.getElem?_cons_succ] at h h2; rw [lbs_uniq (ks := ks) (by simpa [slotsOf] using nd) i j l h h2]
  | .m a :: ks, r, nd, 0, 0, l, _, _ => rfl
  | .m a :: ks, r, nd, 0, j + 1, l, h, h2 => by
    simp only [lbs, List.getElem?_cons_succ] at h2; simp [lbs] at h
    simp only [slotsOf, List.nodup_cons] at nd
    rcases lbs_odd h2 with ⟨z, h3, h4⟩ | ⟨z, h3, h4⟩
    · exact absurd h3 (by rw [show z = a by omega]; exact nd.1)
    · omega
  | .m a :: ks, r, nd, i + 1, 0, l, h2, h => by
    simp only [lbs, List.getElem?_cons_succ] at h2; simp [lbs] at h
    simp only [slotsOf, List.nodup_cons] at nd
    rcases lbs_odd h2 with ⟨z, h3, h4⟩ | ⟨z, h3, h4⟩
    · exact absurd h3 (by rw [show z = a by omega]; exact nd.1)
    · omega
  | .m a :: ks, r, nd, i + 1, j + 1, l, h, h2 => by
    simp only [slotsOf, List.nodup_cons] at nd
    simp only [lbs, List.getElem?_cons_succ] at h h2; rw [lbs_uniq (ks := ks) nd.2 i j l h h2]
  | .t :: ks, r, nd, 0, 0, l, _, _ => rfl
  | .t :: ks, r, nd, 0, j + 1, l, h, h2 => by
    simp only [lbs, List.getElem?_cons_succ] at h2; simp [lbs] at h
    rcases lbs_odd h2 with ⟨z, h3, h4⟩ | ⟨z, h3, h4⟩ <;> omega
  | .t :: ks, r, nd, i + 1, 0, l, h2, h => by
    simp only [lbs, List.getElem?_cons_succ] at h2; simp [lbs] at h
    rcases lbs_odd h2 with ⟨z, h3, h4⟩ | ⟨z, h3, h4⟩ <;> omega
  | .t :: ks, r, nd, i + 1, j + 1, l, h, h2 => by simp only [lbs, List.getElem?_cons_succ] at h h2; rw [lbs_uniq (ks := ks) (by simpa [slotsOf] using nd) i j l h h2]
end
end L2

set_option Elab.async false
set_option linter.all false
set_option maxRecDepth 100000
set_option maxHeartbeats 1000000
namespace L2
open PySem PySem.Spec PyProof.Rows
theorem pend_tail {G H : Hp} {O : Own} : ∀ {T pd : List (D × V)}, Pend G H O (T ++ pd) → Pend G H O pd
  | [], _, h => h
  | _ :: T, _, h => pend_tail (T := T) h.2
theorem pend_at {G H : Hp} {O : Own} : ∀ {T pd : List (D × V)} {j : Nat} {x : D × V}, Pend G H O (T.reverse ++ pd) → T[j]? = some x → Sep G H O (2 * (pd.length + j) + 1) x.1 [] x.2
  | [], _, _, _, _, e => by simp at e
  | y :: T, pd, j, x, h, e => by
    have h' : Pend G H O (T.reverse ++ (y :: pd)) := by simpa using h
    cases j with
    | zero => simp at e; subst e; exact (pend_tail h').1
    | succ j =>
      have := pend_at (j := j) h' (by simpa using e)
      rw [show pd.length + (j + 1) = (y :: pd).length + j by simp; omega]
      exact this
theorem args_at {G H : Hp} {O : Own} {σ : St} {ρ : DSt} : ∀ {ks : List AK} {ds ds' : List D} {vs : List V} {T : List (D × V)} {r : Nat}, ArgsK G σ ks ds vs T → fillA ks ds ρ = some ds' →
    (∀ (j : Nat) x, T[j]? = some x → Sep G H O (2 * (r + j) + 1) x.1 [] x.2) → (∀ i ∈ slotsOf ks, ∀ d, ρ[i]? = some (some d) → ∃ v, σ[i]? = some (some v) ∧ Sep G H O (2 * i) d [] v) →
    ds'.length = vs.length ∧ vs.length = ks.length ∧ ∀ (k : Nat) d, ds'[k]? = some d → ∃ v, vs[k]? = some v ∧ ((∃ l, (lbs ks r)[k]? = some (some l) ∧ (ks.map AK.isM)[k]? = some true ∧ Sep G H O l d [] v) ∨ ((ks.map AK.isM)[k]? = some false ∧ Rep G d v))
  | [], [], ds', [], [], r, _, hf, _, _ => by simp [fillA] at hf; subst hf; exact ⟨rfl, rfl, fun k d e => by simp at e⟩
  | .s :: ks, d :: ds, ds', v :: vs, T, r, h, hf, hT, hS => by
    rw [fillA] at hf
    cases e : fillA ks ds ρ with
    | none => rw [e] at hf; cases hf
    | some es =>
      rw [e] at hf; cases hf
      obtain ⟨l1, l2, ih⟩ := args_at (ks := ks) h.2 e hT (fun i hi => hS i (by simpa [slotsOf] using hi))
      refine ⟨by simp [l1], by simp [l2], fun k d' e' => ?_⟩
      cases k with
      | zero => simp at e'; subst e'; exact ⟨v, rfl, .inr ⟨rfl, h.1⟩⟩
      | succ k => obtain ⟨u, g1, g2⟩ := ih k d' (by simpa using e'); exact ⟨u, by simpa using g1, by simpa [lbs] using g2⟩
  | .m i :: ks, d :: ds, ds', v :: vs, T, r, h, hf, hT, hS => by
    rw [fillA] at hf
    cases e0 : ρ[i]? with
    | none => rw [e0] at hf; cases hf
    | some o =>
      cases o with
      | none => rw [e0] at hf; cases hf
      | some d0 =>
        rw [e0] at hf
        dsimp only at hf
        cases e : fillA ks ds ρ with
        | none => rw [e] at hf; cases hf
        | some es =>
          rw [e] at hf; cases hf
          obtain ⟨l1, l2, ih⟩ := args_at (ks := ks) h.2 e hT (fun i hi => hS i (by simp [slotsOf, hi]))
          refine ⟨by simp [l1], by simp [l2], fun k d' e' => ?_⟩
          cases k with
          | zero =>
            simp at e'; subst e'
            obtain ⟨u, g1, g2⟩ := hS i (by simp [slotsOf]) d0 e0
            rw [h.1] at g1; cases g1
            exact ⟨v, rfl, .inl ⟨2 * i, by simp [lbs], rfl, g2⟩⟩
          | succ k => obtain ⟨u, g1, g2⟩ := ih k d' (by simpa using e'); exact ⟨u, by simpa using g1, by simpa [lbs] using g2⟩
  | .t :: ks, d :: ds, ds', v :: vs, x :: T, r, h, hf, hT, hS => by
    rw [fillA] at hf
    cases e : fillA ks ds ρ with
    | none => rw [e] at hf; cases hf
    | some es =>
      rw [e] at hf; cases hf
      obtain ⟨l1, l2, ih⟩ := args_at (ks := ks) (r := r + 1) h.2 e (fun j x e => by rw [show r + 1 + j = r + (j + 1) by omega]; exact hT (j + 1) x (by simpa using e)) (fun i hi => hS i (by simpa [slotsOf] using hi))
      refine ⟨by simp [l1], by simp [l2], fun k d' e' => ?_⟩
      cases k with
      | zero =>
        simp at e'; subst e'
        have := hT 0 x rfl
        rw [h.1] at this
        exact ⟨v, rfl, .inl ⟨2 * r + 1, by simp [lbs], rfl, this⟩⟩
      | succ k => obtain ⟨u, g1, g2⟩ := ih k d' (by simpa using e'); exact ⟨u, by simpa using g1, by simpa [lbs] using g2⟩
  | [], _ :: _, _, _, _, _, h, _, _, _ => h.elim
  | [], [], _, _ :: _, _, _, h, _, _, _ => h.elim
  | [], [], _, [], _ :: _, _, h, _, _, _ => h.elim
  | .s :: _, [], _, _, _, _, h, _, _, _ => h.elim
  | .s :: _, _ :: _, _, [], _, _, h, _, _, _ => h.elim
  | .m _ :: _, [], _, _, _, _, h, _, _, _ => h.elim
  | .m _ :: _, _ :: _, _, [], _, _, h, _, _, _ => h.elim
  | .t :: _, [], _, _, _, _, h, _, _, _ => h.elim
  | .t :: _, _ :: _, _, [], _, _, h, _, _, _ => h.elim
  | .t :: _, _ :: _, _, _ :: _, [], _, h, _, _, _ => h.elim
theorem args_slot {G : Hp} {σ : St} : ∀ {ks : List AK} {ds : List D} {vs : List V} {T : List (D × V)} {k i : Nat}, ArgsK G σ ks ds vs T → ks[k]? = some (.m i) → ∃ v, vs[k]? = some v ∧ σ[i]? = some (some v)
  | [], _, _, _, k, i, _, e => by simp at e
  | .s :: ks, d :: ds, v :: vs, T, 0, i, h, e => by simp at e
  | .s :: ks, d :: ds, v :: vs, T, k + 1, i, h, e => by obtain ⟨u, g1, g2⟩ := args_slot (k := k) h.2 (by simpa using e); exact ⟨u, by simpa using g1, g2⟩
  | .m j :: ks, d :: ds, v :: vs, T, 0, i, h, e => by simp at e; subst e; exact ⟨v, rfl, h.1⟩
  | .m j :: ks, d :: ds, v :: vs, T, k + 1, i, h, e => by obtain ⟨u, g1, g2⟩ := args_slot (k := k) h.2 (by simpa using e); exact ⟨u, by simpa using g1, g2⟩
  | .t :: ks, d :: ds, v :: vs, x :: T, 0, i, h, e => by simp at e
  | .t :: ks, d :: ds, v :: vs, x :: T, k + 1, i, h, e => by obtain ⟨u, g1, g2⟩ := args_slot (k := k) h.2 (by simpa using e); exact ⟨u, by simpa using g1, g2⟩
  | .s :: _, [], _, _, _, _, h, _ => h.elim
  | .s :: _, _ :: _, [], _, _, _, h, _ => h.elim
  | .m _ :: _, [], _, _, _, _, h, _ => h.elim
  | .m _ :: _, _ :: _, [], _, _, _, h, _ => h.elim
  | .t :: _, [], _, _, _, _, h, _ => h.elim
  | .t :: _, _ :: _, [], _, _, _, h, _ => h.elim
  | .t :: _, _ :: _, _ :: _, [], _, _, h, _ => h.elim

noncomputable def putR : List AK → DSt → DSt → DSt
  | .m i :: ks, x :: ρ2, ρ => putR ks ρ2 (ρ.set i x)
  | _ :: ks, _ :: ρ2, ρ => putR ks ρ2 ρ
  | _, _, ρ => ρ
noncomputable def putK : List AK → DSt → DSt → DSt
  | .s :: ks, os, ρ => putK ks os ρ
  | .m i :: ks, o :: os, ρ => putK ks os (ρ.set i o)
  | .t :: ks, _ :: os, ρ => putK ks os ρ
  | _, _, ρ => ρ
theorem putK_eq : ∀ {ks : List AK} {ρ2 ρ : DSt}, ρ2.length = ks.length → putK ks (mus (ks.map AK.isM) ρ2) ρ = putR ks ρ2 ρ
  | [], [], ρ, _ => rfl
  | .s :: ks, x :: ρ2, ρ, h => by simp only [List.map, AK.isM, mus, putK, putR]; exact putK_eq (by simpa using h)
  | .m i :: ks, x :: ρ2, ρ, h => by simp only [List.map, AK.isM, mus, putK, putR]; exact putK_eq (by simpa using h)
  | .t :: ks, x :: ρ2, ρ, h => by simp only [List.map, AK.isM, mus, putK, putR]; exact putK_eq (by simpa using h)
theorem putR_len : ∀ {ks : List AK} {ρ2 ρ : DSt}, (putR ks ρ2 ρ).length = ρ.length
  | [], _, _ => by simp [putR]
  | .s :: ks, [], _ => by simp [putR]
  | .m i :: ks, [], _ => by simp [putR]
  | .t :: ks, [], _ => by simp [putR]
  | .s :: ks, x :: ρ2, ρ => by simp only [putR]; exact putR_len
  | .m i :: ks, x :: ρ2, ρ => by simp only [putR]; rw [putR_len]; simp
  | .t :: ks, x :: ρ2, ρ => by simp only [putR]; exact putR_len
theorem putR_off : ∀ {ks : List AK} {ρ2 ρ : DSt} {i : Nat}, i ∉ slotsOf ks → (putR ks ρ2 ρ)[i]? = ρ[i]?
  | [], _, _, _, _ => by simp [putR]
  | .s :: ks, [], _, _, _ => by simp [putR]
  | .m i :: ks, [], _, _, _ => by simp [putR]
  | .t :: ks, [], _, _, _ => by simp [putR]
  | .s :: ks, x :: ρ2, ρ, i, h => by simp only [putR]; exact putR_off (by simpa [slotsOf] using h)
  | .t :: ks, x :: ρ2, ρ, i, h => by simp only [putR]; exact putR_off (by simpa [slotsOf] using h)
  | .m j :: ks, x :: ρ2, ρ, i, h => by
    simp only [putR]
    simp only [slotsOf, List.mem_cons, not_or] at h
    rw [putR_off h.2, List.getElem?_set_ne (Ne.symm h.1)]
theorem putR_at : ∀ {ks : List AK} {ρ2 ρ : DSt} {i : Nat} {d : D}, (putR ks ρ2 ρ)[i]? = some (some d) → ρ2.length = ks.length → (i ∉ slotsOf ks ∧ ρ[i]? = some (some d)) ∨ ∃ k : Nat, ks[k]? = some (.m i) ∧ ρ2[k]? = some (some d)
  | [], [], ρ, i, d, h, _ => .inl ⟨by simp [slotsOf], by simpa [putR] using h⟩
  | .s :: ks, x :: ρ2, ρ, i, d, h, hl => by
    simp only [putR] at h
    rcases putR_at h (by simpa using hl) with ⟨h1, h2⟩ | ⟨k, h1, h2⟩
    · exact .inl ⟨by simpa [slotsOf] using h1, h2⟩
    · exact .inr ⟨k + 1, by simpa using h1, by simpa using h2⟩
  | .t :: ks, x :: ρ2, ρ, i, d, h, hl => by
    simp only [putR] at h
    rcases putR_at h (by simpa using hl) with ⟨h1, h2⟩ | ⟨k, h1, h2⟩
    · exact .inl ⟨by simpa [slotsOf] using h1, h2⟩
    · exact .inr ⟨k + 1, by simpa using h1, by simpa using h2⟩
  | .m j :: ks, x :: ρ2, ρ, i, d, h, hl => by
    simp only [putR] at h
    rcases putR_at h (by simpa using hl) with ⟨h1, h2⟩ | ⟨k, h1, h2⟩
    · rcases set_at h2 with ⟨rfl, rfl⟩ | ⟨h3, h4⟩
      · exact .inr ⟨0, rfl, rfl⟩
      · exact .inl ⟨by simp [slotsOf, h1, h3], h4⟩
    · exact .inr ⟨k + 1, by simpa using h1, by simpa using h2⟩
theorem lbs_m : ∀ {ks : List AK} {r k i : Nat}, ks[k]? = some (.m i) → (lbs ks r)[k]? = some (some (2 * i))
  | [], _, _, _, e => by simp at e
  | .s :: ks, r, 0, i, e => by simp at e
  | .s :: ks, r, k + 1, i, e => by simp only [lbs, List.getElem?_cons_succ]; exact lbs_m (by simpa using e)
  | .m j :: ks, r, 0, i, e => by simp at e; subst e; simp [lbs]
  | .m j :: ks, r, k + 1, i, e => by simp only [lbs, List.getElem?_cons_succ]; exact lbs_m (by simpa using e)
  | .t :: ks, r, 0, i, e => by simp at e
  | .t :: ks, r, k + 1, i, e => by simp only [lbs, List.getElem?_cons_succ]; exact lbs_m (by simpa using e)
theorem lbs_isM : ∀ {ks : List AK} {r k l : Nat}, (lbs ks r)[k]? = some (some l) → (ks.map AK.isM)[k]? = some true
  | [], _, _, _, e => by simp [lbs] at e
  | .s :: ks, r, 0, i, e => by simp [lbs] at e
  | .s :: ks, r, k + 1, i, e => by simp only [lbs, List.getElem?_cons_succ] at e; simp only [List.map, List.getElem?_cons_succ]; exact lbs_isM e
  | .m j :: ks, r, 0, i, e => rfl
  | .m j :: ks, r, k + 1, i, e => by simp only [lbs, List.getElem?_cons_succ] at e; simp only [List.map, List.getElem?_cons_succ]; exact lbs_isM e
  | .t :: ks, r, 0, i, e => rfl
  | .t :: ks, r, k + 1, i, e => by simp only [lbs, List.getElem?_cons_succ] at e; simp only [List.map, List.getElem?_cons_succ]; exact lbs_isM e
theorem slot_of {ks : List AK} {k i : Nat} (h : ks[k]? = some (.m i)) : i ∈ slotsOf ks := by
  induction ks generalizing k with
  | nil => simp at h
  | cons x ks ih =>
    cases k with
    | zero => simp at h; subst h; simp [slotsOf]
    | succ k => have := ih (by simpa using h); cases x <;> simp [slotsOf, this]

theorem run_call {C : Ctx} {ow : List Bool} {G : Hp} {ρ : DSt} {σ : St} {H : Hp} {pd T : List (D × V)} {ks : List AK} {ds ds' : List D} {vs : List V} {fr : Bool} {sd : SpD} {q : D → DSt → Prop} {Q : VK} {E : XK}
    (hn : C.np ≤ pd.length) (r : R C ow G ρ σ H (T.reverse ++ pd)) (ha : ArgsK G σ ks ds vs T) (hf : fillA ks ds ρ = some ds') (nd : (slotsOf ks).Nodup) (hw : ∀ i ∈ slotsOf ks, ow[i]? = some true)
    (h : sd ds' fun d os => q d (putK ks os ρ))
    (k : ∀ d ρ' v G' H', q d ρ' → Same G G' → Kp ow ρ ρ' → (if fr = true then R C ow G' ρ' σ H' ((d, v) :: pd) else R C ow G' ρ' σ H' pd ∧ Rep G' d v) → Q v H') : spOf (ks.map AK.isM) fr sd vs H Q E := by
  obtain ⟨O, ro⟩ := r
  have pn := ro.pn
  obtain ⟨l1, l2, hat⟩ := args_at (O := O) (H := H) (r := pd.length) ha hf (fun j x e => pend_at pn e) (fun i hi d e => by
    obtain ⟨v, h1, h2⟩ := ro.sl i d e; rw [if_pos (hw i hi)] at h2; exact ⟨v, h1, h2⟩)
  let lb := lbs ks pd.length
  let fin : Nat → Option Nat := fun l => (fnd l lb 0).map (2 * ·)
  let fbk : Nat → Option Nat := fun l => if l = 1 then some (2 * pd.length + 1) else if l % 2 = 0 then (match lb[l / 2]? with | some o => o | none => none) else none
  have uq := lbs_uniq (ks := ks) (r := pd.length) nd
  have fin_at : ∀ (i l : Nat), lb[i]? = some (some l) → fin l = some (2 * i) := fun i l e => by
    show (fnd l lb 0).map _ = _
    rw [fnd_at uq e]; simp
  have fin_of : ∀ l l', fin l = some l' → ∃ i, l' = 2 * i ∧ lb[i]? = some (some l) := fun l l' e => by
    change (fnd l lb 0).map _ = _ at e
    cases z : fnd l lb 0 with
    | none => rw [z] at e; cases e
    | some j => rw [z] at e; cases e; obtain ⟨i, rfl, e2⟩ := fnd_of z; exact ⟨i, by show 2 * (0 + i) = 2 * i; omega, e2⟩
  have fin_none : ∀ l, (∀ i : Nat, lb[i]? ≠ some (some l)) → fin l = none := fun l e => by
    show (fnd l lb 0).map _ = _
    rw [fnd_none e]; rfl
  have ri := ro.into (mu := ks.map AK.isM) (fin := fin) (ds := ds') (vs := vs) l1 (fun j d e => by
    obtain ⟨v, h1, h2⟩ := hat j d e
    refine ⟨v, h1, ?_⟩
    rcases h2 with ⟨l, h2, h3, h4⟩ | ⟨h2, h3⟩
    · rw [if_pos h3]; exact ⟨l, h4, fin_at j l h2⟩
    · rw [if_neg (by rw [h2]; decide)]; exact h3) (fun l l' e => by
    obtain ⟨i, rfl, e2⟩ := fin_of l l' e
    exact ⟨i, rfl, lbs_isM e2, by have := (List.getElem?_eq_some_iff.mp (lbs_isM e2)).1; rw [List.length_map] at this; omega⟩)
  refine ⟨_, G, ds', fun d os => q d (putK ks os ρ), rfl, rfl, ⟨_, ri⟩, h, by rw [List.length_map, l1, l2], ?_⟩
  intro d ρ2 σ2 v G2 H2 hq z hl hr
  rw [List.length_map] at hl
  rw [putK_eq hl] at hq
  have out : ∀ (pd2 pd3 : List (D × V)) (O2 : Own), RO ⟨G, H, ownM fin O, msV (ks.map AK.isM) vs, 0⟩ (ks.map AK.isM) G2 ρ2 σ2 H2 pd2 O2 → C.np ≤ pd3.length →
      (∀ (O3 : Own), (∀ a l π, O a = some (l, π) → fin l = none → O3 a = some (l, π) ∧ H2 a = H a) → (∀ a l l' π, O2 a = some (l', π) → fbk l' = some l → O3 a = some (l, π)) → TSame G G2 → Pend G2 H2 O3 pd3) →
      RO C ow G2 (putR ks ρ2 ρ) σ H2 pd3 (ownB fin fbk O O2) := fun pd2 pd3 O2 r2 hn3 hP => by
    refine ro.out (vs := vs) r2 ?_ (by rw [putR_len]; exact ro.len) hn3 ?_ ?_ hP
    · intro l0 l' l e1 e2
      obtain ⟨i, rfl, e3⟩ := fin_of l0 l' e1
      change (if 2 * i = 1 then _ else if 2 * i % 2 = 0 then _ else _) = _ at e2
      rw [if_neg (by omega), if_pos (by omega), show 2 * i / 2 = i by omega, e3] at e2
      exact (Option.some.inj e2).symm
    · intro i d c e
      rcases putR_at e hl with ⟨_, h2⟩ | ⟨k, h1, _⟩
      · exact h2
      · exact absurd (hw i (slot_of h1)) c
    · intro i d c e
      rcases putR_at e hl with ⟨h1, h2⟩ | ⟨j, h1, h2⟩
      · refine .inl ⟨fin_none _ fun j e => ?_, h2⟩
        rcases lbs_odd e with ⟨z, h3, h4⟩ | ⟨z, h3, h4⟩
        · exact h1 (by rw [show i = z by omega]; exact h3)
        · omega
      · obtain ⟨u, g1, g2⟩ := args_slot ha h1
        have im : (ks.map AK.isM)[j]? = some true := by rw [List.getElem?_map, h1]; rfl
        refine .inr ⟨j, u, ?_, im, h2, g2, r2.mp j u (msV_at im g1)⟩
        show (if 2 * j = 1 then _ else if 2 * j % 2 = 0 then _ else _) = _
        rw [if_neg (by omega), if_pos (by omega), show 2 * j / 2 = j by omega, lbs_m h1]
  have pdk : ∀ (O3 : Own), (∀ a l π, O a = some (l, π) → fin l = none → O3 a = some (l, π) ∧ H2 a = H a) → TSame G G2 → Pend G2 H2 O3 pd := fun O3 h1 ts =>
    Pend.keep ts (fun a j π hj e => h1 a _ _ e (fin_none _ fun i e => by
      rcases lbs_odd e with ⟨z, h3, h4⟩ | ⟨z, h3, h4⟩ <;> omega)) (pend_tail (T := T.reverse) pn)
  have kp : Kp ow ρ (putR ks ρ2 ρ) := fun j hj => putR_off fun hs => hj (hw j hs)
  refine k d (putR ks ρ2 ρ) v G2 H2 hq z kp ?_
  unfold Ret at hr
  split at hr
  · rename_i c
    rw [if_pos c]
    obtain ⟨O2, r2⟩ := hr
    refine ⟨_, out _ ((d, v) :: pd) O2 r2 (Nat.le_succ_of_le hn) fun O3 h1 h2 ts => ⟨?_, pdk O3 h1 ts⟩⟩
    exact r2.pn.1.keep (fun _ _ z => z) fun a τ e => ⟨h2 a _ _ _ e (by show (if 2 * 0 + 1 = 1 then _ else _) = _; rw [if_pos rfl]), rfl⟩
  · rename_i c
    rw [if_neg c]
    obtain ⟨⟨O2, r2⟩, p⟩ := hr
    exact ⟨⟨_, out _ pd O2 r2 hn fun O3 h1 h2 ts => pdk O3 h1 ts⟩, p⟩
end L2

set_option Elab.async false
set_option linter.all false
set_option maxRecDepth 100000
set_option maxHeartbeats 1000000
namespace L2
open PySem PySem.Spec PyProof.Rows
section
variable {X : Cx} {ow : List Bool} {a b c e tg : Expr} {ma mb mc : ME} {pos p' : Pos} {mr : MA} {es : List Expr} {ks : List AK} {x : Str}
noncomputable def mCall (ks : List AK) (sd : SpD) (m : MA) : ME := fun ρ q => m ρ fun ds ρ1 => match fillA ks ds ρ1 with
  | some ds' => sd ds' fun d os => q d (putK ks os ρ1)
  | none => False
theorem qe_call {k : Nat} {f : Addr} {fd : FuncData} {ps : List Str} {mu : List Bool} {sd : SpD} (F : FnOk X.prog X.w X.K X.mg X.base CX0 k f fd ps (spOf mu false sd)) (hr : Room k X.A) (hg : Gl X x) (hm : X.mg x = some (.ref f)) (hk : PySem.W.keepIn X.K (.ref f) = true) (hb : Binds X.K fd ps [])
    (ha : QAk X ow ks (e :: es) mr) (hmu : mu = ks.map AK.isM := by rfl) (nd : (slotsOf ks).Nodup := by decide) (hw : ∀ i ∈ slotsOf ks, ow[i]? = some true := by decide) (hdb : (x == ("__debug__" : Str)) = false := by decide)
    (he : starEach (e :: es) X.env = (false, eval e X.env) :: starEach es X.env := by rfl) (hpl : (backTo pos (starEach es X.env)).any (·.1) = false := by rfl) : QE X ow (.Call (.Name x p') (e :: es) [] pos) (mCall ks sd mr) := by
  obtain ⟨t, p, s⟩ := ha
  subst hmu
  refine ⟨_, pe_call F hr hg hm hk hb .nil pass0 p hdb he hpl, fun C G ρ σ H pd q Q r hm k => s C G ρ σ H pd _ _ r hm fun ds ρ' vs T G' H' hq z kp r' p => ?_⟩
  rw [List.append_nil]
  split at hq
  · rename_i ds' ef
    exact run_call (fr := false) r.np r' p ef nd hw hq fun d ρ2 v G2 H2 hq2 z2 kp2 h2 => by
      rw [if_neg (by decide)] at h2
      exact k d ρ2 v G2 H2 hq2 (z.trans z2) (kp.trans kp2) h2.1 h2.2
  · exact hq.elim
theorem qf_call {k : Nat} {f : Addr} {fd : FuncData} {ps : List Str} {mu : List Bool} {sd : SpD} (F : FnOk X.prog X.w X.K X.mg X.base CX0 k f fd ps (spOf mu true sd)) (hr : Room k X.A) (hg : Gl X x) (hm : X.mg x = some (.ref f)) (hk : PySem.W.keepIn X.K (.ref f) = true) (hb : Binds X.K fd ps [])
    (ha : QAk X ow ks (e :: es) mr) (hmu : mu = ks.map AK.isM := by rfl) (nd : (slotsOf ks).Nodup := by decide) (hw : ∀ i ∈ slotsOf ks, ow[i]? = some true := by decide) (hdb : (x == ("__debug__" : Str)) = false := by decide)
    (he : starEach (e :: es) X.env = (false, eval e X.env) :: starEach es X.env := by rfl) (hpl : (backTo pos (starEach es X.env)).any (·.1) = false := by rfl) : QF X ow (.Call (.Name x p') (e :: es) [] pos) (mCall ks sd mr) := by
  obtain ⟨t, p, s⟩ := ha
  subst hmu
  refine ⟨_, pe_call F hr hg hm hk hb .nil pass0 p hdb he hpl, fun C G ρ σ H pd q Q r hm k => s C G ρ σ H pd _ _ r hm fun ds ρ' vs T G' H' hq z kp r' p => ?_⟩
  rw [List.append_nil]
  split at hq
  · rename_i ds' ef
    exact run_call (fr := true) r.np r' p ef nd hw hq fun d ρ2 v G2 H2 hq2 z2 kp2 h2 => by
      rw [if_pos rfl] at h2
      exact k d ρ2 v G2 H2 hq2 (z.trans z2) (kp.trans kp2) h2
  · exact hq.elim
end

theorem RO.grow {C : Ctx} {mu ow : List Bool} {G : Hp} {ds : List D} {vs : List V} {H : Hp} {O : Own} (n : Nat) (h : RO C mu G (ds.map some) (vs.map some) H [] O) (ho : ∀ i : Nat, i < ds.length → ow[i]? = mu[i]?) :
    RO C ow G (ds.map some ++ List.replicate n none) (vs.map some ++ List.replicate n none) H [] O := by
  have hl : ds.length = vs.length := by simpa using h.len
  have up : ∀ {α : Type} {l : List α} {i : Nat} {d : α}, (l.map some ++ List.replicate n none)[i]? = some (some d) → i < l.length ∧ (l.map some)[i]? = some (some d) := fun {α l i d} e => by
    by_cases c : i < l.length
    · rw [List.getElem?_append_left (by simpa using c)] at e; exact ⟨c, e⟩
    · rw [List.getElem?_append_right (by simpa using c)] at e
      rw [List.getElem?_replicate] at e
      split at e <;> cases e
  refine ⟨by simp [hl], h.gh, h.g0, h.gn, h.og, h.cok, h.fr, h.al, ?_, ?_, h.pn, h.np⟩
  · intro i v e
    have := h.mp i v e
    rw [List.getElem?_append_left (lt_of_slot this)]; exact this
  · intro i d e
    obtain ⟨c, e1⟩ := up e
    obtain ⟨v, h1, h2⟩ := h.sl i d e1
    exact ⟨v, by rw [List.getElem?_append_left (lt_of_slot h1)]; exact h1, by rw [ho i c]; exact h2⟩
theorem RO.trim {C : Ctx} {mu ow : List Bool} {G : Hp} {ρ : DSt} {σ : St} {H : Hp} {pd : List (D × V)} {O : Own} (h : RO C ow G ρ σ H pd O) (hm : MuOk C mu) (ho : ∀ i : Nat, i < mu.length → ow[i]? = mu[i]?) :
    RO C mu G (padS mu.length ρ) (padS mu.length σ) H pd O := by
  refine ⟨by rw [padS_len, padS_len], h.gh, h.g0, h.gn, h.og, h.cok, h.fr, h.al, ?_, ?_, h.pn, h.np⟩
  · intro i v e
    exact padS_at (lt_of_slot' (hm i v e)) (h.mp i v e)
  · intro i d e
    obtain ⟨c, e1⟩ := padS_of e
    obtain ⟨v, h1, h2⟩ := h.sl i d e1
    exact ⟨v, padS_at c h1, by rw [← ho i c]; exact h2⟩
where
  lt_of_slot' {l : List Bool} {i : Nat} {x : Bool} (h : l[i]? = some x) : i < l.length := (List.getElem?_eq_some_iff.mp h).1
noncomputable def endsOf (mu : List Bool) (q : D → DSt → Prop) : EndsD := ⟨fun ρ => q .non (mus mu ρ), fun d ρ => q d (mus mu ρ), fun _ => False, fun _ => False⟩
theorem fnD {P : Program} {w : World} {K : PySem.W.Frag} {mg : Str → Option Value} {base : Heap} {x qual : Str} {st : Stmt} {f : Addr} {fd : FuncData} {N ps : List Str} {k : Nat} (F : Fun K x qual st f fd) (S : FnScope N ps (defScope st)) (M : Md) (sd : SpD)
    (hl : ∀ ds q, sd ds q → ds.length = ps.length) (ho : M.ow.take ps.length = M.mu) (hml : M.mu.length = ps.length)
    (hbody : ∀ (cdv : Value) (A : Around) (outer : List Env) (s : Shared) (H : Hp) (E : XK), Room k (A.deeper (envOfC qual (defScope st) s.heap.objs.size f cdv)) →
      ∃ m, QSs (cxOf CX0 P w K mg base N qual (defScope st) f cdv A outer s H E).nox M (defBody st) m ∧ ∀ ds q, sd ds q → m (endsOf M.mu q) (ds.map some ++ List.replicate (N.length - ps.length) none)) :
    FnOk P w K mg base CX0 (k + 1) f fd ps (spOf M.mu M.fr sd) := by
  have hov : ∀ i : Nat, i < M.mu.length → M.ow[i]? = M.mu[i]? := fun i hi => by rw [← ho, List.getElem?_take_of_lt (by omega)]
  have hlen : ∀ vs H Q E, spOf M.mu M.fr sd vs H Q E → vs.length = ps.length := fun vs H Q E ⟨C, G, ds, q, _, _, ⟨O, ro⟩, h1, _, _⟩ => by
    have := ro.len; simp at this; rw [← this]; exact hl ds q h1
  refine F.ok S hlen fun cdv A outer s H vs Q E hr hsp => ?_
  obtain ⟨m, ⟨t, p, ss⟩, hm⟩ := hbody cdv A outer s H E hr
  have hvl := hlen vs H Q E hsp
  obtain ⟨C, G, ds, q, hnp, hmu, ⟨O, ro⟩, hsd, hml2, kk⟩ := hsp
  refine ⟨t, p, ?_⟩
  have hmo : MuOk C M.mu := fun i v e => by rw [hmu] at e; exact (msV_of e).1
  have r0 : R C M.ow G (ds.map some ++ List.replicate (N.length - ps.length) none) (start N vs) H [] := by
    unfold start; rw [hvl]
    exact ⟨O, ro.grow _ fun i hi => hov i (by omega)⟩
  refine ss C G _ _ H (endsOf M.mu q) _ hmo hnp r0 (hm ds q hsd) ⟨?_, fun _ _ _ _ h => h.elim, fun _ _ _ _ h => h.elim, ?_⟩
  · intro ρ σ G' H' h z ⟨O', r'⟩
    refine kk .non (padS M.mu.length ρ) (padS M.mu.length σ) .non G' H' (by rw [padS_mus]; exact h) z (padS_len _ _) (R.non ⟨O', r'.trim hmo hov⟩)
  · intro d ρ σ v G' H' h z hr'
    refine kk d (padS M.mu.length ρ) (padS M.mu.length σ) v G' H' (by rw [padS_mus]; exact h) z (padS_len _ _) ?_
    unfold Ret at hr' ⊢
    split at hr'
    · rename_i c; rw [if_pos c]; obtain ⟨O', r'⟩ := hr'; exact ⟨O', r'.trim hmo hov⟩
    · rename_i c; rw [if_neg c]; obtain ⟨⟨O', r'⟩, p⟩ := hr'; exact ⟨⟨O', r'.trim hmo hov⟩, p⟩
end L2

set_option Elab.async false
set_option linter.all false
set_option maxRecDepth 100000
set_option maxHeartbeats 1000000
namespace L2
open PySem PySem.Spec PyProof.Rows

theorem Seps.mk {G H : Hp} {O : Own} {i : Nat} : ∀ {T : List (D × V)} {k : Nat} {π : List Nat}, (∀ (j : Nat) x, T[j]? = some x → Sep G H O i x.1 ((k + j) :: π) x.2) → Seps G H O i (T.map (·.1)) k π (T.map (·.2))
  | [], _, _, _ => by simp; rw [Seps]
  | x :: T, k, π, h => by
    simp only [List.map]; rw [Seps]
    exact ⟨x.2, _, rfl, by simpa using h 0 x rfl, Seps.mk fun j y e => by rw [show k + 1 + j = k + (j + 1) by omega]; exact h (j + 1) y (by simpa using e)⟩
section
variable {C : Ctx} {ow : List Bool} {G : Hp} {ρ : DSt} {σ : St} {H : Hp} {pd T : List (D × V)} {O : Own}
theorem RO.gather (h : RO C ow G ρ σ H (T.reverse ++ pd) O) (hn : C.np ≤ pd.length) : ∃ O', RO C ow G ρ σ H pd O' ∧ Seps G H O' (2 * pd.length + 1) (T.map (·.1)) 0 [] (T.map (·.2)) := by
  refine ⟨lab (fun l π => if l % 2 = 1 ∧ pd.length ≤ l / 2 then (2 * pd.length + 1, π ++ [l / 2 - pd.length]) else (l, π)) O, ⟨h.len, h.gh, h.g0, h.gn, ?_, h.cok, h.fr, h.al, h.mp, ?_, ?_, hn⟩, ?_⟩
  · intro a m e
    obtain ⟨l, π, e1, rfl⟩ := lab_of e
    obtain ⟨q1, q2, q3⟩ := h.og a _ e1
    refine ⟨q1, q2, ?_⟩
    split
    · rename_i z
      rcases q3 with q3 | ⟨_, q3⟩
      · exact .inl q3
      · rcases h.cok _ _ _ q3 with ⟨k, _, q4, _⟩ | ⟨k, q4, q5⟩
        · omega
        · omega
    · exact q3
  · intro j e q
    obtain ⟨u, h1, h2⟩ := h.sl j e q
    refine ⟨u, h1, ?_⟩
    split at h2
    · rename_i c; rw [if_pos c]; exact h2.keep (fun _ _ z => z) fun a τ q => ⟨by rw [lab_at q, if_neg (by omega)], rfl⟩
    · rename_i c; rw [if_neg c]; exact h2
  · exact Pend.keep (fun _ _ z => z) (fun a j π hj q => ⟨by rw [lab_at q, if_neg (by omega)], rfl⟩) (pend_tail (T := T.reverse) h.pn)
  · refine Seps.mk fun j x e => ?_
    have := pend_at h.pn e
    refine Sep.map (f := fun π => π ++ [0 + j]) (fun _ _ z => z) (fun _ _ => rfl) x.1 [] x.2 (fun a τ q => ⟨?_, rfl⟩) this
    rw [lab_at q, if_pos (by omega)]
    rw [show (2 * (pd.length + j) + 1) / 2 - pd.length = 0 + j by omega]
theorem RO.newT (h : RO C ow G ρ σ H pd O) {p : Addr} (hp : H p = none) {ds : List D} {vs : List V} (hs : Seps G H O (2 * pd.length + 1) ds 0 [] vs) : R C ow (upd G p (.tup vs)) ρ σ (upd H p (.tup vs)) ((.tup ds, .ref p) :: pd) ∧ Same G (upd G p (.tup vs)) := by
  obtain ⟨r, z⟩ := h.new hp (.tup vs)
  refine ⟨⟨O, r.len, r.gh, r.g0, r.gn, r.og, r.cok, r.fr, r.al, r.mp, r.sl, ⟨?_, r.pn⟩, Nat.le_succ_of_le r.np⟩, z⟩
  rw [Sep]
  exact ⟨p, vs, rfl, upd_same, hs.keep z.ts fun a τ _ q => ⟨q, upd_ne (fun e => by obtain ⟨_, ⟨xs, w⟩, _⟩ := h.og a _ q; rw [e, hp] at w; cases w)⟩⟩
end

noncomputable def SFm (M : Md) (t : TE) (m : ME) : Prop := ∀ (C : Ctx) (G : Hp) (ρ : DSt) (σ : St) (H : Hp) (pd : List (D × V)) (q : D → DSt → Prop) (Q : VK), MuOk C M.mu → R C M.ow G ρ σ H pd → m ρ q →
  (∀ d ρ' v G' H', q d ρ' → Same G G' → R C M.ow G' ρ' σ H' ((d, v) :: pd) → Q v H') → t σ H Q
structure QM (X : Cx) (M : Md) (e : Expr) (m : ME) : Prop where
  ex : ∃ t, PE X e t ∧ SFm M t m
noncomputable def SAm (M : Md) (n : Nat) (t : TA) (m : MA) : Prop := ∀ (C : Ctx) (G : Hp) (ρ : DSt) (σ : St) (H : Hp) (pd : List (D × V)) (q : List D → DSt → Prop) (Q : List V → Hp → Prop), MuOk C M.mu → R C M.ow G ρ σ H pd → m ρ q →
  (∀ (T : List (D × V)) ρ' G' H', q (T.map (·.1)) ρ' → Same G G' → R C M.ow G' ρ' σ H' (T.reverse ++ pd) → T.length = n → Q (T.map (·.2)) H') → t σ H Q
structure QMs (X : Cx) (M : Md) (es : List Expr) (m : MA) : Prop where
  ex : ∃ t, PA X es t ∧ SAm M es.length t m
section
variable {X : Cx} {M : Md} {a b c e : Expr} {ma mb mc : ME} {pos pos' : Pos} {mr : MA} {es : List Expr}
theorem QF.qm (h : QF X M.ow e ma) : QM X M e ma := by
  obtain ⟨t, p, s⟩ := h
  exact ⟨_, p, fun C G ρ σ H pd q Q hm r h k => s C G ρ σ H pd q Q r h fun d ρ' v G' H' hq z kp r' => k d ρ' v G' H' hq z r'⟩
theorem qm_move (i : Nat) {x : Str} (ho : M.ow[i]? = some true := by decide) (hu : M.mu[i]? ≠ some true := by decide) (hN : X.N[i]? = some x := by rfl) (hv : Vis X.env.scope x := by first | exact Or.inl rfl | exact Or.inr (Or.inl rfl) | exact Or.inr (Or.inr rfl)) (hd : (x == ("__debug__" : Str)) = false := by decide)
    (hcd : (x == ("__classdict__" : Str)) = false := by decide) : QM X M (.Name x pos) (mMove i) := ⟨_, pe_var hN hv hd hcd, fun C G ρ σ H pd q Q hm r h k => by
  unfold mMove at h
  split at h
  · rename_i d e
    obtain ⟨O, ro⟩ := r
    obtain ⟨v, h1, h2⟩ := ro.move e ho (hm.no hu)
    exact ⟨v, h1, k d _ v G H h (Same.refl _) h2⟩
  · exact h.elim⟩
theorem qms_nil : QMs X M [] mNil := ⟨_, pa_nil, fun C G ρ σ H pd q Q hm r h k => k [] ρ G H h (Same.refl _) r rfl⟩
theorem qms_cons (ha : QM X M e ma) (hr : QMs X M es mr) (hs : starEach (e :: es) X.env = (false, eval e X.env) :: starEach es X.env := by rfl) : QMs X M (e :: es) (mCons ma mr) := by
  obtain ⟨t, p, s⟩ := ha; obtain ⟨t2, p2, s2⟩ := hr
  refine ⟨_, pa_cons p p2 hs, fun C G ρ σ H pd q Q hm r h k => s C G ρ σ H pd _ _ hm r h fun d ρ' v G' H' hq z r' => ?_⟩
  exact s2 C G' ρ' σ H' _ _ _ hm r' hq fun T ρ2 G2 H2 hq2 z2 r2 hn => k ((d, v) :: T) ρ2 G2 H2 hq2 (z.trans z2) (by simpa using r2) (by simp [hn])
theorem qm_tup {x1} (h : QMs X M es mr) (hl : es.length ≤ 1000 := by decide) : QM X M (.Tuple es x1 pos) (mTup mr) := by
  obtain ⟨t, p, s⟩ := h
  refine ⟨_, pe_tup p, fun C G ρ σ H pd q Q hm r h k => s C G ρ σ H pd _ _ hm r h fun T ρ' G' H' hq z r' hn => ⟨le_line (by simp; omega), fun a ha => ?_⟩⟩
  obtain ⟨O, r'⟩ := r'
  obtain ⟨O2, r2, s2⟩ := r'.gather r.np
  obtain ⟨r3, z3⟩ := r2.newT ha s2
  exact k _ ρ' _ _ _ hq (z.trans z3) r3
theorem qs_retM (h : QM X M e ma) (hf : M.fr = true := by rfl) : QS X M (.Return (some e) pos) (mRet ma) := by
  obtain ⟨t, p, s⟩ := h
  refine ⟨_, ps_ret p, fun C G ρ σ H n D hm hn r h k => s C G ρ σ H [] _ _ hm r h fun d ρ' v G' H' hq z r' => k.rt d ρ' σ v G' H' hq z (by unfold Ret; rw [if_pos hf]; exact r')⟩
end

noncomputable def compD (g : MG) (mt : MT) (me : ME) (ρ0 : DSt) (ds : List D) (K : List D → Prop) : Prop := ∃ I : Nat → List D → Prop, I 0 [] ∧
  (∀ i d es, ds[i]? = some d → I i es → g d ρ0 fun ρ2 => mt ρ2 fun b ρ3 => if b = true then me ρ3 fun x _ => I (i + 1) (es ++ [x]) else I (i + 1) es) ∧ ∀ es, I ds.length es → K es
noncomputable def rho0 (k : Nat) (js : List Nat) (ρ : DSt) : DSt := List.replicate k none ++ js.map fun j => (ρ[j]?).getD none
noncomputable def mComp (mi : MA) (g : MG) (mt : MT) (me : ME) (k : Nat) (js : List Nat) : ME := fun ρ q => mi ρ fun ds ρ1 => ds.length ≤ 1000 ∧ compD g mt me (rho0 k js ρ1) ds fun es => imms es = true ∧ q (.lst es) ρ1
noncomputable def mCompS (mi : MA) (g : MG) (mt : MT) (me : ME) (k : Nat) (js : List Nat) : ME := fun ρ q => mi ρ fun ds ρ1 => ds.length ≤ 1000 ∧ compD g mt me (rho0 k js ρ1) ds fun es => q (.lst es) ρ1
structure QIf (X : Cx) (ow : List Bool) (ifs : List Expr) (m : MT) : Prop where
  ex : ∃ t, PIf X ifs t ∧ STe ow t m
theorem qif_nil {X : Cx} {ow : List Bool} : QIf X ow [] (mYes true) := ⟨_, pif_nil, st_yes true⟩
theorem qif_one {X : Cx} {ow : List Bool} {c : Expr} {mt : MT} (h : QT X ow c mt) : QIf X ow [c] mt := by obtain ⟨t, p, s⟩ := h; exact ⟨_, pif_one p, s⟩
section
variable {C : Ctx} {ow : List Bool} {G : Hp} {ρ : DSt} {σ : St} {H : Hp} {pd : List (D × V)} {O : Own}
theorem RO.inner (h : RO C ow G ρ σ H pd O) (own : List Str) (js : List Nat) (hj : ∀ j ∈ js, ow[j]? ≠ some true) :
    RO ⟨G, H, ownM (fun _ => none) O, [], 0⟩ [] G (rho0 own.length js ρ) (sig0 own js σ) H [] (ownM (fun _ => none) O) := by
  have no : ∀ a, ownM (fun _ => none) O a = none := fun a => by unfold ownM; cases O a <;> rfl
  refine ⟨by simp [rho0, sig0], h.gh, fun _ _ e => e, fun _ _ e => .inl e, fun a l e => ?_, fun a l π e => ?_, fun _ _ e _ => e, fun _ e => e, fun i v e => by simp at e, ?_, trivial, Nat.le_refl _⟩
  · rw [no] at e; cases e
  · exact absurd (e.symm.trans (no a)) (by simp)
  · intro i d e
    unfold rho0 at e
    by_cases c : i < own.length
    · rw [List.getElem?_append_left (by simpa using c), List.getElem?_replicate] at e
      split at e <;> cases e
    · rw [List.getElem?_append_right (by simpa using c), List.getElem?_map] at e
      simp only [List.length_replicate] at e
      cases z : js[i - own.length]? with
      | none => rw [z] at e; cases e
      | some j =>
        rw [z] at e
        have e' : (ρ[j]?).getD none = some d := Option.some.inj e
        have e2 : ρ[j]? = some (some d) := by
          cases w : ρ[j]? with
          | none => rw [w] at e'; cases e'
          | some o => rw [w] at e'; exact congrArg some e'
        obtain ⟨v, h1, h2⟩ := h.sl j d e2
        rw [if_neg (hj j (List.mem_of_getElem? z))] at h2
        refine ⟨v, ?_, by simpa using h2⟩
        unfold sig0
        rw [List.getElem?_append_right (by simpa using c), List.getElem?_map]
        simp only [List.length_map]
        rw [z, show (some j).map _ = some ((σ[j]?).getD none) from rfl, h1]; rfl
end

theorem RO.back {C : Ctx} {ow : List Bool} {G G' : Hp} {ρ0 ρ2 : DSt} {σ0 σ2 : St} {H H' : Hp} {pd : List (D × V)} {O O' : Own} (h0 : RO C ow G ρ0 σ0 H pd O) (hn : ∀ i : Nat, ow[i]? ≠ some true) (h : RO C ow G' ρ2 σ2 H' pd O') (z : Same G G') : RO C ow G' ρ0 σ0 H' pd O' :=
  ⟨h0.len, h.gh, h.g0, h.gn, h.og, h.cok, h.fr, h.al, h0.mp, fun i d e => by
    obtain ⟨v, h1, h2⟩ := h0.sl i d e
    rw [if_neg (hn i)] at h2
    exact ⟨v, h1, by rw [if_neg (hn i)]; exact h2.mono z⟩, h.pn, h.np⟩
theorem comp_sound {ow : List Bool} {J : It} {g : TG} {mg : MG} {tt : TT} {mt : MT} {te : TE} {me : ME} {C : Ctx} {G : Hp} {ρ : DSt} {σ : St} {H : Hp} {pd : List (D × V)} {ds : List D} {own : List Str} {js : List Nat} {K : List D → Prop} {Z : List V → Hp → Prop}
    (r : R C ow G ρ σ H pd) (hj : ∀ j ∈ js, ow[j]? ≠ some true) (jo : ItOk J G ds) (sg : SG ⟨[], [], false⟩ g mg) (st : STe [] tt mt) (se : SE [] te me) (hk : ∀ x H k, g x (sig0 own js σ) H k → g x (sig0 own js σ) H fun σ2 H2 => kept (sig0 own js σ) σ2 ∧ k σ2 H2)
    (hl : ds.length ≤ 1000) (h : compD mg mt me (rho0 own.length js ρ) ds K)
    (k : ∀ es vs G' H', K es → Same G G' → R C ow G' ρ σ H' pd → Reps G' es vs → vs.length ≤ 1000 → Z vs H') : CompW J g tt te (sig0 own js σ) H Z := by
  obtain ⟨O, ro⟩ := r
  have ri := ro.inner own js hj
  obtain ⟨I, i0, turn, fin⟩ := h
  have nt : ∀ i : Nat, ([] : List Bool)[i]? ≠ some true := fun i => by simp
  let C1 : Ctx := ⟨G, H, ownM (fun _ => none) O, [], 0⟩
  have fnone : ownM (fun _ => none) O = fun _ => none := by funext a; unfold ownM; cases O a <;> rfl
  refine ⟨fun i m acc H' => m = ds.length - i ∧ i ≤ ds.length ∧ acc.length ≤ i ∧ ∃ G' es, Same G G' ∧ R C1 [] G' (rho0 own.length js ρ) (sig0 own js σ) H' [] ∧ Reps G' es acc ∧ I i es, ⟨_, rfl, Nat.zero_le _, Nat.le_refl _, G, [], Same.refl _, ⟨_, ri⟩, reps_nil, i0⟩, ?_⟩
  rintro i m acc H' ⟨rfl, hi, ha, G', es, z, r', pa, w⟩
  obtain ⟨sp, go⟩ := jo C1 [] G' _ _ H' [] i z r'
  by_cases hlt : i < ds.length
  · obtain ⟨g1, g2⟩ := go ds[i] (List.getElem?_eq_getElem hlt)
    refine .inr ⟨g1, small1000 (by omega), fun acc' H2 => acc'.length ≤ i + 1 ∧ ∃ G2 es2, Same G G2 ∧ R C1 [] G2 (rho0 own.length js ρ) (sig0 own js σ) H2 [] ∧ Reps G2 es2 acc' ∧ I (i + 1) es2, fun acc' H2 h => ⟨ds.length - (i + 1), by omega, rfl, hlt, h.1, h.2⟩, fun x H1 hy => hk _ _ _ ?_⟩
    obtain ⟨G1, z1, r1, p1⟩ := g2 x H1 hy
    refine sg C1 G1 _ _ H1 [] ds[i] x _ _ (fun i v e => by simp [C1] at e) r1 p1 (turn i ds[i] es (List.getElem?_eq_getElem hlt) w) fun ρ2 σ2 h2 r2 => ?_
    refine st C1 G1 ρ2 σ2 H1 [] _ _ r2 h2 fun b ρ3 G3 H3 h3 z3 kp3 r3 => ?_
    have bk : ∀ {G4 : Hp} {ρ4 : DSt} {H4 : Hp}, Same G3 G4 → R C1 [] G4 ρ4 σ2 H4 [] → R C1 [] G4 (rho0 own.length js ρ) (sig0 own js σ) H4 [] := fun z4 ⟨O4, r4⟩ => by
      obtain ⟨O1, r1'⟩ := r1
      exact ⟨_, r1'.back nt r4 (z3.trans z4)⟩
    cases b with
    | true =>
      rw [if_pos rfl] at h3 ⊢
      refine se C1 G3 ρ3 σ2 H3 [] _ _ r3 h3 fun d ρ4 v G4 H4 h4 z4 kp4 r4 p4 => ?_
      exact ⟨by simp; omega, G4, es ++ [d], z.trans (z1.trans (z3.trans z4)), bk z4 r4, reps_app (Reps.mono (z1.trans (z3.trans z4)) _ _ pa) (reps_cons p4 reps_nil), h4⟩
    | false =>
      rw [if_neg (by decide)] at h3 ⊢
      exact ⟨by omega, G3, es, z.trans (z1.trans z3), bk (Same.refl _) r3, Reps.mono (z1.trans z3) _ _ pa, h3⟩
  · have e : i = ds.length := by omega
    subst e
    refine .inl ⟨sp (Nat.le_refl _), le_line (by omega), ?_⟩
    obtain ⟨O2, r2⟩ := r'
    refine k es acc G' H' (fin es w) z ⟨ownB (fun _ => none) (fun _ => none) O O2, ?_⟩ pa (by omega)
    refine ro.out (vs := []) r2 (fun _ _ _ e => by cases e) ro.len ro.np (fun i d _ e => e) (fun i d _ e => .inl ⟨rfl, e⟩) fun O3 h1 h2 ts => ?_
    exact Pend.keep ts (fun a j π hj e => h1 a _ _ e rfl) ro.pn
section
variable {X : Cx} {ow : List Bool} {elt tg iter : Expr} {ifs : List Expr} {pos : Pos} {mi : MA} {mg : MG} {mt : MT} {me : ME} {scope : Scope} {cl : List (Str × Addr)}

noncomputable def KeepG (n : Nat) (g : TG) : Prop := ∀ (σ0 : St), (∀ i, i < n → σ0[i]? = some none) → ∀ σ x H k, kept σ0 σ → g x σ H k → g x σ H fun σ2 H2 => kept σ0 σ2 ∧ k σ2 H2
noncomputable def KeepGs (n : Nat) (g : TGs) : Prop := ∀ (σ0 : St), (∀ i, i < n → σ0[i]? = some none) → ∀ σ x H k, kept σ0 σ → g x σ H k → g x σ H fun σ2 H2 => kept σ0 σ2 ∧ k σ2 H2
theorem kept_set : ∀ {a b : St} {i : Nat} {v : V}, kept a b → a[i]? = some none → kept a (b.set i (some v))
  | [], [], i, v, h, e => by simp at e
  | none :: r, y :: r', 0, v, h, e => h
  | none :: r, y :: r', i + 1, v, h, e => by simp only [List.set_cons_succ]; exact kept_set (a := r) (b := r') h (by simpa using e)
  | some w :: r, y :: r', 0, v, h, e => by simp at e
  | some w :: r, y :: r', i + 1, v, h, e => by simp only [List.set_cons_succ]; exact ⟨h.1, kept_set (a := r) (b := r') h.2 (by simpa using e)⟩
  | [], _ :: _, _, _, h, _ => h.elim
  | none :: _, [], _, _, h, _ => h.elim
  | some _ :: _, [], _, _, h, _ => h.elim
theorem kept_refl : ∀ (a : St), kept a a
  | [] => trivial
  | none :: r => kept_refl r
  | some v :: r => ⟨rfl, kept_refl r⟩
noncomputable def MonG (g : TG) : Prop := ∀ x σ H (k k' : St → Hp → Prop), (∀ σ2 H2, k σ2 H2 → k' σ2 H2) → g x σ H k → g x σ H k'
noncomputable def MonGs (g : TGs) : Prop := ∀ x σ H (k k' : St → Hp → Prop), (∀ σ2 H2, k σ2 H2 → k' σ2 H2) → g x σ H k → g x σ H k'
structure CG (n : Nat) (g : TG) (m : MG) : Prop where
  sg : SG ⟨[], [], false⟩ g m
  kp : KeepG n g
  mn : MonG g
structure CGs (n : Nat) (g : TGs) (m : MGs) : Prop where
  sg : SGs ⟨[], [], false⟩ g m
  kp : KeepGs n g
  mn : MonGs g
theorem cg_name {n : Nat} (i : Nat) (h : i < n := by decide) : CG n (gName i) (gmName i) :=
  ⟨fun C G ρ σ H pd d v k K hm r p h kk => by obtain ⟨O, r⟩ := r; exact kk _ _ h ⟨O, r.setS (by simp) (fun v e => by have := hm i v e; simp at this) p⟩,
   fun σ0 h0 σ x H k hk hg => ⟨kept_set hk (h0 i h), hg⟩, fun x σ H k k' hk h => hk _ _ h⟩
theorem cgs_nil {n : Nat} : CGs n gNil gmNil :=
  ⟨fun C G ρ σ H pd d v k K hm r p h kk => by
    cases d with
    | nil => rw [Reps] at p; exact ⟨p, kk _ _ h r⟩
    | cons _ _ => exact h.elim, fun σ0 h0 σ x H k hk hg => ⟨hg.1, hk, hg.2⟩, fun x σ H k k' hk h => ⟨h.1, hk _ _ h.2⟩⟩
theorem cgs_cons {n : Nat} {g : TG} {gs : TGs} {mg : MG} {mgs : MGs} (h1 : CG n g mg) (h2 : CGs n gs mgs) : CGs n (gCons g gs) (gmCons mg mgs) :=
  ⟨fun C G ρ σ H pd d v k K hm r p h kk => by
    cases d with
    | nil => exact h.elim
    | cons d ds =>
      rw [Reps] at p
      obtain ⟨v, vs, rfl, p1, p3⟩ := p
      exact ⟨v, vs, rfl, h1.sg C G ρ σ H pd d v _ _ hm r p1 h fun ρ' σ' h' r' => h2.sg C G ρ' σ' H pd ds vs k K hm r' p3 h' kk⟩,
   fun σ0 h0 σ x H k hk hg => by
    obtain ⟨v, r, e, q⟩ := hg
    exact ⟨v, r, e, h1.mn _ _ _ _ _ (fun σ2 H2 z => h2.kp σ0 h0 σ2 r H2 k z.1 z.2) (h1.kp σ0 h0 σ v H _ hk q)⟩,
   fun x σ H k k' hk h => by
    obtain ⟨v, r, e, q⟩ := h
    exact ⟨v, r, e, h1.mn _ _ _ _ _ (fun σ2 H2 z => h2.mn _ _ _ _ _ hk z) q⟩⟩
theorem cg_tup {n j : Nat} {K : PySem.W.Frag} {gs : TGs} {mgs : MGs} (h : CGs n gs mgs) (ht : takes j mgs) : CG n (gTup K j gs) (gmTup mgs) :=
  ⟨fun C G ρ σ H pd d v k K hm r p h' kk => by
    cases d with
    | tup ds =>
      obtain ⟨a, xs, rfl, h1, h2⟩ := rep_tup_of p
      exact ⟨a, xs, rfl, SqT.of (r.gh _ _ h1), by rw [h2.length]; exact ht _ _ _ h', h.sg C G ρ σ H pd ds xs k K hm r h2 h' kk⟩
    | _ => exact h'.elim,
   fun σ0 h0 σ x H k hk hg => by obtain ⟨a, xs, e, e1, e2, q⟩ := hg; exact ⟨a, xs, e, e1, e2, h.kp σ0 h0 σ xs H k hk q⟩,
   fun x σ H k k' hk hg => by obtain ⟨a, xs, e, e1, e2, q⟩ := hg; exact ⟨a, xs, e, e1, e2, h.mn _ _ _ _ _ hk q⟩⟩

noncomputable def canE (ow : List Bool) (m : ME) : TE := fun σ H Q => ∃ (C : Ctx) (G : Hp) (ρ : DSt) (pd : List (D × V)) (q : D → DSt → Prop), R C ow G ρ σ H pd ∧ m ρ q ∧ ∀ d ρ' v G' H', q d ρ' → Same G G' → Kp ow ρ ρ' → R C ow G' ρ' σ H' pd → Rep G' d v → Q v H'
noncomputable def canT (ow : List Bool) (m : MT) : TT := fun σ H Q => ∃ (C : Ctx) (G : Hp) (ρ : DSt) (pd : List (D × V)) (q : Bool → DSt → Prop), R C ow G ρ σ H pd ∧ m ρ q ∧ ∀ d ρ' G' H', q d ρ' → Same G G' → Kp ow ρ ρ' → R C ow G' ρ' σ H' pd → Q d H'
theorem can_se {ow : List Bool} {m : ME} : SE ow (canE ow m) m := fun C G ρ σ H pd q Q r h k => ⟨C, G, ρ, pd, q, r, h, k⟩
theorem can_st {ow : List Bool} {m : MT} : STe ow (canT ow m) m := fun C G ρ σ H pd q Q r h k => ⟨C, G, ρ, pd, q, r, h, k⟩
theorem QE.can {X : Cx} {ow : List Bool} {e : Expr} {m : ME} (h : QE X ow e m) : PE X e (canE ow m) := by
  obtain ⟨t, p, s⟩ := h
  exact ⟨fun pins s' σ H Q I ⟨C, G, ρ, pd, q, r, h, k⟩ => p.go pins s' σ H Q I (s C G ρ σ H pd q Q r h k)⟩
theorem QIf.can {X : Cx} {ow : List Bool} {e : List Expr} {m : MT} (h : QIf X ow e m) : PIf X e (canT ow m) := by
  obtain ⟨t, p, s⟩ := h
  exact ⟨fun pins s' σ H Q I ⟨C, G, ρ, pd, q, r, h, k⟩ => p.go pins s' σ H Q I (s C G ρ σ H pd q Q r h k)⟩
theorem sig0_none {own : List Str} {js : List Nat} {σ : St} : ∀ i, i < own.length → (sig0 own js σ)[i]? = some none := fun i h => by
  unfold sig0
  rw [List.getElem?_append_left (by simpa using h), List.getElem?_map, List.getElem?_eq_getElem h]; rfl
theorem comp_sf {ow : List Bool} {wi : TI} {g : TG} {own : List Str} {js : List Nat} (si : SI ow wi mi) (cg : CG own.length g mg) (hj : ∀ j ∈ js, ow[j]? ≠ some true) : SF ow (tComp wi g (canT [] mt) (canE [] me) own js) (mComp mi mg mt me own.length js) := fun C G ρ σ H pd q Q r h k =>
  si C G ρ σ H pd _ _ r h fun ds ρ' G' H' J hq z kp r' jo => by
    refine comp_sound r' hj jo cg.sg can_st can_se (fun x H k hg => cg.kp _ sig0_none _ x H k (kept_refl _) hg) hq.1 hq.2 fun es vs G2 H2 hK z2 r2 p2 hl p hp => ?_
    obtain ⟨O2, r2⟩ := r2
    exact k _ ρ' _ _ _ hK.2 (z.trans z2) kp (r2.newL hp hK.1 p2)
theorem comp_se {ow : List Bool} {wi : TI} {g : TG} {own : List Str} {js : List Nat} (si : SI ow wi mi) (cg : CG own.length g mg) (hj : ∀ j ∈ js, ow[j]? ≠ some true) : SE ow (tComp wi g (canT [] mt) (canE [] me) own js) (mCompS mi mg mt me own.length js) := fun C G ρ σ H pd q Q r h k =>
  si C G ρ σ H pd _ _ r h fun ds ρ' G' H' J hq z kp r' jo => by
    refine comp_sound r' hj jo cg.sg can_st can_se (fun x H k hg => cg.kp _ sig0_none _ x H k (kept_refl _) hg) hq.1 hq.2 fun es vs G2 H2 hK z2 r2 p2 hl p hp => ?_
    obtain ⟨O2, r2⟩ := r2
    obtain ⟨r3, z3⟩ := r2.new hp (.lst vs)
    exact k _ ρ' _ _ _ hK (z.trans (z2.trans z3)) kp ⟨O2, r3⟩ (rep_lst upd_same (Reps.mono z3 _ _ p2))

structure CInn (X : Cx) (tg : Expr) (ifs : List Expr) (elt : Expr) (g : TG) (mt : MT) (me : ME) : Prop where
  pg : PG X tg g
  qi : QIf X [] ifs mt
  qe : QE X [] elt me
theorem qf_comp {g : TG} (own : List Str) (js : List Nat) (c : CompOk X scope cl own js) (hc : X.calm = true) (hi : QI X ow tg iter mi) (cg : CG own.length g mg)
    (inner : ∀ (C : Addr) (s₀ : Shared) (H₀ : Hp) (ex : List Addr), CInn (compCx X scope cl (nam0 X own js) C s₀ H₀ ex) tg ifs elt g mt me) (hj : ∀ j ∈ js, ow[j]? ≠ some true := by decide)
    (hs : ∀ x, foldedSetIterable iter X.env x = pure x := by intro _; rfl) : QF X ow (.ListComp elt [⟨tg, iter, ifs, 0⟩] scope pos) (mComp mi mg mt me own.length js) := by
  obtain ⟨wi, pi, si⟩ := hi
  exact ⟨_, pe_comp own js c hc pi (fun C s₀ H₀ ex => ⟨(inner C s₀ H₀ ex).pg, (inner C s₀ H₀ ex).qi.can, (inner C s₀ H₀ ex).qe.can⟩) hs, comp_sf si cg hj⟩
theorem qe_comp {g : TG} (own : List Str) (js : List Nat) (c : CompOk X scope cl own js) (hc : X.calm = true) (hi : QI X ow tg iter mi) (cg : CG own.length g mg)
    (inner : ∀ (C : Addr) (s₀ : Shared) (H₀ : Hp) (ex : List Addr), CInn (compCx X scope cl (nam0 X own js) C s₀ H₀ ex) tg ifs elt g mt me) (hj : ∀ j ∈ js, ow[j]? ≠ some true := by decide)
    (hs : ∀ x, foldedSetIterable iter X.env x = pure x := by intro _; rfl) : QE X ow (.ListComp elt [⟨tg, iter, ifs, 0⟩] scope pos) (mCompS mi mg mt me own.length js) := by
  obtain ⟨wi, pi, si⟩ := hi
  exact ⟨_, pe_comp own js c hc pi (fun C s₀ H₀ ex => ⟨(inner C s₀ H₀ ex).pg, (inner C s₀ H₀ ex).qi.can, (inner C s₀ H₀ ex).qe.can⟩) hs, comp_se si cg hj⟩
theorem qs_setComp {M : Md} {g : TG} {i : Nat} {y : Str} {spos py : Pos} (own : List Str) (js : List Nat) (c : CompOk X scope cl own js) (hc : X.calm = true) (hN : X.N.Nodup) (hy : X.N[i]? = some y) (hx : Loc X.env.scope y) (hi : QI X M.ow tg iter mi) (cg : CG own.length g mg)
    (inner : ∀ (C : Addr) (s₀ : Shared) (H₀ : Hp) (ex : List Addr), CInn (compCx X scope cl (nam0 X own js) C s₀ H₀ ex) tg ifs elt g mt me) (hj : ∀ j ∈ js, M.ow[j]? ≠ some true := by decide) (ho : M.ow[i]? ≠ some true := by decide) (hu : M.mu[i]? ≠ some true := by decide)
    (hsw : swapsWith (.ListComp elt [⟨tg, iter, ifs, 0⟩] scope pos) (some (.Name y py)) spos.line X.env = pure true := by rfl)
    (hs : ∀ x, foldedSetIterable iter X.env x = pure x := by intro _; rfl) (hf : X.fn y = true ∨ X.env.scope.names.lookup y = some .local := by first | exact .inl rfl | exact .inr rfl | assumption) :
    QS X M (.Assign [.Name y py] (.ListComp elt [⟨tg, iter, ifs, 0⟩] scope pos) spos) (mSet i (mCompS mi mg mt me own.length js)) := by
  obtain ⟨wi, pi, si⟩ := hi
  exact ⟨_, ps_setComp own js c hc hN hy hx pi (fun C s₀ H₀ ex => ⟨(inner C s₀ H₀ ex).pg, (inner C s₀ H₀ ex).qi.can, (inner C s₀ H₀ ex).qe.can⟩) hsw hs hf, ss_set (comp_se si cg hj) ho hu⟩
end

theorem compD_fm {g : MG} {mt : MT} {me : ME} {ρ0 : DSt} {ds : List D} {K : List D → Prop} (f : D → Option D)
    (step : ∀ (d : D), d ∈ ds → ∀ k : Option D → Prop, k (f d) → g d ρ0 fun ρ2 => mt ρ2 fun b ρ3 => if b = true then me ρ3 fun x _ => k (some x) else k none) (h : K (ds.filterMap f)) : compD g mt me ρ0 ds K := by
  refine ⟨fun i es => es = (ds.take i).filterMap f, rfl, ?_, fun es e => by rw [e, List.take_length]; exact h⟩
  rintro i d es hd rfl
  have := step d (List.mem_of_getElem? hd) (fun o => match o with | some x => (ds.take i).filterMap f ++ [x] = (ds.take (i + 1)).filterMap f | none => (ds.take i).filterMap f = (ds.take (i + 1)).filterMap f) (by
    rw [List.take_add_one, hd]
    simp only [Option.toList, List.filterMap_append]
    cases e : f d with
    | none => simp [e]
    | some x => simp [e])
  exact this
theorem compD_map {g : MG} {me : ME} {ρ0 : DSt} {ds : List D} {K : List D → Prop} (f : D → D)
    (step : ∀ (d : D), d ∈ ds → ∀ k : D → Prop, k (f d) → g d ρ0 fun ρ2 => me ρ2 fun x _ => k x) (h : K (ds.map f)) : compD g (mYes true) me ρ0 ds K := by
  refine ⟨fun i es => es = (ds.take i).map f, rfl, ?_, fun es e => by rw [e, List.take_length]; exact h⟩
  rintro i d es hd rfl
  have := step d (List.mem_of_getElem? hd) (fun x => (ds.take i).map f ++ [x] = (ds.take (i + 1)).map f) (by
    rw [List.take_add_one, hd]; simp)
  exact this
end L2

set_option Elab.async false
set_option linter.all false
set_option maxRecDepth 100000
set_option maxHeartbeats 1000000
namespace L2
open PySem PySem.Spec PyProof.Rows

noncomputable def insZ (x : Int) : List Int → List Int
  | [] => [x]
  | y :: r => if x ≤ y then x :: y :: r else y :: insZ x r
noncomputable def sortZ : List Int → List Int
  | [] => []
  | x :: r => insZ x (sortZ r)
theorem insZ_perm (x : Int) : ∀ l : List Int, (insZ x l).Perm (x :: l)
  | [] => List.Perm.refl _
  | y :: r => by
    unfold insZ
    split
    · exact List.Perm.refl _
    · exact ((insZ_perm x r).cons y).trans (List.Perm.swap x y r)
theorem sortZ_perm : ∀ l : List Int, (sortZ l).Perm l
  | [] => List.Perm.refl _
  | x :: r => (insZ_perm x (sortZ r)).trans ((sortZ_perm r).cons x)
theorem insZ_sorted (x : Int) : ∀ {l : List Int}, l.Pairwise (· ≤ ·) → (insZ x l).Pairwise (· ≤ ·)
  | [], _ => by simp [insZ]
  | y :: r, h => by
    unfold insZ
    rw [List.pairwise_cons] at h
    split
    · rename_i c
      refine List.pairwise_cons.mpr ⟨fun z hz => ?_, List.pairwise_cons.mpr h⟩
      rcases List.mem_cons.mp hz with rfl | hz
      · exact c
      · exact Int.le_trans c (h.1 z hz)
    · rename_i c
      refine List.pairwise_cons.mpr ⟨fun z hz => ?_, insZ_sorted x h.2⟩
      rcases List.mem_cons.mp ((insZ_perm x r).mem_iff.mp hz) with rfl | hz
      · omega
      · exact h.1 z hz
theorem sortZ_sorted : ∀ l : List Int, (sortZ l).Pairwise (· ≤ ·)
  | [] => List.Pairwise.nil
  | x :: r => insZ_sorted x (sortZ_sorted r)
theorem sorted_one : ∀ {a b : List Int}, a.Perm b → a.Pairwise (· ≤ ·) → b.Pairwise (· ≤ ·) → a = b
  | [], b, p, _, _ => (List.Perm.nil_eq p)
  | x :: a, [], p, _, _ => by have := p.length_eq; simp at this
  | x :: a, y :: b, p, ha, hb => by
    have hx : x = y := by
      rw [List.pairwise_cons] at ha hb
      have h1 : x ∈ y :: b := p.mem_iff.mp (.head _)
      have h2 : y ∈ x :: a := p.mem_iff.mpr (.head _)
      rcases List.mem_cons.mp h1 with rfl | h1
      · rfl
      rcases List.mem_cons.mp h2 with h2 | h2
      · exact h2.symm
      have := ha.1 y h2
      have := hb.1 x h1
      omega
    subst hx
    rw [sorted_one ((List.perm_cons x).mp p) (List.pairwise_cons.mp ha).2 (List.pairwise_cons.mp hb).2]
theorem sortZ_of {a b : List Int} (p : a.Perm b) (h : a.Pairwise (· ≤ ·)) : a = sortZ b := sorted_one (p.trans (sortZ_perm b).symm) h (sortZ_sorted b)
theorem sortZ_len (l : List Int) : (sortZ l).length = l.length := (sortZ_perm l).length_eq
section
variable {X : Cx}
noncomputable def rSortI (K : PySem.W.Frag) : List V → Hp → VK → Prop := fun xs H Q => ∃ (p : Addr) (ns : List Int), xs = [.ref p] ∧ SqL K H p (ns.map V.int) ∧ ns.length < 64 ∧ ∀ l, H l = none → Q (.ref l) (upd H l (.lst ((sortZ ns).map V.int)))
theorem call_sortedI : CallR X (.builtin "sorted") (rSortI X.K) := by
  intro pins s σ H xs us Q I r h
  obtain ⟨p, ns, rfl, hS, h64, q⟩ := h
  obtain ⟨u, rfl, ru⟩ := vals1 r
  cases ru
  obtain ⟨its, rv, pl, _⟩ := I.list hS
  have hI : IntsAre its ns := intsAre_of rv
  have hlen : its.length = ns.length := by have := rv.length; simp at this; exact this.symm
  refine sorted_ints (l := p) (vs := its) (ns := ns) (isList_of pl) hI (by omega) fun out ns' a1 a2 a3 => ?_
  obtain ⟨e, he⟩ := sortedAll_at s.heap its out
  have hl : ns' = sortZ ns := sortZ_of a2 a3
  subst hl
  refine ⟨.ref (s.heap.objs.size + 1), _, I.laid (a := s.heap.objs.size + 1) (o := .lst ((sortZ ns).map V.int)) (t' := s.toks) (fun _ _ q => sortedAll_old q) (Nat.le_succ _) ?_, rfl, q _ (I.hok.fresh (Nat.le_succ _))⟩
  refine ⟨Nat.le_of_lt (small1000 (by rw [List.length_map, sortZ_len]; omega)), out.toList, e, vals_ints a1, ?_⟩
  simpa [seqObj] using he
where
  isList_of {h : Heap} {a : Addr} {its : List Value} (pl : PlainL h a its.toArray) : h.IsList a its.toArray := by
    first | exact pl.isList | exact pl.1 | exact pl
theorem sqL_isList {pins : List (Addr × Obj)} {σ : St} {H : Hp} {s : Shared} {p : Addr} {xs : List V} (I : Inv X pins σ H s) (h : SqL X.K H p xs) : ∃ its : List Value, Vals xs its ∧ s.heap.IsList p its.toArray := by
  obtain ⟨its, rv, ⟨o, n, h1, h2, h3, h4⟩, _⟩ := I.list h
  exact ⟨its, rv, o, h1, h2, n, h4⟩
theorem call_sumI (hc : X.calm = true) : CallR X (.builtin "sum") (fun xs H Q => ∃ (p : Addr) (ns : List Int), xs = [.ref p] ∧ SqL X.K H p (ns.map V.int) ∧ Q (.int ns.sum) H) := by
  intro pins s σ H xs us Q I r h
  obtain ⟨p, ns, rfl, hS, q⟩ := h
  obtain ⟨u, rfl, ru⟩ := vals1 r
  cases ru
  obtain ⟨its, rv, hl⟩ := sqL_isList I hS
  have hI₂ : IntsAre its ns := intsAre_of rv
  obtain ⟨ys, hys⟩ := hI₂.allInts.items
  have hlY : s.heap.IsList p (intItems ys) := hys ▸ hl
  refine sum_intListG (I.ok.hd hc) hlY fun hp tk₁ tk₂ kept => ?_
  have eY : ns = ys.toList.map (·.1) := by
    rw [← nums_intItems, ← hys]; exact Eq.symm (show numsOf its.toArray.toList = ns from hI₂.numsOf)
  have eS : preSum (numAt ys) ys.size = ns.sum := by rw [preSum_eq, List.take_of_length_le (by simp), eY]
  rw [eS]
  exact ⟨.int ns.sum, H, I.kept kept, ⟨tk₂, rfl⟩, q⟩
end
theorem reps_ints_of {G : Hp} : ∀ {ns : List Int} {xs : List V}, Reps G (ns.map D.int) xs → xs = ns.map V.int
  | [], xs, h => by rw [List.map_nil, Reps] at h; subst h; rfl
  | n :: r, xs, h => by rw [List.map_cons, Reps] at h; obtain ⟨v, vs, rfl, h1, h2⟩ := h; rw [rep_int_of h1, reps_ints_of h2]; rfl
noncomputable def fSortI : List D → (List D → Prop) → Prop := fun ds q => match ds with
  | [.lst xs] => ∃ ns : List Int, xs = ns.map D.int ∧ ns.length < 64 ∧ q ((sortZ ns).map D.int)
  | _ => False
theorem dSortI {K : PySem.W.Frag} : DNew (rSortI K) fSortI := fun G H xs ds q Q s p hf k => by
  unfold fSortI at hf
  split at hf
  · obtain ⟨v, rfl, p1⟩ := reps_one p
    obtain ⟨a, xs, rfl, h1, h2⟩ := rep_lst_of p1
    obtain ⟨ns, rfl, hl, hq⟩ := hf
    rw [reps_ints_of h2] at h1
    exact ⟨a, ns, rfl, SqL.of (s _ _ h1), hl, fun l hl => k _ _ l hq (reps_ints _) hl⟩
  · exact hf.elim
noncomputable def fSum : List D → (D → Prop) → Prop := fun ds q => match ds with
  | [.lst xs] => ∃ ns : List Int, xs = ns.map D.int ∧ q (.int ns.sum)
  | _ => False
theorem dSum {K : PySem.W.Frag} : DCall (fun xs H Q => ∃ (p : Addr) (ns : List Int), xs = [.ref p] ∧ SqL K H p (ns.map V.int) ∧ Q (.int ns.sum) H) fSum := fun G H xs ds q Q s p hf k => by
  unfold fSum at hf
  split at hf
  · obtain ⟨v, rfl, p1⟩ := reps_one p
    obtain ⟨a, xs, rfl, h1, h2⟩ := rep_lst_of p1
    obtain ⟨ns, rfl, hq⟩ := hf
    rw [reps_ints_of h2] at h1
    exact ⟨a, ns, rfl, SqL.of (s _ _ h1), k _ _ hq (rep_int _)⟩
  · exact hf.elim

section
variable {C : Ctx} {ow : List Bool} {G : Hp} {ρ : DSt} {σ : St} {H : Hp} {pd : List (D × V)} {O : Own}
end
end L2

set_option Elab.async false
set_option linter.all false
set_option maxRecDepth 100000
set_option maxHeartbeats 1000000
namespace L2
open PySem PySem.Spec PyProof.Rows
section
variable {ow : List Bool} {t : TE} {m : ME}
end
section
variable {X : Cx} {M : Md} {a b c e : Expr} {ma mb mc : ME} {pos pos' : Pos} {mr : MA} {es : List Expr}


noncomputable def mSetN (i c : Nat) (mk m : ME) : MS := fun n ρ => m ρ fun d ρ1 => imm d = true ∧ match ρ1[i]? with
  | some (some (.tup es)) => match es[c]? with
    | some (.lst _) => mk ρ1 fun k ρ2 => match ρ2[i]? with
      | some (some (.tup es)) => match es[c]? with
        | some (.lst ds) => match k with
          | .int j => match ixN ds.length j with
            | some p => n.nx (ρ2.set i (some (.tup (es.set c (.lst (ds.set p d))))))
            | none => False
          | _ => False
        | _ => False
      | _ => False
    | _ => False
  | _ => False



noncomputable def mLRng (m : ME) : ME := fun ρ q => m ρ fun d ρ' => match d with
  | .int j => (0 ≤ j ∧ j ≤ 1000) ∧ q (.lst (rngD 0 j.toNat)) ρ'
  | _ => False
theorem rng_reps {G : Hp} (n : Nat) : Reps G (rngD 0 n) ((ranI 0 n).map V.int) := by
  have : rngD 0 n = (ranI 0 n).map D.int := by unfold rngD ranI; rw [List.map_map]; rfl
  rw [this]; exact reps_ints _
theorem imms_ints (ns : List Int) : imms (ns.map D.int) = true := by
  induction ns with
  | nil => rfl
  | cons n r ih => simp only [List.map, imms, imm, ih]; rfl
theorem imms_rng (n : Nat) : imms (rngD 0 n) = true := by
  have : rngD 0 n = (ranI 0 n).map D.int := by unfold rngD ranI; rw [List.map_map]; rfl
  rw [this]; exact imms_ints _
theorem qf_lrng {ow : List Bool} {x y : Str} {p1 p2 pos2 : Pos} (hc : X.calm = true) (hgl : Gl X x) (hml : X.mg x = none) (hvl : bootBuiltins x = some (.type "list")) (hgr : Gl X y) (hmr : X.mg y = none) (hvr : bootBuiltins y = some (.type "range")) (ha : QE X ow a ma)
    (hn1 : x ≠ "__name__" := by decide) (hd1 : (x == ("__debug__" : Str)) = false := by decide) (hn2 : y ≠ "__name__" := by decide) (hd2 : (y == ("__debug__" : Str)) = false := by decide)
    (hs1 : starEach [a] X.env = [(false, eval a X.env)] := by rfl) (hs2 : starEach [.Call (.Name y p2) [a] [] pos2] X.env = [(false, eval (.Call (.Name y p2) [a] [] pos2) X.env)] := by rfl) :
    QF X ow (.Call (.Name x p1) [.Call (.Name y p2) [a] [] pos2] [] pos) (mLRng ma) := by
  obtain ⟨t, p, s⟩ := ha
  refine ⟨_, pe_callTy (call_list_rng hc) hgl hml hvl (pa_cons (pe_callTy call_range1 hgr hmr hvr (pa_cons p pa_nil hs1) hn2 hd2 hs1 (by rfl)) pa_nil hs2) hn1 hd1 hs2 (by rfl), fun C G ρ σ H pd q Q r hm k => s C G ρ σ H pd _ _ r hm fun d ρ' v G' H' hq z kp r' p => ?_⟩
  cases d with
  | int j =>
    rw [rep_int_of p]
    refine ⟨j, rfl, fun b hb => ⟨b, j, rfl, upd_same, hq.1.1, hq.1.2, fun l hl => ?_⟩⟩
    obtain ⟨O, r'⟩ := r'
    obtain ⟨r2, z2⟩ := r'.new hb (.rng 0 j)
    exact k _ ρ' _ _ _ hq.2 (z.trans z2) kp (r2.newL hl (imms_rng _) (rng_reps _))
  | _ => exact hq.elim
end

noncomputable def mCut (m : MS) : MS := fun n ρ => ∃ I : DSt → Prop, m { n with nx := I } ρ ∧ ∀ ρ', I ρ' → n.nx ρ'
theorem qs_cut {X : Cx} {M : Md} {st : Stmt} {m : MS} (h : QS X M st m) : QS X M st (mCut m) := by
  obtain ⟨t, p, s⟩ := h
  refine ⟨_, p, fun C G ρ σ H n D hm hn r h k => ?_⟩
  obtain ⟨I, h1, h2⟩ := h
  exact s C G ρ σ H _ D hm hn r h1 ⟨fun ρ' σ' G' H' hi => k.nx ρ' σ' G' H' (h2 ρ' hi), k.bk, k.ct, k.rt⟩

mutual
theorem Sep.strip {G H : Hp} {O O' : Own} {i i' : Nat} {sfx : List Nat} :
    ∀ (d : D) (π : List Nat) (v : V), (∀ a τ, O a = some (i, (τ ++ π) ++ sfx) → O' a = some (i', τ ++ π)) → Sep G H O i d (π ++ sfx) v → Sep G H O' i' d π v
  | .non, _, _, _, h => by rw [Sep] at *; exact h
  | .bl b, _, _, _, h => by rw [Sep] at *; exact h
  | .int n, _, _, _, h => by rw [Sep] at *; exact h
  | .str x, _, _, _, h => by rw [Sep] at *; exact h
  | .tup ds, π, v, hO, h => by
    rw [Sep] at *
    obtain ⟨a, xs, h1, h2, h3⟩ := h
    exact ⟨a, xs, h1, h2, Seps.strip ds 0 π xs (fun a τ => hO a τ) h3⟩
  | .lst ds, π, v, hO, h => by
    rw [Sep] at *
    obtain ⟨a, xs, h1, h2, h3, h4⟩ := h
    exact ⟨a, xs, h1, hO a [] h2, h3, Seps.strip ds 0 π xs (fun a τ => hO a τ) h4⟩
  | .dct, _, _, _, h => by rw [Sep] at h; exact h.elim
  | .scr _ _, _, _, _, h => by rw [Sep] at h; exact h.elim
  | .ext _, _, _, _, h => by rw [Sep] at h; exact h.elim
theorem Seps.strip {G H : Hp} {O O' : Own} {i i' : Nat} {sfx : List Nat} :
    ∀ (ds : List D) (k : Nat) (π : List Nat) (xs : List V), (∀ a τ, O a = some (i, (τ ++ π) ++ sfx) → O' a = some (i', τ ++ π)) → Seps G H O i ds k (π ++ sfx) xs → Seps G H O' i' ds k π xs
  | [], _, _, _, _, h => by rw [Seps] at *; exact h
  | d :: ds, k, π, xs, hO, h => by
    rw [Seps] at *
    obtain ⟨v, vs, h1, h2, h3⟩ := h
    refine ⟨v, vs, h1, Sep.strip d (k :: π) v (fun a τ e => ?_) h2, Seps.strip ds (k + 1) π vs hO h3⟩
    have e' : τ ++ k :: π = (τ ++ [k]) ++ π := by simp
    rw [e'] at e ⊢
    exact hO a (τ ++ [k]) e
end
section
variable {C : Ctx} {ow : List Bool} {G : Hp} {ρ : DSt} {σ : St} {H : Hp} {pd : List (D × V)} {O : Own}
theorem RO.split {ds : List D} {v : V} (h : RO C ow G ρ σ H ((.tup ds, v) :: pd) O) (hn : C.np ≤ pd.length) : ∃ a xs, v = .ref a ∧ G a = some (.tup xs) ∧ xs.length = ds.length ∧ R C ow G ρ σ H (ds.zip xs ++ pd) := by
  obtain ⟨s, pn⟩ := h.pn
  rw [Sep] at s
  obtain ⟨a, xs, rfl, hG, hs⟩ := s
  have hl := hs.length
  refine ⟨a, xs, rfl, hG, hl, lab (fun l π => if l = 2 * pd.length + 1 then (2 * (pd.length + (ds.length - 1 - π.getLastD 0)) + 1, π.dropLast) else (l, π)) O, h.len, h.gh, h.g0, h.gn, ?_, h.cok, h.fr, h.al, h.mp, ?_, ?_, by simp; omega⟩
  · intro b m e
    obtain ⟨l, π, e1, rfl⟩ := lab_of e
    obtain ⟨q1, q2, q3⟩ := h.og b _ e1
    refine ⟨q1, q2, ?_⟩
    split
    · rename_i z
      rcases q3 with q3 | ⟨_, q3⟩
      · exact .inl q3
      · rcases h.cok _ _ _ q3 with ⟨k, _, q4, _⟩ | ⟨k, q4, q5⟩
        · exact absurd (q4.symm.trans z) even_ne
        · omega
    · exact q3
  · intro j e q
    obtain ⟨u, h1, h2⟩ := h.sl j e q
    refine ⟨u, h1, ?_⟩
    split at h2
    · rename_i c; rw [if_pos c]; exact h2.keep (fun _ _ z => z) fun a τ q => ⟨by rw [lab_at q, if_neg even_ne], rfl⟩
    · rename_i c; rw [if_neg c]; exact h2
  · have old : ∀ (O' : Own), (∀ b j π, j < pd.length → O b = some (2 * j + 1, π) → O' b = some (2 * j + 1, π)) → Pend G H O' pd := fun O' hO => Pend.keep (fun _ _ z => z) (fun b j π hj q => ⟨hO b j π hj q, rfl⟩) pn
    have key : ∀ (ds0 : List D) (k : Nat) (xs0 : List V) (O' : Own), k + ds0.length = ds.length → Seps G H O (2 * pd.length + 1) ds0 k [] xs0 →
        (∀ b j π, j < pd.length → O b = some (2 * j + 1, π) → O' b = some (2 * j + 1, π)) → (∀ b τ k', O b = some (2 * pd.length + 1, τ ++ [k']) → O' b = some (2 * (pd.length + (ds.length - 1 - k')) + 1, τ)) → Pend G H O' (ds0.zip xs0 ++ pd) := by
      intro ds0
      induction ds0 with
      | nil => intro k xs0 O' _ _ ho _; exact old O' ho
      | cons d0 r ih =>
        intro k xs0 O' hk hh ho hnw
        rw [Seps] at hh
        obtain ⟨w, ws, rfl, w1, w2⟩ := hh
        have hwl := w2.length
        refine ⟨?_, ih (k + 1) ws O' (by simp at hk; omega) w2 ho hnw⟩
        have e : (List.zip r ws ++ pd).length = pd.length + (ds.length - 1 - k) := by simp at hk ⊢; omega
        show Sep G H O' (2 * (List.zip r ws ++ pd).length + 1) d0 [] w
        rw [e]
        exact Sep.strip (sfx := [k]) d0 [] w (fun b τ q => by simpa using hnw b τ k (by simpa using q)) w1
    refine key ds 0 xs _ (by omega) hs (fun b j π hj q => by rw [lab_at q, if_neg (by omega)]) (fun b τ k' q => ?_)
    rw [lab_at q, if_pos rfl]
    simp
end

noncomputable def SGF (M : Md) (g : TGs) (m : MGs) : Prop := ∀ (C : Ctx) (G : Hp) (ρ : DSt) (σ : St) (H : Hp) (T pd : List (D × V)) (k : DSt → Prop) (K : St → Hp → Prop), MuOk C M.mu → C.np ≤ pd.length → R C M.ow G ρ σ H (T ++ pd) → m (T.map (·.1)) ρ k →
  (∀ ρ' σ' G', k ρ' → Same G G' → R C M.ow G' ρ' σ' H pd → K σ' H) → g (T.map (·.2)) σ H K
structure QGF (X : Cx) (M : Md) (e : List Expr) (m : MGs) : Prop where
  ex : ∃ t, PGs X e t ∧ SGF M t m
section
variable {X : Cx} {M : Md} {a b c e : Expr} {ma mb mc : ME} {pos pos' : Pos} {mr : MA} {es : List Expr} {mgs : MGs}
theorem qgf_nil : QGF X M [] gmNil := ⟨_, pgs_nil, fun C G ρ σ H T pd k K hm hn r h kk => by
  cases T with
  | nil => exact ⟨rfl, kk _ _ G h (Same.refl _) r⟩
  | cons _ _ => exact h.elim⟩
theorem qgf_own {i : Nat} {x : Str} (hN : X.N.Nodup) (hi : X.N[i]? = some x) (hx : Loc X.env.scope x) (h2 : QGF X M es mgs) (ho : M.ow[i]? = some true := by decide) (hu : M.mu[i]? ≠ some true := by decide) (hf : X.fn x = true ∨ X.env.scope.names.lookup x = some .local := by first | exact .inl rfl | exact .inr rfl | assumption)
    (hs : (assignEach (.Name x pos :: es) X.env).map (·.2) = assign (.Name x pos) X.env :: (assignEach es X.env).map (·.2) := by rfl) : QGF X M (.Name x pos :: es) (gmCons (gmName i) mgs) := by
  obtain ⟨t2, p2, s2⟩ := h2
  refine ⟨_, pgs_cons (pg_name hN hi hx hf) p2 hs, fun C G ρ σ H T pd k K hm hn r h kk => ?_⟩
  cases T with
  | nil => exact h.elim
  | cons x T =>
    obtain ⟨O, r⟩ := r
    exact ⟨_, _, rfl, s2 C G _ _ H T pd k K hm hn (r.setO ho (hm.no hu) (by simp; omega)) h kk⟩
theorem qgf_sh {i : Nat} {x : Str} (hN : X.N.Nodup) (hi : X.N[i]? = some x) (hx : Loc X.env.scope x) (h2 : QGF X M es mgs) (ho : M.ow[i]? ≠ some true := by decide) (hu : M.mu[i]? ≠ some true := by decide) (hf : X.fn x = true ∨ X.env.scope.names.lookup x = some .local := by first | exact .inl rfl | exact .inr rfl | assumption)
    (hs : (assignEach (.Name x pos :: es) X.env).map (·.2) = assign (.Name x pos) X.env :: (assignEach es X.env).map (·.2) := by rfl) : QGF X M (.Name x pos :: es) (gmCons (gmName i) mgs) := by
  obtain ⟨t2, p2, s2⟩ := h2
  refine ⟨_, pgs_cons (pg_name hN hi hx hf) p2 hs, fun C G ρ σ H T pd k K hm hn r h kk => ?_⟩
  cases T with
  | nil => exact h.elim
  | cons x T =>
    obtain ⟨O, r⟩ := r
    obtain ⟨G2, z2, ⟨O2, r2⟩, p⟩ := r.share (by simp; omega)
    exact ⟨_, _, rfl, s2 C G2 _ _ H T pd k K hm hn ⟨O2, r2.setS ho (hm.no hu) p⟩ h fun ρ' σ' G' hk z r' => kk ρ' σ' G' hk (z2.trans z) r'⟩
theorem qs_asgF {kk : Nat} {n : Nat} {tpos : Pos} (hc : X.calm = true) (he : QM X M e ma) (hg : QGF X M es mgs) (ht : takes n mgs)
    (hn : (assignEach es X.env).length = n := by rfl) (hst : (assignEach es X.env).findIdx? (·.1) = none := by rfl)
    (hs : swapsWithSole [.Tuple es kk tpos] e pos.line X.env = pure false := by rfl) (hw : swappedStores [.Tuple es kk tpos] e X.env = pure none := by rfl)
    (h1 : (assignEach [.Tuple es kk tpos] X.env).map (·.2) = [assign (.Tuple es kk tpos) X.env] := by rfl) : QS X M (.Assign [.Tuple es kk tpos] e pos) (mAsg ma (gmTup mgs)) := by
  obtain ⟨t, p, s⟩ := he; obtain ⟨t2, p2, s2⟩ := hg
  refine ⟨_, ps_asg p (pg_tup hc p2 hn hst) hs hw h1, fun C G ρ σ H n D hm hn r h k => s C G ρ σ H [] _ _ hm r h fun d ρ' v G' H' hq z r' => ?_⟩
  cases d with
  | tup ds =>
    obtain ⟨O, r'⟩ := r'
    obtain ⟨a, xs, rfl, h1, h2, r2⟩ := r'.split (by rw [hn]; exact Nat.zero_le _)
    have hl := ht _ _ _ hq
    have e1 : (ds.zip xs).map (·.1) = ds := List.map_fst_zip (by omega)
    have e2 : (ds.zip xs).map (·.2) = xs := List.map_snd_zip (by omega)
    refine ⟨a, xs, rfl, SqT.of (r2.gh _ _ h1), by omega, ?_⟩
    have := s2 C G' ρ' σ H' (ds.zip xs) [] n.nx D.nx hm (by rw [hn]; exact Nat.zero_le _) r2 (by rw [e1]; exact hq) fun ρ3 σ3 G3 h3 z3 r3 => k.nx ρ3 σ3 G3 H' h3 (z.trans z3) r3
    rw [e2] at this
    exact this
  | _ => exact hq.elim
end
end L2

set_option Elab.async false
set_option linter.all false
set_option maxRecDepth 100000
set_option maxHeartbeats 1000000
namespace L2
open PySem PySem.Spec PyProof.Rows

section
variable {X : Cx} {M : Md} {a b c e : Expr} {ma mb mc : ME} {pos pos' : Pos}
noncomputable def mAugI (i : Nat) (mk m : ME) : MS := fun n ρ => match ρ[i]? with
  | some (some (.lst _)) => mk ρ fun k ρ1 => match k with
    | .int j => match ρ1[i]? with
      | some (some (.lst ds)) => 0 ≤ j ∧ match atI ds j with
        | some (.int x) => m ρ1 fun d ρ2 => match d with
          | .int y => match ρ2[i]? with
            | some (some (.lst ds2)) => match ixN ds2.length j with
              | some p => n.nx (ρ2.set i (some (.lst (ds2.set p (.int (x + y))))))
              | none => False
            | _ => False
          | _ => False
        | _ => False
      | _ => False
    | _ => False
  | _ => False
end

noncomputable def compM (g : MG) (mt : MT) (me : ME) (ρ0 : DSt) (k0 : Nat) (ds : List D) (d0 : D) (K : List D → D → Prop) : Prop := ∃ I : Nat → List D → D → Prop, I 0 [] d0 ∧
  (∀ i x es d, ds[i]? = some x → I i es d → g x (ρ0.set k0 (some d)) fun ρ2 => mt ρ2 fun b ρ3 => if b = true then me ρ3 fun y ρ4 => (match ρ4[k0]? with | some (some d') => I (i + 1) (es ++ [y]) d' | _ => False) else match ρ3[k0]? with | some (some d') => I (i + 1) es d' | _ => False) ∧
  ∀ es d, I ds.length es d → K es d
noncomputable def mCompM (mi : MA) (g : MG) (mt : MT) (me : ME) (k : Nat) (js : List Nat) (j0 k0 : Nat) : ME := fun ρ q => mi ρ fun ds ρ1 => ds.length ≤ 1000 ∧ match ρ1[j0]? with
  | some (some d0) => compM g mt me (rho0 k js ρ1) k0 ds d0 fun es d => imms es = true ∧ q (.lst es) (ρ1.set j0 (some d))
  | _ => False

noncomputable def owM (k0 : Nat) : List Bool := List.replicate k0 false ++ [true]
theorem owM_iff {k0 i : Nat} : (owM k0)[i]? = some true ↔ i = k0 := by
  unfold owM
  by_cases h : i < k0
  · rw [List.getElem?_append_left (by simpa using h), List.getElem?_replicate, if_pos h]
    constructor
    · intro z; cases z
    · intro z; omega
  · rw [List.getElem?_append_right (by simpa using h), List.length_replicate]
    cases e : i - k0 with
    | zero => simp; omega
    | succ m => simp; omega
noncomputable def muM (k0 : Nat) (v : V) : List (Option V) := List.replicate k0 none ++ [some v]
theorem muM_iff {k0 i : Nat} {v w : V} (h : (muM k0 v)[i]? = some (some w)) : i = k0 ∧ w = v := by
  unfold muM at h
  by_cases c : i < k0
  · rw [List.getElem?_append_left (by simpa using c), List.getElem?_replicate, if_pos c] at h; cases h
  · rw [List.getElem?_append_right (by simpa using c), List.length_replicate] at h
    cases e : i - k0 with
    | zero => rw [e] at h; simp at h; exact ⟨by omega, h.symm⟩
    | succ m => rw [e] at h; simp at h
theorem muM_at (k0 : Nat) (v : V) : (muM k0 v)[k0]? = some (some v) := by unfold muM; rw [List.getElem?_append_right (by simp)]; simp
theorem rho0_of {k : Nat} {js : List Nat} {ρ : DSt} {i : Nat} {d : D} (e : (rho0 k js ρ)[i]? = some (some d)) : k ≤ i ∧ ∃ j, js[i - k]? = some j ∧ ρ[j]? = some (some d) := by
  unfold rho0 at e
  by_cases c : i < k
  · rw [List.getElem?_append_left (by simpa using c), List.getElem?_replicate] at e
    split at e <;> cases e
  · rw [List.getElem?_append_right (by simpa using c), List.getElem?_map] at e
    simp only [List.length_replicate] at e
    refine ⟨by omega, ?_⟩
    cases z : js[i - k]? with
    | none => rw [z] at e; cases e
    | some j =>
      rw [z] at e
      have e' : (ρ[j]?).getD none = some d := Option.some.inj e
      refine ⟨j, rfl, ?_⟩
      cases w : ρ[j]? with
      | none => rw [w] at e'; cases e'
      | some o => rw [w] at e'; exact congrArg some e'
theorem sig0_at {own : List Str} {js : List Nat} {σ : St} {i j : Nat} {v : V} (hi : own.length ≤ i) (hj : js[i - own.length]? = some j) (hv : σ[j]? = some (some v)) : (sig0 own js σ)[i]? = some (some v) := by
  unfold sig0
  rw [List.getElem?_append_right (by simpa using hi), List.getElem?_map]
  simp only [List.length_map]
  rw [hj, show (some j).map _ = some ((σ[j]?).getD none) from rfl, hv]; rfl
structure CGM (k0 n : Nat) (g : TG) (m : MG) : Prop where
  sg : SG ⟨owM k0, owM k0, false⟩ g m
  kp : KeepG n g
  mn : MonG g
theorem cgm_name {k0 n : Nat} (i : Nat) (h : i < n := by decide) (hk : n ≤ k0 := by decide) : CGM k0 n (gName i) (gmName i) :=
  ⟨fun C G ρ σ H pd d v k K hm r p hh kk => by
    have hn : (owM k0)[i]? ≠ some true := fun z => by have := owM_iff.mp z; omega
    obtain ⟨O, r⟩ := r; exact kk _ _ hh ⟨O, r.setS hn (hm.no hn) p⟩,
   fun σ0 h0 σ x H k hk hg => ⟨kept_set hk (h0 i h), hg⟩, fun x σ H k k' hk h => hk _ _ h⟩
theorem comp_soundM {ow : List Bool} {J : It} {g : TG} {mg : MG} {tt : TT} {mt : MT} {te : TE} {me : ME} {C : Ctx} {G : Hp} {ρ : DSt} {σ : St} {H : Hp} {pd : List (D × V)} {ds : List D} {own : List Str} {js : List Nat} {j0 k0 : Nat} {d0 : D} {K : List D → D → Prop} {Z : List V → Hp → Prop}
    (r : R C ow G ρ σ H pd) (ho : ow[j0]? = some true) (hk0 : own.length ≤ k0) (hjk : js[k0 - own.length]? = some j0) (hj : ∀ (i j : Nat), js[i]? = some j → i ≠ k0 - own.length → ow[j]? ≠ some true) (he : ρ[j0]? = some (some d0)) (jo : ItOk J G ds) (cg : CGM k0 own.length g mg) (st : STe (owM k0) tt mt) (se : SE (owM k0) te me)
    (hl : ds.length ≤ 1000) (h : compM mg mt me (rho0 own.length js ρ) k0 ds d0 K)
    (k : ∀ es d vs G' H', K es d → Same G G' → R C ow G' (ρ.set j0 (some d)) σ H' pd → Reps G' es vs → vs.length ≤ 1000 → Z vs H') : CompW J g tt te (sig0 own js σ) H Z := by
  obtain ⟨O, ro⟩ := r
  obtain ⟨v0, hv0, sv0⟩ := ro.sl j0 d0 he
  rw [if_pos ho] at sv0
  let fin : Nat → Option Nat := fun l => if l = 2 * j0 then some (2 * k0) else none
  let fbk : Nat → Option Nat := fun l => if l = 2 * k0 then some (2 * j0) else none
  let C1 : Ctx := ⟨G, H, ownM fin O, muM k0 v0, 0⟩
  let ρ0 := rho0 own.length js ρ
  have s0k : (sig0 own js σ)[k0]? = some (some v0) := sig0_at hk0 hjk hv0
  have r0l : k0 < ρ0.length := by
    have : k0 - own.length < js.length := (List.getElem?_eq_some_iff.mp hjk).1
    show k0 < (rho0 own.length js ρ).length
    unfold rho0; simp; omega
  have fino : ∀ l l', fin l = some l' → l = 2 * j0 ∧ l' = 2 * k0 := fun l l' e => by
    change (if l = 2 * j0 then _ else _) = _ at e
    split at e
    · rename_i c; exact ⟨c, (Option.some.inj e).symm⟩
    · cases e
  have finj : fin (2 * j0) = some (2 * k0) := by show (if _ then _ else _) = _; rw [if_pos rfl]
  -- the inner state, by the owned slot's value
  have inner : ∀ {G' : Hp} {H' : Hp} {O' : Own} {d : D}, Same G G' → Same G' H' → (∀ a o, G' a = some o → G a = some o ∨ H a = none) → (∀ a l, O' a = some l → G' a = none ∧ (∃ xs, H' a = some (.lst xs)) ∧ Nw C1 a l.1) →
      (∀ a o, H a = some o → ownM fin O a = none → H' a = some o) → (∀ a, H' a = none → H a = none) → Sep G' H' O' (2 * k0) d [] v0 → RO C1 (owM k0) G' (ρ0.set k0 (some d)) (sig0 own js σ) H' [] O' := by
    intro G' H' O' d z gh gn og fr al sp
    refine ⟨by rw [List.length_set]; show (rho0 own.length js ρ).length = _; unfold rho0 sig0; simp, gh, z, gn, og, ?_, fr, al, ?_, ?_, trivial, Nat.le_refl _⟩
    · intro a l π e
      obtain ⟨l0, e1, e2⟩ := ownM_of e
      obtain ⟨_, rfl⟩ := fino _ _ e2
      exact .inl ⟨k0, v0, rfl, muM_at k0 v0⟩
    · intro i w e
      obtain ⟨rfl, rfl⟩ := muM_iff e
      exact s0k
    · intro i d' e
      rcases set_at e with ⟨rfl, e'⟩ | ⟨hne, e'⟩
      · cases e'
        exact ⟨v0, s0k, by rw [if_pos (owM_iff.mpr rfl)]; exact sp⟩
      · obtain ⟨hi, j, h1, h2⟩ := rho0_of e'
        obtain ⟨v, g1, g2⟩ := ro.sl j d' h2
        rw [if_neg (hj _ j h1 (by omega))] at g2
        exact ⟨v, sig0_at hi h1 g1, by rw [if_neg (fun zz => hne (owM_iff.mp zz))]; exact g2.mono z⟩
  have og1 : ∀ a l, ownM fin O a = some l → G a = none ∧ (∃ xs, H a = some (.lst xs)) ∧ Nw C1 a l.1 := fun a l e => by
    obtain ⟨l', π⟩ := l
    obtain ⟨l0, e1, e2⟩ := ownM_of e
    obtain ⟨q1, q2, _⟩ := ro.og a _ e1
    exact ⟨q1, q2, .inr ⟨π, e⟩⟩
  have start : R C1 (owM k0) G (ρ0.set k0 (some d0)) (sig0 own js σ) H [] := ⟨_, inner (Same.refl _) ro.gh (fun _ _ e => .inl e) og1 (fun _ _ e _ => e) (fun _ e => e) (sv0.keep (fun _ _ z => z) fun a τ q => ⟨ownM_at q finj, rfl⟩)⟩
  obtain ⟨I, i0, turn, fini⟩ := h
  have hmu : MuOk C1 (owM k0) := fun i v e => by obtain ⟨rfl, _⟩ := muM_iff e; exact owM_iff.mpr rfl
  refine ⟨fun i m acc H' => m = ds.length - i ∧ i ≤ ds.length ∧ acc.length ≤ i ∧ ∃ G' es d, Same G G' ∧ R C1 (owM k0) G' (ρ0.set k0 (some d)) (sig0 own js σ) H' [] ∧ Reps G' es acc ∧ I i es d, ⟨_, rfl, Nat.zero_le _, Nat.le_refl _, G, [], d0, Same.refl _, start, reps_nil, i0⟩, ?_⟩
  rintro i m acc H' ⟨rfl, hi, ha, G', es, d, z, r', pa, w⟩
  obtain ⟨sp, go⟩ := jo C1 (owM k0) G' _ _ H' [] i z r'
  by_cases hlt : i < ds.length
  · obtain ⟨g1, g2⟩ := go ds[i] (List.getElem?_eq_getElem hlt)
    refine .inr ⟨g1, small1000 (by omega), fun acc' H2 => acc'.length ≤ i + 1 ∧ ∃ G2 es2 d2, Same G G2 ∧ R C1 (owM k0) G2 (ρ0.set k0 (some d2)) (sig0 own js σ) H2 [] ∧ Reps G2 es2 acc' ∧ I (i + 1) es2 d2, fun acc' H2 h => ⟨ds.length - (i + 1), by omega, rfl, hlt, h.1, h.2⟩, fun x H1 hy => ?_⟩
    obtain ⟨G1, z1, r1, p1⟩ := g2 x H1 hy
    have step1 := cg.sg C1 G1 _ _ H1 [] ds[i] x _ (fun σ2 H2 => ∃ ρ2, (mt ρ2 fun b ρ3 => if b = true then me ρ3 fun y ρ4 => (match ρ4[k0]? with | some (some d') => I (i + 1) (es ++ [y]) d' | _ => False) else match ρ3[k0]? with | some (some d') => I (i + 1) es d' | _ => False) ∧ R C1 (owM k0) G1 ρ2 σ2 H2 []) hmu r1 p1 (turn i ds[i] es d (List.getElem?_eq_getElem hlt) w) (fun ρ2 σ2 h2 r2 => ⟨ρ2, h2, r2⟩)
    refine cg.mn _ _ _ _ _ ?_ (cg.kp (sig0 own js σ) sig0_none (sig0 own js σ) x H1 _ (kept_refl _) step1)
    rintro σ2 H2 ⟨hkp, ρ2, h2, r2⟩
    refine ⟨hkp, st C1 G1 ρ2 σ2 H2 [] _ _ r2 h2 fun b ρ3 G3 H3 h3 z3 kp3 r3 => ?_⟩
    have bk : ∀ {G4 : Hp} {ρ4 : DSt} {H4 : Hp} {d' : D}, ρ4[k0]? = some (some d') → R C1 (owM k0) G4 ρ4 σ2 H4 [] → R C1 (owM k0) G4 (ρ0.set k0 (some d')) (sig0 own js σ) H4 [] := fun e4 ⟨O4, r4⟩ => by
      obtain ⟨v, q1, q2⟩ := r4.sl k0 _ e4
      rw [if_pos (owM_iff.mpr rfl)] at q2
      rw [kept_get hkp k0 v0 s0k] at q1
      cases q1
      exact ⟨O4, inner r4.g0 r4.gh r4.gn r4.og r4.fr r4.al q2⟩
    cases b with
    | true =>
      rw [if_pos rfl] at h3 ⊢
      refine se C1 G3 ρ3 σ2 H3 [] _ _ r3 h3 fun y ρ4 v G4 H4 h4 z4 kp4 r4 p4 => ?_
      split at h4
      · rename_i d' e4
        exact ⟨by simp; omega, G4, es ++ [y], d', z.trans (z1.trans (z3.trans z4)), bk e4 r4, reps_app (Reps.mono (z1.trans (z3.trans z4)) _ _ pa) (reps_cons p4 reps_nil), h4⟩
      · exact h4.elim
    | false =>
      rw [if_neg (by decide)] at h3 ⊢
      split at h3
      · rename_i d' e4
        exact ⟨by omega, G3, es, d', z.trans (z1.trans z3), bk e4 r3, Reps.mono (z1.trans z3) _ _ pa, h3⟩
      · exact h3.elim
  · have e : i = ds.length := by omega
    subst e
    refine .inl ⟨sp (Nat.le_refl _), le_line (by omega), ?_⟩
    obtain ⟨O2, r2⟩ := r'
    refine k es d acc G' H' (fini es d w) z ⟨ownB fin fbk O O2, ?_⟩ pa (by omega)
    refine ro.out (vs := []) r2 ?_ (by rw [List.length_set]; exact ro.len) ro.np ?_ ?_ fun O3 h1 h2 ts => ?_
    · intro l0 l' l e1 e2
      obtain ⟨rfl, rfl⟩ := fino _ _ e1
      change (if 2 * k0 = 2 * k0 then _ else _) = _ at e2
      rw [if_pos rfl] at e2
      exact (Option.some.inj e2).symm
    · intro i d' c e
      rcases set_at e with ⟨rfl, _⟩ | ⟨_, e'⟩
      · exact absurd ho c
      · exact e'
    · intro i d' c e
      rcases set_at e with ⟨rfl, e'⟩ | ⟨hne, e'⟩
      · cases e'
        exact .inr ⟨k0, v0, by show (if _ then _ else _) = _; rw [if_pos rfl], owM_iff.mpr rfl, by rw [List.getElem?_set_self r0l], hv0, s0k⟩
      · exact .inl ⟨by show (if _ then _ else _) = _; rw [if_neg (by omega)], e'⟩
    · exact Pend.keep ts (fun a j π hj e => h1 a _ _ e (by show (if _ then _ else _) = _; rw [if_neg (by omega)])) ro.pn
section
variable {X : Cx} {ow : List Bool} {elt tg iter : Expr} {ifs : List Expr} {pos : Pos} {mi : MA} {mg : MG} {mt : MT} {me : ME} {scope : Scope} {cl : List (Str × Addr)}
theorem comp_sfM {wi : TI} {g : TG} {own : List Str} {js : List Nat} {j0 k0 : Nat} (si : SI ow wi mi) (cg : CGM k0 own.length g mg) (ho : ow[j0]? = some true) (hk0 : own.length ≤ k0) (hjk : js[k0 - own.length]? = some j0) (hj : ∀ (i j : Nat), js[i]? = some j → i ≠ k0 - own.length → ow[j]? ≠ some true) :
    SF ow (tComp wi g (canT (owM k0) mt) (canE (owM k0) me) own js) (mCompM mi mg mt me own.length js j0 k0) := fun C G ρ σ H pd q Q r h k =>
  si C G ρ σ H pd _ _ r h fun ds ρ' G' H' J hq z kp r' jo => by
    obtain ⟨hl, hq⟩ := hq
    split at hq
    · rename_i d0 e0
      refine comp_soundM r' ho hk0 hjk hj e0 jo cg can_st can_se hl hq fun es d vs G2 H2 hK z2 r2 p2 hl p hp => ?_
      obtain ⟨O2, r2⟩ := r2
      exact k _ _ _ _ _ hK.2 (z.trans z2) (kp.trans fun j hj => List.getElem?_set_ne (fun (zz : j0 = j) => hj (zz ▸ ho))) (r2.newL hp hK.1 p2)
    · exact hq.elim
structure CInnM (X : Cx) (k0 : Nat) (tg : Expr) (ifs : List Expr) (elt : Expr) (g : TG) (mt : MT) (me : ME) : Prop where
  pg : PG X tg g
  qi : QIf X (owM k0) ifs mt
  qe : QE X (owM k0) elt me
theorem qf_compM {g : TG} (own : List Str) (js : List Nat) (j0 k0 : Nat) (c : CompOk X scope cl own js) (hc : X.calm = true) (hi : QI X ow tg iter mi) (cg : CGM k0 own.length g mg)
    (inner : ∀ (C : Addr) (s₀ : Shared) (H₀ : Hp) (ex : List Addr), CInnM (compCx X scope cl (nam0 X own js) C s₀ H₀ ex) k0 tg ifs elt g mt me) (ho : ow[j0]? = some true := by decide) (hk0 : own.length ≤ k0 := by decide) (hjk : js[k0 - own.length]? = some j0 := by rfl)
    (hj : (js.mapIdx fun i j => decide (i = k0 - own.length) || !decide (ow[j]? = some true)).all id = true := by decide)
    (hs : ∀ x, foldedSetIterable iter X.env x = pure x := by intro _; rfl) : QF X ow (.ListComp elt [⟨tg, iter, ifs, 0⟩] scope pos) (mCompM mi mg mt me own.length js j0 k0) := by
  obtain ⟨wi, pi, si⟩ := hi
  have hj' : ∀ (i j : Nat), js[i]? = some j → i ≠ k0 - own.length → ow[j]? ≠ some true := fun i j e hne z => by
    rw [List.all_eq_true] at hj
    have := hj (decide (i = k0 - own.length) || !decide (ow[j]? = some true)) (List.mem_of_getElem? (i := i) (by rw [List.getElem?_mapIdx, e]; rfl))
    simp [hne, z] at this
  exact ⟨_, pe_comp own js c hc pi (fun C s₀ H₀ ex => ⟨(inner C s₀ H₀ ex).pg, (inner C s₀ H₀ ex).qi.can, (inner C s₀ H₀ ex).qe.can⟩) hs, comp_sfM si cg ho hk0 hjk hj'⟩
end
end L2

set_option Elab.async false
set_option linter.all false
set_option maxRecDepth 100000
set_option maxHeartbeats 1000000
namespace L2
open PySem PySem.Spec PyProof.Rows

section
variable {X : Cx} {M : Md} {a b c e : Expr} {ma mb mc : ME} {pos pos' p1 p2 p3 : Pos} {te : TE} {j1 : Nat} {ow : List Bool}

end
end L2

set_option Elab.async false
set_option linter.all false
set_option maxRecDepth 100000
set_option maxHeartbeats 1000000
namespace L2
open PySem PySem.Spec PyProof.Rows

noncomputable def isW : D → Bool
  | .int _ => true
  | _ => false
noncomputable def btw (lo hi : Int) : D → Bool
  | .int i => decide (lo ≤ i) && decide (i ≤ hi)
  | _ => false

structure Tree (ps rs : List Int) : Prop where
  len : ps.length = rs.length
  lo : 1 ≤ ps.length
  hi : ps.length ≤ 23
  par : ∀ (i : Nat) (x : Int), ps[i]? = some x → 0 ≤ x ∧ x ≤ i
  room : ∀ (i : Nat) (x : Int), rs[i]? = some x → 1 ≤ x ∧ x ≤ 1000000
noncomputable def sdWhole : SpD := fun ds q => ∃ d, ds = [d] ∧ d.isS = false ∧ q (.bl (isW d)) []
noncomputable def sdBetween : SpD := fun ds q => ∃ d lo hi, ds = [d, .int lo, .int hi] ∧ d.isS = false ∧ q (.bl (btw lo hi d)) []
noncomputable def sdTwoP : SpD := fun ds q => ∃ ps rs, ds = [dPair ps rs] ∧ Tree ps rs ∧ q (.bl true) []
noncomputable def sdLook : SpD := fun ds q => ∃ ps rs, ds = [dPair ps rs] ∧ Tree ps rs ∧ q .non []
noncomputable def cellZ (ns : List Int) (k : Int) : Int := ns.getD k.toNat 0
noncomputable def ScrOk (K : PySem.W.Frag) (φ : Addr → Prop) (ns : List Int) : Prop := ∀ a H, φ a → SqL K H a (ns.map V.int)
noncomputable def sdCell (K : PySem.W.Frag) : SpD := fun ds q => ∃ φ ns k, ds = [.scr φ ns, .int k] ∧ ScrOk K φ ns ∧ 0 ≤ k ∧ q (.int (cellZ ns k)) []
noncomputable def sdTake : SpD := fun ds q => ∃ c m many, ds = [dInts [c, m], .int many] ∧ 0 ≤ c ∧ 0 < many ∧ Sm many ∧ ∀ r c' m', 0 ≤ r → r < many → 0 ≤ c' → q (.int r) [some (dInts [c', m'])]
noncomputable def sdLaw (K : PySem.W.Frag) : SpD := fun ds q => ∃ φ ns, ds = [.scr φ ns] ∧ ScrOk K φ ns ∧ ns.length ≤ 63 ∧ q (.bl true) []

noncomputable def spLaw (K : PySem.W.Frag) : Sp := fun vs H Q _ => ∃ (a : Addr) (ns : List Int), vs = [.ref a] ∧ Only H ∧ SqL K H a (ns.map V.int) ∧ ns.length ≤ 63 ∧ ∀ H', Q (.bl true) H'
theorem spLaw_of {K : PySem.W.Frag} {vs : List V} {H : Hp} {Q : VK} {E : XK} (h : spLaw K vs H Q E) : spOf [false] false (sdLaw K) vs H Q E := by
  obtain ⟨a, ns, rfl, hO, hS, hl, hq⟩ := h
  have main : ∀ φ : Addr → Prop, ScrOk K φ ns → Rep H (.scr φ ns) (.ref a) → spOf [false] false (sdLaw K) [.ref a] H Q E := fun φ hφ r => by
    refine ⟨⟨H, H, fun _ => none, [none], 0⟩, H, [.scr φ ns], fun d _ => d = .bl true, rfl, rfl, ⟨fun _ => none, rfl, Same.refl _, Same.refl _, fun _ _ e => .inl e, fun a l e => by (first | cases e), fun a l π e => by (first | cases e), fun _ _ e _ => e, fun _ e => e, fun i v e => ?_, ?_, trivial, Nat.le_refl _⟩, ⟨φ, ns, rfl, hφ, hl, rfl⟩, rfl, ?_⟩
    · cases i with
      | zero => simp at e
      | succ i => simp at e
    · intro i d e
      cases i with
      | zero => simp at e; subst e; exact ⟨_, rfl, by simpa using r⟩
      | succ i => simp at e
    · intro d ρ' σ' v G' H' hd _ _ hr
      subst hd
      unfold Ret at hr
      rw [if_neg (by decide)] at hr
      rw [rep_bl_of hr.2]
      exact hq H'
  rcases hS with (h1 | ⟨o, h1⟩) | h1
  · rcases hO a with z | ⟨o, xs, z⟩
    · rw [h1] at z; cases z
    · rw [h1] at z; cases z
  · exact main (fun _ => False) (fun _ _ z => z.elim) (by rw [Rep]; exact ⟨a, rfl, .inl ⟨o, h1⟩⟩)
  · exact main (fun b => b = a) (fun b H' z => by subst z; exact .inr h1) (by rw [Rep]; exact ⟨a, rfl, .inr rfl⟩)
theorem atI_ints {ns : List Int} {k : Int} (h0 : 0 ≤ k) (h1 : k < ns.length) : atI (ns.map D.int) k = some (.int (ns.getD k.toNat 0)) := by
  have ek : k = ((k.toNat : Nat) : Int) := by omega
  have hl : k.toNat < ns.length := by omega
  have : atI (ns.map D.int) ((k.toNat : Nat) : Int) = some (.int (ns.getD k.toNat 0)) := atI_nat (by rw [List.getElem?_map, List.getD_eq_getElem?_getD, List.getElem?_eq_getElem hl]; rfl)
  rw [← ek] at this
  exact this
theorem atI_ns {ns : List Int} {k : Int} (h0 : 0 ≤ k) (h1 : k < ns.length) : atI ns k = some (ns.getD k.toNat 0) := by
  have ek : k = ((k.toNat : Nat) : Int) := by omega
  have hl : k.toNat < ns.length := by omega
  have : atI ns ((k.toNat : Nat) : Int) = some (ns.getD k.toNat 0) := atI_nat (by rw [List.getD_eq_getElem?_getD, List.getElem?_eq_getElem hl]; rfl)
  rw [← ek] at this
  exact this
theorem atD_of {ds : List D} {k : Int} {d : D} {q : D → Prop} (h : atI ds k = some d) (hq : q d) : atD ds k q := by unfold atD; rw [h]; exact hq
theorem map_at {ns : List Int} {i : Nat} {d : D} (h : (ns.map D.int)[i]? = some d) : ∃ z, ns[i]? = some z ∧ d = .int z := by
  rw [List.getElem?_map] at h
  cases e : ns[i]? with
  | none => rw [e] at h; cases h
  | some z => rw [e] at h; exact ⟨z, rfl, (Option.some.inj h).symm⟩
theorem btw_int {lo hi z : Int} (h1 : lo ≤ z) (h2 : z ≤ hi) : btw lo hi (.int z) = true := by show (decide (lo ≤ z) && decide (z ≤ hi)) = true; rw [decide_eq_true h1, decide_eq_true h2]; rfl
end L2

set_option Elab.async false
set_option linter.all false
set_option maxRecDepth 100000
set_option maxHeartbeats 1000000
namespace L2
open PySem PySem.Spec PyProof.Rows

noncomputable abbrev parZ (ps : List Int) (k : Int) : Int := ps.getD (k - 1).toNat 0
theorem Tree.up {ps rs : List Int} (hT : Tree ps rs) {k : Int} (h0 : 0 < k) (h1 : k ≤ ps.length) : 0 ≤ parZ ps k ∧ parZ ps k < k := by
  have hl : (k - 1).toNat < ps.length := by omega
  have e : ps[(k - 1).toNat]? = some (parZ ps k) := by unfold parZ; rw [List.getD_eq_getElem?_getD, List.getElem?_eq_getElem hl]; rfl
  have := hT.par _ _ e
  omega
inductive Up (ps : List Int) : Int → List Int → Prop
  | zero : Up ps 0 [0]
  | step {k : Int} {u : List Int} (h : 0 < k) : Up ps (parZ ps k) u → Up ps k (k :: u)
theorem Up.det {ps : List Int} {k : Int} {u : List Int} (h : Up ps k u) : ∀ {v : List Int}, Up ps k v → u = v := by
  induction h with
  | zero => intro v h; cases h with | zero => rfl | step h0 _ => omega
  | step h0 _ ih => intro v h; cases h with | zero => omega | step _ h => rw [ih h]
theorem Up.le {ps rs : List Int} (hT : Tree ps rs) {k : Int} {u : List Int} (h : Up ps k u) : k ≤ ps.length → ∀ x ∈ u, 0 ≤ x ∧ x ≤ k := by
  induction h with
  | zero => intro _ x hx; simp at hx; omega
  | step h0 _ ih =>
    intro h1 x hx
    have hp := hT.up h0 h1
    rcases List.mem_cons.mp hx with rfl | hx
    · omega
    · have := ih (by omega) x hx; omega
theorem Up.head {ps : List Int} {k : Int} {u : List Int} (h : Up ps k u) : k ∈ u := by cases h <;> simp
inductive Climb (ps : List Int) : Int → Int → List Int → Int → Prop
  | same (a : Int) : Climb ps a a [] a
  | left {a b : Int} {w : List Int} {m : Int} (h : b < a) : Climb ps b (parZ ps a) w m → Climb ps a b (a :: w) m
  | right {a b : Int} {w : List Int} {m : Int} (h : a < b) : Climb ps a (parZ ps b) w m → Climb ps a b (b :: w) m
theorem Climb.meet {ps rs : List Int} (hT : Tree ps rs) {a b m : Int} {w : List Int} (h : Climb ps a b w m) : 0 ≤ a → 0 ≤ b → a ≤ ps.length → b ≤ ps.length → ∀ {ua ub : List Int}, Up ps a ua → Up ps b ub → m ∈ ua ∧ m ∈ ub ∧ ∀ x ∈ ua, x ∈ ub → x ≤ m := by
  induction h with
  | same a => intro a0 _ a1 _ ua ub ha hb; have := ha.det hb; subst this; exact ⟨ha.head, ha.head, fun x hx _ => (ha.le hT a1 x hx).2⟩
  | left hlt hc ih =>
    intro a0 b0 a1 b1 ua ub ha hb
    cases ha with
    | zero => omega
    | step h0 hu =>
      have hp := hT.up h0 a1
      obtain ⟨m1, m2, m3⟩ := ih b0 hp.1 b1 (by omega) hb hu
      refine ⟨List.mem_cons_of_mem _ m2, m1, fun x hx hxb => ?_⟩
      rcases List.mem_cons.mp hx with rfl | hx
      · have := (hb.le hT b1 _ hxb).2; omega
      · exact m3 x hxb hx
  | right hlt hc ih =>
    intro a0 b0 a1 b1 ua ub ha hb
    cases hb with
    | zero => omega
    | step h0 hu =>
      have hp := hT.up h0 b1
      obtain ⟨m1, m2, m3⟩ := ih a0 hp.1 a1 (by omega) ha hu
      refine ⟨m1, List.mem_cons_of_mem _ m2, fun x hx hxb => ?_⟩
      rcases List.mem_cons.mp hxb with rfl | hxb
      · have := (ha.le hT a1 _ hx).2; omega
      · exact m3 x hx hxb
theorem Climb.low {ps rs : List Int} (hT : Tree ps rs) {a b m : Int} {w : List Int} (h : Climb ps a b w m) : 0 ≤ a → 0 ≤ b → a ≤ ps.length → b ≤ ps.length → 0 ≤ m ∧ m ≤ a ∧ m ≤ b := by
  induction h with
  | same a => intro a0 _ _ _; omega
  | left hlt hc ih => intro a0 b0 a1 b1; have hp := hT.up (show 0 < _ by omega) a1; have := ih b0 hp.1 b1 (by omega); omega
  | right hlt hc ih => intro a0 b0 a1 b1; have hp := hT.up (show 0 < _ by omega) b1; have := ih a0 hp.1 a1 (by omega); omega
theorem Climb.mem {ps rs : List Int} (hT : Tree ps rs) {a b m : Int} {w : List Int} (h : Climb ps a b w m) : 0 ≤ a → 0 ≤ b → a ≤ ps.length → b ≤ ps.length → ∀ x ∈ w, 0 < x ∧ x ≤ ps.length := by
  induction h with
  | same a => intro _ _ _ _ x hx; cases hx
  | left hlt hc ih =>
    intro a0 b0 a1 b1 x hx
    have hp := hT.up (show 0 < _ by omega) a1
    rcases List.mem_cons.mp hx with rfl | hx
    · omega
    · exact ih b0 hp.1 b1 (by omega) x hx
  | right hlt hc ih =>
    intro a0 b0 a1 b1 x hx
    have hp := hT.up (show 0 < _ by omega) b1
    rcases List.mem_cons.mp hx with rfl | hx
    · omega
    · exact ih a0 hp.1 a1 (by omega) x hx
theorem Climb.len {ps rs : List Int} (hT : Tree ps rs) {a b m : Int} {w : List Int} (h : Climb ps a b w m) : 0 ≤ a → 0 ≤ b → a ≤ ps.length → b ≤ ps.length → (w.length : Int) ≤ a + b := by
  induction h with
  | same a => intro _ _ _ _; simp; omega
  | left hlt hc ih => intro a0 b0 a1 b1; have hp := hT.up (show 0 < _ by omega) a1; have := ih b0 hp.1 b1 (by omega); simp; omega
  | right hlt hc ih => intro a0 b0 a1 b1; have hp := hT.up (show 0 < _ by omega) b1; have := ih a0 hp.1 a1 (by omega); simp; omega
theorem Climb.det {ps : List Int} {a b m : Int} {w : List Int} (h : Climb ps a b w m) : ∀ {m' : Int} {w' : List Int}, Climb ps a b w' m' → w = w' ∧ m = m' := by
  induction h with
  | same a => intro m' w' h; cases h with | same => exact ⟨rfl, rfl⟩ | left h _ => omega | right h _ => omega
  | left hlt hc ih => intro m' w' h; cases h with | same => omega | left _ h => have := ih h; exact ⟨by rw [this.1], this.2⟩ | right h _ => omega
  | right hlt hc ih => intro m' w' h; cases h with | same => omega | right _ h => have := ih h; exact ⟨by rw [this.1], this.2⟩ | left h _ => omega

structure Ends2 (ps : List Int) (a b : Int) : Prop where
  a0 : 0 ≤ a
  a1 : a ≤ ps.length
  b0 : 0 ≤ b
  b1 : b ≤ ps.length
  ne : a ≠ b
noncomputable def sdPlace : SpD := fun ds q => ∃ ps rs d, ds = [dPair ps rs, d] ∧ d.isS = false ∧ q (.bl (btw 0 ps.length d)) []
noncomputable def sdEnds : SpD := fun ds q => ∃ ps rs a b, ds = [dPair ps rs, .int a, .int b] ∧ Ends2 ps a b ∧ q (.bl true) []
noncomputable def sdLookEnds : SpD := fun ds q => ∃ ps rs a b, ds = [dPair ps rs, .int a, .int b] ∧ Tree ps rs ∧ Ends2 ps a b ∧ q .non []
noncomputable def sdClimb : SpD := fun ds q => ∃ ps rs a b, ds = [dPair ps rs, .int a, .int b] ∧ Tree ps rs ∧ 0 ≤ a ∧ a ≤ ps.length ∧ 0 ≤ b ∧ b ≤ ps.length ∧ ∀ w m, Climb ps a b w m → q (.tup [dInts (sortZ w), .int m]) []
noncomputable def sdWay : SpD := fun ds q => ∃ ps rs a b, ds = [dPair ps rs, .int a, .int b] ∧ Tree ps rs ∧ Ends2 ps a b ∧ ∀ w m, Climb ps a b w m → q (dInts (sortZ w)) []
theorem ints_snoc (ps : List Int) (y : Int) : D.lst (ps.map D.int ++ [D.int y]) = dInts (ps ++ [y]) := by unfold dInts; rw [List.map_append]; rfl
theorem len_ints (ps : List Int) : (ps.map D.int).length = ps.length := List.length_map _
theorem getD_mem {ns : List Int} {k : Nat} (h : k < ns.length) : ns.getD k 0 ∈ ns := by rw [List.getD_eq_getElem?_getD, List.getElem?_eq_getElem h]; exact List.getElem_mem h
theorem snoc_at {P : Nat → Int → Prop} {ps : List Int} {y : Int} (h : ∀ (j : Nat) (x : Int), ps[j]? = some x → P j x) (hy : P ps.length y) : ∀ (j : Nat) (x : Int), (ps ++ [y])[j]? = some x → P j x := by
  intro j x hj
  by_cases hjl : j < ps.length
  · rw [List.getElem?_append_left hjl] at hj; exact h j x hj
  · rw [List.getElem?_append_right (by omega)] at hj
    cases e : j - ps.length with
    | zero => rw [e] at hj; have : y = x := by simpa using hj
              subst this; rw [show j = ps.length by omega]; exact hy
    | succ q => rw [e] at hj; simp at hj
theorem mem_ints {ns : List Int} {d : D} (h : d ∈ ns.map D.int) : ∃ x ∈ ns, d = .int x := by
  obtain ⟨x, h1, h2⟩ := List.mem_map.mp h
  exact ⟨x, h1, h2.symm⟩
theorem okD_ints (ns : List Int) : okD (dInts ns) = true := shaped_ints ns
theorem eqDi (ns ms : List Int) : eqD (dInts ns) (dInts ms) = decide (ns = ms) := eqD_ints ns ms
end L2

set_option Elab.async false
set_option linter.all false
set_option maxRecDepth 100000
set_option maxHeartbeats 1000000
namespace L2
open PySem PySem.Spec PyProof.Rows

noncomputable def lay : Nat → D → Bool
  | _, .int _ => true
  | _, .bl _ => true
  | _, .non => true
  | n + 1, .tup ds => ds.all (lay n)
  | n + 1, .lst ds => ds.all (lay n)
  | _, _ => false
theorem lay_all {n : Nat} (ih : ∀ d, lay n d = true → (toP d).canLay0 = true ∧ (toP d).depth ≤ n + 1) : ∀ ds : List D, ds.all (lay n) = true → PyData.canLayAll0 (toPs ds) = true ∧ PyData.depthAll (toPs ds) ≤ n + 1
  | [], _ => by rw [toPs]; simp [PyData.canLayAll0, PyData.depthAll]
  | d :: ds, h => by
    rw [List.all_cons, Bool.and_eq_true] at h
    have h1 := ih d h.1
    have h2 := lay_all ih ds h.2
    rw [toPs]
    simp only [PyData.canLayAll0, PyData.depthAll, h1.1, h2.1, Bool.and_self, true_and]
    omega
theorem lay_ok : ∀ (n : Nat) (d : D), lay n d = true → (toP d).canLay0 = true ∧ (toP d).depth ≤ n + 1
  | n, .int _, _ => by rw [toP]; simp [PyData.canLay0, PyData.depth]
  | n, .bl _, _ => by rw [toP]; simp [PyData.canLay0, PyData.depth]
  | n, .non, _ => by rw [toP]; simp [PyData.canLay0, PyData.depth]
  | n + 1, .tup ds, h => by
    have := lay_all (lay_ok n) ds (by simpa [lay] using h)
    rw [toP]; simp only [PyData.canLay0, PyData.depth, this.1, true_and]; omega
  | n + 1, .lst ds, h => by
    have := lay_all (lay_ok n) ds (by simpa [lay] using h)
    rw [toP]; simp only [PyData.canLay0, PyData.depth, this.1, true_and]; omega
  | 0, .tup _, h => by simp [lay] at h
  | 0, .lst _, h => by simp [lay] at h
  | n, .str _, h => by cases n <;> simp [lay] at h
  | n, .dct, h => by cases n <;> simp [lay] at h
  | n, .scr _ _, h => by cases n <;> simp [lay] at h
  | n, .ext _, h => by cases n <;> simp [lay] at h
theorem okD_lay {n : Nat} {d : D} (h : lay n d = true) (hn : n ≤ 60) : okD d = true := by
  have := lay_ok n d h
  unfold okD SeqAt.shaped
  rw [this.1, Bool.true_and]
  exact decide_eq_true (by omega)
theorem eqv_all {n : Nat} (ih : ∀ d, lay n d = true → PyData.eqv (toP d) (toP d) = true) : ∀ ds : List D, ds.all (lay n) = true → PyData.eqvAll (toPs ds) (toPs ds) = true
  | [], _ => by rw [toPs]; simp [PyData.eqvAll]
  | d :: ds, h => by
    rw [List.all_cons, Bool.and_eq_true] at h
    rw [toPs, PyData.eqvAll, ih d h.1, eqv_all ih ds h.2]; rfl
theorem eqD_self : ∀ (n : Nat) (d : D), lay n d = true → eqD d d = true
  | n, .int _, _ => by unfold eqD; rw [toP, PyData.eqv]; simp
  | n, .bl _, _ => by unfold eqD; rw [toP, PyData.eqv]; simp
  | n, .non, _ => by unfold eqD; rw [toP, PyData.eqv]
  | n + 1, .tup ds, h => by unfold eqD; rw [toP, PyData.eqv]; exact eqv_all (eqD_self n) ds (by simpa [lay] using h)
  | n + 1, .lst ds, h => by unfold eqD; rw [toP, PyData.eqv]; exact eqv_all (eqD_self n) ds (by simpa [lay] using h)
  | 0, .tup _, h => by simp [lay] at h
  | 0, .lst _, h => by simp [lay] at h
  | n, .str _, h => by cases n <;> simp [lay] at h
  | n, .dct, h => by cases n <;> simp [lay] at h
  | n, .scr _ _, h => by cases n <;> simp [lay] at h
  | n, .ext _, h => by cases n <;> simp [lay] at h
theorem lay_ints0 (n : Nat) (ns : List Int) : (ns.map D.int).all (lay n) = true := by
  rw [List.all_eq_true]; intro d hd; obtain ⟨x, _, rfl⟩ := mem_ints hd; cases n <;> rfl

structure Ask where
  one : Int
  other : Int
  size : Int
  worth : Int
noncomputable def dAsk (a : Ask) : D := .tup [.int a.one, .int a.other, .int a.size, .int a.worth]
noncomputable def dAsks (as : List Ask) : D := .lst (as.map dAsk)
structure AskOk (ps : List Int) (a : Ask) : Prop where
  ends : Ends2 ps a.one a.other
  s0 : 1 ≤ a.size
  s1 : a.size ≤ 1000000
  w0 : 1 ≤ a.worth
  w1 : a.worth ≤ 1000000000000
structure AsksOk (ps : List Int) (as : List Ask) : Prop where
  len : as.length ≤ 30
  ok : ∀ a ∈ as, AskOk ps a
theorem lay_dAsks (n : Nat) (as : List Ask) : lay (n + 2) (dAsks as) = true := by
  unfold dAsks; rw [lay, List.all_eq_true]; intro d hd
  obtain ⟨a, _, rfl⟩ := List.mem_map.mp hd
  rw [dAsk, lay]
  exact lay_ints0 n [a.one, a.other, a.size, a.worth]
theorem asks_at {as : List Ask} {i : Nat} {d : D} (h : (as.map dAsk)[i]? = some d) : ∃ a, as[i]? = some a ∧ d = dAsk a := by
  rw [List.getElem?_map] at h
  cases e : as[i]? with
  | none => rw [e] at h; cases h
  | some z => rw [e] at h; exact ⟨z, rfl, (Option.some.inj h).symm⟩
noncomputable def ask0 : Ask := ⟨0, 0, 0, 0⟩
theorem atI_asks {as : List Ask} {k : Int} (h0 : 0 ≤ k) (h1 : k < as.length) : atI (as.map dAsk) k = some (dAsk (as.getD k.toNat ask0)) := by
  have ek : k = ((k.toNat : Nat) : Int) := by omega
  have hl : k.toNat < as.length := by omega
  have : atI (as.map dAsk) ((k.toNat : Nat) : Int) = some (dAsk (as.getD k.toNat ask0)) := atI_nat (by rw [List.getElem?_map, List.getD_eq_getElem?_getD, List.getElem?_eq_getElem hl]; rfl)
  rw [← ek] at this
  exact this
theorem getD_ask {as : List Ask} {k : Nat} (h : k < as.length) : as.getD k ask0 ∈ as := by rw [List.getD_eq_getElem?_getD, List.getElem?_eq_getElem h]; exact List.getElem_mem h
theorem len_asks (as : List Ask) : (as.map dAsk).length = as.length := List.length_map _
theorem asks_snoc (as : List Ask) (a : Ask) : D.lst (as.map dAsk ++ [dAsk a]) = dAsks (as ++ [a]) := by unfold dAsks; rw [List.map_append]; rfl
noncomputable def sdIsAsk : SpD := fun ds q => ∃ ps rs a, ds = [dPair ps rs, dAsk a] ∧ AskOk ps a ∧ q (.bl true) []
noncomputable def sdLookAsks : SpD := fun ds q => ∃ ps rs as, ds = [dPair ps rs, dAsks as] ∧ Tree ps rs ∧ AsksOk ps as ∧ q .non []

noncomputable def climbW (ps : List Int) : Nat → Int → Int → List Int
  | 0, _, _ => []
  | f + 1, a, b => if b < a then a :: climbW ps f b (parZ ps a) else if a < b then b :: climbW ps f a (parZ ps b) else []
noncomputable def climbM (ps : List Int) : Nat → Int → Int → Int
  | 0, a, _ => a
  | f + 1, a, b => if b < a then climbM ps f b (parZ ps a) else if a < b then climbM ps f a (parZ ps b) else a
theorem climb_is {ps rs : List Int} (hT : Tree ps rs) : ∀ (f : Nat) (a b : Int), (a + b).toNat ≤ f → 0 ≤ a → 0 ≤ b → a ≤ ps.length → b ≤ ps.length → Climb ps a b (climbW ps f a b) (climbM ps f a b)
  | 0, a, b, hf, a0, b0, _, _ => by
    have : a = b := by omega
    subst this
    exact .same a
  | f + 1, a, b, hf, a0, b0, a1, b1 => by
    unfold climbW climbM
    by_cases h1 : b < a
    · rw [if_pos h1, if_pos h1]
      have hp := hT.up (show 0 < a by omega) a1
      exact .left h1 (climb_is hT f b _ (by omega) b0 hp.1 b1 (by omega))
    · rw [if_neg h1, if_neg h1]
      by_cases h2 : a < b
      · rw [if_pos h2, if_pos h2]
        have hp := hT.up (show 0 < b by omega) b1
        exact .right h2 (climb_is hT f a _ (by omega) a0 hp.1 a1 (by omega))
      · rw [if_neg h2, if_neg h2]
        have : a = b := by omega
        subst this
        exact .same a

noncomputable def wayZ (ps : List Int) (a b : Int) : List Int := sortZ (climbW ps 100 a b)
noncomputable def meetZ (ps : List Int) (a b : Int) : Int := climbM ps 100 a b
theorem Climb.way {ps rs : List Int} (hT : Tree ps rs) {a b m : Int} {w : List Int} (h : Climb ps a b w m) (a0 : 0 ≤ a) (b0 : 0 ≤ b) (a1 : a ≤ ps.length) (b1 : b ≤ ps.length) : sortZ w = wayZ ps a b ∧ m = meetZ ps a b := by
  have hi := hT.hi
  have := h.det (climb_is hT 100 a b (by omega) a0 b0 a1 b1)
  exact ⟨by rw [this.1]; rfl, this.2⟩
theorem way_climb {ps rs : List Int} (hT : Tree ps rs) {a b : Int} (a0 : 0 ≤ a) (b0 : 0 ≤ b) (a1 : a ≤ ps.length) (b1 : b ≤ ps.length) : ∃ w, Climb ps a b w (meetZ ps a b) ∧ wayZ ps a b = sortZ w := by
  have hi := hT.hi
  exact ⟨_, climb_is hT 100 a b (by omega) a0 b0 a1 b1, rfl⟩
theorem way_mem {ps rs : List Int} (hT : Tree ps rs) {a b : Int} (he : Ends2 ps a b) {x : Int} (hx : x ∈ wayZ ps a b) : 0 < x ∧ x ≤ ps.length := by
  obtain ⟨w, hw, e⟩ := way_climb hT he.a0 he.b0 he.a1 he.b1
  rw [e] at hx
  exact hw.mem hT he.a0 he.b0 he.a1 he.b1 x ((sortZ_perm w).mem_iff.mp hx)
noncomputable def askWay (ps : List Int) (a : Ask) : List Int := wayZ ps a.one a.other
noncomputable def sdWayOf : SpD := fun ds q => ∃ ps rs a, ds = [dPair ps rs, dAsk a] ∧ Tree ps rs ∧ Ends2 ps a.one a.other ∧ q (dInts (askWay ps a)) []


noncomputable def addT (s : Int) (l : List Int) (t : Int) : List Int := l.set (t - 1).toNat (l.getD (t - 1).toNat 0 + s)
noncomputable def addW (l : List Int) (ts : List Int) (s : Int) : List Int := ts.foldl (addT s) l
theorem addT_len (s : Int) (l : List Int) (t : Int) : (addT s l t).length = l.length := by unfold addT; simp
theorem addW_len (s : Int) : ∀ (ts l : List Int), (addW l ts s).length = l.length
  | [], l => rfl
  | t :: ts, l => by show (addW (addT s l t) ts s).length = _; rw [addW_len s ts, addT_len]
theorem addW_snoc (l ts : List Int) (t s : Int) : addW l (ts ++ [t]) s = addT s (addW l ts s) t := by unfold addW; rw [List.foldl_append]; rfl
noncomputable def loadA (ps : List Int) (as : List Ask) (l : List Int) (k : Int) : List Int := addW l (askWay ps (as.getD k.toNat ask0)) (as.getD k.toNat ask0).size
noncomputable def loadsZ (ps : List Int) (as : List Ask) (ks : List Int) : List Int := ks.foldl (loadA ps as) (List.replicate ps.length 0)
theorem loadsZ_len (ps : List Int) (as : List Ask) (ks : List Int) : (loadsZ ps as ks).length = ps.length := by
  have : ∀ (ks l : List Int), (ks.foldl (loadA ps as) l).length = l.length := by
    intro ks
    induction ks with
    | nil => intro l; rfl
    | cons k r ih => intro l; rw [List.foldl_cons, ih]; unfold loadA; rw [addW_len]
  unfold loadsZ; rw [this]; simp
theorem loadsZ_snoc (ps : List Int) (as : List Ask) (ks : List Int) (k : Int) : loadsZ ps as (ks ++ [k]) = loadA ps as (loadsZ ps as ks) k := by unfold loadsZ; rw [List.foldl_append]; rfl
theorem rep_flat (n : Nat) (d : D) : (List.replicate n [d]).flatten = List.replicate n d := by
  induction n with
  | zero => rfl
  | succ n ih => rw [List.replicate_succ, List.flatten_cons, ih, List.replicate_succ]; rfl
theorem rep_ints0 (n : Nat) (x : Int) : List.replicate n (D.int x) = (List.replicate n x).map D.int := by rw [List.map_replicate]
theorem ixN_nat {n : Nat} {k : Int} (h0 : 0 ≤ k) (h1 : k < n) : ixN n k = some k.toNat := by unfold ixN; rw [if_pos h0, if_pos h1]
theorem set_dInts (l : List Int) (i : Nat) (x : Int) : D.lst ((l.map D.int).set i (.int x)) = dInts (l.set i x) := by unfold dInts; rw [List.map_set]
end L2
namespace L2
open PySem PySem.Spec PyProof.Rows
theorem other_ends {ps : List Int} {a r : Int} (a0 : 0 ≤ a) (a1 : a < 1 + (ps.length : Int)) (r0 : 0 ≤ r) (r1 : r < ps.length) : Ends2 ps a ((a + 1 + r) % (1 + (ps.length : Int))) := by
  refine ⟨a0, by omega, Int.emod_nonneg _ (by omega), ?_, ?_⟩
  · have := Int.emod_lt_of_pos (a + 1 + r) (show 0 < 1 + (ps.length : Int) by omega); omega
  · intro he
    by_cases hlt : a + 1 + r < 1 + (ps.length : Int)
    · rw [Int.emod_eq_of_lt (by omega) hlt] at he; omega
    · have e : (a + 1 + r) % (1 + (ps.length : Int)) = a + 1 + r - (1 + (ps.length : Int)) := by
        rw [← Int.sub_emod_right, Int.emod_eq_of_lt (by omega) (by omega)]
      omega
end L2

set_option Elab.async false
set_option linter.all false
set_option maxRecDepth 100000
set_option maxHeartbeats 1000000
namespace L2
open PySem PySem.Spec PyProof.Rows

end L2
namespace L2
open PySem PySem.Spec PyProof.Rows
end L2
namespace L2
open PySem PySem.Spec PyProof.Rows
noncomputable def addF (a b : List Int) : D → D
  | .int k => .int (a.getD k.toNat 0 + b.getD k.toNat 0)
  | _ => .non
end L2

set_option Elab.async false
set_option linter.all false
set_option maxRecDepth 100000
set_option maxHeartbeats 1000000
namespace L2
open PySem PySem.Spec PyProof.Rows

theorem vals_intsR : ∀ {ns : List Int} {us : List Value}, Vals (ns.map V.int) us → us.length = ns.length ∧ ∀ (i : Nat) (h : i < us.length), ∃ t, us[i] = .int (ns.getD i 0) t
  | [], _, .nil => ⟨rfl, fun i h => absurd h (Nat.not_lt_zero _)⟩
  | k :: ns, _, .cons r t => by
    obtain ⟨h1, h2⟩ := vals_intsR (ns := ns) t
    refine ⟨by rw [List.length_cons, List.length_cons, h1], fun i h => ?_⟩
    cases i with
    | zero => obtain ⟨z, rfl⟩ := r; exact ⟨z, rfl⟩
    | succ i => exact h2 i (Nat.lt_of_succ_lt_succ h)
theorem map_eraseIdx {α β : Type} (f : α → β) : ∀ (l : List α) (j : Nat), (l.eraseIdx j).map f = (l.map f).eraseIdx j
  | [], _ => rfl
  | _ :: _, 0 => rfl
  | x :: r, j + 1 => by rw [List.eraseIdx_cons_succ, List.map_cons, List.map_cons, List.eraseIdx_cons_succ, map_eraseIdx f r j]
section
variable {X : Cx}
end

section
variable {X : Cx} {M : Md} {e : Expr} {ma : ME} {pos : Pos}
end
end L2

set_option Elab.async false
set_option linter.all false
set_option maxRecDepth 100000
set_option maxHeartbeats 1000000
namespace L2
open PySem PySem.Spec PyProof.Rows

section
variable {X : Cx}
variable {ow : List Bool} {e : Expr} {ma : ME}
end
end L2

set_option Elab.async false
set_option linter.all false
set_option maxRecDepth 100000
set_option maxHeartbeats 1000000
namespace L2
open PySem PySem.Spec PyProof.Rows

section
variable {X : Cx}
variable {ow : List Bool} {e : Expr} {ma : ME} {pos p1 p2 p3 : Pos}
end
end L2

set_option Elab.async false
set_option linter.all false
set_option maxRecDepth 100000
namespace L2
open PySem



end L2

set_option Elab.async false
set_option linter.all false
set_option maxRecDepth 100000
set_option maxHeartbeats 1000000
namespace L2
open PySem PySem.Spec PyProof.Rows

section
variable {prog : Program} {w : World} {A : Around} {E : Value → Shared → Prop} {s : Shared}
end
section
variable {X : Cx} {M : Md} {e : Expr} {es : List Expr} {mgs : MGs} {pos : Pos}
end
end L2

set_option Elab.async false
set_option linter.all false
set_option maxRecDepth 100000
set_option maxHeartbeats 1000000
namespace L2
open PySem PySem.Spec PyProof.Rows
section
variable {X : Cx} {M : Md} {pos : Pos}

theorem qs_setCompMO {g : TG} {mg : MG} {mt : MT} {me : ME} {mi : MA} {tg iter elt : Expr} {ifs : List Expr} {scope : Scope} {cl : List (Str × Addr)} {i : Nat} {y : Str} {spos py : Pos} (own : List Str) (js : List Nat) (j0 k0 : Nat) (c : CompOk X scope cl own js) (hc : X.calm = true) (hN : X.N.Nodup) (hy : X.N[i]? = some y) (hx : Loc X.env.scope y) (hi : QI X M.ow tg iter mi) (cg : CGM k0 own.length g mg)
    (inner : ∀ (C : Addr) (s₀ : Shared) (H₀ : Hp) (ex : List Addr), CInnM (compCx X scope cl (nam0 X own js) C s₀ H₀ ex) k0 tg ifs elt g mt me) (hoj : M.ow[j0]? = some true := by decide) (hk0 : own.length ≤ k0 := by decide) (hjk : js[k0 - own.length]? = some j0 := by rfl)
    (hj : (js.mapIdx fun i j => decide (i = k0 - own.length) || !decide (M.ow[j]? = some true)).all id = true := by decide) (ho : M.ow[i]? = some true := by decide) (hu : M.mu[i]? ≠ some true := by decide)
    (hsw : swapsWith (.ListComp elt [⟨tg, iter, ifs, 0⟩] scope pos) (some (.Name y py)) spos.line X.env = pure true := by rfl)
    (hs : ∀ x, foldedSetIterable iter X.env x = pure x := by intro _; rfl) (hf : X.fn y = true ∨ X.env.scope.names.lookup y = some .local := by first | exact .inl rfl | exact .inr rfl | assumption) :
    QS X M (.Assign [.Name y py] (.ListComp elt [⟨tg, iter, ifs, 0⟩] scope pos) spos) (mSet i (mCompM mi mg mt me own.length js j0 k0)) := by
  obtain ⟨wi, pi, si⟩ := hi
  have hj' : ∀ (i j : Nat), js[i]? = some j → i ≠ k0 - own.length → M.ow[j]? ≠ some true := fun i j e hne z => by
    rw [List.all_eq_true] at hj
    have := hj (decide (i = k0 - own.length) || !decide (M.ow[j]? = some true)) (List.mem_of_getElem? (i := i) (by rw [List.getElem?_mapIdx, e]; rfl))
    simp [hne, z] at this
  exact ⟨_, ps_setComp own js c hc hN hy hx pi (fun C s₀ H₀ ex => ⟨(inner C s₀ H₀ ex).pg, (inner C s₀ H₀ ex).qi.can, (inner C s₀ H₀ ex).qe.can⟩) hsw hs hf, ss_setO (comp_sfM si cg hoj hk0 hjk hj') ho hu⟩
end
end L2

set_option Elab.async false
set_option linter.all false
set_option maxRecDepth 100000
set_option maxHeartbeats 1000000
namespace L2
open PySem PySem.Spec PyProof.Rows

noncomputable def Itz (a b : Addr) : It :=
  ⟨fun i H => ∃ xs ys x y, H a = some (.lst xs) ∧ H b = some (.lst ys) ∧ xs[i]? = some x ∧ ys[i]? = some y,
   fun i H v H' => ∃ p x y, H p = none ∧ v = .ref p ∧ H' = upd H p (.tup [x, y]) ∧ (∀ xs, H a = some (.lst xs) → xs[i]? = some x) ∧ ∀ ys, H b = some (.lst ys) → ys[i]? = some y,
   fun i H => ∃ xs ys, H a = some (.lst xs) ∧ H b = some (.lst ys) ∧ (xs.length ≤ i ∨ ys.length ≤ i)⟩
theorem mem5 {c a1 a2 a3 a4 a5 : Addr} (h : c ∈ [a1, a2, a3, a4, a5]) : c = a1 ∨ c = a2 ∨ c = a3 ∨ c = a4 ∨ c = a5 := by simpa using h
theorem mem4 {c a1 a2 a3 a4 : Addr} (h : c ∈ [a1, a2, a3, a4]) : c = a1 ∨ c = a2 ∨ c = a3 ∨ c = a4 := by simpa using h
theorem nmem4 {c a1 a2 a3 a4 : Addr} (h : c ∉ [a1, a2, a3, a4]) : c ≠ a1 ∧ c ≠ a2 ∧ c ≠ a3 ∧ c ≠ a4 := by simpa using h
theorem nd5 {z TI TO i1 i2 : Addr} (h : [z, TI, TO, i1, i2].Nodup) : (z ≠ TI ∧ z ≠ TO ∧ z ≠ i1 ∧ z ≠ i2) ∧ (TI ≠ TO ∧ TI ≠ i1 ∧ TI ≠ i2) ∧ (TO ≠ i1 ∧ TO ≠ i2) ∧ i1 ≠ i2 := by simpa using h
theorem allmem5 {z TI TO i1 i2 : Addr} : z ∈ [z, TI, TO, i1, i2] ∧ TI ∈ [z, TI, TO, i1, i2] ∧ TO ∈ [z, TI, TO, i1, i2] ∧ i1 ∈ [z, TI, TO, i1, i2] ∧ i2 ∈ [z, TI, TO, i1, i2] := by simp
structure ZipSt (z TI TO i1 i2 a b : Addr) (i : Nat) (h : Heap) : Prop where
  hz : IsZip h z TI TO .none
  ti : IsPair h TI (.ref i1) (.ref i2)
  to : ∃ x y, IsPair h TO x y
  t1 : h.IsListIter i1 a i
  t2 : h.IsListIter i2 b i
theorem turn_zip {P : Program} {w : World} {K : PySem.W.Frag} {es : List Expr} {k : Nat} {pos : Pos} (a b z TI TO i1 i2 : Addr) (nd : [z, TI, TO, i1, i2].Nodup) :
    Turn P w K (.Tuple es k pos) (Itz a b) [z, TI, TO, i1, i2] z (ZipSt z TI TO i1 i2 a b) where
  mem := allmem5.1
  obj := fun i h st c hc => by
    obtain ⟨hz, ti, ⟨x, y, to⟩, ⟨o1, e1, c1, d1⟩, ⟨o2, e2, c2, d2⟩⟩ := st
    rcases mem5 hc with rfl | rfl | rfl | rfl | rfl
    · exact ⟨_, hz, fun v q => by cases q⟩
    · exact ⟨_, ti, fun v q => by cases q⟩
    · exact ⟨_, to, fun v q => by cases q⟩
    · exact ⟨o1, e1, fun v q => by rw [d1] at q; cases q⟩
    · exact ⟨o2, e2, fun v q => by rw [d2] at q; cases q⟩
  keep := fun i h h' st kp => by
    obtain ⟨m1, m2, m3, m4, m5⟩ := allmem5 (z := z) (TI := TI) (TO := TO) (i1 := i1) (i2 := i2)
    obtain ⟨x, y, q⟩ := st.to
    exact ⟨kp z m1 _ st.hz, kp TI m2 _ st.ti, ⟨x, y, kp TO m3 _ q⟩, st.t1.at fun o q => kp i1 m4 o q, st.t2.at fun o q => kp i2 m5 o q⟩
  item := by
    intro X hP hw hK hc i pins s σ H E I hf st hg
    subst hP hw hK
    obtain ⟨xs, ys, x, y, hq1, hq2, hx, hy⟩ := hg
    obtain ⟨hz, ti, ⟨ox, oy, to⟩, t1, t2⟩ := st
    obtain ⟨its1, rv1, p1, hz1⟩ := I.list (SqL.of hq1)
    obtain ⟨its2, rv2, p2, hz2⟩ := I.list (SqL.of hq2)
    obtain ⟨u, hu, ru⟩ := rv1.get hx
    obtain ⟨v, hv, rv⟩ := rv2.get hy
    obtain ⟨m1, m2, m3, m4, m5⟩ := allmem5 (z := z) (TI := TI) (TO := TO) (i1 := i1) (i2 := i2)
    have fz := hf z m1; have fO := hf TO m3; have f1 := hf i1 m4; have f2 := hf i2 m5
    obtain ⟨⟨n1, n2, n3, n4⟩, ⟨n5, n6, n7⟩, ⟨n8, n9⟩, n10⟩ := nd5 nd
    have la : ∀ {c : Addr}, H c = none → a ≠ c := fun h => ne_of_none hq1 h
    have lb : ∀ {c : Addr}, H c = none → b ≠ c := fun h => ne_of_none hq2 h
    have AP : ZipApart z TI TO i1 i2 a b := ⟨Ne.symm n1, Ne.symm n2, Ne.symm n3, Ne.symm n4, n5, n6, n7, n8, n9, n10, la fz.1, la fO.1, la f1.1, la f2.1, lb fz.1, lb fO.1, lb f1.1, lb f2.1⟩
    refine wpAny_pyNext_zip_item AP hz ti to t1 t2 p1.isList p2.isList (x := u) (y := v) (by simpa using hu) (by simpa using hv) fun h' zo to' t1' t2' ht hsz hk => ?_
    refine ⟨.ref s.heap.objs.size, rfl, ?_⟩
    refine wpAny_letOwnedTupleGo_zip zo fun h2 he2 hs2 => ?_
    have fr : H s.heap.objs.size = none := I.hok.fresh (Nat.le_refl _)
    have ne2 : ∀ b, b < s.heap.objs.size → b ≠ s.heap.objs.size := fun b hb => Nat.ne_of_lt hb
    have ee : z < s.heap.objs.size := Heap.lt_size hz
    have k2 : ∀ c o, c ≠ z → c ≠ TO → c ≠ i1 → c ≠ i2 → s.heap.get? c = some o → h2.get? c = some o := fun c o c1 c2 c3 c4 q => (hs2.2 c c1).trans (hk c o c1 c2 c3 c4 q)
    have ht2 : h2.get? s.heap.objs.size = some { cls := .type "tuple", data := .seq #[u, v] } := (hs2.2 _ (Nat.ne_of_gt ee)).trans ht
    have trk : ∀ c o, H c = some o → c ≠ z ∧ c ≠ TO ∧ c ≠ i1 ∧ c ≠ i2 := fun c o q => ⟨ne_of_none q fz.1, ne_of_none q fO.1, ne_of_none q f1.1, ne_of_none q f2.1⟩
    have hok0 : HOk X.prog X.w H h2 := fun c o q => (I.hok c o q).stay (fun d v' hc q' => by
      rcases hc with rfl | hc
      · obtain ⟨z1, z2, z3, z4⟩ := trk d _ q; exact k2 d v' z1 z2 z3 z4 q'
      · obtain ⟨z1, z2, z3, z4⟩ := trk d _ hc; exact k2 d v' z1 z2 z3 z4 q') (fun _ z => z) fun _ _ z => z
    have I1 : Inv X pins σ (upd H s.heap.objs.size (.tup [x, y])) { s with heap := h2, toks := s.toks } := by
      refine I.step (g' := s.gens) (d' := s.drawn) (ch := [z, TO, i1, i2]) (fun c hc => ?_) (fun c o _ _ hc q _ => by obtain ⟨z1, z2, z3, z4⟩ := nmem4 hc; exact k2 c o z1 z2 z3 z4 q) (fun c o _ _ hc q _ => by obtain ⟨z1, z2, z3, z4⟩ := nmem4 hc; exact ⟨o.slots, k2 c o z1 z2 z3 z4 q⟩)
        (fun c o _ q n => by rw [upd_ne (ne2 c (Heap.lt_size q))]; exact n) (fun c o hc q => by obtain ⟨z1, z2, z3, z4⟩ := nmem4 hc; exact ⟨o, k2 c o z1 z2 z3 z4 q⟩) (fun c ys q => by rw [upd_ne (ne_of_none q fr)]; exact q) (fun c o v q => by rw [upd_ne (ne_of_none q fr)]; exact q)
        (fun c ps q => ⟨#[], by rw [upd_ne (ne_of_none q fr), q]; simp⟩) (fun m hm => ?_) ?_ I.bare
      · rcases mem4 hc with rfl | rfl | rfl | rfl
        · exact ⟨fz.2.2.2.1, fz.2.1, fz.2.2.2.2.1, fz.2.2.2.2.2⟩
        · exact ⟨fO.2.2.2.1, fO.2.1, fO.2.2.2.2.1, fO.2.2.2.2.2⟩
        · exact ⟨f1.2.2.2.1, f1.2.1, f1.2.2.2.2.1, f1.2.2.2.2.2⟩
        · exact ⟨f2.2.2.2.1, f2.2.1, f2.2.2.2.2.1, f2.2.2.2.2.2⟩
      · obtain ⟨o, es', ep, ho, r⟩ := hm
        exact ⟨o, es', ep, k2 _ o (Ne.symm fz.2.1) (Ne.symm fO.2.1) (Ne.symm f1.2.1) (Ne.symm f2.2.1) ho, r⟩
      · exact hok0.adopt fr ⟨by show 2 ≤ sizeLine; decide, [u, v], .cons ru (.cons rv .nil), ⟨_, ht2, rfl, _, rfl⟩⟩
    have lt : ∀ c ∈ [z, TI, TO, i1, i2], c < s.heap.objs.size := fun c hc => by
      rcases mem5 hc with rfl | rfl | rfl | rfl | rfl
      · exact ee
      · exact Heap.lt_size ti
      · exact Heap.lt_size to
      · obtain ⟨o, q, _⟩ := t1; exact Heap.lt_size q
      · obtain ⟨o, q, _⟩ := t2; exact Heap.lt_size q
    refine ⟨.ref s.heap.objs.size, _, I1, rfl, ⟨_, x, y, fr, rfl, rfl, fun ws hw => by rw [hq1] at hw; cases hw; exact hx, fun ws hw => by rw [hq2] at hw; cases hw; exact hy⟩, ⟨he2, (hs2.2 _ (Ne.symm n1)).trans (hk TI _ (Ne.symm n1) n5 n6 n7 ti), ⟨_, _, (hs2.2 _ (Ne.symm n2)).trans to'⟩, t1'.extBut hs2.extBut (Ne.symm n3), t2'.extBut hs2.extBut (Ne.symm n4)⟩, fun c hc => ?_⟩
    rw [upd_ne (ne2 c (lt c hc))]
    exact (hf c hc).1
  done := by
    intro X hP hw hK hc i pins s σ H E I hf st hg
    subst hP hw hK
    obtain ⟨xs, ys, hq1, hq2, hend⟩ := hg
    obtain ⟨hz, ti, ⟨ox, oy, to⟩, t1, t2⟩ := st
    obtain ⟨its1, rv1, p1, hz1⟩ := I.list (SqL.of hq1)
    obtain ⟨its2, rv2, p2, hz2⟩ := I.list (SqL.of hq2)
    obtain ⟨m1, m2, m3, m4, m5⟩ := allmem5 (z := z) (TI := TI) (TO := TO) (i1 := i1) (i2 := i2)
    have fz := hf z m1; have fO := hf TO m3; have f1 := hf i1 m4; have f2 := hf i2 m5
    obtain ⟨⟨n1, n2, n3, n4⟩, ⟨n5, n6, n7⟩, ⟨n8, n9⟩, n10⟩ := nd5 nd
    have la : ∀ {c : Addr}, H c = none → a ≠ c := fun h => ne_of_none hq1 h
    have lb : ∀ {c : Addr}, H c = none → b ≠ c := fun h => ne_of_none hq2 h
    have AP : ZipApart z TI TO i1 i2 a b := ⟨Ne.symm n1, Ne.symm n2, Ne.symm n3, Ne.symm n4, n5, n6, n7, n8, n9, n10, la fz.1, la fO.1, la f1.1, la f2.1, lb fz.1, lb fO.1, lb f1.1, lb f2.1⟩
    have l1 := rv1.length
    have l2 := rv2.length
    refine wpAny_pyNext_zip_end (I.ok.hd hc) AP hz ti to t1 t2 p1.isList p2.isList (by rcases hend with h | h; exact .inl (by simp; omega); exact .inr (by simp; omega)) fun h' hk => ⟨rfl, ?_⟩
    have trk : ∀ c o, H c = some o → c ≠ z ∧ c ≠ TO ∧ c ≠ i1 ∧ c ≠ i2 := fun c o q => ⟨ne_of_none q fz.1, ne_of_none q fO.1, ne_of_none q f1.1, ne_of_none q f2.1⟩
    refine I.step (g' := s.gens) (d' := s.drawn) (t' := s.toks) (ch := [z, TO, i1, i2]) (fun c hc => ?_) (fun c o _ _ hc q _ => by obtain ⟨z1, z2, z3, z4⟩ := nmem4 hc; exact hk c o z1 z2 z3 z4 q) (fun c o _ _ hc q _ => by obtain ⟨z1, z2, z3, z4⟩ := nmem4 hc; exact ⟨o.slots, hk c o z1 z2 z3 z4 q⟩)
      (fun _ _ _ _ n => n) (fun c o hc q => by obtain ⟨z1, z2, z3, z4⟩ := nmem4 hc; exact ⟨o, hk c o z1 z2 z3 z4 q⟩) (fun _ _ e => e) (fun _ _ _ e => e) (fun c ps e => ⟨#[], by rw [e]; simp⟩) (fun m hm => ?_) (fun c o q => ?_) I.bare
    · rcases mem4 hc with rfl | rfl | rfl | rfl
      · exact ⟨fz.2.2.2.1, fz.2.1, fz.2.2.2.2.1, fz.2.2.2.2.2⟩
      · exact ⟨fO.2.2.2.1, fO.2.1, fO.2.2.2.2.1, fO.2.2.2.2.2⟩
      · exact ⟨f1.2.2.2.1, f1.2.1, f1.2.2.2.2.1, f1.2.2.2.2.2⟩
      · exact ⟨f2.2.2.2.1, f2.2.1, f2.2.2.2.2.1, f2.2.2.2.2.2⟩
    · obtain ⟨o, es', ep, ho, r⟩ := hm
      exact ⟨o, es', ep, hk _ o (Ne.symm fz.2.1) (Ne.symm fO.2.1) (Ne.symm f1.2.1) (Ne.symm f2.2.1) ho, r⟩
    · refine (I.hok c o q).stay (fun d v' hc q' => ?_) (fun _ z => z) fun _ _ z => z
      rcases hc with rfl | hc
      · obtain ⟨z1, z2, z3, z4⟩ := trk d _ q; exact hk d v' z1 z2 z3 z4 q'
      · obtain ⟨z1, z2, z3, z4⟩ := trk d _ hc; exact hk d v' z1 z2 z3 z4 q'
  self := fun _ _ _ _ _ st h => wpAny_pyIter_zip st.hz h
section
variable {X : Cx} {es : List Expr} {k : Nat} {tpos : Pos}
noncomputable def iZip (ta : TA) : TI := fun σ H R => ta σ H fun vs H1 => ∃ a b, vs = [.ref a, .ref b] ∧ (∃ xs, H1 a = some (.lst xs)) ∧ (∃ ys, H1 b = some (.lst ys)) ∧ R (Itz a b) H1
theorem pi_zip {l m : Expr} {ta : TA} {p pos : Pos} (hg : Gl X "zip") (hm : X.mg "zip" = none) (ha : PA X [l, m] ta) (hs : starEach [l, m] X.env = [(false, eval l X.env), (false, eval m X.env)] := by rfl) (hs2 : (backTo pos (starEach [m] X.env)).any (·.1) = false := by rfl) (hs3 : starEach [l, m] X.env = (false, eval l X.env) :: starEach [m] X.env := by rfl) : PI X (.Tuple es k tpos) (.Call (.Name "zip" p) [l, m] [] pos) (iZip ta) := by
  refine ⟨fun pins s σ H R I h => ?_⟩
  refine wpAny_Call_Name_kw (ld_blt I hg hm bt_zip ?_)
  refine PyProof.Rows.callWith_type1 (thn (ha pos pins s σ H _ I h) fun us s1 ⟨vs, H1, I1, r1, a, b, e, ⟨xs, hx⟩, ⟨ys, hy⟩, q⟩ => ?_) hs3 hs2
  subst e
  obtain ⟨u, v, rfl, ru, rv⟩ := vals2 r1
  cases ru; cases rv
  obtain ⟨its1, rv1, p1, _⟩ := I1.list (SqL.of hx)
  obtain ⟨its2, rv2, p2, _⟩ := I1.list (SqL.of hy)
  refine call_zip_2 p1.isList p2.isList fun h' hz ti to t1 t2 hsz hk => ?_
  have I2 : Inv X pins σ H1 { s1 with heap := h' } := I1.kept (t' := s1.toks) hk
  have nd : [s1.heap.objs.size + 4, s1.heap.objs.size + 2, s1.heap.objs.size + 3, s1.heap.objs.size, s1.heap.objs.size + 1].Nodup := by
    simp only [List.nodup_cons, List.mem_cons, List.not_mem_nil, or_false, not_or, not_false_eq_true, List.nodup_nil, and_true]
    refine ⟨⟨?_, ?_, ?_, ?_⟩, ⟨?_, ?_, ?_⟩, ⟨?_, ?_⟩, ?_⟩ <;> omega
  refine wpAny_pyIter_zip hz ⟨s1.heap.objs.size + 4, _, _, Itz a b, H1, rfl, I2, turn_zip a b _ _ _ _ _ nd, ⟨hz, ti, ⟨_, _, to⟩, t1, t2⟩, fun c hc => ?_, q⟩
  have hc' : s1.heap.objs.size ≤ c := by
    rcases mem5 hc with rfl | rfl | rfl | rfl | rfl
    · exact Nat.le_add_right _ 4
    · exact Nat.le_add_right _ 2
    · exact Nat.le_add_right _ 3
    · exact Nat.le_refl _
    · exact Nat.le_add_right _ 1
  exact I1.fpOk (H' := H1) hc' (I1.hok.fresh hc')
variable {ow : List Bool} {a b : Expr} {mr : MA} {pos : Pos}
noncomputable def zipD (ds es : List D) : List D := List.zipWith (fun a b => .tup [a, b]) ds es
theorem zipD_at {ds es : List D} {i : Nat} {d : D} (h : (zipD ds es)[i]? = some d) : ∃ x y, ds[i]? = some x ∧ es[i]? = some y ∧ d = .tup [x, y] := by
  unfold zipD at h
  rw [List.getElem?_zipWith] at h
  cases e1 : ds[i]? with
  | none => rw [e1] at h; cases h
  | some x =>
    cases e2 : es[i]? with
    | none => rw [e1, e2] at h; cases h
    | some y => rw [e1, e2] at h; exact ⟨x, y, rfl, rfl, (Option.some.inj h).symm⟩
theorem itz_ok {G : Hp} {p q : Addr} {xs ys : List V} {ds es : List D} (h1 : G p = some (.lst xs)) (h2 : Reps G ds xs) (h3 : G q = some (.lst ys)) (h4 : Reps G es ys) : ItOk (Itz p q) G (zipD ds es) := fun C ow G' ρ σ H pd i z r => by
  have hp := r.gh _ _ (z _ _ h1)
  have hq := r.gh _ _ (z _ _ h3)
  refine ⟨fun hl => ⟨xs, ys, hp, hq, ?_⟩, fun d e => ?_⟩
  · rw [h2.length, h4.length]
    unfold zipD at hl
    rw [List.length_zipWith] at hl
    omega
  · obtain ⟨x, y, e1, e2, rfl⟩ := zipD_at e
    obtain ⟨v, g1, g2⟩ := reps_get h2 e1
    obtain ⟨u, g3, g4⟩ := reps_get h4 e2
    refine ⟨⟨xs, ys, v, u, hp, hq, g1, g3⟩, fun w H' hy => ?_⟩
    obtain ⟨t, x', y', ht, rfl, rfl, hy1, hy2⟩ := hy
    have z1 := hy1 xs hp
    rw [g1] at z1; cases z1
    have z2 := hy2 ys hq
    rw [g3] at z2; cases z2
    obtain ⟨O, r⟩ := r
    obtain ⟨r2, s2⟩ := r.new ht (.tup [v, u])
    exact ⟨_, s2, ⟨O, r2⟩, rep_tup upd_same (reps_cons (Rep.mono (z.trans s2) _ _ g2) (reps_cons (Rep.mono (z.trans s2) _ _ g4) reps_nil))⟩
noncomputable def miZip (m : MA) : MA := fun ρ q => m ρ fun ds ρ' => match ds with
  | [.lst ds, .lst es] => q (zipD ds es) ρ'
  | _ => False
theorem qi_zip {p : Pos} (hg : Gl X "zip") (hm : X.mg "zip" = none) (ha : QA X ow [a, b] mr) (hs : starEach [a, b] X.env = [(false, eval a X.env), (false, eval b X.env)] := by rfl) (hs2 : (backTo pos (starEach [b] X.env)).any (·.1) = false := by rfl) (hs3 : starEach [a, b] X.env = (false, eval a X.env) :: starEach [b] X.env := by rfl) : QI X ow (.Tuple es k tpos) (.Call (.Name "zip" p) [a, b] [] pos) (miZip mr) := by
  obtain ⟨t, p, s⟩ := ha
  refine ⟨_, pi_zip hg hm p hs hs2 hs3, fun C G ρ σ H pd q Q r hm k => s C G ρ σ H pd _ _ r hm fun ds ρ' vs G' H' hq z kp r' p hn => ?_⟩
  split at hq
  · obtain ⟨v, u, rfl, p1, p2⟩ := reps_two p
    obtain ⟨a1, xs, rfl, h1, h2⟩ := rep_lst_of p1
    obtain ⟨a2, ys, rfl, h3, h4⟩ := rep_lst_of p2
    exact ⟨a1, a2, rfl, ⟨xs, r'.gh _ _ h1⟩, ⟨ys, r'.gh _ _ h3⟩, k _ ρ' G' H' _ hq z kp r' (itz_ok h1 h2 h3 h4)⟩
  · exact hq.elim
end
end L2

set_option Elab.async false
set_option linter.all false
set_option maxRecDepth 100000
set_option exponentiation.threshold 9000
namespace L2
open PySem

noncomputable def dQ (r : Rat) : D := .tup [.int r.num, .int r.den]
noncomputable def dQs (rs : List Rat) : D := .lst (rs.map dQ)
theorem gcdP_eq {t b : Int} (hb : 0 < b) : gcdP t b = (b.gcd t : Int) := by
  unfold gcdP; rw [if_neg (by omega), Int.gcd_comm]
theorem quo_num {t b : Int} (hb : 0 < b) : t / gcdP t b = (Rat.divInt t b).num := by
  rw [Rat.num_divInt, Int.sign_eq_one_of_pos hb, Int.one_mul, gcdP_eq hb]
theorem quo_den {t b : Int} (hb : 0 < b) : b / gcdP t b = ((Rat.divInt t b).den : Int) := by
  rw [Rat.den_divInt, if_neg (by omega), gcdP_eq hb]
  have : (b.natAbs : Int) = b := by omega
  rw [Int.natCast_ediv, this]
theorem den_posI (r : Rat) : (0 : Int) < r.den := by have := r.den_pos; omega
theorem div_nd (r : Rat) : Rat.divInt r.num r.den = r := Rat.num_divInt_den r

structure Bt (r : Rat) (n : Nat) : Prop where
  num : r.num.natAbs < 2 ^ n
  den : r.den < 2 ^ n
theorem two_le {m n : Nat} (h : m ≤ n) : (2 : Nat) ^ m ≤ 2 ^ n := Nat.pow_le_pow_right (by decide) h
theorem Bt.mono {r : Rat} {m n : Nat} (h : Bt r m) (hm : m ≤ n) : Bt r n := ⟨Nat.lt_of_lt_of_le h.num (two_le hm), Nat.lt_of_lt_of_le h.den (two_le hm)⟩
theorem Bt.smN {r : Rat} {m : Nat} (h : Bt r m) (hm : m ≤ 8000) : Sm r.num := Nat.lt_of_lt_of_le h.num (two_le hm)
theorem Bt.smD {r : Rat} {m : Nat} (h : Bt r m) (hm : m ≤ 8000) : Sm (r.den : Int) := by
  show ((r.den : Int)).natAbs < _
  rw [Int.natAbs_natCast]; exact Nat.lt_of_lt_of_le h.den (two_le hm)
theorem ediv_abs {a b : Int} (hb : 0 < b) : (a / b).natAbs ≤ a.natAbs := by
  have h1 := Int.ediv_mul_le a (show b ≠ 0 by omega)
  have h2 := Int.lt_ediv_add_one_mul_self a hb
  rcases Int.lt_or_le a 0 with h | h
  · have h3 : a ≤ a / b := by
      rcases Int.lt_or_le (a / b) a with z | z
      · exfalso
        have : (a / b + 1) * b ≤ (a / b + 1) * 1 := Int.mul_le_mul_of_nonpos_left (by omega) (by omega)
        omega
      · exact z
    have h4 : a / b < 0 := Int.ediv_neg_of_neg_of_pos h hb
    omega
  · have := Int.ediv_nonneg h (show 0 ≤ b by omega)
    have := Int.ediv_le_self b h
    omega
theorem divInt_bd {t b : Int} (hb : 0 < b) : (Rat.divInt t b).num.natAbs ≤ t.natAbs ∧ (Rat.divInt t b).den ≤ b.natAbs := by
  have g := gcdP_pos (n := t) hb
  constructor
  · rw [← quo_num hb]; exact ediv_abs g
  · have e := quo_den (t := t) hb
    have := ediv_abs (a := b) g
    omega
theorem Bt.divInt {t b : Int} {n : Nat} (hb : 0 < b) (h1 : t.natAbs < 2 ^ n) (h2 : b.natAbs < 2 ^ n) : Bt (Rat.divInt t b) n := by
  have := divInt_bd (t := t) hb
  exact ⟨by omega, by omega⟩
theorem add_eq (r s : Rat) : r + s = Rat.divInt (r.num * s.den + s.num * r.den) (r.den * s.den) := by
  have h := Rat.divInt_add_divInt r.num s.num (d₁ := r.den) (d₂ := s.den) (by have := den_posI r; omega) (by have := den_posI s; omega)
  rw [div_nd, div_nd] at h; exact h
theorem sub_eq (r s : Rat) : r - s = Rat.divInt (r.num * s.den - s.num * r.den) (r.den * s.den) := by
  have h := Rat.divInt_sub_divInt r.num s.num (d₁ := r.den) (d₂ := s.den) (by have := den_posI r; omega) (by have := den_posI s; omega)
  rw [div_nd, div_nd] at h; exact h
theorem mul_eq (r s : Rat) : r * s = Rat.divInt (r.num * s.num) (r.den * s.den) := by
  have h := Rat.divInt_mul_divInt r.num s.num (d₁ := r.den) (d₂ := s.den)
  rw [div_nd, div_nd] at h; exact h
theorem abs_mulI (a b : Int) : (a * b).natAbs = a.natAbs * b.natAbs := Int.natAbs_mul a b
theorem lt_mul_pow {a b m n : Nat} (h1 : a < 2 ^ m) (h2 : b < 2 ^ n) : a * b < 2 ^ (m + n) := by
  rw [Nat.pow_add]
  exact Nat.mul_lt_mul_of_lt_of_le h1 (Nat.le_of_lt h2) (Nat.pow_pos (by decide))
theorem den_mul_pos (r s : Rat) : (0 : Int) < r.den * s.den := Int.mul_pos (den_posI r) (den_posI s)
theorem Bt.add {r s : Rat} {m n : Nat} (h1 : Bt r m) (h2 : Bt s n) : Bt (r + s) (m + n + 1) := by
  rw [add_eq]
  have e1 : (r.num * s.den).natAbs < 2 ^ (m + n) := by rw [abs_mulI, Int.natAbs_natCast]; exact lt_mul_pow h1.num h2.den
  have e2 : (s.num * r.den).natAbs < 2 ^ (m + n) := by rw [abs_mulI, Int.natAbs_natCast, Nat.mul_comm]; exact lt_mul_pow h1.den h2.num
  have e3 : ((r.den : Int) * s.den).natAbs < 2 ^ (m + n) := by rw [abs_mulI, Int.natAbs_natCast, Int.natAbs_natCast]; exact lt_mul_pow h1.den h2.den
  have e4 : (2 : Nat) ^ (m + n + 1) = 2 ^ (m + n) + 2 ^ (m + n) := by rw [Nat.pow_succ]; omega
  exact Bt.divInt (den_mul_pos r s) (by omega) (by omega)
theorem Bt.sub {r s : Rat} {m n : Nat} (h1 : Bt r m) (h2 : Bt s n) : Bt (r - s) (m + n + 1) := by
  rw [sub_eq]
  have e1 : (r.num * s.den).natAbs < 2 ^ (m + n) := by rw [abs_mulI, Int.natAbs_natCast]; exact lt_mul_pow h1.num h2.den
  have e2 : (s.num * r.den).natAbs < 2 ^ (m + n) := by rw [abs_mulI, Int.natAbs_natCast, Nat.mul_comm]; exact lt_mul_pow h1.den h2.num
  have e3 : ((r.den : Int) * s.den).natAbs < 2 ^ (m + n) := by rw [abs_mulI, Int.natAbs_natCast, Int.natAbs_natCast]; exact lt_mul_pow h1.den h2.den
  have e4 : (2 : Nat) ^ (m + n + 1) = 2 ^ (m + n) + 2 ^ (m + n) := by rw [Nat.pow_succ]; omega
  exact Bt.divInt (den_mul_pos r s) (by omega) (by omega)
theorem Bt.mul {r s : Rat} {m n : Nat} (h1 : Bt r m) (h2 : Bt s n) : Bt (r * s) (m + n) := by
  rw [mul_eq]
  exact Bt.divInt (den_mul_pos r s) (by rw [abs_mulI]; exact lt_mul_pow h1.num h2.num) (by rw [abs_mulI, Int.natAbs_natCast, Int.natAbs_natCast]; exact lt_mul_pow h1.den h2.den)
theorem bt0 {n : Nat} (h : 0 < n) : Bt 0 n := ⟨by show 0 < 2 ^ n; exact Nat.pow_pos (by decide), by show 1 < 2 ^ n; exact Nat.one_lt_two_pow (by omega)⟩
theorem btI {i : Int} {n : Nat} (h : i.natAbs < 2 ^ n) (hn : 0 < n) : Bt (i : Rat) n := ⟨by rw [Rat.num_intCast]; exact h, by rw [Rat.den_intCast]; exact Nat.one_lt_two_pow (by omega)⟩
theorem dQ_int (i : Int) : D.tup [.int i, .int 1] = dQ (i : Rat) := by unfold dQ; rw [Rat.num_intCast, Rat.den_intCast]; rfl
theorem Sm.of {i : Int} {n : Nat} (h : i.natAbs < 2 ^ n) (hn : n ≤ 8000) : Sm i := Nat.lt_of_lt_of_le h (two_le hn)

noncomputable def sdGcd : SpD := fun ds q => ∃ n b, ds = [.int n, .int b] ∧ 0 ≤ b ∧ q (.int (gcdP n b)) []
noncomputable def sdFrac : SpD := fun ds q => ∃ t b, ds = [.int t, .int b] ∧ b ≠ 0 ∧ Sm b ∧ q (dQ (Rat.divInt t b)) []
noncomputable def sdMinus : SpD := fun ds q => ∃ r s, ds = [dQ r, dQ s] ∧ Bt r 3950 ∧ Bt s 3950 ∧ q (dQ (r - s)) []
noncomputable def sdTimes : SpD := fun ds q => ∃ r s, ds = [dQ r, dQ s] ∧ Bt r 3950 ∧ Bt s 3950 ∧ q (dQ (r * s)) []
noncomputable def sdUnder : SpD := fun ds q => ∃ r s, ds = [dQ r, dQ s] ∧ Bt r 3950 ∧ Bt s 3950 ∧ q (.bl (decide (r < s))) []
noncomputable def prodD (rs : List Rat) : Nat := (rs.map (·.den)).foldr (· * ·) 1
noncomputable def sdSumQ : SpD := fun ds q => ∃ (rs : List Rat) (M : Nat), ds = [dQs rs] ∧ rs.length ≤ 200 ∧ (∀ r ∈ rs, r.num.natAbs < 2 ^ 3900 ∧ r.den ∣ M) ∧ 0 < M ∧ M < 2 ^ 3900 ∧ q (dQ rs.sum) []
theorem prodD_nil : prodD [] = 1 := rfl
theorem prodD_cons (r : Rat) (rs : List Rat) : prodD (r :: rs) = r.den * prodD rs := rfl
theorem prodD_pos (rs : List Rat) : 0 < prodD rs := by
  induction rs with
  | nil => decide
  | cons r rs ih => rw [prodD_cons]; exact Nat.mul_pos r.den_pos ih
theorem prodD_dvN {rs : List Rat} {r : Rat} (h : r ∈ rs) : r.den ∣ prodD rs := by
  induction rs with
  | nil => cases h
  | cons x rs ih =>
    rw [prodD_cons]
    rcases List.mem_cons.mp h with rfl | h
    · exact Nat.dvd_mul_right _ _
    · exact Nat.dvd_trans (ih h) (Nat.dvd_mul_left _ _)

structure Com (rs : List Rat) (M : Nat) (B : Int) : Prop where
  pos : 0 < B
  dv : ∀ r ∈ rs, (r.den : Int) ∣ B
  dm : B ∣ (M : Int)
theorem Com.le {rs : List Rat} {M : Nat} {B : Int} (h : Com rs M B) (hM : 0 < M) : B ≤ M := Int.le_of_dvd (by omega) h.dm
theorem com_nil (M : Nat) : Com [] M 1 := ⟨by decide, (fun r h => by cases h), ⟨M, by simp⟩⟩
theorem com_snoc {rs : List Rat} {M : Nat} {B : Int} {r : Rat} (h : Com rs M B) (hr : r.den ∣ M) : Com (rs ++ [r]) M (B / gcdP B r.den * r.den) := by
  have hd := den_posI r
  have g := gcdP_pos (n := B) hd
  have g1 := gcdP_dl (n := B) hd
  have g2 := gcdP_dr (n := B) hd
  obtain ⟨n, rfl⟩ : ∃ n : Nat, B = n := ⟨B.toNat, by have := h.pos; omega⟩
  have eg : gcdP (n : Int) r.den = (Nat.gcd n r.den : Int) := by
    unfold gcdP; rw [if_neg (by omega)]
    show ((Int.gcd (n : Int) r.den : Nat) : Int) = _
    unfold Int.gcd; rw [Int.natAbs_natCast, Int.natAbs_natCast]
  have el : (n : Int) / gcdP n r.den * r.den = ((Nat.lcm n r.den : Nat) : Int) := by
    rw [eg, ← Int.natCast_ediv, ← Int.natCast_mul]
    congr 1
    unfold Nat.lcm
    exact Nat.div_mul_right_comm (Nat.gcd_dvd_left n r.den) r.den
  rw [el]
  have hn : 0 < n := by have := h.pos; omega
  refine ⟨by have := Nat.lcm_pos hn r.den_pos; omega, fun x hx => ?_, ?_⟩
  · rcases List.mem_append.mp hx with hx | hx
    · exact Int.dvd_trans (h.dv x hx) (Int.natCast_dvd_natCast.mpr (Nat.dvd_lcm_left n r.den))
    · have : x = r := by simpa using hx
      subst this; exact Int.natCast_dvd_natCast.mpr (Nat.dvd_lcm_right n x.den)
  · exact Int.natCast_dvd_natCast.mpr (Nat.lcm_dvd (Int.natCast_dvd_natCast.mp h.dm) hr)
noncomputable def sumF (B : Int) : D → D
  | .tup [.int n, .int d] => .int (n * (B / d))
  | d => d
theorem sumF_map (B : Int) (rs : List Rat) : (rs.map dQ).map (sumF B) = (rs.map fun r => r.num * (B / r.den)).map D.int := by
  rw [List.map_map, List.map_map]; rfl
theorem sum_over {B : Int} (hB : 0 < B) : ∀ {rs : List Rat}, (∀ r ∈ rs, (r.den : Int) ∣ B) → Rat.divInt (rs.map fun r => r.num * (B / r.den)).sum B = rs.sum
  | [], _ => by rw [List.map_nil, List.sum_nil, List.sum_nil, Rat.zero_divInt]
  | r :: rs, h => by
    have ih := sum_over hB (rs := rs) fun x hx => h x (.tail _ hx)
    rw [List.map_cons, List.sum_cons, List.sum_cons, ← ih]
    obtain ⟨c, hc⟩ := h r (.head _)
    have hd := den_posI r
    have e1 : B / r.den = c := by rw [hc]; exact Int.mul_ediv_cancel_left c (by omega)
    have cp : c ≠ 0 := fun z => by rw [z, Int.mul_zero] at hc; omega
    have e2 : r = Rat.divInt (r.num * c) B := by rw [hc, Rat.divInt_mul_right cp, div_nd]
    rw [e1]
    conv => rhs; rw [e2]
    rw [Rat.divInt_add_divInt _ _ (by omega) (by omega)]
    have e3 : r.num * c * B + (rs.map fun r => r.num * (B / r.den)).sum * B = (r.num * c + (rs.map fun r => r.num * (B / r.den)).sum) * B := by rw [Int.add_mul]
    rw [e3, Rat.divInt_mul_right (by omega)]
theorem sum_abs_le {n : Nat} : ∀ {ns : List Int}, (∀ x ∈ ns, x.natAbs < n) → ns.sum.natAbs ≤ ns.length * n
  | [], _ => by simp
  | x :: ns, h => by
    have := sum_abs_le (ns := ns) fun y hy => h y (.tail _ hy)
    have := h x (.head _)
    rw [List.sum_cons, List.length_cons, Nat.add_mul, Nat.one_mul]
    omega
theorem lay_dQ (r : Rat) : lay 1 (dQ r) = true := rfl
theorem okD_dQ (r : Rat) : okD (dQ r) = true := okD_lay (lay_dQ r) (by decide)
theorem rat_ext {r s : Rat} (h1 : r.num = s.num) (h2 : r.den = s.den) : r = s := by
  rw [← div_nd r, ← div_nd s, h1, h2]
theorem eqDq (r s : Rat) : eqD (dQ r) (dQ s) = decide (r = s) := by
  unfold eqD dQ
  simp only [toP, toPs, PyData.eqv, PyData.eqvAll, Bool.and_true]
  by_cases h : r = s
  · subst h; simp
  · rw [decide_eq_false h]
    by_cases h1 : r.num = s.num
    · have h2 : r.den ≠ s.den := fun z => h (rat_ext h1 z)
      have h3 : ¬ (r.den : Int) = s.den := fun z => h2 (by omega)
      simp [h1, h3]
    · simp [h1]
theorem prodD_le {n : Nat} : ∀ {rs : List Rat}, (∀ r ∈ rs, r.den ≤ n) → prodD rs ≤ n ^ rs.length
  | [], _ => by rw [prodD_nil]; exact Nat.le_refl _
  | r :: rs, h => by
    rw [prodD_cons, List.length_cons, Nat.pow_succ, Nat.mul_comm]
    exact Nat.mul_le_mul (prodD_le fun x hx => h x (.tail _ hx)) (h r (.head _))
theorem btSum {n : Nat} : ∀ {rs : List Rat}, (∀ r ∈ rs, Bt r n) → Bt rs.sum ((n + 1) * rs.length + 1)
  | [], _ => by rw [List.sum_nil]; exact bt0 (by omega)
  | r :: rs, h => by
    rw [List.sum_cons, List.length_cons]
    exact ((h r (.head _)).add (btSum fun x hx => h x (.tail _ hx))).mono (by rw [Nat.mul_add]; omega)
theorem atI_dQ {rs : List Rat} {i : Int} (h0 : 0 ≤ i) (h1 : i < rs.length) : atI (rs.map dQ) i = some (dQ (rs.getD i.toNat 0)) := by
  refine atI_map ?_
  unfold atI ixN
  rw [if_pos h0, if_pos h1]
  show rs[i.toNat]? = _
  rw [List.getD_eq_getElem?_getD, List.getElem?_eq_getElem (by omega)]; rfl
end L2

set_option Elab.async false
set_option linter.all false
set_option maxRecDepth 100000
set_option exponentiation.threshold 9000
namespace L2
open PySem

structure PricesOk (ps : List Int) (prs : List Rat) : Prop where
  len : prs.length = ps.length
  pos : ∀ r ∈ prs, 0 ≤ r
  bt : ∀ r ∈ prs, Bt r 64
noncomputable def paidQ (ps : List Int) (a : Ask) (prs : List Rat) : Rat := ((askWay ps a).map fun t => prs.getD (t - 1).toNat 0).sum
noncomputable def posQ (r : Rat) : Rat := if 0 < r then r else 0
noncomputable def spareQ (ps : List Int) (a : Ask) (w : Int) (prs : List Rat) : Rat := posQ ((a.worth : Rat) - (w : Rat) * paidQ ps a prs)
noncomputable def sdIsFr : SpD := fun ds q => ∃ r, ds = [dQ r] ∧ q (.bl true) []
noncomputable def sdIsPr : SpD := fun ds q => ∃ r, ds = [dQ r] ∧ 0 ≤ r ∧ q (.bl true) []
noncomputable def sdLookPr : SpD := fun ds q => ∃ ps rs prs, ds = [dPair ps rs, dQs prs] ∧ Tree ps rs ∧ PricesOk ps prs ∧ q .non []
noncomputable def sdSpareOf : SpD := fun ds q => ∃ ps rs a w prs, ds = [dPair ps rs, dAsk a, .int w, dQs prs] ∧ Tree ps rs ∧ AskOk ps a ∧ w.natAbs ≤ 1000000 ∧ PricesOk ps prs ∧ q (dQ (spareQ ps a w prs)) []
noncomputable def sdSpares : SpD := fun ds q => ∃ ps rs as prs, ds = [dPair ps rs, dAsks as, dQs prs] ∧ Tree ps rs ∧ AsksOk ps as ∧ PricesOk ps prs ∧ q (dQs (as.map fun a => spareQ ps a a.size prs)) []
theorem gcd_low (r : Rat) : gcdP r.num r.den = 1 := by
  rw [gcdP_eq (den_posI r)]
  have := r.reduced
  unfold Nat.Coprime at this
  rw [Int.gcd_comm]
  have e : Int.gcd r.num r.den = Nat.gcd r.num.natAbs r.den := by unfold Int.gcd; rw [Int.natAbs_natCast]
  rw [e, this]; rfl
theorem num_nn {r : Rat} (h : 0 ≤ r) : 0 ≤ r.num := Rat.num_nonneg.mpr h
noncomputable def priceF (prs : List Rat) : D → D
  | .int t => dQ (prs.getD (t - 1).toNat 0)
  | d => d
theorem priceF_map (prs : List Rat) (w : List Int) : (w.map D.int).map (priceF prs) = (w.map fun t => prs.getD (t - 1).toNat 0).map dQ := by
  rw [List.map_map, List.map_map]; rfl
theorem getD_memQ {rs : List Rat} {k : Nat} (h : k < rs.length) : rs.getD k 0 ∈ rs := by
  rw [List.getD_eq_getElem?_getD, List.getElem?_eq_getElem h]; exact List.getElem_mem h
theorem way_len46 {ps rs : List Int} (hT : Tree ps rs) {a b : Int} (he : Ends2 ps a b) : (wayZ ps a b).length ≤ 46 := by
  obtain ⟨w, hw, e⟩ := way_climb hT he.a0 he.b0 he.a1 he.b1
  have h1 := hw.len hT he.a0 he.b0 he.a1 he.b1
  have h2 := hT.hi
  have h3 := he.a1; have h4 := he.b1
  rw [e]
  have := (sortZ_perm w).length_eq
  omega
theorem paid_all {ps rs : List Int} {prs : List Rat} {a : Ask} (hT : Tree ps rs) (he : Ends2 ps a.one a.other) (hp : PricesOk ps prs) : ∀ r ∈ (askWay ps a).map (fun t => prs.getD (t - 1).toNat 0), r ∈ prs := fun r hr => by
  obtain ⟨t, ht, rfl⟩ := List.mem_map.mp hr
  have := way_mem hT he ht
  exact getD_memQ (by rw [hp.len]; omega)
theorem paid_bt {ps rs : List Int} {prs : List Rat} {a : Ask} (hT : Tree ps rs) (he : Ends2 ps a.one a.other) (hp : PricesOk ps prs) : Bt (paidQ ps a prs) 3000 := by
  have h1 := btSum (n := 64) fun r hr => hp.bt r (paid_all hT he hp r hr)
  refine Bt.mono h1 ?_
  rw [List.length_map]
  have := way_len46 hT he
  unfold askWay
  omega
theorem prod_bt {rs : List Rat} {n : Nat} (h : ∀ r ∈ rs, Bt r n) : prodD rs ≤ 2 ^ (n * rs.length) := by
  have := prodD_le (n := 2 ^ n) (rs := rs) fun r hr => Nat.le_of_lt (h r hr).den
  rw [← Nat.pow_mul] at this; exact this
theorem posQ_bt {r : Rat} {n : Nat} (h : Bt r n) (hn : 0 < n) : Bt (posQ r) n := by
  unfold posQ; split
  · exact h
  · exact bt0 hn
theorem intBt {i : Int} {n : Nat} (m : Nat) (h : i.natAbs ≤ m) (hm : m < 2 ^ n) (hn : 0 < n) : Bt (i : Rat) n := btI (by omega) hn
noncomputable def spareF (ps : List Int) (prs : List Rat) : D → D
  | .tup [.int o, .int p, .int s, .int w] => dQ (spareQ ps ⟨o, p, s, w⟩ s prs)
  | d => d
theorem spareF_map (ps : List Int) (prs : List Rat) (as : List Ask) : (as.map dAsk).map (spareF ps prs) = (as.map fun a => spareQ ps a a.size prs).map dQ := by
  rw [List.map_map, List.map_map]; rfl
theorem imms_dQs : ∀ rs : List Rat, imms (rs.map dQ) = true
  | [] => rfl
  | r :: rs => by rw [List.map_cons, imms, imms_dQs rs]; rfl
theorem cutD_all' {xs : List D} {n : Nat} (h : n = xs.length) : cutD xs none (some (n : Int)) = xs := by
  subst h
  unfold cutD
  simp [HT.sIx]
  rw [if_neg (by omega), List.take_length]
end L2
namespace L2
open PySem
theorem Climb.comm {ps : List Int} {a b m : Int} {w : List Int} (h : Climb ps a b w m) : Climb ps b a w m := by
  cases h with
  | same => exact .same _
  | left h c => exact .right h c
  | right h c => exact .left h c
noncomputable def sdSource : SpD := fun ds q => ∃ c k, ds = [.int c, .int k] ∧ 0 ≤ k ∧ k ≤ 1000 ∧ ∀ n s, 0 ≤ n → q (dInts [n, s]) []
noncomputable def sdTree2 : SpD := fun ds q => ∃ c m most, ds = [dInts [c, m], .int most] ∧ 0 ≤ c ∧ 0 < most ∧ most ≤ 23 ∧ ∀ ps rs c' m', Tree ps rs → (ps.length : Int) ≤ most → 0 ≤ c' → q (dPair ps rs) [some (dInts [c', m'])]
noncomputable def sdLowest : SpD := fun ds q => ∃ t b, ds = [.int t, .int b] ∧ 0 < b ∧ Sm b ∧ q (dQ (Rat.divInt t b)) []
noncomputable def sdWay3 : SpD := fun ds q => ∃ ps rs a b, ds = [dInts ps, .int a, .int b] ∧ Tree ps rs ∧ 0 ≤ a ∧ a ≤ ps.length ∧ 0 ≤ b ∧ b ≤ ps.length ∧ q (dInts (wayZ ps a b)) []
noncomputable def sdAskG : SpD := fun ds q => ∃ c m ps rs n sizes worths, ds = [dInts [c, m], .int n, dInts sizes, dInts worths] ∧ 0 ≤ c ∧ Tree ps rs ∧ n = ps.length ∧ 1 ≤ sizes.length ∧ sizes.length ≤ 100 ∧ (∀ s ∈ sizes, 1 ≤ s ∧ s ≤ 1000000) ∧ 1 ≤ worths.length ∧ worths.length ≤ 100 ∧ (∀ s ∈ worths, 1 ≤ s ∧ s ≤ 1000000000000) ∧
  ∀ a c' m', AskOk ps a → 0 ≤ c' → q (dAsk a) [some (dInts [c', m'])]
noncomputable def sdWorld (K : PySem.W.Frag) : SpD := fun ds q => ∃ φ ns most, ds = [.scr φ ns, .int most] ∧ ScrOk K φ ns ∧ ns.length ≤ 63 ∧ 0 < most ∧ most ≤ 23 ∧ ∀ ps rs as, Tree ps rs → (ps.length : Int) ≤ most → AsksOk ps as → q (.tup [dPair ps rs, dAsks as]) []
theorem gcd_swap {t b : Int} (hb : 0 < b) : gcdP b (if t < 0 then -t else t) = gcdP t b := by
  rw [gcdP_eq hb]
  by_cases h0 : t = 0
  · subst h0
    rw [if_neg (by decide)]
    unfold gcdP
    rw [if_pos rfl, Int.gcd_zero_right]; omega
  · unfold gcdP
    by_cases h : t < 0
    · rw [if_pos h, if_neg (by omega), Int.gcd_neg]
    · rw [if_neg h, if_neg h0]
end L2
namespace L2
open PySem
noncomputable def sdPriceG : SpD := fun ds q => ∃ c m g, ds = [dInts [c, m], .bl g] ∧ 0 ≤ c ∧ ∀ r c' m', 0 ≤ r → Bt r 64 → 0 ≤ c' → q (dQ r) [some (dInts [c', m'])]
noncomputable def sdPricesG : SpD := fun ds q => ∃ c m ps rs as, ds = [dPair ps rs, dAsks as, dInts [c, m]] ∧ 0 ≤ c ∧ Tree ps rs ∧ AsksOk ps as ∧ ∀ prs c' m', PricesOk ps prs → 0 ≤ c' → q (dQs prs) [some (dInts [c', m'])]
noncomputable def topsOf (prs : List Rat) : List Int := prs.map fun r => r.num * ((prodD prs : Int) / r.den)
noncomputable def spareZ (ps : List Int) (a : Ask) (tops : List Int) (B : Int) : Int := a.worth * B - a.size * ((askWay ps a).map fun t => tops.getD (t - 1).toNat 0).sum
theorem divInt_nn {t b : Int} (ht : 0 ≤ t) (hb : 0 < b) : 0 ≤ Rat.divInt t b := (Rat.divInt_nonneg_iff_of_pos_right hb).mpr ht
theorem divInt_pos {t b : Int} (hb : 0 < b) : 0 < Rat.divInt t b ↔ 0 < t := by
  have h1 := Rat.divInt_nonneg_iff_of_pos_right (a := t) hb
  have h2 : Rat.divInt t b = 0 ↔ t = 0 := by
    constructor
    · intro h
      have := (Rat.divInt_eq_divInt_iff (n₁ := t) (n₂ := 0) (d₁ := b) (d₂ := b) (by omega) (by omega)).mp (by rw [h, Rat.zero_divInt])
      rw [Int.zero_mul] at this
      rcases Int.mul_eq_zero.mp this with z | z
      · exact z
      · omega
    · intro h; rw [h, Rat.zero_divInt]
  constructor
  · intro h
    have a1 : 0 ≤ t := h1.mp (by grind)
    have a2 : t ≠ 0 := fun z => by rw [h2.mpr z] at h; grind
    omega
  · intro h
    have a1 := h1.mpr (by omega)
    have a2 : Rat.divInt t b ≠ 0 := fun z => by have := h2.mp z; omega
    grind
theorem eqD_asks_nil (as : List Ask) : eqD (dAsks as) (.lst []) = as.isEmpty := by
  cases as with
  | nil => exact eqD_self 1 _ rfl
  | cons a as => unfold eqD dAsks; rw [List.map_cons, toP, toP, toPs, toPs, PyData.eqv, PyData.eqvAll]; rfl
theorem prodD_dvd {rs : List Rat} {r : Rat} (h : r ∈ rs) : (r.den : Int) ∣ (prodD rs : Int) := by
  have : r.den ∣ prodD rs := by
    induction rs with
    | nil => cases h
    | cons x rs ih =>
      rw [prodD_cons]
      rcases List.mem_cons.mp h with rfl | h
      · exact Nat.dvd_mul_right _ _
      · exact Nat.dvd_trans (ih h) (Nat.dvd_mul_left _ _)
  exact Int.natCast_dvd_natCast.mpr this
theorem div_lin {B : Int} (hB : 0 < B) (w s S : Int) : Rat.divInt (w * B - s * S) B = (w : Rat) - (s : Rat) * Rat.divInt S B := by
  have h : (B : Rat) ≠ 0 := fun z => by have := Rat.intCast_eq_zero_iff.mp z; omega
  rw [Rat.divInt_eq_div, Rat.divInt_eq_div, Rat.intCast_sub, Rat.intCast_mul, Rat.intCast_mul]
  grind
theorem tops_over {prs : List Rat} (w : List Int) (hw : ∀ t ∈ w, 0 < t ∧ t ≤ (prs.length : Int)) : Rat.divInt (w.map fun t => (topsOf prs).getD (t - 1).toNat 0).sum (prodD prs) = (w.map fun t => prs.getD (t - 1).toNat 0).sum := by
  have hp : (0 : Int) < prodD prs := by have := prodD_pos prs; omega
  have h1 : (w.map fun t => (topsOf prs).getD (t - 1).toNat 0) = (w.map fun t => prs.getD (t - 1).toNat 0).map fun r => r.num * ((prodD prs : Int) / r.den) := by
    rw [List.map_map]
    refine List.map_congr_left fun t ht => ?_
    have := hw t ht
    unfold topsOf
    show _ = (prs.getD (t - 1).toNat 0).num * ((prodD prs : Int) / (prs.getD (t - 1).toNat 0).den)
    rw [List.getD_eq_getElem?_getD, List.getD_eq_getElem?_getD, List.getElem?_map, List.getElem?_eq_getElem (show (t - 1).toNat < prs.length by omega)]
    rfl
  rw [h1]
  refine sum_over hp fun r hr => ?_
  obtain ⟨t, ht, rfl⟩ := List.mem_map.mp hr
  have := hw t ht
  exact prodD_dvd (getD_memQ (by omega))
theorem spare_over {ps rs : List Int} {prs : List Rat} {a : Ask} (hT : Tree ps rs) (he : Ends2 ps a.one a.other) (hl : prs.length = ps.length) :
    Rat.divInt (if spareZ ps a (topsOf prs) (prodD prs) > 0 then spareZ ps a (topsOf prs) (prodD prs) else 0) (prodD prs) = spareQ ps a a.size prs := by
  have hp : (0 : Int) < prodD prs := by have := prodD_pos prs; omega
  have h1 := tops_over (prs := prs) (askWay ps a) fun t ht => by have := way_mem hT he ht; omega
  have h2 : Rat.divInt (spareZ ps a (topsOf prs) (prodD prs)) (prodD prs) = (a.worth : Rat) - (a.size : Rat) * paidQ ps a prs := by
    unfold paidQ
    rw [← h1]
    unfold spareZ
    exact div_lin hp _ _ _
  unfold spareQ posQ
  rw [← h2]
  by_cases h : spareZ ps a (topsOf prs) (prodD prs) > 0
  · rw [if_pos h, if_pos ((divInt_pos hp).mpr h)]
  · rw [if_neg h, if_neg (fun z => h ((divInt_pos hp).mp z)), Rat.zero_divInt]
theorem way_pos {ps rs : List Int} (hT : Tree ps rs) {a b : Int} (he : Ends2 ps a b) : 0 < (wayZ ps a b).length := by
  obtain ⟨w, hw, e⟩ := way_climb hT he.a0 he.b0 he.a1 he.b1
  rw [e]
  have := (sortZ_perm w).length_eq
  have hne := he.ne
  generalize meetZ ps a b = m at hw
  cases hw with
  | same => exact absurd rfl hne
  | left _ _ => rw [List.length_cons] at this; omega
  | right _ _ => rw [List.length_cons] at this; omega
theorem set_dQs (l : List Rat) (i : Nat) (x : Rat) : D.lst ((l.map dQ).set i (dQ x)) = dQs (l.set i x) := by unfold dQs; rw [List.map_set]
theorem set_all {l : List Rat} {i : Nat} {x : Rat} {P : Rat → Prop} (h : ∀ r ∈ l, P r) (hx : P x) : ∀ r ∈ l.set i x, P r := fun r hr => by
  rcases List.mem_or_eq_of_mem_set hr with z | z
  · exact h r z
  · exact z ▸ hx
theorem tops_bd {ps : List Int} {prs : List Rat} (hp : PricesOk ps prs) (hpr : prodD prs < 2 ^ 1500) {k : Nat} (hk : k < prs.length) : ((topsOf prs).getD k 0).natAbs < 2 ^ 1564 := by
  unfold topsOf
  rw [List.getD_eq_getElem?_getD, List.getElem?_map, List.getElem?_eq_getElem hk]
  show (prs[k].num * ((prodD prs : Int) / prs[k].den)).natAbs < _
  have h1 := (hp.bt _ (List.getElem_mem hk)).num
  have h2 := ediv_abs (a := (prodD prs : Int)) (den_posI prs[k])
  rw [Int.natAbs_natCast] at h2
  rw [abs_mulI]
  exact lt_mul_pow (m := 64) (n := 1500) h1 (by omega)
theorem mIx {n p : Nat} {j : Int} {P : Nat → Prop} (h : ixN n j = some p) (hp : P p) : match ixN n j with | some p => P p | none => False := by rw [h]; exact hp
end L2

set_option Elab.async false
set_option linter.all false
set_option maxRecDepth 100000
set_option exponentiation.threshold 9000
namespace L2
open PySem

noncomputable def paidRooms (rs : List Int) (prs : List Rat) : List Rat := List.zipWith (fun (x : Int) (p : Rat) => (x : Rat) * p) rs prs
noncomputable def boundQ (ps rs : List Int) (as : List Ask) (prs : List Rat) : Rat := (paidRooms rs prs).sum + (as.map fun a => spareQ ps a a.size prs).sum
noncomputable def sdBound : SpD := fun ds q => ∃ ps rs as prs, ds = [dPair ps rs, dAsks as, dQs prs] ∧ Tree ps rs ∧ AsksOk ps as ∧ PricesOk ps prs ∧ q (dQ (boundQ ps rs as prs)) []
noncomputable def boundF : D → D
  | .tup [.int x, .tup [.int n, .int d]] => dQ ((x : Rat) * Rat.divInt n d)
  | d => d
theorem boundF_dQ (x : Int) (p : Rat) : boundF (.tup [.int x, dQ p]) = dQ ((x : Rat) * p) := by
  show dQ ((x : Rat) * Rat.divInt p.num p.den) = _
  rw [div_nd]
theorem boundF_map : ∀ (rs : List Int) (prs : List Rat), (zipD (rs.map D.int) (prs.map dQ)).map boundF = (paidRooms rs prs).map dQ
  | [], prs => by cases prs <;> rfl
  | x :: rs, [] => rfl
  | x :: rs, p :: prs => by
    show boundF (.tup [.int x, dQ p]) :: (zipD (rs.map D.int) (prs.map dQ)).map boundF = dQ ((x : Rat) * p) :: (paidRooms rs prs).map dQ
    rw [boundF_dQ, boundF_map rs prs]
theorem den_divInt_dvd (t : Int) {b : Nat} (hb : 0 < b) : (Rat.divInt t b).den ∣ b := by
  rw [Rat.den_divInt, if_neg (by omega), Int.natAbs_natCast]
  exact Nat.div_dvd_of_dvd (by
    have := Int.gcd_dvd_left (b : Int) t
    exact Int.natCast_dvd_natCast.mp this)
theorem den_int_mul (x : Int) (p : Rat) : ((x : Rat) * p).den ∣ p.den := by
  rw [Rat.den_mul, Rat.den_intCast, Nat.one_mul]
  exact Nat.div_dvd_of_dvd (Nat.gcd_dvd_right _ _)
theorem mem_zipW {α β γ : Type} {f : α → β → γ} : ∀ {xs : List α} {ys : List β} {z : γ}, z ∈ List.zipWith f xs ys → ∃ x ∈ xs, ∃ y ∈ ys, z = f x y
  | [], _, _, h => by simp at h
  | _ :: _, [], _, h => by simp at h
  | x :: xs, y :: ys, z, h => by
    rw [List.zipWith_cons_cons] at h
    rcases List.mem_cons.mp h with rfl | h
    · exact ⟨x, .head _, y, .head _, rfl⟩
    · obtain ⟨a, ha, b, hb, e⟩ := mem_zipW h
      exact ⟨a, .tail _ ha, b, .tail _ hb, e⟩
theorem spare_den {ps rs : List Int} {prs : List Rat} {a : Ask} (hT : Tree ps rs) (he : Ends2 ps a.one a.other) (hl : prs.length = ps.length) : (spareQ ps a a.size prs).den ∣ prodD prs := by
  rw [← spare_over hT he hl]; exact den_divInt_dvd _ (prodD_pos prs)
theorem spare_bt {ps rs : List Int} {prs : List Rat} {a : Ask} (hT : Tree ps rs) (ha : AskOk ps a) (hp : PricesOk ps prs) : Bt (spareQ ps a a.size prs) 3061 := by
  have s0 := ha.s0; have s1 := ha.s1; have w0 := ha.w0; have w1 := ha.w1
  exact posQ_bt (((intBt (n := 40) 1000000000000 (by omega) (by decide) (by decide)).sub ((intBt (n := 20) 1000000 (by omega) (by decide) (by decide)).mul (paid_bt hT ha.ends hp))).mono (by decide)) (by decide)
theorem room_bt {ps rs : List Int} (hT : Tree ps rs) {x : Int} (hx : x ∈ rs) : Bt (x : Rat) 20 := by
  obtain ⟨i, hi⟩ := List.getElem?_of_mem hx
  have := hT.room i x hi
  exact intBt 1000000 (by omega) (by decide) (by decide)
theorem paidR_len (rs : List Int) (prs : List Rat) : (paidRooms rs prs).length = min rs.length prs.length := by unfold paidRooms; rw [List.length_zipWith]
theorem paidR_all {ps rs : List Int} {prs : List Rat} (hT : Tree ps rs) (hp : PricesOk ps prs) : ∀ r ∈ paidRooms rs prs, Bt r 84 ∧ r.den ∣ prodD prs := fun r hr => by
  obtain ⟨x, hx, p, hpm, rfl⟩ := mem_zipW hr
  exact ⟨(room_bt hT hx).mul (hp.bt p hpm), Nat.dvd_trans (den_int_mul x p) (prodD_dvN hpm)⟩
end L2
namespace L2
open PySem
noncomputable def roomZ (rs tops : List Int) : List Int := List.zipWith (fun x t => x * t) rs tops
noncomputable def posZ (x : Int) : Int := if x > 0 then x else 0
noncomputable def boundZ (ps rs : List Int) (as : List Ask) (prs : List Rat) : Int := (roomZ rs (topsOf prs)).sum + (as.map fun a => posZ (spareZ ps a (topsOf prs) (prodD prs))).sum
theorem topsOf_len (prs : List Rat) : (topsOf prs).length = prs.length := by unfold topsOf; rw [List.length_map]
theorem divInt_add_same {B : Int} (hB : 0 < B) (x y : Int) : Rat.divInt (x + y) B = Rat.divInt x B + Rat.divInt y B := by
  rw [Rat.divInt_add_divInt _ _ (by omega) (by omega), ← Int.add_mul, Rat.divInt_mul_right (by omega)]
theorem divInt_sum {B : Int} (hB : 0 < B) : ∀ xs : List Int, Rat.divInt xs.sum B = (xs.map fun x => Rat.divInt x B).sum
  | [] => by rw [List.map_nil, List.sum_nil, List.sum_nil, Rat.zero_divInt]
  | x :: xs => by rw [List.map_cons, List.sum_cons, List.sum_cons, divInt_add_same hB, divInt_sum hB xs]
theorem divInt_mul_int (x t B : Int) : Rat.divInt (x * t) B = (x : Rat) * Rat.divInt t B := by
  rw [Rat.divInt_eq_div, Rat.divInt_eq_div, Rat.intCast_mul]
  grind
theorem top_over {prs : List Rat} {r : Rat} (h : r ∈ prs) : Rat.divInt (r.num * ((prodD prs : Int) / r.den)) (prodD prs) = r := by
  obtain ⟨c, hc⟩ := prodD_dvd h
  have hd := den_posI r
  have hp := prodD_pos prs
  have e1 : (prodD prs : Int) / r.den = c := Int.ediv_eq_of_eq_mul_right (by omega) hc
  have cp : c ≠ 0 := fun z => by rw [z, Int.mul_zero] at hc; omega
  rw [e1, hc, Rat.divInt_mul_right cp, div_nd]
theorem rooms_over (prs : List Rat) : ∀ (rs : List Int) (l : List Rat), (∀ r ∈ l, r ∈ prs) → (roomZ rs (l.map fun r => r.num * ((prodD prs : Int) / r.den))).map (fun x => Rat.divInt x (prodD prs)) = paidRooms rs l
  | [], l, _ => by cases l <;> rfl
  | x :: rs, [], _ => rfl
  | x :: rs, r :: l, h => by
    show Rat.divInt (x * (r.num * ((prodD prs : Int) / r.den))) (prodD prs) :: (roomZ rs (l.map fun r => r.num * ((prodD prs : Int) / r.den))).map (fun x => Rat.divInt x (prodD prs)) = (x : Rat) * r :: paidRooms rs l
    rw [rooms_over prs rs l fun y hy => h y (.tail _ hy), divInt_mul_int, top_over (h r (.head _))]
theorem bound_over {ps rs : List Int} {as : List Ask} {prs : List Rat} (hT : Tree ps rs) (ha : AsksOk ps as) (hl : prs.length = ps.length) : Rat.divInt (boundZ ps rs as prs) (prodD prs) = boundQ ps rs as prs := by
  have hp : (0 : Int) < prodD prs := by have := prodD_pos prs; omega
  unfold boundZ boundQ
  rw [divInt_add_same hp, divInt_sum hp, divInt_sum hp, List.map_map]
  have e1 := rooms_over prs rs prs fun r h => h
  have e2 : (as.map ((fun x => Rat.divInt x (prodD prs)) ∘ fun a => posZ (spareZ ps a (topsOf prs) (prodD prs)))) = as.map fun a => spareQ ps a a.size prs :=
    List.map_congr_left fun a hm => spare_over hT (ha.ok a hm).ends hl
  rw [e2]
  unfold topsOf at *
  rw [e1]
end L2

set_option Elab.async false
set_option linter.all false
set_option maxRecDepth 100000
set_option maxHeartbeats 1000000
namespace L2
open PySem PySem.Spec PyProof.Rows

section
variable {M : Model} {A : Around} {E : Value → Shared → Prop} {s : Shared}
end
end L2

set_option Elab.async false
set_option linter.all false
set_option maxRecDepth 100000
set_option maxHeartbeats 1000000
namespace L2
open PySem PySem.Spec PyProof.Rows

section
variable {X : Cx} {pins : List (Addr × Obj)} {σ : St} {H H' : Hp} {s s' : Shared} {e : Addr} {cls : Value} {dx : Option Addr} {T : Option Addr}
end
section
variable {X : Cx} {x : Str} {p pos : Pos} {e : Expr} {es : List Expr} {t : TA} {k : Nat} {f : Addr} {fd : FuncData} {ps : List Str} {sp : Sp} {xk : XS}
end
end L2

set_option Elab.async false
set_option linter.all false
set_option maxRecDepth 100000
set_option maxHeartbeats 1000000
namespace L2
open PySem PySem.Spec PyProof.Rows

section
variable {X : Cx} {pins : List (Addr × Obj)} {σ : St} {H : Hp} {s : Shared} {xk : XS}
variable {x : Str} {C : Addr} {bm : List Value} {e : Expr} {args : List Expr} {np cpos pos : Pos} {t : TA}
end
end L2

set_option Elab.async false
set_option linter.all false
set_option maxRecDepth 100000
set_option maxHeartbeats 1000000
namespace L2
open PySem PySem.Spec PyProof.Rows

section
variable {X : Cx} {pins p : List (Addr × Obj)} {σ : St} {H : Hp} {s : Shared} {E : Value → Shared → Prop} {v : Value}
variable {e : Addr} {cls : Value} {dx T : Option Addr}
variable {x n : Str} {i : Nat} {C D0 : Addr} {bm bmD : List Value} {ini iniD : Option Value} {b0 : Stmt} {suite : List Stmt} {np npos : Pos} {ts : TS} {D : Ends} {t : Addr}
end
end L2

set_option Elab.async false
set_option linter.all false
set_option maxRecDepth 100000
set_option maxHeartbeats 1000000
namespace L2
open PySem PySem.Spec PyProof.Rows

end L2

set_option Elab.async false
set_option linter.all false
set_option maxRecDepth 100000
set_option maxHeartbeats 1000000
namespace L2
open PySem PySem.Spec PyProof.Rows
section
variable {X : Cx} {E : Value → Shared → Prop} {p : List (Addr × Obj)}
end

section
variable {X : Cx} {M : Md} {a b c e : Expr} {mt : MT} {pos pos' : Pos} {st : Stmt} {rest : List Stmt} {m : MS} {m1 m2 : MSX} {mex : MEX}
variable {mg : MG}

variable {es : List Expr} {ks : List AK} {mr : MA} {x : Str} {p' : Pos} {ow : List Bool}
end
end L2

set_option Elab.async false
set_option linter.all false
set_option maxRecDepth 100000
set_option maxHeartbeats 1000000
namespace L2
open PySem PySem.Spec PyProof.Rows
section
variable {X : Cx} {M : Md} {e : Expr} {es : List Expr} {ks : List AK} {mr : MA} {x : Str} {pos p' : Pos} {ow : List Bool} {mu : List Bool} {k : Nat} {f : Addr} {fd : FuncData} {ps : List Str} {sd : SpX}
end


theorem RO.gone {C : Ctx} {ow : List Bool} {G : Hp} {ρ : DSt} {σ : St} {H : Hp} {pd : List (D × V)} {O : Own} (h : RO C ow G ρ σ H pd O) (i : Nat) (hm : ∀ v, C.mu[i]? ≠ some (some v)) : RO C ow G (ρ.set i none) (σ.set i none) H pd O := by
  refine ⟨by simpa using h.len, h.gh, h.g0, h.gn, h.og, h.cok, h.fr, h.al, fun j v e => ?_, fun j d e => ?_, h.pn, h.np⟩
  · have : i ≠ j := fun z => by subst z; exact hm v e
    rw [List.getElem?_set_ne this]; exact h.mp j v e
  · have : i ≠ j := fun z => by
      subst z
      rw [List.getElem?_set] at e
      split at e
      · split at e <;> cases e
      · rename_i c; exact c rfl
    rw [List.getElem?_set_ne this] at e ⊢
    exact h.sl j d e
end L2

set_option Elab.async false
set_option linter.all false
set_option maxRecDepth 100000
set_option maxHeartbeats 1000000
namespace L2
open PySem PySem.Spec PyProof.Rows PySem.W Builtin.ObjectAttr

section
variable {prog : Program} {w : World} {A : Around} {E : Value → Shared → Prop} {s : Shared} {K : PySem.W.Frag} {x D : Addr} {ox : Obj} {od : Option Obj} {name : Str} {bm : List Value} {ini : Option Value} {tk : Tok}
end
end L2

set_option Elab.async false
set_option linter.all false
set_option maxRecDepth 100000
set_option maxHeartbeats 1000000
namespace L2
open PySem PySem.Spec PyProof.Rows

section
variable {X : Cx}
variable {ow : List Bool} {a : Expr} {ma : ME} {pos : Pos}
end

section
variable {K : PySem.W.Frag} {C a N : Addr} {dd nd : Option Addr} {nm qn : Str} {bs bm sub : List Value} {hd ab : Bool} {sn : List Str} {col : Option Bool} {k0 k1 k2 k3 k5 ini : Option Value} {no : Value} {es : Array DictEntry} {np : Nat} {nl : Array (Option Value)} {sl : Array (Option Value)} {oc : Value} {cd : ClassData}
end
end L2

set_option Elab.async false
set_option linter.all false
set_option maxRecDepth 100000
set_option maxHeartbeats 1000000
namespace L2
open PySem PySem.Spec PyProof.Rows
end L2

set_option Elab.async false
set_option linter.all false
set_option maxRecDepth 100000
set_option maxHeartbeats 1000000
namespace L2
open PySem PySem.Spec PyProof.Rows

section
variable {X : Cx}
variable {ow : List Bool} {a : Expr} {ma : ME} {pos : Pos}
end
section
variable {K : PySem.W.Frag} {t c : Value} {cs : List Value} {b : Bool}
end
end L2

set_option Elab.async false
set_option linter.all false
set_option maxRecDepth 100000
set_option maxHeartbeats 1000000
namespace L2
open PySem PySem.Spec PyProof.Rows

section
variable {prog : Program} {w : World} {A : Around} {E : Value → Shared → Prop} {h : Heap} {g : Array GenState} {d : Drawn} {t : Nat} {os : OsState}
variable {nm q : Str} {C N : Addr} {bs bm : List Value} {hdct : Bool} {sn : List Str} {sub : List Value} {ab : Bool} {col : Option Bool} {dd : Option Addr} {k0 k1 k2 k3 k5 : Option Value}
end
end L2

set_option Elab.async false
set_option linter.all false
set_option maxRecDepth 100000
set_option maxHeartbeats 1000000
namespace L2
open PySem PySem.Spec PyProof.Rows
section
variable {prog : Program} {w : World} {A : Around} {E : Value → Shared → Prop} {h : Heap} {g : Array GenState} {d : Drawn} {t : Nat} {os : OsState}
variable {nm q : Str} {C N : Addr} {bs bm : List Value} {hdct : Bool} {sn : List Str} {sub : List Value} {ab : Bool} {col : Option Bool} {dd : Option Addr} {k0 k1 k2 k3 k5 : Option Value}
end
end L2

set_option Elab.async false
set_option linter.all false
set_option maxRecDepth 100000
set_option maxHeartbeats 1000000
namespace L2
open PySem PySem.Spec PyProof.Rows PySem.W Builtin.ObjectAttr Builtin

section
variable {prog : Program} {w : World} {A : Around} {E : Value → Shared → Prop} {s : Shared} {K : PySem.W.Frag} {x C : Addr} {ox : Obj} {od : Option Obj} {name : Str} {bm : List Value} {ini : Option Value} {v : Value}
end
end L2

set_option Elab.async false
set_option linter.all false
set_option maxRecDepth 100000
set_option maxHeartbeats 1000000
namespace L2
open PySem PySem.Spec PyProof.Rows

section
variable {X : Cx} {pins : List (Addr × Obj)} {σ : St} {H : Hp} {s : Shared} {e C fI : Addr} {bm : List Value}
end
end L2

set_option Elab.async false
set_option linter.all false
set_option maxRecDepth 100000
set_option maxHeartbeats 1000000
namespace L2
open PySem PySem.Spec PyProof.Rows
section
variable {prog : Program} {w : World} {A : Around} {E : Value → Shared → Prop} {s : Shared} {env : Env}
end
section
variable {X : Cx} {xk : XS} {x : Str} {C fI : Addr} {bm : List Value} {e : Expr} {args : List Expr} {np cpos pos : Pos} {t : TA} {k : Nat} {fd : FuncData} {ps ns : List Str}
end

section
variable {X : Cx} {M : Md} {e : Expr} {es : List Expr} {mr : MA} {x : Str} {pos : Pos} {k : Nat} {fd : FuncData} {ps ns : List Str}
end
end L2

set_option Elab.async false
set_option linter.all false
set_option maxRecDepth 100000
set_option maxHeartbeats 1000000
namespace L2
open PySem PySem.Spec PyProof.Rows

section
variable {X : Cx} {es : List Expr} {c : St → Prop}
end
end L2

set_option Elab.async false
set_option linter.all false
set_option maxRecDepth 100000
set_option maxHeartbeats 1000000
namespace L2
open PySem PySem.Spec PyProof.Rows

section
variable {X : Cx} {C B : Addr} {bm : List Value} {ini : Option Value} {x : Str} {a b : Expr} {np apos pos pos' : Pos} {t : TA}
end
section
variable {X : Cx} {pins : List (Addr × Obj)} {σ : St} {H : Hp} {s : Shared} {h' : Heap} {a : Addr} {oa od : HO}
end
section
variable {X : Cx} {C : Addr} {bm : List Value} {ini : Option Value} {f : Str} {o value : Expr} {pos pos' : Pos} {ta tv : TE}

end

section
variable {X : Cx} {ow : List Bool} {a : Expr} {ma : ME} {pos : Pos} {f : Str}
end
end L2

set_option Elab.async false
set_option linter.all false
set_option maxRecDepth 100000
set_option maxHeartbeats 1000000
namespace L2
open PySem PySem.Spec PyProof.Rows

section
variable {X : Cx}
variable {ow : List Bool} {e : Expr} {ma : ME}
end
end L2

set_option Elab.async false
set_option linter.all false
set_option maxRecDepth 100000
set_option maxHeartbeats 1000000
namespace L2
open PySem PySem.Spec PyProof.Rows

section
variable {X : Cx} {M : Md} {ow : List Bool} {a e : Expr} {es : List Expr} {pos : Pos} {mex : MEX} {m1 : MSX} {mg : MG}

variable {x : Str} {p' : Pos} {ma : ME}
end
end L2

set_option Elab.async false
set_option linter.all false
set_option maxRecDepth 100000
set_option maxHeartbeats 1000000
namespace L2
open PySem PySem.Spec PyProof.Rows

structure FlO (C : Ctx) (G H : Hp) (O : Own) (p : Addr) (xs : List V) : Prop where
  gp : G p = none
  op : O p = none
  cp : C.H p = none
  hp : H p = some (.lst xs)
noncomputable def Ctx.pin (C : Ctx) (p : Addr) (o : HO) : Ctx := { C with H := fun a => if a = p then some o else C.H a, O := fun a => if a = p then none else C.O a }
section
variable {C : Ctx} {ow : List Bool} {G : Hp} {ρ : DSt} {σ : St} {H : Hp} {pd : List (D × V)} {O : Own} {p : Addr} {xs : List V}
theorem RO.off (h : RO C ow G ρ σ H pd O) (gp : G p = none) (op : O p = none) (cp : C.H p = none) (o : HO) : RO C ow G ρ σ (upd H p o) pd O := by
  have ne : ∀ a l, O a = some l → a ≠ p := fun a l e z => by rw [z, op] at e; cases e
  refine ⟨h.len, fun a u e => ?_, h.g0, h.gn, fun a l e => ?_, h.cok, fun a u e n => ?_, fun a e => ?_, h.mp, fun i d e => ?_, ?_, h.np⟩
  · rw [upd_ne (fun z => by rw [z, gp] at e; cases e)]; exact h.gh _ _ e
  · rw [upd_ne (ne a l e)]; exact h.og a l e
  · rw [upd_ne (fun z => by rw [z, cp] at e; cases e)]; exact h.fr a u e n
  · by_cases z : a = p
    · rw [z]; exact cp
    · rw [upd_ne z] at e; exact h.al a e
  · obtain ⟨v, h1, h2⟩ := h.sl i d e
    refine ⟨v, h1, ?_⟩
    split at h2
    · rename_i c; rw [if_pos c]; exact h2.keep (fun _ _ z => z) fun a τ q => ⟨q, upd_ne (ne a _ q)⟩
    · rename_i c; rw [if_neg c]; exact h2
  · exact Pend.keep (fun _ _ z => z) (fun a j π _ q => ⟨q, upd_ne (ne a _ q)⟩) h.pn
theorem RO.free (h : RO C ow G ρ σ H pd O) (hp : H p = none) : G p = none ∧ O p = none ∧ C.H p = none := by
  refine ⟨?_, ?_, h.al p hp⟩
  · cases e : G p with
    | none => rfl
    | some z => rw [h.gh _ _ e] at hp; cases hp
  · cases e : O p with
    | none => rfl
    | some l => obtain ⟨_, ⟨xs, q⟩, _⟩ := h.og p l e; rw [hp] at q; cases q
theorem RO.frame (h : RO C ow G ρ σ H pd O) (f : FlO C G H O p xs) : RO (C.pin p (.lst xs)) ow G ρ σ H pd O := by
  have at1 : ∀ a, a ≠ p → (C.pin p (.lst xs)).H a = C.H a := fun a z => if_neg z
  have at2 : ∀ a, a ≠ p → (C.pin p (.lst xs)).O a = C.O a := fun a z => if_neg z
  have ap : (C.pin p (.lst xs)).H p = some (.lst xs) := if_pos rfl
  have ap2 : (C.pin p (.lst xs)).O p = none := if_pos rfl
  refine ⟨h.len, h.gh, h.g0, fun a u e => ?_, fun a l e => ?_, fun a l π e => ?_, fun a u e n => ?_, fun a e => ?_, h.mp, h.sl, h.pn, h.np⟩
  · have z : a ≠ p := fun z => by rw [z, f.gp] at e; cases e
    rw [at1 a z]; exact h.gn a u e
  · have z : a ≠ p := fun z => by rw [z, f.op] at e; cases e
    obtain ⟨q1, q2, q3⟩ := h.og a l e
    refine ⟨q1, q2, ?_⟩
    unfold Nw at q3 ⊢
    rw [at1 a z, at2 a z]; exact q3
  · have z : a ≠ p := fun z => by rw [z, ap2] at e; cases e
    rw [at2 a z] at e; exact h.cok a l π e
  · by_cases z : a = p
    · subst z; rw [ap] at e; cases e; exact f.hp
    · rw [at1 a z] at e; rw [at2 a z] at n; exact h.fr a u e n
  · have z : a ≠ p := fun z => by rw [z, f.hp] at e; cases e
    rw [at1 a z]; exact h.al a e
theorem RO.unframe {G2 : Hp} {ρ2 : DSt} {σ2 : St} {H2 : Hp} {pd2 : List (D × V)} {O2 : Own} {ow2 : List Bool} (h : RO C ow G ρ σ H pd O) (f : FlO C G H O p xs) (h2 : RO (C.pin p (.lst xs)) ow2 G2 ρ2 σ2 H2 pd2 O2) : RO C ow2 G2 ρ2 σ2 H2 pd2 O2 ∧ FlO C G2 H2 O2 p xs := by
  have at1 : ∀ a, a ≠ p → (C.pin p (.lst xs)).H a = C.H a := fun a z => if_neg z
  have at2 : ∀ a, a ≠ p → (C.pin p (.lst xs)).O a = C.O a := fun a z => if_neg z
  have ap : (C.pin p (.lst xs)).H p = some (.lst xs) := if_pos rfl
  have ap2 : (C.pin p (.lst xs)).O p = none := if_pos rfl
  have gp0 : C.G p = none := by
    cases e : C.G p with
    | none => rfl
    | some z => have := h.g0 p z e; rw [f.gp] at this; cases this
  have gp : G2 p = none := by
    cases e : G2 p with
    | none => rfl
    | some z =>
      rcases h2.gn p z e with q | q
      · rw [show (C.pin p (.lst xs)).G p = C.G p from rfl, gp0] at q; cases q
      · rw [ap] at q; cases q
  have op : O2 p = none := by
    cases e : O2 p with
    | none => rfl
    | some l =>
      obtain ⟨_, _, q⟩ := h2.og p l e
      rcases q with q | ⟨π, q⟩
      · rw [ap] at q; cases q
      · rw [ap2] at q; cases q
  refine ⟨⟨h2.len, h2.gh, h2.g0, fun a u e => ?_, fun a l e => ?_, h.cok, fun a u e n => ?_, fun a e => ?_, h2.mp, h2.sl, h2.pn, h2.np⟩, gp, op, f.cp, h2.fr p _ ap ap2⟩
  · have z : a ≠ p := fun z => by rw [z, gp] at e; cases e
    have := h2.gn a u e; rw [at1 a z] at this; exact this
  · have z : a ≠ p := fun z => by rw [z, op] at e; cases e
    obtain ⟨q1, q2, q3⟩ := h2.og a l e
    refine ⟨q1, q2, ?_⟩
    unfold Nw at q3 ⊢
    rw [at1 a z, at2 a z] at q3; exact q3
  · have z : a ≠ p := fun z => by rw [z, f.cp] at e; cases e
    exact h2.fr a u (by rw [at1 a z]; exact e) (by rw [at2 a z]; exact n)
  · by_cases z : a = p
    · rw [z]; exact f.cp
    · have := h2.al a e; rw [at1 a z] at this; exact this
theorem RO.catch (h : RO C ow G ρ σ H pd O) (f : FlO C G H O p xs) : RO C ow (upd G p (.lst xs)) ρ σ H pd O ∧ Same G (upd G p (.lst xs)) := by
  have sG := same_upd f.gp (.lst xs)
  refine ⟨⟨h.len, fun a u e => ?_, fun a u e => sG _ _ (h.g0 a u e), fun a u e => ?_, fun a l e => ?_, h.cok, h.fr, h.al, h.mp, fun i d e => ?_, ?_, h.np⟩, sG⟩
  · by_cases z : a = p
    · subst z; rw [upd_same] at e; cases e; exact f.hp
    · rw [upd_ne z] at e; exact h.gh _ _ e
  · by_cases z : a = p
    · subst z; exact .inr f.cp
    · rw [upd_ne z] at e; exact h.gn a u e
  · have z : a ≠ p := fun z => by rw [z, f.op] at e; cases e
    rw [upd_ne z]; exact h.og a l e
  · obtain ⟨v, h1, h2⟩ := h.sl i d e
    refine ⟨v, h1, ?_⟩
    split at h2
    · rename_i c; rw [if_pos c]; exact h2.keep sG.ts fun a τ q => ⟨q, rfl⟩
    · rename_i c; rw [if_neg c]; exact h2.mono sG
  · exact Pend.keep sG.ts (fun a j π _ q => ⟨q, rfl⟩) h.pn
end
end L2

set_option Elab.async false
set_option linter.all false
set_option maxRecDepth 100000
set_option maxHeartbeats 1000000
namespace L2
open PySem PySem.Spec PyProof.Rows

noncomputable def SN (ow : List Bool) (t : TE) (m : MA) : Prop := ∀ (C : Ctx) (G : Hp) (ρ : DSt) (σ : St) (H : Hp) (pd : List (D × V)) (q : List D → DSt → Prop) (Q : VK), R C ow G ρ σ H pd → m ρ q →
  (∀ ds ρ' xs p G' H', q ds ρ' → Same G G' → Kp ow ρ ρ' → R C ow G' ρ' σ H' pd → H' p = none → Reps G' ds xs → Q (.ref p) (upd H' p (.lst xs))) → t σ H Q
section
variable {X : Cx} {ow : List Bool} {a b e : Expr} {es : List Expr} {ma mb : ME} {mr : MA} {pos : Pos} {x : Str} {p' : Pos}
end

noncomputable def RF (C : Ctx) (ow : List Bool) (G : Hp) (ρ : DSt) (σ : St) (H : Hp) (p : Addr) (xs : List V) : Prop := ∃ O, RO C ow G ρ σ H [] O ∧ FlO C G H O p xs
structure Fl (C : Ctx) (ow : List Bool) (i : Nat) (G : Hp) (ρ : DSt) (σ : St) (H : Hp) (p : Addr) (ds : List D) : Prop where
  ex : ∃ xs, RF C ow G ρ σ H p xs ∧ Reps G ds xs
  no : ρ[i]? = some none
  at' : σ[i]? = some (some (.ref p))
noncomputable abbrev MFl := (List D → DSt → Prop) → List D → DSt → Prop
noncomputable abbrev MFe := EndsD → List D → DSt → Prop
noncomputable def SFl (M : Md) (i : Nat) (t : TS) (m : MFl) : Prop := ∀ (C : Ctx) (G : Hp) (ρ : DSt) (σ : St) (H : Hp) (p : Addr) (ds : List D) (n : List D → DSt → Prop) (D : Ends), MuOk C M.mu → C.np = 0 → Fl C M.ow i G ρ σ H p ds → m n ds ρ →
  (∀ ds' ρ' σ' G' H', n ds' ρ' → Same G G' → Fl C M.ow i G' ρ' σ' H' p ds' → D.nx σ' H') → t D σ H
noncomputable def SFe (M : Md) (i : Nat) (t : TS) (m : MFe) : Prop := ∀ (C : Ctx) (G : Hp) (ρ : DSt) (σ : St) (H : Hp) (p : Addr) (ds : List D) (n : EndsD) (D : Ends), MuOk C M.mu → C.np = 0 → Fl C M.ow i G ρ σ H p ds → m n ds ρ → Ks C M.ow M.fr G n D → t D σ H
structure QFl (X : Cx) (M : Md) (i : Nat) (st : Stmt) (m : MFl) : Prop where
  ex : ∃ t, PS X st t ∧ SFl M i t m
structure QFls (X : Cx) (M : Md) (i : Nat) (st : List Stmt) (m : MFl) : Prop where
  ex : ∃ t, PSs X st t ∧ SFl M i t m
structure QFe (X : Cx) (M : Md) (i : Nat) (st : List Stmt) (m : MFe) : Prop where
  ex : ∃ t, PSs X st t ∧ SFe M i t m
section
variable {X : Cx} {M : Md} {i : Nat} {st : Stmt} {rest : List Stmt} {m1 m2 : MFl} {me : MFe} {ms : MS} {pos pos' : Pos}
noncomputable def fNil : MFl := fun n ds ρ => n ds ρ
noncomputable def fSeq (a b : MFl) : MFl := fun n ds ρ => a (fun ds' ρ' => b n ds' ρ') ds ρ
theorem fls_nil : QFls X M i [] fNil := ⟨_, pss_nil, fun C G ρ σ H p ds n D hm hn f h k => k ds ρ σ G H h (Same.refl _) f⟩
theorem fls_cons (h : QFl X M i st m1) (h2 : QFls X M i rest m2) : QFls X M i (st :: rest) (fSeq m1 m2) := by
  obtain ⟨t, p, s⟩ := h; obtain ⟨t2, p2, s2⟩ := h2
  exact ⟨_, pss_cons p p2, fun C G ρ σ H p ds n D hm hn f h k => s C G ρ σ H p ds _ _ hm hn f h fun ds' ρ' σ' G' H' h' z f' => s2 C G' ρ' σ' H' p ds' n D hm hn f' h' fun ds2 ρ2 σ2 G2 H2 h2 z2 f2 => k ds2 ρ2 σ2 G2 H2 h2 (z.trans z2) f2⟩
theorem fe_cons (h : QFl X M i st m1) (h2 : QFe X M i rest me) : QFe X M i (st :: rest) (fun n ds ρ => m1 (fun ds' ρ' => me n ds' ρ') ds ρ) := by
  obtain ⟨t, p, s⟩ := h; obtain ⟨t2, p2, s2⟩ := h2
  refine ⟨_, pss_cons p p2, fun C G ρ σ H p ds n D hm hn f h k => s C G ρ σ H p ds _ _ hm hn f h fun ds' ρ' σ' G' H' h' z f' => ?_⟩
  exact s2 C G' ρ' σ' H' p ds' n D hm hn f' h' (k.mono z)

theorem fe_end (h : QSs X M rest ms) (ho : M.ow[i]? ≠ some true := by decide) (hu : M.mu[i]? ≠ some true := by decide) : QFe X M i rest (fun n ds ρ => ms n (ρ.set i (some (.lst ds)))) := by
  obtain ⟨t, p, s⟩ := h
  refine ⟨_, p, fun C G ρ σ H p ds n D hm hn f h k => ?_⟩
  obtain ⟨xs, ⟨O, ro, fo⟩, rs⟩ := f.ex
  obtain ⟨r1, z1⟩ := ro.catch fo
  have r2 := r1.setS ho (hm.no hu) (rep_lst upd_same (Reps.mono z1 _ _ rs))
  have e : σ.set i (some (.ref p)) = σ := by
    apply List.ext_getElem?
    intro j
    by_cases c : i = j
    · subst c
      rw [f.at', List.getElem?_set_self (List.getElem?_eq_some_iff.mp f.at').1]
    · rw [List.getElem?_set_ne c]
  rw [e] at r2
  exact s C _ _ σ H n D hm hn ⟨O, r2⟩ h (k.mono z1)
noncomputable def mBegin (i : Nat) (mN : MA) (me : MFe) : MS := fun n ρ => mN ρ fun ds ρ' => i < ρ'.length ∧ me n ds (ρ'.set i none)

variable {e b c : Expr} {ma mb : ME} {mt : MT}
noncomputable def fAppend (ma : ME) : MFl := fun n ds ρ => ma ρ fun d ρ' => ds.length < 1000 ∧ n (ds ++ [d]) ρ'
theorem kp_no {ow : List Bool} {i : Nat} {ρ ρ' : DSt} (kp : Kp ow ρ ρ') (ho : ow[i]? ≠ some true) (h : ρ[i]? = some none) : ρ'[i]? = some none := (kp i ho).trans h
theorem fl_append {x : Str} {apos cpos npos : Pos} (hN : X.N[i]? = some x) (he : QE X M.ow e ma) (ho : M.ow[i]? ≠ some true := by decide)
    (hv : Vis X.env.scope x := by first | exact Or.inl rfl | exact Or.inr (Or.inl rfl) | exact Or.inr (Or.inr rfl)) (hd : (x == ("__debug__" : Str)) = false := by decide) (hcd : (x == ("__classdict__" : Str)) = false := by decide)
    (hbase : attributeBase (.Name x npos) "append" X.env (eval (.Name x npos) X.env) = eval (.Name x npos) X.env := by rfl)
    (hfew : ((backTo cpos (starEach [e] X.env)).all (fun x => !x.1) && (backToKw cpos (keywordEach [] X.env)).all (fun x => x.1.isSome)
      && decide ([e].length + ([] : List Keyword).length + (if ([] : List Keyword).isEmpty then 0 else 1) < 30)) = true := by rfl)
    (hline : (apos.endLine == cpos.line) = true := by rfl) (hst : starEach [e] X.env = [(false, eval e X.env)] := by rfl)
    (hs : swapsWith (.Call (.Attribute (.Name x npos) "append" apos) [e] [] cpos) none pos.line X.env = pure false := by rfl) :
    QFl X M i (.Expr (.Call (.Attribute (.Name x npos) "append" apos) [e] [] cpos) pos) (fAppend ma) := by
  obtain ⟨t, p, s⟩ := he
  refine ⟨_, ps_expr (pe_bm PySem.F.plainAttrs_list PySem.F.slot_list_append PySem.F.type_list_append mt_append (pe_var hN hv hd hcd) (pa_cons p pa_nil hst) hbase hfew hline hst (by rfl)) hs, fun C G ρ σ H p ds n D hm hn f h k => ?_⟩
  obtain ⟨xs, ⟨O, ro, fo⟩, rs⟩ := f.ex
  refine ⟨.ref p, f.at', .inl ⟨rfl, xs, SqL.of fo.hp⟩, ?_⟩
  refine s (C.pin p (.lst xs)) G ρ σ H [] _ _ ⟨O, ro.frame fo⟩ h fun d ρ' v G' H' hq z kp r' pv => ?_
  obtain ⟨O2, r2⟩ := r'
  obtain ⟨r3, f3⟩ := ro.unframe fo r2
  have hl := rs.length
  refine ⟨p, xs, v, rfl, rfl, f3.hp, by rw [hl]; exact small1000 (Nat.le_of_lt hq.1), ?_⟩
  exact k _ ρ' σ G' _ hq.2 z ⟨⟨xs ++ [v], ⟨O2, r3.off f3.gp f3.op f3.cp _, f3.gp, f3.op, f3.cp, upd_same⟩, reps_app (Reps.mono z _ _ rs) (reps_cons pv reps_nil)⟩, kp_no kp ho f.no, f.at'⟩
end
end L2

set_option Elab.async false
set_option linter.all false
set_option maxRecDepth 100000
set_option maxHeartbeats 1000000
namespace L2
open PySem PySem.Spec PyProof.Rows

section
variable {C : Ctx} {ow : List Bool} {i : Nat} {G : Hp} {ρ : DSt} {σ : St} {H : Hp} {p : Addr} {ds : List D}
end
section
variable {X : Cx} {M : Md} {i : Nat} {pos pos' : Pos} {e c : Expr} {ma : ME} {mt : MT} {m1 m2 : MFl}
end

section
variable {X : Cx} {M : Md} {a b e : Expr} {ma mb : ME} {pos : Pos}
end

section
variable {X : Cx} {M : Md} {a b : Expr} {ma mb : ME} {pos : Pos}
end
end L2

set_option Elab.async false
set_option linter.all false
set_option maxRecDepth 100000
set_option maxHeartbeats 1000000
namespace L2
open PySem PySem.Spec PyProof.Rows

section
variable {X : Cx} {pos p1 p2 q1 q2 : Pos} {n1 n2 : Nat} {k1 k2 x y : Str} {i j : Nat} {ow : List Bool}
end
end L2

set_option Elab.async false
set_option linter.all false
set_option maxRecDepth 100000
set_option maxHeartbeats 1000000
namespace L2
open PySem PySem.Spec PyProof.Rows

section
variable {X : Cx} {ow : List Bool} {a b e : Expr} {ma mb : ME} {pos p2 : Pos} {lo hi : Option Expr} {ml mh : MO}
end

section
variable {X : Cx} {M : Md} {i : Nat} {st : Stmt} {m : MFl}
end
end L2

set_option Elab.async false
set_option linter.all false
set_option maxRecDepth 100000
set_option maxHeartbeats 1000000
namespace L2
open PySem PySem.Spec PyProof.Rows


end L2

set_option Elab.async false
set_option linter.all false
set_option maxRecDepth 100000
set_option maxHeartbeats 1000000
namespace L2
open PySem PySem.Spec PyProof.Rows

end L2

set_option Elab.async false
set_option linter.all false
set_option maxRecDepth 100000
set_option maxHeartbeats 1000000
namespace L2
open PySem PySem.Spec PyProof.Rows

end L2

set_option Elab.async false
set_option linter.all false
set_option maxRecDepth 100000
set_option exponentiation.threshold 9000
namespace L2
open PySem PySem.Spec PyProof.Rows
section
variable {X : Cx}
end
end L2

set_option Elab.async false
set_option linter.all false
set_option maxRecDepth 100000
set_option exponentiation.threshold 9000
namespace L2
open PySem

theorem bound_bt {ps rs : List Int} {as : List Ask} {prs : List Rat} (hT : Tree ps rs) (ha : AsksOk ps as) (hp : PricesOk ps prs) : Bt (boundQ ps rs as prs) 1700 := by
  have hpl := hp.len
  have hi := hT.hi
  have hal := ha.len
  have hpr : prodD prs < 2 ^ 1500 := Nat.lt_of_le_of_lt (prod_bt hp.bt) (Nat.pow_lt_pow_right (by decide) (by omega))
  have hp0 : (0 : Int) < prodD prs := by have := prodD_pos prs; omega
  rw [← bound_over hT ha hpl]
  refine Bt.divInt hp0 ?_ (by rw [Int.natAbs_natCast]; exact Nat.lt_of_lt_of_le hpr (two_le (by decide)))
  have h1 : (roomZ rs (topsOf prs)).sum.natAbs ≤ 2 ^ 1650 := by
    have h := sum_abs_le (n := 2 ^ 1584) (ns := roomZ rs (topsOf prs)) fun x hx => by
      obtain ⟨a, ha, t, ht, rfl⟩ := mem_zipW hx
      obtain ⟨i, hi⟩ := List.getElem?_of_mem ha
      have := hT.room i a hi
      obtain ⟨j, hj⟩ := List.getElem?_of_mem ht
      have hjl := (List.getElem?_eq_some_iff.mp hj).1
      rw [topsOf_len] at hjl
      have hb := tops_bd hp hpr hjl
      rw [List.getD_eq_getElem?_getD, hj] at hb
      rw [abs_mulI]
      exact lt_mul_pow (m := 20) (n := 1564) (Nat.lt_of_le_of_lt (show _ ≤ 1000000 by omega) (by decide)) hb
    refine Nat.le_trans h ?_
    have hl : (roomZ rs (topsOf prs)).length ≤ 2 ^ 5 := by
      unfold roomZ; rw [List.length_zipWith, topsOf_len]; omega
    refine Nat.le_trans (Nat.mul_le_mul_right _ hl) ?_
    rw [← Nat.pow_add]; exact two_le (by decide)
  have h2 : ((as.map fun a => posZ (spareZ ps a (topsOf prs) (prodD prs))).sum).natAbs ≤ 2 ^ 1650 := by
    have h := sum_abs_le (n := 2 ^ 1621) (ns := as.map fun a => posZ (spareZ ps a (topsOf prs) (prodD prs))) fun x hx => by
      obtain ⟨a, hm, rfl⟩ := List.mem_map.mp hx
      have hok := ha.ok a hm
      have he := hok.ends
      have hwl := way_len46 hT he
      have s0 := hok.s0; have s1 := hok.s1; have w0 := hok.w0; have w1 := hok.w1
      have hs : (spareZ ps a (topsOf prs) (prodD prs)).natAbs < 2 ^ 1621 := by
        unfold spareZ
        have hsum : ((askWay ps a).map fun t => (topsOf prs).getD (t - 1).toNat 0).sum.natAbs < 2 ^ 1600 := by
          have h1 := sum_abs_le (n := 2 ^ 1564) (ns := (askWay ps a).map fun t => (topsOf prs).getD (t - 1).toNat 0) fun x hx => by
            obtain ⟨t, ht, rfl⟩ := List.mem_map.mp hx
            have hm := way_mem hT he ht
            exact tops_bd hp hpr (by omega)
          rw [List.length_map] at h1
          refine Nat.lt_of_le_of_lt h1 ?_
          refine Nat.lt_of_le_of_lt (Nat.mul_le_mul_right _ (Nat.le_trans hwl (show 46 ≤ 2 ^ 6 by decide))) ?_
          rw [← Nat.pow_add]; exact Nat.pow_lt_pow_right (by decide) (by decide)
        have a1 : (a.worth * (prodD prs : Int)).natAbs < 2 ^ 1540 := by
          rw [abs_mulI, Int.natAbs_natCast]; exact lt_mul_pow (m := 40) (n := 1500) (Nat.lt_of_le_of_lt (show _ ≤ 1000000000000 by omega) (by decide)) hpr
        have a2 : (a.size * ((askWay ps a).map fun t => (topsOf prs).getD (t - 1).toNat 0).sum).natAbs < 2 ^ 1620 := by
          rw [abs_mulI]; exact lt_mul_pow (m := 20) (n := 1600) (Nat.lt_of_le_of_lt (show _ ≤ 1000000 by omega) (by decide)) hsum
        have a3 : (2 : Nat) ^ 1540 ≤ 2 ^ 1620 := two_le (by decide)
        have a4 : (2 : Nat) ^ 1621 = 2 ^ 1620 + 2 ^ 1620 := by rw [Nat.pow_succ, Nat.mul_two]
        rw [a4]
        generalize (2 : Nat) ^ 1620 = M at *
        omega
      have hz : (posZ (spareZ ps a (topsOf prs) (prodD prs))).natAbs ≤ (spareZ ps a (topsOf prs) (prodD prs)).natAbs := by
        unfold posZ; split <;> omega
      exact Nat.lt_of_le_of_lt hz hs
    refine Nat.le_trans h ?_
    refine Nat.le_trans (Nat.mul_le_mul_right _ (show _ ≤ 2 ^ 5 by rw [List.length_map]; omega)) ?_
    rw [← Nat.pow_add]; exact two_le (by decide)
  have h3 : (2 : Nat) ^ 1651 = 2 ^ 1650 + 2 ^ 1650 := by rw [Nat.pow_succ, Nat.mul_two]
  refine Nat.lt_of_le_of_lt (m := 2 ^ 1651) ?_ (Nat.pow_lt_pow_right (by decide) (by decide))
  unfold boundZ
  rw [h3]
  generalize (2 : Nat) ^ 1650 = M at *
  omega



end L2

set_option Elab.async false
set_option linter.all false
set_option maxRecDepth 100000
set_option exponentiation.threshold 9000
namespace L2
open PySem

theorem rat_le_iff (r s : Rat) : (r.num * s.den ≤ s.num * r.den) ↔ r ≤ s := by
  constructor
  · intro h
    have := Rat.not_lt.mp fun h2 => absurd ((Rat.lt_iff s r).mp h2) (by omega)
    exact this
  · intro h
    have : ¬ s < r := Rat.not_lt.mpr h
    have h3 : ¬ (s.num * r.den < r.num * s.den) := fun z => this ((Rat.lt_iff s r).mpr z)
    omega
end L2

set_option Elab.async false
set_option linter.all false
set_option maxRecDepth 100000
set_option maxHeartbeats 1000000
namespace L2
open PySem PySem.Spec PyProof.Rows

section
variable {X : Cx}
noncomputable def rPopI : V → List V → Hp → VK → Prop := fun x vs H Q => ∃ (l : Addr) (ns : List Int) (k : Int), x = .ref l ∧ vs = [.int k] ∧ H l = some (.lst (ns.map V.int)) ∧ 0 ≤ k ∧ k < (ns.length : Int) ∧ Q (.int (ns.getD k.toNat 0)) (upd H l (.lst ((ns.eraseIdx k.toNat).map V.int)))
theorem mt_popI : MtM X "list.pop" rPopI := by
  (try refine ⟨?_⟩); intro pins s σ H x vs v us Q I rx rv h
  obtain ⟨l, ns, k, rfl, rfl, hH, k0, k1, q⟩ := h
  cases rx
  obtain ⟨u, rfl, ru⟩ := rv.one
  obtain ⟨t, rfl⟩ := ru
  obtain ⟨z, its, n, r, hl, e⟩ := I.lstM hH
  obtain ⟨h1, h2⟩ := vals_intsR r
  have hk : k.toNat < its.length := by omega
  obtain ⟨t', e'⟩ := h2 k.toNat hk
  have hz : its.length ≤ sizeLine := by
    have := r.length
    rw [← this]; exact z
  refine call_meets F.slot_list_pop ⟨_, e, rfl⟩ F.entry_list_pop (F.args_list_pop_2 _ _)
    (MeetsSeq.list_pop_at l its.toArray n k t k.toNat (.int (ns.getD k.toNat 0) t') ?_ ?_ ?_ (by rw [List.size_toArray]; exact hz)) ⟨e, ?_⟩
  · have hz2 : its.length ≤ 2 ^ 24 := hz
    have : (ns.length : Int) ≤ 2 ^ 24 := by omega
    unfold Builtin.List.listFitsIndex
    simp
    omega
  · unfold seqIndex?
    simp [show ¬ k < 0 by omega]
    omega
  · rw [List.getElem?_toArray, List.getElem?_eq_getElem hk, e']
  · refine ⟨.int (ns.getD k.toNat 0), _, I.lset (its' := its.eraseIdx k.toNat) hH e ?_ ?_ ?_, ⟨t', rfl⟩, q⟩
    · rw [List.eraseIdxIfInBounds_toArray]
    · rw [map_eraseIdx]; exact r.eraseIdx _
    · rw [List.length_map]
      have := List.length_eraseIdx_le (l := ns) (i := k.toNat)
      rw [List.length_map] at *
      omega
end
section
variable {X : Cx} {M : Md} {e : Expr} {ma : ME} {pos : Pos}
noncomputable def mPopI (i : Nat) (m : ME) : ME := fun ρ q => match ρ[i]? with
  | some (some (.lst _)) => m ρ fun d ρ1 => match ρ1[i]? with
    | some (some (.lst ds)) => ∃ (ns : List Int) (k : Int), d = .int k ∧ ds = ns.map D.int ∧ 0 ≤ k ∧ k < (ns.length : Int) ∧ q (.int (ns.getD k.toNat 0)) (ρ1.set i (some (dInts (ns.eraseIdx k.toNat))))
    | _ => False
  | _ => False
theorem qe_popI {ow : List Bool} {i : Nat} {x : Str} {apos cpos npos : Pos} (hN : X.N[i]? = some x) (he : QE X ow e ma) (ho : ow[i]? = some true := by decide)
    (hv : Vis X.env.scope x := by first | exact Or.inl rfl | exact Or.inr (Or.inl rfl) | exact Or.inr (Or.inr rfl)) (hd : (x == ("__debug__" : Str)) = false := by decide) (hcd : (x == ("__classdict__" : Str)) = false := by decide)
    (hbase : attributeBase (.Name x npos) "pop" X.env (eval (.Name x npos) X.env) = eval (.Name x npos) X.env := by rfl)
    (hfew : ((backTo cpos (starEach [e] X.env)).all (fun x => !x.1) && (backToKw cpos (keywordEach [] X.env)).all (fun x => x.1.isSome)
      && decide ([e].length + ([] : List Keyword).length + (if ([] : List Keyword).isEmpty then 0 else 1) < 30)) = true := by rfl)
    (hline : (apos.endLine == cpos.line) = true := by rfl) (hst : starEach [e] X.env = [(false, eval e X.env)] := by rfl) :
    QE X ow (.Call (.Attribute (.Name x npos) "pop" apos) [e] [] cpos) (mPopI i ma) := by
  obtain ⟨t, p, s⟩ := he
  refine ⟨_, pe_bm PySem.F.plainAttrs_list PySem.F.slot_list_pop PySem.F.type_list_pop mt_popI (pe_var hN hv hd hcd) (pa_cons p pa_nil hst) hbase hfew hline hst (by rfl), fun C G ρ σ H pd q Q r h k => ?_⟩
  unfold mPopI at h
  split at h
  · rename_i ds e1
    obtain ⟨O, ro⟩ := r
    obtain ⟨a, xs, h1, h2, _, _⟩ := ro.write e1 ho
    refine ⟨.ref a, h1, .inl ⟨rfl, xs, SqL.of h2⟩, ?_⟩
    refine s C G ρ σ H pd _ _ ⟨O, ro⟩ h fun d ρ' v G' H' hq z kp r' pd' => ?_
    split at hq
    · rename_i ds' e2
      obtain ⟨ns, kk, rfl, rfl, k0, k1, hq⟩ := hq
      obtain ⟨O', r'⟩ := r'
      obtain ⟨a', xs', g1, g2, g3, g4⟩ := r'.write e2 ho
      rw [h1] at g1; cases g1
      have ex : xs' = ns.map V.int := reps_ints_of (Seps.imm _ _ _ _ (imms_ints ns) g3)
      subst ex
      refine ⟨a, ns, kk, rfl, by rw [rep_int_of pd'], g2, k0, k1, ?_⟩
      exact k _ _ _ G' _ hq z (fun j hj => (List.getElem?_set_ne (fun (z : i = j) => hj (z ▸ ho))).trans (kp j hj)) ⟨O', g4 _ _ (Reps.sep _ _ _ _ (imms_ints _) (reps_ints _))⟩ (rep_int _)
    · exact hq.elim
  · exact h.elim
end

section
variable {X : Cx} {M : Md} {i : Nat} {st : Stmt} {rest : List Stmt} {m1 m2 : MFl} {me : MFe} {pos pos' : Pos} {e : Expr} {ma : ME}
noncomputable def fFor (j : Nat) (mi : MA) (mb : MFl) : MFl := fun n ds ρ => mi ρ fun xs ρ1 => ∃ I : Nat → List D → DSt → Prop, I 0 ds ρ1 ∧ (∀ k d ds ρ, xs[k]? = some d → I k ds ρ → mb (I (k + 1)) ds (ρ.set j (some d))) ∧ ∀ ds ρ, I xs.length ds ρ → n ds ρ
theorem fl_for {j : Nat} {y : Str} {iter : Expr} {body : List Stmt} {mi : MA} (hp : PassesOwn (model X.prog X.w) X.A X.env X.xe) (hc : X.calm = true) (hN : X.N.Nodup) (hj : X.N[j]? = some y) (hy : Loc X.env.scope y)
    (hi : QI X M.ow (.Name y pos') iter mi) (hb : QFls X M i body m1) (hij : i ≠ j := by decide) (ho : M.ow[i]? ≠ some true := by decide) (oj : M.ow[j]? ≠ some true := by decide) (uj : M.mu[j]? ≠ some true := by decide)
    (hs : ∀ x, foldedSetIterable iter X.env x = pure x := by intro _; rfl) (hf : X.fn y = true ∨ X.env.scope.names.lookup y = some .local := by first | exact .inl rfl | exact .inr rfl | assumption) :
    QFl X M i (.For (.Name y pos') iter body [] pos) (fFor j mi m1) := by
  obtain ⟨ti, pi, si⟩ := hi; obtain ⟨tb, pb, sb⟩ := hb
  refine ⟨_, ps_for hp hc pi (pg_name hN hj hy hf) pb hs, fun C G ρ σ H p ds n D hm hn f h k => ?_⟩
  obtain ⟨xs, ⟨O, ro, fo⟩, rs⟩ := f.ex
  refine si (C.pin p (.lst xs)) G ρ σ H [] _ _ ⟨O, ro.frame fo⟩ h fun es ρ0 G0 H0 J hq z0 kp r0 jo => ?_
  obtain ⟨O0, r0⟩ := r0
  obtain ⟨r0', f0⟩ := ro.unframe fo r0
  have fl0 : Fl C M.ow i G0 ρ0 σ H0 p ds := ⟨⟨xs, ⟨O0, r0', f0⟩, Reps.mono z0 _ _ rs⟩, kp_no kp ho f.no, f.at'⟩
  obtain ⟨I, i0, turn, fin⟩ := hq
  refine ⟨fun a b σ' H' => b = es.length - a ∧ a ≤ es.length ∧ ∃ G' ρ' ds', Same G0 G' ∧ Fl C M.ow i G' ρ' σ' H' p ds' ∧ I a ds' ρ', ⟨_, rfl, Nat.zero_le _, G0, ρ0, ds, Same.refl _, fl0, i0⟩, ?_⟩
  rintro a b σ' H' ⟨rfl, ha, G', ρ', ds', z, fl, w⟩
  obtain ⟨xs', ⟨O', ro', fo'⟩, rs'⟩ := fl.ex
  obtain ⟨stp, go⟩ := jo (C.pin p (.lst xs')) M.ow G' ρ' σ' H' [] a z ⟨O', ro'.frame fo'⟩
  by_cases hlt : a < es.length
  · obtain ⟨g1, g2⟩ := go es[a] (List.getElem?_eq_getElem hlt)
    refine .inr ⟨g1, fun σ2 H2 => ∃ G2 ρ2 ds2, Same G0 G2 ∧ Fl C M.ow i G2 ρ2 σ2 H2 p ds2 ∧ I (a + 1) ds2 ρ2, fun σ2 H2 h => ⟨es.length - (a + 1), by omega, rfl, hlt, h⟩, fun x H1 hy => ?_⟩
    obtain ⟨G1, z1, ⟨O1, r1⟩, p1⟩ := g2 x H1 hy
    obtain ⟨r2, f2⟩ := ro'.unframe fo' r1
    exact sb C G1 (ρ'.set j (some es[a])) (σ'.set j (some x)) H1 p ds' _ _ hm hn ⟨⟨xs', ⟨O1, r2.setS oj (hm.no uj) p1, f2⟩, Reps.mono z1 _ _ rs'⟩, by rw [List.getElem?_set_ne (Ne.symm hij)]; exact fl.no, by rw [List.getElem?_set_ne (Ne.symm hij)]; exact fl.at'⟩ (turn a es[a] ds' ρ' (List.getElem?_eq_getElem hlt) w) fun ds3 ρ3 σ3 G3 H3 h3 z3 f3 => ⟨G3, ρ3, ds3, z.trans (z1.trans z3), f3, h3⟩
  · have ea : a = es.length := by omega
    subst ea
    exact .inl ⟨stp (Nat.le_refl _), k ds' ρ' σ' G' H' (fin ds' ρ' w) (z0.trans z) fl⟩
noncomputable def fSetO (j : Nat) (ma : ME) : MFl := fun n ds ρ => ma ρ fun d ρ' => n ds (ρ'.set j (some d))
theorem fl_setO {j : Nat} {y : Str} (hN : X.N.Nodup) (hj : X.N[j]? = some y) (hy : Loc X.env.scope y) (he : QF X M.ow e ma) (hij : i ≠ j := by decide) (ho : M.ow[i]? ≠ some true := by decide) (oj : M.ow[j]? = some true := by decide) (uj : M.mu[j]? ≠ some true := by decide)
    (hs : swapsWith e (some (.Name y pos')) pos.line X.env = pure false := by rfl) (hf : X.fn y = true ∨ X.env.scope.names.lookup y = some .local := by first | exact .inl rfl | exact .inr rfl | assumption) :
    QFl X M i (.Assign [.Name y pos'] e pos) (fSetO j ma) := by
  obtain ⟨t, p, s⟩ := he
  refine ⟨_, ps_set hN hj hy p hs hf, fun C G ρ σ H p ds n D hm hn f h k => ?_⟩
  obtain ⟨xs, ⟨O, ro, fo⟩, rs⟩ := f.ex
  refine s (C.pin p (.lst xs)) G ρ σ H [] _ _ ⟨O, ro.frame fo⟩ h fun d ρ' v G' H' hq z kp r' => ?_
  obtain ⟨O1, r1⟩ := r'
  obtain ⟨O2, r2⟩ := r1.setO oj (hm.no uj) (by show C.np ≤ _; rw [hn]; exact Nat.zero_le _)
  obtain ⟨r3, f3⟩ := ro.unframe fo r2
  exact k ds _ _ G' H' hq z ⟨⟨xs, ⟨O2, r3, f3⟩, Reps.mono z _ _ rs⟩, by rw [List.getElem?_set_ne (Ne.symm hij)]; exact kp_no kp ho f.no, by rw [List.getElem?_set_ne (Ne.symm hij)]; exact f.at'⟩
end
section
variable {X : Cx} {M : Md} {elt tg iter : Expr} {ifs : List Expr} {pos : Pos} {mi : MA} {mg : MG} {mt : MT} {me : ME} {scope : Scope} {cl : List (Str × Addr)} {rest : List Stmt} {mf : MFe}
noncomputable def mCompN (mi : MA) (g : MG) (mt : MT) (me : ME) (k : Nat) (js : List Nat) : MA := fun ρ q => mi ρ fun ds ρ1 => ds.length ≤ 1000 ∧ compD g mt me (rho0 k js ρ1) ds fun es => q es ρ1
theorem comp_sn {ow : List Bool} {wi : TI} {g : TG} {own : List Str} {js : List Nat} (si : SI ow wi mi) (cg : CG own.length g mg) (hj : ∀ j ∈ js, ow[j]? ≠ some true) : SN ow (tComp wi g (canT [] mt) (canE [] me) own js) (mCompN mi mg mt me own.length js) := fun C G ρ σ H pd q Q r h k =>
  si C G ρ σ H pd _ _ r h fun ds ρ' G' H' J hq z kp r' jo => by
    refine comp_sound r' hj jo cg.sg can_st can_se (fun x H k hg => cg.kp _ sig0_none _ x H k (kept_refl _) hg) hq.1 hq.2 fun es vs G2 H2 hK z2 r2 p2 hl p hp => ?_
    exact k es ρ' vs p G2 H2 hK (z.trans z2) kp r2 hp p2
theorem fl_beginC {g : TG} {i : Nat} {y : Str} {spos py : Pos} (own : List Str) (js : List Nat) (c : CompOk X scope cl own js) (hc : X.calm = true) (hN : X.N.Nodup) (hy : X.N[i]? = some y) (hx : Loc X.env.scope y) (hi : QI X M.ow tg iter mi) (cg : CG own.length g mg)
    (inner : ∀ (C : Addr) (s₀ : Shared) (H₀ : Hp) (ex : List Addr), CInn (compCx X scope cl (nam0 X own js) C s₀ H₀ ex) tg ifs elt g mt me) (hr : QFe X M i rest mf) (hj : ∀ j ∈ js, M.ow[j]? ≠ some true := by decide) (ho : M.ow[i]? ≠ some true := by decide) (hu : M.mu[i]? ≠ some true := by decide)
    (hsw : swapsWith (.ListComp elt [⟨tg, iter, ifs, 0⟩] scope pos) (some (.Name y py)) spos.line X.env = pure true := by rfl)
    (hs : ∀ x, foldedSetIterable iter X.env x = pure x := by intro _; rfl) (hf : X.fn y = true ∨ X.env.scope.names.lookup y = some .local := by first | exact .inl rfl | exact .inr rfl | assumption) :
    QSs X M (.Assign [.Name y py] (.ListComp elt [⟨tg, iter, ifs, 0⟩] scope pos) spos :: rest) (mBegin i (mCompN mi mg mt me own.length js) mf) := by
  obtain ⟨wi, pi, si⟩ := hi; obtain ⟨t2, p2, s2⟩ := hr
  refine ⟨_, pss_cons (ps_setComp own js c hc hN hy hx pi (fun C s₀ H₀ ex => ⟨(inner C s₀ H₀ ex).pg, (inner C s₀ H₀ ex).qi.can, (inner C s₀ H₀ ex).qe.can⟩) hsw hs hf) p2, fun C G ρ σ H n D hm hn r h k => ?_⟩
  unfold tSeq tAsg
  refine comp_sn si cg hj C G ρ σ H [] _ _ r h fun ds ρ' xs p G' H' hq z kp r' hp rs => ?_
  obtain ⟨O, ro⟩ := r'
  obtain ⟨g1, g2, g3⟩ := ro.free hp
  have hl : i < σ.length := by rw [← ro.len]; exact hq.1
  have r1 := (ro.off g1 g2 g3 (.lst xs)).gone i (hm.no hu)
  have r2 : RO C M.ow G' (ρ'.set i none) (σ.set i (some (.ref p))) (upd H' p (.lst xs)) [] O := by
    refine ⟨by have := ro.len; simp [this], r1.gh, r1.g0, r1.gn, r1.og, r1.cok, r1.fr, r1.al, fun j v e => ?_, fun j d e => ?_, r1.pn, r1.np⟩
    · have c : i ≠ j := fun z => hm.no hu v (z ▸ e)
      rw [List.getElem?_set_ne c]; have := r1.mp j v e; rw [List.getElem?_set_ne c] at this; exact this
    · have c : i ≠ j := fun z => by
        subst z
        rw [List.getElem?_set_self (by omega)] at e; cases e
      obtain ⟨v, h1, h2⟩ := r1.sl j d e
      rw [List.getElem?_set_ne c] at h1
      exact ⟨v, by rw [List.getElem?_set_ne c]; exact h1, h2⟩
  exact s2 C G' _ _ _ p ds n D hm hn ⟨⟨xs, ⟨O, r2, g1, g2, g3, upd_same⟩, rs⟩, List.getElem?_set_self hq.1, List.getElem?_set_self hl⟩ hq.2 (k.mono z)
end

section
variable {X : Cx} {ow : List Bool} {e : Expr} {ma : ME} {pos p2 : Pos} {lo hi : Option Expr} {ml mh : MO}
noncomputable def mSlScr (K : PySem.W.Frag) (m : ME) (ml mh : MO) : ME := fun ρ q => m ρ fun d ρ1 => ml ρ1 fun lo ρ2 => mh ρ2 fun hi ρ3 => match d with
  | .scr φ ns => ScrOk K φ ns ∧ q (.lst (cutD (ns.map D.int) lo hi)) ρ3
  | _ => False
theorem qe_sliceScr (h : QE X ow e ma) (hl : QO X ow lo ml) (hh : QO X ow hi mh) : QE X ow (.Subscript e (.Slice lo hi none p2) pos) (mSlScr X.K ma ml mh) := by
  obtain ⟨t, p, s⟩ := h; obtain ⟨t1, p1, s1⟩ := hl; obtain ⟨t2, p2, s2⟩ := hh
  refine ⟨_, pe_slice sl_list p p1 p2, fun C G ρ σ H pd q Q r hm k => s C G ρ σ H pd _ _ r hm fun d ρ' v G' H' hq z kp r' p => ?_⟩
  refine s1 C G' ρ' σ H' pd _ _ r' hq fun l ρ1 G1 H1 hq1 z1 kp1 r1 => s2 C G1 ρ1 σ H1 pd _ _ r1 hq1 fun u ρ2 G2 H2 hq2 z2 kp2 r2 => ?_
  cases d with
  | scr φ ns =>
    obtain ⟨a, rfl, h1⟩ := rep_scr_of (Rep.mono (z1.trans z2) _ _ p)
    have hS : SqL X.K H2 a (ns.map V.int) := by
      rcases h1 with ⟨o, h1⟩ | h1
      · exact .inl (.inr ⟨o, r2.gh _ _ h1⟩)
      · exact hq2.1 a H2 h1
    refine ⟨a, _, rfl, hS, fun b hb => ?_⟩
    obtain ⟨O, r2⟩ := r2
    obtain ⟨r3, z3⟩ := r2.new hb (.lst (cutV (ns.map V.int) l u))
    exact k _ ρ2 _ _ _ hq2.2 (z.trans (z1.trans (z2.trans z3))) (kp.trans (kp1.trans kp2)) ⟨O, r3⟩ (rep_lst upd_same (Reps.mono z3 _ _ (reps_cut (reps_ints ns) _ _)))
  | _ => exact hq2.elim
end
end L2

set_option Elab.async false
set_option linter.all false
set_option maxRecDepth 100000
set_option exponentiation.threshold 9000
namespace L2
open PySem
noncomputable def sdLoadsA : SpD := fun ds q => ∃ ps rs as ks, ds = [dPair ps rs, dAsks as, dInts ks] ∧ Tree ps rs ∧ AsksOk ps as ∧ ks.length ≤ 100 ∧ (∀ k ∈ ks, 0 ≤ k ∧ k < (as.length : Int)) ∧ q (dInts (loadsZ ps as ks)) []
noncomputable def overL : List Int → List Int → List Int
  | l :: ls, r :: rs => if r < l then l :: overL ls rs else overL ls rs
  | _, _ => []
noncomputable def fitF : D → Option D
  | .tup [.int l, .int r] => if decide (r < l) = true then some (.int l) else none
  | _ => none
theorem fitF_map : ∀ (ld rs : List Int), (zipD (ld.map D.int) (rs.map D.int)).filterMap fitF = (overL ld rs).map D.int
  | [], rs => by cases rs <;> rfl
  | l :: ld, [] => rfl
  | l :: ld, r :: rs => by
    show (D.tup [.int l, .int r] :: zipD (ld.map D.int) (rs.map D.int)).filterMap fitF = _
    have e : fitF (.tup [.int l, .int r]) = if decide (r < l) = true then some (.int l) else none := rfl
    have e2 : overL (l :: ld) (r :: rs) = if r < l then l :: overL ld rs else overL ld rs := rfl
    rw [List.filterMap_cons, fitF_map ld rs, e, e2]
    by_cases h : r < l
    · rw [if_pos h, if_pos (decide_eq_true h)]; rfl
    · rw [if_neg h, if_neg (by simpa using h)]
theorem overL_le : ∀ {ld rs : List Int}, overL ld rs = [] → ∀ {prs : List Rat}, (∀ p ∈ prs, 0 ≤ p) → (paidRooms ld prs).sum ≤ (paidRooms rs prs).sum ∨ ld.length ≠ rs.length
  | [], [], _, prs, _ => .inl (by cases prs <;> exact Rat.le_refl)
  | [], _ :: _, _, _, _ => .inr (by simp)
  | _ :: _, [], _, _, _ => .inr (by simp)
  | l :: ld, r :: rs, h, [], _ => .inl Rat.le_refl
  | l :: ld, r :: rs, h, p :: prs, hp => by
    unfold overL at h
    by_cases c : r < l
    · rw [if_pos c] at h; cases h
    · rw [if_neg c] at h
      rcases overL_le h (prs := prs) fun x hx => hp x (.tail _ hx) with i | i
      · left
        show ((l : Rat) * p :: paidRooms ld prs).sum ≤ ((r : Rat) * p :: paidRooms rs prs).sum
        rw [List.sum_cons, List.sum_cons]
        have hlr : (l : Rat) ≤ (r : Rat) := Rat.intCast_le_intCast.mpr (by omega)
        have := Rat.mul_le_mul_of_nonneg_right hlr (hp p (.head _))
        grind
      · right; simp; omega
theorem paid_set : ∀ (ls : List Int) (prs : List Rat) (k : Nat) (s : Int), k < ls.length → k < prs.length → (paidRooms (ls.set k (ls.getD k 0 + s)) prs).sum = (paidRooms ls prs).sum + (s : Rat) * prs.getD k 0
  | [], _, k, _, h, _ => by simp at h
  | _ :: _, [], k, _, _, h => by simp at h
  | x :: ls, p :: prs, 0, s, _, _ => by
    show (((x + s : Int) : Rat) * p :: paidRooms ls prs).sum = ((x : Rat) * p :: paidRooms ls prs).sum + (s : Rat) * p
    rw [List.sum_cons, List.sum_cons, Rat.intCast_add]; grind
  | x :: ls, p :: prs, k + 1, s, h1, h2 => by
    have := paid_set ls prs k s (by simpa using h1) (by simpa using h2)
    show ((x : Rat) * p :: paidRooms (ls.set k (ls.getD k 0 + s)) prs).sum = ((x : Rat) * p :: paidRooms ls prs).sum + (s : Rat) * prs.getD k 0
    rw [List.sum_cons, List.sum_cons, this]; grind
theorem paid_addW (s : Int) (prs : List Rat) : ∀ (w l : List Int), l.length = prs.length → (∀ t ∈ w, 0 < t ∧ t ≤ (prs.length : Int)) → (paidRooms (addW l w s) prs).sum = (paidRooms l prs).sum + (s : Rat) * (w.map fun t => prs.getD (t - 1).toNat 0).sum
  | [], l, _, _ => by
    show (paidRooms l prs).sum = _
    rw [List.map_nil, List.sum_nil, Rat.mul_zero, Rat.add_zero]
  | t :: w, l, hl, hw => by
    have ht := hw t (.head _)
    show (paidRooms (addW (addT s l t) w s) prs).sum = _
    rw [paid_addW s prs w (addT s l t) (by rw [addT_len]; exact hl) fun x hx => hw x (.tail _ hx), List.map_cons, List.sum_cons]
    have := paid_set l prs (t - 1).toNat s (by omega) (by omega)
    unfold addT
    rw [this]; grind
theorem paid_zero : ∀ (n : Nat) (prs : List Rat), (paidRooms (List.replicate n 0) prs).sum = 0
  | 0, _ => by cases ‹List Rat› <;> rfl
  | n + 1, [] => rfl
  | n + 1, p :: prs => by
    show (((0 : Int) : Rat) * p :: paidRooms (List.replicate n 0) prs).sum = 0
    rw [List.sum_cons, paid_zero n prs]; grind
noncomputable def keepSum (f : Ask → Rat) (as : List Ask) (ks : List Int) : Rat := (ks.map fun k => f (as.getD k.toNat ask0)).sum
theorem paid_loads {ps rs : List Int} {as : List Ask} {prs : List Rat} (hT : Tree ps rs) (ha : AsksOk ps as) (hl : prs.length = ps.length) : ∀ (ks : List Int), (∀ k ∈ ks, 0 ≤ k ∧ k < (as.length : Int)) →
    ∀ l : List Int, l.length = ps.length → (paidRooms (ks.foldl (loadA ps as) l) prs).sum = (paidRooms l prs).sum + keepSum (fun a => (a.size : Rat) * paidQ ps a prs) as ks
  | [], _, l, _ => by
    show (paidRooms l prs).sum = (paidRooms l prs).sum + 0
    rw [Rat.add_zero]
  | k :: ks, hk, l, h => by
    have hk0 := hk k (.head _)
    have hok := ha.ok _ (getD_ask (as := as) (k := k.toNat) (by omega))
    show (paidRooms (ks.foldl (loadA ps as) (loadA ps as l k)) prs).sum = _
    have e : loadA ps as l k = addW l (askWay ps (as.getD k.toNat ask0)) (as.getD k.toNat ask0).size := rfl
    rw [paid_loads hT ha hl ks (fun x hx => hk x (.tail _ hx)) _ (by rw [e, addW_len]; exact h), e,
      paid_addW _ prs _ l (by omega) fun t ht => by have := way_mem hT hok.ends ht; omega]
    unfold keepSum paidQ
    rw [List.map_cons, List.sum_cons]; grind
theorem perm_sumR {a b : List Rat} (h : a.Perm b) : a.sum = b.sum := by
  induction h with
  | nil => rfl
  | cons x _ ih => rw [List.sum_cons, List.sum_cons, ih]
  | swap x y l => rw [List.sum_cons, List.sum_cons, List.sum_cons, List.sum_cons]; grind
  | trans _ _ i1 i2 => rw [i1, i2]
theorem perm_keep {f : Ask → Rat} {as : List Ask} {a b : List Int} (h : a.Perm b) : keepSum f as a = keepSum f as b := perm_sumR (h.map _)
theorem sum_nnR : ∀ {l : List Rat}, (∀ x ∈ l, 0 ≤ x) → 0 ≤ l.sum
  | [], _ => by decide
  | x :: l, h => by rw [List.sum_cons]; have := sum_nnR fun y hy => h y (.tail _ hy); have := h x (.head _); grind
theorem sub_sum {f : Int → Rat} (hf : ∀ k, 0 ≤ f k) : ∀ {ks l : List Int}, ks.Nodup → (∀ k ∈ ks, k ∈ l) → (ks.map f).sum ≤ (l.map f).sum
  | [], l, _, _ => sum_nnR fun x hx => by obtain ⟨k, _, rfl⟩ := List.mem_map.mp hx; exact hf k
  | k :: ks, l, hn, hs => by
    have hn' := List.nodup_cons.mp hn
    have hp : l.Perm (k :: l.erase k) := List.perm_cons_erase (hs k (.head _))
    rw [perm_sumR (hp.map f), List.map_cons, List.map_cons, List.sum_cons, List.sum_cons]
    have := sub_sum hf hn'.2 (l := l.erase k) fun x hx => (List.mem_erase_of_ne (fun (e : x = k) => hn'.1 (e ▸ hx))).mpr (hs x (.tail _ hx))
    grind
theorem all_keep (f : Ask → Rat) (as : List Ask) : (as.map f).sum = keepSum f as ((List.range as.length).map fun (k : Nat) => (k : Int)) := by
  unfold keepSum
  rw [List.map_map]
  congr 1
  apply List.ext_getElem?
  intro i
  rw [List.getElem?_map, List.getElem?_map, List.getElem?_range_eq]
  by_cases h : i < as.length
  · rw [if_pos h, List.getElem?_eq_getElem h]
    show some (f as[i]) = some (f (as.getD ((i : Int)).toNat ask0))
    rw [Int.toNat_natCast, List.getD_eq_getElem?_getD, List.getElem?_eq_getElem h]; rfl
  · rw [if_neg h, List.getElem?_eq_none (by omega)]; rfl
where
  List.getElem?_range_eq {n i : Nat} : (List.range n)[i]? = if i < n then some i else none := by
    by_cases h : i < n
    · rw [if_pos h, List.getElem?_range h]
    · rw [if_neg h, List.getElem?_eq_none (by simpa using h)]
theorem posQ_ge (x : Rat) : x ≤ posQ x ∧ 0 ≤ posQ x := by unfold posQ; constructor <;> split <;> grind

noncomputable def Beat (ps rs : List Int) (as : List Ask) (ks : List Int) : Prop := ∀ prs : List Rat, prs.length = ps.length → (∀ p ∈ prs, 0 ≤ p) → keepSum (fun a => (a.worth : Rat)) as ks ≤ boundQ ps rs as prs
theorem keep_le {f g : Ask → Rat} {as : List Ask} (h : ∀ a, f a ≤ g a) : ∀ ks : List Int, keepSum f as ks ≤ keepSum g as ks
  | [] => Rat.le_refl
  | k :: ks => by
    have := keep_le (as := as) h ks
    have := h (as.getD k.toNat ask0)
    unfold keepSum at *
    rw [List.map_cons, List.map_cons, List.sum_cons, List.sum_cons]
    grind
theorem keep_add {f g : Ask → Rat} {as : List Ask} : ∀ ks : List Int, keepSum (fun a => f a + g a) as ks = keepSum f as ks + keepSum g as ks
  | [] => (Rat.add_zero 0).symm
  | k :: ks => by
    have := keep_add (f := f) (g := g) (as := as) ks
    unfold keepSum at *
    rw [List.map_cons, List.map_cons, List.map_cons, List.sum_cons, List.sum_cons, List.sum_cons, this]
    grind
theorem beat_of {ps rs : List Int} {as : List Ask} {ks : List Int} (hT : Tree ps rs) (ha : AsksOk ps as) (hn : ks.Nodup) (hk : ∀ k ∈ ks, 0 ≤ k ∧ k < (as.length : Int)) (hf : overL (loadsZ ps as ks) rs = []) : Beat ps rs as ks := fun prs hl hp => by
  have h1 := keep_le (as := as) (f := fun a => (a.worth : Rat)) (g := fun a => spareQ ps a a.size prs + (a.size : Rat) * paidQ ps a prs) (fun a => by
    have := (posQ_ge ((a.worth : Rat) - (a.size : Rat) * paidQ ps a prs)).1
    unfold spareQ; grind) ks
  rw [keep_add] at h1
  have h2 : keepSum (fun a => spareQ ps a a.size prs) as ks ≤ (as.map fun a => spareQ ps a a.size prs).sum := by
    rw [all_keep]
    exact sub_sum (f := fun k => spareQ ps (as.getD k.toNat ask0) (as.getD k.toNat ask0).size prs) (fun k => (posQ_ge _).2) hn fun k h => by
      have := hk k h
      exact List.mem_map.mpr ⟨k.toNat, List.mem_range.mpr (by omega), by omega⟩
  have h3 := paid_loads hT ha hl ks hk (List.replicate ps.length 0) (List.length_replicate ..)
  rw [paid_zero, Rat.zero_add] at h3
  have h4 := overL_le hf hp
  rcases h4 with h4 | h4
  · have h5 : (paidRooms (loadsZ ps as ks) prs).sum = keepSum (fun a => (a.size : Rat) * paidQ ps a prs) as ks := h3
    unfold boundQ
    rw [h5] at h4
    grind
  · exact absurd (by rw [loadsZ_len]; exact hT.len) h4
structure KeepsOk (ps rs : List Int) (as : List Ask) (ks : List Int) : Prop where
  len : ks.length ≤ 30
  lo : ∀ k ∈ ks, 0 ≤ k ∧ k < (as.length : Int)
  beat : Beat ps rs as ks
noncomputable def sdFits : SpD := fun ds q => ∃ ps rs as ks, ds = [dPair ps rs, dAsks as, dInts ks] ∧ Tree ps rs ∧ AsksOk ps as ∧ ks.length ≤ 100 ∧ (∀ k ∈ ks, 0 ≤ k ∧ k < (as.length : Int)) ∧ q (.bl (overL (loadsZ ps as ks) rs).isEmpty) []
noncomputable def sdKeepD : SpD := fun ds q => ∃ c m ps rs as, ds = [dPair ps rs, dAsks as, dInts [c, m]] ∧ 0 ≤ c ∧ Tree ps rs ∧ AsksOk ps as ∧ ∀ ks c' m', KeepsOk ps rs as ks → 0 ≤ c' → q (dInts ks) [some (dInts [c', m'])]
noncomputable def sdCellI : SpD := fun ds q => ∃ ns k, ds = [dInts ns, .int k] ∧ 0 ≤ k ∧ q (.int (cellZ ns k)) []
noncomputable def dKss (kss : List (List Int)) : D := .lst (kss.map dInts)
noncomputable def sdKeepsD : SpD := fun ds q => ∃ ps rs as ns, ds = [dPair ps rs, dAsks as, dInts ns] ∧ Tree ps rs ∧ AsksOk ps as ∧ ns.length ≤ 63 ∧ ∀ kss : List (List Int), kss.length ≤ 100 → (∀ ks ∈ kss, KeepsOk ps rs as ks) → q (dKss kss) []
theorem erase_perm : ∀ {l : List Int} {i : Nat} (h : i < l.length), (l[i] :: l.eraseIdx i).Perm l
  | [], _, h => absurd h (by simp)
  | _ :: _, 0, _ => .refl _
  | x :: l, i + 1, h => (List.Perm.swap x (l[i]'(by simpa using h)) (l.eraseIdx i)).trans ((erase_perm (l := l) (i := i) (by simpa using h)).cons x)
theorem pop_keep {fs ls : List Int} {i : Nat} (h : i < ls.length) (hn : (fs ++ ls).Nodup) : ((fs ++ [ls.getD i 0]) ++ ls.eraseIdx i).Nodup ∧ (∀ k, k ∈ (fs ++ [ls.getD i 0]) ++ ls.eraseIdx i → k ∈ fs ++ ls) ∧ (fs ++ ls.eraseIdx i).Nodup ∧ (∀ k, k ∈ fs ++ ls.eraseIdx i → k ∈ fs ++ ls) := by
  have e : ls.getD i 0 = ls[i] := by rw [List.getD_eq_getElem?_getD, List.getElem?_eq_getElem h]; rfl
  have hp : (fs ++ [ls.getD i 0] ++ ls.eraseIdx i).Perm (fs ++ ls) := by
    rw [List.append_assoc, e]
    exact List.Perm.append_left fs (erase_perm h)
  have hn1 := hp.nodup_iff.mpr hn
  have hs : (fs ++ ls.eraseIdx i).Sublist (fs ++ ls) := List.Sublist.append_left (List.eraseIdx_sublist ls i) fs
  exact ⟨hn1, fun k hk => hp.mem_iff.mp hk, hn.sublist hs, fun k hk => hs.subset hk⟩
theorem Beat.sort {ps rs : List Int} {as : List Ask} {ks : List Int} (h : Beat ps rs as ks) : Beat ps rs as (sortZ ks) := fun prs hl hp => by
  rw [perm_keep (sortZ_perm ks)]; exact h prs hl hp
end L2

set_option Elab.async false
set_option linter.all false
set_option maxRecDepth 100000
set_option maxHeartbeats 4000000
set_option exponentiation.threshold 9000
namespace K27
open PySem L2
noncomputable def top (i : Nat) : Stmt := PySem.Challenge.pw_treeasks_k27_whole_no_keep_beats_a_bound.main.body.getD i (.Pass ⟨0, 0, 0, 0⟩)
noncomputable abbrev s_is_whole : Stmt := top 8
noncomputable abbrev s_is_between : Stmt := top 9
noncomputable abbrev s_greatest_common : Stmt := top 10
noncomputable abbrev s_is_fraction : Stmt := top 11
noncomputable abbrev s_has_two_lists : Stmt := top 15
noncomputable abbrev s_look_at_tree : Stmt := top 16
noncomputable abbrev s_is_place : Stmt := top 17
noncomputable abbrev s_are_ends : Stmt := top 18
noncomputable abbrev s_is_ask : Stmt := top 23
noncomputable abbrev s_look_at_asks : Stmt := top 24
noncomputable abbrev s_fraction : Stmt := top 26
noncomputable abbrev s_minus : Stmt := top 27
noncomputable abbrev s_times : Stmt := top 28
noncomputable abbrev s_sum_of : Stmt := top 29
noncomputable abbrev s_under : Stmt := top 30
noncomputable abbrev s_look_at_ends : Stmt := top 32
noncomputable abbrev s_climb : Stmt := top 33
noncomputable abbrev s_way_between : Stmt := top 34
noncomputable abbrev s_way_of : Stmt := top 35
noncomputable abbrev s_is_price : Stmt := top 37
noncomputable abbrev s_look_at_prices : Stmt := top 38
noncomputable abbrev s_spare_of : Stmt := top 39
noncomputable abbrev s_spares : Stmt := top 40
noncomputable abbrev s_bound_of : Stmt := top 41
noncomputable abbrev s_l_cell : Stmt := top 43
noncomputable abbrev s_l_source : Stmt := top 44
noncomputable abbrev s_l_draw : Stmt := top 45
noncomputable abbrev s_l_tree : Stmt := top 46
noncomputable abbrev s_l_lowest : Stmt := top 47
noncomputable abbrev s_l_way : Stmt := top 48
noncomputable abbrev s_l_ask : Stmt := top 49
noncomputable abbrev s_l_world : Stmt := top 50
noncomputable abbrev s_l_price : Stmt := top 51
noncomputable abbrev s_l_prices : Stmt := top 52
noncomputable abbrev s_l_loads : Stmt := top 53
noncomputable abbrev s_l_fits : Stmt := top 54
noncomputable abbrev s_l_keep : Stmt := top 55
noncomputable abbrev s_l_keeps : Stmt := top 56
noncomputable abbrev s_law : Stmt := top 57
set_option genInjectivity false in
structure Adr where
  f_is_whole : Addr
  d_is_whole : FuncData
  f_is_between : Addr
  d_is_between : FuncData
  f_greatest_common : Addr
  d_greatest_common : FuncData
  f_is_fraction : Addr
  d_is_fraction : FuncData
  f_has_two_lists : Addr
  d_has_two_lists : FuncData
  f_look_at_tree : Addr
  d_look_at_tree : FuncData
  f_is_place : Addr
  d_is_place : FuncData
  f_are_ends : Addr
  d_are_ends : FuncData
  f_is_ask : Addr
  d_is_ask : FuncData
  f_look_at_asks : Addr
  d_look_at_asks : FuncData
  f_fraction : Addr
  d_fraction : FuncData
  f_minus : Addr
  d_minus : FuncData
  f_times : Addr
  d_times : FuncData
  f_sum_of : Addr
  d_sum_of : FuncData
  f_under : Addr
  d_under : FuncData
  f_look_at_ends : Addr
  d_look_at_ends : FuncData
  f_climb : Addr
  d_climb : FuncData
  f_way_between : Addr
  d_way_between : FuncData
  f_way_of : Addr
  d_way_of : FuncData
  f_is_price : Addr
  d_is_price : FuncData
  f_look_at_prices : Addr
  d_look_at_prices : FuncData
  f_spare_of : Addr
  d_spare_of : FuncData
  f_spares : Addr
  d_spares : FuncData
  f_bound_of : Addr
  d_bound_of : FuncData
  f_l_cell : Addr
  d_l_cell : FuncData
  f_l_source : Addr
  d_l_source : FuncData
  f_l_draw : Addr
  d_l_draw : FuncData
  f_l_tree : Addr
  d_l_tree : FuncData
  f_l_lowest : Addr
  d_l_lowest : FuncData
  f_l_way : Addr
  d_l_way : FuncData
  f_l_ask : Addr
  d_l_ask : FuncData
  f_l_world : Addr
  d_l_world : FuncData
  f_l_price : Addr
  d_l_price : FuncData
  f_l_prices : Addr
  d_l_prices : FuncData
  f_l_loads : Addr
  d_l_loads : FuncData
  f_l_fits : Addr
  d_l_fits : FuncData
  f_l_keep : Addr
  d_l_keep : FuncData
  f_l_keeps : Addr
  d_l_keeps : FuncData
  f_law : Addr
  d_law : FuncData
set_option genInjectivity false in
structure Txt (K : PySem.W.Frag) (mg : Str → Option Value) (A : Adr) : Prop where
  F_is_whole : Fun K "is_whole" "is_whole" s_is_whole A.f_is_whole A.d_is_whole
  b_is_whole : Binds K A.d_is_whole ["thing"] []
  k_is_whole : PySem.W.keepIn K (.ref A.f_is_whole) = true
  m_is_whole : mg "is_whole" = some (.ref A.f_is_whole)
  F_is_between : Fun K "is_between" "is_between" s_is_between A.f_is_between A.d_is_between
  b_is_between : Binds K A.d_is_between ["thing", "least", "most"] []
  k_is_between : PySem.W.keepIn K (.ref A.f_is_between) = true
  m_is_between : mg "is_between" = some (.ref A.f_is_between)
  F_greatest_common : Fun K "greatest_common" "greatest_common" s_greatest_common A.f_greatest_common A.d_greatest_common
  b_greatest_common : Binds K A.d_greatest_common ["number", "bottom"] []
  k_greatest_common : PySem.W.keepIn K (.ref A.f_greatest_common) = true
  m_greatest_common : mg "greatest_common" = some (.ref A.f_greatest_common)
  F_is_fraction : Fun K "is_fraction" "is_fraction" s_is_fraction A.f_is_fraction A.d_is_fraction
  b_is_fraction : Binds K A.d_is_fraction ["thing"] []
  k_is_fraction : PySem.W.keepIn K (.ref A.f_is_fraction) = true
  m_is_fraction : mg "is_fraction" = some (.ref A.f_is_fraction)
  F_has_two_lists : Fun K "has_two_lists" "has_two_lists" s_has_two_lists A.f_has_two_lists A.d_has_two_lists
  b_has_two_lists : Binds K A.d_has_two_lists ["thing"] []
  k_has_two_lists : PySem.W.keepIn K (.ref A.f_has_two_lists) = true
  m_has_two_lists : mg "has_two_lists" = some (.ref A.f_has_two_lists)
  F_look_at_tree : Fun K "look_at_tree" "look_at_tree" s_look_at_tree A.f_look_at_tree A.d_look_at_tree
  b_look_at_tree : Binds K A.d_look_at_tree ["thing"] []
  k_look_at_tree : PySem.W.keepIn K (.ref A.f_look_at_tree) = true
  m_look_at_tree : mg "look_at_tree" = some (.ref A.f_look_at_tree)
  F_is_place : Fun K "is_place" "is_place" s_is_place A.f_is_place A.d_is_place
  b_is_place : Binds K A.d_is_place ["tree", "thing"] []
  k_is_place : PySem.W.keepIn K (.ref A.f_is_place) = true
  m_is_place : mg "is_place" = some (.ref A.f_is_place)
  F_are_ends : Fun K "are_ends" "are_ends" s_are_ends A.f_are_ends A.d_are_ends
  b_are_ends : Binds K A.d_are_ends ["tree", "one", "other"] []
  k_are_ends : PySem.W.keepIn K (.ref A.f_are_ends) = true
  m_are_ends : mg "are_ends" = some (.ref A.f_are_ends)
  F_is_ask : Fun K "is_ask" "is_ask" s_is_ask A.f_is_ask A.d_is_ask
  b_is_ask : Binds K A.d_is_ask ["tree", "thing"] []
  k_is_ask : PySem.W.keepIn K (.ref A.f_is_ask) = true
  m_is_ask : mg "is_ask" = some (.ref A.f_is_ask)
  F_look_at_asks : Fun K "look_at_asks" "look_at_asks" s_look_at_asks A.f_look_at_asks A.d_look_at_asks
  b_look_at_asks : Binds K A.d_look_at_asks ["tree", "thing"] []
  k_look_at_asks : PySem.W.keepIn K (.ref A.f_look_at_asks) = true
  m_look_at_asks : mg "look_at_asks" = some (.ref A.f_look_at_asks)
  F_fraction : Fun K "fraction" "fraction" s_fraction A.f_fraction A.d_fraction
  b_fraction : Binds K A.d_fraction ["top", "bottom"] []
  k_fraction : PySem.W.keepIn K (.ref A.f_fraction) = true
  m_fraction : mg "fraction" = some (.ref A.f_fraction)
  F_minus : Fun K "minus" "minus" s_minus A.f_minus A.d_minus
  b_minus : Binds K A.d_minus ["one", "other"] []
  k_minus : PySem.W.keepIn K (.ref A.f_minus) = true
  m_minus : mg "minus" = some (.ref A.f_minus)
  F_times : Fun K "times" "times" s_times A.f_times A.d_times
  b_times : Binds K A.d_times ["one", "other"] []
  k_times : PySem.W.keepIn K (.ref A.f_times) = true
  m_times : mg "times" = some (.ref A.f_times)
  F_sum_of : Fun K "sum_of" "sum_of" s_sum_of A.f_sum_of A.d_sum_of
  b_sum_of : Binds K A.d_sum_of ["some"] []
  k_sum_of : PySem.W.keepIn K (.ref A.f_sum_of) = true
  m_sum_of : mg "sum_of" = some (.ref A.f_sum_of)
  F_under : Fun K "under" "under" s_under A.f_under A.d_under
  b_under : Binds K A.d_under ["one", "other"] []
  k_under : PySem.W.keepIn K (.ref A.f_under) = true
  m_under : mg "under" = some (.ref A.f_under)
  F_look_at_ends : Fun K "look_at_ends" "look_at_ends" s_look_at_ends A.f_look_at_ends A.d_look_at_ends
  b_look_at_ends : Binds K A.d_look_at_ends ["tree", "one", "other"] []
  k_look_at_ends : PySem.W.keepIn K (.ref A.f_look_at_ends) = true
  m_look_at_ends : mg "look_at_ends" = some (.ref A.f_look_at_ends)
  F_climb : Fun K "climb" "climb" s_climb A.f_climb A.d_climb
  b_climb : Binds K A.d_climb ["tree", "one", "other"] []
  k_climb : PySem.W.keepIn K (.ref A.f_climb) = true
  m_climb : mg "climb" = some (.ref A.f_climb)
  F_way_between : Fun K "way_between" "way_between" s_way_between A.f_way_between A.d_way_between
  b_way_between : Binds K A.d_way_between ["tree", "one", "other"] []
  k_way_between : PySem.W.keepIn K (.ref A.f_way_between) = true
  m_way_between : mg "way_between" = some (.ref A.f_way_between)
  F_way_of : Fun K "way_of" "way_of" s_way_of A.f_way_of A.d_way_of
  b_way_of : Binds K A.d_way_of ["tree", "ask"] []
  k_way_of : PySem.W.keepIn K (.ref A.f_way_of) = true
  m_way_of : mg "way_of" = some (.ref A.f_way_of)
  F_is_price : Fun K "is_price" "is_price" s_is_price A.f_is_price A.d_is_price
  b_is_price : Binds K A.d_is_price ["thing"] []
  k_is_price : PySem.W.keepIn K (.ref A.f_is_price) = true
  m_is_price : mg "is_price" = some (.ref A.f_is_price)
  F_look_at_prices : Fun K "look_at_prices" "look_at_prices" s_look_at_prices A.f_look_at_prices A.d_look_at_prices
  b_look_at_prices : Binds K A.d_look_at_prices ["tree", "thing"] []
  k_look_at_prices : PySem.W.keepIn K (.ref A.f_look_at_prices) = true
  m_look_at_prices : mg "look_at_prices" = some (.ref A.f_look_at_prices)
  F_spare_of : Fun K "spare_of" "spare_of" s_spare_of A.f_spare_of A.d_spare_of
  b_spare_of : Binds K A.d_spare_of ["tree", "ask", "weight", "prices"] []
  k_spare_of : PySem.W.keepIn K (.ref A.f_spare_of) = true
  m_spare_of : mg "spare_of" = some (.ref A.f_spare_of)
  F_spares : Fun K "spares" "spares" s_spares A.f_spares A.d_spares
  b_spares : Binds K A.d_spares ["tree", "asks", "prices"] []
  k_spares : PySem.W.keepIn K (.ref A.f_spares) = true
  m_spares : mg "spares" = some (.ref A.f_spares)
  F_bound_of : Fun K "bound_of" "bound_of" s_bound_of A.f_bound_of A.d_bound_of
  b_bound_of : Binds K A.d_bound_of ["tree", "asks", "prices"] []
  k_bound_of : PySem.W.keepIn K (.ref A.f_bound_of) = true
  m_bound_of : mg "bound_of" = some (.ref A.f_bound_of)
  F_l_cell : Fun K "_law_cell" "_law_cell" s_l_cell A.f_l_cell A.d_l_cell
  b_l_cell : Binds K A.d_l_cell ["_law_script", "_law_k"] []
  k_l_cell : PySem.W.keepIn K (.ref A.f_l_cell) = true
  m_l_cell : mg "_law_cell" = some (.ref A.f_l_cell)
  F_l_source : Fun K "_law_source" "_law_source" s_l_source A.f_l_source A.d_l_source
  b_l_source : Binds K A.d_l_source ["_law_cell_here", "_law_k"] []
  k_l_source : PySem.W.keepIn K (.ref A.f_l_source) = true
  m_l_source : mg "_law_source" = some (.ref A.f_l_source)
  F_l_draw : Fun K "_law_draw" "_law_draw" s_l_draw A.f_l_draw A.d_l_draw
  b_l_draw : Binds K A.d_l_draw ["_law_source_here", "_law_many"] []
  k_l_draw : PySem.W.keepIn K (.ref A.f_l_draw) = true
  m_l_draw : mg "_law_draw" = some (.ref A.f_l_draw)
  F_l_tree : Fun K "_law_tree" "_law_tree" s_l_tree A.f_l_tree A.d_l_tree
  b_l_tree : Binds K A.d_l_tree ["_law_source_here", "_law_most"] []
  k_l_tree : PySem.W.keepIn K (.ref A.f_l_tree) = true
  m_l_tree : mg "_law_tree" = some (.ref A.f_l_tree)
  F_l_lowest : Fun K "_law_lowest" "_law_lowest" s_l_lowest A.f_l_lowest A.d_l_lowest
  b_l_lowest : Binds K A.d_l_lowest ["_law_top", "_law_bottom"] []
  k_l_lowest : PySem.W.keepIn K (.ref A.f_l_lowest) = true
  m_l_lowest : mg "_law_lowest" = some (.ref A.f_l_lowest)
  F_l_way : Fun K "_law_way" "_law_way" s_l_way A.f_l_way A.d_l_way
  b_l_way : Binds K A.d_l_way ["_law_parents", "_law_one", "_law_other"] []
  k_l_way : PySem.W.keepIn K (.ref A.f_l_way) = true
  m_l_way : mg "_law_way" = some (.ref A.f_l_way)
  F_l_ask : Fun K "_law_ask" "_law_ask" s_l_ask A.f_l_ask A.d_l_ask
  b_l_ask : Binds K A.d_l_ask ["_law_source_here", "_law_many", "_law_sizes", "_law_worths"] []
  k_l_ask : PySem.W.keepIn K (.ref A.f_l_ask) = true
  m_l_ask : mg "_law_ask" = some (.ref A.f_l_ask)
  F_l_world : Fun K "_law_world" "_law_world" s_l_world A.f_l_world A.d_l_world
  b_l_world : Binds K A.d_l_world ["_law_script", "_law_most"] []
  k_l_world : PySem.W.keepIn K (.ref A.f_l_world) = true
  m_l_world : mg "_law_world" = some (.ref A.f_l_world)
  F_l_price : Fun K "_law_price" "_law_price" s_l_price A.f_l_price A.d_l_price
  b_l_price : Binds K A.d_l_price ["_law_source_here", "_law_great"] []
  k_l_price : PySem.W.keepIn K (.ref A.f_l_price) = true
  m_l_price : mg "_law_price" = some (.ref A.f_l_price)
  F_l_prices : Fun K "_law_prices" "_law_prices" s_l_prices A.f_l_prices A.d_l_prices
  b_l_prices : Binds K A.d_l_prices ["_law_tree_here", "_law_asks", "_law_source_here"] []
  k_l_prices : PySem.W.keepIn K (.ref A.f_l_prices) = true
  m_l_prices : mg "_law_prices" = some (.ref A.f_l_prices)
  F_l_loads : Fun K "_law_loads" "_law_loads" s_l_loads A.f_l_loads A.d_l_loads
  b_l_loads : Binds K A.d_l_loads ["_law_tree_here", "_law_asks", "_law_keep_here"] []
  k_l_loads : PySem.W.keepIn K (.ref A.f_l_loads) = true
  m_l_loads : mg "_law_loads" = some (.ref A.f_l_loads)
  F_l_fits : Fun K "_law_fits" "_law_fits" s_l_fits A.f_l_fits A.d_l_fits
  b_l_fits : Binds K A.d_l_fits ["_law_tree_here", "_law_asks", "_law_keep_here"] []
  k_l_fits : PySem.W.keepIn K (.ref A.f_l_fits) = true
  m_l_fits : mg "_law_fits" = some (.ref A.f_l_fits)
  F_l_keep : Fun K "_law_keep" "_law_keep" s_l_keep A.f_l_keep A.d_l_keep
  b_l_keep : Binds K A.d_l_keep ["_law_tree_here", "_law_asks", "_law_source_here"] []
  k_l_keep : PySem.W.keepIn K (.ref A.f_l_keep) = true
  m_l_keep : mg "_law_keep" = some (.ref A.f_l_keep)
  F_l_keeps : Fun K "_law_keeps" "_law_keeps" s_l_keeps A.f_l_keeps A.d_l_keeps
  b_l_keeps : Binds K A.d_l_keeps ["_law_tree_here", "_law_asks", "_law_script"] []
  k_l_keeps : PySem.W.keepIn K (.ref A.f_l_keeps) = true
  m_l_keeps : mg "_law_keeps" = some (.ref A.f_l_keeps)
  F_law : Fun K "law" "law" s_law A.f_law A.d_law
  b_law : Binds K A.d_law ["_law_script"] []
  k_law : PySem.W.keepIn K (.ref A.f_law) = true
  m_law : mg "law" = some (.ref A.f_law)
  z_abs : mg "abs" = none
  z_bool : mg "bool" = none
  z_enumerate : mg "enumerate" = none
  z_int : mg "int" = none
  z_isinstance : mg "isinstance" = none
  z_len : mg "len" = none
  z_list : mg "list" = none
  z_max : mg "max" = none
  z_min : mg "min" = none
  z_range : mg "range" = none
  z_sorted : mg "sorted" = none
  z_sum : mg "sum" = none
  z_tuple : mg "tuple" = none
  z_zip : mg "zip" = none
  c_MOST_TIES : ∃ t, mg "MOST_TIES" = some (.int 23 t)
  c_MOST_ROOM : ∃ t, mg "MOST_ROOM" = some (.int 1000000 t)
  c_MOST_ASKS : ∃ t, mg "MOST_ASKS" = some (.int 30 t)
  c_MOST_SIZE : ∃ t, mg "MOST_SIZE" = some (.int 1000000 t)
  c_MOST_WORTH : ∃ t, mg "MOST_WORTH" = some (.int 1000000000000 t)
theorem sc_is_whole : FnScope ["thing"] ["thing"] (defScope s_is_whole) := ⟨rfl, rfl, rfl, by decide +kernel, rfl, by decide +kernel, by decide +kernel⟩
theorem sc_is_between : FnScope ["thing", "least", "most"] ["thing", "least", "most"] (defScope s_is_between) := ⟨rfl, rfl, rfl, by decide +kernel, rfl, by decide +kernel, by decide +kernel⟩
theorem sc_greatest_common : FnScope ["number", "bottom"] ["number", "bottom"] (defScope s_greatest_common) := ⟨rfl, rfl, rfl, by decide +kernel, rfl, by decide +kernel, by decide +kernel⟩
theorem sc_is_fraction : FnScope ["thing", "top", "bottom"] ["thing"] (defScope s_is_fraction) := ⟨rfl, rfl, rfl, by decide +kernel, rfl, by decide +kernel, by decide +kernel⟩
theorem sc_has_two_lists : FnScope ["thing", "parents", "rooms"] ["thing"] (defScope s_has_two_lists) := ⟨rfl, rfl, rfl, by decide +kernel, rfl, by decide +kernel, by decide +kernel⟩
theorem sc_look_at_tree : FnScope ["thing", "parents", "rooms", "number", "parent", "room"] ["thing"] (defScope s_look_at_tree) := ⟨rfl, rfl, rfl, by decide +kernel, rfl, by decide +kernel, by decide +kernel⟩
theorem sc_is_place : FnScope ["tree", "thing"] ["tree", "thing"] (defScope s_is_place) := ⟨rfl, rfl, rfl, by decide +kernel, rfl, by decide +kernel, by decide +kernel⟩
theorem sc_are_ends : FnScope ["tree", "one", "other"] ["tree", "one", "other"] (defScope s_are_ends) := ⟨rfl, rfl, rfl, by decide +kernel, rfl, by decide +kernel, by decide +kernel⟩
theorem sc_is_ask : FnScope ["tree", "thing", "one", "other", "size", "worth"] ["tree", "thing"] (defScope s_is_ask) := ⟨rfl, rfl, rfl, by decide +kernel, rfl, by decide +kernel, by decide +kernel⟩
theorem sc_look_at_asks : FnScope ["tree", "thing", "number", "ask"] ["tree", "thing"] (defScope s_look_at_asks) := ⟨rfl, rfl, rfl, by decide +kernel, rfl, by decide +kernel, by decide +kernel⟩
theorem sc_fraction : FnScope ["top", "bottom", "common"] ["top", "bottom"] (defScope s_fraction) := ⟨rfl, rfl, rfl, by decide +kernel, rfl, by decide +kernel, by decide +kernel⟩
theorem sc_minus : FnScope ["one", "other"] ["one", "other"] (defScope s_minus) := ⟨rfl, rfl, rfl, by decide +kernel, rfl, by decide +kernel, by decide +kernel⟩
theorem sc_times : FnScope ["one", "other"] ["one", "other"] (defScope s_times) := ⟨rfl, rfl, rfl, by decide +kernel, rfl, by decide +kernel, by decide +kernel⟩
theorem sc_sum_of : FnScope ["some", "bottom", "one"] ["some"] (defScope s_sum_of) := ⟨rfl, rfl, rfl, by decide +kernel, rfl, by decide +kernel, by decide +kernel⟩
theorem sc_under : FnScope ["one", "other"] ["one", "other"] (defScope s_under) := ⟨rfl, rfl, rfl, by decide +kernel, rfl, by decide +kernel, by decide +kernel⟩
theorem sc_look_at_ends : FnScope ["tree", "one", "other"] ["tree", "one", "other"] (defScope s_look_at_ends) := ⟨rfl, rfl, rfl, by decide +kernel, rfl, by decide +kernel, by decide +kernel⟩
theorem sc_climb : FnScope ["tree", "one", "other", "way", "low"] ["tree", "one", "other"] (defScope s_climb) := ⟨rfl, rfl, rfl, by decide +kernel, rfl, by decide +kernel, by decide +kernel⟩
theorem sc_way_between : FnScope ["tree", "one", "other", "way", "meeting"] ["tree", "one", "other"] (defScope s_way_between) := ⟨rfl, rfl, rfl, by decide +kernel, rfl, by decide +kernel, by decide +kernel⟩
theorem sc_way_of : FnScope ["tree", "ask"] ["tree", "ask"] (defScope s_way_of) := ⟨rfl, rfl, rfl, by decide +kernel, rfl, by decide +kernel, by decide +kernel⟩
theorem sc_is_price : FnScope ["thing"] ["thing"] (defScope s_is_price) := ⟨rfl, rfl, rfl, by decide +kernel, rfl, by decide +kernel, by decide +kernel⟩
theorem sc_look_at_prices : FnScope ["tree", "thing", "ties", "number", "price"] ["tree", "thing"] (defScope s_look_at_prices) := ⟨rfl, rfl, rfl, by decide +kernel, rfl, by decide +kernel, by decide +kernel⟩
theorem sc_spare_of : FnScope ["tree", "ask", "weight", "prices", "paid", "spare"] ["tree", "ask", "weight", "prices"] (defScope s_spare_of) := ⟨rfl, rfl, rfl, by decide +kernel, rfl, by decide +kernel, by decide +kernel⟩
theorem sc_spares : FnScope ["tree", "asks", "prices"] ["tree", "asks", "prices"] (defScope s_spares) := ⟨rfl, rfl, rfl, by decide +kernel, rfl, by decide +kernel, by decide +kernel⟩
theorem sc_bound_of : FnScope ["tree", "asks", "prices", "spared", "paid"] ["tree", "asks", "prices"] (defScope s_bound_of) := ⟨rfl, rfl, rfl, by decide +kernel, rfl, by decide +kernel, by decide +kernel⟩
theorem sc_l_cell : FnScope ["_law_script", "_law_k"] ["_law_script", "_law_k"] (defScope s_l_cell) := ⟨rfl, rfl, rfl, by decide +kernel, rfl, by decide +kernel, by decide +kernel⟩
theorem sc_l_source : FnScope ["_law_cell_here", "_law_k", "_law_number", "_law_seed"] ["_law_cell_here", "_law_k"] (defScope s_l_source) := ⟨rfl, rfl, rfl, by decide +kernel, rfl, by decide +kernel, by decide +kernel⟩
theorem sc_l_draw : FnScope ["_law_source_here", "_law_many", "_law_digit", "_law_found"] ["_law_source_here", "_law_many"] (defScope s_l_draw) := ⟨rfl, rfl, rfl, by decide +kernel, rfl, by decide +kernel, by decide +kernel⟩
theorem sc_l_tree : FnScope ["_law_source_here", "_law_most", "_law_many", "_law_style", "_law_parents", "_law_k", "_law_wide"] ["_law_source_here", "_law_most"] (defScope s_l_tree) := ⟨rfl, rfl, rfl, by decide +kernel, rfl, by decide +kernel, by decide +kernel⟩
theorem sc_l_lowest : FnScope ["_law_top", "_law_bottom", "_law_one", "_law_other"] ["_law_top", "_law_bottom"] (defScope s_l_lowest) := ⟨rfl, rfl, rfl, by decide +kernel, rfl, by decide +kernel, by decide +kernel⟩
theorem sc_l_way : FnScope ["_law_parents", "_law_one", "_law_other", "_law_ties"] ["_law_parents", "_law_one", "_law_other"] (defScope s_l_way) := ⟨rfl, rfl, rfl, by decide +kernel, rfl, by decide +kernel, by decide +kernel⟩
theorem sc_l_ask : FnScope ["_law_source_here", "_law_many", "_law_sizes", "_law_worths", "_law_one", "_law_other", "_law_size"] ["_law_source_here", "_law_many", "_law_sizes", "_law_worths"] (defScope s_l_ask) := ⟨rfl, rfl, rfl, by decide +kernel, rfl, by decide +kernel, by decide +kernel⟩
theorem sc_l_world : FnScope ["_law_script", "_law_most", "_law_tree_here", "_law_asks", "_law_k", "_law_source_here"] ["_law_script", "_law_most"] (defScope s_l_world) := ⟨rfl, rfl, rfl, by decide +kernel, rfl, by decide +kernel, by decide +kernel⟩
theorem sc_l_price : FnScope ["_law_source_here", "_law_great", "_law_way_here", "_law_wide"] ["_law_source_here", "_law_great"] (defScope s_l_price) := ⟨rfl, rfl, rfl, by decide +kernel, rfl, by decide +kernel, by decide +kernel⟩
theorem sc_l_prices : FnScope ["_law_tree_here", "_law_asks", "_law_source_here", "_law_found", "_law_k", "_law_one", "_law_other", "_law_size", "_law_worth", "_law_way_here", "_law_tie"] ["_law_tree_here", "_law_asks", "_law_source_here"] (defScope s_l_prices) := ⟨rfl, rfl, rfl, by decide +kernel, rfl, by decide +kernel, by decide +kernel⟩
theorem sc_l_loads : FnScope ["_law_tree_here", "_law_asks", "_law_keep_here", "_law_found", "_law_number", "_law_tie"] ["_law_tree_here", "_law_asks", "_law_keep_here"] (defScope s_l_loads) := ⟨rfl, rfl, rfl, by decide +kernel, rfl, by decide +kernel, by decide +kernel⟩
theorem sc_l_fits : FnScope ["_law_tree_here", "_law_asks", "_law_keep_here"] ["_law_tree_here", "_law_asks", "_law_keep_here"] (defScope s_l_fits) := ⟨rfl, rfl, rfl, by decide +kernel, rfl, by decide +kernel, by decide +kernel⟩
theorem sc_l_keep : FnScope ["_law_tree_here", "_law_asks", "_law_source_here", "_law_left", "_law_found", "_law_k", "_law_number"] ["_law_tree_here", "_law_asks", "_law_source_here"] (defScope s_l_keep) := ⟨rfl, rfl, rfl, by decide +kernel, rfl, by decide +kernel, by decide +kernel⟩
theorem sc_l_keeps : FnScope ["_law_tree_here", "_law_asks", "_law_script", "_law_found", "_law_number", "_law_k", "_law_source_here"] ["_law_tree_here", "_law_asks", "_law_script"] (defScope s_l_keeps) := ⟨rfl, rfl, rfl, by decide +kernel, rfl, by decide +kernel, by decide +kernel⟩
theorem sc_law : FnScope ["_law_script", "_law_tree_here", "_law_asks", "_law_keeps_here", "_law_worths", "_law_k", "_law_source_here", "_law_found"] ["_law_script"] (defScope s_law) := ⟨rfl, rfl, rfl, by decide +kernel, rfl, by decide +kernel, by decide +kernel⟩
section
variable {P : Program} {w : World} {K : PySem.W.Frag} {mg : Str → Option Value} {base : Heap} {A : Adr}
set_option maxHeartbeats 4000000 in
theorem ok_is_whole (T : Txt K mg A) : FnOk P w K mg base CX0 1 A.f_is_whole A.d_is_whole ["thing"] (spOf [false] false (sdWhole)) := by
  have S := sc_is_whole
  refine fnD T.F_is_whole S ⟨[false], [false], false⟩ _ ?hl rfl rfl fun cdv Ar outer s H E hr => ⟨_, (qss_one (qs_ret (qe_and (qe_isT rfl T.z_isinstance bt_isinstance (qe_var 0) (pe_bltn (v := .ty "int") rfl T.z_int bt_int rfl)) (qe_one (qe_not (qe_isT rfl T.z_isinstance bt_isinstance (qe_var 0) (pe_bltn (v := .ty "bool") rfl T.z_bool bt_bool rfl))))))), fun ds q h => ?_⟩
  case hl => intro ds q h; obtain ⟨d, rfl, _⟩ := h; rfl
  obtain ⟨d, rfl, hs, q0⟩ := h
  cases d <;> first | exact q0 | cases hs
set_option maxHeartbeats 4000000 in
theorem ok_is_between (T : Txt K mg A) : FnOk P w K mg base CX0 2 A.f_is_between A.d_is_between ["thing", "least", "most"] (spOf [false, false, false] false (sdBetween)) := by
  have G_is_whole := ok_is_whole (P := P) (w := w) (base := base) T
  have S := sc_is_between
  refine fnD T.F_is_between S ⟨[false, false, false], [false, false, false], false⟩ _ ?hl rfl rfl fun cdv Ar outer s H E hr => ⟨_, (qss_one (qs_ret (qe_and (qe_call (G_is_whole) (hr.mono (by decide)) rfl T.m_is_whole T.k_is_whole T.b_is_whole (qk_s (qe_var 0) qk_nil)) (qe_one (qe_chain op_le op_le dB dB (qe_var 1) (qe_var 0) (qe_var 2)))))), fun ds q h => ?_⟩
  case hl => intro ds q h; obtain ⟨d, lo, hi, rfl, _⟩ := h; rfl
  obtain ⟨d, lo, hi, rfl, hs, q0⟩ := h
  refine ⟨d, rfl, hs, ?_⟩
  cases d
  case int i =>
    refine (ite2 (c := decide (lo ≤ i) = true) (fun c => ?_) (fun c => ?_))
    · have : btw lo hi (.int i) = decide (i ≤ hi) := by show (decide (lo ≤ i) && decide (i ≤ hi)) = _; rw [c, Bool.true_and]
      rw [this] at q0; exact q0
    · have : btw lo hi (.int i) = false := by show (decide (lo ≤ i) && decide (i ≤ hi)) = _; rw [Bool.eq_false_iff.mpr c, Bool.false_and]
      rw [this] at q0; exact q0
  all_goals first | exact q0 | cases hs
set_option maxHeartbeats 4000000 in
theorem ok_has_two_lists (T : Txt K mg A) : FnOk P w K mg base CX0 1 A.f_has_two_lists A.d_has_two_lists ["thing"] (spOf [false] false (sdTwoP)) := by
  have S := sc_has_two_lists
  refine fnD T.F_has_two_lists S ⟨[false], [false, false, false], false⟩ _ ?hl rfl rfl fun cdv Ar outer s H E hr => ⟨_, (qss_cons (qs_if (QW.qt (qw_or (qt_not (qt_val (qe_isT rfl T.z_isinstance bt_isinstance (qe_var 0) (pe_bltn (v := .ty "tuple") rfl T.z_tuple bt_tuple rfl)))) (qw_or1 (qt_cmp (op_neD hr.units) dNe (qe_callB call_len_seq dLen rfl T.z_len bt_len (qa_cons (qe_var 0) qa_nil)) qe_int (nomark _))))) (qss_one (qs_ret qe_bl)) qss_nil)
      (qss_cons (qs_asg (qe_var 0) (qg_tup rfl (qgs_cons (qg_name (i := 1) S.nd rfl (Or.inl rfl)) (qgs_cons (qg_name (i := 2) S.nd rfl (Or.inl rfl)) qgs_nil)) (takes_cons1 (takes_cons1 takes_nil))))
      (qss_cons (qs_if (QW.qt (qw_or (qt_not (qt_val (qe_isT rfl T.z_isinstance bt_isinstance (qe_var 1) (pe_bltn (v := .ty "list") rfl T.z_list bt_list rfl)))) (qw_or1 (qt_not (qt_val (qe_isT rfl T.z_isinstance bt_isinstance (qe_var 2) (pe_bltn (v := .ty "list") rfl T.z_list bt_list rfl))))))) (qss_one (qs_ret qe_bl)) qss_nil)
      (qss_one (qs_ret (qe_and (qe_cmp (op_eqD hr.units) dEq (qe_callB call_len_seq dLen rfl T.z_len bt_len (qa_cons (qe_var 1) qa_nil)) (qe_callB call_len_seq dLen rfl T.z_len bt_len (qa_cons (qe_var 2) qa_nil)) (nomark _)) (qe_one (qe_chain op_le op_le dB dB qe_int (qe_callB call_len_seq dLen rfl T.z_len bt_len (qa_cons (qe_var 1) qa_nil)) (qe_globI (i := 23) rfl T.c_MOST_TIES))))))))), fun ds q h => ?_⟩
  case hl => intro ds q h; obtain ⟨ps, rs, rfl, _⟩ := h; rfl
  obtain ⟨ps, rs, rfl, hT, q0⟩ := h
  have l1 : ((ps.map D.int).length : Int) = ps.length := by rw [List.length_map]
  have l2 : ((rs.map D.int).length : Int) = rs.length := by rw [List.length_map]
  have h1 := hT.len
  have h2 := hT.lo
  have h3 := hT.hi
  refine (ite2 (c := decide (((ps.map D.int).length : Int) = ((rs.map D.int).length : Int)) = true) (fun c => ?_) (fun c => ?_))
  · refine (ite2 (c := decide ((1 : Int) ≤ ((ps.map D.int).length : Int)) = true) (fun c => ?_) (fun c => ?_))
    · show q (.bl (decide (((ps.map D.int).length : Int) ≤ 23))) []
      rw [decide_eq_true (by omega)]; exact q0
    · exact absurd (decide_eq_true (by omega)) c
  · exact absurd (decide_eq_true (by omega)) c
set_option maxHeartbeats 4000000 in
theorem ok_look_at_tree (T : Txt K mg A) : FnOk P w K mg base CX0 3 A.f_look_at_tree A.d_look_at_tree ["thing"] (spOf [false] false (sdLook)) := by
  have G_has_two_lists := ok_has_two_lists (P := P) (w := w) (base := base) T
  have G_is_between := ok_is_between (P := P) (w := w) (base := base) T
  have S := sc_look_at_tree
  refine fnD T.F_look_at_tree S ⟨[false], [false, false, false, false, false, false], false⟩ _ ?hl rfl rfl fun cdv Ar outer s H E hr => ⟨_, (qss_cons (qs_if (qt_not (qt_val (qe_call (G_has_two_lists) (hr.mono (by decide)) rfl T.m_has_two_lists T.k_has_two_lists T.b_has_two_lists (qk_s (qe_var 0) qk_nil)))) (qss_one qs_never) qss_nil)
      (qss_cons (qs_asg (qe_var 0) (qg_tup rfl (qgs_cons (qg_name (i := 1) S.nd rfl (Or.inl rfl)) (qgs_cons (qg_name (i := 2) S.nd rfl (Or.inl rfl)) qgs_nil)) (takes_cons1 (takes_cons1 takes_nil))))
      (qss_cons (qs_for PassesOwn.never rfl (qi_enum rfl T.z_enumerate (qa_cons (qe_var 1) qa_nil)) (qg_tup rfl (qgs_cons (qg_name (i := 3) S.nd rfl (Or.inl rfl)) (qgs_cons (qg_name (i := 4) S.nd rfl (Or.inl rfl)) qgs_nil)) (takes_cons1 (takes_cons1 takes_nil))) (qss_one (qs_if (qt_not (qt_val (qe_call (G_is_between) (hr.mono (by decide)) rfl T.m_is_between T.k_is_between T.b_is_between (qk_s (qe_var 4) (qk_s qe_int (qk_s (qe_var 3) qk_nil)))))) (qss_one qs_never) qss_nil)))
      (qss_one (qs_for PassesOwn.never rfl (qi_enum rfl T.z_enumerate (qa_cons (qe_var 2) qa_nil)) (qg_tup rfl (qgs_cons (qg_name (i := 3) S.nd rfl (Or.inl rfl)) (qgs_cons (qg_name (i := 5) S.nd rfl (Or.inl rfl)) qgs_nil)) (takes_cons1 (takes_cons1 takes_nil))) (qss_one (qs_if (qt_not (qt_val (qe_call (G_is_between) (hr.mono (by decide)) rfl T.m_is_between T.k_is_between T.b_is_between (qk_s (qe_var 5) (qk_s qe_int (qk_s (qe_globI (i := 1000000) rfl T.c_MOST_ROOM) qk_nil)))))) (qss_one qs_never) qss_nil))))))), fun ds q h => ?_⟩
  case hl => intro ds q h; obtain ⟨ps, rs, rfl, _⟩ := h; rfl
  obtain ⟨ps, rs, rfl, hT, q0⟩ := h
  refine ⟨ps, rs, rfl, hT, ?_⟩
  refine ⟨fun _ ρ => ∃ v1 v2 v3, ρ = [some (dPair ps rs), some (dInts ps), some (dInts rs), v1, v2, v3], ⟨_, _, _, rfl⟩, ?_, ?_⟩
  · rintro i d ρ hd ⟨v1, v2, v3, rfl⟩
    obtain ⟨d', h1, rfl⟩ := enuD_at hd
    obtain ⟨z, hz, rfl⟩ := map_at h1
    have hb := hT.par i z hz
    refine ⟨.int z, 0, (i : Int), rfl, rfl, ?_⟩
    rw [btw_int hb.1 hb.2]
    exact ⟨_, _, _, rfl⟩
  · rintro ρ ⟨v1, v2, v3, rfl⟩
    refine ⟨fun _ ρ => ∃ v1 v2 v3, ρ = [some (dPair ps rs), some (dInts ps), some (dInts rs), v1, v2, v3], ⟨_, _, _, rfl⟩, ?_, ?_⟩
    · rintro i d ρ hd ⟨v1, v2, v3, rfl⟩
      obtain ⟨d', h1, rfl⟩ := enuD_at hd
      obtain ⟨z, hz, rfl⟩ := map_at h1
      have hb := hT.room i z hz
      refine ⟨.int z, 1, 1000000, rfl, rfl, ?_⟩
      rw [btw_int hb.1 hb.2]
      exact ⟨_, _, _, rfl⟩
    · rintro ρ ⟨v1, v2, v3, rfl⟩
      exact q0
set_option maxHeartbeats 4000000 in
theorem ok_is_place (T : Txt K mg A) : FnOk P w K mg base CX0 3 A.f_is_place A.d_is_place ["tree", "thing"] (spOf [false, false] false (sdPlace)) := by
  have G_is_between := ok_is_between (P := P) (w := w) (base := base) T
  have S := sc_is_place
  refine fnD T.F_is_place S ⟨[false, false], [false, false], false⟩ _ ?hl rfl rfl fun cdv Ar outer s H E hr => ⟨_, (qss_one (qs_ret (qe_call (G_is_between) (hr.mono (by decide)) rfl T.m_is_between T.k_is_between T.b_is_between (qk_s (qe_var 1) (qk_s qe_int (qk_s (qe_callB call_len_seq dLen rfl T.z_len bt_len (qa_cons (qe_ix ix_seq dIx (qe_var 0) qe_int (fun _ _ => rfl)) qa_nil)) qk_nil)))))), fun ds q h => ?_⟩
  case hl => intro ds q h; obtain ⟨ps, rs, d, rfl, _⟩ := h; rfl
  obtain ⟨ps, rs, d, rfl, hs, q0⟩ := h
  refine ⟨d, 0, ((ps.map D.int).length : Int), rfl, hs, ?_⟩
  rw [List.length_map]; exact q0
set_option maxHeartbeats 4000000 in
theorem ok_are_ends (T : Txt K mg A) : FnOk P w K mg base CX0 4 A.f_are_ends A.d_are_ends ["tree", "one", "other"] (spOf [false, false, false] false (sdEnds)) := by
  have G_is_place := ok_is_place (P := P) (w := w) (base := base) T
  have S := sc_are_ends
  refine fnD T.F_are_ends S ⟨[false, false, false], [false, false, false], false⟩ _ ?hl rfl rfl fun cdv Ar outer s H E hr => ⟨_, (qss_one (qs_ret (qe_and (qe_call (G_is_place) (hr.mono (by decide)) rfl T.m_is_place T.k_is_place T.b_is_place (qk_s (qe_var 0) (qk_s (qe_var 1) qk_nil))) (qe_and (qe_call (G_is_place) (hr.mono (by decide)) rfl T.m_is_place T.k_is_place T.b_is_place (qk_s (qe_var 0) (qk_s (qe_var 2) qk_nil))) (qe_one (qe_cmp (op_neD hr.units) dNe (qe_var 1) (qe_var 2) (nomark _))))))), fun ds q h => ?_⟩
  case hl => intro ds q h; obtain ⟨ps, rs, a, b, rfl, _⟩ := h; rfl
  obtain ⟨ps, rs, a, b, rfl, he, q0⟩ := h
  refine ⟨ps, rs, .int a, rfl, rfl, ?_⟩
  rw [btw_int he.a0 he.a1]
  refine ⟨ps, rs, .int b, rfl, rfl, ?_⟩
  rw [btw_int he.b0 he.b1]
  have : (!decide (a = b)) = true := by simp [he.ne]
  show q (.bl (!decide (a = b))) []
  rw [this]; exact q0
set_option maxHeartbeats 4000000 in
theorem ok_is_ask (T : Txt K mg A) : FnOk P w K mg base CX0 5 A.f_is_ask A.d_is_ask ["tree", "thing"] (spOf [false, false] false (sdIsAsk)) := by
  have G_are_ends := ok_are_ends (P := P) (w := w) (base := base) T
  have G_is_between := ok_is_between (P := P) (w := w) (base := base) T
  have S := sc_is_ask
  refine fnD T.F_is_ask S ⟨[false, false], [false, false, false, false, false, false], false⟩ _ ?hl rfl rfl fun cdv Ar outer s H E hr => ⟨_, (qss_cons (qs_if (QW.qt (qw_or (qt_not (qt_val (qe_isT rfl T.z_isinstance bt_isinstance (qe_var 1) (pe_bltn (v := .ty "tuple") rfl T.z_tuple bt_tuple rfl)))) (qw_or1 (qt_cmp (op_neD hr.units) dNe (qe_callB call_len_seq dLen rfl T.z_len bt_len (qa_cons (qe_var 1) qa_nil)) qe_int (nomark _))))) (qss_one (qs_ret qe_bl)) qss_nil)
      (qss_cons (qs_asg (qe_var 1) (qg_tup rfl (qgs_cons (qg_name (i := 2) S.nd rfl (Or.inl rfl)) (qgs_cons (qg_name (i := 3) S.nd rfl (Or.inl rfl)) (qgs_cons (qg_name (i := 4) S.nd rfl (Or.inl rfl)) (qgs_cons (qg_name (i := 5) S.nd rfl (Or.inl rfl)) qgs_nil)))) (takes_cons1 (takes_cons1 (takes_cons1 (takes_cons1 takes_nil))))))
      (qss_one (qs_ret (qe_and (qe_call (G_are_ends) (hr.mono (by decide)) rfl T.m_are_ends T.k_are_ends T.b_are_ends (qk_s (qe_var 0) (qk_s (qe_var 2) (qk_s (qe_var 3) qk_nil)))) (qe_and (qe_call (G_is_between) (hr.mono (by decide)) rfl T.m_is_between T.k_is_between T.b_is_between (qk_s (qe_var 4) (qk_s qe_int (qk_s (qe_globI (i := 1000000) rfl T.c_MOST_SIZE) qk_nil)))) (qe_one (qe_call (G_is_between) (hr.mono (by decide)) rfl T.m_is_between T.k_is_between T.b_is_between (qk_s (qe_var 5) (qk_s qe_int (qk_s (qe_globI (i := 1000000000000) rfl T.c_MOST_WORTH) qk_nil))))))))))), fun ds q h => ?_⟩
  case hl => intro ds q h; obtain ⟨ps, rs, a, rfl, _⟩ := h; rfl
  obtain ⟨ps, rs, a, rfl, ha, q0⟩ := h
  refine ⟨ps, rs, a.one, a.other, rfl, ha.ends, ?_⟩
  refine ⟨.int a.size, 1, 1000000, rfl, rfl, ?_⟩
  rw [btw_int ha.s0 ha.s1]
  refine ⟨.int a.worth, 1, 1000000000000, rfl, rfl, ?_⟩
  rw [btw_int ha.w0 ha.w1]
  exact q0
set_option maxHeartbeats 4000000 in
theorem ok_look_at_asks (T : Txt K mg A) : FnOk P w K mg base CX0 6 A.f_look_at_asks A.d_look_at_asks ["tree", "thing"] (spOf [false, false] false (sdLookAsks)) := by
  have G_is_ask := ok_is_ask (P := P) (w := w) (base := base) T
  have G_look_at_tree := ok_look_at_tree (P := P) (w := w) (base := base) T
  have S := sc_look_at_asks
  refine fnD T.F_look_at_asks S ⟨[false, false], [false, false, false, false], false⟩ _ ?hl rfl rfl fun cdv Ar outer s H E hr => ⟨_, (qss_cons (qs_expr (qe_call (G_look_at_tree) (hr.mono (by decide)) rfl T.m_look_at_tree T.k_look_at_tree T.b_look_at_tree (qk_s (qe_var 0) qk_nil)))
      (qss_cons (qs_if (QW.qt (qw_or (qt_not (qt_val (qe_isT rfl T.z_isinstance bt_isinstance (qe_var 1) (pe_bltn (v := .ty "list") rfl T.z_list bt_list rfl)))) (qw_or1 (qt_cmp op_gt dB (qe_callB call_len_seq dLen rfl T.z_len bt_len (qa_cons (qe_var 1) qa_nil)) (qe_globI (i := 30) rfl T.c_MOST_ASKS) (nomark _))))) (qss_one qs_never) qss_nil)
      (qss_one (qs_for PassesOwn.never rfl (qi_enum rfl T.z_enumerate (qa_cons (qe_var 1) qa_nil)) (qg_tup rfl (qgs_cons (qg_name (i := 2) S.nd rfl (Or.inl rfl)) (qgs_cons (qg_name (i := 3) S.nd rfl (Or.inl rfl)) qgs_nil)) (takes_cons1 (takes_cons1 takes_nil))) (qss_one (qs_if (qt_not (qt_val (qe_call (G_is_ask) (hr.mono (by decide)) rfl T.m_is_ask T.k_is_ask T.b_is_ask (qk_s (qe_var 0) (qk_s (qe_var 3) qk_nil))))) (qss_one qs_never) qss_nil)))))), fun ds q h => ?_⟩
  case hl => intro ds q h; obtain ⟨ps, rs, as, rfl, _⟩ := h; rfl
  obtain ⟨ps, rs, as, rfl, hT, ha, q0⟩ := h
  refine ⟨ps, rs, rfl, hT, ?_⟩
  refine (ite2 (c := decide ((30 : Int) < ((as.map dAsk).length : Int)) = true) (fun c => ?_) (fun c => ?_))
  · have := ha.len; rw [len_asks] at c; simp at c; omega
  refine ⟨fun _ ρ => ∃ v1 v2, ρ = [some (dPair ps rs), some (dAsks as), v1, v2], ⟨_, _, rfl⟩, ?_, ?_⟩
  · rintro i d ρ hd ⟨v1, v2, rfl⟩
    obtain ⟨d', h1, rfl⟩ := enuD_at hd
    obtain ⟨z, hz, rfl⟩ := asks_at h1
    refine ⟨ps, rs, z, rfl, ha.ok z (List.mem_of_getElem? hz), ?_⟩
    exact ⟨_, _, rfl⟩
  · rintro ρ ⟨v1, v2, rfl⟩
    exact q0
set_option maxHeartbeats 4000000 in
theorem ok_greatest_common (T : Txt K mg A) : FnOk P w K mg base CX0 1 A.f_greatest_common A.d_greatest_common ["number", "bottom"] (spOf [false, false] false (sdGcd)) := by
  have S := sc_greatest_common
  refine fnD T.F_greatest_common S ⟨[false, false], [false, false], false⟩ _ ?hl rfl rfl fun cdv Ar outer s H E hr => ⟨_, (qss_cons (qs_while PassesOwn.never (qt_cmp (op_neD hr.units) dNe (qe_var 1) qe_int (nomark _)) (qss_one (qs_par (i := 0) (j := 1) rfl S.nd rfl rfl (by decide) rfl rfl (qe_var 1) (qe_op op_mod dIC (qe_var 0) (qe_var 1)) rfl)))
      (qss_one (qs_ret (qe_var 0)))), fun ds q h => ?_⟩
  case hl => intro ds q h; obtain ⟨n, b, rfl, _⟩ := h; rfl
  obtain ⟨n, b, rfl, hb, q0⟩ := h
  refine ⟨fun k ρ => ∃ n' b' : Int, ρ = [some (.int n'), some (.int b')] ∧ 0 ≤ b' ∧ b'.toNat = k ∧ gcdP n' b' = gcdP n b, ⟨_, n, b, rfl, hb, rfl, rfl⟩, ?_⟩
  rintro k ρ ⟨n', b', rfl, hb', hk, hg⟩
  refine (ite2 (c := (!decide (b' = 0)) = true) (fun c => ?_) (fun c => ?_))
  · have c' : b' ≠ 0 := by simpa using c
    have hp : 0 < b' := by omega
    refine ⟨hp, ?_⟩
    have := Int.emod_lt_of_pos n' hp
    have := Int.emod_nonneg n' (show b' ≠ 0 by omega)
    exact ⟨_, by omega, b', n' % b', rfl, by omega, rfl, by rw [gcdP_step hp]; exact hg⟩
  · have c' : b' = 0 := by simpa using c
    subst c'
    have e : gcdP n b = n' := by rw [← hg]; unfold gcdP; rw [if_pos rfl]
    rw [e] at q0; exact q0
set_option maxHeartbeats 4000000 in
theorem ok_fraction (T : Txt K mg A) : FnOk P w K mg base CX0 2 A.f_fraction A.d_fraction ["top", "bottom"] (spOf [false, false] false (sdFrac)) := by
  have G_greatest_common := ok_greatest_common (P := P) (w := w) (base := base) T
  have G_is_whole := ok_is_whole (P := P) (w := w) (base := base) T
  have S := sc_fraction
  refine fnD T.F_fraction S ⟨[false, false], [false, false, false], false⟩ _ ?hl rfl rfl fun cdv Ar outer s H E hr => ⟨_, (qss_cons (qs_if (QW.qt (qw_or (qt_not (qt_val (qe_call (G_is_whole) (hr.mono (by decide)) rfl T.m_is_whole T.k_is_whole T.b_is_whole (qk_s (qe_var 0) qk_nil)))) (qw_or1 (qt_not (qt_val (qe_call (G_is_whole) (hr.mono (by decide)) rfl T.m_is_whole T.k_is_whole T.b_is_whole (qk_s (qe_var 1) qk_nil))))))) (qss_one qs_never) qss_nil)
      (qss_cons (qs_if (qt_cmp (op_eqD hr.units) dEq (qe_var 1) qe_int (nomark _)) (qss_one qs_never) qss_nil)
      (qss_cons (qs_cut (qs_if (qt_cmp op_lt dB (qe_var 1) qe_int (nomark _)) (qss_one (qs_par (i := 0) (j := 1) rfl S.nd rfl rfl (by decide) rfl rfl (qe_neg (qe_var 0)) (qe_neg (qe_var 1)) rfl)) qss_nil))
      (qss_cons (qs_set (i := 2) S.nd rfl (Or.inl rfl) (qe_call (G_greatest_common) (hr.mono (by decide)) rfl T.m_greatest_common T.k_greatest_common T.b_greatest_common (qk_s (qe_var 0) (qk_s (qe_var 1) qk_nil))))
      (qss_one (qs_ret (qe_tup (qa_cons (qe_op op_fdivB dIC (qe_var 0) (qe_var 2)) (qa_cons (qe_op op_fdivB dIC (qe_var 1) (qe_var 2)) qa_nil))))))))), fun ds q h => ?_⟩
  case hl => intro ds q h; obtain ⟨t, b, rfl, _⟩ := h; rfl
  obtain ⟨t, b, rfl, hb, hs, q0⟩ := h
  refine ⟨.int t, rfl, rfl, ?_⟩
  refine ⟨.int b, rfl, rfl, ?_⟩
  refine (ite2 (c := decide (b = 0) = true) (fun c => absurd (of_decide_eq_true c) hb) (fun _ => ?_))
  refine ⟨fun ρ => ∃ t' b' : Int, ρ = [some (.int t'), some (.int b'), none] ∧ 0 < b' ∧ Sm b' ∧ Rat.divInt t' b' = Rat.divInt t b, ?_, ?_⟩
  · refine (ite2 (c := decide (b < 0) = true) (fun c => ?_) (fun c => ?_))
    · have c' : b < 0 := by simpa using c
      exact ⟨-t, -b, rfl, by omega, by show (-b).natAbs < _; rw [Int.natAbs_neg]; exact hs, Rat.neg_divInt_neg t b⟩
    · have c' : ¬ b < 0 := by simpa using c
      exact ⟨t, b, rfl, by omega, hs, rfl⟩
  · rintro ρ ⟨t', b', rfl, hp, hs', he⟩
    refine ⟨t', b', rfl, Int.le_of_lt hp, ?_⟩
    have g := gcdP_pos (n := t') hp
    have gl := gcdP_le (n := t') hp
    have gs : Sm (gcdP t' b') := by show (gcdP t' b').natAbs < _; exact Nat.lt_of_le_of_lt (by omega) hs'
    refine ⟨⟨g, gs⟩, ⟨g, gs⟩, ?_⟩
    rw [quo_num hp, quo_den hp, he]
    exact q0
set_option maxHeartbeats 4000000 in
theorem ok_minus (T : Txt K mg A) : FnOk P w K mg base CX0 3 A.f_minus A.d_minus ["one", "other"] (spOf [false, false] false (sdMinus)) := by
  have G_fraction := ok_fraction (P := P) (w := w) (base := base) T
  have S := sc_minus
  refine fnD T.F_minus S ⟨[false, false], [false, false], false⟩ _ ?hl rfl rfl fun cdv Ar outer s H E hr => ⟨_, (qss_one (qs_ret (qe_call (G_fraction) (hr.mono (by decide)) rfl T.m_fraction T.k_fraction T.b_fraction (qk_s (qe_op op_sub dI (qe_op op_mulB dIC (qe_ix ix_seq dIx (qe_var 0) qe_int (fun _ _ => rfl)) (qe_ix ix_seq dIx (qe_var 1) qe_int (fun _ _ => rfl))) (qe_op op_mulB dIC (qe_ix ix_seq dIx (qe_var 1) qe_int (fun _ _ => rfl)) (qe_ix ix_seq dIx (qe_var 0) qe_int (fun _ _ => rfl)))) (qk_s (qe_op op_mulB dIC (qe_ix ix_seq dIx (qe_var 0) qe_int (fun _ _ => rfl)) (qe_ix ix_seq dIx (qe_var 1) qe_int (fun _ _ => rfl))) qk_nil))))), fun ds q h => ?_⟩
  case hl => intro ds q h; obtain ⟨r, s, rfl, _⟩ := h; rfl
  obtain ⟨r, s, rfl, hr, hs, q0⟩ := h
  refine ⟨⟨hr.smN (by decide), hs.smD (by decide)⟩, ⟨hs.smN (by decide), hr.smD (by decide)⟩, ⟨hr.smD (by decide), hs.smD (by decide)⟩, ?_⟩
  refine ⟨_, _, rfl, Int.ne_of_gt (den_mul_pos r s), Sm.of (n := 7900) (by rw [abs_mulI, Int.natAbs_natCast, Int.natAbs_natCast]; exact lt_mul_pow (m := 3950) (n := 3950) hr.den hs.den) (by decide), ?_⟩
  rw [← sub_eq]; exact q0
set_option maxHeartbeats 4000000 in
theorem ok_times (T : Txt K mg A) : FnOk P w K mg base CX0 3 A.f_times A.d_times ["one", "other"] (spOf [false, false] false (sdTimes)) := by
  have G_fraction := ok_fraction (P := P) (w := w) (base := base) T
  have S := sc_times
  refine fnD T.F_times S ⟨[false, false], [false, false], false⟩ _ ?hl rfl rfl fun cdv Ar outer s H E hr => ⟨_, (qss_one (qs_ret (qe_call (G_fraction) (hr.mono (by decide)) rfl T.m_fraction T.k_fraction T.b_fraction (qk_s (qe_op op_mulB dIC (qe_ix ix_seq dIx (qe_var 0) qe_int (fun _ _ => rfl)) (qe_ix ix_seq dIx (qe_var 1) qe_int (fun _ _ => rfl))) (qk_s (qe_op op_mulB dIC (qe_ix ix_seq dIx (qe_var 0) qe_int (fun _ _ => rfl)) (qe_ix ix_seq dIx (qe_var 1) qe_int (fun _ _ => rfl))) qk_nil))))), fun ds q h => ?_⟩
  case hl => intro ds q h; obtain ⟨r, s, rfl, _⟩ := h; rfl
  obtain ⟨r, s, rfl, hr, hs, q0⟩ := h
  refine ⟨⟨hr.smN (by decide), hs.smN (by decide)⟩, ⟨hr.smD (by decide), hs.smD (by decide)⟩, ?_⟩
  refine ⟨_, _, rfl, Int.ne_of_gt (den_mul_pos r s), Sm.of (n := 7900) (by rw [abs_mulI, Int.natAbs_natCast, Int.natAbs_natCast]; exact lt_mul_pow (m := 3950) (n := 3950) hr.den hs.den) (by decide), ?_⟩
  rw [← mul_eq]; exact q0
set_option maxHeartbeats 4000000 in
theorem ok_sum_of (T : Txt K mg A) : FnOk P w K mg base CX0 3 A.f_sum_of A.d_sum_of ["some"] (spOf [false] false (sdSumQ)) := by
  have G_fraction := ok_fraction (P := P) (w := w) (base := base) T
  have G_greatest_common := ok_greatest_common (P := P) (w := w) (base := base) T
  have S := sc_sum_of
  refine fnD T.F_sum_of S ⟨[false], [false, false, false], false⟩ _ ?hl rfl rfl fun cdv Ar outer s H E hr => ⟨_, (qss_cons (qs_set (i := 1) S.nd rfl (Or.inr rfl) qe_int)
      (qss_cons (qs_for PassesOwn.never rfl (qi_list (qe_var 0)) (qg_name (i := 2) S.nd rfl (Or.inl rfl)) (qss_one (qs_set (i := 1) S.nd rfl (Or.inr rfl) (qe_op op_mulB dIC (qe_op op_fdivB dIC (qe_var 1) (qe_call (G_greatest_common) (hr.mono (by decide)) rfl T.m_greatest_common T.k_greatest_common T.b_greatest_common (qk_s (qe_var 1) (qk_s (qe_ix ix_seq dIx (qe_var 2) qe_int (fun _ _ => rfl)) qk_nil)))) (qe_ix ix_seq dIx (qe_var 2) qe_int (fun _ _ => rfl))))))
      (qss_one (qs_ret (qe_call (G_fraction) (hr.mono (by decide)) rfl T.m_fraction T.k_fraction T.b_fraction (qk_s (qe_callB (call_sumI rfl) dSum rfl T.z_sum bt_sum (qa_cons (qe_comp ["one"] [1] ⟨rfl, rfl, by decide +kernel, rfl, rfl, (by first | exact trivial | exact ⟨rfl, trivial⟩ | exact ⟨rfl, rfl, trivial⟩ | exact ⟨rfl, rfl, rfl, trivial⟩ | exact ⟨rfl, rfl, rfl, rfl, trivial⟩), rfl⟩ rfl (qi_list (qe_var 0)) (cg_name 0) (fun _ _ _ _ => ⟨(pg_name (i := 0) (show List.Nodup (["one", "bottom"] : List Str) by decide +kernel) rfl (Or.inl rfl)), qif_nil, (qe_op op_mulB dIC (qe_ix ix_seq dIx (qe_var 0) qe_int (fun _ _ => rfl)) (qe_op op_fdivB dIC (qe_var 1) (qe_ix ix_seq dIx (qe_var 0) qe_int (fun _ _ => rfl))))⟩)) qa_nil)) (qk_s (qe_var 1) qk_nil))))))), fun ds q h => ?_⟩
  case hl => intro ds q h; obtain ⟨rs, M, rfl, _⟩ := h; rfl
  obtain ⟨rs, M, rfl, hl, hn, hM, hp, q0⟩ := h
  refine ⟨fun i ρ => ∃ (B : Int) (v : Option D), ρ = [some (dQs rs), some (.int B), v] ∧ Com (rs.take i) M B, ⟨1, _, rfl, com_nil M⟩, ?_, ?_⟩
  · rintro i d ρ hd ⟨B, v, rfl, hB⟩
    obtain ⟨r, hr, rfl⟩ : ∃ r, rs[i]? = some r ∧ dQ r = d := by rw [List.getElem?_map, Option.map_eq_some_iff] at hd; exact hd
    have hd := den_posI r
    have hmem := List.mem_of_getElem? hr
    have hdp := Nat.le_of_dvd hM (hn r hmem).2
    have hle := hB.le hM
    have hB0 := hB.pos
    have g := gcdP_pos (n := B) hd
    have gl := gcdP_le (n := B) hd
    refine ⟨B, r.den, rfl, Int.le_of_lt hd, ?_⟩
    refine ⟨⟨g, Sm.of (n := 3900) (by omega) (by decide)⟩, ⟨Sm.of (n := 3900) (Nat.lt_of_le_of_lt (ediv_abs g) (by omega)) (by decide), Sm.of (n := 3900) (by omega) (by decide)⟩, ?_⟩
    refine ⟨_, _, rfl, ?_⟩
    rw [List.take_add_one, hr]
    exact com_snoc hB (hn r hmem).2
  · rintro ρ ⟨B, v, rfl, hB⟩
    have el : (rs.map dQ).length = rs.length := List.length_map _
    rw [el, List.take_length] at hB
    have hle := hB.le hM
    have hB0 := hB.pos
    refine ⟨by rw [el]; omega, ?_⟩
    refine compD_map (sumF B) ?_ ?_
    · intro d hd k hk
      obtain ⟨r, hr, rfl⟩ := List.mem_map.mp hd
      have hd := den_posI r
      have hdp := Nat.le_of_dvd hM (hn r hr).2
      refine ⟨⟨hd, Sm.of (n := 3900) (by omega) (by decide)⟩, ⟨Sm.of (hn r hr).1 (by decide), Sm.of (n := 3900) (Nat.lt_of_le_of_lt (ediv_abs hd) (by omega)) (by decide)⟩, ?_⟩
      exact hk
    · rw [sumF_map]
      refine ⟨_, rfl, ?_⟩
      refine ⟨_, B, rfl, by omega, Sm.of (n := 3900) (by omega) (by decide), ?_⟩
      rw [sum_over hB0 hB.dv]
      exact q0
set_option maxHeartbeats 4000000 in
theorem ok_under (T : Txt K mg A) : FnOk P w K mg base CX0 1 A.f_under A.d_under ["one", "other"] (spOf [false, false] false (sdUnder)) := by
  have S := sc_under
  refine fnD T.F_under S ⟨[false, false], [false, false], false⟩ _ ?hl rfl rfl fun cdv Ar outer s H E hr => ⟨_, (qss_one (qs_ret (qe_cmp op_lt dB (qe_op op_mulB dIC (qe_ix ix_seq dIx (qe_var 0) qe_int (fun _ _ => rfl)) (qe_ix ix_seq dIx (qe_var 1) qe_int (fun _ _ => rfl))) (qe_op op_mulB dIC (qe_ix ix_seq dIx (qe_var 1) qe_int (fun _ _ => rfl)) (qe_ix ix_seq dIx (qe_var 0) qe_int (fun _ _ => rfl))) (nomark _)))), fun ds q h => ?_⟩
  case hl => intro ds q h; obtain ⟨r, s, rfl, _⟩ := h; rfl
  obtain ⟨r, s, rfl, hr, hs, q0⟩ := h
  refine ⟨⟨hr.smN (by decide), hs.smD (by decide)⟩, ⟨hs.smN (by decide), hr.smD (by decide)⟩, ?_⟩
  have e : decide (r < s) = decide (r.num * (s.den : Int) < s.num * (r.den : Int)) := decide_eq_decide.mpr (Rat.lt_iff r s)
  rw [e] at q0; exact q0
set_option maxHeartbeats 4000000 in
theorem ok_look_at_ends (T : Txt K mg A) : FnOk P w K mg base CX0 5 A.f_look_at_ends A.d_look_at_ends ["tree", "one", "other"] (spOf [false, false, false] false (sdLookEnds)) := by
  have G_are_ends := ok_are_ends (P := P) (w := w) (base := base) T
  have G_look_at_tree := ok_look_at_tree (P := P) (w := w) (base := base) T
  have S := sc_look_at_ends
  refine fnD T.F_look_at_ends S ⟨[false, false, false], [false, false, false], false⟩ _ ?hl rfl rfl fun cdv Ar outer s H E hr => ⟨_, (qss_cons (qs_expr (qe_call (G_look_at_tree) (hr.mono (by decide)) rfl T.m_look_at_tree T.k_look_at_tree T.b_look_at_tree (qk_s (qe_var 0) qk_nil)))
      (qss_one (qs_if (qt_not (qt_val (qe_call (G_are_ends) (hr.mono (by decide)) rfl T.m_are_ends T.k_are_ends T.b_are_ends (qk_s (qe_var 0) (qk_s (qe_var 1) (qk_s (qe_var 2) qk_nil)))))) (qss_one qs_never) qss_nil))), fun ds q h => ?_⟩
  case hl => intro ds q h; obtain ⟨ps, rs, a, b, rfl, _⟩ := h; rfl
  obtain ⟨ps, rs, a, b, rfl, hT, he, q0⟩ := h
  refine ⟨ps, rs, rfl, hT, ?_⟩
  exact ⟨ps, rs, a, b, rfl, he, q0⟩
set_option maxHeartbeats 4000000 in
theorem ok_climb (T : Txt K mg A) : FnOk P w K mg base CX0 1 A.f_climb A.d_climb ["tree", "one", "other"] (spOf [false, false, false] true (sdClimb)) := by
  have S := sc_climb
  refine fnD T.F_climb S ⟨[false, false, false], [false, false, false, true, false], true⟩ _ ?hl rfl rfl fun cdv Ar outer s H E hr => ⟨_, (qss_cons (qs_setO (i := 3) S.nd rfl (Or.inl rfl) (qf_lst qa_nil))
      (qss_cons (qs_while PassesOwn.never (qt_cmp (op_neD hr.units) dNe (qe_var 1) (qe_var 2) (nomark _)) (qss_cons (qs_set (i := 4) S.nd rfl (Or.inl rfl) (qe_callB (call_max2 rfl) dMax rfl T.z_max bt_max (qa_cons (qe_var 1) (qa_cons (qe_var 2) qa_nil))))
      (qss_cons (qs_append (i := 3) rfl (QE.qf (qe_var 4)))
      (qss_one (qs_par (i := 1) (j := 2) rfl S.nd rfl rfl (by decide) rfl rfl (qe_callB (call_min2 rfl) dMin rfl T.z_min bt_min (qa_cons (qe_var 1) (qa_cons (qe_var 2) qa_nil))) (qe_ix ix_seq dIx (qe_ix ix_seq dIx (qe_var 0) qe_int (fun _ _ => rfl)) (qe_op op_sub dI (qe_var 4) qe_int) (fun _ _ => rfl)) rfl)))))
      (qss_one (qs_retM (qm_tup (qms_cons (QF.qm (QF.bor [3] (qf_callB call_sortedI dSortI rfl T.z_sorted bt_sorted (qa_cons (qe_var 3) qa_nil)))) (qms_cons (QF.qm (QE.qf (qe_var 1))) qms_nil))))))), fun ds q h => ?_⟩
  case hl => intro ds q h; obtain ⟨ps, rs, a, b, rfl, _⟩ := h; rfl
  obtain ⟨ps, rs, a, b, rfl, hT, a0, a1, b0, b1, q0⟩ := h
  refine ⟨rfl, ?_⟩
  refine ⟨fun k ρ => ∃ a' b' acc v, ρ = [some (dPair ps rs), some (.int a'), some (.int b'), some (dInts acc), v] ∧ 0 ≤ a' ∧ a' ≤ ps.length ∧ 0 ≤ b' ∧ b' ≤ ps.length ∧ k = (a' + b').toNat ∧ acc.length + (a' + b').toNat ≤ 46 ∧ (∀ w m, Climb ps a' b' w m → Climb ps a b (acc ++ w) m), ⟨_, a, b, [], _, rfl, a0, a1, b0, b1, rfl, by have := hT.hi; simp; omega, fun w m h => h⟩, ?_⟩
  rintro k ρ ⟨a', b', acc, v, rfl, a0', a1', b0', b1', rfl, hl, hc⟩
  have hi := hT.hi
  refine (ite2 (c := (!decide (a' = b')) = true) (fun c => ?_) (fun c => ?_))
  · have hne : a' ≠ b' := by simpa using c
    have key : ∀ (low hig : Int), low = (if b' > a' then b' else a') → hig = (if b' < a' then b' else a') → 0 < low ∧ low ≤ ps.length ∧ 0 ≤ hig ∧ hig ≤ ps.length ∧ low + hig = a' + b' ∧ (∀ w m, Climb ps hig (parZ ps low) w m → Climb ps a' b' (low :: w) m) := by
      intro low hig e1 e2
      by_cases hlt : b' < a'
      · rw [if_neg (by omega)] at e1; rw [if_pos hlt] at e2; subst e1; subst e2
        exact ⟨by omega, a1', b0', b1', by omega, fun w m h => .left hlt h⟩
      · rw [if_pos (by omega)] at e1; rw [if_neg hlt] at e2; subst e1; subst e2
        exact ⟨by omega, b1', a0', a1', by omega, fun w m h => .right (by omega) h⟩
    obtain ⟨L, hL⟩ : ∃ L, L = (if b' > a' then b' else a') := ⟨_, rfl⟩
    obtain ⟨J, hJ⟩ : ∃ J, J = (if b' < a' then b' else a') := ⟨_, rfl⟩
    obtain ⟨k1, k2, k3, k4, k5, k6⟩ := key L J hL hJ
    clear key
    have hp := hT.up k1 k2
    refine ⟨rfl, ?_⟩
    refine ⟨by show (acc.map D.int).length < 1000; rw [List.length_map]; clear hL hJ; omega, ?_⟩
    refine atD_of (atI_ints (by rw [← hL]; clear hL hJ; omega) (by rw [← hL]; clear hL hJ; omega)) ?_
    refine ⟨(J + parZ ps L).toNat, by clear hL hJ; omega, J, parZ ps L, acc ++ [L], some (.int L), ?_, k3, k4, hp.1, by clear hL hJ; omega, rfl, by rw [List.length_append]; show acc.length + 1 + _ ≤ 46; clear hL hJ; omega, fun w m h => by rw [List.append_assoc]; exact hc _ _ (k6 _ _ h)⟩
    show [some (dPair ps rs), some (.int (if b' < a' then b' else a')), some (.int (parZ ps (if b' > a' then b' else a'))), some (D.lst (acc.map D.int ++ [D.int (if b' > a' then b' else a')])), some (.int (if b' > a' then b' else a'))] = _
    rw [← hL, ← hJ, dInts, List.map_append]; rfl
  · have : a' = b' := by simpa using c
    subst this
    have hw := hc [] a' (.same a')
    rw [List.append_nil] at hw
    have hln := hw.len hT a0 b0 a1 b1
    refine ⟨acc, rfl, by omega, imms_ints _, rfl, ?_⟩
    exact q0 acc a' hw
set_option maxHeartbeats 4000000 in
theorem ok_way_between (T : Txt K mg A) : FnOk P w K mg base CX0 6 A.f_way_between A.d_way_between ["tree", "one", "other"] (spOf [false, false, false] true (sdWay)) := by
  have G_climb := ok_climb (P := P) (w := w) (base := base) T
  have G_look_at_ends := ok_look_at_ends (P := P) (w := w) (base := base) T
  have S := sc_way_between
  refine fnD T.F_way_between S ⟨[false, false, false], [false, false, false, true, false], true⟩ _ ?hl rfl rfl fun cdv Ar outer s H E hr => ⟨_, (qss_cons (qs_expr (qe_call (G_look_at_ends) (hr.mono (by decide)) rfl T.m_look_at_ends T.k_look_at_ends T.b_look_at_ends (qk_s (qe_var 0) (qk_s (qe_var 1) (qk_s (qe_var 2) qk_nil)))))
      (qss_cons (qs_asgF rfl (QF.qm (qf_call (G_climb) (hr.mono (by decide)) rfl T.m_climb T.k_climb T.b_climb (qk_s (qe_var 0) (qk_s (qe_var 1) (qk_s (qe_var 2) qk_nil))))) (qgf_own (i := 3) S.nd rfl (Or.inl rfl) (qgf_sh (i := 4) S.nd rfl (Or.inl rfl) qgf_nil)) (takes_cons1 (takes_cons1 takes_nil)))
      (qss_one (qs_retM (qm_move 3))))), fun ds q h => ?_⟩
  case hl => intro ds q h; obtain ⟨ps, rs, a, b, rfl, _⟩ := h; rfl
  obtain ⟨ps, rs, a, b, rfl, hT, he, q0⟩ := h
  refine ⟨ps, rs, a, b, rfl, hT, he, ?_⟩
  refine ⟨ps, rs, a, b, rfl, hT, he.a0, he.a1, he.b0, he.b1, fun w m hw => ?_⟩
  exact q0 w m hw
set_option maxHeartbeats 4000000 in
theorem ok_way_of (T : Txt K mg A) : FnOk P w K mg base CX0 7 A.f_way_of A.d_way_of ["tree", "ask"] (spOf [false, false] true (sdWayOf)) := by
  have G_way_between := ok_way_between (P := P) (w := w) (base := base) T
  have S := sc_way_of
  refine fnD T.F_way_of S ⟨[false, false], [false, false], true⟩ _ ?hl rfl rfl fun cdv Ar outer s H E hr => ⟨_, (qss_one (qs_retM (QF.qm (qf_call (G_way_between) (hr.mono (by decide)) rfl T.m_way_between T.k_way_between T.b_way_between (qk_s (qe_var 0) (qk_s (qe_ix ix_seq dIx (qe_var 1) qe_int (fun _ _ => rfl)) (qk_s (qe_ix ix_seq dIx (qe_var 1) qe_int (fun _ _ => rfl)) qk_nil))))))), fun ds q h => ?_⟩
  case hl => intro ds q h; obtain ⟨ps, rs, a, rfl, _⟩ := h; rfl
  obtain ⟨ps, rs, a, rfl, hT, he, q0⟩ := h
  refine ⟨ps, rs, a.one, a.other, rfl, hT, he, fun w m hw => ?_⟩
  rw [(hw.way hT he.a0 he.b0 he.a1 he.b1).1]
  exact q0
set_option maxHeartbeats 4000000 in
theorem ok_is_fraction (T : Txt K mg A) : FnOk P w K mg base CX0 2 A.f_is_fraction A.d_is_fraction ["thing"] (spOf [false] false (sdIsFr)) := by
  have G_greatest_common := ok_greatest_common (P := P) (w := w) (base := base) T
  have G_is_whole := ok_is_whole (P := P) (w := w) (base := base) T
  have S := sc_is_fraction
  refine fnD T.F_is_fraction S ⟨[false], [false, false, false], false⟩ _ ?hl rfl rfl fun cdv Ar outer s H E hr => ⟨_, (qss_cons (qs_if (QW.qt (qw_or (qt_not (qt_val (qe_isT rfl T.z_isinstance bt_isinstance (qe_var 0) (pe_bltn (v := .ty "tuple") rfl T.z_tuple bt_tuple rfl)))) (qw_or1 (qt_cmp (op_neD hr.units) dNe (qe_callB call_len_seq dLen rfl T.z_len bt_len (qa_cons (qe_var 0) qa_nil)) qe_int (nomark _))))) (qss_one (qs_ret qe_bl)) qss_nil)
      (qss_cons (qs_asg (qe_var 0) (qg_tup rfl (qgs_cons (qg_name (i := 1) S.nd rfl (Or.inl rfl)) (qgs_cons (qg_name (i := 2) S.nd rfl (Or.inl rfl)) qgs_nil)) (takes_cons1 (takes_cons1 takes_nil))))
      (qss_cons (qs_if (QW.qt (qw_or (qt_not (qt_val (qe_call (G_is_whole) (hr.mono (by decide)) rfl T.m_is_whole T.k_is_whole T.b_is_whole (qk_s (qe_var 1) qk_nil)))) (qw_or1 (qt_not (qt_val (qe_call (G_is_whole) (hr.mono (by decide)) rfl T.m_is_whole T.k_is_whole T.b_is_whole (qk_s (qe_var 2) qk_nil))))))) (qss_one (qs_ret qe_bl)) qss_nil)
      (qss_one (qs_ret (qe_and (qe_cmp op_ge dB (qe_var 2) qe_int (nomark _)) (qe_one (qe_cmp (op_eqD hr.units) dEq (qe_call (G_greatest_common) (hr.mono (by decide)) rfl T.m_greatest_common T.k_greatest_common T.b_greatest_common (qk_s (qe_var 1) (qk_s (qe_var 2) qk_nil))) qe_int (nomark _))))))))), fun ds q h => ?_⟩
  case hl => intro ds q h; obtain ⟨r, rfl, _⟩ := h; rfl
  obtain ⟨r, rfl, q0⟩ := h
  refine ⟨.int r.num, rfl, rfl, ?_⟩
  refine ⟨.int r.den, rfl, rfl, ?_⟩
  have hd := den_posI r
  refine (ite2 (c := decide ((1 : Int) ≤ (r.den : Int)) = true) (fun _ => ?_) (fun c => absurd (decide_eq_true (by omega)) c))
  refine ⟨r.num, r.den, rfl, Int.le_of_lt hd, ?_⟩
  rw [gcd_low r]
  exact q0
set_option maxHeartbeats 4000000 in
theorem ok_is_price (T : Txt K mg A) : FnOk P w K mg base CX0 3 A.f_is_price A.d_is_price ["thing"] (spOf [false] false (sdIsPr)) := by
  have G_is_fraction := ok_is_fraction (P := P) (w := w) (base := base) T
  have S := sc_is_price
  refine fnD T.F_is_price S ⟨[false], [false], false⟩ _ ?hl rfl rfl fun cdv Ar outer s H E hr => ⟨_, (qss_one (qs_ret (qe_and (qe_call (G_is_fraction) (hr.mono (by decide)) rfl T.m_is_fraction T.k_is_fraction T.b_is_fraction (qk_s (qe_var 0) qk_nil)) (qe_one (qe_cmp op_ge dB (qe_ix ix_seq dIx (qe_var 0) qe_int (fun _ _ => rfl)) qe_int (nomark _)))))), fun ds q h => ?_⟩
  case hl => intro ds q h; obtain ⟨r, rfl, _⟩ := h; rfl
  obtain ⟨r, rfl, hr, q0⟩ := h
  refine ⟨r, rfl, ?_⟩
  show q (.bl (decide ((0 : Int) ≤ r.num))) []
  rw [decide_eq_true (num_nn hr)]; exact q0
set_option maxHeartbeats 4000000 in
theorem ok_look_at_prices (T : Txt K mg A) : FnOk P w K mg base CX0 4 A.f_look_at_prices A.d_look_at_prices ["tree", "thing"] (spOf [false, false] false (sdLookPr)) := by
  have G_is_price := ok_is_price (P := P) (w := w) (base := base) T
  have G_look_at_tree := ok_look_at_tree (P := P) (w := w) (base := base) T
  have S := sc_look_at_prices
  refine fnD T.F_look_at_prices S ⟨[false, false], [false, false, false, false, false], false⟩ _ ?hl rfl rfl fun cdv Ar outer s H E hr => ⟨_, (qss_cons (qs_expr (qe_call (G_look_at_tree) (hr.mono (by decide)) rfl T.m_look_at_tree T.k_look_at_tree T.b_look_at_tree (qk_s (qe_var 0) qk_nil)))
      (qss_cons (qs_if (qt_not (qt_val (qe_isT rfl T.z_isinstance bt_isinstance (qe_var 1) (pe_bltn (v := .ty "list") rfl T.z_list bt_list rfl)))) (qss_one qs_never) qss_nil)
      (qss_cons (qs_cut (qs_set (i := 2) S.nd rfl (Or.inl rfl) (qe_callB call_len_seq dLen rfl T.z_len bt_len (qa_cons (qe_ix ix_seq dIx (qe_var 0) qe_int (fun _ _ => rfl)) qa_nil))))
      (qss_cons (qs_for PassesOwn.never rfl (qi_enum rfl T.z_enumerate (qa_cons (qe_slice (qe_var 1) qo_none (qo_some (qe_var 2))) qa_nil)) (qg_tup rfl (qgs_cons (qg_name (i := 3) S.nd rfl (Or.inl rfl)) (qgs_cons (qg_name (i := 4) S.nd rfl (Or.inl rfl)) qgs_nil)) (takes_cons1 (takes_cons1 takes_nil))) (qss_one (qs_if (qt_not (qt_val (qe_call (G_is_price) (hr.mono (by decide)) rfl T.m_is_price T.k_is_price T.b_is_price (qk_s (qe_var 4) qk_nil)))) (qss_one qs_never) qss_nil)))
      (qss_one (qs_if (qt_cmp (op_neD hr.units) dNe (qe_callB call_len_seq dLen rfl T.z_len bt_len (qa_cons (qe_var 1) qa_nil)) (qe_var 2) (nomark _)) (qss_one qs_never) qss_nil)))))), fun ds q h => ?_⟩
  case hl => intro ds q h; obtain ⟨ps, rs, prs, rfl, _⟩ := h; rfl
  obtain ⟨ps, rs, prs, rfl, hT, hp, q0⟩ := h
  have hi := hT.hi
  have hl := hp.len
  refine ⟨ps, rs, rfl, hT, ?_⟩
  refine ⟨fun ρ => ∃ n : Int, n = ps.length ∧ ρ = [some (dPair ps rs), some (dQs prs), some (.int n), none, none], ⟨_, by rw [len_ints], rfl⟩, ?_⟩
  rintro ρ ⟨n, rfl, rfl⟩
  have ec : cutD (prs.map dQ) none (some ((ps.length : Nat) : Int)) = prs.map dQ := cutD_all' (by rw [List.length_map]; omega)
  refine ⟨fun i ρ => ∃ v1 v2, ρ = [some (dPair ps rs), some (dQs prs), some (.int (ps.length : Int)), v1, v2], ⟨_, _, rfl⟩, ?_, ?_⟩
  · rintro i d ρ hd ⟨v1, v2, rfl⟩
    have hd : (enuD (cutD (prs.map dQ) none (some ((ps.length : Nat) : Int))))[i]? = some d := hd
    rw [ec] at hd
    obtain ⟨d', h1, rfl⟩ := enuD_at hd
    obtain ⟨r, hr, rfl⟩ : ∃ r, prs[i]? = some r ∧ dQ r = d' := by rw [List.getElem?_map, Option.map_eq_some_iff] at h1; exact h1
    refine ⟨r, rfl, hp.pos r (List.mem_of_getElem? hr), ?_⟩
    exact ⟨_, _, rfl⟩
  · rintro ρ ⟨v1, v2, rfl⟩
    refine (ite2 (c := (!decide ((((prs.map dQ).length : Nat) : Int) = (ps.length : Int))) = true) (fun c => absurd c ?_) (fun _ => q0))
    rw [List.length_map, decide_eq_true (by omega)]; decide
set_option maxHeartbeats 4000000 in
theorem ok_spare_of (T : Txt K mg A) : FnOk P w K mg base CX0 8 A.f_spare_of A.d_spare_of ["tree", "ask", "weight", "prices"] (spOf [false, false, false, false] false (sdSpareOf)) := by
  have G_minus := ok_minus (P := P) (w := w) (base := base) T
  have G_sum_of := ok_sum_of (P := P) (w := w) (base := base) T
  have G_times := ok_times (P := P) (w := w) (base := base) T
  have G_under := ok_under (P := P) (w := w) (base := base) T
  have G_way_of := ok_way_of (P := P) (w := w) (base := base) T
  have S := sc_spare_of
  refine fnD T.F_spare_of S ⟨[false, false, false, false], [false, false, false, false, false, false], false⟩ _ ?hl rfl rfl fun cdv Ar outer s H E hr => ⟨_, (qss_cons (qs_set (i := 4) S.nd rfl (Or.inl rfl) (qe_call (G_sum_of) (hr.mono (by decide)) rfl T.m_sum_of T.k_sum_of T.b_sum_of (qk_s (qe_comp ["tie"] [3] ⟨rfl, rfl, by decide +kernel, rfl, rfl, (by first | exact trivial | exact ⟨rfl, trivial⟩ | exact ⟨rfl, rfl, trivial⟩ | exact ⟨rfl, rfl, rfl, trivial⟩ | exact ⟨rfl, rfl, rfl, rfl, trivial⟩), rfl⟩ rfl (qi_list (QF.qe (qf_call (G_way_of) (hr.mono (by decide)) rfl T.m_way_of T.k_way_of T.b_way_of (qk_s (qe_var 0) (qk_s (qe_var 1) qk_nil))))) (cg_name 0) (fun _ _ _ _ => ⟨(pg_name (i := 0) (show List.Nodup (["tie", "prices"] : List Str) by decide +kernel) rfl (Or.inl rfl)), qif_nil, (qe_ix ix_seq dIx (qe_var 1) (qe_op op_sub dI (qe_var 0) qe_int) (fun _ _ => rfl))⟩)) qk_nil)))
      (qss_cons (qs_set (i := 5) S.nd rfl (Or.inl rfl) (qe_call (G_minus) (hr.mono (by decide)) rfl T.m_minus T.k_minus T.b_minus (qk_s (qe_tup (qa_cons (qe_ix ix_seq dIx (qe_var 1) qe_int (fun _ _ => rfl)) (qa_cons qe_int qa_nil))) (qk_s (qe_call (G_times) (hr.mono (by decide)) rfl T.m_times T.k_times T.b_times (qk_s (qe_tup (qa_cons (qe_var 2) (qa_cons qe_int qa_nil))) (qk_s (qe_var 4) qk_nil))) qk_nil))))
      (qss_one (qs_ret (qe_ifExp (qt_val (qe_call (G_under) (hr.mono (by decide)) rfl T.m_under T.k_under T.b_under (qk_s (qe_tup (qa_cons qe_int (qa_cons qe_int qa_nil))) (qk_s (qe_var 5) qk_nil)))) (qe_var 5) (qe_tup (qa_cons qe_int (qa_cons qe_int qa_nil)))))))), fun ds q h => ?_⟩
  case hl => intro ds q h; obtain ⟨ps, rs, a, w, prs, rfl, _⟩ := h; rfl
  obtain ⟨ps, rs, a, w, prs, rfl, hT, ha, hw, hp, q0⟩ := h
  have hwl := way_len46 hT ha.ends
  have hpl := hp.len
  have hpb := paid_bt hT ha.ends hp
  have hpa := paid_all hT ha.ends hp
  refine ⟨ps, rs, a, rfl, hT, ha.ends, ?_⟩
  refine ⟨by rw [len_ints]; exact Nat.le_trans hwl (by decide), ?_⟩
  refine compD_map (priceF prs) ?_ ?_
  · intro d hd k hk
    obtain ⟨t, ht, rfl⟩ := mem_ints hd
    have hm := way_mem hT ha.ends ht
    refine atD_of (atI_dQ (by omega) (by omega)) ?_
    exact hk
  · rw [priceF_map]
    refine ⟨_, prodD prs, rfl, by rw [List.length_map]; exact Nat.le_trans hwl (by decide), fun r hr => ⟨Nat.lt_of_lt_of_le (hp.bt r (hpa r hr)).num (two_le (by decide)), prodD_dvN (hpa r hr)⟩, prodD_pos prs, ?_, ?_⟩
    · exact Nat.lt_of_le_of_lt (prod_bt hp.bt) (Nat.pow_lt_pow_right (by decide) (by have := hT.hi; omega))
    have e1 : D.tup [.int w, .int 1] = dQ (w : Rat) := dQ_int w
    have e2 : D.tup [.int a.worth, .int 1] = dQ (a.worth : Rat) := dQ_int a.worth
    have bw : Bt (w : Rat) 20 := intBt 1000000 hw (by decide) (by decide)
    have ba : Bt (a.worth : Rat) 40 := intBt 1000000000000 (by have := ha.w0; have := ha.w1; omega) (by decide) (by decide)
    have bt : Bt ((w : Rat) * paidQ ps a prs) 3020 := (bw.mul hpb).mono (by decide)
    have bm : Bt ((a.worth : Rat) - (w : Rat) * paidQ ps a prs) 3061 := (ba.sub bt).mono (by decide)
    refine ⟨(w : Rat), paidQ ps a prs, by rw [← e1]; rfl, bw.mono (by decide), hpb.mono (by decide), ?_⟩
    refine ⟨(a.worth : Rat), (w : Rat) * paidQ ps a prs, by rw [← e2], ba.mono (by decide), bt.mono (by decide), ?_⟩
    refine ⟨0, (a.worth : Rat) - (w : Rat) * paidQ ps a prs, rfl, bt0 (by decide), bm.mono (by decide), ?_⟩
    have eq : spareQ ps a w prs = posQ ((a.worth : Rat) - (w : Rat) * paidQ ps a prs) := rfl
    rw [eq] at q0
    unfold posQ at q0
    refine (ite2 (c := decide ((0 : Rat) < (a.worth : Rat) - (w : Rat) * paidQ ps a prs) = true) (fun c => ?_) (fun c => ?_))
    · rw [if_pos (of_decide_eq_true c)] at q0; exact q0
    · rw [if_neg (fun z => c (decide_eq_true z))] at q0; exact q0
set_option maxHeartbeats 4000000 in
theorem ok_spares (T : Txt K mg A) : FnOk P w K mg base CX0 9 A.f_spares A.d_spares ["tree", "asks", "prices"] (spOf [false, false, false] true (sdSpares)) := by
  have G_look_at_asks := ok_look_at_asks (P := P) (w := w) (base := base) T
  have G_look_at_prices := ok_look_at_prices (P := P) (w := w) (base := base) T
  have G_spare_of := ok_spare_of (P := P) (w := w) (base := base) T
  have S := sc_spares
  refine fnD T.F_spares S ⟨[false, false, false], [false, false, false], true⟩ _ ?hl rfl rfl fun cdv Ar outer s H E hr => ⟨_, (qss_cons (qs_expr (qe_call (G_look_at_asks) (hr.mono (by decide)) rfl T.m_look_at_asks T.k_look_at_asks T.b_look_at_asks (qk_s (qe_var 0) (qk_s (qe_var 1) qk_nil))))
      (qss_cons (qs_expr (qe_call (G_look_at_prices) (hr.mono (by decide)) rfl T.m_look_at_prices T.k_look_at_prices T.b_look_at_prices (qk_s (qe_var 0) (qk_s (qe_var 2) qk_nil))))
      (qss_one (qs_retM (QF.qm (qf_comp ["ask"] [0, 2] ⟨rfl, rfl, by decide +kernel, rfl, rfl, (by first | exact trivial | exact ⟨rfl, trivial⟩ | exact ⟨rfl, rfl, trivial⟩ | exact ⟨rfl, rfl, rfl, trivial⟩ | exact ⟨rfl, rfl, rfl, rfl, trivial⟩), rfl⟩ rfl (qi_list (qe_var 1)) (cg_name 0) (fun _ _ _ _ => ⟨(pg_name (i := 0) (show List.Nodup (["ask", "tree", "prices"] : List Str) by decide +kernel) rfl (Or.inl rfl)), qif_nil, (qe_call (G_spare_of) (hr.mono (by decide)) rfl T.m_spare_of T.k_spare_of T.b_spare_of (qk_s (qe_var 1) (qk_s (qe_var 0) (qk_s (qe_ix ix_seq dIx (qe_var 0) qe_int (fun _ _ => rfl)) (qk_s (qe_var 2) qk_nil)))))⟩))))))), fun ds q h => ?_⟩
  case hl => intro ds q h; obtain ⟨ps, rs, as, prs, rfl, _⟩ := h; rfl
  obtain ⟨ps, rs, as, prs, rfl, hT, ha, hp, q0⟩ := h
  have hal := ha.len
  refine ⟨ps, rs, as, rfl, hT, ha, ?_⟩
  refine ⟨ps, rs, prs, rfl, hT, hp, ?_⟩
  refine ⟨by rw [List.length_map]; omega, ?_⟩
  refine compD_map (spareF ps prs) ?_ ?_
  · intro d hd k hk
    obtain ⟨a, hm, rfl⟩ := List.mem_map.mp hd
    have hok := ha.ok a hm
    refine ⟨ps, rs, a, a.size, prs, rfl, hT, hok, by have := hok.s0; have := hok.s1; omega, hp, ?_⟩
    exact hk
  · rw [spareF_map]
    refine ⟨imms_dQs _, ?_⟩
    exact q0
set_option maxHeartbeats 4000000 in
theorem ok_bound_of (T : Txt K mg A) : FnOk P w K mg base CX0 10 A.f_bound_of A.d_bound_of ["tree", "asks", "prices"] (spOf [false, false, false] false (sdBound)) := by
  have G_spares := ok_spares (P := P) (w := w) (base := base) T
  have G_sum_of := ok_sum_of (P := P) (w := w) (base := base) T
  have G_times := ok_times (P := P) (w := w) (base := base) T
  have S := sc_bound_of
  refine fnD T.F_bound_of S ⟨[false, false, false], [false, false, false, false, false], false⟩ _ ?hl rfl rfl fun cdv Ar outer s H E hr => ⟨_, (qss_cons (qs_set (i := 3) S.nd rfl (Or.inl rfl) (QF.qe (qf_call (G_spares) (hr.mono (by decide)) rfl T.m_spares T.k_spares T.b_spares (qk_s (qe_var 0) (qk_s (qe_var 1) (qk_s (qe_var 2) qk_nil))))))
      (qss_cons (qs_setComp (i := 4) ["room", "price"] [] ⟨rfl, rfl, by decide +kernel, rfl, rfl, (by first | exact trivial | exact ⟨rfl, trivial⟩ | exact ⟨rfl, rfl, trivial⟩ | exact ⟨rfl, rfl, rfl, trivial⟩ | exact ⟨rfl, rfl, rfl, rfl, trivial⟩), rfl⟩ rfl S.nd rfl (Or.inl rfl) (qi_zip rfl T.z_zip (qa_cons (qe_ix ix_seq dIx (qe_var 0) qe_int (fun _ _ => rfl)) (qa_cons (qe_var 2) qa_nil))) (cg_tup (cgs_cons (cg_name 0) (cgs_cons (cg_name 1) cgs_nil)) (takes_cons1 (takes_cons1 takes_nil))) (fun _ _ _ _ => ⟨(pg_tup rfl (pgs_cons (pg_name (i := 0) (show List.Nodup (["room", "price"] : List Str) by decide +kernel) rfl (Or.inl rfl)) (pgs_cons (pg_name (i := 1) (show List.Nodup (["room", "price"] : List Str) by decide +kernel) rfl (Or.inl rfl)) pgs_nil))), qif_nil, (qe_call (G_times) (hr.mono (by decide)) rfl T.m_times T.k_times T.b_times (qk_s (qe_tup (qa_cons (qe_var 0) (qa_cons qe_int qa_nil))) (qk_s (qe_var 1) qk_nil)))⟩))
      (qss_one (qs_ret (qe_call (G_sum_of) (hr.mono (by decide)) rfl T.m_sum_of T.k_sum_of T.b_sum_of (qk_s (qe_mk op_cat dCat (qe_var 4) (qe_var 3)) qk_nil)))))), fun ds q h => ?_⟩
  case hl => intro ds q h; obtain ⟨ps, rs, as, prs, rfl, _⟩ := h; rfl
  obtain ⟨ps, rs, as, prs, rfl, hT, ha, hp, q0⟩ := h
  have hal := ha.len
  have hpl := hp.len
  have hi := hT.hi
  have hlr := hT.len
  refine ⟨ps, rs, as, prs, rfl, hT, ha, hp, ?_⟩
  have hzl : (zipD (rs.map D.int) (prs.map dQ)).length = ps.length := by unfold zipD; rw [List.length_zipWith, List.length_map, List.length_map]; omega
  refine ⟨by rw [hzl]; omega, ?_⟩
  refine compD_map boundF ?_ ?_
  · intro d hd k hk
    obtain ⟨j, hj⟩ := List.getElem?_of_mem hd
    obtain ⟨x, y, e1, e2, rfl⟩ := zipD_at hj
    obtain ⟨z, hz, rfl⟩ := map_at e1
    obtain ⟨p, hpm, rfl⟩ : ∃ r, prs[j]? = some r ∧ dQ r = y := by rw [List.getElem?_map, Option.map_eq_some_iff] at e2; exact e2
    have bz := room_bt hT (List.mem_of_getElem? hz)
    have bp := hp.bt p (List.mem_of_getElem? hpm)
    refine ⟨(z : Rat), p, by rw [← dQ_int], bz.mono (by decide), bp.mono (by decide), ?_⟩
    rw [boundF_dQ] at hk
    exact hk
  · rw [boundF_map]
    have hpal := paidR_len rs prs
    have hpr := paidR_all hT hp
    have emap : (paidRooms rs prs).map dQ ++ (as.map fun a => spareQ ps a a.size prs).map dQ = (paidRooms rs prs ++ as.map fun a => spareQ ps a a.size prs).map dQ := by rw [List.map_append]
    refine ⟨by rw [List.length_map, List.length_map, List.length_map]; omega, ?_⟩
    refine ⟨paidRooms rs prs ++ as.map fun a => spareQ ps a a.size prs, prodD prs, by rw [emap]; rfl, by rw [List.length_append, List.length_map]; omega, fun r hr => ?_, prodD_pos prs, Nat.lt_of_le_of_lt (prod_bt hp.bt) (Nat.pow_lt_pow_right (by decide) (by omega)), ?_⟩
    · rcases List.mem_append.mp hr with hr | hr
      · exact ⟨Nat.lt_of_lt_of_le (hpr r hr).1.num (two_le (by decide)), (hpr r hr).2⟩
      · obtain ⟨a, hm, rfl⟩ := List.mem_map.mp hr
        exact ⟨Nat.lt_of_lt_of_le (spare_bt hT (ha.ok a hm) hp).num (two_le (by decide)), spare_den hT (ha.ok a hm).ends hpl⟩
    · rw [List.sum_append]
      exact q0
end
end K27


set_option Elab.async false
set_option linter.all false
set_option maxRecDepth 100000
set_option maxHeartbeats 4000000
set_option exponentiation.threshold 9000
namespace K27
open PySem L2
section
variable {P : Program} {w : World} {K : PySem.W.Frag} {mg : Str → Option Value} {base : Heap} {A : Adr}
set_option maxHeartbeats 4000000 in
theorem ok_l_cell (T : Txt K mg A) : FnOk P w K mg base CX0 1 A.f_l_cell A.d_l_cell ["_law_script", "_law_k"] (spOf [false, false] false (sdCell K)) := by
  have S := sc_l_cell
  refine fnD T.F_l_cell S ⟨[false, false], [false, false], false⟩ _ ?hl rfl rfl fun cdv Ar outer s H E hr => ⟨_, (qss_cons (qs_if (qt_cmp op_lt dB (qe_var 1) (qe_callB call_len_seq dLen rfl T.z_len bt_len (qa_cons (qe_var 0) qa_nil)) (nomark _)) (qss_one (qs_ret (qe_ix ix_seq dIx (qe_var 0) (qe_var 1) (fun _ _ => rfl)))) qss_nil)
      (qss_one (qs_ret qe_int))), fun ds q h => ?_⟩
  case hl => intro ds q h; obtain ⟨φ, ns, k, rfl, _⟩ := h; rfl
  obtain ⟨φ, ns, k, rfl, hφ, h0, q0⟩ := h
  refine ⟨hφ, ?_⟩
  refine (ite2 (c := decide (k < (ns.length : Int)) = true) (fun c => ?_) (fun c => ?_))
  · have c' : k < ns.length := by simpa using c
    refine ⟨hφ, ?_⟩
    show (match atI ns k with | some n => q (.int n) [] | none => False)
    rw [atI_ns h0 c']; exact q0
  · have c' : ns.length ≤ k.toNat := by simp at c; omega
    have e : cellZ ns k = 0 := by unfold cellZ; rw [List.getD_eq_getElem?_getD, List.getElem?_eq_none c']; rfl
    rw [e] at q0; exact q0
set_option maxHeartbeats 4000000 in
theorem ok_l_source (T : Txt K mg A) : FnOk P w K mg base CX0 1 A.f_l_source A.d_l_source ["_law_cell_here", "_law_k"] (spOf [false, false] true (sdSource)) := by
  have S := sc_l_source
  refine fnD T.F_l_source S ⟨[false, false], [false, false, false, false], true⟩ _ ?hl rfl rfl fun cdv Ar outer s H E hr => ⟨_, (qss_cons (qs_set (i := 2) S.nd rfl (Or.inl rfl) (qe_callB call_abs dAbs rfl T.z_abs bt_abs (qa_cons (qe_var 0) qa_nil)))
      (qss_cons (qs_set (i := 3) S.nd rfl (Or.inl rfl) (qe_op op_mod dIC (qe_op op_mul dIC (qe_op op_add dI (qe_op op_add dI (qe_op op_mod dIC (qe_var 2) qe_int) (qe_op op_mul dIC qe_int (qe_var 1))) qe_int) qe_int) qe_int))
      (qss_cons (qs_if (qt_cmp op_lt dB (qe_var 2) (qe_op op_pow dIC qe_int qe_int) (nomark _)) (qss_one (qs_set (i := 2) S.nd rfl (Or.inl rfl) qe_int)) qss_nil)
      (qss_one (qs_retM (QF.qm (qf_lst (qa_cons (qe_var 2) (qa_cons (qe_var 3) qa_nil))))))))), fun ds q h => ?_⟩
  case hl => intro ds q h; obtain ⟨c, k, rfl, _⟩ := h; rfl
  obtain ⟨c, k, rfl, h0, h1, q0⟩ := h
  obtain ⟨z, hz⟩ : ∃ z : Int, z = (if c < 0 then -c else c) := ⟨_, rfl⟩
  have hz0 : 0 ≤ z := by rw [hz]; split <;> omega
  refine ⟨(show (0 : Int) < 1000003 by decide), Or.inl ⟨by decide, by decide⟩, Or.inr ⟨by decide, by decide⟩, (show (0 : Int) < 2147483647 by decide), ?_⟩
  refine ⟨⟨by decide, by decide, by decide⟩, ?_⟩
  refine (ite2 (c := decide ((if c < 0 then -c else c) < 10 ^ 18) = true) (fun c => ?_) (fun c => ?_))
  · exact ⟨rfl, q0 _ _ (Int.le_refl 0)⟩
  · exact ⟨rfl, q0 _ _ (by rw [← hz]; exact hz0)⟩
set_option maxHeartbeats 4000000 in
theorem ok_l_draw (T : Txt K mg A) : FnOk P w K mg base CX0 1 A.f_l_draw A.d_l_draw ["_law_source_here", "_law_many"] (spOf [true, false] false (sdTake)) := by
  have S := sc_l_draw
  refine fnD T.F_l_draw S ⟨[true, false], [true, false, false, false], false⟩ _ ?hl rfl rfl fun cdv Ar outer s H E hr => ⟨_, (qss_cons (qs_if (QT.bor [0] (qt_cmp op_gt dB (qe_ix ix_seq dIx (qe_var 0) qe_int (fun _ _ => rfl)) qe_int (nomark _))) (qss_cons (qs_set (i := 2) S.nd rfl (Or.inl rfl) (QE.bor [0] (qe_op op_mod dIC (qe_ix ix_seq dIx (qe_var 0) qe_int (fun _ _ => rfl)) (qe_var 1))))
      (qss_cons (qs_setI (i := 0) rfl (QF.bor [0] (QE.qf (qe_op op_fdivB dIC (qe_ix ix_seq dIx (qe_var 0) qe_int (fun _ _ => rfl)) (qe_var 1)))) qe_int)
      (qss_one (qs_ret (qe_var 2))))) qss_nil)
      (qss_cons (qs_setI (i := 0) rfl (QF.bor [0] (QE.qf (qe_op op_mod dIC (qe_op op_add dI (qe_op op_mul dIC (qe_ix ix_seq dIx (qe_var 0) qe_int (fun _ _ => rfl)) qe_int) qe_int) qe_int))) qe_int)
      (qss_cons (qs_set (i := 3) S.nd rfl (Or.inl rfl) (QE.bor [0] (qe_op op_fdiv dIC (qe_op op_mod dIC (qe_op op_mul dIC (qe_ix ix_seq dIx (qe_var 0) qe_int (fun _ _ => rfl)) (qe_ix ix_seq dIx (qe_var 0) qe_int (fun _ _ => rfl))) qe_int) qe_int)))
      (qss_cons (qs_if (qt_cmp op_gt dB (qe_var 1) (qe_op op_pow dIC qe_int qe_int) (nomark _)) (qss_cons (qs_setI (i := 0) rfl (QF.bor [0] (QE.qf (qe_op op_mod dIC (qe_op op_add dI (qe_op op_mul dIC (qe_ix ix_seq dIx (qe_var 0) qe_int (fun _ _ => rfl)) qe_int) qe_int) qe_int))) qe_int)
      (qss_one (qs_set (i := 3) S.nd rfl (Or.inl rfl) (QE.bor [0] (qe_op op_add dI (qe_op op_mul dIC (qe_var 3) qe_int) (qe_op op_fdiv dIC (qe_op op_mod dIC (qe_op op_mul dIC (qe_ix ix_seq dIx (qe_var 0) qe_int (fun _ _ => rfl)) (qe_ix ix_seq dIx (qe_var 0) qe_int (fun _ _ => rfl))) qe_int) qe_int)))))) qss_nil)
      (qss_one (qs_ret (qe_op op_mod dIC (qe_var 3) (qe_var 1)))))))), fun ds q h => ?_⟩
  case hl => intro ds q h; obtain ⟨c, m, many, rfl, _⟩ := h; rfl
  obtain ⟨c, m, many, rfl, h0, hm, hs, q0⟩ := h
  refine (ite2 (c := decide (0 < c) = true) (fun c1 => ?_) (fun c1 => ?_))
  · refine ⟨hm, rfl, ?_⟩
    refine ⟨⟨hm, hs⟩, rfl, ?_⟩
    exact q0 _ (c / many) m (Int.emod_nonneg _ (Int.ne_of_gt hm)) (Int.emod_lt_of_pos _ hm) (Int.ediv_nonneg h0 (Int.le_of_lt hm))
  · refine ⟨Or.inr ⟨by decide, by decide⟩, (show (0 : Int) < 2147483647 by decide), rfl, ?_⟩
    obtain ⟨m1, hm1⟩ : ∃ m1, m1 = (m * 48271 + 11) % 2147483647 := ⟨_, rfl⟩
    have a1 := Int.emod_nonneg (m * 48271 + 11) (show (2147483647 : Int) ≠ 0 by decide)
    have a2 := Int.emod_lt_of_pos (m * 48271 + 11) (show (0 : Int) < 2147483647 by decide)
    rw [← hm1] at a1 a2
    rw [hm1] at a1 a2
    have cm : ∀ x : Int, CMul ((m * 48271 + 11) % 2147483647) x := fun x => Or.inl ⟨by omega, by omega⟩
    refine ⟨cm _, (show (0 : Int) < 2147483629 by decide), ⟨by decide, by decide⟩, rfl, ?_⟩
    refine ⟨⟨by decide, by decide, by decide⟩, ?_⟩
    refine (ite2 (c := decide ((10 : Int) ^ Int.toNat 7 < many) = true) (fun c2 => ?_) (fun c2 => ?_))
    · refine ⟨cm _, (show (0 : Int) < 2147483647 by decide), rfl, ?_⟩
      have b1 := Int.emod_nonneg ((m * 48271 + 11) % 2147483647 * 39373 + 17) (show (2147483647 : Int) ≠ 0 by decide)
      have b2 := Int.emod_lt_of_pos ((m * 48271 + 11) % 2147483647 * 39373 + 17) (show (0 : Int) < 2147483647 by decide)
      refine ⟨Or.inr ⟨by decide, by decide⟩, ⟨Or.inl ⟨by omega, by omega⟩, (show (0 : Int) < 2147483629 by decide), ⟨by decide, by decide⟩, rfl, ?_⟩⟩
      refine ⟨hm, ?_⟩
      exact q0 _ c _ (Int.emod_nonneg _ (Int.ne_of_gt hm)) (Int.emod_lt_of_pos _ hm) h0
    · refine ⟨hm, ?_⟩
      exact q0 _ c _ (Int.emod_nonneg _ (Int.ne_of_gt hm)) (Int.emod_lt_of_pos _ hm) h0
set_option maxHeartbeats 4000000 in
theorem ok_l_tree (T : Txt K mg A) : FnOk P w K mg base CX0 2 A.f_l_tree A.d_l_tree ["_law_source_here", "_law_most"] (spOf [true, false] true (sdTree2)) := by
  have G_l_draw := ok_l_draw (P := P) (w := w) (base := base) T
  have S := sc_l_tree
  refine fnD T.F_l_tree S ⟨[true, false], [true, false, false, false, true, false, false], true⟩ _ ?hl rfl rfl fun cdv Ar outer s H E hr => ⟨_, (qss_cons (qs_set (i := 2) S.nd rfl (Or.inl rfl) (qe_op op_add dI qe_int (qe_call (G_l_draw) (hr.mono (by decide)) rfl T.m_l_draw T.k_l_draw T.b_l_draw (qk_m 0 (qk_s (qe_var 1) qk_nil)))))
      (qss_cons (qs_set (i := 3) S.nd rfl (Or.inl rfl) (qe_call (G_l_draw) (hr.mono (by decide)) rfl T.m_l_draw T.k_l_draw T.b_l_draw (qk_m 0 (qk_s qe_int qk_nil))))
      (qss_cons (qs_setO (i := 4) S.nd rfl (Or.inl rfl) (qf_lst qa_nil))
      (qss_cons (qs_for PassesOwn.never rfl (qi_range1 rfl T.z_range (qa_cons (qe_var 2) qa_nil)) (qg_name (i := 5) S.nd rfl (Or.inl rfl)) (qss_one (qs_append (i := 4) rfl (QE.qf (qe_ix ix_seq dIx (qe_lst (qa_cons (qe_call (G_l_draw) (hr.mono (by decide)) rfl T.m_l_draw T.k_l_draw T.b_l_draw (qk_m 0 (qk_s (qe_op op_add dI (qe_var 5) qe_int) qk_nil))) (qa_cons (qe_var 5) (qa_cons qe_int (qa_cons (qe_op op_fdiv dIC (qe_var 5) qe_int) qa_nil))))) (qe_var 3) (fun _ _ => rfl))))))
      (qss_cons (qs_set (i := 6) S.nd rfl (Or.inr rfl) (qe_ix ix_seq dIx (qe_lst (qa_cons qe_int (qa_cons qe_int (qa_cons qe_int (qa_cons (qe_op op_pow dIC qe_int qe_int) qa_nil))))) (qe_call (G_l_draw) (hr.mono (by decide)) rfl T.m_l_draw T.k_l_draw T.b_l_draw (qk_m 0 (qk_s qe_int qk_nil))) (fun _ _ => rfl)))
      (qss_one (qs_retM (qm_tup (qms_cons (qm_move 4) (qms_cons (QF.qm (qf_compM ["_law_k"] [0, 6] 0 1 ⟨rfl, rfl, by decide +kernel, rfl, rfl, (by first | exact trivial | exact ⟨rfl, trivial⟩ | exact ⟨rfl, rfl, trivial⟩ | exact ⟨rfl, rfl, rfl, trivial⟩ | exact ⟨rfl, rfl, rfl, rfl, trivial⟩), rfl⟩ rfl (qi_range1 rfl T.z_range (qa_cons (qe_var 2) qa_nil)) (cgm_name 0) (fun _ _ _ _ => ⟨(pg_name (i := 0) (show List.Nodup (["_law_k", "_law_source_here", "_law_wide"] : List Str) by decide +kernel) rfl (Or.inl rfl)), qif_nil, (qe_op op_add dI qe_int (qe_call (G_l_draw) (hr.mono (by decide)) rfl T.m_l_draw T.k_l_draw T.b_l_draw (qk_m 1 (qk_s (qe_var 2) qk_nil))))⟩))) qms_nil)))))))))), fun ds q h => ?_⟩
  case hl => intro ds q h; obtain ⟨c, m, most, rfl, _⟩ := h; rfl
  obtain ⟨c, m, most, rfl, h0, hm0, hm1, q0⟩ := h
  refine ⟨c, m, most, rfl, h0, hm0, sm_of (n := 23) (by omega) (by decide +kernel), fun n c1 m1 n0 n1 h1 => ?_⟩
  refine ⟨c1, m1, 4, rfl, h1, by decide, sm_of (n := 4) (by decide) (by decide +kernel), fun w0 c2 m2 w00 w01 h2 => ?_⟩
  refine ⟨rfl, ?_⟩
  refine ⟨⟨by omega, by omega⟩, ?_⟩
  refine ⟨fun i ρ => ∃ (ps : List Int) (c m : Int) (v : Option D), ρ = [some (dInts [c, m]), some (.int most), some (.int (1 + n)), some (.int w0), some (dInts ps), v, none] ∧ 0 ≤ c ∧ ps.length = i ∧ (∀ (j : Nat) (x : Int), ps[j]? = some x → 0 ≤ x ∧ x ≤ j), ⟨[], c2, m2, _, rfl, h2, rfl, (fun j x h => by simp at h)⟩, ?_, ?_⟩
  · rintro i d ρ hd ⟨ps, c3, m3, v, rfl, h3, lp, hpar⟩
    obtain ⟨hi, rfl⟩ := rngD_at hd
    have hi2 : i < 23 := by omega
    refine ⟨c3, m3, 0 + (i : Int) + 1, rfl, h3, by omega, sm_of (n := 23) (by omega) (by decide +kernel), fun r c4 m4 r0 r1 h4 => ?_⟩
    refine ⟨⟨(show (0 : Int) < 2 by decide), (show (2 : Int) < 1073741824 by decide)⟩, ?_⟩
    obtain ⟨y, hy, y1, y2⟩ : ∃ y : Int, atI [D.int r, D.int (0 + (i : Int)), D.int 0, D.int ((0 + (i : Int)) / 2)] w0 = some (.int y) ∧ 0 ≤ y ∧ y ≤ i := by
      have : w0 = 0 ∨ w0 = 1 ∨ w0 = 2 ∨ w0 = 3 := by omega
      rcases this with rfl | rfl | rfl | rfl
      all_goals exact ⟨_, rfl, by omega, by omega⟩
    refine atD_of hy ?_
    refine ⟨rfl, by rw [len_ints]; omega, ?_⟩
    refine ⟨ps ++ [y], c4, m4, some (.int (0 + (i : Int))), ?_, h4, by rw [List.length_append, lp]; rfl, snoc_at hpar ⟨y1, by omega⟩⟩
    rw [← ints_snoc]; rfl
  · rintro ρ ⟨ps, c3, m3, v, rfl, h3, lp, hpar⟩
    rw [rngD_len] at lp
    refine ⟨⟨by decide, by decide, by decide⟩, ?_⟩
    refine ⟨c3, m3, 4, rfl, h3, by decide, sm_of (n := 4) (by decide) (by decide +kernel), fun r c4 m4 r0 r1 h4 => ?_⟩
    obtain ⟨z, hz, z1, z2⟩ : ∃ z : Int, atI [D.int 1, D.int 3, D.int 60, D.int (10 ^ Int.toNat 6)] r = some (.int z) ∧ 1 ≤ z ∧ z ≤ 1000000 := by
      have : r = 0 ∨ r = 1 ∨ r = 2 ∨ r = 3 := by omega
      rcases this with rfl | rfl | rfl | rfl
      all_goals exact ⟨_, rfl, by decide, by decide⟩
    refine atD_of hz ?_
    refine ⟨⟨by omega, by omega⟩, ?_⟩
    refine ⟨by rw [rngD_len]; omega, ?_⟩
    refine ⟨fun i es d => ∃ (rs : List Int) (c m : Int), es = rs.map D.int ∧ d = dInts [c, m] ∧ 0 ≤ c ∧ rs.length = i ∧ (∀ (j : Nat) (x : Int), rs[j]? = some x → 1 ≤ x ∧ x ≤ 1000000), ⟨[], c4, m4, rfl, rfl, h4, rfl, (fun j x h => by simp at h)⟩, ?_, ?_⟩
    · rintro j x es d hx ⟨rs, c5, m5, rfl, rfl, h5, lr, hroom⟩
      refine ⟨c5, m5, z, rfl, h5, by omega, sm_of (n := 1000000) (by omega) (by decide +kernel), fun u c6 m6 u0 u1 h6 => ?_⟩
      exact ⟨rs ++ [1 + u], c6, m6, (List.map_append (l₂ := [1 + u])).symm, rfl, h6, by rw [List.length_append, lr]; rfl, snoc_at hroom ⟨by omega, by omega⟩⟩
    · rintro es d ⟨rs, c5, m5, rfl, rfl, h5, lr, hroom⟩
      rw [rngD_len] at lr
      refine ⟨imms_ints _, ?_⟩
      exact q0 ps rs c5 m5 ⟨by omega, by omega, by omega, hpar, hroom⟩ (by omega) h5
set_option maxHeartbeats 4000000 in
theorem ok_l_lowest (T : Txt K mg A) : FnOk P w K mg base CX0 1 A.f_l_lowest A.d_l_lowest ["_law_top", "_law_bottom"] (spOf [false, false] false (sdLowest)) := by
  have S := sc_l_lowest
  refine fnD T.F_l_lowest S ⟨[false, false], [false, false, false, false], false⟩ _ ?hl rfl rfl fun cdv Ar outer s H E hr => ⟨_, (qss_cons (qs_set (i := 2) S.nd rfl (Or.inl rfl) (qe_var 1))
      (qss_cons (qs_set (i := 3) S.nd rfl (Or.inl rfl) (qe_callB call_abs dAbs rfl T.z_abs bt_abs (qa_cons (qe_var 0) qa_nil)))
      (qss_cons (qs_while PassesOwn.never (qt_cmp op_gt dB (qe_var 3) qe_int (nomark _)) (qss_one (qs_par (i := 2) (j := 3) rfl S.nd rfl rfl (by decide) rfl rfl (qe_var 3) (qe_op op_mod dIC (qe_var 2) (qe_var 3)) rfl)))
      (qss_one (qs_ret (qe_tup (qa_cons (qe_op op_fdivB dIC (qe_var 0) (qe_var 2)) (qa_cons (qe_op op_fdivB dIC (qe_var 1) (qe_var 2)) qa_nil)))))))), fun ds q h => ?_⟩
  case hl => intro ds q h; obtain ⟨t, b, rfl, _⟩ := h; rfl
  obtain ⟨t, b, rfl, hb, hs, q0⟩ := h
  refine ⟨fun k ρ => ∃ n' b' : Int, ρ = [some (.int t), some (.int b), some (.int n'), some (.int b')] ∧ 0 ≤ b' ∧ b'.toNat = k ∧ gcdP n' b' = gcdP t b, ⟨_, b, _, rfl, by split <;> omega, rfl, gcd_swap hb⟩, ?_⟩
  rintro k ρ ⟨n', b', rfl, hb', hk, hg⟩
  refine (ite2 (c := decide (0 < b') = true) (fun c => ?_) (fun c => ?_))
  · have hp : 0 < b' := by simpa using c
    refine ⟨hp, ?_⟩
    have := Int.emod_lt_of_pos n' hp
    have := Int.emod_nonneg n' (show b' ≠ 0 by omega)
    exact ⟨_, by omega, b', n' % b', rfl, by omega, rfl, by rw [gcdP_step hp]; exact hg⟩
  · have c' : ¬ 0 < b' := by simpa using c
    have c2 : b' = 0 := by omega
    subst c2
    have e : n' = gcdP t b := by rw [← hg]; unfold gcdP; rw [if_pos rfl]
    subst e
    have g := gcdP_pos (n := t) hb
    have gl := gcdP_le (n := t) hb
    have gs : Sm (gcdP t b) := by show (gcdP t b).natAbs < _; exact Nat.lt_of_le_of_lt (by omega) hs
    refine ⟨⟨g, gs⟩, ⟨g, gs⟩, ?_⟩
    rw [quo_num hb, quo_den hb]
    exact q0
set_option maxHeartbeats 4000000 in
theorem ok_l_way (T : Txt K mg A) : FnOk P w K mg base CX0 1 A.f_l_way A.d_l_way ["_law_parents", "_law_one", "_law_other"] (spOf [false, false, false] true (sdWay3)) := by
  have S := sc_l_way
  refine fnD T.F_l_way S ⟨[false, false, false], [false, false, false, true], true⟩ _ ?hl rfl rfl fun cdv Ar outer s H E hr => ⟨_, (qss_cons (qs_setO (i := 3) S.nd rfl (Or.inl rfl) (qf_lst qa_nil))
      (qss_cons (qs_while PassesOwn.never (qt_cmp (op_neD hr.units) dNe (qe_var 1) (qe_var 2) (nomark _)) (qss_cons (qs_append (i := 3) rfl (QE.qf (qe_callB (call_max2 rfl) dMax rfl T.z_max bt_max (qa_cons (qe_var 1) (qa_cons (qe_var 2) qa_nil)))))
      (qss_one (qs_if (qt_cmp op_gt dB (qe_var 1) (qe_var 2) (nomark _)) (qss_one (qs_set (i := 1) S.nd rfl (Or.inl rfl) (qe_ix ix_seq dIx (qe_var 0) (qe_op op_sub dI (qe_var 1) qe_int) (fun _ _ => rfl)))) (qss_one (qs_set (i := 2) S.nd rfl (Or.inl rfl) (qe_ix ix_seq dIx (qe_var 0) (qe_op op_sub dI (qe_var 2) qe_int) (fun _ _ => rfl))))))))
      (qss_one (qs_retM (QF.qm (QF.bor [3] (qf_callB call_sortedI dSortI rfl T.z_sorted bt_sorted (qa_cons (qe_var 3) qa_nil)))))))), fun ds q h => ?_⟩
  case hl => intro ds q h; obtain ⟨ps, rs, a, b, rfl, _⟩ := h; rfl
  obtain ⟨ps, rs, a, b, rfl, hT, a0, a1, b0, b1, q0⟩ := h
  refine ⟨rfl, ?_⟩
  refine ⟨fun k ρ => ∃ a' b' acc, ρ = [some (dInts ps), some (.int a'), some (.int b'), some (dInts acc)] ∧ 0 ≤ a' ∧ a' ≤ ps.length ∧ 0 ≤ b' ∧ b' ≤ ps.length ∧ k = (a' + b').toNat ∧ acc.length + (a' + b').toNat ≤ 46 ∧ (∀ w m, Climb ps a' b' w m → Climb ps a b (acc ++ w) m), ⟨_, a, b, [], rfl, a0, a1, b0, b1, rfl, by have := hT.hi; simp; omega, fun w m h => h⟩, ?_⟩
  rintro k ρ ⟨a', b', acc, rfl, a0', a1', b0', b1', rfl, hl, hc⟩
  have hi := hT.hi
  refine (ite2 (c := (!decide (a' = b')) = true) (fun c => ?_) (fun c => ?_))
  · have hne : a' ≠ b' := by simpa using c
    obtain ⟨L, hL⟩ : ∃ L, L = (if b' > a' then b' else a') := ⟨_, rfl⟩
    refine ⟨rfl, ?_⟩
    refine ⟨by show (acc.map D.int).length < 1000; rw [List.length_map]; clear hL; omega, ?_⟩
    have eL : D.lst (acc.map D.int ++ [D.int (if b' > a' then b' else a')]) = dInts (acc ++ [L]) := by rw [← hL, dInts, List.map_append]; rfl
    refine (ite2 (c := decide (b' < a') = true) (fun c2 => ?_) (fun c2 => ?_))
    · have hlt : b' < a' := by simpa using c2
      have e : L = a' := by rw [hL, if_neg (by clear hL; omega)]
      clear hL
      have hp := hT.up (show 0 < a' by omega) a1'
      refine atD_of (atI_ints (by omega) (by omega)) ?_
      refine ⟨(parZ ps a' + b').toNat, by omega, parZ ps a', b', acc ++ [L], ?_, hp.1, by omega, b0', b1', rfl, by rw [List.length_append]; show acc.length + 1 + _ ≤ 46; omega, fun w m h => by rw [List.append_assoc]; exact hc _ _ (by rw [e]; exact .left hlt h.comm)⟩
      rw [← eL]; rfl
    · have hlt : ¬ b' < a' := by simpa using c2
      have e : L = b' := by rw [hL, if_pos (by clear hL; omega)]
      clear hL
      have hp := hT.up (show 0 < b' by omega) b1'
      refine atD_of (atI_ints (by omega) (by omega)) ?_
      refine ⟨(a' + parZ ps b').toNat, by omega, a', parZ ps b', acc ++ [L], ?_, a0', a1', hp.1, by omega, rfl, by rw [List.length_append]; show acc.length + 1 + _ ≤ 46; omega, fun w m h => by rw [List.append_assoc]; exact hc _ _ (by rw [e]; exact .right (by omega) h)⟩
      rw [← eL]; rfl
  · have : a' = b' := by simpa using c
    subst this
    have hw := hc [] a' (.same a')
    rw [List.append_nil] at hw
    have hln := hw.len hT a0 b0 a1 b1
    rw [← (hw.way hT a0 b0 a1 b1).1] at q0
    exact ⟨acc, rfl, by omega, imms_ints _, q0⟩
set_option maxHeartbeats 4000000 in
theorem ok_l_ask (T : Txt K mg A) : FnOk P w K mg base CX0 2 A.f_l_ask A.d_l_ask ["_law_source_here", "_law_many", "_law_sizes", "_law_worths"] (spOf [true, false, false, false] false (sdAskG)) := by
  have G_l_draw := ok_l_draw (P := P) (w := w) (base := base) T
  have S := sc_l_ask
  refine fnD T.F_l_ask S ⟨[true, false, false, false], [true, false, false, false, false, false, false], false⟩ _ ?hl rfl rfl fun cdv Ar outer s H E hr => ⟨_, (qss_cons (qs_set (i := 4) S.nd rfl (Or.inl rfl) (qe_call (G_l_draw) (hr.mono (by decide)) rfl T.m_l_draw T.k_l_draw T.b_l_draw (qk_m 0 (qk_s (qe_op op_add dI (qe_var 1) qe_int) qk_nil))))
      (qss_cons (qs_set (i := 5) S.nd rfl (Or.inl rfl) (qe_op op_mod dIC (qe_op op_add dI (qe_op op_add dI (qe_var 4) qe_int) (qe_call (G_l_draw) (hr.mono (by decide)) rfl T.m_l_draw T.k_l_draw T.b_l_draw (qk_m 0 (qk_s (qe_var 1) qk_nil)))) (qe_op op_add dI (qe_var 1) qe_int)))
      (qss_cons (qs_set (i := 6) S.nd rfl (Or.inl rfl) (qe_op op_add dI qe_int (qe_call (G_l_draw) (hr.mono (by decide)) rfl T.m_l_draw T.k_l_draw T.b_l_draw (qk_m 0 (qk_s (qe_ix ix_seq dIx (qe_var 2) (qe_call (G_l_draw) (hr.mono (by decide)) rfl T.m_l_draw T.k_l_draw T.b_l_draw (qk_m 0 (qk_s (qe_callB call_len_seq dLen rfl T.z_len bt_len (qa_cons (qe_var 2) qa_nil)) qk_nil))) (fun _ _ => rfl)) qk_nil)))))
      (qss_one (qs_ret (qe_tup (qa_cons (qe_var 4) (qa_cons (qe_var 5) (qa_cons (qe_var 6) (qa_cons (qe_op op_add dI qe_int (qe_call (G_l_draw) (hr.mono (by decide)) rfl T.m_l_draw T.k_l_draw T.b_l_draw (qk_m 0 (qk_s (qe_ix ix_seq dIx (qe_var 3) (qe_call (G_l_draw) (hr.mono (by decide)) rfl T.m_l_draw T.k_l_draw T.b_l_draw (qk_m 0 (qk_s (qe_callB call_len_seq dLen rfl T.z_len bt_len (qa_cons (qe_var 3) qa_nil)) qk_nil))) (fun _ _ => rfl)) qk_nil)))) qa_nil)))))))))), fun ds q h => ?_⟩
  case hl => intro ds q h; obtain ⟨c, m, ps, rs, n, sizes, worths, rfl, _⟩ := h; rfl
  obtain ⟨c, m, ps, rs, n, sizes, worths, rfl, h0, hT, hn, hs0, hs1, hs, hw0, hw1, hw, q0⟩ := h
  have hi := hT.hi
  have hlo := hT.lo
  refine ⟨c, m, n + 1, rfl, h0, by omega, sm_of (n := 24) (by omega) (by decide +kernel), fun a c1 m1 a0 a1 h1 => ?_⟩
  refine ⟨c1, m1, n, rfl, h1, by omega, sm_of (n := 24) (by omega) (by decide +kernel), fun r c2 m2 r0 r1 h2 => ?_⟩
  refine ⟨(show (0 : Int) < n + 1 by omega), ?_⟩
  refine ⟨c2, m2, ((sizes.map D.int).length : Int), rfl, h2, by rw [len_ints]; omega, sm_of (n := 100) (by rw [len_ints]; omega) (by decide +kernel), fun k c3 m3 k0 k1 h3 => ?_⟩
  rw [len_ints] at k1
  refine atD_of (atI_ints k0 (by omega)) ?_
  have hz := hs _ (L2.getD_mem (show k.toNat < sizes.length by omega))
  generalize sizes.getD k.toNat 0 = z at hz
  refine ⟨c3, m3, z, rfl, h3, by omega, sm_of (n := 1000000) (by omega) (by decide +kernel), fun s c4 m4 s0 s1 h4 => ?_⟩
  refine ⟨c4, m4, ((worths.map D.int).length : Int), rfl, h4, by rw [len_ints]; omega, sm_of (n := 100) (by rw [len_ints]; omega) (by decide +kernel), fun k2 c5 m5 k20 k21 h5 => ?_⟩
  rw [len_ints] at k21
  refine atD_of (atI_ints k20 (by omega)) ?_
  have hy := hw _ (L2.getD_mem (show k2.toNat < worths.length by omega))
  generalize worths.getD k2.toNat 0 = y at hy
  refine ⟨c5, m5, y, rfl, h5, by omega, sm_of (n := 1000000000000) (by omega) (by decide +kernel), fun wo c6 m6 w0 w1 h6 => ?_⟩
  have he := other_ends (ps := ps) (a := a) (r := r) a0 (by omega) r0 (by omega)
  have en : n + 1 = 1 + (ps.length : Int) := by omega
  rw [← en] at he
  exact q0 ⟨a, (a + 1 + r) % (n + 1), 1 + s, 1 + wo⟩ c6 m6 ⟨he, by show 1 ≤ 1 + s; omega, by show 1 + s ≤ 1000000; omega, by show 1 ≤ 1 + wo; omega, by show 1 + wo ≤ 1000000000000; omega⟩ h6
set_option maxHeartbeats 4000000 in
theorem ok_l_world (T : Txt K mg A) : FnOk P w K mg base CX0 3 A.f_l_world A.d_l_world ["_law_script", "_law_most"] (spOf [false, false] true (sdWorld K)) := by
  have G_l_ask := ok_l_ask (P := P) (w := w) (base := base) T
  have G_l_cell := ok_l_cell (P := P) (w := w) (base := base) T
  have G_l_source := ok_l_source (P := P) (w := w) (base := base) T
  have G_l_tree := ok_l_tree (P := P) (w := w) (base := base) T
  have S := sc_l_world
  refine fnD T.F_l_world S ⟨[false, false], [false, false, true, true, false, true], true⟩ _ ?hl rfl rfl fun cdv Ar outer s H E hr => ⟨_, (qss_cons (qs_setO (i := 2) S.nd rfl (Or.inl rfl) (qf_call (G_l_tree) (hr.mono (by decide)) rfl T.m_l_tree T.k_l_tree T.b_l_tree (qk_t (qf_call (G_l_source) (hr.mono (by decide)) rfl T.m_l_source T.k_l_source T.b_l_source (qk_s (qe_call (G_l_cell) (hr.mono (by decide)) rfl T.m_l_cell T.k_l_cell T.b_l_cell (qk_s (qe_var 0) (qk_s qe_int qk_nil))) (qk_s qe_int qk_nil))) (qk_s (qe_var 1) qk_nil))))
      (qss_cons (qs_setO (i := 3) S.nd rfl (Or.inl rfl) (qf_lst qa_nil))
      (qss_cons (qs_for PassesOwn.never rfl (qi_range2 rfl T.z_range (qa_cons qe_int (qa_cons (qe_callB (call_min2 rfl) dMin rfl T.z_min bt_min (qa_cons (qe_callB call_len_seq dLen rfl T.z_len bt_len (qa_cons (qe_var 0) qa_nil)) (qa_cons qe_int qa_nil))) qa_nil))) (qg_name (i := 4) S.nd rfl (Or.inl rfl)) (qss_cons (qs_setO (i := 5) S.nd rfl (Or.inl rfl) (qf_call (G_l_source) (hr.mono (by decide)) rfl T.m_l_source T.k_l_source T.b_l_source (qk_s (qe_call (G_l_cell) (hr.mono (by decide)) rfl T.m_l_cell T.k_l_cell T.b_l_cell (qk_s (qe_var 0) (qk_s (qe_var 4) qk_nil))) (qk_s (qe_var 4) qk_nil))))
      (qss_one (qs_append (i := 3) rfl (QF.bor [2] (QE.qf (qe_call (G_l_ask) (hr.mono (by decide)) rfl T.m_l_ask T.k_l_ask T.b_l_ask (qk_m 5 (qk_s (qe_callB call_len_seq dLen rfl T.z_len bt_len (qa_cons (qe_ix ix_seq dIx (qe_var 2) qe_int (fun _ _ => rfl)) qa_nil)) (qk_s (qe_lst (qa_cons qe_int (qa_cons qe_int (qa_cons (qe_op op_pow dIC qe_int qe_int) qa_nil)))) (qk_s (qe_lst (qa_cons qe_int (qa_cons qe_int (qa_cons (qe_op op_pow dIC qe_int qe_int) qa_nil)))) qk_nil)))))))))))
      (qss_one (qs_retM (qm_tup (qms_cons (qm_move 2) (qms_cons (qm_move 3) qms_nil)))))))), fun ds q h => ?_⟩
  case hl => intro ds q h; obtain ⟨φ, ns, most, rfl, _⟩ := h; rfl
  obtain ⟨φ, ns, most, rfl, hφ, hl, hm0, hm1, q0⟩ := h
  refine ⟨φ, ns, 0, rfl, hφ, by decide, ?_⟩
  refine ⟨_, 0, rfl, by decide, by decide, fun c m h0 => ?_⟩
  refine ⟨c, m, most, rfl, h0, hm0, hm1, fun ps rs c1 m1 hT hle h1 => ?_⟩
  have hi := hT.hi
  refine ⟨rfl, ?_⟩
  refine ⟨hφ, ?_⟩
  refine ⟨⟨by decide, by decide, by split <;> omega, by split <;> omega⟩, ?_⟩
  refine ⟨fun i ρ => ∃ (as : List Ask) (v4 v5 : Option D), ρ = [some (.scr φ ns), some (.int most), some (dPair ps rs), some (dAsks as), v4, v5] ∧ as.length = i ∧ (∀ a ∈ as, AskOk ps a), ⟨[], _, _, rfl, rfl, fun a h => by cases h⟩, ?_, ?_⟩
  · rintro i d ρ hd ⟨as, v4, v5, rfl, la, hok⟩
    obtain ⟨hi2, rfl⟩ := rngD_at hd
    have hi3 : i < 30 := by revert hi2; split <;> omega
    refine ⟨φ, ns, 2 + (i : Int), rfl, hφ, by omega, ?_⟩
    refine ⟨_, 2 + (i : Int), rfl, by omega, by omega, fun c2 m2 h2 => ?_⟩
    refine ⟨⟨by decide, by decide, by decide⟩, ⟨by decide, by decide, by decide⟩, ?_⟩
    refine ⟨c2, m2, ps, rs, ((ps.map D.int).length : Int), [1, 3, 10 ^ Int.toNat 6], [9, 1000, 10 ^ Int.toNat 12], rfl, h2, hT, by rw [len_ints], by decide, by decide, by decide, by decide, by decide, by decide, fun a c3 m3 ha h3 => ?_⟩
    refine ⟨rfl, by rw [len_asks]; omega, ?_⟩
    refine ⟨as ++ [a], _, _, by rw [← asks_snoc]; rfl, by rw [List.length_append, la]; rfl, fun b hb => ?_⟩
    rcases List.mem_append.mp hb with hb | hb
    · exact hok b hb
    · have : b = a := List.mem_singleton.mp hb
      subst this; exact ha
  · rintro ρ ⟨as, v4, v5, rfl, la, hok⟩
    rw [rngD_len] at la
    exact q0 ps rs as hT hle ⟨by revert la; split <;> omega, hok⟩
end
end K27


set_option Elab.async false
set_option linter.all false
set_option maxRecDepth 100000
set_option maxHeartbeats 4000000
set_option exponentiation.threshold 9000
namespace K27
open PySem L2
section
variable {P : Program} {w : World} {K : PySem.W.Frag} {mg : Str → Option Value} {base : Heap} {A : Adr}
set_option maxHeartbeats 4000000 in
theorem ok_l_price (T : Txt K mg A) : FnOk P w K mg base CX0 2 A.f_l_price A.d_l_price ["_law_source_here", "_law_great"] (spOf [true, false] false (sdPriceG)) := by
  have G_l_draw := ok_l_draw (P := P) (w := w) (base := base) T
  have G_l_lowest := ok_l_lowest (P := P) (w := w) (base := base) T
  have S := sc_l_price
  refine fnD T.F_l_price S ⟨[true, false], [true, false, false, false], false⟩ _ ?hl rfl rfl fun cdv Ar outer s H E hr => ⟨_, (qss_cons (qs_set (i := 2) S.nd rfl (Or.inl rfl) (qe_call (G_l_draw) (hr.mono (by decide)) rfl T.m_l_draw T.k_l_draw T.b_l_draw (qk_m 0 (qk_s qe_int qk_nil))))
      (qss_cons (qs_if (qt_cmp (op_eqD hr.units) dEq (qe_var 2) qe_int (nomark _)) (qss_one (qs_ret (qe_tup (qa_cons qe_int (qa_cons qe_int qa_nil))))) qss_nil)
      (qss_cons (qs_if (qt_cmp (op_eqD hr.units) dEq (qe_var 2) qe_int (nomark _)) (qss_one (qs_ret (qe_tup (qa_cons (qe_call (G_l_draw) (hr.mono (by decide)) rfl T.m_l_draw T.k_l_draw T.b_l_draw (qk_m 0 (qk_s (qe_ix ix_seq dIx (qe_lst (qa_cons qe_int (qa_cons (qe_op op_pow dIC qe_int qe_int) qa_nil))) (qe_call (G_l_draw) (hr.mono (by decide)) rfl T.m_l_draw T.k_l_draw T.b_l_draw (qk_m 0 (qk_s qe_int qk_nil))) (fun _ _ => rfl)) qk_nil))) (qa_cons qe_int qa_nil))))) qss_nil)
      (qss_cons (qs_set (i := 3) S.nd rfl (Or.inl rfl) (qe_ix ix_seq dIx (qe_lst (qa_cons qe_int (qa_cons (qe_op op_pow dIC qe_int qe_int) qa_nil))) (qe_callTy call_int1 dInt1 rfl T.z_int bt_int (qa_cons (qe_and (qe_var 1) (qe_one (qe_cmp (op_eqD hr.units) dEq (qe_var 2) qe_int (nomark _)))) qa_nil)) (fun _ _ => rfl)))
      (qss_one (qs_ret (qe_call (G_l_lowest) (hr.mono (by decide)) rfl T.m_l_lowest T.k_l_lowest T.b_l_lowest (qk_s (qe_call (G_l_draw) (hr.mono (by decide)) rfl T.m_l_draw T.k_l_draw T.b_l_draw (qk_m 0 (qk_s (qe_op op_mul dIC qe_int (qe_var 3)) qk_nil))) (qk_s (qe_op op_add dI qe_int (qe_call (G_l_draw) (hr.mono (by decide)) rfl T.m_l_draw T.k_l_draw T.b_l_draw (qk_m 0 (qk_s (qe_var 3) qk_nil)))) qk_nil))))))))), fun ds q h => ?_⟩
  case hl => intro ds q h; obtain ⟨c, m, g, rfl, _⟩ := h; rfl
  obtain ⟨c, m, g, rfl, h0, q0⟩ := h
  refine ⟨c, m, 5, rfl, h0, by decide, sm_of (n := 5) (by decide) (by decide +kernel), fun w c1 m1 w0 w1 h1 => ?_⟩
  refine (ite2 (c := decide (w = 0) = true) (fun _ => q0 0 c1 m1 (by decide) (bt0 (by decide)) h1) (fun _ => ?_))
  refine (ite2 (c := decide (w = 1) = true) (fun _ => ?_) (fun _ => ?_))
  · refine ⟨⟨by decide, by decide, by decide⟩, ?_⟩
    refine ⟨c1, m1, 2, rfl, h1, by decide, sm_of (n := 2) (by decide) (by decide +kernel), fun k c2 m2 k0 k1 h2 => ?_⟩
    obtain ⟨z, hz, z1, z2⟩ : ∃ z : Int, atI [D.int 9, D.int (10 ^ Int.toNat 12)] k = some (.int z) ∧ 0 < z ∧ z ≤ 1000000000000 := by
      have : k = 0 ∨ k = 1 := by omega
      rcases this with rfl | rfl <;> exact ⟨_, rfl, by decide, by decide⟩
    refine atD_of hz ?_
    refine ⟨c2, m2, z, rfl, h2, z1, sm_of (n := 1000000000000) (by omega) (by decide +kernel), fun u c3 m3 u0 u1 h3 => ?_⟩
    have := q0 (u : Rat) c3 m3 (Rat.intCast_nonneg.mpr u0) (intBt 1000000000000 (by omega) (by decide) (by decide)) h3
    rw [← dQ_int] at this
    exact this
  · refine ⟨⟨by decide, by decide, by decide⟩, ?_⟩
    have key : ∀ (x c2 m2 : Int), 0 < x → x ≤ 1000000000 → 0 ≤ c2 → ∀ (t u : Int) (c3 m3 : Int), 0 ≤ t → t < 9 * x → 0 ≤ u → u < x → 0 ≤ c3 → q (dQ (Rat.divInt t (1 + u))) [some (dInts [c3, m3])] := by
      intro x c2 m2 x0 x1 h2 t u c3 m3 t0 t1 u0 u1 h3
      have hb := divInt_bd (t := t) (show 0 < 1 + u by omega)
      exact q0 _ c3 m3 (divInt_nn t0 (by omega)) ⟨Nat.lt_of_le_of_lt (show _ ≤ 9000000000 by omega) (by decide), Nat.lt_of_le_of_lt (show _ ≤ 9000000000 by omega) (by decide)⟩ h3
    have fin : ∀ (x : Int), 0 < x → x ≤ 1000000000 → ∀ (Z : Prop), Z → Z := fun _ _ _ _ z => z
    cases g with
    | false =>
      refine ⟨.inl ⟨by decide, by decide⟩, ?_⟩
      refine ⟨c1, m1, 9 * 12, rfl, h1, by decide, sm_of (n := 200) (by decide) (by decide +kernel), fun t c2 m2 t0 t1 h2 => ?_⟩
      refine ⟨c2, m2, 12, rfl, h2, by decide, sm_of (n := 12) (by decide) (by decide +kernel), fun u c3 m3 u0 u1 h3 => ?_⟩
      refine ⟨t, 1 + u, rfl, by omega, sm_of (n := 200) (by omega) (by decide +kernel), ?_⟩
      exact key 12 c2 m2 (by decide) (by decide) h2 t u c3 m3 t0 t1 u0 u1 h3
    | true =>
      obtain ⟨x, hx, x0, x1⟩ : ∃ x : Int, atI [D.int 12, D.int (10 ^ Int.toNat 9)] (if decide (w = 4) = true then 1 else 0) = some (.int x) ∧ 0 < x ∧ x ≤ 1000000000 := by
        by_cases h4 : w = 4
        · rw [decide_eq_true h4]; exact ⟨_, rfl, by decide, by decide⟩
        · rw [decide_eq_false h4]; exact ⟨_, rfl, by decide, by decide⟩
      refine atD_of hx ?_
      refine ⟨.inl ⟨by decide, by decide⟩, ?_⟩
      refine ⟨c1, m1, 9 * x, rfl, h1, by omega, sm_of (n := 9000000000) (by omega) (by decide +kernel), fun t c2 m2 t0 t1 h2 => ?_⟩
      refine ⟨c2, m2, x, rfl, h2, x0, sm_of (n := 9000000000) (by omega) (by decide +kernel), fun u c3 m3 u0 u1 h3 => ?_⟩
      refine ⟨t, 1 + u, rfl, by omega, sm_of (n := 9000000000) (by omega) (by decide +kernel), ?_⟩
      exact key x c2 m2 x0 x1 h2 t u c3 m3 t0 t1 u0 u1 h3
set_option maxHeartbeats 4000000 in
theorem ok_l_prices (T : Txt K mg A) : FnOk P w K mg base CX0 3 A.f_l_prices A.d_l_prices ["_law_tree_here", "_law_asks", "_law_source_here"] (spOf [false, false, true] true (sdPricesG)) := by
  have G_l_draw := ok_l_draw (P := P) (w := w) (base := base) T
  have G_l_lowest := ok_l_lowest (P := P) (w := w) (base := base) T
  have G_l_price := ok_l_price (P := P) (w := w) (base := base) T
  have G_l_way := ok_l_way (P := P) (w := w) (base := base) T
  have S := sc_l_prices
  refine fnD T.F_l_prices S ⟨[false, false, true], [false, false, true, true, false, false, false, false, false, false, false], true⟩ _ ?hl rfl rfl fun cdv Ar outer s H E hr => ⟨_, (qss_cons (qs_setCompMO (i := 3) ["_law_room"] [2, 0] 2 1 ⟨rfl, rfl, by decide +kernel, rfl, rfl, (by first | exact trivial | exact ⟨rfl, trivial⟩ | exact ⟨rfl, rfl, trivial⟩ | exact ⟨rfl, rfl, rfl, trivial⟩ | exact ⟨rfl, rfl, rfl, rfl, trivial⟩), rfl⟩ rfl S.nd rfl (Or.inl rfl) (qi_list (qe_ix ix_seq dIx (qe_var 0) qe_int (fun _ _ => rfl))) (cgm_name 0) (fun _ _ _ _ => ⟨(pg_name (i := 0) (show List.Nodup (["_law_room", "_law_source_here", "_law_tree_here"] : List Str) by decide +kernel) rfl (Or.inl rfl)), qif_nil, (qe_call (G_l_price) (hr.mono (by decide)) rfl T.m_l_price T.k_l_price T.b_l_price (qk_m 1 (qk_s (qe_cmp op_lt dB (qe_callB call_len_seq dLen rfl T.z_len bt_len (qa_cons (qe_ix ix_seq dIx (qe_var 2) qe_int (fun _ _ => rfl)) qa_nil)) qe_int (nomark _)) qk_nil)))⟩))
      (qss_cons (qs_for PassesOwn.never rfl (qi_range1 rfl T.z_range (qa_cons (qe_call (G_l_draw) (hr.mono (by decide)) rfl T.m_l_draw T.k_l_draw T.b_l_draw (qk_m 2 (qk_s qe_int qk_nil))) qa_nil)) (qg_name (i := 4) S.nd rfl (Or.inl rfl)) (qss_one (qs_if (qt_cmp (op_neD hr.units) dNe (qe_var 1) (qe_lst qa_nil) (nomark _)) (qss_cons (qs_asg (qe_ix ix_seq dIx (qe_var 1) (qe_call (G_l_draw) (hr.mono (by decide)) rfl T.m_l_draw T.k_l_draw T.b_l_draw (qk_m 2 (qk_s (qe_callB call_len_seq dLen rfl T.z_len bt_len (qa_cons (qe_var 1) qa_nil)) qk_nil))) (fun _ _ => rfl)) (qg_tup rfl (qgs_cons (qg_name (i := 5) S.nd rfl (Or.inl rfl)) (qgs_cons (qg_name (i := 6) S.nd rfl (Or.inl rfl)) (qgs_cons (qg_name (i := 7) S.nd rfl (Or.inl rfl)) (qgs_cons (qg_name (i := 8) S.nd rfl (Or.inl rfl)) qgs_nil)))) (takes_cons1 (takes_cons1 (takes_cons1 (takes_cons1 takes_nil))))))
      (qss_cons (qs_set (i := 9) S.nd rfl (Or.inl rfl) (QF.qe (qf_call (G_l_way) (hr.mono (by decide)) rfl T.m_l_way T.k_l_way T.b_l_way (qk_s (qe_ix ix_seq dIx (qe_var 0) qe_int (fun _ _ => rfl)) (qk_s (qe_var 5) (qk_s (qe_var 6) qk_nil))))))
      (qss_cons (qs_set (i := 10) S.nd rfl (Or.inl rfl) (qe_ix ix_seq dIx (qe_var 9) (qe_call (G_l_draw) (hr.mono (by decide)) rfl T.m_l_draw T.k_l_draw T.b_l_draw (qk_m 2 (qk_s (qe_callB call_len_seq dLen rfl T.z_len bt_len (qa_cons (qe_var 9) qa_nil)) qk_nil))) (fun _ _ => rfl)))
      (qss_cons (qs_setI (i := 3) rfl (QE.qf (qe_tup (qa_cons (qe_op op_fdiv dIC (qe_var 8) (qe_var 7)) (qa_cons qe_int qa_nil)))) (qe_op op_sub dI (qe_var 10) qe_int))
      (qss_one (qs_if (qt_cmp op_lt dB (qe_var 7) qe_int (nomark _)) (qss_one (qs_setI (i := 3) rfl (QE.qf (qe_call (G_l_lowest) (hr.mono (by decide)) rfl T.m_l_lowest T.k_l_lowest T.b_l_lowest (qk_s (qe_var 8) (qk_s (qe_var 7) qk_nil)))) (qe_op op_sub dI (qe_var 10) qe_int))) qss_nil)))))) qss_nil)))
      (qss_one (qs_retM (qm_move 3))))), fun ds q h => ?_⟩
  case hl => intro ds q h; obtain ⟨c, m, ps, rs, as, rfl, _⟩ := h; rfl
  obtain ⟨c, m, ps, rs, as, rfl, h0, hT, ha, q0⟩ := h
  have hi := hT.hi
  have hlr := hT.len
  have hal := ha.len
  refine ⟨by rw [len_ints]; omega, ?_⟩
  refine ⟨fun i es d => ∃ (prs : List Rat) (c m : Int), es = prs.map dQ ∧ d = dInts [c, m] ∧ 0 ≤ c ∧ prs.length = i ∧ (∀ r ∈ prs, 0 ≤ r ∧ Bt r 64), ⟨[], c, m, rfl, rfl, h0, rfl, (fun r hr => by cases hr)⟩, ?_, ?_⟩
  · rintro j x es d hx ⟨prs, c5, m5, rfl, rfl, h5, lr, hpr⟩
    refine ⟨c5, m5, _, rfl, h5, fun r c6 m6 r0 r1 h6 => ?_⟩
    refine ⟨prs ++ [r], c6, m6, (List.map_append (l₂ := [r])).symm, rfl, h6, by rw [List.length_append, lr]; rfl, fun y hy => ?_⟩
    rcases List.mem_append.mp hy with hy | hy
    · exact hpr y hy
    · have : y = r := List.mem_singleton.mp hy
      subst this; exact ⟨r0, r1⟩
  rintro es d ⟨prs, c5, m5, rfl, rfl, h5, lr, hpr⟩
  rw [len_ints, ← hlr] at lr
  refine ⟨imms_dQs _, ?_⟩
  refine ⟨c5, m5, 4, rfl, h5, by decide, sm_of (n := 4) (by decide) (by decide +kernel), fun n c6 m6 n0 n1 h6 => ?_⟩
  refine ⟨⟨by omega, by omega⟩, ?_⟩
  refine ⟨fun i ρ => ∃ (prs : List Rat) (c m : Int) (v4 v5 v6 v7 v8 v9 v10 : Option D), ρ = [some (dPair ps rs), some (dAsks as), some (dInts [c, m]), some (dQs prs), v4, v5, v6, v7, v8, v9, v10] ∧ 0 ≤ c ∧ prs.length = ps.length ∧ (∀ r ∈ prs, 0 ≤ r ∧ Bt r 64), ⟨prs, c6, m6, _, _, _, _, _, _, _, rfl, h6, lr, hpr⟩, ?_, ?_⟩
  · rintro i d ρ hd ⟨prs, c7, m7, v4, v5, v6, v7, v8, v9, v10, rfl, h7, lr, hpr⟩
    refine ⟨okD_lay (lay_dAsks 0 as) (by decide), okD_ints [], ?_⟩
    refine (ite2 (c := (!eqD (dAsks as) (.lst [])) = true) (fun c => ?_) (fun c => ⟨prs, c7, m7, _, _, _, _, _, _, _, rfl, h7, lr, hpr⟩))
    rw [eqD_asks_nil] at c
    have hne : 0 < as.length := by cases as with | nil => exact absurd c (by decide) | cons _ _ => simp
    refine ⟨c7, m7, ((as.map dAsk).length : Int), rfl, h7, by rw [len_asks]; omega, sm_of (n := 30) (by rw [len_asks]; omega) (by decide +kernel), fun k c8 m8 k0 k1 h8 => ?_⟩
    rw [len_asks] at k1
    refine atD_of (atI_asks k0 (by omega)) ?_
    have hok := ha.ok _ (getD_ask (as := as) (k := k.toNat) (by omega))
    generalize as.getD k.toNat ask0 = a at hok
    have he := hok.ends
    refine ⟨ps, rs, a.one, a.other, rfl, hT, he.a0, he.a1, he.b0, he.b1, ?_⟩
    have hwp := way_pos hT he
    have hwl := way_len46 hT he
    refine ⟨c8, m8, (((wayZ ps a.one a.other).map D.int).length : Int), rfl, h8, by rw [len_ints]; omega, sm_of (n := 46) (by rw [len_ints]; omega) (by decide +kernel), fun u c9 m9 u0 u1 h9 => ?_⟩
    rw [len_ints] at u1
    refine atD_of (atI_ints u0 (by omega)) ?_
    have htm := way_mem hT he (L2.getD_mem (show u.toNat < (wayZ ps a.one a.other).length by omega))
    generalize (wayZ ps a.one a.other).getD u.toNat 0 = t at htm
    have s0 := hok.s0; have s1 := hok.s1; have w0 := hok.w0; have w1 := hok.w1
    have hq0 : 0 ≤ a.worth / a.size := Int.ediv_nonneg (by omega) (by omega)
    have hq1 : a.worth / a.size ≤ a.worth := Int.ediv_le_self _ (by omega)
    have e1 : D.lst ((prs.map dQ).set (t - 1).toNat (.tup [.int (a.worth / a.size), .int 1])) = dQs (prs.set (t - 1).toNat ((a.worth / a.size : Int) : Rat)) := by
      rw [← set_dQs, dQ_int]
    have ok1 : (0 : Rat) ≤ ((a.worth / a.size : Int) : Rat) ∧ Bt ((a.worth / a.size : Int) : Rat) 64 := ⟨Rat.intCast_nonneg.mpr hq0, intBt 1000000000000 (by omega) (by decide) (by decide)⟩
    refine ⟨⟨by omega, by omega⟩, rfl, ?_⟩
    have ei : ixN (prs.map dQ).length (t - 1) = some (t - 1).toNat := by rw [List.length_map, ixN_nat (by omega) (by omega)]
    refine mIx ei ?_
    refine (ite2 (c := decide (a.size < 13) = true) (fun c2 => ?_) (fun c2 => ?_))
    · have hb := divInt_bd (t := a.worth) (show 0 < a.size by omega)
      have ok2 : (0 : Rat) ≤ Rat.divInt a.worth a.size ∧ Bt (Rat.divInt a.worth a.size) 64 := ⟨divInt_nn (by omega) (by omega), Nat.lt_of_le_of_lt (show _ ≤ 1000000000000 by omega) (by decide), Nat.lt_of_le_of_lt (show _ ≤ 1000000000000 by omega) (by decide)⟩
      refine ⟨a.worth, a.size, rfl, by omega, sm_of (n := 1000000) (by omega) (by decide +kernel), rfl, ?_⟩
      have ej : ixN ((prs.map dQ).set (t - 1).toNat (.tup [.int (a.worth / a.size), .int 1])).length (t - 1) = some (t - 1).toNat := by rw [List.length_set]; exact ei
      refine mIx ej ?_
      have e2 : D.lst (((prs.map dQ).set (t - 1).toNat (.tup [.int (a.worth / a.size), .int 1])).set (t - 1).toNat (dQ (Rat.divInt a.worth a.size))) = dQs ((prs.set (t - 1).toNat ((a.worth / a.size : Int) : Rat)).set (t - 1).toNat (Rat.divInt a.worth a.size)) := by
        rw [← set_dQs, List.map_set, dQ_int]
      refine ⟨(prs.set (t - 1).toNat ((a.worth / a.size : Int) : Rat)).set (t - 1).toNat (Rat.divInt a.worth a.size), c9, m9, _, _, _, _, _, _, _, by rw [← e2]; rfl, h9, by rw [List.length_set, List.length_set]; exact lr, set_all (set_all hpr ok1) ok2⟩
    · exact ⟨prs.set (t - 1).toNat ((a.worth / a.size : Int) : Rat), c9, m9, _, _, _, _, _, _, _, by rw [← e1]; rfl, h9, by rw [List.length_set]; exact lr, set_all hpr ok1⟩
  · rintro ρ ⟨prs, c7, m7, v4, v5, v6, v7, v8, v9, v10, rfl, h7, lr, hpr⟩
    exact q0 prs c7 m7 ⟨lr, fun r hr => (hpr r hr).1, fun r hr => (hpr r hr).2⟩ h7
end
end K27


set_option Elab.async false
set_option linter.all false
set_option maxRecDepth 100000
set_option maxHeartbeats 4000000
set_option exponentiation.threshold 9000
namespace K27
open PySem L2
section
variable {P : Program} {w : World} {K : PySem.W.Frag} {mg : Str → Option Value} {base : Heap} {A : Adr}
set_option maxHeartbeats 4000000 in
theorem ok_l_loads (T : Txt K mg A) : FnOk P w K mg base CX0 2 A.f_l_loads A.d_l_loads ["_law_tree_here", "_law_asks", "_law_keep_here"] (spOf [false, false, false] true (sdLoadsA)) := by
  have G_l_way := ok_l_way (P := P) (w := w) (base := base) T
  have S := sc_l_loads
  refine fnD T.F_l_loads S ⟨[false, false, false], [false, false, false, true, false, false], true⟩ _ ?hl rfl rfl fun cdv Ar outer s H E hr => ⟨_, (qss_cons (qs_setO (i := 3) S.nd rfl (Or.inl rfl) (qf_mk op_rep dRep (qe_lst (qa_cons qe_int qa_nil)) (qe_callB call_len_seq dLen rfl T.z_len bt_len (qa_cons (qe_ix ix_seq dIx (qe_var 0) qe_int (fun _ _ => rfl)) qa_nil))))
      (qss_cons (qs_for PassesOwn.never rfl (qi_list (qe_var 2)) (qg_name (i := 4) S.nd rfl (Or.inl rfl)) (qss_one (qs_for PassesOwn.never rfl (qi_list (QF.qe (qf_call (G_l_way) (hr.mono (by decide)) rfl T.m_l_way T.k_l_way T.b_l_way (qk_s (qe_ix ix_seq dIx (qe_var 0) qe_int (fun _ _ => rfl)) (qk_s (qe_ix ix_seq dIx (qe_ix ix_seq dIx (qe_var 1) (qe_var 4) (fun _ _ => rfl)) qe_int (fun _ _ => rfl)) (qk_s (qe_ix ix_seq dIx (qe_ix ix_seq dIx (qe_var 1) (qe_var 4) (fun _ _ => rfl)) qe_int (fun _ _ => rfl)) qk_nil)))))) (qg_name (i := 5) S.nd rfl (Or.inl rfl)) (qss_one (qs_setI (i := 3) rfl (QF.bor [3] (QE.qf (qe_op op_add dI (qe_ix ix_seq dIx (qe_var 3) (qe_op op_sub dI (qe_var 5) qe_int) (fun _ _ => rfl)) (qe_ix ix_seq dIx (qe_ix ix_seq dIx (qe_var 1) (qe_var 4) (fun _ _ => rfl)) qe_int (fun _ _ => rfl))))) (qe_op op_sub dI (qe_var 5) qe_int))))))
      (qss_one (qs_retM (qm_move 3))))), fun ds q h => ?_⟩
  case hl => intro ds q h; obtain ⟨ps, rs, as, ks, rfl, _⟩ := h; rfl
  obtain ⟨ps, rs, as, ks, rfl, hT, ha, hkl, hk, q0⟩ := h
  have hi := hT.hi
  have hlr := hT.len
  refine ⟨⟨by rw [len_ints]; omega, by rw [len_ints]; omega, by rw [len_ints]; simp; omega⟩, ?_⟩
  rw [len_ints, rep_flat, show Int.toNat ((ps.length : Nat) : Int) = ps.length by omega, rep_ints0]
  refine ⟨imms_ints _, ?_⟩
  refine ⟨fun i ρ => ∃ v1 v2, ρ = [some (dPair ps rs), some (dAsks as), some (dInts ks), some (dInts (loadsZ ps as (ks.take i))), v1, v2], ⟨_, _, rfl⟩, ?_, ?_⟩
  · rintro i d ρ hd ⟨v1, v2, rfl⟩
    obtain ⟨z, hz, rfl⟩ := map_at hd
    have hz1 := hk z (List.mem_of_getElem? hz)
    have hmem := getD_ask (as := as) (k := z.toNat) (by omega)
    have hok := (ha.ok _ hmem)
    have hat := atI_asks (as := as) hz1.1 hz1.2
    refine atD_of hat ?_
    refine atD_of hat ?_
    refine ⟨ps, rs, _, _, rfl, hT, hok.ends.a0, hok.ends.a1, hok.ends.b0, hok.ends.b1, ?_⟩
    refine ⟨fun j ρ => ∃ v, ρ = [some (dPair ps rs), some (dAsks as), some (dInts ks), some (dInts (addW (loadsZ ps as (ks.take i)) ((askWay ps (as.getD z.toNat ask0)).take j) (as.getD z.toNat ask0).size)), some (.int z), v], ⟨_, rfl⟩, ?_, ?_⟩
    · rintro j d ρ hd ⟨v, rfl⟩
      obtain ⟨t, ht, rfl⟩ := map_at hd
      have hm := way_mem hT hok.ends (List.mem_of_getElem? ht)
      have hlen : (addW (loadsZ ps as (ks.take i)) ((askWay ps (as.getD z.toNat ask0)).take j) (as.getD z.toNat ask0).size).length = ps.length := by rw [addW_len, loadsZ_len]
      refine atD_of (atI_ints (by omega) (by omega)) ?_
      refine atD_of hat ?_
      refine ⟨rfl, ?_⟩
      show (match ixN ((addW (loadsZ ps as (ks.take i)) ((askWay ps (as.getD z.toNat ask0)).take j) (as.getD z.toNat ask0).size).map D.int).length (t - 1) with | some _ => _ | none => False)
      rw [len_ints, ixN_nat (by omega) (by omega)]
      refine ⟨some (.int t), ?_⟩
      rw [List.take_add_one, show (askWay ps (as.getD z.toNat ask0))[j]? = some t from ht]
      show _ = [_, _, _, some (dInts (addW _ (_ ++ [t]) _)), _, _]
      rw [addW_snoc, addT, ← set_dInts]; rfl
    · rintro ρ ⟨v, rfl⟩
      refine ⟨some (.int z), v, ?_⟩
      rw [len_ints, show (wayZ ps (as.getD z.toNat ask0).one (as.getD z.toNat ask0).other) = askWay ps (as.getD z.toNat ask0) from rfl, List.take_length, List.take_add_one, hz]
      show _ = [_, _, _, some (dInts (loadsZ ps as (_ ++ [z]))), _, _]
      rw [loadsZ_snoc]; rfl
  · rintro ρ ⟨v1, v2, rfl⟩
    rw [len_ints, List.take_length]
    exact q0
set_option maxHeartbeats 4000000 in
theorem ok_l_fits (T : Txt K mg A) : FnOk P w K mg base CX0 3 A.f_l_fits A.d_l_fits ["_law_tree_here", "_law_asks", "_law_keep_here"] (spOf [false, false, false] false (sdFits)) := by
  have G_l_loads := ok_l_loads (P := P) (w := w) (base := base) T
  have S := sc_l_fits
  refine fnD T.F_l_fits S ⟨[false, false, false], [false, false, false], false⟩ _ ?hl rfl rfl fun cdv Ar outer s H E hr => ⟨_, (qss_one (qs_ret (qe_cmp (op_eqD hr.units) dEq (qe_comp ["_law_load", "_law_room"] [] ⟨rfl, rfl, by decide +kernel, rfl, rfl, (by first | exact trivial | exact ⟨rfl, trivial⟩ | exact ⟨rfl, rfl, trivial⟩ | exact ⟨rfl, rfl, rfl, trivial⟩ | exact ⟨rfl, rfl, rfl, rfl, trivial⟩), rfl⟩ rfl (qi_zip rfl T.z_zip (qa_cons (QF.qe (qf_call (G_l_loads) (hr.mono (by decide)) rfl T.m_l_loads T.k_l_loads T.b_l_loads (qk_s (qe_var 0) (qk_s (qe_var 1) (qk_s (qe_var 2) qk_nil))))) (qa_cons (qe_ix ix_seq dIx (qe_var 0) qe_int (fun _ _ => rfl)) qa_nil))) (cg_tup (cgs_cons (cg_name 0) (cgs_cons (cg_name 1) cgs_nil)) (takes_cons1 (takes_cons1 takes_nil))) (fun _ _ _ _ => ⟨(pg_tup rfl (pgs_cons (pg_name (i := 0) (show List.Nodup (["_law_load", "_law_room"] : List Str) by decide +kernel) rfl (Or.inl rfl)) (pgs_cons (pg_name (i := 1) (show List.Nodup (["_law_load", "_law_room"] : List Str) by decide +kernel) rfl (Or.inl rfl)) pgs_nil))), (qif_one (qt_cmp op_gt dB (qe_var 0) (qe_var 1) (nomark _))), (qe_var 0)⟩)) (qe_lst qa_nil) (nomark _)))), fun ds q h => ?_⟩
  case hl => intro ds q h; obtain ⟨ps, rs, as, ks, rfl, _⟩ := h; rfl
  obtain ⟨ps, rs, as, ks, rfl, hT, ha, hkl, hk, q0⟩ := h
  have hi := hT.hi
  have hlr := hT.len
  refine ⟨ps, rs, as, ks, rfl, hT, ha, hkl, hk, ?_⟩
  have hll := loadsZ_len ps as ks
  have hzl : (zipD ((loadsZ ps as ks).map D.int) (rs.map D.int)).length = ps.length := by unfold zipD; rw [List.length_zipWith, List.length_map, List.length_map]; omega
  refine ⟨by rw [hzl]; omega, ?_⟩
  refine compD_fm fitF ?_ ?_
  · intro d hd k hk
    obtain ⟨j, hj⟩ := List.getElem?_of_mem hd
    obtain ⟨x, y, e1, e2, rfl⟩ := zipD_at hj
    obtain ⟨l, hl, rfl⟩ := map_at e1
    obtain ⟨r, hr, rfl⟩ := map_at e2
    change k (if decide (r < l) = true then some (.int l) else none) at hk
    show if decide (r < l) = true then k (some (.int l)) else k none
    cases e : decide (r < l) with
    | true => rw [e] at hk; exact hk
    | false => rw [e] at hk; exact hk
  rw [fitF_map]
  refine ⟨okD_ints _, okD_ints [], ?_⟩
  have e : eqD (dInts (overL (loadsZ ps as ks) rs)) (dInts []) = (overL (loadsZ ps as ks) rs).isEmpty := by rw [eqDi]; cases overL (loadsZ ps as ks) rs <;> simp
  rw [← e] at q0
  exact q0
end
end K27


set_option Elab.async false
set_option linter.all false
set_option maxRecDepth 100000
set_option maxHeartbeats 4000000
set_option exponentiation.threshold 9000
namespace K27
open PySem L2
section
variable {P : Program} {w : World} {K : PySem.W.Frag} {mg : Str → Option Value} {base : Heap} {A : Adr}
set_option maxHeartbeats 4000000 in
theorem ok_l_keep (T : Txt K mg A) : FnOk P w K mg base CX0 4 A.f_l_keep A.d_l_keep ["_law_tree_here", "_law_asks", "_law_source_here"] (spOf [false, false, true] true (sdKeepD)) := by
  have G_l_draw := ok_l_draw (P := P) (w := w) (base := base) T
  have G_l_fits := ok_l_fits (P := P) (w := w) (base := base) T
  have S := sc_l_keep
  refine fnD T.F_l_keep S ⟨[false, false, true], [false, false, true, true, true, false, false], true⟩ _ ?hl rfl rfl fun cdv Ar outer s H E hr => ⟨_, (qss_cons (qs_setO (i := 3) S.nd rfl (Or.inl rfl) (qf_lrng rfl rfl T.z_list bt_list rfl T.z_range bt_range (qe_callB call_len_seq dLen rfl T.z_len bt_len (qa_cons (qe_var 1) qa_nil))))
      (qss_cons (qs_setO (i := 4) S.nd rfl (Or.inl rfl) (qf_lst qa_nil))
      (qss_cons (qs_for PassesOwn.never rfl (qi_range1 rfl T.z_range (qa_cons (qe_callB call_len_seq dLen rfl T.z_len bt_len (qa_cons (qe_var 1) qa_nil)) qa_nil)) (qg_name (i := 5) S.nd rfl (Or.inl rfl)) (qss_cons (qs_set (i := 6) S.nd rfl (Or.inl rfl) (qe_popI (i := 3) rfl (QE.bor [3] (qe_call (G_l_draw) (hr.mono (by decide)) rfl T.m_l_draw T.k_l_draw T.b_l_draw (qk_m 2 (qk_s (qe_callB call_len_seq dLen rfl T.z_len bt_len (qa_cons (qe_var 3) qa_nil)) qk_nil))))))
      (qss_one (qs_if (QT.bor [4] (qt_val (qe_call (G_l_fits) (hr.mono (by decide)) rfl T.m_l_fits T.k_l_fits T.b_l_fits (qk_s (qe_var 0) (qk_s (qe_var 1) (qk_s (qe_mk op_cat dCat (qe_var 4) (qe_lst (qa_cons (qe_var 6) qa_nil))) qk_nil)))))) (qss_one (qs_append (i := 4) rfl (QE.qf (qe_var 6)))) qss_nil))))
      (qss_one (qs_retM (QF.qm (QF.bor [4] (qf_callB call_sortedI dSortI rfl T.z_sorted bt_sorted (qa_cons (qe_var 4) qa_nil))))))))), fun ds q h => ?_⟩
  case hl => intro ds q h; obtain ⟨c, m, ps, rs, as, rfl, _⟩ := h; rfl
  obtain ⟨c, m, ps, rs, as, rfl, h0, hT, ha, q0⟩ := h
  have hal := ha.len
  refine ⟨⟨by rw [len_asks]; omega, by rw [len_asks]; omega⟩, ?_⟩
  refine ⟨rfl, ?_⟩
  refine ⟨⟨by rw [len_asks]; omega, by rw [len_asks]; omega⟩, ?_⟩
  refine ⟨fun i ρ => ∃ (ls fs : List Int) (c m : Int) (v5 v6 : Option D), ρ = [some (dPair ps rs), some (dAsks as), some (dInts [c, m]), some (dInts ls), some (dInts fs), v5, v6] ∧ 0 ≤ c ∧ ls.length + i = as.length ∧ fs.length ≤ i ∧ (fs ++ ls).Nodup ∧ (∀ k ∈ fs ++ ls, 0 ≤ k ∧ k < (as.length : Int)) ∧ overL (loadsZ ps as fs) rs = [], ?_, ?_, ?_⟩
  · refine ⟨(List.range as.length).map fun (k : Nat) => (k : Int), [], c, m, none, none, ?_, h0, by rw [List.length_map, List.length_range]; rfl, Nat.le_refl _, ?_, fun k hk => ?_, ?_⟩
    · rw [show ((as.map dAsk).length : Int).toNat = as.length by rw [len_asks]; omega]
      have e : rngD 0 as.length = ((List.range as.length).map fun (k : Nat) => (k : Int)).map D.int := by
        unfold rngD; rw [List.map_map]; refine List.map_congr_left fun k _ => ?_; show D.int (0 + (k : Int)) = D.int (k : Int); rw [Int.zero_add]
      rw [e]; rfl
    · rw [List.nil_append]
      exact List.Pairwise.map _ (fun a b h => by omega) (List.nodup_range (n := as.length))
    · rw [List.nil_append] at hk
      obtain ⟨j, hj, rfl⟩ := List.mem_map.mp hk
      have := List.mem_range.mp hj
      omega
    · have : ∀ (n : Nat) (rs : List Int), (∀ x ∈ rs, 1 ≤ x) → overL (List.replicate n 0) rs = [] := by
        intro n
        induction n with
        | zero => intro rs _; cases rs <;> rfl
        | succ n ih =>
          intro rs hr
          cases rs with
          | nil => rfl
          | cons r rs =>
            show (if r < 0 then (0 : Int) :: overL (List.replicate n 0) rs else overL (List.replicate n 0) rs) = []
            rw [if_neg (by have := hr r (.head _); omega)]
            exact ih rs fun x hx => hr x (.tail _ hx)
      exact this _ rs fun x hx => by
        obtain ⟨i, hi⟩ := List.getElem?_of_mem hx
        exact (hT.room i x hi).1
  · rintro i d ρ hd ⟨ls, fs, c1, m1, v5, v6, rfl, h1, hll, hfl, hnd, hrg, hfit⟩
    obtain ⟨hi, rfl⟩ := rngD_at hd
    rw [len_asks] at hi
    have hl0 : 0 < ls.length := by omega
    refine ⟨c1, m1, ((ls.map D.int).length : Int), rfl, h1, by rw [len_ints]; omega, sm_of (n := 100) (by rw [len_ints]; omega) (by decide +kernel), fun u c2 m2 u0 u1 h2 => ?_⟩
    rw [len_ints] at u1
    refine ⟨rfl, ?_⟩
    refine ⟨ls, u, rfl, rfl, u0, u1, ?_⟩
    obtain ⟨p1, p2, p3, p4⟩ := pop_keep (fs := fs) (i := u.toNat) (by omega) hnd
    have hel : (ls.eraseIdx u.toNat).length + (i + 1) = as.length := by rw [List.length_eraseIdx, if_pos (by omega)]; omega
    refine ⟨by rw [len_ints]; show fs.length + 1 ≤ 1000; omega, ?_⟩
    refine ⟨ps, rs, as, fs ++ [ls.getD u.toNat 0], by rw [dInts, List.map_append]; rfl, hT, ha, by rw [List.length_append]; show fs.length + 1 ≤ 100; omega, fun k hk => hrg k (p2 k (List.mem_append_left _ hk)), ?_⟩
    refine (ite2 (c := (overL (loadsZ ps as (fs ++ [ls.getD u.toNat 0])) rs).isEmpty = true) (fun c => ?_) (fun c => ?_))
    · refine ⟨rfl, by rw [len_ints]; omega, ?_⟩
      refine ⟨ls.eraseIdx u.toNat, fs ++ [ls.getD u.toNat 0], c2, m2, _, _, by rw [← ints_snoc]; rfl, h2, hel, by rw [List.length_append]; show fs.length + 1 ≤ i + 1; omega, p1, fun k hk => hrg k (p2 k hk), List.isEmpty_iff.mp c⟩
    · exact ⟨ls.eraseIdx u.toNat, fs, c2, m2, _, _, rfl, h2, hel, by omega, p3, fun k hk => hrg k (p4 k hk), hfit⟩
  · rintro ρ ⟨ls, fs, c1, m1, v5, v6, rfl, h1, hll, hfl, hnd, hrg, hfit⟩
    rw [rngD_len, len_asks] at hfl
    refine ⟨fs, rfl, by omega, imms_ints _, ?_⟩
    have hfr : ∀ k ∈ fs, 0 ≤ k ∧ k < (as.length : Int) := fun k hk => hrg k (List.mem_append_left _ hk)
    exact q0 (sortZ fs) c1 m1 ⟨by rw [sortZ_len]; omega, fun k hk => hfr k ((sortZ_perm fs).mem_iff.mp hk), Beat.sort (beat_of hT ha (List.nodup_append.mp hnd).1 hfr hfit)⟩ h1
end
end K27


set_option Elab.async false
set_option linter.all false
set_option maxRecDepth 100000
set_option maxHeartbeats 4000000
set_option exponentiation.threshold 9000
namespace K27
open PySem L2
section
variable {P : Program} {w : World} {K : PySem.W.Frag} {mg : Str → Option Value} {base : Heap} {A : Adr}
noncomputable def addF (z : Int) : D → D
  | .lst xs => .lst (xs ++ [.int z])
  | d => d
theorem addF_map (z : Int) (kss : List (List Int)) : (kss.map dInts).map (addF z) = (kss.map fun ks => ks ++ [z]).map dInts := by
  rw [List.map_map, List.map_map]
  refine List.map_congr_left fun ks _ => ?_
  show D.lst (ks.map D.int ++ [D.int z]) = dInts (ks ++ [z])
  rw [dInts, List.map_append]; rfl
noncomputable def intOf : D → Int
  | .int k => k
  | _ => 0
theorem intOf_map (ks : List Int) : (ks.map D.int).map intOf = ks := by rw [List.map_map]; exact List.map_id' ks
noncomputable def kfF (ps rs : List Int) (as : List Ask) : D → Option D
  | .lst xs => if (overL (loadsZ ps as (xs.map intOf)) rs).isEmpty = true then some (.lst xs) else none
  | _ => none
theorem kfF_ints (ps rs : List Int) (as : List Ask) (ks : List Int) : kfF ps rs as (dInts ks) = if (overL (loadsZ ps as ks) rs).isEmpty = true then some (dInts ks) else none := by
  show (if (overL (loadsZ ps as ((ks.map D.int).map intOf)) rs).isEmpty = true then some (D.lst (ks.map D.int)) else none) = _
  rw [intOf_map]; rfl
theorem kfF_map (ps rs : List Int) (as : List Ask) : ∀ kss : List (List Int), (kss.map dInts).filterMap (kfF ps rs as) = (kss.filter fun ks => (overL (loadsZ ps as ks) rs).isEmpty).map dInts
  | [] => rfl
  | ks :: kss => by
    rw [List.map_cons, List.filterMap_cons, kfF_map ps rs as kss, kfF_ints]
    by_cases h : (overL (loadsZ ps as ks) rs).isEmpty = true
    · rw [if_pos h, List.filter_cons_of_pos (p := fun ks => (overL (loadsZ ps as ks) rs).isEmpty) h]; rfl
    · rw [if_neg h, List.filter_cons_of_neg (p := fun ks => (overL (loadsZ ps as ks) rs).isEmpty) h]
namespace I
set_option maxHeartbeats 4000000 in
theorem ok_l_cell (T : Txt K mg A) : FnOk P w K mg base CX0 1 A.f_l_cell A.d_l_cell ["_law_script", "_law_k"] (spOf [false, false] false (sdCellI)) := by
  have S := sc_l_cell
  refine fnD T.F_l_cell S ⟨[false, false], [false, false], false⟩ _ ?hl rfl rfl fun cdv Ar outer s H E hr => ⟨_, (qss_cons (qs_if (qt_cmp op_lt dB (qe_var 1) (qe_callB call_len_seq dLen rfl T.z_len bt_len (qa_cons (qe_var 0) qa_nil)) (nomark _)) (qss_one (qs_ret (qe_ix ix_seq dIx (qe_var 0) (qe_var 1) (fun _ _ => rfl)))) qss_nil)
      (qss_one (qs_ret qe_int))), fun ds q h => ?_⟩
  case hl => intro ds q h; obtain ⟨ns, k, rfl, _⟩ := h; rfl
  obtain ⟨ns, k, rfl, h0, q0⟩ := h
  refine (ite2 (c := decide (k < ((ns.map D.int).length : Int)) = true) (fun c => ?_) (fun c => ?_))
  · have c' : k < ns.length := by rw [len_ints] at c; simpa using c
    refine atD_of (atI_ints h0 c') ?_
    have e : cellZ ns k = ns.getD k.toNat 0 := by unfold cellZ; first | rw [if_pos c'] | (rw [if_pos (by omega)]) | rfl
    rw [e] at q0; exact q0
  · have c' : ¬ k < ns.length := by rw [len_ints] at c; simpa using c
    have e : cellZ ns k = 0 := by unfold cellZ; first | rw [if_neg c'] | (rw [List.getD_eq_getElem?_getD, List.getElem?_eq_none (by omega)]; rfl)
    rw [e] at q0; exact q0
set_option maxHeartbeats 4000000 in
theorem ok_l_keeps (T : Txt K mg A) : FnOk P w K mg base CX0 5 A.f_l_keeps A.d_l_keeps ["_law_tree_here", "_law_asks", "_law_script"] (spOf [false, false, false] false (sdKeepsD)) := by
  have G_l_cell := ok_l_cell (P := P) (w := w) (base := base) T
  have G_l_fits := ok_l_fits (P := P) (w := w) (base := base) T
  have G_l_keep := ok_l_keep (P := P) (w := w) (base := base) T
  have G_l_source := ok_l_source (P := P) (w := w) (base := base) T
  have S := sc_l_keeps
  refine fnD T.F_l_keeps S ⟨[false, false, false], [false, false, false, false, false, false, true], false⟩ _ ?hl rfl rfl fun cdv Ar outer s H E hr => ⟨_, (qss_cons (qs_set (i := 3) S.nd rfl (Or.inl rfl) (qe_lst (qa_cons (qe_lst qa_nil) qa_nil)))
      (qss_cons (qs_for PassesOwn.never rfl (qi_range1 rfl T.z_range (qa_cons (qe_callB (call_min2 rfl) dMin rfl T.z_min bt_min (qa_cons qe_int (qa_cons (qe_callB call_len_seq dLen rfl T.z_len bt_len (qa_cons (qe_var 1) qa_nil)) qa_nil))) qa_nil)) (qg_name (i := 4) S.nd rfl (Or.inr rfl)) (qss_one (qs_set (i := 3) S.nd rfl (Or.inl rfl) (qe_mk op_cat dCat (qe_var 3) (qe_comp ["_law_keep_here"] [4] ⟨rfl, rfl, by decide +kernel, rfl, rfl, (by first | exact trivial | exact ⟨rfl, trivial⟩ | exact ⟨rfl, rfl, trivial⟩ | exact ⟨rfl, rfl, rfl, trivial⟩ | exact ⟨rfl, rfl, rfl, rfl, trivial⟩), rfl⟩ rfl (qi_list (qe_var 3)) (cg_name 0) (fun _ _ _ _ => ⟨(pg_name (i := 0) (show List.Nodup (["_law_keep_here", "_law_number"] : List Str) by decide +kernel) rfl (Or.inl rfl)), qif_nil, (qe_mk op_cat dCat (qe_var 0) (qe_lst (qa_cons (qe_var 1) qa_nil)))⟩))))))
      (fl_beginC (i := 3) ["_law_keep_here"] [0, 1] ⟨rfl, rfl, by decide +kernel, rfl, rfl, (by first | exact trivial | exact ⟨rfl, trivial⟩ | exact ⟨rfl, rfl, trivial⟩ | exact ⟨rfl, rfl, rfl, trivial⟩ | exact ⟨rfl, rfl, rfl, rfl, trivial⟩), rfl⟩ rfl S.nd rfl (Or.inl rfl) (qi_list (qe_var 3)) (cg_name 0) (fun _ _ _ _ => ⟨(pg_name (i := 0) (show List.Nodup (["_law_keep_here", "_law_tree_here", "_law_asks"] : List Str) by decide +kernel) rfl (Or.inl rfl)), (qif_one (qt_val (qe_call (G_l_fits) (hr.mono (by decide)) rfl T.m_l_fits T.k_l_fits T.b_l_fits (qk_s (qe_var 1) (qk_s (qe_var 2) (qk_s (qe_var 0) qk_nil)))))), (qe_var 0)⟩)
      (fe_cons (fl_for PassesOwn.never rfl (j := 5) S.nd rfl (Or.inl rfl) (qi_range1 rfl T.z_range (qa_cons qe_int qa_nil)) (fls_cons (fl_setO (j := 6) S.nd rfl (Or.inl rfl) (qf_call (G_l_source) (hr.mono (by decide)) rfl T.m_l_source T.k_l_source T.b_l_source (qk_s (qe_call (G_l_cell) (hr.mono (by decide)) rfl T.m_l_cell T.k_l_cell T.b_l_cell (qk_s (qe_var 2) (qk_s (qe_callB (call_max2 rfl) dMax rfl T.z_max bt_max (qa_cons qe_int (qa_cons (qe_op op_sub dI (qe_op op_sub dI (qe_callB call_len_seq dLen rfl T.z_len bt_len (qa_cons (qe_var 2) qa_nil)) qe_int) (qe_var 5)) qa_nil))) qk_nil))) (qk_s (qe_op op_add dI qe_int (qe_var 5)) qk_nil)))) (fls_cons (fl_append rfl (QF.qe (qf_call (G_l_keep) (hr.mono (by decide)) rfl T.m_l_keep T.k_l_keep T.b_l_keep (qk_s (qe_var 0) (qk_s (qe_var 1) (qk_m 6 qk_nil)))))) fls_nil)))
      (fe_end (qss_one (qs_ret (qe_var 3)))))))), fun ds q h => ?_⟩
  case hl => intro ds q h; obtain ⟨ps, rs, as, ns, rfl, _⟩ := h; rfl
  obtain ⟨ps, rs, as, ns, rfl, hT, ha, hn, q0⟩ := h
  have hal := ha.len
  have mn : ∃ M : Nat, M ≤ 6 ∧ M ≤ as.length ∧ (if ((as.map dAsk).length : Int) < 6 then ((as.map dAsk).length : Int) else 6) = (M : Int) := by
    rw [len_asks]
    by_cases h : (as.length : Int) < 6
    · exact ⟨as.length, by omega, by omega, by rw [if_pos h]⟩
    · exact ⟨6, by omega, by omega, by rw [if_neg h]; rfl⟩
  obtain ⟨M, hM6, hMl, eM⟩ := mn
  refine ⟨⟨by rw [eM]; omega, by rw [eM]; omega⟩, ?_⟩
  rw [eM, Int.toNat_natCast]
  refine ⟨fun i ρ => ∃ (kss : List (List Int)) (v4 : Option D), ρ = [some (dPair ps rs), some (dAsks as), some (dInts ns), some (dKss kss), v4, none, none] ∧ kss.length = 2 ^ i ∧ (∀ ks ∈ kss, ks.length ≤ i ∧ ks.Nodup ∧ ∀ k ∈ ks, 0 ≤ k ∧ k < (i : Int)), ⟨[[]], none, rfl, rfl, fun ks h => by rw [List.mem_singleton.mp h]; exact ⟨Nat.le_refl _, List.nodup_nil, fun k hk => by cases hk⟩⟩, ?_, ?_⟩
  · rintro i d ρ hd ⟨kss, v4, rfl, hkl, hks⟩
    obtain ⟨hi, rfl⟩ := rngD_at hd
    have h2 : 2 ^ i ≤ 2 ^ 6 := Nat.pow_le_pow_right (by decide) (by omega)
    have h3 : kss.length ≤ 64 := by rw [hkl]; exact h2
    refine ⟨by rw [List.length_map]; omega, ?_⟩
    refine compD_map (addF (0 + (i : Int))) ?_ ?_
    · intro d hd k hk
      obtain ⟨ks, hm, rfl⟩ := List.mem_map.mp hd
      have := (hks ks hm).1
      refine ⟨by rw [len_ints]; show ks.length + 1 ≤ 1000; omega, ?_⟩
      exact hk
    rw [addF_map]
    refine ⟨by rw [List.length_map, List.length_map, List.length_map]; omega, ?_⟩
    have ek : dKss (kss ++ kss.map (fun ks => ks ++ [0 + (i : Int)])) = D.lst (kss.map dInts ++ (kss.map (fun ks => ks ++ [0 + (i : Int)])).map dInts) := by unfold dKss; rw [List.map_append]
    refine ⟨kss ++ kss.map (fun ks => ks ++ [0 + (i : Int)]), some (.int (0 + (i : Int))), by rw [ek]; rfl, by rw [List.length_append, List.length_map, hkl, Nat.pow_succ]; omega, fun ks hm => ?_⟩
    rcases List.mem_append.mp hm with hm | hm
    · obtain ⟨a1, a2, a3⟩ := hks ks hm
      exact ⟨by omega, a2, fun k hk => by have := a3 k hk; omega⟩
    · obtain ⟨ks, hm', rfl⟩ := List.mem_map.mp hm
      obtain ⟨a1, a2, a3⟩ := hks ks hm'
      refine ⟨by rw [List.length_append]; show ks.length + 1 ≤ i + 1; omega, ?_, fun k hk => ?_⟩
      · rw [List.nodup_append]
        refine ⟨a2, by simp, fun a ha b hb => ?_⟩
        have := a3 a ha
        rw [List.mem_singleton.mp hb]; omega
      · rcases List.mem_append.mp hk with hk | hk
        · have := a3 k hk; omega
        · rw [List.mem_singleton.mp hk]; omega
  · rintro ρ ⟨kss, v4, rfl, hkl, hks⟩
    rw [rngD_len] at hkl hks
    have h2 : 2 ^ M ≤ 2 ^ 6 := Nat.pow_le_pow_right (by decide) (by omega)
    have h3 : kss.length ≤ 64 := by rw [hkl]; exact h2
    refine ⟨by rw [List.length_map]; omega, ?_⟩
    refine compD_fm (kfF ps rs as) ?_ ?_
    · intro d hd k hk
      obtain ⟨ks, hm, rfl⟩ := List.mem_map.mp hd
      obtain ⟨a1, a2, a3⟩ := hks ks hm
      refine ⟨ps, rs, as, ks, rfl, hT, ha, by omega, fun k hk => by have := a3 k hk; omega, ?_⟩
      rw [kfF_ints] at hk
      show if (overL (loadsZ ps as ks) rs).isEmpty = true then k (some (dInts ks)) else k none
      cases e : (overL (loadsZ ps as ks) rs).isEmpty with
      | true => rw [e] at hk; exact hk
      | false => rw [e] at hk; exact hk
    rw [kfF_map]
    refine ⟨by show 3 < 7; decide, ?_⟩
    refine ⟨⟨by decide, by decide⟩, ?_⟩
    refine ⟨fun i ds ρ => ∃ (kss : List (List Int)) (v4 v5 v6 : Option D), ds = kss.map dInts ∧ ρ = [some (dPair ps rs), some (dAsks as), some (dInts ns), none, v4, v5, v6] ∧ kss.length ≤ 64 + i ∧ (∀ ks ∈ kss, KeepsOk ps rs as ks), ⟨kss.filter fun ks => (overL (loadsZ ps as ks) rs).isEmpty, _, _, _, rfl, rfl, Nat.le_trans (List.length_filter_le _ _) h3, fun ks hm => ?_⟩, ?_, ?_⟩
    · obtain ⟨hm, hf⟩ := List.mem_filter.mp hm
      obtain ⟨a1, a2, a3⟩ := hks ks hm
      have hr : ∀ k ∈ ks, 0 ≤ k ∧ k < (as.length : Int) := fun k hk => by have := a3 k hk; omega
      exact ⟨by omega, hr, beat_of hT ha a2 hr (List.isEmpty_iff.mp hf)⟩
    · rintro i d ds ρ hd ⟨kss, v4, v5, v6, rfl, rfl, hl, hk⟩
      obtain ⟨hi, rfl⟩ := rngD_at hd
      have hi4 : i < 4 := hi
      refine ⟨ns, _, rfl, by show 0 ≤ (if _ then _ else _ : Int); split <;> first | (rename_i hx; exact Int.le_of_lt hx) | exact Int.le_refl 0, ?_⟩
      refine ⟨_, 300 + (0 + (i : Int)), rfl, by omega, by omega, fun c m h0 => ?_⟩
      refine ⟨c, m, ps, rs, as, rfl, h0, hT, ha, fun ks c1 m1 hks1 h1 => ?_⟩
      refine ⟨by rw [List.length_map]; omega, ?_⟩
      refine ⟨kss ++ [ks], _, _, _, by rw [List.map_append]; rfl, rfl, by rw [List.length_append]; show kss.length + 1 ≤ 64 + (i + 1); omega, fun ks' hm => ?_⟩
      rcases List.mem_append.mp hm with hm | hm
      · exact hk ks' hm
      · rw [List.mem_singleton.mp hm]; exact hks1
    · rintro ds ρ ⟨kss, v4, v5, v6, rfl, rfl, hl, hk⟩
      rw [rngD_len] at hl
      exact q0 kss (by have : Int.toNat 4 = 4 := rfl; omega) hk
end I
end
end K27


set_option Elab.async false
set_option linter.all false
set_option maxRecDepth 100000
set_option maxHeartbeats 4000000
set_option exponentiation.threshold 9000
namespace K27
open PySem L2
section
variable {P : Program} {w : World} {K : PySem.W.Frag} {mg : Str → Option Value} {base : Heap} {A : Adr}
theorem ok_l_keeps (T : Txt K mg A) : FnOk P w K mg base CX0 5 A.f_l_keeps A.d_l_keeps ["_law_tree_here", "_law_asks", "_law_script"] (spOf [false, false, false] false sdKeepsD) := I.ok_l_keeps T
theorem cut63 {ns : List Int} (h : ns.length ≤ 63) : cutD (ns.map D.int) none (some 63) = ns.map D.int := by
  unfold cutD
  rw [HT.sIx_none, show (63 : Int) = ((63 : Nat) : Int) from rfl, HT.sIx_nat, List.drop_zero, Nat.sub_zero, List.length_map, show min 63 ns.length = ns.length by omega, List.take_of_length_le (by rw [List.length_map]; exact Nat.le_refl _)]
noncomputable def worthK (as : List Ask) (ks : List Int) : Int := (ks.map fun k => (as.getD k.toNat ask0).worth).sum
noncomputable def wF (as : List Ask) : D → D
  | .int k => .int (as.getD k.toNat ask0).worth
  | d => d
theorem wF_map (as : List Ask) (ks : List Int) : (ks.map D.int).map (wF as) = (ks.map fun k => (as.getD k.toNat ask0).worth).map D.int := by rw [List.map_map, List.map_map]; rfl
noncomputable def worthF (as : List Ask) : D → D
  | .lst xs => .int (worthK as (xs.map intOf))
  | d => d
theorem worthF_ints (as : List Ask) (ks : List Int) : worthF as (dInts ks) = .int (worthK as ks) := by
  show D.int (worthK as ((ks.map D.int).map intOf)) = _
  rw [intOf_map]
theorem worthF_map (as : List Ask) (kss : List (List Int)) : (kss.map dInts).map (worthF as) = (kss.map (worthK as)).map D.int := by
  rw [List.map_map, List.map_map]; exact List.map_congr_left fun ks _ => worthF_ints as ks
theorem worthK_cast (as : List Ask) : ∀ ks : List Int, ((worthK as ks : Int) : Rat) = keepSum (fun a => (a.worth : Rat)) as ks
  | [] => rfl
  | k :: ks => by
    have := worthK_cast as ks
    unfold worthK keepSum at *
    rw [List.map_cons, List.map_cons, List.sum_cons, List.sum_cons, Rat.intCast_add, this]
theorem worthK_abs {ps : List Int} {as : List Ask} {ks : List Int} (ha : AsksOk ps as) (hl : ks.length ≤ 30) (hk : ∀ k ∈ ks, 0 ≤ k ∧ k < (as.length : Int)) : (worthK as ks).natAbs ≤ 30000000000030 := by
  have h := sum_abs_le (n := 1000000000001) (ns := ks.map fun k => (as.getD k.toNat ask0).worth) fun x hx => by
    obtain ⟨k, hm, rfl⟩ := List.mem_map.mp hx
    have := hk k hm
    have hok := ha.ok _ (getD_ask (as := as) (k := k.toNat) (by omega))
    have := hok.w0; have := hok.w1; omega
  rw [List.length_map] at h
  have := Nat.mul_le_mul_right 1000000000001 hl
  unfold worthK
  omega
noncomputable def worF : D → D
  | .tup [.int _, .int _, .int _, .int w] => .int w
  | d => d
theorem worF_map (as : List Ask) : (as.map dAsk).map worF = (as.map (·.worth)).map D.int := by rw [List.map_map, List.map_map]; rfl
theorem getD_zero (n k : Nat) : (List.replicate n (0 : Rat)).getD k 0 = 0 := by
  rw [List.getD_eq_getElem?_getD, List.getElem?_replicate]; split <;> rfl
theorem paidR_zero : ∀ (rs : List Int) (n : Nat), (paidRooms rs (List.replicate n 0)).sum = 0
  | [], n => by cases n <;> rfl
  | _ :: _, 0 => rfl
  | x :: rs, n + 1 => by
    show ((x : Rat) * 0 :: paidRooms rs (List.replicate n 0)).sum = 0
    rw [List.sum_cons, paidR_zero rs n, Rat.mul_zero, Rat.add_zero]
theorem sum_zero : ∀ (w : List Int) (f : Int → Rat), (∀ t, f t = 0) → (w.map f).sum = 0
  | [], _, _ => rfl
  | t :: w, f, h => by rw [List.map_cons, List.sum_cons, sum_zero w f h, h t, Rat.add_zero]
theorem bound_zero {ps rs : List Int} {as : List Ask} (ha : AsksOk ps as) (n : Nat) : boundQ ps rs as (List.replicate n 0) = (((as.map (·.worth)).sum : Int) : Rat) := by
  unfold boundQ
  rw [paidR_zero, Rat.zero_add]
  have : ∀ bs : List Ask, (∀ b ∈ bs, 1 ≤ b.worth) → (bs.map fun a => spareQ ps a a.size (List.replicate n 0)).sum = (((bs.map (·.worth)).sum : Int) : Rat) := by
    intro bs
    induction bs with
    | nil => intro _; rfl
    | cons b bs ih =>
      intro hb
      rw [List.map_cons, List.map_cons, List.sum_cons, List.sum_cons, Rat.intCast_add, ih fun x hx => hb x (.tail _ hx)]
      have hp : paidQ ps b (List.replicate n 0) = 0 := sum_zero _ _ fun t => getD_zero n _
      have hw : (0 : Rat) < (b.worth : Rat) := Rat.intCast_pos.mpr (by have := hb b (.head _); omega)
      have : spareQ ps b b.size (List.replicate n 0) = (b.worth : Rat) := by
        unfold spareQ posQ
        rw [hp, Rat.mul_zero, show (b.worth : Rat) - 0 = (b.worth : Rat) by grind, if_pos hw]
      rw [this]
  exact this as fun b hb => (ha.ok b hb).w0
theorem prices_zero (ps : List Int) : PricesOk ps (List.replicate ps.length 0) :=
  ⟨List.length_replicate .., fun r hr => by rw [List.eq_of_mem_replicate hr]; exact Rat.le_refl, fun r hr => by rw [List.eq_of_mem_replicate hr]; exact bt0 (by decide)⟩
set_option maxHeartbeats 4000000 in
theorem ok_law (T : Txt K mg A) : FnOk P w K mg base CX0 11 A.f_law A.d_law ["_law_script"] (spOf [false] false (sdLaw K)) := by
  have G_l_cell := ok_l_cell (P := P) (w := w) (base := base) T
  have G_l_keeps := ok_l_keeps (P := P) (w := w) (base := base) T
  have G_l_prices := ok_l_prices (P := P) (w := w) (base := base) T
  have G_l_source := ok_l_source (P := P) (w := w) (base := base) T
  have G_l_world := ok_l_world (P := P) (w := w) (base := base) T
  have G_bound_of := ok_bound_of (P := P) (w := w) (base := base) T
  have S := sc_law
  refine fnD T.F_law S ⟨[false], [false, false, false, false, false, false, true, false], false⟩ _ ?hl rfl rfl fun cdv Ar outer s H E hr => ⟨_, (qss_cons (qs_asg (QF.qe (qf_call (G_l_world) (hr.mono (by decide)) rfl T.m_l_world T.k_l_world T.b_l_world (qk_s (qe_var 0) (qk_s qe_int qk_nil)))) (qg_tup rfl (qgs_cons (qg_name (i := 1) S.nd rfl (Or.inl rfl)) (qgs_cons (qg_name (i := 2) S.nd rfl (Or.inr rfl)) qgs_nil)) (takes_cons1 (takes_cons1 takes_nil))))
      (qss_cons (qs_set (i := 3) S.nd rfl (Or.inl rfl) (qe_call (G_l_keeps) (hr.mono (by decide)) rfl T.m_l_keeps T.k_l_keeps T.b_l_keeps (qk_s (qe_var 1) (qk_s (qe_var 2) (qk_s (qe_sliceScr (qe_var 0) qo_none (qo_some qe_int)) qk_nil)))))
      (qss_cons (qs_cut (qs_setComp (i := 4) ["_law_keep_here"] [2] ⟨rfl, rfl, by decide +kernel, rfl, rfl, (by first | exact trivial | exact ⟨rfl, trivial⟩ | exact ⟨rfl, rfl, trivial⟩ | exact ⟨rfl, rfl, rfl, trivial⟩ | exact ⟨rfl, rfl, rfl, rfl, trivial⟩), rfl⟩ rfl S.nd rfl (Or.inl rfl) (qi_list (qe_var 3)) (cg_name 0) (fun _ _ _ _ => ⟨(pg_name (i := 0) (show List.Nodup (["_law_keep_here", "_law_asks"] : List Str) by decide +kernel) rfl (Or.inl rfl)), qif_nil, (qe_callB (call_sumI rfl) dSum rfl T.z_sum bt_sum (qa_cons (qe_comp ["_law_number"] [1] ⟨rfl, rfl, by decide +kernel, rfl, rfl, (by first | exact trivial | exact ⟨rfl, trivial⟩ | exact ⟨rfl, rfl, trivial⟩ | exact ⟨rfl, rfl, rfl, trivial⟩ | exact ⟨rfl, rfl, rfl, rfl, trivial⟩), rfl⟩ rfl (qi_list (qe_var 0)) (cg_name 0) (fun _ _ _ _ => ⟨(pg_name (i := 0) (show List.Nodup (["_law_number", "_law_asks"] : List Str) by decide +kernel) rfl (Or.inl rfl)), qif_nil, (qe_ix ix_seq dIx (qe_ix ix_seq dIx (qe_var 1) (qe_var 0) (fun _ _ => rfl)) qe_int (fun _ _ => rfl))⟩)) qa_nil))⟩)))
      (qss_cons (qs_for PassesOwn.never rfl (qi_range2 rfl T.z_range (qa_cons qe_int (qa_cons qe_int qa_nil))) (qg_name (i := 5) S.nd rfl (Or.inl rfl)) (qss_cons (qs_setO (i := 6) S.nd rfl (Or.inl rfl) (qf_call (G_l_source) (hr.mono (by decide)) rfl T.m_l_source T.k_l_source T.b_l_source (qk_s (qe_call (G_l_cell) (hr.mono (by decide)) rfl T.m_l_cell T.k_l_cell T.b_l_cell (qk_s (qe_var 0) (qk_s (qe_ix ix_seq dIx (qe_lst (qa_cons qe_int (qa_cons qe_int (qa_cons qe_int (qa_cons qe_int (qa_cons qe_int qa_nil)))))) (qe_var 5) (fun _ _ => rfl)) qk_nil))) (qk_s (qe_op op_add dI qe_int (qe_var 5)) qk_nil))))
      (qss_cons (qs_set (i := 7) S.nd rfl (Or.inr rfl) (qe_call (G_bound_of) (hr.mono (by decide)) rfl T.m_bound_of T.k_bound_of T.b_bound_of (qk_s (qe_var 1) (qk_s (qe_var 2) (qk_s (QF.qe (qf_call (G_l_prices) (hr.mono (by decide)) rfl T.m_l_prices T.k_l_prices T.b_l_prices (qk_s (qe_var 1) (qk_s (qe_var 2) (qk_m 6 qk_nil))))) qk_nil)))))
      (qss_one (qs_if (QW.qt (qw_or (qt_cmp op_lt dB (qe_ix ix_seq dIx (qe_var 7) qe_int (fun _ _ => rfl)) qe_int (nomark _)) (qw_or1 (qt_cmp (op_neD hr.units) dNe (qe_comp ["_law_worth"] [7] ⟨rfl, rfl, by decide +kernel, rfl, rfl, (by first | exact trivial | exact ⟨rfl, trivial⟩ | exact ⟨rfl, rfl, trivial⟩ | exact ⟨rfl, rfl, rfl, trivial⟩ | exact ⟨rfl, rfl, rfl, rfl, trivial⟩), rfl⟩ rfl (qi_list (qe_var 4)) (cg_name 0) (fun _ _ _ _ => ⟨(pg_name (i := 0) (show List.Nodup (["_law_worth", "_law_found"] : List Str) by decide +kernel) rfl (Or.inl rfl)), (qif_one (qt_cmp op_gt dB (qe_op op_mulB dIC (qe_var 0) (qe_ix ix_seq dIx (qe_var 1) qe_int (fun _ _ => rfl))) (qe_ix ix_seq dIx (qe_var 1) qe_int (fun _ _ => rfl)) (nomark _))), (qe_var 0)⟩)) (qe_lst qa_nil) (nomark _))))) (qss_one (qs_ret qe_bl)) qss_nil)))))
      (qss_one (qs_ret (qe_cmp (op_eqD hr.units) dEq (qe_call (G_bound_of) (hr.mono (by decide)) rfl T.m_bound_of T.k_bound_of T.b_bound_of (qk_s (qe_var 1) (qk_s (qe_var 2) (qk_s (qe_comp ["_law_room"] [] ⟨rfl, rfl, by decide +kernel, rfl, rfl, (by first | exact trivial | exact ⟨rfl, trivial⟩ | exact ⟨rfl, rfl, trivial⟩ | exact ⟨rfl, rfl, rfl, trivial⟩ | exact ⟨rfl, rfl, rfl, rfl, trivial⟩), rfl⟩ rfl (qi_list (qe_ix ix_seq dIx (qe_var 1) qe_int (fun _ _ => rfl))) (cg_name 0) (fun _ _ _ _ => ⟨(pg_name (i := 0) (show List.Nodup (["_law_room"] : List Str) by decide +kernel) rfl (Or.inl rfl)), qif_nil, (qe_tup (qa_cons qe_int (qa_cons qe_int qa_nil)))⟩)) qk_nil)))) (qe_tup (qa_cons (qe_callB (call_sumI rfl) dSum rfl T.z_sum bt_sum (qa_cons (qe_comp ["_law_ask_here"] [] ⟨rfl, rfl, by decide +kernel, rfl, rfl, (by first | exact trivial | exact ⟨rfl, trivial⟩ | exact ⟨rfl, rfl, trivial⟩ | exact ⟨rfl, rfl, rfl, trivial⟩ | exact ⟨rfl, rfl, rfl, rfl, trivial⟩), rfl⟩ rfl (qi_list (qe_var 2)) (cg_name 0) (fun _ _ _ _ => ⟨(pg_name (i := 0) (show List.Nodup (["_law_ask_here"] : List Str) by decide +kernel) rfl (Or.inl rfl)), qif_nil, (qe_ix ix_seq dIx (qe_var 0) qe_int (fun _ _ => rfl))⟩)) qa_nil)) (qa_cons qe_int qa_nil))) (nomark _)))))))), fun ds q h => ?_⟩
  case hl => intro ds q h; obtain ⟨φ, ns, rfl, _⟩ := h; rfl
  obtain ⟨φ, ns, rfl, hφ, hl, q0⟩ := h
  refine ⟨φ, ns, 23, rfl, hφ, hl, by decide, by decide, fun ps rs as hT _ ha => ?_⟩
  have hal := ha.len
  have hti := hT.hi
  have hlr := hT.len
  refine ⟨hφ, ?_⟩
  refine ⟨ps, rs, as, ns, by rw [cut63 hl]; rfl, hT, ha, hl, fun kss hkl hk => ?_⟩
  refine ⟨fun ρ => ρ = [some (.scr φ ns), some (dPair ps rs), some (dAsks as), some (dKss kss), some (dInts (kss.map (worthK as))), none, none, none], ?_, ?_⟩
  · refine ⟨by rw [List.length_map]; omega, ?_⟩
    refine compD_map (worthF as) ?_ ?_
    · intro d hd k hk'
      obtain ⟨ks, hm, rfl⟩ := List.mem_map.mp hd
      have ho := hk ks hm
      have hol := ho.len
      refine ⟨by rw [len_ints]; omega, ?_⟩
      refine compD_map (wF as) ?_ ?_
      · intro d hd k2 hk2
        obtain ⟨z, hz, rfl⟩ := mem_ints hd
        have hz1 := ho.lo z hz
        refine atD_of (atI_asks (as := as) hz1.1 hz1.2) ?_
        exact hk2
      rw [wF_map]
      refine ⟨_, rfl, ?_⟩
      rw [worthF_ints] at hk'
      exact hk'
    rw [worthF_map]
    rfl
  rintro ρ rfl
  refine ⟨⟨by decide, by decide⟩, ?_⟩
  refine ⟨fun i ρ => ∃ v5 v6 v7, ρ = [some (.scr φ ns), some (dPair ps rs), some (dAsks as), some (dKss kss), some (dInts (kss.map (worthK as))), v5, v6, v7], ⟨_, _, _, rfl⟩, ?_, ?_⟩
  · rintro i d ρ hd ⟨v5, v6, v7, rfl⟩
    obtain ⟨hi, rfl⟩ := rngD_at hd
    have hi3 : i < 4 := hi
    obtain ⟨z, hz, z0, z1⟩ : ∃ z : Int, atI [D.int 0, D.int 1, D.int 32, D.int 33, D.int 34] (1 + (i : Int)) = some (.int z) ∧ 0 ≤ z ∧ z ≤ 34 := by
      match i, hi3 with
      | 0, _ => exact ⟨_, rfl, by decide, by decide⟩
      | 1, _ => exact ⟨_, rfl, by decide, by decide⟩
      | 2, _ => exact ⟨_, rfl, by decide, by decide⟩
      | 3, _ => exact ⟨_, rfl, by decide, by decide⟩
    refine atD_of hz ?_
    refine ⟨φ, ns, z, rfl, hφ, z0, ?_⟩
    refine ⟨_, 70 + (1 + (i : Int)), rfl, by omega, by omega, fun c m h0 => ?_⟩
    refine ⟨c, m, ps, rs, as, rfl, h0, hT, ha, fun prs c1 m1 hp h1 => ?_⟩
    refine ⟨ps, rs, as, prs, rfl, hT, ha, hp, ?_⟩
    have hbt := bound_bt hT ha hp
    have hd0 := den_posI (boundQ ps rs as prs)
    refine (ite2 (c := decide (((boundQ ps rs as prs).den : Int) < 1) = true) (fun c => absurd c (by simp; omega)) (fun _ => ?_))
    refine ⟨by rw [len_ints, List.length_map]; omega, ?_⟩
    refine compD_fm (fun _ => none) ?_ ?_
    · intro d hd k hk'
      obtain ⟨x, hx, rfl⟩ := mem_ints hd
      obtain ⟨ks, hm, rfl⟩ := List.mem_map.mp hx
      have ho := hk ks hm
      refine ⟨⟨sm_of (worthK_abs ha ho.len ho.lo) (by decide +kernel), hbt.smD (by decide)⟩, ?_⟩
      have hle : ((worthK as ks : Int) : Rat) ≤ boundQ ps rs as prs := by rw [worthK_cast]; exact ho.beat prs hp.len hp.pos
      have h3 := (rat_le_iff _ _).mpr hle
      rw [Rat.num_intCast, Rat.den_intCast] at h3
      have e : decide ((boundQ ps rs as prs).num < worthK as ks * (boundQ ps rs as prs).den) = false := decide_eq_false (by omega)
      show if decide ((boundQ ps rs as prs).num < worthK as ks * (boundQ ps rs as prs).den) = true then k (some _) else k none
      rw [e]; exact hk'
    have e0 : ∀ l : List D, l.filterMap (fun _ => (none : Option D)) = [] := fun l => by induction l with | nil => rfl | cons x l ih => rw [List.filterMap_cons]; exact ih
    rw [e0]
    refine ⟨okD_ints [], okD_ints [], ?_⟩
    have e1 : eqD (.lst []) (.lst []) = true := eqD_self 1 _ rfl
    rw [e1]
    exact ⟨_, _, _, rfl⟩
  · rintro ρ ⟨v5, v6, v7, rfl⟩
    refine ⟨by rw [len_ints]; omega, ?_⟩
    refine compD_map (fun _ => dQ 0) (fun d _ k hk => hk) ?_
    have e2 : (rs.map D.int).map (fun _ => dQ 0) = (List.replicate ps.length (0 : Rat)).map dQ := by rw [List.map_map, List.map_replicate, hlr]; exact List.map_const' ..
    rw [e2]
    refine ⟨ps, rs, as, List.replicate ps.length 0, rfl, hT, ha, prices_zero ps, ?_⟩
    refine ⟨by rw [len_asks]; omega, ?_⟩
    refine compD_map worF ?_ ?_
    · intro d hd k hk'
      obtain ⟨a, hm, rfl⟩ := List.mem_map.mp hd
      exact hk'
    rw [worF_map]
    refine ⟨_, rfl, ?_⟩
    have key : okD (D.tup [.int (as.map (·.worth)).sum, .int 1]) = true ∧ eqD (dQ (boundQ ps rs as (List.replicate ps.length 0))) (D.tup [.int (as.map (·.worth)).sum, .int 1]) = true := by
      rw [dQ_int, bound_zero ha, eqDq]; exact ⟨okD_dQ _, decide_eq_true rfl⟩
    have q1 := q0
    rw [← key.2] at q1
    exact ⟨okD_dQ _, key.1, q1⟩
end
theorem us1 {fd : FuncData} {ps : List Str} (h : ∀ a0, bindArgs fd ⟨[a0], []⟩ = pure (ps.zip [a0])) : ∀ us : List Value, us.length = 1 → bindArgs fd ⟨us, []⟩ = pure (ps.zip us) := fun us hl => by
  match us, hl with
  | [a0], _ => exact h a0
theorem us2 {fd : FuncData} {ps : List Str} (h : ∀ a0 a1, bindArgs fd ⟨[a0, a1], []⟩ = pure (ps.zip [a0, a1])) : ∀ us : List Value, us.length = 2 → bindArgs fd ⟨us, []⟩ = pure (ps.zip us) := fun us hl => by
  match us, hl with
  | [a0, a1], _ => exact h a0 a1
theorem us3 {fd : FuncData} {ps : List Str} (h : ∀ a0 a1 a2, bindArgs fd ⟨[a0, a1, a2], []⟩ = pure (ps.zip [a0, a1, a2])) : ∀ us : List Value, us.length = 3 → bindArgs fd ⟨us, []⟩ = pure (ps.zip us) := fun us hl => by
  match us, hl with
  | [a0, a1, a2], _ => exact h a0 a1 a2
theorem us4 {fd : FuncData} {ps : List Str} (h : ∀ a0 a1 a2 a3, bindArgs fd ⟨[a0, a1, a2, a3], []⟩ = pure (ps.zip [a0, a1, a2, a3])) : ∀ us : List Value, us.length = 4 → bindArgs fd ⟨us, []⟩ = pure (ps.zip us) := fun us hl => by
  match us, hl with
  | [a0, a1, a2, a3], _ => exact h a0 a1 a2 a3
theorem all_mk {l : PySem.W.OpenLaw} {w : World} {K : PySem.W.Frag} {h : Heap} {mg : Str → Option Value} {fa f_is_whole f_is_between f_greatest_common f_is_fraction f_has_two_lists f_look_at_tree f_is_place f_are_ends f_is_ask f_look_at_asks f_fraction f_minus f_times f_sum_of f_under f_look_at_ends f_climb f_way_between f_way_of f_is_price f_look_at_prices f_spare_of f_spares f_bound_of f_l_cell f_l_source f_l_draw f_l_tree f_l_lowest f_l_way f_l_ask f_l_world f_l_price f_l_prices f_l_loads f_l_fits f_l_keep f_l_keeps f_law : Addr} (X : K.In h) (G : h.Ns mainGlobals mg) (hfa : mg "law" = some (.ref fa))
    {od_is_whole an_is_whole : Option Addr} {sl_is_whole : Array (Option Value)} {oc_is_whole kV_is_whole dc_is_whole pm_is_whole cd_is_whole ct_is_whole : Value} (a_is_whole : PySem.W.nsIn K mainGlobals "is_whole" = some (some (.ref f_is_whole))) (l_is_whole : K.lookup f_is_whole = some ⟨oc_is_whole, od_is_whole, .func (PySem.W.fnOf "is_whole" "is_whole" (defArgs s_is_whole) (defBody s_is_whole) (defScope s_is_whole) .none kV_is_whole dc_is_whole pm_is_whole an_is_whole cd_is_whole ct_is_whole), sl_is_whole⟩) (c_is_whole : PySem.W.codeIn K cd_is_whole "is_whole" = true) (k_is_whole : PySem.W.keepIn K (.ref f_is_whole) = true)
    {od_is_between an_is_between : Option Addr} {sl_is_between : Array (Option Value)} {oc_is_between kV_is_between dc_is_between pm_is_between cd_is_between ct_is_between : Value} (a_is_between : PySem.W.nsIn K mainGlobals "is_between" = some (some (.ref f_is_between))) (l_is_between : K.lookup f_is_between = some ⟨oc_is_between, od_is_between, .func (PySem.W.fnOf "is_between" "is_between" (defArgs s_is_between) (defBody s_is_between) (defScope s_is_between) .none kV_is_between dc_is_between pm_is_between an_is_between cd_is_between ct_is_between), sl_is_between⟩) (c_is_between : PySem.W.codeIn K cd_is_between "is_between" = true) (k_is_between : PySem.W.keepIn K (.ref f_is_between) = true)
    {od_greatest_common an_greatest_common : Option Addr} {sl_greatest_common : Array (Option Value)} {oc_greatest_common kV_greatest_common dc_greatest_common pm_greatest_common cd_greatest_common ct_greatest_common : Value} (a_greatest_common : PySem.W.nsIn K mainGlobals "greatest_common" = some (some (.ref f_greatest_common))) (l_greatest_common : K.lookup f_greatest_common = some ⟨oc_greatest_common, od_greatest_common, .func (PySem.W.fnOf "greatest_common" "greatest_common" (defArgs s_greatest_common) (defBody s_greatest_common) (defScope s_greatest_common) .none kV_greatest_common dc_greatest_common pm_greatest_common an_greatest_common cd_greatest_common ct_greatest_common), sl_greatest_common⟩) (c_greatest_common : PySem.W.codeIn K cd_greatest_common "greatest_common" = true) (k_greatest_common : PySem.W.keepIn K (.ref f_greatest_common) = true)
    {od_is_fraction an_is_fraction : Option Addr} {sl_is_fraction : Array (Option Value)} {oc_is_fraction kV_is_fraction dc_is_fraction pm_is_fraction cd_is_fraction ct_is_fraction : Value} (a_is_fraction : PySem.W.nsIn K mainGlobals "is_fraction" = some (some (.ref f_is_fraction))) (l_is_fraction : K.lookup f_is_fraction = some ⟨oc_is_fraction, od_is_fraction, .func (PySem.W.fnOf "is_fraction" "is_fraction" (defArgs s_is_fraction) (defBody s_is_fraction) (defScope s_is_fraction) .none kV_is_fraction dc_is_fraction pm_is_fraction an_is_fraction cd_is_fraction ct_is_fraction), sl_is_fraction⟩) (c_is_fraction : PySem.W.codeIn K cd_is_fraction "is_fraction" = true) (k_is_fraction : PySem.W.keepIn K (.ref f_is_fraction) = true)
    {od_has_two_lists an_has_two_lists : Option Addr} {sl_has_two_lists : Array (Option Value)} {oc_has_two_lists kV_has_two_lists dc_has_two_lists pm_has_two_lists cd_has_two_lists ct_has_two_lists : Value} (a_has_two_lists : PySem.W.nsIn K mainGlobals "has_two_lists" = some (some (.ref f_has_two_lists))) (l_has_two_lists : K.lookup f_has_two_lists = some ⟨oc_has_two_lists, od_has_two_lists, .func (PySem.W.fnOf "has_two_lists" "has_two_lists" (defArgs s_has_two_lists) (defBody s_has_two_lists) (defScope s_has_two_lists) .none kV_has_two_lists dc_has_two_lists pm_has_two_lists an_has_two_lists cd_has_two_lists ct_has_two_lists), sl_has_two_lists⟩) (c_has_two_lists : PySem.W.codeIn K cd_has_two_lists "has_two_lists" = true) (k_has_two_lists : PySem.W.keepIn K (.ref f_has_two_lists) = true)
    {od_look_at_tree an_look_at_tree : Option Addr} {sl_look_at_tree : Array (Option Value)} {oc_look_at_tree kV_look_at_tree dc_look_at_tree pm_look_at_tree cd_look_at_tree ct_look_at_tree : Value} (a_look_at_tree : PySem.W.nsIn K mainGlobals "look_at_tree" = some (some (.ref f_look_at_tree))) (l_look_at_tree : K.lookup f_look_at_tree = some ⟨oc_look_at_tree, od_look_at_tree, .func (PySem.W.fnOf "look_at_tree" "look_at_tree" (defArgs s_look_at_tree) (defBody s_look_at_tree) (defScope s_look_at_tree) .none kV_look_at_tree dc_look_at_tree pm_look_at_tree an_look_at_tree cd_look_at_tree ct_look_at_tree), sl_look_at_tree⟩) (c_look_at_tree : PySem.W.codeIn K cd_look_at_tree "look_at_tree" = true) (k_look_at_tree : PySem.W.keepIn K (.ref f_look_at_tree) = true)
    {od_is_place an_is_place : Option Addr} {sl_is_place : Array (Option Value)} {oc_is_place kV_is_place dc_is_place pm_is_place cd_is_place ct_is_place : Value} (a_is_place : PySem.W.nsIn K mainGlobals "is_place" = some (some (.ref f_is_place))) (l_is_place : K.lookup f_is_place = some ⟨oc_is_place, od_is_place, .func (PySem.W.fnOf "is_place" "is_place" (defArgs s_is_place) (defBody s_is_place) (defScope s_is_place) .none kV_is_place dc_is_place pm_is_place an_is_place cd_is_place ct_is_place), sl_is_place⟩) (c_is_place : PySem.W.codeIn K cd_is_place "is_place" = true) (k_is_place : PySem.W.keepIn K (.ref f_is_place) = true)
    {od_are_ends an_are_ends : Option Addr} {sl_are_ends : Array (Option Value)} {oc_are_ends kV_are_ends dc_are_ends pm_are_ends cd_are_ends ct_are_ends : Value} (a_are_ends : PySem.W.nsIn K mainGlobals "are_ends" = some (some (.ref f_are_ends))) (l_are_ends : K.lookup f_are_ends = some ⟨oc_are_ends, od_are_ends, .func (PySem.W.fnOf "are_ends" "are_ends" (defArgs s_are_ends) (defBody s_are_ends) (defScope s_are_ends) .none kV_are_ends dc_are_ends pm_are_ends an_are_ends cd_are_ends ct_are_ends), sl_are_ends⟩) (c_are_ends : PySem.W.codeIn K cd_are_ends "are_ends" = true) (k_are_ends : PySem.W.keepIn K (.ref f_are_ends) = true)
    {od_is_ask an_is_ask : Option Addr} {sl_is_ask : Array (Option Value)} {oc_is_ask kV_is_ask dc_is_ask pm_is_ask cd_is_ask ct_is_ask : Value} (a_is_ask : PySem.W.nsIn K mainGlobals "is_ask" = some (some (.ref f_is_ask))) (l_is_ask : K.lookup f_is_ask = some ⟨oc_is_ask, od_is_ask, .func (PySem.W.fnOf "is_ask" "is_ask" (defArgs s_is_ask) (defBody s_is_ask) (defScope s_is_ask) .none kV_is_ask dc_is_ask pm_is_ask an_is_ask cd_is_ask ct_is_ask), sl_is_ask⟩) (c_is_ask : PySem.W.codeIn K cd_is_ask "is_ask" = true) (k_is_ask : PySem.W.keepIn K (.ref f_is_ask) = true)
    {od_look_at_asks an_look_at_asks : Option Addr} {sl_look_at_asks : Array (Option Value)} {oc_look_at_asks kV_look_at_asks dc_look_at_asks pm_look_at_asks cd_look_at_asks ct_look_at_asks : Value} (a_look_at_asks : PySem.W.nsIn K mainGlobals "look_at_asks" = some (some (.ref f_look_at_asks))) (l_look_at_asks : K.lookup f_look_at_asks = some ⟨oc_look_at_asks, od_look_at_asks, .func (PySem.W.fnOf "look_at_asks" "look_at_asks" (defArgs s_look_at_asks) (defBody s_look_at_asks) (defScope s_look_at_asks) .none kV_look_at_asks dc_look_at_asks pm_look_at_asks an_look_at_asks cd_look_at_asks ct_look_at_asks), sl_look_at_asks⟩) (c_look_at_asks : PySem.W.codeIn K cd_look_at_asks "look_at_asks" = true) (k_look_at_asks : PySem.W.keepIn K (.ref f_look_at_asks) = true)
    {od_fraction an_fraction : Option Addr} {sl_fraction : Array (Option Value)} {oc_fraction kV_fraction dc_fraction pm_fraction cd_fraction ct_fraction : Value} (a_fraction : PySem.W.nsIn K mainGlobals "fraction" = some (some (.ref f_fraction))) (l_fraction : K.lookup f_fraction = some ⟨oc_fraction, od_fraction, .func (PySem.W.fnOf "fraction" "fraction" (defArgs s_fraction) (defBody s_fraction) (defScope s_fraction) .none kV_fraction dc_fraction pm_fraction an_fraction cd_fraction ct_fraction), sl_fraction⟩) (c_fraction : PySem.W.codeIn K cd_fraction "fraction" = true) (k_fraction : PySem.W.keepIn K (.ref f_fraction) = true)
    {od_minus an_minus : Option Addr} {sl_minus : Array (Option Value)} {oc_minus kV_minus dc_minus pm_minus cd_minus ct_minus : Value} (a_minus : PySem.W.nsIn K mainGlobals "minus" = some (some (.ref f_minus))) (l_minus : K.lookup f_minus = some ⟨oc_minus, od_minus, .func (PySem.W.fnOf "minus" "minus" (defArgs s_minus) (defBody s_minus) (defScope s_minus) .none kV_minus dc_minus pm_minus an_minus cd_minus ct_minus), sl_minus⟩) (c_minus : PySem.W.codeIn K cd_minus "minus" = true) (k_minus : PySem.W.keepIn K (.ref f_minus) = true)
    {od_times an_times : Option Addr} {sl_times : Array (Option Value)} {oc_times kV_times dc_times pm_times cd_times ct_times : Value} (a_times : PySem.W.nsIn K mainGlobals "times" = some (some (.ref f_times))) (l_times : K.lookup f_times = some ⟨oc_times, od_times, .func (PySem.W.fnOf "times" "times" (defArgs s_times) (defBody s_times) (defScope s_times) .none kV_times dc_times pm_times an_times cd_times ct_times), sl_times⟩) (c_times : PySem.W.codeIn K cd_times "times" = true) (k_times : PySem.W.keepIn K (.ref f_times) = true)
    {od_sum_of an_sum_of : Option Addr} {sl_sum_of : Array (Option Value)} {oc_sum_of kV_sum_of dc_sum_of pm_sum_of cd_sum_of ct_sum_of : Value} (a_sum_of : PySem.W.nsIn K mainGlobals "sum_of" = some (some (.ref f_sum_of))) (l_sum_of : K.lookup f_sum_of = some ⟨oc_sum_of, od_sum_of, .func (PySem.W.fnOf "sum_of" "sum_of" (defArgs s_sum_of) (defBody s_sum_of) (defScope s_sum_of) .none kV_sum_of dc_sum_of pm_sum_of an_sum_of cd_sum_of ct_sum_of), sl_sum_of⟩) (c_sum_of : PySem.W.codeIn K cd_sum_of "sum_of" = true) (k_sum_of : PySem.W.keepIn K (.ref f_sum_of) = true)
    {od_under an_under : Option Addr} {sl_under : Array (Option Value)} {oc_under kV_under dc_under pm_under cd_under ct_under : Value} (a_under : PySem.W.nsIn K mainGlobals "under" = some (some (.ref f_under))) (l_under : K.lookup f_under = some ⟨oc_under, od_under, .func (PySem.W.fnOf "under" "under" (defArgs s_under) (defBody s_under) (defScope s_under) .none kV_under dc_under pm_under an_under cd_under ct_under), sl_under⟩) (c_under : PySem.W.codeIn K cd_under "under" = true) (k_under : PySem.W.keepIn K (.ref f_under) = true)
    {od_look_at_ends an_look_at_ends : Option Addr} {sl_look_at_ends : Array (Option Value)} {oc_look_at_ends kV_look_at_ends dc_look_at_ends pm_look_at_ends cd_look_at_ends ct_look_at_ends : Value} (a_look_at_ends : PySem.W.nsIn K mainGlobals "look_at_ends" = some (some (.ref f_look_at_ends))) (l_look_at_ends : K.lookup f_look_at_ends = some ⟨oc_look_at_ends, od_look_at_ends, .func (PySem.W.fnOf "look_at_ends" "look_at_ends" (defArgs s_look_at_ends) (defBody s_look_at_ends) (defScope s_look_at_ends) .none kV_look_at_ends dc_look_at_ends pm_look_at_ends an_look_at_ends cd_look_at_ends ct_look_at_ends), sl_look_at_ends⟩) (c_look_at_ends : PySem.W.codeIn K cd_look_at_ends "look_at_ends" = true) (k_look_at_ends : PySem.W.keepIn K (.ref f_look_at_ends) = true)
    {od_climb an_climb : Option Addr} {sl_climb : Array (Option Value)} {oc_climb kV_climb dc_climb pm_climb cd_climb ct_climb : Value} (a_climb : PySem.W.nsIn K mainGlobals "climb" = some (some (.ref f_climb))) (l_climb : K.lookup f_climb = some ⟨oc_climb, od_climb, .func (PySem.W.fnOf "climb" "climb" (defArgs s_climb) (defBody s_climb) (defScope s_climb) .none kV_climb dc_climb pm_climb an_climb cd_climb ct_climb), sl_climb⟩) (c_climb : PySem.W.codeIn K cd_climb "climb" = true) (k_climb : PySem.W.keepIn K (.ref f_climb) = true)
    {od_way_between an_way_between : Option Addr} {sl_way_between : Array (Option Value)} {oc_way_between kV_way_between dc_way_between pm_way_between cd_way_between ct_way_between : Value} (a_way_between : PySem.W.nsIn K mainGlobals "way_between" = some (some (.ref f_way_between))) (l_way_between : K.lookup f_way_between = some ⟨oc_way_between, od_way_between, .func (PySem.W.fnOf "way_between" "way_between" (defArgs s_way_between) (defBody s_way_between) (defScope s_way_between) .none kV_way_between dc_way_between pm_way_between an_way_between cd_way_between ct_way_between), sl_way_between⟩) (c_way_between : PySem.W.codeIn K cd_way_between "way_between" = true) (k_way_between : PySem.W.keepIn K (.ref f_way_between) = true)
    {od_way_of an_way_of : Option Addr} {sl_way_of : Array (Option Value)} {oc_way_of kV_way_of dc_way_of pm_way_of cd_way_of ct_way_of : Value} (a_way_of : PySem.W.nsIn K mainGlobals "way_of" = some (some (.ref f_way_of))) (l_way_of : K.lookup f_way_of = some ⟨oc_way_of, od_way_of, .func (PySem.W.fnOf "way_of" "way_of" (defArgs s_way_of) (defBody s_way_of) (defScope s_way_of) .none kV_way_of dc_way_of pm_way_of an_way_of cd_way_of ct_way_of), sl_way_of⟩) (c_way_of : PySem.W.codeIn K cd_way_of "way_of" = true) (k_way_of : PySem.W.keepIn K (.ref f_way_of) = true)
    {od_is_price an_is_price : Option Addr} {sl_is_price : Array (Option Value)} {oc_is_price kV_is_price dc_is_price pm_is_price cd_is_price ct_is_price : Value} (a_is_price : PySem.W.nsIn K mainGlobals "is_price" = some (some (.ref f_is_price))) (l_is_price : K.lookup f_is_price = some ⟨oc_is_price, od_is_price, .func (PySem.W.fnOf "is_price" "is_price" (defArgs s_is_price) (defBody s_is_price) (defScope s_is_price) .none kV_is_price dc_is_price pm_is_price an_is_price cd_is_price ct_is_price), sl_is_price⟩) (c_is_price : PySem.W.codeIn K cd_is_price "is_price" = true) (k_is_price : PySem.W.keepIn K (.ref f_is_price) = true)
    {od_look_at_prices an_look_at_prices : Option Addr} {sl_look_at_prices : Array (Option Value)} {oc_look_at_prices kV_look_at_prices dc_look_at_prices pm_look_at_prices cd_look_at_prices ct_look_at_prices : Value} (a_look_at_prices : PySem.W.nsIn K mainGlobals "look_at_prices" = some (some (.ref f_look_at_prices))) (l_look_at_prices : K.lookup f_look_at_prices = some ⟨oc_look_at_prices, od_look_at_prices, .func (PySem.W.fnOf "look_at_prices" "look_at_prices" (defArgs s_look_at_prices) (defBody s_look_at_prices) (defScope s_look_at_prices) .none kV_look_at_prices dc_look_at_prices pm_look_at_prices an_look_at_prices cd_look_at_prices ct_look_at_prices), sl_look_at_prices⟩) (c_look_at_prices : PySem.W.codeIn K cd_look_at_prices "look_at_prices" = true) (k_look_at_prices : PySem.W.keepIn K (.ref f_look_at_prices) = true)
    {od_spare_of an_spare_of : Option Addr} {sl_spare_of : Array (Option Value)} {oc_spare_of kV_spare_of dc_spare_of pm_spare_of cd_spare_of ct_spare_of : Value} (a_spare_of : PySem.W.nsIn K mainGlobals "spare_of" = some (some (.ref f_spare_of))) (l_spare_of : K.lookup f_spare_of = some ⟨oc_spare_of, od_spare_of, .func (PySem.W.fnOf "spare_of" "spare_of" (defArgs s_spare_of) (defBody s_spare_of) (defScope s_spare_of) .none kV_spare_of dc_spare_of pm_spare_of an_spare_of cd_spare_of ct_spare_of), sl_spare_of⟩) (c_spare_of : PySem.W.codeIn K cd_spare_of "spare_of" = true) (k_spare_of : PySem.W.keepIn K (.ref f_spare_of) = true)
    {od_spares an_spares : Option Addr} {sl_spares : Array (Option Value)} {oc_spares kV_spares dc_spares pm_spares cd_spares ct_spares : Value} (a_spares : PySem.W.nsIn K mainGlobals "spares" = some (some (.ref f_spares))) (l_spares : K.lookup f_spares = some ⟨oc_spares, od_spares, .func (PySem.W.fnOf "spares" "spares" (defArgs s_spares) (defBody s_spares) (defScope s_spares) .none kV_spares dc_spares pm_spares an_spares cd_spares ct_spares), sl_spares⟩) (c_spares : PySem.W.codeIn K cd_spares "spares" = true) (k_spares : PySem.W.keepIn K (.ref f_spares) = true)
    {od_bound_of an_bound_of : Option Addr} {sl_bound_of : Array (Option Value)} {oc_bound_of kV_bound_of dc_bound_of pm_bound_of cd_bound_of ct_bound_of : Value} (a_bound_of : PySem.W.nsIn K mainGlobals "bound_of" = some (some (.ref f_bound_of))) (l_bound_of : K.lookup f_bound_of = some ⟨oc_bound_of, od_bound_of, .func (PySem.W.fnOf "bound_of" "bound_of" (defArgs s_bound_of) (defBody s_bound_of) (defScope s_bound_of) .none kV_bound_of dc_bound_of pm_bound_of an_bound_of cd_bound_of ct_bound_of), sl_bound_of⟩) (c_bound_of : PySem.W.codeIn K cd_bound_of "bound_of" = true) (k_bound_of : PySem.W.keepIn K (.ref f_bound_of) = true)
    {od_l_cell an_l_cell : Option Addr} {sl_l_cell : Array (Option Value)} {oc_l_cell kV_l_cell dc_l_cell pm_l_cell cd_l_cell ct_l_cell : Value} (a_l_cell : PySem.W.nsIn K mainGlobals "_law_cell" = some (some (.ref f_l_cell))) (l_l_cell : K.lookup f_l_cell = some ⟨oc_l_cell, od_l_cell, .func (PySem.W.fnOf "_law_cell" "_law_cell" (defArgs s_l_cell) (defBody s_l_cell) (defScope s_l_cell) .none kV_l_cell dc_l_cell pm_l_cell an_l_cell cd_l_cell ct_l_cell), sl_l_cell⟩) (c_l_cell : PySem.W.codeIn K cd_l_cell "_law_cell" = true) (k_l_cell : PySem.W.keepIn K (.ref f_l_cell) = true)
    {od_l_source an_l_source : Option Addr} {sl_l_source : Array (Option Value)} {oc_l_source kV_l_source dc_l_source pm_l_source cd_l_source ct_l_source : Value} (a_l_source : PySem.W.nsIn K mainGlobals "_law_source" = some (some (.ref f_l_source))) (l_l_source : K.lookup f_l_source = some ⟨oc_l_source, od_l_source, .func (PySem.W.fnOf "_law_source" "_law_source" (defArgs s_l_source) (defBody s_l_source) (defScope s_l_source) .none kV_l_source dc_l_source pm_l_source an_l_source cd_l_source ct_l_source), sl_l_source⟩) (c_l_source : PySem.W.codeIn K cd_l_source "_law_source" = true) (k_l_source : PySem.W.keepIn K (.ref f_l_source) = true)
    {od_l_draw an_l_draw : Option Addr} {sl_l_draw : Array (Option Value)} {oc_l_draw kV_l_draw dc_l_draw pm_l_draw cd_l_draw ct_l_draw : Value} (a_l_draw : PySem.W.nsIn K mainGlobals "_law_draw" = some (some (.ref f_l_draw))) (l_l_draw : K.lookup f_l_draw = some ⟨oc_l_draw, od_l_draw, .func (PySem.W.fnOf "_law_draw" "_law_draw" (defArgs s_l_draw) (defBody s_l_draw) (defScope s_l_draw) .none kV_l_draw dc_l_draw pm_l_draw an_l_draw cd_l_draw ct_l_draw), sl_l_draw⟩) (c_l_draw : PySem.W.codeIn K cd_l_draw "_law_draw" = true) (k_l_draw : PySem.W.keepIn K (.ref f_l_draw) = true)
    {od_l_tree an_l_tree : Option Addr} {sl_l_tree : Array (Option Value)} {oc_l_tree kV_l_tree dc_l_tree pm_l_tree cd_l_tree ct_l_tree : Value} (a_l_tree : PySem.W.nsIn K mainGlobals "_law_tree" = some (some (.ref f_l_tree))) (l_l_tree : K.lookup f_l_tree = some ⟨oc_l_tree, od_l_tree, .func (PySem.W.fnOf "_law_tree" "_law_tree" (defArgs s_l_tree) (defBody s_l_tree) (defScope s_l_tree) .none kV_l_tree dc_l_tree pm_l_tree an_l_tree cd_l_tree ct_l_tree), sl_l_tree⟩) (c_l_tree : PySem.W.codeIn K cd_l_tree "_law_tree" = true) (k_l_tree : PySem.W.keepIn K (.ref f_l_tree) = true)
    {od_l_lowest an_l_lowest : Option Addr} {sl_l_lowest : Array (Option Value)} {oc_l_lowest kV_l_lowest dc_l_lowest pm_l_lowest cd_l_lowest ct_l_lowest : Value} (a_l_lowest : PySem.W.nsIn K mainGlobals "_law_lowest" = some (some (.ref f_l_lowest))) (l_l_lowest : K.lookup f_l_lowest = some ⟨oc_l_lowest, od_l_lowest, .func (PySem.W.fnOf "_law_lowest" "_law_lowest" (defArgs s_l_lowest) (defBody s_l_lowest) (defScope s_l_lowest) .none kV_l_lowest dc_l_lowest pm_l_lowest an_l_lowest cd_l_lowest ct_l_lowest), sl_l_lowest⟩) (c_l_lowest : PySem.W.codeIn K cd_l_lowest "_law_lowest" = true) (k_l_lowest : PySem.W.keepIn K (.ref f_l_lowest) = true)
    {od_l_way an_l_way : Option Addr} {sl_l_way : Array (Option Value)} {oc_l_way kV_l_way dc_l_way pm_l_way cd_l_way ct_l_way : Value} (a_l_way : PySem.W.nsIn K mainGlobals "_law_way" = some (some (.ref f_l_way))) (l_l_way : K.lookup f_l_way = some ⟨oc_l_way, od_l_way, .func (PySem.W.fnOf "_law_way" "_law_way" (defArgs s_l_way) (defBody s_l_way) (defScope s_l_way) .none kV_l_way dc_l_way pm_l_way an_l_way cd_l_way ct_l_way), sl_l_way⟩) (c_l_way : PySem.W.codeIn K cd_l_way "_law_way" = true) (k_l_way : PySem.W.keepIn K (.ref f_l_way) = true)
    {od_l_ask an_l_ask : Option Addr} {sl_l_ask : Array (Option Value)} {oc_l_ask kV_l_ask dc_l_ask pm_l_ask cd_l_ask ct_l_ask : Value} (a_l_ask : PySem.W.nsIn K mainGlobals "_law_ask" = some (some (.ref f_l_ask))) (l_l_ask : K.lookup f_l_ask = some ⟨oc_l_ask, od_l_ask, .func (PySem.W.fnOf "_law_ask" "_law_ask" (defArgs s_l_ask) (defBody s_l_ask) (defScope s_l_ask) .none kV_l_ask dc_l_ask pm_l_ask an_l_ask cd_l_ask ct_l_ask), sl_l_ask⟩) (c_l_ask : PySem.W.codeIn K cd_l_ask "_law_ask" = true) (k_l_ask : PySem.W.keepIn K (.ref f_l_ask) = true)
    {od_l_world an_l_world : Option Addr} {sl_l_world : Array (Option Value)} {oc_l_world kV_l_world dc_l_world pm_l_world cd_l_world ct_l_world : Value} (a_l_world : PySem.W.nsIn K mainGlobals "_law_world" = some (some (.ref f_l_world))) (l_l_world : K.lookup f_l_world = some ⟨oc_l_world, od_l_world, .func (PySem.W.fnOf "_law_world" "_law_world" (defArgs s_l_world) (defBody s_l_world) (defScope s_l_world) .none kV_l_world dc_l_world pm_l_world an_l_world cd_l_world ct_l_world), sl_l_world⟩) (c_l_world : PySem.W.codeIn K cd_l_world "_law_world" = true) (k_l_world : PySem.W.keepIn K (.ref f_l_world) = true)
    {od_l_price an_l_price : Option Addr} {sl_l_price : Array (Option Value)} {oc_l_price kV_l_price dc_l_price pm_l_price cd_l_price ct_l_price : Value} (a_l_price : PySem.W.nsIn K mainGlobals "_law_price" = some (some (.ref f_l_price))) (l_l_price : K.lookup f_l_price = some ⟨oc_l_price, od_l_price, .func (PySem.W.fnOf "_law_price" "_law_price" (defArgs s_l_price) (defBody s_l_price) (defScope s_l_price) .none kV_l_price dc_l_price pm_l_price an_l_price cd_l_price ct_l_price), sl_l_price⟩) (c_l_price : PySem.W.codeIn K cd_l_price "_law_price" = true) (k_l_price : PySem.W.keepIn K (.ref f_l_price) = true)
    {od_l_prices an_l_prices : Option Addr} {sl_l_prices : Array (Option Value)} {oc_l_prices kV_l_prices dc_l_prices pm_l_prices cd_l_prices ct_l_prices : Value} (a_l_prices : PySem.W.nsIn K mainGlobals "_law_prices" = some (some (.ref f_l_prices))) (l_l_prices : K.lookup f_l_prices = some ⟨oc_l_prices, od_l_prices, .func (PySem.W.fnOf "_law_prices" "_law_prices" (defArgs s_l_prices) (defBody s_l_prices) (defScope s_l_prices) .none kV_l_prices dc_l_prices pm_l_prices an_l_prices cd_l_prices ct_l_prices), sl_l_prices⟩) (c_l_prices : PySem.W.codeIn K cd_l_prices "_law_prices" = true) (k_l_prices : PySem.W.keepIn K (.ref f_l_prices) = true)
    {od_l_loads an_l_loads : Option Addr} {sl_l_loads : Array (Option Value)} {oc_l_loads kV_l_loads dc_l_loads pm_l_loads cd_l_loads ct_l_loads : Value} (a_l_loads : PySem.W.nsIn K mainGlobals "_law_loads" = some (some (.ref f_l_loads))) (l_l_loads : K.lookup f_l_loads = some ⟨oc_l_loads, od_l_loads, .func (PySem.W.fnOf "_law_loads" "_law_loads" (defArgs s_l_loads) (defBody s_l_loads) (defScope s_l_loads) .none kV_l_loads dc_l_loads pm_l_loads an_l_loads cd_l_loads ct_l_loads), sl_l_loads⟩) (c_l_loads : PySem.W.codeIn K cd_l_loads "_law_loads" = true) (k_l_loads : PySem.W.keepIn K (.ref f_l_loads) = true)
    {od_l_fits an_l_fits : Option Addr} {sl_l_fits : Array (Option Value)} {oc_l_fits kV_l_fits dc_l_fits pm_l_fits cd_l_fits ct_l_fits : Value} (a_l_fits : PySem.W.nsIn K mainGlobals "_law_fits" = some (some (.ref f_l_fits))) (l_l_fits : K.lookup f_l_fits = some ⟨oc_l_fits, od_l_fits, .func (PySem.W.fnOf "_law_fits" "_law_fits" (defArgs s_l_fits) (defBody s_l_fits) (defScope s_l_fits) .none kV_l_fits dc_l_fits pm_l_fits an_l_fits cd_l_fits ct_l_fits), sl_l_fits⟩) (c_l_fits : PySem.W.codeIn K cd_l_fits "_law_fits" = true) (k_l_fits : PySem.W.keepIn K (.ref f_l_fits) = true)
    {od_l_keep an_l_keep : Option Addr} {sl_l_keep : Array (Option Value)} {oc_l_keep kV_l_keep dc_l_keep pm_l_keep cd_l_keep ct_l_keep : Value} (a_l_keep : PySem.W.nsIn K mainGlobals "_law_keep" = some (some (.ref f_l_keep))) (l_l_keep : K.lookup f_l_keep = some ⟨oc_l_keep, od_l_keep, .func (PySem.W.fnOf "_law_keep" "_law_keep" (defArgs s_l_keep) (defBody s_l_keep) (defScope s_l_keep) .none kV_l_keep dc_l_keep pm_l_keep an_l_keep cd_l_keep ct_l_keep), sl_l_keep⟩) (c_l_keep : PySem.W.codeIn K cd_l_keep "_law_keep" = true) (k_l_keep : PySem.W.keepIn K (.ref f_l_keep) = true)
    {od_l_keeps an_l_keeps : Option Addr} {sl_l_keeps : Array (Option Value)} {oc_l_keeps kV_l_keeps dc_l_keeps pm_l_keeps cd_l_keeps ct_l_keeps : Value} (a_l_keeps : PySem.W.nsIn K mainGlobals "_law_keeps" = some (some (.ref f_l_keeps))) (l_l_keeps : K.lookup f_l_keeps = some ⟨oc_l_keeps, od_l_keeps, .func (PySem.W.fnOf "_law_keeps" "_law_keeps" (defArgs s_l_keeps) (defBody s_l_keeps) (defScope s_l_keeps) .none kV_l_keeps dc_l_keeps pm_l_keeps an_l_keeps cd_l_keeps ct_l_keeps), sl_l_keeps⟩) (c_l_keeps : PySem.W.codeIn K cd_l_keeps "_law_keeps" = true) (k_l_keeps : PySem.W.keepIn K (.ref f_l_keeps) = true)
    {od_law an_law : Option Addr} {sl_law : Array (Option Value)} {oc_law kV_law dc_law pm_law cd_law ct_law : Value} (a_law : PySem.W.nsIn K mainGlobals "law" = some (some (.ref f_law))) (l_law : K.lookup f_law = some ⟨oc_law, od_law, .func (PySem.W.fnOf "law" "law" (defArgs s_law) (defBody s_law) (defScope s_law) .none kV_law dc_law pm_law an_law cd_law ct_law), sl_law⟩) (c_law : PySem.W.codeIn K cd_law "law" = true) (k_law : PySem.W.keepIn K (.ref f_law) = true)
    {t_MOST_TIES : Tok} (c_MOST_TIES : PySem.W.nsIn K mainGlobals "MOST_TIES" = some (some (.int 23 t_MOST_TIES)))
    {t_MOST_ROOM : Tok} (c_MOST_ROOM : PySem.W.nsIn K mainGlobals "MOST_ROOM" = some (some (.int 1000000 t_MOST_ROOM)))
    {t_MOST_ASKS : Tok} (c_MOST_ASKS : PySem.W.nsIn K mainGlobals "MOST_ASKS" = some (some (.int 30 t_MOST_ASKS)))
    {t_MOST_SIZE : Tok} (c_MOST_SIZE : PySem.W.nsIn K mainGlobals "MOST_SIZE" = some (some (.int 1000000 t_MOST_SIZE)))
    {t_MOST_WORTH : Tok} (c_MOST_WORTH : PySem.W.nsIn K mainGlobals "MOST_WORTH" = some (some (.int 1000000000000 t_MOST_WORTH)))
    (z_abs : PySem.W.nsIn K mainGlobals "abs" = some none)
    (z_bool : PySem.W.nsIn K mainGlobals "bool" = some none)
    (z_enumerate : PySem.W.nsIn K mainGlobals "enumerate" = some none)
    (z_int : PySem.W.nsIn K mainGlobals "int" = some none)
    (z_isinstance : PySem.W.nsIn K mainGlobals "isinstance" = some none)
    (z_len : PySem.W.nsIn K mainGlobals "len" = some none)
    (z_list : PySem.W.nsIn K mainGlobals "list" = some none)
    (z_max : PySem.W.nsIn K mainGlobals "max" = some none)
    (z_min : PySem.W.nsIn K mainGlobals "min" = some none)
    (z_range : PySem.W.nsIn K mainGlobals "range" = some none)
    (z_sorted : PySem.W.nsIn K mainGlobals "sorted" = some none)
    (z_sum : PySem.W.nsIn K mainGlobals "sum" = some none)
    (z_tuple : PySem.W.nsIn K mainGlobals "tuple" = some none)
    (z_zip : PySem.W.nsIn K mainGlobals "zip" = some none)
    : ∃ fd : FuncData, (∀ (s : Shared) (v : Value), BindsTo s fd ⟨[v], []⟩ [("_law_script", v)]) ∧ ∀ base : Heap, K.In base → base.Ns mainGlobals mg → FnOk l.prog w K mg base CX0 11 fa fd ["_law_script"] (spLaw K) := by
  have e := hfa.symm.trans (PySem.W.mg_of X G a_law)
  cases e
  have F_is_whole := fun_mk (st := s_is_whole) l_is_whole c_is_whole k_is_whole
  have b_is_whole := F_is_whole.binds (ps := ["thing"]) fun _ _ _ _ _ _ us hl => us1 (fun _ => rfl) us hl
  have F_is_between := fun_mk (st := s_is_between) l_is_between c_is_between k_is_between
  have b_is_between := F_is_between.binds (ps := ["thing", "least", "most"]) fun _ _ _ _ _ _ us hl => us3 (fun _ _ _ => rfl) us hl
  have F_greatest_common := fun_mk (st := s_greatest_common) l_greatest_common c_greatest_common k_greatest_common
  have b_greatest_common := F_greatest_common.binds (ps := ["number", "bottom"]) fun _ _ _ _ _ _ us hl => us2 (fun _ _ => rfl) us hl
  have F_is_fraction := fun_mk (st := s_is_fraction) l_is_fraction c_is_fraction k_is_fraction
  have b_is_fraction := F_is_fraction.binds (ps := ["thing"]) fun _ _ _ _ _ _ us hl => us1 (fun _ => rfl) us hl
  have F_has_two_lists := fun_mk (st := s_has_two_lists) l_has_two_lists c_has_two_lists k_has_two_lists
  have b_has_two_lists := F_has_two_lists.binds (ps := ["thing"]) fun _ _ _ _ _ _ us hl => us1 (fun _ => rfl) us hl
  have F_look_at_tree := fun_mk (st := s_look_at_tree) l_look_at_tree c_look_at_tree k_look_at_tree
  have b_look_at_tree := F_look_at_tree.binds (ps := ["thing"]) fun _ _ _ _ _ _ us hl => us1 (fun _ => rfl) us hl
  have F_is_place := fun_mk (st := s_is_place) l_is_place c_is_place k_is_place
  have b_is_place := F_is_place.binds (ps := ["tree", "thing"]) fun _ _ _ _ _ _ us hl => us2 (fun _ _ => rfl) us hl
  have F_are_ends := fun_mk (st := s_are_ends) l_are_ends c_are_ends k_are_ends
  have b_are_ends := F_are_ends.binds (ps := ["tree", "one", "other"]) fun _ _ _ _ _ _ us hl => us3 (fun _ _ _ => rfl) us hl
  have F_is_ask := fun_mk (st := s_is_ask) l_is_ask c_is_ask k_is_ask
  have b_is_ask := F_is_ask.binds (ps := ["tree", "thing"]) fun _ _ _ _ _ _ us hl => us2 (fun _ _ => rfl) us hl
  have F_look_at_asks := fun_mk (st := s_look_at_asks) l_look_at_asks c_look_at_asks k_look_at_asks
  have b_look_at_asks := F_look_at_asks.binds (ps := ["tree", "thing"]) fun _ _ _ _ _ _ us hl => us2 (fun _ _ => rfl) us hl
  have F_fraction := fun_mk (st := s_fraction) l_fraction c_fraction k_fraction
  have b_fraction := F_fraction.binds (ps := ["top", "bottom"]) fun _ _ _ _ _ _ us hl => us2 (fun _ _ => rfl) us hl
  have F_minus := fun_mk (st := s_minus) l_minus c_minus k_minus
  have b_minus := F_minus.binds (ps := ["one", "other"]) fun _ _ _ _ _ _ us hl => us2 (fun _ _ => rfl) us hl
  have F_times := fun_mk (st := s_times) l_times c_times k_times
  have b_times := F_times.binds (ps := ["one", "other"]) fun _ _ _ _ _ _ us hl => us2 (fun _ _ => rfl) us hl
  have F_sum_of := fun_mk (st := s_sum_of) l_sum_of c_sum_of k_sum_of
  have b_sum_of := F_sum_of.binds (ps := ["some"]) fun _ _ _ _ _ _ us hl => us1 (fun _ => rfl) us hl
  have F_under := fun_mk (st := s_under) l_under c_under k_under
  have b_under := F_under.binds (ps := ["one", "other"]) fun _ _ _ _ _ _ us hl => us2 (fun _ _ => rfl) us hl
  have F_look_at_ends := fun_mk (st := s_look_at_ends) l_look_at_ends c_look_at_ends k_look_at_ends
  have b_look_at_ends := F_look_at_ends.binds (ps := ["tree", "one", "other"]) fun _ _ _ _ _ _ us hl => us3 (fun _ _ _ => rfl) us hl
  have F_climb := fun_mk (st := s_climb) l_climb c_climb k_climb
  have b_climb := F_climb.binds (ps := ["tree", "one", "other"]) fun _ _ _ _ _ _ us hl => us3 (fun _ _ _ => rfl) us hl
  have F_way_between := fun_mk (st := s_way_between) l_way_between c_way_between k_way_between
  have b_way_between := F_way_between.binds (ps := ["tree", "one", "other"]) fun _ _ _ _ _ _ us hl => us3 (fun _ _ _ => rfl) us hl
  have F_way_of := fun_mk (st := s_way_of) l_way_of c_way_of k_way_of
  have b_way_of := F_way_of.binds (ps := ["tree", "ask"]) fun _ _ _ _ _ _ us hl => us2 (fun _ _ => rfl) us hl
  have F_is_price := fun_mk (st := s_is_price) l_is_price c_is_price k_is_price
  have b_is_price := F_is_price.binds (ps := ["thing"]) fun _ _ _ _ _ _ us hl => us1 (fun _ => rfl) us hl
  have F_look_at_prices := fun_mk (st := s_look_at_prices) l_look_at_prices c_look_at_prices k_look_at_prices
  have b_look_at_prices := F_look_at_prices.binds (ps := ["tree", "thing"]) fun _ _ _ _ _ _ us hl => us2 (fun _ _ => rfl) us hl
  have F_spare_of := fun_mk (st := s_spare_of) l_spare_of c_spare_of k_spare_of
  have b_spare_of := F_spare_of.binds (ps := ["tree", "ask", "weight", "prices"]) fun _ _ _ _ _ _ us hl => us4 (fun _ _ _ _ => rfl) us hl
  have F_spares := fun_mk (st := s_spares) l_spares c_spares k_spares
  have b_spares := F_spares.binds (ps := ["tree", "asks", "prices"]) fun _ _ _ _ _ _ us hl => us3 (fun _ _ _ => rfl) us hl
  have F_bound_of := fun_mk (st := s_bound_of) l_bound_of c_bound_of k_bound_of
  have b_bound_of := F_bound_of.binds (ps := ["tree", "asks", "prices"]) fun _ _ _ _ _ _ us hl => us3 (fun _ _ _ => rfl) us hl
  have F_l_cell := fun_mk (st := s_l_cell) l_l_cell c_l_cell k_l_cell
  have b_l_cell := F_l_cell.binds (ps := ["_law_script", "_law_k"]) fun _ _ _ _ _ _ us hl => us2 (fun _ _ => rfl) us hl
  have F_l_source := fun_mk (st := s_l_source) l_l_source c_l_source k_l_source
  have b_l_source := F_l_source.binds (ps := ["_law_cell_here", "_law_k"]) fun _ _ _ _ _ _ us hl => us2 (fun _ _ => rfl) us hl
  have F_l_draw := fun_mk (st := s_l_draw) l_l_draw c_l_draw k_l_draw
  have b_l_draw := F_l_draw.binds (ps := ["_law_source_here", "_law_many"]) fun _ _ _ _ _ _ us hl => us2 (fun _ _ => rfl) us hl
  have F_l_tree := fun_mk (st := s_l_tree) l_l_tree c_l_tree k_l_tree
  have b_l_tree := F_l_tree.binds (ps := ["_law_source_here", "_law_most"]) fun _ _ _ _ _ _ us hl => us2 (fun _ _ => rfl) us hl
  have F_l_lowest := fun_mk (st := s_l_lowest) l_l_lowest c_l_lowest k_l_lowest
  have b_l_lowest := F_l_lowest.binds (ps := ["_law_top", "_law_bottom"]) fun _ _ _ _ _ _ us hl => us2 (fun _ _ => rfl) us hl
  have F_l_way := fun_mk (st := s_l_way) l_l_way c_l_way k_l_way
  have b_l_way := F_l_way.binds (ps := ["_law_parents", "_law_one", "_law_other"]) fun _ _ _ _ _ _ us hl => us3 (fun _ _ _ => rfl) us hl
  have F_l_ask := fun_mk (st := s_l_ask) l_l_ask c_l_ask k_l_ask
  have b_l_ask := F_l_ask.binds (ps := ["_law_source_here", "_law_many", "_law_sizes", "_law_worths"]) fun _ _ _ _ _ _ us hl => us4 (fun _ _ _ _ => rfl) us hl
  have F_l_world := fun_mk (st := s_l_world) l_l_world c_l_world k_l_world
  have b_l_world := F_l_world.binds (ps := ["_law_script", "_law_most"]) fun _ _ _ _ _ _ us hl => us2 (fun _ _ => rfl) us hl
  have F_l_price := fun_mk (st := s_l_price) l_l_price c_l_price k_l_price
  have b_l_price := F_l_price.binds (ps := ["_law_source_here", "_law_great"]) fun _ _ _ _ _ _ us hl => us2 (fun _ _ => rfl) us hl
  have F_l_prices := fun_mk (st := s_l_prices) l_l_prices c_l_prices k_l_prices
  have b_l_prices := F_l_prices.binds (ps := ["_law_tree_here", "_law_asks", "_law_source_here"]) fun _ _ _ _ _ _ us hl => us3 (fun _ _ _ => rfl) us hl
  have F_l_loads := fun_mk (st := s_l_loads) l_l_loads c_l_loads k_l_loads
  have b_l_loads := F_l_loads.binds (ps := ["_law_tree_here", "_law_asks", "_law_keep_here"]) fun _ _ _ _ _ _ us hl => us3 (fun _ _ _ => rfl) us hl
  have F_l_fits := fun_mk (st := s_l_fits) l_l_fits c_l_fits k_l_fits
  have b_l_fits := F_l_fits.binds (ps := ["_law_tree_here", "_law_asks", "_law_keep_here"]) fun _ _ _ _ _ _ us hl => us3 (fun _ _ _ => rfl) us hl
  have F_l_keep := fun_mk (st := s_l_keep) l_l_keep c_l_keep k_l_keep
  have b_l_keep := F_l_keep.binds (ps := ["_law_tree_here", "_law_asks", "_law_source_here"]) fun _ _ _ _ _ _ us hl => us3 (fun _ _ _ => rfl) us hl
  have F_l_keeps := fun_mk (st := s_l_keeps) l_l_keeps c_l_keeps k_l_keeps
  have b_l_keeps := F_l_keeps.binds (ps := ["_law_tree_here", "_law_asks", "_law_script"]) fun _ _ _ _ _ _ us hl => us3 (fun _ _ _ => rfl) us hl
  have F_law := fun_mk (st := s_law) l_law c_law k_law
  have b_law := F_law.binds (ps := ["_law_script"]) fun _ _ _ _ _ _ us hl => us1 (fun _ => rfl) us hl
  have T : Txt K mg ⟨f_is_whole, _, f_is_between, _, f_greatest_common, _, f_is_fraction, _, f_has_two_lists, _, f_look_at_tree, _, f_is_place, _, f_are_ends, _, f_is_ask, _, f_look_at_asks, _, f_fraction, _, f_minus, _, f_times, _, f_sum_of, _, f_under, _, f_look_at_ends, _, f_climb, _, f_way_between, _, f_way_of, _, f_is_price, _, f_look_at_prices, _, f_spare_of, _, f_spares, _, f_bound_of, _, f_l_cell, _, f_l_source, _, f_l_draw, _, f_l_tree, _, f_l_lowest, _, f_l_way, _, f_l_ask, _, f_l_world, _, f_l_price, _, f_l_prices, _, f_l_loads, _, f_l_fits, _, f_l_keep, _, f_l_keeps, _, fa, _⟩ := ⟨F_is_whole, b_is_whole, k_is_whole, PySem.W.mg_of X G a_is_whole, F_is_between, b_is_between, k_is_between, PySem.W.mg_of X G a_is_between, F_greatest_common, b_greatest_common, k_greatest_common, PySem.W.mg_of X G a_greatest_common, F_is_fraction, b_is_fraction, k_is_fraction, PySem.W.mg_of X G a_is_fraction, F_has_two_lists, b_has_two_lists, k_has_two_lists, PySem.W.mg_of X G a_has_two_lists, F_look_at_tree, b_look_at_tree, k_look_at_tree, PySem.W.mg_of X G a_look_at_tree, F_is_place, b_is_place, k_is_place, PySem.W.mg_of X G a_is_place, F_are_ends, b_are_ends, k_are_ends, PySem.W.mg_of X G a_are_ends, F_is_ask, b_is_ask, k_is_ask, PySem.W.mg_of X G a_is_ask, F_look_at_asks, b_look_at_asks, k_look_at_asks, PySem.W.mg_of X G a_look_at_asks, F_fraction, b_fraction, k_fraction, PySem.W.mg_of X G a_fraction, F_minus, b_minus, k_minus, PySem.W.mg_of X G a_minus, F_times, b_times, k_times, PySem.W.mg_of X G a_times, F_sum_of, b_sum_of, k_sum_of, PySem.W.mg_of X G a_sum_of, F_under, b_under, k_under, PySem.W.mg_of X G a_under, F_look_at_ends, b_look_at_ends, k_look_at_ends, PySem.W.mg_of X G a_look_at_ends, F_climb, b_climb, k_climb, PySem.W.mg_of X G a_climb, F_way_between, b_way_between, k_way_between, PySem.W.mg_of X G a_way_between, F_way_of, b_way_of, k_way_of, PySem.W.mg_of X G a_way_of, F_is_price, b_is_price, k_is_price, PySem.W.mg_of X G a_is_price, F_look_at_prices, b_look_at_prices, k_look_at_prices, PySem.W.mg_of X G a_look_at_prices, F_spare_of, b_spare_of, k_spare_of, PySem.W.mg_of X G a_spare_of, F_spares, b_spares, k_spares, PySem.W.mg_of X G a_spares, F_bound_of, b_bound_of, k_bound_of, PySem.W.mg_of X G a_bound_of, F_l_cell, b_l_cell, k_l_cell, PySem.W.mg_of X G a_l_cell, F_l_source, b_l_source, k_l_source, PySem.W.mg_of X G a_l_source, F_l_draw, b_l_draw, k_l_draw, PySem.W.mg_of X G a_l_draw, F_l_tree, b_l_tree, k_l_tree, PySem.W.mg_of X G a_l_tree, F_l_lowest, b_l_lowest, k_l_lowest, PySem.W.mg_of X G a_l_lowest, F_l_way, b_l_way, k_l_way, PySem.W.mg_of X G a_l_way, F_l_ask, b_l_ask, k_l_ask, PySem.W.mg_of X G a_l_ask, F_l_world, b_l_world, k_l_world, PySem.W.mg_of X G a_l_world, F_l_price, b_l_price, k_l_price, PySem.W.mg_of X G a_l_price, F_l_prices, b_l_prices, k_l_prices, PySem.W.mg_of X G a_l_prices, F_l_loads, b_l_loads, k_l_loads, PySem.W.mg_of X G a_l_loads, F_l_fits, b_l_fits, k_l_fits, PySem.W.mg_of X G a_l_fits, F_l_keep, b_l_keep, k_l_keep, PySem.W.mg_of X G a_l_keep, F_l_keeps, b_l_keeps, k_l_keeps, PySem.W.mg_of X G a_l_keeps, F_law, b_law, k_law, PySem.W.mg_of X G a_law, PySem.W.mg_none_of X G z_abs, PySem.W.mg_none_of X G z_bool, PySem.W.mg_none_of X G z_enumerate, PySem.W.mg_none_of X G z_int, PySem.W.mg_none_of X G z_isinstance, PySem.W.mg_none_of X G z_len, PySem.W.mg_none_of X G z_list, PySem.W.mg_none_of X G z_max, PySem.W.mg_none_of X G z_min, PySem.W.mg_none_of X G z_range, PySem.W.mg_none_of X G z_sorted, PySem.W.mg_none_of X G z_sum, PySem.W.mg_none_of X G z_tuple, PySem.W.mg_none_of X G z_zip, ⟨_, PySem.W.mg_of X G c_MOST_TIES⟩, ⟨_, PySem.W.mg_of X G c_MOST_ROOM⟩, ⟨_, PySem.W.mg_of X G c_MOST_ASKS⟩, ⟨_, PySem.W.mg_of X G c_MOST_SIZE⟩, ⟨_, PySem.W.mg_of X G c_MOST_WORTH⟩⟩
  exact ⟨PySem.W.fnOf "law" "law" (defArgs s_law) (defBody s_law) (defScope s_law) .none kV_law dc_law pm_law an_law cd_law ct_law, fun s v => .of_eq rfl, fun base _ _ => (ok_law T).imp fun _ _ _ _ h => spLaw_of h⟩
theorem walk {l : PySem.W.OpenLaw} {q : Program} {loose : List Str} {XP : (Str → Option Value) → Heap → Prop} {YP : World → Heap → Prop} {d : DefRec} {K : Params → PySem.W.Frag} (hn : l.most = some 63) (hdf : d.params.defaults = [])
    (hY : ∀ (w : World) (h : Heap), YP w h → (K w.params).In h)
    (F : ∀ (w : World) (mg : Str → Option Value) (fa : Addr) (h : Heap), (K w.params).In h → h.Ns mainGlobals mg → mg d.name = some (.ref fa) →
      ∃ fd : FuncData, (∀ (s : Shared) (u : Value), BindsTo s fd ⟨[u], []⟩ [("_law_script", u)]) ∧ ∀ base : Heap, (K w.params).In base → base.Ns mainGlobals mg → FnOk l.prog w (K w.params) mg base CX0 11 fa fd ["_law_script"] (spLaw (K w.params))) :
    PySem.W.WalkO q loose XP YP l.row.toRowW d [] (fun f vs => PySem.call f vs) :=
  L2.walk_of (n := 63) (k := 11) (x := "_law_script") (CX := fun _ => CX0) (sp := fun w => spLaw (K w.params)) hn (by decide) hdf ⟨rfl, by decide, by decide⟩ hY F (fun _ _ a ns hl hO hS => ⟨a, ns, rfl, hO, hS, hl, fun _ => rfl⟩) fun _ _ _ _ _ z => z
end K27
open PySem PySem.W PyProof.Rows
set_option maxRecDepth 100000 in
set_option maxHeartbeats 0 in
theorem PySem.Challenge.cw_treeasks_k27_whole_no_keep_beats_a_bound_holds : PySem.Challenge.rw_treeasks_k27_whole_no_keep_beats_a_bound.Holds := by
  w_on; o_law; k_head; (case hw => w_witness2)
  k_fill
  refine K27.walk (l := PySem.Challenge.rw_treeasks_k27_whole_no_keep_beats_a_bound) rfl rfl (fun w h Y => PySem.W.kIn_of Y) ?F
  case F =>
    intro w mg fa h KX G hmg
    refine' K27.all_mk KX G hmg ?a_is_whole ?l_is_whole ?c_is_whole ?k_is_whole ?a_is_between ?l_is_between ?c_is_between ?k_is_between ?a_greatest_common ?l_greatest_common ?c_greatest_common ?k_greatest_common ?a_is_fraction ?l_is_fraction ?c_is_fraction ?k_is_fraction ?a_has_two_lists ?l_has_two_lists ?c_has_two_lists ?k_has_two_lists ?a_look_at_tree ?l_look_at_tree ?c_look_at_tree ?k_look_at_tree ?a_is_place ?l_is_place ?c_is_place ?k_is_place ?a_are_ends ?l_are_ends ?c_are_ends ?k_are_ends ?a_is_ask ?l_is_ask ?c_is_ask ?k_is_ask ?a_look_at_asks ?l_look_at_asks ?c_look_at_asks ?k_look_at_asks ?a_fraction ?l_fraction ?c_fraction ?k_fraction ?a_minus ?l_minus ?c_minus ?k_minus ?a_times ?l_times ?c_times ?k_times ?a_sum_of ?l_sum_of ?c_sum_of ?k_sum_of ?a_under ?l_under ?c_under ?k_under ?a_look_at_ends ?l_look_at_ends ?c_look_at_ends ?k_look_at_ends ?a_climb ?l_climb ?c_climb ?k_climb ?a_way_between ?l_way_between ?c_way_between ?k_way_between ?a_way_of ?l_way_of ?c_way_of ?k_way_of ?a_is_price ?l_is_price ?c_is_price ?k_is_price ?a_look_at_prices ?l_look_at_prices ?c_look_at_prices ?k_look_at_prices ?a_spare_of ?l_spare_of ?c_spare_of ?k_spare_of ?a_spares ?l_spares ?c_spares ?k_spares ?a_bound_of ?l_bound_of ?c_bound_of ?k_bound_of ?a_l_cell ?l_l_cell ?c_l_cell ?k_l_cell ?a_l_source ?l_l_source ?c_l_source ?k_l_source ?a_l_draw ?l_l_draw ?c_l_draw ?k_l_draw ?a_l_tree ?l_l_tree ?c_l_tree ?k_l_tree ?a_l_lowest ?l_l_lowest ?c_l_lowest ?k_l_lowest ?a_l_way ?l_l_way ?c_l_way ?k_l_way ?a_l_ask ?l_l_ask ?c_l_ask ?k_l_ask ?a_l_world ?l_l_world ?c_l_world ?k_l_world ?a_l_price ?l_l_price ?c_l_price ?k_l_price ?a_l_prices ?l_l_prices ?c_l_prices ?k_l_prices ?a_l_loads ?l_l_loads ?c_l_loads ?k_l_loads ?a_l_fits ?l_l_fits ?c_l_fits ?k_l_fits ?a_l_keep ?l_l_keep ?c_l_keep ?k_l_keep ?a_l_keeps ?l_l_keeps ?c_l_keeps ?k_l_keeps ?a_law ?l_law ?c_law ?k_law ?c_MOST_TIES ?c_MOST_ROOM ?c_MOST_ASKS ?c_MOST_SIZE ?c_MOST_WORTH ?z_abs ?z_bool ?z_enumerate ?z_int ?z_isinstance ?z_len ?z_list ?z_max ?z_min ?z_range ?z_sorted ?z_sum ?z_tuple ?z_zip
    (case a_is_whole => k_is)
    (case l_is_whole => k_is)
    (case c_is_whole => k_is)
    (case k_is_whole => k_is)
    (case a_is_between => k_is)
    (case l_is_between => k_is)
    (case c_is_between => k_is)
    (case k_is_between => k_is)
    (case a_greatest_common => k_is)
    (case l_greatest_common => k_is)
    (case c_greatest_common => k_is)
    (case k_greatest_common => k_is)
    (case a_is_fraction => k_is)
    (case l_is_fraction => k_is)
    (case c_is_fraction => k_is)
    (case k_is_fraction => k_is)
    (case a_has_two_lists => k_is)
    (case l_has_two_lists => k_is)
    (case c_has_two_lists => k_is)
    (case k_has_two_lists => k_is)
    (case a_look_at_tree => k_is)
    (case l_look_at_tree => k_is)
    (case c_look_at_tree => k_is)
    (case k_look_at_tree => k_is)
    (case a_is_place => k_is)
    (case l_is_place => k_is)
    (case c_is_place => k_is)
    (case k_is_place => k_is)
    (case a_are_ends => k_is)
    (case l_are_ends => k_is)
    (case c_are_ends => k_is)
    (case k_are_ends => k_is)
    (case a_is_ask => k_is)
    (case l_is_ask => k_is)
    (case c_is_ask => k_is)
    (case k_is_ask => k_is)
    (case a_look_at_asks => k_is)
    (case l_look_at_asks => k_is)
    (case c_look_at_asks => k_is)
    (case k_look_at_asks => k_is)
    (case a_fraction => k_is)
    (case l_fraction => k_is)
    (case c_fraction => k_is)
    (case k_fraction => k_is)
    (case a_minus => k_is)
    (case l_minus => k_is)
    (case c_minus => k_is)
    (case k_minus => k_is)
    (case a_times => k_is)
    (case l_times => k_is)
    (case c_times => k_is)
    (case k_times => k_is)
    (case a_sum_of => k_is)
    (case l_sum_of => k_is)
    (case c_sum_of => k_is)
    (case k_sum_of => k_is)
    (case a_under => k_is)
    (case l_under => k_is)
    (case c_under => k_is)
    (case k_under => k_is)
    (case a_look_at_ends => k_is)
    (case l_look_at_ends => k_is)
    (case c_look_at_ends => k_is)
    (case k_look_at_ends => k_is)
    (case a_climb => k_is)
    (case l_climb => k_is)
    (case c_climb => k_is)
    (case k_climb => k_is)
    (case a_way_between => k_is)
    (case l_way_between => k_is)
    (case c_way_between => k_is)
    (case k_way_between => k_is)
    (case a_way_of => k_is)
    (case l_way_of => k_is)
    (case c_way_of => k_is)
    (case k_way_of => k_is)
    (case a_is_price => k_is)
    (case l_is_price => k_is)
    (case c_is_price => k_is)
    (case k_is_price => k_is)
    (case a_look_at_prices => k_is)
    (case l_look_at_prices => k_is)
    (case c_look_at_prices => k_is)
    (case k_look_at_prices => k_is)
    (case a_spare_of => k_is)
    (case l_spare_of => k_is)
    (case c_spare_of => k_is)
    (case k_spare_of => k_is)
    (case a_spares => k_is)
    (case l_spares => k_is)
    (case c_spares => k_is)
    (case k_spares => k_is)
    (case a_bound_of => k_is)
    (case l_bound_of => k_is)
    (case c_bound_of => k_is)
    (case k_bound_of => k_is)
    (case a_l_cell => k_is)
    (case l_l_cell => k_is)
    (case c_l_cell => k_is)
    (case k_l_cell => k_is)
    (case a_l_source => k_is)
    (case l_l_source => k_is)
    (case c_l_source => k_is)
    (case k_l_source => k_is)
    (case a_l_draw => k_is)
    (case l_l_draw => k_is)
    (case c_l_draw => k_is)
    (case k_l_draw => k_is)
    (case a_l_tree => k_is)
    (case l_l_tree => k_is)
    (case c_l_tree => k_is)
    (case k_l_tree => k_is)
    (case a_l_lowest => k_is)
    (case l_l_lowest => k_is)
    (case c_l_lowest => k_is)
    (case k_l_lowest => k_is)
    (case a_l_way => k_is)
    (case l_l_way => k_is)
    (case c_l_way => k_is)
    (case k_l_way => k_is)
    (case a_l_ask => k_is)
    (case l_l_ask => k_is)
    (case c_l_ask => k_is)
    (case k_l_ask => k_is)
    (case a_l_world => k_is)
    (case l_l_world => k_is)
    (case c_l_world => k_is)
    (case k_l_world => k_is)
    (case a_l_price => k_is)
    (case l_l_price => k_is)
    (case c_l_price => k_is)
    (case k_l_price => k_is)
    (case a_l_prices => k_is)
    (case l_l_prices => k_is)
    (case c_l_prices => k_is)
    (case k_l_prices => k_is)
    (case a_l_loads => k_is)
    (case l_l_loads => k_is)
    (case c_l_loads => k_is)
    (case k_l_loads => k_is)
    (case a_l_fits => k_is)
    (case l_l_fits => k_is)
    (case c_l_fits => k_is)
    (case k_l_fits => k_is)
    (case a_l_keep => k_is)
    (case l_l_keep => k_is)
    (case c_l_keep => k_is)
    (case k_l_keep => k_is)
    (case a_l_keeps => k_is)
    (case l_l_keeps => k_is)
    (case c_l_keeps => k_is)
    (case k_l_keeps => k_is)
    (case a_law => k_is)
    (case l_law => k_is)
    (case c_law => k_is)
    (case k_law => k_is)
    (case c_MOST_TIES => k_is)
    (case c_MOST_ROOM => k_is)
    (case c_MOST_ASKS => k_is)
    (case c_MOST_SIZE => k_is)
    (case c_MOST_WORTH => k_is)
    (case z_abs => k_is)
    (case z_bool => k_is)
    (case z_enumerate => k_is)
    (case z_int => k_is)
    (case z_isinstance => k_is)
    (case z_len => k_is)
    (case z_list => k_is)
    (case z_max => k_is)
    (case z_min => k_is)
    (case z_range => k_is)
    (case z_sorted => k_is)
    (case z_sum => k_is)
    (case z_tuple => k_is)
    (case z_zip => k_is)


