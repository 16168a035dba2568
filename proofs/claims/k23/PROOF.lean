import PyProof.Rows.All
import Wide.All
import OpenK.AllK
import Wide.FinOn
import Lean
import PyProof.EqAt
import PyProof.EqKinds
import PyProof.TupleCall
import PyProof.Rows.ListRangeD
import KE.LcSums
import KE.KRevSl
import PyProof.Rows.SetFrom
import PySem.Challenge.RW_treeasks_k23_what_are_prices
set_option Elab.async false
set_option linter.all false
set_option maxRecDepth 100000
set_option genSizeOf false
set_option maxHeartbeats 4000000
set_option exponentiation.threshold 9000
noncomputable section
theorem PySem.W.Fast.te9938656801292946804 : True := trivial
def PySem.W.Fast.tw9938656801292946804 : Nat := 0
theorem PySem.W.Fast.te16082690382995163031 : True := trivial
def PySem.W.Fast.tw16082690382995163031 : Nat := 0
def PySem.W.Fast.tw13817111913567864582 : PySem.Program := PySem.Challenge.pw_treeasks_k23_what_are_prices
theorem PySem.W.Fast.te13817111913567864582 : PySem.Challenge.pw_treeasks_k23_what_are_prices = PySem.W.Fast.tw13817111913567864582 := rfl
namespace L2
open PySem PySem.Spec PyProof.Rows
abbrev Key := Sum Int Str
def keyIs : Key → Value → Bool
  | .inl k, v => Value.isInt k v
  | .inr x, v => Value.isStrOf x v
def keyH (w : World) : Key → Int
  | .inl k => hashInt k
  | .inr x => hashStr w x
theorem keyIs_shape : ∀ {k : Key} {v : Value}, keyIs k v = true → (∃ i t, k = Sum.inl i ∧ v = Value.int i t) ∨ (∃ x t, k = Sum.inr x ∧ v = Value.str x t)
  | .inl i, v, h => by
    obtain ⟨t, e⟩ := Value.isInt_shape (k := i) (v := v) h
    exact .inl ⟨i, t, rfl, e⟩
  | .inr x, v, h => by
    obtain ⟨t, e⟩ := Value.isStrOf_shape (x := x) (v := v) h
    exact .inr ⟨x, t, rfl, e⟩
theorem key_ll (a b : Int) : decide ((Sum.inl a : Key) = Sum.inl b) = (a == b) := by
  by_cases e : a = b
  · subst e; simp
  · have h : ¬ (Sum.inl a : Key) = Sum.inl b := fun q => e (Sum.inl.inj q)
    rw [decide_eq_false h]
    exact (beq_eq_false_iff_ne.mpr e).symm
theorem key_rr (a b : Str) : decide ((Sum.inr a : Key) = Sum.inr b) = decide (a = b) := by
  by_cases e : a = b
  · subst e; simp
  · have h : ¬ (Sum.inr a : Key) = Sum.inr b := fun q => e (Sum.inr.inj q)
    rw [decide_eq_false h, decide_eq_false e]
theorem key_lr (a : Int) (b : Str) : decide ((Sum.inl a : Key) = Sum.inr b) = false := decide_eq_false (fun q => nomatch q)
theorem key_rl (a : Str) (b : Int) : decide ((Sum.inr a : Key) = Sum.inl b) = false := decide_eq_false (fun q => nomatch q)
def mixKind (prog : Program) (w : World) : PySem.KeyKind prog w Key where
  is := keyIs
  hash := keyH w
  inj := fun v a b ha hb => by
    rcases keyIs_shape ha with ⟨i, t, rfl, rfl⟩ | ⟨x, t, rfl, rfl⟩
    · rcases keyIs_shape hb with ⟨j, u, rfl, e⟩ | ⟨y, u, rfl, e⟩
      · injection e with e1 _; rw [e1]
      · exact nomatch e
    · rcases keyIs_shape hb with ⟨j, u, rfl, e⟩ | ⟨y, u, rfl, e⟩
      · exact nomatch e
      · injection e with e1 _; rw [e1]
  byValue := fun k v h => by
    rcases keyIs_shape h with ⟨i, t, rfl, rfl⟩ | ⟨x, t, rfl, rfl⟩ <;> rfl
  pyHash := fun hv h => by
    rcases keyIs_shape hv with ⟨i, t, rfl, rfl⟩ | ⟨x, t, rfl, rfl⟩
    · exact wpAny_pyHash_int h
    · exact wpAny_pyHash_str h
  eqBool := fun hu hv h => by
    rcases keyIs_shape hu with ⟨i, t, rfl, rfl⟩ | ⟨x, t, rfl, rfl⟩
    · rcases keyIs_shape hv with ⟨j, u, rfl, rfl⟩ | ⟨y, u, rfl, rfl⟩
      · rw [key_ll] at h; exact wpAny_eqBool_int h
      · rw [key_lr] at h; exact SeqAt.EqAt.int_str i t y u _ _ _ _ h
    · rcases keyIs_shape hv with ⟨j, u, rfl, rfl⟩ | ⟨y, u, rfl, rfl⟩
      · rw [key_rl] at h; exact SeqAt.EqAt.str_int x t j u _ _ _ _ h
      · rw [key_rr] at h; exact wpAny_eqBool_str h
  «strs» := fun k x t v h => by
    rcases keyIs_shape h with ⟨i, u, rfl, e⟩ | ⟨y, u, rfl, e⟩
    · exact nomatch e
    · injection e with e1 _
      subst e1
      cases v <;> rfl
inductive V where
  | non | bl (b : Bool) | int (i : Int) | str (x : Str) | byt (b : Array UInt8) | flt (b : UInt64) | ref (a : Addr) | ty (n : String)
  deriving DecidableEq
def RelV : V → Value → Prop
  | .non, u => u = Value.none
  | .bl b, u => u = Value.bool b
  | .int i, u => ∃ t, u = Value.int i t
  | .str x, u => ∃ t, u = Value.str x t
  | .byt b, u => ∃ t, u = Value.bytes b t
  | .flt b, u => ∃ t, u = Value.float b t
  | .ref a, u => u = Value.ref a
  | .ty n, u => u = Value.type n
abbrev Vals : List V → List Value → Prop := Paired RelV
theorem Vals.length {xs : List V} {us : List Value} (r : Vals xs us) : xs.length = us.length := Paired.length r
theorem Vals.get : ∀ {xs : List V} {us : List Value} {i : Nat} {x : V}, Vals xs us → xs[i]? = some x → ∃ u, us[i]? = some u ∧ RelV x u
  | _, _, _, _, .nil, e => by simp at e
  | _, _, 0, _, .cons r _, e => by simp at e; subst e; exact ⟨_, rfl, r⟩
  | _, _, i + 1, x, .cons _ t, e => by
    obtain ⟨u, h1, h2⟩ := Vals.get (i := i) (x := x) t (by simpa using e)
    exact ⟨u, by simpa using h1, h2⟩
theorem Vals.set {x : V} {u : Value} (r : RelV x u) : ∀ {xs : List V} {us : List Value} (i : Nat), Vals xs us → Vals (xs.set i x) (us.set i u)
  | _, _, _, .nil => .nil
  | _, _, 0, .cons _ t => .cons r t
  | _, _, i + 1, .cons q t => .cons q (Vals.set r i t)
theorem Vals.append : ∀ {xs ys : List V} {us ws : List Value}, Vals xs us → Vals ys ws → Vals (xs ++ ys) (us ++ ws)
  | _, _, _, _, .nil, s => s
  | _, _, _, _, .cons r t, s => .cons r (Vals.append t s)
theorem Vals.take : ∀ {xs : List V} {us : List Value} (n : Nat), Vals xs us → Vals (xs.take n) (us.take n)
  | _, _, 0, _ => .nil
  | _, _, _ + 1, .nil => .nil
  | _, _, n + 1, .cons r t => .cons r (Vals.take n t)
theorem Vals.drop : ∀ {xs : List V} {us : List Value} (n : Nat), Vals xs us → Vals (xs.drop n) (us.drop n)
  | _, _, 0, r => r
  | _, _, _ + 1, .nil => .nil
  | _, _, n + 1, .cons _ t => Vals.drop n t
def RelO : Option V → Option Value → Prop
  | some v, some u => RelV v u
  | none, none => True
  | _, _ => False
def KV {κ : Type} : List (κ × V) → List (κ × Value) → Prop := Paired fun (p : κ × V) (q : κ × Value) => p.1 = q.1 ∧ RelV p.2 q.2
def kV : Key → V
  | .inl i => .int i
  | .inr x => .str x
inductive HO where
  
  | lst (xs : List V)
  
  | tup (xs : List V)
  
  | dK (kvs : List (Key × V)) | dT (kvs : List (List Key × V))
  
  | set (S : Int → Bool) (n : Nat)
  
  | ins (C dx : Addr) (fs : List (Str × V))
  
  | own (x : Addr)
  
  | xd (fs : List (Str × V))
  
  | met (f x : Addr)
  
  | rng (lo hi : Int)
  
  | frz (o : Obj) (u : HO)
  
  | tbl (ps : Array Value)
  
  | ext (φ : Heap → Prop)
abbrev Hp := Addr → Option HO
def upd (H : Hp) (a : Addr) (o : HO) : Hp := fun b => if b = a then some o else H b
theorem upd_same {H : Hp} {a : Addr} {o : HO} : upd H a o a = some o := by unfold upd; rw [if_pos rfl]
theorem upd_ne {H : Hp} {a b : Addr} {o : HO} (h : b ≠ a) : upd H a o b = H b := by unfold upd; rw [if_neg h]
theorem upd_upd {H : Hp} {a : Addr} {o u : HO} : upd (upd H a o) a u = upd H a u := by
  funext b; unfold upd; split <;> rfl
theorem ne_of_none {H : Hp} {a b : Addr} {o : HO} (h : H a = some o) (h' : H b = none) : a ≠ b := by
  intro e; subst e; rw [h] at h'; cases h'
section
variable (P : Program) (w : World)
def ObjOk (H : Hp) (h : Heap) (a : Addr) : HO → Prop
  | .lst xs => xs.length ≤ sizeLine ∧ ∃ (its : List Value) (n : Nat), Vals xs its ∧ h.get? a = some { cls := .type "list", data := .seq its.toArray n }
  | .tup xs => xs.length ≤ sizeLine ∧ ∃ its : List Value, Vals xs its ∧ IsTup h a its.toArray
  | .dK kvs => kvs.length ≤ sizeLine ∧ (a == sysModules) = false ∧ ∃ vs, KV kvs vs ∧ h.DictOf (mixKind P w) a vs
  | .dT kvs => kvs.length ≤ sizeLine ∧ (a == sysModules) = false ∧ ∃ xs : List (List Key × Addr × Value),
      Paired (fun (p : List Key × V) (q : List Key × Addr × Value) => p.1 = q.1 ∧ H q.2.1 = some (.tup (p.1.map kV)) ∧ RelV p.2 q.2.2) kvs xs ∧
      ∃ o es ep, h.get? a = some o ∧ o.ExactDict ∧ o.data = .dict es ep ∧ es.toList = xs.map (entryOfKey (tupleKind (mixKind P w))) ∧ (xs.map (·.1)).Nodup
  | .set S n => h.SetOf (intKind P w) a S n
  | .ins C dx fs => H dx = some (.own a) ∧ fs.length ≤ 1000 ∧ dx ≠ a ∧ h.get? a = some (PySem.W.instObj C dx) ∧
      ∃ mA, h.Ns1 dx mA ∧ (∀ f, RelO (fs.lookup f) (mA f)) ∧ PySem.Within mA (fs.map (·.1))
  | .own _ => ∃ o, h.get? a = some o
  | .xd fs => ∃ mA, h.Ns1 a mA ∧ ∀ f, RelO (fs.lookup f) (mA f)
  | .rng lo hi => ∃ t u v, h.get? a = some { cls := .type "range", data := .fields #[.int lo t, .int hi u, .int 1 v] }
  | .frz o u => h.get? a = some o ∧ ObjOk H h a u
  | .tbl ps => h.get? a = some { cls := .none, data := .fields ps }
  | .met f x => h.get? a = some (PySem.W.methodObj (.ref f) (.ref x))
  | .ext φ => φ h ∧ (∃ o, h.get? a = some o) ∧ ∀ h1 h2 : Heap, φ h1 → (∀ o, h1.get? a = some o → h2.get? a = some o) → φ h2
def HOk (H : Hp) (h : Heap) : Prop := ∀ a o, H a = some o → ObjOk P w H h a o
end
section
variable {P : Program} {w : World} {H H' : Hp} {h h' : Heap} {a : Addr} {o : HO}
theorem ObjOk.lt (x : ObjOk P w H h a o) : a < h.objs.size := by
  cases o with
  | lst xs => obtain ⟨_, _, _, _, e⟩ := x; exact Heap.lt_size e
  | tup xs => obtain ⟨_, _, _, p⟩ := x; exact p.lt
  | dK kvs => obtain ⟨_, _, _, _, o, _, _, e, _⟩ := x; exact Heap.lt_size e
  | dT kvs => obtain ⟨_, _, _, _, o, _, _, e, _⟩ := x; exact Heap.lt_size e
  | set S n => obtain ⟨o, _, _, _, e, _⟩ := x; exact Heap.lt_size e
  | ins C dx fs => obtain ⟨_, _, _, e, _⟩ := x; exact Heap.lt_size e
  | own y => obtain ⟨_, e⟩ := x; exact Heap.lt_size e
  | xd fs => obtain ⟨_, ⟨_, _, _, e, _⟩, _⟩ := x; exact Heap.lt_size e
  | rng lo hi => obtain ⟨_, _, _, e⟩ := x; exact Heap.lt_size e
  | frz ob u => obtain ⟨e, _⟩ := x; exact Heap.lt_size e
  | tbl ps => exact Heap.lt_size (show h.get? a = some _ from x)
  | met f y => exact Heap.lt_size (show h.get? a = some _ from x)
  | ext φ => obtain ⟨_, ⟨_, e⟩, _⟩ := x; exact Heap.lt_size e
theorem Paired.mapP {α β : Type} {F G : α → β → Prop} : ∀ {l₁ : List α} {l₂ : List β}, Paired F l₁ l₂ → (∀ a b, F a b → G a b) → Paired G l₁ l₂
  | _, _, .nil, _ => .nil
  | _, _, .cons r t, f => .cons (f _ _ r) (Paired.mapP t f)
theorem ObjOk.stay (x : ObjOk P w H h a o) (k : ∀ b u, (b = a ∨ H b = some (.own a)) → h.get? b = some u → h'.get? b = some u)
    (ho : ∀ b, H b = some (.own a) → H' b = some (.own a)) (ht : ∀ b xs, H b = some (.tup xs) → H' b = some (.tup xs)) : ObjOk P w H' h' a o := by
  induction o with
  | lst xs => obtain ⟨z, its, n, r, e⟩ := x; exact ⟨z, its, n, r, k _ _ (.inl rfl) e⟩
  | tup xs => obtain ⟨z, its, r, ob, e, c⟩ := x; exact ⟨z, its, r, ob, k _ _ (.inl rfl) e, c⟩
  | dK kvs => obtain ⟨z, y, vs, r, ob, es, ep, e, c⟩ := x; exact ⟨z, y, vs, r, ob, es, ep, k _ _ (.inl rfl) e, c⟩
  | dT kvs =>
    obtain ⟨z, y, xs, r, ob, es, ep, e, c⟩ := x
    exact ⟨z, y, xs, Paired.mapP r fun p q z => ⟨z.1, ht _ _ z.2.1, z.2.2⟩, ob, es, ep, k _ _ (.inl rfl) e, c⟩
  | set S n => obtain ⟨ob, es, ep, t, e, c⟩ := x; exact ⟨ob, es, ep, t, k _ _ (.inl rfl) e, c⟩
  | ins C dx fs =>
    obtain ⟨d, z, ne, e, mA, ⟨od, es, ep, e2, c⟩, r⟩ := x
    exact ⟨ho _ d, z, ne, k _ _ (.inl rfl) e, mA, ⟨od, es, ep, k _ _ (.inr d) e2, c⟩, r⟩
  | own y => obtain ⟨ob, e⟩ := x; exact ⟨ob, k _ _ (.inl rfl) e⟩
  | xd fs => obtain ⟨mA, ⟨od, es, ep, e, c⟩, r⟩ := x; exact ⟨mA, ⟨od, es, ep, k _ _ (.inl rfl) e, c⟩, r⟩
  | rng lo hi => obtain ⟨t, u, v, e⟩ := x; exact ⟨t, u, v, k _ _ (.inl rfl) e⟩
  | frz ob u ih => obtain ⟨e, q⟩ := x; exact ⟨k _ _ (.inl rfl) e, ih q⟩
  | tbl ps =>
    have e : h.get? a = some { cls := .none, data := .fields ps } := x
    show h'.get? a = some { cls := .none, data := .fields ps }
    exact k a _ (.inl rfl) e
  | met f y =>
    have e : h.get? a = some (PySem.W.methodObj (.ref f) (.ref y)) := x
    show h'.get? a = some (PySem.W.methodObj (.ref f) (.ref y))
    exact k a _ (.inl rfl) e
  | ext φ => obtain ⟨p, ⟨o, e⟩, st⟩ := x; exact ⟨st _ _ p fun o q => k _ _ (.inl rfl) q, ⟨o, k _ _ (.inl rfl) e⟩, st⟩
theorem HOk.lt (x : HOk P w H h) (e : H a = some o) : a < h.objs.size := (x a o e).lt
theorem HOk.fresh (x : HOk P w H h) (e : h.objs.size ≤ a) : H a = none := by
  cases q : H a with
  | none => rfl
  | some u => exact absurd (Nat.lt_of_lt_of_le (x.lt q) e) (Nat.lt_irrefl _)
theorem HOk.kept (x : HOk P w H h) (k : ∀ b u, h.get? b = some u → h'.get? b = some u) : HOk P w H h' := fun a o e =>
  (x a o e).stay (fun b u _ q => k b u q) (fun _ q => q) fun _ _ q => q
theorem HOk.laid (x : HOk P w H h) (k : ∀ b u, h.get? b = some u → h'.get? b = some u) (hp : h.objs.size ≤ a) (new : ObjOk P w (upd H a o) h' a o) : HOk P w (upd H a o) h' := fun b u e => by
  have hn := x.fresh hp
  by_cases hb : b = a
  · subst hb; rw [upd_same] at e; cases e; exact new
  · rw [upd_ne hb] at e
    exact (x b u e).stay (fun c v _ q => k c v q) (fun c q => by rw [upd_ne (ne_of_none q hn)]; exact q) fun c xs q => by rw [upd_ne (ne_of_none q hn)]; exact q
end
def Rd (H : Hp) (a : Addr) (u : HO) : Prop := H a = some u ∨ ∃ o, H a = some (.frz o u)
theorem Rd.ok {P : Program} {w : World} {H : Hp} {h : Heap} {a : Addr} {u : HO} (r : Rd H a u) (x : HOk P w H h) : ObjOk P w H h a u := by
  rcases r with r | ⟨o, r⟩
  · exact x a u r
  · obtain ⟨_, q⟩ := x a _ r
    exact q
def Mut : Option HO → Prop
  | some (.lst _) => True
  | some (.dK _) => True
  | some (.dT _) => True
  | some (.set _ _) => True
  | some (.ins _ _ _) => True
  | some (.ext _) => True
  | _ => False
section
variable {P : Program} {w : World} {H : Hp} {h h' : Heap} {x e : Addr} {o' : HO}
theorem HOk.write (ok : HOk P w H h) (mu : Mut (H x)) (he : e = x ∨ H e = some (.own x)) (k : ∀ b u, b ≠ e → h.get? b = some u → h'.get? b = some u) (heo : ∃ u, h'.get? e = some u)
    (new : ObjOk P w (upd H x o') h' x o') : HOk P w (upd H x o') h' := fun b u q => by
  have nown : ∀ c y, H c = some (.own y) → c ≠ x := fun c y r z => by subst z; rw [r] at mu; exact mu
  have ntup : ∀ c xs, H c = some (.tup xs) → c ≠ x := fun c xs r z => by subst z; rw [r] at mu; exact mu
  by_cases hb : b = x
  · subst hb; rw [upd_same] at q; cases q; exact new
  · rw [upd_ne hb] at q
    by_cases hbe : b = e
    · have q' : H b = some (.own x) := by
        rcases he with z | z
        · exact absurd (hbe.trans z) hb
        · rw [hbe]; exact z
      rw [q] at q'; cases q'
      obtain ⟨v, hv⟩ := heo
      exact ⟨v, by rw [hbe]; exact hv⟩
    · refine (ok b u q).stay (fun c v hc r => k c v ?_ r) (fun c r => by rw [upd_ne (nown c b r)]; exact r) fun c xs r => by rw [upd_ne (ntup c xs r)]; exact r
      rcases hc with rfl | hc
      · exact hbe
      · rintro rfl
        rcases he with z | z
        · exact nown c b hc z
        · rw [hc] at z; cases z; exact hb rfl
end
structure Un (fs ex : List Addr) (H H' : Hp) (h h' : Heap) : Prop where
  keep : ∀ b o, h.get? b = some o → H b = none → b ∉ fs → b ∉ ex → h'.get? b = some o
  slot : ∀ b o, h.get? b = some o → H b = none → b ∈ fs → b ∉ ex → ∃ sl, h'.get? b = some { o with slots := sl }
  free : ∀ b o, h.get? b = some o → H b = none → b ∉ ex → H' b = none
  there : ∀ b o, h.get? b = some o → b ∉ ex → ∃ o', h'.get? b = some o'
  tups : ∀ b xs, H b = some (.tup xs) → H' b = some (.tup xs)
  frzs : ∀ b o u, H b = some (.frz o u) → H' b = some (.frz o u)
  tbls : ∀ b ps, H b = some (.tbl ps) → ∃ more, H' b = some (.tbl (ps ++ more))
section
variable {fs fs' ex ex' : List Addr} {H H1 H2 : Hp} {h h1 h2 h' : Heap} {a x e : Addr} {o : HO}
theorem Un.any (u : Un fs ex H H1 h h1) {b : Addr} {ob : Obj} (q : h.get? b = some ob) (n : H b = none) (hx : b ∉ ex) : ∃ sl, h1.get? b = some { ob with slots := sl } := by
  by_cases hb : b ∈ fs
  · exact u.slot b ob q n hb hx
  · exact ⟨ob.slots, u.keep b ob q n hb hx⟩
theorem Un.kept (k : ∀ b u, h.get? b = some u → h'.get? b = some u) : Un fs ex H H h h' :=
  ⟨fun b ob q _ _ _ => k b ob q, fun b ob q _ _ _ => ⟨ob.slots, k b ob q⟩, fun _ _ _ n _ => n, fun b ob q _ => ⟨ob, k b ob q⟩, fun _ _ q => q, fun _ _ _ q => q, fun _ ps q => ⟨#[], by rw [q]; simp⟩⟩
theorem Un.refl : Un fs ex H H h h := Un.kept fun _ _ q => q
theorem Un.laid (k : ∀ b u, h.get? b = some u → h'.get? b = some u) (hp : h.objs.size ≤ a) (hn : H a = none) : Un fs ex H (upd H a o) h h' where
  keep := fun b u q _ _ _ => k b u q
  slot := fun b u q _ _ _ => ⟨u.slots, k b u q⟩
  free := fun b u q n _ => by rw [upd_ne (Nat.ne_of_lt (Nat.lt_of_lt_of_le (Heap.lt_size q) hp))]; exact n
  there := fun b u q _ => ⟨u, k b u q⟩
  tups := fun b xs q => by rw [upd_ne (ne_of_none q hn)]; exact q
  frzs := fun b u xs q => by rw [upd_ne (ne_of_none q hn)]; exact q
  tbls := fun b ps q => ⟨#[], by rw [upd_ne (ne_of_none q hn), q]; simp⟩
theorem Un.write (mu : Mut (H x)) (he : e = x ∨ H e = some (.own x)) (k : ∀ b u, b ≠ e → h.get? b = some u → h'.get? b = some u) (heo : ∃ u, h'.get? e = some u) : Un fs ex H (upd H x o) h h' := by
  have hx : ∀ b, H b = none → b ≠ x := fun b n z => by subst z; rw [n] at mu; exact mu
  have hb : ∀ b, H b = none → b ≠ e := fun b n z => by
    subst z
    rcases he with r | r
    · exact hx b n r
    · rw [n] at r; cases r
  have hm : ∀ b u, H b = some u → ¬ Mut (some u) → b ≠ x := fun b u q nm z => by subst z; rw [q] at mu; exact nm mu
  refine ⟨fun b u q n _ _ => k b u (hb b n) q, fun b u q n _ _ => ⟨u.slots, k b u (hb b n) q⟩, fun b u q n _ => by rw [upd_ne (hx b n)]; exact n, fun b u q _ => ?_,
    fun b xs q => by rw [upd_ne (hm b _ q fun z => z)]; exact q, fun b u xs q => by rw [upd_ne (hm b _ q fun z => z)]; exact q, fun b ps q => ⟨#[], by rw [upd_ne (hm b _ q fun z => z), q]; simp⟩⟩
  by_cases hbe : b = e
  · subst hbe; exact heo
  · exact ⟨u, k b u hbe q⟩
theorem Un.mono (u : Un fs ex H H1 h h1) (hs : ∀ b ∈ fs, b ∈ fs') (hx : ∀ b ∈ ex, b ∈ ex') : Un fs' ex' H H1 h h1 :=
  ⟨fun b ob q n hb he => u.keep b ob q n (fun z => hb (hs b z)) fun z => he (hx b z), fun _ _ q n _ he => u.any q n fun z => he (hx _ z), fun b ob q n he => u.free b ob q n fun z => he (hx b z), fun b ob q he => u.there b ob q fun z => he (hx b z), u.tups, u.frzs, u.tbls⟩
end
def trk (h : Heap) (H : Hp) : List Addr := (List.range h.objs.size).filter fun a => (H a).isSome
def hidT (h : Heap) (H : Hp) : Heap := PySem.W.hideAll h (trk h H)
theorem hidT_size (h : Heap) (H : Hp) : (hidT h H).objs.size = h.objs.size := PySem.W.hideAll_size _ _
theorem hidT_get {h : Heap} {H : Hp} {b : Addr} {o : Obj} (e : h.get? b = some o) (n : H b = none) : (hidT h H).get? b = some o :=
  PySem.W.hideAll_get _ e fun hm => by
    have q : (H b).isSome = true := (List.mem_filter.mp hm).2
    rw [n] at q; simp at q
theorem of_hidT {h : Heap} {H : Hp} {b : Addr} {o : Obj} (e : (hidT h H).get? b = some o) : h.get? b = some o ∧ H b = none := by
  have e' : h.get? b = some o := PySem.W.of_hideAll (trk h H) e
  refine ⟨e', ?_⟩
  cases q : H b with
  | none => rfl
  | some x =>
    have hm : b ∈ trk h H := List.mem_filter.mpr ⟨List.mem_range.mpr (Heap.lt_size e'), by simp [q]⟩
    have z : (hidT h H).get? b = none := PySem.W.hideAll_none (trk h H) hm
    rw [z] at e; cases e
structure Mod (K : PySem.W.Frag) (mg : Str → Option Value) (base : Heap) : Prop where
  kin : K.In base
  glob : base.Ns mainGlobals mg
  blt : ∃ mb, base.Ns builtinsNs mb ∧ ∀ x : Str, x ≠ "__name__" → mb x = bootBuiltins x
  nolimit : base.NoLimit
structure Cx where
  prog : Program
  w : World
  K : PySem.W.Frag
  mg : Str → Option Value
  base : Heap
  A : Around
  N : List Str
  s₀ : Shared
  H₀ : Hp
  env : Env
  outer : List Env
  stack : List Env
  ex : List Addr
  fn : Str → Bool
  calm : Bool
  pn : List (Addr × Obj)
  xe : Value → Shared → Prop
def frs (l : List Env) : List Addr := l.filterMap (·.frame)
abbrev Cx.fs (X : Cx) : List Addr := frs X.outer
def Vis (sc : Scope) (x : Str) : Prop := sc.names.lookup x = some .local ∨ sc.names.lookup x = some .cell ∨ sc.names.lookup x = some .free
def Loc (sc : Scope) (x : Str) : Prop := sc.names.lookup x = some .local ∨ sc.names.lookup x = some .cell
def Look (env : Env) (h : Heap) (m : Str → Option Value) (x : Str) (u : Value) : Prop :=
  (env.kindOf x = some .local ∧ m x = some u) ∨ ((env.kindOf x = some .cell ∨ env.kindOf x = some .free) ∧ ∃ c, env.cells.lookup x = some c ∧ h.IsCell c (some u))
structure Cx.Ok (X : Cx) : Prop where
  mod : Mod X.K X.mg X.base
  kind : X.env.scope.kind = .function
  glob : X.env.globals = mainGlobals
  blt : X.env.builtins = builtinsNs
  above : X.s₀.heap.objs.size ≤ X.env.locals
  inj : ∀ x y c, X.env.cells.lookup x = some c → X.env.cells.lookup y = some c → x = y
  has : ∀ x, (X.env.kindOf x = some .cell ∨ X.env.kindOf x = some .free) → ∃ c, X.env.cells.lookup x = some c
  cab : ∀ x c, X.fn x = true → X.env.cells.lookup x = some c → X.s₀.heap.objs.size ≤ c
  hd : X.calm = true → X.A.handled = none
  frames : X.A.frames = some X.stack
  stk : X.stack = X.outer ∨ (X.stack = X.env :: X.outer ∧ X.env.frame = some X.env.locals)
  exf : ∀ b ∈ X.ex, b ≠ X.env.locals ∧ ∀ x c, X.env.cells.lookup x = some c → c ≠ b
  bs : ∀ b o, X.base.get? b = some o → X.s₀.heap.get? b = some o ∧ X.H₀ b = none
  bsz : X.base.objs.size ≤ X.s₀.heap.objs.size
  noex : ∀ b o, X.base.get? b = some o → b ∉ X.ex
  exfs : ∀ b ∈ X.ex, b ∉ X.fs
  funs : X.s₀.heap.FunFrames X.base X.outer
  frf : ∀ b ∈ X.fs, X.H₀ b = none
structure Inv (X : Cx) (pins : List (Addr × Obj)) (σ : List (Option V)) (H : Hp) (s : Shared) : Prop where
  ok : X.Ok
  os : s.os = X.s₀.os
  bare : AllBare s.gens
  base : Un X.fs X.ex X.H₀ H X.s₀.heap s.heap
  loc : ∃ m, s.heap.Ns X.env.locals m ∧ ∀ (i : Nat) (x : Str) (v : V), X.N[i]? = some x → σ[i]? = some (some v) → Vis X.env.scope x → ∃ u, RelV v u ∧ Look X.env s.heap m x u
  cell : ∀ x c, X.env.cells.lookup x = some c → ∃ v, s.heap.IsCell c v
  free : H X.env.locals = none
  freeC : ∀ x c, X.env.cells.lookup x = some c → H c = none
  pin : ∀ p ∈ X.pn ++ pins, s.heap.get? p.1 = some p.2 ∧ H p.1 = none ∧ p.1 ≠ X.env.locals ∧ p.1 ∉ X.fs ∧ ∀ v, p.2.data ≠ .cell v
  hok : HOk X.prog X.w H s.heap
  len : σ.length = X.N.length
section
variable {X : Cx} {pins : List (Addr × Obj)} {σ : List (Option V)} {H H' : Hp} {s : Shared} {h' : Heap}
theorem Cx.Ok.nofr (ok : X.Ok) {b : Addr} {o : Obj} (e : X.base.get? b = some o) : b ∉ X.fs := fun hb => by
  have := (ok.funs.mem hb).1
  rw [e] at this; cases this
theorem Inv.bs (I : Inv X pins σ H s) : ∀ b o, X.base.get? b = some o → s.heap.get? b = some o ∧ H b = none := fun b o e =>
  ⟨I.base.keep b o (I.ok.bs b o e).1 (I.ok.bs b o e).2 (I.ok.nofr e) (I.ok.noex b o e), I.base.free b o (I.ok.bs b o e).1 (I.ok.bs b o e).2 (I.ok.noex b o e)⟩
theorem Inv.bk (I : Inv X pins σ H s) : ∀ b o, X.base.get? b = some o → s.heap.get? b = some o := fun b o e => (I.bs b o e).1
theorem Inv.mod (I : Inv X pins σ H s) : Mod X.K X.mg X.base := I.ok.mod
theorem Inv.kIn (I : Inv X pins σ H s) : X.K.In s.heap := I.ok.mod.kin.keeps I.bk
theorem Inv.fr (I : Inv X pins σ H s) : ∃ m, Fr X.base X.env.locals s.heap m :=
  let ⟨m, hn, _⟩ := I.loc
  ⟨m, hn, I.bk, Nat.le_trans I.ok.bsz I.ok.above⟩
theorem Inv.lt (I : Inv X pins σ H s) : X.env.locals < s.heap.objs.size := let ⟨_, hn, _⟩ := I.loc; hn.lt
theorem Inv.sz (I : Inv X pins σ H s) : X.s₀.heap.objs.size ≤ s.heap.objs.size := Nat.le_trans I.ok.above (Nat.le_of_lt I.lt)
theorem Inv.nofs (I : Inv X pins σ H s) {a : Addr} (h : s.heap.objs.size ≤ a) : a ∉ X.fs := fun hb => by
  obtain ⟨_, o, ho, _⟩ := I.ok.funs.mem hb
  exact absurd (Nat.lt_of_lt_of_le (Heap.lt_size ho) (Nat.le_trans I.sz h)) (Nat.lt_irrefl _)
theorem Inv.cne (I : Inv X pins σ H s) : ∀ x c, X.env.cells.lookup x = some c → c ≠ X.env.locals := fun x c e z => by
  obtain ⟨v, o, ho, hd⟩ := I.cell x c e
  obtain ⟨m, ⟨o', es, ep, ho', hd', _⟩, _⟩ := I.loc
  rw [z, ho'] at ho; cases ho; rw [hd'] at hd; cases hd
theorem Inv.funs (I : Inv X pins σ H s) : s.heap.FunFrames X.base X.outer := by
  have all : ∀ (l : List Env), (∀ b ∈ frs l, b ∈ X.fs) → X.s₀.heap.FunFrames X.base l → s.heap.FunFrames X.base l := by
    intro l
    induction l with
    | nil => intro _ _; trivial
    | cons env r ih =>
      intro hs hl
      obtain ⟨hk, ⟨L, o, hf, hn, ho, hd⟩, hr⟩ := hl
      have hL : L ∈ X.fs := hs L (by unfold frs; rw [List.filterMap_cons, hf]; exact List.mem_cons_self)
      obtain ⟨sl, e⟩ := I.base.slot L o ho (I.ok.frf L hL) hL fun z => I.ok.exfs L z hL
      exact ⟨hk, ⟨L, _, hf, hn, e, hd⟩, ih (fun b hb => hs b (by unfold frs; rw [List.filterMap_cons, hf]; exact List.mem_cons_of_mem _ hb)) hr⟩
  exact all X.outer (fun _ hb => hb) I.ok.funs
theorem Inv.stack (I : Inv X pins σ H s) : s.heap.FunFrames X.base X.stack := by
  rcases I.ok.stk with e | ⟨e, hf⟩
  · rw [e]; exact I.funs
  · rw [e]
    obtain ⟨m, hn, _⟩ := I.loc
    refine .cons (by rw [I.ok.kind]; decide) hf hn ?_ I.funs
    exact Heap.get?_none_of_le (Nat.le_trans I.ok.bsz I.ok.above)
theorem Inv.stkSub (I : Inv X pins σ H s) : ∀ b ∈ frs X.stack, b ∈ X.env.locals :: X.fs := fun b hb => by
  rcases I.ok.stk with e | ⟨e, hf⟩
  · rw [e] at hb; exact List.mem_cons_of_mem _ hb
  · rw [e] at hb
    unfold frs at hb
    rw [List.filterMap_cons, hf] at hb
    exact hb
theorem Inv.stkFree (I : Inv X pins σ H s) : ∀ b ∈ frs X.stack, H b = none := fun b hb => by
  rcases List.mem_cons.mp (I.stkSub b hb) with e | hb
  · rw [e]; exact I.free
  · obtain ⟨_, o, ho, _⟩ := I.ok.funs.mem hb
    exact I.base.free b o ho (I.ok.frf b hb) fun z => I.ok.exfs b z hb
theorem Inv.step {g' : Array GenState} {t' : Nat} {d' : Drawn} {ch : List Addr} (I : Inv X pins σ H s)
    (hch : ∀ b ∈ ch, (b ∈ X.ex ∨ X.s₀.heap.objs.size ≤ b) ∧ b ≠ X.env.locals ∧ (∀ x c, X.env.cells.lookup x = some c → c ≠ b) ∧ ∀ p ∈ X.pn ++ pins, p.1 ≠ b)
    (keep : ∀ b o, b ≠ X.env.locals → b ∉ X.fs → b ∉ ch → s.heap.get? b = some o → H b = none → h'.get? b = some o)
    (slot : ∀ b o, b ≠ X.env.locals → b ∈ X.fs → b ∉ ch → s.heap.get? b = some o → H b = none → ∃ sl, h'.get? b = some { o with slots := sl }) (free : ∀ b o, b ∉ ch → s.heap.get? b = some o → H b = none → H' b = none)
    (there : ∀ b o, b ∉ ch → s.heap.get? b = some o → ∃ o', h'.get? b = some o')
    (tups : ∀ b xs, H b = some (.tup xs) → H' b = some (.tup xs)) (frzs : ∀ b o u, H b = some (.frz o u) → H' b = some (.frz o u)) (tbls : ∀ b ps, H b = some (.tbl ps) → ∃ more, H' b = some (.tbl (ps ++ more)))
    (ns : ∀ m, s.heap.Ns X.env.locals m → h'.Ns X.env.locals m) (hok : HOk X.prog X.w H' h') (hg : AllBare g') :
    Inv X pins σ H' { s with heap := h', gens := g', drawn := d', toks := t' } := by
  have neL : ∀ b o, X.s₀.heap.get? b = some o → b ≠ X.env.locals := fun b o e => Nat.ne_of_lt (Nat.lt_of_lt_of_le (Heap.lt_size e) I.ok.above)
  have neC : ∀ b o, X.s₀.heap.get? b = some o → b ∉ X.ex → b ∉ ch := fun b o e hx hb => by
    rcases (hch b hb).1 with z | z
    · exact hx z
    · exact absurd (Nat.lt_of_lt_of_le (Heap.lt_size e) z) (Nat.lt_irrefl _)
  have cellK : ∀ x c, X.env.cells.lookup x = some c → ∀ v, s.heap.IsCell c v → h'.IsCell c v := fun x c e v ⟨o, ho, hd⟩ => by
    have nch : c ∉ ch := fun z => (hch c z).2.2.1 x c e rfl
    by_cases hc : c ∈ X.fs
    · obtain ⟨sl, q⟩ := slot c o (I.cne x c e) hc nch ho (I.freeC x c e)
      exact ⟨_, q, hd⟩
    · exact ⟨o, keep c o (I.cne x c e) hc nch ho (I.freeC x c e), hd⟩
  refine ⟨I.ok, I.os, hg, ⟨fun b o e n hb hx => ?_, fun b o e n hb hx => ?_, fun b o e n hx => ?_, fun b o e hx => ?_, fun b xs e => tups b xs (I.base.tups b xs e), fun b o xs e => frzs b o xs (I.base.frzs b o xs e), fun b ps e => ?_⟩, ?_, fun x c e => ?_, ?_, fun x c e => ?_, fun p hp => ?_, hok, I.len⟩
  · exact keep b o (neL b o e) hb (neC b o e hx) (I.base.keep b o e n hb hx) (I.base.free b o e n hx)
  · obtain ⟨sl, e1⟩ := I.base.slot b o e n hb hx
    obtain ⟨sl', e2⟩ := slot b _ (neL b o e) hb (neC b o e hx) e1 (I.base.free b o e n hx)
    exact ⟨sl', e2⟩
  · obtain ⟨o', e1⟩ := I.base.there b o e hx
    exact free b o' (neC b o e hx) e1 (I.base.free b o e n hx)
  · obtain ⟨o', e1⟩ := I.base.there b o e hx
    exact there b o' (neC b o e hx) e1
  · obtain ⟨m1, e1⟩ := I.base.tbls b ps e
    obtain ⟨m2, e2⟩ := tbls b _ e1
    exact ⟨m1 ++ m2, by rw [e2, Array.append_assoc]⟩
  · obtain ⟨m, hn, hl⟩ := I.loc
    refine ⟨m, ns m hn, fun i x v e1 e2 e3 => ?_⟩
    obtain ⟨u, r, l⟩ := hl i x v e1 e2 e3
    refine ⟨u, r, ?_⟩
    rcases l with l | ⟨k, c, e, z⟩
    · exact .inl l
    · exact .inr ⟨k, c, e, cellK x c e _ z⟩
  · obtain ⟨v, z⟩ := I.cell x c e
    exact ⟨v, cellK x c e v z⟩
  · obtain ⟨m, ⟨o, _, _, ho, _⟩, _⟩ := I.loc
    exact free _ o (fun z => (hch _ z).2.1 rfl) ho I.free
  · obtain ⟨v, o, ho, hd⟩ := I.cell x c e
    exact free c o (fun z => (hch c z).2.2.1 x c e rfl) ho (I.freeC x c e)
  · obtain ⟨e, n, ne, nf, d⟩ := I.pin p hp
    have nch : p.1 ∉ ch := fun z => (hch p.1 z).2.2.2 p hp rfl
    exact ⟨keep p.1 p.2 ne nf nch e n, free p.1 p.2 nch e n, ne, nf, d⟩
theorem Inv.un {t' : Nat} (I : Inv X pins σ H s) (u : Un X.fs [] H H' s.heap h') (hok : HOk X.prog X.w H' h') : Inv X pins σ H' { s with heap := h', toks := t' } := by
  obtain ⟨m, ⟨o, es, ep, ho, r⟩, _⟩ := id I.loc
  obtain ⟨sl, hL⟩ := u.any ho I.free (by simp)
  exact I.step (g' := s.gens) (d' := s.drawn) (ch := []) (fun _ z => nomatch z) (fun b o _ hb _ e n => u.keep b o e n hb (by simp)) (fun b o _ hb _ e n => u.slot b o e n hb (by simp)) (fun b o _ e n => u.free b o e n (by simp)) (fun b o _ e => u.there b o e (by simp)) u.tups u.frzs u.tbls (fun m' hm => by
    obtain ⟨o', es', ep', ho', r'⟩ := hm
    rw [ho] at ho'; cases ho'
    exact ⟨_, es', ep', hL, r'⟩) hok I.bare
theorem Inv.call {g' : Array GenState} {t' : Nat} {d' : Drawn} {ch : List Addr} (I : Inv X pins σ H s) (u : Un (frs X.stack) ch H H' s.heap h') (hok : HOk X.prog X.w H' h') (hg : AllBare g')
    (hch : ∀ b ∈ ch, (b ∈ X.ex ∨ X.s₀.heap.objs.size ≤ b) ∧ b ≠ X.env.locals ∧ (∀ x c, X.env.cells.lookup x = some c → c ≠ b) ∧ ∀ p ∈ X.pn ++ pins, p.1 ≠ b) :
    Inv X pins σ H' { s with heap := h', gens := g', drawn := d', toks := t' } := by
  obtain ⟨m, ⟨o, es, ep, ho, r⟩, _⟩ := id I.loc
  obtain ⟨sl, hL⟩ := u.any ho I.free fun z => (hch _ z).2.1 rfl
  exact I.step (ch := ch) hch (fun b o hL hb hc e n => u.keep b o e n (fun z => (List.mem_cons.mp (I.stkSub b z)).elim hL hb) hc) (fun b o _ _ hc e n => u.any e n hc) (fun b o hc e n => u.free b o e n hc) (fun b o hc e => u.there b o e hc) u.tups u.frzs u.tbls (fun m' hm => by
    obtain ⟨o', es', ep', ho', r'⟩ := hm
    rw [ho] at ho'; cases ho'
    exact ⟨_, es', ep', hL, r'⟩) hok hg
theorem Inv.turned {t' : Nat} {it : Addr} (I : Inv X pins σ H s) (k : ∀ b o, b ≠ it → s.heap.get? b = some o → h'.get? b = some o) (hn : H it = none) (hL : it ≠ X.env.locals)
    (h1 : it ∈ X.ex ∨ X.s₀.heap.objs.size ≤ it) (h2 : ∀ x c, X.env.cells.lookup x = some c → c ≠ it) (h3 : ∀ p ∈ X.pn ++ pins, p.1 ≠ it) : Inv X pins σ H { s with heap := h', toks := t' } := by
  have nit : ∀ b u, H b = some u → b ≠ it := fun b u e z => by rw [z, hn] at e; cases e
  refine I.step (g' := s.gens) (d' := s.drawn) (ch := [it]) (fun b hb => ?_) (fun b o _ _ hc e _ => k b o (fun z => hc (by simp [z])) e) (fun b o _ _ hc e _ => ⟨o.slots, k b o (fun z => hc (by simp [z])) e⟩) (fun _ _ _ _ n => n)
    (fun b o hc e => ⟨o, k b o (fun z => hc (by simp [z])) e⟩) (fun _ _ e => e) (fun _ _ _ e => e) (fun b ps e => ⟨#[], by rw [e]; simp⟩) (fun m hm => ?_) (fun b u e => ?_) I.bare
  · have e : b = it := by simpa using hb
    subst e
    exact ⟨h1, hL, h2, h3⟩
  · obtain ⟨o, es, ep, ho, r⟩ := hm
    exact ⟨o, es, ep, k _ o (Ne.symm hL) ho, r⟩
  · refine (I.hok b u e).stay (fun c v hc q => k c v ?_ q) (fun _ q => q) fun _ _ q => q
    rcases hc with z | z
    · rw [z]; exact nit b u e
    · exact nit c _ z
theorem Inv.tok (I : Inv X pins σ H s) (t : Nat) : Inv X pins σ H { s with toks := t } := I.un (h' := s.heap) (t' := t) Un.refl I.hok
theorem Inv.kept {t' : Nat} (I : Inv X pins σ H s) (k : ∀ b u, s.heap.get? b = some u → h'.get? b = some u) : Inv X pins σ H { s with heap := h', toks := t' } := I.un (Un.kept k) (I.hok.kept k)
theorem Inv.laid {a : Addr} {o : HO} {t' : Nat} (I : Inv X pins σ H s) (k : ∀ b u, s.heap.get? b = some u → h'.get? b = some u) (hp : s.heap.objs.size ≤ a) (new : ObjOk X.prog X.w (upd H a o) h' a o) :
    Inv X pins σ (upd H a o) { s with heap := h', toks := t' } := I.un (Un.laid k hp (I.hok.fresh hp)) (I.hok.laid k hp new)
theorem Inv.write {x e : Addr} {o : HO} {t' : Nat} (I : Inv X pins σ H s) (mu : Mut (H x)) (he : e = x ∨ H e = some (.own x)) (k : ∀ b u, b ≠ e → s.heap.get? b = some u → h'.get? b = some u) (heo : ∃ u, h'.get? e = some u)
    (new : ObjOk X.prog X.w (upd H x o) h' x o) : Inv X pins σ (upd H x o) { s with heap := h', toks := t' } := I.un (Un.write mu he k heo) (I.hok.write mu he k heo new)
theorem Inv.weak {σ' : List (Option V)} (I : Inv X pins σ H s) (hl : σ'.length = σ.length) (w : ∀ (i : Nat) v, σ'[i]? = some (some v) → σ[i]? = some (some v)) : Inv X pins σ' H s :=
  ⟨I.ok, I.os, I.bare, I.base, let ⟨m, hn, hl'⟩ := I.loc; ⟨m, hn, fun i x v e1 e2 e3 => hl' i x v e1 (w i v e2) e3⟩, I.cell, I.free, I.freeC, I.pin, I.hok, hl.trans I.len⟩
theorem Inv.pins_of {pins' : List (Addr × Obj)} (I : Inv X pins σ H s) (h : ∀ p ∈ pins', s.heap.get? p.1 = some p.2 ∧ H p.1 = none ∧ p.1 ≠ X.env.locals ∧ p.1 ∉ X.fs ∧ ∀ v, p.2.data ≠ .cell v) : Inv X pins' σ H s :=
  ⟨I.ok, I.os, I.bare, I.base, I.loc, I.cell, I.free, I.freeC, fun p hp => (List.mem_append.mp hp).elim (fun z => I.pin p (List.mem_append_left _ z)) (h p), I.hok, I.len⟩
theorem nodup_ix {N : List Str} (hN : N.Nodup) {i j : Nat} {x : Str} (a : N[i]? = some x) (b : N[j]? = some x) : i = j := by
  obtain ⟨h1, e1⟩ := List.getElem?_eq_some_iff.mp a
  obtain ⟨h2, e2⟩ := List.getElem?_eq_some_iff.mp b
  exact (List.getElem_inj hN).mp (e1.trans e2.symm)
theorem store_ok2 {M : Model} {A : Around} {E : Value → Shared → Prop} {i : Nat} {x : Str} {v : V} {u : Value} {Q : Unit → Shared → Prop} (I : Inv X pins σ H s) (hN : X.N.Nodup) (hi : X.N[i]? = some x) (hx : Loc X.env.scope x) (r : RelV v u)
    (h : ∀ s', Inv X pins (σ.set i (some v)) H s' → (∃ a, Heap.SameBut a s.heap s'.heap ∧ (a = X.env.locals ∨ X.env.cells.lookup x = some a)) → Q () s') (hf : X.fn x = true ∨ X.env.scope.names.lookup x = some .local := by first | exact .inl rfl | exact .inr rfl | assumption) : wpAny M A (storeName X.env x u) Q E s := by
  obtain ⟨m, hn, hl⟩ := id I.loc
  have hcls : (X.env.scope.kind == .class || (X.env.scope.kind == .module && X.env.locals != X.env.globals)) = false := by rw [I.ok.kind]; rfl
  have hiσ : i < σ.length := by rw [I.len]; exact (List.getElem?_eq_some_iff.mp hi).1
  have cne := I.cne
  have tracked : ∀ {a : Addr} {h' : Heap}, (∃ o, s.heap.get? a = some o ∧ H a = none) → Heap.SameBut a s.heap h' → HOk X.prog X.w H h' := fun {a h'} ha hs b ob e => by
    obtain ⟨_, _, hfree⟩ := ha
    refine (I.hok b ob e).stay (fun c w' hc q => (hs.2 c ?_).trans q) (fun _ q => q) fun _ _ q => q
    rintro rfl
    rcases hc with rfl | hc
    · rw [hfree] at e; cases e
    · rw [hfree] at hc; cases hc
  rcases hx with hk | hk
  · refine wpAny_storeName_local hk hn (fun h' hn' hs => ?_) hcls
    obtain ⟨oL, _, _, hoL, _⟩ := id hn
    refine h _ ⟨I.ok, I.os, I.bare, ⟨fun b o e n hb hx => ?_, fun b o e n hb hx => ?_, I.base.free, fun b o e hx => ?_, I.base.tups, I.base.frzs, I.base.tbls⟩, ⟨_, hn', fun j y v' e1 e2 e3 => ?_⟩, fun y c e => ?_, I.free, I.freeC, fun p hp => ?_, tracked ⟨oL, hoL, I.free⟩ hs, by simpa using I.len⟩ ⟨_, hs, .inl rfl⟩
    · exact (hs.2 b (Nat.ne_of_lt (Nat.lt_of_lt_of_le (Heap.lt_size e) I.ok.above))).trans (I.base.keep b o e n hb hx)
    · obtain ⟨sl, e1⟩ := I.base.slot b o e n hb hx
      exact ⟨sl, (hs.2 b (Nat.ne_of_lt (Nat.lt_of_lt_of_le (Heap.lt_size e) I.ok.above))).trans e1⟩
    · obtain ⟨o', e1⟩ := I.base.there b o e hx
      exact ⟨o', (hs.2 b (Nat.ne_of_lt (Nat.lt_of_lt_of_le (Heap.lt_size e) I.ok.above))).trans e1⟩
    · by_cases hj : j = i
      · subst hj
        rw [hi] at e1; cases e1
        rw [List.getElem?_set_self hiσ] at e2
        cases e2
        exact ⟨u, r, .inl ⟨hk, by simp⟩⟩
      · rw [List.getElem?_set_ne (Ne.symm hj)] at e2
        obtain ⟨u', r', q⟩ := hl j y v' e1 e2 e3
        refine ⟨u', r', ?_⟩
        rcases q with ⟨k, e⟩ | ⟨k, c, e, z⟩
        · refine .inl ⟨k, ?_⟩
          have : y ≠ x := fun e => hj (nodup_ix hN e1 (e ▸ hi))
          simp [this, e]
        · exact .inr ⟨k, c, e, z.sameBut hs (cne y c e)⟩
    · obtain ⟨w', z⟩ := I.cell y c e
      exact ⟨w', z.sameBut hs (cne y c e)⟩
    · obtain ⟨e, n, ne, nf, d⟩ := I.pin p hp
      exact ⟨(hs.2 p.1 ne).trans e, n, ne, nf, d⟩
  · have hfn : X.fn x = true := by
      rcases hf with z | z
      · exact z
      · rw [z] at hk; cases hk
    obtain ⟨c, hc⟩ := I.ok.has x (.inl hk)
    obtain ⟨w', z⟩ := I.cell x c hc
    refine wpAny_storeName_cell I.ok.kind hk hc z (fun h' hc' hs => ?_)
    obtain ⟨oc, hoc, hocd⟩ := id z
    refine h { s with heap := h' } ⟨I.ok, I.os, I.bare, ⟨fun b o e n hb hx => ?_, fun b o e n hb hx => ?_, I.base.free, fun b o e hx => ?_, I.base.tups, I.base.frzs, I.base.tbls⟩, ⟨m, hn.sameBut hs (Ne.symm (cne x c hc)), fun j y v' e1 e2 e3 => ?_⟩, fun y c' e => ?_, I.free, I.freeC, fun p hp => ?_, tracked ⟨oc, hoc, I.freeC x c hc⟩ hs, by simpa using I.len⟩ ⟨c, hs, .inr hc⟩
    · exact (hs.2 b (Nat.ne_of_lt (Nat.lt_of_lt_of_le (Heap.lt_size e) (I.ok.cab x c hfn hc)))).trans (I.base.keep b o e n hb hx)
    · obtain ⟨sl, e1⟩ := I.base.slot b o e n hb hx
      exact ⟨sl, (hs.2 b (Nat.ne_of_lt (Nat.lt_of_lt_of_le (Heap.lt_size e) (I.ok.cab x c hfn hc)))).trans e1⟩
    · obtain ⟨o', e1⟩ := I.base.there b o e hx
      exact ⟨o', (hs.2 b (Nat.ne_of_lt (Nat.lt_of_lt_of_le (Heap.lt_size e) (I.ok.cab x c hfn hc)))).trans e1⟩
    · by_cases hj : j = i
      · subst hj
        rw [hi] at e1; cases e1
        rw [List.getElem?_set_self hiσ] at e2
        cases e2
        exact ⟨u, r, .inr ⟨.inl hk, c, hc, hc'⟩⟩
      · rw [List.getElem?_set_ne (Ne.symm hj)] at e2
        obtain ⟨u', r', q⟩ := hl j y v' e1 e2 e3
        refine ⟨u', r', ?_⟩
        rcases q with q | ⟨k, c', e, z'⟩
        · exact .inl q
        · refine .inr ⟨k, c', e, z'.sameBut hs ?_⟩
          rintro rfl
          exact hj (nodup_ix hN e1 (I.ok.inj _ _ _ e hc ▸ hi))
    · by_cases hcc : c' = c
      · subst hcc; exact ⟨_, hc'⟩
      · obtain ⟨w2, z2⟩ := I.cell y c' e
        exact ⟨w2, z2.sameBut hs hcc⟩
    · obtain ⟨e, n, ne, nf, d⟩ := I.pin p hp
      refine ⟨(hs.2 p.1 ?_).trans e, n, ne, nf, d⟩
      intro q
      rw [q, hoc] at e
      have q' : oc = p.2 := Option.some.inj e
      exact d w' (by rw [← q']; exact hocd)
theorem store_ok {M : Model} {A : Around} {E : Value → Shared → Prop} {i : Nat} {x : Str} {v : V} {u : Value} {Q : Unit → Shared → Prop} (I : Inv X pins σ H s) (hN : X.N.Nodup) (hi : X.N[i]? = some x) (hx : Loc X.env.scope x) (r : RelV v u)
    (h : ∀ s', Inv X pins (σ.set i (some v)) H s' → Q () s') (hf : X.fn x = true ∨ X.env.scope.names.lookup x = some .local := by first | exact .inl rfl | exact .inr rfl | assumption) : wpAny M A (storeName X.env x u) Q E s :=
  store_ok2 I hN hi hx r (fun s' I' _ => h s' I') hf
theorem Inv.call' {s' : Shared} {ch : List Addr} (I : Inv X pins σ H s) (ho : s'.os = s.os) (u : Un (frs X.stack) ch H H' s.heap s'.heap) (hok : HOk X.prog X.w H' s'.heap) (hg : AllBare s'.gens)
    (hch : ∀ b ∈ ch, (b ∈ X.ex ∨ X.s₀.heap.objs.size ≤ b) ∧ b ≠ X.env.locals ∧ (∀ x c, X.env.cells.lookup x = some c → c ≠ b) ∧ ∀ p ∈ X.pn ++ pins, p.1 ≠ b) : Inv X pins σ H' s' := by
  obtain ⟨h', g', d', t', o'⟩ := s'
  have e : o' = s.os := ho
  subst e
  exact I.call (g' := g') (t' := t') (d' := d') u hok hg hch
end
abbrev XK := Value → Option Addr → Hp → Prop
abbrev St := List (Option V)
abbrev VK := V → Hp → Prop
abbrev TE := St → Hp → VK → Prop
abbrev TT := St → Hp → (Bool → Hp → Prop) → Prop
abbrev TA := St → Hp → (List V → Hp → Prop) → Prop
structure Ends where
  nx : St → Hp → Prop
  rt : VK
  bk : St → Hp → Prop := fun _ _ => False
  ct : St → Hp → Prop := fun _ _ => False
abbrev TS := Ends → St → Hp → Prop
def EP (X : Cx) (pins : List (Addr × Obj)) (σ : St) (Q : VK) (u : Value) (s' : Shared) : Prop := ∃ v H', Inv X pins σ H' s' ∧ RelV v u ∧ Q v H'
def TP (X : Cx) (pins : List (Addr × Obj)) (σ : St) (Q : Bool → Hp → Prop) (b : Bool) (s' : Shared) : Prop := ∃ H', Inv X pins σ H' s' ∧ Q b H'
def AP (X : Cx) (pins : List (Addr × Obj)) (σ : St) (Q : List V → Hp → Prop) (us : List Value) (s' : Shared) : Prop := ∃ vs H', Inv X pins σ H' s' ∧ Vals vs us ∧ Q vs H'
def SP (X : Cx) (pins : List (Addr × Obj)) (D : Ends) (f : Flow) (s' : Shared) : Prop :=
  match f with
  | .next => ∃ σ' H', Inv X pins σ' H' s' ∧ D.nx σ' H'
  | .brk => ∃ σ' H', Inv X pins σ' H' s' ∧ D.bk σ' H'
  | .cont => ∃ σ' H', Inv X pins σ' H' s' ∧ D.ct σ' H'
  | .ret u => ∃ v σ' H', Inv X pins σ' H' s' ∧ RelV v u ∧ D.rt v H'
structure PE (X : Cx) (e : Expr) (t : TE) : Prop where
  go : ∀ (pins : List (Addr × Obj)) (s : Shared) (σ : St) (H : Hp) (Q : VK), Inv X pins σ H s → t σ H Q → wpAny (model X.prog X.w) X.A (eval e X.env) (EP X pins σ Q) X.xe s
instance {X : Cx} {e : Expr} {t : TE} : CoeFun (PE X e t) fun _ => ∀ (pins : List (Addr × Obj)) (s : Shared) (σ : St) (H : Hp) (Q : VK), Inv X pins σ H s → t σ H Q → wpAny (model X.prog X.w) X.A (eval e X.env) (EP X pins σ Q) X.xe s := ⟨fun h => h.go⟩
structure PT (X : Cx) (e : Expr) (t : TT) : Prop where
  go : ∀ (pins : List (Addr × Obj)) (s : Shared) (σ : St) (H : Hp) (Q : Bool → Hp → Prop), Inv X pins σ H s → t σ H Q → wpAny (model X.prog X.w) X.A (isTrue e X.env (eval e X.env)) (TP X pins σ Q) X.xe s
instance {X : Cx} {e : Expr} {t : TT} : CoeFun (PT X e t) fun _ => ∀ (pins : List (Addr × Obj)) (s : Shared) (σ : St) (H : Hp) (Q : Bool → Hp → Prop), Inv X pins σ H s → t σ H Q → wpAny (model X.prog X.w) X.A (isTrue e X.env (eval e X.env)) (TP X pins σ Q) X.xe s := ⟨fun h => h.go⟩
structure PW (X : Cx) (e : Expr) (t : TT) : Prop where
  go : ∀ (whole : Sem Value) (pins : List (Addr × Obj)) (s : Shared) (σ : St) (H : Hp) (Q : Bool → Hp → Prop), Inv X pins σ H s → t σ H Q → wpAny (model X.prog X.w) X.A (isTrue e X.env whole) (TP X pins σ Q) X.xe s
instance {X : Cx} {e : Expr} {t : TT} : CoeFun (PW X e t) fun _ => ∀ (whole : Sem Value) (pins : List (Addr × Obj)) (s : Shared) (σ : St) (H : Hp) (Q : Bool → Hp → Prop), Inv X pins σ H s → t σ H Q → wpAny (model X.prog X.w) X.A (isTrue e X.env whole) (TP X pins σ Q) X.xe s := ⟨fun h => h.go⟩
theorem PW.pt {X : Cx} {e : Expr} {t : TT} (h : PW X e t) : PT X e t := ⟨h.go _⟩
structure PA (X : Cx) (es : List Expr) (t : TA) : Prop where
  go : ∀ (pos : Pos) (pins : List (Addr × Obj)) (s : Shared) (σ : St) (H : Hp) (Q : List V → Hp → Prop), Inv X pins σ H s → t σ H Q → wpAny (model X.prog X.w) X.A (spliced (backTo pos (starEach es X.env))) (AP X pins σ Q) X.xe s
instance {X : Cx} {es : List Expr} {t : TA} : CoeFun (PA X es t) fun _ => ∀ (pos : Pos) (pins : List (Addr × Obj)) (s : Shared) (σ : St) (H : Hp) (Q : List V → Hp → Prop), Inv X pins σ H s → t σ H Q → wpAny (model X.prog X.w) X.A (spliced (backTo pos (starEach es X.env))) (AP X pins σ Q) X.xe s := ⟨fun h => h.go⟩
structure PS (X : Cx) (st : Stmt) (t : TS) : Prop where
  go : ∀ (pins : List (Addr × Obj)) (s : Shared) (σ : St) (H : Hp) (D : Ends), Inv X pins σ H s → t D σ H → wpAny (model X.prog X.w) X.A (exec st X.env) (SP X pins D) X.xe s
instance {X : Cx} {st : Stmt} {t : TS} : CoeFun (PS X st t) fun _ => ∀ (pins : List (Addr × Obj)) (s : Shared) (σ : St) (H : Hp) (D : Ends), Inv X pins σ H s → t D σ H → wpAny (model X.prog X.w) X.A (exec st X.env) (SP X pins D) X.xe s := ⟨fun h => h.go⟩
structure PSs (X : Cx) (st : List Stmt) (t : TS) : Prop where
  go : ∀ (pins : List (Addr × Obj)) (s : Shared) (σ : St) (H : Hp) (D : Ends), Inv X pins σ H s → t D σ H → wpAny (model X.prog X.w) X.A (execs st X.env) (SP X pins D) X.xe s
instance {X : Cx} {st : List Stmt} {t : TS} : CoeFun (PSs X st t) fun _ => ∀ (pins : List (Addr × Obj)) (s : Shared) (σ : St) (H : Hp) (D : Ends), Inv X pins σ H s → t D σ H → wpAny (model X.prog X.w) X.A (execs st X.env) (SP X pins D) X.xe s := ⟨fun h => h.go⟩
theorem thn {α : Type} {t : Sem α} {Q Q' : α → Shared → Prop} {M : Model} {A : Around} {E : Value → Shared → Prop} {s : Shared} (h : wpAny M A t Q E s) (hQ : ∀ a s, Q a s → Q' a s) : wpAny M A t Q' E s := wpAny_mono h hQ fun _ _ x => x
section
variable {X : Cx}
theorem bin {a b : Expr} {ta tb : TE} (ha : PE X a ta) (hb : PE X b tb) {pins : List (Addr × Obj)} {s : Shared} {σ : St} {H : Hp} {R : V → V → Hp → Prop} (I : Inv X pins σ H s) (h : ta σ H fun x H1 => tb σ H1 fun y H2 => R x y H2)
    {α : Type} {Q : α → Shared → Prop} {f : Value → Value → Sem α}
    (hf : ∀ v u s2 x y H2, Inv X pins σ H2 s2 → RelV x v → RelV y u → R x y H2 → wpAny (model X.prog X.w) X.A (f v u) Q X.xe s2) :
    wpAny (model X.prog X.w) X.A (eval a X.env) (fun v s₁ => wpAny (model X.prog X.w) X.A (eval b X.env) (fun u s₂ => wpAny (model X.prog X.w) X.A (f v u) Q X.xe s₂) X.xe s₁) X.xe s := by
  refine thn (ha pins s σ H _ I h) fun v s1 ⟨x, H1, I1, r1, q1⟩ => ?_
  refine thn (hb pins s1 σ H1 _ I1 q1) fun u s2 ⟨y, H2, I2, r2, q2⟩ => ?_
  exact hf v u s2 x y H2 I2 r1 r2 q2
def tVar (i : Nat) : TE := fun σ H Q => ∃ v, σ[i]? = some (some v) ∧ Q v H
def tC (v : V) : TE := fun _ H Q => Q v H
theorem pe_var {i : Nat} {x : Str} {pos : Pos} (hN : X.N[i]? = some x) (hv : Vis X.env.scope x) (hd : (x == ("__debug__" : Str)) = false := by decide) (hcd : (x == ("__classdict__" : Str)) = false := by decide) : PE X (.Name x pos) (tVar i) := by
  (try refine ⟨?_⟩); intro pins s σ H Q I h
  obtain ⟨v, e, h⟩ := h
  obtain ⟨m, hn, hl⟩ := I.loc
  obtain ⟨u, r, l⟩ := hl i x v hN e hv
  have fin : EP X pins σ Q u s := ⟨v, H, I, r, h⟩
  rcases l with ⟨hk, hm⟩ | ⟨hk, c, hc, hcell⟩
  · exact wpAny_Name (wpAny_loadName_local I.ok.kind hk hn hm fin) hd
  · rcases hk with hk | hk
    · exact wpAny_Name (wpAny_loadName_cell I.ok.kind hk hc hcell fin) hd
    · exact wpAny_Name (wpAny_loadName_free I.ok.kind hk hc hcell fin hcd) hd
theorem pe_int {i j pos} : PE X (.Constant (.int i) j pos) (tC (.int i)) := ⟨fun _ _ _ H _ I h => wpAny_Constant_int ⟨.int i, H, I.tok _, ⟨_, rfl⟩, h⟩⟩
theorem pe_bl {b j pos} : PE X (.Constant (.bool b) j pos) (tC (.bl b)) := ⟨fun _ _ _ H _ I h => Constant_bool ⟨.bl b, H, I, rfl, h⟩⟩
theorem pe_non {j pos} : PE X (.Constant .none j pos) (tC .non) := ⟨fun _ _ _ H _ I h => Constant_none ⟨.non, H, I, rfl, h⟩⟩
theorem pe_str {x j pos} : PE X (.Constant (.str x) j pos) (tC (.str x)) := ⟨fun _ _ _ H _ I h => Calls.Constant_str ⟨.str x, H, I.tok _, ⟨_, rfl⟩, h⟩⟩
def Gl (X : Cx) (x : Str) : Prop := X.env.kindOf x = some .globalImplicit
theorem ld_glob {E : Value → Shared → Prop} {pins : List (Addr × Obj)} {s : Shared} {σ : St} {H : Hp} {x : Str} {u : Value} {pos : Pos} {Q : Value → Shared → Prop} (I : Inv X pins σ H s) (hg : Gl X x) (hm : X.mg x = some u) (h : Q u s)
    (hd : (x == ("__debug__" : Str)) = false := by decide) : wpAny (model X.prog X.w) X.A (eval (.Name x pos) X.env) Q E s :=
  Calls.Name_function_global I.ok.kind hg (Calls.loadGlobal_global (by rw [I.ok.glob]; exact I.mod.glob.keeps I.bk) hm h) hd
theorem ld_blt {E : Value → Shared → Prop} {pins : List (Addr × Obj)} {s : Shared} {σ : St} {H : Hp} {x : Str} {u : Value} {pos : Pos} {Q : Value → Shared → Prop} (I : Inv X pins σ H s) (hg : Gl X x) (hm : X.mg x = none) (hv : bootBuiltins x = some u) (h : Q u s)
    (hn : x ≠ "__name__" := by decide) (hd : (x == ("__debug__" : Str)) = false := by decide) : wpAny (model X.prog X.w) X.A (eval (.Name x pos) X.env) Q E s := by
  obtain ⟨mb, h1, h2⟩ := I.mod.blt
  exact Calls.Name_function_global I.ok.kind hg (Calls.loadGlobal_builtin (by rw [I.ok.glob]; exact I.mod.glob.keeps I.bk) hm (by rw [I.ok.blt]; exact h1.keeps I.bk) ((h2 x hn).trans hv) h) hd
theorem pe_glob {x : Str} {v : V} {u : Value} {pos : Pos} (hg : Gl X x) (hm : X.mg x = some u) (r : RelV v u) (hd : (x == ("__debug__" : Str)) = false := by decide) : PE X (.Name x pos) (tC v) := ⟨fun _ _ _ H _ I h => ld_glob I hg hm ⟨v, H, I, r, h⟩ hd⟩
theorem pe_bltn {x : Str} {v : V} {u : Value} {pos : Pos} (hg : Gl X x) (hm : X.mg x = none) (hv : bootBuiltins x = some u) (r : RelV v u) (hn : x ≠ "__name__" := by decide) (hd : (x == ("__debug__" : Str)) = false := by decide) : PE X (.Name x pos) (tC v) := ⟨fun _ _ _ H _ I h => ld_blt I hg hm hv ⟨v, H, I, r, h⟩ hn hd⟩
variable {a b : Expr} {ta tb : TE} {pos : Pos}
def tB (t : TE) : TT := fun σ H Q => t σ H fun x H1 => ∃ c, x = .bl c ∧ Q c H1
theorem pt_val {e : Expr} {t : TE} (h : PE X e t) (he : ∀ whole, isTrue e X.env whole = (do let v ← whole; standAt e.pos; holding [v] (truthy v)) := by intro _; rfl) : PT X e (tB t) := by
  (try refine ⟨?_⟩); intro pins s σ H Q I hw
  refine isTrue_plain (thn (h pins s σ H _ I hw) fun v s1 ⟨x, H1, I1, r1, q1⟩ => ?_) (he _)
  obtain ⟨d, rfl, q⟩ := q1
  cases r1
  exact wpAny_truthy_bool ⟨H1, I1, q⟩
variable {tA tB' : TT} {rest : List Expr}
def tAnd (t u : TT) : TT := fun σ H Q => t σ H fun c H1 => if c = true then u σ H1 Q else Q false H1
def tOr (t u : TT) : TT := fun σ H Q => t σ H fun c H1 => if c = true then Q true H1 else u σ H1 Q
def tNot (t : TT) : TT := fun σ H Q => t σ H fun c H1 => Q (!c) H1
theorem pw_and1 (ha : PT X a tA) : PW X (.BoolOp .And [a] pos) tA := by
  (try refine ⟨?_⟩); intro wh pins s σ H Q I h
  refine isTrue_and (thn (ha pins s σ H Q I h) fun c s1 e => ?_)
  cases c with
  | true => exact isTrue_and_nil e
  | false => exact e
theorem pw_or1 (ha : PT X a tA) : PW X (.BoolOp .Or [a] pos) tA := by
  (try refine ⟨?_⟩); intro wh pins s σ H Q I h
  refine isTrue_or (thn (ha pins s σ H Q I h) fun c s1 e => ?_)
  cases c with
  | false => exact isTrue_or_nil e
  | true => exact e
theorem pw_and (ha : PT X a tA) (hb : PW X (.BoolOp .And (b :: rest) pos) tB') : PW X (.BoolOp .And (a :: b :: rest) pos) (tAnd tA tB') := by
  (try refine ⟨?_⟩); intro wh pins s σ H Q I h
  refine isTrue_and (thn (ha pins s σ H _ I h) fun c s1 ⟨H1, I1, q1⟩ => ?_)
  cases c with
  | true => exact hb wh pins s1 σ H1 Q I1 q1
  | false => exact ⟨H1, I1, q1⟩
theorem pw_or (ha : PT X a tA) (hb : PW X (.BoolOp .Or (b :: rest) pos) tB') : PW X (.BoolOp .Or (a :: b :: rest) pos) (tOr tA tB') := by
  (try refine ⟨?_⟩); intro wh pins s σ H Q I h
  refine isTrue_or (thn (ha pins s σ H _ I h) fun c s1 ⟨H1, I1, q1⟩ => ?_)
  cases c with
  | true => exact ⟨H1, I1, q1⟩
  | false => exact hb wh pins s1 σ H1 Q I1 q1
theorem pt_not (ha : PT X a tA) : PT X (.UnaryOp .Not a pos) (tNot tA) := by
  (try refine ⟨?_⟩); intro pins s σ H Q I h
  exact isTrue_not (ha pins s σ H (fun c H1 => Q (!c) H1) I h)
def tAndV (ta tb : TE) : TE := fun σ H Q => ta σ H fun x H1 => ∃ c, x = .bl c ∧ if c = true then tb σ H1 Q else Q (.bl false) H1
def tNotV (ta : TE) : TE := fun σ H Q => ta σ H fun x H1 => ∃ c, x = .bl c ∧ Q (.bl (!c)) H1
theorem pe_one {op} {t : TE} (h : PE X a t) : PE X (.BoolOp op [a] pos) t := ⟨fun pins s σ H Q I hw => BoolOp_one (h pins s σ H Q I hw)⟩
theorem pe_and (ha : PE X a ta) (hb : PE X (.BoolOp .And (b :: rest) pos) tb) : PE X (.BoolOp .And (a :: b :: rest) pos) (tAndV ta tb) := by
  (try refine ⟨?_⟩); intro pins s σ H Q I h
  refine BoolOp_and (thn (ha pins s σ H _ I h) fun v s1 ⟨x, H1, I1, r1, q1⟩ => ?_)
  obtain ⟨c, rfl, q1⟩ := q1
  cases r1
  refine wpAny_truthy_bool ?_
  cases c with
  | true => exact hb pins s1 σ H1 Q I1 q1
  | false => exact ⟨.bl false, H1, I1, rfl, q1⟩
theorem pe_not (ha : PE X a ta) : PE X (.UnaryOp .Not a pos) (tNotV ta) := by
  (try refine ⟨?_⟩); intro pins s σ H Q I h
  refine UnaryOp_ (thn (ha pins s σ H _ I h) fun v s1 ⟨x, H1, I1, r1, q1⟩ => ?_)
  obtain ⟨c, rfl, q1⟩ := q1
  cases r1
  exact not_of (wpAny_truthy_bool ⟨.bl (!c), H1, I1, rfl, q1⟩)
end
def SqL (K : PySem.W.Frag) (H : Hp) (a : Addr) (xs : List V) : Prop :=
  Rd H a (.lst xs) ∨
    ∃ (o : Obj) (its : Array Value) (n : Nat), K.lookup a = some o ∧ o.cls = .type "list" ∧ o.dict = none ∧ o.data = .seq its n ∧ its.size ≤ sizeLine ∧ Vals xs its.toList
def SqT (K : PySem.W.Frag) (H : Hp) (a : Addr) (xs : List V) : Prop :=
  Rd H a (.tup xs) ∨
    ∃ (o : Obj) (its : Array Value) (n : Nat), K.lookup a = some o ∧ o.cls = .type "tuple" ∧ o.data = .seq its n ∧ its.size ≤ sizeLine ∧ Vals xs its.toList
section
variable {X : Cx} {pins : List (Addr × Obj)} {σ : St} {H : Hp} {s : Shared} {a : Addr} {xs ys : List V}
theorem SqL.of {K : PySem.W.Frag} (h : H a = some (.lst xs)) : SqL K H a xs := .inl (.inl h)
theorem SqT.of {K : PySem.W.Frag} (h : H a = some (.tup xs)) : SqT K H a xs := .inl (.inl h)
theorem Inv.list (I : Inv X pins σ H s) (h : SqL X.K H a xs) : ∃ its : List Value, Vals xs its ∧ PlainL s.heap a its.toArray ∧ xs.length ≤ sizeLine := by
  rcases h with h | ⟨o, its, n, hk, hc, hd, hs, hz, r⟩
  · obtain ⟨z, its, n, r, e⟩ := h.ok I.hok
    exact ⟨its, r, ⟨_, n, e, rfl, rfl, rfl⟩, z⟩
  · refine ⟨its.toList, r, ⟨o, n, I.kIn a o hk, hc, hd, by simpa using hs⟩, ?_⟩
    have e := r.length
    simp only [Array.length_toList] at e
    omega
theorem Inv.tuple (I : Inv X pins σ H s) (h : SqT X.K H a xs) : ∃ its : List Value, Vals xs its ∧ IsTup s.heap a its.toArray ∧ xs.length ≤ sizeLine := by
  rcases h with h | ⟨o, its, n, hk, hc, hs, hz, r⟩
  · obtain ⟨z, its, r, p⟩ := h.ok I.hok
    exact ⟨its, r, p, z⟩
  · refine ⟨its.toList, r, ⟨o, I.kIn a o hk, hc, n, by simpa using hs⟩, ?_⟩
    have e := r.length
    simp only [Array.length_toList] at e
    omega
end
abbrev Cx.wish (X : Cx) (E : Value → Shared → Prop) : Cx := { X with xe := E }
abbrev Cx.nox (X : Cx) : Cx := X.wish fun _ _ => False
theorem Cx.Ok.wish {X : Cx} (ok : X.Ok) (E : Value → Shared → Prop) : (X.wish E).Ok :=
  ⟨ok.mod, ok.kind, ok.glob, ok.blt, ok.above, ok.inj, ok.has, ok.cab, ok.hd, ok.frames, ok.stk, ok.exf, ok.bs, ok.bsz, ok.noex, ok.exfs, ok.funs, ok.frf⟩
theorem Cx.Ok.unwish {X : Cx} {E : Value → Shared → Prop} (ok : (X.wish E).Ok) : X.Ok :=
  ⟨ok.mod, ok.kind, ok.glob, ok.blt, ok.above, ok.inj, ok.has, ok.cab, ok.hd, ok.frames, ok.stk, ok.exf, ok.bs, ok.bsz, ok.noex, ok.exfs, ok.funs, ok.frf⟩
section
variable {X : Cx} {pins : List (Addr × Obj)} {σ : St} {H : Hp} {s : Shared} {E : Value → Shared → Prop}
theorem Inv.wish (I : Inv X pins σ H s) (E : Value → Shared → Prop) : Inv (X.wish E) pins σ H s := ⟨I.ok.wish E, I.os, I.bare, I.base, I.loc, I.cell, I.free, I.freeC, I.pin, I.hok, I.len⟩
theorem Inv.unwish (I : Inv (X.wish E) pins σ H s) : Inv X pins σ H s := ⟨I.ok.unwish, I.os, I.bare, I.base, I.loc, I.cell, I.free, I.freeC, I.pin, I.hok, I.len⟩
theorem SP.unwish {D : Ends} {f : Flow} {s' : Shared} (h : SP (X.wish E) pins D f s') : SP X pins D f s' := by
  cases f with
  | next => obtain ⟨σ', H', I, q⟩ := h; exact ⟨σ', H', I.unwish, q⟩
  | brk => obtain ⟨σ', H', I, q⟩ := h; exact ⟨σ', H', I.unwish, q⟩
  | cont => obtain ⟨σ', H', I, q⟩ := h; exact ⟨σ', H', I.unwish, q⟩
  | ret u => obtain ⟨v, σ', H', I, r, q⟩ := h; exact ⟨v, σ', H', I.unwish, r, q⟩
theorem PSs.nox {st : List Stmt} {t : TS} (h : PSs X.nox st t) : PSs X st t := ⟨fun pins s σ H D I hw =>
  wpAny_mono (h pins s σ H D (I.wish _) hw) (fun _ _ q => q.unwish) fun _ _ z => False.elim z⟩
end
section
variable {X : Cx} {st : Stmt} {rest : List Stmt} {t u : TS} {e : Expr} {te : TE} {pos : Pos}
def tNext : TS := fun D σ H => D.nx σ H
def tSeq (t u : TS) : TS := fun D σ H => t { D with nx := u D } σ H
theorem pss_nil : PSs X [] tNext := ⟨fun _ _ σ H _ I h => wpAny_execs_nil ⟨σ, H, I, h⟩⟩
theorem pss_cons (h1 : PS X st t) (h2 : PSs X rest u) : PSs X (st :: rest) (tSeq t u) := by
  (try refine ⟨?_⟩); intro pins s σ H D I h
  refine wpAny_execs_cons (thn (h1 pins s σ H { D with nx := u D } I h) fun f s1 q => ?_)
  cases f with
  | next =>
    obtain ⟨σ', H', I', q⟩ := q
    exact h2 pins s1 σ' H' D I' q
  | ret v => exact q
  | brk => exact q
  | cont => exact q
theorem pss_one (h1 : PS X st t) : PSs X [st] t := by
  (try refine ⟨?_⟩); intro pins s σ H D I h
  refine wpAny_execs_cons (thn (h1 pins s σ H D I h) fun f s1 q => ?_)
  cases f with
  | next => exact wpAny_execs_nil q
  | ret v => exact q
  | brk => exact q
  | cont => exact q
theorem Inv.quiet {pins : List (Addr × Obj)} {σ : St} {H : Hp} {s : Shared} (I : Inv X pins σ H s) : interactive X.env = false := by simp [interactive, I.ok.kind]
def tDrop (te : TE) : TS := fun D σ H => te σ H fun _ H1 => D.nx σ H1
theorem ps_expr (he : PE X e te) (hs : swapsWith e none pos.line X.env = pure false := by rfl) : PS X (.Expr e pos) (tDrop te) := by
  (try refine ⟨?_⟩); intro pins s σ H D I h
  exact wpAny_Expr_any (thn (he pins s σ H _ I h) fun v s1 ⟨x, H1, I1, r1, q1⟩ => ⟨σ, H1, I1, q1⟩) I.quiet hs
def tRet (te : TE) : TS := fun D σ H => te σ H D.rt
theorem ps_ret (he : PE X e te) : PS X (.Return (some e) pos) (tRet te) := by
  (try refine ⟨?_⟩); intro pins s σ H D I h
  exact wpAny_Return_some (thn (he pins s σ H _ I h) fun v s1 ⟨x, H1, I1, r1, q1⟩ => ⟨x, σ, H1, I1, r1, q1⟩)
def tIfS (c : TT) (t u : TS) : TS := fun D σ H => c σ H fun b H1 => if b = true then t D σ H1 else u D σ H1
theorem ps_if {c : Expr} {a b : List Stmt} {tc : TT} (hc : PT X c tc) (ha : PSs X a t) (hb : PSs X b u) : PS X (.If c a b pos) (tIfS tc t u) := by
  (try refine ⟨?_⟩); intro pins s σ H D I h
  refine wpAny_If (thn (hc pins s σ H _ I h) fun d s1 ⟨H1, I1, q1⟩ => ?_)
  cases d with
  | true => exact ha pins s1 σ H1 D I1 q1
  | false => exact hb pins s1 σ H1 D I1 q1
end
abbrev TG := V → St → Hp → (St → Hp → Prop) → Prop
abbrev TGs := List V → St → Hp → (St → Hp → Prop) → Prop
structure PG (X : Cx) (target : Expr) (t : TG) : Prop where
  go : ∀ (pins : List (Addr × Obj)) (s : Shared) (σ : St) (H : Hp) (v : V) (u : Value) (Q : St → Hp → Prop), Inv X pins σ H s → RelV v u → t v σ H Q →
    wpAny (model X.prog X.w) X.A (assign target X.env u) (fun _ s' => ∃ σ' H', Inv X pins σ' H' s' ∧ Q σ' H') X.xe s
instance {X : Cx} {target : Expr} {t : TG} : CoeFun (PG X target t) fun _ => ∀ (pins : List (Addr × Obj)) (s : Shared) (σ : St) (H : Hp) (v : V) (u : Value) (Q : St → Hp → Prop), Inv X pins σ H s → RelV v u → t v σ H Q →
    wpAny (model X.prog X.w) X.A (assign target X.env u) (fun _ s' => ∃ σ' H', Inv X pins σ' H' s' ∧ Q σ' H') X.xe s := ⟨fun h => h.go⟩
structure PGs (X : Cx) (ts : List Expr) (t : TGs) : Prop where
  go : ∀ (pins : List (Addr × Obj)) (s : Shared) (σ : St) (H : Hp) (vs : List V) (us : List Value) (Q : St → Hp → Prop), Inv X pins σ H s → Vals vs us → t vs σ H Q →
    wpAny (model X.prog X.w) X.A (assignInOrder ((assignEach ts X.env).map (·.2)) us) (fun _ s' => ∃ σ' H', Inv X pins σ' H' s' ∧ Q σ' H') X.xe s
instance {X : Cx} {ts : List Expr} {t : TGs} : CoeFun (PGs X ts t) fun _ => ∀ (pins : List (Addr × Obj)) (s : Shared) (σ : St) (H : Hp) (vs : List V) (us : List Value) (Q : St → Hp → Prop), Inv X pins σ H s → Vals vs us → t vs σ H Q →
    wpAny (model X.prog X.w) X.A (assignInOrder ((assignEach ts X.env).map (·.2)) us) (fun _ s' => ∃ σ' H', Inv X pins σ' H' s' ∧ Q σ' H') X.xe s := ⟨fun h => h.go⟩
abbrev TSet := V → V → V → Hp → (Hp → Prop) → Prop
def PSet (X : Cx) (t : TSet) : Prop :=
  ∀ (pins : List (Addr × Obj)) (s : Shared) (σ : St) (H : Hp) (o i v : V) (ov iv u : Value) (Q : Hp → Prop), Inv X pins σ H s → RelV o ov → RelV i iv → RelV v u → t o i v H Q →
    wpAny (model X.prog X.w) X.A (setItem ov iv u) (fun _ s' => ∃ H', Inv X pins σ H' s' ∧ Q H') X.xe s
section
variable {X : Cx} {pos : Pos}
def gName (i : Nat) : TG := fun v σ H Q => Q (σ.set i (some v)) H
theorem pg_name {i : Nat} {x : Str} (hN : X.N.Nodup) (hi : X.N[i]? = some x) (hx : Loc X.env.scope x) (hf : X.fn x = true ∨ X.env.scope.names.lookup x = some .local := by first | exact .inl rfl | exact .inr rfl | assumption) : PG X (.Name x pos) (gName i) := by
  (try refine ⟨?_⟩); intro pins s σ H v u Q I r h
  exact wpAny_assign_Name (store_ok I hN hi hx r (fun s' I' => ⟨_, H, I', h⟩) hf)
def gNil : TGs := fun vs σ H Q => vs = [] ∧ Q σ H
def gCons (t : TG) (u : TGs) : TGs := fun vs σ H Q => ∃ v r, vs = v :: r ∧ t v σ H fun σ' H' => u r σ' H' Q
theorem pgs_nil : PGs X [] gNil := by
  (try refine ⟨?_⟩); intro pins s σ H vs us Q I r h
  obtain ⟨e, h⟩ := h
  subst e
  cases r
  exact assignInOrder_nil ⟨σ, H, I, h⟩
theorem pgs_cons {e : Expr} {es : List Expr} {t : TG} {u : TGs} (h1 : PG X e t) (h2 : PGs X es u)
    (hs : (assignEach (e :: es) X.env).map (·.2) = assign e X.env :: (assignEach es X.env).map (·.2) := by rfl) : PGs X (e :: es) (gCons t u) := by
  (try refine ⟨?_⟩); intro pins s σ H vs us Q I r h
  obtain ⟨v, vr, e1, h⟩ := h
  subst e1
  cases r with
  | cons r rr =>
    rw [hs]
    refine assignInOrder_cons (thn (h1 pins s σ H _ _ _ I r h) fun _ s1 ⟨σ1, H1, I1, q1⟩ => ?_)
    exact h2 pins s1 σ1 H1 _ _ Q I1 rr q1
def gTup (K : PySem.W.Frag) (n : Nat) (t : TGs) : TG := fun v σ H Q => ∃ a xs, v = .ref a ∧ SqT K H a xs ∧ xs.length = n ∧ t xs σ H Q
theorem pg_tup {es : List Expr} {k : Nat} {t : TGs} {n : Nat} (hc : X.calm = true) (h : PGs X es t)
    (hn : (assignEach es X.env).length = n := by rfl) (hst : (assignEach es X.env).findIdx? (·.1) = none := by rfl) : PG X (.Tuple es k pos) (gTup X.K n t) := by
  (try refine ⟨?_⟩); intro pins s σ H v u Q I r hw
  obtain ⟨a, xs, e1, hq, hl, hw⟩ := hw
  subst e1
  cases r
  obtain ⟨its, rv, ht, hz⟩ := I.tuple hq
  refine assign_Tuple_tuple (I.ok.hd hc) ht (by simp [hn, ← hl, rv.length]) hst fun h' hx => ?_
  have I1 : Inv X pins σ H { s with heap := h' } := I.kept (t' := s.toks) fun b o e => hx b o (Nat.ne_of_lt (Heap.lt_size e)) e
  exact h pins _ σ H xs _ Q I1 (by simpa using rv) hw
def gSub (to ti : TE) (t : TSet) : TG := fun v σ H Q => to σ H fun o H1 => ti σ H1 fun i H2 => t o i v H2 fun H3 => Q σ H3
theorem pg_sub {o i : Expr} {to ti : TE} {t : TSet} (ho : PE X o to) (hi : PE X i ti) (hs : PSet X t)
    (ha : ∀ v, assign (.Subscript o i pos) X.env v = (do
      let ov ← holding [v] (eval o X.env)
      let iv ← holding [v, ov] (eval i X.env)
      standAt pos
      holding [v, ov, iv] (setItem ov iv v)
      release [v, ov, iv] []) := by intro _; rfl) : PG X (.Subscript o i pos) (gSub to ti t) := by
  (try refine ⟨?_⟩); intro pins s σ H v u Q I r h
  rw [ha]
  refine wpAny_bind (wpAny_holding (thn (ho pins s σ H _ I h) fun ov s1 ⟨x, H1, I1, r1, q1⟩ => ?_))
  refine wpAny_bind (wpAny_holding (thn (hi pins s1 σ H1 _ I1 q1) fun iv s2 ⟨y, H2, I2, r2, q2⟩ => ?_))
  refine wpAny_bind (wpAny_standAt (wpAny_bind (wpAny_holding (thn (hs pins s2 σ H2 x y v ov iv u _ I2 r1 r2 r q2) fun _ s3 ⟨H3, I3, q3⟩ => ?_))))
  exact wpAny_release ⟨σ, H3, I3, q3⟩
def tAsg (te : TE) (g : TG) : TS := fun D σ H => te σ H fun x H1 => g x σ H1 D.nx
theorem ps_asg {tg e : Expr} {te : TE} {g : TG} (he : PE X e te) (hg : PG X tg g) (hs : swapsWithSole [tg] e pos.line X.env = pure false := by rfl) (hw : swappedStores [tg] e X.env = pure none := by rfl)
    (h1 : (assignEach [tg] X.env).map (·.2) = [assign tg X.env] := by rfl) : PS X (.Assign [tg] e pos) (tAsg te g) := by
  (try refine ⟨?_⟩); intro pins s σ H D I h
  refine wpAny_Assign_stores (thn (he pins s σ H _ I h) fun v s1 ⟨x, H1, I1, r1, q1⟩ => ?_) hs hw
  rw [h1]
  exact thn (hg pins s1 σ H1 x v _ I1 r1 q1) fun _ s2 q => q
theorem ps_set {i : Nat} {x : Str} {e : Expr} {te : TE} {pos' : Pos} (hN : X.N.Nodup) (hi : X.N[i]? = some x) (hx : Loc X.env.scope x) (he : PE X e te) (hs : swapsWith e (some (.Name x pos')) pos.line X.env = pure false := by rfl) (hf : X.fn x = true ∨ X.env.scope.names.lookup x = some .local := by first | exact .inl rfl | exact .inr rfl | assumption) :
    PS X (.Assign [.Name x pos'] e pos) (tAsg te (gName i)) := by
  (try refine ⟨?_⟩); intro pins s σ H D I h
  refine wpAny_Assign_Name (thn (he pins s σ H _ I h) fun v s1 ⟨y, H1, I1, r1, q1⟩ => ?_) hs
  exact store_ok I1 hN hi hx r1 (fun s2 I2 => ⟨_, H1, I2, q1⟩) hf
def tPar (i j : Nat) (ta : TA) : TS := fun D σ H => ta σ H fun vs H1 => ∃ v w, vs = [v, w] ∧ D.nx ((σ.set i (some v)).set j (some w)) H1
theorem ps_par {i j : Nat} {x y : Str} {a b : Expr} {ta : TA} {px py pt : Pos} {kt k2 pt2} (hc : X.calm = true) (hN : X.N.Nodup) (hi : X.N[i]? = some x) (hj : X.N[j]? = some y) (hij : i ≠ j)
    (hx : X.env.scope.names.lookup x = some .local) (hy : X.env.scope.names.lookup y = some .local) (ha : PA X [a, b] ta)
    (hw : swappedStores [.Tuple [.Name x px, .Name y py] kt pt] (.Tuple [a, b] k2 pt2) X.env = pure (some [x, y]))
    (hs : swapsWithSole [.Tuple [.Name x px, .Name y py] kt pt] (.Tuple [a, b] k2 pt2) pos.line X.env = pure false := by rfl) :
    PS X (.Assign [.Tuple [.Name x px, .Name y py] kt pt] (.Tuple [a, b] k2 pt2) pos) (tPar i j ta) := by
  (try refine ⟨?_⟩); intro pins s σ H D I h
  rw [exec_Assign_arm]
  refine wpAny_bind (wpAny_standAt ?_)
  rw [hs]
  refine wpAny_bind (wpAny_pure ?_)
  rw [if_neg (by decide)]
  refine wpAny_bind (Tuple_ (thn (ha _ pins s σ H _ I h) fun us s1 ⟨vs, H1, I1, r1, q1⟩ => ?_))
  obtain ⟨v, w, e1, q1⟩ := q1
  subst e1
  obtain ⟨u1, u2, rfl, rv, rw'⟩ : ∃ u1 u2, us = [u1, u2] ∧ RelV v u1 ∧ RelV w u2 := by
    cases r1 with
    | cons p q =>
      cases q with
      | cons p' q' =>
        cases q'
        exact ⟨_, _, rfl, p, p'⟩
  refine wpAny_newObj_type ?_ (by show 2 ≤ sizeLine; decide)
  have I2 : Inv X pins σ H1 { s1 with heap := s1.heap.push { cls := .type "tuple", data := .seq [u1, u2].toArray } } := I1.kept (t' := s1.toks) fun b o e => Heap.get?_push_of_some _ e
  rw [hw]
  refine wpAny_bind (wpAny_pure ?_)
  show wpAny (model X.prog X.w) X.A (do rule "assign.swapped-stores"; let items ← unpackItems (.ref s1.heap.objs.size) 2 none; assignInOrder [fun v => bindName X.env y v, fun v => bindName X.env x v] items.reverse; pure Flow.next) _ _ _
  refine wpAny_bind (wpAny_rule (wpAny_bind (unpackItems_tuple (items := #[u1, u2]) (I.ok.hd hc) (IsTup.new s1.heap _) fun h' hx' => ?_)))
  have I3 := I2.kept (h' := h') (t' := s1.toks) fun b o e => hx' b o (Nat.ne_of_lt (Heap.lt_size e)) e
  show wpAny _ _ (assignInOrder [fun v => bindName X.env y v, fun v => bindName X.env x v] [u2, u1] >>= fun _ => pure Flow.next) _ _ _
  refine wpAny_bind (assignInOrder_cons (wpAny_bindName (store_ok I3 hN hj (.inl hy) rw' (fun s2 I4 => ?_) (.inr hy))))
  refine assignInOrder_cons (wpAny_bindName (store_ok I4 hN hi (.inl hx) rv (fun s3 I5 => assignInOrder_nil (wpAny_pure ?_)) (.inr hx)))
  rw [List.set_comm _ _ (Ne.symm hij)] at I5
  exact ⟨_, H1, I5, q1⟩
end
section
variable {X : Cx} {pos : Pos}
def tWhile (c : TT) (tb : TS) : TS := fun D σ H => ∃ W : Nat → St → Hp → Prop, (∃ m, W m σ H) ∧ ∀ m σ H, W m σ H →
  c σ H fun b H1 => if b = true then ∃ N : St → Hp → Prop, (∀ σ' H', N σ' H' → ∃ m', m' < m ∧ W m' σ' H') ∧ tb { D with nx := N, ct := N, bk := D.nx } σ H1 else D.nx σ H1
theorem ps_while {c : Expr} {body : List Stmt} {tc : TT} {tb : TS} (hp : PassesOwn (model X.prog X.w) X.A X.env X.xe) (hc : PT X c tc) (hb : PSs X body tb) : PS X (.While c body [] pos) (tWhile tc tb) := by
  (try refine ⟨?_⟩); intro pins s σ H D I h
  obtain ⟨W, ⟨m0, w0⟩, turn⟩ := h
  refine wpAny_While (codeAny_whileLoop (fun n s' => ∃ σ' H', Inv X pins σ' H' s' ∧ W n σ' H') ?_ m0 ⟨σ, H, I, w0⟩)
  rintro n s1 ⟨σ1, H1, I1, w1⟩
  refine wpAny_passesOwn hp (thn (hc pins s1 σ1 H1 _ I1 (turn n σ1 H1 w1)) fun b s2 ⟨H2, I2, q2⟩ => ?_)
  cases b with
  | true =>
    obtain ⟨N, hN, q2⟩ := q2
    rw [if_pos rfl]
    refine wpAny_passesOwn hp (thn (hb pins s2 σ1 H2 _ I2 q2) fun f s3 q3 => ?_)
    cases f with
    | next =>
      obtain ⟨σ3, H3, I3, n3⟩ := q3
      obtain ⟨m', hm, w3⟩ := hN σ3 H3 n3
      exact ⟨m', hm, σ3, H3, I3, w3⟩
    | cont =>
      obtain ⟨σ3, H3, I3, n3⟩ := q3
      obtain ⟨m', hm, w3⟩ := hN σ3 H3 n3
      exact ⟨m', hm, σ3, H3, I3, w3⟩
    | brk => exact q3
    | ret v => exact q3
  | false =>
    rw [if_neg Bool.false_ne_true]
    exact wpAny_execs_nil ⟨σ1, H2, I2, q2⟩
end
structure It where
  go : Nat → Hp → Prop
  yld : Nat → Hp → V → Hp → Prop
  stop : Nat → Hp → Prop
def FpOk (X : Cx) (pins : List (Addr × Obj)) (H : Hp) (b : Addr) : Prop :=
  H b = none ∧ b ≠ X.env.locals ∧ b ∉ X.fs ∧ (b ∈ X.ex ∨ X.s₀.heap.objs.size ≤ b) ∧ (∀ x c, X.env.cells.lookup x = some c → c ≠ b) ∧ ∀ p ∈ X.pn ++ pins, p.1 ≠ b
theorem Inv.fpOk {X : Cx} {pins : List (Addr × Obj)} {σ : St} {H H' : Hp} {s : Shared} {b : Addr} (I : Inv X pins σ H s) (hb : s.heap.objs.size ≤ b) (hn : H' b = none) : FpOk X pins H' b := by
  refine ⟨hn, Nat.ne_of_gt (Nat.lt_of_lt_of_le I.lt hb), I.nofs hb, .inr (Nat.le_trans I.sz hb), fun x c e z => ?_, fun p hp z => ?_⟩
  · obtain ⟨v, q⟩ := I.cell x c e
    exact absurd (Nat.lt_of_lt_of_le q.lt (by rw [z]; exact hb)) (Nat.lt_irrefl _)
  · exact absurd (Nat.lt_of_lt_of_le (Heap.lt_size (I.pin p hp).1) (by rw [z]; exact hb)) (Nat.lt_irrefl _)
structure Turn (P : Program) (w : World) (K : PySem.W.Frag) (tg : Expr) (J : It) (fp : List Addr) (it : Addr) (tn : Nat → Heap → Prop) : Prop where
  mem : it ∈ fp
  obj : ∀ i h, tn i h → ∀ b ∈ fp, ∃ o, h.get? b = some o ∧ ∀ v, o.data ≠ .cell v
  keep : ∀ i h h', tn i h → (∀ b ∈ fp, ∀ o, h.get? b = some o → h'.get? b = some o) → tn i h'
  item : ∀ (X : Cx), X.prog = P → X.w = w → X.K = K → X.calm = true → ∀ (i : Nat) (pins : List (Addr × Obj)) (s : Shared) (σ : St) (H : Hp) (E : Value → Shared → Prop), Inv X pins σ H s → (∀ b ∈ fp, FpOk X pins H b) → tn i s.heap → J.go i H →
    wpAny (model P w) X.A (pyNext (.ref it)) (fun r s1 => ∃ u, r = some u ∧
      wpAny (model P w) X.A (letOwnedTupleGo tg (.ref it) u) (fun _ s2 => ∃ x H', Inv X pins σ H' s2 ∧ RelV x u ∧ J.yld i H x H' ∧ tn (i + 1) s2.heap ∧ ∀ b ∈ fp, H' b = none) E s1) E s
  done : ∀ (X : Cx), X.prog = P → X.w = w → X.K = K → X.calm = true → ∀ (i : Nat) (pins : List (Addr × Obj)) (s : Shared) (σ : St) (H : Hp) (E : Value → Shared → Prop), Inv X pins σ H s → (∀ b ∈ fp, FpOk X pins H b) → tn i s.heap → J.stop i H →
    wpAny (model P w) X.A (pyNext (.ref it)) (fun r s1 => r = none ∧ Inv X pins σ H s1) E s
  self : ∀ (A : Around) (i : Nat) (s : Shared) (Q : Value → Shared → Prop) (E : Value → Shared → Prop), tn i s.heap → Q (.ref it) s → wpAny (model P w) A (pyIter (.ref it)) Q E s
abbrev TI := St → Hp → (It → Hp → Prop) → Prop
def PIE (X : Cx) (pins : List (Addr × Obj)) (σ : St) (tg : Expr) (R : It → Hp → Prop) (itv : Value) (s2 : Shared) : Prop :=
  ∃ (it : Addr) (fp : List Addr) (tn : Nat → Heap → Prop) (J : It) (H' : Hp), itv = .ref it ∧ Inv X pins σ H' s2 ∧ Turn X.prog X.w X.K tg J fp it tn ∧ tn 0 s2.heap ∧ (∀ b ∈ fp, FpOk X pins H' b) ∧ R J H'
structure PI (X : Cx) (tg iter : Expr) (wi : TI) : Prop where
  go : ∀ (pins : List (Addr × Obj)) (s : Shared) (σ : St) (H : Hp) (R : It → Hp → Prop), Inv X pins σ H s → wi σ H R →
    wpAny (model X.prog X.w) X.A (eval iter X.env) (fun v s1 => wpAny (model X.prog X.w) X.A (pyIter v) (PIE X pins σ tg R) X.xe s1) X.xe s
instance {X : Cx} {tg iter : Expr} {wi : TI} : CoeFun (PI X tg iter wi) fun _ => ∀ (pins : List (Addr × Obj)) (s : Shared) (σ : St) (H : Hp) (R : It → Hp → Prop), Inv X pins σ H s → wi σ H R →
    wpAny (model X.prog X.w) X.A (eval iter X.env) (fun v s1 => wpAny (model X.prog X.w) X.A (pyIter v) (PIE X pins σ tg R) X.xe s1) X.xe s := ⟨fun h => h.go⟩
theorem go_of {M : Model} {A : Around} {E : Value → Shared → Prop} {s : Shared} {tg : Expr} {it : Addr} {u : Value} {o : Obj} {n : String} {vs : Array Value} {Q : Unit → Shared → Prop} (ho : s.heap.get? it = some o) (hc : o.cls = .type n) (hd : o.data = .fields vs)
    (hn : ["enumerate", "zip", "dict_itemiterator", "dict_reverseitemiterator", "odict_iterator", "itertools.zip_longest", "itertools.pairwise"].contains n = false) (hQ : Q () s) : wpAny M A (letOwnedTupleGo tg (.ref it) u) Q E s := by
  unfold letOwnedTupleGo
  cases tg <;> first
    | exact wpAny_pure hQ
    | (cases u <;> first
        | exact wpAny_pure hQ
        | (refine wpAny_bind (wpAny_load ho ?_)
           rw [hc, hd]
           show wpAny M A (if (["enumerate", "zip", "dict_itemiterator", "dict_reverseitemiterator", "odict_iterator", "itertools.zip_longest", "itertools.pairwise"].contains n && vs[0]? == some (rawInt _)) = true then _ else _) Q E s
           rw [if_neg (by intro h; rw [hn, Bool.false_and] at h; cases h)]
           exact wpAny_pure hQ))
def Itr (lo : Int) (n : Nat) : It := ⟨fun i _ => i < n, fun i H x H' => H' = H ∧ x = .int (lo + i), fun i _ => n ≤ i⟩
theorem turn_range {P : Program} {w : World} {K : PySem.W.Frag} {tg : Expr} (it : Addr) (lo : Int) (n : Nat) : Turn P w K tg (Itr lo n) [it] it (fun i h => IsRangeIter h it (lo + (i : Nat) * 1) ((n : Int) - (i : Nat)) 1) where
  mem := by simp
  obj := fun i h st b hb => by
    have e : b = it := by simpa using hb
    subst e
    exact ⟨_, st, fun v z => by
      have z' : Data.fields _ = Data.cell v := z
      cases z'⟩
  keep := fun i h h' st k => k it (by simp) _ st
  item := by
    intro X hP hw hK hc i pins s σ H E I hf st hg
    subst hP hw hK
    obtain ⟨f0, f1, f2, f3, f4, f5⟩ := hf it (by simp)
    have W := Walks.range (prog := X.prog) (w := X.w) (I.ok.hd hc) it lo 1 n
    refine W.item i s _ _ hg st fun v h' tk hv st' kk => ?_
    obtain ⟨t, rfl⟩ := hv
    have I1 : Inv X pins σ H { s with heap := h', toks := tk } := I.turned (fun b o hb e => kk b o (by simpa using hb) e) f0 f1 f3 f4 f5
    refine ⟨_, rfl, go_of (s := { s with heap := h', toks := tk }) (n := "range_iterator") st' rfl rfl (by decide) ⟨.int (lo + i), H, I1, ⟨t, ?_⟩, ⟨rfl, rfl⟩, st', fun b hb => (hf b hb).1⟩⟩
    rw [Int.mul_one]
  done := by
    intro X hP hw hK hc i pins s σ H E I hf st hg
    subst hP hw hK
    obtain ⟨f0, f1, f2, f3, f4, f5⟩ := hf it (by simp)
    exact wpAny_pyNext_range_end (I.ok.hd hc) st (by have : n ≤ i := hg; omega) fun h' eb => ⟨rfl, I.turned (t' := s.toks) (fun b o hb e => eb b o hb e) f0 f1 f3 f4 f5⟩
  self := fun _ _ _ _ _ st h => wpAny_pyIter_rangeiter st h
section
variable {X : Cx} {tg : Expr}
theorem range_it {pins : List (Addr × Obj)} {σ : St} {H : Hp} {s : Shared} {R : It → Hp → Prop} {E : Value → Shared → Prop} {lo hi : Int} {t u v : Tok} {tk : Nat} (I : Inv X pins σ H s) (h1 : -(2 ^ 62) ≤ lo) (h2 : lo < 2 ^ 62) (h3 : -(2 ^ 62) ≤ hi) (h4 : hi < 2 ^ 62)
    (q : R (Itr lo (hi - lo).toNat) H) : wpAny (model X.prog X.w) X.A (pyIter (.ref s.heap.objs.size)) (PIE X pins σ tg R) E { s with heap := s.heap.push { cls := .type "range", data := .fields #[.int lo t, .int hi u, .int 1 v] }, toks := tk } := by
  refine wpAny_pyIter_range (IsRange.new ..) (small_one h1 h2 h3 h4) ?_
  have I1 : Inv X pins σ H { s with heap := s.heap.push { cls := .type "range", data := .fields #[.int lo t, .int hi u, .int 1 v] }, toks := tk } := I.kept fun b o e => Heap.get?_push_of_some _ e
  refine ⟨(s.heap.push { cls := .type "range", data := .fields #[.int lo t, .int hi u, .int 1 v] }).objs.size, [(s.heap.push { cls := .type "range", data := .fields #[.int lo t, .int hi u, .int 1 v] }).objs.size], _, _, H, rfl,
    I1.kept (t' := tk) fun b o e => Heap.get?_push_of_some _ e, turn_range _ lo (hi - lo).toNat, ?_, fun b hb => ?_, q⟩
  · have e1 : lo + ((0 : Nat) : Int) * 1 = lo := by simp
    have e2 : (((hi - lo).toNat : Nat) : Int) - ((0 : Nat) : Int) = Builtin.Range.rangeSize lo hi 1 := by rw [rangeSize_one]; split <;> omega
    show IsRangeIter _ _ (lo + ((0 : Nat) : Int) * 1) ((((hi - lo).toNat : Nat) : Int) - ((0 : Nat) : Int)) 1
    rw [e1, e2]
    exact Heap.get?_push_size _ rfl
  · have e : b = (s.heap.push { cls := .type "range", data := .fields #[.int lo t, .int hi u, .int 1 v] }).objs.size := by simpa using hb
    subst e
    exact I1.fpOk (Nat.le_refl _) (I1.hok.fresh (Nat.le_refl _))
def iRng1 (ta : TA) : TI := fun σ H R => ta σ H fun vs H1 => ∃ j : Int, vs = [.int j] ∧ -(2 ^ 62) ≤ j ∧ j < 2 ^ 62 ∧ R (Itr 0 j.toNat) H1
def iRng2 (ta : TA) : TI := fun σ H R => ta σ H fun vs H1 => ∃ i j : Int, vs = [.int i, .int j] ∧ (-(2 ^ 62) ≤ i ∧ i < 2 ^ 62 ∧ -(2 ^ 62) ≤ j ∧ j < 2 ^ 62) ∧ R (Itr i (j - i).toNat) H1
theorem pi_range1 {a : Expr} {ta : TA} {p pos : Pos} (hg : Gl X "range") (hm : X.mg "range" = none) (ha : PA X [a] ta) (hs : starEach [a] X.env = [(false, eval a X.env)] := by rfl) : PI X tg (.Call (.Name "range" p) [a] [] pos) (iRng1 ta) := by
  (try refine ⟨?_⟩); intro pins s σ H R I h
  refine Call_ (ld_blt I hg hm boot_range (PyProof.Rows.callWith_type1 (thn (ha pos pins s σ H _ I h) fun us s1 ⟨vs, H1, I1, r1, q1⟩ => ?_) hs rfl))
  obtain ⟨j, e, q1, q2, q⟩ := q1
  subst e
  cases r1 with
  | cons r rr =>
    cases rr
    obtain ⟨t, rfl⟩ := r
    exact call_range_1 (range_it I1 (by omega) (by omega) q1 q2 (by simpa using q))
theorem pi_range2 {a b : Expr} {ta : TA} {p pos : Pos} (hg : Gl X "range") (hm : X.mg "range" = none) (ha : PA X [a, b] ta) (hs : starEach [a, b] X.env = [(false, eval a X.env), (false, eval b X.env)] := by rfl) (hs2 : starEach [b] X.env = [(false, eval b X.env)] := by rfl) :
    PI X tg (.Call (.Name "range" p) [a, b] [] pos) (iRng2 ta) := by
  (try refine ⟨?_⟩); intro pins s σ H R I h
  refine Call_ (ld_blt I hg hm boot_range (PyProof.Rows.callWith_type1 (thn (ha pos pins s σ H _ I h) fun us s1 ⟨vs, H1, I1, r1, q1⟩ => ?_) (by rw [hs, hs2]) (by rw [hs2]; rfl)))
  obtain ⟨i, j, e, ⟨q1, q2, q3, q4⟩, q⟩ := q1
  subst e
  cases r1 with
  | cons r rr =>
    cases rr with
    | cons r' rr =>
      cases rr
      obtain ⟨t, rfl⟩ := r
      obtain ⟨t', rfl⟩ := r'
      exact call_range_2 (range_it I1 q1 q2 q3 q4 q)
def tFor (wi : TI) (g : TG) (tb : TS) : TS := fun D σ H => wi σ H fun J H1 => ∃ W : Nat → Nat → St → Hp → Prop, (∃ m, W 0 m σ H1) ∧ ∀ i m σ H, W i m σ H →
  (J.stop i H ∧ D.nx σ H) ∨ (J.go i H ∧ ∃ N : St → Hp → Prop, (∀ σ' H', N σ' H' → ∃ m', m' < m ∧ W (i + 1) m' σ' H') ∧ ∀ x H', J.yld i H x H' → g x σ H' fun σ2 H2 => tb { D with nx := N, ct := N, bk := D.nx } σ2 H2)
def pinsAt (fp : List Addr) (h : Heap) : List (Addr × Obj) := fp.filterMap fun b => (h.get? b).map fun o => (b, o)
theorem mem_pinsAt {fp : List Addr} {h : Heap} {b : Addr} {o : Obj} (hb : b ∈ fp) (e : h.get? b = some o) : (b, o) ∈ pinsAt fp h := List.mem_filterMap.mpr ⟨b, hb, by rw [e]; rfl⟩
theorem of_pinsAt {fp : List Addr} {h : Heap} {p : Addr × Obj} (hp : p ∈ pinsAt fp h) : p.1 ∈ fp ∧ h.get? p.1 = some p.2 := by
  obtain ⟨b, hb, e⟩ := List.mem_filterMap.mp hp
  cases q : h.get? b with
  | none => rw [q] at e; cases e
  | some o =>
    rw [q] at e
    have e' : (b, o) = p := Option.some.inj e
    subst e'
    exact ⟨hb, q⟩
theorem Inv.pinned {pins : List (Addr × Obj)} {σ : St} {H : Hp} {s : Shared} {fp : List Addr} (I : Inv X pins σ H s) (hf : ∀ b ∈ fp, FpOk X pins H b) (ho : ∀ b ∈ fp, ∃ o, s.heap.get? b = some o ∧ ∀ v, o.data ≠ .cell v) : Inv X (pins ++ pinsAt fp s.heap) σ H s :=
  I.pins_of fun p hp => (List.mem_append.mp hp).elim (fun z => I.pin p (List.mem_append_right _ z)) fun z => by
    obtain ⟨hb, e⟩ := of_pinsAt z
    obtain ⟨f0, f1, f2, _⟩ := hf p.1 hb
    obtain ⟨o, e', d⟩ := ho p.1 hb
    rw [e] at e'; cases e'
    exact ⟨e, f0, f1, f2, d⟩
theorem Inv.unpinned {pins pl : List (Addr × Obj)} {σ : St} {H : Hp} {s : Shared} (I : Inv X (pins ++ pl) σ H s) : Inv X pins σ H s := I.pins_of fun p hp => I.pin p (List.mem_append_right _ (List.mem_append_left _ hp))
theorem ps_for {iter : Expr} {body : List Stmt} {wi : TI} {g : TG} {tb : TS} {pos : Pos} (hp : PassesOwn (model X.prog X.w) X.A X.env X.xe) (hc : X.calm = true) (hi : PI X tg iter wi) (hg : PG X tg g) (hb : PSs X body tb)
    (hs : ∀ x, foldedSetIterable iter X.env x = pure x := by intro _; rfl) : PS X (.For tg iter body [] pos) (tFor wi g tb) := by
  (try refine ⟨?_⟩); intro pins s σ H D I h
  refine wpAny_For (thn (hi pins s σ H _ I h) fun v s1 h1 => thn h1 fun itv s2 h2 => ?_) hs
  obtain ⟨it, fp, tn, J, H2, e, I2, T, st2, f2, W, ⟨m0, w0⟩, turn⟩ := h2
  subst e
  -- what stays true of the iterator's objects through the loop
  have stat : ∀ {H' : Hp}, (∀ b ∈ fp, H' b = none) → ∀ b ∈ fp, FpOk X pins H' b := fun hn b hb => ⟨hn b hb, (f2 b hb).2⟩
  refine codeAny_forLoop_any (fun n s' => ∃ i σ' H', Inv X pins σ' H' s' ∧ tn i s'.heap ∧ (∀ b ∈ fp, H' b = none) ∧ W i n σ' H') ?_ m0 ⟨0, σ, H2, I2, st2, fun b hb => (f2 b hb).1, w0⟩
  rintro n s3 ⟨i, σ3, H3, I3, st3, fr3, w3⟩
  rcases turn i n σ3 H3 w3 with ⟨stop, qn⟩ | ⟨go, N, hN, step⟩
  · refine wpAny_passesOwn hp (thn (T.done X rfl rfl rfl hc i pins s3 σ3 H3 X.xe I3 (stat fr3) st3 stop) fun r s4 ⟨hr, I4⟩ => ?_)
    subst hr
    exact wpAny_execs_nil ⟨σ3, H3, I4, qn⟩
  · refine wpAny_passesOwn hp (thn (T.item X rfl rfl rfl hc i pins s3 σ3 H3 X.xe I3 (stat fr3) st3 go) fun r s4 ⟨u, hr, h4⟩ => ?_)
    subst hr
    refine wpAny_passesOwn hp (thn h4 fun _ s5 ⟨x, H5, I5, r5, y5, st5, fr5⟩ => ?_)
    have I5' := I5.pinned (stat fr5) (T.obj _ _ st5)
    refine wpAny_passesOwn hp (thn (hg _ s5 σ3 H5 x u _ I5' r5 (step x H5 y5)) fun _ s6 ⟨σ6, H6, I6, q6⟩ => ?_)
    refine wpAny_passesOwn hp (thn (hb _ s6 σ6 H6 _ I6 q6) fun f s7 q7 => ?_)
    have again : ∀ {σ7 : St} {H7 : Hp}, Inv X (pins ++ pinsAt fp s5.heap) σ7 H7 s7 → N σ7 H7 → ∃ m, m < n ∧ ∃ i σ' H', Inv X pins σ' H' s7 ∧ tn i s7.heap ∧ (∀ b ∈ fp, H' b = none) ∧ W i m σ' H' := fun {σ7 H7} I7 n7 => by
      obtain ⟨m', hm, w7⟩ := hN σ7 H7 n7
      refine ⟨m', hm, i + 1, σ7, H7, I7.unpinned, T.keep _ _ _ st5 fun b hb o e => (I7.pin (b, o) (List.mem_append_right _ (List.mem_append_right _ (mem_pinsAt hb e)))).1, fun b hb => ?_, w7⟩
      obtain ⟨o, e, d⟩ := T.obj _ _ st5 b hb
      exact (I7.pin (b, o) (List.mem_append_right _ (List.mem_append_right _ (mem_pinsAt hb e)))).2.1
    cases f with
    | next => obtain ⟨σ7, H7, I7, n7⟩ := q7; exact again I7 n7
    | cont => obtain ⟨σ7, H7, I7, n7⟩ := q7; exact again I7 n7
    | brk => obtain ⟨σ7, H7, I7, q7⟩ := q7; exact ⟨σ7, H7, I7.unpinned, q7⟩
    | ret v => obtain ⟨x7, σ7, H7, I7, r7, q7⟩ := q7; exact ⟨x7, σ7, H7, I7.unpinned, r7, q7⟩
end
abbrev R2 := V → V → Hp → VK → Prop
def OpR (X : Cx) (f : Value → Value → Sem Value) (r : R2) : Prop :=
  ∀ (pins : List (Addr × Obj)) (s : Shared) (σ : St) (H : Hp) (x y : V) (v u : Value) (Q : VK), Inv X pins σ H s → RelV x v → RelV y u → r x y H Q →
    wpAny (model X.prog X.w) X.A (f v u) (EP X pins σ Q) X.xe s
def UnR (X : Cx) (f : Value → Sem Value) (r : V → Hp → VK → Prop) : Prop :=
  ∀ (pins : List (Addr × Obj)) (s : Shared) (σ : St) (H : Hp) (x : V) (v : Value) (Q : VK), Inv X pins σ H s → RelV x v → r x H Q →
    wpAny (model X.prog X.w) X.A (f v) (EP X pins σ Q) X.xe s
def CallR (X : Cx) (f : Value) (r : List V → Hp → VK → Prop) : Prop :=
  ∀ (pins : List (Addr × Obj)) (s : Shared) (σ : St) (H : Hp) (xs : List V) (us : List Value) (Q : VK), Inv X pins σ H s → Vals xs us → r xs H Q →
    wpAny (model X.prog X.w) X.A (call f us) (EP X pins σ Q) X.xe s
def tOp (r : R2) (ta tb : TE) : TE := fun σ H Q => ta σ H fun x H1 => tb σ H1 fun y H2 => r x y H2 Q
def tUn (r : V → Hp → VK → Prop) (ta : TE) : TE := fun σ H Q => ta σ H fun x H1 => r x H1 Q
def rI (C : Int → Int → Prop) (g : Int → Int → V) : R2 := fun x y H Q => ∃ i j, x = .int i ∧ y = .int j ∧ C i j ∧ Q (g i j) H
def rI0 (g : Int → Int → V) : R2 := fun x y H Q => ∃ i j, x = .int i ∧ y = .int j ∧ Q (g i j) H
def rU (g : Int → V) : V → Hp → VK → Prop := fun x H Q => ∃ i, x = .int i ∧ Q (g i) H
section
variable {X : Cx} {a b c : Expr} {ta tb tc : TE} {pos : Pos}
theorem binT (ha : PE X a ta) (hb : PE X b tb) {pins : List (Addr × Obj)} {s : Shared} {σ : St} {H : Hp} {R : V → V → Hp → Prop} (I : Inv X pins σ H s)
    (h : ta σ H fun x H1 => tb σ H1 fun y H2 => R x y H2) {Q : Value → Shared → Prop} {f : Value → Value → Sem Value}
    (hf : ∀ v u s2 x y H2, Inv X pins σ H2 s2 → RelV x v → RelV y u → R x y H2 → wpAny (model X.prog X.w) X.A (f v u) Q X.xe s2) :
    wpAny (model X.prog X.w) X.A (eval a X.env) (fun v s₁ => wpAny (model X.prog X.w) X.A (eval b X.env) (fun u s₂ => wpAny (model X.prog X.w) X.A (f v u) Q X.xe s₂) X.xe s₁) X.xe s := by
  refine thn (ha pins s σ H _ I h) fun v s1 ⟨x, H1, I1, r1, q1⟩ => ?_
  refine thn (hb pins s1 σ H1 _ I1 q1) fun u s2 ⟨y, H2, I2, r2, q2⟩ => ?_
  exact hf v u s2 x y H2 I2 r1 r2 q2
theorem pe_op {op : Operator} {r : R2} (ho : OpR X (binaryOp op) r) (ha : PE X a ta) (hb : PE X b tb) : PE X (.BinOp a op b pos) (tOp r ta tb) := by
  (try refine ⟨?_⟩); intro pins s σ H Q I h
  exact wpAny_BinOp (binT ha hb I h fun v u s2 x y H2 I2 rx ry q => ho pins s2 σ H2 x y v u Q I2 rx ry q)
theorem pe_un {op : UnaryOp} {r : V → Hp → VK → Prop} (ho : UnR X (unaryOp op) r) (ha : PE X a ta) : PE X (.UnaryOp op a pos) (tUn r ta) := by
  (try refine ⟨?_⟩); intro pins s σ H Q I h
  exact UnaryOp_ (thn (ha pins s σ H _ I h) fun v s1 ⟨x, H1, I1, r1, q1⟩ => ho pins s1 σ H1 x v Q I1 r1 q1)
theorem opI {f : Value → Value → Sem Value} {C : Int → Int → Prop} {g : Int → Int → Int}
    (rule : ∀ (i j : Int) (t u : Tok) (s : Shared) (Q : Value → Shared → Prop) (E : Value → Shared → Prop), C i j → Q (.int (g i j) s.toks) { s with toks := s.toks + 1 } → wpAny (model X.prog X.w) X.A (f (.int i t) (.int j u)) Q E s) :
    OpR X f (rI C fun i j => .int (g i j)) := by
  (try refine ⟨?_⟩); intro pins s σ H x y v u Q I rx ry h
  obtain ⟨i, j, rfl, rfl, hc, q⟩ := h
  obtain ⟨t, rfl⟩ := rx
  obtain ⟨t', rfl⟩ := ry
  exact rule i j t t' s _ _ hc ⟨.int (g i j), H, I.tok _, ⟨_, rfl⟩, q⟩
theorem opI0 {f : Value → Value → Sem Value} {g : Int → Int → Int}
    (rule : ∀ (i j : Int) (t u : Tok) (s : Shared) (Q : Value → Shared → Prop) (E : Value → Shared → Prop), Q (.int (g i j) s.toks) { s with toks := s.toks + 1 } → wpAny (model X.prog X.w) X.A (f (.int i t) (.int j u)) Q E s) :
    OpR X f (rI0 fun i j => .int (g i j)) := by
  (try refine ⟨?_⟩); intro pins s σ H x y v u Q I rx ry h
  obtain ⟨i, j, rfl, rfl, q⟩ := h
  obtain ⟨t, rfl⟩ := rx
  obtain ⟨t', rfl⟩ := ry
  exact rule i j t t' s _ _ ⟨.int (g i j), H, I.tok _, ⟨_, rfl⟩, q⟩
theorem opB0 {f : Value → Value → Sem Value} {g : Int → Int → Bool}
    (rule : ∀ (i j : Int) (t u : Tok) (s : Shared) (Q : Value → Shared → Prop) (E : Value → Shared → Prop), Q (.bool (g i j)) s → wpAny (model X.prog X.w) X.A (f (.int i t) (.int j u)) Q E s) :
    OpR X f (rI0 fun i j => .bl (g i j)) := by
  (try refine ⟨?_⟩); intro pins s σ H x y v u Q I rx ry h
  obtain ⟨i, j, rfl, rfl, q⟩ := h
  obtain ⟨t, rfl⟩ := rx
  obtain ⟨t', rfl⟩ := ry
  exact rule i j t t' s _ _ ⟨.bl (g i j), H, I, rfl, q⟩
def CDiv (i j : Int) : Prop := 0 < j ∧ j < 1073741824
def CPow (i j : Int) : Prop := 0 ≤ j ∧ j ≤ 1000000 ∧ i.natAbs < 2 ^ 64
def CMul (i j : Int) : Prop := (-(2 ^ 64) < i ∧ i < 2 ^ 64) ∨ (-(2 ^ 64) < j ∧ j < 2 ^ 64)
theorem CMul.ok {i j : Int} (h : CMul i j) : IntMulOk i j := by
  rcases h with ⟨h1, h2⟩ | ⟨h1, h2⟩
  · exact .of_left (intBits_le_64 h1 h2)
  · exact .of_right (intBits_le_64 h1 h2)
theorem op_add : OpR X (binaryOp .Add) (rI0 fun i j => .int (i + j)) := opI0 fun _ _ _ _ _ _ _ q => add_int q
theorem op_sub : OpR X (binaryOp .Sub) (rI0 fun i j => .int (i - j)) := opI0 fun _ _ _ _ _ _ _ q => sub_int q
theorem op_mul : OpR X (binaryOp .Mult) (rI CMul fun i j => .int (i * j)) := opI fun _ _ _ _ _ _ _ hc q => mul_int q hc.ok
theorem op_fdiv : OpR X (binaryOp .FloorDiv) (rI CDiv fun i j => .int (i / j)) := opI fun i j _ _ _ _ _ hc q => by
  have h1 : (0 : Int) < j := hc.1
  have h2 : j < 1073741824 := hc.2
  exact floordiv_int (by omega) (by rw [Int.fdiv_eq_ediv_of_nonneg i (by omega)]; exact q) (.inl (PyProof.noPylong_small (by omega)))
theorem op_mod : OpR X (binaryOp .Mod) (rI (fun _ j => 0 < j) fun i j => .int (i % j)) := opI fun i j _ _ _ _ _ hc q => by
  have h1 : (0 : Int) < j := hc
  exact mod_int' (by omega) (by rw [Int.fmod_eq_emod_of_nonneg i (by omega)]; exact q)
theorem op_pow : OpR X (binaryOp .Pow) (rI CPow fun i j => .int (i ^ j.toNat)) := opI fun _ _ _ _ _ _ _ hc q => pow_int_small hc.1 hc.2.1 hc.2.2 q
theorem unI {f : Value → Sem Value} {g : Int → Int}
    (rule : ∀ (i : Int) (t : Tok) (s : Shared) (Q : Value → Shared → Prop) (E : Value → Shared → Prop), Q (.int (g i) s.toks) { s with toks := s.toks + 1 } → wpAny (model X.prog X.w) X.A (f (.int i t)) Q E s) :
    UnR X f (rU fun i => .int (g i)) := by
  (try refine ⟨?_⟩); intro pins s σ H x v Q I rx h
  obtain ⟨i, rfl, q⟩ := h
  obtain ⟨t, rfl⟩ := rx
  exact rule i t s _ _ ⟨.int (g i), H, I.tok _, ⟨_, rfl⟩, q⟩
theorem un_neg : UnR X (unaryOp .USub) (rU fun i => .int (-i)) := unI fun _ _ _ _ _ q => neg_int q
end
section
variable {X : Cx} {a b c : Expr} {ta tb tc : TE} {pos : Pos}
theorem fin_bl {pins : List (Addr × Obj)} {σ : St} {H : Hp} {s : Shared} {Q : VK} {k k' : Bool} (I : Inv X pins σ H s) (q : Q (.bl k) H) (e : k = k') : EP X pins σ Q (.bool k') s := by
  subst e
  exact ⟨.bl k, H, I, rfl, q⟩
theorem op_lt : OpR X (compareOp .Lt) (rI0 fun i j => .bl (decide (i < j))) := opB0 fun _ _ _ _ _ _ _ q => lt_int q
theorem op_le : OpR X (compareOp .LtE) (rI0 fun i j => .bl (decide (i ≤ j))) := opB0 fun _ _ _ _ _ _ _ q => le_int q
theorem op_gt : OpR X (compareOp .Gt) (rI0 fun i j => .bl (decide (j < i))) := opB0 fun _ _ _ _ _ _ _ q => gt_int q
theorem op_ge : OpR X (compareOp .GtE) (rI0 fun i j => .bl (decide (j ≤ i))) := opB0 fun _ _ _ _ _ _ _ q => ge_int q
theorem op_isN : OpR X (compareOp .Is) (fun x y H Q => y = .non ∧ Q (.bl (decide (x = .non))) H) := by
  (try refine ⟨?_⟩); intro pins s σ H x y v u Q I rx ry h
  obtain ⟨rfl, q⟩ := h
  cases ry
  refine is_none_gen (fin_bl I q ?_)
  cases x <;> first
    | (cases rx; rfl)
    | (obtain ⟨t, rfl⟩ := rx; rfl)
theorem nomark (b : Expr) {op : CmpOp} (h : op ≠ .In := by decide) (h2 : op ≠ .NotIn := by decide) : behindInMarks op b = false := by
  have e1 : (op == CmpOp.In) = false := by cases op <;> first | rfl | exact absurd rfl h
  have e2 : (op == CmpOp.NotIn) = false := by cases op <;> first | rfl | exact absurd rfl h2
  cases b <;> simp [behindInMarks, e1, e2]
theorem pe_cmpR {op : CmpOp} {r : R2} (ho : OpR X (compareOp op) r) (ha : PE X a ta) (hb : PE X b tb) (hm : behindInMarks op b = false) : PE X (.Compare a [op] [b] pos) (tOp r ta tb) := by
  (try refine ⟨?_⟩); intro pins s σ H Q I h
  exact wpAny_Compare1 (binT ha hb I h fun v u s2 x y H2 I2 rx ry q => ho pins s2 σ H2 x y v u Q I2 rx ry q) hm
def tTest (t : TE) : TT := fun σ H Q => t σ H fun x H' => ∃ k, x = .bl k ∧ Q k H'
theorem pt_cmpR {op : CmpOp} {r : R2} (ho : OpR X (compareOp op) r) (ha : PE X a ta) (hb : PE X b tb) (hm : behindInMarks op b = false) : PT X (.Compare a [op] [b] pos) (tTest (tOp r ta tb)) := by
  (try refine ⟨?_⟩); intro pins s σ H Q I h
  refine wpAny_isTrue_Compare1 (thn (ha pins s σ H _ I h) fun v s1 ⟨x, H1, I1, r1, q1⟩ => thn (hb pins s1 σ H1 _ I1 q1) fun u s2 ⟨y, H2, I2, r2, q2⟩ =>
    thn (ho pins s2 σ H2 x y v u _ I2 r1 r2 q2) fun c s3 ⟨z, H3, I3, r3, k, e, q3⟩ => ?_) hm
  subst e
  cases r3
  exact wpAny_truthy_bool ⟨H3, I3, q3⟩
def tChain (r r' : R2) (ta tb tc : TE) : TE := fun σ H Q => ta σ H fun x H1 => tb σ H1 fun y H2 => r x y H2 fun z H3 => ∃ k, z = .bl k ∧
  (if k = true then tc σ H3 fun w' H4 => r' y w' H4 Q else Q (.bl false) H3)
theorem pe_chain {op op' : CmpOp} {r r' : R2} (ho : OpR X (compareOp op) r) (ho' : OpR X (compareOp op') r') (ha : PE X a ta) (hb : PE X b tb) (hc : PE X c tc)
    (hm : lastMarks [op, op'] [b, c] = false := by with_unfolding_all rfl) : PE X (.Compare a [op, op'] [b, c] pos) (tChain r r' ta tb tc) := by
  (try refine ⟨?_⟩); intro pins s σ H Q I h
  refine Compare_chain (thn (ha pins s σ H _ I h) fun v s1 ⟨x, H1, I1, r1, q1⟩ => chain_link (thn (hb pins s1 σ H1 _ I1 q1) fun u s2 ⟨y, H2, I2, r2, q2⟩ =>
    thn (ho pins s2 σ H2 x y v u _ I2 r1 r2 q2) fun d s3 ⟨z, H3, I3, r3, k, e, q3⟩ => ?_)) hm
  subst e
  cases r3
  refine wpAny_truthy_bool ?_
  cases k with
  | false => exact ite_ff ⟨.bl false, H3, I3, rfl, q3⟩
  | true => exact ite_tt (chain_last (thn (hc pins s3 σ H3 _ I3 q3) fun w' s4 ⟨z', H4, I4, r4, q4⟩ => ho' pins s4 σ H4 y z' u w' Q I4 r2 r4 q4))
theorem line63 : (sizeLine : Nat) < 2 ^ 63 := by rw [sizeLine_eq]; decide
theorem vals1 {x : V} {us : List Value} (r : Vals [x] us) : ∃ u, us = [u] ∧ RelV x u := by
  cases r with
  | cons r1 r2 => cases r2; exact ⟨_, rfl, r1⟩
theorem vals2 {x y : V} {us : List Value} (r : Vals [x, y] us) : ∃ u w', us = [u, w'] ∧ RelV x u ∧ RelV y w' := by
  cases r with
  | cons r1 r2 =>
    cases r2 with
    | cons r3 r4 => cases r4; exact ⟨_, _, rfl, r1, r3⟩
theorem call_abs : CallR X (.builtin "abs") (fun xs H Q => ∃ i, xs = [.int i] ∧ Q (.int (if i < 0 then -i else i)) H) := by
  (try refine ⟨?_⟩); intro pins s σ H xs us Q I r h
  obtain ⟨i, rfl, q⟩ := h
  obtain ⟨u, rfl, t, rfl⟩ := vals1 r
  exact call_abs_int fun u tk => ⟨.int (if i < 0 then -i else i), H, I.tok _, ⟨_, rfl⟩, q⟩
theorem call_max2 (hc : X.calm = true) : CallR X (.builtin "max") (fun xs H Q => ∃ i j, xs = [.int i, .int j] ∧ Q (.int (if j > i then j else i)) H) := by
  (try refine ⟨?_⟩); intro pins s σ H xs us Q I r h
  obtain ⟨i, j, rfl, q⟩ := h
  obtain ⟨u, w', rfl, ⟨t, rfl⟩, ⟨t', rfl⟩⟩ := vals2 r
  refine max_two_ints (I.ok.hd hc) fun h' tk k => ⟨_, H, I.kept k, ?_, q⟩
  by_cases hj : j > i
  · rw [if_pos hj, if_pos hj]; exact ⟨_, rfl⟩
  · rw [if_neg hj, if_neg hj]; exact ⟨_, rfl⟩
theorem call_min2 (hc : X.calm = true) : CallR X (.builtin "min") (fun xs H Q => ∃ i j, xs = [.int i, .int j] ∧ Q (.int (if j < i then j else i)) H) := by
  (try refine ⟨?_⟩); intro pins s σ H xs us Q I r h
  obtain ⟨i, j, rfl, q⟩ := h
  obtain ⟨u, w', rfl, ⟨t, rfl⟩, ⟨t', rfl⟩⟩ := vals2 r
  refine min_two_ints (I.ok.hd hc) fun h' tk k => ⟨_, H, I.kept k, ?_, q⟩
  by_cases hj : j < i
  · rw [if_pos hj, if_pos hj]; exact ⟨_, rfl⟩
  · rw [if_neg hj, if_neg hj]; exact ⟨_, rfl⟩
theorem call_int1 : CallR X (.type "int") (fun xs H Q => (∃ i, xs = [.int i] ∧ Q (.int i) H) ∨ ∃ k, xs = [.bl k] ∧ Q (.int (if k then 1 else 0)) H) := by
  (try refine ⟨?_⟩); intro pins s σ H xs us Q I r h
  rcases h with ⟨i, rfl, q⟩ | ⟨k, rfl, q⟩
  · obtain ⟨u, rfl, t, rfl⟩ := vals1 r
    exact call_int_int ⟨.int i, H, I, ⟨_, rfl⟩, q⟩
  · obtain ⟨u, rfl, r1⟩ := vals1 r
    cases r1
    exact call_int_bool ⟨.int (if k then 1 else 0), H, I.tok _, ⟨_, rfl⟩, q⟩
end
structure ObjM (h : Heap) (x dx C : Addr) (mA : Str → Option Value) : Prop where
  obj : h.get? x = some (PySem.W.instObj C dx)
  ns : h.Ns1 dx mA
  ne : dx ≠ x
theorem lookIn_ns {h : Heap} {dx : Addr} {mA : Str → Option Value} (n : h.Ns1 dx mA) : ∃ od, h.get? dx = some od ∧ ∀ name, PySem.W.lookIn name od = some (mA name) := by
  obtain ⟨o, es, ep, ho, hd, hk, _, hm⟩ := n
  refine ⟨o, ho, fun name => ?_⟩
  have e := hm name
  unfold nsFind findBy at e
  rw [← Array.find?_toList] at e
  unfold PySem.W.lookIn
  rw [hd]
  dsimp only
  split
  · rename_i y q
    rw [q] at e
    exact congrArg some e
  · rename_i q
    rw [q] at e
    have a : es.toList.any (·.refKey) = false := by
      rw [List.any_eq_false]
      intro y hy
      obtain ⟨z, t, hkey⟩ := hk y (Array.mem_toList_iff.mp hy)
      simp [DictEntry.refKey, hkey]
    have a' : ¬ es.toList.any (·.refKey) = true := by rw [a]; exact Bool.false_ne_true
    rw [if_neg a']
    exact congrArg some e
theorem ObjM.look {h : Heap} {x dx C : Addr} {mA : Str → Option Value} (I : ObjM h x dx C mA) : ∃ od, PySem.W.InstAt h x (PySem.W.instObj C dx) C (some od) ∧ ∀ name, PySem.W.lookIn name od = some (mA name) :=
  let ⟨od, ho, hl⟩ := lookIn_ns I.ns
  ⟨od, ⟨I.obj, rfl, rfl, ho⟩, hl⟩
section
variable {prog : Program} {w : World} {A : Around} {E : Value → Shared → Prop} {s : Shared} {K : PySem.W.Frag} {x dx C f : Addr} {mA : Str → Option Value} {name : Str} {v : Value}
end
theorem RelO.some_of {v : V} {o : Option Value} (r : RelO (some v) o) : ∃ u, o = some u ∧ RelV v u := by
  cases o with
  | none => exact (show False from r).elim
  | some u => exact ⟨u, rfl, r⟩
theorem handed_of {v : V} {u : Value} (r : RelV v u) : PySem.W.handedIn u = true := by
  cases v with
  | non => cases (show u = Value.none from r); rfl
  | bl b => cases (show u = Value.bool b from r); rfl
  | int i => obtain ⟨t, e⟩ := (show ∃ t, u = Value.int i t from r); cases e; rfl
  | str x => obtain ⟨t, e⟩ := (show ∃ t, u = Value.str x t from r); cases e; rfl
  | byt b => obtain ⟨t, e⟩ := (show ∃ t, u = Value.bytes b t from r); cases e; rfl
  | flt b => obtain ⟨t, e⟩ := (show ∃ t, u = Value.float b t from r); cases e; rfl
  | ref a => cases (show u = Value.ref a from r); rfl
  | ty n => cases (show u = Value.type n from r); rfl
section
variable {P : Program} {w : World} {H H' : Hp} {h h' : Heap} {a C dx : Addr} {fs fs' : List (Str × V)}
theorem ins_get (hok : HOk P w H h) (e : H a = some (.ins C dx fs)) : ∃ mA, ObjM h a dx C mA ∧ (∀ f, RelO (fs.lookup f) (mA f)) ∧ PySem.Within mA (fs.map (·.1)) ∧ fs.length ≤ 1000 ∧ H dx = some (.own a) := by
  obtain ⟨d, z, ne, ob, mA, n, r, q⟩ := (show ObjOk P w H h a (.ins C dx fs) from hok a _ e)
  exact ⟨mA, ⟨ob, n, ne⟩, r, q, z, d⟩
end
structure Cls (K : PySem.W.Frag) (C : Addr) : Prop where
  pg : PySem.W.plainGet K C Str.empty = true
  hd : PySem.W.hasDictIn K C = true
  po : PySem.W.plainOver K C = true
  sa : PySem.W.findIn K (.ref C) "__setattr__" = some (some (.builtin "object.__setattr__"))
theorem Cls.get {K : PySem.W.Frag} {C : Addr} (c : Cls K C) (f : Str) : PySem.W.plainGet K C f = true := c.pg
section
variable {X : Cx} {pins : List (Addr × Obj)} {σ : St} {H : Hp} {s : Shared} {a C dx : Addr} {fs : List (Str × V)} {f : Str} {v : V} {A : Around} {E : Value → Shared → Prop}
theorem attr_of {prog : Program} {w : World} {env : Env} {e : Expr} {f : Str} {pos : Pos} {s : Shared} {Q : Value → Shared → Prop} (hb : attributeBase e f env (eval e env) = eval e env)
    (h : wpAny (model prog w) A (eval e env) (fun o s₁ => wpAny (model prog w) A (getAttr o f true) Q E s₁) E s) : wpAny (model prog w) A (eval (.Attribute e f pos) env) Q E s :=
  Attribute_any_ h (by rw [arm_eval_Attribute, hb])
end
section
variable {X : Cx} {o e value : Expr} {f : Str} {pos pos' tpos : Pos} {ta tv : TE}
end
section
variable {X : Cx} {pins : List (Addr × Obj)} {σ : St} {H : Hp} {s : Shared} {A : Around} {E : Value → Shared → Prop} {Q : Value → Shared → Prop} {c : Value} {b : Bool}
inductive TyOf (K : PySem.W.Frag) (H : Hp) : V → Value → Prop where
  | non : TyOf K H .non (.type "NoneType")
  | bl (x : Bool) : TyOf K H (.bl x) (.type "bool")
  | int (i : Int) : TyOf K H (.int i) (.type "int")
  | str (x : Str) : TyOf K H (.str x) (.type "str")
  | flt (x : UInt64) : TyOf K H (.flt x) (.type "float")
  | lst {a : Addr} {xs : List V} (e : H a = some (.lst xs)) : TyOf K H (.ref a) (.type "list")
  | frz {a : Addr} {o : Obj} {xs : List V} (e : H a = some (.frz o (.lst xs))) : TyOf K H (.ref a) (.type "list")
  | tup {a : Addr} {xs : List V} (e : H a = some (.tup xs)) : TyOf K H (.ref a) (.type "tuple")
  | dK {a : Addr} {kvs : List (Key × V)} (e : H a = some (.dK kvs)) : TyOf K H (.ref a) (.type "dict")
  | dT {a : Addr} {kvs : List (List Key × V)} (e : H a = some (.dT kvs)) : TyOf K H (.ref a) (.type "dict")
  | ins {a C dx : Addr} {fs : List (Str × V)} (e : H a = some (.ins C dx fs)) (cl : Cls K C) (ha : PySem.W.findIn K (.ref C) "__class__" = some (some (.builtin "object.__class__")))
      (hn : PySem.W.specialIn K (.builtin "object.__class__") "__get__" = some (some (.builtin "getset_descriptor.__get__"))) (htk : PySem.W.takesIn K (.builtin "object.__class__") = some true)
      (hm : PySem.W.mroIn K C (.type "object") = some true) : TyOf K H (.ref a) (.ref C)
theorem isinst_ok {x : V} {u t : Value} (I : Inv X pins σ H s) (rx : RelV x u) (ty : TyOf X.K H x t) (e : PySem.W.kitOne X.K t c = some b) (h : ∀ tk, Q (.bool b) { s with toks := tk }) :
    wpAny (model X.prog X.w) A (call (.builtin "isinstance") [u, c]) Q E s := by
  cases ty with
  | non => cases (show u = Value.none from rx); exact PySem.W.kia_one PySem.W.kitx_none I.kIn True.intro e (fun z => nomatch z) h
  | bl y => cases (show u = Value.bool y from rx); exact PySem.W.kia_one PySem.W.kitx_bool I.kIn True.intro e (fun z => nomatch z) h
  | int i => obtain ⟨t, q⟩ := (show ∃ t, u = Value.int i t from rx); cases q; exact PySem.W.kia_one PySem.W.kitx_int I.kIn True.intro e (fun z => nomatch z) h
  | str y => obtain ⟨t, q⟩ := (show ∃ t, u = Value.str y t from rx); cases q; exact PySem.W.kia_one PySem.W.kitx_str I.kIn True.intro e (fun z => nomatch z) h
  | flt y => obtain ⟨t, q⟩ := (show ∃ t, u = Value.float y t from rx); cases q; exact PySem.W.kia_one PySem.W.kitx_float I.kIn True.intro e (fun z => nomatch z) h
  | @lst a xs ea =>
    cases (show u = Value.ref a from rx)
    obtain ⟨_, _, n, _, h1⟩ := (show ObjOk X.prog X.w H s.heap a (.lst xs) from I.hok a _ ea)
    exact PySem.W.kia_one PySem.W.kitx_list I.kIn ⟨_, h1, rfl⟩ e (fun z => nomatch z) h
  | @frz a ob xs ea =>
    cases (show u = Value.ref a from rx)
    obtain ⟨_, _, _, n, _, h1⟩ := (show ObjOk X.prog X.w H s.heap a (.frz ob (.lst xs)) from I.hok a _ ea)
    exact PySem.W.kia_one PySem.W.kitx_list I.kIn ⟨_, h1, rfl⟩ e (fun z => nomatch z) h
  | @tup a xs ea =>
    cases (show u = Value.ref a from rx)
    obtain ⟨_, _, _, p⟩ := (show ObjOk X.prog X.w H s.heap a (.tup xs) from I.hok a _ ea)
    obtain ⟨o, h1, h2, _⟩ := p
    exact PySem.W.kia_one PySem.W.kitx_tuple I.kIn ⟨o, h1, h2⟩ e (fun z => nomatch z) h
  | @dK a kvs ea =>
    cases (show u = Value.ref a from rx)
    obtain ⟨_, _, vs, _, p⟩ := (show ObjOk X.prog X.w H s.heap a (.dK kvs) from I.hok a _ ea)
    obtain ⟨o, es, ep, h1, h2, _⟩ := p
    exact PySem.W.kia_one PySem.W.kitx_dict I.kIn ⟨o, h1, h2.1⟩ e (fun z => nomatch z) h
  | @dT a kvs ea =>
    cases (show u = Value.ref a from rx)
    obtain ⟨_, _, xs, _, o, es, ep, h1, h2, _⟩ := (show ObjOk X.prog X.w H s.heap a (.dT kvs) from I.hok a _ ea)
    exact PySem.W.kia_one PySem.W.kitx_dict I.kIn ⟨o, h1, h2.1⟩ e (fun z => nomatch z) h
  | @ins a C dx fs ea cl ha hn htk hm =>
    cases (show u = Value.ref a from rx)
    obtain ⟨mA, O, _⟩ := ins_get I.hok ea
    obtain ⟨od, J, _⟩ := O.look
    exact PySem.W.kia_one (PySem.W.kitx_own (cl.get _) cl.hd ha hn htk hm) I.kIn J e (fun z => nomatch z) h
end
structure Room (k : Nat) (A : Around) : Prop where
  hd : A.handled = none
  dp : A.depth + 3 * k + 5 < recursionLimit
  un : A.units + 16 * k + 200 < cLine
  gd : A.guards = some []
theorem Room.mono {j k : Nat} {A : Around} (r : Room k A) (h : j ≤ k) : Room j A := ⟨r.hd, by have := r.dp; omega, by have := r.un; omega, r.gd⟩
theorem Room.deeper {k : Nat} {A : Around} (r : Room (k + 1) A) (env : Env) : Room k (A.deeper env) :=
  ⟨r.hd, by have := r.dp; show A.depth + 1 + 3 * k + 5 < _; omega, by have := r.un; show A.units + 3 + 16 * k + 200 < _; omega, r.gd⟩
theorem make_depth {A : Around} {C : Addr} {us : List Value} {kw : List (Str × Value)} : (A.under (.builtin "type.__call__" ⟨.ref C :: us, kw⟩)).depth = A.depth + 1 := by
  first | rfl | simp [Around.under, Code.weight, Code.isCreation, Code.isGuard, Code.isCaller, Code.frames, Code.isFrame, guardIds]
theorem make_units {A : Around} {C : Addr} {us : List Value} {kw : List (Str × Value)} : (A.under (.builtin "type.__call__" ⟨.ref C :: us, kw⟩)).units = A.units + 1 := by
  first | rfl | simp [Around.under, Code.cUnits, Code.frames, Code.isFrame]
theorem Room.make {k : Nat} {A : Around} (r : Room (k + 1) A) (C : Addr) (us : List Value) (kw : List (Str × Value)) : Room k (A.under (.builtin "type.__call__" ⟨.ref C :: us, kw⟩)) :=
  ⟨r.hd, by have := r.dp; rw [make_depth]; omega, by have := r.un; rw [make_units]; omega, r.gd⟩
theorem Room.depth {k : Nat} {A : Around} (r : Room k A) : A.depth < recursionLimit := by have := r.dp; omega
theorem Room.units {k : Nat} {A : Around} (r : Room k A) : A.units + 64 < cLine := by have := r.un; omega
def tNil : TA := fun _ H Q => Q [] H
def tCons (ta : TE) (tr : TA) : TA := fun σ H Q => ta σ H fun x H1 => tr σ H1 fun xs H2 => Q (x :: xs) H2
section
variable {X : Cx} {e : Expr} {es : List Expr} {te : TE} {t : TA} {pos : Pos}
theorem pa_nil : PA X [] tNil := ⟨fun _ _ _ _ H Q I h => Calls.spliced_nil ⟨[], H, I, .nil, h⟩⟩
theorem pa_cons (ha : PE X e te) (hr : PA X es t) (hs : starEach (e :: es) X.env = (false, eval e X.env) :: starEach es X.env := by rfl) : PA X (e :: es) (tCons te t) := by
  (try refine ⟨?_⟩); intro pos pins s σ H Q I h
  rw [hs]
  show wpAny _ _ (spliced ((false, eval e X.env) :: backTo pos (starEach es X.env))) _ _ s
  refine Calls.spliced_cons (thn (ha pins s σ H _ I h) fun u s1 ⟨x, H1, I1, r1, q1⟩ => ?_)
  exact thn (hr pos pins s1 σ H1 _ I1 q1) fun us s2 ⟨xs, H2, I2, r2, q2⟩ => ⟨x :: xs, H2, I2, .cons r1 r2, q2⟩
def tTup (t : TA) : TE := fun σ H Q => t σ H fun xs H1 => xs.length ≤ sizeLine ∧ ∀ p, H1 p = none → Q (.ref p) (upd H1 p (.tup xs))
def tLst (t : TA) : TE := fun σ H Q => t σ H fun xs H1 => xs.length ≤ sizeLine ∧ ∀ p, H1 p = none → Q (.ref p) (upd H1 p (.lst xs))
theorem pe_tup {x1} (h : PA X es t) : PE X (.Tuple es x1 pos) (tTup t) := by
  (try refine ⟨?_⟩); intro pins s σ H Q I hq
  refine wpAny_Tuple_spliced (thn (h pos pins s σ H _ I hq) fun us s1 ⟨xs, H1, I1, r, z, q⟩ => ⟨by rw [← r.length]; exact z, ?_⟩)
  have hf : H1 s1.heap.objs.size = none := I1.hok.fresh (Nat.le_refl _)
  refine ⟨.ref s1.heap.objs.size, upd H1 s1.heap.objs.size (.tup xs), I1.laid (t' := s1.toks) (fun b u e => Heap.get?_push_of_some _ e) (Nat.le_refl _) ?_, rfl, q _ hf⟩
  exact ⟨z, us, r, ⟨_, Heap.get?_push_size _ rfl, rfl, _, rfl⟩⟩
theorem pe_lst (h : PA X es t) : PE X (.List es pos) (tLst t) := by
  (try refine ⟨?_⟩); intro pins s σ H Q I hq
  refine wpAny_List_spliced (thn (h pos pins s σ H _ I hq) fun us s1 ⟨xs, H1, I1, r, z, q⟩ => ⟨by rw [← r.length]; exact z, ?_⟩)
  have hf : H1 s1.heap.objs.size = none := I1.hok.fresh (Nat.le_refl _)
  refine ⟨.ref s1.heap.objs.size, upd H1 s1.heap.objs.size (.lst xs), I1.laid (t' := s1.toks) (fun b u e => Heap.get?_push_of_some _ e) (Nat.le_refl _) ?_, rfl, q _ hf⟩
  exact ⟨z, us, 0, r, Heap.get?_push_size _ rfl⟩
end
abbrev Sp := List V → Hp → VK → XK → Prop
abbrev CXT := List Env → Hp → Shared → XK → Value → Shared → Prop
structure Env0 (P : Program) (w : World) (K : PySem.W.Frag) (mg : Str → Option Value) (base : Heap) (A : Around) (outer : List Env) (s : Shared) (H : Hp) : Prop where
  frames : A.frames = some outer
  mod : Mod K mg base
  bs : ∀ b o, base.get? b = some o → s.heap.get? b = some o ∧ H b = none
  bsz : base.objs.size ≤ s.heap.objs.size
  funs : s.heap.FunFrames base outer
  frf : ∀ b ∈ frs outer, H b = none
  hok : HOk P w H s.heap
  bare : AllBare s.gens
def CE (outer : List Env) (P : Program) (w : World) (H : Hp) (s : Shared) (Q : VK) (u : Value) (s' : Shared) : Prop :=
  ∃ v H', s'.os = s.os ∧ AllBare s'.gens ∧ Un (frs outer) [] H H' s.heap s'.heap ∧ HOk P w H' s'.heap ∧ RelV v u ∧ Q v H'
def CR (CX : CXT) (outer : List Env) (P : Program) (w : World) (H : Hp) (s : Shared) (Q : VK) (E : XK) (r : Result) (s' : Shared) : Prop :=
  match r with
  | .ok (.ret u) => CE outer P w H s Q u s'
  | .ok _ => False
  | .error e => CX outer H s E e s'
structure FnOk (P : Program) (w : World) (K : PySem.W.Frag) (mg : Str → Option Value) (base : Heap) (CX : CXT) (k : Nat) (f : Addr) (fd : FuncData) (ps : List Str) (sp : Sp) : Prop where
  len : ∀ vs H Q E, sp vs H Q E → vs.length = ps.length
  run : ∀ (A : Around) (outer : List Env) (s : Shared) (H : Hp) (args : Args) (us : List Value) (vs : List V) (Q : VK) (E : XK), Room k A → Env0 P w K mg base A outer s H → BindsTo s fd args (ps.zip us) → Vals vs us → sp vs H Q E →
    codeAny (model P w) A (.call (.ref f) args) (CR CX outer P w H s Q E) s
theorem FnOk.imp {P : Program} {w : World} {K : PySem.W.Frag} {mg : Str → Option Value} {base : Heap} {CX : CXT} {k : Nat} {f : Addr} {fd : FuncData} {ps : List Str} {sp sp' : Sp} (F : FnOk P w K mg base CX k f fd ps sp)
    (h : ∀ vs H Q E, sp' vs H Q E → sp vs H Q E) : FnOk P w K mg base CX k f fd ps sp' :=
  ⟨fun vs H Q E q => F.len vs H Q E (h _ _ _ _ q), fun A outer s H args us vs Q E hr he hb hv hs => F.run A outer s H args us vs Q E hr he hb hv (h _ _ _ _ hs)⟩
theorem Env0.make {P : Program} {w : World} {K : PySem.W.Frag} {mg : Str → Option Value} {base : Heap} {A : Around} {outer : List Env} {s : Shared} {H : Hp} (e : Env0 P w K mg base A outer s H) (C : Addr) (us : List Value) (kw : List (Str × Value)) :
    Env0 P w K mg base (A.under (.builtin "type.__call__" ⟨.ref C :: us, kw⟩)) outer s H := ⟨by first | exact e.frames | (simpa [Around.under, Code.envs, Code.isFrame, pushEnvs] using e.frames), e.mod, e.bs, e.bsz, e.funs, e.frf, e.hok, e.bare⟩
section
variable {X : Cx} {pins : List (Addr × Obj)} {σ : St} {H : Hp} {s s' : Shared}
theorem Inv.env0 (I : Inv X pins σ H s) : Env0 X.prog X.w X.K X.mg X.base X.A X.stack s H :=
  ⟨I.ok.frames, I.ok.mod, I.bs, Nat.le_trans I.ok.bsz I.sz, I.stack, I.stkFree, I.hok, I.bare⟩
theorem Inv.after {Q : VK} {u : Value} (I : Inv X pins σ H s) (h : CE X.stack X.prog X.w H s Q u s') : EP X pins σ Q u s' := by
  obtain ⟨v, H', os, bare, un, hok, r, q⟩ := h
  obtain ⟨hh, g, d, t, os'⟩ := s'
  obtain rfl : os' = s.os := os
  exact ⟨v, H', I.call (h' := hh) (g' := g) (d' := d) (t' := t) (ch := []) un hok bare (fun b z => absurd z (by simp)), r, q⟩
end
def tCall (sp : Sp) (dvs : List V) (E : XK) (t : TA) : TE := fun σ H Q => t σ H fun vs H1 => sp (vs ++ dvs) H1 Q E
def Binds (K : PySem.W.Frag) (fd : FuncData) (ps : List Str) (ds : List Value) : Prop :=
  ∀ (s : Shared) (us : List Value), K.In s.heap → (us ++ ds).length = ps.length → BindsTo s fd ⟨us, []⟩ (ps.zip (us ++ ds))
theorem Binds.all {K : PySem.W.Frag} {fd : FuncData} {ps : List Str} (h : ∀ us : List Value, us.length = ps.length → bindArgs fd ⟨us, []⟩ = pure (ps.zip us)) : Binds K fd ps [] := fun s us _ hl => by
  rw [List.append_nil] at hl ⊢
  exact .of_eq (h us hl)
def Passes (CX : CXT) (X : Cx) (E : XK) : Prop := ∀ (pins : List (Addr × Obj)) (σ : St) (H : Hp) (s : Shared) (e : Value) (s' : Shared), Inv X pins σ H s → CX X.stack H s E e s' → X.xe e s'
section
variable {X : Cx} {CX : CXT} {k : Nat} {f C : Addr} {fd : FuncData} {ps : List Str} {sp : Sp} {dvs : List V} {ds : List Value} {E : XK} {x m : Str} {p pos apos : Pos} {e o : Expr} {es : List Expr} {ta : TE} {t : TA}
theorem run_fn {pins : List (Addr × Obj)} {σ : St} {H : Hp} {s : Shared} {Q : VK} {us : List Value} {vs : List V} (F : FnOk X.prog X.w X.K X.mg X.base CX k f fd ps sp) (hr : Room k X.A) (hb : Binds X.K fd ps ds) (hd : Vals dvs ds) (hx : Passes CX X E)
    (I : Inv X pins σ H s) (r : Vals vs us) (h : sp (vs ++ dvs) H Q E) : wpAny (model X.prog X.w) X.A (call (.ref f) us) (EP X pins σ Q) X.xe s := by
  have r2 : Vals (vs ++ dvs) (us ++ ds) := r.append hd
  have hl : (us ++ ds).length = ps.length := by rw [← r2.length]; exact F.len _ _ _ _ h
  refine wpAny_call (codeAny_mono (F.run X.A X.stack s H ⟨us, []⟩ (us ++ ds) (vs ++ dvs) Q E hr I.env0 (hb s us I.kIn hl) r2 h) fun r s' hq => ?_)
  cases r with
  | error e => exact hx pins σ H s e s' I hq
  | ok fl =>
    cases fl with
    | ret u => exact I.after hq
    | next => exact False.elim hq
    | brk => exact False.elim hq
    | cont => exact False.elim hq
theorem pe_call (F : FnOk X.prog X.w X.K X.mg X.base CX k f fd ps sp) (hr : Room k X.A) (hg : Gl X x) (hm : X.mg x = some (.ref f)) (hk : PySem.W.keepIn X.K (.ref f) = true) (hb : Binds X.K fd ps ds) (hd : Vals dvs ds) (hx : Passes CX X E)
    (ha : PA X (e :: es) t) (hdb : (x == ("__debug__" : Str)) = false := by decide) (he : starEach (e :: es) X.env = (false, eval e X.env) :: starEach es X.env := by rfl) (hpl : (backTo pos (starEach es X.env)).any (·.1) = false := by rfl) :
    PE X (.Call (.Name x p) (e :: es) [] pos) (tCall sp dvs E t) := by
  (try refine ⟨?_⟩); intro pins s σ H Q I h
  refine wpAny_Call_Name_kw (ld_glob I hg hm ?_ hdb)
  refine PySem.W.callWith_K (h₀ := X.base) I.ok.mod.kin hk (thn (ha pos pins s σ H _ I h) fun us s1 ⟨vs, H1, I1, r, q⟩ => ⟨I1.kIn, ?_⟩) he hpl
  exact run_fn F hr hb hd hx I1 r q
end
section
variable {X : Cx} {CX : CXT} {k : Nat} {f C : Addr} {fd : FuncData} {ps ks : List Str} {sp : Sp} {E : XK} {x m : Str} {p pos apos kpos : Pos} {e o : Expr} {es : List Expr} {kws : List Keyword} {te ta : TE} {t tk : TA} {nm : Option Str}
variable {g : List Value → List Value → List Value} {gV : List V → List V → List V}
end
structure FnScope (N P : List Str) (sc : Scope) : Prop where
  kind : sc.kind = .function
  co : sc.isCoroutine = false
  gen : sc.isGenerator = false
  nd : N.Nodup
  pre : N.take P.length = P
  par : ∀ x ∈ P, sc.names.lookup x = some .local ∨ sc.names.lookup x = some .cell
  nofree : ∀ y ∈ sc.names, y.2 ≠ .free
theorem bindL_out {kindOf : Str → Option NameKind} {x : Str} : ∀ {binds : List (Str × Value)} {m : Str → Option Value}, (∀ v, (x, v) ∉ binds) → bindL kindOf binds m x = m x
  | [], _, _ => rfl
  | (n, v) :: r, m, h => by
    unfold bindL
    rw [bindL_out fun w hw => h w (List.mem_cons_of_mem _ hw)]
    split
    · have : x ≠ n := by rintro rfl; exact h v List.mem_cons_self
      simp [this]
    · rfl
theorem bindC_out {kindOf : Str → Option NameKind} {x : Str} : ∀ {binds : List (Str × Value)} {m : Str → Option Value}, (∀ v, (x, v) ∉ binds) → bindC kindOf binds m x = m x
  | [], _, _ => rfl
  | (n, v) :: r, m, h => by
    unfold bindC
    rw [bindC_out fun w hw => h w (List.mem_cons_of_mem _ hw)]
    split
    · rfl
    · have : x ≠ n := by rintro rfl; exact h v List.mem_cons_self
      simp [this]
theorem bindL_get {kindOf : Str → Option NameKind} {x : Str} {v : Value} : ∀ {P : List Str} {vs : List Value} {i : Nat} {m : Str → Option Value}, P.Nodup → P[i]? = some x → vs[i]? = some v → kindOf x = some .local →
    bindL kindOf (P.zip vs) m x = some v
  | [], _, _, _, _, h, _, _ => by simp at h
  | _ :: _, [], _, _, _, _, h, _ => by simp at h
  | p :: P, w :: vs, 0, m, nd, h1, h2, hk => by
    simp at h1 h2; subst h1; subst h2
    show bindL kindOf ((p, w) :: P.zip vs) m p = _
    unfold bindL
    rw [bindL_out fun v hv => (List.nodup_cons.mp nd).1 (List.of_mem_zip hv).1, if_pos hk]
    simp
  | p :: P, w :: vs, i + 1, m, nd, h1, h2, hk => by
    show bindL kindOf ((p, w) :: P.zip vs) m x = _
    unfold bindL
    exact bindL_get (i := i) (List.nodup_cons.mp nd).2 (by simpa using h1) (by simpa using h2) hk
theorem bindC_get {kindOf : Str → Option NameKind} {x : Str} {v : Value} : ∀ {P : List Str} {vs : List Value} {i : Nat} {m : Str → Option Value}, P.Nodup → P[i]? = some x → vs[i]? = some v → kindOf x ≠ some .local →
    bindC kindOf (P.zip vs) m x = some v
  | [], _, _, _, _, h, _, _ => by simp at h
  | _ :: _, [], _, _, _, _, h, _ => by simp at h
  | p :: P, w :: vs, 0, m, nd, h1, h2, hk => by
    simp at h1 h2; subst h1; subst h2
    show bindC kindOf ((p, w) :: P.zip vs) m p = _
    unfold bindC
    rw [bindC_out fun v hv => (List.nodup_cons.mp nd).1 (List.of_mem_zip hv).1, if_neg hk]
    simp
  | p :: P, w :: vs, i + 1, m, nd, h1, h2, hk => by
    show bindC kindOf ((p, w) :: P.zip vs) m x = _
    unfold bindC
    exact bindC_get (i := i) (List.nodup_cons.mp nd).2 (by simpa using h1) (by simpa using h2) hk
def start (N : List Str) (vs : List V) : St := vs.map some ++ List.replicate (N.length - vs.length) none
def cxOf (CX : CXT) (P : Program) (w : World) (K : PySem.W.Frag) (mg : Str → Option Value) (base : Heap) (N : List Str) (qual : Str) (scope : Scope) (f : Addr) (cd : Value) (A : Around) (outer : List Env) (s : Shared) (H : Hp) (E : XK) : Cx where
  prog := P
  w := w
  K := K
  mg := mg
  base := base
  A := A.deeper (envOfC qual scope s.heap.objs.size f cd)
  N := N
  s₀ := s
  H₀ := H
  env := envOfC qual scope s.heap.objs.size f cd
  outer := outer
  stack := envOfC qual scope s.heap.objs.size f cd :: outer
  ex := []
  calm := true
  fn := fun _ => true
  pn := []
  xe := fun e s' => wpAny (model P w) (A.deeper (envOfC qual scope s.heap.objs.size f cd)) (leaving (envOfC qual scope s.heap.objs.size f cd) e) (fun _ s'' => CX outer H s E e s'') (fun e' s'' => CX outer H s E e' s'') s'
theorem cell_has {sc : Scope} {n : Nat} {x : Str} (h : sc.names.lookup x = some .cell) : ∃ c, (cellsFrom n sc.names []).lookup x = some c := by
  have q := PySem.W.cellsFrom_some sc.names n [] (.inl h)
  exact Option.isSome_iff_exists.mp q
theorem inv_start {CX : CXT} {P : Program} {w : World} {K : PySem.W.Frag} {mg : Str → Option Value} {base : Heap} {N ps : List Str} {qual : Str} {scope : Scope} {f : Addr} {cd : Value} {A : Around} {outer : List Env} {s s1 : Shared} {H : Hp} {E : XK} {us : List Value} {vs : List V}
    (S : FnScope N ps scope) (hd : A.handled = none) (e0 : Env0 P w K mg base A outer s H) (hl : vs.length = ps.length) (r : Vals vs us)
    (x : InCallC s s.heap.objs.size (bindL (envOfC qual scope s.heap.objs.size f cd).kindOf (ps.zip us) fun _ => none) (cellsFrom (s.heap.objs.size + 1) scope.names []) (bindC (envOfC qual scope s.heap.objs.size f cd).kindOf (ps.zip us) fun _ => none) s1) :
    Inv (cxOf CX P w K mg base N qual scope f cd A outer s H E) [] (start N vs) H s1 := by
  have hpl : ps.length ≤ N.length := by have := congrArg List.length S.pre; rw [List.length_take] at this; omega
  obtain ⟨h1, tk, rfl, hk⟩ := x.done
  have noA : ∀ b : Addr, b ∉ (cxOf CX P w K mg base N qual scope f cd A outer s H E).ex := fun b z => absurd (show b ∈ ([] : List Addr) from z) (by simp)
  refine ⟨⟨e0.mod, S.kind, rfl, rfl, Nat.le_refl _, fun y z c h1 h2 => ?_, fun y hy => ?_, fun y c _ h => ?_, fun _ => hd, Around.frames_deeper e0.frames, .inr ⟨rfl, rfl⟩, fun b z => absurd z (noA b), e0.bs, e0.bsz, fun b _ _ => noA b, fun b z => absurd z (noA b), e0.funs, e0.frf⟩,
    rfl, e0.bare, Un.kept hk, ⟨_, x.toInCall.ns, fun i y v h1 h2 h3 => ?_⟩, fun y c h => ⟨_, x.cell y c h⟩, e0.hok.fresh (Nat.le_refl _), fun y c h => ?_, fun p hp => absurd (show p ∈ ([] : List (Addr × Obj)) from hp) (by simp), e0.hok.kept hk, ?_⟩
  · exact name_of_addr x.apart (PySem.mem_of_lookup h1) (PySem.mem_of_lookup h2)
  · have hy : scope.names.lookup y = some .cell ∨ scope.names.lookup y = some .free := hy
    rcases hy with hy | hy
    · exact cell_has hy
    · exact absurd rfl (S.nofree _ (PySem.mem_of_lookup hy))
  · exact Nat.le_of_lt (x.above y c (PySem.mem_of_lookup h))
  · have hi : i < vs.length := by
      unfold start at h2
      by_cases hi : i < vs.length
      · exact hi
      · rw [List.getElem?_append_right (by simpa using hi)] at h2
        rw [List.getElem?_replicate] at h2
        split at h2 <;> cases h2
    have ha : vs[i]? = some v := by
      unfold start at h2
      rw [List.getElem?_append_left (by simpa using hi), List.getElem?_map] at h2
      cases e : vs[i]? with
      | none => rw [e] at h2; cases h2
      | some a => rw [e] at h2; cases h2; rfl
    obtain ⟨u, hu, rv⟩ := r.get ha
    have hp : ps[i]? = some y := by
      rw [← S.pre, List.getElem?_take_of_lt (by omega)]; exact h1
    have ndP : ps.Nodup := by rw [← S.pre]; exact S.nd.sublist (List.take_sublist _ _)
    refine ⟨u, rv, ?_⟩
    rcases S.par y (List.mem_of_getElem? hp) with k | k
    · exact .inl ⟨k, bindL_get ndP hp hu k⟩
    · obtain ⟨c, e⟩ := cell_has (n := s.heap.objs.size + 1) k
      refine .inr ⟨.inl k, c, e, ?_⟩
      have q := x.cell y c e
      rw [bindC_get ndP hp hu (by show scope.names.lookup y ≠ _; rw [k]; decide)] at q
      exact q
  · exact e0.hok.fresh (Nat.le_of_lt (x.above y c (PySem.mem_of_lookup h)))
  · unfold start
    show _ = N.length
    rw [List.length_append, List.length_map, List.length_replicate]
    omega
theorem fn_of {CX : CXT} {P : Program} {w : World} {K : PySem.W.Frag} {mg : Str → Option Value} {base : Heap} {k : Nat} {f : Addr} {name qual : Str} {params : Arguments} {body : List Stmt} {scope : Scope} {dV kV doc pm cdv ct oc : Value} {an od : Option Addr}
    {osl : Array (Option Value)} {N ps : List Str} {sp : Sp} (lk : K.lookup f = some ⟨oc, od, .func (PySem.W.fnOf name qual params body scope dV kV doc pm an cdv ct), osl⟩) (hcd : PySem.W.codeIn K cdv qual = true) (S : FnScope N ps scope)
    (len : ∀ vs H Q E, sp vs H Q E → vs.length = ps.length)
    (hbody : ∀ (A : Around) (outer : List Env) (s : Shared) (H : Hp) (vs : List V) (Q : VK) (E : XK), Room k (A.deeper (envOfC qual scope s.heap.objs.size f cdv)) → sp vs H Q E →
      ∃ t, PSs (cxOf CX P w K mg base N qual scope f cdv A outer s H E) body t ∧ t { nx := fun _ H' => Q .non H', rt := Q } (start N vs) H) :
    FnOk P w K mg base CX (k + 1) f (PySem.W.fnOf name qual params body scope dV kV doc pm an cdv ct) ps sp := by
  refine ⟨len, fun A outer s H args us vs Q E hr e0 hb r hsp => ?_⟩
  have hl := len _ _ _ _ hsp
  have KX : K.In s.heap := e0.mod.kin.keeps fun b o e => (e0.bs b o e).1
  have lim : s.heap.NoLimit := e0.mod.nolimit.keeps fun b o e => (e0.bs b o e).1
  have hkind : ∀ y ∈ ps.zip us, scope.names.lookup y.1 = some .local ∨ (scope.names.lookup y.1 = some .cell ∧ ((cellsFrom (s.heap.objs.size + 1) scope.names []).lookup y.1).isSome = true) := fun ⟨n, v⟩ hy => by
    rcases S.par n (List.of_mem_zip hy).1 with q | q
    · exact .inl q
    · exact .inr ⟨q, PySem.W.cellsFrom_some _ _ _ (.inl q)⟩
  refine codeAny_call_function hr.depth (KX _ _ lk) rfl S.co S.gen rfl (PySem.W.codeRec_of KX hcd) (hb _ _ _ _ ?_)
  refine wpAny_newFunctionEnv_cells S.kind hkind fun env he s1 x => ?_
  subst he
  refine ⟨lim.keeps x.toInCall.keep, codeAny_func ?_⟩
  obtain ⟨t, ht, hq⟩ := hbody A outer s H vs Q E (hr.deeper _) hsp
  have I : Inv (cxOf CX P w K mg base N qual scope f cdv A outer s H E) [] (start N vs) H s1 := inv_start S hr.hd e0 hl r x
  refine wpAny_mono (ht [] s1 (start N vs) H _ I hq) (fun fl s' hs => ?_) fun e s' hs => hs
  have fin : ∀ {σ' : St} {H' : Hp} {v : V} {u : Value}, Inv (cxOf CX P w K mg base N qual scope f cdv A outer s H E) [] σ' H' s' → RelV v u → Q v H' → CE outer P w H s Q u s' :=
    fun {σ' H' v u} J rv q => ⟨v, H', J.os, J.bare, J.base, J.hok, rv, q⟩
  cases fl with
  | ret u =>
    obtain ⟨v, σ', H', J, rv, q⟩ := hs
    exact fin J rv q
  | next =>
    obtain ⟨σ', H', J, q⟩ := hs
    exact fin (v := V.non) (u := Value.none) J rfl q
  | brk =>
    obtain ⟨_, _, _, q⟩ := hs
    exact False.elim q
  | cont =>
    obtain ⟨_, _, _, q⟩ := hs
    exact False.elim q
section
variable {X : Cx} {x : Str} {p pos : Pos} {e : Expr} {es : List Expr} {t : TA} {id T : String} {r : List V → Hp → VK → Prop}
def tCB (r : List V → Hp → VK → Prop) (t : TA) : TE := fun σ H Q => t σ H fun vs H1 => r vs H1 Q
theorem pe_callB (hc : CallR X (.builtin id) r) (hg : Gl X x) (hm : X.mg x = none) (hv : bootBuiltins x = some (.builtin id)) (ha : PA X (e :: es) t) (hn : x ≠ "__name__" := by decide) (hdb : (x == ("__debug__" : Str)) = false := by decide)
    (he : starEach (e :: es) X.env = (false, eval e X.env) :: starEach es X.env := by rfl) (hpl : (backTo pos (starEach es X.env)).any (·.1) = false := by rfl) : PE X (.Call (.Name x p) (e :: es) [] pos) (tCB r t) := by
  (try refine ⟨?_⟩); intro pins s σ H Q I h
  refine wpAny_Call_Name_kw (ld_blt I hg hm hv ?_ hn hdb)
  exact PyProof.Rows.callWith_builtin1 (thn (ha pos pins s σ H _ I h) fun us s1 ⟨vs, H1, I1, r1, q1⟩ => hc pins s1 σ H1 vs us Q I1 r1 q1) he hpl
theorem pe_callTy (hc : CallR X (.type T) r) (hg : Gl X x) (hm : X.mg x = none) (hv : bootBuiltins x = some (.type T)) (ha : PA X (e :: es) t) (hn : x ≠ "__name__" := by decide) (hdb : (x == ("__debug__" : Str)) = false := by decide)
    (he : starEach (e :: es) X.env = (false, eval e X.env) :: starEach es X.env := by rfl) (hpl : (backTo pos (starEach es X.env)).any (·.1) = false := by rfl) : PE X (.Call (.Name x p) (e :: es) [] pos) (tCB r t) := by
  (try refine ⟨?_⟩); intro pins s σ H Q I h
  refine wpAny_Call_Name_kw (ld_blt I hg hm hv ?_ hn hdb)
  exact PyProof.Rows.callWith_type1 (thn (ha pos pins s σ H _ I h) fun us s1 ⟨vs, H1, I1, r1, q1⟩ => hc pins s1 σ H1 vs us Q I1 r1 q1) he hpl
end
end L2
namespace HT
open PySem PyProof.Rows
section
open PySem.SeqAt
open PySem.AutoSeq1 (wpAny_loadPart')
open PySem.MeetsSeq PySem.MeetsSeq2 PySem.MeetsSeq3
end
section
variable {prog : Program} {w : World} {A : Around} {E : Value → Shared → Prop} {s : Shared}
def sIx (n d : Nat) : Option Int → Nat
  | none => d
  | some v => if v < 0 then (v + (n : Int)).toNat else min v.toNat n
theorem sIx_none (n d : Nat) : sIx n d none = d := rfl
theorem sIx_nat (n d k : Nat) : sIx n d (some (k : Int)) = min k n := by
  show (if (k : Int) < 0 then ((k : Int) + (n : Int)).toNat else min (k : Int).toNat n) = min k n
  rw [if_neg (by omega), Int.toNat_natCast]
end
end HT
namespace L2
open PySem PySem.Spec PyProof.Rows
abbrev TO := St → Hp → (Option Int → Hp → Prop) → Prop
structure PO (X : Cx) (e : Option Expr) (t : TO) : Prop where
  go : ∀ (pins : List (Addr × Obj)) (s : Shared) (σ : St) (H : Hp) (Q : Option Int → Hp → Prop), Inv X pins σ H s → t σ H Q →
    wpAny (model X.prog X.w) X.A (evalPart e X.env) (fun u s' => ∃ o H', Inv X pins σ H' s' ∧ IsPart u o ∧ Q o H') X.xe s
instance {X : Cx} {e : Option Expr} {t : TO} : CoeFun (PO X e t) fun _ => ∀ (pins : List (Addr × Obj)) (s : Shared) (σ : St) (H : Hp) (Q : Option Int → Hp → Prop), Inv X pins σ H s → t σ H Q →
    wpAny (model X.prog X.w) X.A (evalPart e X.env) (fun u s' => ∃ o H', Inv X pins σ H' s' ∧ IsPart u o ∧ Q o H') X.xe s := ⟨fun h => h.go⟩
def tNoPart : TO := fun _ H Q => Q none H
def tPart (t : TE) : TO := fun σ H Q => t σ H fun x H1 => ∃ i, x = .int i ∧ Q (some i) H1
section
variable {X : Cx} {e : Expr} {te : TE} {lo hi : Option Expr} {tl th : TO} {pos p2 : Pos}
theorem po_none : PO X none tNoPart := by
  (try refine ⟨?_⟩); intro pins s σ H Q I h
  rw [evalPart_none]
  exact wpAny_pure ⟨none, H, I, .none, h⟩
theorem po_some (h : PE X e te) : PO X (some e) (tPart te) := by
  (try refine ⟨?_⟩); intro pins s σ H Q I hw
  rw [evalPart_some]
  refine thn (h pins s σ H _ I hw) fun u s1 ⟨x, H1, I1, r1, q1⟩ => ?_
  obtain ⟨i, rfl, q⟩ := q1
  obtain ⟨t, rfl⟩ := r1
  exact ⟨some i, H1, I1, .int i t, q⟩
def SlR (X : Cx) (r : V → Option Int → Option Int → Hp → VK → Prop) : Prop :=
  ∀ (pins : List (Addr × Obj)) (s : Shared) (σ : St) (H : Hp) (x : V) (v vl vu : Value) (lo hi : Option Int) (sl : Addr) (Q : VK), Inv X pins σ H s → RelV x v → s.heap.IsSliceOf sl vl vu .none → IsPart vl lo → IsPart vu hi → r x lo hi H Q →
    ∃ T id, typeLookup (.type T) "__getitem__" = pure (some (.builtin id)) ∧ s.TypeIs v T ∧ wpAny (model X.prog X.w) X.A (getItem v (.ref sl)) (EP X pins σ Q) X.xe s
def tSl (r : V → Option Int → Option Int → Hp → VK → Prop) (te : TE) (tl th : TO) : TE := fun σ H Q => te σ H fun x H1 => tl σ H1 fun l H2 => th σ H2 fun u H3 => r x l u H3 Q
theorem pe_slice {r : V → Option Int → Option Int → Hp → VK → Prop} (hr : SlR X r) (he : PE X e te) (hl : PO X lo tl) (hu : PO X hi th) : PE X (.Subscript e (.Slice lo hi none p2) pos) (tSl r te tl th) := by
  (try refine ⟨?_⟩); intro pins s σ H Q I h
  refine Subscript_ (thn (he pins s σ H _ I h) fun v s1 ⟨x, H1, I1, r1, q1⟩ => ?_)
  refine wpAny_Slice (thn (hl pins s1 σ H1 _ I1 q1) fun vl s2 ⟨l, H2, I2, pl, q2⟩ => thn (hu pins s2 σ H2 _ I2 q2) fun vu s3 ⟨u, H3, I3, pu, q3⟩ => ?_)
  rw [evalPart_none]
  refine wpAny_pure ?_
  have I4 : Inv X pins σ H3 { s3 with heap := s3.heap.push { cls := .type "slice", data := .fields #[vl, vu, .none] } } := I3.kept (t' := s3.toks) fun b ob q => Heap.get?_push_of_some _ q
  obtain ⟨T, id, hT, ht, hg⟩ := hr pins { s3 with heap := s3.heap.push { cls := .type "slice", data := .fields #[vl, vu, .none] } } σ H3 x v vl vu l u s3.heap.objs.size Q I4 r1 (Heap.IsSliceOf.new ..) pl pu q3
  show wpAny (model X.prog X.w) X.A (subscriptTail e (.Slice lo hi none p2) v (.ref s3.heap.objs.size)) (EP X pins σ Q) X.xe { s3 with heap := s3.heap.push { cls := .type "slice", data := .fields #[vl, vu, .none] } }
  exact tail_any (ops := [.ref s3.heap.objs.size, v]) ht hT hg (by with_unfolding_all rfl)
def cutV (xs : List V) (lo hi : Option Int) : List V := (xs.drop (HT.sIx xs.length 0 lo)).take (HT.sIx xs.length xs.length hi - HT.sIx xs.length 0 lo)
theorem cutV_length (xs : List V) (lo hi : Option Int) : (cutV xs lo hi).length ≤ xs.length := by
  unfold cutV
  rw [List.length_take, List.length_drop]
  omega
end
def ixN (n : Nat) (i : Int) : Option Nat := if 0 ≤ i then (if i < n then some i.toNat else none) else if -(n : Int) ≤ i then some (i + n).toNat else none
def atI {α : Type} (xs : List α) (i : Int) : Option α := (ixN xs.length i).bind fun j => xs[j]?
theorem ixN_seq {n : Nat} {i : Int} {j : Nat} (h : ixN n i = some j) : seqIndex? i n = some j ∧ j < n ∧ -(n : Int) ≤ i ∧ i < n := by
  unfold ixN at h
  by_cases h0 : 0 ≤ i
  · rw [if_pos h0] at h
    by_cases h1 : i < n
    · rw [if_pos h1] at h
      have e : i.toNat = j := Option.some.inj h
      exact ⟨by rw [seqIndex_of h0 h1, e], by omega, by omega, h1⟩
    · rw [if_neg h1] at h; cases h
  · rw [if_neg h0] at h
    by_cases h1 : -(n : Int) ≤ i
    · rw [if_pos h1] at h
      have e : (i + n).toNat = j := Option.some.inj h
      exact ⟨by rw [seqIndex_neg (by omega) h1, e], by omega, h1, by omega⟩
    · rw [if_neg h1] at h; cases h
theorem atI_get {α : Type} {xs : List α} {i : Int} {v : α} (h : atI xs i = some v) : ∃ j, seqIndex? i xs.length = some j ∧ xs[j]? = some v ∧ j < xs.length ∧ -(xs.length : Int) ≤ i ∧ i < xs.length := by
  unfold atI at h
  cases e : ixN xs.length i with
  | none => rw [e] at h; cases h
  | some j =>
    rw [e] at h
    obtain ⟨h1, h2, h3, h4⟩ := ixN_seq e
    exact ⟨j, h1, h, h2, h3, h4⟩
theorem atI_nat {α : Type} {xs : List α} {j : Nat} {v : α} (h : xs[j]? = some v) : atI xs (j : Int) = some v := by
  have hj : j < xs.length := (List.getElem?_eq_some_iff.mp h).1
  have e : ixN xs.length (j : Int) = some j := by
    unfold ixN
    rw [if_pos (by omega), if_pos (by omega)]; simp
  unfold atI; rw [e]; exact h
def PlainIx (b : Expr) : Prop := ∀ o i, subscripted b false o i = operate [o, i] (getItem o i)
def IxR (X : Cx) (r : R2) : Prop :=
  ∀ (value slice : Expr) (pins : List (Addr × Obj)) (s : Shared) (σ : St) (H : Hp) (x y : V) (v u : Value) (Q : VK), Inv X pins σ H s → RelV x v → RelV y u → r x y H Q →
    subscripted slice false v u = operate [v, u] (getItem v u) → wpAny (model X.prog X.w) X.A (subscriptTail value slice v u) (EP X pins σ Q) X.xe s
def MtR (X : Cx) (id : String) (r : V → List V → Hp → VK → Prop) : Prop :=
  ∀ (pins : List (Addr × Obj)) (s : Shared) (σ : St) (H : Hp) (x : V) (xs : List V) (v : Value) (us : List Value) (Q : VK), Inv X pins σ H s → RelV x v → Vals xs us → r x xs H Q →
    wpAny (model X.prog X.w) X.A (call (.builtin id) (v :: us)) (EP X pins σ Q) X.xe s
section
variable {X : Cx} {a b : Expr} {ta tb : TE} {pos : Pos}
theorem IxR.or {r r' : R2} (h : IxR X r) (h' : IxR X r') : IxR X (fun x y H Q => r x y H Q ∨ r' x y H Q) := by
  intro value slice pins s σ H x y v u Q I rx ry q hs
  rcases q with q | q
  · exact h value slice pins s σ H x y v u Q I rx ry q hs
  · exact h' value slice pins s σ H x y v u Q I rx ry q hs
theorem pe_ix {r : R2} (hr : IxR X r) (ha : PE X a ta) (hb : PE X b tb) (hs : PlainIx b) : PE X (.Subscript a b pos) (tOp r ta tb) := by
  (try refine ⟨?_⟩); intro pins s σ H Q I h
  exact Subscript_ (binT ha hb I h fun v u s2 x y H2 I2 rx ry q => hr a b pins s2 σ H2 x y v u Q I2 rx ry q (hs _ _))
def rIxL (K : PySem.W.Frag) : R2 := fun x y H Q => ∃ p xs i v, x = .ref p ∧ y = .int i ∧ SqL K H p xs ∧ atI xs i = some v ∧ Q v H
def rIxT (K : PySem.W.Frag) : R2 := fun x y H Q => ∃ p xs i v, x = .ref p ∧ y = .int i ∧ SqT K H p xs ∧ atI xs i = some v ∧ Q v H
def rIxS : R2 := fun x y H Q => ∃ z i c, x = .str z ∧ y = .int i ∧ z.length ≤ sizeLine ∧ atI z.cps.toList i = some c ∧ Q (.str ⟨#[c]⟩) H
theorem ix_list : IxR X (rIxL X.K) := by
  intro value slice pins s σ H x y v u Q I rx ry h hs
  obtain ⟨p, xs, i, z, rfl, rfl, hq, he, q⟩ := h
  cases rx
  obtain ⟨t, rfl⟩ := ry
  obtain ⟨its, r, pl, hz⟩ := I.list hq
  obtain ⟨j, h1, h2, h3, h4, h5⟩ := atI_get he
  obtain ⟨w, ew, rw'⟩ := r.get h2
  have hl := r.length
  have hn := line63
  have fin : EP X pins σ Q w s := ⟨z, H, I, rw', q⟩
  by_cases h0 : 0 ≤ i
  · have hj : i.toNat = j := by
      rw [seqIndex_of h0 h5] at h1
      exact Option.some.inj h1
    exact item_listR pl.isList h0 (by omega) (by rw [hj]; simpa using ew) fin hs
  · have hj : (i + (its.toArray.size : Int)).toNat = j := by
      rw [seqIndex_neg (by omega) h4] at h1
      rw [List.size_toArray, ← hl]
      exact Option.some.inj h1
    exact subscriptTail_builtinR (x := w) pl.isList.typeIs slot_list_getitem.lookup
      (wpAny_getItem_list_neg (Q := fun r s' => r = w ∧ EP X pins σ Q r s') pl.isList (by omega) (by rw [List.size_toArray] <;> omega) (by omega) (by rw [hj]; simpa using ew) ⟨rfl, fin⟩) hs
theorem ix_tup : IxR X (rIxT X.K) := by
  intro value slice pins s σ H x y v u Q I rx ry h hs
  obtain ⟨p, xs, i, z, rfl, rfl, hq, he, q⟩ := h
  cases rx
  obtain ⟨t, rfl⟩ := ry
  obtain ⟨its, r, pl, hz⟩ := I.tuple hq
  obtain ⟨j, h1, h2, h3, h4, h5⟩ := atI_get he
  obtain ⟨w, ew, rw'⟩ := r.get h2
  have hl := r.length
  have hn := line63
  have fin : EP X pins σ Q w s := ⟨z, H, I, rw', q⟩
  exact subscriptTail_builtinR (x := w) pl.typeIs slot_tuple_getitem.lookup
    (getItem_tuple (j := j) (Q := fun r s' => r = w ∧ EP X pins σ Q r s') pl (by omega) (by omega) (by rw [List.size_toArray, ← hl]; exact h1) (by simpa using ew) ⟨rfl, fin⟩) hs
theorem ix_str : IxR X rIxS := by
  intro value slice pins s σ H x y v u Q I rx ry h hs
  obtain ⟨z, i, c, rfl, rfl, hz, he, q⟩ := h
  obtain ⟨t, rfl⟩ := rx
  obtain ⟨t', rfl⟩ := ry
  obtain ⟨j, h1, h2, h3, h4, h5⟩ := atI_get he
  have hl : z.cps.toList.length = z.length := by simp [Str.length]
  rw [hl] at h1 h4 h5
  have hn := line63
  exact tail_any (typeIs_str s z t) slot_str_getitem.lookup (getItem_str (c := c) (by
    have e1 : decide (i < -(2 ^ 63 : Int)) = false := decide_eq_false (by omega)
    have e2 : decide (i ≥ 2 ^ 63) = false := decide_eq_false (by omega)
    rw [e1, e2, Bool.or_false]) (by rw [h1]; simpa using h2) ⟨.str ⟨#[c]⟩, H, I.tok _, ⟨_, rfl⟩, q⟩) hs
def rIx (K : PySem.W.Frag) : R2 := fun x y H Q => rIxL K x y H Q ∨ rIxT K x y H Q ∨ rIxS x y H Q
theorem ix_seq : IxR X (rIx X.K) := ix_list.or (ix_tup.or ix_str)
theorem mapSeq_set (its : List Value) (n j : Nat) (u : Value) : Obj.mapSeq (·.setIfInBounds j u) { cls := .type "list", data := .seq its.toArray n } = { cls := .type "list", data := .seq (its.set j u).toArray n } := by
  simp [Obj.mapSeq]
theorem Inv.lst {pins : List (Addr × Obj)} {σ : St} {H : Hp} {s : Shared} {p : Addr} {xs : List V} (I : Inv X pins σ H s) (h : H p = some (.lst xs)) :
    ∃ (its : List Value) (n : Nat), Vals xs its ∧ s.heap.get? p = some { cls := .type "list", data := .seq its.toArray n } ∧ xs.length ≤ sizeLine := by
  obtain ⟨z, its, n, r, e⟩ := I.hok p _ h
  exact ⟨its, n, r, e, z⟩
theorem Inv.lstUpd {pins : List (Addr × Obj)} {σ : St} {H : Hp} {s : Shared} {p : Addr} {xs ys : List V} {its its' : List Value} {n n' : Nat} {f : Obj → Obj} (I : Inv X pins σ H s) (h : H p = some (.lst xs))
    (ho : s.heap.get? p = some { cls := .type "list", data := .seq its.toArray n }) (hf : f { cls := .type "list", data := .seq its.toArray n } = { cls := .type "list", data := .seq its'.toArray n' }) (r : Vals ys its') (hz : ys.length ≤ sizeLine) (t : Nat) :
    Inv X pins σ (upd H p (.lst ys)) { s with heap := s.heap.update p f, toks := t } := by
  have e : (s.heap.update p f).get? p = some { cls := .type "list", data := .seq its'.toArray n' } := by
    rw [Heap.get?_update_self f ho (by rw [hf] <;> rfl), hf]
  refine I.write (x := p) (e := p) (by rw [h]; trivial) (.inl rfl) (fun b u hb q => (Heap.get?_update_other _ _ (Ne.symm hb)).trans q) ⟨_, e⟩ ?_
  exact ⟨hz, its', n', r, e⟩
def rSetL : V → V → V → Hp → (Hp → Prop) → Prop := fun o i v H Q => ∃ p xs k j, o = .ref p ∧ i = .int k ∧ H p = some (.lst xs) ∧ ixN xs.length k = some j ∧ Q (upd H p (.lst (xs.set j v)))
theorem set_list : PSet X rSetL := by
  (try refine ⟨?_⟩); intro pins s σ H o i v ov iv u Q I ro ri rv h
  obtain ⟨p, xs, k, j, rfl, rfl, hp, hj, q⟩ := h
  cases ro
  obtain ⟨t, rfl⟩ := ri
  obtain ⟨its, n, r, ho, hz⟩ := I.lst hp
  obtain ⟨h1, h2, h3, h4⟩ := ixN_seq hj
  have hl := r.length
  have hn := line63
  have I' : Inv X pins σ (upd H p (.lst (xs.set j v))) { s with heap := s.heap.update p (Obj.mapSeq (·.setIfInBounds j u)) } :=
    I.lstUpd hp ho (mapSeq_set its n j u) (r.set rv j) (by rw [List.length_set]; exact hz) s.toks
  by_cases h0 : 0 ≤ k
  · have hk : k.toNat = j := by
      rw [seqIndex_of h0 h4] at h1
      exact Option.some.inj h1
    exact PySem.W.ki_setAt ho h0 (by omega) (by rw [List.size_toArray, ← hl]; exact h4) (by rw [hk]; exact ⟨_, I', q⟩)
  · have hk : (k + (its.toArray.size : Int)).toNat = j := by
      rw [seqIndex_neg (by omega) h3] at h1
      rw [List.size_toArray, ← hl]
      exact Option.some.inj h1
    exact PySem.W.ki_setBack ho (by omega) (by rw [List.size_toArray, ← hl]; exact h3) (by omega) (by rw [hk]; exact ⟨_, I', q⟩)
theorem slice_bounds (lo hi : Option Int) (n : Nat) : (sliceBounds lo hi none n).1 = ((HT.sIx n 0 lo : Nat) : Int) ∧ (sliceBounds lo hi none n).2.1 = ((HT.sIx n n hi : Nat) : Int) ∧ (sliceBounds lo hi none n).2.2 = 1 := by
  refine ⟨?_, ?_, rfl⟩
  · cases lo with
    | none => simp [sliceBounds, HT.sIx]
    | some i =>
      simp only [sliceBounds, HT.sIx, Option.getD_none, show (1 : Int) > 0 by decide, if_true]
      by_cases h : i < 0
      · simp only [h, if_true] <;> omega
      · simp only [h, if_false] <;> omega
  · cases hi with
    | none => simp [sliceBounds, HT.sIx]
    | some i =>
      simp only [sliceBounds, HT.sIx, Option.getD_none, show (1 : Int) > 0 by decide, if_true]
      by_cases h : i < 0
      · simp only [h, if_true] <;> omega
      · simp only [h, if_false] <;> omega
theorem slicePick_cut (its : List Value) (lo hi : Option Int) : slicePick its.toArray lo hi none = ((its.drop (HT.sIx its.length 0 lo)).take (HT.sIx its.length its.length hi - HT.sIx its.length 0 lo)).toArray := by
  obtain ⟨h1, h2, h3⟩ := slice_bounds lo hi its.toArray.size
  unfold slicePick
  rw [h1, h2, h3]
  simp only [sliceRange_one, pick_run, List.size_toArray] <;> rfl
def rSlL (K : PySem.W.Frag) : V → Option Int → Option Int → Hp → VK → Prop := fun x lo hi H Q => ∃ a xs, x = .ref a ∧ SqL K H a xs ∧ ∀ p, H p = none → Q (.ref p) (upd H p (.lst (cutV xs lo hi)))
theorem sl_list : SlR X (rSlL X.K) := by
  (try refine ⟨?_⟩); intro pins s σ H x v vl vu lo hi sl Q I rx hs pl pu h
  obtain ⟨a, xs, rfl, hx, q⟩ := h
  cases rx
  obtain ⟨its, r, ht, hz⟩ := I.list hx
  have hlen := r.length
  refine ⟨"list", _, slot_list_getitem.lookup, ht.isList.typeIs, ?_⟩
  refine wpAny_getItem_list_slice ht.isList hs pl pu .none (by simp) ?_ (by rw [List.size_toArray] <;> omega)
  rw [slicePick_cut, ← hlen]
  refine ⟨.ref s.heap.objs.size, _, I.laid (t' := s.toks) (o := .lst (cutV xs lo hi)) (fun b ob q => Heap.get?_push_of_some _ q) (Nat.le_refl _) ?_, rfl, q _ (I.hok.fresh (Nat.le_refl _))⟩
  exact ⟨Nat.le_trans (cutV_length xs lo hi) hz, _, 0, (r.drop (HT.sIx xs.length 0 lo)).take (HT.sIx xs.length xs.length hi - HT.sIx xs.length 0 lo), Heap.get?_push_size _ rfl⟩
theorem call_len_seq : CallR X (.builtin "len") (fun xs H Q => ∃ p ys, xs = [.ref p] ∧ (SqL X.K H p ys ∨ SqT X.K H p ys) ∧ Q (.int ys.length) H) := by
  (try refine ⟨?_⟩); intro pins s σ H xs us Q I r h
  obtain ⟨p, ys, rfl, hq, q⟩ := h
  obtain ⟨u, rfl, rx⟩ := vals1 r
  cases rx
  have hn := line63
  rcases hq with hq | hq
  · obtain ⟨its, r', pl, hz⟩ := I.list hq
    have hlen := r'.length
    exact Calls.call_len_list pl.isList (by simp only [List.size_toArray] <;> omega) ⟨.int ys.length, H, I.tok _, ⟨s.toks + 1, by rw [List.size_toArray, hlen]⟩, q⟩
  · obtain ⟨its, r', pl, hz⟩ := I.tuple hq
    have hlen := r'.length
    exact len_tuple pl (by simp only [List.size_toArray] <;> omega) ⟨.int ys.length, H, I.tok _, ⟨s.toks + 1, by rw [List.size_toArray, hlen]⟩, q⟩
theorem call_list_of : CallR X (.type "list") (fun xs H Q => ∃ p ys, xs = [.ref p] ∧ (SqL X.K H p ys ∨ SqT X.K H p ys) ∧ ∀ l, H l = none → Q (.ref l) (upd H l (.lst ys))) := by
  (try refine ⟨?_⟩); intro pins s σ H xs us Q I r h
  obtain ⟨p, ys, rfl, hq, q⟩ := h
  obtain ⟨u, rfl, rx⟩ := vals1 r
  cases rx
  have fin : ∀ (its : List Value), Vals ys its → ys.length ≤ sizeLine → ∀ (h' : Heap) (c' : Nat), (∀ b o', s.heap.get? b = some o' → h'.get? b = some o') →
      h'.get? s.heap.objs.size = some { cls := .type "list", dict := none, data := .seq its.toArray c', slots := #[] } → EP X pins σ Q (.ref s.heap.objs.size) { s with heap := h' } := fun its r' hz h' c' kp e =>
    ⟨.ref s.heap.objs.size, _, I.laid (t' := s.toks) kp (Nat.le_refl _) (show ObjOk X.prog X.w _ h' _ (.lst ys) from ⟨hz, its, c', r', e⟩), rfl, q _ (I.hok.fresh (Nat.le_refl _))⟩
  rcases hq with hq | hq
  · obtain ⟨its, r', pl, hz⟩ := I.list hq
    have hlen := r'.length
    obtain ⟨o, ho, hc, n, hd⟩ := pl.isList
    exact call_list_seq p (.inl rfl) ho hc hd (fun h' c' kp e => fin its r' hz h' c' kp e) (by simp only [List.size_toArray] <;> omega)
  · obtain ⟨its, r', pl, hz⟩ := I.tuple hq
    have hlen := r'.length
    obtain ⟨o, ho, hc, n, hd⟩ := pl
    exact call_list_seq p (.inr rfl) ho hc hd (fun h' c' kp e => fin its r' hz h' c' kp e) (by simp only [List.size_toArray] <;> omega)
theorem call_tuple_of : CallR X (.type "tuple") (fun xs H Q => ∃ p ys, xs = [.ref p] ∧ ((SqL X.K H p ys ∧ ∀ l, H l = none → Q (.ref l) (upd H l (.tup ys))) ∨ (SqT X.K H p ys ∧ Q (.ref p) H))) := by
  (try refine ⟨?_⟩); intro pins s σ H xs us Q I r h
  obtain ⟨p, ys, rfl, h⟩ := h
  obtain ⟨u, rfl, rx⟩ := vals1 r
  cases rx
  rcases h with ⟨hq, q⟩ | ⟨hq, q⟩
  · obtain ⟨its, r', pl, hz⟩ := I.list hq
    have hlen := r'.length
    refine call_tuple_list pl.isList (fun h' kp => ?_) (by simp only [List.size_toArray] <;> omega)
    have I1 : Inv X pins σ H { s with heap := h' } := I.kept (t' := s.toks) kp
    have I2 : Inv X pins σ (upd H h'.objs.size (.tup ys)) { s with heap := h'.push { cls := .type "tuple", data := .seq its.toArray } } :=
      I1.laid (t' := s.toks) (fun b o e => Heap.get?_push_of_some _ e) (Nat.le_refl _) (show ObjOk X.prog X.w _ _ _ (.tup ys) from ⟨hz, its, r', IsTup.new _ _⟩)
    exact ⟨.ref h'.objs.size, _, I2, rfl, q _ (I1.hok.fresh (Nat.le_refl _))⟩
  · obtain ⟨its, r', pl, hz⟩ := I.tuple hq
    exact call_tuple_same pl ⟨.ref p, H, I, rfl, q⟩
def tyV (K : PySem.W.Frag) (T : String) (x : V) (H : Hp) : Prop := match x with
  | .str _ => T = "str"
  | .int _ => T = "int"
  | .ref p => (T = "list" ∧ ∃ xs, SqL K H p xs) ∨ (T = "tuple" ∧ ∃ o, K.lookup p = some o ∧ o.cls = .type "tuple" ∧ o.dict = none) ∨
      (T = "dict" ∧ ((∃ kvs, H p = some (.dK kvs)) ∨ ∃ kvs, H p = some (.dT kvs))) ∨ (T = "set" ∧ ∃ S n, H p = some (.set S n))
  | _ => False
theorem tyV_is {pins : List (Addr × Obj)} {σ : St} {H : Hp} {s : Shared} {T : String} {x : V} {v : Value} (I : Inv X pins σ H s) (r : RelV x v) (ty : tyV X.K T x H) :
    s.TypeIs v T ∧ ∀ a, v = .ref a → ∃ ob, s.heap.get? a = some ob ∧ ob.dict = none := by
  cases x with
  | str z =>
    obtain ⟨t, rfl⟩ := r
    cases (show T = "str" from ty)
    exact ⟨typeIs_str s z t, fun _ e => nomatch e⟩
  | int i =>
    obtain ⟨t, rfl⟩ := r
    cases (show T = "int" from ty)
    exact ⟨typeIs_int s i t, fun _ e => nomatch e⟩
  | ref p =>
    cases r
    rcases ty with ⟨rfl, xs, hq⟩ | ⟨rfl, o, hk, hc, hd⟩ | ⟨rfl, hk⟩ | ⟨rfl, S, n, hk⟩
    · obtain ⟨its, _, pl, _⟩ := I.list hq
      refine ⟨pl.isList.typeIs, fun a e => ?_⟩
      cases e
      obtain ⟨o, n, e, c, hd, _⟩ := pl
      exact ⟨o, e, hd⟩
    · refine ⟨⟨o, I.kIn p o hk, hc⟩, fun a e => ?_⟩
      cases e
      exact ⟨o, I.kIn _ o hk, hd⟩
    · have z : ∃ o, s.heap.get? p = some o ∧ o.ExactDict := by
        rcases hk with ⟨kvs, hk⟩ | ⟨kvs, hk⟩
        · obtain ⟨_, _, _, _, o, _, _, e, ex, _⟩ := I.hok p _ hk
          exact ⟨o, e, ex⟩
        · obtain ⟨_, _, _, _, o, _, _, e, ex, _⟩ := I.hok p _ hk
          exact ⟨o, e, ex⟩
      obtain ⟨o, e, ex⟩ := z
      refine ⟨⟨o, e, ex.1⟩, fun a e2 => ?_⟩
      cases e2
      exact ⟨o, e, ex.2.1⟩
    · obtain ⟨o, _, _, _, e, ex, _⟩ := I.hok p _ hk
      refine ⟨⟨o, e, ex.1⟩, fun a e2 => ?_⟩
      cases e2
      exact ⟨o, e, ex.2.1⟩
  | _ => exact False.elim ty
def tBM (K : PySem.W.Frag) (T : String) (r : V → List V → Hp → VK → Prop) (to : TE) (t : TA) : TE := fun σ H Q => to σ H fun x H1 => tyV K T x H1 ∧ t σ H1 fun xs H2 => r x xs H2 Q
variable {o e : Expr} {es : List Expr} {to : TE} {t : TA} {name : Str} {apos cpos : Pos} {T id : String} {r : V → List V → Hp → VK → Prop}
theorem pe_bm (pa : PlainAttrs T) (slot : Slot T name id) (hty : typeOf (.builtin id) = pure (.type "method_descriptor")) (hm : MtR X id r) (ho : PE X o to) (ha : PA X (e :: es) t)
    (hbase : attributeBase o name X.env (eval o X.env) = eval o X.env := by rfl)
    (hfew : ((backTo cpos (starEach (e :: es) X.env)).all (fun x => !x.1) && (backToKw cpos (keywordEach [] X.env)).all (fun x => x.1.isSome)
      && decide ((e :: es).length + ([] : List Keyword).length + (if ([] : List Keyword).isEmpty then 0 else 1) < 30)) = true := by rfl)
    (hline : (apos.endLine == cpos.line) = true := by rfl) (hs : starEach (e :: es) X.env = (false, eval e X.env) :: starEach es X.env := by rfl) (hplain : (backTo cpos (starEach es X.env)).any (·.1) = false := by rfl) :
    PE X (.Call (.Attribute o name apos) (e :: es) [] cpos) (tBM X.K T r to t) := by
  (try refine ⟨?_⟩); intro pins s σ H Q I h
  refine wpAny_Call_method_late hbase hfew hline rfl (thn (ho pins s σ H _ I h) fun v s1 ⟨x, H1, I1, r1, ty, q1⟩ => ?_)
  obtain ⟨h1, h2⟩ := tyV_is I1 r1 ty
  refine ⟨T, id, pa, slot, hty, h1, h2, ?_⟩
  have hA := ha cpos pins s1 σ H1 _ I1 q1
  rw [hs] at hA ⊢
  refine Calls.callWith_builtin (by show (false || (backTo cpos (starEach es X.env)).any (·.1)) = false; rw [hplain] <;> rfl) (Calls.evalArgs_plain ?_)
  exact thn hA fun us s2 ⟨vs, H2, I2, r2, q2⟩ => hm pins s2 σ H2 x vs v us Q I2 r1 r2 q2
/- xs.append(e), list.index on a module's tuple .. are MtR facts of 06m -/
end
def MtM (X : Cx) (id : String) (r : V → List V → Hp → VK → Prop) : Prop :=
  ∀ (pins : List (Addr × Obj)) (s : Shared) (σ : St) (H : Hp) (x : V) (xs : List V) (v : Value) (us : List Value) (Q : VK), Inv X pins σ H s → RelV x v → Vals xs us → r x xs H Q →
    wpAny (model X.prog X.w) X.A (call (.builtin id) (v :: us)) (EP X pins σ Q) X.xe s
theorem Vals.one : ∀ {x : V} {us : List Value}, Vals [x] us → ∃ u, us = [u] ∧ RelV x u := fun h => by
  cases h with
  | cons r q => cases q; exact ⟨_, rfl, r⟩
section
variable {X : Cx} {pins : List (Addr × Obj)} {σ : St} {H : Hp} {s : Shared} {l b : Addr} {xs ys zs : List V}
theorem Inv.lset {its its' : List Value} {n : Nat} {f : Array Value → Array Value} {t' : Nat} (I : Inv X pins σ H s) (hH : H l = some (.lst xs))
    (e : s.heap.get? l = some { cls := .type "list", data := .seq its.toArray n }) (hf : f its.toArray = its'.toArray) (hv : Vals ys its') (hz : ys.length ≤ sizeLine) :
    Inv X pins σ (upd H l (.lst ys)) { s with heap := s.heap.update l (Obj.mapSeq f), toks := t' } := by
  have q := PySem.IsL.update e f
  rw [hf] at q
  refine I.write (x := l) (e := l) (by rw [hH]; exact trivial) (.inl rfl) (fun b' u hb hu => (Heap.get?_update_other s.heap (Obj.mapSeq f) (Ne.symm hb)).trans hu) ⟨_, q⟩ ?_
  exact ⟨hz, its', _, hv, q⟩
theorem Inv.lnew {its : List Value} {t' : Nat} (I : Inv X pins σ H s) (hv : Vals ys its) (hz : ys.length ≤ sizeLine) :
    Inv X pins σ (upd H s.heap.objs.size (.lst ys)) { s with heap := s.heap.push { cls := .type "list", data := .seq its.toArray }, toks := t' } :=
  I.laid (fun _ _ q => Heap.get?_push_of_some _ q) (Nat.le_refl _) ⟨hz, its, 0, hv, Heap.get?_push_size _ rfl⟩
theorem Inv.fresh (I : Inv X pins σ H s) : H s.heap.objs.size = none := I.hok.fresh (Nat.le_refl _)
theorem Inv.lstM (I : Inv X pins σ H s) (hH : H l = some (.lst xs)) : xs.length ≤ sizeLine ∧ ∃ (its : List Value) (n : Nat), Vals xs its ∧ xs.length = its.length ∧ s.heap.get? l = some { cls := .type "list", data := .seq its.toArray n } := by
  obtain ⟨z, its, n, r, e⟩ := I.hok l _ hH
  exact ⟨z, its, n, r, r.length, e⟩
theorem notLongL {n : Nat} (h : n ≤ sizeLine) : Builtin.List.listTooLong n = false := by
  unfold Builtin.List.listTooLong
  exact decide_eq_false (by omega)
end
section
variable {X : Cx}
def rAppend : V → List V → Hp → VK → Prop := fun x vs H Q => ∃ l xs y, x = .ref l ∧ vs = [y] ∧ H l = some (.lst xs) ∧ xs.length < sizeLine ∧ Q .non (upd H l (.lst (xs ++ [y])))
theorem mt_append : MtM X "list.append" rAppend := by
  (try refine ⟨?_⟩); intro pins s σ H x vs v us Q I rx rv h
  obtain ⟨l, xs, y, rfl, rfl, hH, hz, q⟩ := h
  cases rx
  obtain ⟨u, rfl, ru⟩ := rv.one
  obtain ⟨z, its, n, r, hl, e⟩ := I.lstM hH
  refine call_meets F.slot_list_append ⟨_, e, rfl⟩ F.entry_list_append (F.args_list_append_2 _ _) (PySem.list_append l its.toArray n u (by rw [List.size_toArray]; omega)) ⟨e, ?_⟩
  refine ⟨.non, _, I.lset (its' := its ++ [u]) hH e (by simp) (r.append (.cons ru .nil)) ?_, rfl, q⟩
  rw [List.length_append, List.length_singleton]
  omega
def rExtend : V → List V → Hp → VK → Prop := fun x vs H Q => ∃ l b xs zs, x = .ref l ∧ vs = [.ref b] ∧ H l = some (.lst xs) ∧ H b = some (.lst zs) ∧ xs.length + zs.length ≤ sizeLine ∧ Q .non (upd H l (.lst (xs ++ zs)))
theorem mt_extend : MtM X "list.extend" rExtend := by
  (try refine ⟨?_⟩); intro pins s σ H x vs v us Q I rx rv h
  obtain ⟨l, b, xs, zs, rfl, rfl, hH, hB, hz, q⟩ := h
  cases rx
  obtain ⟨u, rfl, ru⟩ := rv.one
  cases ru
  obtain ⟨z, its, n, r, hl, e⟩ := I.lstM hH
  obtain ⟨z2, its2, n2, r2, hl2, e2⟩ := I.lstM hB
  have hsz : its.toArray.size + its2.toArray.size ≤ sizeLine := by rw [List.size_toArray, List.size_toArray]; omega
  have hlong : ¬ (!its.toArray.isEmpty && Builtin.List.listTooLong (its.toArray.size + its2.toArray.size)) = true := by
    rw [notLongL hsz, Bool.and_false]
    exact Bool.false_ne_true
  refine call_meets F.slot_list_extend ⟨_, e, rfl⟩ F.entry_list_extend (F.args_list_extend_2 _ _)
    (AutoSeq1.list_extend_list_list_0 l its.toArray n b its2.toArray n2 hlong (by rw [List.size_toArray]; omega) (by omega)) ⟨e, e2, ?_⟩
  refine ⟨.non, _, I.lset (its' := its ++ its2) hH e (by simp) (r.append r2) ?_, rfl, q⟩
  rw [List.length_append]
  omega
def rCat : R2 := fun x y H Q => ∃ l b xs zs, x = .ref l ∧ y = .ref b ∧ H l = some (.lst xs) ∧ H b = some (.lst zs) ∧ xs.length + zs.length ≤ sizeLine ∧ ∀ p, H p = none → Q (.ref p) (upd H p (.lst (xs ++ zs)))
theorem op_cat : OpR X (binaryOp .Add) rCat := by
  (try refine ⟨?_⟩); intro pins s σ H x y v u Q I rx ry h
  obtain ⟨l, b, xs, zs, rfl, rfl, hH, hB, hz, q⟩ := h
  cases rx
  cases ry
  obtain ⟨z, its, n, r, hl, e⟩ := I.lstM hH
  obtain ⟨z2, its2, n2, r2, hl2, e2⟩ := I.lstM hB
  refine PySem.P.add_list e e2 ?_ (by rw [List.size_toArray, List.size_toArray]; omega)
  have ea : its.toArray ++ its2.toArray = (its ++ its2).toArray := by simp
  rw [ea]
  exact ⟨.ref _, _, I.lnew (t' := s.toks) (r.append r2) (by rw [List.length_append]; omega), rfl, q _ I.fresh⟩
end
section
variable {prog : Program} {w : World} {A : Around} {E : Value → Shared → Prop} {s : Shared}
end
section
variable {X : Cx}
end
end L2
namespace Att
open PySem PySem.W PySem.Calls PyProof.Rows
theorem ints_of_wellAll {P : Params} {h : Heap} : ∀ (ns : List Int) (vs : List Value), WellAll P h vs (ns.map WData.int) → IntsAre vs ns := by
  intro ns
  induction ns with
  | nil =>
    intro vs w
    rw [List.map_nil] at w
    cases w
    exact .nil
  | cons n ns ih =>
    intro vs w
    rw [List.map_cons] at w
    cases w with
    | cons a b =>
      cases a
      exact .cons _ _ (ih _ b)
theorem script_of {l : OpenLaw} {n : Nat} (hn : l.most = some n) {P : Params} {h : Heap} {args : List WData} {vals : List Value}
    (hpre : l.row.toRowW.claim.pre args = true) (hwl : WellAll P h vals args) :
    ∃ a vs ns, vals = [Value.ref a] ∧ args = [WData.list (ns.map WData.int)] ∧ h.get? a = some { cls := .type "list", data := .seq vs.toArray } ∧ IntsAre vs ns ∧ ns.length ≤ n := by
  have hsh : WShape.hasAll [] args [.list .int] = true := (pre_splitW hpre).1
  have hc : l.pre.holds [] { args := args } = true := (pre_splitW hpre).2
  obtain ⟨d, r, rfl, h1, h2⟩ := hasAllW_cons hsh
  obtain rfl := hasAllW_nil h2
  obtain ⟨xs, rfl, h3⟩ := hasW_list h1
  obtain ⟨ns, rfl⟩ := items_int h3
  have hlen : ns.length ≤ n := by
    unfold OpenLaw.pre at hc
    have h4 : (WTm.not (.lt (.lit (.int (n : Int))) (.len (.arg 0)))).holds [] { args := [.list (ns.map .int)] } = true := by
      have h4 := (holds_andW hc).1
      rw [hn] at h4
      exact h4
    have h5 := condW_of h4 (w_not (w_lt w_lit (w_len_list (w_arg rfl))))
    rw [List.length_map] at h5
    refine Nat.le_of_not_lt fun q => ?_
    have q' : (n : Int) < ((ns.length : Nat) : Int) := by omega
    first
      | (rw [decide_eq_true q'] at h5; exact absurd h5 (by decide))
      | (simp at h5; omega)
  cases hwl with
  | cons w1 w2 =>
    cases w2
    cases w1 with
    | list ho hall => exact ⟨_, _, ns, rfl, rfl, ho, ints_of_wellAll ns _ hall, hlen⟩
theorem post_true (l : OpenLaw) (args : List WData) : l.row.toRowW.claim.post args (.bool true) args = true :=
  postW_of (r := l.row.toRowW) (X := (true == true))
    (show WShape.has [] (.bool true) .bool = true by first | rfl | decide | simp [WShape.has, WShape.arms, WShape.armsAll])
    (show (WTm.eq .res (.lit (.bool true))).value [] { args := args, res := some (.bool true), after := args } = some (.bool (true == true)) from w_eq_bool (w_res rfl) w_lit) rfl
theorem attach_call {l : OpenLaw} {n : Nat} {q : Program} {loose : List Str} {XP : (Str → Option Value) → Heap → Prop} {YP : World → Heap → Prop} {d : DefRec}
    (hn : l.most = some n) (hdf : d.params.defaults = [])
    (call : ∀ (w : World) (s₀ s₁ : Shared) (mg mb : Str → Option Value) (fa : Addr) (o : Obj) (pm cd doc : Value) (a : Addr) (vs : List Value) (ns : List Int),
      Ground q loose [] XP w s₀ mg mb s₁.heap → YP w s₁.heap →
      s₁.heap.get? fa = some o → o.data = .func (docDef d.name d.params d.body d.scope pm cd doc) → s₁.heap.CodeRec cd d.name → mg d.name = some (.ref fa) →
      s₁.heap.get? a = some { cls := .type "list", data := .seq vs.toArray } → IntsAre vs ns → ns.length ≤ n → s₁.gens = #[] →
      codeAny (model l.prog w) callerA (.call (.ref fa) ⟨[.ref a], []⟩) (fun r s' => r = .ok (.ret (.bool true)) ∧ OldK s₁.heap s'.heap ∧ s'.os = s₁.os ∧ AllBare s'.gens) s₁) :
    WalkO q loose XP YP l.row.toRowW d [] (fun f vs => PySem.call f vs) := by
  intro w s₀ s₁ mg mb G Y fa o pm cd doc dV kV ho hd hcd hD hmg hg args vals as hpre hlay hrd hwl hlo
  obtain rfl : dV = .none := Dflts.none hD hdf
  obtain rfl : kV = .none := Dflts.noKw hD
  obtain ⟨a, vs, ns, rfl, rfl, hobj, hints, hlen⟩ := script_of hn hpre hwl
  refine enter_call (codeAny_mono (call w s₀ s₁ mg mb fa o pm cd doc a vs ns G Y ho (fd_plain hd) hcd hmg hobj hints hlen hg) fun r s' hq => ?_)
  obtain ⟨rfl, h2, h3, h4⟩ := hq
  exact ⟨.inl ⟨.bool true, .bool true, [], rfl, fun _ => rfl, .bool true, post_true l _, fun _ => ⟨List.Pairwise.nil, fun _ hm => (nomatch hm)⟩⟩, h2, h3, h4⟩
section
variable {prog : Program} {w : World} {A : Around} {E : Value → Shared → Prop} {s : Shared} {K : Frag}
end
end Att
namespace L2
open PySem PySem.Spec PyProof.Rows
theorem vals_ints : ∀ {vs : List Value} {ns : List Int}, IntsAre vs ns → Vals (ns.map V.int) vs
  | _, _, .nil => .nil
  | _, _, .cons n t h => .cons ⟨t, rfl⟩ (vals_ints h)
def Only (H : Hp) : Prop := ∀ b, H b = none ∨ ∃ o xs, H b = some (.frz o (.lst xs))
theorem law_call {P : Program} {w : World} {K : PySem.W.Frag} {mg mb : Str → Option Value} {CX : CXT} {k : Nat} {fa a : Addr} {fd : FuncData} {x : Str} {sp : Sp} {s₁ : Shared} {vs : List Value} {ns : List Int}
    (KX : K.In s₁.heap) (hns : s₁.heap.Ns mainGlobals mg) (hb : s₁.heap.Ns builtinsNs mb) (hbb : ∀ x : Str, x ≠ "__name__" → mb x = bootBuiltins x) (hlim : s₁.heap.NoLimit) (hg : s₁.gens = #[])
    (ha : s₁.heap.get? a = some { cls := .type "list", data := .seq vs.toArray }) (hi : IntsAre vs ns) (hl : ns.length ≤ sizeLine) (hr : Room k callerA)
    (F : ∀ base : Heap, K.In base → base.Ns mainGlobals mg → FnOk P w K mg base CX k fa fd [x] sp) (hbind : ∀ (s : Shared) (u : Value), BindsTo s fd ⟨[u], []⟩ [(x, u)])
    (hsp : ∀ H : Hp, Only H → SqL K H a (ns.map V.int) → sp [.ref a] H (fun v _ => v = .bl true) fun _ _ _ => False)
    (hCX : ∀ H e s', CX [] H s₁ (fun _ _ _ => False) e s' → False) :
    codeAny (model P w) callerA (.call (.ref fa) ⟨[.ref a], []⟩) (fun r s' => r = .ok (.ret (.bool true)) ∧ OldK s₁.heap s'.heap ∧ s'.os = s₁.os ∧ AllBare s'.gens) s₁ := by
  have rv := vals_ints hi
  have lenV := hi.length
  -- from an abstract heap in which nothing but the script may be tracked
  have core : ∀ H : Hp, Only H → SqL K H a (ns.map V.int) → HOk P w H s₁.heap → (∀ b, H b ≠ none → b = a) → (H a ≠ none → K.lookup a = none) →
      codeAny (model P w) callerA (.call (.ref fa) ⟨[.ref a], []⟩) (fun r s' => r = .ok (.ret (.bool true)) ∧ OldK s₁.heap s'.heap ∧ s'.os = s₁.os ∧ AllBare s'.gens) s₁ := by
    intro H hO hS hok hA hK
    have base_of : ∀ {b : Addr} {o : Obj}, s₁.heap.get? b = some o → H b = none → (hidT s₁.heap H).get? b = some o := fun e n => hidT_get e n
    have noA : ∀ {b : Addr} {o : Obj} {es : Array DictEntry} {ep : Nat}, s₁.heap.get? b = some o → o.data = .dict es ep → H b = none := fun {b o es ep} e d => by
      cases q : H b with
      | none => rfl
      | some u =>
        have e' : b = a := hA b (by rw [q]; simp)
        subst e'
        rw [ha] at e; cases e
        have d' : Data.seq vs.toArray _ = Data.dict es ep := d
        cases d'
    have nsK : ∀ {b : Addr} {m : Str → Option Value}, s₁.heap.Ns b m → (hidT s₁.heap H).Ns b m := fun {b m} ⟨o, es, ep, e, d, r⟩ => ⟨o, es, ep, base_of e (noA e d), d, r⟩
    have hKb : K.In (hidT s₁.heap H) := fun b o e => base_of (KX b o e) (by
      cases q : H b with
      | none => rfl
      | some u =>
        have e' : b = a := hA b (by rw [q]; simp)
        subst e'
        rw [hK (by rw [q]; simp)] at e; cases e)
    have hM : Mod K mg (hidT s₁.heap H) := ⟨hKb, nsK hns, ⟨mb, nsK hb, hbb⟩, let ⟨mc, h1, h2⟩ := hlim; ⟨mc, nsK h1, h2⟩⟩
    have e0 : Env0 P w K mg (hidT s₁.heap H) callerA [] s₁ H := ⟨rfl, hM, fun b o e => of_hidT e, Nat.le_of_eq (hidT_size _ _), trivial, fun b hb => absurd (show b ∈ ([] : List Addr) from hb) (by simp), hok, .of_eq hg⟩
    refine codeAny_mono ((F _ hKb (nsK hns)).run callerA [] s₁ H ⟨[.ref a], []⟩ [.ref a] [.ref a] _ _ hr e0 (hbind s₁ (.ref a)) (.cons rfl .nil) (hsp H hO hS)) fun r s' h => ?_
    cases r with
    | error e => exact (hCX H e s' h).elim
    | ok fl =>
      cases fl with
      | next => exact False.elim h
      | brk => exact False.elim h
      | cont => exact False.elim h
      | ret u =>
        obtain ⟨v, H', os, bare, un, hok', r', q⟩ := h
        have q' : v = .bl true := q
        subst q'
        obtain rfl : u = Value.bool true := r'
        refine ⟨rfl, OldK.of_keep fun b o e => ?_, os, bare⟩
        cases q : H b with
        | none => exact un.keep b o e q (by intro z; exact absurd (show b ∈ ([] : List Addr) from z) (by simp)) (by simp)
        | some u =>
          rcases hO b with z | ⟨ob, xs, z⟩
          · rw [q] at z; cases z
          · have z2 := un.frzs b ob _ z
            obtain ⟨e1, _⟩ := hok b _ z
            obtain ⟨e2, _⟩ := hok' b _ z2
            rw [e] at e1; cases e1
            exact e2
  cases hk : K.lookup a with
  | some o =>
    -- the script is one of the module's own objects
    have e := KX a o hk
    rw [ha] at e
    cases e
    refine core (fun _ => none) (fun _ => .inl rfl) (.inr ⟨_, vs.toArray, _, hk, rfl, rfl, rfl, by rw [List.size_toArray, lenV]; exact hl, by simpa using rv⟩) (fun b u z => by have z' : (none : Option HO) = some u := z; cases z') (fun b z => absurd rfl z) fun z => absurd rfl z
  | none =>
    refine core (fun b => if b = a then some (.frz { cls := .type "list", data := .seq vs.toArray } (.lst (ns.map V.int))) else none) (fun b => ?_) (.inl (.inr ⟨{ cls := .type "list", data := .seq vs.toArray }, if_pos rfl⟩)) (fun b u z => ?_) (fun b z => ?_) fun _ => hk
    · by_cases hb : b = a
      · exact .inr ⟨_, _, if_pos hb⟩
      · exact .inl (if_neg hb)
    · by_cases hb : b = a
      · have z' := (if_pos hb).symm.trans z
        cases z'
        subst hb
        exact ⟨ha, by rw [List.length_map]; exact hl, vs, _, rv, ha⟩
      · have z' := (if_neg hb).symm.trans z
        cases z'
    · by_cases hb : b = a
      · exact hb
      · exact absurd (if_neg hb) z
theorem walk_of {l : PySem.W.OpenLaw} {n k : Nat} {q : Program} {loose : List Str} {XP : (Str → Option Value) → Heap → Prop} {YP : World → Heap → Prop} {d : DefRec} {K : Params → PySem.W.Frag} {CX : World → CXT} {sp : World → Sp} {x : Str}
    (hn : l.most = some n) (hn2 : n ≤ sizeLine) (hdf : d.params.defaults = []) (hr : Room k callerA)
    (hY : ∀ (w : World) (h : Heap), YP w h → (K w.params).In h)
    (F : ∀ (w : World) (mg : Str → Option Value) (fa : Addr) (h : Heap), (K w.params).In h → h.Ns mainGlobals mg → mg d.name = some (.ref fa) →
      ∃ fd : FuncData, (∀ (s : Shared) (u : Value), BindsTo s fd ⟨[u], []⟩ [(x, u)]) ∧
        ∀ base : Heap, (K w.params).In base → base.Ns mainGlobals mg → FnOk l.prog w (K w.params) mg base (CX w) k fa fd [x] (sp w))
    (hsp : ∀ (w : World) (H : Hp) (a : Addr) (ns : List Int), ns.length ≤ n → Only H → SqL (K w.params) H a (ns.map V.int) → sp w [.ref a] H (fun v _ => v = .bl true) fun _ _ _ => False)
    (hCX : ∀ (w : World) (H : Hp) (s : Shared) (e : Value) (s' : Shared), CX w [] H s (fun _ _ _ => False) e s' → False) :
    PySem.W.WalkO q loose XP YP l.row.toRowW d [] (fun f vs => PySem.call f vs) := by
  refine Att.attach_call hn hdf fun w s₀ s₁ mg mb fa o pm cd doc a vs ns G Y ho hd hcd hmg hobj hints hlen hg => ?_
  have KX := hY w _ Y
  obtain ⟨fd, hb, hF⟩ := F w mg fa _ KX G.T.g hmg
  exact law_call KX G.T.g G.T.b G.T.builtins G.T.nolimit hg hobj hints (Nat.le_trans hlen hn2) hr hF hb (fun H hO hS => hsp w H a ns hlen hO hS) fun H e s' => hCX w H s₁ e s'
end L2
/- THE LAST THEOREM (shape; LID, My.* are yours):
   My.Adr: a structure of the addresses that your layer names (classes, functions); My.Txt K t: a structure (Prop) of the equations over K;
   My.txt_mk : {K} {implicit addresses ..} (e1 : nsIn K mainGlobals "law" = some (some (.ref f))) (e2 : K.lookup f = some ⟨oc, od, .func (fnOf "law" "law" params body scope dV kV doc pm an cdv ct), sl⟩) (e3 : codeIn K cdv "law" = true) .. : ∃ t, My.Txt K t
(the tactic k_is has no namespace: write k_is) -/
namespace L2
open PySem PySem.Spec PyProof.Rows
def inClass (s : Stmt) (j : Nat) : Stmt := match s with
  | .ClassDef _ _ _ body _ _ _ _ _ _ _ => body.getD j (.Pass ⟨0, 0, 0, 0⟩)
  | _ => .Pass ⟨0, 0, 0, 0⟩
def defArgs (s : Stmt) : Arguments := match s with
  | .FunctionDef _ a _ _ _ _ _ _ _ _ => a
  | _ => { posonlyargs := [], args := [], vararg := none, kwonlyargs := [], kw_defaults := [], kwarg := none, defaults := [] }
def defBody (s : Stmt) : List Stmt := match s with
  | .FunctionDef _ _ b _ _ _ _ _ _ _ => b
  | _ => []
def defScope (s : Stmt) : Scope := match s with
  | .FunctionDef _ _ _ _ _ _ sc _ _ _ => sc
  | _ => { kind := .function, names := [], isGenerator := false, isCoroutine := false }
abbrev CX0 : CXT := fun _ _ _ _ _ _ => False
abbrev E0 : XK := fun _ _ _ => False
theorem pass0 {X : Cx} : Passes CX0 X E0 := fun _ _ _ _ _ _ _ h => h.elim
structure Fun (K : PySem.W.Frag) (x qual : Str) (st : Stmt) (f : Addr) (fd : FuncData) : Prop where
  ex : ∃ (oc : Value) (od : Option Addr) (kV doc pm : Value) (an : Option Addr) (cdv ct : Value) (osl : Array (Option Value)),
    fd = PySem.W.fnOf x qual (defArgs st) (defBody st) (defScope st) .none kV doc pm an cdv ct ∧ K.lookup f = some ⟨oc, od, .func fd, osl⟩ ∧ PySem.W.codeIn K cdv qual = true
  kp : PySem.W.keepIn K (.ref f) = true
section
variable {P : Program} {w : World} {K : PySem.W.Frag} {mg : Str → Option Value} {base : Heap}
theorem Fun.ok {x qual : Str} {st : Stmt} {f : Addr} {fd : FuncData} {N ps : List Str} {k : Nat} {sp : Sp} (F : Fun K x qual st f fd) (S : FnScope N ps (defScope st)) (len : ∀ vs H Q E, sp vs H Q E → vs.length = ps.length)
    (hbody : ∀ (cdv : Value) (A : Around) (outer : List Env) (s : Shared) (H : Hp) (vs : List V) (Q : VK) (E : XK), Room k (A.deeper (envOfC qual (defScope st) s.heap.objs.size f cdv)) → sp vs H Q E →
      ∃ t, PSs (cxOf CX0 P w K mg base N qual (defScope st) f cdv A outer s H E).nox (defBody st) t ∧ t { nx := fun _ H' => Q .non H', rt := Q } (start N vs) H) : FnOk P w K mg base CX0 (k + 1) f fd ps sp := by
  obtain ⟨oc, od, kV, doc, pm, an, cdv, ct, osl, rfl, lk, hcd⟩ := F.ex
  refine fn_of lk hcd S len fun A outer s H vs Q E hr hsp => ?_
  obtain ⟨t, h, q⟩ := hbody cdv A outer s H vs Q E hr hsp
  exact ⟨t, h.nox, q⟩
theorem Fun.binds {x qual : Str} {st : Stmt} {f : Addr} {fd : FuncData} {ps : List Str} (F : Fun K x qual st f fd)
    (h : ∀ (kV doc pm : Value) (an : Option Addr) (cdv ct : Value) (us : List Value), us.length = ps.length → bindArgs (PySem.W.fnOf x qual (defArgs st) (defBody st) (defScope st) .none kV doc pm an cdv ct) ⟨us, []⟩ = pure (ps.zip us)) : Binds K fd ps [] := by
  obtain ⟨oc, od, kV, doc, pm, an, cdv, ct, osl, rfl, lk, hcd⟩ := F.ex
  exact .all (h kV doc pm an cdv ct)
theorem fun_mk {x qual : Str} {st : Stmt} {f : Addr} {oc : Value} {od an : Option Addr} {osl : Array (Option Value)} {kV doc pm cdv ct : Value} (l : K.lookup f = some ⟨oc, od, .func (PySem.W.fnOf x qual (defArgs st) (defBody st) (defScope st) .none kV doc pm an cdv ct), osl⟩)
    (c : PySem.W.codeIn K cdv qual = true) (k : PySem.W.keepIn K (.ref f) = true) : Fun K x qual st f (PySem.W.fnOf x qual (defArgs st) (defBody st) (defScope st) .none kV doc pm an cdv ct) := ⟨⟨oc, od, kV, doc, pm, an, cdv, ct, osl, rfl, l, c⟩, k⟩
end
theorem small1000 {n : Nat} (h : n ≤ 1000) : n < sizeLine := Nat.lt_of_le_of_lt h (by decide)
section
variable {X : Cx}
theorem pv (i : Nat) {x : Str} {pos : Pos} (hN : X.N[i]? = some x := by rfl) (hv : Vis X.env.scope x := by first | exact Or.inl rfl | exact Or.inr (Or.inl rfl) | exact Or.inr (Or.inr rfl)) (hd : (x == ("__debug__" : Str)) = false := by decide)
    (hcd : (x == ("__classdict__" : Str)) = false := by decide) : PE X (.Name x pos) (tVar i) := pe_var hN hv hd hcd
end
theorem ite2 {c A B : Prop} [Decidable c] (h1 : c → A) (h2 : ¬ c → B) : if c then A else B := by
  by_cases h : c
  · rw [if_pos h]
    exact h1 h
  · rw [if_neg h]
    exact h2 h
def Same (H H' : Hp) : Prop := ∀ b o, H b = some o → H' b = some o
theorem Same.refl (H : Hp) : Same H H := fun _ _ h => h
theorem Same.trans {H H1 H2 : Hp} (a : Same H H1) (b : Same H1 H2) : Same H H2 := fun c o h => b c o (a c o h)
inductive D where
  | non | bl (b : Bool) | int (i : Int) | str (x : Str) | tup (ds : List D) | lst (ds : List D) | dct | dic (ks : List Key) (ds : List D) | scr (φ : Addr → Prop) (ns : List Int) | ext (φ : Hp → Addr → Prop)
mutual
def Rep (H : Hp) : D → V → Prop
  | .non, v => v = .non
  | .bl b, v => v = .bl b
  | .int i, v => v = .int i
  | .str x, v => v = .str x
  | .tup ds, v => ∃ a xs, v = .ref a ∧ H a = some (.tup xs) ∧ Reps H ds xs
  | .lst ds, v => ∃ a xs, v = .ref a ∧ H a = some (.lst xs) ∧ Reps H ds xs
  | .dct, v => ∃ a kvs, v = .ref a ∧ H a = some (.dK kvs)
  | .dic ks ds, v => ∃ a xs, v = .ref a ∧ H a = some (.dK (ks.zip xs)) ∧ ks.length = ds.length ∧ Reps H ds xs
  | .scr φ ns, v => ∃ a, v = .ref a ∧ ((∃ o, H a = some (.frz o (.lst (ns.map V.int)))) ∨ φ a)
  | .ext φ, v => ∃ a H0, v = .ref a ∧ Same H0 H ∧ φ H0 a
def Reps (H : Hp) : List D → List V → Prop
  | [], xs => xs = []
  | d :: ds, xs => ∃ v vs, xs = v :: vs ∧ Rep H d v ∧ Reps H ds vs
end
theorem Reps.length {H : Hp} : ∀ {ds : List D} {xs : List V}, Reps H ds xs → xs.length = ds.length
  | [], xs, h => by rw [Reps] at h; subst h; rfl
  | d :: ds, xs, h => by
    rw [Reps] at h
    obtain ⟨v, vs, rfl, _, h2⟩ := h
    have := Reps.length h2
    simp [this]
mutual
theorem Rep.mono {H H' : Hp} (e : Same H H') : ∀ (d : D) (v : V), Rep H d v → Rep H' d v
  | .non, v, h => by rw [Rep] at *; exact h
  | .bl b, v, h => by rw [Rep] at *; exact h
  | .int i, v, h => by rw [Rep] at *; exact h
  | .str x, v, h => by rw [Rep] at *; exact h
  | .tup ds, v, h => by
    rw [Rep] at *
    obtain ⟨a, xs, h1, h2, h3⟩ := h
    exact ⟨a, xs, h1, e _ _ h2, Reps.mono e ds xs h3⟩
  | .lst ds, v, h => by
    rw [Rep] at *
    obtain ⟨a, xs, h1, h2, h3⟩ := h
    exact ⟨a, xs, h1, e _ _ h2, Reps.mono e ds xs h3⟩
  | .dct, v, h => by
    rw [Rep] at *
    obtain ⟨a, kvs, h1, h2⟩ := h
    exact ⟨a, kvs, h1, e _ _ h2⟩
  | .dic ks ds, v, h => by
    rw [Rep] at *
    obtain ⟨a, xs, h1, h2, h3, h4⟩ := h
    exact ⟨a, xs, h1, e _ _ h2, h3, Reps.mono e ds xs h4⟩
  | .scr φ ns, v, h => by
    rw [Rep] at *
    obtain ⟨a, h1, h2⟩ := h
    refine ⟨a, h1, ?_⟩
    rcases h2 with ⟨o, h2⟩ | h2
    · exact .inl ⟨o, e _ _ h2⟩
    · exact .inr h2
  | .ext φ, v, h => by
    rw [Rep] at *
    obtain ⟨a, H0, h1, h2, h3⟩ := h
    exact ⟨a, H0, h1, fun b o q => e _ _ (h2 b o q), h3⟩
theorem Reps.mono {H H' : Hp} (e : Same H H') : ∀ (ds : List D) (xs : List V), Reps H ds xs → Reps H' ds xs
  | [], xs, h => by rw [Reps] at *; exact h
  | d :: ds, xs, h => by
    rw [Reps] at *
    obtain ⟨v, vs, h1, h2, h3⟩ := h
    exact ⟨v, vs, h1, Rep.mono e d v h2, Reps.mono e ds vs h3⟩
end
def D.ty : D → String
  | .non => "NoneType" | .bl _ => "bool" | .int _ => "int" | .str _ => "str" | .tup _ => "tuple" | .lst _ => "list" | .dct => "dict" | .dic _ _ => "dict" | .scr _ _ => "list" | .ext _ => "object"
def D.isS : D → Bool
  | .scr _ _ => true
  | .ext _ => true
  | _ => false
theorem Rep.ty {K : PySem.W.Frag} {H : Hp} {d : D} {v : V} (h : Rep H d v) (hs : d.isS = false) : TyOf K H v (.type d.ty) := by
  cases d with
  | non => rw [Rep] at h; subst h; exact .non
  | bl b => rw [Rep] at h; subst h; exact .bl b
  | int i => rw [Rep] at h; subst h; exact .int i
  | str x => rw [Rep] at h; subst h; exact .str x
  | tup ds => rw [Rep] at h; obtain ⟨a, xs, rfl, h2, _⟩ := h; exact .tup h2
  | lst ds => rw [Rep] at h; obtain ⟨a, xs, rfl, h2, _⟩ := h; exact .lst h2
  | dct => rw [Rep] at h; obtain ⟨a, kvs, rfl, h2⟩ := h; exact .dK h2
  | dic ks ds => rw [Rep] at h; obtain ⟨a, xs, rfl, h2, _⟩ := h; exact .dK h2
  | scr φ ns => cases hs
  | ext φ => cases hs
theorem rep_tup {H : Hp} {a : Addr} {xs : List V} {ds : List D} (h : H a = some (.tup xs)) (r : Reps H ds xs) : Rep H (.tup ds) (.ref a) := by rw [Rep]; exact ⟨a, xs, rfl, h, r⟩
theorem rep_lst {H : Hp} {a : Addr} {xs : List V} {ds : List D} (h : H a = some (.lst xs)) (r : Reps H ds xs) : Rep H (.lst ds) (.ref a) := by rw [Rep]; exact ⟨a, xs, rfl, h, r⟩
theorem reps_nil {H : Hp} : Reps H [] [] := by rw [Reps]
theorem reps_cons {H : Hp} {d : D} {v : V} {ds : List D} {vs : List V} (h : Rep H d v) (r : Reps H ds vs) : Reps H (d :: ds) (v :: vs) := by rw [Reps]; exact ⟨v, vs, rfl, h, r⟩
theorem rep_int {H : Hp} (i : Int) : Rep H (.int i) (.int i) := by rw [Rep]
theorem rep_bl {H : Hp} (i : Bool) : Rep H (.bl i) (.bl i) := by rw [Rep]
theorem rep_str {H : Hp} (i : Str) : Rep H (.str i) (.str i) := by rw [Rep]
theorem rep_non {H : Hp} : Rep H .non .non := by rw [Rep]
theorem same_upd {H : Hp} {p : Addr} (h : H p = none) (o : HO) : Same H (upd H p o) := fun b u q => by rw [upd_ne (ne_of_none q h)]; exact q
section
variable {X : Cx}
def isTy (d : D) (T : String) : Option Bool := if d.isS = true then none else if (Value.type d.ty == Value.type T) = true then some true else if PySem.W.kitMeta T = true then (fastBuiltinMro d.ty).map (·.contains (.type T)) else none
theorem isTy_kit (K : PySem.W.Frag) (d : D) (T : String) (hs : d.isS = false) : PySem.W.kitOne K (.type d.ty) (.type T) = isTy d T := by
  unfold isTy; rw [hs, if_neg (by decide)]; rfl
def rIsI : List V → Hp → VK → Prop := fun xs H Q => ∃ x T d b, xs = [x, .ty T] ∧ Rep H d x ∧ isTy d T = some b ∧ Q (.bl b) H
theorem call_isinst : CallR X (.builtin "isinstance") rIsI := by
  intro pins s σ H xs us Q I r h
  obtain ⟨x, T, d, b, rfl, hd, e, q⟩ := h
  obtain ⟨u, w', rfl, ru, rw'⟩ := vals2 r
  cases (show w' = Value.type T from rw')
  have hs : d.isS = false := by
    cases z : d.isS with
    | false => rfl
    | true => unfold isTy at e; rw [z, if_pos rfl] at e; cases e
  rw [← isTy_kit X.K d T hs] at e
  exact isinst_ok I ru (hd.ty hs) e fun tk => ⟨.bl b, H, I.tok tk, rfl, q⟩
def Sm (i : Int) : Prop := i.natAbs < 2 ^ 8000
theorem Sm.log {i : Int} (h : Sm i) : i.natAbs.log2 < 8000 := by
  by_cases h0 : i.natAbs = 0
  · rw [h0]; decide
  · exact (Nat.log2_lt h0).mpr h
def CDivB (i j : Int) : Prop := 0 < j ∧ Sm j
theorem op_fdivB : OpR X (binaryOp .FloorDiv) (rI CDivB fun i j => .int (i / j)) := opI fun i j _ _ _ _ _ hc q => by
  refine floordiv_int (Int.ne_of_gt hc.1) ?_ (.inl (PyProof.noPylong_of_log2 (Nat.lt_of_lt_of_le hc.2.log (by decide))))
  rw [Int.fdiv_eq_ediv_of_nonneg _ (Int.le_of_lt hc.1)]
  exact q
end
theorem bt_len : bootBuiltins "len" = some (.builtin "len") := by decide +kernel
theorem bt_abs : bootBuiltins "abs" = some (.builtin "abs") := by decide +kernel
theorem bt_max : bootBuiltins "max" = some (.builtin "max") := by decide +kernel
theorem bt_min : bootBuiltins "min" = some (.builtin "min") := by decide +kernel
theorem bt_isinstance : bootBuiltins "isinstance" = some (.builtin "isinstance") := by decide +kernel
theorem bt_int : bootBuiltins "int" = some (.type "int") := by decide +kernel
theorem bt_bool : bootBuiltins "bool" = some (.type "bool") := by decide +kernel
theorem bt_tuple : bootBuiltins "tuple" = some (.type "tuple") := by decide +kernel
theorem bt_list : bootBuiltins "list" = some (.type "list") := by decide +kernel
theorem bt_enumerate : bootBuiltins "enumerate" = some (.type "enumerate") := by decide +kernel
def gcdP (n b : Int) : Int := if b = 0 then n else (Int.gcd n b : Int)
theorem gcdP_step {n b : Int} (h : 0 < b) : gcdP b (n % b) = gcdP n b := by
  unfold gcdP
  have e : Int.gcd n b = Int.gcd b (n % b) := by
    rw [Int.emod_def, Int.gcd_sub_mul_left_right, Int.gcd_comm]
  rw [if_neg (show ¬ b = 0 by omega)]
  split
  · rename_i h0
    rw [e, h0, Int.gcd_zero_right]
    omega
  · rw [e]
theorem gcdP_pos {n b : Int} (h : 0 < b) : 0 < gcdP n b := by
  unfold gcdP
  rw [if_neg (by omega)]
  have : 0 < Int.gcd n b := Int.gcd_pos_of_ne_zero_right _ (by omega)
  omega
theorem gcdP_le {n b : Int} (h : 0 < b) : gcdP n b ≤ b := by
  unfold gcdP
  rw [if_neg (by omega)]
  exact Int.le_of_dvd h (Int.gcd_dvd_right ..)
theorem gcdP_dr {n b : Int} (h : 0 < b) : gcdP n b ∣ b := by
  unfold gcdP
  rw [if_neg (by omega)]
  exact Int.gcd_dvd_right ..
section
variable {X : Cx} {pins : List (Addr × Obj)} {σ : St} {H : Hp} {s : Shared} {pos : Pos}
theorem Inv.big (I : Inv X pins σ H s) : sysModules < s.heap.objs.size := by
  obtain ⟨o, es, ep, e, _⟩ := I.ok.mod.glob
  have h1 := Heap.lt_size (I.bk _ _ e)
  exact Nat.lt_of_le_of_lt (by decide) h1
theorem dk_empty {P : Program} {w : World} {H : Hp} (h : Heap) (hb : sysModules < h.objs.size) : ObjOk P w H (h.push { cls := .type "dict", data := .dict #[] }) h.objs.size (.dK []) :=
  ⟨Nat.zero_le _, beq_eq_false_iff_ne.mpr (Ne.symm (Nat.ne_of_lt hb)), [], .nil, Heap.DictOf.new h⟩
def tDNewK : TE := fun _ H Q => ∀ p, H p = none → Q (.ref p) (upd H p (.dK []))
theorem pe_dnewK : PE X (.Dict [] [] pos) tDNewK := ⟨fun pins s σ H Q I h =>
  wpAny_Dict_empty ⟨.ref s.heap.objs.size, _, I.laid (a := s.heap.objs.size) (o := .dK []) (t' := s.toks) (fun _ _ q => Heap.get?_push_of_some _ q) (Nat.le_refl _) (dk_empty s.heap I.big), rfl, h _ (I.hok.fresh (Nat.le_refl _))⟩⟩
end
end L2
namespace L2
open PySem
theorem sm_of {i : Int} {n : Nat} (h : i.natAbs ≤ n) (hn : n < 2 ^ 8000) : Sm i := Nat.lt_of_le_of_lt h hn
end L2
namespace L2
open PySem PySem.Spec PyProof.Rows
def CL (env : Env) : List (Str × Addr) → Prop
  | [] => True
  | p :: r => env.cells.lookup p.1 = some p.2 ∧ CL env r
theorem CL.get {env : Env} : ∀ {cl : List (Str × Addr)}, CL env cl → ∀ {x : Str} {c : Addr}, cl.lookup x = some c → env.cells.lookup x = some c
  | [], _, x, c, h => by simp at h
  | (y, d) :: r, h, x, c, e => by
    rw [List.lookup_cons] at e
    cases hx : x == y with
    | true =>
      rw [hx] at e
      have e1 : x = y := by simpa using hx
      have e2 : d = c := Option.some.inj e
      subst e1 e2
      exact h.1
    | false =>
      rw [hx] at e
      exact CL.get h.2 e
theorem lookup_relabel {env : Env} : ∀ {names : List (Str × NameKind)} {x : Str} {k : NameKind},
    (names.map fun (n, k) => if (k == NameKind.free && env.scope.kind == .function && env.kindOf n == some .cell) then (n, NameKind.cell) else (n, k)).lookup x = some k →
    ∃ k', names.lookup x = some k' ∧ (k' = k ∨ (k' = .free ∧ k = .cell))
  | [], x, k, h => by simp at h
  | (n, kn) :: r, x, k, h => by
    have ih := @lookup_relabel env r x k
    by_cases hc : (kn == NameKind.free && env.scope.kind == .function && env.kindOf n == some .cell) = true
    · have h' : List.lookup x ((n, NameKind.cell) :: (r.map fun (n, k) => if (k == NameKind.free && env.scope.kind == .function && env.kindOf n == some .cell) then (n, NameKind.cell) else (n, k))) = some k := by
        rw [List.map_cons] at h
        simp only [hc, if_true] at h
        exact h
      rw [List.lookup_cons] at h' ⊢
      cases hx : x == n with
      | true =>
        rw [hx] at h'
        have : kn = .free := by
          simp only [Bool.and_eq_true, beq_iff_eq] at hc
          exact hc.1.1
        exact ⟨kn, rfl, .inr ⟨this, (Option.some.inj h').symm⟩⟩
      | false => rw [hx] at h'; exact ih h'
    · have h' : List.lookup x ((n, kn) :: (r.map fun (n, k) => if (k == NameKind.free && env.scope.kind == .function && env.kindOf n == some .cell) then (n, NameKind.cell) else (n, k))) = some k := by
        rw [List.map_cons] at h
        simp only [hc] at h
        exact h
      rw [List.lookup_cons] at h' ⊢
      cases hx : x == n with
      | true => rw [hx] at h'; exact ⟨kn, rfl, .inl (Option.some.inj h')⟩
      | false => rw [hx] at h'; exact ih h'
def compCx (X : Cx) (scope : Scope) (cl : List (Str × Addr)) (N : List Str) (C : Addr) (s₀ : Shared) (H₀ : Hp) (ex : List Addr) : Cx where
  prog := X.prog
  w := X.w
  K := X.K
  mg := X.mg
  base := X.base
  A := X.A
  N := N
  s₀ := s₀
  H₀ := H₀
  env := compEnvC scope cl C X.env
  outer := X.stack
  stack := X.stack
  ex := ex
  fn := fun _ => false
  calm := X.calm
  pn := []
  xe := fun _ _ => False
def okJ (X : Cx) (scope : Scope) (j : Nat) : Bool := match X.N[j]? with
  | some x => (match X.env.scope.names.lookup x with | some .cell => true | _ => false) && (match scope.names.lookup x with | some .free => true | _ => false)
  | none => false
def sig0 (own : List Str) (js : List Nat) (σ : St) : St := own.map (fun _ => none) ++ js.map fun j => (σ[j]?).getD none
def nam0 (X : Cx) (own : List Str) (js : List Nat) : List Str := own ++ js.map fun j => (X.N[j]?).getD (Str.ofString "")
structure CompOk (X : Cx) (scope : Scope) (cl : List (Str × Addr)) (own : List Str) (js : List Nat) : Prop where
  clos : closureFor scope X.env = pure cl
  kind : scope.kind = .function
  names : ∀ x ∈ scope.names, x.2 = .local → scope.names.lookup x.1 = some .local
  ncell : (scope.names.all fun y => match y.2 with | .cell => false | _ => true) = true
  has : (scope.names.all fun y => match y.2 with | .free => (cl.lookup y.1).isSome | _ => true) = true
  cells : CL X.env cl
  js : js.all (okJ X scope) = true
theorem CompOk.nc {X : Cx} {scope : Scope} {cl : List (Str × Addr)} {own : List Str} {js : List Nat} (c : CompOk X scope cl own js) : ∀ y ∈ scope.names, y.2 ≠ .cell := fun y hy e => by
  have := List.all_eq_true.mp c.ncell y hy
  rw [e] at this
  cases this
theorem CompOk.fr {X : Cx} {scope : Scope} {cl : List (Str × Addr)} {own : List Str} {js : List Nat} (c : CompOk X scope cl own js) {x : Str} (h : scope.names.lookup x = some .free) : ∃ d, cl.lookup x = some d := by
  have := List.all_eq_true.mp c.has (x, .free) (PySem.mem_of_lookup h)
  exact Option.isSome_iff_exists.mp this
section
variable {X : Cx} {pins : List (Addr × Obj)} {σ : St} {H : Hp} {s : Shared} {scope : Scope} {cl : List (Str × Addr)} {own : List Str} {js : List Nat}
theorem comp_start {h1 : Heap} {C : Addr} {fp : List Addr} {t' : Nat} (c : CompOk X scope cl own js) (I : Inv X pins σ H s) (hf : ∀ b ∈ fp, FpOk X pins H b) (hlt : ∀ b ∈ fp, b < s.heap.objs.size)
    (hC : s.heap.objs.size ≤ C) (hk : ∀ b o, s.heap.get? b = some o → h1.get? b = some o) (hn : h1.Ns C fun _ => none) :
    Inv (compCx X scope cl (nam0 X own js) C s H fp) [] (sig0 own js σ) H { s with heap := h1, toks := t' } := by
  have kindOfY : ∀ x k, (compCx X scope cl (nam0 X own js) C s H fp).env.kindOf x = some k → ∃ k', scope.names.lookup x = some k' ∧ (k' = k ∨ (k' = .free ∧ k = .cell)) := fun x k e => lookup_relabel (env := X.env) (names := scope.names) e
  refine ⟨⟨I.ok.mod, c.kind, I.ok.glob, I.ok.blt, hC, fun x y d h1 h2 => I.ok.inj x y d (c.cells.get h1) (c.cells.get h2), fun x hx => ?_, fun x d h => (by cases h), I.ok.hd, I.ok.frames, .inl rfl, fun b hb => ⟨?_, fun x d e => (hf b hb).2.2.2.2.1 x d (c.cells.get e)⟩,
    fun b o e => I.bs b o e, Nat.le_trans I.ok.bsz I.sz, fun b o e hb => ?_, fun b hb z => ?_, I.stack, I.stkFree⟩, rfl, I.bare, Un.kept hk, ⟨_, hn, fun i x v e1 e2 e3 => ?_⟩, fun x d e => ?_, I.hok.fresh hC, fun x d e => I.freeC x d (c.cells.get e), fun p hp => (by cases hp), I.hok.kept hk, ?_⟩
  · rcases hx with hx | hx
    · obtain ⟨k', e1, e2⟩ := kindOfY x _ hx
      rcases e2 with e2 | ⟨e2, _⟩
      · exact absurd e2 (c.nc _ (PySem.mem_of_lookup e1))
      · subst e2; exact c.fr e1
    · obtain ⟨k', e1, e2⟩ := kindOfY x _ hx
      rcases e2 with e2 | ⟨_, e2⟩
      · subst e2; exact c.fr e1
      · cases e2
  · exact Nat.ne_of_lt (Nat.lt_of_lt_of_le (hlt b hb) hC)
  · rcases (hf b hb).2.2.2.1 with z | z
    · exact I.ok.noex b o e z
    · exact absurd (Nat.lt_of_lt_of_le (Heap.lt_size e) (Nat.le_trans I.ok.bsz z)) (Nat.lt_irrefl _)
  · rcases List.mem_cons.mp (I.stkSub b z) with q | q
    · exact (hf b hb).2.1 q
    · exact (hf b hb).2.2.1 q
  · -- a name taken from the frame
    have e1 : (nam0 X own js)[i]? = some x := e1
    unfold nam0 at e1
    unfold sig0 at e2
    by_cases hi : i < own.length
    · rw [List.getElem?_append_left (by simpa using hi), List.getElem?_map, List.getElem?_eq_getElem hi] at e2
      cases e2
    · rw [List.getElem?_append_right (by simpa using Nat.not_lt.mp hi), List.getElem?_map, List.length_map] at e2
      rw [List.getElem?_append_right (Nat.not_lt.mp hi), List.getElem?_map] at e1
      cases ej : js[i - own.length]? with
      | none => rw [ej] at e2; cases e2
      | some j =>
        rw [ej] at e1 e2
        have hj := List.all_eq_true.mp c.js j (List.mem_of_getElem? ej)
        unfold okJ at hj
        have e1' : (X.N[j]?).getD (Str.ofString "") = x := Option.some.inj e1
        have e2' : (σ[j]?).getD none = some v := Option.some.inj e2
        cases en : X.N[j]? with
        | none => rw [en] at hj; cases hj
        | some y =>
          rw [en] at hj e1'
          have e1'' : y = x := e1'
          subst e1''
          have hv : σ[j]? = some (some v) := by
            cases es : σ[j]? with
            | none => rw [es] at e2'; cases e2'
            | some ov => rw [es] at e2'; rw [show ov = some v from e2']
          dsimp only at hj
          rw [Bool.and_eq_true] at hj
          have k1 : X.env.scope.names.lookup y = some .cell := by
            have := hj.1
            split at this
            · assumption
            · cases this
          have k2 : scope.names.lookup y = some .free := by
            have := hj.2
            split at this
            · assumption
            · cases this
          obtain ⟨m, _, hl⟩ := I.loc
          obtain ⟨u, ru, l⟩ := hl j y v en hv (.inr (.inl k1))
          refine ⟨u, ru, ?_⟩
          rcases l with ⟨l, _⟩ | ⟨_, d, ed, z⟩
          · rw [show X.env.kindOf y = some .cell from k1] at l; cases l
          · obtain ⟨d', ed'⟩ := c.fr k2
            have := c.cells.get ed'
            rw [ed] at this
            cases this
            obtain ⟨o, ho, hd⟩ := z
            refine .inr ⟨?_, d, ed', ⟨o, hk _ _ ho, hd⟩⟩
            have e3 : (compCx X scope cl (nam0 X own js) C s H fp).env.scope.names.lookup y = some .local ∨ (compCx X scope cl (nam0 X own js) C s H fp).env.scope.names.lookup y = some .cell ∨ (compCx X scope cl (nam0 X own js) C s H fp).env.scope.names.lookup y = some .free := e3
            rcases e3 with e3 | e3 | e3
            · obtain ⟨k', q1, q2⟩ := kindOfY y _ e3
              rw [k2] at q1
              cases q1
              rcases q2 with q2 | ⟨_, q2⟩ <;> cases q2
            · exact .inl e3
            · exact .inr e3
  · obtain ⟨v, o, ho, hd⟩ := I.cell x d (c.cells.get e)
    exact ⟨v, o, hk _ _ ho, hd⟩
  · show (sig0 own js σ).length = (nam0 X own js).length
    unfold sig0 nam0
    simp
structure PIf (X : Cx) (ifs : List Expr) (t : TT) : Prop where
  go : ∀ (pins : List (Addr × Obj)) (s : Shared) (σ : St) (H : Hp) (Q : Bool → Hp → Prop), Inv X pins σ H s → t σ H Q →
    wpAny (model X.prog X.w) X.A (forIn ifs true fun c r => if r = true then do let ok ← isTrue c X.env (eval c X.env); pure (ForInStep.yield ok) else pure (ForInStep.yield r)) (TP X pins σ Q) X.xe s
def tYes : TT := fun _ H Q => Q true H
theorem pif_nil : PIf X [] tYes := ⟨fun pins s σ H Q I h => wpAny_tests_nil ⟨H, I, h⟩⟩
theorem codeAny_compLoop_go {prog : Program} {w : World} {A : Around} {R : Result → Shared → Prop} {s : Shared} {elt target iter : Expr} {ifs : List Expr} {scope : Scope} {pos : Pos} {it acc : Value} {env : Env} (I : Nat → Shared → Prop)
    (turn : ∀ n s, I n s → wpAny (model prog w) A (pyNext it) (fun r s₁ => match r with
      | none => R (.ok .next) s₁
      | some v => wpAny (model prog w) A (letOwnedTupleGo target it v) (fun _ s₁ => wpAny (model prog w) A (assign target env v) (fun _ s₂ =>
          wpAny (model prog w) A (forIn ifs true fun c r => if r = true then do let ok ← isTrue c env (eval c env); pure (ForInStep.yield ok) else pure (ForInStep.yield r)) (fun ok s₃ =>
            if ok = true then wpAny (model prog w) A (eval elt env) (fun x s₄ =>
              wpAny (model prog w) A (call (.builtin "list.append") [acc, x]) (fun _ s₅ => ∃ m, m < n ∧ I m s₅) (fun _ _ => False) s₄) (fun _ _ => False) s₃
            else ∃ m, m < n ∧ I m s₃) (fun _ _ => False) s₂) (fun _ _ => False) s₁) (fun _ _ => False) s₁) (fun _ _ => False) s)
    (n : Nat) (h : I n s) :
    codeAny (model prog w) A (.compLoop (.ListComp elt [⟨target, iter, ifs, 0⟩] scope pos) 0 it acc env) R s := by
  refine codeAny_loop rfl I (fun n s hI => ?_) n h
  show wpAny _ A ((compTurn (.ListComp elt [⟨target, iter, ifs, 0⟩] scope pos) 0 it acc env).onRaise (fun x => do noteFrame x env; theTreesLotGoes x)) _ _ s
  refine wpAny_noted ?_
  rw [compTurn_list]
  refine wpAny_bind (wpAny_standAt (wpAny_bind (wpAny_mono (turn n s hI) (fun r s₁ h₁ => ?_) fun _ _ h' => h'.elim)))
  cases r with
  | none => exact wpAny_pure h₁
  | some v =>
    refine wpAny_bind (wpAny_mono h₁ (fun _ s₁ h₁ => ?_) fun _ _ h' => h'.elim)
    refine wpAny_bind (wpAny_mono h₁ (fun _ s₂ h₂ => wpAny_bind (wpAny_mono h₂ (fun ok s₃ h₃ => ?_) fun _ _ h' => h'.elim)) fun _ _ h' => h'.elim)
    cases ok with
    | false => exact wpAny_pure ⟨rfl, h₃⟩
    | true =>
      exact wpAny_bind (wpAny_bind (wpAny_mono h₃ (fun x s₄ h₄ => wpAny_bind (wpAny_mono h₄ (fun _ s₅ h₅ => wpAny_pure (wpAny_pure ⟨rfl, h₅⟩)) fun _ _ h' => h'.elim)) fun _ _ h' => h'.elim))
def kept : St → St → Prop
  | [], [] => True
  | none :: r, _ :: r' => kept r r'
  | some v :: r, y :: r' => y = some v ∧ kept r r'
  | [], _ :: _ => False
  | _ :: _, [] => False
theorem kept_len : ∀ {a b : St}, kept a b → a.length = b.length
  | [], [], _ => rfl
  | none :: r, _ :: r', h => congrArg (· + 1) (kept_len (a := r) (b := r') h)
  | some v :: r, y :: r', h => congrArg (· + 1) (kept_len (a := r) (b := r') h.2)
  | [], _ :: _, h => False.elim h
  | none :: _, [], h => False.elim h
  | some _ :: _, [], h => False.elim h
theorem kept_get : ∀ {a b : St}, kept a b → ∀ (i : Nat) (v : V), a[i]? = some (some v) → b[i]? = some (some v)
  | [], [], _, i, v, e => by simp at e
  | none :: r, _ :: r', h, 0, v, e => by simp at e
  | none :: r, _ :: r', h, i + 1, v, e => by simpa using kept_get (a := r) (b := r') h i v (by simpa using e)
  | some w :: r, y :: r', h, 0, v, e => by simp at e; subst e; simp [h.1]
  | some w :: r, y :: r', h, i + 1, v, e => by simpa using kept_get (a := r) (b := r') h.2 i v (by simpa using e)
  | [], _ :: _, h, _, _, _ => False.elim h
  | none :: _, [], h, _, _, _ => False.elim h
  | some _ :: _, [], h, _, _, _ => False.elim h
def CompW (J : It) (g : TG) (tt : TT) (te : TE) (σ0 : St) (H : Hp) (Z : List V → Hp → Prop) : Prop :=
  ∃ W : Nat → Nat → List V → Hp → Prop, (∃ m, W 0 m [] H) ∧ ∀ i m acc H, W i m acc H →
    (J.stop i H ∧ acc.length ≤ sizeLine ∧ Z acc H) ∨ (J.go i H ∧ acc.length < sizeLine ∧ ∃ N : List V → Hp → Prop, (∀ acc' H', N acc' H' → ∃ m', m' < m ∧ W (i + 1) m' acc' H') ∧
      ∀ x H', J.yld i H x H' → g x σ0 H' fun σ2 H2 => kept σ0 σ2 ∧ tt σ2 H2 fun b H3 => if b = true then te σ2 H3 fun v H4 => N (acc ++ [v]) H4 else N acc H3)
theorem HOk.adopt {P : Program} {w : World} {H : Hp} {h : Heap} {a : Addr} {o : HO} (x : HOk P w H h) (hn : H a = none) (new : ObjOk P w (upd H a o) h a o) : HOk P w (upd H a o) h := fun b u e => by
  by_cases hb : b = a
  · subst hb; rw [upd_same] at e; cases e; exact new
  · rw [upd_ne hb] at e
    exact (x b u e).stay (fun c v _ q => q) (fun c q => by rw [upd_ne (ne_of_none q hn)]; exact q) fun c xs q => by rw [upd_ne (ne_of_none q hn)]; exact q
theorem comp_core {elt tg iter : Expr} {ifs : List Expr} {pos : Pos} {J : It} {fp : List Addr} {it : Addr} {tn : Nat → Heap → Prop} {g : TG} {tt : TT} {te : TE} {Z : List V → Hp → Prop} {E : Value → Shared → Prop}
    {RR : Value → Addr → Result → Shared → Prop} (c : CompOk X scope cl own js) (hc : X.calm = true) (I : Inv X pins σ H s) (T : Turn X.prog X.w X.K tg J fp it tn) (t0 : tn 0 s.heap) (hf : ∀ b ∈ fp, FpOk X pins H b)
    (inner : ∀ (C : Addr) (s₀ : Shared) (H₀ : Hp) (ex : List Addr), PG (compCx X scope cl (nam0 X own js) C s₀ H₀ ex) tg g ∧ PIf (compCx X scope cl (nam0 X own js) C s₀ H₀ ex) ifs tt ∧ PE (compCx X scope cl (nam0 X own js) C s₀ H₀ ex) elt te)
    (hW : CompW J g tt te (sig0 own js σ) H Z)
    (hRR : ∀ (D C : Addr) (s' : Shared) (acc : List V) (H' : Hp), (∃ m, s'.heap.Ns C m) → H' D = none → Z acc H' → s.heap.objs.size ≤ C → C ≠ X.env.locals → (upd H' D (.lst acc)) C = none → (∀ h', Heap.SameBut C s'.heap h' → Inv X pins σ (upd H' D (.lst acc)) { s' with heap := h' }) → RR (.ref D) C (.ok .next) s') :
    wpAny (model X.prog X.w) X.A (newList []) (fun acc s₃ => wpAny (model X.prog X.w) X.A (newFunctionEnv scope X.env.globals cl [] X.env.qual none .none (some X.env)) (fun cenv s₄ =>
      codeAny (model X.prog X.w) X.A (.compStart (.ListComp elt [⟨tg, iter, ifs, 0⟩] scope pos) 0 (.ref it) acc { cenv with scope := relabel scope X.env }) (RR acc cenv.locals) s₄) E s₃) E s := by
  refine wpAny_newObj_type (wpAny_newFunctionEnv c.nc (by intro y hy; simp at hy) (fun h₁ hns₁ hsb₁ => ?_) c.kind)
  dsimp only at hns₁ hsb₁ ⊢
  generalize hH2 : s.heap.push { cls := .type "list", dict := none, data := .seq ([] : List Value).toArray } = H2 at hns₁ hsb₁ ⊢
  have hCs : H2.objs.size = s.heap.objs.size + 1 := by rw [← hH2, Heap.size_push]
  have hns₁ : h₁.Ns H2.objs.size (fun _ => none) := hns₁
  have hCle : s.heap.objs.size ≤ H2.objs.size := by rw [hCs]; exact Nat.le_succ _
  have hDC : s.heap.objs.size ≠ H2.objs.size := by rw [hCs]; exact Nat.ne_of_lt (Nat.lt_succ_self _)
  have below : ∀ b, b < s.heap.objs.size → b ≠ H2.objs.size ∧ b ≠ s.heap.objs.size := fun b hb => ⟨by rw [hCs]; exact Nat.ne_of_lt (Nat.lt_succ_of_lt hb), Nat.ne_of_lt hb⟩
  have old : ∀ b o, s.heap.get? b = some o → h₁.get? b = some o := fun b o e => hsb₁.extBut b o (below b (Heap.lt_size e)).1 (Heap.get?_push_of_some _ (hH2 ▸ Heap.get?_push_of_some _ e))
  have hD1 : h₁.get? s.heap.objs.size = some { cls := .type "list", data := .seq ([] : List Value).toArray } := hsb₁.extBut _ _ hDC (Heap.get?_push_of_some _ (hH2 ▸ Heap.get?_push_size _ rfl))
  have hlt : ∀ b ∈ fp, b < s.heap.objs.size := fun b hb => by
    obtain ⟨o, e, _⟩ := T.obj 0 _ t0 b hb
    exact Heap.lt_size e
  have hCL : H2.objs.size ≠ X.env.locals := fun z => absurd (Nat.lt_of_lt_of_le I.lt (by rw [← z]; exact hCle)) (Nat.lt_irrefl _)
  have hDfs : s.heap.objs.size ∉ frs X.stack := fun z => by
    rcases List.mem_cons.mp (I.stkSub _ z) with q | q
    · exact absurd I.lt (by rw [← q]; exact Nat.lt_irrefl _)
    · exact I.nofs (Nat.le_refl _) q
  have hfs : ∀ b ∈ fp, b ∉ frs X.stack := fun b hb z => by
    rcases List.mem_cons.mp (I.stkSub b z) with q | q
    · exact (hf b hb).2.1 q
    · exact (hf b hb).2.2.1 q
  have hDcell : ∀ x d, cl.lookup x = some d → d ≠ s.heap.objs.size := fun x d e => by
    obtain ⟨v, q⟩ := I.cell x d (c.cells.get e)
    exact Nat.ne_of_lt q.lt
  have fresh : H s.heap.objs.size = none := I.hok.fresh (Nat.le_refl _)
  obtain ⟨W, ⟨m0, w0⟩, turn⟩ := hW
  have loop : ∀ s₃ : Shared, s₃ = { s with heap := h₁, toks := s.toks + ([] : List (Str × Value)).length } →
      codeAny (model X.prog X.w) X.A (.compLoop (.ListComp elt [⟨tg, iter, ifs, 0⟩] scope pos) 0 (.ref it) (.ref s.heap.objs.size) (compEnvC scope cl H2.objs.size X.env)) (RR (.ref s.heap.objs.size) H2.objs.size) s₃ := by
    rintro s₃ rfl
    have I0 := comp_start (t' := s.toks + ([] : List (Str × Value)).length) c I hf hlt hCle old hns₁
    obtain ⟨hg, hi, he⟩ := inner H2.objs.size s H fp
    generalize hY : compCx X scope cl (nam0 X own js) H2.objs.size s H fp = Y at I0 hg hi he
    have Yp : Y.prog = X.prog := by rw [← hY]; rfl
    have Yw : Y.w = X.w := by rw [← hY]; rfl
    have YK : Y.K = X.K := by rw [← hY]; rfl
    have YA : Y.A = X.A := by rw [← hY]; rfl
    have Ye : Y.env = compEnvC scope cl H2.objs.size X.env := by rw [← hY]; rfl
    have Yl : Y.env.locals = H2.objs.size := by rw [← hY]; rfl
    have Yc : Y.env.cells = cl := by rw [← hY]; rfl
    have Yf : Y.fs = frs X.stack := by rw [← hY]; rfl
    have Yx : Y.ex = fp := by rw [← hY]; rfl
    have Ys : Y.s₀ = s := by rw [← hY]; rfl
    have YH : Y.H₀ = H := by rw [← hY]; rfl
    have Yn : Y.pn = [] := by rw [← hY]; rfl
    have Yo : Y.calm = true := by rw [← hY]; exact hc
    have YE : Y.xe = fun _ _ => False := by rw [← hY]; rfl
    have fpY : ∀ {H' : Hp} (pn : List (Addr × Obj)), (∀ b ∈ fp, H' b = none) → (∀ b ∈ fp, ∀ p ∈ pn, p.1 ≠ b) → ∀ b ∈ fp, FpOk Y pn H' b := fun pn hn hp b hb =>
      ⟨hn b hb, by rw [Yl]; exact (below b (hlt b hb)).1, by rw [Yf]; exact hfs b hb, .inl (by rw [Yx]; exact hb), fun x d e => (hf b hb).2.2.2.2.1 x d (c.cells.get (by rw [← Yc]; exact e)), fun p hp' => hp b hb p (by rw [Yn] at hp'; exact hp')⟩
    refine codeAny_compLoop_go (fun n s' => ∃ i acc its k H', Inv Y [] (sig0 own js σ) H' s' ∧ tn i s'.heap ∧ (∀ b ∈ fp, H' b = none) ∧ W i n acc H' ∧ H' s.heap.objs.size = none ∧ s'.heap.get? s.heap.objs.size = some { cls := .type "list", data := .seq (its : List Value).toArray k } ∧ Vals acc its) ?_ m0
      ⟨0, [], [], 0, H, I0, T.keep 0 _ _ t0 (fun b hb o e => old b o e), fun b hb => (hf b hb).1, w0, fresh, hD1, .nil⟩
    rintro n s' ⟨i, acc, its, k, H', I', tn', fr', w', hD', oD', hv'⟩
    have hpinD : ∀ b ∈ fp, ∀ p ∈ [(s.heap.objs.size, ({ cls := .type "list", data := .seq its.toArray k } : Obj))], p.1 ≠ b := fun b hb p hp => by
      rw [List.mem_singleton] at hp
      subst hp
      exact fun z => (below b (hlt b hb)).2 z.symm
    have ID : Inv Y [(s.heap.objs.size, ({ cls := .type "list", data := .seq its.toArray k } : Obj))] (sig0 own js σ) H' s' := I'.pins_of fun p hp => by
      rw [List.mem_singleton] at hp
      subst hp
      exact ⟨oD', hD', by rw [Yl]; exact hDC, by rw [Yf]; exact hDfs, fun v z => by cases z⟩
    rcases turn i n acc H' w' with ⟨stop, hlen, hz⟩ | ⟨go, hlen, N, hN, step⟩
    · have hd := T.done Y Yp Yw YK Yo i _ s' (sig0 own js σ) H' (fun _ _ => False) ID (fpY _ fr' hpinD) tn' stop
      rw [YA] at hd
      refine thn hd fun r s1 ⟨hr, I1⟩ => ?_
      subst hr
      obtain ⟨oD1, _⟩ := I1.pin _ (List.mem_append_right _ (List.mem_singleton.mpr rfl))
      have hC0 : H' H2.objs.size = none := by have := I1.free; rw [Yl] at this; exact this
      have B1 : Un (frs X.stack) fp H H' s.heap s1.heap := by have := I1.base; rw [Yf, Yx, YH, Ys] at this; exact this
      refine hRR s.heap.objs.size H2.objs.size s1 acc H' (by obtain ⟨m, hn, _⟩ := I1.loc; rw [Yl] at hn; exact ⟨m, hn⟩) hD' hz hCle hCL (by rw [upd_ne (Ne.symm hDC)]; exact hC0) fun h' hsb => ?_
      have at' : ∀ b o, b ≠ H2.objs.size → s1.heap.get? b = some o → h'.get? b = some o := fun b o hb e => by rw [hsb.2 b hb]; exact e
      refine I.call' (s' := { s1 with heap := h' }) (ch := fp) (by have := I1.os; rw [Ys] at this; exact this) ⟨fun b o q nn hb hx => ?_, fun b o q nn hb hx => ?_, fun b o q nn hx => ?_, fun b o q hx => ?_, fun b xs q => ?_, fun b o u q => ?_, fun b ps q => ?_⟩ ?_ I1.bare fun b hb => ⟨(hf b hb).2.2.2.1, (hf b hb).2.1, (hf b hb).2.2.2.2.1, (hf b hb).2.2.2.2.2⟩
      · exact at' b o (below b (Heap.lt_size q)).1 (B1.keep b o q nn hb hx)
      · obtain ⟨sl, e⟩ := B1.slot b o q nn hb hx
        exact ⟨sl, at' b _ (below b (Heap.lt_size q)).1 e⟩
      · rw [upd_ne (below b (Heap.lt_size q)).2]; exact B1.free b o q nn hx
      · obtain ⟨o', e⟩ := B1.there b o q hx
        exact ⟨o', at' b _ (below b (Heap.lt_size q)).1 e⟩
      · have q' := B1.tups b xs q
        rw [upd_ne (ne_of_none q' hD')]; exact q'
      · have q' := B1.frzs b o u q
        rw [upd_ne (ne_of_none q' hD')]; exact q'
      · obtain ⟨more, q'⟩ := B1.tbls b ps q
        exact ⟨more, by rw [upd_ne (ne_of_none q' hD')]; exact q'⟩
      · have hok1 : HOk X.prog X.w H' h' := fun a o e => by
          have hok := I1.hok
          rw [Yp, Yw] at hok
          refine (hok a o e).stay (fun b u hb q => at' b u ?_ q) (fun _ q => q) fun _ _ q => q
          rcases hb with rfl | hb
          · exact ne_of_none e hC0
          · exact ne_of_none hb hC0
        exact hok1.adopt hD' ⟨hlen, its, k, hv', at' _ _ hDC oD1⟩
    · have hd := T.item Y Yp Yw YK Yo i _ s' (sig0 own js σ) H' (fun _ _ => False) ID (fpY _ fr' hpinD) tn' go
      rw [YA] at hd
      refine thn hd fun r s1 ⟨u, hr, h4⟩ => ?_
      subst hr
      have h4 := h4
      refine thn h4 fun _ s2 ⟨x, H5, I5, r5, y5, tn5, fr5⟩ => ?_
      have I5' := I5.pinned (fpY _ fr5 hpinD) (T.obj _ _ tn5)
      have hg' := hg.go _ s2 _ H5 x u _ I5' r5 (step x H5 y5)
      rw [Yp, Yw, YA, Ye, YE] at hg'
      refine thn hg' fun _ s3 ⟨σ6, H6, I6, kp6, q6⟩ => ?_
      have hi' := hi.go _ s3 σ6 H6 _ I6 q6
      rw [Yp, Yw, YA, Ye, YE] at hi'
      refine thn hi' fun ok s4 ⟨H7, I7, q7⟩ => ?_
      cases ok with
      | false =>
        rw [if_neg Bool.false_ne_true] at q7 ⊢
        obtain ⟨m', hm, w7⟩ := hN _ _ q7
        obtain ⟨oD7, hD7, _⟩ := I7.pin _ (List.mem_append_right _ (List.mem_append_left _ (List.mem_singleton.mpr rfl)))
        refine ⟨m', hm, i + 1, acc, its, k, H7, (I7.pins_of (pins' := []) fun p hp => (by cases hp)).weak (kept_len kp6) (kept_get kp6), T.keep _ _ _ tn5 fun b hb o e => (I7.pin (b, o) (List.mem_append_right _ (List.mem_append_right _ (mem_pinsAt hb e)))).1, fun b hb => ?_, w7, hD7, oD7, hv'⟩
        obtain ⟨o, e, _⟩ := T.obj _ _ tn5 b hb
        exact (I7.pin (b, o) (List.mem_append_right _ (List.mem_append_right _ (mem_pinsAt hb e)))).2.1
      | true =>
        rw [if_pos rfl] at q7 ⊢
        have he' := he.go _ s4 σ6 H7 _ I7 q7
        rw [Yp, Yw, YA, Ye, YE] at he'
        refine thn he' fun v s5 ⟨xv, H8, I8, r8, n8⟩ => ?_
        obtain ⟨m', hm, w8⟩ := hN _ _ n8
        obtain ⟨oD8, hD8, _⟩ := I8.pin _ (List.mem_append_right _ (List.mem_append_left _ (List.mem_singleton.mpr rfl)))
        have hsz : its.toArray.size < sizeLine := by rw [List.size_toArray, ← hv'.length]; exact hlen
        refine call_meets F.slot_list_append ⟨_, oD8, rfl⟩ F.entry_list_append (F.args_list_append_2 _ _) (PySem.list_append s.heap.objs.size its.toArray k v (Nat.le_of_lt hsz)) ⟨oD8, ?_⟩
        have q := PySem.IsL.update oD8 (fun a => a.push v)
        have J8 : Inv Y (pinsAt fp s2.heap) σ6 H8 s5 := I8.pins_of fun p hp => I8.pin p (List.mem_append_right _ (List.mem_append_right _ hp))
        have ne8 : ∀ b, b ∈ fp → b ≠ s.heap.objs.size := fun b hb => (below b (hlt b hb)).2
        have J9 := J8.turned (t' := s5.toks) (h' := s5.heap.update s.heap.objs.size (Obj.mapSeq fun a => a.push v)) (it := s.heap.objs.size) (fun b o hb e => (Heap.get?_update_other s5.heap _ (Ne.symm hb)).trans e) hD8 (by rw [Yl]; exact hDC) (.inr (by rw [Ys]; exact Nat.le_refl _)) (fun x d e => hDcell x d (by rw [← Yc]; exact e))
          (fun p hp => by
            rw [Yn, List.nil_append] at hp
            obtain ⟨hb, _⟩ := of_pinsAt hp
            exact ne8 _ hb)
        have keep9 : ∀ b o, b ∈ fp → s2.heap.get? b = some o → (s5.heap.update s.heap.objs.size (Obj.mapSeq fun a => a.push v)).get? b = some o := fun b o hb e => (J9.pin (b, o) (List.mem_append_right _ (mem_pinsAt hb e))).1
        refine ⟨m', hm, i + 1, acc ++ [xv], its ++ [v], (if ((its ++ [v]).toArray.size == its.toArray.size) = true then k else k + 1), H8, (J9.pins_of (pins' := []) fun p hp => (by cases hp)).weak (kept_len kp6) (kept_get kp6), T.keep _ _ _ tn5 fun b hb o e => keep9 b o hb e, fun b hb => ?_, w8, hD8, ?_, hv'.append (.cons r8 .nil)⟩
        · obtain ⟨o, e, _⟩ := T.obj _ _ tn5 b hb
          exact (J9.pin (b, o) (List.mem_append_right _ (mem_pinsAt hb e))).2.1
        · have q' := q
          simp only [List.push_toArray] at q'
          exact q'
  exact codeAny_compStart_list (loop _ rfl) (T.self _ 0 _ _ _ (T.keep 0 _ _ t0 (fun b hb o e => old b o e)) (loop _ rfl))
def tComp (wi : TI) (g : TG) (tt : TT) (te : TE) (own : List Str) (js : List Nat) : TE := fun σ H Q => wi σ H fun J H1 => CompW J g tt te (sig0 own js σ) H1 fun acc H2 => ∀ p, H2 p = none → Q (.ref p) (upd H2 p (.lst acc))
theorem pe_comp {elt tg iter : Expr} {ifs : List Expr} {pos : Pos} {wi : TI} {g : TG} {tt : TT} {te : TE} (own : List Str) (js : List Nat) (c : CompOk X scope cl own js) (hc : X.calm = true) (hi : PI X tg iter wi)
    (inner : ∀ (C : Addr) (s₀ : Shared) (H₀ : Hp) (ex : List Addr), PG (compCx X scope cl (nam0 X own js) C s₀ H₀ ex) tg g ∧ PIf (compCx X scope cl (nam0 X own js) C s₀ H₀ ex) ifs tt ∧ PE (compCx X scope cl (nam0 X own js) C s₀ H₀ ex) elt te)
    (hs : ∀ x, foldedSetIterable iter X.env x = pure x := by intro _; rfl) : PE X (.ListComp elt [⟨tg, iter, ifs, 0⟩] scope pos) (tComp wi g tt te own js) := by
  refine ⟨fun pins s σ H Q I h => ?_⟩
  rw [eval_ListComp]
  refine wpAny_comprehension_free (use := none) rfl hs c.clos c.kind c.names (thn (hi.go pins s σ H _ I h) fun v s1 h1 => thn h1 fun itv s2 h2 => ?_)
  obtain ⟨it, fp, tn, J, H2, e, I2, T, st2, f2, hW⟩ := h2
  subst e
  refine comp_core (RR := fun acc C => compPost (model X.prog X.w) X.A X.xe none (EP X pins σ Q) acc C) c hc I2 T st2 f2 inner hW ?_
  intro D C s' acc H' hn hD hz hDC hCL hUC hI
  exact ⟨hn.choose, hn.choose_spec, fun h' hsb => ⟨.ref D, _, hI h' hsb, rfl, hz D hD⟩⟩
theorem ps_setComp {elt tg iter : Expr} {ifs : List Expr} {pos spos py : Pos} {wi : TI} {g : TG} {tt : TT} {te : TE} {i : Nat} {y : Str} (own : List Str) (js : List Nat) (c : CompOk X scope cl own js) (hc : X.calm = true) (hN : X.N.Nodup) (hy : X.N[i]? = some y) (hx : Loc X.env.scope y) (hi : PI X tg iter wi)
    (inner : ∀ (C : Addr) (s₀ : Shared) (H₀ : Hp) (ex : List Addr), PG (compCx X scope cl (nam0 X own js) C s₀ H₀ ex) tg g ∧ PIf (compCx X scope cl (nam0 X own js) C s₀ H₀ ex) ifs tt ∧ PE (compCx X scope cl (nam0 X own js) C s₀ H₀ ex) elt te)
    (hsw : swapsWith (.ListComp elt [⟨tg, iter, ifs, 0⟩] scope pos) (some (.Name y py)) spos.line X.env = pure true := by rfl)
    (hs : ∀ x, foldedSetIterable iter X.env x = pure x := by intro _; rfl) (hf : X.fn y = true ∨ X.env.scope.names.lookup y = some .local := by first | exact .inl rfl | exact .inr rfl | assumption) :
    PS X (.Assign [.Name y py] (.ListComp elt [⟨tg, iter, ifs, 0⟩] scope pos) spos) (tAsg (tComp wi g tt te own js) (gName i)) := by
  refine ⟨fun pins s σ H D I h => ?_⟩
  rw [exec_Assign_Name_used _ _ _ _ hsw]
  refine wpAny_bind (wpAny_standAt (wpAny_bind ?_))
  show wpAny _ X.A (do let _ ← comprehension (.ListComp elt [⟨tg, iter, ifs, 0⟩] scope pos) scope X.env _ (newList []) false (eval iter X.env) (some (assign (.Name y py) X.env))) _ _ s
  refine wpAny_bind (wpAny_mono (wpAny_comprehension_free (use := some (assign (.Name y py) X.env)) (Q := fun _ s' => SP X pins D .next s') rfl hs c.clos c.kind c.names
    (thn (hi.go pins s σ H _ I h) fun v s1 h1 => thn h1 fun itv s2 h2 => ?_)) (fun _ s' hq => wpAny_pure (wpAny_pure hq)) fun _ _ e => e)
  obtain ⟨it, fp, tn, J, H2, e, I2, T, st2, f2, hW⟩ := h2
  subst e
  refine comp_core (RR := fun acc C => compPost (model X.prog X.w) X.A X.xe (some (assign (.Name y py) X.env)) (fun _ s' => SP X pins D .next s') acc C) c hc I2 T st2 f2 inner hW ?_
  intro D' C s' acc H' hn hD hz hDC hCL hUC hI
  show wpAny _ X.A (assign (.Name y py) X.env (.ref D')) _ _ _
  have I9 := hI s'.heap (Heap.SameBut.refl _ _)
  obtain ⟨m, hm⟩ := hn
  refine wpAny_assign_Name (store_ok2 (v := .ref D') I9 hN hy hx rfl (fun s'' I'' ⟨a, sb, ha⟩ => ?_) hf)
  have aC : C ≠ a := by
    rcases ha with ha | ha
    · rw [ha]; exact hCL
    · intro z
      subst z
      obtain ⟨v, q⟩ := I2.cell y C ha
      exact absurd (Nat.lt_of_lt_of_le q.lt hDC) (Nat.lt_irrefl _)
  refine ⟨m, hm.sameBut sb aC, fun h' hsb => ?_⟩
  refine ⟨σ.set i (some (.ref D')), upd H' D' (.lst acc), I''.turned (t' := s''.toks) (it := C) (fun b o hb e => by rw [hsb.2 b hb]; exact e) ?_ hCL (.inr (Nat.le_trans I2.sz hDC)) (fun x d e z => ?_) (fun p hp z => ?_), hz D' hD⟩
  · exact hUC
  · obtain ⟨v, q⟩ := I2.cell x d e
    rw [z] at q
    exact absurd (Nat.lt_of_lt_of_le q.lt hDC) (Nat.lt_irrefl _)
  · have q := Heap.lt_size (I2.pin p hp).1
    rw [z] at q
    exact absurd (Nat.lt_of_lt_of_le q hDC) (Nat.lt_irrefl _)
end
def Ite (a : Addr) : It :=
  ⟨fun i H => ∃ xs x, H a = some (.lst xs) ∧ xs[i]? = some x, fun i H v H' => ∃ p x, H p = none ∧ v = .ref p ∧ H' = upd H p (.tup [.int i, x]) ∧ ∀ xs, H a = some (.lst xs) → xs[i]? = some x, fun i H => ∃ xs, H a = some (.lst xs) ∧ xs.length ≤ i⟩
theorem turn_enum {P : Program} {w : World} {K : PySem.W.Frag} {es : List Expr} {k : Nat} {pos : Pos} (a e it : Addr) (hne : e ≠ it) :
    Turn P w K (.Tuple es k pos) (Ite a) [e, it] e (fun i h => (∃ old, IsEnum h e it i old) ∧ h.IsListIter it a i) where
  mem := by simp
  obj := fun i h st b hb => by
    rw [List.mem_cons, List.mem_singleton] at hb
    rcases hb with rfl | rfl
    · obtain ⟨⟨old, q⟩, _⟩ := st
      exact ⟨_, q, fun v z => by cases z⟩
    · obtain ⟨_, o, q, c, d⟩ := st
      exact ⟨o, q, fun v z => by rw [d] at z; cases z⟩
  keep := fun i h h' st kp => ⟨by obtain ⟨old, q⟩ := st.1; exact ⟨old, kp e (by simp) _ q⟩, st.2.at fun o q => kp it (by simp) o q⟩
  item := by
    intro X hP hw hK hc i pins s σ H E I hf st hg
    subst hP hw hK
    obtain ⟨xs, x, hq, hx⟩ := hg
    obtain ⟨⟨old, he⟩, hit⟩ := st
    obtain ⟨its, rv, p, hz⟩ := I.list (SqL.of hq)
    obtain ⟨u, hu, ru⟩ := rv.get hx
    obtain ⟨f0, f1, f2, f3, f4, f5⟩ := hf e (by simp)
    obtain ⟨g0, g1, g2, g3, g4, g5⟩ := hf it (by simp)
    refine wpAny_pyNext_enum_item he hit p.isList (x := u) (by simpa using hu) hne fun h' eo it' ht hsz hk => ?_
    refine ⟨.ref s.heap.objs.size, rfl, ?_⟩
    refine wpAny_letOwnedTupleGo_enum eo fun h2 he2 hs2 => ?_
    have fr : H s.heap.objs.size = none := I.hok.fresh (Nat.le_refl _)
    have ne2 : ∀ b, b < s.heap.objs.size → b ≠ s.heap.objs.size := fun b hb => Nat.ne_of_lt hb
    have ee : e < s.heap.objs.size := Heap.lt_size he
    have k2 : ∀ b o, b ≠ e → b ≠ it → s.heap.get? b = some o → h2.get? b = some o := fun b o h1 h2' q => (hs2.2 b h1).trans (hk b o h1 h2' q)
    have ht2 : h2.get? s.heap.objs.size = some { cls := .type "tuple", data := .seq #[.int i s.toks, u] } := (hs2.2 _ (Nat.ne_of_gt ee)).trans ht
    have trk : ∀ b v, H b = some v → b ≠ e ∧ b ≠ it := fun b v q => ⟨ne_of_none q f0, ne_of_none q g0⟩
    have hok0 : HOk X.prog X.w H h2 := fun b o q => (I.hok b o q).stay (fun c v hc q' => by
      rcases hc with rfl | hc
      · exact k2 c v (trk c _ q).1 (trk c _ q).2 q'
      · exact k2 c v (trk c _ hc).1 (trk c _ hc).2 q') (fun _ z => z) fun _ _ z => z
    have I1 : Inv X pins σ (upd H s.heap.objs.size (.tup [.int i, x])) { s with heap := h2, toks := s.toks + 1 } := by
      refine I.step (g' := s.gens) (d' := s.drawn) (ch := [e, it]) (fun b hb => ?_) (fun b o _ _ hc q _ => k2 b o (fun z => hc (by simp [z])) (fun z => hc (by simp [z])) q) (fun b o _ _ hc q _ => ⟨o.slots, k2 b o (fun z => hc (by simp [z])) (fun z => hc (by simp [z])) q⟩)
        (fun b o _ q n => by rw [upd_ne (ne2 b (Heap.lt_size q))]; exact n) (fun b o hc q => ⟨o, k2 b o (fun z => hc (by simp [z])) (fun z => hc (by simp [z])) q⟩) (fun b ys q => by rw [upd_ne (ne_of_none q fr)]; exact q) (fun b o v q => by rw [upd_ne (ne_of_none q fr)]; exact q)
        (fun b ps q => ⟨#[], by rw [upd_ne (ne_of_none q fr), q]; simp⟩) (fun m hm => ?_) ?_ I.bare
      · rw [List.mem_cons, List.mem_singleton] at hb
        rcases hb with rfl | rfl
        · exact ⟨f3, f1, f4, f5⟩
        · exact ⟨g3, g1, g4, g5⟩
      · obtain ⟨o, es', ep, ho, r⟩ := hm
        exact ⟨o, es', ep, k2 _ o (Ne.symm f1) (Ne.symm g1) ho, r⟩
      · exact hok0.adopt fr ⟨by show 2 ≤ sizeLine; decide, [.int i s.toks, u], .cons ⟨_, rfl⟩ (.cons ru .nil), ⟨_, ht2, rfl, _, rfl⟩⟩
    refine ⟨.ref s.heap.objs.size, _, I1, rfl, ⟨_, x, fr, rfl, rfl, fun ys hy => by rw [hq] at hy; cases hy; exact hx⟩, ⟨⟨_, by simpa using he2⟩, it'.extBut hs2.extBut (Ne.symm hne)⟩, fun b hb => ?_⟩
    have : H b = none := (hf b hb).1
    have hb' : b < s.heap.objs.size := by
      rw [List.mem_cons, List.mem_singleton] at hb
      rcases hb with rfl | rfl
      · exact ee
      · obtain ⟨o, q, _⟩ := hit; exact Heap.lt_size q
    rw [upd_ne (ne2 b hb')]
    exact this
  done := by
    intro X hP hw hK hc i pins s σ H E I hf st hg
    subst hP hw hK
    obtain ⟨xs, hq, hx⟩ := hg
    obtain ⟨⟨old, he⟩, hit⟩ := st
    obtain ⟨its, rv, p, hz⟩ := I.list (SqL.of hq)
    obtain ⟨g0, g1, g2, g3, g4, g5⟩ := hf it (by simp)
    have hl := rv.length
    exact wpAny_pyNext_enum_end (I.ok.hd hc) he hit p.isList (by simp; omega) fun h' eb => ⟨rfl, I.turned (t' := s.toks) (fun b o hb e => eb b o hb e) g0 g1 g3 g4 g5⟩
  self := fun _ _ _ _ _ st h => by
    obtain ⟨⟨old, he⟩, _⟩ := st
    exact wpAny_pyIter_enum he h
section
variable {X : Cx} {es : List Expr} {k : Nat} {tpos : Pos}
def iEnum (ta : TA) : TI := fun σ H R => ta σ H fun vs H1 => ∃ a, vs = [.ref a] ∧ (∃ xs, H1 a = some (.lst xs)) ∧ R (Ite a) H1
theorem pi_enum {l : Expr} {ta : TA} {p pos : Pos} (hg : Gl X "enumerate") (hm : X.mg "enumerate" = none) (ha : PA X [l] ta) (hs : starEach [l] X.env = [(false, eval l X.env)] := by rfl) : PI X (.Tuple es k tpos) (.Call (.Name "enumerate" p) [l] [] pos) (iEnum ta) := by
  refine ⟨fun pins s σ H R I h => ?_⟩
  refine wpAny_Call_Name_kw (ld_blt I hg hm bt_enumerate ?_)
  refine PyProof.Rows.callWith_type1 (thn (ha pos pins s σ H _ I h) fun us s1 ⟨vs, H1, I1, r1, a, e, ⟨xs, hx⟩, q⟩ => ?_) hs rfl
  subst e
  obtain ⟨u, rfl, ru⟩ := vals1 r1
  cases ru
  obtain ⟨_, its, n, rv, ho⟩ := (show ObjOk X.prog X.w H1 s1.heap a (.lst xs) from I1.hok a _ hx)
  refine call_enumerate_1 ho fun h' he hit hsz hk => ?_
  have I2 : Inv X pins σ H1 { s1 with heap := h' } := I1.kept (t' := s1.toks) hk
  refine wpAny_pyIter_enum he ⟨s1.heap.objs.size + 1, [s1.heap.objs.size + 1, s1.heap.objs.size], _, Ite a, H1, rfl, I2, turn_enum a (s1.heap.objs.size + 1) s1.heap.objs.size (Nat.succ_ne_self _), ⟨⟨_, he⟩, hit⟩, fun b hb => ?_, q⟩
  have hb' : s1.heap.objs.size ≤ b := by
    rw [List.mem_cons, List.mem_singleton] at hb
    rcases hb with rfl | rfl <;> omega
  have z := I1.fpOk (H' := H1) hb' (I1.hok.fresh hb')
  exact z
end
mutual
def toP : D → PyData
  | .non => .none
  | .bl b => .bool b
  | .int i => .int i
  | .str x => .str x
  | .tup ds => .tuple (toPs ds)
  | .lst ds => .list (toPs ds)
  | .dct => .dict []
  | .dic _ _ => .dict []
  | .scr _ _ => .dict []
  | .ext _ => .dict []
def toPs : List D → List PyData
  | [] => []
  | d :: ds => toP d :: toPs ds
end
mutual
theorem rep_reads {X : Cx} {pins : List (Addr × Obj)} {σ : St} {H : Hp} {s : Shared} (I : Inv X pins σ H s) : ∀ (d : D) (v : V) (u : Value), Rep H d v → RelV v u → (toP d).canLay0 = true → ∃ as, Reads s.heap u (toP d) as
  | .non, v, u, h, r, _ => by rw [Rep] at h; subst h; cases r; rw [toP]; exact ⟨_, .none⟩
  | .bl b, v, u, h, r, _ => by rw [Rep] at h; subst h; cases r; rw [toP]; exact ⟨_, .bool b⟩
  | .int i, v, u, h, r, _ => by rw [Rep] at h; subst h; obtain ⟨t, rfl⟩ := r; rw [toP]; exact ⟨_, .int i t⟩
  | .str x, v, u, h, r, _ => by rw [Rep] at h; subst h; obtain ⟨t, rfl⟩ := r; rw [toP]; exact ⟨_, .str x t⟩
  | .tup ds, v, u, h, r, c => by
    rw [Rep] at h
    obtain ⟨a, xs, rfl, ha, hx⟩ := h
    cases r
    rw [toP] at c ⊢
    obtain ⟨_, its, rv, o, e1, e2, n, e3⟩ := (show ObjOk X.prog X.w H s.heap a (.tup xs) from I.hok a _ ha)
    obtain ⟨as, q⟩ := reps_reads I ds xs its hx rv (by rw [PyData.canLay0] at c; exact c)
    exact ⟨_, reads_tuple_at e1 e2 e3 (by simpa using q)⟩
  | .lst ds, v, u, h, r, c => by
    rw [Rep] at h
    obtain ⟨a, xs, rfl, ha, hx⟩ := h
    cases r
    rw [toP] at c ⊢
    obtain ⟨_, its, n, rv, e1⟩ := (show ObjOk X.prog X.w H s.heap a (.lst xs) from I.hok a _ ha)
    obtain ⟨as, q⟩ := reps_reads I ds xs its hx rv (by rw [PyData.canLay0] at c; exact c)
    exact ⟨_, reads_list_at e1 rfl rfl (by simpa using q)⟩
  | .dct, v, u, h, r, c => by rw [toP, PyData.canLay0] at c; cases c
  | .dic _ _, v, u, h, r, c => by rw [toP, PyData.canLay0] at c; cases c
  | .scr _ _, v, u, h, r, c => by rw [toP, PyData.canLay0] at c; cases c
  | .ext _, v, u, h, r, c => by rw [toP, PyData.canLay0] at c; cases c
theorem reps_reads {X : Cx} {pins : List (Addr × Obj)} {σ : St} {H : Hp} {s : Shared} (I : Inv X pins σ H s) : ∀ (ds : List D) (vs : List V) (us : List Value), Reps H ds vs → Vals vs us → PyData.canLayAll0 (toPs ds) = true → ∃ as, ReadsAll s.heap us (toPs ds) as
  | [], vs, us, h, r, _ => by rw [Reps] at h; subst h; cases r; rw [toPs]; exact ⟨_, .nil⟩
  | d :: ds, vs, us, h, r, c => by
    rw [Reps] at h
    obtain ⟨v, vs', rfl, h1, h2⟩ := h
    rw [toPs] at c ⊢
    rw [PyData.canLayAll0, Bool.and_eq_true] at c
    cases r with
    | cons r1 r2 =>
      obtain ⟨as, q1⟩ := rep_reads I d v _ h1 r1 c.1
      obtain ⟨bs, q2⟩ := reps_reads I ds vs' _ h2 r2 c.2
      exact ⟨_, .cons q1 q2⟩
end
section
variable {X : Cx}
def rEqD : R2 := fun x y H Q => ∃ d e, Rep H d x ∧ Rep H e y ∧ SeqAt.shaped (toP d) = true ∧ SeqAt.shaped (toP e) = true ∧ Q (.bl (PyData.eqv (toP d) (toP e))) H
def rNeD : R2 := fun x y H Q => ∃ d e, Rep H d x ∧ Rep H e y ∧ SeqAt.shaped (toP d) = true ∧ SeqAt.shaped (toP e) = true ∧ Q (.bl (!PyData.eqv (toP d) (toP e))) H
theorem op_eqD (hu : X.A.units + 64 < cLine) : OpR X (compareOp .Eq) rEqD := by
  intro pins s σ H x y v u Q I rx ry h
  obtain ⟨d, e, h1, h2, c1, c2, q⟩ := h
  obtain ⟨as, r1⟩ := rep_reads I d x v h1 rx (SeqAt.canLay_of_shaped c1)
  obtain ⟨bs, r2⟩ := rep_reads I e y u h2 ry (SeqAt.canLay_of_shaped c2)
  exact eq_dataH r1 r2 c1 c2 hu ⟨.bl _, H, I, rfl, q⟩
theorem op_neD (hu : X.A.units + 64 < cLine) : OpR X (compareOp .NotEq) rNeD := by
  intro pins s σ H x y v u Q I rx ry h
  obtain ⟨d, e, h1, h2, c1, c2, q⟩ := h
  obtain ⟨as, r1⟩ := rep_reads I d x v h1 rx (SeqAt.canLay_of_shaped c1)
  obtain ⟨bs, r2⟩ := rep_reads I e y u h2 ry (SeqAt.canLay_of_shaped c2)
  exact ne_dataH r1 r2 c1 c2 hu ⟨.bl _, H, I, rfl, q⟩
end
def dInts (ns : List Int) : D := .lst (ns.map .int)
theorem toPs_ints (ns : List Int) : toPs (ns.map .int) = ns.map .int := by
  induction ns with
  | nil => rw [List.map_nil, toPs]; rfl
  | cons n r ih => rw [List.map_cons, toPs, ih, toP]; rfl
theorem lay_ints (ns : List Int) : PyData.canLayAll0 (ns.map .int) = true ∧ PyData.depthAll (ns.map .int) ≤ 1 := by
  induction ns with
  | nil => simp [PyData.canLayAll0, PyData.depthAll]
  | cons n r ih => simp only [List.map_cons, PyData.canLayAll0, PyData.canLay0, PyData.depthAll, PyData.depth, ih.1, Bool.and_self, true_and]; have := ih.2; omega
def dPair (ns ms : List Int) : D := .tup [dInts ns, dInts ms]
theorem shaped_pair (ns ms : List Int) : SeqAt.shaped (toP (dPair ns ms)) = true := by
  have h := lay_ints ns
  have h' := lay_ints ms
  unfold SeqAt.shaped dPair dInts
  rw [toP, toPs, toPs, toPs, toP, toP, toPs_ints, toPs_ints]
  simp only [PyData.canLay0, PyData.depth, PyData.canLayAll0, PyData.depthAll, h.1, h'.1, Bool.and_self, Bool.true_and]
  exact decide_eq_true (by have := h.2; have := h'.2; omega)
section
variable {X : Cx}
end
abbrev DSt := List (Option D)
abbrev Own := Addr → Option (Nat × List Nat)
mutual
def Sep (G H : Hp) (O : Own) (i : Nat) : D → List Nat → V → Prop
  | .non, _, v => v = .non
  | .bl b, _, v => v = .bl b
  | .int n, _, v => v = .int n
  | .str x, _, v => v = .str x
  | .tup ds, π, v => ∃ a xs, v = .ref a ∧ G a = some (.tup xs) ∧ Seps G H O i ds 0 π xs
  | .lst ds, π, v => ∃ a xs, v = .ref a ∧ O a = some (i, π) ∧ H a = some (.lst xs) ∧ Seps G H O i ds 0 π xs
  | .dct, _, _ => False
  | .dic ks ds, π, v => ∃ a xs, v = .ref a ∧ O a = some (i, π) ∧ H a = some (.dK (ks.zip xs)) ∧ ks.length = ds.length ∧ Seps G H O i ds 0 π xs
  | .scr _ _, _, _ => False
  | .ext _, _, _ => False
def Seps (G H : Hp) (O : Own) (i : Nat) : List D → Nat → List Nat → List V → Prop
  | [], _, _, xs => xs = []
  | d :: ds, k, π, xs => ∃ v vs, xs = v :: vs ∧ Sep G H O i d (k :: π) v ∧ Seps G H O i ds (k + 1) π vs
end
def TSame (G G' : Hp) : Prop := ∀ a xs, G a = some (.tup xs) → G' a = some (.tup xs)
theorem Same.ts {G G' : Hp} (h : Same G G') : TSame G G' := fun a xs e => h a _ e
mutual
theorem Sep.map {G H G' H' : Hp} {O O' : Own} {i i' : Nat} {f : List Nat → List Nat} (hG : TSame G G') (hf : ∀ k π, f (k :: π) = k :: f π) :
    ∀ (d : D) (π : List Nat) (v : V), (∀ a τ, O a = some (i, τ ++ π) → O' a = some (i', f (τ ++ π)) ∧ H' a = H a) → Sep G H O i d π v → Sep G' H' O' i' d (f π) v
  | .non, _, _, _, h => by rw [Sep] at *; exact h
  | .bl b, _, _, _, h => by rw [Sep] at *; exact h
  | .int n, _, _, _, h => by rw [Sep] at *; exact h
  | .str x, _, _, _, h => by rw [Sep] at *; exact h
  | .tup ds, π, v, hO, h => by
    rw [Sep] at *
    obtain ⟨a, xs, h1, h2, h3⟩ := h
    exact ⟨a, xs, h1, hG _ _ h2, Seps.map hG hf ds 0 π xs (fun a τ _ => hO a τ) h3⟩
  | .lst ds, π, v, hO, h => by
    rw [Sep] at *
    obtain ⟨a, xs, h1, h2, h3, h4⟩ := h
    have q := hO a [] h2
    exact ⟨a, xs, h1, q.1, q.2.trans h3, Seps.map hG hf ds 0 π xs (fun a τ _ => hO a τ) h4⟩
  | .dic ks ds, π, v, hO, h => by
    rw [Sep] at *
    obtain ⟨a, xs, h1, h2, h3, h5, h4⟩ := h
    have q := hO a [] h2
    exact ⟨a, xs, h1, q.1, q.2.trans h3, h5, Seps.map hG hf ds 0 π xs (fun a τ _ => hO a τ) h4⟩
  | .dct, _, _, _, h => by rw [Sep] at h; exact h.elim
  | .scr _ _, _, _, _, h => by rw [Sep] at h; exact h.elim
  | .ext _, _, _, _, h => by rw [Sep] at h; exact h.elim
theorem Seps.map {G H G' H' : Hp} {O O' : Own} {i i' : Nat} {f : List Nat → List Nat} (hG : TSame G G') (hf : ∀ k π, f (k :: π) = k :: f π) :
    ∀ (ds : List D) (k : Nat) (π : List Nat) (xs : List V), (∀ a τ, τ ≠ [] → O a = some (i, τ ++ π) → O' a = some (i', f (τ ++ π)) ∧ H' a = H a) → Seps G H O i ds k π xs → Seps G' H' O' i' ds k (f π) xs
  | [], _, _, _, _, h => by rw [Seps] at *; exact h
  | d :: ds, k, π, xs, hO, h => by
    rw [Seps] at *
    obtain ⟨v, vs, h1, h2, h3⟩ := h
    refine ⟨v, vs, h1, ?_, Seps.map hG hf ds (k + 1) π vs hO h3⟩
    rw [← hf]
    refine Sep.map hG hf d (k :: π) v (fun a τ e => ?_) h2
    have e' : τ ++ k :: π = (τ ++ [k]) ++ π := by simp
    rw [e'] at e ⊢
    exact hO a (τ ++ [k]) (by simp) e
end
theorem Sep.keep {G H G' H' : Hp} {O O' : Own} {i i' : Nat} {d : D} {π : List Nat} {v : V} (hG : TSame G G') (hO : ∀ a τ, O a = some (i, τ ++ π) → O' a = some (i', τ ++ π) ∧ H' a = H a) (h : Sep G H O i d π v) : Sep G' H' O' i' d π v :=
  Sep.map (f := id) hG (fun _ _ => rfl) d π v hO h
theorem Seps.keep {G H G' H' : Hp} {O O' : Own} {i i' : Nat} {ds : List D} {k : Nat} {π : List Nat} {xs : List V} (hG : TSame G G') (hO : ∀ a τ, τ ≠ [] → O a = some (i, τ ++ π) → O' a = some (i', τ ++ π) ∧ H' a = H a) (h : Seps G H O i ds k π xs) : Seps G' H' O' i' ds k π xs :=
  Seps.map (f := id) hG (fun _ _ => rfl) ds k π xs hO h
mutual
theorem Sep.rep {G H G' : Hp} {O : Own} {i : Nat} (hG : TSame G G') : ∀ (d : D) (π : List Nat) (v : V), (∀ a τ (o : HO), O a = some (i, τ ++ π) → H a = some o → G' a = some o) → Sep G H O i d π v → Rep G' d v
  | .non, _, _, _, h => by rw [Sep] at h; rw [Rep]; exact h
  | .bl b, _, _, _, h => by rw [Sep] at h; rw [Rep]; exact h
  | .int n, _, _, _, h => by rw [Sep] at h; rw [Rep]; exact h
  | .str x, _, _, _, h => by rw [Sep] at h; rw [Rep]; exact h
  | .tup ds, π, v, hO, h => by
    rw [Sep] at h; rw [Rep]
    obtain ⟨a, xs, h1, h2, h3⟩ := h
    exact ⟨a, xs, h1, hG _ _ h2, Seps.rep hG ds 0 π xs (fun a τ ys _ => hO a τ ys) h3⟩
  | .lst ds, π, v, hO, h => by
    rw [Sep] at h; rw [Rep]
    obtain ⟨a, xs, h1, h2, h3, h4⟩ := h
    exact ⟨a, xs, h1, hO a [] _ h2 h3, Seps.rep hG ds 0 π xs (fun a τ ys _ => hO a τ ys) h4⟩
  | .dic ks ds, π, v, hO, h => by
    rw [Sep] at h; rw [Rep]
    obtain ⟨a, xs, h1, h2, h3, h5, h4⟩ := h
    exact ⟨a, xs, h1, hO a [] _ h2 h3, h5, Seps.rep hG ds 0 π xs (fun a τ ys _ => hO a τ ys) h4⟩
  | .dct, _, _, _, h => by rw [Sep] at h; exact h.elim
  | .scr _ _, _, _, _, h => by rw [Sep] at h; exact h.elim
  | .ext _, _, _, _, h => by rw [Sep] at h; exact h.elim
theorem Seps.rep {G H G' : Hp} {O : Own} {i : Nat} (hG : TSame G G') : ∀ (ds : List D) (k : Nat) (π : List Nat) (xs : List V), (∀ a τ (o : HO), τ ≠ [] → O a = some (i, τ ++ π) → H a = some o → G' a = some o) → Seps G H O i ds k π xs → Reps G' ds xs
  | [], _, _, _, _, h => by rw [Seps] at h; rw [Reps]; exact h
  | d :: ds, k, π, xs, hO, h => by
    rw [Seps] at h; rw [Reps]
    obtain ⟨v, vs, h1, h2, h3⟩ := h
    refine ⟨v, vs, h1, Sep.rep hG d (k :: π) v (fun a τ ys e q => ?_) h2, Seps.rep hG ds (k + 1) π vs hO h3⟩
    have e' : τ ++ k :: π = (τ ++ [k]) ++ π := by simp
    rw [e'] at e
    exact hO a (τ ++ [k]) ys (by simp) e q
end
mutual
def imm : D → Bool
  | .tup ds => imms ds
  | .lst _ => false
  | .dct => false
  | .dic _ _ => false
  | .scr _ _ => false
  | .ext _ => false
  | _ => true
def imms : List D → Bool
  | [] => true
  | d :: ds => imm d && imms ds
end
mutual
theorem Rep.sep {G H : Hp} {O : Own} {i : Nat} : ∀ (d : D) (π : List Nat) (v : V), imm d = true → Rep G d v → Sep G H O i d π v
  | .non, _, _, _, h => by rw [Rep] at h; rw [Sep]; exact h
  | .bl b, _, _, _, h => by rw [Rep] at h; rw [Sep]; exact h
  | .int n, _, _, _, h => by rw [Rep] at h; rw [Sep]; exact h
  | .str x, _, _, _, h => by rw [Rep] at h; rw [Sep]; exact h
  | .tup ds, π, v, hi, h => by
    rw [Rep] at h; rw [Sep]
    obtain ⟨a, xs, h1, h2, h3⟩ := h
    exact ⟨a, xs, h1, h2, Reps.sep ds 0 π xs (by rw [imm] at hi; exact hi) h3⟩
  | .lst ds, _, _, hi, _ => by rw [imm] at hi; cases hi
  | .dct, _, _, hi, _ => by rw [imm] at hi; cases hi
  | .dic _ _, _, _, hi, _ => by rw [imm] at hi; cases hi
  | .scr _ _, _, _, hi, _ => by rw [imm] at hi; cases hi
  | .ext _, _, _, hi, _ => by rw [imm] at hi; cases hi
theorem Reps.sep {G H : Hp} {O : Own} {i : Nat} : ∀ (ds : List D) (k : Nat) (π : List Nat) (xs : List V), imms ds = true → Reps G ds xs → Seps G H O i ds k π xs
  | [], _, _, _, _, h => by rw [Reps] at h; rw [Seps]; exact h
  | d :: ds, k, π, xs, hi, h => by
    rw [Reps] at h; rw [Seps]
    rw [imms, Bool.and_eq_true] at hi
    obtain ⟨v, vs, h1, h2, h3⟩ := h
    exact ⟨v, vs, h1, Rep.sep d (k :: π) v hi.1 h2, Reps.sep ds (k + 1) π vs hi.2 h3⟩
end
mutual
theorem Rep.imms {G G' : Hp} (hG : TSame G G') : ∀ (d : D) (v : V), L2.imm d = true → Rep G d v → Rep G' d v
  | .non, _, _, h => by rw [Rep] at *; exact h
  | .bl b, _, _, h => by rw [Rep] at *; exact h
  | .int n, _, _, h => by rw [Rep] at *; exact h
  | .str x, _, _, h => by rw [Rep] at *; exact h
  | .tup ds, v, hi, h => by
    rw [Rep] at *
    obtain ⟨a, xs, h1, h2, h3⟩ := h
    exact ⟨a, xs, h1, hG _ _ h2, Reps.imms hG ds xs (by rw [L2.imm] at hi; exact hi) h3⟩
  | .lst ds, _, hi, _ => by rw [L2.imm] at hi; cases hi
  | .dct, _, hi, _ => by rw [L2.imm] at hi; cases hi
  | .dic _ _, _, hi, _ => by rw [L2.imm] at hi; cases hi
  | .scr _ _, _, hi, _ => by rw [L2.imm] at hi; cases hi
  | .ext _, _, hi, _ => by rw [L2.imm] at hi; cases hi
theorem Reps.imms {G G' : Hp} (hG : TSame G G') : ∀ (ds : List D) (xs : List V), L2.imms ds = true → Reps G ds xs → Reps G' ds xs
  | [], _, _, h => by rw [Reps] at *; exact h
  | d :: ds, xs, hi, h => by
    rw [Reps] at *
    rw [L2.imms, Bool.and_eq_true] at hi
    obtain ⟨v, vs, h1, h2, h3⟩ := h
    exact ⟨v, vs, h1, Rep.imms hG d v hi.1 h2, Reps.imms hG ds vs hi.2 h3⟩
end
theorem Seps.length {G H : Hp} {O : Own} {i : Nat} : ∀ {ds : List D} {k : Nat} {π : List Nat} {xs : List V}, Seps G H O i ds k π xs → xs.length = ds.length
  | [], _, _, _, h => by rw [Seps] at h; subst h; rfl
  | d :: ds, k, π, xs, h => by
    rw [Seps] at h
    obtain ⟨v, vs, rfl, _, h3⟩ := h
    simp [Seps.length h3]
abbrev WrO := List V ⊕ List (Key × V)
def WrO.ho : WrO → HO
  | .inl xs => .lst xs
  | .inr kvs => .dK kvs
theorem WrO.ne {m : WrO} {xs : List V} (h : m.ho = .tup xs) : False := by cases m <;> cases h
structure Ctx where
  G : Hp
  H : Hp
  O : Own
  mu : List (Option V)
  np : Nat
def Pend (G H : Hp) (O : Own) : List (D × V) → Prop
  | [] => True
  | (d, v) :: r => Sep G H O (2 * r.length + 1) d [] v ∧ Pend G H O r
def Nw (C : Ctx) (a : Addr) (l : Nat) : Prop := C.H a = none ∨ ∃ π, C.O a = some (l, π)
structure RO (C : Ctx) (ow : List Bool) (G : Hp) (ρ : DSt) (σ : St) (H : Hp) (pd : List (D × V)) (O : Own) : Prop where
  len : ρ.length = σ.length
  gh : Same G H
  g0 : Same C.G G
  gn : ∀ a o, G a = some o → C.G a = some o ∨ C.H a = none
  og : ∀ a l, O a = some l → G a = none ∧ (∃ xs : WrO, H a = some xs.ho) ∧ Nw C a l.1
  cok : ∀ a l π, C.O a = some (l, π) → (∃ (i : Nat) (v : V), l = 2 * i ∧ C.mu[i]? = some (some v)) ∨ ∃ j, l = 2 * j + 1 ∧ j < C.np
  fr : ∀ a o, C.H a = some o → C.O a = none → H a = some o
  al : ∀ a, H a = none → C.H a = none
  mp : ∀ (i : Nat) v, C.mu[i]? = some (some v) → σ[i]? = some (some v)
  sl : ∀ (i : Nat) d, ρ[i]? = some (some d) → ∃ v, σ[i]? = some (some v) ∧ if ow[i]? = some true then Sep G H O (2 * i) d [] v else Rep G d v
  pn : Pend G H O pd
  np : C.np ≤ pd.length
def R (C : Ctx) (ow : List Bool) (G : Hp) (ρ : DSt) (σ : St) (H : Hp) (pd : List (D × V)) : Prop := ∃ O, RO C ow G ρ σ H pd O
theorem Pend.keep {G H G' H' : Hp} {O O' : Own} (hG : TSame G G') : ∀ {pd : List (D × V)}, (∀ a j π, j < pd.length → O a = some (2 * j + 1, π) → O' a = some (2 * j + 1, π) ∧ H' a = H a) → Pend G H O pd → Pend G' H' O' pd
  | [], _, _ => trivial
  | (d, v) :: r, hO, ⟨h1, h2⟩ => ⟨h1.keep hG fun a τ e => hO a r.length _ (by simp) e, Pend.keep hG (fun a j π hj => hO a j π (by simp; omega)) h2⟩
section
variable {C : Ctx} {ow : List Bool} {G : Hp} {ρ : DSt} {σ : St} {H : Hp} {pd : List (D × V)} {O : Own}
theorem RO.new (h : RO C ow G ρ σ H pd O) {p : Addr} (hp : H p = none) (o : HO) : RO C ow (upd G p o) ρ σ (upd H p o) pd O ∧ Same G (upd G p o) := by
  have gp : G p = none := by
    cases e : G p with
    | none => rfl
    | some z => rw [h.gh _ _ e] at hp; cases hp
  have sG := same_upd gp o
  have ne : ∀ a l, O a = some l → a ≠ p := fun a l e z => by
    obtain ⟨_, ⟨xs, q⟩, _⟩ := h.og a l e
    rw [z, hp] at q; cases q
  refine ⟨⟨h.len, ?_, fun a u e => sG _ _ (h.g0 a u e), ?_, ?_, h.cok, ?_, ?_, h.mp, ?_, ?_, h.np⟩, sG⟩
  · intro a u e
    by_cases z : a = p
    · subst z; rw [upd_same] at e ⊢; exact e
    · rw [upd_ne z] at e ⊢; exact h.gh _ _ e
  · intro a u e
    by_cases z : a = p
    · subst z; exact .inr (h.al _ hp)
    · rw [upd_ne z] at e; exact h.gn a u e
  · intro a l e
    have z := ne a l e
    rw [upd_ne z, upd_ne z]
    exact h.og a l e
  · intro a u e n
    rw [upd_ne (ne_of_none (h.fr a u e n) hp)]
    exact h.fr a u e n
  · intro a e
    by_cases z : a = p
    · subst z; rw [upd_same] at e; cases e
    · rw [upd_ne z] at e; exact h.al a e
  · intro i d e
    obtain ⟨v, h1, h2⟩ := h.sl i d e
    refine ⟨v, h1, ?_⟩
    split at h2
    · rename_i c; rw [if_pos c]; exact h2.keep sG.ts fun a τ q => ⟨q, upd_ne (ne a _ q)⟩
    · rename_i c; rw [if_neg c]; exact h2.mono sG
  · exact Pend.keep sG.ts (fun a j π _ q => ⟨q, upd_ne (ne a _ q)⟩) h.pn
theorem RO.newL (h : RO C ow G ρ σ H pd O) {p : Addr} (hp : H p = none) {xs : List V} {ds : List D} (hi : imms ds = true) (hr : Reps G ds xs) :
    R C ow G ρ σ (upd H p (.lst xs)) ((.lst ds, .ref p) :: pd) := by
  have gp : G p = none := by
    cases e : G p with
    | none => rfl
    | some z => rw [h.gh _ _ e] at hp; cases hp
  have ne : ∀ a l, O a = some l → a ≠ p := fun a l e z => by
    obtain ⟨_, ⟨xs, q⟩, _⟩ := h.og a l e
    rw [z, hp] at q; cases q
  let O' : Own := fun a => if a = p then some (2 * pd.length + 1, []) else O a
  have old : ∀ a l, O a = some l → O' a = some l := fun a l e => by
    show (if a = p then _ else _) = _
    rw [if_neg (ne a _ e), e]
  refine ⟨O', h.len, ?_, h.g0, h.gn, ?_, h.cok, ?_, ?_, h.mp, ?_, ⟨?_, ?_⟩, Nat.le_succ_of_le h.np⟩
  · intro a u e
    rw [upd_ne (fun z => by rw [z, gp] at e; cases e)]
    exact h.gh _ _ e
  · intro a l e
    by_cases z : a = p
    · subst z; exact ⟨gp, ⟨.inl xs, upd_same⟩, .inl (h.al _ hp)⟩
    · rw [upd_ne z]
      change (if a = p then _ else _) = _ at e
      rw [if_neg z] at e
      exact h.og a _ e
  · intro a u e n
    rw [upd_ne (ne_of_none (h.fr a u e n) hp)]
    exact h.fr a u e n
  · intro a e
    by_cases z : a = p
    · subst z; rw [upd_same] at e; cases e
    · rw [upd_ne z] at e; exact h.al a e
  · intro i d e
    obtain ⟨v, h1, h2⟩ := h.sl i d e
    refine ⟨v, h1, ?_⟩
    split at h2
    · rename_i c; rw [if_pos c]; exact h2.keep (fun _ _ z => z) fun a τ q => ⟨old a _ q, upd_ne (ne a _ q)⟩
    · rename_i c; rw [if_neg c]; exact h2
  · rw [Sep]
    exact ⟨p, xs, rfl, by show (if p = p then _ else _) = _; rw [if_pos rfl], upd_same, hr.sep ds 0 [] xs hi⟩
  · exact Pend.keep (fun _ _ z => z) (fun a j π hj q => ⟨old a _ q, upd_ne (ne a _ q)⟩) h.pn
end
theorem Seps.snoc {G H : Hp} {O : Own} {i : Nat} {d : D} {v : V} : ∀ {ds : List D} {k : Nat} {π : List Nat} {xs : List V}, Seps G H O i ds k π xs → Sep G H O i d ((k + ds.length) :: π) v → Seps G H O i (ds ++ [d]) k π (xs ++ [v])
  | [], k, π, xs, h, hd => by rw [Seps] at h; subst h; show Seps _ _ _ _ [d] _ _ [v]; rw [Seps]; exact ⟨v, [], rfl, by simpa using hd, by rw [Seps]⟩
  | e :: ds, k, π, xs, h, hd => by
    rw [Seps] at h
    obtain ⟨u, us, rfl, h2, h3⟩ := h
    show Seps _ _ _ _ (e :: (ds ++ [d])) _ _ (u :: (us ++ [v]))
    rw [Seps]
    refine ⟨u, us ++ [v], rfl, h2, Seps.snoc h3 ?_⟩
    have : k + 1 + ds.length = k + (e :: ds).length := by simp; omega
    rw [this]; exact hd
theorem Seps.set {G H : Hp} {O : Own} {i : Nat} {d : D} {v : V} : ∀ {ds : List D} {k : Nat} {π : List Nat} {xs : List V} {j : Nat}, Seps G H O i ds k π xs → Sep G H O i d ((k + j) :: π) v → Seps G H O i (ds.set j d) k π (xs.set j v)
  | [], k, π, xs, j, h, hd => by rw [Seps] at h; subst h; simp; rw [Seps]
  | e :: ds, k, π, xs, 0, h, hd => by
    rw [Seps] at h
    obtain ⟨u, us, rfl, h2, h3⟩ := h
    simp only [List.set_cons_zero]; rw [Seps]
    exact ⟨v, us, rfl, by simpa using hd, h3⟩
  | e :: ds, k, π, xs, j + 1, h, hd => by
    rw [Seps] at h
    obtain ⟨u, us, rfl, h2, h3⟩ := h
    simp only [List.set_cons_succ]; rw [Seps]
    refine ⟨u, _, rfl, h2, Seps.set h3 ?_⟩
    have : k + 1 + j = k + (j + 1) := by omega
    rw [this]; exact hd
section
variable {C : Ctx} {ow : List Bool} {G : Hp} {ρ : DSt} {σ : St} {H : Hp} {pd : List (D × V)} {O : Own}
theorem set_at {α : Type} {l : List (Option α)} {i j : Nat} {x : Option α} {d : α} (h : (l.set i x)[j]? = some (some d)) : (j = i ∧ x = some d) ∨ (j ≠ i ∧ l[j]? = some (some d)) := by
  rw [List.getElem?_set] at h
  by_cases e : i = j
  · rw [if_pos e] at h
    split at h
    · exact .inl ⟨e.symm, Option.some.inj h⟩
    · cases h
  · rw [if_neg e] at h; exact .inr ⟨fun z => e z.symm, h⟩
theorem lt_of_slot {α : Type} {l : List (Option α)} {i : Nat} {x : Option α} (h : l[i]? = some x) : i < l.length := (List.getElem?_eq_some_iff.mp h).1
theorem RO.setS (h : RO C ow G ρ σ H pd O) {i : Nat} {d : D} {v : V} (hi : ow[i]? ≠ some true) (hm : ∀ v, C.mu[i]? ≠ some (some v)) (r : Rep G d v) : RO C ow G (ρ.set i (some d)) (σ.set i (some v)) H pd O := by
  refine ⟨by simp [h.len], h.gh, h.g0, h.gn, h.og, h.cok, h.fr, h.al, ?_, ?_, h.pn, h.np⟩
  · intro j u e
    have : i ≠ j := fun z => hm u (z ▸ e)
    rw [List.getElem?_set_ne this]
    exact h.mp j u e
  · intro j e q
    rcases set_at q with ⟨rfl, z⟩ | ⟨z, q'⟩
    · cases z
      have hl : j < σ.length := by have := lt_of_slot q; rw [List.length_set, h.len] at this; exact this
      exact ⟨v, by rw [List.getElem?_set_self hl], by rw [if_neg hi]; exact r⟩
    · obtain ⟨u, h1, h2⟩ := h.sl j e q'
      exact ⟨u, by rw [List.getElem?_set_ne (Ne.symm z)]; exact h1, h2⟩
def lab (f : Nat → List Nat → Nat × List Nat) (O : Own) : Own := fun a => (O a).map fun l => f l.1 l.2
theorem lab_at {f : Nat → List Nat → Nat × List Nat} {a : Addr} {l : Nat} {π : List Nat} (h : O a = some (l, π)) : lab f O a = some (f l π) := by unfold lab; rw [h]; rfl
theorem lab_of {f : Nat → List Nat → Nat × List Nat} {a : Addr} {m : Nat × List Nat} (h : lab f O a = some m) : ∃ l π, O a = some (l, π) ∧ m = f l π := by
  unfold lab at h
  cases e : O a with
  | none => rw [e] at h; cases h
  | some l => rw [e] at h; exact ⟨l.1, l.2, rfl, (Option.some.inj h).symm⟩
theorem even_ne {i j : Nat} : 2 * i ≠ 2 * j + 1 := by omega
theorem RO.setO {d : D} {v : V} (h : RO C ow G ρ σ H ((d, v) :: pd) O) {i : Nat} (hi : ow[i]? = some true) (hm : ∀ v, C.mu[i]? ≠ some (some v)) (hn : C.np ≤ pd.length) :
    R C ow G (ρ.set i (some d)) (σ.set i (some v)) H pd := by
  refine ⟨lab (fun l π => if l = 2 * pd.length + 1 then (2 * i, π) else (l, π)) O, by simp [h.len], h.gh, h.g0, h.gn, ?_, h.cok, h.fr, h.al, ?_, ?_, ?_, hn⟩
  · intro a m e
    obtain ⟨l, π, e1, rfl⟩ := lab_of e
    obtain ⟨q1, q2, q3⟩ := h.og a _ e1
    refine ⟨q1, q2, ?_⟩
    try dsimp only
    split
    · rename_i z
      rcases q3 with q3 | ⟨_, q3⟩
      · exact .inl q3
      · rcases h.cok _ _ _ q3 with ⟨k, _, q4, _⟩ | ⟨k, q4, q5⟩
        · exact absurd (q4.symm.trans z) even_ne
        · omega
    · exact q3
  · intro j u e
    have : i ≠ j := fun z => hm u (z ▸ e)
    rw [List.getElem?_set_ne this]
    exact h.mp j u e
  · intro j e q
    rcases set_at q with ⟨rfl, z⟩ | ⟨z, q'⟩
    · cases z
      have hl : j < σ.length := by have := lt_of_slot q; rw [List.length_set, h.len] at this; exact this
      refine ⟨v, by rw [List.getElem?_set_self hl], ?_⟩
      rw [if_pos hi]
      exact h.pn.1.keep (fun _ _ z => z) fun a τ q => ⟨by rw [lab_at q, if_pos rfl], rfl⟩
    · obtain ⟨u, h1, h2⟩ := h.sl j e q'
      refine ⟨u, by rw [List.getElem?_set_ne (Ne.symm z)]; exact h1, ?_⟩
      split at h2
      · rename_i c; rw [if_pos c]; exact h2.keep (fun _ _ z => z) fun a τ q => ⟨by rw [lab_at q, if_neg even_ne], rfl⟩
      · rename_i c; rw [if_neg c]; exact h2
  · exact Pend.keep (fun _ _ z => z) (fun a j π hj q => ⟨by rw [lab_at q, if_neg (by omega)], rfl⟩) h.pn.2
theorem RO.move (h : RO C ow G ρ σ H pd O) {i : Nat} {d : D} (e : ρ[i]? = some (some d)) (hi : ow[i]? = some true) (hm : ∀ v, C.mu[i]? ≠ some (some v)) :
    ∃ v, σ[i]? = some (some v) ∧ R C ow G (ρ.set i none) σ H ((d, v) :: pd) := by
  obtain ⟨v, hv, s⟩ := h.sl i d e
  rw [if_pos hi] at s
  refine ⟨v, hv, lab (fun l π => if l = 2 * i then (2 * pd.length + 1, π) else (l, π)) O, by simp [h.len], h.gh, h.g0, h.gn, ?_, h.cok, h.fr, h.al, h.mp, ?_, ⟨?_, ?_⟩, Nat.le_succ_of_le h.np⟩
  · intro a m e
    obtain ⟨l, π, e1, rfl⟩ := lab_of e
    obtain ⟨q1, q2, q3⟩ := h.og a _ e1
    refine ⟨q1, q2, ?_⟩
    try dsimp only
    split
    · rename_i z
      rcases q3 with q3 | ⟨_, q3⟩
      · exact .inl q3
      · rcases h.cok _ _ _ q3 with ⟨k, u, q4, q5⟩ | ⟨k, q4, _⟩
        · have : k = i := by have := q4.symm.trans z; omega
          exact absurd (this ▸ q5) (hm u)
        · omega
    · exact q3
  · intro j e q
    rcases set_at q with ⟨rfl, z⟩ | ⟨z, q'⟩
    · cases z
    · obtain ⟨u, h1, h2⟩ := h.sl j e q'
      refine ⟨u, h1, ?_⟩
      split at h2
      · rename_i c; rw [if_pos c]; exact h2.keep (fun _ _ z => z) fun a τ q => ⟨by rw [lab_at q, if_neg (by omega)], rfl⟩
      · rename_i c; rw [if_neg c]; exact h2
  · exact s.keep (fun _ _ z => z) fun a τ q => ⟨by rw [lab_at q, if_pos rfl], rfl⟩
  · exact Pend.keep (fun _ _ z => z) (fun a j π hj q => ⟨by rw [lab_at q, if_neg (fun z => even_ne z.symm)], rfl⟩) h.pn
def hasL (O : Own) (l : Nat) (a : Addr) : Bool := match O a with
  | some m => m.1 == l
  | none => false
theorem hasL_iff {l : Nat} {a : Addr} : hasL O l a = true ↔ ∃ π, O a = some (l, π) := by
  unfold hasL
  cases e : O a with
  | none => simp
  | some m => obtain ⟨m1, m2⟩ := m; simp
theorem RO.share {d : D} {v : V} (h : RO C ow G ρ σ H ((d, v) :: pd) O) (hn : C.np ≤ pd.length) : ∃ G', Same G G' ∧ R C ow G' ρ σ H pd ∧ Rep G' d v := by
  let l₀ := 2 * pd.length + 1
  let G' : Hp := fun a => if hasL O l₀ a = true then H a else G a
  have sG : Same G G' := fun a o e => by
    show (if _ then _ else _) = _
    split
    · exact h.gh _ _ e
    · exact e
  have inH : ∀ a τ (o : HO), O a = some (l₀, τ) → H a = some o → G' a = some o := fun a τ xs q e => by
    show (if _ then _ else _) = _
    rw [if_pos (hasL_iff.mpr ⟨_, q⟩)]; exact e
  refine ⟨G', sG, ⟨fun a => if hasL O l₀ a = true then none else O a, h.len, ?_, fun a o e => sG _ _ (h.g0 _ _ e), ?_, ?_, h.cok, h.fr, h.al, h.mp, ?_, ?_, hn⟩, h.pn.1.rep sG.ts d [] v (fun a τ xs q e => inH a _ xs q e)⟩
  · intro a o e
    change (if _ then _ else _) = _ at e
    split at e
    · exact e
    · exact h.gh _ _ e
  · intro a o e
    change (if _ then _ else _) = _ at e
    split at e
    · rename_i c
      obtain ⟨π, q⟩ := hasL_iff.mp c
      obtain ⟨_, _, q3⟩ := h.og a _ q
      rcases q3 with q3 | ⟨_, q3⟩
      · exact .inr q3
      · rcases h.cok _ _ _ q3 with ⟨k, _, q4, _⟩ | ⟨k, q4, q5⟩
        · exact absurd q4.symm even_ne
        · have q4' : 2 * pd.length + 1 = 2 * k + 1 := q4
          omega
    · exact h.gn a o e
  · intro a l e
    try dsimp only at e
    split at e
    · cases e
    · rename_i c
      obtain ⟨q1, q2, q3⟩ := h.og a l e
      exact ⟨by show (if _ then _ else _) = _; rw [if_neg c]; exact q1, q2, q3⟩
  · intro j e q
    obtain ⟨u, h1, h2⟩ := h.sl j e q
    refine ⟨u, h1, ?_⟩
    split at h2
    · rename_i c; rw [if_pos c]
      refine h2.keep sG.ts fun a τ q => ⟨?_, rfl⟩
      rw [if_neg, q]
      intro z
      obtain ⟨π, z⟩ := hasL_iff.mp z
      rw [q] at z
      have := (Prod.mk.inj (Option.some.inj z)).1
      omega
    · rename_i c; rw [if_neg c]; exact h2.mono sG
  · refine Pend.keep sG.ts (fun a j π hj q => ⟨?_, rfl⟩) h.pn.2
    rw [if_neg, q]
    intro z
    obtain ⟨π, z⟩ := hasL_iff.mp z
    rw [q] at z
    have := (Prod.mk.inj (Option.some.inj z)).1
    omega
theorem RO.write (h : RO C ow G ρ σ H pd O) {i : Nat} {ds : List D} (e : ρ[i]? = some (some (.lst ds))) (hi : ow[i]? = some true) :
    ∃ a xs, σ[i]? = some (some (.ref a)) ∧ H a = some (.lst xs) ∧ Seps G H O (2 * i) ds 0 [] xs ∧
      ∀ ds' xs', Seps G H O (2 * i) ds' 0 [] xs' → RO C ow G (ρ.set i (some (.lst ds'))) σ (upd H a (.lst xs')) pd O := by
  obtain ⟨v, hv, s⟩ := h.sl i _ e
  rw [if_pos hi, Sep] at s
  obtain ⟨a, xs, rfl, hO, hH, hs⟩ := s
  refine ⟨a, xs, hv, hH, hs, fun ds' xs' hs' => ?_⟩
  obtain ⟨g0, _, nw⟩ := h.og a _ hO
  have ne : ∀ b l π, O b = some (l, π) → (l ≠ 2 * i ∨ π ≠ []) → b ≠ a := fun b l π q n z => by
    subst z
    rw [hO] at q
    obtain ⟨q1, q2⟩ := Prod.mk.inj (Option.some.inj q)
    rcases n with n | n
    · exact n q1.symm
    · exact n q2.symm
  refine ⟨by simp [h.len], ?_, h.g0, h.gn, ?_, h.cok, ?_, ?_, h.mp, ?_, ?_, h.np⟩
  · intro b o q
    rw [upd_ne (fun z => by rw [z, g0] at q; cases q)]; exact h.gh _ _ q
  · intro b l q
    obtain ⟨q1, ⟨ys, q2⟩, q3⟩ := h.og b l q
    refine ⟨q1, ?_, q3⟩
    by_cases z : b = a
    · subst z; exact ⟨.inl _, upd_same⟩
    · rw [upd_ne z]; exact ⟨ys, q2⟩
  · intro b o q n
    by_cases z : b = a
    · subst z
      rcases nw with nw | ⟨_, nw⟩
      · rw [nw] at q; cases q
      · rw [nw] at n; cases n
    · rw [upd_ne z]; exact h.fr b o q n
  · intro b q
    by_cases z : b = a
    · subst z; rw [upd_same] at q; cases q
    · rw [upd_ne z] at q; exact h.al b q
  · intro j u q
    rcases set_at q with ⟨rfl, z⟩ | ⟨z, q'⟩
    · cases z
      refine ⟨_, hv, ?_⟩
      rw [if_pos hi, Sep]
      exact ⟨a, xs', rfl, hO, upd_same, hs'.keep (fun _ _ z => z) fun b τ hτ q => ⟨q, upd_ne (ne b _ _ q (.inr (by simpa using hτ)))⟩⟩
    · obtain ⟨w, h1, h2⟩ := h.sl j u q'
      refine ⟨w, h1, ?_⟩
      split at h2
      · rename_i c; rw [if_pos c]; exact h2.keep (fun _ _ z => z) fun b τ q => ⟨q, upd_ne (ne b _ _ q (.inl (by omega)))⟩
      · rename_i c; rw [if_neg c]; exact h2
  · exact Pend.keep (fun _ _ z => z) (fun b j π hj q => ⟨q, upd_ne (ne b _ _ q (.inl (fun z => even_ne z.symm)))⟩) h.pn
theorem RO.join {d : D} {v : V} (h : RO C ow G ρ σ H ((d, v) :: pd) O) (i n : Nat) (hn : C.np ≤ pd.length) :
    ∃ O', RO C ow G ρ σ H pd O' ∧ Sep G H O' (2 * i) d [n] v ∧ ∀ (l : Nat) ds k π xs, l ≠ 2 * pd.length + 1 → Seps G H O l ds k π xs → Seps G H O' l ds k π xs := by
  refine ⟨lab (fun l π => if l = 2 * pd.length + 1 then (2 * i, π ++ [n]) else (l, π)) O, ⟨h.len, h.gh, h.g0, h.gn, ?_, h.cok, h.fr, h.al, h.mp, ?_, ?_, hn⟩, ?_, ?_⟩
  · intro a m e
    obtain ⟨l, π, e1, rfl⟩ := lab_of e
    obtain ⟨q1, q2, q3⟩ := h.og a _ e1
    refine ⟨q1, q2, ?_⟩
    try dsimp only
    split
    · rename_i z
      rcases q3 with q3 | ⟨_, q3⟩
      · exact .inl q3
      · rcases h.cok _ _ _ q3 with ⟨k, _, q4, _⟩ | ⟨k, q4, q5⟩
        · exact absurd (q4.symm.trans z) even_ne
        · omega
    · exact q3
  · intro j e q
    obtain ⟨u, h1, h2⟩ := h.sl j e q
    refine ⟨u, h1, ?_⟩
    split at h2
    · rename_i c; rw [if_pos c]; exact h2.keep (fun _ _ z => z) fun a τ q => ⟨by rw [lab_at q, if_neg even_ne], rfl⟩
    · rename_i c; rw [if_neg c]; exact h2
  · exact Pend.keep (fun _ _ z => z) (fun a j π hj q => ⟨by rw [lab_at q, if_neg (by omega)], rfl⟩) h.pn.2
  · exact Sep.map (f := fun π => π ++ [n]) (fun _ _ z => z) (fun _ _ => rfl) d [] v (fun a τ q => ⟨by rw [lab_at q, if_pos rfl], rfl⟩) h.pn.1
  · intro l ds k π xs hl hs
    exact hs.keep (fun _ _ z => z) fun a τ _ q => ⟨by rw [lab_at q, if_neg hl], rfl⟩
end
def bor (js : List Nat) (ow : List Bool) : List Bool := ow.mapIdx fun j b => b && !js.contains j
theorem bor_iff {js : List Nat} {ow : List Bool} {j : Nat} : (bor js ow)[j]? = some true ↔ ow[j]? = some true ∧ js.contains j = false := by
  unfold bor
  rw [List.getElem?_mapIdx]
  cases e : ow[j]? with
  | none => simp
  | some b => cases b <;> simp
def livB (ρ : DSt) (js : List Nat) (n l : Nat) : Bool := if l % 2 = 0 then (match ρ[l / 2]? with | some (some _) => !js.contains (l / 2) | _ => false) else decide (l / 2 < n)
def demB (js : List Nat) (l : Nat) : Bool := decide (l % 2 = 0) && js.contains (l / 2)
def ownOf (f : Nat → Bool) (O : Own) : Own := fun a => match O a with
  | some m => if f m.1 = true then some m else none
  | none => none
theorem ownOf_at {f : Nat → Bool} {O : Own} {a : Addr} {m : Nat × List Nat} (h : O a = some m) (hf : f m.1 = true) : ownOf f O a = some m := by unfold ownOf; rw [h]; show (if _ then _ else _) = _; rw [if_pos hf]
theorem ownOf_of {f : Nat → Bool} {O : Own} {a : Addr} {m : Nat × List Nat} (h : ownOf f O a = some m) : O a = some m ∧ f m.1 = true := by
  unfold ownOf at h
  cases e : O a with
  | none => rw [e] at h; cases h
  | some n =>
    rw [e] at h
    change (if _ then _ else _) = _ at h
    split at h
    · rename_i c; cases h; exact ⟨rfl, c⟩
    · cases h
def isSm {α : Type} : Option α → Bool
  | some _ => true
  | none => false
section
variable {C : Ctx} {ow : List Bool} {G : Hp} {ρ : DSt} {σ : St} {H : Hp} {pd : List (D × V)} {O : Own}
def gBor (js : List Nat) (G H : Hp) (O : Own) : Hp := fun a => if isSm (ownOf (demB js) O a) = true then H a else G a
def cBor (js : List Nat) (G H : Hp) (O : Own) (ρ : DSt) (σ : St) (n : Nat) : Ctx := ⟨gBor js G H O, H, ownOf (livB ρ js n) O, σ, n⟩
theorem gBor_same (h : RO C ow G ρ σ H pd O) (js : List Nat) : Same G (gBor js G H O) := fun a o e => by
  show (if _ then _ else _) = _
  split
  · exact h.gh _ _ e
  · exact e
theorem isSm_of {α : Type} {o : Option α} (h : isSm o = true) : ∃ x, o = some x := by cases o with | none => cases h | some x => exact ⟨x, rfl⟩
theorem RO.enter (h : RO C ow G ρ σ H pd O) (js : List Nat) : RO (cBor js G H O ρ σ pd.length) (bor js ow) (gBor js G H O) ρ σ H pd (ownOf (livB ρ js pd.length) O) := by
  have sG := gBor_same h js
  refine ⟨h.len, ?_, fun _ _ e => e, fun _ _ e => .inl e, ?_, ?_, fun _ _ e _ => e, fun _ e => e, fun _ _ e => e, ?_, ?_, Nat.le_refl _⟩
  · intro a o e
    change (if _ then _ else _) = _ at e
    split at e
    · exact e
    · exact h.gh _ _ e
  · intro a l e
    obtain ⟨e1, e2⟩ := ownOf_of e
    obtain ⟨q1, q2, q3⟩ := h.og a l e1
    refine ⟨?_, q2, .inr ⟨l.2, e⟩⟩
    · show (if _ then _ else _) = _
      rw [if_neg]; exact q1
      intro z
      obtain ⟨m, z⟩ := isSm_of z
      obtain ⟨z1, z2⟩ := ownOf_of z
      rw [e1] at z1; cases z1
      unfold demB at z2; unfold livB at e2
      simp only [Bool.and_eq_true, decide_eq_true_eq] at z2
      rw [if_pos z2.1] at e2
      split at e2
      · rw [z2.2] at e2; cases e2
      · cases e2
  · intro a l π e
    obtain ⟨e1, e2⟩ := ownOf_of e
    unfold livB at e2
    split at e2
    · rename_i c
      split at e2
      · rename_i d hd
        obtain ⟨v, hv, _⟩ := h.sl _ _ hd
        exact .inl ⟨l / 2, v, by omega, hv⟩
      · cases e2
    · exact .inr ⟨l / 2, by omega, of_decide_eq_true e2⟩
  · intro j d e
    obtain ⟨v, h1, h2⟩ := h.sl j d e
    refine ⟨v, h1, ?_⟩
    by_cases c : ow[j]? = some true
    · rw [if_pos c] at h2
      by_cases c2 : js.contains j = true
      · rw [if_neg (fun z => by rw [bor_iff] at z; rw [c2] at z; exact absurd z.2 (by decide))]
        refine h2.rep sG.ts d [] v fun a τ xs q e => ?_
        show (if _ then _ else _) = _
        rw [if_pos]; exact e
        rw [ownOf_at q]; rfl
        unfold demB
        simp only [Bool.and_eq_true, decide_eq_true_eq]
        exact ⟨by omega, by rw [show 2 * j / 2 = j by omega]; exact c2⟩
      · rw [if_pos (bor_iff.mpr ⟨c, by simpa using c2⟩)]
        refine h2.keep sG.ts fun a τ q => ⟨ownOf_at q ?_, rfl⟩
        unfold livB
        show (if 2 * j % 2 = 0 then _ else _) = _
        rw [if_pos (by omega), show 2 * j / 2 = j by omega, e]
        simp at c2 ⊢; exact c2
    · rw [if_neg c] at h2
      rw [if_neg (fun z => c (bor_iff.mp z).1)]
      exact h2.mono sG
  · refine Pend.keep sG.ts (fun a j π hj q => ⟨ownOf_at q ?_, rfl⟩) h.pn
    unfold livB
    show (if (2 * j + 1) % 2 = 0 then _ else _) = _
    rw [if_neg (by omega), show (2 * j + 1) / 2 = j by omega]
    simpa using hj
def Kp (ow : List Bool) (ρ ρ' : DSt) : Prop := ∀ (j : Nat), ow[j]? ≠ some true → ρ'[j]? = ρ[j]?
def gBack (js : List Nat) (O : Own) (G2 : Hp) : Hp := fun a => if isSm (ownOf (demB js) O a) = true then none else G2 a
def oBack (js : List Nat) (O O2 : Own) : Own := fun a => match O2 a with
  | some l => some l
  | none => ownOf (demB js) O a
theorem RO.leave (h : RO C ow G ρ σ H pd O) {js : List Nat} {G2 : Hp} {ρ2 : DSt} {H2 : Hp} {pd2 : List (D × V)} {O2 : Own}
    (h2 : RO (cBor js G H O ρ σ pd.length) (bor js ow) G2 ρ2 σ H2 pd2 O2) (kp : Kp (bor js ow) ρ ρ2) :
    RO C ow (gBack js O G2) ρ2 σ H2 pd2 (oBack js O O2) ∧ Same G (gBack js O G2) ∧ TSame G2 (gBack js O G2) := by
  have sG := gBor_same h js
  have dm : ∀ a m, ownOf (demB js) O a = some m → O a = some m ∧ G a = none ∧ ∃ xs : WrO, H a = some xs.ho ∧ G2 a = some xs.ho := fun a m e => by
    obtain ⟨e1, e2⟩ := ownOf_of e
    obtain ⟨q1, ⟨xs, q2⟩, q3⟩ := h.og a m e1
    refine ⟨e1, q1, xs, q2, h2.g0 a _ ?_⟩
    show (if _ then _ else _) = _
    rw [if_pos (by rw [e]; rfl)]; exact q2
  have nd : ∀ a, G a ≠ none → ¬ isSm (ownOf (demB js) O a) = true := fun a g z => by
    obtain ⟨m, z⟩ := isSm_of z
    exact g (dm a m z).2.1
  have sG3 : Same G (gBack js O G2) := fun a o e => by
    show (if _ then _ else _) = _
    rw [if_neg (nd a (by rw [e]; simp))]
    exact h2.g0 a o (sG a o e)
  have ts : TSame G2 (gBack js O G2) := fun a xs e => by
    show (if _ then _ else _) = _
    rw [if_neg]; exact e
    intro z
    obtain ⟨m, z⟩ := isSm_of z
    obtain ⟨_, _, ys, _, q⟩ := dm a m z
    rw [e] at q; exact (WrO.ne (Option.some.inj q).symm).elim
  have o2 : ∀ a l, O2 a = some l → oBack js O O2 a = some l := fun a l e => by show (match O2 a with | some l => some l | none => _) = _; rw [e]
  refine ⟨⟨h2.len, ?_, fun a o e => sG3 _ _ (h.g0 _ _ e), ?_, ?_, h.cok, ?_, fun a e => h.al a (h2.al a e), h.mp, ?_, ?_, Nat.le_trans h.np h2.np⟩, sG3, ts⟩
  · intro a o e
    change (if _ then _ else _) = _ at e
    split at e
    · cases e
    · exact h2.gh _ _ e
  · intro a o e
    change (if _ then _ else _) = _ at e
    split at e
    · cases e
    · rename_i c
      rcases h2.gn a o e with q | q
      · change (if _ then _ else _) = _ at q
        rw [if_neg c] at q
        exact h.gn a o q
      · exact .inr (h.al a q)
  · intro a l e
    change (match O2 a with | some l => some l | none => _) = _ at e
    cases q : O2 a with
    | some l' =>
      rw [q] at e; cases e
      obtain ⟨q1, q2, q3⟩ := h2.og a l q
      refine ⟨by show (if _ then _ else _) = _; split <;> first | rfl | exact q1, q2, ?_⟩
      rcases q3 with q3 | ⟨q3, q4⟩
      · exact .inl (h.al a q3)
      · exact (h.og a _ (ownOf_of q4).1).2.2
    | none =>
      rw [q] at e
      change ownOf (demB js) O a = some l at e
      obtain ⟨e1, q1, xs, q2, q3⟩ := dm a l e
      refine ⟨by show (if _ then _ else _) = _; rw [if_pos (by rw [e]; rfl)], ⟨xs, h2.gh _ _ q3⟩, (h.og a l e1).2.2⟩
  · intro a o e n
    have q := h.fr a o e n
    refine h2.fr a o q ?_
    show ownOf _ O a = none
    cases z : ownOf (livB ρ js pd.length) O a with
    | none => rfl
    | some m =>
      obtain ⟨z1, _⟩ := ownOf_of z
      obtain ⟨_, _, z3⟩ := h.og a m z1
      rcases z3 with z3 | ⟨_, z3⟩
      · rw [z3] at e; cases e
      · rw [z3] at n; cases n
  · intro j d e
    by_cases c : (bor js ow)[j]? = some true
    · obtain ⟨v, q1, q2⟩ := h2.sl j d e
      rw [if_pos c] at q2
      refine ⟨v, q1, ?_⟩
      rw [if_pos (bor_iff.mp c).1]
      exact q2.keep ts fun a τ q => ⟨o2 _ _ q, rfl⟩
    · rw [kp j c] at e
      obtain ⟨v, q1, q2⟩ := h.sl j d e
      refine ⟨v, q1, ?_⟩
      by_cases c2 : ow[j]? = some true
      · rw [if_pos c2] at q2 ⊢
        have hj : js.contains j = true := by
          cases z : js.contains j with
          | true => rfl
          | false => exact absurd (bor_iff.mpr ⟨c2, z⟩) c
        refine q2.keep sG3.ts fun a τ q => ?_
        have dd : ownOf (demB js) O a = some (2 * j, τ ++ []) := ownOf_at q (by
          unfold demB
          simp only [Bool.and_eq_true, decide_eq_true_eq]
          exact ⟨by omega, by rw [show 2 * j / 2 = j by omega]; exact hj⟩)
        obtain ⟨_, _, xs, q4, q5⟩ := dm a _ dd
        refine ⟨?_, by rw [q4]; exact h2.gh _ _ q5⟩
        show (match O2 a with | some l => some l | none => _) = _
        cases z : O2 a with
        | some l => have := (h2.og a l z).1; rw [q5] at this; cases this
        | none => exact dd
      · rw [if_neg c2] at q2 ⊢
        exact q2.mono sG3
  · exact Pend.keep ts (fun a j π hj q => ⟨o2 _ _ q, rfl⟩) h2.pn
end
abbrev ME := DSt → (D → DSt → Prop) → Prop
abbrev MT := DSt → (Bool → DSt → Prop) → Prop
abbrev MA := DSt → (List D → DSt → Prop) → Prop
def SE (ow : List Bool) (t : TE) (m : ME) : Prop := ∀ (C : Ctx) (G : Hp) (ρ : DSt) (σ : St) (H : Hp) (pd : List (D × V)) (q : D → DSt → Prop) (Q : VK), R C ow G ρ σ H pd → m ρ q →
  (∀ d ρ' v G' H', q d ρ' → Same G G' → Kp ow ρ ρ' → R C ow G' ρ' σ H' pd → Rep G' d v → Q v H') → t σ H Q
def SF (ow : List Bool) (t : TE) (m : ME) : Prop := ∀ (C : Ctx) (G : Hp) (ρ : DSt) (σ : St) (H : Hp) (pd : List (D × V)) (q : D → DSt → Prop) (Q : VK), R C ow G ρ σ H pd → m ρ q →
  (∀ d ρ' v G' H', q d ρ' → Same G G' → Kp ow ρ ρ' → R C ow G' ρ' σ H' ((d, v) :: pd) → Q v H') → t σ H Q
def STe (ow : List Bool) (t : TT) (m : MT) : Prop := ∀ (C : Ctx) (G : Hp) (ρ : DSt) (σ : St) (H : Hp) (pd : List (D × V)) (q : Bool → DSt → Prop) (Q : Bool → Hp → Prop), R C ow G ρ σ H pd → m ρ q →
  (∀ b ρ' G' H', q b ρ' → Same G G' → Kp ow ρ ρ' → R C ow G' ρ' σ H' pd → Q b H') → t σ H Q
def SA (ow : List Bool) (n : Nat) (t : TA) (m : MA) : Prop := ∀ (C : Ctx) (G : Hp) (ρ : DSt) (σ : St) (H : Hp) (pd : List (D × V)) (q : List D → DSt → Prop) (Q : List V → Hp → Prop), R C ow G ρ σ H pd → m ρ q →
  (∀ ds ρ' vs G' H', q ds ρ' → Same G G' → Kp ow ρ ρ' → R C ow G' ρ' σ H' pd → Reps G' ds vs → vs.length = n → Q vs H') → t σ H Q
structure QE (X : Cx) (ow : List Bool) (e : Expr) (m : ME) : Prop where
  ex : ∃ t, PE X e t ∧ SE ow t m
structure QF (X : Cx) (ow : List Bool) (e : Expr) (m : ME) : Prop where
  ex : ∃ t, PE X e t ∧ SF ow t m
structure QT (X : Cx) (ow : List Bool) (e : Expr) (m : MT) : Prop where
  ex : ∃ t, PT X e t ∧ STe ow t m
structure QW (X : Cx) (ow : List Bool) (e : Expr) (m : MT) : Prop where
  ex : ∃ t, PW X e t ∧ STe ow t m
structure QA (X : Cx) (ow : List Bool) (es : List Expr) (m : MA) : Prop where
  ex : ∃ t, PA X es t ∧ SA ow es.length t m
theorem Kp.refl {ow : List Bool} {ρ : DSt} : Kp ow ρ ρ := fun _ _ => rfl
theorem Kp.trans {ow : List Bool} {ρ ρ1 ρ2 : DSt} (a : Kp ow ρ ρ1) (b : Kp ow ρ1 ρ2) : Kp ow ρ ρ2 := fun j h => (b j h).trans (a j h)
theorem R.gh {C : Ctx} {ow : List Bool} {G : Hp} {ρ : DSt} {σ : St} {H : Hp} {pd : List (D × V)} (h : R C ow G ρ σ H pd) : Same G H := let ⟨_, h⟩ := h; h.gh
theorem R.np {C : Ctx} {ow : List Bool} {G : Hp} {ρ : DSt} {σ : St} {H : Hp} {pd : List (D × V)} (h : R C ow G ρ σ H pd) : C.np ≤ pd.length := let ⟨_, h⟩ := h; h.np
section
variable {X : Cx} {ow : List Bool} {a b c e : Expr} {ma mb mc : ME} {pos : Pos}
def mVar (i : Nat) : ME := fun ρ q => match ρ[i]? with
  | some (some d) => q d ρ
  | _ => False
theorem qe_var (i : Nat) {x : Str} (hs : ow[i]? ≠ some true := by decide) (hN : X.N[i]? = some x := by rfl) (hv : Vis X.env.scope x := by first | exact Or.inl rfl | exact Or.inr (Or.inl rfl) | exact Or.inr (Or.inr rfl)) (hd : (x == ("__debug__" : Str)) = false := by decide)
    (hcd : (x == ("__classdict__" : Str)) = false := by decide) : QE X ow (.Name x pos) (mVar i) := ⟨_, pe_var hN hv hd hcd, fun C G ρ σ H pd q Q r h k => by
  unfold mVar at h
  split at h
  · rename_i d e
    obtain ⟨O, ro⟩ := r
    obtain ⟨v, h1, h2⟩ := ro.sl i d e
    rw [if_neg hs] at h2
    exact ⟨v, h1, k d ρ v G H h (Same.refl _) Kp.refl ⟨O, ro⟩ h2⟩
  · exact h.elim⟩
def mC (d : D) : ME := fun ρ q => q d ρ
theorem qe_c {v : V} {d : D} (h : PE X e (tC v)) (hr : ∀ G, Rep G d v) : QE X ow e (mC d) := ⟨_, h, fun C G ρ σ H pd q Q r h k => k d ρ v G H h (Same.refl _) Kp.refl r (hr G)⟩
theorem qe_int {i j} : QE X ow (.Constant (.int i) j pos) (mC (.int i)) := qe_c pe_int fun _ => rep_int _
theorem qe_bl {i j} : QE X ow (.Constant (.bool i) j pos) (mC (.bl i)) := qe_c pe_bl fun _ => rep_bl _
theorem qe_non {j} : QE X ow (.Constant .none j pos) (mC .non) := qe_c pe_non fun _ => rep_non
theorem qe_str {i j} : QE X ow (.Constant (.str i) j pos) (mC (.str i)) := qe_c pe_str fun _ => rep_str _
theorem qe_globI {x : Str} {i : Int} (hg : Gl X x) (hm : ∃ t, X.mg x = some (.int i t)) (hd : (x == ("__debug__" : Str)) = false := by decide) : QE X ow (.Name x pos) (mC (.int i)) := by
  obtain ⟨t, hm⟩ := hm
  exact qe_c (pe_glob (v := .int i) hg hm ⟨t, rfl⟩ hd) fun _ => rep_int _
theorem se_two {ta tb : TE} (ha : SE ow ta ma) (hb : SE ow tb mb) {C : Ctx} {G : Hp} {ρ : DSt} {σ : St} {H : Hp} {pd : List (D × V)} {f : D → D → DSt → Prop} {Q : V → V → Hp → Prop}
    (r : R C ow G ρ σ H pd) (h : ma ρ fun x ρ1 => mb ρ1 fun y ρ2 => f x y ρ2)
    (k : ∀ dx dy ρ' x y G' H', f dx dy ρ' → Same G G' → Kp ow ρ ρ' → R C ow G' ρ' σ H' pd → Rep G' dx x → Rep G' dy y → Q x y H') : ta σ H fun x H1 => tb σ H1 fun y H2 => Q x y H2 := by
  refine ha C G ρ σ H pd _ _ r h fun dx ρ1 x G1 H1 h1 s1 k1 r1 p1 => ?_
  refine hb C G1 ρ1 σ H1 pd _ _ r1 h1 fun dy ρ2 y G2 H2 h2 s2 k2 r2 p2 => ?_
  exact k dx dy ρ2 x y G2 H2 h2 (s1.trans s2) (k1.trans k2) r2 (Rep.mono s2 _ _ p1) p2
def DOp (r : R2) (f : D → D → (D → Prop) → Prop) : Prop := ∀ (G H : Hp) (x y : V) (dx dy : D) (q : D → Prop) (Q : VK), Same G H → Rep G dx x → Rep G dy y → f dx dy q → (∀ d v, q d → Rep G d v → Q v H) → r x y H Q
def mOp (f : D → D → (D → Prop) → Prop) (ma mb : ME) : ME := fun ρ q => ma ρ fun x ρ1 => mb ρ1 fun y ρ2 => f x y fun d => q d ρ2
theorem se_op {r : R2} {f : D → D → (D → Prop) → Prop} {ta tb : TE} (hd : DOp r f) (ha : SE ow ta ma) (hb : SE ow tb mb) : SE ow (tOp r ta tb) (mOp f ma mb) := fun C G ρ σ H pd q Q hr h k => by
  refine se_two ha hb hr h fun dx dy ρ' x y G' H' hf s kp r' p1 p2 => ?_
  exact hd G' H' x y dx dy _ _ r'.gh p1 p2 hf fun d v hq p => k d ρ' v G' H' hq s kp r' p
theorem qe_op {op : Operator} {r : R2} {f : D → D → (D → Prop) → Prop} (ho : OpR X (binaryOp op) r) (hd : DOp r f) (ha : QE X ow a ma) (hb : QE X ow b mb) : QE X ow (.BinOp a op b pos) (mOp f ma mb) := by
  obtain ⟨ta, pa, sa⟩ := ha; obtain ⟨tb, pb, sb⟩ := hb
  exact ⟨_, pe_op ho pa pb, se_op hd sa sb⟩
theorem qe_cmp {op : CmpOp} {r : R2} {f : D → D → (D → Prop) → Prop} (ho : OpR X (compareOp op) r) (hd : DOp r f) (ha : QE X ow a ma) (hb : QE X ow b mb) (hm : behindInMarks op b = false) : QE X ow (.Compare a [op] [b] pos) (mOp f ma mb) := by
  obtain ⟨ta, pa, sa⟩ := ha; obtain ⟨tb, pb, sb⟩ := hb
  exact ⟨_, pe_cmpR ho pa pb hm, se_op hd sa sb⟩
theorem qe_ix {r : R2} {f : D → D → (D → Prop) → Prop} (ho : IxR X r) (hd : DOp r f) (ha : QE X ow a ma) (hb : QE X ow b mb) (hs : PlainIx b) : QE X ow (.Subscript a b pos) (mOp f ma mb) := by
  obtain ⟨ta, pa, sa⟩ := ha; obtain ⟨tb, pb, sb⟩ := hb
  exact ⟨_, pe_ix ho pa pb hs, se_op hd sa sb⟩
def mB (m : ME) : MT := fun ρ q => m ρ fun d ρ' => match d with
  | .bl b => q b ρ'
  | _ => False
theorem rep_bl_of {G : Hp} {b : Bool} {v : V} (h : Rep G (.bl b) v) : v = .bl b := by rw [Rep] at h; exact h
theorem rep_int_of {G : Hp} {b : Int} {v : V} (h : Rep G (.int b) v) : v = .int b := by rw [Rep] at h; exact h
theorem st_of {t : TE} {m : ME} (h : SE ow t m) : STe ow (tTest t) (mB m) := fun C G ρ σ H pd q Q r hm k => by
  refine h C G ρ σ H pd _ _ r hm fun d ρ' v G' H' hq s kp r' p => ?_
  cases d with
  | bl b => exact ⟨b, rep_bl_of p, k b ρ' G' H' hq s kp r'⟩
  | _ => exact hq.elim
theorem qt_cmp {op : CmpOp} {r : R2} {f : D → D → (D → Prop) → Prop} (ho : OpR X (compareOp op) r) (hd : DOp r f) (ha : QE X ow a ma) (hb : QE X ow b mb) (hm : behindInMarks op b = false) : QT X ow (.Compare a [op] [b] pos) (mB (mOp f ma mb)) := by
  obtain ⟨ta, pa, sa⟩ := ha; obtain ⟨tb, pb, sb⟩ := hb
  exact ⟨_, pt_cmpR ho pa pb hm, st_of (se_op hd sa sb)⟩
theorem qt_val (h : QE X ow e ma) (he : ∀ whole, isTrue e X.env whole = (do let v ← whole; standAt e.pos; holding [v] (truthy v)) := by intro _; rfl) : QT X ow e (mB ma) := by
  obtain ⟨ta, pa, sa⟩ := h
  exact ⟨_, pt_val pa he, st_of sa⟩
def mIf {α : Type} (m : MT) (x y : DSt → (α → DSt → Prop) → Prop) : DSt → (α → DSt → Prop) → Prop := fun ρ q => m ρ fun b ρ1 => if b = true then x ρ1 q else y ρ1 q
def mYes (b : Bool) : MT := fun ρ q => q b ρ
theorem st_if {t t1 t2 : TT} {m m1 m2 : MT} (h : STe ow t m) (h1 : STe ow t1 m1) (h2 : STe ow t2 m2) : STe ow (fun σ H Q => t σ H fun c H1 => if c = true then t1 σ H1 Q else t2 σ H1 Q) (mIf m m1 m2) := fun C G ρ σ H pd q Q r hm k => by
  refine h C G ρ σ H pd _ _ r hm fun b ρ' G' H' hq s kp r' => ?_
  cases b with
  | true => rw [if_pos rfl] at hq ⊢; exact h1 C G' ρ' σ H' pd _ _ r' hq fun b ρ2 G2 H2 hq2 s2 kp2 r2 => k b ρ2 G2 H2 hq2 (s.trans s2) (kp.trans kp2) r2
  | false => rw [if_neg (by decide)] at hq ⊢; exact h2 C G' ρ' σ H' pd _ _ r' hq fun b ρ2 G2 H2 hq2 s2 kp2 r2 => k b ρ2 G2 H2 hq2 (s.trans s2) (kp.trans kp2) r2
theorem st_yes (b : Bool) : STe ow (fun _ H Q => Q b H) (mYes b) := fun C G ρ σ H pd q Q r hm k => k b ρ G H hm (Same.refl _) Kp.refl r
variable {mt mu mv : MT} {rest : List Expr}
theorem qw_and1 (h : QT X ow a mt) : QW X ow (.BoolOp .And [a] pos) mt := by obtain ⟨t, p, s⟩ := h; exact ⟨_, pw_and1 p, s⟩
theorem qw_or1 (h : QT X ow a mt) : QW X ow (.BoolOp .Or [a] pos) mt := by obtain ⟨t, p, s⟩ := h; exact ⟨_, pw_or1 p, s⟩
theorem qw_and (h : QT X ow a mt) (h2 : QW X ow (.BoolOp .And (b :: rest) pos) mu) : QW X ow (.BoolOp .And (a :: b :: rest) pos) (mIf mt mu (mYes false)) := by
  obtain ⟨t, p, s⟩ := h; obtain ⟨t2, p2, s2⟩ := h2; exact ⟨_, pw_and p p2, st_if s s2 (st_yes false)⟩
theorem qw_or (h : QT X ow a mt) (h2 : QW X ow (.BoolOp .Or (b :: rest) pos) mu) : QW X ow (.BoolOp .Or (a :: b :: rest) pos) (mIf mt (mYes true) mu) := by
  obtain ⟨t, p, s⟩ := h; obtain ⟨t2, p2, s2⟩ := h2; exact ⟨_, pw_or p p2, st_if s (st_yes true) s2⟩
theorem QW.qt (h : QW X ow e mt) : QT X ow e mt := by obtain ⟨t, p, s⟩ := h; exact ⟨_, p.pt, s⟩
def mNot (m : MT) : MT := fun ρ q => m ρ fun b ρ' => q (!b) ρ'
theorem qt_not (h : QT X ow a mt) : QT X ow (.UnaryOp .Not a pos) (mNot mt) := by
  obtain ⟨t, p, s⟩ := h
  exact ⟨_, pt_not p, fun C G ρ σ H pd q Q r hm k => s C G ρ σ H pd _ _ r hm fun b ρ' G' H' hq s kp r' => k _ ρ' G' H' hq s kp r'⟩
def mV (m : MT) : ME := fun ρ q => m ρ fun b ρ' => q (.bl b) ρ'
theorem qe_one {op} (h : QE X ow a ma) : QE X ow (.BoolOp op [a] pos) ma := by obtain ⟨t, p, s⟩ := h; exact ⟨_, pe_one p, s⟩
theorem qe_not (h : QE X ow a ma) : QE X ow (.UnaryOp .Not a pos) (mV (mNot (mB ma))) := by
  obtain ⟨t, p, s⟩ := h
  refine ⟨_, pe_not p, fun C G ρ σ H pd q Q r hm k => ?_⟩
  refine s C G ρ σ H pd _ _ r hm fun d ρ' v G' H' hq s kp r' p => ?_
  cases d with
  | bl b => exact ⟨b, rep_bl_of p, k _ ρ' _ G' H' hq s kp r' (rep_bl _)⟩
  | _ => exact hq.elim
theorem qe_and (h : QE X ow a ma) (h2 : QE X ow (.BoolOp .And (b :: rest) pos) mb) : QE X ow (.BoolOp .And (a :: b :: rest) pos) (mIf (mB ma) mb (mC (.bl false))) := by
  obtain ⟨t, p, s⟩ := h; obtain ⟨t2, p2, s2⟩ := h2
  refine ⟨_, pe_and p p2, fun C G ρ σ H pd q Q r hm k => ?_⟩
  refine s C G ρ σ H pd _ _ r hm fun d ρ' v G' H' hq s kp r' p => ?_
  cases d with
  | bl b =>
    refine ⟨b, rep_bl_of p, ?_⟩
    change (if b = true then _ else _) at hq
    cases b with
    | true => rw [if_pos rfl] at hq ⊢; exact s2 C G' ρ' σ H' pd _ _ r' hq fun d ρ2 v G2 H2 hq2 z2 kp2 r2 p2 => k d ρ2 v G2 H2 hq2 (s.trans z2) (kp.trans kp2) r2 p2
    | false => rw [if_neg (by decide)] at hq ⊢; exact k _ ρ' _ G' H' hq s kp r' (rep_bl _)
  | _ => exact hq.elim
theorem QF.qe (h : QF X ow e ma) : QE X ow e ma := by
  obtain ⟨t, p, s⟩ := h
  refine ⟨_, p, fun C G ρ σ H pd q Q r hm k => s C G ρ σ H pd _ _ r hm fun d ρ' v G' H' hq s kp r' => ?_⟩
  obtain ⟨O, r'⟩ := r'
  obtain ⟨G2, s2, r2, p2⟩ := r'.share r.np
  exact k d ρ' v G2 H' hq (s.trans s2) kp r2 p2
def mImm (m : ME) : ME := fun ρ q => m ρ fun d ρ' => imm d = true ∧ q d ρ'
theorem QE.qf (h : QE X ow e ma) : QF X ow e (mImm ma) := by
  obtain ⟨t, p, s⟩ := h
  refine ⟨_, p, fun C G ρ σ H pd q Q r hm k => s C G ρ σ H pd _ _ r hm fun d ρ' v G' H' hq s kp r' p => ?_⟩
  obtain ⟨O, r'⟩ := r'
  exact k d ρ' v G' H' hq.2 s kp ⟨O, r'.len, r'.gh, r'.g0, r'.gn, r'.og, r'.cok, r'.fr, r'.al, r'.mp, r'.sl, ⟨p.sep d [] v hq.1, r'.pn⟩, Nat.le_succ_of_le r'.np⟩
theorem kp_bor {js : List Nat} {ρ ρ' : DSt} (h : Kp (bor js ow) ρ ρ') : Kp ow ρ ρ' := fun j n => h j fun z => n (bor_iff.mp z).1
theorem QE.bor (js : List Nat) (h : QE X (bor js ow) e ma) : QE X ow e (mImm ma) := by
  obtain ⟨t, p, s⟩ := h
  refine ⟨_, p, fun C G ρ σ H pd q Q r hm k => ?_⟩
  obtain ⟨O, r⟩ := r
  refine s _ _ ρ σ H pd _ _ ⟨_, r.enter js⟩ hm fun d ρ' v G' H' hq s kp r' p => ?_
  obtain ⟨O', r'⟩ := r'
  obtain ⟨r2, s2, ts⟩ := r.leave r' kp
  exact k d ρ' v _ H' hq.2 s2 (kp_bor kp) ⟨_, r2⟩ (p.imms ts d v hq.1)
theorem QF.bor (js : List Nat) (h : QF X (bor js ow) e ma) : QF X ow e ma := by
  obtain ⟨t, p, s⟩ := h
  refine ⟨_, p, fun C G ρ σ H pd q Q r hm k => ?_⟩
  obtain ⟨O, r⟩ := r
  refine s _ _ ρ σ H pd _ _ ⟨_, r.enter js⟩ hm fun d ρ' v G' H' hq s kp r' => ?_
  obtain ⟨O', r'⟩ := r'
  obtain ⟨r2, s2, ts⟩ := r.leave r' kp
  exact k d ρ' v _ H' hq s2 (kp_bor kp) ⟨_, r2⟩
theorem QT.bor (js : List Nat) (h : QT X (bor js ow) e mt) : QT X ow e mt := by
  obtain ⟨t, p, s⟩ := h
  refine ⟨_, p, fun C G ρ σ H pd q Q r hm k => ?_⟩
  obtain ⟨O, r⟩ := r
  refine s _ _ ρ σ H pd _ _ ⟨_, r.enter js⟩ hm fun d ρ' G' H' hq s kp r' => ?_
  obtain ⟨O', r'⟩ := r'
  obtain ⟨r2, s2, ts⟩ := r.leave r' kp
  exact k d ρ' _ H' hq s2 (kp_bor kp) ⟨_, r2⟩
def mNil : MA := fun ρ q => q [] ρ
def mCons (m : ME) (r : MA) : MA := fun ρ q => m ρ fun d ρ1 => r ρ1 fun ds ρ2 => q (d :: ds) ρ2
variable {mr : MA} {es : List Expr}
theorem qa_nil : QA X ow [] mNil := ⟨_, pa_nil, fun C G ρ σ H pd q Q r h k => k [] ρ [] G H h (Same.refl _) Kp.refl r reps_nil rfl⟩
theorem qa_cons (ha : QE X ow e ma) (hr : QA X ow es mr) (hs : starEach (e :: es) X.env = (false, eval e X.env) :: starEach es X.env := by rfl) : QA X ow (e :: es) (mCons ma mr) := by
  obtain ⟨t, p, s⟩ := ha; obtain ⟨t2, p2, s2⟩ := hr
  refine ⟨_, pa_cons p p2 hs, fun C G ρ σ H pd q Q r hm k => ?_⟩
  refine s C G ρ σ H pd _ _ r hm fun d ρ' v G' H' hq z kp r' p => ?_
  refine s2 C G' ρ' σ H' pd _ _ r' hq fun ds ρ2 vs G2 H2 hq2 z2 kp2 r2 p2 hl => ?_
  exact k (d :: ds) ρ2 (v :: vs) G2 H2 hq2 (z.trans z2) (kp.trans kp2) r2 (reps_cons (Rep.mono z2 _ _ p) p2) (by simp [hl])
def mTup (m : MA) : ME := fun ρ q => m ρ fun ds ρ' => q (.tup ds) ρ'
def mLst (m : MA) : ME := fun ρ q => m ρ fun ds ρ' => q (.lst ds) ρ'
def mLstI (m : MA) : ME := fun ρ q => m ρ fun ds ρ' => imms ds = true ∧ q (.lst ds) ρ'
theorem le_line {n : Nat} (h : n ≤ 1000) : n ≤ sizeLine := Nat.le_of_lt (small1000 h)
theorem qe_tup {x1} (h : QA X ow es mr) (hl : es.length ≤ 1000 := by decide) : QE X ow (.Tuple es x1 pos) (mTup mr) := by
  obtain ⟨t, p, s⟩ := h
  refine ⟨_, pe_tup p, fun C G ρ σ H pd q Q r hm k => s C G ρ σ H pd _ _ r hm fun ds ρ' vs G' H' hq z kp r' p hn => ⟨le_line (by omega), fun a ha => ?_⟩⟩
  obtain ⟨O, r'⟩ := r'
  obtain ⟨r2, s2⟩ := r'.new ha (.tup vs)
  exact k _ ρ' _ _ _ hq (z.trans s2) kp ⟨O, r2⟩ (rep_tup upd_same (Reps.mono s2 _ _ p))
theorem qe_lst (h : QA X ow es mr) (hl : es.length ≤ 1000 := by decide) : QE X ow (.List es pos) (mLst mr) := by
  obtain ⟨t, p, s⟩ := h
  refine ⟨_, pe_lst p, fun C G ρ σ H pd q Q r hm k => s C G ρ σ H pd _ _ r hm fun ds ρ' vs G' H' hq z kp r' p hn => ⟨le_line (by omega), fun a ha => ?_⟩⟩
  obtain ⟨O, r'⟩ := r'
  obtain ⟨r2, s2⟩ := r'.new ha (.lst vs)
  exact k _ ρ' _ _ _ hq (z.trans s2) kp ⟨O, r2⟩ (rep_lst upd_same (Reps.mono s2 _ _ p))
theorem qf_lst (h : QA X ow es mr) (hl : es.length ≤ 1000 := by decide) : QF X ow (.List es pos) (mLstI mr) := by
  obtain ⟨t, p, s⟩ := h
  refine ⟨_, pe_lst p, fun C G ρ σ H pd q Q r hm k => s C G ρ σ H pd _ _ r hm fun ds ρ' vs G' H' hq z kp r' p hn => ⟨le_line (by omega), fun a ha => ?_⟩⟩
  obtain ⟨O, r'⟩ := r'
  exact k _ ρ' _ _ _ hq.2 z kp (r'.newL ha hq.1 p)
def DCall (r : List V → Hp → VK → Prop) (f : List D → (D → Prop) → Prop) : Prop := ∀ (G H : Hp) (xs : List V) (ds : List D) (q : D → Prop) (Q : VK), Same G H → Reps G ds xs → f ds q → (∀ d v, q d → Rep G d v → Q v H) → r xs H Q
def mCB (f : List D → (D → Prop) → Prop) (m : MA) : ME := fun ρ q => m ρ fun ds ρ' => f ds fun d => q d ρ'
theorem se_cb {r : List V → Hp → VK → Prop} {f : List D → (D → Prop) → Prop} {t : TA} {n : Nat} (hd : DCall r f) (s : SA ow n t mr) : SE ow (tCB r t) (mCB f mr) := fun C G ρ σ H pd q Q hr hm k =>
  s C G ρ σ H pd _ _ hr hm fun ds ρ' vs G' H' hq z kp r' p hn => hd G' H' vs ds _ _ r'.gh p hq fun d v hq p => k d ρ' v G' H' hq z kp r' p
variable {x : Str} {p' : Pos}
theorem qe_callB {id : String} {r : List V → Hp → VK → Prop} {f : List D → (D → Prop) → Prop} (hc : CallR X (.builtin id) r) (hd : DCall r f) (hg : Gl X x) (hm : X.mg x = none) (hv : bootBuiltins x = some (.builtin id)) (ha : QA X ow (e :: es) mr) (hn : x ≠ "__name__" := by decide) (hdb : (x == ("__debug__" : Str)) = false := by decide)
    (he : starEach (e :: es) X.env = (false, eval e X.env) :: starEach es X.env := by rfl) (hpl : (backTo pos (starEach es X.env)).any (·.1) = false := by rfl) : QE X ow (.Call (.Name x p') (e :: es) [] pos) (mCB f mr) := by
  obtain ⟨t, p, s⟩ := ha
  exact ⟨_, pe_callB hc hg hm hv p hn hdb he hpl, se_cb hd s⟩
theorem qe_callTy {id : String} {r : List V → Hp → VK → Prop} {f : List D → (D → Prop) → Prop} (hc : CallR X (.type id) r) (hd : DCall r f) (hg : Gl X x) (hm : X.mg x = none) (hv : bootBuiltins x = some (.type id)) (ha : QA X ow (e :: es) mr) (hn : x ≠ "__name__" := by decide) (hdb : (x == ("__debug__" : Str)) = false := by decide)
    (he : starEach (e :: es) X.env = (false, eval e X.env) :: starEach es X.env := by rfl) (hpl : (backTo pos (starEach es X.env)).any (·.1) = false := by rfl) : QE X ow (.Call (.Name x p') (e :: es) [] pos) (mCB f mr) := by
  obtain ⟨t, p, s⟩ := ha
  exact ⟨_, pe_callTy hc hg hm hv p hn hdb he hpl, se_cb hd s⟩
end
def fI (g : Int → Int → Int) : D → D → (D → Prop) → Prop := fun a b q => match a, b with
  | .int i, .int j => q (.int (g i j))
  | _, _ => False
def fIC (C : Int → Int → Prop) (g : Int → Int → Int) : D → D → (D → Prop) → Prop := fun a b q => match a, b with
  | .int i, .int j => C i j ∧ q (.int (g i j))
  | _, _ => False
def fB (g : Int → Int → Bool) : D → D → (D → Prop) → Prop := fun a b q => match a, b with
  | .int i, .int j => q (.bl (g i j))
  | _, _ => False
theorem dI {g : Int → Int → Int} : DOp (rI0 fun i j => .int (g i j)) (fI g) := fun G H x y dx dy q Q s p1 p2 hf k => by
  unfold fI at hf
  split at hf
  · exact ⟨_, _, rep_int_of p1, rep_int_of p2, k _ _ hf (rep_int _)⟩
  · exact hf.elim
theorem dIC {C : Int → Int → Prop} {g : Int → Int → Int} : DOp (rI C fun i j => .int (g i j)) (fIC C g) := fun G H x y dx dy q Q s p1 p2 hf k => by
  unfold fIC at hf
  split at hf
  · exact ⟨_, _, rep_int_of p1, rep_int_of p2, hf.1, k _ _ hf.2 (rep_int _)⟩
  · exact hf.elim
theorem dB {g : Int → Int → Bool} : DOp (rI0 fun i j => .bl (g i j)) (fB g) := fun G H x y dx dy q Q s p1 p2 hf k => by
  unfold fB at hf
  split at hf
  · exact ⟨_, _, rep_int_of p1, rep_int_of p2, k _ _ hf (rep_bl _)⟩
  · exact hf.elim
def eqD (a b : D) : Bool := PyData.eqv (toP a) (toP b)
def okD (a : D) : Bool := SeqAt.shaped (toP a)
def fEq : D → D → (D → Prop) → Prop := fun a b q => match a, b with
  | .int i, .int j => q (.bl (decide (i = j)))
  | a, b => okD a = true ∧ okD b = true ∧ q (.bl (eqD a b))
def fNe : D → D → (D → Prop) → Prop := fun a b q => match a, b with
  | .int i, .int j => q (.bl (!decide (i = j)))
  | a, b => okD a = true ∧ okD b = true ∧ q (.bl (!eqD a b))
theorem eqD_int (i j : Int) : eqD (.int i) (.int j) = decide (i = j) := by
  unfold eqD; rw [toP, toP, PyData.eqv]; first | rfl | (rw [Bool.beq_eq_decide_eq])
theorem okD_int (i : Int) : okD (.int i) = true := by unfold okD; rw [toP]; rfl
theorem dEq : DOp rEqD fEq := fun G H x y dx dy q Q s p1 p2 hf k => by
  have main : okD dx = true ∧ okD dy = true ∧ q (.bl (eqD dx dy)) := by
    unfold fEq at hf
    split at hf
    · exact ⟨okD_int _, okD_int _, by rw [eqD_int]; exact hf⟩
    · exact hf
  exact ⟨dx, dy, Rep.mono s _ _ p1, Rep.mono s _ _ p2, main.1, main.2.1, k _ _ main.2.2 (rep_bl _)⟩
theorem dNe : DOp rNeD fNe := fun G H x y dx dy q Q s p1 p2 hf k => by
  have main : okD dx = true ∧ okD dy = true ∧ q (.bl (!eqD dx dy)) := by
    unfold fNe at hf
    split at hf
    · exact ⟨okD_int _, okD_int _, by rw [eqD_int]; exact hf⟩
    · exact hf
  exact ⟨dx, dy, Rep.mono s _ _ p1, Rep.mono s _ _ p2, main.1, main.2.1, k _ _ main.2.2 (rep_bl _)⟩
def isNon : D → Bool
  | .non => true
  | _ => false
theorem rep_non_iff {G : Hp} {d : D} {v : V} (h : Rep G d v) : decide (v = .non) = isNon d := by
  cases d <;> rw [Rep] at h
  case non => subst h; rfl
  case tup => obtain ⟨a, xs, rfl, _⟩ := h; rfl
  case lst => obtain ⟨a, xs, rfl, _⟩ := h; rfl
  case dct => obtain ⟨a, xs, rfl, _⟩ := h; rfl
  case dic => obtain ⟨a, xs, rfl, _⟩ := h; rfl
  case scr => obtain ⟨a, rfl, _⟩ := h; rfl
  case ext => obtain ⟨a, H0, rfl, _⟩ := h; rfl
  all_goals subst h; rfl
def fIsN : D → D → (D → Prop) → Prop := fun a b q => match b with
  | .non => q (.bl (isNon a))
  | _ => False
theorem dIsN : DOp (fun x y H Q => y = .non ∧ Q (.bl (decide (x = .non))) H) fIsN := fun G H x y dx dy q Q s p1 p2 hf k => by
  unfold fIsN at hf
  split at hf
  · rw [Rep] at p2; exact ⟨p2, by rw [rep_non_iff p1]; exact k _ _ hf (rep_bl _)⟩
  · exact hf.elim
def fIsB : D → D → (D → Prop) → Prop := fun a b q => match a, b with
  | .bl x, .bl y => q (.bl (x == y))
  | _, _ => False
def flatD : D → Bool
  | .non => true
  | .bl _ => true
  | .int _ => true
  | .str _ => true
  | _ => false
def eqF : D → D → Bool
  | .non, .non => true
  | .bl a, .bl b => a == b
  | .bl a, .int b => (if a then 1 else 0) == b
  | .int a, .bl b => a == (if b then 1 else 0)
  | .int a, .int b => a == b
  | .str a, .str b => a == b
  | _, _ => false
def inD (a : D) (ds : List D) : Bool := ds.any fun y => eqF y a
def fIn (neg : Bool) : D → D → (D → Prop) → Prop := fun a b q => match b with
  | .lst ds => flatD a = true ∧ ds.all flatD = true ∧ q (.bl (if neg then !inD a ds else inD a ds))
  | .tup ds => flatD a = true ∧ ds.all flatD = true ∧ q (.bl (if neg then !inD a ds else inD a ds))
  | _ => False
def atD (ds : List D) (i : Int) (q : D → Prop) : Prop := match atI ds i with
  | some d => q d
  | none => False
def fIx (K : PySem.W.Frag) : D → D → (D → Prop) → Prop := fun a b q => match a, b with
  | .lst ds, .int i => atD ds i q
  | .tup ds, .int i => atD ds i q
  | .scr φ ns, .int i => (∀ a H, φ a → SqL K H a (ns.map V.int)) ∧ match atI ns i with
    | some n => q (.int n)
    | none => False
  | _, _ => False
theorem reps_get {G : Hp} : ∀ {ds : List D} {xs : List V} {j : Nat} {d : D}, Reps G ds xs → ds[j]? = some d → ∃ v, xs[j]? = some v ∧ Rep G d v
  | [], _, _, _, _, e => by simp at e
  | d :: ds, xs, 0, e, h, q => by rw [Reps] at h; obtain ⟨v, vs, rfl, h1, _⟩ := h; simp at q; subst q; exact ⟨v, rfl, h1⟩
  | d :: ds, xs, j + 1, e, h, q => by
    rw [Reps] at h
    obtain ⟨v, vs, rfl, _, h2⟩ := h
    obtain ⟨u, e1, e2⟩ := reps_get (j := j) h2 (by simpa using q)
    exact ⟨u, by simpa using e1, e2⟩
theorem reps_atI {G : Hp} {ds : List D} {xs : List V} {i : Int} {d : D} (h : Reps G ds xs) (e : atI ds i = some d) : ∃ v, atI xs i = some v ∧ Rep G d v := by
  unfold atI at *
  rw [h.length]
  cases q : ixN ds.length i with
  | none => rw [q] at e; cases e
  | some j => rw [q] at e; exact reps_get h e
theorem atI_map {α β : Type} {f : α → β} {xs : List α} {i : Int} {x : α} (h : atI xs i = some x) : atI (xs.map f) i = some (f x) := by
  unfold atI at *
  rw [List.length_map]
  cases q : ixN xs.length i with
  | none => rw [q] at h; cases h
  | some j => rw [q] at h; rw [show (Option.some j).bind _ = (xs.map f)[j]? from rfl, List.getElem?_map, show xs[j]? = some x from h]; rfl
theorem dIx {K : PySem.W.Frag} : DOp (rIx K) (fIx K) := fun G H x y dx dy q Q s p1 p2 hf k => by
  unfold fIx at hf
  split at hf
  · rw [Rep] at p1
    obtain ⟨a, xs, rfl, h1, h2⟩ := p1
    unfold atD at hf
    split at hf
    · rename_i e
      obtain ⟨v, e1, e2⟩ := reps_atI h2 e
      exact .inl ⟨a, xs, _, v, rfl, rep_int_of p2, SqL.of (s _ _ h1), e1, k _ _ hf e2⟩
    · exact hf.elim
  · rw [Rep] at p1
    obtain ⟨a, xs, rfl, h1, h2⟩ := p1
    unfold atD at hf
    split at hf
    · rename_i e
      obtain ⟨v, e1, e2⟩ := reps_atI h2 e
      exact .inr (.inl ⟨a, xs, _, v, rfl, rep_int_of p2, SqT.of (s _ _ h1), e1, k _ _ hf e2⟩)
    · exact hf.elim
  · rw [Rep] at p1
    obtain ⟨a, rfl, h1⟩ := p1
    obtain ⟨hk, hf⟩ := hf
    split at hf
    · rename_i e
      refine .inl ⟨a, _, _, _, rfl, rep_int_of p2, ?_, atI_map e, k _ _ hf (rep_int _)⟩
      rcases h1 with ⟨o, h1⟩ | h1
      · exact .inl (.inr ⟨o, s _ _ h1⟩)
      · exact hk a H h1
    · exact hf.elim
  · exact hf.elim
def fLen (K : PySem.W.Frag) : List D → (D → Prop) → Prop := fun ds q => match ds with
  | [.lst ds] => q (.int ds.length)
  | [.tup ds] => q (.int ds.length)
  | [.scr φ ns] => (∀ a H, φ a → SqL K H a (ns.map V.int)) ∧ q (.int ns.length)
  | _ => False
theorem rep_lst_of {G : Hp} {ds : List D} {v : V} (h : Rep G (.lst ds) v) : ∃ a xs, v = .ref a ∧ G a = some (.lst xs) ∧ Reps G ds xs := by rw [Rep] at h; exact h
theorem rep_tup_of {G : Hp} {ds : List D} {v : V} (h : Rep G (.tup ds) v) : ∃ a xs, v = .ref a ∧ G a = some (.tup xs) ∧ Reps G ds xs := by rw [Rep] at h; exact h
theorem rep_scr_of {G : Hp} {φ : Addr → Prop} {ns : List Int} {v : V} (h : Rep G (.scr φ ns) v) : ∃ a, v = .ref a ∧ ((∃ o, G a = some (.frz o (.lst (ns.map V.int)))) ∨ φ a) := by rw [Rep] at h; exact h
theorem reps_one {G : Hp} {d : D} {xs : List V} (h : Reps G [d] xs) : ∃ v, xs = [v] ∧ Rep G d v := by
  rw [Reps] at h; obtain ⟨v, vs, rfl, h1, h2⟩ := h; rw [Reps] at h2; subst h2; exact ⟨v, rfl, h1⟩
theorem reps_two {G : Hp} {d e : D} {xs : List V} (h : Reps G [d, e] xs) : ∃ v u, xs = [v, u] ∧ Rep G d v ∧ Rep G e u := by
  rw [Reps] at h; obtain ⟨v, vs, rfl, h1, h2⟩ := h; obtain ⟨u, rfl, h3⟩ := reps_one h2; exact ⟨v, u, rfl, h1, h3⟩
theorem dLen {K : PySem.W.Frag} : DCall (fun xs H Q => ∃ p ys, xs = [.ref p] ∧ (SqL K H p ys ∨ SqT K H p ys) ∧ Q (.int ys.length) H) (fLen K) := fun G H xs ds q Q s p hf k => by
  unfold fLen at hf
  split at hf
  · obtain ⟨v, rfl, p1⟩ := reps_one p
    obtain ⟨a, xs, rfl, h1, h2⟩ := rep_lst_of p1
    exact ⟨a, xs, rfl, .inl (SqL.of (s _ _ h1)), by rw [h2.length]; exact k _ _ hf (rep_int _)⟩
  · obtain ⟨v, rfl, p1⟩ := reps_one p
    obtain ⟨a, xs, rfl, h1, h2⟩ := rep_tup_of p1
    exact ⟨a, xs, rfl, .inr (SqT.of (s _ _ h1)), by rw [h2.length]; exact k _ _ hf (rep_int _)⟩
  · obtain ⟨v, rfl, p1⟩ := reps_one p
    obtain ⟨a, rfl, h1⟩ := rep_scr_of p1
    rename_i φ ns
    have hS : SqL K H a (ns.map V.int) := by
      rcases h1 with ⟨o, h1⟩ | h1
      · exact .inl (.inr ⟨o, s _ _ h1⟩)
      · exact hf.1 a H h1
    exact ⟨a, _, rfl, .inl hS, by rw [List.length_map]; exact k _ _ hf.2 (rep_int _)⟩
  · exact hf.elim
def fMax : List D → (D → Prop) → Prop := fun ds q => match ds with
  | [.int i, .int j] => q (.int (if j > i then j else i))
  | _ => False
def fMin : List D → (D → Prop) → Prop := fun ds q => match ds with
  | [.int i, .int j] => q (.int (if j < i then j else i))
  | _ => False
theorem dMax : DCall (fun xs H Q => ∃ i j, xs = [.int i, .int j] ∧ Q (.int (if j > i then j else i)) H) fMax := fun G H xs ds q Q s p hf k => by
  unfold fMax at hf
  split at hf
  · obtain ⟨v, u, rfl, p1, p2⟩ := reps_two p
    rw [rep_int_of p1, rep_int_of p2]
    exact ⟨_, _, rfl, k _ _ hf (rep_int _)⟩
  · exact hf.elim
theorem dMin : DCall (fun xs H Q => ∃ i j, xs = [.int i, .int j] ∧ Q (.int (if j < i then j else i)) H) fMin := fun G H xs ds q Q s p hf k => by
  unfold fMin at hf
  split at hf
  · obtain ⟨v, u, rfl, p1, p2⟩ := reps_two p
    rw [rep_int_of p1, rep_int_of p2]
    exact ⟨_, _, rfl, k _ _ hf (rep_int _)⟩
  · exact hf.elim
def fInt1 : List D → (D → Prop) → Prop := fun ds q => match ds with
  | [.int i] => q (.int i)
  | [.bl k] => q (.int (if k then 1 else 0))
  | _ => False
theorem dInt1 : DCall (fun xs H Q => (∃ i, xs = [.int i] ∧ Q (.int i) H) ∨ ∃ k, xs = [.bl k] ∧ Q (.int (if k then 1 else 0)) H) fInt1 := fun G H xs ds q Q s p hf k => by
  unfold fInt1 at hf
  split at hf
  · obtain ⟨v, rfl, p1⟩ := reps_one p
    rw [rep_int_of p1]
    exact .inl ⟨_, rfl, k _ _ hf (rep_int _)⟩
  · obtain ⟨v, rfl, p1⟩ := reps_one p
    rw [rep_bl_of p1]
    exact .inr ⟨_, rfl, k _ _ hf (rep_int _)⟩
  · exact hf.elim
def fAbs : List D → (D → Prop) → Prop := fun ds q => match ds with
  | [.int i] => q (.int (if i < 0 then -i else i))
  | _ => False
theorem dAbs : DCall (fun xs H Q => ∃ i, xs = [.int i] ∧ Q (.int (if i < 0 then -i else i)) H) fAbs := fun G H xs ds q Q s p hf k => by
  unfold fAbs at hf
  split at hf
  · obtain ⟨v, rfl, p1⟩ := reps_one p
    rw [rep_int_of p1]
    exact ⟨_, rfl, k _ _ hf (rep_int _)⟩
  · exact hf.elim
section
variable {X : Cx} {ow : List Bool} {a b c e : Expr} {ma mb mc : ME} {pos : Pos} {mr : MA} {es : List Expr}
def mNeg (m : ME) : ME := fun ρ q => m ρ fun d ρ' => match d with
  | .int i => q (.int (-i)) ρ'
  | _ => False
theorem qe_neg (h : QE X ow a ma) : QE X ow (.UnaryOp .USub a pos) (mNeg ma) := by
  obtain ⟨t, p, s⟩ := h
  refine ⟨_, pe_un un_neg p, fun C G ρ σ H pd q Q r hm k => s C G ρ σ H pd _ _ r hm fun d ρ' v G' H' hq s kp r' p => ?_⟩
  cases d with
  | int i => exact ⟨i, rep_int_of p, k _ ρ' _ G' H' hq s kp r' (rep_int _)⟩
  | _ => exact hq.elim
def mIsT (T : String) (m : ME) : ME := fun ρ q => m ρ fun d ρ' => match isTy d T with
  | some b => q (.bl b) ρ'
  | none => False
theorem qe_isT {T : String} {x y : Str} {p1 p2 : Pos} (hg : Gl X x) (hm : X.mg x = none) (hv : bootBuiltins x = some (.builtin "isinstance")) (ha : QE X ow a ma) (ht : PE X (.Name y p2) (tC (.ty T)))
    (hn : x ≠ "__name__" := by decide) (hdb : (x == ("__debug__" : Str)) = false := by decide)
    (hs : starEach [.Name y p2] X.env = [(false, eval (.Name y p2) X.env)] := by rfl)
    (he : starEach [a, .Name y p2] X.env = (false, eval a X.env) :: starEach [.Name y p2] X.env := by rfl) (hpl : (backTo pos (starEach [.Name y p2] X.env)).any (·.1) = false := by rfl) :
    QE X ow (.Call (.Name x p1) [a, .Name y p2] [] pos) (mIsT T ma) := by
  obtain ⟨t, p, s⟩ := ha
  refine ⟨_, pe_callB call_isinst hg hm hv (pa_cons p (pa_cons ht pa_nil hs) he) hn hdb he hpl, fun C G ρ σ H pd q Q r hm k => s C G ρ σ H pd _ _ r hm fun d ρ' v G' H' hq s kp r' p => ?_⟩
  cases e : isTy d T with
  | none => rw [e] at hq; exact hq.elim
  | some b => rw [e] at hq; exact ⟨v, T, d, b, rfl, Rep.mono r'.gh _ _ p, e, k _ ρ' _ G' H' hq s kp r' (rep_bl _)⟩
def mChain (f g : D → D → (D → Prop) → Prop) (ma mb mc : ME) : ME := fun ρ q => ma ρ fun x ρ1 => mb ρ1 fun y ρ2 => f x y fun z => match z with
  | .bl k => if k = true then mc ρ2 fun w ρ3 => g y w fun d => q d ρ3 else q (.bl false) ρ2
  | _ => False
theorem se_chain {r r' : R2} {f g : D → D → (D → Prop) → Prop} {ta tb tc : TE} (hf : DOp r f) (hg : DOp r' g) (ha : SE ow ta ma) (hb : SE ow tb mb) (hc : SE ow tc mc) : SE ow (tChain r r' ta tb tc) (mChain f g ma mb mc) := fun C G ρ σ H pd q Q hr h k => by
  refine se_two (Q := fun x y H2 => r x y H2 _) ha hb hr h fun dx dy ρ' x y G' H' h1 s kp r1 p1 p2 => ?_
  refine hf G' H' x y dx dy _ _ r1.gh p1 p2 h1 fun d v hq p => ?_
  cases d with
  | bl b =>
    refine ⟨b, rep_bl_of p, ?_⟩
    change (if b = true then _ else _) at hq
    cases b with
    | true =>
      rw [if_pos rfl] at hq ⊢
      refine hc C G' ρ' σ H' pd _ _ r1 hq fun dw ρ3 w G3 H3 h3 s3 kp3 r3 p3 => ?_
      exact hg G3 H3 y w dy dw _ _ r3.gh (Rep.mono s3 _ _ p2) p3 h3 fun d v hq p => k d ρ3 v G3 H3 hq (s.trans s3) (kp.trans kp3) r3 p
    | false => rw [if_neg (by decide)] at hq ⊢; exact k _ ρ' _ G' H' hq s kp r1 (rep_bl _)
  | _ => exact hq.elim
theorem qe_chain {op op' : CmpOp} {r r' : R2} {f g : D → D → (D → Prop) → Prop} (ho : OpR X (compareOp op) r) (ho' : OpR X (compareOp op') r') (hf : DOp r f) (hg : DOp r' g) (ha : QE X ow a ma) (hb : QE X ow b mb) (hc : QE X ow c mc)
    (hm : lastMarks [op, op'] [b, c] = false := by with_unfolding_all rfl) : QE X ow (.Compare a [op, op'] [b, c] pos) (mChain f g ma mb mc) := by
  obtain ⟨ta, pa, sa⟩ := ha; obtain ⟨tb, pb, sb⟩ := hb; obtain ⟨tc, pc, sc⟩ := hc
  exact ⟨_, pe_chain ho ho' pa pb pc hm, se_chain hf hg sa sb sc⟩
def DNew (r : List V → Hp → VK → Prop) (f : List D → (List D → Prop) → Prop) : Prop := ∀ (G H : Hp) (xs : List V) (ds : List D) (q : List D → Prop) (Q : VK), Same G H → Reps G ds xs → f ds q →
  (∀ es ys p, q es → Reps G es ys → H p = none → Q (.ref p) (upd H p (.lst ys))) → r xs H Q
def mNewS (f : List D → (List D → Prop) → Prop) (m : MA) : ME := fun ρ q => m ρ fun ds ρ' => f ds fun es => q (.lst es) ρ'
theorem se_new {r : List V → Hp → VK → Prop} {f : List D → (List D → Prop) → Prop} {t : TA} {n : Nat} (hd : DNew r f) (s : SA ow n t mr) : SE ow (fun σ H Q => t σ H fun xs H1 => r xs H1 Q) (mNewS f mr) := fun C G ρ σ H pd q Q hr hm k =>
  s C G ρ σ H pd _ _ hr hm fun ds ρ' vs G' H' hq z kp r' p hn => hd G' H' vs ds _ _ r'.gh p hq fun es ys a hq p ha => by
    obtain ⟨O, r'⟩ := r'
    obtain ⟨r2, s2⟩ := r'.new ha (.lst ys)
    exact k _ ρ' _ _ _ hq (z.trans s2) kp ⟨O, r2⟩ (rep_lst upd_same (Reps.mono s2 _ _ p))
theorem sa_two {ta tb : TE} (ha : SE ow ta ma) (hb : SE ow tb mb) : SA ow 2 (fun σ H Q => ta σ H fun x H1 => tb σ H1 fun y H2 => Q [x, y] H2) (mCons ma (mCons mb mNil)) := fun C G ρ σ H pd q Q hr hm k =>
  se_two (Q := fun x y H2 => Q [x, y] H2) ha hb hr hm fun dx dy ρ' x y G' H' h1 s kp r1 p1 p2 => k [dx, dy] ρ' [x, y] G' H' h1 s kp r1 (reps_cons p1 (reps_cons p2 reps_nil)) rfl
theorem reps_app {G : Hp} : ∀ {ds es : List D} {xs ys : List V}, Reps G ds xs → Reps G es ys → Reps G (ds ++ es) (xs ++ ys)
  | [], es, xs, ys, h, h2 => by rw [Reps] at h; subst h; exact h2
  | d :: ds, es, xs, ys, h, h2 => by rw [Reps] at h; obtain ⟨v, vs, rfl, h1, h3⟩ := h; exact reps_cons h1 (reps_app h3 h2)
theorem reps_drop {G : Hp} : ∀ {ds : List D} {xs : List V} (n : Nat), Reps G ds xs → Reps G (ds.drop n) (xs.drop n)
  | [], xs, n, h => by rw [Reps] at h; subst h; simp; exact reps_nil
  | d :: ds, xs, 0, h => h
  | d :: ds, xs, n + 1, h => by rw [Reps] at h; obtain ⟨v, vs, rfl, h1, h3⟩ := h; exact reps_drop n h3
theorem reps_take {G : Hp} : ∀ {ds : List D} {xs : List V} (n : Nat), Reps G ds xs → Reps G (ds.take n) (xs.take n)
  | [], xs, n, h => by rw [Reps] at h; subst h; simp; exact reps_nil
  | d :: ds, xs, 0, h => by simp; exact reps_nil
  | d :: ds, xs, n + 1, h => by rw [Reps] at h; obtain ⟨v, vs, rfl, h1, h3⟩ := h; exact reps_cons h1 (reps_take n h3)
def fCat : List D → (List D → Prop) → Prop := fun ds q => match ds with
  | [.lst xs, .lst ys] => xs.length + ys.length ≤ 1000 ∧ q (xs ++ ys)
  | _ => False
theorem dCat : DNew (fun xs H Q => ∃ x y, xs = [x, y] ∧ rCat x y H Q) fCat := fun G H xs ds q Q s p hf k => by
  unfold fCat at hf
  split at hf
  · obtain ⟨v, u, rfl, p1, p2⟩ := reps_two p
    rw [Rep] at p1 p2
    obtain ⟨a1, xs, rfl, h1, h2⟩ := p1
    obtain ⟨a2, ys, rfl, h3, h4⟩ := p2
    exact ⟨_, _, rfl, a1, a2, xs, ys, rfl, rfl, s _ _ h1, s _ _ h3, le_line (by rw [h2.length, h4.length]; exact hf.1), fun p hp => k _ _ p hf.2 (reps_app h2 h4) hp⟩
  · exact hf.elim
def mMkS (f : List D → (List D → Prop) → Prop) (ma mb : ME) : ME := mNewS f (mCons ma (mCons mb mNil))
def R2ok (r : R2) : List V → Hp → VK → Prop := fun xs H Q => match xs with
  | [x, y] => r x y H Q
  | _ => False
theorem DNew.r2 {r : R2} {f : List D → (List D → Prop) → Prop} (h : DNew (fun xs H Q => ∃ x y, xs = [x, y] ∧ r x y H Q) f) : DNew (R2ok r) f := fun G H xs ds q Q s p hf k => by
  obtain ⟨x, y, rfl, z⟩ := h G H xs ds q Q s p hf k
  exact z
theorem qe_mk {op : Operator} {r : R2} {f : List D → (List D → Prop) → Prop} (ho : OpR X (binaryOp op) r) (hd : DNew (fun xs H Q => ∃ x y, xs = [x, y] ∧ r x y H Q) f) (ha : QE X ow a ma) (hb : QE X ow b mb) : QE X ow (.BinOp a op b pos) (mMkS f ma mb) := by
  obtain ⟨ta, pa, sa⟩ := ha; obtain ⟨tb, pb, sb⟩ := hb
  exact ⟨tOp r ta tb, pe_op ho pa pb, se_new (r := R2ok r) hd.r2 (sa_two sa sb)⟩
def fList : List D → (List D → Prop) → Prop := fun ds q => match ds with
  | [.lst xs] => q xs
  | [.tup xs] => q xs
  | _ => False
theorem dList {K : PySem.W.Frag} : DNew (fun xs H Q => ∃ p ys, xs = [.ref p] ∧ (SqL K H p ys ∨ SqT K H p ys) ∧ ∀ l, H l = none → Q (.ref l) (upd H l (.lst ys))) fList := fun G H xs ds q Q s p hf k => by
  unfold fList at hf
  split at hf
  · obtain ⟨v, rfl, p1⟩ := reps_one p
    obtain ⟨a, xs, rfl, h1, h2⟩ := rep_lst_of p1
    exact ⟨a, xs, rfl, .inl (SqL.of (s _ _ h1)), fun l hl => k _ _ l hf h2 hl⟩
  · obtain ⟨v, rfl, p1⟩ := reps_one p
    obtain ⟨a, xs, rfl, h1, h2⟩ := rep_tup_of p1
    exact ⟨a, xs, rfl, .inr (SqT.of (s _ _ h1)), fun l hl => k _ _ l hf h2 hl⟩
  · exact hf.elim
variable {x : Str} {p' : Pos}
theorem qe_callTyN {id : String} {r : List V → Hp → VK → Prop} {f : List D → (List D → Prop) → Prop} (hc : CallR X (.type id) r) (hd : DNew r f) (hg : Gl X x) (hm : X.mg x = none) (hv : bootBuiltins x = some (.type id)) (ha : QA X ow (e :: es) mr) (hn : x ≠ "__name__" := by decide) (hdb : (x == ("__debug__" : Str)) = false := by decide)
    (he : starEach (e :: es) X.env = (false, eval e X.env) :: starEach es X.env := by rfl) (hpl : (backTo pos (starEach es X.env)).any (·.1) = false := by rfl) : QE X ow (.Call (.Name x p') (e :: es) [] pos) (mNewS f mr) := by
  obtain ⟨t, p, s⟩ := ha
  exact ⟨_, pe_callTy hc hg hm hv p hn hdb he hpl, se_new hd s⟩
def cutD (xs : List D) (lo hi : Option Int) : List D := (xs.drop (HT.sIx xs.length 0 lo)).take (HT.sIx xs.length xs.length hi - HT.sIx xs.length 0 lo)
theorem reps_cut {G : Hp} {ds : List D} {xs : List V} (h : Reps G ds xs) (lo hi : Option Int) : Reps G (cutD ds lo hi) (cutV xs lo hi) := by
  unfold cutD cutV
  rw [h.length]
  exact reps_take _ (reps_drop _ h)
abbrev MO := DSt → (Option Int → DSt → Prop) → Prop
def SO (ow : List Bool) (t : TO) (m : MO) : Prop := ∀ (C : Ctx) (G : Hp) (ρ : DSt) (σ : St) (H : Hp) (pd : List (D × V)) (q : Option Int → DSt → Prop) (Q : Option Int → Hp → Prop), R C ow G ρ σ H pd → m ρ q →
  (∀ b ρ' G' H', q b ρ' → Same G G' → Kp ow ρ ρ' → R C ow G' ρ' σ H' pd → Q b H') → t σ H Q
structure QO (X : Cx) (ow : List Bool) (e : Option Expr) (m : MO) : Prop where
  ex : ∃ t, PO X e t ∧ SO ow t m
def mNoPart : MO := fun ρ q => q none ρ
def mPart (m : ME) : MO := fun ρ q => m ρ fun d ρ' => match d with
  | .int i => q (some i) ρ'
  | _ => False
theorem qo_none : QO X ow none mNoPart := ⟨_, po_none, fun C G ρ σ H pd q Q r h k => k none ρ G H h (Same.refl _) Kp.refl r⟩
theorem qo_some (h : QE X ow e ma) : QO X ow (some e) (mPart ma) := by
  obtain ⟨t, p, s⟩ := h
  refine ⟨_, po_some p, fun C G ρ σ H pd q Q r hm k => s C G ρ σ H pd _ _ r hm fun d ρ' v G' H' hq s kp r' p => ?_⟩
  cases d with
  | int i => exact ⟨i, rep_int_of p, k _ ρ' G' H' hq s kp r'⟩
  | _ => exact hq.elim
def mSl (m : ME) (ml mh : MO) : ME := fun ρ q => m ρ fun d ρ1 => ml ρ1 fun lo ρ2 => mh ρ2 fun hi ρ3 => match d with
  | .lst ds => imms (cutD ds lo hi) = true ∧ q (.lst (cutD ds lo hi)) ρ3
  | _ => False
def mSlS (m : ME) (ml mh : MO) : ME := fun ρ q => m ρ fun d ρ1 => ml ρ1 fun lo ρ2 => mh ρ2 fun hi ρ3 => match d with
  | .lst ds => q (.lst (cutD ds lo hi)) ρ3
  | _ => False
variable {lo hi : Option Expr} {ml mh : MO} {p2 : Pos}
theorem qe_slice (h : QE X ow e ma) (hl : QO X ow lo ml) (hh : QO X ow hi mh) : QE X ow (.Subscript e (.Slice lo hi none p2) pos) (mSlS ma ml mh) := by
  obtain ⟨t, p, s⟩ := h; obtain ⟨t1, p1, s1⟩ := hl; obtain ⟨t2, p2, s2⟩ := hh
  refine ⟨_, pe_slice sl_list p p1 p2, fun C G ρ σ H pd q Q r hm k => s C G ρ σ H pd _ _ r hm fun d ρ' v G' H' hq z kp r' p => ?_⟩
  refine s1 C G' ρ' σ H' pd _ _ r' hq fun l ρ1 G1 H1 hq1 z1 kp1 r1 => s2 C G1 ρ1 σ H1 pd _ _ r1 hq1 fun u ρ2 G2 H2 hq2 z2 kp2 r2 => ?_
  cases d with
  | lst ds =>
    obtain ⟨a, xs, rfl, h1, h2⟩ := rep_lst_of (Rep.mono (z1.trans z2) _ _ p)
    refine ⟨a, xs, rfl, SqL.of (r2.gh _ _ h1), fun b hb => ?_⟩
    obtain ⟨O, r2⟩ := r2
    obtain ⟨r3, z3⟩ := r2.new hb (.lst (cutV xs l u))
    exact k _ ρ2 _ _ _ hq2 (z.trans (z1.trans (z2.trans z3))) (kp.trans (kp1.trans kp2)) ⟨O, r3⟩ (rep_lst upd_same (Reps.mono z3 _ _ (reps_cut h2 _ _)))
  | _ => exact hq2.elim
end
def ownM (f : Nat → Option Nat) (O : Own) : Own := fun a => match O a with
  | some m => (f m.1).map fun l => (l, m.2)
  | none => none
theorem ownM_at {f : Nat → Option Nat} {O : Own} {a : Addr} {l l' : Nat} {π : List Nat} (h : O a = some (l, π)) (hf : f l = some l') : ownM f O a = some (l', π) := by unfold ownM; rw [h]; show (f l).map _ = _; rw [hf]; rfl
theorem ownM_of {f : Nat → Option Nat} {O : Own} {a : Addr} {l' : Nat} {π : List Nat} (h : ownM f O a = some (l', π)) : ∃ l, O a = some (l, π) ∧ f l = some l' := by
  unfold ownM at h
  cases e : O a with
  | none => rw [e] at h; cases h
  | some m =>
    rw [e] at h
    change (f m.1).map _ = _ at h
    cases e2 : f m.1 with
    | none => rw [e2] at h; cases h
    | some l => rw [e2] at h; cases h; exact ⟨m.1, rfl, e2⟩
theorem ownM_none {f : Nat → Option Nat} {O : Own} {a : Addr} {l : Nat} {π : List Nat} (h : O a = some (l, π)) (hf : f l = none) : ownM f O a = none := by unfold ownM; rw [h]; show (f l).map _ = _; rw [hf]; rfl
def msV : List Bool → List V → List (Option V)
  | b :: bs, v :: vs => (if b = true then some v else none) :: msV bs vs
  | _, _ => []
theorem msV_of : ∀ {mu : List Bool} {vs : List V} {k : Nat} {v : V}, (msV mu vs)[k]? = some (some v) → mu[k]? = some true ∧ vs[k]? = some v
  | [], vs, k, v, h => by simp [msV] at h
  | b :: bs, [], k, v, h => by simp [msV] at h
  | b :: bs, u :: vs, 0, v, h => by
    simp only [msV, List.getElem?_cons_zero, Option.some.injEq] at h
    split at h
    · rename_i c; cases h; subst c; exact ⟨rfl, rfl⟩
    · cases h
  | b :: bs, u :: vs, k + 1, v, h => by
    simp only [msV, List.getElem?_cons_succ] at h
    simpa using msV_of h
theorem msV_at : ∀ {mu : List Bool} {vs : List V} {k : Nat} {v : V}, mu[k]? = some true → vs[k]? = some v → (msV mu vs)[k]? = some (some v)
  | [], vs, k, v, h, _ => by simp at h
  | b :: bs, [], k, v, _, h => by simp at h
  | b :: bs, u :: vs, 0, v, h, h2 => by simp at h h2; subst h; subst h2; simp [msV]
  | b :: bs, u :: vs, k + 1, v, h, h2 => by simp only [msV, List.getElem?_cons_succ]; exact msV_at (by simpa using h) (by simpa using h2)
section
variable {C : Ctx} {ow mu : List Bool} {G : Hp} {ρ : DSt} {σ : St} {H : Hp} {pd : List (D × V)} {O : Own} {fin fbk : Nat → Option Nat}
theorem RO.into (ro : RO C ow G ρ σ H pd O) {ds : List D} {vs : List V} (hl : ds.length = vs.length)
    (hs : ∀ (k : Nat) d, ds[k]? = some d → ∃ v, vs[k]? = some v ∧ if mu[k]? = some true then ∃ l, Sep G H O l d [] v ∧ fin l = some (2 * k) else Rep G d v)
    (hc : ∀ l l', fin l = some l' → ∃ k, l' = 2 * k ∧ mu[k]? = some true ∧ k < vs.length) :
    RO ⟨G, H, ownM fin O, msV mu vs, 0⟩ mu G (ds.map some) (vs.map some) H [] (ownM fin O) := by
  refine ⟨by simp [hl], ro.gh, fun _ _ e => e, fun _ _ e => .inl e, ?_, ?_, fun _ _ e _ => e, fun _ e => e, ?_, ?_, trivial, Nat.le_refl _⟩
  · intro a m e
    obtain ⟨l', π⟩ := m
    obtain ⟨l, e1, e2⟩ := ownM_of e
    obtain ⟨q1, q2, _⟩ := ro.og a _ e1
    exact ⟨q1, q2, .inr ⟨π, e⟩⟩
  · intro a l' π e
    obtain ⟨l, e1, e2⟩ := ownM_of e
    obtain ⟨k, rfl, h2, h3⟩ := hc _ _ e2
    exact .inl ⟨k, vs[k], rfl, msV_at h2 (List.getElem?_eq_getElem h3)⟩
  · intro k v e
    rw [List.getElem?_map, (msV_of e).2]; rfl
  · intro k d e
    rw [List.getElem?_map] at e
    cases e1 : ds[k]? with
    | none => rw [e1] at e; cases e
    | some d' =>
      rw [e1] at e
      cases e
      obtain ⟨v, h1, h2⟩ := hs k d e1
      refine ⟨v, by rw [List.getElem?_map, h1]; rfl, ?_⟩
      split at h2
      · rename_i c
        rw [if_pos c]
        obtain ⟨l, h3, h4⟩ := h2
        exact h3.keep (fun _ _ z => z) fun a τ q => ⟨ownM_at q h4, rfl⟩
      · rename_i c; rw [if_neg c]; exact h2
def ownB (fin fbk : Nat → Option Nat) (O O2 : Own) : Own := fun a => match O2 a with
  | some m => (fbk m.1).map fun l => (l, m.2)
  | none => match ownM fin O a with
    | some _ => none
    | none => O a
theorem RO.out (ro : RO C ow G ρ σ H pd O) {vs : List V} {G2 : Hp} {ρ2 : DSt} {σ2 : St} {H2 : Hp} {pd2 pd3 : List (D × V)} {O2 : Own} {ρ3 : DSt} {ow2 : List Bool} {np : Nat} {mv : List (Option V)}
    (ri : RO ⟨G, H, ownM fin O, mv, np⟩ ow2 G2 ρ2 σ2 H2 pd2 O2) (hib : ∀ l0 l' l, fin l0 = some l' → fbk l' = some l → l = l0)
    (hlen : ρ3.length = σ.length) (hnp : C.np ≤ pd3.length)
    (hS : ∀ (i : Nat) d, ow[i]? ≠ some true → ρ3[i]? = some (some d) → ρ[i]? = some (some d))
    (hO : ∀ (i : Nat) d, ow[i]? = some true → ρ3[i]? = some (some d) → (fin (2 * i) = none ∧ ρ[i]? = some (some d)) ∨ ∃ (k : Nat) (v : V), fbk (2 * k) = some (2 * i) ∧ ow2[k]? = some true ∧ ρ2[k]? = some (some d) ∧ σ[i]? = some (some v) ∧ σ2[k]? = some (some v))
    (hP : ∀ (O3 : Own), (∀ a l π, O a = some (l, π) → fin l = none → O3 a = some (l, π) ∧ H2 a = H a) → (∀ a l l' π, O2 a = some (l', π) → fbk l' = some l → O3 a = some (l, π)) → TSame G G2 → Pend G2 H2 O3 pd3) :
    RO C ow G2 ρ3 σ H2 pd3 (ownB fin fbk O O2) := by
  have keep : ∀ a l π, O a = some (l, π) → fin l = none → ownB fin fbk O O2 a = some (l, π) ∧ H2 a = H a := fun a l π e hn => by
    have e1 := ownM_none (f := fin) e hn
    obtain ⟨g, ⟨xs, hx⟩, _⟩ := ro.og a _ e
    have e2 : O2 a = none := by
      cases q : O2 a with
      | none => rfl
      | some m =>
        obtain ⟨_, _, q3⟩ := ri.og a m q
        rcases q3 with q3 | ⟨π', q3⟩
        · change H a = none at q3; rw [hx] at q3; cases q3
        · change ownM fin O a = _ at q3; rw [e1] at q3; cases q3
    constructor
    · show (match O2 a with | some m => _ | none => _) = _
      rw [e2]
      show (match ownM fin O a with | some _ => none | none => O a) = _
      rw [e1]; exact e
    · rw [ri.fr a _ hx e1, hx]
  have come : ∀ a l l' π, O2 a = some (l', π) → fbk l' = some l → ownB fin fbk O O2 a = some (l, π) := fun a l l' π e hb => by
    show (match O2 a with | some m => _ | none => _) = _
    rw [e]
    show (fbk l').map _ = _
    rw [hb]; rfl
  have ts : TSame G G2 := (Same.ts ri.g0)
  refine ⟨hlen, ri.gh, fun a o e => ri.g0 a o (ro.g0 a o e), ?_, ?_, ro.cok, ?_, fun a e => ro.al a (ri.al a e), ro.mp, ?_, hP _ keep come ts, hnp⟩
  · intro a o e
    rcases ri.gn a o e with q | q
    · exact ro.gn a o q
    · exact .inr (ro.al a q)
  · intro a m e
    change (match O2 a with | some m => _ | none => _) = _ at e
    cases q : O2 a with
    | some m' =>
      rw [q] at e
      change (fbk m'.1).map _ = _ at e
      cases q2 : fbk m'.1 with
      | none => rw [q2] at e; cases e
      | some l =>
        rw [q2] at e; cases e
        obtain ⟨g1, g2, g3⟩ := ri.og a m' q
        refine ⟨g1, g2, ?_⟩
        rcases g3 with g3 | ⟨π', g3⟩
        · exact .inl (ro.al a g3)
        · obtain ⟨l0, g4, g5⟩ := ownM_of g3
          have := hib _ _ _ g5 q2
          subst this
          exact (ro.og a _ g4).2.2
    | none =>
      rw [q] at e
      change (match ownM fin O a with | some _ => none | none => O a) = _ at e
      cases q2 : ownM fin O a with
      | some _ => rw [q2] at e; cases e
      | none =>
        rw [q2] at e
        change O a = some m at e
        obtain ⟨g1, ⟨xs, g2⟩, g3⟩ := ro.og a m e
        refine ⟨?_, ⟨xs, ri.fr a _ g2 q2⟩, g3⟩
        cases z : G2 a with
        | none => rfl
        | some o =>
          rcases ri.gn a o z with z | z
          · change G a = _ at z; rw [g1] at z; cases z
          · change H a = _ at z; rw [g2] at z; cases z
  · intro a o e n
    have q := ro.fr a o e n
    refine ri.fr a o q ?_
    show ownM fin O a = none
    cases z : ownM fin O a with
    | none => rfl
    | some m =>
      obtain ⟨l', π⟩ := m
      obtain ⟨l, z1, _⟩ := ownM_of z
      obtain ⟨_, _, z3⟩ := ro.og a _ z1
      rcases z3 with z3 | ⟨_, z3⟩
      · rw [z3] at e; cases e
      · rw [z3] at n; cases n
  · intro i d e
    by_cases c : ow[i]? = some true
    · rcases hO i d c e with ⟨h1, h2⟩ | ⟨k, v, h1, h2, h3, h4, h5⟩
      · obtain ⟨v, q1, q2⟩ := ro.sl i d h2
        rw [if_pos c] at q2
        exact ⟨v, q1, by rw [if_pos c]; exact q2.keep ts fun a τ q => keep a _ _ q h1⟩
      · obtain ⟨v', q1, q2⟩ := ri.sl k d h3
        rw [if_pos h2] at q2
        rw [h5] at q1; cases q1
        exact ⟨v, h4, by rw [if_pos c]; exact q2.keep (fun _ _ z => z) fun a τ q => ⟨come _ _ _ _ q h1, rfl⟩⟩
    · obtain ⟨v, q1, q2⟩ := ro.sl i d (hS i d c e)
      rw [if_neg c] at q2
      exact ⟨v, q1, by rw [if_neg c]; exact q2.mono ri.g0⟩
end
def Ret (fr : Bool) (C : Ctx) (ow : List Bool) (G : Hp) (ρ : DSt) (σ : St) (H : Hp) (d : D) (v : V) : Prop := if fr = true then R C ow G ρ σ H [(d, v)] else R C ow G ρ σ H [] ∧ Rep G d v
def mus : List Bool → DSt → DSt
  | true :: bs, x :: ρ => x :: mus bs ρ
  | false :: bs, _ :: ρ => mus bs ρ
  | true :: bs, [] => none :: mus bs []
  | false :: bs, [] => mus bs []
  | [], _ => []
def padS {α : Type} : Nat → List (Option α) → List (Option α)
  | 0, _ => []
  | n + 1, x :: ρ => x :: padS n ρ
  | n + 1, [] => none :: padS n []
theorem padS_len {α : Type} : ∀ (n : Nat) (ρ : List (Option α)), (padS n ρ).length = n
  | 0, _ => rfl
  | n + 1, x :: ρ => by simp [padS, padS_len n ρ]
  | n + 1, [] => by simp [padS, padS_len n []]
theorem padS_mus : ∀ (mu : List Bool) (ρ : DSt), mus mu (padS mu.length ρ) = mus mu ρ
  | [], _ => by simp [mus]
  | true :: bs, x :: ρ => by simp [padS, mus, padS_mus bs ρ]
  | false :: bs, x :: ρ => by simp [padS, mus, padS_mus bs ρ]
  | true :: bs, [] => by simp [padS, mus, padS_mus bs []]
  | false :: bs, [] => by simp [padS, mus, padS_mus bs []]
theorem padS_of {α : Type} : ∀ {n : Nat} {ρ : List (Option α)} {i : Nat} {d : α}, (padS n ρ)[i]? = some (some d) → i < n ∧ ρ[i]? = some (some d)
  | 0, _, _, _, h => by simp [padS] at h
  | n + 1, x :: ρ, 0, d, h => by simp [padS] at h; exact ⟨by omega, by simp [h]⟩
  | n + 1, x :: ρ, i + 1, d, h => by simp only [padS, List.getElem?_cons_succ] at h; obtain ⟨a, b⟩ := padS_of h; exact ⟨by omega, by simpa using b⟩
  | n + 1, [], 0, d, h => by simp [padS] at h
  | n + 1, [], i + 1, d, h => by simp only [padS, List.getElem?_cons_succ] at h; obtain ⟨a, b⟩ := padS_of h; simp at b
theorem padS_at {α : Type} : ∀ {n : Nat} {ρ : List (Option α)} {i : Nat} {d : α}, i < n → ρ[i]? = some (some d) → (padS n ρ)[i]? = some (some d)
  | 0, _, _, _, h, _ => by omega
  | n + 1, x :: ρ, 0, d, h, e => by simp at e; simp [padS, e]
  | n + 1, x :: ρ, i + 1, d, h, e => by simp only [padS, List.getElem?_cons_succ]; exact padS_at (by omega) (by simpa using e)
  | n + 1, [], i, d, h, e => by simp at e
abbrev SpD := List D → (D → DSt → Prop) → Prop
def spOf (mu : List Bool) (fr : Bool) (sd : SpD) : Sp := fun vs H Q _ => ∃ (C : Ctx) (G : Hp) (ds : List D) (q : D → DSt → Prop), C.np = 0 ∧ C.mu = msV mu vs ∧ R C mu G (ds.map some) (vs.map some) H [] ∧ sd ds q ∧ mu.length = ds.length ∧
  ∀ d ρ' σ' v G' H', q d (mus mu ρ') → Same G G' → ρ'.length = mu.length → Ret fr C mu G' ρ' σ' H' d v → Q v H'
structure EndsD where
  nx : DSt → Prop
  rt : D → DSt → Prop
  bk : DSt → Prop := fun _ => False
  ct : DSt → Prop := fun _ => False
abbrev MS := EndsD → DSt → Prop
structure Ks (C : Ctx) (ow : List Bool) (fr : Bool) (G : Hp) (n : EndsD) (D : Ends) : Prop where
  nx : ∀ ρ σ G' H, n.nx ρ → Same G G' → R C ow G' ρ σ H [] → D.nx σ H
  bk : ∀ ρ σ G' H, n.bk ρ → Same G G' → R C ow G' ρ σ H [] → D.bk σ H
  ct : ∀ ρ σ G' H, n.ct ρ → Same G G' → R C ow G' ρ σ H [] → D.ct σ H
  rt : ∀ d ρ σ v G' H, n.rt d ρ → Same G G' → Ret fr C ow G' ρ σ H d v → D.rt v H
theorem Ks.mono {C : Ctx} {ow : List Bool} {fr : Bool} {G G1 : Hp} {n : EndsD} {D : Ends} (h : Ks C ow fr G n D) (s : Same G G1) : Ks C ow fr G1 n D :=
  ⟨fun ρ σ G' H a b c => h.nx ρ σ G' H a (s.trans b) c, fun ρ σ G' H a b c => h.bk ρ σ G' H a (s.trans b) c, fun ρ σ G' H a b c => h.ct ρ σ G' H a (s.trans b) c, fun d ρ σ v G' H a b c => h.rt d ρ σ v G' H a (s.trans b) c⟩
def MuOk (C : Ctx) (mu : List Bool) : Prop := ∀ (i : Nat) v, C.mu[i]? = some (some v) → mu[i]? = some true
theorem MuOk.no {C : Ctx} {mu : List Bool} (h : MuOk C mu) {i : Nat} (hi : mu[i]? ≠ some true) : ∀ v, C.mu[i]? ≠ some (some v) := fun v e => hi (h i v e)
structure Md where
  mu : List Bool
  ow : List Bool
  fr : Bool
def SS (M : Md) (t : TS) (m : MS) : Prop := ∀ (C : Ctx) (G : Hp) (ρ : DSt) (σ : St) (H : Hp) (n : EndsD) (D : Ends), MuOk C M.mu → C.np = 0 → R C M.ow G ρ σ H [] → m n ρ → Ks C M.ow M.fr G n D → t D σ H
structure QS (X : Cx) (M : Md) (st : Stmt) (m : MS) : Prop where
  ex : ∃ t, PS X st t ∧ SS M t m
structure QSs (X : Cx) (M : Md) (st : List Stmt) (m : MS) : Prop where
  ex : ∃ t, PSs X st t ∧ SS M t m
section
variable {X : Cx} {M : Md} {a b c e : Expr} {ma mb mc : ME} {mt : MT} {pos pos' : Pos} {st : Stmt} {rest : List Stmt} {m m1 m2 : MS}
def mSeq (m1 m2 : MS) : MS := fun n ρ => m1 { n with nx := fun ρ' => m2 n ρ' } ρ
def mNext : MS := fun n ρ => n.nx ρ
theorem qss_nil : QSs X M [] mNext := ⟨_, pss_nil, fun C G ρ σ H n D hm hn r h k => k.nx ρ σ G H h (Same.refl _) r⟩
theorem qss_one (h : QS X M st m) : QSs X M [st] m := by obtain ⟨t, p, s⟩ := h; exact ⟨_, pss_one p, s⟩
theorem qss_cons (h : QS X M st m1) (h2 : QSs X M rest m2) : QSs X M (st :: rest) (mSeq m1 m2) := by
  obtain ⟨t, p, s⟩ := h; obtain ⟨t2, p2, s2⟩ := h2
  refine ⟨_, pss_cons p p2, fun C G ρ σ H n D hm hn r h k => s C G ρ σ H _ _ hm hn r h ?_⟩
  exact ⟨fun ρ' σ' G' H' h' z r' => s2 C G' ρ' σ' H' n D hm hn r' h' (k.mono z), k.bk, k.ct, k.rt⟩
def mIfS (mt : MT) (m1 m2 : MS) : MS := fun n ρ => mt ρ fun b ρ1 => if b = true then m1 n ρ1 else m2 n ρ1
theorem qs_if {s1 s2 : List Stmt} (h : QT X M.ow c mt) (h1 : QSs X M s1 m1) (h2 : QSs X M s2 m2) : QS X M (.If c s1 s2 pos) (mIfS mt m1 m2) := by
  obtain ⟨t, p, s⟩ := h; obtain ⟨t1, p1, s1⟩ := h1; obtain ⟨t2, p2, s2⟩ := h2
  refine ⟨_, ps_if p p1 p2, fun C G ρ σ H n D hm hn r h k => s C G ρ σ H [] _ _ r h fun b ρ' G' H' hq z kp r' => ?_⟩
  cases b with
  | true => rw [if_pos rfl] at hq ⊢; exact s1 C G' ρ' σ H' n D hm hn r' hq (k.mono z)
  | false => rw [if_neg (by decide)] at hq ⊢; exact s2 C G' ρ' σ H' n D hm hn r' hq (k.mono z)
def mRet (m : ME) : MS := fun n ρ => m ρ n.rt
theorem qs_ret (h : QE X M.ow e ma) (hf : M.fr = false := by rfl) : QS X M (.Return (some e) pos) (mRet ma) := by
  obtain ⟨t, p, s⟩ := h
  refine ⟨_, ps_ret p, fun C G ρ σ H n D hm hn r h k => s C G ρ σ H [] _ _ r h fun d ρ' v G' H' hq z kp r' p => k.rt d ρ' σ v G' H' hq z (by unfold Ret; rw [if_neg (by rw [hf]; decide)]; exact ⟨r', p⟩)⟩
theorem R.non {C : Ctx} {ow : List Bool} {fr : Bool} {G : Hp} {ρ : DSt} {σ : St} {H : Hp} (r : R C ow G ρ σ H []) : Ret fr C ow G ρ σ H .non .non := by
  unfold Ret
  split
  · obtain ⟨O, r⟩ := r
    exact ⟨O, r.len, r.gh, r.g0, r.gn, r.og, r.cok, r.fr, r.al, r.mp, r.sl, ⟨by rw [Sep], trivial⟩, Nat.le_succ_of_le r.np⟩
  · exact ⟨r, rep_non⟩
def mSet (i : Nat) (m : ME) : MS := fun n ρ => m ρ fun d ρ1 => n.nx (ρ1.set i (some d))
theorem ss_set {t : TE} {i : Nat} (s : SE M.ow t ma) (ho : M.ow[i]? ≠ some true) (hu : M.mu[i]? ≠ some true) : SS M (tAsg t (gName i)) (mSet i ma) := fun C G ρ σ H n D hm hn r h k =>
  s C G ρ σ H [] _ _ r h fun d ρ' v G' H' hq z kp r' p => by
    obtain ⟨O, r'⟩ := r'
    exact k.nx _ _ G' H' hq z ⟨O, r'.setS ho (hm.no hu) p⟩
theorem ss_setO {t : TE} {i : Nat} (s : SF M.ow t ma) (ho : M.ow[i]? = some true) (hu : M.mu[i]? ≠ some true) : SS M (tAsg t (gName i)) (mSet i ma) := fun C G ρ σ H n D hm hn r h k =>
  s C G ρ σ H [] _ _ r h fun d ρ' v G' H' hq z kp r' => by
    obtain ⟨O, r'⟩ := r'
    exact k.nx _ _ G' H' hq z (r'.setO ho (hm.no hu) (by rw [hn]; exact Nat.zero_le _))
theorem qs_set {i : Nat} {x : Str} (hN : X.N.Nodup) (hi : X.N[i]? = some x) (hx : Loc X.env.scope x) (he : QE X M.ow e ma) (ho : M.ow[i]? ≠ some true := by decide) (hu : M.mu[i]? ≠ some true := by decide) (hs : swapsWith e (some (.Name x pos')) pos.line X.env = pure false := by rfl) (hf : X.fn x = true ∨ X.env.scope.names.lookup x = some .local := by first | exact .inl rfl | exact .inr rfl | assumption) :
    QS X M (.Assign [.Name x pos'] e pos) (mSet i ma) := by
  obtain ⟨t, p, s⟩ := he
  exact ⟨_, ps_set hN hi hx p hs hf, ss_set s ho hu⟩
theorem qs_setO {i : Nat} {x : Str} (hN : X.N.Nodup) (hi : X.N[i]? = some x) (hx : Loc X.env.scope x) (he : QF X M.ow e ma) (ho : M.ow[i]? = some true := by decide) (hu : M.mu[i]? ≠ some true := by decide) (hs : swapsWith e (some (.Name x pos')) pos.line X.env = pure false := by rfl) (hf : X.fn x = true ∨ X.env.scope.names.lookup x = some .local := by first | exact .inl rfl | exact .inr rfl | assumption) :
    QS X M (.Assign [.Name x pos'] e pos) (mSet i ma) := by
  obtain ⟨t, p, s⟩ := he
  exact ⟨_, ps_set hN hi hx p hs hf, ss_setO s ho hu⟩
def mPar (i j : Nat) (ma mb : ME) : MS := fun n ρ => ma ρ fun x ρ1 => mb ρ1 fun y ρ2 => n.nx ((ρ2.set i (some x)).set j (some y))
theorem qs_par {i j : Nat} {x y : Str} {px py pt : Pos} {kt k2 pt2} (hc : X.calm = true) (hN : X.N.Nodup) (hi : X.N[i]? = some x) (hj : X.N[j]? = some y) (hij : i ≠ j)
    (hx : X.env.scope.names.lookup x = some .local) (hy : X.env.scope.names.lookup y = some .local) (ha : QE X M.ow a ma) (hb : QE X M.ow b mb)
    (hw : swappedStores [.Tuple [.Name x px, .Name y py] kt pt] (.Tuple [a, b] k2 pt2) X.env = pure (some [x, y]))
    (oi : M.ow[i]? ≠ some true := by decide) (oj : M.ow[j]? ≠ some true := by decide) (ui : M.mu[i]? ≠ some true := by decide) (uj : M.mu[j]? ≠ some true := by decide)
    (hs1 : starEach [a, b] X.env = (false, eval a X.env) :: starEach [b] X.env := by rfl) (hs2 : starEach [b] X.env = [(false, eval b X.env)] := by rfl)
    (hs : swapsWithSole [.Tuple [.Name x px, .Name y py] kt pt] (.Tuple [a, b] k2 pt2) pos.line X.env = pure false := by rfl) :
    QS X M (.Assign [.Tuple [.Name x px, .Name y py] kt pt] (.Tuple [a, b] k2 pt2) pos) (mPar i j ma mb) := by
  obtain ⟨ta, pa, sa⟩ := ha; obtain ⟨tb, pb, sb⟩ := hb
  refine ⟨_, ps_par hc hN hi hj hij hx hy (pa_cons pa (pa_cons pb pa_nil hs2) hs1) hw hs, fun C G ρ σ H n D hm hn r h k => ?_⟩
  refine se_two (Q := fun u w H2 => ∃ v w', [u, w] = [v, w'] ∧ D.nx ((σ.set i (some v)).set j (some w')) H2) sa sb r h fun dx dy ρ' u w G' H' hq z kp r' p1 p2 => ⟨u, w, rfl, ?_⟩
  obtain ⟨O, r'⟩ := r'
  exact k.nx _ _ G' H' hq z ⟨O, (r'.setS oi (hm.no ui) p1).setS oj (hm.no uj) p2⟩
abbrev MG := D → DSt → (DSt → Prop) → Prop
abbrev MGs := List D → DSt → (DSt → Prop) → Prop
def SG (M : Md) (g : TG) (m : MG) : Prop := ∀ (C : Ctx) (G : Hp) (ρ : DSt) (σ : St) (H : Hp) (pd : List (D × V)) (d : D) (v : V) (k : DSt → Prop) (K : St → Hp → Prop), MuOk C M.mu → R C M.ow G ρ σ H pd → Rep G d v → m d ρ k →
  (∀ ρ' σ', k ρ' → R C M.ow G ρ' σ' H pd → K σ' H) → g v σ H K
def SGs (M : Md) (g : TGs) (m : MGs) : Prop := ∀ (C : Ctx) (G : Hp) (ρ : DSt) (σ : St) (H : Hp) (pd : List (D × V)) (d : List D) (v : List V) (k : DSt → Prop) (K : St → Hp → Prop), MuOk C M.mu → R C M.ow G ρ σ H pd → Reps G d v → m d ρ k →
  (∀ ρ' σ', k ρ' → R C M.ow G ρ' σ' H pd → K σ' H) → g v σ H K
structure QG (X : Cx) (M : Md) (e : Expr) (m : MG) : Prop where
  ex : ∃ t, PG X e t ∧ SG M t m
structure QGs (X : Cx) (M : Md) (e : List Expr) (m : MGs) : Prop where
  ex : ∃ t, PGs X e t ∧ SGs M t m
def gmName (i : Nat) : MG := fun d ρ k => k (ρ.set i (some d))
theorem qg_name {i : Nat} {x : Str} (hN : X.N.Nodup) (hi : X.N[i]? = some x) (hx : Loc X.env.scope x) (ho : M.ow[i]? ≠ some true := by decide) (hu : M.mu[i]? ≠ some true := by decide) (hf : X.fn x = true ∨ X.env.scope.names.lookup x = some .local := by first | exact .inl rfl | exact .inr rfl | assumption) : QG X M (.Name x pos) (gmName i) :=
  ⟨_, pg_name hN hi hx hf, fun C G ρ σ H pd d v k K hm r p h kk => by obtain ⟨O, r⟩ := r; exact kk _ _ h ⟨O, r.setS ho (hm.no hu) p⟩⟩
def gmNil : MGs := fun ds ρ k => match ds with
  | [] => k ρ
  | _ => False
def gmCons (t : MG) (u : MGs) : MGs := fun ds ρ k => match ds with
  | d :: ds => t d ρ fun ρ1 => u ds ρ1 k
  | [] => False
def gmTup (t : MGs) : MG := fun d ρ k => match d with
  | .tup ds => t ds ρ k
  | _ => False
variable {mg : MG} {mgs : MGs} {es : List Expr}
theorem qgs_nil : QGs X M [] gmNil := ⟨_, pgs_nil, fun C G ρ σ H pd d v k K hm r p h kk => by
  cases d with
  | nil => rw [Reps] at p; exact ⟨p, kk _ _ h r⟩
  | cons _ _ => exact h.elim⟩
theorem qgs_cons (h1 : QG X M e mg) (h2 : QGs X M es mgs) (hs : (assignEach (e :: es) X.env).map (·.2) = assign e X.env :: (assignEach es X.env).map (·.2) := by rfl) : QGs X M (e :: es) (gmCons mg mgs) := by
  obtain ⟨t, p, s⟩ := h1; obtain ⟨t2, p2, s2⟩ := h2
  refine ⟨_, pgs_cons p p2 hs, fun C G ρ σ H pd d v k K hm r p h kk => ?_⟩
  cases d with
  | nil => exact h.elim
  | cons d ds =>
    rw [Reps] at p
    obtain ⟨v, vs, rfl, p1, p3⟩ := p
    exact ⟨v, vs, rfl, s C G ρ σ H pd d v _ _ hm r p1 h fun ρ' σ' h' r' => s2 C G ρ' σ' H pd ds vs k K hm r' p3 h' kk⟩
def takes (n : Nat) (m : MGs) : Prop := ∀ ds ρ k, m ds ρ k → ds.length = n
theorem takes_nil : takes 0 gmNil := fun ds ρ k h => by cases ds with | nil => rfl | cons _ _ => exact h.elim
theorem takes_cons1 {n : Nat} {i : Nat} (h : takes n mgs) : takes (n + 1) (gmCons (gmName i) mgs) := fun ds ρ k q => by
  cases ds with
  | nil => exact q.elim
  | cons d ds => simp [h ds _ _ q]
theorem qg_tup {kk : Nat} {n : Nat} (hc : X.calm = true) (h : QGs X M es mgs) (ht : takes n mgs)
    (hn : (assignEach es X.env).length = n := by rfl) (hst : (assignEach es X.env).findIdx? (·.1) = none := by rfl) : QG X M (.Tuple es kk pos) (gmTup mgs) := by
  obtain ⟨t, p, s⟩ := h
  refine ⟨_, pg_tup hc p hn hst, fun C G ρ σ H pd d v k K hm r p h kk => ?_⟩
  cases d with
  | tup ds =>
    obtain ⟨a, xs, rfl, h1, h2⟩ := rep_tup_of p
    exact ⟨a, xs, rfl, SqT.of (r.gh _ _ h1), by rw [h2.length]; exact ht _ _ _ h, s C G ρ σ H pd ds xs k K hm r h2 h kk⟩
  | _ => exact h.elim
def mAsg (m : ME) (g : MG) : MS := fun n ρ => m ρ fun d ρ1 => g d ρ1 n.nx
theorem qs_asg {tg : Expr} (he : QE X M.ow e ma) (hg : QG X M tg mg) (hs : swapsWithSole [tg] e pos.line X.env = pure false := by rfl) (hw : swappedStores [tg] e X.env = pure none := by rfl)
    (h1 : (assignEach [tg] X.env).map (·.2) = [assign tg X.env] := by rfl) : QS X M (.Assign [tg] e pos) (mAsg ma mg) := by
  obtain ⟨t, p, s⟩ := he; obtain ⟨t2, p2, s2⟩ := hg
  refine ⟨_, ps_asg p p2 hs hw h1, fun C G ρ σ H n D hm hn r h k => s C G ρ σ H [] _ _ r h fun d ρ' v G' H' hq z kp r' p => ?_⟩
  exact s2 C G' ρ' σ H' [] d v _ _ hm r' p hq fun ρ2 σ2 h2 r2 => k.nx ρ2 σ2 G' H' h2 z r2
def mDrop (m : ME) : MS := fun n ρ => m ρ fun _ ρ1 => n.nx ρ1
def mAppend (i : Nat) (m : ME) : MS := fun n ρ => match ρ[i]? with
  | some (some (.lst _)) => m ρ fun d ρ1 => match ρ1[i]? with
    | some (some (.lst ds)) => ds.length < 1000 ∧ n.nx (ρ1.set i (some (.lst (ds ++ [d]))))
    | _ => False
  | _ => False
theorem qs_append {i : Nat} {x : Str} {apos cpos npos : Pos} (hN : X.N[i]? = some x) (he : QF X M.ow e ma) (ho : M.ow[i]? = some true := by decide)
    (hv : Vis X.env.scope x := by first | exact Or.inl rfl | exact Or.inr (Or.inl rfl) | exact Or.inr (Or.inr rfl)) (hd : (x == ("__debug__" : Str)) = false := by decide) (hcd : (x == ("__classdict__" : Str)) = false := by decide)
    (hbase : attributeBase (.Name x npos) "append" X.env (eval (.Name x npos) X.env) = eval (.Name x npos) X.env := by rfl)
    (hfew : ((backTo cpos (starEach [e] X.env)).all (fun x => !x.1) && (backToKw cpos (keywordEach [] X.env)).all (fun x => x.1.isSome)
      && decide ([e].length + ([] : List Keyword).length + (if ([] : List Keyword).isEmpty then 0 else 1) < 30)) = true := by rfl)
    (hline : (apos.endLine == cpos.line) = true := by rfl) (hst : starEach [e] X.env = [(false, eval e X.env)] := by rfl)
    (hs : swapsWith (.Call (.Attribute (.Name x npos) "append" apos) [e] [] cpos) none pos.line X.env = pure false := by rfl) :
    QS X M (.Expr (.Call (.Attribute (.Name x npos) "append" apos) [e] [] cpos) pos) (mAppend i ma) := by
  obtain ⟨t, p, s⟩ := he
  refine ⟨_, ps_expr (pe_bm PySem.F.plainAttrs_list PySem.F.slot_list_append PySem.F.type_list_append mt_append (pe_var hN hv hd hcd) (pa_cons p pa_nil hst) hbase hfew hline hst (by rfl)) hs, fun C G ρ σ H n D hm hn r h k => ?_⟩
  unfold mAppend at h
  split at h
  · rename_i ds e1
    obtain ⟨O, ro⟩ := r
    obtain ⟨a, xs, h1, h2, _, _⟩ := ro.write e1 ho
    refine ⟨.ref a, h1, .inl ⟨rfl, xs, SqL.of h2⟩, ?_⟩
    refine s C G ρ σ H [] _ _ ⟨O, ro⟩ h fun d ρ' v G' H' hq z kp r' => ?_
    split at hq
    · rename_i ds' e2
      obtain ⟨O', r'⟩ := r'
      obtain ⟨O2, r2, s2, s3⟩ := r'.join i ds'.length (by rw [hn]; exact Nat.zero_le _)
      obtain ⟨a', xs', g1, g2, g3, g4⟩ := r2.write e2 ho
      rw [h1] at g1; cases g1
      have hl := g3.length
      refine ⟨a, xs', v, rfl, rfl, g2, by rw [hl]; exact small1000 (Nat.le_of_lt hq.1), ?_⟩
      exact k.nx _ _ G' _ hq.2 z ⟨O2, g4 _ _ (g3.snoc (by simpa using s2))⟩
    · exact hq.elim
  · exact h.elim
def mSetI (i : Nat) (mk m : ME) : MS := fun n ρ => m ρ fun d ρ1 => match ρ1[i]? with
  | some (some (.lst _)) => mk ρ1 fun k ρ2 => match ρ2[i]? with
    | some (some (.lst ds)) => match k with
      | .int j => match ixN ds.length j with
        | some p => n.nx (ρ2.set i (some (.lst (ds.set p d))))
        | none => False
      | _ => False
    | _ => False
  | _ => False
theorem qs_setI {i : Nat} {x : Str} {npos spos : Pos} (hN : X.N[i]? = some x) (he : QF X M.ow e ma) (hk : QE X M.ow b mb) (ho : M.ow[i]? = some true := by decide)
    (hv : Vis X.env.scope x := by first | exact Or.inl rfl | exact Or.inr (Or.inl rfl) | exact Or.inr (Or.inr rfl)) (hd : (x == ("__debug__" : Str)) = false := by decide) (hcd : (x == ("__classdict__" : Str)) = false := by decide)
    (ha : ∀ v, assign (.Subscript (.Name x npos) b spos) X.env v = (do
      let ov ← holding [v] (eval (.Name x npos) X.env)
      let iv ← holding [v, ov] (eval b X.env)
      standAt spos
      holding [v, ov, iv] (setItem ov iv v)
      release [v, ov, iv] []) := by intro _; rfl)
    (hs : swapsWithSole [.Subscript (.Name x npos) b spos] e pos.line X.env = pure false := by rfl) (hw : swappedStores [.Subscript (.Name x npos) b spos] e X.env = pure none := by rfl)
    (h1 : (assignEach [.Subscript (.Name x npos) b spos] X.env).map (·.2) = [assign (.Subscript (.Name x npos) b spos) X.env] := by rfl) :
    QS X M (.Assign [.Subscript (.Name x npos) b spos] e pos) (mSetI i mb ma) := by
  obtain ⟨t, p, s⟩ := he; obtain ⟨t2, p2, s2⟩ := hk
  refine ⟨_, ps_asg p (pg_sub (pe_var hN hv hd hcd) p2 set_list ha) hs hw h1, fun C G ρ σ H n D hm hn r h k => s C G ρ σ H [] _ _ r h fun d ρ' v G' H' hq z kp r' => ?_⟩
  split at hq
  · rename_i ds0 e0
    obtain ⟨O0, ro⟩ := r'
    obtain ⟨a, xs, hu, _, _, _⟩ := ro.write e0 ho
    refine ⟨.ref a, hu, ?_⟩
    refine s2 C G' ρ' σ H' _ _ _ ⟨O0, ro⟩ hq fun dk ρ2 jv G2 H2 hq2 z2 kp2 r2 pj => ?_
    split at hq2
    · rename_i ds e2
      cases dk with
      | int j =>
        dsimp only at hq2
        split at hq2
        · rename_i pl e3
          obtain ⟨O', r2⟩ := r2
          obtain ⟨O2, r3, w2, w3⟩ := r2.join i pl (by rw [hn]; exact Nat.zero_le _)
          obtain ⟨a', xs', g1, g2, g3, g4⟩ := r3.write e2 ho
          rw [hu] at g1; cases g1
          refine ⟨a, xs', j, pl, rfl, rep_int_of pj, g2, by rw [g3.length]; exact e3, ?_⟩
          exact k.nx _ _ G2 _ hq2 (z.trans z2) ⟨O2, g4 _ _ (g3.set (by simpa using w2))⟩
        · exact hq2.elim
      | _ => exact hq2.elim
    · exact hq2.elim
  · exact hq.elim
def mWhile (mt : MT) (mb : MS) : MS := fun n ρ => ∃ W : Nat → DSt → Prop, (∃ k, W k ρ) ∧ ∀ k ρ, W k ρ → mt ρ fun b ρ1 =>
  if b = true then mb { n with nx := fun ρ' => ∃ k', k' < k ∧ W k' ρ', ct := fun ρ' => ∃ k', k' < k ∧ W k' ρ', bk := n.nx } ρ1 else n.nx ρ1
theorem qs_while {body : List Stmt} (hp : PassesOwn (model X.prog X.w) X.A X.env X.xe) (hc : QT X M.ow c mt) (hb : QSs X M body m) : QS X M (.While c body [] pos) (mWhile mt m) := by
  obtain ⟨t, p, s⟩ := hc; obtain ⟨t2, p2, s2⟩ := hb
  refine ⟨_, ps_while hp p p2, fun C G ρ σ H n D hm hn r h k => ?_⟩
  obtain ⟨W, ⟨k0, w0⟩, turn⟩ := h
  refine ⟨fun j σ' H' => ∃ G' ρ', Same G G' ∧ R C M.ow G' ρ' σ' H' [] ∧ W j ρ', ⟨k0, G, ρ, Same.refl _, r, w0⟩, ?_⟩
  rintro j σ' H' ⟨G', ρ', z, r', w⟩
  refine s C G' ρ' σ' H' [] _ _ r' (turn j ρ' w) fun b ρ1 G1 H1 hq z1 kp r1 => ?_
  cases b with
  | true =>
    rw [if_pos rfl] at hq ⊢
    refine ⟨fun σ2 H2 => ∃ j', j' < j ∧ ∃ G2 ρ2, Same G G2 ∧ R C M.ow G2 ρ2 σ2 H2 [] ∧ W j' ρ2, fun σ2 H2 h => h, ?_⟩
    refine s2 C G1 ρ1 σ' H1 _ _ hm hn r1 hq ⟨?_, ?_, ?_, ?_⟩
    · rintro ρ2 σ2 G2 H2 ⟨j', hj, w'⟩ z2 r2; exact ⟨j', hj, G2, ρ2, z.trans (z1.trans z2), r2, w'⟩
    · intro ρ2 σ2 G2 H2 h z2 r2; exact k.nx ρ2 σ2 G2 H2 h (z.trans (z1.trans z2)) r2
    · rintro ρ2 σ2 G2 H2 ⟨j', hj, w'⟩ z2 r2; exact ⟨j', hj, G2, ρ2, z.trans (z1.trans z2), r2, w'⟩
    · intro d ρ2 σ2 v G2 H2 h z2 r2; exact k.rt d ρ2 σ2 v G2 H2 h (z.trans (z1.trans z2)) r2
  | false => rw [if_neg (by decide)] at hq ⊢; exact k.nx ρ1 σ' G1 H1 hq (z.trans z1) r1
def ItOk (J : It) (G : Hp) (ds : List D) : Prop := ∀ (C : Ctx) (ow : List Bool) (G' : Hp) (ρ : DSt) (σ : St) (H : Hp) (pd : List (D × V)) (i : Nat), Same G G' → R C ow G' ρ σ H pd →
  (ds.length ≤ i → J.stop i H) ∧ ∀ d, ds[i]? = some d → J.go i H ∧ ∀ x H', J.yld i H x H' → ∃ G2, Same G' G2 ∧ R C ow G2 ρ σ H' pd ∧ Rep G2 d x
def SI (ow : List Bool) (wi : TI) (mi : MA) : Prop := ∀ (C : Ctx) (G : Hp) (ρ : DSt) (σ : St) (H : Hp) (pd : List (D × V)) (q : List D → DSt → Prop) (Q : It → Hp → Prop), R C ow G ρ σ H pd → mi ρ q →
  (∀ ds ρ' G' H' J, q ds ρ' → Same G G' → Kp ow ρ ρ' → R C ow G' ρ' σ H' pd → ItOk J G' ds → Q J H') → wi σ H Q
structure QI (X : Cx) (ow : List Bool) (tg iter : Expr) (mi : MA) : Prop where
  ex : ∃ t, PI X tg iter t ∧ SI ow t mi
def forD (g : MG) (mb : MS) (n : EndsD) (ds : List D) (ρ : DSt) : Prop := ∃ I : Nat → DSt → Prop, I 0 ρ ∧
  (∀ i d ρ, ds[i]? = some d → I i ρ → g d ρ fun ρ1 => mb { n with nx := I (i + 1), ct := I (i + 1), bk := n.nx } ρ1) ∧ ∀ ρ, I ds.length ρ → n.nx ρ
def mFor (mi : MA) (g : MG) (mb : MS) : MS := fun n ρ => mi ρ fun ds ρ1 => forD g mb n ds ρ1
theorem qs_for {mi : MA} {tg iter : Expr} {body : List Stmt} (hp : PassesOwn (model X.prog X.w) X.A X.env X.xe) (hc : X.calm = true) (hi : QI X M.ow tg iter mi) (hg : QG X M tg mg) (hb : QSs X M body m)
    (hs : ∀ x, foldedSetIterable iter X.env x = pure x := by intro _; rfl) : QS X M (.For tg iter body [] pos) (mFor mi mg m) := by
  obtain ⟨ti, pi, si⟩ := hi; obtain ⟨tg', pg, sg⟩ := hg; obtain ⟨tb, pb, sb⟩ := hb
  refine ⟨_, ps_for hp hc pi pg pb hs, fun C G ρ σ H n D hm hn r h k => si C G ρ σ H [] _ _ r h fun ds ρ0 G0 H0 J hq z0 kp r0 jo => ?_⟩
  obtain ⟨I, i0, turn, fin⟩ := hq
  refine ⟨fun i j σ' H' => j = ds.length - i ∧ i ≤ ds.length ∧ ∃ G' ρ', Same G0 G' ∧ R C M.ow G' ρ' σ' H' [] ∧ I i ρ', ⟨_, rfl, Nat.zero_le _, G0, ρ0, Same.refl _, r0, i0⟩, ?_⟩
  rintro i j σ' H' ⟨rfl, hi, G', ρ', z, r', w⟩
  obtain ⟨st, go⟩ := jo C M.ow G' ρ' σ' H' [] i z r'
  by_cases hlt : i < ds.length
  · obtain ⟨g1, g2⟩ := go ds[i] (List.getElem?_eq_getElem hlt)
    refine .inr ⟨g1, fun σ2 H2 => ∃ G2 ρ2, Same G0 G2 ∧ R C M.ow G2 ρ2 σ2 H2 [] ∧ I (i + 1) ρ2, fun σ2 H2 h => ⟨ds.length - (i + 1), by omega, rfl, hlt, h⟩, fun x H1 hy => ?_⟩
    obtain ⟨G1, z1, r1, p1⟩ := g2 x H1 hy
    refine sg C G1 ρ' σ' H1 [] ds[i] x _ _ hm r1 p1 (turn i ds[i] ρ' (List.getElem?_eq_getElem hlt) w) fun ρ2 σ2 h2 r2 => ?_
    refine sb C G1 ρ2 σ2 H1 _ _ hm hn r2 h2 ⟨?_, ?_, ?_, ?_⟩
    · intro ρ3 σ3 G3 H3 h3 z3 r3; exact ⟨G3, ρ3, z.trans (z1.trans z3), r3, h3⟩
    · intro ρ3 σ3 G3 H3 h3 z3 r3; exact k.nx ρ3 σ3 G3 H3 h3 (z0.trans (z.trans (z1.trans z3))) r3
    · intro ρ3 σ3 G3 H3 h3 z3 r3; exact ⟨G3, ρ3, z.trans (z1.trans z3), r3, h3⟩
    · intro d ρ3 σ3 v G3 H3 h3 z3 r3; exact k.rt d ρ3 σ3 v G3 H3 h3 (z0.trans (z.trans (z1.trans z3))) r3
  · have e : i = ds.length := by omega
    subst e
    exact .inl ⟨st (Nat.le_refl _), k.nx ρ' σ' G' H' (fin ρ' w) (z0.trans z) r'⟩
end
section
variable {X : Cx} {ow : List Bool} {a b c e tg : Expr} {ma mb mc : ME} {pos : Pos} {mr : MA} {es : List Expr}
def miLst (m : ME) : MA := fun ρ q => m ρ fun d ρ' => match d with
  | .lst ds => q ds ρ'
  | _ => False
def rngD (lo : Int) (n : Nat) : List D := (List.range n).map fun (i : Nat) => .int (lo + i)
theorem rngD_at {lo : Int} {n i : Nat} {d : D} (h : (rngD lo n)[i]? = some d) : i < n ∧ d = .int (lo + i) := by
  unfold rngD at h
  rw [List.getElem?_map] at h
  by_cases c : i < n
  · rw [List.getElem?_range c] at h; exact ⟨c, (Option.some.inj h).symm⟩
  · rw [List.getElem?_eq_none (by simp; omega)] at h; cases h
theorem rngD_len (lo : Int) (n : Nat) : (rngD lo n).length = n := by unfold rngD; simp
theorem itr_ok {G : Hp} {lo : Int} {n : Nat} : ItOk (Itr lo n) G (rngD lo n) := fun C ow G' ρ σ H pd i z r => by
  refine ⟨fun hl => by rw [rngD_len] at hl; exact hl, fun d e => ?_⟩
  obtain ⟨h1, rfl⟩ := rngD_at e
  refine ⟨h1, fun x H' hy => ?_⟩
  obtain ⟨rfl, rfl⟩ := hy
  exact ⟨G', Same.refl _, r, rep_int _⟩
def miR1 (m : MA) : MA := fun ρ q => m ρ fun ds ρ' => match ds with
  | [.int j] => (-(2 ^ 62) ≤ j ∧ j < 2 ^ 62) ∧ q (rngD 0 j.toNat) ρ'
  | _ => False
def miR2 (m : MA) : MA := fun ρ q => m ρ fun ds ρ' => match ds with
  | [.int i, .int j] => (-(2 ^ 62) ≤ i ∧ i < 2 ^ 62 ∧ -(2 ^ 62) ≤ j ∧ j < 2 ^ 62) ∧ q (rngD i (j - i).toNat) ρ'
  | _ => False
theorem qi_range1 {p : Pos} (hg : Gl X "range") (hm : X.mg "range" = none) (ha : QA X ow [a] mr) (hs : starEach [a] X.env = [(false, eval a X.env)] := by rfl) : QI X ow tg (.Call (.Name "range" p) [a] [] pos) (miR1 mr) := by
  obtain ⟨t, p, s⟩ := ha
  refine ⟨_, pi_range1 hg hm p hs, fun C G ρ σ H pd q Q r hm k => s C G ρ σ H pd _ _ r hm fun ds ρ' vs G' H' hq z kp r' p hn => ?_⟩
  split at hq
  · obtain ⟨v, rfl, p1⟩ := reps_one p
    rw [rep_int_of p1]
    exact ⟨_, rfl, hq.1.1, hq.1.2, k _ ρ' G' H' _ hq.2 z kp r' itr_ok⟩
  · exact hq.elim
theorem qi_range2 {p : Pos} (hg : Gl X "range") (hm : X.mg "range" = none) (ha : QA X ow [a, b] mr) (hs : starEach [a, b] X.env = [(false, eval a X.env), (false, eval b X.env)] := by rfl) (hs2 : starEach [b] X.env = [(false, eval b X.env)] := by rfl) : QI X ow tg (.Call (.Name "range" p) [a, b] [] pos) (miR2 mr) := by
  obtain ⟨t, p, s⟩ := ha
  refine ⟨_, pi_range2 hg hm p hs hs2, fun C G ρ σ H pd q Q r hm k => s C G ρ σ H pd _ _ r hm fun ds ρ' vs G' H' hq z kp r' p hn => ?_⟩
  split at hq
  · obtain ⟨v, u, rfl, p1, p2⟩ := reps_two p
    rw [rep_int_of p1, rep_int_of p2]
    exact ⟨_, _, rfl, hq.1, k _ ρ' G' H' _ hq.2 z kp r' itr_ok⟩
  · exact hq.elim
def enuD (ds : List D) : List D := ds.mapIdx fun i d => .tup [.int i, d]
theorem enuD_len (ds : List D) : (enuD ds).length = ds.length := by unfold enuD; simp
theorem enuD_at {ds : List D} {i : Nat} {d : D} (h : (enuD ds)[i]? = some d) : ∃ d', ds[i]? = some d' ∧ d = .tup [.int i, d'] := by
  unfold enuD at h
  rw [List.getElem?_mapIdx] at h
  cases e : ds[i]? with
  | none => rw [e] at h; cases h
  | some d' => rw [e] at h; exact ⟨d', rfl, (Option.some.inj h).symm⟩
theorem ite_ok {G : Hp} {p : Addr} {xs : List V} {ds : List D} (h1 : G p = some (.lst xs)) (h2 : Reps G ds xs) : ItOk (Ite p) G (enuD ds) := fun C ow G' ρ σ H pd i z r => by
  have hp := r.gh _ _ (z _ _ h1)
  refine ⟨fun hl => ⟨xs, hp, by rw [h2.length]; rw [enuD_len] at hl; exact hl⟩, fun d e => ?_⟩
  obtain ⟨d', e0, rfl⟩ := enuD_at e
  obtain ⟨v, e1, e2⟩ := reps_get h2 e0
  refine ⟨⟨xs, v, hp, e1⟩, fun x H' hy => ?_⟩
  obtain ⟨a, x', ha, rfl, rfl, hy⟩ := hy
  have := hy xs hp
  rw [e1] at this; cases this
  obtain ⟨O, r⟩ := r
  obtain ⟨r2, s2⟩ := r.new ha (.tup [.int i, v])
  exact ⟨_, s2, ⟨O, r2⟩, rep_tup upd_same (reps_cons (rep_int _) (reps_cons (Rep.mono (z.trans s2) _ _ e2) reps_nil))⟩
def miEnu (m : MA) : MA := fun ρ q => m ρ fun ds ρ' => match ds with
  | [.lst ds] => q (enuD ds) ρ'
  | _ => False
theorem qi_enum {k : Nat} {tpos p : Pos} (hg : Gl X "enumerate") (hm : X.mg "enumerate" = none) (ha : QA X ow [a] mr) (hs : starEach [a] X.env = [(false, eval a X.env)] := by rfl) : QI X ow (.Tuple es k tpos) (.Call (.Name "enumerate" p) [a] [] pos) (miEnu mr) := by
  obtain ⟨t, p, s⟩ := ha
  refine ⟨_, pi_enum hg hm p hs, fun C G ρ σ H pd q Q r hm k => s C G ρ σ H pd _ _ r hm fun ds ρ' vs G' H' hq z kp r' p hn => ?_⟩
  split at hq
  · obtain ⟨v, rfl, p1⟩ := reps_one p
    obtain ⟨a, xs, rfl, h1, h2⟩ := rep_lst_of p1
    exact ⟨a, rfl, ⟨xs, r'.gh _ _ h1⟩, k _ ρ' G' H' _ hq z kp r' (ite_ok h1 h2)⟩
  · exact hq.elim
def mMove (i : Nat) : ME := fun ρ q => match ρ[i]? with
  | some (some d) => q d (ρ.set i none)
  | _ => False
end
inductive AK where
  | s | m (i : Nat) | t
def AK.isM : AK → Bool
  | .s => false
  | _ => true
def ArgsK (G : Hp) (σ : St) : List AK → List D → List V → List (D × V) → Prop
  | [], [], [], [] => True
  | .s :: ks, d :: ds, v :: vs, T => Rep G d v ∧ ArgsK G σ ks ds vs T
  | .m i :: ks, _ :: ds, v :: vs, T => σ[i]? = some (some v) ∧ ArgsK G σ ks ds vs T
  | .t :: ks, d :: ds, v :: vs, x :: T => x = (d, v) ∧ ArgsK G σ ks ds vs T
  | _, _, _, _ => False
def SAk (ow : List Bool) (ks : List AK) (t : TA) (m : MA) : Prop := ∀ (C : Ctx) (G : Hp) (ρ : DSt) (σ : St) (H : Hp) (pd : List (D × V)) (q : List D → DSt → Prop) (Q : List V → Hp → Prop), R C ow G ρ σ H pd → m ρ q →
  (∀ ds ρ' vs T G' H', q ds ρ' → Same G G' → Kp ow ρ ρ' → R C ow G' ρ' σ H' (T.reverse ++ pd) → ArgsK G' σ ks ds vs T → Q vs H') → t σ H Q
structure QAk (X : Cx) (ow : List Bool) (ks : List AK) (es : List Expr) (m : MA) : Prop where
  ex : ∃ t, PA X es t ∧ SAk ow ks t m
section
variable {X : Cx} {ow : List Bool} {a b c e tg : Expr} {ma mb mc : ME} {pos : Pos} {mr : MA} {es : List Expr} {ks : List AK}
theorem qk_nil : QAk X ow [] [] mNil := ⟨_, pa_nil, fun C G ρ σ H pd q Q r h k => k [] ρ [] [] G H h (Same.refl _) Kp.refl r trivial⟩
theorem qk_s (ha : QE X ow e ma) (hr : QAk X ow ks es mr) (hs : starEach (e :: es) X.env = (false, eval e X.env) :: starEach es X.env := by rfl) : QAk X ow (.s :: ks) (e :: es) (mCons ma mr) := by
  obtain ⟨t, p, s⟩ := ha; obtain ⟨t2, p2, s2⟩ := hr
  refine ⟨_, pa_cons p p2 hs, fun C G ρ σ H pd q Q r hm k => s C G ρ σ H pd _ _ r hm fun d ρ' v G' H' hq z kp r' p => ?_⟩
  exact s2 C G' ρ' σ H' pd _ _ r' hq fun ds ρ2 vs T G2 H2 hq2 z2 kp2 r2 p2 => k (d :: ds) ρ2 (v :: vs) T G2 H2 hq2 (z.trans z2) (kp.trans kp2) r2 ⟨Rep.mono z2 _ _ p, p2⟩
theorem qk_t (ha : QF X ow e ma) (hr : QAk X ow ks es mr) (hs : starEach (e :: es) X.env = (false, eval e X.env) :: starEach es X.env := by rfl) : QAk X ow (.t :: ks) (e :: es) (mCons ma mr) := by
  obtain ⟨t, p, s⟩ := ha; obtain ⟨t2, p2, s2⟩ := hr
  refine ⟨_, pa_cons p p2 hs, fun C G ρ σ H pd q Q r hm k => s C G ρ σ H pd _ _ r hm fun d ρ' v G' H' hq z kp r' => ?_⟩
  exact s2 C G' ρ' σ H' _ _ _ r' hq fun ds ρ2 vs T G2 H2 hq2 z2 kp2 r2 p2 => k (d :: ds) ρ2 (v :: vs) ((d, v) :: T) G2 H2 hq2 (z.trans z2) (kp.trans kp2) (by simpa using r2) ⟨rfl, p2⟩
def mConsM (i : Nat) (r : MA) : MA := fun ρ q => match ρ[i]? with
  | some (some _) => r ρ fun ds ρ2 => q (.non :: ds) ρ2
  | _ => False
theorem qk_m (i : Nat) {x : Str} (hr : QAk X ow ks es mr) (hN : X.N[i]? = some x := by rfl) (hv : Vis X.env.scope x := by first | exact Or.inl rfl | exact Or.inr (Or.inl rfl) | exact Or.inr (Or.inr rfl)) (hd : (x == ("__debug__" : Str)) = false := by decide)
    (hcd : (x == ("__classdict__" : Str)) = false := by decide) (hs : starEach (.Name x pos :: es) X.env = (false, eval (.Name x pos) X.env) :: starEach es X.env := by rfl) : QAk X ow (.m i :: ks) (.Name x pos :: es) (mConsM i mr) := by
  obtain ⟨t2, p2, s2⟩ := hr
  refine ⟨_, pa_cons (pe_var hN hv hd hcd) p2 hs, fun C G ρ σ H pd q Q r hm k => ?_⟩
  unfold mConsM at hm
  split at hm
  · rename_i d e
    obtain ⟨O, ro⟩ := r
    obtain ⟨v, h1, _⟩ := ro.sl i d e
    exact ⟨v, h1, s2 C G ρ σ H pd _ _ ⟨O, ro⟩ hm fun ds ρ2 vs T G2 H2 hq2 z2 kp2 r2 p2 => k (.non :: ds) ρ2 (v :: vs) T G2 H2 hq2 z2 kp2 r2 ⟨h1, p2⟩⟩
  · exact hm.elim
def fillA : List AK → List D → DSt → Option (List D)
  | [], [], _ => some []
  | .s :: ks, d :: ds, ρ => (fillA ks ds ρ).map (d :: ·)
  | .t :: ks, d :: ds, ρ => (fillA ks ds ρ).map (d :: ·)
  | .m i :: ks, _ :: ds, ρ => match ρ[i]? with
    | some (some d) => (fillA ks ds ρ).map (d :: ·)
    | _ => none
  | _, _, _ => none
def lbs : List AK → Nat → List (Option Nat)
  | [], _ => []
  | .s :: ks, r => none :: lbs ks r
  | .m i :: ks, r => some (2 * i) :: lbs ks r
  | .t :: ks, r => some (2 * r + 1) :: lbs ks (r + 1)
def slotsOf : List AK → List Nat
  | [] => []
  | .m i :: ks => i :: slotsOf ks
  | _ :: ks => slotsOf ks
def fnd (l : Nat) : List (Option Nat) → Nat → Option Nat
  | [], _ => none
  | x :: xs, k => if x = some l then some k else fnd l xs (k + 1)
theorem fnd_of {l : Nat} : ∀ {xs : List (Option Nat)} {k j : Nat}, fnd l xs k = some j → ∃ i, j = k + i ∧ xs[i]? = some (some l)
  | [], _, _, h => by cases h
  | x :: xs, k, j, h => by
    unfold fnd at h
    split at h
    · rename_i c; cases h; exact ⟨0, rfl, by simp [c]⟩
    · obtain ⟨i, rfl, e⟩ := fnd_of h; exact ⟨i + 1, by omega, by simpa using e⟩
theorem fnd_none {l : Nat} : ∀ {xs : List (Option Nat)} {k : Nat}, (∀ i : Nat, xs[i]? ≠ some (some l)) → fnd l xs k = none
  | [], _, _ => rfl
  | x :: xs, k, h => by
    unfold fnd
    rw [if_neg (fun c => h 0 (by simp [c]))]
    exact fnd_none fun i => by simpa using h (i + 1)
theorem fnd_at {l : Nat} : ∀ {xs : List (Option Nat)} {k i : Nat}, (∀ (i j : Nat) (l : Nat), xs[i]? = some (some l) → xs[j]? = some (some l) → i = j) → xs[i]? = some (some l) → fnd l xs k = some (k + i)
  | [], _, _, _, h => by simp at h
  | x :: xs, k, i, u, h => by
    unfold fnd
    by_cases c : x = some l
    · rw [if_pos c]
      have := u 0 i l (by simp [c]) h
      subst this; rfl
    · rw [if_neg c]
      cases i with
      | zero => simp at h; exact absurd h c
      | succ i =>
        have := fnd_at (k := k + 1) (i := i) (fun i j l a b => by have := u (i + 1) (j + 1) l (by simpa using a) (by simpa using b); omega) (by simpa using h)
        rw [this]; congr 1; omega
theorem lbs_odd : ∀ {ks : List AK} {r : Nat} {i l : Nat}, (lbs ks r)[i]? = some (some l) → (∃ j ∈ slotsOf ks, l = 2 * j) ∨ ∃ j, r ≤ j ∧ l = 2 * j + 1
  | [], _, _, _, h => by simp [lbs] at h
  | .s :: ks, r, 0, l, h => by simp [lbs] at h
  | .s :: ks, r, i + 1, l, h => by simp only [lbs, List.getElem?_cons_succ] at h; have := lbs_odd (ks := ks) h; simpa [slotsOf] using this
  | .m j :: ks, r, 0, l, h => by simp [lbs] at h; exact .inl ⟨j, by simp [slotsOf], h.symm⟩
  | .m j :: ks, r, i + 1, l, h => by
    simp only [lbs, List.getElem?_cons_succ] at h
    rcases lbs_odd h with ⟨z, h1, h2⟩ | h
    · exact .inl ⟨z, by simp [slotsOf, h1], h2⟩
    · exact .inr h
  | .t :: ks, r, 0, l, h => by simp [lbs] at h; exact .inr ⟨r, Nat.le_refl _, h.symm⟩
  | .t :: ks, r, i + 1, l, h => by
    simp only [lbs, List.getElem?_cons_succ] at h
    rcases lbs_odd h with ⟨z, h1, h2⟩ | ⟨j, h1, h2⟩
    · exact .inl ⟨z, by simpa [slotsOf] using h1, h2⟩
    · exact .inr ⟨j, by omega, h2⟩
theorem lbs_uniq : ∀ {ks : List AK} {r : Nat}, (slotsOf ks).Nodup → ∀ (i j l : Nat), (lbs ks r)[i]? = some (some l) → (lbs ks r)[j]? = some (some l) → i = j
  | [], _, _, i, j, l, h, _ => by simp [lbs] at h
  | .s :: ks, r, nd, 0, j, l, h, _ => by simp [lbs] at h
  | .s :: ks, r, nd, i + 1, 0, l, _, h => by simp [lbs] at h
  | .s :: ks, r, nd, i + 1, j + 1, l, h, h2 => by simp only [lbs, List.getElem?_cons_succ] at h h2; rw [lbs_uniq (ks := ks) (by simpa [slotsOf] using nd) i j l h h2]
  | .m a :: ks, r, nd, 0, 0, l, _, _ => rfl
  | .m a :: ks, r, nd, 0, j + 1, l, h, h2 => by
    simp only [lbs, List.getElem?_cons_succ] at h2; simp [lbs] at h
    simp only [slotsOf, List.nodup_cons] at nd
    rcases lbs_odd h2 with ⟨z, h3, h4⟩ | ⟨z, h3, h4⟩
    · exact absurd h3 (by rw [show z = a by omega]; exact nd.1)
    · omega
  | .m a :: ks, r, nd, i + 1, 0, l, h2, h => by
    simp only [lbs, List.getElem?_cons_succ] at h2; simp [lbs] at h
    simp only [slotsOf, List.nodup_cons] at nd
    rcases lbs_odd h2 with ⟨z, h3, h4⟩ | ⟨z, h3, h4⟩
    · exact absurd h3 (by rw [show z = a by omega]; exact nd.1)
    · omega
  | .m a :: ks, r, nd, i + 1, j + 1, l, h, h2 => by
    simp only [slotsOf, List.nodup_cons] at nd
    simp only [lbs, List.getElem?_cons_succ] at h h2; rw [lbs_uniq (ks := ks) nd.2 i j l h h2]
  | .t :: ks, r, nd, 0, 0, l, _, _ => rfl
  | .t :: ks, r, nd, 0, j + 1, l, h, h2 => by
    simp only [lbs, List.getElem?_cons_succ] at h2; simp [lbs] at h
    rcases lbs_odd h2 with ⟨z, h3, h4⟩ | ⟨z, h3, h4⟩ <;> omega
  | .t :: ks, r, nd, i + 1, 0, l, h2, h => by
    simp only [lbs, List.getElem?_cons_succ] at h2; simp [lbs] at h
    rcases lbs_odd h2 with ⟨z, h3, h4⟩ | ⟨z, h3, h4⟩ <;> omega
  | .t :: ks, r, nd, i + 1, j + 1, l, h, h2 => by simp only [lbs, List.getElem?_cons_succ] at h h2; rw [lbs_uniq (ks := ks) (by simpa [slotsOf] using nd) i j l h h2]
end
theorem pend_tail {G H : Hp} {O : Own} : ∀ {T pd : List (D × V)}, Pend G H O (T ++ pd) → Pend G H O pd
  | [], _, h => h
  | _ :: T, _, h => pend_tail (T := T) h.2
theorem pend_at {G H : Hp} {O : Own} : ∀ {T pd : List (D × V)} {j : Nat} {x : D × V}, Pend G H O (T.reverse ++ pd) → T[j]? = some x → Sep G H O (2 * (pd.length + j) + 1) x.1 [] x.2
  | [], _, _, _, _, e => by simp at e
  | y :: T, pd, j, x, h, e => by
    have h' : Pend G H O (T.reverse ++ (y :: pd)) := by simpa using h
    cases j with
    | zero => simp at e; subst e; exact (pend_tail h').1
    | succ j =>
      have := pend_at (j := j) h' (by simpa using e)
      rw [show pd.length + (j + 1) = (y :: pd).length + j by simp; omega]
      exact this
theorem args_at {G H : Hp} {O : Own} {σ : St} {ρ : DSt} : ∀ {ks : List AK} {ds ds' : List D} {vs : List V} {T : List (D × V)} {r : Nat}, ArgsK G σ ks ds vs T → fillA ks ds ρ = some ds' →
    (∀ (j : Nat) x, T[j]? = some x → Sep G H O (2 * (r + j) + 1) x.1 [] x.2) → (∀ i ∈ slotsOf ks, ∀ d, ρ[i]? = some (some d) → ∃ v, σ[i]? = some (some v) ∧ Sep G H O (2 * i) d [] v) →
    ds'.length = vs.length ∧ vs.length = ks.length ∧ ∀ (k : Nat) d, ds'[k]? = some d → ∃ v, vs[k]? = some v ∧ ((∃ l, (lbs ks r)[k]? = some (some l) ∧ (ks.map AK.isM)[k]? = some true ∧ Sep G H O l d [] v) ∨ ((ks.map AK.isM)[k]? = some false ∧ Rep G d v))
  | [], [], ds', [], [], r, _, hf, _, _ => by simp [fillA] at hf; subst hf; exact ⟨rfl, rfl, fun k d e => by simp at e⟩
  | .s :: ks, d :: ds, ds', v :: vs, T, r, h, hf, hT, hS => by
    rw [fillA] at hf
    cases e : fillA ks ds ρ with
    | none => rw [e] at hf; cases hf
    | some es =>
      rw [e] at hf; cases hf
      obtain ⟨l1, l2, ih⟩ := args_at (ks := ks) h.2 e hT (fun i hi => hS i (by simpa [slotsOf] using hi))
      refine ⟨by simp [l1], by simp [l2], fun k d' e' => ?_⟩
      cases k with
      | zero => simp at e'; subst e'; exact ⟨v, rfl, .inr ⟨rfl, h.1⟩⟩
      | succ k => obtain ⟨u, g1, g2⟩ := ih k d' (by simpa using e'); exact ⟨u, by simpa using g1, by simpa [lbs] using g2⟩
  | .m i :: ks, d :: ds, ds', v :: vs, T, r, h, hf, hT, hS => by
    rw [fillA] at hf
    cases e0 : ρ[i]? with
    | none => rw [e0] at hf; cases hf
    | some o =>
      cases o with
      | none => rw [e0] at hf; cases hf
      | some d0 =>
        rw [e0] at hf
        dsimp only at hf
        cases e : fillA ks ds ρ with
        | none => rw [e] at hf; cases hf
        | some es =>
          rw [e] at hf; cases hf
          obtain ⟨l1, l2, ih⟩ := args_at (ks := ks) h.2 e hT (fun i hi => hS i (by simp [slotsOf, hi]))
          refine ⟨by simp [l1], by simp [l2], fun k d' e' => ?_⟩
          cases k with
          | zero =>
            simp at e'; subst e'
            obtain ⟨u, g1, g2⟩ := hS i (by simp [slotsOf]) d0 e0
            rw [h.1] at g1; cases g1
            exact ⟨v, rfl, .inl ⟨2 * i, by simp [lbs], rfl, g2⟩⟩
          | succ k => obtain ⟨u, g1, g2⟩ := ih k d' (by simpa using e'); exact ⟨u, by simpa using g1, by simpa [lbs] using g2⟩
  | .t :: ks, d :: ds, ds', v :: vs, x :: T, r, h, hf, hT, hS => by
    rw [fillA] at hf
    cases e : fillA ks ds ρ with
    | none => rw [e] at hf; cases hf
    | some es =>
      rw [e] at hf; cases hf
      obtain ⟨l1, l2, ih⟩ := args_at (ks := ks) (r := r + 1) h.2 e (fun j x e => by rw [show r + 1 + j = r + (j + 1) by omega]; exact hT (j + 1) x (by simpa using e)) (fun i hi => hS i (by simpa [slotsOf] using hi))
      refine ⟨by simp [l1], by simp [l2], fun k d' e' => ?_⟩
      cases k with
      | zero =>
        simp at e'; subst e'
        have := hT 0 x rfl
        rw [h.1] at this
        exact ⟨v, rfl, .inl ⟨2 * r + 1, by simp [lbs], rfl, this⟩⟩
      | succ k => obtain ⟨u, g1, g2⟩ := ih k d' (by simpa using e'); exact ⟨u, by simpa using g1, by simpa [lbs] using g2⟩
  | [], _ :: _, _, _, _, _, h, _, _, _ => h.elim
  | [], [], _, _ :: _, _, _, h, _, _, _ => h.elim
  | [], [], _, [], _ :: _, _, h, _, _, _ => h.elim
  | .s :: _, [], _, _, _, _, h, _, _, _ => h.elim
  | .s :: _, _ :: _, _, [], _, _, h, _, _, _ => h.elim
  | .m _ :: _, [], _, _, _, _, h, _, _, _ => h.elim
  | .m _ :: _, _ :: _, _, [], _, _, h, _, _, _ => h.elim
  | .t :: _, [], _, _, _, _, h, _, _, _ => h.elim
  | .t :: _, _ :: _, _, [], _, _, h, _, _, _ => h.elim
  | .t :: _, _ :: _, _, _ :: _, [], _, h, _, _, _ => h.elim
theorem args_slot {G : Hp} {σ : St} : ∀ {ks : List AK} {ds : List D} {vs : List V} {T : List (D × V)} {k i : Nat}, ArgsK G σ ks ds vs T → ks[k]? = some (.m i) → ∃ v, vs[k]? = some v ∧ σ[i]? = some (some v)
  | [], _, _, _, k, i, _, e => by simp at e
  | .s :: ks, d :: ds, v :: vs, T, 0, i, h, e => by simp at e
  | .s :: ks, d :: ds, v :: vs, T, k + 1, i, h, e => by obtain ⟨u, g1, g2⟩ := args_slot (k := k) h.2 (by simpa using e); exact ⟨u, by simpa using g1, g2⟩
  | .m j :: ks, d :: ds, v :: vs, T, 0, i, h, e => by simp at e; subst e; exact ⟨v, rfl, h.1⟩
  | .m j :: ks, d :: ds, v :: vs, T, k + 1, i, h, e => by obtain ⟨u, g1, g2⟩ := args_slot (k := k) h.2 (by simpa using e); exact ⟨u, by simpa using g1, g2⟩
  | .t :: ks, d :: ds, v :: vs, x :: T, 0, i, h, e => by simp at e
  | .t :: ks, d :: ds, v :: vs, x :: T, k + 1, i, h, e => by obtain ⟨u, g1, g2⟩ := args_slot (k := k) h.2 (by simpa using e); exact ⟨u, by simpa using g1, g2⟩
  | .s :: _, [], _, _, _, _, h, _ => h.elim
  | .s :: _, _ :: _, [], _, _, _, h, _ => h.elim
  | .m _ :: _, [], _, _, _, _, h, _ => h.elim
  | .m _ :: _, _ :: _, [], _, _, _, h, _ => h.elim
  | .t :: _, [], _, _, _, _, h, _ => h.elim
  | .t :: _, _ :: _, [], _, _, _, h, _ => h.elim
  | .t :: _, _ :: _, _ :: _, [], _, _, h, _ => h.elim
def putR : List AK → DSt → DSt → DSt
  | .m i :: ks, x :: ρ2, ρ => putR ks ρ2 (ρ.set i x)
  | _ :: ks, _ :: ρ2, ρ => putR ks ρ2 ρ
  | _, _, ρ => ρ
def putK : List AK → DSt → DSt → DSt
  | .s :: ks, os, ρ => putK ks os ρ
  | .m i :: ks, o :: os, ρ => putK ks os (ρ.set i o)
  | .t :: ks, _ :: os, ρ => putK ks os ρ
  | _, _, ρ => ρ
theorem putK_eq : ∀ {ks : List AK} {ρ2 ρ : DSt}, ρ2.length = ks.length → putK ks (mus (ks.map AK.isM) ρ2) ρ = putR ks ρ2 ρ
  | [], [], ρ, _ => rfl
  | .s :: ks, x :: ρ2, ρ, h => by simp only [List.map, AK.isM, mus, putK, putR]; exact putK_eq (by simpa using h)
  | .m i :: ks, x :: ρ2, ρ, h => by simp only [List.map, AK.isM, mus, putK, putR]; exact putK_eq (by simpa using h)
  | .t :: ks, x :: ρ2, ρ, h => by simp only [List.map, AK.isM, mus, putK, putR]; exact putK_eq (by simpa using h)
theorem putR_len : ∀ {ks : List AK} {ρ2 ρ : DSt}, (putR ks ρ2 ρ).length = ρ.length
  | [], _, _ => by simp [putR]
  | .s :: ks, [], _ => by simp [putR]
  | .m i :: ks, [], _ => by simp [putR]
  | .t :: ks, [], _ => by simp [putR]
  | .s :: ks, x :: ρ2, ρ => by simp only [putR]; exact putR_len
  | .m i :: ks, x :: ρ2, ρ => by simp only [putR]; rw [putR_len]; simp
  | .t :: ks, x :: ρ2, ρ => by simp only [putR]; exact putR_len
theorem putR_off : ∀ {ks : List AK} {ρ2 ρ : DSt} {i : Nat}, i ∉ slotsOf ks → (putR ks ρ2 ρ)[i]? = ρ[i]?
  | [], _, _, _, _ => by simp [putR]
  | .s :: ks, [], _, _, _ => by simp [putR]
  | .m i :: ks, [], _, _, _ => by simp [putR]
  | .t :: ks, [], _, _, _ => by simp [putR]
  | .s :: ks, x :: ρ2, ρ, i, h => by simp only [putR]; exact putR_off (by simpa [slotsOf] using h)
  | .t :: ks, x :: ρ2, ρ, i, h => by simp only [putR]; exact putR_off (by simpa [slotsOf] using h)
  | .m j :: ks, x :: ρ2, ρ, i, h => by
    simp only [putR]
    simp only [slotsOf, List.mem_cons, not_or] at h
    rw [putR_off h.2, List.getElem?_set_ne (Ne.symm h.1)]
theorem putR_at : ∀ {ks : List AK} {ρ2 ρ : DSt} {i : Nat} {d : D}, (putR ks ρ2 ρ)[i]? = some (some d) → ρ2.length = ks.length → (i ∉ slotsOf ks ∧ ρ[i]? = some (some d)) ∨ ∃ k : Nat, ks[k]? = some (.m i) ∧ ρ2[k]? = some (some d)
  | [], [], ρ, i, d, h, _ => .inl ⟨by simp [slotsOf], by simpa [putR] using h⟩
  | .s :: ks, x :: ρ2, ρ, i, d, h, hl => by
    simp only [putR] at h
    rcases putR_at h (by simpa using hl) with ⟨h1, h2⟩ | ⟨k, h1, h2⟩
    · exact .inl ⟨by simpa [slotsOf] using h1, h2⟩
    · exact .inr ⟨k + 1, by simpa using h1, by simpa using h2⟩
  | .t :: ks, x :: ρ2, ρ, i, d, h, hl => by
    simp only [putR] at h
    rcases putR_at h (by simpa using hl) with ⟨h1, h2⟩ | ⟨k, h1, h2⟩
    · exact .inl ⟨by simpa [slotsOf] using h1, h2⟩
    · exact .inr ⟨k + 1, by simpa using h1, by simpa using h2⟩
  | .m j :: ks, x :: ρ2, ρ, i, d, h, hl => by
    simp only [putR] at h
    rcases putR_at h (by simpa using hl) with ⟨h1, h2⟩ | ⟨k, h1, h2⟩
    · rcases set_at h2 with ⟨rfl, rfl⟩ | ⟨h3, h4⟩
      · exact .inr ⟨0, rfl, rfl⟩
      · exact .inl ⟨by simp [slotsOf, h1, h3], h4⟩
    · exact .inr ⟨k + 1, by simpa using h1, by simpa using h2⟩
theorem lbs_m : ∀ {ks : List AK} {r k i : Nat}, ks[k]? = some (.m i) → (lbs ks r)[k]? = some (some (2 * i))
  | [], _, _, _, e => by simp at e
  | .s :: ks, r, 0, i, e => by simp at e
  | .s :: ks, r, k + 1, i, e => by simp only [lbs, List.getElem?_cons_succ]; exact lbs_m (by simpa using e)
  | .m j :: ks, r, 0, i, e => by simp at e; subst e; simp [lbs]
  | .m j :: ks, r, k + 1, i, e => by simp only [lbs, List.getElem?_cons_succ]; exact lbs_m (by simpa using e)
  | .t :: ks, r, 0, i, e => by simp at e
  | .t :: ks, r, k + 1, i, e => by simp only [lbs, List.getElem?_cons_succ]; exact lbs_m (by simpa using e)
theorem lbs_isM : ∀ {ks : List AK} {r k l : Nat}, (lbs ks r)[k]? = some (some l) → (ks.map AK.isM)[k]? = some true
  | [], _, _, _, e => by simp [lbs] at e
  | .s :: ks, r, 0, i, e => by simp [lbs] at e
  | .s :: ks, r, k + 1, i, e => by simp only [lbs, List.getElem?_cons_succ] at e; simp only [List.map, List.getElem?_cons_succ]; exact lbs_isM e
  | .m j :: ks, r, 0, i, e => rfl
  | .m j :: ks, r, k + 1, i, e => by simp only [lbs, List.getElem?_cons_succ] at e; simp only [List.map, List.getElem?_cons_succ]; exact lbs_isM e
  | .t :: ks, r, 0, i, e => rfl
  | .t :: ks, r, k + 1, i, e => by simp only [lbs, List.getElem?_cons_succ] at e; simp only [List.map, List.getElem?_cons_succ]; exact lbs_isM e
theorem slot_of {ks : List AK} {k i : Nat} (h : ks[k]? = some (.m i)) : i ∈ slotsOf ks := by
  induction ks generalizing k with
  | nil => simp at h
  | cons x ks ih =>
    cases k with
    | zero => simp at h; subst h; simp [slotsOf]
    | succ k => have := ih (by simpa using h); cases x <;> simp [slotsOf, this]
theorem run_call {C : Ctx} {ow : List Bool} {G : Hp} {ρ : DSt} {σ : St} {H : Hp} {pd T : List (D × V)} {ks : List AK} {ds ds' : List D} {vs : List V} {fr : Bool} {sd : SpD} {q : D → DSt → Prop} {Q : VK} {E : XK}
    (hn : C.np ≤ pd.length) (r : R C ow G ρ σ H (T.reverse ++ pd)) (ha : ArgsK G σ ks ds vs T) (hf : fillA ks ds ρ = some ds') (nd : (slotsOf ks).Nodup) (hw : ∀ i ∈ slotsOf ks, ow[i]? = some true)
    (h : sd ds' fun d os => q d (putK ks os ρ))
    (k : ∀ d ρ' v G' H', q d ρ' → Same G G' → Kp ow ρ ρ' → (if fr = true then R C ow G' ρ' σ H' ((d, v) :: pd) else R C ow G' ρ' σ H' pd ∧ Rep G' d v) → Q v H') : spOf (ks.map AK.isM) fr sd vs H Q E := by
  obtain ⟨O, ro⟩ := r
  have pn := ro.pn
  obtain ⟨l1, l2, hat⟩ := args_at (O := O) (H := H) (r := pd.length) ha hf (fun j x e => pend_at pn e) (fun i hi d e => by
    obtain ⟨v, h1, h2⟩ := ro.sl i d e; rw [if_pos (hw i hi)] at h2; exact ⟨v, h1, h2⟩)
  let lb := lbs ks pd.length
  let fin : Nat → Option Nat := fun l => (fnd l lb 0).map (2 * ·)
  let fbk : Nat → Option Nat := fun l => if l = 1 then some (2 * pd.length + 1) else if l % 2 = 0 then (match lb[l / 2]? with | some o => o | none => none) else none
  have uq := lbs_uniq (ks := ks) (r := pd.length) nd
  have fin_at : ∀ (i l : Nat), lb[i]? = some (some l) → fin l = some (2 * i) := fun i l e => by
    show (fnd l lb 0).map _ = _
    rw [fnd_at uq e]; simp
  have fin_of : ∀ l l', fin l = some l' → ∃ i, l' = 2 * i ∧ lb[i]? = some (some l) := fun l l' e => by
    change (fnd l lb 0).map _ = _ at e
    cases z : fnd l lb 0 with
    | none => rw [z] at e; cases e
    | some j => rw [z] at e; cases e; obtain ⟨i, rfl, e2⟩ := fnd_of z; exact ⟨i, by show 2 * (0 + i) = 2 * i; omega, e2⟩
  have fin_none : ∀ l, (∀ i : Nat, lb[i]? ≠ some (some l)) → fin l = none := fun l e => by
    show (fnd l lb 0).map _ = _
    rw [fnd_none e]; rfl
  have ri := ro.into (mu := ks.map AK.isM) (fin := fin) (ds := ds') (vs := vs) l1 (fun j d e => by
    obtain ⟨v, h1, h2⟩ := hat j d e
    refine ⟨v, h1, ?_⟩
    rcases h2 with ⟨l, h2, h3, h4⟩ | ⟨h2, h3⟩
    · rw [if_pos h3]; exact ⟨l, h4, fin_at j l h2⟩
    · rw [if_neg (by rw [h2]; decide)]; exact h3) (fun l l' e => by
    obtain ⟨i, rfl, e2⟩ := fin_of l l' e
    exact ⟨i, rfl, lbs_isM e2, by have := (List.getElem?_eq_some_iff.mp (lbs_isM e2)).1; rw [List.length_map] at this; omega⟩)
  refine ⟨_, G, ds', fun d os => q d (putK ks os ρ), rfl, rfl, ⟨_, ri⟩, h, by rw [List.length_map, l1, l2], ?_⟩
  intro d ρ2 σ2 v G2 H2 hq z hl hr
  rw [List.length_map] at hl
  rw [putK_eq hl] at hq
  have out : ∀ (pd2 pd3 : List (D × V)) (O2 : Own), RO ⟨G, H, ownM fin O, msV (ks.map AK.isM) vs, 0⟩ (ks.map AK.isM) G2 ρ2 σ2 H2 pd2 O2 → C.np ≤ pd3.length →
      (∀ (O3 : Own), (∀ a l π, O a = some (l, π) → fin l = none → O3 a = some (l, π) ∧ H2 a = H a) → (∀ a l l' π, O2 a = some (l', π) → fbk l' = some l → O3 a = some (l, π)) → TSame G G2 → Pend G2 H2 O3 pd3) →
      RO C ow G2 (putR ks ρ2 ρ) σ H2 pd3 (ownB fin fbk O O2) := fun pd2 pd3 O2 r2 hn3 hP => by
    refine ro.out (vs := vs) r2 ?_ (by rw [putR_len]; exact ro.len) hn3 ?_ ?_ hP
    · intro l0 l' l e1 e2
      obtain ⟨i, rfl, e3⟩ := fin_of l0 l' e1
      change (if 2 * i = 1 then _ else if 2 * i % 2 = 0 then _ else _) = _ at e2
      rw [if_neg (by omega), if_pos (by omega), show 2 * i / 2 = i by omega, e3] at e2
      exact (Option.some.inj e2).symm
    · intro i d c e
      rcases putR_at e hl with ⟨_, h2⟩ | ⟨k, h1, _⟩
      · exact h2
      · exact absurd (hw i (slot_of h1)) c
    · intro i d c e
      rcases putR_at e hl with ⟨h1, h2⟩ | ⟨j, h1, h2⟩
      · refine .inl ⟨fin_none _ fun j e => ?_, h2⟩
        rcases lbs_odd e with ⟨z, h3, h4⟩ | ⟨z, h3, h4⟩
        · exact h1 (by rw [show i = z by omega]; exact h3)
        · omega
      · obtain ⟨u, g1, g2⟩ := args_slot ha h1
        have im : (ks.map AK.isM)[j]? = some true := by rw [List.getElem?_map, h1]; rfl
        refine .inr ⟨j, u, ?_, im, h2, g2, r2.mp j u (msV_at im g1)⟩
        show (if 2 * j = 1 then _ else if 2 * j % 2 = 0 then _ else _) = _
        rw [if_neg (by omega), if_pos (by omega), show 2 * j / 2 = j by omega, lbs_m h1]
  have pdk : ∀ (O3 : Own), (∀ a l π, O a = some (l, π) → fin l = none → O3 a = some (l, π) ∧ H2 a = H a) → TSame G G2 → Pend G2 H2 O3 pd := fun O3 h1 ts =>
    Pend.keep ts (fun a j π hj e => h1 a _ _ e (fin_none _ fun i e => by
      rcases lbs_odd e with ⟨z, h3, h4⟩ | ⟨z, h3, h4⟩ <;> omega)) (pend_tail (T := T.reverse) pn)
  have kp : Kp ow ρ (putR ks ρ2 ρ) := fun j hj => putR_off fun hs => hj (hw j hs)
  refine k d (putR ks ρ2 ρ) v G2 H2 hq z kp ?_
  unfold Ret at hr
  split at hr
  · rename_i c
    rw [if_pos c]
    obtain ⟨O2, r2⟩ := hr
    refine ⟨_, out _ ((d, v) :: pd) O2 r2 (Nat.le_succ_of_le hn) fun O3 h1 h2 ts => ⟨?_, pdk O3 h1 ts⟩⟩
    exact r2.pn.1.keep (fun _ _ z => z) fun a τ e => ⟨h2 a _ _ _ e (by show (if 2 * 0 + 1 = 1 then _ else _) = _; rw [if_pos rfl]), rfl⟩
  · rename_i c
    rw [if_neg c]
    obtain ⟨⟨O2, r2⟩, p⟩ := hr
    exact ⟨⟨_, out _ pd O2 r2 hn fun O3 h1 h2 ts => pdk O3 h1 ts⟩, p⟩
section
variable {X : Cx} {ow : List Bool} {a b c e tg : Expr} {ma mb mc : ME} {pos p' : Pos} {mr : MA} {es : List Expr} {ks : List AK} {x : Str}
def mCall (ks : List AK) (sd : SpD) (m : MA) : ME := fun ρ q => m ρ fun ds ρ1 => match fillA ks ds ρ1 with
  | some ds' => sd ds' fun d os => q d (putK ks os ρ1)
  | none => False
theorem qe_call {k : Nat} {f : Addr} {fd : FuncData} {ps : List Str} {mu : List Bool} {sd : SpD} (F : FnOk X.prog X.w X.K X.mg X.base CX0 k f fd ps (spOf mu false sd)) (hr : Room k X.A) (hg : Gl X x) (hm : X.mg x = some (.ref f)) (hk : PySem.W.keepIn X.K (.ref f) = true) (hb : Binds X.K fd ps [])
    (ha : QAk X ow ks (e :: es) mr) (hmu : mu = ks.map AK.isM := by rfl) (nd : (slotsOf ks).Nodup := by decide) (hw : ∀ i ∈ slotsOf ks, ow[i]? = some true := by decide) (hdb : (x == ("__debug__" : Str)) = false := by decide)
    (he : starEach (e :: es) X.env = (false, eval e X.env) :: starEach es X.env := by rfl) (hpl : (backTo pos (starEach es X.env)).any (·.1) = false := by rfl) : QE X ow (.Call (.Name x p') (e :: es) [] pos) (mCall ks sd mr) := by
  obtain ⟨t, p, s⟩ := ha
  subst hmu
  refine ⟨_, pe_call F hr hg hm hk hb .nil pass0 p hdb he hpl, fun C G ρ σ H pd q Q r hm k => s C G ρ σ H pd _ _ r hm fun ds ρ' vs T G' H' hq z kp r' p => ?_⟩
  rw [List.append_nil]
  split at hq
  · rename_i ds' ef
    exact run_call (fr := false) r.np r' p ef nd hw hq fun d ρ2 v G2 H2 hq2 z2 kp2 h2 => by
      rw [if_neg (by decide)] at h2
      exact k d ρ2 v G2 H2 hq2 (z.trans z2) (kp.trans kp2) h2.1 h2.2
  · exact hq.elim
theorem qf_call {k : Nat} {f : Addr} {fd : FuncData} {ps : List Str} {mu : List Bool} {sd : SpD} (F : FnOk X.prog X.w X.K X.mg X.base CX0 k f fd ps (spOf mu true sd)) (hr : Room k X.A) (hg : Gl X x) (hm : X.mg x = some (.ref f)) (hk : PySem.W.keepIn X.K (.ref f) = true) (hb : Binds X.K fd ps [])
    (ha : QAk X ow ks (e :: es) mr) (hmu : mu = ks.map AK.isM := by rfl) (nd : (slotsOf ks).Nodup := by decide) (hw : ∀ i ∈ slotsOf ks, ow[i]? = some true := by decide) (hdb : (x == ("__debug__" : Str)) = false := by decide)
    (he : starEach (e :: es) X.env = (false, eval e X.env) :: starEach es X.env := by rfl) (hpl : (backTo pos (starEach es X.env)).any (·.1) = false := by rfl) : QF X ow (.Call (.Name x p') (e :: es) [] pos) (mCall ks sd mr) := by
  obtain ⟨t, p, s⟩ := ha
  subst hmu
  refine ⟨_, pe_call F hr hg hm hk hb .nil pass0 p hdb he hpl, fun C G ρ σ H pd q Q r hm k => s C G ρ σ H pd _ _ r hm fun ds ρ' vs T G' H' hq z kp r' p => ?_⟩
  rw [List.append_nil]
  split at hq
  · rename_i ds' ef
    exact run_call (fr := true) r.np r' p ef nd hw hq fun d ρ2 v G2 H2 hq2 z2 kp2 h2 => by
      rw [if_pos rfl] at h2
      exact k d ρ2 v G2 H2 hq2 (z.trans z2) (kp.trans kp2) h2
  · exact hq.elim
end
theorem RO.grow {C : Ctx} {mu ow : List Bool} {G : Hp} {ds : List D} {vs : List V} {H : Hp} {O : Own} (n : Nat) (h : RO C mu G (ds.map some) (vs.map some) H [] O) (ho : ∀ i : Nat, i < ds.length → ow[i]? = mu[i]?) :
    RO C ow G (ds.map some ++ List.replicate n none) (vs.map some ++ List.replicate n none) H [] O := by
  have hl : ds.length = vs.length := by simpa using h.len
  have up : ∀ {α : Type} {l : List α} {i : Nat} {d : α}, (l.map some ++ List.replicate n none)[i]? = some (some d) → i < l.length ∧ (l.map some)[i]? = some (some d) := fun {α l i d} e => by
    by_cases c : i < l.length
    · rw [List.getElem?_append_left (by simpa using c)] at e; exact ⟨c, e⟩
    · rw [List.getElem?_append_right (by simpa using c)] at e
      rw [List.getElem?_replicate] at e
      split at e <;> cases e
  refine ⟨by simp [hl], h.gh, h.g0, h.gn, h.og, h.cok, h.fr, h.al, ?_, ?_, h.pn, h.np⟩
  · intro i v e
    have := h.mp i v e
    rw [List.getElem?_append_left (lt_of_slot this)]; exact this
  · intro i d e
    obtain ⟨c, e1⟩ := up e
    obtain ⟨v, h1, h2⟩ := h.sl i d e1
    exact ⟨v, by rw [List.getElem?_append_left (lt_of_slot h1)]; exact h1, by rw [ho i c]; exact h2⟩
theorem RO.trim {C : Ctx} {mu ow : List Bool} {G : Hp} {ρ : DSt} {σ : St} {H : Hp} {pd : List (D × V)} {O : Own} (h : RO C ow G ρ σ H pd O) (hm : MuOk C mu) (ho : ∀ i : Nat, i < mu.length → ow[i]? = mu[i]?) :
    RO C mu G (padS mu.length ρ) (padS mu.length σ) H pd O := by
  refine ⟨by rw [padS_len, padS_len], h.gh, h.g0, h.gn, h.og, h.cok, h.fr, h.al, ?_, ?_, h.pn, h.np⟩
  · intro i v e
    exact padS_at (lt_of_slot' (hm i v e)) (h.mp i v e)
  · intro i d e
    obtain ⟨c, e1⟩ := padS_of e
    obtain ⟨v, h1, h2⟩ := h.sl i d e1
    exact ⟨v, padS_at c h1, by rw [← ho i c]; exact h2⟩
where
  lt_of_slot' {l : List Bool} {i : Nat} {x : Bool} (h : l[i]? = some x) : i < l.length := (List.getElem?_eq_some_iff.mp h).1
def endsOf (mu : List Bool) (q : D → DSt → Prop) : EndsD := ⟨fun ρ => q .non (mus mu ρ), fun d ρ => q d (mus mu ρ), fun _ => False, fun _ => False⟩
theorem fnD {P : Program} {w : World} {K : PySem.W.Frag} {mg : Str → Option Value} {base : Heap} {x qual : Str} {st : Stmt} {f : Addr} {fd : FuncData} {N ps : List Str} {k : Nat} (F : Fun K x qual st f fd) (S : FnScope N ps (defScope st)) (M : Md) (sd : SpD)
    (hl : ∀ ds q, sd ds q → ds.length = ps.length) (ho : M.ow.take ps.length = M.mu) (hml : M.mu.length = ps.length)
    (hbody : ∀ (cdv : Value) (A : Around) (outer : List Env) (s : Shared) (H : Hp) (E : XK), Room k (A.deeper (envOfC qual (defScope st) s.heap.objs.size f cdv)) →
      ∃ m, QSs (cxOf CX0 P w K mg base N qual (defScope st) f cdv A outer s H E).nox M (defBody st) m ∧ ∀ ds q, sd ds q → m (endsOf M.mu q) (ds.map some ++ List.replicate (N.length - ps.length) none)) :
    FnOk P w K mg base CX0 (k + 1) f fd ps (spOf M.mu M.fr sd) := by
  have hov : ∀ i : Nat, i < M.mu.length → M.ow[i]? = M.mu[i]? := fun i hi => by rw [← ho, List.getElem?_take_of_lt (by omega)]
  have hlen : ∀ vs H Q E, spOf M.mu M.fr sd vs H Q E → vs.length = ps.length := fun vs H Q E ⟨C, G, ds, q, _, _, ⟨O, ro⟩, h1, _, _⟩ => by
    have := ro.len; simp at this; rw [← this]; exact hl ds q h1
  refine F.ok S hlen fun cdv A outer s H vs Q E hr hsp => ?_
  obtain ⟨m, ⟨t, p, ss⟩, hm⟩ := hbody cdv A outer s H E hr
  have hvl := hlen vs H Q E hsp
  obtain ⟨C, G, ds, q, hnp, hmu, ⟨O, ro⟩, hsd, hml2, kk⟩ := hsp
  refine ⟨t, p, ?_⟩
  have hmo : MuOk C M.mu := fun i v e => by rw [hmu] at e; exact (msV_of e).1
  have r0 : R C M.ow G (ds.map some ++ List.replicate (N.length - ps.length) none) (start N vs) H [] := by
    unfold start; rw [hvl]
    exact ⟨O, ro.grow _ fun i hi => hov i (by omega)⟩
  refine ss C G _ _ H (endsOf M.mu q) _ hmo hnp r0 (hm ds q hsd) ⟨?_, fun _ _ _ _ h => h.elim, fun _ _ _ _ h => h.elim, ?_⟩
  · intro ρ σ G' H' h z ⟨O', r'⟩
    refine kk .non (padS M.mu.length ρ) (padS M.mu.length σ) .non G' H' (by rw [padS_mus]; exact h) z (padS_len _ _) (R.non ⟨O', r'.trim hmo hov⟩)
  · intro d ρ σ v G' H' h z hr'
    refine kk d (padS M.mu.length ρ) (padS M.mu.length σ) v G' H' (by rw [padS_mus]; exact h) z (padS_len _ _) ?_
    unfold Ret at hr' ⊢
    split at hr'
    · rename_i c; rw [if_pos c]; obtain ⟨O', r'⟩ := hr'; exact ⟨O', r'.trim hmo hov⟩
    · rename_i c; rw [if_neg c]; obtain ⟨⟨O', r'⟩, p⟩ := hr'; exact ⟨⟨O', r'.trim hmo hov⟩, p⟩
theorem Seps.mk {G H : Hp} {O : Own} {i : Nat} : ∀ {T : List (D × V)} {k : Nat} {π : List Nat}, (∀ (j : Nat) x, T[j]? = some x → Sep G H O i x.1 ((k + j) :: π) x.2) → Seps G H O i (T.map (·.1)) k π (T.map (·.2))
  | [], _, _, _ => by simp; rw [Seps]
  | x :: T, k, π, h => by
    simp only [List.map]; rw [Seps]
    exact ⟨x.2, _, rfl, by simpa using h 0 x rfl, Seps.mk fun j y e => by rw [show k + 1 + j = k + (j + 1) by omega]; exact h (j + 1) y (by simpa using e)⟩
section
variable {C : Ctx} {ow : List Bool} {G : Hp} {ρ : DSt} {σ : St} {H : Hp} {pd T : List (D × V)} {O : Own}
theorem RO.gather (h : RO C ow G ρ σ H (T.reverse ++ pd) O) (hn : C.np ≤ pd.length) : ∃ O', RO C ow G ρ σ H pd O' ∧ Seps G H O' (2 * pd.length + 1) (T.map (·.1)) 0 [] (T.map (·.2)) := by
  refine ⟨lab (fun l π => if l % 2 = 1 ∧ pd.length ≤ l / 2 then (2 * pd.length + 1, π ++ [l / 2 - pd.length]) else (l, π)) O, ⟨h.len, h.gh, h.g0, h.gn, ?_, h.cok, h.fr, h.al, h.mp, ?_, ?_, hn⟩, ?_⟩
  · intro a m e
    obtain ⟨l, π, e1, rfl⟩ := lab_of e
    obtain ⟨q1, q2, q3⟩ := h.og a _ e1
    refine ⟨q1, q2, ?_⟩
    split
    · rename_i z
      rcases q3 with q3 | ⟨_, q3⟩
      · exact .inl q3
      · rcases h.cok _ _ _ q3 with ⟨k, _, q4, _⟩ | ⟨k, q4, q5⟩
        · omega
        · omega
    · exact q3
  · intro j e q
    obtain ⟨u, h1, h2⟩ := h.sl j e q
    refine ⟨u, h1, ?_⟩
    split at h2
    · rename_i c; rw [if_pos c]; exact h2.keep (fun _ _ z => z) fun a τ q => ⟨by rw [lab_at q, if_neg (by omega)], rfl⟩
    · rename_i c; rw [if_neg c]; exact h2
  · exact Pend.keep (fun _ _ z => z) (fun a j π hj q => ⟨by rw [lab_at q, if_neg (by omega)], rfl⟩) (pend_tail (T := T.reverse) h.pn)
  · refine Seps.mk fun j x e => ?_
    have := pend_at h.pn e
    refine Sep.map (f := fun π => π ++ [0 + j]) (fun _ _ z => z) (fun _ _ => rfl) x.1 [] x.2 (fun a τ q => ⟨?_, rfl⟩) this
    rw [lab_at q, if_pos (by omega)]
    rw [show (2 * (pd.length + j) + 1) / 2 - pd.length = 0 + j by omega]
theorem RO.newT (h : RO C ow G ρ σ H pd O) {p : Addr} (hp : H p = none) {ds : List D} {vs : List V} (hs : Seps G H O (2 * pd.length + 1) ds 0 [] vs) : R C ow (upd G p (.tup vs)) ρ σ (upd H p (.tup vs)) ((.tup ds, .ref p) :: pd) ∧ Same G (upd G p (.tup vs)) := by
  obtain ⟨r, z⟩ := h.new hp (.tup vs)
  refine ⟨⟨O, r.len, r.gh, r.g0, r.gn, r.og, r.cok, r.fr, r.al, r.mp, r.sl, ⟨?_, r.pn⟩, Nat.le_succ_of_le r.np⟩, z⟩
  rw [Sep]
  exact ⟨p, vs, rfl, upd_same, hs.keep z.ts fun a τ _ q => ⟨q, upd_ne (fun e => by obtain ⟨_, ⟨xs, w⟩, _⟩ := h.og a _ q; rw [e, hp] at w; cases w)⟩⟩
end
def SFm (M : Md) (t : TE) (m : ME) : Prop := ∀ (C : Ctx) (G : Hp) (ρ : DSt) (σ : St) (H : Hp) (pd : List (D × V)) (q : D → DSt → Prop) (Q : VK), MuOk C M.mu → R C M.ow G ρ σ H pd → m ρ q →
  (∀ d ρ' v G' H', q d ρ' → Same G G' → R C M.ow G' ρ' σ H' ((d, v) :: pd) → Q v H') → t σ H Q
structure QM (X : Cx) (M : Md) (e : Expr) (m : ME) : Prop where
  ex : ∃ t, PE X e t ∧ SFm M t m
def SAm (M : Md) (n : Nat) (t : TA) (m : MA) : Prop := ∀ (C : Ctx) (G : Hp) (ρ : DSt) (σ : St) (H : Hp) (pd : List (D × V)) (q : List D → DSt → Prop) (Q : List V → Hp → Prop), MuOk C M.mu → R C M.ow G ρ σ H pd → m ρ q →
  (∀ (T : List (D × V)) ρ' G' H', q (T.map (·.1)) ρ' → Same G G' → R C M.ow G' ρ' σ H' (T.reverse ++ pd) → T.length = n → Q (T.map (·.2)) H') → t σ H Q
structure QMs (X : Cx) (M : Md) (es : List Expr) (m : MA) : Prop where
  ex : ∃ t, PA X es t ∧ SAm M es.length t m
section
variable {X : Cx} {M : Md} {a b c e : Expr} {ma mb mc : ME} {pos pos' : Pos} {mr : MA} {es : List Expr}
theorem QF.qm (h : QF X M.ow e ma) : QM X M e ma := by
  obtain ⟨t, p, s⟩ := h
  exact ⟨_, p, fun C G ρ σ H pd q Q hm r h k => s C G ρ σ H pd q Q r h fun d ρ' v G' H' hq z kp r' => k d ρ' v G' H' hq z r'⟩
theorem qm_move (i : Nat) {x : Str} (ho : M.ow[i]? = some true := by decide) (hu : M.mu[i]? ≠ some true := by decide) (hN : X.N[i]? = some x := by rfl) (hv : Vis X.env.scope x := by first | exact Or.inl rfl | exact Or.inr (Or.inl rfl) | exact Or.inr (Or.inr rfl)) (hd : (x == ("__debug__" : Str)) = false := by decide)
    (hcd : (x == ("__classdict__" : Str)) = false := by decide) : QM X M (.Name x pos) (mMove i) := ⟨_, pe_var hN hv hd hcd, fun C G ρ σ H pd q Q hm r h k => by
  unfold mMove at h
  split at h
  · rename_i d e
    obtain ⟨O, ro⟩ := r
    obtain ⟨v, h1, h2⟩ := ro.move e ho (hm.no hu)
    exact ⟨v, h1, k d _ v G H h (Same.refl _) h2⟩
  · exact h.elim⟩
theorem qms_nil : QMs X M [] mNil := ⟨_, pa_nil, fun C G ρ σ H pd q Q hm r h k => k [] ρ G H h (Same.refl _) r rfl⟩
theorem qms_cons (ha : QM X M e ma) (hr : QMs X M es mr) (hs : starEach (e :: es) X.env = (false, eval e X.env) :: starEach es X.env := by rfl) : QMs X M (e :: es) (mCons ma mr) := by
  obtain ⟨t, p, s⟩ := ha; obtain ⟨t2, p2, s2⟩ := hr
  refine ⟨_, pa_cons p p2 hs, fun C G ρ σ H pd q Q hm r h k => s C G ρ σ H pd _ _ hm r h fun d ρ' v G' H' hq z r' => ?_⟩
  exact s2 C G' ρ' σ H' _ _ _ hm r' hq fun T ρ2 G2 H2 hq2 z2 r2 hn => k ((d, v) :: T) ρ2 G2 H2 hq2 (z.trans z2) (by simpa using r2) (by simp [hn])
theorem qm_tup {x1} (h : QMs X M es mr) (hl : es.length ≤ 1000 := by decide) : QM X M (.Tuple es x1 pos) (mTup mr) := by
  obtain ⟨t, p, s⟩ := h
  refine ⟨_, pe_tup p, fun C G ρ σ H pd q Q hm r h k => s C G ρ σ H pd _ _ hm r h fun T ρ' G' H' hq z r' hn => ⟨le_line (by simp; omega), fun a ha => ?_⟩⟩
  obtain ⟨O, r'⟩ := r'
  obtain ⟨O2, r2, s2⟩ := r'.gather r.np
  obtain ⟨r3, z3⟩ := r2.newT ha s2
  exact k _ ρ' _ _ _ hq (z.trans z3) r3
theorem qs_retM (h : QM X M e ma) (hf : M.fr = true := by rfl) : QS X M (.Return (some e) pos) (mRet ma) := by
  obtain ⟨t, p, s⟩ := h
  refine ⟨_, ps_ret p, fun C G ρ σ H n D hm hn r h k => s C G ρ σ H [] _ _ hm r h fun d ρ' v G' H' hq z r' => k.rt d ρ' σ v G' H' hq z (by unfold Ret; rw [if_pos hf]; exact r')⟩
end
def rho0 (k : Nat) (js : List Nat) (ρ : DSt) : DSt := List.replicate k none ++ js.map fun j => (ρ[j]?).getD none
structure QIf (X : Cx) (ow : List Bool) (ifs : List Expr) (m : MT) : Prop where
  ex : ∃ t, PIf X ifs t ∧ STe ow t m
theorem qif_nil {X : Cx} {ow : List Bool} : QIf X ow [] (mYes true) := ⟨_, pif_nil, st_yes true⟩
section
variable {C : Ctx} {ow : List Bool} {G : Hp} {ρ : DSt} {σ : St} {H : Hp} {pd : List (D × V)} {O : Own}
end
section
variable {X : Cx} {ow : List Bool} {elt tg iter : Expr} {ifs : List Expr} {pos : Pos} {mi : MA} {mg : MG} {mt : MT} {me : ME} {scope : Scope} {cl : List (Str × Addr)}
def KeepG (n : Nat) (g : TG) : Prop := ∀ (σ0 : St), (∀ i, i < n → σ0[i]? = some none) → ∀ σ x H k, kept σ0 σ → g x σ H k → g x σ H fun σ2 H2 => kept σ0 σ2 ∧ k σ2 H2
theorem kept_set : ∀ {a b : St} {i : Nat} {v : V}, kept a b → a[i]? = some none → kept a (b.set i (some v))
  | [], [], i, v, h, e => by simp at e
  | none :: r, y :: r', 0, v, h, e => h
  | none :: r, y :: r', i + 1, v, h, e => by simp only [List.set_cons_succ]; exact kept_set (a := r) (b := r') h (by simpa using e)
  | some w :: r, y :: r', 0, v, h, e => by simp at e
  | some w :: r, y :: r', i + 1, v, h, e => by simp only [List.set_cons_succ]; exact ⟨h.1, kept_set (a := r) (b := r') h.2 (by simpa using e)⟩
  | [], _ :: _, _, _, h, _ => h.elim
  | none :: _, [], _, _, h, _ => h.elim
  | some _ :: _, [], _, _, h, _ => h.elim
theorem kept_refl : ∀ (a : St), kept a a
  | [] => trivial
  | none :: r => kept_refl r
  | some v :: r => ⟨rfl, kept_refl r⟩
def MonG (g : TG) : Prop := ∀ x σ H (k k' : St → Hp → Prop), (∀ σ2 H2, k σ2 H2 → k' σ2 H2) → g x σ H k → g x σ H k'
def canE (ow : List Bool) (m : ME) : TE := fun σ H Q => ∃ (C : Ctx) (G : Hp) (ρ : DSt) (pd : List (D × V)) (q : D → DSt → Prop), R C ow G ρ σ H pd ∧ m ρ q ∧ ∀ d ρ' v G' H', q d ρ' → Same G G' → Kp ow ρ ρ' → R C ow G' ρ' σ H' pd → Rep G' d v → Q v H'
def canT (ow : List Bool) (m : MT) : TT := fun σ H Q => ∃ (C : Ctx) (G : Hp) (ρ : DSt) (pd : List (D × V)) (q : Bool → DSt → Prop), R C ow G ρ σ H pd ∧ m ρ q ∧ ∀ d ρ' G' H', q d ρ' → Same G G' → Kp ow ρ ρ' → R C ow G' ρ' σ H' pd → Q d H'
theorem can_se {ow : List Bool} {m : ME} : SE ow (canE ow m) m := fun C G ρ σ H pd q Q r h k => ⟨C, G, ρ, pd, q, r, h, k⟩
theorem can_st {ow : List Bool} {m : MT} : STe ow (canT ow m) m := fun C G ρ σ H pd q Q r h k => ⟨C, G, ρ, pd, q, r, h, k⟩
theorem QE.can {X : Cx} {ow : List Bool} {e : Expr} {m : ME} (h : QE X ow e m) : PE X e (canE ow m) := by
  obtain ⟨t, p, s⟩ := h
  exact ⟨fun pins s' σ H Q I ⟨C, G, ρ, pd, q, r, h, k⟩ => p.go pins s' σ H Q I (s C G ρ σ H pd q Q r h k)⟩
theorem QIf.can {X : Cx} {ow : List Bool} {e : List Expr} {m : MT} (h : QIf X ow e m) : PIf X e (canT ow m) := by
  obtain ⟨t, p, s⟩ := h
  exact ⟨fun pins s' σ H Q I ⟨C, G, ρ, pd, q, r, h, k⟩ => p.go pins s' σ H Q I (s C G ρ σ H pd q Q r h k)⟩
theorem sig0_none {own : List Str} {js : List Nat} {σ : St} : ∀ i, i < own.length → (sig0 own js σ)[i]? = some none := fun i h => by
  unfold sig0
  rw [List.getElem?_append_left (by simpa using h), List.getElem?_map, List.getElem?_eq_getElem h]; rfl
end
section
variable {X : Cx}
end
section
variable {C : Ctx} {ow : List Bool} {G : Hp} {ρ : DSt} {σ : St} {H : Hp} {pd : List (D × V)} {O : Own}
end
section
variable {ow : List Bool} {t : TE} {m : ME}
theorem SF.se (s : SF ow t m) : SE ow t m := fun C G ρ σ H pd q Q r hm k => s C G ρ σ H pd _ _ r hm fun d ρ' v G' H' hq s kp r' => by
  obtain ⟨O, r'⟩ := r'
  obtain ⟨G2, s2, r2, p2⟩ := r'.share r.np
  exact k d ρ' v G2 H' hq (s.trans s2) kp r2 p2
end
section
variable {X : Cx} {M : Md} {a b c e : Expr} {ma mb mc : ME} {pos pos' : Pos} {mr : MA} {es : List Expr}
theorem imms_ints (ns : List Int) : imms (ns.map D.int) = true := by
  induction ns with
  | nil => rfl
  | cons n r ih => simp only [List.map, imms, imm, ih]; rfl
end
def mCut (m : MS) : MS := fun n ρ => ∃ I : DSt → Prop, m { n with nx := I } ρ ∧ ∀ ρ', I ρ' → n.nx ρ'
theorem qs_cut {X : Cx} {M : Md} {st : Stmt} {m : MS} (h : QS X M st m) : QS X M st (mCut m) := by
  obtain ⟨t, p, s⟩ := h
  refine ⟨_, p, fun C G ρ σ H n D hm hn r h k => ?_⟩
  obtain ⟨I, h1, h2⟩ := h
  exact s C G ρ σ H _ D hm hn r h1 ⟨fun ρ' σ' G' H' hi => k.nx ρ' σ' G' H' (h2 ρ' hi), k.bk, k.ct, k.rt⟩
section
variable {C : Ctx} {ow : List Bool} {G : Hp} {ρ : DSt} {σ : St} {H : Hp} {pd : List (D × V)} {O : Own}
end
section
variable {X : Cx} {M : Md} {a b c e : Expr} {ma mb mc : ME} {pos pos' : Pos} {mr : MA} {es : List Expr} {mgs : MGs}
end
section
variable {X : Cx} {M : Md} {a b c e : Expr} {ma mb mc : ME} {pos pos' : Pos}
def mAugI (i : Nat) (mk m : ME) : MS := fun n ρ => match ρ[i]? with
  | some (some (.lst _)) => mk ρ fun k ρ1 => match k with
    | .int j => match ρ1[i]? with
      | some (some (.lst ds)) => 0 ≤ j ∧ match atI ds j with
        | some (.int x) => m ρ1 fun d ρ2 => match d with
          | .int y => match ρ2[i]? with
            | some (some (.lst ds2)) => match ixN ds2.length j with
              | some p => n.nx (ρ2.set i (some (.lst (ds2.set p (.int (x + y))))))
              | none => False
            | _ => False
          | _ => False
        | _ => False
      | _ => False
    | _ => False
  | _ => False
end
def compM (g : MG) (mt : MT) (me : ME) (ρ0 : DSt) (k0 : Nat) (ds : List D) (d0 : D) (K : List D → D → Prop) : Prop := ∃ I : Nat → List D → D → Prop, I 0 [] d0 ∧
  (∀ i x es d, ds[i]? = some x → I i es d → g x (ρ0.set k0 (some d)) fun ρ2 => mt ρ2 fun b ρ3 => if b = true then me ρ3 fun y ρ4 => (match ρ4[k0]? with | some (some d') => I (i + 1) (es ++ [y]) d' | _ => False) else match ρ3[k0]? with | some (some d') => I (i + 1) es d' | _ => False) ∧
  ∀ es d, I ds.length es d → K es d
def mCompM (mi : MA) (g : MG) (mt : MT) (me : ME) (k : Nat) (js : List Nat) (j0 k0 : Nat) : ME := fun ρ q => mi ρ fun ds ρ1 => ds.length ≤ 1000 ∧ match ρ1[j0]? with
  | some (some d0) => compM g mt me (rho0 k js ρ1) k0 ds d0 fun es d => imms es = true ∧ q (.lst es) (ρ1.set j0 (some d))
  | _ => False
def owM (k0 : Nat) : List Bool := List.replicate k0 false ++ [true]
theorem owM_iff {k0 i : Nat} : (owM k0)[i]? = some true ↔ i = k0 := by
  unfold owM
  by_cases h : i < k0
  · rw [List.getElem?_append_left (by simpa using h), List.getElem?_replicate, if_pos h]
    constructor
    · intro z; cases z
    · intro z; omega
  · rw [List.getElem?_append_right (by simpa using h), List.length_replicate]
    cases e : i - k0 with
    | zero => simp; omega
    | succ m => simp; omega
def muM (k0 : Nat) (v : V) : List (Option V) := List.replicate k0 none ++ [some v]
theorem muM_iff {k0 i : Nat} {v w : V} (h : (muM k0 v)[i]? = some (some w)) : i = k0 ∧ w = v := by
  unfold muM at h
  by_cases c : i < k0
  · rw [List.getElem?_append_left (by simpa using c), List.getElem?_replicate, if_pos c] at h; cases h
  · rw [List.getElem?_append_right (by simpa using c), List.length_replicate] at h
    cases e : i - k0 with
    | zero => rw [e] at h; simp at h; exact ⟨by omega, h.symm⟩
    | succ m => rw [e] at h; simp at h
theorem muM_at (k0 : Nat) (v : V) : (muM k0 v)[k0]? = some (some v) := by unfold muM; rw [List.getElem?_append_right (by simp)]; simp
theorem rho0_of {k : Nat} {js : List Nat} {ρ : DSt} {i : Nat} {d : D} (e : (rho0 k js ρ)[i]? = some (some d)) : k ≤ i ∧ ∃ j, js[i - k]? = some j ∧ ρ[j]? = some (some d) := by
  unfold rho0 at e
  by_cases c : i < k
  · rw [List.getElem?_append_left (by simpa using c), List.getElem?_replicate] at e
    split at e <;> cases e
  · rw [List.getElem?_append_right (by simpa using c), List.getElem?_map] at e
    simp only [List.length_replicate] at e
    refine ⟨by omega, ?_⟩
    cases z : js[i - k]? with
    | none => rw [z] at e; cases e
    | some j =>
      rw [z] at e
      have e' : (ρ[j]?).getD none = some d := Option.some.inj e
      refine ⟨j, rfl, ?_⟩
      cases w : ρ[j]? with
      | none => rw [w] at e'; cases e'
      | some o => rw [w] at e'; exact congrArg some e'
theorem sig0_at {own : List Str} {js : List Nat} {σ : St} {i j : Nat} {v : V} (hi : own.length ≤ i) (hj : js[i - own.length]? = some j) (hv : σ[j]? = some (some v)) : (sig0 own js σ)[i]? = some (some v) := by
  unfold sig0
  rw [List.getElem?_append_right (by simpa using hi), List.getElem?_map]
  simp only [List.length_map]
  rw [hj, show (some j).map _ = some ((σ[j]?).getD none) from rfl, hv]; rfl
structure CGM (k0 n : Nat) (g : TG) (m : MG) : Prop where
  sg : SG ⟨owM k0, owM k0, false⟩ g m
  kp : KeepG n g
  mn : MonG g
theorem cgm_name {k0 n : Nat} (i : Nat) (h : i < n := by decide) (hk : n ≤ k0 := by decide) : CGM k0 n (gName i) (gmName i) :=
  ⟨fun C G ρ σ H pd d v k K hm r p hh kk => by
    have hn : (owM k0)[i]? ≠ some true := fun z => by have := owM_iff.mp z; omega
    obtain ⟨O, r⟩ := r; exact kk _ _ hh ⟨O, r.setS hn (hm.no hn) p⟩,
   fun σ0 h0 σ x H k hk hg => ⟨kept_set hk (h0 i h), hg⟩, fun x σ H k k' hk h => hk _ _ h⟩
theorem comp_soundM {ow : List Bool} {J : It} {g : TG} {mg : MG} {tt : TT} {mt : MT} {te : TE} {me : ME} {C : Ctx} {G : Hp} {ρ : DSt} {σ : St} {H : Hp} {pd : List (D × V)} {ds : List D} {own : List Str} {js : List Nat} {j0 k0 : Nat} {d0 : D} {K : List D → D → Prop} {Z : List V → Hp → Prop}
    (r : R C ow G ρ σ H pd) (ho : ow[j0]? = some true) (hk0 : own.length ≤ k0) (hjk : js[k0 - own.length]? = some j0) (hj : ∀ (i j : Nat), js[i]? = some j → i ≠ k0 - own.length → ow[j]? ≠ some true) (he : ρ[j0]? = some (some d0)) (jo : ItOk J G ds) (cg : CGM k0 own.length g mg) (st : STe (owM k0) tt mt) (se : SE (owM k0) te me)
    (hl : ds.length ≤ 1000) (h : compM mg mt me (rho0 own.length js ρ) k0 ds d0 K)
    (k : ∀ es d vs G' H', K es d → Same G G' → R C ow G' (ρ.set j0 (some d)) σ H' pd → Reps G' es vs → vs.length ≤ 1000 → Z vs H') : CompW J g tt te (sig0 own js σ) H Z := by
  obtain ⟨O, ro⟩ := r
  obtain ⟨v0, hv0, sv0⟩ := ro.sl j0 d0 he
  rw [if_pos ho] at sv0
  let fin : Nat → Option Nat := fun l => if l = 2 * j0 then some (2 * k0) else none
  let fbk : Nat → Option Nat := fun l => if l = 2 * k0 then some (2 * j0) else none
  let C1 : Ctx := ⟨G, H, ownM fin O, muM k0 v0, 0⟩
  let ρ0 := rho0 own.length js ρ
  have s0k : (sig0 own js σ)[k0]? = some (some v0) := sig0_at hk0 hjk hv0
  have r0l : k0 < ρ0.length := by
    have : k0 - own.length < js.length := (List.getElem?_eq_some_iff.mp hjk).1
    show k0 < (rho0 own.length js ρ).length
    unfold rho0; simp; omega
  have fino : ∀ l l', fin l = some l' → l = 2 * j0 ∧ l' = 2 * k0 := fun l l' e => by
    change (if l = 2 * j0 then _ else _) = _ at e
    split at e
    · rename_i c; exact ⟨c, (Option.some.inj e).symm⟩
    · cases e
  have finj : fin (2 * j0) = some (2 * k0) := by show (if _ then _ else _) = _; rw [if_pos rfl]
  -- the inner state, by the owned slot's value
  have inner : ∀ {G' : Hp} {H' : Hp} {O' : Own} {d : D}, Same G G' → Same G' H' → (∀ a o, G' a = some o → G a = some o ∨ H a = none) → (∀ a l, O' a = some l → G' a = none ∧ (∃ xs : WrO, H' a = some xs.ho) ∧ Nw C1 a l.1) →
      (∀ a o, H a = some o → ownM fin O a = none → H' a = some o) → (∀ a, H' a = none → H a = none) → Sep G' H' O' (2 * k0) d [] v0 → RO C1 (owM k0) G' (ρ0.set k0 (some d)) (sig0 own js σ) H' [] O' := by
    intro G' H' O' d z gh gn og fr al sp
    refine ⟨by rw [List.length_set]; show (rho0 own.length js ρ).length = _; unfold rho0 sig0; simp, gh, z, gn, og, ?_, fr, al, ?_, ?_, trivial, Nat.le_refl _⟩
    · intro a l π e
      obtain ⟨l0, e1, e2⟩ := ownM_of e
      obtain ⟨_, rfl⟩ := fino _ _ e2
      exact .inl ⟨k0, v0, rfl, muM_at k0 v0⟩
    · intro i w e
      obtain ⟨rfl, rfl⟩ := muM_iff e
      exact s0k
    · intro i d' e
      rcases set_at e with ⟨rfl, e'⟩ | ⟨hne, e'⟩
      · cases e'
        exact ⟨v0, s0k, by rw [if_pos (owM_iff.mpr rfl)]; exact sp⟩
      · obtain ⟨hi, j, h1, h2⟩ := rho0_of e'
        obtain ⟨v, g1, g2⟩ := ro.sl j d' h2
        rw [if_neg (hj _ j h1 (by omega))] at g2
        exact ⟨v, sig0_at hi h1 g1, by rw [if_neg (fun zz => hne (owM_iff.mp zz))]; exact g2.mono z⟩
  have og1 : ∀ a l, ownM fin O a = some l → G a = none ∧ (∃ xs : WrO, H a = some xs.ho) ∧ Nw C1 a l.1 := fun a l e => by
    obtain ⟨l', π⟩ := l
    obtain ⟨l0, e1, e2⟩ := ownM_of e
    obtain ⟨q1, q2, _⟩ := ro.og a _ e1
    exact ⟨q1, q2, .inr ⟨π, e⟩⟩
  have start : R C1 (owM k0) G (ρ0.set k0 (some d0)) (sig0 own js σ) H [] := ⟨_, inner (Same.refl _) ro.gh (fun _ _ e => .inl e) og1 (fun _ _ e _ => e) (fun _ e => e) (sv0.keep (fun _ _ z => z) fun a τ q => ⟨ownM_at q finj, rfl⟩)⟩
  obtain ⟨I, i0, turn, fini⟩ := h
  have hmu : MuOk C1 (owM k0) := fun i v e => by obtain ⟨rfl, _⟩ := muM_iff e; exact owM_iff.mpr rfl
  refine ⟨fun i m acc H' => m = ds.length - i ∧ i ≤ ds.length ∧ acc.length ≤ i ∧ ∃ G' es d, Same G G' ∧ R C1 (owM k0) G' (ρ0.set k0 (some d)) (sig0 own js σ) H' [] ∧ Reps G' es acc ∧ I i es d, ⟨_, rfl, Nat.zero_le _, Nat.le_refl _, G, [], d0, Same.refl _, start, reps_nil, i0⟩, ?_⟩
  rintro i m acc H' ⟨rfl, hi, ha, G', es, d, z, r', pa, w⟩
  obtain ⟨sp, go⟩ := jo C1 (owM k0) G' _ _ H' [] i z r'
  by_cases hlt : i < ds.length
  · obtain ⟨g1, g2⟩ := go ds[i] (List.getElem?_eq_getElem hlt)
    refine .inr ⟨g1, small1000 (by omega), fun acc' H2 => acc'.length ≤ i + 1 ∧ ∃ G2 es2 d2, Same G G2 ∧ R C1 (owM k0) G2 (ρ0.set k0 (some d2)) (sig0 own js σ) H2 [] ∧ Reps G2 es2 acc' ∧ I (i + 1) es2 d2, fun acc' H2 h => ⟨ds.length - (i + 1), by omega, rfl, hlt, h.1, h.2⟩, fun x H1 hy => ?_⟩
    obtain ⟨G1, z1, r1, p1⟩ := g2 x H1 hy
    have step1 := cg.sg C1 G1 _ _ H1 [] ds[i] x _ (fun σ2 H2 => ∃ ρ2, (mt ρ2 fun b ρ3 => if b = true then me ρ3 fun y ρ4 => (match ρ4[k0]? with | some (some d') => I (i + 1) (es ++ [y]) d' | _ => False) else match ρ3[k0]? with | some (some d') => I (i + 1) es d' | _ => False) ∧ R C1 (owM k0) G1 ρ2 σ2 H2 []) hmu r1 p1 (turn i ds[i] es d (List.getElem?_eq_getElem hlt) w) (fun ρ2 σ2 h2 r2 => ⟨ρ2, h2, r2⟩)
    refine cg.mn _ _ _ _ _ ?_ (cg.kp (sig0 own js σ) sig0_none (sig0 own js σ) x H1 _ (kept_refl _) step1)
    rintro σ2 H2 ⟨hkp, ρ2, h2, r2⟩
    refine ⟨hkp, st C1 G1 ρ2 σ2 H2 [] _ _ r2 h2 fun b ρ3 G3 H3 h3 z3 kp3 r3 => ?_⟩
    have bk : ∀ {G4 : Hp} {ρ4 : DSt} {H4 : Hp} {d' : D}, ρ4[k0]? = some (some d') → R C1 (owM k0) G4 ρ4 σ2 H4 [] → R C1 (owM k0) G4 (ρ0.set k0 (some d')) (sig0 own js σ) H4 [] := fun e4 ⟨O4, r4⟩ => by
      obtain ⟨v, q1, q2⟩ := r4.sl k0 _ e4
      rw [if_pos (owM_iff.mpr rfl)] at q2
      rw [kept_get hkp k0 v0 s0k] at q1
      cases q1
      exact ⟨O4, inner r4.g0 r4.gh r4.gn r4.og r4.fr r4.al q2⟩
    cases b with
    | true =>
      rw [if_pos rfl] at h3 ⊢
      refine se C1 G3 ρ3 σ2 H3 [] _ _ r3 h3 fun y ρ4 v G4 H4 h4 z4 kp4 r4 p4 => ?_
      split at h4
      · rename_i d' e4
        exact ⟨by simp; omega, G4, es ++ [y], d', z.trans (z1.trans (z3.trans z4)), bk e4 r4, reps_app (Reps.mono (z1.trans (z3.trans z4)) _ _ pa) (reps_cons p4 reps_nil), h4⟩
      · exact h4.elim
    | false =>
      rw [if_neg (by decide)] at h3 ⊢
      split at h3
      · rename_i d' e4
        exact ⟨by omega, G3, es, d', z.trans (z1.trans z3), bk e4 r3, Reps.mono (z1.trans z3) _ _ pa, h3⟩
      · exact h3.elim
  · have e : i = ds.length := by omega
    subst e
    refine .inl ⟨sp (Nat.le_refl _), le_line (by omega), ?_⟩
    obtain ⟨O2, r2⟩ := r'
    refine k es d acc G' H' (fini es d w) z ⟨ownB fin fbk O O2, ?_⟩ pa (by omega)
    refine ro.out (vs := []) r2 ?_ (by rw [List.length_set]; exact ro.len) ro.np ?_ ?_ fun O3 h1 h2 ts => ?_
    · intro l0 l' l e1 e2
      obtain ⟨rfl, rfl⟩ := fino _ _ e1
      change (if 2 * k0 = 2 * k0 then _ else _) = _ at e2
      rw [if_pos rfl] at e2
      exact (Option.some.inj e2).symm
    · intro i d' c e
      rcases set_at e with ⟨rfl, _⟩ | ⟨_, e'⟩
      · exact absurd ho c
      · exact e'
    · intro i d' c e
      rcases set_at e with ⟨rfl, e'⟩ | ⟨hne, e'⟩
      · cases e'
        exact .inr ⟨k0, v0, by show (if _ then _ else _) = _; rw [if_pos rfl], owM_iff.mpr rfl, by rw [List.getElem?_set_self r0l], hv0, s0k⟩
      · exact .inl ⟨by show (if _ then _ else _) = _; rw [if_neg (by omega)], e'⟩
    · exact Pend.keep ts (fun a j π hj e => h1 a _ _ e (by show (if _ then _ else _) = _; rw [if_neg (by omega)])) ro.pn
section
variable {X : Cx} {ow : List Bool} {elt tg iter : Expr} {ifs : List Expr} {pos : Pos} {mi : MA} {mg : MG} {mt : MT} {me : ME} {scope : Scope} {cl : List (Str × Addr)}
theorem comp_sfM {wi : TI} {g : TG} {own : List Str} {js : List Nat} {j0 k0 : Nat} (si : SI ow wi mi) (cg : CGM k0 own.length g mg) (ho : ow[j0]? = some true) (hk0 : own.length ≤ k0) (hjk : js[k0 - own.length]? = some j0) (hj : ∀ (i j : Nat), js[i]? = some j → i ≠ k0 - own.length → ow[j]? ≠ some true) :
    SF ow (tComp wi g (canT (owM k0) mt) (canE (owM k0) me) own js) (mCompM mi mg mt me own.length js j0 k0) := fun C G ρ σ H pd q Q r h k =>
  si C G ρ σ H pd _ _ r h fun ds ρ' G' H' J hq z kp r' jo => by
    obtain ⟨hl, hq⟩ := hq
    split at hq
    · rename_i d0 e0
      refine comp_soundM r' ho hk0 hjk hj e0 jo cg can_st can_se hl hq fun es d vs G2 H2 hK z2 r2 p2 hl p hp => ?_
      obtain ⟨O2, r2⟩ := r2
      exact k _ _ _ _ _ hK.2 (z.trans z2) (kp.trans fun j hj => List.getElem?_set_ne (fun (zz : j0 = j) => hj (zz ▸ ho))) (r2.newL hp hK.1 p2)
    · exact hq.elim
structure CInnM (X : Cx) (k0 : Nat) (tg : Expr) (ifs : List Expr) (elt : Expr) (g : TG) (mt : MT) (me : ME) : Prop where
  pg : PG X tg g
  qi : QIf X (owM k0) ifs mt
  qe : QE X (owM k0) elt me
theorem qf_compM {g : TG} (own : List Str) (js : List Nat) (j0 k0 : Nat) (c : CompOk X scope cl own js) (hc : X.calm = true) (hi : QI X ow tg iter mi) (cg : CGM k0 own.length g mg)
    (inner : ∀ (C : Addr) (s₀ : Shared) (H₀ : Hp) (ex : List Addr), CInnM (compCx X scope cl (nam0 X own js) C s₀ H₀ ex) k0 tg ifs elt g mt me) (ho : ow[j0]? = some true := by decide) (hk0 : own.length ≤ k0 := by decide) (hjk : js[k0 - own.length]? = some j0 := by rfl)
    (hj : (js.mapIdx fun i j => decide (i = k0 - own.length) || !decide (ow[j]? = some true)).all id = true := by decide)
    (hs : ∀ x, foldedSetIterable iter X.env x = pure x := by intro _; rfl) : QF X ow (.ListComp elt [⟨tg, iter, ifs, 0⟩] scope pos) (mCompM mi mg mt me own.length js j0 k0) := by
  obtain ⟨wi, pi, si⟩ := hi
  have hj' : ∀ (i j : Nat), js[i]? = some j → i ≠ k0 - own.length → ow[j]? ≠ some true := fun i j e hne z => by
    rw [List.all_eq_true] at hj
    have := hj (decide (i = k0 - own.length) || !decide (ow[j]? = some true)) (List.mem_of_getElem? (i := i) (by rw [List.getElem?_mapIdx, e]; rfl))
    simp [hne, z] at this
  exact ⟨_, pe_comp own js c hc pi (fun C s₀ H₀ ex => ⟨(inner C s₀ H₀ ex).pg, (inner C s₀ H₀ ex).qi.can, (inner C s₀ H₀ ex).qe.can⟩) hs, comp_sfM si cg ho hk0 hjk hj'⟩
end
section
variable {X : Cx} {M : Md} {a b c e : Expr} {ma mb mc : ME} {pos pos' p1 p2 p3 : Pos} {te : TE} {j1 : Nat} {ow : List Bool}
theorem qs_setCompM {g : TG} {mg : MG} {mt : MT} {me : ME} {mi : MA} {tg iter elt : Expr} {ifs : List Expr} {scope : Scope} {cl : List (Str × Addr)} {i : Nat} {y : Str} {spos py : Pos} (own : List Str) (js : List Nat) (j0 k0 : Nat) (c : CompOk X scope cl own js) (hc : X.calm = true) (hN : X.N.Nodup) (hy : X.N[i]? = some y) (hx : Loc X.env.scope y) (hi : QI X M.ow tg iter mi) (cg : CGM k0 own.length g mg)
    (inner : ∀ (C : Addr) (s₀ : Shared) (H₀ : Hp) (ex : List Addr), CInnM (compCx X scope cl (nam0 X own js) C s₀ H₀ ex) k0 tg ifs elt g mt me) (hoj : M.ow[j0]? = some true := by decide) (hk0 : own.length ≤ k0 := by decide) (hjk : js[k0 - own.length]? = some j0 := by rfl)
    (hj : (js.mapIdx fun i j => decide (i = k0 - own.length) || !decide (M.ow[j]? = some true)).all id = true := by decide) (ho : M.ow[i]? ≠ some true := by decide) (hu : M.mu[i]? ≠ some true := by decide)
    (hsw : swapsWith (.ListComp elt [⟨tg, iter, ifs, 0⟩] scope pos) (some (.Name y py)) spos.line X.env = pure true := by rfl)
    (hs : ∀ x, foldedSetIterable iter X.env x = pure x := by intro _; rfl) (hf : X.fn y = true ∨ X.env.scope.names.lookup y = some .local := by first | exact .inl rfl | exact .inr rfl | assumption) :
    QS X M (.Assign [.Name y py] (.ListComp elt [⟨tg, iter, ifs, 0⟩] scope pos) spos) (mSet i (mCompM mi mg mt me own.length js j0 k0)) := by
  obtain ⟨wi, pi, si⟩ := hi
  have hj' : ∀ (i j : Nat), js[i]? = some j → i ≠ k0 - own.length → M.ow[j]? ≠ some true := fun i j e hne z => by
    rw [List.all_eq_true] at hj
    have := hj (decide (i = k0 - own.length) || !decide (M.ow[j]? = some true)) (List.mem_of_getElem? (i := i) (by rw [List.getElem?_mapIdx, e]; rfl))
    simp [hne, z] at this
  exact ⟨_, ps_setComp own js c hc hN hy hx pi (fun C s₀ H₀ ex => ⟨(inner C s₀ H₀ ex).pg, (inner C s₀ H₀ ex).qi.can, (inner C s₀ H₀ ex).qe.can⟩) hsw hs hf, ss_set (comp_sfM si cg hoj hk0 hjk hj').se ho hu⟩
end
def isW : D → Bool
  | .int _ => true
  | _ => false
def btw (lo hi : Int) : D → Bool
  | .int i => decide (lo ≤ i) && decide (i ≤ hi)
  | _ => false
def twoL : D → Bool
  | .tup [.lst ps, .lst rs] => decide (ps.length = rs.length) && (decide (1 ≤ ps.length) && decide (ps.length ≤ 23))
  | _ => false
structure Tree (ps rs : List Int) : Prop where
  len : ps.length = rs.length
  lo : 1 ≤ ps.length
  hi : ps.length ≤ 23
  par : ∀ (i : Nat) (x : Int), ps[i]? = some x → 0 ≤ x ∧ x ≤ i
  room : ∀ (i : Nat) (x : Int), rs[i]? = some x → 1 ≤ x ∧ x ≤ 1000000
def sdWhole : SpD := fun ds q => ∃ d, ds = [d] ∧ d.isS = false ∧ q (.bl (isW d)) []
def sdBetween : SpD := fun ds q => ∃ d lo hi, ds = [d, .int lo, .int hi] ∧ d.isS = false ∧ q (.bl (btw lo hi d)) []
def cellZ (ns : List Int) (k : Int) : Int := ns.getD k.toNat 0
def ScrOk (K : PySem.W.Frag) (φ : Addr → Prop) (ns : List Int) : Prop := ∀ a H, φ a → SqL K H a (ns.map V.int)
def sdCell (K : PySem.W.Frag) : SpD := fun ds q => ∃ φ ns k, ds = [.scr φ ns, .int k] ∧ ScrOk K φ ns ∧ 0 ≤ k ∧ q (.int (cellZ ns k)) []
def sdTake : SpD := fun ds q => ∃ c m many, ds = [dInts [c, m], .int many] ∧ 0 ≤ c ∧ 0 < many ∧ Sm many ∧ ∀ r c' m', 0 ≤ r → r < many → 0 ≤ c' → q (.int r) [some (dInts [c', m'])]
def sdLaw (K : PySem.W.Frag) : SpD := fun ds q => ∃ φ ns, ds = [.scr φ ns] ∧ ScrOk K φ ns ∧ ns.length ≤ 63 ∧ q (.bl true) []
def spLaw (K : PySem.W.Frag) : Sp := fun vs H Q _ => ∃ (a : Addr) (ns : List Int), vs = [.ref a] ∧ Only H ∧ SqL K H a (ns.map V.int) ∧ ns.length ≤ 63 ∧ ∀ H', Q (.bl true) H'
theorem spLaw_of {K : PySem.W.Frag} {vs : List V} {H : Hp} {Q : VK} {E : XK} (h : spLaw K vs H Q E) : spOf [false] false (sdLaw K) vs H Q E := by
  obtain ⟨a, ns, rfl, hO, hS, hl, hq⟩ := h
  have main : ∀ φ : Addr → Prop, ScrOk K φ ns → Rep H (.scr φ ns) (.ref a) → spOf [false] false (sdLaw K) [.ref a] H Q E := fun φ hφ r => by
    refine ⟨⟨H, H, fun _ => none, [none], 0⟩, H, [.scr φ ns], fun d _ => d = .bl true, rfl, rfl, ⟨fun _ => none, rfl, Same.refl _, Same.refl _, fun _ _ e => .inl e, fun a l e => by (first | cases e), fun a l π e => by (first | cases e), fun _ _ e _ => e, fun _ e => e, fun i v e => ?_, ?_, trivial, Nat.le_refl _⟩, ⟨φ, ns, rfl, hφ, hl, rfl⟩, rfl, ?_⟩
    · cases i with
      | zero => simp at e
      | succ i => simp at e
    · intro i d e
      cases i with
      | zero => simp at e; subst e; exact ⟨_, rfl, by simpa using r⟩
      | succ i => simp at e
    · intro d ρ' σ' v G' H' hd _ _ hr
      subst hd
      unfold Ret at hr
      rw [if_neg (by decide)] at hr
      rw [rep_bl_of hr.2]
      exact hq H'
  rcases hS with (h1 | ⟨o, h1⟩) | h1
  · rcases hO a with z | ⟨o, xs, z⟩
    · rw [h1] at z; cases z
    · rw [h1] at z; cases z
  · exact main (fun _ => False) (fun _ _ z => z.elim) (by rw [Rep]; exact ⟨a, rfl, .inl ⟨o, h1⟩⟩)
  · exact main (fun b => b = a) (fun b H' z => by subst z; exact .inr h1) (by rw [Rep]; exact ⟨a, rfl, .inr rfl⟩)
theorem atI_ints {ns : List Int} {k : Int} (h0 : 0 ≤ k) (h1 : k < ns.length) : atI (ns.map D.int) k = some (.int (ns.getD k.toNat 0)) := by
  have ek : k = ((k.toNat : Nat) : Int) := by omega
  have hl : k.toNat < ns.length := by omega
  have : atI (ns.map D.int) ((k.toNat : Nat) : Int) = some (.int (ns.getD k.toNat 0)) := atI_nat (by rw [List.getElem?_map, List.getD_eq_getElem?_getD, List.getElem?_eq_getElem hl]; rfl)
  rw [← ek] at this
  exact this
theorem atI_ns {ns : List Int} {k : Int} (h0 : 0 ≤ k) (h1 : k < ns.length) : atI ns k = some (ns.getD k.toNat 0) := by
  have ek : k = ((k.toNat : Nat) : Int) := by omega
  have hl : k.toNat < ns.length := by omega
  have : atI ns ((k.toNat : Nat) : Int) = some (ns.getD k.toNat 0) := atI_nat (by rw [List.getD_eq_getElem?_getD, List.getElem?_eq_getElem hl]; rfl)
  rw [← ek] at this
  exact this
theorem atD_of {ds : List D} {k : Int} {d : D} {q : D → Prop} (h : atI ds k = some d) (hq : q d) : atD ds k q := by unfold atD; rw [h]; exact hq
theorem map_at {ns : List Int} {i : Nat} {d : D} (h : (ns.map D.int)[i]? = some d) : ∃ z, ns[i]? = some z ∧ d = .int z := by
  rw [List.getElem?_map] at h
  cases e : ns[i]? with
  | none => rw [e] at h; cases h
  | some z => rw [e] at h; exact ⟨z, rfl, (Option.some.inj h).symm⟩
theorem twoL_pair {ps rs : List Int} (hT : Tree ps rs) : twoL (dPair ps rs) = true := by
  show (decide ((ps.map D.int).length = (rs.map D.int).length) && (decide (1 ≤ (ps.map D.int).length) && decide ((ps.map D.int).length ≤ 23))) = true
  rw [List.length_map, List.length_map, decide_eq_true hT.len, decide_eq_true hT.lo, decide_eq_true hT.hi]; rfl
theorem btw_int {lo hi z : Int} (h1 : lo ≤ z) (h2 : z ≤ hi) : btw lo hi (.int z) = true := by show (decide (lo ≤ z) && decide (z ≤ hi)) = true; rw [decide_eq_true h1, decide_eq_true h2]; rfl
theorem ints_snoc (ps : List Int) (y : Int) : D.lst (ps.map D.int ++ [D.int y]) = dInts (ps ++ [y]) := by unfold dInts; rw [List.map_append]; rfl
theorem len_ints (ps : List Int) : (ps.map D.int).length = ps.length := List.length_map _
theorem snoc_at {P : Nat → Int → Prop} {ps : List Int} {y : Int} (h : ∀ (j : Nat) (x : Int), ps[j]? = some x → P j x) (hy : P ps.length y) : ∀ (j : Nat) (x : Int), (ps ++ [y])[j]? = some x → P j x := by
  intro j x hj
  by_cases hjl : j < ps.length
  · rw [List.getElem?_append_left hjl] at hj; exact h j x hj
  · rw [List.getElem?_append_right (by omega)] at hj
    cases e : j - ps.length with
    | zero => rw [e] at hj; have : y = x := by simpa using hj
              subst this; rw [show j = ps.length by omega]; exact hy
    | succ q => rw [e] at hj; simp at hj
theorem mem_ints {ns : List Int} {d : D} (h : d ∈ ns.map D.int) : ∃ x ∈ ns, d = .int x := by
  obtain ⟨x, h1, h2⟩ := List.mem_map.mp h
  exact ⟨x, h1, h2.symm⟩
theorem okD_pair (ns ms : List Int) : okD (dPair ns ms) = true := shaped_pair ns ms
def lay : Nat → D → Bool
  | _, .int _ => true
  | _, .bl _ => true
  | _, .non => true
  | n + 1, .tup ds => ds.all (lay n)
  | n + 1, .lst ds => ds.all (lay n)
  | _, _ => false
theorem lay_all {n : Nat} (ih : ∀ d, lay n d = true → (toP d).canLay0 = true ∧ (toP d).depth ≤ n + 1) : ∀ ds : List D, ds.all (lay n) = true → PyData.canLayAll0 (toPs ds) = true ∧ PyData.depthAll (toPs ds) ≤ n + 1
  | [], _ => by rw [toPs]; simp [PyData.canLayAll0, PyData.depthAll]
  | d :: ds, h => by
    rw [List.all_cons, Bool.and_eq_true] at h
    have h1 := ih d h.1
    have h2 := lay_all ih ds h.2
    rw [toPs]
    simp only [PyData.canLayAll0, PyData.depthAll, h1.1, h2.1, Bool.and_self, true_and]
    omega
theorem lay_ok : ∀ (n : Nat) (d : D), lay n d = true → (toP d).canLay0 = true ∧ (toP d).depth ≤ n + 1
  | n, .int _, _ => by rw [toP]; simp [PyData.canLay0, PyData.depth]
  | n, .bl _, _ => by rw [toP]; simp [PyData.canLay0, PyData.depth]
  | n, .non, _ => by rw [toP]; simp [PyData.canLay0, PyData.depth]
  | n + 1, .tup ds, h => by
    have := lay_all (lay_ok n) ds (by simpa [lay] using h)
    rw [toP]; simp only [PyData.canLay0, PyData.depth, this.1, true_and]; omega
  | n + 1, .lst ds, h => by
    have := lay_all (lay_ok n) ds (by simpa [lay] using h)
    rw [toP]; simp only [PyData.canLay0, PyData.depth, this.1, true_and]; omega
  | 0, .tup _, h => by simp [lay] at h
  | 0, .lst _, h => by simp [lay] at h
  | n, .str _, h => by cases n <;> simp [lay] at h
  | n, .dct, h => by cases n <;> simp [lay] at h
  | n, .dic _ _, h => by cases n <;> simp [lay] at h
  | n, .scr _ _, h => by cases n <;> simp [lay] at h
  | n, .ext _, h => by cases n <;> simp [lay] at h
theorem okD_lay {n : Nat} {d : D} (h : lay n d = true) (hn : n ≤ 60) : okD d = true := by
  have := lay_ok n d h
  unfold okD SeqAt.shaped
  rw [this.1, Bool.true_and]
  exact decide_eq_true (by omega)
theorem eqv_all {n : Nat} (ih : ∀ d, lay n d = true → PyData.eqv (toP d) (toP d) = true) : ∀ ds : List D, ds.all (lay n) = true → PyData.eqvAll (toPs ds) (toPs ds) = true
  | [], _ => by rw [toPs]; simp [PyData.eqvAll]
  | d :: ds, h => by
    rw [List.all_cons, Bool.and_eq_true] at h
    rw [toPs, PyData.eqvAll, ih d h.1, eqv_all ih ds h.2]; rfl
theorem eqD_self : ∀ (n : Nat) (d : D), lay n d = true → eqD d d = true
  | n, .int _, _ => by unfold eqD; rw [toP, PyData.eqv]; simp
  | n, .bl _, _ => by unfold eqD; rw [toP, PyData.eqv]; simp
  | n, .non, _ => by unfold eqD; rw [toP, PyData.eqv]
  | n + 1, .tup ds, h => by unfold eqD; rw [toP, PyData.eqv]; exact eqv_all (eqD_self n) ds (by simpa [lay] using h)
  | n + 1, .lst ds, h => by unfold eqD; rw [toP, PyData.eqv]; exact eqv_all (eqD_self n) ds (by simpa [lay] using h)
  | 0, .tup _, h => by simp [lay] at h
  | 0, .lst _, h => by simp [lay] at h
  | n, .str _, h => by cases n <;> simp [lay] at h
  | n, .dct, h => by cases n <;> simp [lay] at h
  | n, .dic _ _, h => by cases n <;> simp [lay] at h
  | n, .scr _ _, h => by cases n <;> simp [lay] at h
  | n, .ext _, h => by cases n <;> simp [lay] at h
theorem lay_ints0 (n : Nat) (ns : List Int) : (ns.map D.int).all (lay n) = true := by
  rw [List.all_eq_true]; intro d hd; obtain ⟨x, _, rfl⟩ := mem_ints hd; cases n <;> rfl
theorem lay_dInts (n : Nat) (ns : List Int) : lay (n + 1) (dInts ns) = true := by unfold dInts; rw [lay]; exact lay_ints0 n ns
theorem lay_dPair (n : Nat) (ns ms : List Int) : lay (n + 2) (dPair ns ms) = true := by unfold dPair; rw [lay, List.all_cons, List.all_cons, lay_dInts, lay_dInts]; rfl
section
variable {X : Cx}
end
section
variable {X : Cx} {M : Md} {e : Expr} {ma : ME} {pos : Pos}
end
def eqB : Value → Bool
  | .bool a => a == true
  | _ => false
def rCount : V → List V → Hp → VK → Prop := fun x vs H Q => ∃ (l : Addr) (bs : List Bool), x = .ref l ∧ vs = [.bl true] ∧ H l = some (.lst (bs.map V.bl)) ∧ Q (.int (bs.countP id : Nat)) H
theorem vals_blsR : ∀ {bs : List Bool} {us : List Value}, Vals (bs.map V.bl) us → us = bs.map Value.bool
  | [], _, .nil => rfl
  | b :: bs, _, .cons r t => by rw [vals_blsR (bs := bs) t]; cases r; rfl
theorem countP_bls : ∀ bs : List Bool, (bs.map Value.bool).countP eqB = bs.countP id
  | [] => rfl
  | b :: bs => by rw [List.map_cons, List.countP_cons, List.countP_cons, countP_bls bs]; cases b <;> rfl
section
variable {X : Cx}
theorem mt_count : MtM X "list.count" rCount := by
  (try refine ⟨?_⟩); intro pins s σ H x vs v us Q I rx rv h
  obtain ⟨l, bs, rfl, rfl, hH, q⟩ := h
  cases rx
  obtain ⟨u, rfl, ru⟩ := rv.one
  cases ru
  obtain ⟨z, its, n, r, hl, e⟩ := I.lstM hH
  have ei := vals_blsR r
  subst ei
  refine call_meets F.slot_list_count ⟨_, e, rfl⟩ F.entry_list_count (F.args_list_count_2 _ _)
    (SeqAt.list_countAt l (bs.map Value.bool).toArray n none #[] (.bool true) eqB) ⟨e, fun y hy => ?_, ?_⟩
  · obtain ⟨b, hb, rfl⟩ := List.mem_map.mp (List.mem_toArray.mp hy)
    exact SeqAt.EqAt.bool_bool b true
  · refine ⟨.int (bs.countP id : Nat), H, I.tok _, ⟨s.toks, ?_⟩, q⟩
    show Value.int (((bs.map Value.bool).toArray.toList.countP eqB : Nat) : Int) s.toks = _
    rw [← countP_bls]
variable {ow : List Bool} {e : Expr} {ma : ME}
theorem reps_blsR {G : Hp} : ∀ {bs : List Bool} {xs : List V}, Reps G (bs.map D.bl) xs → xs = bs.map V.bl
  | [], xs, h => by rw [List.map_nil, Reps] at h; subst h; rfl
  | n :: r, xs, h => by rw [List.map_cons, Reps] at h; obtain ⟨v, vs, rfl, h1, h2⟩ := h; rw [rep_bl_of h1, reps_blsR h2]; rfl
def mCount (m : ME) : ME := fun ρ q => m ρ fun d ρ1 => match d with
  | .lst ds => ∃ bs : List Bool, ds = bs.map D.bl ∧ q (.int (bs.countP id : Nat)) ρ1
  | _ => False
theorem qe_count {j1 : Nat} {p1 apos cpos : Pos} (h : QE X ow e ma)
    (hbase : attributeBase e "count" X.env (eval e X.env) = eval e X.env := by rfl)
    (hfew : ((backTo cpos (starEach [.Constant (.bool true) j1 p1] X.env)).all (fun x => !x.1) && (backToKw cpos (keywordEach [] X.env)).all (fun x => x.1.isSome)
      && decide (([.Constant (.bool true) j1 p1] : List Expr).length + ([] : List Keyword).length + (if ([] : List Keyword).isEmpty then 0 else 1) < 30)) = true := by rfl)
    (hline : (apos.endLine == cpos.line) = true := by rfl) (hst : starEach [.Constant (.bool true) j1 p1] X.env = [(false, eval (.Constant (.bool true) j1 p1) X.env)] := by rfl) :
    QE X ow (.Call (.Attribute e "count" apos) [.Constant (.bool true) j1 p1] [] cpos) (mCount ma) := by
  obtain ⟨t, p, s⟩ := h
  refine ⟨_, pe_bm PySem.F.plainAttrs_list PySem.F.slot_list_count PySem.F.type_list_count mt_count p (pa_cons pe_bl pa_nil hst) hbase hfew hline hst (by rfl), fun C G ρ σ H pd q Q r hm k => s C G ρ σ H pd _ _ r hm fun d ρ' v G' H' hq z kp r' pp => ?_⟩
  cases d with
  | lst ds =>
    obtain ⟨bs, rfl, hq⟩ := hq
    obtain ⟨l, xs, rfl, h1, h2⟩ := rep_lst_of pp
    have ex := reps_blsR h2
    subst ex
    refine ⟨.inl ⟨rfl, _, SqL.of (r'.gh _ _ h1)⟩, ?_⟩
    refine ⟨l, bs, rfl, rfl, r'.gh _ _ h1, ?_⟩
    exact k _ ρ' _ _ _ hq z kp r' (rep_int _)
  | _ => exact hq.elim
end
section
variable {X : Cx}
variable {ow : List Bool} {e : Expr} {ma : ME} {pos p1 p2 p3 : Pos}
end
end L2
namespace L2
open PySem
end L2
namespace L2
open PySem PySem.Spec PyProof.Rows
section
variable {prog : Program} {w : World} {A : Around} {E : Value → Shared → Prop} {s : Shared}
end
section
variable {X : Cx} {M : Md} {e : Expr} {es : List Expr} {mgs : MGs} {pos : Pos}
end
section
variable {X : Cx} {M : Md} {pos : Pos}
end
section
variable {X : Cx} {es : List Expr} {k : Nat} {tpos : Pos}
variable {ow : List Bool} {a b : Expr} {mr : MA} {pos : Pos}
end
end L2
namespace L2
open PySem
def dQ (r : Rat) : D := .tup [.int r.num, .int r.den]
theorem gcdP_eq {t b : Int} (hb : 0 < b) : gcdP t b = (b.gcd t : Int) := by
  unfold gcdP; rw [if_neg (by omega), Int.gcd_comm]
theorem quo_num {t b : Int} (hb : 0 < b) : t / gcdP t b = (Rat.divInt t b).num := by
  rw [Rat.num_divInt, Int.sign_eq_one_of_pos hb, Int.one_mul, gcdP_eq hb]
theorem quo_den {t b : Int} (hb : 0 < b) : b / gcdP t b = ((Rat.divInt t b).den : Int) := by
  rw [Rat.den_divInt, if_neg (by omega), gcdP_eq hb]
  have : (b.natAbs : Int) = b := by omega
  rw [Int.natCast_ediv, this]
theorem den_posI (r : Rat) : (0 : Int) < r.den := by have := r.den_pos; omega
theorem ediv_abs {a b : Int} (hb : 0 < b) : (a / b).natAbs ≤ a.natAbs := by
  have h1 := Int.ediv_mul_le a (show b ≠ 0 by omega)
  have h2 := Int.lt_ediv_add_one_mul_self a hb
  rcases Int.lt_or_le a 0 with h | h
  · have h3 : a ≤ a / b := by
      rcases Int.lt_or_le (a / b) a with z | z
      · exfalso
        have : (a / b + 1) * b ≤ (a / b + 1) * 1 := Int.mul_le_mul_of_nonpos_left (by omega) (by omega)
        omega
      · exact z
    have h4 : a / b < 0 := Int.ediv_neg_of_neg_of_pos h hb
    omega
  · have := Int.ediv_nonneg h (show 0 ≤ b by omega)
    have := Int.ediv_le_self b h
    omega
theorem divInt_bd {t b : Int} (hb : 0 < b) : (Rat.divInt t b).num.natAbs ≤ t.natAbs ∧ (Rat.divInt t b).den ≤ b.natAbs := by
  have g := gcdP_pos (n := t) hb
  constructor
  · rw [← quo_num hb]; exact ediv_abs g
  · have e := quo_den (t := t) hb
    have := ediv_abs (a := b) g
    omega
def sdGcd : SpD := fun ds q => ∃ n b, ds = [.int n, .int b] ∧ 0 ≤ b ∧ q (.int (gcdP n b)) []
theorem lay_dQ (r : Rat) : lay 1 (dQ r) = true := rfl
theorem okD_dQ (r : Rat) : okD (dQ r) = true := okD_lay (lay_dQ r) (by decide)
theorem atI_any {α : Type} {xs : List α} {i : Int} (h0 : -(xs.length : Int) ≤ i) (h1 : i < xs.length) : ∃ x ∈ xs, atI xs i = some x := by
  unfold atI ixN
  have h2 : ∀ j : Nat, j < xs.length → ∃ x ∈ xs, xs[j]? = some x := fun j hj => ⟨xs[j], List.getElem_mem hj, List.getElem?_eq_getElem hj⟩
  split
  · exact h2 _ (by omega)
  · exact h2 _ (by omega)
def sdSource : SpD := fun ds q => ∃ c k, ds = [.int c, .int k] ∧ 0 ≤ k ∧ k ≤ 1000 ∧ ∀ n s, 0 ≤ n → q (dInts [n, s]) []
def sdTree2 : SpD := fun ds q => ∃ c m most, ds = [dInts [c, m], .int most] ∧ 0 ≤ c ∧ 0 < most ∧ most ≤ 23 ∧ ∀ ps rs c' m', Tree ps rs → (ps.length : Int) ≤ most → 0 ≤ c' → q (dPair ps rs) [some (dInts [c', m'])]
def sdLowest : SpD := fun ds q => ∃ t b, ds = [.int t, .int b] ∧ 0 < b ∧ Sm b ∧ q (dQ (Rat.divInt t b)) []
theorem gcd_swap {t b : Int} (hb : 0 < b) : gcdP b (if t < 0 then -t else t) = gcdP t b := by
  rw [gcdP_eq hb]
  by_cases h0 : t = 0
  · subst h0
    rw [if_neg (by decide)]
    unfold gcdP
    rw [if_pos rfl, Int.gcd_zero_right]; omega
  · unfold gcdP
    by_cases h : t < 0
    · rw [if_pos h, if_neg (by omega), Int.gcd_neg]
    · rw [if_neg h, if_neg h0]
end L2
namespace L2
open PySem PySem.Spec PyProof.Rows
def ExcAt (h : Heap) (e : Addr) (cls : Value) (dx : Option Addr) (tb : Value) : Prop :=
  ∃ (vs : Array Value) (sl : Array (Option Value)), h.get? e = some { cls := cls, dict := dx, data := .fields vs, slots := sl } ∧ vs[1]? = some tb
def TbAt (h : Heap) (t : Addr) (v : Value) : Prop := ∃ o ts, h.get? t = some o ∧ o.data = .fields ts ∧ ts[3]? = some v
def tbV : Option Addr → Value
  | none => .none
  | some t => .ref t
structure FlyO (h : Heap) (e : Addr) (cls : Value) (dx : Option Addr) (T : Option Addr) : Prop where
  ex : ExcAt h e cls dx (tbV T)
  tb : ∀ t, T = some t → t ≠ e ∧ TbAt h t .none
theorem ExcAt.notFrame {h base : Heap} {l : List Env} {e : Addr} {cls : Value} {dx : Option Addr} {tb : Value} (x : ExcAt h e cls dx tb) (hl : h.FunFrames base l) : e ∉ frs l := fun hm => by
  obtain ⟨vs, sl, he, _⟩ := x
  obtain ⟨_, o, ho, hnf⟩ := hl.mem hm
  rw [he] at ho; cases ho; exact hnf vs rfl
theorem TbAt.notFrame {h base : Heap} {l : List Env} {t : Addr} {v : Value} (x : TbAt h t v) (hl : h.FunFrames base l) : t ∉ frs l := fun hm => by
  obtain ⟨o', ts, he, hd, _⟩ := x
  obtain ⟨_, o, ho, hnf⟩ := hl.mem hm
  rw [he] at ho; cases ho; exact hnf ts hd
section
variable {M : Model} {A : Around} {E : Value → Shared → Prop} {s : Shared}
def KeptBut (l : List Env) (e : Addr) (T : Option Addr) (h h' : Heap) : Prop := ∀ b o, b ≠ e → T ≠ some b → h.get? b = some o → (b ∉ frs l → h'.get? b = some o) ∧ ∃ sl, h'.get? b = some { o with slots := sl }
theorem entry_fly {base : Heap} {env : Env} {outer : List Env} {L e : Addr} {cls : Value} {dx : Option Addr} {tb head : Value} {hadNext : Bool} {Q : Unit → Shared → Prop}
    (hfr : A.frames = some (env :: outer)) (hl : s.heap.FunFrames base (env :: outer)) (hf : env.frame = some L) (F : ExcAt s.heap e cls dx tb)
    (h : ∀ h', s.heap.objs.size ≤ h'.objs.size → ∀ t', s.heap.objs.size ≤ t' → FlyO h' e cls dx (some t') → KeptBut (env :: outer) e none s.heap h' → Q () { s with heap := h' }) :
    wpAny M A (do let a ← frameOf env; let pl ← entryPlaceOf L hadNext; let b ← EntryCells.newEntry head a .none (rawInt L) .none pl; setField (.ref e) 1 b) (fun _ s' => wpAny M A (setFlight (.ref e) none) Q E s') E s := by
  have hene := F.notFrame hl
  obtain ⟨vs, sl, he, h1⟩ := F
  have hsz : 1 < vs.size := (Array.getElem?_eq_some_iff.mp h1).1
  refine wpAny_bind (wpAny_frameOf_fun hfr hl hf fun g1 hs1 => ?_)
  refine wpAny_bind (wpAny_entryPlaceOf fun pl hpl => ?_)
  unfold EntryCells.newEntry newFields
  refine wpAny_bind (wpAny_newObj_type ?_ (hpl.sizeOk5 _ _ _ _ _))
  have he1 : g1.get? e = some { cls := cls, dict := dx, data := .fields vs, slots := sl } := (hs1.2.1 e hene).trans he
  generalize hO : ({ cls := .type "traceback", dict := none, data := .fields ([head, .ref L, .none, rawInt L, .none] ++ (if pl.isEmpty then List.replicate 6 Value.none else pl)).toArray } : Obj) = O
  have hOd : ∃ ts : Array Value, O.data = .fields ts ∧ 3 < ts.size := by
    rw [← hO]; exact ⟨_, rfl, by simp only [List.size_toArray, List.length_append, List.length_cons, List.length_nil]; omega⟩
  have hOf : O.isFreed = false := by rw [← hO]; rfl
  obtain ⟨ts, hts, h3⟩ := hOd
  have he2 := Heap.get?_push_of_some (h := g1) O he1
  refine wpAny_setField he2 rfl hsz ?_
  have hTe : g1.objs.size ≠ e := Nat.ne_of_gt (Heap.lt_size he1)
  have he3 := Heap.get?_update_self (Obj.mapFields (·.setIfInBounds 1 (Value.ref g1.objs.size))) he2 (Obj.isFreed_of_fields (Obj.data_mapFields rfl _))
  have hT3 : ((g1.push O).update e (Obj.mapFields (·.setIfInBounds 1 (Value.ref g1.objs.size)))).get? g1.objs.size = some O := (Heap.get?_update_other _ _ (Ne.symm hTe)).trans (Heap.get?_push_size g1 hOf)
  unfold setFlight
  refine wpAny_bind (wpAny_field he3 (Obj.data_mapFields rfl _) (x := .ref g1.objs.size) (by simp [hsz]) ?_)
  rw [if_pos (show (Value.ref g1.objs.size != Value.none) = true from by simp)]
  refine wpAny_setField hT3 hts h3 ?_
  have hsz1 : g1.objs.size = s.heap.objs.size := hs1.1
  refine h _ ?_ g1.objs.size (Nat.le_of_eq hsz1.symm) ⟨⟨_, sl, ?_, by show (vs.setIfInBounds 1 (Value.ref g1.objs.size))[1]? = _; simp [hsz]; rfl⟩, fun t ht => ?_⟩ fun b o hbe _ hb => ?_
  · rw [Heap.size_after_update, Heap.size_after_update, Heap.size_push]; exact Nat.le_succ_of_le (Nat.le_of_eq hsz1.symm)
  · rw [Heap.get?_update_other _ _ hTe]; exact he3
  · cases ht
    refine ⟨hTe, _, _, Heap.get?_update_self _ hT3 (Obj.isFreed_of_fields (Obj.data_mapFields hts _)), Obj.data_mapFields hts _, ?_⟩
    show (ts.setIfInBounds 3 ((none : Option Addr).elim Value.none fun f => rawInt f))[3]? = _
    simp [h3]
  · have keep : ∀ o', g1.get? b = some o' → (((g1.push O).update e (Obj.mapFields (·.setIfInBounds 1 (Value.ref g1.objs.size)))).update g1.objs.size (Obj.mapFields (·.setIfInBounds 3 ((none : Option Addr).elim Value.none fun f => rawInt f)))).get? b = some o' := fun o' ho' => by
      have hbT : g1.objs.size ≠ b := Nat.ne_of_gt (Heap.lt_size ho')
      rw [Heap.get?_update_other _ _ hbT, Heap.get?_update_other _ _ (Ne.symm hbe)]
      exact Heap.get?_push_of_some _ ho'
    obtain ⟨sl', hb'⟩ := hs1.2.2 b o hb
    exact ⟨fun hn => keep o ((hs1.2.1 b hn).trans hb), sl', keep _ hb'⟩
theorem note_fly {base : Heap} {env : Env} {outer : List Env} {L e : Addr} {cls : Value} {dx : Option Addr} {T : Option Addr} {Q : Unit → Shared → Prop}
    (hfr : A.frames = some (env :: outer)) (hl : s.heap.FunFrames base (env :: outer)) (hf : env.frame = some L) (F : FlyO s.heap e cls dx T)
    (h : ∀ h', s.heap.objs.size ≤ h'.objs.size → ∀ t', s.heap.objs.size ≤ t' → FlyO h' e cls dx (some t') → KeptBut (env :: outer) e T s.heap h' → (∀ t, T = some t → ∃ o, h'.get? t = some o) → Q () { s with heap := h' }) :
    wpAny M A (noteFrame (.ref e) env) (fun _ s' => wpAny M A (setFlight (.ref e) none) Q E s') E s := by
  obtain ⟨X, tb⟩ := F
  obtain ⟨vs, sl, he, h1⟩ := id X
  unfold noteFrame
  simp only [hf]
  refine wpAny_bind (wpAny_field he rfl h1 ?_)
  cases T with
  | none =>
    rw [if_neg (by decide)]
    exact entry_fly hfr hl hf X fun h' hs t' ht' fl kb => h h' hs t' ht' fl kb fun t z => by cases z
  | some T =>
    obtain ⟨hTe, oT, ts, hT, hdT, h3⟩ := tb T rfl
    show wpAny M A (if (Value.ref T != Value.none) = true then _ else _) _ _ _
    rw [if_pos (show (Value.ref T != Value.none) = true from by simp)]
    refine wpAny_bind (wpAny_field hT hdT h3 ?_)
    rw [if_neg (show ¬ ((Value.none == rawInt L) = true) from by simp [rawInt])]
    refine wpAny_bind (wpAny_setField hT hdT (Array.getElem?_eq_some_iff.mp h3).1 ?_)
    have other : ∀ b, b ≠ T → (s.heap.update T (Obj.mapFields (·.setIfInBounds 3 Value.none))).get? b = s.heap.get? b := fun b hb => Heap.get?_update_other _ _ (Ne.symm hb)
    have hTn := TbAt.notFrame ⟨oT, ts, hT, hdT, h3⟩ hl
    have hl2 : (s.heap.update T (Obj.mapFields (·.setIfInBounds 3 Value.none))).FunFrames base (env :: outer) := hl.of_keeps fun b o hb hnf => ⟨o, (other b fun q => by subst q; rw [hT] at hb; cases hb; exact hnf ts hdT).trans hb, rfl⟩
    have hT2 := Heap.get?_update_self (Obj.mapFields (·.setIfInBounds 3 Value.none)) hT (Obj.isFreed_of_fields (Obj.data_mapFields hdT _))
    refine entry_fly (s := { s with heap := s.heap.update T (Obj.mapFields (·.setIfInBounds 3 Value.none)) }) hfr hl2 hf ⟨vs, sl, (other e (Ne.symm hTe)).trans he, h1⟩ fun h' hs t' ht' fl kb => ?_
    have hs' : s.heap.objs.size ≤ h'.objs.size := by rw [Heap.size_after_update] at hs; exact hs
    have ht2 : s.heap.objs.size ≤ t' := by rw [Heap.size_after_update] at ht'; exact ht'
    refine h h' hs' t' ht2 fl (fun b o hbe hbT hb => kb b o hbe (by simp) ((other b fun q => hbT (by rw [q])).trans hb)) fun t z => ?_
    cases z
    obtain ⟨_, sl2, q⟩ := kb T _ hTe (by simp) hT2
    exact ⟨_, q⟩
theorem leave_fly {base : Heap} {env : Env} {outer : List Env} {L e : Addr} {cls : Value} {dx : Option Addr} {T : Option Addr} {Q : Unit → Shared → Prop}
    (hfr : A.frames = some (env :: outer)) (hl : s.heap.FunFrames base (env :: outer)) (hf : env.frame = some L) (F : FlyO s.heap e cls dx T)
    (h : ∀ h', s.heap.objs.size ≤ h'.objs.size → ∀ t', s.heap.objs.size ≤ t' → FlyO h' e cls dx (some t') → KeptBut (env :: outer) e T s.heap h' → (∀ t, T = some t → ∃ o, h'.get? t = some o) → Q () { s with heap := h' }) : wpAny M A (leaving env (.ref e)) Q E s := by
  unfold leaving
  exact wpAny_bind (note_fly hfr hl hf F h)
end
abbrev XS := St → XK
structure Out (X : Cx) (pins : List (Addr × Obj)) (H : Hp) (a : Addr) : Prop where
  new : X.s₀.heap.get? a = none
  unt : H a = none
  pin : ∀ p ∈ X.pn ++ pins, p.1 ≠ a
structure Fly (X : Cx) (pins : List (Addr × Obj)) (H : Hp) (s : Shared) (e : Addr) (cls : Value) (dx : Option Addr) : Prop where
  go : ∃ T, FlyO s.heap e cls dx T ∧ Out X pins H e ∧ ∀ t, T = some t → Out X pins H t
structure Acc (X : Cx) (xk : XS) : Prop where
  go : ∀ (pins : List (Addr × Obj)) (σ : St) (H : Hp) (s : Shared) (e : Addr) (cls : Value) (dx : Option Addr), Inv X pins σ H s → Fly X pins H s e cls dx → xk σ cls dx H → X.xe (.ref e) s
def CX1 (P : Program) (w : World) : CXT := fun outer H s E e s' => ∃ ea H' cls dx T, e = .ref ea ∧ s'.os = s.os ∧ AllBare s'.gens ∧ Un (frs outer) [] H H' s.heap s'.heap ∧ HOk P w H' s'.heap ∧ FlyO s'.heap ea cls dx T ∧
  (s.heap.get? ea = none ∧ H' ea = none) ∧ (∀ t, T = some t → s.heap.get? t = none ∧ H' t = none) ∧ E cls dx H'
section
variable {X : Cx} {pins : List (Addr × Obj)} {σ : St} {H H' : Hp} {s s' : Shared} {e : Addr} {cls : Value} {dx : Option Addr} {T : Option Addr}
theorem ObjOk.here {P : Program} {w : World} {H : Hp} {h : Heap} {a : Addr} {o : HO} (x : ObjOk P w H h a o) : ∃ u, h.get? a = some u := by
  cases o with
  | lst xs => obtain ⟨_, _, _, _, e⟩ := x; exact ⟨_, e⟩
  | tup xs => obtain ⟨_, _, _, _, e, _⟩ := x; exact ⟨_, e⟩
  | dK kvs => obtain ⟨_, _, _, _, o, _, _, e, _⟩ := x; exact ⟨_, e⟩
  | dT kvs => obtain ⟨_, _, _, _, o, _, _, e, _⟩ := x; exact ⟨_, e⟩
  | set S n => obtain ⟨o, _, _, _, e, _⟩ := x; exact ⟨_, e⟩
  | ins C dx fs => obtain ⟨_, _, _, e, _⟩ := x; exact ⟨_, e⟩
  | own y => exact x
  | xd fs => obtain ⟨_, ⟨_, _, _, e, _⟩, _⟩ := x; exact ⟨_, e⟩
  | rng lo hi => obtain ⟨_, _, _, e⟩ := x; exact ⟨_, e⟩
  | frz ob u => obtain ⟨e, _⟩ := x; exact ⟨_, e⟩
  | tbl ps => exact ⟨_, (show h.get? a = some _ from x)⟩
  | met f y => exact ⟨_, (show h.get? a = some _ from x)⟩
  | ext φ => obtain ⟨_, e, _⟩ := x; exact e
theorem HOk.no {P : Program} {w : World} {H : Hp} {h : Heap} {a : Addr} (x : HOk P w H h) (e : h.get? a = none) : H a = none := by
  cases q : H a with
  | none => rfl
  | some o => obtain ⟨u, z⟩ := (x a o q).here; rw [e] at z; cases z
theorem Inv.pinNo (I : Inv X pins σ H s) {a : Addr} (h : s.heap.get? a = none) : ∀ p ∈ X.pn ++ pins, p.1 ≠ a := fun p hp z => by
  have := (I.pin p hp).1
  rw [z, h] at this; cases this
theorem Inv.old (I : Inv X pins σ H s) (hex : X.ex = []) {a : Addr} (h : s.heap.get? a = none) : X.s₀.heap.get? a = none := by
  cases q : X.s₀.heap.get? a with
  | none => rfl
  | some o => obtain ⟨u, z⟩ := I.base.there a o q (by rw [hex]; simp); rw [h] at z; cases z
theorem Inv.callN {h' : Heap} {g' : Array GenState} {t' : Nat} {d' : Drawn} {ch : List Addr} (I : Inv X pins σ H s) (u : Un (frs X.stack) ch H H' s.heap h') (hok : HOk X.prog X.w H' h') (hg : AllBare g')
    (hch : ∀ b ∈ ch, X.s₀.heap.get? b = none ∧ b ≠ X.env.locals ∧ (∀ x c, X.env.cells.lookup x = some c → c ≠ b) ∧ (∀ p ∈ X.pn ++ pins, p.1 ≠ b) ∧ b ∉ X.fs) :
    Inv X pins σ H' { s with heap := h', gens := g', drawn := d', toks := t' } := by
  have nin : ∀ b o, X.s₀.heap.get? b = some o → b ∉ ch := fun b o q hb => by rw [(hch b hb).1] at q; cases q
  have sp : ∀ {b : Addr}, b ∈ ch ++ X.ex → b ∈ ch ∨ b ∈ X.ex := fun z => List.mem_append.mp z
  have ok1 : Cx.Ok { X with ex := ch ++ X.ex } := { I.ok with
    exf := fun b hb => (sp hb).elim (fun z => ⟨(hch b z).2.1, (hch b z).2.2.1⟩) (I.ok.exf b)
    noex := fun b o q hb => (sp hb).elim (nin b o (I.ok.bs b o q).1) (I.ok.noex b o q)
    exfs := fun b hb => (sp hb).elim (fun z => (hch b z).2.2.2.2) (I.ok.exfs b) }
  have I1 : Inv { X with ex := ch ++ X.ex } pins σ H s := ⟨ok1, I.os, I.bare, I.base.mono (fun _ z => z) (fun _ z => List.mem_append_right _ z), I.loc, I.cell, I.free, I.freeC, I.pin, I.hok, I.len⟩
  have J := I1.call (g' := g') (t' := t') (d' := d') u hok hg fun b hb => ⟨.inl (List.mem_append_left _ hb), (hch b hb).2.1, (hch b hb).2.2.1, (hch b hb).2.2.2.1⟩
  have nn : ∀ b o, X.s₀.heap.get? b = some o → b ∉ X.ex → b ∉ ch ++ X.ex := fun b o q hx hb => (sp hb).elim (nin b o q) hx
  exact ⟨I.ok, J.os, J.bare, ⟨fun b o q n hb hx => J.base.keep b o q n hb (nn b o q hx), fun b o q n hb hx => J.base.slot b o q n hb (nn b o q hx), fun b o q n hx => J.base.free b o q n (nn b o q hx), fun b o q hx => J.base.there b o q (nn b o q hx),
    J.base.tups, J.base.frzs, J.base.tbls⟩, J.loc, J.cell, J.free, J.freeC, J.pin, J.hok, J.len⟩
theorem Inv.fieldsNot (I : Inv X pins σ H s) {a : Addr} {o : Obj} {vs : Array Value} (h : s.heap.get? a = some o) (hd : o.data = .fields vs) : a ≠ X.env.locals ∧ ∀ x c, X.env.cells.lookup x = some c → c ≠ a := by
  constructor
  · intro z
    obtain ⟨m, ⟨o', es, ep, ho, r⟩, _⟩ := I.loc
    rw [z] at h; rw [h] at ho; cases ho
    obtain ⟨r1, r2, _⟩ := r
    rw [hd] at r1; cases r1
  · intro x c hc z
    obtain ⟨v, q⟩ := I.cell x c hc
    subst z
    obtain ⟨o', ho, hd'⟩ := q
    rw [h] at ho; cases ho
    rw [hd] at hd'; cases hd'
theorem Inv.noted {h' : Heap} {t' : Addr} (I : Inv X pins σ H s) (hst : X.stack = X.env :: X.outer) (fl : FlyO s.heap e cls dx T) (oe : Out X pins H e) (ot : ∀ t, T = some t → Out X pins H t) (hs : s.heap.objs.size ≤ h'.objs.size)
    (ht : s.heap.objs.size ≤ t') (fl' : FlyO h' e cls dx (some t')) (kb : KeptBut (X.env :: X.outer) e T s.heap h') (there : ∀ t, T = some t → ∃ o, h'.get? t = some o) :
    Inv X pins σ H { s with heap := h' } ∧ Fly X pins H { s with heap := h' } e cls dx := by
  have hst' : X.env :: X.outer = X.stack := hst.symm
  rw [hst'] at kb
  have hch : ∀ b ∈ e :: T.toList, X.s₀.heap.get? b = none ∧ b ≠ X.env.locals ∧ (∀ x c, X.env.cells.lookup x = some c → c ≠ b) ∧ (∀ p ∈ X.pn ++ pins, p.1 ≠ b) ∧ b ∉ X.fs := fun b hb => by
    have out : ∀ z, z ∈ X.fs → z ∈ frs (X.env :: X.outer) := fun z hz => by unfold frs; rw [List.filterMap_cons]; split; exact hz; exact List.mem_cons_of_mem _ hz
    have stk : s.heap.FunFrames X.base (X.env :: X.outer) := by rw [hst']; exact I.stack
    rcases List.mem_cons.mp hb with rfl | hb
    · obtain ⟨vs, sl, q, _⟩ := fl.ex
      exact ⟨oe.new, (I.fieldsNot q rfl).1, (I.fieldsNot q rfl).2, oe.pin, fun z => fl.ex.notFrame stk (out _ z)⟩
    · have : T = some b := by cases T with | none => cases hb | some t => simp at hb; rw [hb]
      obtain ⟨_, o, ts, q, hd, h3⟩ := fl.tb b this
      exact ⟨(ot b this).new, (I.fieldsNot q hd).1, (I.fieldsNot q hd).2, (ot b this).pin, fun z => TbAt.notFrame ⟨o, ts, q, hd, h3⟩ stk (out _ z)⟩
  have nb : ∀ b, b ∉ e :: T.toList → b ≠ e ∧ T ≠ some b := fun b hb => ⟨fun z => hb (by simp [z]), fun z => hb (by simp [z])⟩
  have un : Un (frs X.stack) (e :: T.toList) H H s.heap h' := {
    keep := fun b o q _ hn hx => ((kb b o (nb b hx).1 (nb b hx).2 q).1 hn)
    slot := fun b o q _ _ hx => (kb b o (nb b hx).1 (nb b hx).2 q).2
    free := fun _ _ _ n _ => n
    there := fun b o q hx => let ⟨sl, z⟩ := (kb b o (nb b hx).1 (nb b hx).2 q).2; ⟨_, z⟩
    tups := fun _ _ z => z
    frzs := fun _ _ _ z => z
    tbls := fun b ps z => ⟨#[], by rw [z]; simp⟩ }
  have hok : HOk X.prog X.w H h' := fun a o q => (I.hok a o q).stay (fun c v hc z => by
    have hH : ∃ u, H c = some u := by rcases hc with hc | hc; exact ⟨_, hc ▸ q⟩; exact ⟨_, hc⟩
    obtain ⟨u, hu⟩ := hH
    have c1 : c ≠ e := fun y => by rw [y, oe.unt] at hu; cases hu
    have c2 : T ≠ some c := fun y => by rw [(ot c y).unt] at hu; cases hu
    exact (kb c v c1 c2 z).1 fun y => by rw [I.stkFree c y] at hu; cases hu) (fun _ z => z) fun _ _ z => z
  refine ⟨I.callN (h' := h') (g' := s.gens) (d' := s.drawn) (t' := s.toks) un hok I.bare hch, ⟨some t', fl', oe, fun t z => ?_⟩⟩
  cases z
  exact ⟨Heap.get?_none_of_le (Nat.le_trans I.sz ht), I.hok.fresh ht, I.pinNo (Heap.get?_none_of_le ht)⟩
end
theorem acc_fn {P : Program} {w : World} {K : PySem.W.Frag} {mg : Str → Option Value} {base : Heap} {N : List Str} {qual : Str} {scope : Scope} {f : Addr} {cd : Value} {A : Around} {outer : List Env} {s : Shared} {H : Hp} {E : XK} :
    Acc (cxOf (CX1 P w) P w K mg base N qual scope f cd A outer s H E) (fun _ => E) := by
  refine ⟨fun pins σ H' s' e cls dx I fl h => ?_⟩
  obtain ⟨T, flo, oe, ot⟩ := fl.go
  show wpAny _ _ (leaving _ (.ref e)) _ _ s'
  refine leave_fly (base := base) (outer := outer) (L := s.heap.objs.size) (T := T) I.ok.frames I.stack rfl flo fun h' hs t' ht fl' kb there => ?_
  obtain ⟨I2, fl2⟩ := I.noted rfl flo oe ot hs ht fl' kb there
  refine ⟨e, H', cls, dx, some t', rfl, I.os, I.bare, ?_, I2.hok, fl', ⟨oe.new, oe.unt⟩, fun t z => ?_, h⟩
  · exact I2.base
  · cases z; exact ⟨Heap.get?_none_of_le (Nat.le_trans I.sz ht), I.hok.fresh ht⟩
section
variable {X : Cx} {x : Str} {p pos : Pos} {e : Expr} {es : List Expr} {t : TA} {k : Nat} {f : Addr} {fd : FuncData} {ps : List Str} {sp : Sp} {xk : XS}
theorem Inv.raised {pins : List (Addr × Obj)} {σ : St} {H : Hp} {s s' : Shared} {ev : Value} (hex : X.ex = []) (I : Inv X pins σ H s) (ac : Acc X xk) (h : CX1 X.prog X.w X.stack H s (xk σ) ev s') : X.xe ev s' := by
  obtain ⟨ea, H', cls, dx, T, rfl, os, bare, un, hok, fl, oe, ot, q⟩ := h
  have I2 := I.call' os un hok bare (ch := []) fun b z => absurd z (by simp)
  exact ac.go pins σ H' s' ea cls dx I2 ⟨T, fl, ⟨I.old hex oe.1, oe.2, I.pinNo oe.1⟩, fun t z => ⟨I.old hex (ot t z).1, (ot t z).2, I.pinNo (ot t z).1⟩⟩ q
theorem run_fnX {pins : List (Addr × Obj)} {σ : St} {H : Hp} {s : Shared} {Q : VK} {us : List Value} {vs : List V} (F : FnOk X.prog X.w X.K X.mg X.base (CX1 X.prog X.w) k f fd ps sp) (hr : Room k X.A) (hb : Binds X.K fd ps [])
    (hex : X.ex = []) (ac : Acc X xk) (I : Inv X pins σ H s) (r : Vals vs us) (h : sp vs H Q (xk σ)) : wpAny (model X.prog X.w) X.A (call (.ref f) us) (EP X pins σ Q) X.xe s := by
  have hl : us.length = ps.length := by rw [← F.len _ _ _ _ h]; exact r.length.symm
  have hb' := hb s us I.kIn (by simpa using hl)
  rw [List.append_nil] at hb'
  refine wpAny_call (codeAny_mono (F.run X.A X.stack s H ⟨us, []⟩ us vs Q (xk σ) hr I.env0 hb' r h) fun r s' hq => ?_)
  cases r with
  | error e => exact I.raised hex ac hq
  | ok fl =>
    cases fl with
    | ret u => exact I.after hq
    | next => exact False.elim hq
    | brk => exact False.elim hq
    | cont => exact False.elim hq
def tCallX (xk : XS) (sp : Sp) (t : TA) : TE := fun σ H Q => t σ H fun vs H1 => sp vs H1 Q (xk σ)
theorem pe_callX (hex : X.ex = []) (ac : Acc X xk) (F : FnOk X.prog X.w X.K X.mg X.base (CX1 X.prog X.w) k f fd ps sp) (hr : Room k X.A) (hg : Gl X x) (hm : X.mg x = some (.ref f)) (hk : PySem.W.keepIn X.K (.ref f) = true) (hb : Binds X.K fd ps [])
    (ha : PA X (e :: es) t) (hdb : (x == ("__debug__" : Str)) = false := by decide) (he : starEach (e :: es) X.env = (false, eval e X.env) :: starEach es X.env := by rfl) (hpl : (backTo pos (starEach es X.env)).any (·.1) = false := by rfl) :
    PE X (.Call (.Name x p) (e :: es) [] pos) (tCallX xk sp t) := by
  (try refine ⟨?_⟩); intro pins s σ H Q I h
  refine wpAny_Call_Name_kw (ld_glob I hg hm ?_ hdb)
  refine PySem.W.callWith_K (h₀ := X.base) I.ok.mod.kin hk (thn (ha pos pins s σ H _ I h) fun us s1 ⟨vs, H1, I1, r, q⟩ => ⟨I1.kIn, ?_⟩) he hpl
  exact run_fnX F hr hb hex ac I1 r q
end
abbrev bmV : List Value := [.type "ValueError", .type "Exception", .type "BaseException", .type "object"]
def xcIn (K : PySem.W.Frag) (C : Addr) (bm : List Value) (ini : Option Value) : Bool := match K.lookup C with
  | some ⟨.type "type", _, .cls cd, sl⟩ => (match cd.mro, sl.toList with
    | .ref C' :: bm', [_, _, _, _, some (.builtin n), _] => C' == C && n == "ValueError.__new__" && !cd.hasDel && bm' == bm && PySem.W.tailIn K bmV bm && PySem.W.nsOkIn K cd.ns && PySem.W.nsIn K cd.ns "__init__" == some ini
    | _, _ => false)
  | _ => false
def XObj (h : Heap) (C : Addr) (bm : List Value) (ini : Option Value) : Prop := ∃ N nm q bs hdct sn sub ab col dd k0 k1 k2 k3 k5 mN, h.get? C = some (excClassObj nm q C N bs bm hdct sn sub ab col dd k0 k1 k2 k3 k5 "ValueError.__new__") ∧ h.Ns N mN ∧ mN "__init__" = ini ∧ OwnTail h bmV bm
theorem nsMap_some_of_in {K : PySem.W.Frag} {h : Heap} {N : Addr} {mg : Str → Option Value} {n : Str} {v : Value} (X : K.In h) (G : h.Ns N mg) (e : PySem.W.nsIn K N n = some (some v)) : mg n = some v := by
  obtain ⟨o, es, ep, ho, hd, _, hf⟩ := G
  unfold PySem.W.nsIn at e
  split at e
  · rename_i c d es' n' sl q
    have := X _ _ q
    rw [ho] at this
    cases this
    cases hd
    split at e
    · rename_i w he
      cases e
      rw [← hf]
      unfold nsFind findBy
      rw [← Array.find?_toList, he]
      rfl
    · split at e <;> cases e
  · cases e
theorem xobj_of {K : PySem.W.Frag} {h : Heap} {C : Addr} {bm : List Value} {ini : Option Value} (X : K.In h) (q : xcIn K C bm ini = true) : XObj h C bm ini := by
  unfold xcIn at q
  split at q
  · rename_i dd cd sl ho
    split at q
    · rename_i C' bm' k0 k1 k2 k3 n k5 hm hs
      simp only [Bool.and_eq_true, beq_iff_eq, Bool.not_eq_true'] at q
      obtain ⟨⟨⟨⟨⟨⟨rfl, rfl⟩, hdel⟩, rfl⟩, ht⟩, hok⟩, hni⟩ := q
      obtain ⟨nm, bs, mro, ns, qn, hd, sn, sub, ab, col, del⟩ := cd
      dsimp only at hm hdel hok hni
      subst hm hdel
      have hsl : sl = #[k0, k1, k2, k3, some (.builtin "ValueError.__new__"), k5] := by
        obtain ⟨l⟩ := sl
        simp only at hs
        rw [hs]
      subst hsl
      refine ⟨ns, nm, qn, bs, hd, sn, sub, ab, col, dd, k0, k1, k2, k3, k5, _, X _ _ ho, .of_isNs (PySem.W.isNs_of_in X hok), ?_, PySem.W.tail_of_in X ht⟩
      cases ini with
      | none => exact PySem.W.nsMap_none_of_in X hok hni
      | some v => exact nsMap_some_of_in X (.of_isNs (PySem.W.isNs_of_in X hok)) hni
    · cases q
  · cases q
theorem tail_base {h : Heap} {bm : List Value} (T : OwnTail h bmV bm) : bm.contains (.type "BaseException") = true := T.hasType (by decide)
section
variable {X : Cx} {pins : List (Addr × Obj)} {σ : St} {H : Hp} {s : Shared} {xk : XS}
variable {x : Str} {C : Addr} {bm : List Value} {e : Expr} {args : List Expr} {np cpos pos : Pos} {t : TA}
end
def excφ (e : Addr) (cls : Value) (dx : Option Addr) : Heap → Prop := fun h => ∃ vs sl, h.get? e = some { cls := cls, dict := dx, data := .fields vs, slots := sl }
abbrev Cx.tr (X : Cx) (E : Value → Shared → Prop) (p : List (Addr × Obj)) : Cx := { X with xe := E, pn := X.pn ++ p }
abbrev Cx.hand (X : Cx) (v : Value) : Cx := { X with A := X.A.mark (some v), calm := false, xe := fun _ _ => False }
def Ends.unb (D : Ends) (i : Nat) : Ends := { nx := fun σ H => D.nx (σ.set i none) H, rt := D.rt, bk := fun σ H => D.bk (σ.set i none) H, ct := fun σ H => D.ct (σ.set i none) H }
section
variable {X : Cx} {pins p : List (Addr × Obj)} {σ : St} {H : Hp} {s : Shared} {E : Value → Shared → Prop} {v : Value}
theorem Cx.Ok.tr (ok : X.Ok) : (X.tr E p).Ok := { ok with }
theorem Cx.Ok.untr (ok : (X.tr E p).Ok) : X.Ok := { ok with }
theorem Inv.tr (I : Inv X (p ++ pins) σ H s) : Inv (X.tr E p) pins σ H s := ⟨I.ok.tr, I.os, I.bare, I.base, I.loc, I.cell, I.free, I.freeC, fun q hq => I.pin q (by simpa using hq), I.hok, I.len⟩
theorem Inv.untr (I : Inv (X.tr E p) pins σ H s) : Inv X (p ++ pins) σ H s := ⟨I.ok.untr, I.os, I.bare, I.base, I.loc, I.cell, I.free, I.freeC, fun q hq => I.pin q (by simpa using hq), I.hok, I.len⟩
theorem SP.untr {D : Ends} {f : Flow} {s' : Shared} (h : SP (X.tr E p) pins D f s') : SP X (p ++ pins) D f s' := by
  cases f with
  | next => obtain ⟨σ', H', I, q⟩ := h; exact ⟨σ', H', I.untr, q⟩
  | brk => obtain ⟨σ', H', I, q⟩ := h; exact ⟨σ', H', I.untr, q⟩
  | cont => obtain ⟨σ', H', I, q⟩ := h; exact ⟨σ', H', I.untr, q⟩
  | ret u => obtain ⟨v, σ', H', I, r, q⟩ := h; exact ⟨v, σ', H', I.untr, r, q⟩
theorem Inv.drop (I : Inv X (p ++ pins) σ H s) : Inv X p σ H s := I.pins_of fun q hq => I.pin q (by simp [hq])
theorem Cx.Ok.hand (ok : X.Ok) : (X.hand v).Ok := { ok with hd := (fun z => by cases z), frames := ok.frames }
theorem Inv.hand (I : Inv X pins σ H s) : Inv (X.hand v) pins σ H s := ⟨I.ok.hand, I.os, I.bare, I.base, I.loc, I.cell, I.free, I.freeC, I.pin, I.hok, I.len⟩
theorem Inv.unhand (ok : X.Ok) (I : Inv (X.hand v) pins σ H s) : Inv X pins σ H s := ⟨ok, I.os, I.bare, I.base, I.loc, I.cell, I.free, I.freeC, I.pin, I.hok, I.len⟩
theorem PS.any {st : Stmt} {t : TS} (h : PS X.nox st t) : PS (X.tr E p) st t := ⟨fun pins s σ H D I hw =>
  wpAny_mono (h (p ++ pins) s σ H D (I.untr.wish _) hw) (fun f s' q => by
    have q := q.unwish
    cases f with
    | next => obtain ⟨σ', H', I, q⟩ := q; exact ⟨σ', H', I.tr, q⟩
    | brk => obtain ⟨σ', H', I, q⟩ := q; exact ⟨σ', H', I.tr, q⟩
    | cont => obtain ⟨σ', H', I, q⟩ := q; exact ⟨σ', H', I.tr, q⟩
    | ret u => obtain ⟨v, σ', H', I, r, q⟩ := q; exact ⟨v, σ', H', I.tr, r, q⟩) fun _ _ z => False.elim z⟩
theorem PA.any {es : List Expr} {t : TA} (h : PA X.nox es t) : PA (X.tr E p) es t := ⟨fun pos pins s σ H D I hw =>
  wpAny_mono (h pos (p ++ pins) s σ H D (I.untr.wish _) hw) (fun f s' ⟨vs, H', I', r, q⟩ => ⟨vs, H', (I'.unwish).tr, r, q⟩) fun _ _ z => False.elim z⟩
theorem PT.any {e : Expr} {t : TT} (h : PT X.nox e t) : PT (X.tr E p) e t := ⟨fun pins s σ H D I hw =>
  wpAny_mono (h (p ++ pins) s σ H D (I.untr.wish _) hw) (fun f s' ⟨H', I', q⟩ => ⟨H', (I'.unwish).tr, q⟩) fun _ _ z => False.elim z⟩
variable {e : Addr} {cls : Value} {dx T : Option Addr}
theorem Inv.track {vs : Array Value} {sl : Array (Option Value)} (I : Inv X pins σ H s) (he : s.heap.get? e = some { cls := cls, dict := dx, data := .fields vs, slots := sl }) (o : Out X pins H e) :
    Inv X pins σ (upd H e (.ext (excφ e cls dx))) s := by
  have ne : ∀ b u, H b = some u → b ≠ e := fun b u q z => by rw [z, o.unt] at q; cases q
  have up : ∀ b, b ≠ e → upd H e (.ext (excφ e cls dx)) b = H b := fun b z => by simp [upd, z]
  have old : ∀ b ob, X.s₀.heap.get? b = some ob → b ≠ e := fun b ob q z => by rw [z, o.new] at q; cases q
  refine ⟨I.ok, I.os, I.bare, ⟨I.base.keep, I.base.slot, fun b ob q n hx => (up b (old b ob q)).trans (I.base.free b ob q n hx), I.base.there, fun b xs q => ?_, fun b ob u q => ?_, fun b ps q => ?_⟩, I.loc, I.cell,
    (up _ (Ne.symm (I.fieldsNot he rfl).1)).trans I.free, fun x c q => (up _ ((I.fieldsNot he rfl).2 x c q)).trans (I.freeC x c q), fun q hq => ?_, fun b u q => ?_, I.len⟩
  · have z := I.base.tups b xs q; exact (up b (ne b _ z)).trans z
  · have z := I.base.frzs b ob u q; exact (up b (ne b _ z)).trans z
  · obtain ⟨m, z⟩ := I.base.tbls b ps q; exact ⟨m, (up b (ne b _ z)).trans z⟩
  · obtain ⟨a1, a2, a3⟩ := I.pin q hq; exact ⟨a1, (up _ (o.pin q hq)).trans a2, a3⟩
  · by_cases hb : b = e
    · subst hb
      have : u = .ext (excφ b cls dx) := by simp [upd] at q; exact q.symm
      subst this
      exact ⟨⟨vs, sl, he⟩, ⟨_, he⟩, fun h1 h2 ⟨vs', sl', q'⟩ k => ⟨vs', sl', k _ q'⟩⟩
    · rw [up b hb] at q
      exact (I.hok b u q).stay (fun _ _ _ z => z) (fun c z => (up c (ne c _ z)).trans z) fun c xs z => (up c (ne c _ z)).trans z
theorem flight_fly {M : Model} {A : Around} {t : Addr} {Q : Unit → Shared → Prop} (F : FlyO s.heap e cls dx (some t))
    (h : ∀ h', FlyO h' e cls dx (some t) → (∀ b o, b ≠ t → s.heap.get? b = some o → h'.get? b = some o) → Q () { s with heap := h' }) : wpAny M A (setFlight (.ref e) none) Q E s := by
  obtain ⟨⟨vs, sl, he, h1⟩, tb⟩ := F
  obtain ⟨hte, o, ts, ht, hd, h3⟩ := tb t rfl
  unfold setFlight
  refine wpAny_bind (wpAny_field he rfl h1 ?_)
  show wpAny M A (if (Value.ref t != Value.none) = true then _ else _) _ _ _
  rw [if_pos (show (Value.ref t != Value.none) = true from by simp)]
  refine wpAny_setField ht hd (Array.getElem?_eq_some_iff.mp h3).1 ?_
  have hsz : 3 < ts.size := (Array.getElem?_eq_some_iff.mp h3).1
  refine h _ ⟨⟨vs, sl, (Heap.get?_update_other _ _ hte).trans he, h1⟩, fun t' z => ?_⟩ fun b ob hb q => (Heap.get?_update_other _ _ (Ne.symm hb)).trans q
  cases z
  refine ⟨hte, _, _, Heap.get?_update_self _ ht (Obj.isFreed_of_fields (Obj.data_mapFields hd _)), Obj.data_mapFields hd _, ?_⟩
  show (ts.setIfInBounds 3 ((none : Option Addr).elim Value.none fun f => rawInt f))[3]? = _
  simp [hsz]
theorem Inv.goes {h' : Heap} {m : Str → Option Value} {w : Option Value} {n : Str} {i t' : Nat} (I : Inv X pins σ H s) (hN : X.N.Nodup) (hi : X.N[i]? = some n)
    (hl : ∀ (i : Nat) (x : Str) (v : V), X.N[i]? = some x → σ[i]? = some (some v) → Vis X.env.scope x → ∃ u, RelV v u ∧ Look X.env s.heap m x u) (hn : s.heap.Ns X.env.locals m)
    (hn' : h'.Ns X.env.locals (fun x => if x = n then w else m x)) (hs : Heap.SameBut X.env.locals s.heap h') : Inv X pins (σ.set i none) H { s with heap := h', toks := t' } := by
  have oth : ∀ b o, X.s₀.heap.get? b = some o → b ≠ X.env.locals := fun b o e => Nat.ne_of_lt (Nat.lt_of_lt_of_le (Heap.lt_size e) I.ok.above)
  refine ⟨I.ok, I.os, I.bare, ⟨fun b o e n hb hx => (hs.2 b (oth b o e)).trans (I.base.keep b o e n hb hx), fun b o e n hb hx => ?_, I.base.free, fun b o e hx => ?_, I.base.tups, I.base.frzs, I.base.tbls⟩, ⟨_, hn', fun j y v' e1 e2 e3 => ?_⟩, fun y c e => ?_, I.free, I.freeC, fun q hq => ?_, fun b u q => ?_, by simpa using I.len⟩
  · obtain ⟨sl, e1⟩ := I.base.slot b o e n hb hx
    exact ⟨sl, (hs.2 b (oth b o e)).trans e1⟩
  · obtain ⟨o', e1⟩ := I.base.there b o e hx
    exact ⟨o', (hs.2 b (oth b o e)).trans e1⟩
  · by_cases hj : j = i
    · subst hj
      have : j < σ.length := by rw [I.len]; exact (List.getElem?_eq_some_iff.mp hi).1
      rw [List.getElem?_set_self this] at e2; cases e2
    · rw [List.getElem?_set_ne (Ne.symm hj)] at e2
      obtain ⟨u', r', q⟩ := hl j y v' e1 e2 e3
      refine ⟨u', r', ?_⟩
      rcases q with ⟨k, e⟩ | ⟨k, c, e, z⟩
      · refine .inl ⟨k, ?_⟩
        have : y ≠ n := fun e => hj (nodup_ix hN e1 (e ▸ hi))
        simp [this, e]
      · exact .inr ⟨k, c, e, z.sameBut hs (I.cne y c e)⟩
  · obtain ⟨w', z⟩ := I.cell y c e
    exact ⟨w', z.sameBut hs (I.cne y c e)⟩
  · obtain ⟨e, n, ne, nf, d⟩ := I.pin q hq
    exact ⟨(hs.2 q.1 ne).trans e, n, ne, nf, d⟩
  · refine (I.hok b u q).stay (fun c w' hc z => (hs.2 c ?_).trans z) (fun _ z => z) fun _ _ z => z
    rintro rfl
    rcases hc with rfl | hc
    · rw [I.free] at q; cases q
    · rw [I.free] at hc; cases hc
theorem excMatches_own {M : Model} {A : Around} {C D0 : Addr} {bm bmD : List Value} {ini iniD : Option Value} {oe : Obj} {Q : Bool → Shared → Prop} (hC : XObj s.heap C bm ini) (hD : XObj s.heap D0 bmD iniD) (he : s.heap.get? e = some oe) (hcls : oe.cls = .ref C)
    (hq : Q ((Value.ref C :: bm).contains (.ref D0)) s) : wpAny M A (excMatches (.ref e) (.ref D0)) Q E s := by
  obtain ⟨N, nm, q, bs, hdct, sn, sub, ab, col, dd, k0, k1, k2, k3, k5, mN, hC, hN, hni, T⟩ := hC
  obtain ⟨N', nm', q', bs', hdct', sn', sub', ab', col', dd', k0', k1', k2', k3', k5', mN', hD, hN', hni', T'⟩ := hD
  obtain ⟨h, g, d, t, os⟩ := s
  have hbD : (Value.ref D0 :: bmD).contains (.type "BaseException") = true := by rw [List.contains_cons, tail_base T', Bool.or_true]
  have f := tc_notTuple
  generalize hb : (Value.ref C :: bm).contains (.ref D0) = b at hq
  unfold excMatches
  repeat (first | (with_reducible refine wpAny_loadPart_at he ?_; rw [hcls]) | with_reducible refine wpAny_loadPart_at hD ?_ | (with_reducible refine wpAny_isSubtype_exc hD ?_; rw [hbD]) | (with_reducible refine wpAny_isSubtype_exc hC ?_; rw [hb]) | wp_step)
  cases b <;> (wp_walk; exact hq)
theorem goes_ok {A : Around} {D : Ends} {n : Str} {i : Nat} {f : Flow} {s' : Shared} {npos : Pos} (ok : X.Ok) (hN : X.N.Nodup) (hi : X.N[i]? = some n) (hl : X.env.kindOf n = some .local) (h : SP (X.hand v) pins (D.unb i) f s') :
    wpAny (model X.prog X.w) A (do bindName X.env n .none; unbindBehindTheSuite X.env n npos) (fun _ s5 => SP X pins D f s5) E s' := by
  have hcls : (X.env.scope.kind == .class || (X.env.scope.kind == .module && X.env.locals != X.env.globals)) = false := by rw [ok.kind]; rfl
  have main : ∀ σ' H', Inv (X.hand v) pins σ' H' s' → (∀ s5, Inv X pins (σ'.set i none) H' s5 → SP X pins D f s5) → wpAny (model X.prog X.w) A (do bindName X.env n .none; unbindBehindTheSuite X.env n npos) (fun _ s5 => SP X pins D f s5) E s' := fun σ' H' J k => by
    have J := J.unhand ok
    obtain ⟨m, hn, hll⟩ := id J.loc
    exact wpAny_nameGoes_keeps hl hn hcls fun h' w hn' hs => k _ (J.goes hN hi hll hn hn' hs)
  cases f with
  | next => obtain ⟨σ', H', J, q⟩ := h; exact main σ' H' J fun s5 J5 => ⟨_, H', J5, q⟩
  | brk => obtain ⟨σ', H', J, q⟩ := h; exact main σ' H' J fun s5 J5 => ⟨_, H', J5, q⟩
  | cont => obtain ⟨σ', H', J, q⟩ := h; exact main σ' H' J fun s5 J5 => ⟨_, H', J5, q⟩
  | ret u => obtain ⟨v', σ', H', J, r, q⟩ := h; exact main σ' H' J fun s5 J5 => ⟨v', _, H', J5, r, q⟩
variable {x n : Str} {i : Nat} {C D0 : Addr} {bm bmD : List Value} {ini iniD : Option Value} {b0 : Stmt} {suite : List Stmt} {np npos : Pos} {ts : TS} {D : Ends} {t : Addr}
theorem handle_as (hN : X.N.Nodup) (hi : X.N[i]? = some n) (hl : X.env.kindOf n = some .local) (hg : Gl X x) (hm : X.mg x = some (.ref D0)) (hD : xcIn X.K D0 bmD iniD = true) (hC : xcIn X.K C bm ini = true)
    (hsub : (Value.ref C :: bm).contains (.ref D0) = true) (hs : PSs (X.hand (.ref e)) (b0 :: suite) ts) (I : Inv X pins σ H s) (F : FlyO s.heap e (.ref C) dx (some t)) (oe : Out X pins H e) (ot : Out X pins H t) (ht : X.s₀.heap.objs.size ≤ t)
    (q : ts (D.unb i) (σ.set i (some (.ref e))) (upd H e (.ext (excφ e (.ref C) dx)))) (hdb : (x == ("__debug__" : Str)) = false := by decide) :
    wpAny (model X.prog X.w) X.A (handleBy (.ref e) X.env [.ExceptHandler (some (.Name x np)) (some n) (b0 :: suite) npos]) (SP X pins D) X.xe s := by
  refine wpAny_handleBy_cons (codeAny_handlers_test (ld_glob (X := X.hand (.ref e)) I.hand hg hm ?_ hdb)) (by intro q; cases q)
  obtain ⟨⟨vs, sl, he, h1⟩, tb⟩ := id F
  refine excMatches_own (xobj_of I.kIn hC) (xobj_of I.kIn hD) he rfl ?_
  rw [hsub]
  refine codeAny_handlers_suite_as (flight_fly F fun h' F' k => ?_)
  obtain ⟨hte, o', ts', ht', hd', _⟩ := tb t rfl
  have I2 : Inv X pins σ H { s with heap := h' } := I.turned (t' := s.toks) k ot.unt (I.fieldsNot ht' hd').1 (.inr ht) (I.fieldsNot ht' hd').2 ot.pin
  obtain ⟨vs2, sl2, he2, _⟩ := F'.ex
  have I3 := I2.track he2 oe
  refine store_ok (X := X.hand (.ref e)) I3.hand hN hi (.inl hl) (v := .ref e) rfl (fun s3 I4 => ?_) (.inr hl)
  refine wpAny_mono (hs pins s3 _ _ _ I4 q) (fun f s4 h4 => ?_) fun _ _ z => False.elim z
  exact goes_ok I.ok hN hi hl h4
def tTry (i : Nat) (okc : Value → Prop) (tb : XS → TS) (ts : Addr → TS) : TS := fun D σ H => tb (fun σ' cls dx H' => okc cls ∧ ∀ ea, H' ea = none → ts ea (D.unb i) (σ'.set i (some (.ref ea))) (upd H' ea (.ext (excφ ea cls dx)))) D σ H
def Caught (K : PySem.W.Frag) (D0 : Addr) (cls : Value) : Prop := ∃ C bm ini, cls = .ref C ∧ xcIn K C bm ini = true ∧ (Value.ref C :: bm).contains (.ref D0) = true
theorem ps_try {body : List Stmt} {pos : Pos} {tb : XS → TS} {ts : Addr → TS} (hst : X.stack = X.env :: X.outer) (hf : X.env.frame = some X.env.locals) (hN : X.N.Nodup) (hi : X.N[i]? = some n) (hl : X.env.kindOf n = some .local) (hg : Gl X x) (hm : X.mg x = some (.ref D0)) (hD : xcIn X.K D0 bmD iniD = true)
    (hb : ∀ E p xk, PassesOwn (model X.prog X.w) X.A X.env E → Acc (X.tr E p) xk → PSs (X.tr E p) body (tb xk)) (hs : ∀ ea, PSs (X.hand (.ref ea)) (b0 :: suite) (ts ea)) (hdb : (x == ("__debug__" : Str)) = false := by decide) :
    PS X (.Try body [.ExceptHandler (some (.Name x np)) (some n) (b0 :: suite) npos] [] [] pos) (tTry i (Caught X.K D0) tb ts) := by
  refine ⟨fun pins s σ H D I h => ?_⟩
  refine wpAny_Try_except ?_
  have ac : Acc (X.tr (fun e s₁ => wpAny (model X.prog X.w) X.A (noteFrame e X.env) (fun _ s₂ => wpAny (model X.prog X.w) X.A (setFlight e none) (fun _ s₃ =>
      wpAny (model X.prog X.w) X.A (handleBy e X.env [.ExceptHandler (some (.Name x np)) (some n) (b0 :: suite) npos]) (SP X pins D) X.xe s₃) X.xe s₂) X.xe s₁) pins)
      (fun σ' cls dx H' => Caught X.K D0 cls ∧ ∀ ea, H' ea = none → ts ea (D.unb i) (σ'.set i (some (.ref ea))) (upd H' ea (.ext (excφ ea cls dx)))) := by
    refine ⟨fun pins' σ' H' s' ea cls dx J fl ⟨⟨C, bm, ini, hc, hC, hsub⟩, hk⟩ => ?_⟩
    subst hc
    obtain ⟨T, flo, oe, ot⟩ := fl.go
    have J := J.untr.drop
    have oe : Out X pins H' ea := ⟨oe.new, oe.unt, fun q hq => oe.pin q (List.mem_append_left _ hq)⟩
    have ot : ∀ t, T = some t → Out X pins H' t := fun t z => ⟨(ot t z).new, (ot t z).unt, fun q hq => (ot t z).pin q (List.mem_append_left _ hq)⟩
    show wpAny _ _ (noteFrame (.ref ea) X.env) _ _ s'
    refine note_fly (base := X.base) (outer := X.outer) (L := X.env.locals) (T := T) (by rw [← hst]; exact J.ok.frames) (by rw [← hst]; exact J.stack) hf flo fun h' hs' t' ht fl' kb there => ?_
    obtain ⟨J2, fl2⟩ := J.noted hst flo oe ot hs' ht fl' kb there
    have hsz : X.s₀.heap.objs.size ≤ t' := Nat.le_trans J.sz ht
    exact handle_as hN hi hl hg hm hD hC hsub (hs _) J2 fl' oe ⟨Heap.get?_none_of_le hsz, J.hok.fresh ht, J.pinNo (Heap.get?_none_of_le ht)⟩ hsz (hk ea oe.unt) hdb
  refine wpAny_mono (hb _ pins _ PassesOwn.looking ac [] s σ H D (Inv.tr (by simpa using I)) h) (fun f s' q => ?_) fun e s' q => q
  have q := q.untr
  rw [List.append_nil] at q
  cases f with
  | next => exact wpAny_execs_nil q
  | ret v => exact q
  | brk => exact q
  | cont => exact q
end
theorem call_frame {C : Ctx} {ow : List Bool} {G : Hp} {ρ : DSt} {σ : St} {H : Hp} {pd T : List (D × V)} {ks : List AK} {ds ds' : List D} {vs : List V}
    (hn : C.np ≤ pd.length) (r : R C ow G ρ σ H (T.reverse ++ pd)) (ha : ArgsK G σ ks ds vs T) (hf : fillA ks ds ρ = some ds') (nd : (slotsOf ks).Nodup) (hw : ∀ i ∈ slotsOf ks, ow[i]? = some true) :
    ∃ C' : Ctx, C'.np = 0 ∧ C'.mu = msV (ks.map AK.isM) vs ∧ R C' (ks.map AK.isM) G (ds'.map some) (vs.map some) H [] ∧ (ks.map AK.isM).length = ds'.length ∧
      ∀ (fr : Bool) d ρ2 σ2 v G2 H2, Same G G2 → ρ2.length = (ks.map AK.isM).length → Ret fr C' (ks.map AK.isM) G2 ρ2 σ2 H2 d v → Kp ow ρ (putK ks (mus (ks.map AK.isM) ρ2) ρ) ∧
        (if fr = true then R C ow G2 (putK ks (mus (ks.map AK.isM) ρ2) ρ) σ H2 ((d, v) :: pd) else R C ow G2 (putK ks (mus (ks.map AK.isM) ρ2) ρ) σ H2 pd ∧ Rep G2 d v) := by
  obtain ⟨O, ro⟩ := r
  have pn := ro.pn
  obtain ⟨l1, l2, hat⟩ := args_at (O := O) (H := H) (r := pd.length) ha hf (fun j x e => pend_at pn e) (fun i hi d e => by
    obtain ⟨v, h1, h2⟩ := ro.sl i d e; rw [if_pos (hw i hi)] at h2; exact ⟨v, h1, h2⟩)
  let lb := lbs ks pd.length
  let fin : Nat → Option Nat := fun l => (fnd l lb 0).map (2 * ·)
  let fbk : Nat → Option Nat := fun l => if l = 1 then some (2 * pd.length + 1) else if l % 2 = 0 then (match lb[l / 2]? with | some o => o | none => none) else none
  have uq := lbs_uniq (ks := ks) (r := pd.length) nd
  have fin_at : ∀ (i l : Nat), lb[i]? = some (some l) → fin l = some (2 * i) := fun i l e => by
    show (fnd l lb 0).map _ = _
    rw [fnd_at uq e]; simp
  have fin_of : ∀ l l', fin l = some l' → ∃ i, l' = 2 * i ∧ lb[i]? = some (some l) := fun l l' e => by
    change (fnd l lb 0).map _ = _ at e
    cases z : fnd l lb 0 with
    | none => rw [z] at e; cases e
    | some j => rw [z] at e; cases e; obtain ⟨i, rfl, e2⟩ := fnd_of z; exact ⟨i, by show 2 * (0 + i) = 2 * i; omega, e2⟩
  have fin_none : ∀ l, (∀ i : Nat, lb[i]? ≠ some (some l)) → fin l = none := fun l e => by
    show (fnd l lb 0).map _ = _
    rw [fnd_none e]; rfl
  have ri := ro.into (mu := ks.map AK.isM) (fin := fin) (ds := ds') (vs := vs) l1 (fun j d e => by
    obtain ⟨v, h1, h2⟩ := hat j d e
    refine ⟨v, h1, ?_⟩
    rcases h2 with ⟨l, h2, h3, h4⟩ | ⟨h2, h3⟩
    · rw [if_pos h3]; exact ⟨l, h4, fin_at j l h2⟩
    · rw [if_neg (by rw [h2]; decide)]; exact h3) (fun l l' e => by
    obtain ⟨i, rfl, e2⟩ := fin_of l l' e
    exact ⟨i, rfl, lbs_isM e2, by have := (List.getElem?_eq_some_iff.mp (lbs_isM e2)).1; rw [List.length_map] at this; omega⟩)
  refine ⟨_, rfl, rfl, ⟨_, ri⟩, by rw [List.length_map, l1, l2], ?_⟩
  intro fr d ρ2 σ2 v G2 H2 z hl hr
  rw [List.length_map] at hl
  rw [putK_eq hl]
  have out : ∀ (pd2 pd3 : List (D × V)) (O2 : Own), RO ⟨G, H, ownM fin O, msV (ks.map AK.isM) vs, 0⟩ (ks.map AK.isM) G2 ρ2 σ2 H2 pd2 O2 → C.np ≤ pd3.length →
      (∀ (O3 : Own), (∀ a l π, O a = some (l, π) → fin l = none → O3 a = some (l, π) ∧ H2 a = H a) → (∀ a l l' π, O2 a = some (l', π) → fbk l' = some l → O3 a = some (l, π)) → TSame G G2 → Pend G2 H2 O3 pd3) →
      RO C ow G2 (putR ks ρ2 ρ) σ H2 pd3 (ownB fin fbk O O2) := fun pd2 pd3 O2 r2 hn3 hP => by
    refine ro.out (vs := vs) r2 ?_ (by rw [putR_len]; exact ro.len) hn3 ?_ ?_ hP
    · intro l0 l' l e1 e2
      obtain ⟨i, rfl, e3⟩ := fin_of l0 l' e1
      change (if 2 * i = 1 then _ else if 2 * i % 2 = 0 then _ else _) = _ at e2
      rw [if_neg (by omega), if_pos (by omega), show 2 * i / 2 = i by omega, e3] at e2
      exact (Option.some.inj e2).symm
    · intro i d c e
      rcases putR_at e hl with ⟨_, h2⟩ | ⟨k, h1, _⟩
      · exact h2
      · exact absurd (hw i (slot_of h1)) c
    · intro i d c e
      rcases putR_at e hl with ⟨h1, h2⟩ | ⟨j, h1, h2⟩
      · refine .inl ⟨fin_none _ fun j e => ?_, h2⟩
        rcases lbs_odd e with ⟨z, h3, h4⟩ | ⟨z, h3, h4⟩
        · exact h1 (by rw [show i = z by omega]; exact h3)
        · omega
      · obtain ⟨u, g1, g2⟩ := args_slot ha h1
        have im : (ks.map AK.isM)[j]? = some true := by rw [List.getElem?_map, h1]; rfl
        refine .inr ⟨j, u, ?_, im, h2, g2, r2.mp j u (msV_at im g1)⟩
        show (if 2 * j = 1 then _ else if 2 * j % 2 = 0 then _ else _) = _
        rw [if_neg (by omega), if_pos (by omega), show 2 * j / 2 = j by omega, lbs_m h1]
  have pdk : ∀ (O3 : Own), (∀ a l π, O a = some (l, π) → fin l = none → O3 a = some (l, π) ∧ H2 a = H a) → TSame G G2 → Pend G2 H2 O3 pd := fun O3 h1 ts =>
    Pend.keep ts (fun a j π hj e => h1 a _ _ e (fin_none _ fun i e => by
      rcases lbs_odd e with ⟨z, h3, h4⟩ | ⟨z, h3, h4⟩ <;> omega)) (pend_tail (T := T.reverse) pn)
  have kp : Kp ow ρ (putR ks ρ2 ρ) := fun j hj => putR_off fun hs => hj (hw j hs)
  refine ⟨kp, ?_⟩
  unfold Ret at hr
  split at hr
  · rename_i c
    rw [if_pos c]
    obtain ⟨O2, r2⟩ := hr
    refine ⟨_, out _ ((d, v) :: pd) O2 r2 (Nat.le_succ_of_le hn) fun O3 h1 h2 ts => ⟨?_, pdk O3 h1 ts⟩⟩
    exact r2.pn.1.keep (fun _ _ z => z) fun a τ e => ⟨h2 a _ _ _ e (by show (if 2 * 0 + 1 = 1 then _ else _) = _; rw [if_pos rfl]), rfl⟩
  · rename_i c
    rw [if_neg c]
    obtain ⟨⟨O2, r2⟩, p⟩ := hr
    exact ⟨⟨_, out _ pd O2 r2 hn fun O3 h1 h2 ts => pdk O3 h1 ts⟩, p⟩
def XRep (H : Hp) (ns : List Str) (ds : List D) : Option Addr → Prop
  | none => ns = [] ∧ ds = []
  | some d => ∃ xs, H d = some (.xd (ns.zip xs)) ∧ xs.length = ns.length ∧ Reps H ds xs
theorem XRep.mono {H H' : Hp} {ns : List Str} {ds : List D} {dx : Option Addr} (s : Same H H') (h : XRep H ns ds dx) : XRep H' ns ds dx := by
  cases dx with
  | none => exact h
  | some d => obtain ⟨xs, h1, h2, h3⟩ := h; exact ⟨xs, s _ _ h1, h2, Reps.mono s _ _ h3⟩
abbrev XD := Addr → List Str → List D → DSt → Prop
abbrev SpX := List D → (D → DSt → Prop) → XD → Prop
def spOfX (mu : List Bool) (fr : Bool) (sd : SpX) : Sp := fun vs H Q E => ∃ (C : Ctx) (G : Hp) (ds : List D) (q : D → DSt → Prop) (qx : XD), C.np = 0 ∧ C.mu = msV mu vs ∧ R C mu G (ds.map some) (vs.map some) H [] ∧ sd ds q qx ∧ mu.length = ds.length ∧
  (∀ d ρ' σ' v G' H', q d (mus mu ρ') → Same G G' → ρ'.length = mu.length → Ret fr C mu G' ρ' σ' H' d v → Q v H') ∧
  (∀ c ns es ρ' σ' dx G' H', qx c ns es (mus mu ρ') → Same G G' → ρ'.length = mu.length → R C mu G' ρ' σ' H' [] → XRep G' ns es dx → E (.ref c) dx H')
theorem run_callX {C : Ctx} {ow : List Bool} {G : Hp} {ρ : DSt} {σ : St} {H : Hp} {pd T : List (D × V)} {ks : List AK} {ds ds' : List D} {vs : List V} {fr : Bool} {sd : SpX} {q : D → DSt → Prop} {qx : XD} {Q : VK} {E : XK}
    (hn : C.np ≤ pd.length) (r : R C ow G ρ σ H (T.reverse ++ pd)) (ha : ArgsK G σ ks ds vs T) (hf : fillA ks ds ρ = some ds') (nd : (slotsOf ks).Nodup) (hw : ∀ i ∈ slotsOf ks, ow[i]? = some true)
    (h : sd ds' (fun d os => q d (putK ks os ρ)) fun c ns es os => qx c ns es (putK ks os ρ))
    (k : ∀ d ρ' v G' H', q d ρ' → Same G G' → Kp ow ρ ρ' → (if fr = true then R C ow G' ρ' σ H' ((d, v) :: pd) else R C ow G' ρ' σ H' pd ∧ Rep G' d v) → Q v H')
    (kx : ∀ c ns es ρ' dx G' H', qx c ns es ρ' → Same G G' → Kp ow ρ ρ' → R C ow G' ρ' σ H' pd → XRep G' ns es dx → E (.ref c) dx H') : spOfX (ks.map AK.isM) fr sd vs H Q E := by
  obtain ⟨C', h1, h2, h3, h4, h5⟩ := call_frame hn r ha hf nd hw
  refine ⟨C', G, ds', _, _, h1, h2, h3, h, h4, fun d ρ' σ' v G' H' hq z hl hr => ?_, fun c ns es ρ' σ' dx G' H' hq z hl hr hx => ?_⟩
  · obtain ⟨kp, hr⟩ := h5 fr d ρ' σ' v G' H' z hl hr
    exact k d _ v G' H' hq z kp hr
  · obtain ⟨kp, hr⟩ := h5 false .non ρ' σ' .non G' H' z hl (by unfold Ret; rw [if_neg (by decide)]; exact ⟨hr, rep_non⟩)
    rw [if_neg (by decide)] at hr
    exact kx c ns es _ dx G' H' hq z kp hr.1 hx
section
variable {X : Cx} {E : Value → Shared → Prop} {p : List (Addr × Obj)}
theorem FpOk.tr {pins : List (Addr × Obj)} {H : Hp} {b : Addr} (h : FpOk X (p ++ pins) H b) : FpOk (X.tr E p) pins H b := ⟨h.1, h.2.1, h.2.2.1, h.2.2.2.1, h.2.2.2.2.1, fun q hq => h.2.2.2.2.2 q (by simpa using hq)⟩
theorem PI.any {tg iter : Expr} {wi : TI} (h : PI X.nox tg iter wi) : PI (X.tr E p) tg iter wi := ⟨fun pins s σ H R I hw =>
  wpAny_mono (h (p ++ pins) s σ H R (I.untr.wish _) hw) (fun v s1 h1 => wpAny_mono h1 (fun u s2 ⟨it, fp, tn, J, H', e, I', T, t0, f, r⟩ => ⟨it, fp, tn, J, H', e, (I'.unwish).tr, T, t0, fun b hb => FpOk.tr (f b hb), r⟩) fun _ _ z => False.elim z) fun _ _ z => False.elim z⟩
theorem PG.any {tg : Expr} {t : TG} (h : PG X.nox tg t) : PG (X.tr E p) tg t := ⟨fun pins s σ H v u Q I r hw =>
  wpAny_mono (h (p ++ pins) s σ H v u Q (I.untr.wish _) r hw) (fun _ s1 ⟨σ', H', I', q⟩ => ⟨σ', H', (I'.unwish).tr, q⟩) fun _ _ z => False.elim z⟩
end
structure KsX (C : Ctx) (ow : List Bool) (G : Hp) (pd : List (D × V)) (xx : XD) (xk : XS) : Prop where
  go : ∀ c ns es ρ σ dx G' H, xx c ns es ρ → Same G G' → R C ow G' ρ σ H pd → XRep G' ns es dx → xk σ (.ref c) dx H
theorem KsX.mono {C : Ctx} {ow : List Bool} {G G1 : Hp} {pd : List (D × V)} {xx : XD} {xk : XS} (h : KsX C ow G pd xx xk) (s : Same G G1) : KsX C ow G1 pd xx xk := ⟨fun c ns es ρ σ dx G' H a b => h.go c ns es ρ σ dx G' H a (s.trans b)⟩
abbrev MSX := XD → MS
abbrev MEX := XD → ME
def Good (X : Cx) (E : Value → Shared → Prop) (p : List (Addr × Obj)) (xk : XS) : Prop := PassesOwn (model X.prog X.w) X.A X.env E ∧ Acc (X.tr E p) xk
def SSX (M : Md) (t : XS → TS) (m : MSX) : Prop := ∀ (C : Ctx) (G : Hp) (ρ : DSt) (σ : St) (H : Hp) (n : EndsD) (D : Ends) (xx : XD) (xk : XS), MuOk C M.mu → C.np = 0 → R C M.ow G ρ σ H [] → m xx n ρ → Ks C M.ow M.fr G n D → KsX C M.ow G [] xx xk → t xk D σ H
def SEX (ow : List Bool) (t : XS → TE) (m : MEX) : Prop := ∀ (C : Ctx) (G : Hp) (ρ : DSt) (σ : St) (H : Hp) (pd : List (D × V)) (q : D → DSt → Prop) (Q : VK) (xx : XD) (xk : XS), R C ow G ρ σ H pd → m xx ρ q → KsX C ow G pd xx xk →
  (∀ d ρ' v G' H', q d ρ' → Same G G' → Kp ow ρ ρ' → R C ow G' ρ' σ H' pd → Rep G' d v → Q v H') → t xk σ H Q
structure QX (X : Cx) (M : Md) (st : Stmt) (m : MSX) : Prop where
  ex : ∃ t, (∀ E p xk, Good X E p xk → PS (X.tr E p) st (t xk)) ∧ SSX M t m
structure QXs (X : Cx) (M : Md) (st : List Stmt) (m : MSX) : Prop where
  ex : ∃ t, (∀ E p xk, Good X E p xk → PSs (X.tr E p) st (t xk)) ∧ SSX M t m
structure QXE (X : Cx) (ow : List Bool) (e : Expr) (m : MEX) : Prop where
  ex : ∃ t, (∀ E p xk, Good X E p xk → PE (X.tr E p) e (t xk)) ∧ SEX ow t m
section
variable {X : Cx} {M : Md} {a b c e : Expr} {mt : MT} {pos pos' : Pos} {st : Stmt} {rest : List Stmt} {m : MS} {m1 m2 : MSX} {mex : MEX}
theorem qx_of (h : QS X.nox M st m) : QX X M st (fun _ => m) := by
  obtain ⟨t, p, s⟩ := h
  exact ⟨fun _ => t, fun E q xk g => PS.any p, fun C G ρ σ H n D xx xk hm hn r h k kx => s C G ρ σ H n D hm hn r h k⟩
theorem qxs_nil : QXs X M [] (fun _ => mNext) := ⟨fun _ => _, fun E q xk g => pss_nil, fun C G ρ σ H n D xx xk hm hn r h k kx => k.nx ρ σ G H h (Same.refl _) r⟩
theorem qxs_one (h : QX X M st m1) : QXs X M [st] m1 := by obtain ⟨t, p, s⟩ := h; exact ⟨_, fun E q xk g => pss_one (p E q xk g), s⟩
theorem qxs_cons (h : QX X M st m1) (h2 : QXs X M rest m2) : QXs X M (st :: rest) (fun xx => mSeq (m1 xx) (m2 xx)) := by
  obtain ⟨t, p, s⟩ := h; obtain ⟨t2, p2, s2⟩ := h2
  refine ⟨fun xk => tSeq (t xk) (t2 xk), fun E q xk g => pss_cons (p E q xk g) (p2 E q xk g), fun C G ρ σ H n D xx xk hm hn r h k kx => s C G ρ σ H _ _ xx xk hm hn r h ?_ kx⟩
  exact ⟨fun ρ' σ' G' H' h' z r' => s2 C G' ρ' σ' H' n D xx xk hm hn r' h' (k.mono z) (kx.mono z), k.bk, k.ct, k.rt⟩
theorem qx_if {s1 s2 : List Stmt} (h : QT X.nox M.ow c mt) (h1 : QXs X M s1 m1) (h2 : QXs X M s2 m2) : QX X M (.If c s1 s2 pos) (fun xx => mIfS mt (m1 xx) (m2 xx)) := by
  obtain ⟨t, p, s⟩ := h; obtain ⟨t1, p1, s1⟩ := h1; obtain ⟨t2, p2, s2⟩ := h2
  refine ⟨fun xk => tIfS t (t1 xk) (t2 xk), fun E q xk g => ps_if (PT.any p) (p1 E q xk g) (p2 E q xk g), fun C G ρ σ H n D xx xk hm hn r h k kx => s C G ρ σ H [] _ _ r h fun b ρ' G' H' hq z kp r' => ?_⟩
  cases b with
  | true => rw [if_pos rfl] at hq ⊢; exact s1 C G' ρ' σ H' n D xx xk hm hn r' hq (k.mono z) (kx.mono z)
  | false => rw [if_neg (by decide)] at hq ⊢; exact s2 C G' ρ' σ H' n D xx xk hm hn r' hq (k.mono z) (kx.mono z)
theorem qx_drop (h : QXE X M.ow e mex) (hs : swapsWith e none pos.line X.env = pure false := by rfl) : QX X M (.Expr e pos) (fun xx => mDrop (mex xx)) := by
  obtain ⟨t, p, s⟩ := h
  exact ⟨fun xk => tDrop (t xk), fun E q xk g => ps_expr (p E q xk g) hs, fun C G ρ σ H n D xx xk hm hn r h k kx => s C G ρ σ H [] _ _ xx xk r h kx fun d ρ' v G' H' hq z kp r' p => k.nx ρ' σ G' H' hq z r'⟩
theorem qx_set {i : Nat} {x : Str} (hN : X.N.Nodup) (hi : X.N[i]? = some x) (hx : Loc X.env.scope x) (he : QXE X M.ow e mex) (ho : M.ow[i]? ≠ some true := by decide) (hu : M.mu[i]? ≠ some true := by decide) (hs : swapsWith e (some (.Name x pos')) pos.line X.env = pure false := by rfl) (hf : X.fn x = true ∨ X.env.scope.names.lookup x = some .local := by first | exact .inl rfl | exact .inr rfl | assumption) :
    QX X M (.Assign [.Name x pos'] e pos) (fun xx => mSet i (mex xx)) := by
  obtain ⟨t, p, s⟩ := he
  refine ⟨fun xk => tAsg (t xk) (gName i), fun E q xk g => ps_set hN hi hx (p E q xk g) hs hf, fun C G ρ σ H n D xx xk hm hn r h k kx => s C G ρ σ H [] _ _ xx xk r h kx fun d ρ' v G' H' hq z kp r' p => ?_⟩
  obtain ⟨O, r'⟩ := r'
  exact k.nx _ _ G' H' hq z ⟨O, r'.setS ho (hm.no hu) p⟩
variable {mg : MG}
theorem qx_for {mi : MA} {tg iter : Expr} {body : List Stmt} (hc : X.calm = true) (hi : QI X.nox M.ow tg iter mi) (hg : QG X.nox M tg mg) (hb : QXs X M body m1)
    (hs : ∀ x, foldedSetIterable iter X.env x = pure x := by intro _; rfl) : QX X M (.For tg iter body [] pos) (fun xx => mFor mi mg (m1 xx)) := by
  obtain ⟨ti, pi, si⟩ := hi; obtain ⟨tg', pg, sg⟩ := hg; obtain ⟨tb, pb, sb⟩ := hb
  refine ⟨fun xk => tFor ti tg' (tb xk), fun E q xk g => ps_for g.1 hc (PI.any pi) (PG.any pg) (pb E q xk g) hs, fun C G ρ σ H n D xx xk hm hn r h k kx => si C G ρ σ H [] _ _ r h fun ds ρ0 G0 H0 J hq z0 kp r0 jo => ?_⟩
  obtain ⟨I, i0, turn, fin⟩ := hq
  refine ⟨fun i j σ' H' => j = ds.length - i ∧ i ≤ ds.length ∧ ∃ G' ρ', Same G0 G' ∧ R C M.ow G' ρ' σ' H' [] ∧ I i ρ', ⟨_, rfl, Nat.zero_le _, G0, ρ0, Same.refl _, r0, i0⟩, ?_⟩
  rintro i j σ' H' ⟨rfl, hi, G', ρ', z, r', w⟩
  obtain ⟨st, go⟩ := jo C M.ow G' ρ' σ' H' [] i z r'
  by_cases hlt : i < ds.length
  · obtain ⟨g1, g2⟩ := go ds[i] (List.getElem?_eq_getElem hlt)
    refine .inr ⟨g1, fun σ2 H2 => ∃ G2 ρ2, Same G0 G2 ∧ R C M.ow G2 ρ2 σ2 H2 [] ∧ I (i + 1) ρ2, fun σ2 H2 h => ⟨ds.length - (i + 1), by omega, rfl, hlt, h⟩, fun x H1 hy => ?_⟩
    obtain ⟨G1, z1, r1, p1⟩ := g2 x H1 hy
    refine sg C G1 ρ' σ' H1 [] ds[i] x _ _ hm r1 p1 (turn i ds[i] ρ' (List.getElem?_eq_getElem hlt) w) fun ρ2 σ2 h2 r2 => ?_
    refine sb C G1 ρ2 σ2 H1 _ _ xx xk hm hn r2 h2 ⟨?_, ?_, ?_, ?_⟩ (kx.mono (z0.trans (z.trans z1)))
    · intro ρ3 σ3 G3 H3 h3 z3 r3; exact ⟨G3, ρ3, z.trans (z1.trans z3), r3, h3⟩
    · intro ρ3 σ3 G3 H3 h3 z3 r3; exact k.nx ρ3 σ3 G3 H3 h3 (z0.trans (z.trans (z1.trans z3))) r3
    · intro ρ3 σ3 G3 H3 h3 z3 r3; exact ⟨G3, ρ3, z.trans (z1.trans z3), r3, h3⟩
    · intro d ρ3 σ3 v G3 H3 h3 z3 r3; exact k.rt d ρ3 σ3 v G3 H3 h3 (z0.trans (z.trans (z1.trans z3))) r3
  · have e : i = ds.length := by omega
    subst e
    exact .inl ⟨st (Nat.le_refl _), k.nx ρ' σ' G' H' (fin ρ' w) (z0.trans z) r'⟩
variable {es : List Expr} {ks : List AK} {mr : MA} {x : Str} {p' : Pos} {ow : List Bool}
def mCallX (ks : List AK) (sd : SpX) (m : MA) : MEX := fun xx ρ q => m ρ fun ds ρ1 => match fillA ks ds ρ1 with
  | some ds' => sd ds' (fun d os => q d (putK ks os ρ1)) fun c ns es os => xx c ns es (putK ks os ρ1)
  | none => False
end
section
variable {X : Cx} {M : Md} {e : Expr} {es : List Expr} {ks : List AK} {mr : MA} {x : Str} {pos p' : Pos} {ow : List Bool} {mu : List Bool} {k : Nat} {f : Addr} {fd : FuncData} {ps : List Str} {sd : SpX}
theorem qxe_call (F : FnOk X.prog X.w X.K X.mg X.base (CX1 X.prog X.w) k f fd ps (spOfX mu false sd)) (hr : Room k X.A) (hg : Gl X x) (hm : X.mg x = some (.ref f)) (hk : PySem.W.keepIn X.K (.ref f) = true) (hb : Binds X.K fd ps [])
    (ha : QAk X.nox ow ks (e :: es) mr) (hex : X.ex = [] := by rfl) (hmu : mu = ks.map AK.isM := by rfl) (nd : (slotsOf ks).Nodup := by decide) (hw : ∀ i ∈ slotsOf ks, ow[i]? = some true := by decide) (hdb : (x == ("__debug__" : Str)) = false := by decide)
    (he : starEach (e :: es) X.env = (false, eval e X.env) :: starEach es X.env := by rfl) (hpl : (backTo pos (starEach es X.env)).any (·.1) = false := by rfl) : QXE X ow (.Call (.Name x p') (e :: es) [] pos) (mCallX ks sd mr) := by
  obtain ⟨t, p, s⟩ := ha
  subst hmu
  refine ⟨fun xk => tCallX xk (spOfX (ks.map AK.isM) false sd) t, fun E q xk g => pe_callX (X := X.tr E q) hex g.2 F hr hg hm hk hb (PA.any p) hdb he hpl, fun C G ρ σ H pd q Q xx xk r hm kx k => s C G ρ σ H pd _ _ r hm fun ds ρ' vs T G' H' hq z kp r' p => ?_⟩
  split at hq
  · rename_i ds' ef
    exact run_callX (fr := false) r.np r' p ef nd hw hq (fun d ρ2 v G2 H2 hq2 z2 kp2 h2 => by
      rw [if_neg (by decide)] at h2
      exact k d ρ2 v G2 H2 hq2 (z.trans z2) (kp.trans kp2) h2.1 h2.2) fun c ns es ρ2 dx G2 H2 hq2 z2 kp2 r2 x2 => kx.go c ns es ρ2 σ dx G2 H2 hq2 (z.trans z2) r2 x2
  · exact hq.elim
end
theorem Fun.okX {P : Program} {w : World} {K : PySem.W.Frag} {mg : Str → Option Value} {base : Heap} {x qual : Str} {st : Stmt} {f : Addr} {fd : FuncData} {N ps : List Str} {k : Nat} {sp : Sp} (F : Fun K x qual st f fd) (S : FnScope N ps (defScope st)) (len : ∀ vs H Q E, sp vs H Q E → vs.length = ps.length)
    (hbody : ∀ (cdv : Value) (A : Around) (outer : List Env) (s : Shared) (H : Hp) (vs : List V) (Q : VK) (E : XK), Room k (A.deeper (envOfC qual (defScope st) s.heap.objs.size f cdv)) → sp vs H Q E →
      ∃ t, PSs (cxOf (CX1 P w) P w K mg base N qual (defScope st) f cdv A outer s H E) (defBody st) t ∧ t { nx := fun _ H' => Q .non H', rt := Q } (start N vs) H) : FnOk P w K mg base (CX1 P w) (k + 1) f fd ps sp := by
  obtain ⟨oc, od, kV, doc, pm, an, cdv, ct, osl, rfl, lk, hcd⟩ := F.ex
  exact fn_of lk hcd S len fun A outer s H vs Q E hr hsp => hbody cdv A outer s H vs Q E hr hsp
theorem fnX {P : Program} {w : World} {K : PySem.W.Frag} {mg : Str → Option Value} {base : Heap} {x qual : Str} {st : Stmt} {f : Addr} {fd : FuncData} {N ps : List Str} {k : Nat} (F : Fun K x qual st f fd) (S : FnScope N ps (defScope st)) (M : Md) (sd : SpX)
    (hl : ∀ ds q qx, sd ds q qx → ds.length = ps.length) (ho : M.ow.take ps.length = M.mu) (hml : M.mu.length = ps.length)
    (hbody : ∀ (cdv : Value) (A : Around) (outer : List Env) (s : Shared) (H : Hp) (E : XK), Room k (A.deeper (envOfC qual (defScope st) s.heap.objs.size f cdv)) →
      ∃ m, QXs (cxOf (CX1 P w) P w K mg base N qual (defScope st) f cdv A outer s H E) M (defBody st) m ∧ ∀ ds q qx, sd ds q qx → m (fun c ns es ρ => qx c ns es (mus M.mu ρ)) (endsOf M.mu q) (ds.map some ++ List.replicate (N.length - ps.length) none)) :
    FnOk P w K mg base (CX1 P w) (k + 1) f fd ps (spOfX M.mu M.fr sd) := by
  have hov : ∀ i : Nat, i < M.mu.length → M.ow[i]? = M.mu[i]? := fun i hi => by rw [← ho, List.getElem?_take_of_lt (by omega)]
  have hlen : ∀ vs H Q E, spOfX M.mu M.fr sd vs H Q E → vs.length = ps.length := fun vs H Q E ⟨C, G, ds, q, qx, _, _, ⟨O, ro⟩, h1, _, _⟩ => by
    have := ro.len; simp at this; rw [← this]; exact hl ds q qx h1
  refine F.okX S hlen fun cdv A outer s H vs Q E hr hsp => ?_
  obtain ⟨m, ⟨t, p, ss⟩, hm⟩ := hbody cdv A outer s H E hr
  have hvl := hlen vs H Q E hsp
  obtain ⟨C, G, ds, q, qx, hnp, hmu, ⟨O, ro⟩, hsd, hml2, kk, kkx⟩ := hsp
  refine ⟨t (fun _ => E), p _ [] (fun _ => E) ⟨PassesOwn.leaving, acc_fn⟩, ?_⟩
  have hmo : MuOk C M.mu := fun i v e => by rw [hmu] at e; exact (msV_of e).1
  have r0 : R C M.ow G (ds.map some ++ List.replicate (N.length - ps.length) none) (start N vs) H [] := by
    unfold start; rw [hvl]
    exact ⟨O, ro.grow _ fun i hi => hov i (by omega)⟩
  refine ss C G _ _ H (endsOf M.mu q) _ _ _ hmo hnp r0 (hm ds q qx hsd) ⟨?_, fun _ _ _ _ h => h.elim, fun _ _ _ _ h => h.elim, ?_⟩ ⟨?_⟩
  · intro ρ σ G' H' h z ⟨O', r'⟩
    refine kk .non (padS M.mu.length ρ) (padS M.mu.length σ) .non G' H' (by rw [padS_mus]; exact h) z (padS_len _ _) (R.non ⟨O', r'.trim hmo hov⟩)
  · intro d ρ σ v G' H' h z hr'
    refine kk d (padS M.mu.length ρ) (padS M.mu.length σ) v G' H' (by rw [padS_mus]; exact h) z (padS_len _ _) ?_
    unfold Ret at hr' ⊢
    split at hr'
    · rename_i c; rw [if_pos c]; obtain ⟨O', r'⟩ := hr'; exact ⟨O', r'.trim hmo hov⟩
    · rename_i c; rw [if_neg c]; obtain ⟨⟨O', r'⟩, p⟩ := hr'; exact ⟨⟨O', r'.trim hmo hov⟩, p⟩
  · intro c ns es ρ σ dx G' H' h z ⟨O', r'⟩ hx
    exact kkx c ns es (padS M.mu.length ρ) (padS M.mu.length σ) dx G' H' (by rw [padS_mus]; exact h) z (padS_len _ _) ⟨O', r'.trim hmo hov⟩ hx
def dExc (c : Addr) (ns : List Str) (es : List D) : D := .ext fun H a => ∃ dx, H a = some (.ext (excφ a (.ref c) dx)) ∧ XRep H ns es dx
def EndsD.unb (n : EndsD) (i : Nat) : EndsD := { nx := fun ρ => n.nx (ρ.set i none), rt := fun d ρ => n.rt d (ρ.set i none), bk := fun ρ => n.bk (ρ.set i none), ct := fun ρ => n.ct (ρ.set i none) }
theorem RO.gone {C : Ctx} {ow : List Bool} {G : Hp} {ρ : DSt} {σ : St} {H : Hp} {pd : List (D × V)} {O : Own} (h : RO C ow G ρ σ H pd O) (i : Nat) (hm : ∀ v, C.mu[i]? ≠ some (some v)) : RO C ow G (ρ.set i none) (σ.set i none) H pd O := by
  refine ⟨by simpa using h.len, h.gh, h.g0, h.gn, h.og, h.cok, h.fr, h.al, fun j v e => ?_, fun j d e => ?_, h.pn, h.np⟩
  · have : i ≠ j := fun z => by subst z; exact hm v e
    rw [List.getElem?_set_ne this]; exact h.mp j v e
  · have : i ≠ j := fun z => by
      subst z
      rw [List.getElem?_set] at e
      split at e
      · split at e <;> cases e
      · rename_i c; exact c rfl
    rw [List.getElem?_set_ne this] at e ⊢
    exact h.sl j d e
def mTry (i : Nat) (ok : Value → Prop) (mb : MSX) (ms : Value → MS) : MSX := fun _ n ρ => mb (fun c ns es ρ' => ok (.ref c) ∧ ∀ v, ms v (n.unb i) (ρ'.set i (some (dExc c ns es)))) n ρ
theorem qx_try {X : Cx} {M : Md} {body : List Stmt} {b0 : Stmt} {suite : List Stmt} {x n : Str} {i : Nat} {D0 : Addr} {bmD : List Value} {iniD : Option Value} {np npos pos : Pos} {mb : MSX} {ms : Value → MS} (hN : X.N.Nodup) (hi : X.N[i]? = some n) (hl : X.env.kindOf n = some .local) (hg : Gl X x) (hm : X.mg x = some (.ref D0)) (hD : xcIn X.K D0 bmD iniD = true)
    (hb : QXs X M body mb) (hs : ∀ v, QSs (X.hand v) M (b0 :: suite) (ms v)) (hst : X.stack = X.env :: X.outer := by rfl) (hf : X.env.frame = some X.env.locals := by rfl) (ho : M.ow[i]? ≠ some true := by decide) (hu : M.mu[i]? ≠ some true := by decide) (hdb : (x == ("__debug__" : Str)) = false := by decide) :
    QX X M (.Try body [.ExceptHandler (some (.Name x np)) (some n) (b0 :: suite) npos] [] [] pos) (mTry i (Caught X.K D0) mb ms) := by
  obtain ⟨tb, pb, sb⟩ := hb
  have hs' : ∀ ea : Addr, ∃ t, PSs (X.hand (.ref ea)) (b0 :: suite) t ∧ SS M t (ms (.ref ea)) := fun ea => (hs (.ref ea)).ex
  let ts : Addr → TS := fun ea => (hs' ea).choose
  have hts : ∀ ea, PSs (X.hand (.ref ea)) (b0 :: suite) (ts ea) ∧ SS M (ts ea) (ms (.ref ea)) := fun ea => (hs' ea).choose_spec
  refine ⟨fun _ => tTry i (Caught X.K D0) tb ts, fun E q xk g => ps_try (X := X.tr E q) hst hf hN hi hl hg hm hD (fun E' p' xk' h1 h2 => ?_) (fun ea => ?_) hdb, fun C G ρ σ H n D xx xk hm hn r h k kx => ?_⟩
  · have e : (X.tr E q).tr E' p' = X.tr E' (q ++ p') := by
      show ({ X with xe := E', pn := (X.pn ++ q) ++ p' } : Cx) = { X with xe := E', pn := X.pn ++ (q ++ p') }
      rw [List.append_assoc]
    rw [e] at h2 ⊢
    exact pb E' (q ++ p') xk' ⟨h1, h2⟩
  · refine ⟨fun pins s σ H D I hw => ?_⟩
    have I' : Inv (X.hand (.ref ea)) (q ++ pins) σ H s := ⟨{ I.ok with }, I.os, I.bare, I.base, I.loc, I.cell, I.free, I.freeC, fun z hz => I.pin z (by simpa using hz), I.hok, I.len⟩
    refine wpAny_mono ((hts ea).1 (q ++ pins) s σ H D I' hw) (fun f s' z => ?_) fun _ _ z => False.elim z
    have back : ∀ {σ' H'}, Inv (X.hand (.ref ea)) (q ++ pins) σ' H' s' → Inv ((X.tr E q).hand (.ref ea)) pins σ' H' s' := fun {σ' H'} J => ⟨{ J.ok with }, J.os, J.bare, J.base, J.loc, J.cell, J.free, J.freeC, fun z hz => J.pin z (by simpa using hz), J.hok, J.len⟩
    cases f with
    | next => obtain ⟨σ', H', J, q⟩ := z; exact ⟨σ', H', back J, q⟩
    | brk => obtain ⟨σ', H', J, q⟩ := z; exact ⟨σ', H', back J, q⟩
    | cont => obtain ⟨σ', H', J, q⟩ := z; exact ⟨σ', H', back J, q⟩
    | ret u => obtain ⟨v, σ', H', J, r, q⟩ := z; exact ⟨v, σ', H', back J, r, q⟩
  · refine sb C G ρ σ H n D _ _ hm hn r h k ⟨fun c ns es ρ' σ' dx G' H' hq z r' hx => ⟨hq.1, fun ea hea => ?_⟩⟩
    obtain ⟨O, ro⟩ := r'
    obtain ⟨ro2, z2⟩ := ro.new hea (.ext (excφ ea (.ref c) dx))
    have rep : Rep (upd G' ea (.ext (excφ ea (.ref c) dx))) (dExc c ns es) (.ref ea) := by
      unfold dExc
      rw [Rep]
      exact ⟨ea, _, rfl, Same.refl _, dx, by simp [upd], hx.mono z2⟩
    refine (hts ea).2 C _ _ _ _ (n.unb i) (D.unb i) hm hn ⟨O, ro2.setS ho (hm.no hu) rep⟩ (hq.2 (.ref ea)) ⟨?_, ?_, ?_, ?_⟩
    · intro ρ3 σ3 G3 H3 h3 z3 ⟨O3, r3⟩; exact k.nx _ _ G3 H3 h3 (z.trans (z2.trans z3)) ⟨O3, r3.gone i (hm.no hu)⟩
    · intro ρ3 σ3 G3 H3 h3 z3 ⟨O3, r3⟩; exact k.bk _ _ G3 H3 h3 (z.trans (z2.trans z3)) ⟨O3, r3.gone i (hm.no hu)⟩
    · intro ρ3 σ3 G3 H3 h3 z3 ⟨O3, r3⟩; exact k.ct _ _ G3 H3 h3 (z.trans (z2.trans z3)) ⟨O3, r3.gone i (hm.no hu)⟩
    · intro d ρ3 σ3 v G3 H3 h3 z3 r3
      refine k.rt d (ρ3.set i none) (σ3.set i none) v G3 H3 h3 (z.trans (z2.trans z3)) ?_
      unfold Ret at r3 ⊢
      split at r3
      · rename_i c; rw [if_pos c]; obtain ⟨O3, r3⟩ := r3; exact ⟨O3, r3.gone i (hm.no hu)⟩
      · rename_i c; rw [if_neg c]; obtain ⟨⟨O3, r3⟩, p⟩ := r3; exact ⟨⟨O3, r3.gone i (hm.no hu)⟩, p⟩
end L2
namespace L2
open PySem PySem.Spec PyProof.Rows PySem.W Builtin.ObjectAttr
section
variable {prog : Program} {w : World} {A : Around} {E : Value → Shared → Prop} {s : Shared} {K : PySem.W.Frag} {x D : Addr} {ox : Obj} {od : Option Obj} {name : Str} {bm : List Value} {ini : Option Value} {tk : Tok}
theorem exc_check {M : Model} {nameV : Value} {Q : Unit → Shared → Prop} (I : PySem.W.InstAt s.heap x ox D od) (hC : XObj s.heap D bm ini) (hq : Q () s) : wpAny M A (checkBuiltinCall "BaseException.__getattribute__" ⟨[.ref x, nameV], []⟩) Q E s := by
  obtain ⟨N, nm, q, bs, hdct, sn, sub, ab, col, dd, k0, k1, k2, k3, k5, mN, hC, hN, hni, T⟩ := hC
  obtain ⟨h, g, d, t, os⟩ := s
  have hx := I.at_
  have hc := I.cls
  have hk : builtinKind "BaseException.__getattribute__" = some .slot := by decide +kernel
  have hsplit : splitId "BaseException.__getattribute__" = some ("BaseException", "__getattribute__") := by decide +kernel
  have hcB : (Value.ref D :: bm).contains (.type "BaseException") = true := by rw [List.contains_cons, tail_base T, Bool.or_true]
  have ha := PySem.F.args_bexc_ga (.ref x) nameV
  simp only [checkBuiltinCall, hk, hsplit]
  refine wpAny_bind ?_
  · unfold isInstance
    repeat (first | (with_reducible refine wpAny_loadPart_at hx ?_; rw [hc]) | (with_reducible refine wpAny_isSubtype_exc hC ?_; rw [hcB]) | wp_step)
    exact hq
theorem exc_value {v : Value} {Q : Fin → Shared → Prop} (X : K.In s.heap) (I : PySem.W.InstAt s.heap x ox D od) (hf : PySem.W.findObj K D od name = some (.value v)) (h : Q (.done (.ret v)) s) :
    wpAny (model prog w) A (Builtin.«object.__getattribute__» ⟨[.ref x, .str name tk], []⟩) Q E s := by
  have L0 := I.type (M := model prog w)
  have L1 := PySem.W.looks_find (M := model prog w) X I hf
  refine wpAny_bind (wpAny_pure (wpAny_bind (wpAny_pure (wpAny_bind (L0.at (wpAny_bind (L1.at ?_)))))))
  exact wpAny_pure h
theorem exc_bind {g a : Value} {Q : Fin → Shared → Prop} (X : K.In s.heap) (I : PySem.W.InstAt s.heap x ox D od) (hf : PySem.W.findObj K D od name = some (.bind g a)) (h : wpAny (model prog w) A (call g [a, .ref x, .ref D]) (fun v s' => Q (.done (.ret v)) s') E s) :
    wpAny (model prog w) A (Builtin.«object.__getattribute__» ⟨[.ref x, .str name tk], []⟩) Q E s := by
  have L0 := I.type (M := model prog w)
  have L1 := PySem.W.looks_find (M := model prog w) X I hf
  refine wpAny_bind (wpAny_pure (wpAny_bind (wpAny_pure (wpAny_bind (L0.at (wpAny_bind (L1.at ?_)))))))
  show wpAny _ _ (bindTo g a (.ref x) (.ref D)) _ _ _
  unfold bindTo
  exact wpAny_bind (wpAny_holding (wpAny_mono h (fun v s' z => wpAny_pure z) fun _ _ z => z))
theorem exc_by {fill expr : Bool} {Q : Value → Shared → Prop} (X : K.In s.heap) (I : PySem.W.InstAt s.heap x ox D od) (hC : XObj s.heap D bm ini) (hga : PySem.W.findIn K (.ref D) "__getattribute__" = some (some (.builtin "BaseException.__getattribute__")))
    (hgn : PySem.W.findIn K (.ref D) "__getattr__" = some none)
    (h : wpAny (model prog w) A.in1 (Builtin.«object.__getattribute__» ⟨[.ref x, .str name tk], []⟩) (fun fin s' => match fin with | .done (.ret v) => wpAny (model prog w) A (handedOut v) Q E s' | _ => False) (fun _ _ => False) s) :
    wpAny (model prog w) A (getAttrBy (.ref x) (.str name tk) fill expr) Q E s := by
  obtain ⟨hh, g, d, t, os⟩ := s
  have L0 := I.type (M := model prog w)
  have L1 := PySem.W.looks_findIn (M := model prog w) X hga
  have L2 := PySem.W.looks_findIn (M := model prog w) X hgn
  have f3 := PySem.F.attr_ValueError.ga.bind (.ref x)
  unfold getAttrBy
  refine wpAny_holding (wpAny_bind (L0.at (wpAny_bind (L1.at ?_))))
  show wpAny _ _ (if (true && (Value.builtin "BaseException.__getattribute__" == Value.builtin "object.__getattribute__")) = true then _ else getAttrByItsOwn _ _ _ _ _ _) _ _ _
  rw [if_neg (by decide +kernel)]
  unfold getAttrByItsOwn
  show wpAny _ _ (typeLookup (.ref D) "__getattr__" >>= _) _ _ _
  refine wpAny_bind (L2.at (wpAny_bind (wpAny_attempt (wpAny_holding ?_))))
  unfold callGetattribute
  rw [if_neg (by cases expr <;> decide)]
  unfold boundAndCalled
  rw [f3]
  refine wpAny_bind (wpAny_pure (wpAny_call (codeAny_call_builtin PySem.F.attr_ValueError.ga.plain PySem.F.entry_bexc_ga (exc_check I hC ?_))))
  refine wpAny_mono h (fun fin s' z => ?_) fun _ _ z => z.elim
  rcases fin with (_ | _ | _ | _) | _ <;> first | exact z | exact z.elim
theorem exc_attr {v : Value} {expr : Bool} {Q : Value → Shared → Prop} (X : K.In s.heap) (I : PySem.W.InstAt s.heap x ox D od) (hC : XObj s.heap D bm ini) (hga : PySem.W.findIn K (.ref D) "__getattribute__" = some (some (.builtin "BaseException.__getattribute__")))
    (hgn : PySem.W.findIn K (.ref D) "__getattr__" = some none) (hf : PySem.W.findObj K D od name = some (.value v)) (hv : ∀ tk, wpAny (model prog w) A (handedOut v) Q E { s with toks := tk }) : wpAny (model prog w) A (getAttr (.ref x) name expr) Q E s := by
  unfold getAttr
  refine wpAny_bind (wpAny_mkText ?_)
  exact exc_by (s := { s with toks := s.toks + 1 }) X I hC hga hgn (exc_value (s := { s with toks := s.toks + 1 }) X I hf (hv _))
theorem exc_class {Q : Option Value → Shared → Prop} (X : K.In s.heap) (I : PySem.W.InstAt s.heap x ox D od) (hC : XObj s.heap D bm ini) (hga : PySem.W.findIn K (.ref D) "__getattribute__" = some (some (.builtin "BaseException.__getattribute__")))
    (hgn : PySem.W.findIn K (.ref D) "__getattr__" = some none) (hf : PySem.W.findObj K D od "__class__" = some (.bind (.builtin "getset_descriptor.__get__") (.builtin "object.__class__"))) (hm : PySem.W.mroIn K D (.type "object") = some true)
    (h : Q (some (.ref D)) { s with toks := s.toks + 1 }) : wpAny (model prog w) A (getAttr? (.ref x) "__class__") Q E s := by
  unfold getAttr?
  refine wpAny_bind (wpAny_mkText ?_)
  unfold getAttrBy?
  refine wpAny_bind (wpAny_attempt ?_)
  refine exc_by (s := { s with toks := s.toks + 1 }) X I hC hga hgn (exc_bind (s := { s with toks := s.toks + 1 }) X I hf ?_)
  exact wpAny_call (PySem.W.class_get (s := { s with toks := s.toks + 1 }) X I hm (PySem.W.handed_on rfl (wpAny_pure h)))
def xcOk (K : PySem.W.Frag) (D : Addr) : Bool := PySem.W.findIn K (.ref D) "__getattribute__" == some (some (.builtin "BaseException.__getattribute__")) && PySem.W.findIn K (.ref D) "__getattr__" == some none &&
  PySem.W.findIn K (.ref D) "__class__" == some (some (.builtin "object.__class__")) && PySem.W.specialIn K (.builtin "object.__class__") "__get__" == some (some (.builtin "getset_descriptor.__get__")) && PySem.W.takesIn K (.builtin "object.__class__") == some true &&
  PySem.W.mroIn K D (.type "object") == some true && PySem.W.hasDictIn K D
theorem kitx_exc (q : xcOk K D = true) (hq : xcIn K D bm ini = true) : PySem.W.KitX K (.ref x) (.ref D) (fun h => ∃ ox od, PySem.W.InstAt h x ox D od) := by
  simp only [xcOk, Bool.and_eq_true, beq_iff_eq] at q
  obtain ⟨⟨⟨⟨⟨⟨q1, q2⟩, q3⟩, q4⟩, q5⟩, q6⟩, q7⟩ := q
  obtain ⟨cdD, hcD, _⟩ := PySem.W.any_some q7
  refine ⟨fun _ _ _ ⟨ox, od, I⟩ => I.type, fun _ _ X _ => ?_, fun h tp dd its n sl X htp => ?_, fun {_ _ _ _ _ s} X ⟨ox, od, I⟩ k => ?_⟩
  · unfold PySem.W.clsIn at hcD
    split at hcD
    · rename_i c' d' cd' sl' ho
      intro A' Q' E' s' k q
      unfold isType loadHead
      exact wpAny_bind (wpAny_loadPart (k _ _ (X _ _ ho)) (wpAny_pure q))
    · cases hcD
  · refine Bool.eq_false_iff.mpr fun q => ?_
    have e : D = tp := Value.ref.inj (beq_iff_eq.mp q)
    subst e
    unfold PySem.W.clsIn at hcD
    split at hcD
    · rename_i c' d' cd' sl' ho
      have z := (X _ _ ho).symm.trans htp
      cases z
    · cases hcD
  · refine exc_class X I (xobj_of X hq) q1 q2 ?_ q6 k
    unfold PySem.W.findObj
    rw [hcD, q3]
    simp only [Option.bind_some, q4, q5]
end
end L2
namespace L2
open PySem PySem.Spec PyProof.Rows
section
variable {X : Cx}
theorem ext_inst {pins : List (Addr × Obj)} {σ : St} {H : Hp} {s : Shared} {a : Addr} {C : Addr} {dx : Option Addr} {ns : List Str} {es : List D} (I : Inv X pins σ H s) (h : H a = some (.ext (excφ a (.ref C) dx))) (hx : XRep H ns es dx) : ∃ ox od, PySem.W.InstAt s.heap a ox C od := by
  obtain ⟨⟨vs, sl, q⟩, _, _⟩ := (show ObjOk X.prog X.w H s.heap a (.ext (excφ a (.ref C) dx)) from I.hok a _ h)
  cases dx with
  | none => exact ⟨_, none, q, rfl, rfl, trivial⟩
  | some d =>
    obtain ⟨xs, h1, _, _⟩ := hx
    obtain ⟨u, z⟩ := (I.hok d _ h1).here
    exact ⟨_, some u, q, rfl, rfl, z⟩
def IsX (K : PySem.W.Frag) (c : Value) (d : D) (b : Bool) : Prop := (∃ C ns es bm ini, d = dExc C ns es ∧ xcIn K C bm ini = true ∧ xcOk K C = true ∧ PySem.W.kitOne K (.ref C) c = some b) ∨ (d.isS = false ∧ PySem.W.kitOne K (.type d.ty) c = some b)
def rIsX (K : PySem.W.Frag) (c : V) (cv : Value) : List V → Hp → VK → Prop := fun xs H Q => ∃ x d b, xs = [x, c] ∧ Rep H d x ∧ IsX K cv d b ∧ Q (.bl b) H
theorem call_isX {c : V} {cv : Value} (hc : ∀ u, RelV c u → u = cv) : CallR X (.builtin "isinstance") (rIsX X.K c cv) := by
  intro pins s σ H xs us Q I r h
  obtain ⟨x, d, b, rfl, hd, e, q⟩ := h
  obtain ⟨u, w', rfl, ru, rw'⟩ := vals2 r
  obtain rfl := hc _ rw'
  have fin : ∀ tk, EP X pins σ Q (.bool b) { s with toks := tk } := fun tk => ⟨.bl b, H, I.tok tk, rfl, q⟩
  rcases e with ⟨C, ns, es, bm, ini, rfl, h1, h2, h3⟩ | ⟨hs, e⟩
  · unfold dExc at hd
    rw [Rep] at hd
    obtain ⟨a, H0, rfl, z, dx, h4, h5⟩ := hd
    cases (show u = Value.ref a from ru)
    exact PySem.W.kia_one (kitx_exc h2 h1) I.kIn (ext_inst I (z _ _ h4) (h5.mono z)) h3 (fun z => nomatch z) fin
  · exact isinst_ok I ru (hd.ty hs) e fin
variable {ow : List Bool} {a : Expr} {ma : ME} {pos : Pos}
def mIsX (K : PySem.W.Frag) (c : Value) (m : ME) : ME := fun ρ q => m ρ fun d ρ' => ∃ b, IsX K c d b ∧ q (.bl b) ρ'
theorem qe_isX {c : V} {cv : Value} {x y : Str} {p1 p2 : Pos} (hc : ∀ u, RelV c u → u = cv) (hg : Gl X x) (hm : X.mg x = none) (hv : bootBuiltins x = some (.builtin "isinstance")) (ha : QE X ow a ma) (ht : PE X (.Name y p2) (tC c))
    (hn : x ≠ "__name__" := by decide) (hdb : (x == ("__debug__" : Str)) = false := by decide)
    (hs : starEach [.Name y p2] X.env = [(false, eval (.Name y p2) X.env)] := by rfl)
    (he : starEach [a, .Name y p2] X.env = (false, eval a X.env) :: starEach [.Name y p2] X.env := by rfl) (hpl : (backTo pos (starEach [.Name y p2] X.env)).any (·.1) = false := by rfl) :
    QE X ow (.Call (.Name x p1) [a, .Name y p2] [] pos) (mIsX X.K cv ma) := by
  obtain ⟨t, p, s⟩ := ha
  refine ⟨_, pe_callB (call_isX hc) hg hm hv (pa_cons p (pa_cons ht pa_nil hs) he) hn hdb he hpl, fun C G ρ σ H pd q Q r hm k => s C G ρ σ H pd _ _ r hm fun d ρ' v G' H' hq s kp r' p => ?_⟩
  obtain ⟨b, h1, h2⟩ := hq
  exact ⟨v, d, b, rfl, Rep.mono r'.gh _ _ p, h1, k _ ρ' _ G' H' h2 s kp r' (rep_bl _)⟩
theorem relRef {C : Addr} : ∀ u, RelV (.ref C) u → u = .ref C := fun _ h => h
theorem relTy {T : String} : ∀ u, RelV (.ty T) u → u = .type T := fun _ h => h
end
section
variable {K : PySem.W.Frag} {C a N : Addr} {dd nd : Option Addr} {nm qn : Str} {bs bm sub : List Value} {hd ab : Bool} {sn : List Str} {col : Option Bool} {k0 k1 k2 k3 k5 ini : Option Value} {no : Value} {es : Array DictEntry} {np : Nat} {nl : Array (Option Value)} {sl : Array (Option Value)} {oc : Value} {cd : ClassData}
theorem tail_bm : PySem.W.tailIn K bmV bmV = true := by unfold PySem.W.tailIn; simp
theorem nsOk_mk (n : K.lookup N = some ⟨no, nd, .dict es np, nl⟩) (q : (es.all fun e => match e.key with | .str _ _ => true | _ => false) = true) : PySem.W.nsOkIn K N = true := by unfold PySem.W.nsOkIn; rw [n]; exact q
theorem tail_mk (l : K.lookup a = some ⟨oc, dd, .cls cd, sl⟩) (n : PySem.W.nsOkIn K cd.ns = true) (t : PySem.W.nsIn K cd.ns "__init__" = some none) (r : PySem.W.tailIn K bmV bm = true) : PySem.W.tailIn K bmV (.ref a :: bm) = true := by
  unfold PySem.W.tailIn
  simp only [l, n, t, r, beq_self_eq_true, Bool.and_self, Bool.or_true]
theorem xc_mk (l : K.lookup C = some ⟨.type "type", dd, .cls ⟨nm, bs, .ref C :: bm, N, qn, hd, sn, sub, ab, col, false⟩, #[k0, k1, k2, k3, some (.builtin "ValueError.__new__"), k5]⟩) (n : PySem.W.nsOkIn K N = true) (t : PySem.W.nsIn K N "__init__" = some ini)
    (r : PySem.W.tailIn K bmV bm = true) : xcIn K C bm ini = true := by
  unfold xcIn
  simp only [l, n, t, r, beq_self_eq_true, Bool.not_false, Bool.and_self]
theorem kit_self {t : Value} : PySem.W.kitOne K t t = some true := by unfold PySem.W.kitOne; simp
theorem kit_own {t : Value} {b : Bool} (l : K.lookup a = some ⟨oc, dd, .cls cd, sl⟩) (y : PySem.W.typeIn K (.ref a) = some (.type "type")) (s : PySem.W.subIn K t (.ref a) = some b) (ne : b = true ∨ (t == .ref a) = false) : PySem.W.kitOne K t (.ref a) = some b := by
  have c : PySem.W.kitCls K t (.ref a) = some b := by
    unfold PySem.W.kitCls PySem.W.clsIn
    simp only [l, y, Option.isSome_some, beq_self_eq_true, Bool.and_self, if_true, s]
  unfold PySem.W.kitOne
  rw [c]
  rcases ne with rfl | ne
  · split <;> rfl
  · rw [ne]; rfl
theorem kit_val {t : Value} (s : PySem.W.subIn K t (.type "ValueError") = some true) : PySem.W.kitOne K t (.type "ValueError") = some true := by
  have c : PySem.W.kitCls K t (.type "ValueError") = some true := by
    unfold PySem.W.kitCls
    show (if PySem.W.kitMeta "ValueError" = true then _ else _) = _
    rw [if_pos (by decide +kernel), s]
  unfold PySem.W.kitOne
  rw [c]
  split <;> rfl
theorem xcOk_mk (g : PySem.W.findIn K (.ref C) "__getattribute__" = some (some (.builtin "BaseException.__getattribute__"))) (h : PySem.W.findIn K (.ref C) "__getattr__" = some none) (c : PySem.W.findIn K (.ref C) "__class__" = some (some (.builtin "object.__class__")))
    (s : PySem.W.specialIn K (.builtin "object.__class__") "__get__" = some (some (.builtin "getset_descriptor.__get__"))) (t : PySem.W.takesIn K (.builtin "object.__class__") = some true) (m : PySem.W.mroIn K C (.type "object") = some true) (d : PySem.W.hasDictIn K C = true) : xcOk K C = true := by
  unfold xcOk
  simp only [g, h, c, s, t, m, d, beq_self_eq_true, Bool.and_self]
theorem bt_ValueError : bootBuiltins "ValueError" = some (.type "ValueError") := by decide +kernel
end
theorem fnT {P : Program} {w : World} {K : PySem.W.Frag} {mg : Str → Option Value} {base : Heap} {x qual : Str} {st : Stmt} {f : Addr} {fd : FuncData} {N ps : List Str} {k : Nat} (F : Fun K x qual st f fd) (S : FnScope N ps (defScope st)) (M : Md) (sd : SpD)
    (hl : ∀ ds q, sd ds q → ds.length = ps.length) (ho : M.ow.take ps.length = M.mu) (hml : M.mu.length = ps.length)
    (hbody : ∀ (cdv : Value) (A : Around) (outer : List Env) (s : Shared) (H : Hp) (E : XK), Room k (A.deeper (envOfC qual (defScope st) s.heap.objs.size f cdv)) →
      ∃ m, QXs (cxOf CX0 P w K mg base N qual (defScope st) f cdv A outer s H E) M (defBody st) m ∧ ∀ ds q, sd ds q → m (fun _ _ _ _ => False) (endsOf M.mu q) (ds.map some ++ List.replicate (N.length - ps.length) none)) :
    FnOk P w K mg base CX0 (k + 1) f fd ps (spOf M.mu M.fr sd) := by
  refine fnD F S M sd hl ho hml fun cdv A outer s H E hr => ?_
  obtain ⟨m, ⟨t, p, ss⟩, hm⟩ := hbody cdv A outer s H E hr
  refine ⟨m fun _ _ _ _ => False, ⟨t fun _ _ _ _ => False, p (fun _ _ => False) [] (fun _ _ _ _ => False) ⟨PassesOwn.never, ⟨fun _ _ _ _ _ _ _ _ _ z => z.elim⟩⟩, fun C G ρ σ H n D hm hn r h k => ss C G ρ σ H n D _ _ hm hn r h k ⟨fun _ _ _ _ _ _ _ _ z => z.elim⟩⟩, hm⟩
theorem qx_cut {X : Cx} {M : Md} {st : Stmt} {m : MSX} (h : QX X M st m) : QX X M st (fun xx => mCut (m xx)) := by
  obtain ⟨t, p, s⟩ := h
  refine ⟨t, p, fun C G ρ σ H n D xx xk hm hn r h k kx => ?_⟩
  obtain ⟨I, h1, h2⟩ := h
  exact s C G ρ σ H _ D xx xk hm hn r h1 ⟨fun ρ' σ' G' H' a b c => k.nx ρ' σ' G' H' (h2 ρ' a) b c, k.bk, k.ct, k.rt⟩ kx
section
variable {X : Cx}
theorem isXs_data {pins : List (Addr × Obj)} {σ : St} {H : Hp} {s : Shared} {A : Around} {E : Value → Shared → Prop} {Q : Value → Shared → Prop} {d : D} {x : V} {u : Value} {tp : Addr} {dd : Option Addr} {its : List Value} {n : Nat} {sl : Array (Option Value)} {b : Bool}
    (I : Inv X pins σ H s) (hd : Rep H d x) (ru : RelV x u) (hs : d.isS = false) (htp : s.heap.get? tp = some ⟨.type "tuple", dd, .seq its.toArray n, sl⟩) (e : PySem.W.kitAny X.K (.type d.ty) its = some b) (h : ∀ tk, Q (.bool b) { s with toks := tk }) :
    wpAny (model X.prog X.w) A (call (.builtin "isinstance") [u, .ref tp]) Q E s := by
  cases d with
  | non => rw [Rep] at hd; subst hd; cases (show u = Value.none from ru); exact PySem.W.kia_tup PySem.W.kitx_none I.kIn True.intro htp e (fun z => nomatch z) h
  | bl y => rw [Rep] at hd; subst hd; cases (show u = Value.bool y from ru); exact PySem.W.kia_tup PySem.W.kitx_bool I.kIn True.intro htp e (fun z => nomatch z) h
  | int i => rw [Rep] at hd; subst hd; obtain ⟨t, q⟩ := (show ∃ t, u = Value.int i t from ru); cases q; exact PySem.W.kia_tup PySem.W.kitx_int I.kIn True.intro htp e (fun z => nomatch z) h
  | str y => rw [Rep] at hd; subst hd; obtain ⟨t, q⟩ := (show ∃ t, u = Value.str y t from ru); cases q; exact PySem.W.kia_tup PySem.W.kitx_str I.kIn True.intro htp e (fun z => nomatch z) h
  | tup ds =>
    rw [Rep] at hd; obtain ⟨a, xs, rfl, ea, _⟩ := hd
    cases (show u = Value.ref a from ru)
    obtain ⟨_, _, _, o, h1, h2, _⟩ := (show ObjOk X.prog X.w H s.heap a (.tup xs) from I.hok a _ ea)
    exact PySem.W.kia_tup PySem.W.kitx_tuple I.kIn ⟨o, h1, h2⟩ htp e (fun z => nomatch z) h
  | lst ds =>
    rw [Rep] at hd; obtain ⟨a, xs, rfl, ea, _⟩ := hd
    cases (show u = Value.ref a from ru)
    obtain ⟨_, _, n, _, h1⟩ := (show ObjOk X.prog X.w H s.heap a (.lst xs) from I.hok a _ ea)
    exact PySem.W.kia_tup PySem.W.kitx_list I.kIn ⟨_, h1, rfl⟩ htp e (fun z => nomatch z) h
  | dct =>
    rw [Rep] at hd; obtain ⟨a, kvs, rfl, ea⟩ := hd
    cases (show u = Value.ref a from ru)
    obtain ⟨_, _, vs, _, o, es, ep, h1, h2, _⟩ := (show ObjOk X.prog X.w H s.heap a (.dK kvs) from I.hok a _ ea)
    exact PySem.W.kia_tup PySem.W.kitx_dict I.kIn ⟨o, h1, h2.1⟩ htp e (fun z => nomatch z) h
  | dic ks ds =>
    rw [Rep] at hd; obtain ⟨a, xs, rfl, ea, _⟩ := hd
    cases (show u = Value.ref a from ru)
    obtain ⟨_, _, vs, _, o, es, ep, h1, h2, _⟩ := (show ObjOk X.prog X.w H s.heap a (.dK (ks.zip xs)) from I.hok a _ ea)
    exact PySem.W.kia_tup PySem.W.kitx_dict I.kIn ⟨o, h1, h2.1⟩ htp e (fun z => nomatch z) h
  | scr φ ns => cases hs
  | ext φ => cases hs
def IsXs (K : PySem.W.Frag) (cs : List Addr) (d : D) (b : Bool) : Prop := (∃ C ns es bm ini, d = dExc C ns es ∧ xcIn K C bm ini = true ∧ xcOk K C = true ∧ PySem.W.kitAny K (.ref C) (cs.map .ref) = some b) ∨ (d.isS = false ∧ PySem.W.kitAny K (.type d.ty) (cs.map .ref) = some b)
def rIsXs (K : PySem.W.Frag) (cs : List Addr) : List V → Hp → VK → Prop := fun xs H Q => ∃ x d b tp, xs = [x, .ref tp] ∧ H tp = some (.tup (cs.map .ref)) ∧ Rep H d x ∧ IsXs K cs d b ∧ Q (.bl b) H
theorem vals_refs : ∀ {cs : List Addr} {us : List Value}, Vals (cs.map V.ref) us → us = cs.map Value.ref
  | [], us, h => by cases h; rfl
  | c :: cs, us, h => by
    cases h with
    | cons r t => cases (show _ = Value.ref c from r); rw [vals_refs t]; rfl
theorem call_isXs {cs : List Addr} : CallR X (.builtin "isinstance") (rIsXs X.K cs) := by
  intro pins s σ H xs us Q I r h
  obtain ⟨x, d, b, tp, rfl, ht, hd, e, q⟩ := h
  obtain ⟨u, w', rfl, ru, rw'⟩ := vals2 r
  cases (show w' = Value.ref tp from rw')
  obtain ⟨_, its, rv, o, h1, h2, n, h3⟩ := (show ObjOk X.prog X.w H s.heap tp (.tup (cs.map .ref)) from I.hok tp _ ht)
  obtain rfl := vals_refs rv
  obtain ⟨oc, od, oda, sl⟩ := o
  cases h2; cases h3
  have fin : ∀ tk, EP X pins σ Q (.bool b) { s with toks := tk } := fun tk => ⟨.bl b, H, I.tok tk, rfl, q⟩
  rcases e with ⟨C, ns, es, bm, ini, rfl, g1, g2, g3⟩ | ⟨hs, e⟩
  · unfold dExc at hd
    rw [Rep] at hd
    obtain ⟨a, H0, rfl, z, dx, h4, h5⟩ := hd
    cases (show u = Value.ref a from ru)
    exact PySem.W.kia_tup (kitx_exc g2 g1) I.kIn (ext_inst I (z _ _ h4) (h5.mono z)) h1 g3 (fun z => nomatch z) fin
  · exact isXs_data I hd ru hs h1 e fin
def tClss (cs : List Addr) : TA := fun _ H Q => Q (cs.map .ref) H
theorem pa_cls0 : PA X [] (tClss []) := pa_nil
theorem pa_cls {c : Addr} {cs : List Addr} {y : Str} {p : Pos} {es : List Expr} (hg : Gl X y) (hm : X.mg y = some (.ref c)) (h : PA X es (tClss cs)) (hd : (y == ("__debug__" : Str)) = false := by decide) (hs : starEach (.Name y p :: es) X.env = (false, eval (.Name y p) X.env) :: starEach es X.env := by rfl) :
    PA X (.Name y p :: es) (tClss (c :: cs)) := pa_cons (pe_glob (v := .ref c) hg hm rfl hd) h hs
variable {ow : List Bool} {a : Expr} {ma : ME} {pos : Pos}
def mIsXs (K : PySem.W.Frag) (cs : List Addr) (m : ME) : ME := fun ρ q => m ρ fun d ρ' => ∃ b, IsXs K cs d b ∧ q (.bl b) ρ'
theorem qe_isXs {cs : List Addr} {x : Str} {p1 p2 : Pos} {k2} {names : List Expr} (hg : Gl X x) (hm : X.mg x = none) (hv : bootBuiltins x = some (.builtin "isinstance")) (ha : QE X ow a ma) (ht : PA X names (tClss cs)) (hz : cs.length ≤ sizeLine := by simp [sizeLine])
    (hn : x ≠ "__name__" := by decide) (hdb : (x == ("__debug__" : Str)) = false := by decide)
    (hs : starEach [.Tuple names k2 p2] X.env = [(false, eval (.Tuple names k2 p2) X.env)] := by rfl)
    (he : starEach [a, .Tuple names k2 p2] X.env = (false, eval a X.env) :: starEach [.Tuple names k2 p2] X.env := by rfl) (hpl : (backTo pos (starEach [.Tuple names k2 p2] X.env)).any (·.1) = false := by rfl) :
    QE X ow (.Call (.Name x p1) [a, .Tuple names k2 p2] [] pos) (mIsXs X.K cs ma) := by
  obtain ⟨t, p, s⟩ := ha
  refine ⟨_, pe_callB (call_isXs (cs := cs)) hg hm hv (pa_cons p (pa_cons (pe_tup ht) pa_nil hs) he) hn hdb he hpl, fun C G ρ σ H pd q Q r hm k => s C G ρ σ H pd _ _ r hm fun d ρ' v G' H' hq s kp r' p => ?_⟩
  obtain ⟨b, h1, h2⟩ := hq
  refine ⟨by rw [List.length_map]; exact hz, fun tp hp => ?_⟩
  obtain ⟨O, ro⟩ := r'
  obtain ⟨ro2, z2⟩ := ro.new hp (.tup (cs.map .ref))
  refine ⟨v, d, b, tp, rfl, by simp [upd], Rep.mono (fun b o q => ro2.gh b o (z2 b o q)) _ _ p, h1, ?_⟩
  exact k _ ρ' _ _ _ h2 (s.trans z2) kp ⟨O, ro2⟩ (rep_bl _)
end
section
variable {K : PySem.W.Frag} {t c : Value} {cs : List Value} {b : Bool}
theorem kany_nil : PySem.W.kitAny K t [] = some false := rfl
theorem kany_f (h : PySem.W.kitOne K t c = some false) (r : PySem.W.kitAny K t cs = some b) : PySem.W.kitAny K t (c :: cs) = some b := by unfold PySem.W.kitAny; rw [h]; exact r
end
section
variable {prog : Program} {w : World} {A : Around} {E : Value → Shared → Prop} {h : Heap} {g : Array GenState} {d : Drawn} {t : Nat} {os : OsState}
variable {nm q : Str} {C N : Addr} {bs bm : List Value} {hdct : Bool} {sn : List Str} {sub : List Value} {ab : Bool} {col : Option Bool} {dd : Option Addr} {k0 k1 k2 k3 k5 : Option Value}
theorem typecall_init (T : OwnTail h bmV bm) {mN : Str → Option Value} {rest : List Value} {fI : Addr} {oI : Obj} {Q : Fin → Shared → Prop}
    (hC : h.get? C = some (excClassObj nm q C N bs bm hdct sn sub ab col dd k0 k1 k2 k3 k5 "ValueError.__new__")) (hn : h.Ns N mN) (hi : mN "__init__" = some (.ref fI)) (hfI : h.get? fI = some oI) (hfc : oI.cls = .type "function")
    (hq : ∀ h' e, h.objs.size ≤ e → Heap.MadeExcOf h h' e (.ref C) rest → wpAny (model prog w) A (call (.ref fI) (.ref e :: rest)) (fun r s' => r = .none ∧ Q (.done (.ret (.ref e))) s') E ⟨h', g, d, t, os⟩) (hrest : rest.length ≤ sizeLine) :
    wpAny (model prog w) A (Builtin.«type.__call__» ⟨.ref C :: rest, []⟩) Q E ⟨h, g, d, t, os⟩ := by
  have F := PySem.F.excBase_ValueError
  repeat (first | with_reducible refine wpAny_loadPart_at hC ?_ | with_reducible refine wpAny_madeBy_exc hC ?_ | wp_step)
  refine codeAny_call_builtin_code (Code.quiet_builtin _ F.quiet) (wpAny_check_new_subT F T hC (codeAny_exc_new_subT F T hC ?_ hrest))
  show wpAny _ _ _ _ _ _
  generalize ho1 : ({ cls := .type "tuple", data := .seq rest.toArray } : Obj) = o1
  generalize ho2 : ({ cls := .ref C, data := .fields #[.ref h.objs.size, .none, .none, .none, .bool false, .none] } : Obj) = o2
  have keep : ∀ b o, h.get? b = some o → ((h.push o1).push o2).get? b = some o := fun b o z => Heap.get?_push_of_some _ (Heap.get?_push_of_some _ z)
  have hC₁ := keep _ _ hC
  have hfI₁ := keep _ _ hfI
  have hn₁ : ((h.push o1).push o2).Ns N mN := hn.keeps keep
  have T₁ := T.keeps keep
  have hf2 : o2.isFreed = false := by rw [← ho2]; rfl
  have hf1 : o1.isFreed = false := by rw [← ho1]; rfl
  have hget : ((h.push o1).push o2).get? (h.objs.size + 1) = some o2 := Heap.get?_push_at (by rw [Heap.size_push]) hf2
  have hcls : o2.cls = .ref C := by rw [← ho2]
  have hcC : (Value.ref C :: bm).contains (.ref C) = true := by simp
  unfold isInstance
  repeat (first | (with_reducible refine wpAny_loadPart_at hget ?_; rw [hcls]) | (with_reducible refine wpAny_isSubtype_exc hC₁ ?_; rw [hcC]) | wp_step)
  show wpAny _ _ (typeLookup (.ref C) _) _ _ _
  refine wpAny_typeLookup_tail hC₁ hn₁ T₁ F.mroIs F.init.lookup ?_
  rw [hi]
  refine wpAny_holding (wpAny_bind ?_)
  unfold bindSpecial
  refine wpAny_bind (wpAny_typeOf (T := "function") ⟨_, hfI₁, hfc⟩ ?_)
  rw [if_pos (by decide)]
  refine wpAny_pure (wpAny_bind (wpAny_mono (hq _ (h.objs.size + 1) (Nat.le_succ _) ⟨keep, Heap.get?_none_of_le (Nat.le_succ _), h.objs.size, by rw [hget, ho2], Heap.get?_none_of_le (Nat.le_refl _), ?_⟩) (fun r s' hr => ?_) fun _ _ x => x))
  · rw [ho1]; exact Heap.get?_push_of_some _ (Heap.get?_push_at rfl hf1)
  · obtain ⟨rfl, hQ⟩ := hr
    wp_walk
    exact hQ
theorem call_init (T : OwnTail h bmV bm) {mN : Str → Option Value} {rest : List Value} {fI : Addr} {oI : Obj} {Q : Value → Shared → Prop}
    (hC : h.get? C = some (excClassObj nm q C N bs bm hdct sn sub ab col dd k0 k1 k2 k3 k5 "ValueError.__new__")) (hn : h.Ns N mN) (hi : mN "__init__" = some (.ref fI)) (hfI : h.get? fI = some oI) (hfc : oI.cls = .type "function")
    (hq : ∀ h' e, h.objs.size ≤ e → Heap.MadeExcOf h h' e (.ref C) rest → wpAny (model prog w) (A.under (.builtin "type.__call__" ⟨.ref C :: rest, []⟩)) (call (.ref fI) (.ref e :: rest)) (fun r s' => r = .none ∧ Q (.ref e) s') E ⟨h', g, d, t, os⟩) (hrest : rest.length ≤ sizeLine) :
    wpAny (model prog w) A (call (.ref C) rest) Q E ⟨h, g, d, t, os⟩ := by
  have f1 := tc_lookup
  have f2 := tc_bind (.ref C)
  have hT : (⟨h, g, d, t, os⟩ : Shared).TypeIs (.ref C) "type" := ⟨_, hC, rfl⟩
  refine wpAny_call (codeAny_of_tree ?_)
  show wpAny _ _ (callAny (.ref C) _) _ _ _
  repeat (any_goals (first | assumption | with_reducible refine wpAny_loadPart_at hC ?_ | wp_step))
  refine ⟨rfl, ?_⟩
  refine codeAny_call_builtin_at (Code.quiet_builtin _ (by decide +kernel)) entry_typeCall (wpAny_check_type_call_sub hC (typecall_init T hC hn hi hfI hfc (fun h' e hz hm => ?_) hrest))
  exact hq h' e hz hm
end
section
variable {prog : Program} {w : World} {A : Around} {E : Value → Shared → Prop} {h : Heap} {g : Array GenState} {d : Drawn} {t : Nat} {os : OsState}
variable {nm q : Str} {C N : Addr} {bs bm : List Value} {hdct : Bool} {sn : List Str} {sub : List Value} {ab : Bool} {col : Option Bool} {dd : Option Addr} {k0 k1 k2 k3 k5 : Option Value}
theorem init_base (T : OwnTail h bmV bm) {rest : List Value} {e : Addr} {oe : Obj} {vs : Array Value} {Q : Value → Shared → Prop}
    (hC : h.get? C = some (excClassObj nm q C N bs bm hdct sn sub ab col dd k0 k1 k2 k3 k5 "ValueError.__new__")) (he : h.get? e = some oe) (hcls : oe.cls = .ref C) (hd : oe.data = .fields vs) {x0 : Value} (hx0 : vs[0]? = some x0)
    (hq : Q .none ⟨(h.push { cls := .type "tuple", data := .seq rest.toArray }).update e (Obj.mapFields (·.setIfInBounds 0 (Value.ref h.objs.size))), g, d, t, os⟩) (hrest : rest.length ≤ sizeLine) :
    wpAny (model prog w) A (call (.builtin "ValueError.__init__") (.ref e :: rest)) Q E ⟨h, g, d, t, os⟩ := by
  have F := PySem.F.excBase_ValueError
  have h0 : 0 < vs.size := (Array.getElem?_eq_some_iff.mp hx0).1
  have he1 := Heap.get?_push_of_some { cls := .type "tuple", data := .seq rest.toArray } he
  refine wpAny_call (codeAny_call_builtin F.init.plain F.initEntry (wpAny_check_init_subT F T hC he hcls ?_))
  repeat (first | with_reducible refine wpAny_field he1 hd hx0 ?_ | with_reducible refine wpAny_setField he1 hd h0 ?_ | wp_step)
  cases x0 <;> (repeat wp_step) <;> exact hq
end
end L2
namespace L2
open PySem PySem.Spec PyProof.Rows PySem.W Builtin.ObjectAttr Builtin
theorem refuse_tail {h : Heap} {bm : List Value} (T : OwnTail h bmV bm) (self : Value) : refuseLoop self "__setattr__" bm = pure () := by
  induction T with
  | base => exact PySem.F.store_ValueError.passes self
  | own _ _ _ _ ih => exact (refuseLoop_ref self "__setattr__" _ _).trans ih
section
variable {prog : Program} {w : World} {A : Around} {E : Value → Shared → Prop} {s : Shared} {K : PySem.W.Frag} {x C : Addr} {ox : Obj} {od : Option Obj} {name : Str} {bm : List Value} {ini : Option Value} {v : Value}
theorem xc_cls (q : xcIn K C bm ini = true) : ∃ cd, clsIn K C = some cd ∧ cd.mro = .ref C :: bm := by
  unfold xcIn at q
  split at q
  · rename_i dd cd sl ho
    split at q
    · rename_i C' bm' k0 k1 k2 k3 n k5 hm hs
      simp only [Bool.and_eq_true, beq_iff_eq] at q
      obtain ⟨⟨⟨⟨⟨⟨rfl, _⟩, _⟩, rfl⟩, _⟩, _⟩, _⟩ := q
      exact ⟨cd, by unfold clsIn; rw [ho], hm⟩
    · cases q
  · cases q
def xaOk (K : PySem.W.Frag) (C : Addr) (name : Str) : Prop := findIn K (.ref C) "__setattr__" = some (some (.builtin "object.__setattr__")) ∧ findIn K (.ref C) name = some none
theorem osa_exc {tk : Tok} {R : Result → Shared → Prop} (X : K.In s.heap) (I : InstAt s.heap x ox C od) (hc : xcIn K C bm ini = true) (hm : mroIn K C (.type "object") = some true) (ha : findIn K (.ref C) name = some none)
    (h : wpAny (model prog w) A.in1 (storeInOwnDict (.ref x) (.ref C) (.str name tk) name v false) (fun fin s' => match fin with | .done f => R (.ok f) s' | .again c' => c'.quiet = true ∧ codeAny (model prog w) A c' R s') (fun e s' => R (.error e) s') s) :
    codeAny (model prog w) A (.call (.builtin "object.__setattr__") ⟨[.ref x, .str name tk, v], []⟩) R s := by
  have F := PySem.F.store_object
  obtain ⟨cd, hcd, hmro⟩ := xc_cls hc
  obtain ⟨N, nm, q, bs, hdct, sn, sub, ab, col, dd, k0, k1, k2, k3, k5, mN, hC, hN, hni, T⟩ := xobj_of X hc
  have L1 : Looks (model prog w) s.heap (isInstance (.ref x) (.type "object")) true := I.type.andThen (looks_mroIn X hm)
  have L2 : Looks (model prog w) s.heap (mroOf (.ref C)) cd.mro := (looks_clsIn X hcd).andThen .now
  refine codeAny_call_builtin F.slot.plain F.entry ?_
  refine check_slot (i := "object.__setattr__") (owner := "object") (n := "__setattr__") F.kind F.split L1 (F.args _ _ _) ?_
  rw [osa_eq, refuse_eq]
  refine wpAny_bind (wpAny_bind (I.type.here (wpAny_bind (L2.here ?_))))
  rw [hmro, refuseLoop_ref, refuse_tail T]
  refine wpAny_pure (wpAny_bind (I.type.here ?_))
  refine wpAny_bind ((looks_findIn X ha).here (wpAny_bind ?_))
  exact wpAny_pure h
theorem hasD (hd : hasDictIn K C = true) : ∃ cd, clsIn K C = some cd ∧ cd.hasDict = true := any_some hd
theorem xset1 {d0 : Addr} {mA : Str → Option Value} {ns : List Str} {Q : Unit → Shared → Prop} {vs : Array Value} {sl : Array (Option Value)} (X : K.In s.heap) (hx : s.heap.get? x = some ⟨.ref C, some d0, .fields vs, sl⟩) (hn : s.heap.Ns1 d0 mA) (hne : d0 ≠ x)
    (hc : xcIn K C bm ini = true) (ho : xcOk K C = true) (hs : xaOk K C name) (hw : PySem.Within mA ns) (hz : ns.length ≤ 100)
    (h : ∀ h' tk', h'.Ns1 d0 (fun y => if y = name then some v else mA y) → Heap.SameBut d0 s.heap h' → Q () { s with heap := h', toks := tk' }) : wpAny (model prog w) A (setAttr (.ref x) name v) Q E s := by
  obtain ⟨o, es, ep, e1, e2⟩ := id hn
  have J : InstAt s.heap x ⟨.ref C, some d0, .fields vs, sl⟩ C (some o) := ⟨hx, rfl, rfl, e1⟩
  simp only [xcOk, Bool.and_eq_true, beq_iff_eq] at ho
  obtain ⟨cd, hcd, hd'⟩ := hasD ho.2
  refine set_plain X J hs.1 (osa_exc (s := { s with toks := s.toks + 1 }) X J hc ho.1.2 hs.2 ?_)
  refine wpAny_bind (wpAny_pure (wpAny_bind (wpAny_bind (wpAny_loadPart hx (wpAny_bind (Looks.here (s := { s with toks := s.toks + 1 }) (looks_clsIn X hcd) ?_))))))
  rw [hd']
  refine wpAny_pure (a := some d0) (wpAny_bind (wpAny_pure (wpAny_bind ?_)))
  refine wpAny_nsSet1 (s := { s with toks := s.toks + 1 }) hn fun h' hn2 hs2 => ?_
  obtain ⟨oD, esD, epD, hoD, hdD, hcD⟩ := hn2.count (Within.cons name v hw)
  refine wpAny_bind (wpAny_lookBehind hoD ?_ ?_)
  · rw [hdD]; exact pastItsLine_dict (Nat.le_trans hcD (by rw [List.length_cons, sizeLine_eq]; omega))
  · exact wpAny_pure (h h' _ hn2 hs2)
theorem xset0 {Q : Unit → Shared → Prop} {vs : Array Value} {sl : Array (Option Value)} (X : K.In s.heap) (hx : s.heap.get? x = some ⟨.ref C, none, .fields vs, sl⟩)
    (hc : xcIn K C bm ini = true) (ho : xcOk K C = true) (hs : xaOk K C name)
    (h : ∀ h' tk', h'.Ns1 s.heap.objs.size (fun y => if y = name then some v else none) → h'.get? x = some ⟨.ref C, some s.heap.objs.size, .fields vs, sl⟩ → (∀ b o, b ≠ x → s.heap.get? b = some o → h'.get? b = some o) → Q () { s with heap := h', toks := tk' }) :
    wpAny (model prog w) A (setAttr (.ref x) name v) Q E s := by
  have J : InstAt s.heap x ⟨.ref C, none, .fields vs, sl⟩ C none := ⟨hx, rfl, rfl, trivial⟩
  simp only [xcOk, Bool.and_eq_true, beq_iff_eq] at ho
  obtain ⟨cd, hcd, hd'⟩ := hasD ho.2
  refine set_plain X J hs.1 (osa_exc (s := { s with toks := s.toks + 1 }) X J hc ho.1.2 hs.2 ?_)
  refine wpAny_bind (wpAny_pure (wpAny_bind (wpAny_bind (wpAny_loadPart hx (wpAny_bind (Looks.here (s := { s with toks := s.toks + 1 }) (looks_clsIn X hcd) ?_))))))
  rw [hd']
  show wpAny _ _ (do let d ← alloc ({ cls := .type "dict", data := .dict #[] } : Obj); update x (fun o => { o with dict := some d }); pure (some d)) _ _ _
  generalize hO : ({ cls := .type "dict", data := .dict #[] } : Obj) = O
  have hOf : O.isFreed = false := by rw [← hO]; rfl
  have hx1 : (s.heap.push O).get? x = some ⟨.ref C, none, .fields vs, sl⟩ := Heap.get?_push_of_some _ hx
  have hne : s.heap.objs.size ≠ x := Nat.ne_of_gt (Heap.lt_size hx)
  generalize hU : (fun o : Obj => { o with dict := some s.heap.objs.size }) = U
  have hx2 : ((s.heap.push O).update x U).get? x = some ⟨.ref C, some s.heap.objs.size, .fields vs, sl⟩ := by
    have z := Heap.get?_update_self U hx1 (by rw [← hU]; rfl)
    rw [z, ← hU]
  have hd2 : ((s.heap.push O).update x U).get? s.heap.objs.size = some O := (Heap.get?_update_other _ _ (Ne.symm hne)).trans (Heap.get?_push_size _ hOf)
  have hn : ((s.heap.push O).update x U).Ns s.heap.objs.size (fun _ => none) := ⟨O, #[], _, hd2, by rw [← hO], fun e he => absurd he (by simp), fun _ => rfl⟩
  refine wpAny_bind (wpAny_alloc' ?_)
  refine wpAny_bind (wpAny_update' hx1 ?_)
  refine wpAny_pure ?_
  show wpAny _ _ (storeInDict s.heap.objs.size (.str name s.toks) name v) _ _ _
  rw [hU]
  refine wpAny_bind (wpAny_pure (wpAny_bind ?_))
  refine wpAny_nsSet1 (s := { s with heap := (s.heap.push O).update x U, toks := s.toks + 1 }) (Heap.Ns1.of_empty hn) fun h' hn2 hs2 => ?_
  obtain ⟨oD, esD, epD, hoD, hdD, hcD⟩ := hn2.count (Within.cons name v Within.nil)
  refine wpAny_bind (wpAny_lookBehind hoD ?_ ?_)
  · rw [hdD]; exact pastItsLine_dict (Nat.le_trans hcD (by rw [List.length_cons, List.length_nil, sizeLine_eq]; omega))
  · refine wpAny_pure (h h' _ hn2 ((hs2.2 x (Ne.symm hne)).trans hx2) fun b o hb q => ?_)
    have hbs : b ≠ s.heap.objs.size := Nat.ne_of_lt (Heap.lt_size q)
    exact (hs2.2 b hbs).trans ((Heap.get?_update_other _ _ (Ne.symm hb)).trans (Heap.get?_push_of_some _ q))
end
end L2
namespace L2
open PySem PySem.Spec PyProof.Rows
def excψ (e : Addr) (cls : Value) (dx : Option Addr) : Heap → Prop := fun h => ∃ (vs : Array Value) (sl : Array (Option Value)), h.get? e = some ⟨cls, dx, .fields vs, sl⟩ ∧ (∃ x0, vs[0]? = some x0) ∧ vs[1]? = some .none
def xdφ (d : Addr) (fs : List (Str × V)) : Heap → Prop := fun h => ∃ mA, h.Ns1 d mA ∧ (∀ f, RelO (fs.lookup f) (mA f)) ∧ ∃ ns, PySem.Within mA ns ∧ ns.length ≤ fs.length
theorem excψ.st {e : Addr} {cls : Value} {dx : Option Addr} {h1 h2 : Heap} (q : excψ e cls dx h1) (k : ∀ o, h1.get? e = some o → h2.get? e = some o) : excψ e cls dx h2 := by
  obtain ⟨vs, sl, a, b⟩ := q; exact ⟨vs, sl, k _ a, b⟩
theorem xdφ.st {d : Addr} {fs : List (Str × V)} {h1 h2 : Heap} (q : xdφ d fs h1) (k : ∀ o, h1.get? d = some o → h2.get? d = some o) : xdφ d fs h2 := by
  obtain ⟨mA, a, b⟩ := q; exact ⟨mA, a.at k, b⟩
theorem excψ.ok {P : Program} {w : World} {H : Hp} {e : Addr} {cls : Value} {dx : Option Addr} {h : Heap} (q : excψ e cls dx h) : ObjOk P w H h e (.ext (excψ e cls dx)) := ⟨q, ⟨_, q.choose_spec.choose_spec.1⟩, fun _ _ a b => a.st b⟩
theorem xdφ.ok {P : Program} {w : World} {H : Hp} {d : Addr} {fs : List (Str × V)} {h : Heap} (q : xdφ d fs h) : ObjOk P w H h d (.ext (xdφ d fs)) := by
  obtain ⟨mA, ⟨o, es, ep, e1, e2⟩, b⟩ := id q
  exact ⟨q, ⟨_, e1⟩, fun _ _ a b => a.st b⟩
def FmtV : V → Prop
  | .non => True
  | .int i => i.natAbs.log2 < 1920
  | .str x => x.length ≤ 1000
  | _ => False
def spInit (C : Addr) (ns : List Str) : Sp := fun vs H Q E => ∃ e xs, vs = .ref e :: xs ∧ xs.length = ns.length ∧ (∀ x ∈ xs, FmtV x) ∧ H e = some (.ext (excψ e (.ref C) none)) ∧
  ∀ d, H d = none → Q .non (upd (upd H e (.ext (excψ e (.ref C) (some d)))) d (.ext (xdφ d (ns.zip xs))))
section
variable {X : Cx} {pins : List (Addr × Obj)} {σ : St} {H : Hp} {s : Shared} {e C fI : Addr} {bm : List Value}
theorem Inv.trackφ {φ : Heap → Prop} {o0 : Obj} {vs : Array Value} (I : Inv X pins σ H s) (he : s.heap.get? e = some o0) (hd : o0.data = .fields vs) (o : Out X pins H e) (hφ : ObjOk X.prog X.w (upd H e (.ext φ)) s.heap e (.ext φ)) : Inv X pins σ (upd H e (.ext φ)) s := by
  have ne : ∀ b u, H b = some u → b ≠ e := fun b u q z => by rw [z, o.unt] at q; cases q
  have up : ∀ b, b ≠ e → upd H e (.ext φ) b = H b := fun b z => upd_ne z
  have old : ∀ b ob, X.s₀.heap.get? b = some ob → b ≠ e := fun b ob q z => by rw [z, o.new] at q; cases q
  have nf := I.fieldsNot he hd
  refine ⟨I.ok, I.os, I.bare, ⟨I.base.keep, I.base.slot, fun b ob q n hx => (up b (old b ob q)).trans (I.base.free b ob q n hx), I.base.there, fun b xs q => ?_, fun b ob u q => ?_, fun b ps q => ?_⟩, I.loc, I.cell,
    (up _ (Ne.symm nf.1)).trans I.free, fun x c q => (up _ (nf.2 x c q)).trans (I.freeC x c q), fun q hq => ?_, fun b u q => ?_, I.len⟩
  · have z := I.base.tups b xs q; exact (up b (ne b _ z)).trans z
  · have z := I.base.frzs b ob u q; exact (up b (ne b _ z)).trans z
  · obtain ⟨m, z⟩ := I.base.tbls b ps q; exact ⟨m, (up b (ne b _ z)).trans z⟩
  · obtain ⟨a1, a2, a3⟩ := I.pin q hq; exact ⟨a1, (up _ (o.pin q hq)).trans a2, a3⟩
  · by_cases hb : b = e
    · subst hb; rw [upd_same] at q; cases q; exact hφ
    · rw [up b hb] at q
      exact (I.hok b u q).stay (fun _ _ _ z => z) (fun c z => (up c (ne c _ z)).trans z) fun c xs z => (up c (ne c _ z)).trans z
theorem run_init {k : Nat} {fd : FuncData} {ps ns : List Str} {Q : Value → Shared → Prop} {us : List Value} {vs : List V} (F : FnOk X.prog X.w X.K X.mg X.base CX0 k fI fd ps (spInit C ns)) (hr : Room (k + 1) X.A) (hb : Binds X.K fd ps [])
    (hc : xcIn X.K C bm (some (.ref fI)) = true) (hf : PySem.W.typeIn X.K (.ref fI) = some (.type "function")) (hex : X.ex = []) (hps : ps.length = ns.length + 1) (hsz : ns.length ≤ sizeLine) (I : Inv X pins σ H s) (r : Vals vs us) (hl : vs.length = ns.length) (hv : ∀ x ∈ vs, FmtV x)
    (h : ∀ ea d s', Inv X pins σ (upd H d (.xd (ns.zip vs))) s' → H d = none → FlyO s'.heap ea (.ref C) (some d) none → Out X pins (upd H d (.xd (ns.zip vs))) ea → Q (.ref ea) s') :
    wpAny (model X.prog X.w) X.A (call (.ref C) us) Q X.xe s := by
  obtain ⟨N, nm, q, bs, hdct, sn, sub, ab, col, dd, k0, k1, k2, k3, k5, mN, hC, hN, hni, T⟩ := xobj_of I.kIn hc
  obtain ⟨oI, hoI, hcl⟩ : ∃ o, X.K.lookup fI = some o ∧ o.cls = .type "function" := by
    unfold PySem.W.typeIn at hf
    exact Option.map_eq_some_iff.mp hf
  obtain ⟨h0, g0, d0, t0, os0⟩ := s
  refine call_init T hC hN hni (I.kIn _ _ hoI) hcl (fun h' e hz m => ?_) (by rw [← r.length, hl]; exact hsz)
  have I1 : Inv X pins σ H ⟨h', g0, d0, t0, os0⟩ := I.kept (t' := t0) m.keeps
  have hno : H e = none := I.hok.no m.new
  have oe : Out X pins H e := ⟨I.old hex m.new, hno, I.pinNo m.new⟩
  obtain ⟨tt, ht, _, _⟩ := m.there
  have ψ0 : excψ e (.ref C) none h' := ⟨_, _, ht, ⟨_, rfl⟩, rfl⟩
  have I2 := I1.trackφ (φ := excψ e (.ref C) none) ht rfl oe ψ0.ok
  have r2 : Vals (V.ref e :: vs) (Value.ref e :: us) := .cons rfl r
  have hlen : (Value.ref e :: us).length = ps.length := by rw [List.length_cons, hps, ← r.length, hl]
  have bnd := hb ⟨h', g0, d0, t0, os0⟩ (Value.ref e :: us) I2.kIn (by rw [List.append_nil]; exact hlen)
  rw [List.append_nil] at bnd
  have run := F.run _ X.stack ⟨h', g0, d0, t0, os0⟩ _ ⟨Value.ref e :: us, []⟩ (Value.ref e :: us) (V.ref e :: vs)
    (fun v H' => v = .non ∧ ∃ d, upd H e (.ext (excψ e (.ref C) none)) d = none ∧ H' = upd (upd (upd H e (.ext (excψ e (.ref C) none))) e (.ext (excψ e (.ref C) (some d)))) d (.ext (xdφ d (ns.zip vs)))) E0
    (hr.make C us []) (I2.env0.make C us []) bnd r2 ⟨e, vs, rfl, hl, hv, upd_same, fun d hd => ⟨rfl, d, hd, rfl⟩⟩
  refine wpAny_call (codeAny_mono run fun rr s' hq' => ?_)
  cases rr with
  | error x => exact hq'.elim
  | ok fl =>
    cases fl with
    | next => exact False.elim hq'
    | brk => exact False.elim hq'
    | cont => exact False.elim hq'
    | ret u =>
      obtain ⟨v, H', hos, bare, un, hok, rv, rfl, d, hd, rfl⟩ := hq'
      have hde : d ≠ e := fun z => by rw [z, upd_same] at hd; cases hd
      have hHd : H d = none := by rw [upd_ne hde] at hd; exact hd
      refine ⟨rv, ?_⟩
      rw [upd_upd] at un hok
      generalize hHf : upd H d (.xd (ns.zip vs)) = Hf
      have at' : ∀ b, b ≠ e → b ≠ d → upd (upd H e (.ext (excψ e (.ref C) (some d)))) d (.ext (xdφ d (ns.zip vs))) b = Hf b := fun b h1 h2 => by rw [upd_ne h2, upd_ne h1, ← hHf, upd_ne h2]
      have atd : upd (upd H e (.ext (excψ e (.ref C) (some d)))) d (.ext (xdφ d (ns.zip vs))) d = some (.ext (xdφ d (ns.zip vs))) := upd_same
      have ate : upd (upd H e (.ext (excψ e (.ref C) (some d)))) d (.ext (xdφ d (ns.zip vs))) e = some (.ext (excψ e (.ref C) (some d))) := by rw [upd_ne (Ne.symm hde), upd_same]
      have fe : Hf e = none := by rw [← hHf, upd_ne (Ne.symm hde)]; exact hno
      have hne : ∀ b o, h0.get? b = some o → b ≠ e := fun b o q z => by rw [z, m.new] at q; cases q
      have hup : ∀ b o, h0.get? b = some o → H b = none → upd H e (.ext (excψ e (.ref C) none)) b = none := fun b o q n => by rw [upd_ne (hne b o q)]; exact n
      have un0 : Un (frs X.stack) [] H Hf h0 s'.heap := {
        keep := fun b o q n hn hx => un.keep b o (m.keeps b o q) (hup b o q n) hn hx
        slot := fun b o q n hn hx => un.slot b o (m.keeps b o q) (hup b o q n) hn hx
        free := fun b o q n hx => by
          have z := un.free b o (m.keeps b o q) (hup b o q n) hx
          have hbd : b ≠ d := fun y => by rw [y, atd] at z; cases z
          rw [← hHf, upd_ne hbd]; exact n
        there := fun b o q hx => un.there b o (m.keeps b o q) hx
        tups := fun b xs z => by rw [← hHf, upd_ne (ne_of_none z hHd)]; exact z
        frzs := fun b o u z => by rw [← hHf, upd_ne (ne_of_none z hHd)]; exact z
        tbls := fun b ps z => ⟨#[], by rw [← hHf, upd_ne (ne_of_none z hHd), z]; simp⟩ }
      have hokf : HOk X.prog X.w Hf s'.heap := fun a o q => by
        by_cases had : a = d
        · subst had
          rw [← hHf, upd_same] at q; cases q
          obtain ⟨⟨mA, z1, z2, z3⟩, _⟩ := (show ObjOk X.prog X.w _ s'.heap a (.ext (xdφ a (ns.zip vs))) from hok a _ atd)
          exact ⟨mA, z1, z2⟩
        · have hae : a ≠ e := fun z => by rw [z, fe] at q; cases q
          refine (hok a o ((at' a hae had).trans q)).stay (fun _ _ _ z => z) (fun b z => ?_) fun b xs z => ?_
          · have h1 : b ≠ e := fun y => by rw [y, ate] at z; cases z
            have h2 : b ≠ d := fun y => by rw [y, atd] at z; cases z
            rw [← at' b h1 h2]; exact z
          · have h1 : b ≠ e := fun y => by rw [y, ate] at z; cases z
            have h2 : b ≠ d := fun y => by rw [y, atd] at z; cases z
            rw [← at' b h1 h2]; exact z
      have I3 : Inv X pins σ Hf s' := I.call' hos un0 hokf bare (ch := []) fun b z => absurd z (by simp)
      have hx := h e d s'
      rw [hHf] at hx
      obtain ⟨⟨ws, sl, z1, _, z2⟩, _⟩ := (show ObjOk X.prog X.w _ s'.heap e (.ext (excψ e (.ref C) (some d))) from hok e _ ate)
      exact hx I3 hHd ⟨⟨ws, sl, z1, z2⟩, fun t z => by cases z⟩ ⟨oe.new, fe, oe.pin⟩
end
section
variable {prog : Program} {w : World} {A : Around} {E : Value → Shared → Prop} {s : Shared} {env : Env}
theorem raise_made {x : Expr} {pos : Pos} {Q : Flow → Shared → Prop} (hh : A.handled = none)
    (h : wpAny (model prog w) A (eval x env) (fun v s₁ => ∃ e C bm ini dx, v = .ref e ∧ XObj s₁.heap C bm ini ∧ ExcAt s₁.heap e (.ref C) dx .none ∧ E v s₁) E s) :
    wpAny (model prog w) A (exec (.Raise (some x) none pos) env) Q E s := by
  rw [arm_exec_Raise]
  simp only [evalOpt, Option.map]
  refine wpAny_bind (wpAny_standAt ?_)
  unfold raiseStmt
  refine wpAny_bind (wpAny_bind (wpAny_mono h (fun v s₁ z => wpAny_bind (wpAny_standAt (wpAny_pure ?_))) fun _ _ y => y))
  obtain ⟨e, C, bm, ini, dx, rfl, ⟨N, nm, q, bs, hdct, sn, sub, ab, col, dd, k0, k1, k2, k3, k5, mN, hC, hN, hni, T⟩, ⟨vs, sl, he, h1⟩, hE⟩ := z
  obtain ⟨hp, g, d, tk, os⟩ := s₁
  have hcB : (Value.ref C :: bm).contains (.type "BaseException") = true := by rw [List.contains_cons, tail_base T, Bool.or_true]
  have fl : ∀ {α : Type} {k : Sem α} {Q : α → Shared → Prop}, wpAny (model prog w) A k Q E ⟨hp, g, d, tk, os⟩ → wpAny (model prog w) A (setFlight (.ref e) none >>= fun _ => k) Q E ⟨hp, g, d, tk, os⟩ := fun {α k Q} hk => by
    unfold setFlight
    exact wpAny_bind (wpAny_bind (wpAny_field he rfl h1 (wpAny_pure hk)))
  repeat (first | with_reducible refine wpAny_loadPart_at he ?_ | with_reducible refine wpAny_loadPart_at hC ?_ | (with_reducible refine wpAny_isSubtype_exc hC ?_; rw [hcB]) | with_reducible refine fl ?_ | wp_step)
  exact wpAny_raiseNew_none hh hE
end
section
variable {X : Cx} {xk : XS} {x : Str} {C fI : Addr} {bm : List Value} {e : Expr} {args : List Expr} {np cpos pos : Pos} {t : TA} {k : Nat} {fd : FuncData} {ps ns : List Str}
def tRaise1 (xk : XS) (C : Addr) (ns : List Str) (t : TA) : TS := fun _ σ H => t σ H fun vs H1 => vs.length = ns.length ∧ (∀ x ∈ vs, FmtV x) ∧ ∀ d, H1 d = none → xk σ (.ref C) (some d) (upd H1 d (.xd (ns.zip vs)))
theorem ps_raise1 (hex : X.ex = []) (hcalm : X.calm = true) (ac : Acc X xk) (F : FnOk X.prog X.w X.K X.mg X.base CX0 k fI fd ps (spInit C ns)) (hr : Room (k + 1) X.A) (hb : Binds X.K fd ps []) (hc : xcIn X.K C bm (some (.ref fI)) = true)
    (hf : PySem.W.typeIn X.K (.ref fI) = some (.type "function")) (hk : PySem.W.keepIn X.K (.ref C) = true) (hps : ps.length = ns.length + 1) (hsz : ns.length ≤ sizeLine) (hg : Gl X x) (hm : X.mg x = some (.ref C)) (ha : PA X (e :: args) t)
    (hdb : (x == ("__debug__" : Str)) = false := by decide) (he : starEach (e :: args) X.env = (false, eval e X.env) :: starEach args X.env := by rfl) (hpl : (backTo cpos (starEach args X.env)).any (·.1) = false := by rfl) :
    PS X (.Raise (some (.Call (.Name x np) (e :: args) [] cpos)) none pos) (tRaise1 xk C ns t) := by
  refine ⟨fun pins s σ H D I h => raise_made (I.ok.hd hcalm) (wpAny_Call_Name_kw (ld_glob I hg hm ?_ hdb))⟩
  refine PySem.W.callWith_K (h₀ := X.base) I.ok.mod.kin hk (thn (ha cpos pins s σ H _ I h) fun us s1 ⟨vs, H1, I1, r, hl, hv, q⟩ => ⟨I1.kIn, ?_⟩) he hpl
  refine run_init F hr hb hc hf hex hps hsz I1 r hl hv fun ea d s' J hd fl oe => ?_
  exact ⟨ea, C, bm, _, some d, rfl, xobj_of J.kIn hc, fl.ex, ac.go pins σ _ s' ea (.ref C) (some d) J ⟨none, fl, oe, fun t z => by cases z⟩ (q d hd)⟩
end
def FmtD : D → Prop
  | .non => True
  | .int i => i.natAbs.log2 < 1920
  | .str x => x.length ≤ 1000
  | _ => False
theorem FmtD.v {H : Hp} {d : D} {v : V} (h : FmtD d) (r : Rep H d v) : FmtV v := by
  cases d with
  | non => rw [Rep] at r; subst r; exact h
  | int i => rw [Rep] at r; subst r; exact h
  | str x => rw [Rep] at r; subst r; exact h
  | _ => exact h.elim
theorem fmt_reps {H : Hp} : ∀ {ds : List D} {vs : List V}, (∀ d ∈ ds, FmtD d) → Reps H ds vs → ∀ v ∈ vs, FmtV v
  | [], vs, _, r, v, hv => by rw [Reps] at r; subst r; cases hv
  | d :: ds, vs, h, r, v, hv => by
    rw [Reps] at r
    obtain ⟨w, ws, rfl, r1, r2⟩ := r
    rcases List.mem_cons.mp hv with rfl | hv
    · exact (h d (by simp)).v r1
    · exact fmt_reps (fun d' hd => h d' (by simp [hd])) r2 v hv
section
variable {X : Cx} {M : Md} {e : Expr} {es : List Expr} {mr : MA} {x : Str} {pos : Pos} {k : Nat} {fd : FuncData} {ps ns : List Str}
def mRaise1 (c : Addr) (ns : List Str) (m : MA) : MSX := fun xx _ ρ => m ρ fun ds ρ1 => ds.length = ns.length ∧ (∀ d ∈ ds, FmtD d) ∧ xx c ns ds ρ1
theorem qx_raise1 {C fI : Addr} {bm : List Value} {np cpos : Pos} (F : FnOk X.prog X.w X.K X.mg X.base CX0 k fI fd ps (spInit C ns)) (hr : Room (k + 1) X.A) (hb : Binds X.K fd ps []) (hc : xcIn X.K C bm (some (.ref fI)) = true)
    (hf : PySem.W.typeIn X.K (.ref fI) = some (.type "function")) (hk : PySem.W.keepIn X.K (.ref C) = true) (hg : Gl X x) (hm : X.mg x = some (.ref C)) (ha : QA X.nox M.ow (e :: es) mr) (hps : ps.length = ns.length + 1 := by rfl) (hsz : ns.length ≤ sizeLine := by simp [sizeLine]) (hcalm : X.calm = true := by rfl) (hex : X.ex = [] := by rfl)
    (hdb : (x == ("__debug__" : Str)) = false := by decide) (he : starEach (e :: es) X.env = (false, eval e X.env) :: starEach es X.env := by rfl) (hpl : (backTo cpos (starEach es X.env)).any (·.1) = false := by rfl) :
    QX X M (.Raise (some (.Call (.Name x np) (e :: es) [] cpos)) none pos) (mRaise1 C ns mr) := by
  obtain ⟨t, p, s⟩ := ha
  refine ⟨fun xk => tRaise1 xk C ns t, fun E q xk g => ps_raise1 (X := X.tr E q) hex hcalm g.2 F hr hb hc hf hk hps hsz hg hm (PA.any p) hdb he hpl, fun C' G ρ σ H n D xx xk hm hn r h k kx => s C' G ρ σ H [] _ _ r h fun ds ρ' vs G' H' hq z kp r' p' hl => ?_⟩
  obtain ⟨h1, h2, h3⟩ := hq
  have hvl := p'.length
  refine ⟨by rw [hvl, h1], fmt_reps h2 p', fun d hd => ?_⟩
  obtain ⟨O, ro⟩ := r'
  obtain ⟨ro2, z2⟩ := ro.new hd (.xd (ns.zip vs))
  exact kx.go C ns ds ρ' σ (some d) _ _ h3 (z.trans z2) ⟨O, ro2⟩ ⟨vs, by simp [upd], by rw [hvl, h1], Reps.mono z2 _ _ p'⟩
end
structure PJ (X : Cx) (es : List Expr) (c : St → Prop) : Prop where
  go : ∀ (pins : List (Addr × Obj)) (s : Shared) (σ : St) (H : Hp) (acc : Str) (Q : Str → Shared → Prop), Inv X pins σ H s → c σ → acc.length + 2000 * es.length ≤ sizeLine →
    (∀ out s', Inv X pins σ H s' → out.length ≤ acc.length + 2000 * es.length → Q out s') → Joins (model X.prog X.w) X.A X.xe (evalEach es X.env) acc Q s
section
variable {X : Cx} {es : List Expr} {c : St → Prop}
theorem pj_nil : PJ X [] (fun _ => True) := ⟨fun pins s σ H acc Q I _ hz k => k acc s I (Nat.le_add_right _ _)⟩
theorem pj_step {e : Expr} {c' : St → Prop} (h : PJ X es c) (he : ∀ (pins : List (Addr × Obj)) (s : Shared) (σ : St) (H : Hp) (Q : Value → Shared → Prop), Inv X pins σ H s → c' σ → (∀ y t s', Inv X pins σ H s' → y.length ≤ 2000 → Q (.str y t) s') → wpAny (model X.prog X.w) X.A (eval e X.env) Q X.xe s) :
    PJ X (e :: es) (fun σ => c' σ ∧ c σ) := by
  refine ⟨fun pins s σ H acc Q I hc hz k => ?_⟩
  rw [List.length_cons] at hz k
  refine he pins s σ H _ I hc.1 fun y t s' I' hy => ⟨y, t, rfl, ?_, ?_⟩
  · rw [strLen_append]; omega
  · refine h.go pins s' σ H (acc ++ y) Q I' hc.2 (by rw [strLen_append]; omega) fun out s2 I2 ho => k out s2 I2 ?_
    rw [strLen_append] at ho; omega
theorem pj_lit {x : Str} {k : Nat} {p : Pos} (h : PJ X es c) (hx : x.length ≤ 2000 := by decide) : PJ X (.Constant (.str x) k p :: es) (fun σ => True ∧ c σ) :=
  pj_step h fun pins s σ H Q I _ q => thn (pe_str.go pins s σ H (fun v H' => v = .str x ∧ H' = H) I ⟨rfl, rfl⟩) fun u s1 ⟨v, H1, I1, r1, e1, e2⟩ => by
    subst e1 e2; obtain ⟨t, rfl⟩ := (show ∃ t, u = Value.str x t from r1); exact q x t s1 I1 hx
theorem pj_var {i : Nat} {x : Str} {np p : Pos} (hv : PE X (.Name x np) (tVar i)) (h : PJ X es c) : PJ X (.FormattedValue (.Name x np) (-1) none p :: es) (fun σ => (∃ v, σ[i]? = some (some v) ∧ FmtV v) ∧ c σ) :=
  pj_step h fun pins s σ H Q I hc q => by
    obtain ⟨v, h1, h2⟩ := hc
    refine wpAny_FormattedValue_plain (thn (hv.go pins s σ H (fun v' H' => v' = v ∧ H' = H) I ⟨v, h1, rfl, rfl⟩) fun u s1 ⟨v1, H1, I1, r1, e1, e2⟩ => ?_)
    subst e1 e2
    cases v1 with
    | non => cases (show u = Value.none from r1); exact wpAny_formatField_none (q _ _ _ (I1.tok _) (by decide))
    | int a => obtain ⟨t, rfl⟩ := (show ∃ t, u = Value.int a t from r1); exact wpAny_formatField_int h2 (q _ _ _ (I1.tok _) (Nat.le_trans (PyProof.Rows.int_text_len_1921 h2) (by decide)))
    | str y => obtain ⟨t, rfl⟩ := (show ∃ t, u = Value.str y t from r1); exact wpAny_formatField_str (q _ _ _ I1 (Nat.le_trans h2 (by decide))) (q _ _ _ (I1.tok _) (Nat.le_trans h2 (by decide))) (Nat.le_trans h2 (by decide))
    | _ => exact h2.elim
def tJoin (c : St → Prop) : TE := fun σ H Q => c σ ∧ ∀ y : Str, Q (.str y) H
theorem pe_join {a b : Expr} {p : Pos} (h : PJ X (a :: b :: es) c) (hz : (a :: b :: es).length ≤ 1000 := by decide) : PE X (.JoinedStr (a :: b :: es) p) (tJoin c) := by
  refine ⟨fun pins s σ H Q I hq => wpAny_JoinedStr (h.go pins s σ H _ _ I hq.1 ?_ fun out s' I' ho => ⟨?_, .str out, H, I'.tok _, ⟨_, rfl⟩, hq.2 out⟩)⟩
  · have : (Str.empty : Str).length = 0 := rfl
    rw [sizeLine_eq]; omega
  · have : (Str.empty : Str).length = 0 := rfl
    rw [sizeLine_eq]; omega
end
structure BaseIn (K : PySem.W.Frag) (B : Addr) : Prop where
  r : PySem.W.readsIn K B (.type "type") = true
  f : PySem.W.findCls K (.ref B) (.type "type") "__init__" = some (.val (.builtin "ValueError.__init__"))
  g : PySem.W.specialIn K (.ref B) "__getattribute__" = some (some (.builtin "type.__getattribute__"))
section
variable {X : Cx} {C B : Addr} {bm : List Value} {ini : Option Value} {x : Str} {a b : Expr} {np apos pos pos' : Pos} {t : TA}
def tBInit (C : Addr) (t : TA) : TE := fun σ H Q => t σ H fun vs H1 => ∃ e y dx, vs = [.ref e, .str y] ∧ H1 e = some (.ext (excψ e (.ref C) dx)) ∧ Q .non (upd H1 e (.ext (excψ e (.ref C) dx)))
theorem pe_binit {pl : Sem Bool} (hB : BaseIn X.K B) (hc : xcIn X.K C bm ini = true) (hg : Gl X x) (hm : X.mg x = some (.ref B)) (ha : PA X [a, b] t) (hdb : (x == ("__debug__" : Str)) = false := by decide)
    (he : starEach [a, b] X.env = (false, eval a X.env) :: starEach [b] X.env := by rfl) (hpl : (backTo pos (starEach [b] X.env)).any (·.1) = false := by rfl)
    (ht : eval (.Call (.Attribute (.Name x np) "__init__" apos) [a, b] [] pos) X.env = (do
      let ov ← eval (.Name x np) X.env
      standAt apos.atName
      let (f, first) ← holding [ov] (getMethod ov "__init__" pl)
      callWith pos f first (backTo pos (starEach [a, b] X.env)) (backToKw pos (keywordEach [] X.env))) := by rfl) :
    PE X (.Call (.Attribute (.Name x np) "__init__" apos) [a, b] [] pos) (tBInit C t) := by
  refine ⟨fun pins s σ H Q I h => PySem.W.methodCall_KW (pl := pl) (ld_glob I hg hm ?_ hdb) ht⟩
  refine PySem.W.method_cls I.kIn hB.g (PySem.W.cls_value I.kIn hB.r hB.f rfl ?_)
  have I0 := I.tok (s.toks + 1)
  have hA := ha pos pins _ σ H _ I0 h
  show wpAny _ _ (callWith pos (.builtin "ValueError.__init__") [] (backTo pos (starEach [a, b] X.env)) []) _ _ _
  rw [he] at hA ⊢
  refine Calls.callWith_builtin (by show (false || (backTo pos (starEach [b] X.env)).any (·.1)) = false; rw [hpl] <;> rfl) (Calls.evalArgs_plain (thn hA fun us s2 ⟨vs, H2, I2, r2, e, y, dx, ev, hH, q⟩ => ?_))
  subst ev
  obtain ⟨u1, u2, rfl, r3, r4⟩ := vals2 r2
  cases (show u1 = Value.ref e from r3)
  obtain ⟨ty, rfl⟩ := (show ∃ t, u2 = Value.str y t from r4)
  obtain ⟨⟨ws, sl, z1, ⟨x0, z0⟩, z2⟩, _⟩ := (show ObjOk X.prog X.w _ s2.heap e (.ext (excψ e (.ref C) dx)) from I2.hok e _ hH)
  obtain ⟨N, nm, q', bs, hdct, sn, sub, ab, col, dd, k0, k1, k2, k3, k5, mN, hC, hN, hni, T⟩ := xobj_of I2.kIn hc
  obtain ⟨h0, g0, d0, t0, os0⟩ := s2
  refine init_base T hC z1 rfl rfl z0 ?_ (by simp [sizeLine])
  generalize hO : ({ cls := .type "tuple", data := .seq ([Value.str y ty] : List Value).toArray } : Obj) = O
  have e1 := Heap.get?_push_of_some O z1
  have e2 := Heap.get?_update_self (Obj.mapFields (·.setIfInBounds 0 (Value.ref h0.objs.size))) e1 (Obj.isFreed_of_fields (Obj.data_mapFields rfl _))
  have h00 : 0 < ws.size := (Array.getElem?_eq_some_iff.mp z0).1
  have h01 : 1 < ws.size := (Array.getElem?_eq_some_iff.mp z2).1
  have ψ : excψ e (.ref C) dx ((h0.push O).update e (Obj.mapFields (·.setIfInBounds 0 (Value.ref h0.objs.size)))) := by
    refine ⟨ws.setIfInBounds 0 (Value.ref h0.objs.size), sl, e2, ⟨_, by simp [h00]; rfl⟩, ?_⟩
    rw [Array.getElem?_setIfInBounds_ne (by decide)]; exact z2
  exact ⟨.non, _, I2.write (x := e) (e := e) (t' := t0) (by rw [hH]; trivial) (.inl rfl) (fun b u hb z => (Heap.get?_update_other _ _ (Ne.symm hb)).trans (Heap.get?_push_of_some _ z)) ⟨_, e2⟩ ψ.ok, rfl, q⟩
end
section
variable {X : Cx} {pins : List (Addr × Obj)} {σ : St} {H : Hp} {s : Shared} {h' : Heap} {a : Addr} {oa od : HO}
theorem Inv.two {t' : Nat} (I : Inv X pins σ H s) (mu : Mut (H a)) (k : ∀ b o, b ≠ a → s.heap.get? b = some o → h'.get? b = some o) (heo : ∃ u, h'.get? a = some u)
    (oka : ObjOk X.prog X.w (upd (upd H a oa) s.heap.objs.size od) h' a oa) (okd : ObjOk X.prog X.w (upd (upd H a oa) s.heap.objs.size od) h' s.heap.objs.size od) :
    Inv X pins σ (upd (upd H a oa) s.heap.objs.size od) { s with heap := h', toks := t' } := by
  have hn : H s.heap.objs.size = none := I.hok.fresh (Nat.le_refl _)
  have up : ∀ b, b ≠ a → b ≠ s.heap.objs.size → upd (upd H a oa) s.heap.objs.size od b = H b := fun b h1 h2 => by rw [upd_ne h2, upd_ne h1]
  have na : ∀ b, H b = none → b ≠ a := fun b z y => by rw [y] at z; rw [z] at mu; exact mu
  have lt : ∀ b o, s.heap.get? b = some o → b ≠ s.heap.objs.size := fun b o z => Nat.ne_of_lt (Heap.lt_size z)
  have nd : ∀ b u, H b = some u → b ≠ s.heap.objs.size := fun b u z y => by rw [y, hn] at z; cases z
  have nt : ∀ b xs, H b = some (.tup xs) → b ≠ a := fun b xs z y => by rw [← y, z] at mu; exact mu
  have nf : ∀ b o u, H b = some (.frz o u) → b ≠ a := fun b o u z y => by rw [← y, z] at mu; exact mu
  have ntb : ∀ b ps, H b = some (.tbl ps) → b ≠ a := fun b ps z y => by rw [← y, z] at mu; exact mu
  have no : ∀ b y, H b = some (.own y) → b ≠ a := fun b y' z y => by rw [← y, z] at mu; exact mu
  refine I.un (t' := t') {
    keep := fun b o q n _ _ => k b o (na b n) q
    slot := fun b o q n _ _ => ⟨o.slots, k b o (na b n) q⟩
    free := fun b o q n _ => (up b (na b n) (lt b o q)).trans n
    there := fun b o q _ => by
      by_cases hb : b = a
      · subst hb; exact heo
      · exact ⟨o, k b o hb q⟩
    tups := fun b xs z => (up b (nt b xs z) (nd b _ z)).trans z
    frzs := fun b o u z => (up b (nf b o u z) (nd b _ z)).trans z
    tbls := fun b ps z => ⟨#[], by rw [up b (ntb b ps z) (nd b _ z), z]; simp⟩ } fun b u q => ?_
  by_cases h1 : b = s.heap.objs.size
  · subst h1; rw [upd_same] at q; cases q; exact okd
  by_cases h2 : b = a
  · subst h2; rw [upd_ne h1, upd_same] at q; cases q; exact oka
  rw [up b h2 h1] at q
  refine (I.hok b u q).stay (fun c v hc z => k c v ?_ z) (fun c z => (up c (no c _ z) (nd c _ z)).trans z) fun c xs z => (up c (nt c _ z) (nd c _ z)).trans z
  rcases hc with rfl | hc
  · exact h2
  · exact no c _ hc
end
section
variable {X : Cx} {C : Addr} {bm : List Value} {ini : Option Value} {f : Str} {o value : Expr} {pos pos' : Pos} {ta tv : TE}
def sX0 (C : Addr) (f : Str) (ta tv : TE) : TS := fun D σ H => tv σ H fun y H1 => ta σ H1 fun x H2 => ∃ a, x = .ref a ∧ H2 a = some (.ext (excψ a (.ref C) none)) ∧
  ∀ d, H2 d = none → D.nx σ (upd (upd H2 a (.ext (excψ a (.ref C) (some d)))) d (.ext (xdφ d [(f, y)])))
def sX1 (C : Addr) (f : Str) (ta tv : TE) : TS := fun D σ H => tv σ H fun y H1 => ta σ H1 fun x H2 => ∃ a d fs, x = .ref a ∧ H2 a = some (.ext (excψ a (.ref C) (some d))) ∧ H2 d = some (.ext (xdφ d fs)) ∧ d ≠ a ∧ fs.length ≤ 50 ∧ fs.lookup f = none ∧
  D.nx σ (upd H2 d (.ext (xdφ d (fs ++ [(f, y)]))))
theorem look_snoc (g : Str) (y : V) : ∀ {fs : List (Str × V)}, fs.lookup f = none → (fs ++ [(f, y)]).lookup g = if g = f then some y else fs.lookup g
  | [], _ => by
    show List.lookup g [(f, y)] = _
    by_cases h : g = f
    · have hb : (g == f) = true := beq_iff_eq.mpr h
      simp only [List.lookup, hb, if_pos h]
    · have hb : (g == f) = false := beq_eq_false_iff_ne.mpr h
      simp only [List.lookup, hb, if_neg h]
  | (k, x) :: fs, h => by
    show List.lookup g ((k, x) :: (fs ++ [(f, y)])) = _
    by_cases hk : f = k
    · have hb : (f == k) = true := beq_iff_eq.mpr hk
      simp only [List.lookup, hb] at h; cases h
    · have hb : (f == k) = false := beq_eq_false_iff_ne.mpr hk
      simp only [List.lookup, hb] at h
      have ih := look_snoc g y h
      by_cases hg : g = k
      · have hb2 : (g == k) = true := beq_iff_eq.mpr hg
        simp only [List.lookup, hb2]
        rw [if_neg (fun z => hk (z.symm.trans hg))]
      · have hb2 : (g == k) = false := beq_eq_false_iff_ne.mpr hg
        simp only [List.lookup, hb2]
        exact ih
theorem ps_x0 (hc : xcIn X.K C bm ini = true) (ho : xcOk X.K C = true) (hs : xaOk X.K C f) (ha : PE X o ta) (hv : PE X value tv) (hsw : swapsWith value (some (.Attribute o f pos')) pos.line X.env = pure false := by rfl) : PS X (.Assign [.Attribute o f pos'] value pos) (sX0 C f ta tv) := by
  refine ⟨fun pins s σ H D I h => plainObj_wpAny_Assign_Attribute (thn (hv pins s σ H _ I h) fun u s1 ⟨y, H1, I1, ry, q⟩ => thn (ha pins s1 σ H1 _ I1 q) fun ov s2 ⟨x, H2, I2, rx, a, ex, hH, q2⟩ => ?_) hsw⟩
  subst ex
  obtain rfl : ov = Value.ref a := rx
  obtain ⟨⟨ws, sl, z1, z0, z2⟩, _⟩ := (show ObjOk X.prog X.w _ s2.heap a (.ext (excψ a (.ref C) none)) from I2.hok a _ hH)
  refine xset0 I2.kIn z1 hc ho hs fun h' tk' hn hx k => ?_
  refine ⟨σ, _, I2.two (t' := tk') (oa := .ext (excψ a (.ref C) (some s2.heap.objs.size))) (od := .ext (xdφ s2.heap.objs.size [(f, y)])) (by rw [hH]; trivial) k ⟨_, hx⟩ (excψ.ok ⟨ws, sl, hx, z0, z2⟩) (xdφ.ok ⟨_, hn, fun g => ?_, [f], Within.cons f u Within.nil, by simp⟩), q2 _ (I2.hok.fresh (Nat.le_refl _))⟩
  have e := look_snoc (f := f) g y (fs := []) rfl
  rw [List.nil_append] at e
  rw [e]
  by_cases hg : g = f
  · rw [if_pos hg, if_pos hg]; exact ry
  · rw [if_neg hg, if_neg hg]; exact True.intro
theorem ps_x1 (hc : xcIn X.K C bm ini = true) (ho : xcOk X.K C = true) (hs : xaOk X.K C f) (ha : PE X o ta) (hv : PE X value tv) (hsw : swapsWith value (some (.Attribute o f pos')) pos.line X.env = pure false := by rfl) : PS X (.Assign [.Attribute o f pos'] value pos) (sX1 C f ta tv) := by
  refine ⟨fun pins s σ H D I h => plainObj_wpAny_Assign_Attribute (thn (hv pins s σ H _ I h) fun u s1 ⟨y, H1, I1, ry, q⟩ => thn (ha pins s1 σ H1 _ I1 q) fun ov s2 ⟨x, H2, I2, rx, a, d, fs, ex, hH, hd, hne, hfs, hl, q2⟩ => ?_) hsw⟩
  subst ex
  obtain rfl : ov = Value.ref a := rx
  obtain ⟨⟨ws, sl, z1, z0, z2⟩, _⟩ := (show ObjOk X.prog X.w _ s2.heap a (.ext (excψ a (.ref C) (some d))) from I2.hok a _ hH)
  obtain ⟨⟨mA, y1, y2, ns, y3, y4⟩, ⟨od, yd⟩, _⟩ := (show ObjOk X.prog X.w _ s2.heap d (.ext (xdφ d fs)) from I2.hok d _ hd)
  refine xset1 I2.kIn z1 y1 hne hc ho hs y3 (by omega) fun h' tk' hn hsb => ?_
  obtain ⟨o2, es2, ep2, e2, e3⟩ := id hn
  refine ⟨σ, _, I2.write (x := d) (e := d) (t' := tk') (by rw [hd]; trivial) (.inl rfl) (fun b u hb z => (hsb.2 b hb).trans z) ⟨_, e2⟩ (xdφ.ok ⟨_, hn, fun g => ?_, f :: ns, Within.cons f u y3, ?_⟩), q2⟩
  · rw [look_snoc g y hl]
    by_cases hg : g = f
    · rw [if_pos hg, if_pos hg]; exact ry
    · rw [if_neg hg, if_neg hg]; exact y2 g
  · rw [List.length_cons, List.length_append]; simp; omega
def tXat (K : PySem.W.Frag) (f : Str) (ta : TE) : TE := fun σ H Q => ta σ H fun x H1 => ∃ a C d fs v bm ini, x = .ref a ∧ H1 a = some (.ext (excφ a (.ref C) (some d))) ∧ H1 d = some (.xd fs) ∧ xcIn K C bm ini = true ∧ xcOk K C = true ∧ xaOk K C f ∧ fs.lookup f = some v ∧ Q v H1
theorem pe_xat (he : PE X o ta) (hb : attributeBase o f X.env (eval o X.env) = eval o X.env := by rfl) : PE X (.Attribute o f pos) (tXat X.K f ta) := by
  refine ⟨fun pins s σ H Q I h => attr_of hb (thn (he pins s σ H _ I h) fun u s1 ⟨x, H1, I1, rx, a, C, d, fs, v, bm, ini, ex, hH, hd, hc, ho, hs, hl, q⟩ => ?_)⟩
  subst ex
  obtain rfl : u = Value.ref a := rx
  obtain ⟨⟨ws, sl, z1⟩, _⟩ := (show ObjOk X.prog X.w _ s1.heap a (.ext (excφ a (.ref C) (some d))) from I1.hok a _ hH)
  obtain ⟨mA, y1, y2⟩ := (show ObjOk X.prog X.w _ s1.heap d (.xd fs) from I1.hok d _ hd)
  obtain ⟨od, o1, o2⟩ := lookIn_ns y1
  have rl := y2 f
  rw [hl] at rl
  obtain ⟨u, e1, e2⟩ := rl.some_of
  have J : PySem.W.InstAt s1.heap a ⟨.ref C, some d, .fields ws, sl⟩ C (some od) := ⟨z1, rfl, rfl, o1⟩
  simp only [xcOk, Bool.and_eq_true, beq_iff_eq] at ho
  refine exc_attr I1.kIn J (xobj_of I1.kIn hc) ho.1.1.1.1.1.1 ho.1.1.1.1.1.2 (PySem.W.findObj_own ho.2 hs.2 rfl (by rw [o2, e1])) fun tk => PySem.W.handed_on (handed_of e2) ⟨v, H1, I1.tok tk, e2, q⟩
end
theorem zip_look {H : Hp} {f : Str} {dv : D} : ∀ {ns : List Str} {es : List D} {xs : List V}, Reps H es xs → (ns.zip es).lookup f = some dv → ∃ v, (ns.zip xs).lookup f = some v ∧ Rep H dv v
  | [], es, xs, _, h => by simp at h
  | n :: ns, [], xs, _, h => by simp at h
  | n :: ns, e :: es, xs, r, h => by
    rw [Reps] at r
    obtain ⟨w, ws, rfl, r1, r2⟩ := r
    rw [List.zip_cons_cons] at h ⊢
    by_cases hf : f = n
    · have hb : (f == n) = true := beq_iff_eq.mpr hf
      simp only [List.lookup, hb] at h ⊢
      cases h; exact ⟨w, rfl, r1⟩
    · have hb : (f == n) = false := beq_eq_false_iff_ne.mpr hf
      simp only [List.lookup, hb] at h ⊢
      exact zip_look r2 h
section
variable {X : Cx} {ow : List Bool} {a : Expr} {ma : ME} {pos : Pos} {f : Str}
def mXat (K : PySem.W.Frag) (f : Str) (m : ME) : ME := fun ρ q => m ρ fun d ρ' => ∃ C ns es dv bm ini, d = dExc C ns es ∧ xcIn K C bm ini = true ∧ xcOk K C = true ∧ xaOk K C f ∧ (ns.zip es).lookup f = some dv ∧ q dv ρ'
theorem qe_xat (ha : QE X ow a ma) (hb : attributeBase a f X.env (eval a X.env) = eval a X.env := by rfl) : QE X ow (.Attribute a f pos) (mXat X.K f ma) := by
  obtain ⟨t, p, s⟩ := ha
  refine ⟨_, pe_xat p hb, fun C G ρ σ H pd q Q r hm k => s C G ρ σ H pd _ _ r hm fun d ρ' v G' H' hq s kp r' p => ?_⟩
  obtain ⟨C1, ns, es, dv, bm, ini, rfl, h1, h2, h3, h4, h5⟩ := hq
  unfold dExc at p
  rw [Rep] at p
  obtain ⟨a1, H0, rfl, z, dx, g1, g2⟩ := p
  cases dx with
  | none => obtain ⟨rfl, rfl⟩ := g2; simp at h4
  | some d =>
    obtain ⟨xs, g3, g4, g5⟩ := g2
    obtain ⟨v, l1, l2⟩ := zip_look (Reps.mono z _ _ g5) h4
    exact ⟨a1, C1, d, _, v, bm, ini, rfl, r'.gh _ _ (z _ _ g1), r'.gh _ _ (z _ _ g3), h1, h2, h3, l1, k dv ρ' v G' H' h5 s kp r' l2⟩
end
def rIndex : V → List V → Hp → VK → Prop := fun x vs H Q => ∃ (l : Addr) (bs : List Bool) (j : Nat), x = .ref l ∧ vs = [.bl true] ∧ H l = some (.lst (bs.map V.bl)) ∧ bs[j]? = some true ∧ (∀ m : Nat, m < j → bs[m]? = some false) ∧ j < 1000 ∧ Q (.int (j : Nat)) H
section
variable {X : Cx}
theorem mt_index : MtM X "list.index" rIndex := by
  (try refine ⟨?_⟩); intro pins s σ H x vs v us Q I rx rv h
  obtain ⟨l, bs, j, rfl, rfl, hH, hj, hno, hz, q⟩ := h
  cases rx
  obtain ⟨u, rfl, ru⟩ := rv.one
  cases ru
  obtain ⟨z, its, n, r, hl, e⟩ := I.lstM hH
  have ei := vals_blsR r
  subst ei
  have hjl : j < bs.length := (List.getElem?_eq_some_iff.mp hj).1
  refine call_meets F.slot_list_index ⟨_, e, rfl⟩ F.entry_list_index (F.args_list_index_2 _ _)
    (SeqAt.list_indexAt l (bs.map Value.bool).toArray n none #[] (.bool true) eqB j (by simpa using hjl) (by omega) ?_ ?_) ⟨e, fun y hy => ?_, ?_⟩
  · have := (List.getElem?_eq_some_iff.mp hj).2
    simp only [List.getElem_toArray, List.getElem_map, this]; rfl
  · intro m hm hlt
    have hml : m < bs.length := by simpa using hm
    have := (List.getElem?_eq_some_iff.mp (hno m hlt)).2
    simp only [List.getElem_toArray, List.getElem_map, this]; rfl
  · obtain ⟨b, hb, rfl⟩ := List.mem_map.mp (List.mem_toArray.mp hy)
    exact SeqAt.EqAt.bool_bool b true
  · exact ⟨.int (j : Nat), H, I.tok _, ⟨s.toks, rfl⟩, q⟩
variable {ow : List Bool} {e : Expr} {ma : ME}
def mIndex (m : ME) : ME := fun ρ q => m ρ fun d ρ1 => match d with
  | .lst ds => ∃ (bs : List Bool) (j : Nat), ds = bs.map D.bl ∧ bs[j]? = some true ∧ (∀ m : Nat, m < j → bs[m]? = some false) ∧ j < 1000 ∧ q (.int (j : Nat)) ρ1
  | _ => False
theorem qe_index {j1 : Nat} {p1 apos cpos : Pos} (h : QE X ow e ma)
    (hbase : attributeBase e "index" X.env (eval e X.env) = eval e X.env := by rfl)
    (hfew : ((backTo cpos (starEach [.Constant (.bool true) j1 p1] X.env)).all (fun x => !x.1) && (backToKw cpos (keywordEach [] X.env)).all (fun x => x.1.isSome)
      && decide (([.Constant (.bool true) j1 p1] : List Expr).length + ([] : List Keyword).length + (if ([] : List Keyword).isEmpty then 0 else 1) < 30)) = true := by rfl)
    (hline : (apos.endLine == cpos.line) = true := by rfl) (hst : starEach [.Constant (.bool true) j1 p1] X.env = [(false, eval (.Constant (.bool true) j1 p1) X.env)] := by rfl) :
    QE X ow (.Call (.Attribute e "index" apos) [.Constant (.bool true) j1 p1] [] cpos) (mIndex ma) := by
  obtain ⟨t, p, s⟩ := h
  refine ⟨_, pe_bm PySem.F.plainAttrs_list PySem.F.slot_list_index PySem.F.type_list_index mt_index p (pa_cons pe_bl pa_nil hst) hbase hfew hline hst (by rfl), fun C G ρ σ H pd q Q r hm k => s C G ρ σ H pd _ _ r hm fun d ρ' v G' H' hq z kp r' pp => ?_⟩
  cases d with
  | lst ds =>
    obtain ⟨bs, j, rfl, h1, h2, h3, hq⟩ := hq
    obtain ⟨l, xs, rfl, g1, g2⟩ := rep_lst_of pp
    have ex := reps_blsR g2
    subst ex
    refine ⟨.inl ⟨rfl, _, SqL.of (r'.gh _ _ g1)⟩, ?_⟩
    refine ⟨l, bs, j, rfl, rfl, r'.gh _ _ g1, h1, h2, h3, ?_⟩
    exact k _ ρ' _ _ _ hq z kp r' (rep_int _)
  | _ => exact hq.elim
end
section
variable {X : Cx} {M : Md} {ow : List Bool} {a e : Expr} {es : List Expr} {pos : Pos} {mex : MEX} {m1 : MSX} {mg : MG}
def miEnuX (m : MEX) : XD → MA := fun xx ρ q => m xx ρ fun d ρ' => match d with
  | .lst ds => q (enuD ds) ρ'
  | _ => False
variable {x : Str} {p' : Pos} {ma : ME}
def mTupOf (m : ME) : ME := fun ρ q => m ρ fun d ρ' => match d with
  | .lst ds => q (.tup ds) ρ'
  | _ => False
theorem qe_tupOf (hg : Gl X x) (hm : X.mg x = none) (hv : bootBuiltins x = some (.type "tuple")) (ha : QE X ow e ma) (hn : x ≠ "__name__" := by decide) (hdb : (x == ("__debug__" : Str)) = false := by decide)
    (he : starEach [e] X.env = [(false, eval e X.env)] := by rfl) : QE X ow (.Call (.Name x p') [e] [] pos) (mTupOf ma) := by
  obtain ⟨t, p, s⟩ := ha
  refine ⟨_, pe_callTy call_tuple_of hg hm hv (pa_cons p pa_nil he) hn hdb he rfl, fun C G ρ σ H pd q Q r hm k => s C G ρ σ H pd _ _ r hm fun d ρ' v G' H' hq z kp r' p1 => ?_⟩
  cases d with
  | lst ds =>
    obtain ⟨a, xs, rfl, h1, h2⟩ := rep_lst_of p1
    refine ⟨a, xs, rfl, .inl ⟨SqL.of (r'.gh _ _ h1), fun l hl => ?_⟩⟩
    obtain ⟨O, ro⟩ := r'
    obtain ⟨r2, s2⟩ := ro.new hl (.tup xs)
    exact k _ ρ' _ _ _ hq (z.trans s2) kp ⟨O, r2⟩ (rep_tup upd_same (Reps.mono s2 _ _ h2))
  | _ => exact hq.elim
end
section
variable {C : Ctx} {ow : List Bool} {G : Hp} {ρ : DSt} {σ : St} {H : Hp} {pd : List (D × V)} {O : Own} {p : Addr} {xs : List V}
theorem RO.free (h : RO C ow G ρ σ H pd O) (hp : H p = none) : G p = none ∧ O p = none ∧ C.H p = none := by
  refine ⟨?_, ?_, h.al p hp⟩
  · cases e : G p with
    | none => rfl
    | some z => rw [h.gh _ _ e] at hp; cases hp
  · cases e : O p with
    | none => rfl
    | some l => obtain ⟨_, ⟨xs, q⟩, _⟩ := h.og p l e; rw [hp] at q; cases q
end
section
variable {X : Cx} {ow : List Bool} {a b e : Expr} {es : List Expr} {ma mb : ME} {mr : MA} {pos : Pos} {x : Str} {p' : Pos}
end
section
variable {X : Cx} {M : Md} {i : Nat} {st : Stmt} {rest : List Stmt} {m1 m2 : MFl} {me : MFe} {ms : MS} {pos pos' : Pos}
variable {e b c : Expr} {ma mb : ME} {mt : MT}
end
section
variable {C : Ctx} {ow : List Bool} {i : Nat} {G : Hp} {ρ : DSt} {σ : St} {H : Hp} {p : Addr} {ds : List D}
end
section
variable {X : Cx} {M : Md} {i : Nat} {pos pos' : Pos} {e c : Expr} {ma : ME} {mt : MT} {m1 m2 : MFl}
end
section
variable {X : Cx} {M : Md} {a b e : Expr} {ma mb : ME} {pos : Pos}
end
section
variable {X : Cx} {M : Md} {a b : Expr} {ma mb : ME} {pos : Pos}
end
section
variable {X : Cx} {pos p1 p2 q1 q2 : Pos} {n1 n2 : Nat} {k1 k2 x y : Str} {i j : Nat} {ow : List Bool}
end
section
variable {X : Cx} {ow : List Bool} {a b e : Expr} {ma mb : ME} {pos p2 : Pos} {lo hi : Option Expr} {ml mh : MO}
end
section
variable {X : Cx} {M : Md} {i : Nat} {st : Stmt} {m : MFl}
end
mutual
def pln : D → Bool
  | .tup ds => plns ds
  | .lst ds => plns ds
  | .scr _ _ => false
  | .ext _ => false
  | _ => true
def plns : List D → Bool
  | [] => true
  | d :: ds => pln d && plns ds
end
theorem pln_isS {d : D} (h : pln d = true) : d.isS = false := by
  cases d <;> first | rfl | (rw [pln] at h; cases h)
theorem plns_cons {d : D} {ds : List D} : plns (d :: ds) = true ↔ pln d = true ∧ plns ds = true := by rw [plns, Bool.and_eq_true]
theorem plns_at : ∀ {ds : List D} {i : Nat} {d : D}, plns ds = true → ds[i]? = some d → pln d = true
  | [], i, d, _, e => by simp at e
  | x :: ds, 0, d, h, e => by simp at e; subst e; exact (plns_cons.mp h).1
  | x :: ds, i + 1, d, h, e => plns_at (plns_cons.mp h).2 (by simpa using e)
theorem plns_of : ∀ {ds : List D}, (∀ d ∈ ds, pln d = true) → plns ds = true
  | [], _ => rfl
  | d :: ds, h => plns_cons.mpr ⟨h d (by simp), plns_of fun x hx => h x (by simp [hx])⟩
theorem plns_mem : ∀ {ds : List D} {d : D}, plns ds = true → d ∈ ds → pln d = true
  | x :: ds, d, h, e => by
    rcases List.mem_cons.mp e with rfl | e
    · exact (plns_cons.mp h).1
    · exact plns_mem (plns_cons.mp h).2 e
theorem plns_ints (ns : List Int) : plns (ns.map D.int) = true := plns_of fun d h => by
  obtain ⟨x, _, rfl⟩ := List.mem_map.mp h; rfl
theorem pln_dInts (ns : List Int) : pln (dInts ns) = true := by unfold dInts; rw [pln]; exact plns_ints ns
theorem pln_pair (ps rs : List Int) : pln (dPair ps rs) = true := by
  unfold dPair; rw [pln, plns_cons, plns_cons]; exact ⟨pln_dInts _, pln_dInts _, rfl⟩
def firstBad (f : Nat → D → Bool) : List D → Nat → Option Nat
  | [], _ => none
  | d :: ds, i => if f i d = true then firstBad f ds (i + 1) else some i
theorem firstBad_step {f : Nat → D → Bool} {ds : List D} {i : Nat} {d : D} (e : ds[i]? = some d) (k : Nat) : firstBad f (ds.drop i) k = if f k d = true then firstBad f (ds.drop (i + 1)) (k + 1) else some k := by
  have hl : i < ds.length := (List.getElem?_eq_some_iff.mp e).1
  have : ds.drop i = d :: ds.drop (i + 1) := by
    rw [List.drop_eq_getElem_cons hl]
    have := (List.getElem?_eq_some_iff.mp e).2
    rw [this]
  rw [this, firstBad]
theorem firstBad_none {f : Nat → D → Bool} : ∀ {ds : List D} {k : Nat}, (∀ (i : Nat) d, ds[i]? = some d → f (k + i) d = true) → firstBad f ds k = none
  | [], _, _ => rfl
  | d :: ds, k, h => by
    rw [firstBad, if_pos (show f k d = true from h 0 d rfl)]
    exact firstBad_none fun i d' e => by
      have := h (i + 1) d' (by simpa using e)
      rw [show k + 1 + i = k + (i + 1) by omega]; exact this
def fPar (i : Nat) (d : D) : Bool := btw 0 i d
def fRoom (_ : Nat) (d : D) : Bool := btw 1 1000000 d
def treeErr (d : D) : Option (Str × D) := if twoL d = true then (match d with
  | .tup [.lst ps, .lst rs] => (match firstBad fPar ps 0 with
    | some i => some ("parents", .int i)
    | none => (match firstBad fRoom rs 0 with
      | some i => some ("rooms", .int i)
      | none => none))
  | _ => none) else some ("tree", .non)
theorem twoL_shape {d : D} (h : twoL d = true) : ∃ ps rs, d = .tup [.lst ps, .lst rs] ∧ ps.length = rs.length ∧ 1 ≤ ps.length ∧ ps.length ≤ 23 := by
  unfold twoL at h
  split at h
  · rename_i ps rs
    simp only [Bool.and_eq_true, decide_eq_true_eq] at h
    exact ⟨ps, rs, rfl, h.1, h.2.1, h.2.2⟩
  · cases h
theorem treeErr_no {d : D} (h : twoL d = false) : treeErr d = some (("tree" : Str), D.non) := by unfold treeErr; rw [if_neg (by rw [h]; decide)]
theorem treeErr_two {ps rs : List D} (h : twoL (.tup [.lst ps, .lst rs]) = true) : treeErr (.tup [.lst ps, .lst rs]) = (match firstBad fPar ps 0 with
    | some i => some ("parents", .int i)
    | none => (match firstBad fRoom rs 0 with
      | some i => some ("rooms", .int i)
      | none => none)) := by unfold treeErr; rw [if_pos h]
theorem treeErr_tree {ps rs : List Int} (hT : Tree ps rs) : treeErr (dPair ps rs) = none := by
  have h := twoL_pair hT
  unfold dPair dInts at h ⊢
  rw [treeErr_two h]
  rw [firstBad_none (f := fPar) (k := 0) fun i d e => by
    obtain ⟨z, hz, rfl⟩ := map_at e
    have := hT.par i z hz
    rw [Nat.zero_add]; exact btw_int this.1 this.2]
  rw [firstBad_none (f := fRoom) (k := 0) fun i d e => by
    obtain ⟨z, hz, rfl⟩ := map_at e
    have := hT.room i z hz
    exact btw_int this.1 this.2]
theorem fmt_nat {n : Nat} (h : n < 2 ^ 1000) : FmtD (.int (n : Int)) := by
  show (n : Int).natAbs.log2 < 1920
  rw [Int.natAbs_natCast]
  by_cases h0 : n = 0
  · rw [h0]; decide
  · exact Nat.lt_trans ((Nat.log2_lt h0).mpr h) (by decide)
theorem fmt_non : FmtD .non := True.intro
theorem fmt_str {x : Str} (h : x.length ≤ 1000) : FmtD (.str x) := h
theorem fmt2 {a b : D} (ha : FmtD a) (hb : FmtD b) : ∀ d ∈ [a, b], FmtD d := fun d h => by
  simp only [List.mem_cons, List.not_mem_nil, or_false] at h
  rcases h with rfl | rfl
  · exact ha
  · exact hb
theorem fmt1 {a : D} (ha : FmtD a) : ∀ d ∈ [a], FmtD d := fun d h => by
  simp only [List.mem_cons, List.not_mem_nil, or_false] at h
  subst h; exact ha
def sdTwoD : SpD := fun ds q => ∃ d, ds = [d] ∧ pln d = true ∧ q (.bl (twoL d)) []
abbrev nTree : List Str := ["part", "number"]
def sdLookT (c : Addr) : SpX := fun ds q qx => ∃ d, ds = [d] ∧ pln d = true ∧ (treeErr d = none → q .non []) ∧ ∀ p n, treeErr d = some (p, n) → qx c nTree [.str p, n] []
def layS : Nat → D → Bool
  | _, .int _ => true
  | _, .bl _ => true
  | _, .non => true
  | _, .str x => (PyData.str x).canLay0
  | n + 1, .tup ds => ds.all (layS n)
  | n + 1, .lst ds => ds.all (layS n)
  | _, _ => false
theorem layS_all {n : Nat} (ih : ∀ d, layS n d = true → (toP d).canLay0 = true ∧ (toP d).depth ≤ n + 1) : ∀ ds : List D, ds.all (layS n) = true → PyData.canLayAll0 (toPs ds) = true ∧ PyData.depthAll (toPs ds) ≤ n + 1
  | [], _ => by rw [toPs]; simp [PyData.canLayAll0, PyData.depthAll]
  | d :: ds, h => by
    rw [List.all_cons, Bool.and_eq_true] at h
    have h1 := ih d h.1
    have h2 := layS_all ih ds h.2
    rw [toPs]
    simp only [PyData.canLayAll0, PyData.depthAll, h1.1, h2.1, Bool.and_self, true_and]
    omega
theorem layS_ok : ∀ (n : Nat) (d : D), layS n d = true → (toP d).canLay0 = true ∧ (toP d).depth ≤ n + 1
  | n, .int _, _ => by rw [toP]; simp [PyData.canLay0, PyData.depth]
  | n, .bl _, _ => by rw [toP]; simp [PyData.canLay0, PyData.depth]
  | n, .non, _ => by rw [toP]; simp [PyData.canLay0, PyData.depth]
  | n, .str x, h => by rw [toP]; exact ⟨by cases n <;> exact h, by simp [PyData.depth]⟩
  | n + 1, .tup ds, h => by
    have := layS_all (layS_ok n) ds (by simpa [layS] using h)
    rw [toP]; simp only [PyData.canLay0, PyData.depth, this.1, true_and]; omega
  | n + 1, .lst ds, h => by
    have := layS_all (layS_ok n) ds (by simpa [layS] using h)
    rw [toP]; simp only [PyData.canLay0, PyData.depth, this.1, true_and]; omega
  | 0, .tup _, h => by simp [layS] at h
  | 0, .lst _, h => by simp [layS] at h
  | n, .dct, h => by cases n <;> simp [layS] at h
  | n, .dic _ _, h => by cases n <;> simp [layS] at h
  | n, .scr _ _, h => by cases n <;> simp [layS] at h
  | n, .ext _, h => by cases n <;> simp [layS] at h
theorem okD_layS {n : Nat} {d : D} (h : layS n d = true) (hn : n ≤ 60) : okD d = true := by
  have := layS_ok n d h
  unfold okD SeqAt.shaped
  rw [this.1, Bool.true_and]
  exact decide_eq_true (by omega)
theorem eqvS_all {n : Nat} (ih : ∀ d, layS n d = true → PyData.eqv (toP d) (toP d) = true) : ∀ ds : List D, ds.all (layS n) = true → PyData.eqvAll (toPs ds) (toPs ds) = true
  | [], _ => by rw [toPs]; simp [PyData.eqvAll]
  | d :: ds, h => by
    rw [List.all_cons, Bool.and_eq_true] at h
    rw [toPs, PyData.eqvAll, ih d h.1, eqvS_all ih ds h.2]; rfl
theorem eqD_selfS : ∀ (n : Nat) (d : D), layS n d = true → eqD d d = true
  | n, .int _, _ => by unfold eqD; rw [toP, PyData.eqv]; simp
  | n, .bl _, _ => by unfold eqD; rw [toP, PyData.eqv]; simp
  | n, .non, _ => by unfold eqD; rw [toP, PyData.eqv]
  | n, .str _, _ => by unfold eqD; rw [toP, PyData.eqv]; simp
  | n + 1, .tup ds, h => by unfold eqD; rw [toP, PyData.eqv]; exact eqvS_all (eqD_selfS n) ds (by simpa [layS] using h)
  | n + 1, .lst ds, h => by unfold eqD; rw [toP, PyData.eqv]; exact eqvS_all (eqD_selfS n) ds (by simpa [layS] using h)
  | 0, .tup _, h => by simp [layS] at h
  | 0, .lst _, h => by simp [layS] at h
  | n, .dct, h => by cases n <;> simp [layS] at h
  | n, .dic _ _, h => by cases n <;> simp [layS] at h
  | n, .scr _ _, h => by cases n <;> simp [layS] at h
  | n, .ext _, h => by cases n <;> simp [layS] at h
theorem okD_str {x : Str} (h : (PyData.str x).canLay0 = true) : okD (.str x) = true := okD_layS (n := 0) h (by decide)
theorem eqD_str (a b : Str) : eqD (.str a) (.str b) = (a == b) := by unfold eqD; rw [toP, toP, PyData.eqv]
abbrev nNum : List Str := ["number"]
theorem cutD_take {xs : List D} {k : Int} (h0 : 0 ≤ k) : cutD xs none (some k) = xs.take k.toNat := by
  have ek : k = ((k.toNat : Nat) : Int) := by omega
  unfold cutD
  rw [HT.sIx_none, ek, HT.sIx_nat, List.drop_zero, Nat.sub_zero, Int.toNat_natCast]
  by_cases h : k.toNat ≤ xs.length
  · rw [show min k.toNat xs.length = k.toNat by omega]
  · rw [show min k.toNat xs.length = xs.length by omega, List.take_length, List.take_of_length_le (by omega)]
theorem cutD_drop {xs : List D} {k : Int} (h0 : 0 ≤ k) : cutD xs (some k) none = xs.drop k.toNat := by
  have ek : k = ((k.toNat : Nat) : Int) := by omega
  unfold cutD
  rw [HT.sIx_none, ek, HT.sIx_nat, Int.toNat_natCast]
  by_cases h : k.toNat ≤ xs.length
  · rw [show min k.toNat xs.length = k.toNat by omega, List.take_of_length_le (by simp)]
  · rw [show min k.toNat xs.length = xs.length by omega, List.drop_length, List.drop_of_length_le (by omega)]; simp
theorem plns_take {xs : List D} (h : plns xs = true) (k : Nat) : plns (xs.take k) = true := plns_of fun d hd => plns_mem h (List.mem_of_mem_take hd)
section
variable {X : Cx}
end
end L2
namespace L2
open PySem
end L2
namespace L2
open PySem PySem.Spec PyProof.Rows
section
variable {X : Cx}
end
section
variable {X : Cx} {M : Md} {e : Expr} {ma : ME} {pos : Pos}
end
section
variable {X : Cx} {M : Md} {i : Nat} {st : Stmt} {rest : List Stmt} {m1 m2 : MFl} {me : MFe} {pos pos' : Pos} {e : Expr} {ma : ME}
end
section
variable {X : Cx} {M : Md} {elt tg iter : Expr} {ifs : List Expr} {pos : Pos} {mi : MA} {mg : MG} {mt : MT} {me : ME} {scope : Scope} {cl : List (Str × Addr)} {rest : List Stmt} {mf : MFe}
end
section
variable {X : Cx} {ow : List Bool} {e : Expr} {ma : ME} {pos p2 : Pos} {lo hi : Option Expr} {ml mh : MO}
end
end L2
namespace L2
open PySem
end L2
namespace L2
open PySem PySem.Spec PyProof.Rows
section
variable {X : Cx} {pins p : List (Addr × Obj)} {σ : St} {H : Hp} {s : Shared} {E : Value → Shared → Prop} {v : Value} {e : Addr} {cls : Value} {dx T : Option Addr}
variable {x : Str} {C D0 : Addr} {bm bmD : List Value} {ini iniD : Option Value} {b0 : Stmt} {suite : List Stmt} {np npos : Pos} {ts : TS} {D : Ends} {t : Addr}
end
section
variable {X : Cx} {ow : List Bool} {a b : Expr} {mex : MEX} {mb : ME} {pos : Pos}
end
end L2
namespace L2
open PySem
def frB : D → Bool
  | .tup [.int t, .int b] => decide (1 ≤ b) && decide (gcdP t b = 1)
  | _ => false
def prB : D → Bool
  | .tup [.int t, .int b] => (decide (1 ≤ b) && decide (gcdP t b = 1)) && decide (0 ≤ t)
  | _ => false
def sdFrD : SpD := fun ds q => ∃ d, ds = [d] ∧ pln d = true ∧ q (.bl (frB d)) []
def sdPrD : SpD := fun ds q => ∃ d, ds = [d] ∧ pln d = true ∧ q (.bl (prB d)) []
def fPr (_ : Nat) (d : D) : Bool := prB d
def pricesErr (n : Nat) : D → Option D
  | .lst ds => (match firstBad fPr (ds.take n) 0 with
    | some i => some (.int i)
    | none => if ds.length = n then none else some (.int (min ds.length n : Nat)))
  | _ => some .non
def sdPricesX (cT cP : Addr) : SpX := fun ds q qx => ∃ t x, ds = [t, x] ∧ ((∃ p n, pln t = true ∧ treeErr t = some (p, n) ∧ qx cT nTree [.str p, n] []) ∨
  ∃ ps rs, t = dPair ps rs ∧ Tree ps rs ∧ pln x = true ∧ (∀ ds, x = .lst ds → ds.length ≤ 10000) ∧ ((∃ n, pricesErr ps.length x = some n ∧ qx cP nNum [n] []) ∨ (pricesErr ps.length x = none ∧ q .non [])))
end L2
namespace L2
open PySem PySem.Spec PyProof.Rows
section
variable {X : Cx} {pos p1 q1 : Pos} {n1 : Nat} {k1 : Int} {x : Str} {i : Nat} {ow : List Bool}
end
section
variable {X : Cx} {ow : List Bool} {es : List Expr} {mr : MA} {pos : Pos}
end
end L2
namespace L2
open PySem
end L2
namespace L2
open PySem PySem.Spec PyProof.Rows
section
variable {X : Cx}
end
section
variable {X : Cx} {M : Md} {e e' : Expr} {mr : MA} {pos : Pos}
end
end L2
namespace L2
open PySem
end L2
namespace L2
open PySem PySem.Spec PyProof.Rows
section
variable {X : Cx}
end
end L2
namespace L2
open PySem
end L2
namespace L2
open PySem PySem.Spec PyProof.Rows
section
variable {X : Cx}
variable {ow : List Bool} {e e2 : Expr} {ma mb : ME}
end
end L2
namespace L2
open PySem
end L2
namespace L2
open PySem PySem.Spec PyProof.Rows
section
variable {X : Cx}
end
end L2
namespace L2
open PySem
end L2
namespace L2
open PySem PySem.Spec PyProof.Rows
section
variable {κ : Type} [DecidableEq κ]
end
section
variable {P : Program} {w : World} {H : Hp} {h : Heap} {a : Addr}
end
section
variable {X : Cx} {pins : List (Addr × Obj)} {σ : St} {H : Hp} {s : Shared} {a : Addr} {y v : V} {u r : Value} {o : Option V} {A : Around} {E : Value → Shared → Prop}
end
section
variable {X : Cx} {pins : List (Addr × Obj)} {σ : St} {H : Hp} {s : Shared} {a : Addr} {kvs : List (Key × V)} {k : Key} {u : Value} {A : Around} {E : Value → Shared → Prop}
end
section
variable {X : Cx} {o i e value : Expr} {pos pos' tpos : Pos} {td ty tv : TE}
end
section
variable {X : Cx} {pos : Pos}
end
section
variable {X : Cx} {pins : List (Addr × Obj)} {σ : St} {H : Hp} {s : Shared} {a : Addr} {y d : V} {u r : Value} {o : Option V} {A : Around} {E : Value → Shared → Prop}
end
section
variable {X : Cx} {o e f : Expr} {apos cpos : Pos} {td ty tx : TE}
end
section
variable {X : Cx} {pins : List (Addr × Obj)} {σ : St} {H : Hp} {s : Shared} {a : Addr} {kvs : List (Key × V)} {A : Around} {E : Value → Shared → Prop}
end
section
variable {X : Cx} {pins : List (Addr × Obj)} {σ : St} {H : Hp} {s : Shared} {a : Addr} {y : V} {u : Value} {A : Around} {E : Value → Shared → Prop}
end
section
variable {C : Ctx} {ow : List Bool} {G : Hp} {ρ : DSt} {σ : St} {H : Hp} {pd : List (D × V)} {O : Own}
theorem RO.newD (h : RO C ow G ρ σ H pd O) {p : Addr} (hp : H p = none) : R C ow G ρ σ (upd H p (.dK [])) ((.dic [] [], .ref p) :: pd) := by
  obtain ⟨gp, op, _⟩ : G p = none ∧ O p = none ∧ C.H p = none := h.free hp
  have ne : ∀ a l, O a = some l → a ≠ p := fun a l e z => by rw [z, op] at e; cases e
  let O' : Own := fun a => if a = p then some (2 * pd.length + 1, []) else O a
  have old : ∀ a l, O a = some l → O' a = some l := fun a l e => by
    show (if a = p then _ else _) = _
    rw [if_neg (ne a _ e), e]
  refine ⟨O', h.len, ?_, h.g0, h.gn, ?_, h.cok, ?_, ?_, h.mp, ?_, ⟨?_, ?_⟩, Nat.le_succ_of_le h.np⟩
  · intro a u e
    rw [upd_ne (fun z => by rw [z, gp] at e; cases e)]
    exact h.gh _ _ e
  · intro a l e
    by_cases z : a = p
    · subst z; exact ⟨gp, ⟨.inr [], upd_same⟩, .inl (h.al _ hp)⟩
    · rw [upd_ne z]
      change (if a = p then _ else _) = _ at e
      rw [if_neg z] at e
      exact h.og a _ e
  · intro a u e n
    rw [upd_ne (ne_of_none (h.fr a u e n) hp)]
    exact h.fr a u e n
  · intro a e
    by_cases z : a = p
    · subst z; rw [upd_same] at e; cases e
    · rw [upd_ne z] at e; exact h.al a e
  · intro i d e
    obtain ⟨v, h1, h2⟩ := h.sl i d e
    refine ⟨v, h1, ?_⟩
    split at h2
    · rename_i c; rw [if_pos c]; exact h2.keep (fun _ _ z => z) fun a τ q => ⟨old a _ q, upd_ne (ne a _ q)⟩
    · rename_i c; rw [if_neg c]; exact h2
  · rw [Sep]
    exact ⟨p, [], rfl, by show (if p = p then _ else _) = _; rw [if_pos rfl], upd_same, rfl, by rw [Seps]⟩
  · exact Pend.keep (fun _ _ z => z) (fun a j π hj q => ⟨old a _ q, upd_ne (ne a _ q)⟩) h.pn
end
section
variable {X : Cx} {M : Md} {ow : List Bool} {a b c e : Expr} {ma mb mc : ME} {pos : Pos}
theorem qf_dic0 : QF X ow (.Dict [] [] pos) (mC (.dic [] [])) := ⟨_, pe_dnewK, fun C G ρ σ H pd q Q r hm k p hp => by
  obtain ⟨O, r⟩ := r
  exact k _ ρ _ G _ hm (Same.refl _) Kp.refl (r.newD hp)⟩
end
section
variable {C : Ctx} {ow : List Bool} {G : Hp} {ρ : DSt} {σ : St} {H : Hp} {pd : List (D × V)} {O : Own}
end
section
variable {X : Cx} {ow : List Bool} {a b e : Expr} {pos : Pos} {ma mb : MN0}
end
section
variable {X : Cx} {M : Md} {ow : List Bool} {i : Nat} {a b e : Expr} {pos : Pos} {mp : MPt} {mz : MN0} {ma : ME}
end
section
variable {X : Cx} {M : Md} {i : Nat} {pos : Pos} {mg : MG} {m : MS}
end
end L2
namespace L2
open PySem
end L2
namespace L2
open PySem PySem.Spec PyProof.Rows
mutual
def eqS : D → Nat → Bool
  | .non, _ => true
  | .bl _, _ => true
  | .int _, _ => true
  | .str _, _ => true
  | .tup ds, n => decide (0 < n) && eqSs ds (n - 1)
  | .lst ds, n => decide (0 < n) && eqSs ds (n - 1)
  | .dic [] [], _ => true
  | _, _ => false
def eqSs : List D → Nat → Bool
  | [], _ => true
  | d :: ds, n => eqS d n && eqSs ds n
end
theorem dict_any {P : Program} {w : World} {h : Heap} {a : Addr} (x : h.DictOf (mixKind P w) a []) (P' : Program) (w' : World) : h.DictOf (mixKind P' w') a [] := by
  obtain ⟨o, es, ep, ho, hx, hd, hk, hp, hn⟩ := x
  have e : es = #[] := by
    cases es with
    | mk l => cases l with
      | nil => rfl
      | cons e r => cases hp
  subst e
  exact ⟨o, #[], ep, ho, hx, hd, by intro i; simp, .nil, hn⟩
def Alike (A : Around) (s : Shared) (u v : Value) : Prop := SeqAt.RcAt A s u v true ∧ SeqAt.RcNeAt A s u v false ∧ SeqAt.EqAt A s u v true
theorem Alike.refs {A : Around} {s : Shared} {a b : Addr} (h1 : SeqAt.RcAt A s (.ref a) (.ref b) true) (h2 : SeqAt.RcNeAt A s (.ref a) (.ref b) false) : Alike A s (.ref a) (.ref b) := by
  refine ⟨h1, h2, ?_⟩
  by_cases e : a = b
  · subst e; exact SeqAt.EqAt.same _
  · exact SeqAt.EqAt.of_refs e h1
theorem all_tt (n : Nat) : (List.range n).all (fun _ => true) = true := by rw [List.all_eq_true]; exact fun _ _ => rfl
mutual
theorem alike {X : Cx} {pins : List (Addr × Obj)} {σ : St} {H : Hp} {s : Shared} (I : Inv X pins σ H s) : ∀ (d : D) (n : Nat) (x y : V) (u v : Value) (A : Around), eqS d n = true → A.units + n < cLine → Rep H d x → RelV x u → Rep H d y → RelV y v → Alike A s u v
  | .non, n, x, y, u, v, A, _, _, h1, r1, h2, r2 => by
    rw [Rep] at h1 h2; subst h1 h2; cases r1; cases r2
    exact ⟨SeqAt.RcAt.none_none, SeqAt.RcNeAt.none_none, SeqAt.EqAt.same _⟩
  | .bl b, n, x, y, u, v, A, _, _, h1, r1, h2, r2 => by
    rw [Rep] at h1 h2; subst h1 h2; cases r1; cases r2
    have a := SeqAt.RcAt.bool_bool (A := A) (s := s) b b
    have b' := SeqAt.RcNeAt.bool_bool (A := A) (s := s) b b
    rw [beq_self_eq_true] at a b'
    exact ⟨a, b', SeqAt.EqAt.same _⟩
  | .int i, n, x, y, u, v, A, _, _, h1, r1, h2, r2 => by
    rw [Rep] at h1 h2; subst h1 h2; obtain ⟨t, rfl⟩ := r1; obtain ⟨t', rfl⟩ := r2
    have a := SeqAt.RcAt.int_int (A := A) (s := s) i t i t'
    have b' := SeqAt.RcNeAt.int_int (A := A) (s := s) i t i t'
    have c := SeqAt.EqAt.int_int (A := A) (s := s) i t i t'
    rw [beq_self_eq_true] at a b' c
    exact ⟨a, b', c⟩
  | .str i, n, x, y, u, v, A, _, _, h1, r1, h2, r2 => by
    rw [Rep] at h1 h2; subst h1 h2; obtain ⟨t, rfl⟩ := r1; obtain ⟨t', rfl⟩ := r2
    have a := SeqAt.RcAt.str_str (A := A) (s := s) i t i t'
    have b' := SeqAt.RcNeAt.str_str (A := A) (s := s) i t i t'
    have c := SeqAt.EqAt.str_str (A := A) (s := s) i t i t'
    rw [beq_self_eq_true] at a b' c
    exact ⟨a, b', c⟩
  | .tup ds, n, x, y, u, v, A, hs, hu, h1, r1, h2, r2 => by
    rw [eqS, Bool.and_eq_true] at hs
    have hn := of_decide_eq_true hs.1
    rw [Rep] at h1 h2
    obtain ⟨a, xs, rfl, ha, hx⟩ := h1
    obtain ⟨b, ys, rfl, hb, hy⟩ := h2
    cases r1; cases r2
    obtain ⟨_, its, rv, o, e1, e2, m, e3⟩ := (show ObjOk X.prog X.w H s.heap a (.tup xs) from I.hok a _ ha)
    obtain ⟨_, its', rv', o', e1', e2', m', e3'⟩ := (show ObjOk X.prog X.w H s.heap b (.tup ys) from I.hok b _ hb)
    obtain ⟨hl, hz⟩ := alikes I ds (n - 1) xs ys its its' A.in1 hs.2 (by show A.units + 1 + (n - 1) < _; omega) hx rv hy rv'
    have i1 : s.heap.IsTuple a its.toArray := ⟨o, e1, e2, m, e3⟩
    have i2 : s.heap.IsTuple b its'.toArray := ⟨o', e1', e2', m', e3'⟩
    have q1 := SeqAt.RcAt.tuples (A := A) (e := fun _ => true) i1 i2 (by omega) (fun j j1 j2 => hz j _ _ (by rw [← List.getElem?_toArray, Array.getElem?_eq_getElem j1]) (by rw [← List.getElem?_toArray, Array.getElem?_eq_getElem j2]))
    have q2 := SeqAt.RcNeAt.tuples (A := A) (e := fun _ => true) i1 i2 (by omega) (fun j j1 j2 => hz j _ _ (by rw [← List.getElem?_toArray, Array.getElem?_eq_getElem j1]) (by rw [← List.getElem?_toArray, Array.getElem?_eq_getElem j2]))
    rw [all_tt, List.size_toArray, List.size_toArray, hl, beq_self_eq_true] at q1 q2
    exact Alike.refs q1 q2
  | .lst ds, n, x, y, u, v, A, hs, hu, h1, r1, h2, r2 => by
    rw [eqS, Bool.and_eq_true] at hs
    have hn := of_decide_eq_true hs.1
    rw [Rep] at h1 h2
    obtain ⟨a, xs, rfl, ha, hx⟩ := h1
    obtain ⟨b, ys, rfl, hb, hy⟩ := h2
    cases r1; cases r2
    obtain ⟨_, its, m, rv, e1⟩ := (show ObjOk X.prog X.w H s.heap a (.lst xs) from I.hok a _ ha)
    obtain ⟨_, its', m', rv', e1'⟩ := (show ObjOk X.prog X.w H s.heap b (.lst ys) from I.hok b _ hb)
    obtain ⟨hl, hz⟩ := alikes I ds (n - 1) xs ys its its' A.in1 hs.2 (by show A.units + 1 + (n - 1) < _; omega) hx rv hy rv'
    have i1 : s.heap.IsList a its.toArray := ⟨_, e1, rfl, m, rfl⟩
    have i2 : s.heap.IsList b its'.toArray := ⟨_, e1', rfl, m', rfl⟩
    have q1 := SeqAt.RcAt.lists (A := A) (e := fun _ => true) i1 i2 (by simpa using hl) (by omega) (fun j j1 j2 => hz j _ _ (by rw [← List.getElem?_toArray, Array.getElem?_eq_getElem j1]) (by rw [← List.getElem?_toArray, Array.getElem?_eq_getElem j2]))
    have q2 := SeqAt.RcNeAt.lists (A := A) (e := fun _ => true) i1 i2 (by simpa using hl) (by omega) (fun j j1 j2 => hz j _ _ (by rw [← List.getElem?_toArray, Array.getElem?_eq_getElem j1]) (by rw [← List.getElem?_toArray, Array.getElem?_eq_getElem j2]))
    rw [all_tt] at q1 q2
    exact Alike.refs q1 q2
  | .dic ks ds, n, x, y, u, v, A, hs, hu, h1, r1, h2, r2 => by
    have e : ks = [] ∧ ds = [] := by
      cases ks <;> cases ds <;> simp [eqS] at hs
      exact ⟨rfl, rfl⟩
    obtain ⟨rfl, rfl⟩ := e
    rw [Rep] at h1 h2
    obtain ⟨a, xs, rfl, ha, _, hx⟩ := h1
    obtain ⟨b, ys, rfl, hb, _, hy⟩ := h2
    cases r1; cases r2
    obtain ⟨_, z1, vs, k1, d1⟩ := (show ObjOk X.prog X.w H s.heap a (.dK []) from I.hok a _ ha)
    obtain ⟨_, z2, vs', k2, d2⟩ := (show ObjOk X.prog X.w H s.heap b (.dK []) from I.hok b _ hb)
    cases k1; cases k2
    refine Alike.refs (fun P w E Q h => ?_) (fun P w E Q h => ?_)
    · exact PySem.W.keq_eq z1 z2 (dict_any d1 P w) (dict_any d2 P w) (by omega) (fun _ => .nil) h
    · exact PySem.W.keq_ne z1 z2 (dict_any d1 P w) (dict_any d2 P w) (by omega) (fun _ => .nil) h
  | .dct, n, x, y, u, v, A, hs, hu, h1, r1, h2, r2 => by simp [eqS] at hs
  | .scr _ _, n, x, y, u, v, A, hs, hu, h1, r1, h2, r2 => by simp [eqS] at hs
  | .ext _, n, x, y, u, v, A, hs, hu, h1, r1, h2, r2 => by simp [eqS] at hs
theorem alikes {X : Cx} {pins : List (Addr × Obj)} {σ : St} {H : Hp} {s : Shared} (I : Inv X pins σ H s) : ∀ (ds : List D) (n : Nat) (xs ys : List V) (us vs : List Value) (A : Around), eqSs ds n = true → A.units + n < cLine → Reps H ds xs → Vals xs us → Reps H ds ys → Vals ys vs →
    us.length = vs.length ∧ ∀ (j : Nat) a b, us[j]? = some a → vs[j]? = some b → SeqAt.EqAt A s a b true
  | [], n, xs, ys, us, vs, A, _, _, h1, r1, h2, r2 => by
    rw [Reps] at h1 h2; subst h1 h2; cases r1; cases r2
    exact ⟨rfl, fun j a b e => by simp at e⟩
  | d :: ds, n, xs, ys, us, vs, A, hs, hu, h1, r1, h2, r2 => by
    rw [eqSs, Bool.and_eq_true] at hs
    rw [Reps] at h1 h2
    obtain ⟨x, xs, rfl, p1, q1⟩ := h1
    obtain ⟨y, ys, rfl, p2, q2⟩ := h2
    cases r1 with
    | cons a1 a2 =>
      cases r2 with
      | cons b1 b2 =>
        have k := alike I d n x y _ _ A hs.1 hu p1 a1 p2 b1
        obtain ⟨l, m⟩ := alikes I ds n xs ys _ _ A hs.2 hu q1 a2 q2 b2
        refine ⟨by simp [l], fun j a b e1 e2 => ?_⟩
        cases j with
        | zero => simp at e1 e2; subst e1 e2; exact k.2.2
        | succ j => simp at e1 e2; exact m j a b e1 e2
end
section
variable {X : Cx}
def rEqS : R2 := fun x y H Q => ∃ d, Rep H d x ∧ Rep H d y ∧ eqS d 60 = true ∧ Q (.bl true) H
def rNeS : R2 := fun x y H Q => ∃ d, Rep H d x ∧ Rep H d y ∧ eqS d 60 = true ∧ Q (.bl false) H
theorem op_eqS (hu : X.A.units + 64 < cLine) : OpR X (compareOp .Eq) rEqS := by
  intro pins s σ H x y v u Q I rx ry h
  obtain ⟨d, h1, h2, c, q⟩ := h
  exact (alike I d 60 x y v u X.A c (by omega) h1 rx h2 ry).1 _ _ _ _ ⟨.bl true, H, I, rfl, q⟩
theorem op_neS (hu : X.A.units + 64 < cLine) : OpR X (compareOp .NotEq) rNeS := by
  intro pins s σ H x y v u Q I rx ry h
  obtain ⟨d, h1, h2, c, q⟩ := h
  exact (alike I d 60 x y v u X.A c (by omega) h1 rx h2 ry).2.1 _ _ _ _ ⟨.bl false, H, I, rfl, q⟩
theorem dNeS' : DOp rNeS (fun a b q => a = b ∧ eqS a 60 = true ∧ q (.bl false)) := fun G H x y dx dy q Q s p1 p2 hf k => by
  obtain ⟨rfl, c, hq⟩ := hf
  exact ⟨dx, Rep.mono s _ _ p1, Rep.mono s _ _ p2, c, k _ _ hq (rep_bl _)⟩
end
end L2
namespace K23
open PySem L2
def top (i : Nat) : Stmt := PySem.Challenge.pw_treeasks_k23_what_are_prices.main.body.getD i (.Pass ⟨0, 0, 0, 0⟩)
abbrev s_q13 : Stmt := top 16
abbrev s_q6 : Stmt := top 17
abbrev s_q0 : Stmt := top 18
abbrev s_q4 : Stmt := top 19
abbrev s_q2 : Stmt := top 23
abbrev s_q3 : Stmt := top 24
abbrev s_q12 : Stmt := top 26
abbrev s_q1 : Stmt := top 27
abbrev s_q27 : Stmt := top 29
abbrev s_q15 : Stmt := top 30
abbrev s_q28 : Stmt := top 31
abbrev s_q31 : Stmt := top 32
abbrev s_q14 : Stmt := top 33
abbrev s_q19 : Stmt := top 34
abbrev s_q34 : Stmt := top 35
abbrev s_q20 : Stmt := top 36
abbrev s_q21 : Stmt := top 37
abbrev s_q7 : Stmt := top 38
abbrev s_q33 : Stmt := top 39
abbrev s_q29 : Stmt := top 40
abbrev s_q30 : Stmt := top 41
abbrev s_law : Stmt := top 42
set_option genInjectivity false in
structure Adr where
  f_q13 : Addr
  d_q13 : FuncData
  f_q6 : Addr
  d_q6 : FuncData
  f_q0 : Addr
  d_q0 : FuncData
  f_q4 : Addr
  d_q4 : FuncData
  f_q2 : Addr
  d_q2 : FuncData
  f_q3 : Addr
  d_q3 : FuncData
  f_q12 : Addr
  d_q12 : FuncData
  f_q1 : Addr
  d_q1 : FuncData
  f_q27 : Addr
  d_q27 : FuncData
  f_q15 : Addr
  d_q15 : FuncData
  f_q28 : Addr
  d_q28 : FuncData
  f_q31 : Addr
  d_q31 : FuncData
  f_q14 : Addr
  d_q14 : FuncData
  f_q19 : Addr
  d_q19 : FuncData
  f_q34 : Addr
  d_q34 : FuncData
  f_q20 : Addr
  d_q20 : FuncData
  f_q21 : Addr
  d_q21 : FuncData
  f_q7 : Addr
  d_q7 : FuncData
  f_q33 : Addr
  d_q33 : FuncData
  f_q29 : Addr
  d_q29 : FuncData
  f_q30 : Addr
  d_q30 : FuncData
  f_law : Addr
  d_law : FuncData
  c_q8 : Addr
  c_q22 : Addr
  c_q9 : Addr
  c_q23 : Addr
  c_q24 : Addr
  c_q10 : Addr
  c_q16 : Addr
  c_q5 : Addr
  c_q11 : Addr
  c_q32 : Addr
  c_q17 : Addr
  c_q25 : Addr
  c_q26 : Addr
  c_q18 : Addr
  n_q11 : Addr
  n_q26 : Addr
  nd_q11 : FuncData
  nd_q26 : FuncData
set_option genInjectivity false in
structure Txt (K : PySem.W.Frag) (mg : Str → Option Value) (A : Adr) : Prop where
  F_q13 : Fun K "is_whole" "is_whole" s_q13 A.f_q13 A.d_q13
  b_q13 : Binds K A.d_q13 ["thing"] []
  k_q13 : PySem.W.keepIn K (.ref A.f_q13) = true
  m_q13 : mg "is_whole" = some (.ref A.f_q13)
  F_q6 : Fun K "is_between" "is_between" s_q6 A.f_q6 A.d_q6
  b_q6 : Binds K A.d_q6 ["thing", "least", "most"] []
  k_q6 : PySem.W.keepIn K (.ref A.f_q6) = true
  m_q6 : mg "is_between" = some (.ref A.f_q6)
  F_q0 : Fun K "greatest_common" "greatest_common" s_q0 A.f_q0 A.d_q0
  b_q0 : Binds K A.d_q0 ["number", "bottom"] []
  k_q0 : PySem.W.keepIn K (.ref A.f_q0) = true
  m_q0 : mg "greatest_common" = some (.ref A.f_q0)
  F_q4 : Fun K "is_fraction" "is_fraction" s_q4 A.f_q4 A.d_q4
  b_q4 : Binds K A.d_q4 ["thing"] []
  k_q4 : PySem.W.keepIn K (.ref A.f_q4) = true
  m_q4 : mg "is_fraction" = some (.ref A.f_q4)
  F_q2 : Fun K "has_two_lists" "has_two_lists" s_q2 A.f_q2 A.d_q2
  b_q2 : Binds K A.d_q2 ["thing"] []
  k_q2 : PySem.W.keepIn K (.ref A.f_q2) = true
  m_q2 : mg "has_two_lists" = some (.ref A.f_q2)
  F_q3 : Fun K "look_at_tree" "look_at_tree" s_q3 A.f_q3 A.d_q3
  b_q3 : Binds K A.d_q3 ["thing"] []
  k_q3 : PySem.W.keepIn K (.ref A.f_q3) = true
  m_q3 : mg "look_at_tree" = some (.ref A.f_q3)
  F_q12 : Fun K "is_price" "is_price" s_q12 A.f_q12 A.d_q12
  b_q12 : Binds K A.d_q12 ["thing"] []
  k_q12 : PySem.W.keepIn K (.ref A.f_q12) = true
  m_q12 : mg "is_price" = some (.ref A.f_q12)
  F_q1 : Fun K "look_at_prices" "look_at_prices" s_q1 A.f_q1 A.d_q1
  b_q1 : Binds K A.d_q1 ["tree", "thing"] []
  k_q1 : PySem.W.keepIn K (.ref A.f_q1) = true
  m_q1 : mg "look_at_prices" = some (.ref A.f_q1)
  F_q27 : Fun K "_law_cell" "_law_cell" s_q27 A.f_q27 A.d_q27
  b_q27 : Binds K A.d_q27 ["_law_script", "_law_k"] []
  k_q27 : PySem.W.keepIn K (.ref A.f_q27) = true
  m_q27 : mg "_law_cell" = some (.ref A.f_q27)
  F_q15 : Fun K "_law_source" "_law_source" s_q15 A.f_q15 A.d_q15
  b_q15 : Binds K A.d_q15 ["_law_cell_here", "_law_k"] []
  k_q15 : PySem.W.keepIn K (.ref A.f_q15) = true
  m_q15 : mg "_law_source" = some (.ref A.f_q15)
  F_q28 : Fun K "_law_draw" "_law_draw" s_q28 A.f_q28 A.d_q28
  b_q28 : Binds K A.d_q28 ["_law_source_here", "_law_many"] []
  k_q28 : PySem.W.keepIn K (.ref A.f_q28) = true
  m_q28 : mg "_law_draw" = some (.ref A.f_q28)
  F_q31 : Fun K "_law_tree" "_law_tree" s_q31 A.f_q31 A.d_q31
  b_q31 : Binds K A.d_q31 ["_law_source_here", "_law_most"] []
  k_q31 : PySem.W.keepIn K (.ref A.f_q31) = true
  m_q31 : mg "_law_tree" = some (.ref A.f_q31)
  F_q14 : Fun K "_law_lowest" "_law_lowest" s_q14 A.f_q14 A.d_q14
  b_q14 : Binds K A.d_q14 ["_law_top", "_law_bottom"] []
  k_q14 : PySem.W.keepIn K (.ref A.f_q14) = true
  m_q14 : mg "_law_lowest" = some (.ref A.f_q14)
  F_q19 : Fun K "_law_price" "_law_price" s_q19 A.f_q19 A.d_q19
  b_q19 : Binds K A.d_q19 ["_law_source_here"] []
  k_q19 : PySem.W.keepIn K (.ref A.f_q19) = true
  m_q19 : mg "_law_price" = some (.ref A.f_q19)
  F_q34 : Fun K "_law_odd" "_law_odd" s_q34 A.f_q34 A.d_q34
  b_q34 : Binds K A.d_q34 ["_law_source_here"] []
  k_q34 : PySem.W.keepIn K (.ref A.f_q34) = true
  m_q34 : mg "_law_odd" = some (.ref A.f_q34)
  F_q20 : Fun K "_law_thing" "_law_thing" s_q20 A.f_q20 A.d_q20
  b_q20 : Binds K A.d_q20 ["_law_many", "_law_source_here"] []
  k_q20 : PySem.W.keepIn K (.ref A.f_q20) = true
  m_q20 : mg "_law_thing" = some (.ref A.f_q20)
  F_q21 : Fun K "_law_whole" "_law_whole" s_q21 A.f_q21 A.d_q21
  b_q21 : Binds K A.d_q21 ["_law_thing_here"] []
  k_q21 : PySem.W.keepIn K (.ref A.f_q21) = true
  m_q21 : mg "_law_whole" = some (.ref A.f_q21)
  F_q7 : Fun K "_law_is_price" "_law_is_price" s_q7 A.f_q7 A.d_q7
  b_q7 : Binds K A.d_q7 ["_law_thing_here"] []
  k_q7 : PySem.W.keepIn K (.ref A.f_q7) = true
  m_q7 : mg "_law_is_price" = some (.ref A.f_q7)
  F_q33 : Fun K "_law_due" "_law_due" s_q33 A.f_q33 A.d_q33
  b_q33 : Binds K A.d_q33 ["_law_many", "_law_thing_here"] []
  k_q33 : PySem.W.keepIn K (.ref A.f_q33) = true
  m_q33 : mg "_law_due" = some (.ref A.f_q33)
  F_q29 : Fun K "_law_kind" "_law_kind" s_q29 A.f_q29 A.d_q29
  b_q29 : Binds K A.d_q29 ["_law_e"] []
  k_q29 : PySem.W.keepIn K (.ref A.f_q29) = true
  m_q29 : mg "_law_kind" = some (.ref A.f_q29)
  F_q30 : Fun K "_law_told" "_law_told" s_q30 A.f_q30 A.d_q30
  b_q30 : Binds K A.d_q30 ["_law_tree_here", "_law_thing_here"] []
  k_q30 : PySem.W.keepIn K (.ref A.f_q30) = true
  m_q30 : mg "_law_told" = some (.ref A.f_q30)
  F_law : Fun K "law" "law" s_law A.f_law A.d_law
  b_law : Binds K A.d_law ["_law_script"] []
  k_law : PySem.W.keepIn K (.ref A.f_law) = true
  m_law : mg "law" = some (.ref A.f_law)
  z_ValueError : mg "ValueError" = none
  z_abs : mg "abs" = none
  z_bool : mg "bool" = none
  z_enumerate : mg "enumerate" = none
  z_int : mg "int" = none
  z_isinstance : mg "isinstance" = none
  z_len : mg "len" = none
  z_list : mg "list" = none
  z_max : mg "max" = none
  z_min : mg "min" = none
  z_range : mg "range" = none
  z_tuple : mg "tuple" = none
  c_MOST_TIES : ∃ t, mg "MOST_TIES" = some (.int 23 t)
  c_MOST_ROOM : ∃ t, mg "MOST_ROOM" = some (.int 1000000 t)
  m_q8 : mg "AskError" = some (.ref A.c_q8)
  m_q22 : mg "NoAsks" = some (.ref A.c_q22)
  m_q9 : mg "NoChange" = some (.ref A.c_q9)
  m_q23 : mg "NoKeep" = some (.ref A.c_q23)
  m_q24 : mg "NoName" = some (.ref A.c_q24)
  m_q10 : mg "NoNumber" = some (.ref A.c_q10)
  m_q16 : mg "NoPlace" = some (.ref A.c_q16)
  m_q5 : mg "NoPointing" = some (.ref A.c_q5)
  m_q11 : mg "NoPrices" = some (.ref A.c_q11)
  m_q32 : mg "NoRow" = some (.ref A.c_q32)
  m_q17 : mg "NoShare" = some (.ref A.c_q17)
  m_q25 : mg "NoText" = some (.ref A.c_q25)
  m_q26 : mg "NoTree" = some (.ref A.c_q26)
  m_q18 : mg "TooMany" = some (.ref A.c_q18)
  x_q8 : xcIn K A.c_q8 bmV none = true
  x_q11 : xcIn K A.c_q11 ([.ref A.c_q8] ++ bmV) (some (.ref A.n_q11)) = true
  x_q26 : xcIn K A.c_q26 ([.ref A.c_q8] ++ bmV) (some (.ref A.n_q26)) = true
  o_q11 : xcOk K A.c_q11 = true
  v_q11 : PySem.W.kitOne K (.ref A.c_q11) (.type "ValueError") = some true
  i_q11_NoAsks : PySem.W.kitOne K (.ref A.c_q11) (.ref A.c_q22) = some false
  i_q11_NoChange : PySem.W.kitOne K (.ref A.c_q11) (.ref A.c_q9) = some false
  i_q11_NoKeep : PySem.W.kitOne K (.ref A.c_q11) (.ref A.c_q23) = some false
  i_q11_NoName : PySem.W.kitOne K (.ref A.c_q11) (.ref A.c_q24) = some false
  i_q11_NoNumber : PySem.W.kitOne K (.ref A.c_q11) (.ref A.c_q10) = some false
  i_q11_NoPlace : PySem.W.kitOne K (.ref A.c_q11) (.ref A.c_q16) = some false
  i_q11_NoPointing : PySem.W.kitOne K (.ref A.c_q11) (.ref A.c_q5) = some false
  i_q11_NoRow : PySem.W.kitOne K (.ref A.c_q11) (.ref A.c_q32) = some false
  i_q11_NoShare : PySem.W.kitOne K (.ref A.c_q11) (.ref A.c_q17) = some false
  i_q11_NoText : PySem.W.kitOne K (.ref A.c_q11) (.ref A.c_q25) = some false
  i_q11_NoTree : PySem.W.kitOne K (.ref A.c_q11) (.ref A.c_q26) = some false
  i_q11_TooMany : PySem.W.kitOne K (.ref A.c_q11) (.ref A.c_q18) = some false
  o_q26 : xcOk K A.c_q26 = true
  v_q26 : PySem.W.kitOne K (.ref A.c_q26) (.type "ValueError") = some true
  i_q26_NoAsks : PySem.W.kitOne K (.ref A.c_q26) (.ref A.c_q22) = some false
  i_q26_NoChange : PySem.W.kitOne K (.ref A.c_q26) (.ref A.c_q9) = some false
  i_q26_NoKeep : PySem.W.kitOne K (.ref A.c_q26) (.ref A.c_q23) = some false
  i_q26_NoName : PySem.W.kitOne K (.ref A.c_q26) (.ref A.c_q24) = some false
  i_q26_NoNumber : PySem.W.kitOne K (.ref A.c_q26) (.ref A.c_q10) = some false
  i_q26_NoPlace : PySem.W.kitOne K (.ref A.c_q26) (.ref A.c_q16) = some false
  i_q26_NoPointing : PySem.W.kitOne K (.ref A.c_q26) (.ref A.c_q5) = some false
  i_q26_NoPrices : PySem.W.kitOne K (.ref A.c_q26) (.ref A.c_q11) = some false
  i_q26_NoRow : PySem.W.kitOne K (.ref A.c_q26) (.ref A.c_q32) = some false
  i_q26_NoShare : PySem.W.kitOne K (.ref A.c_q26) (.ref A.c_q17) = some false
  i_q26_NoText : PySem.W.kitOne K (.ref A.c_q26) (.ref A.c_q25) = some false
  i_q26_TooMany : PySem.W.kitOne K (.ref A.c_q26) (.ref A.c_q18) = some false
  I_q11 : Fun K "__init__" "NoPrices.__init__" (inClass (top 5) 0) A.n_q11 A.nd_q11
  bi_q11 : Binds K A.nd_q11 ["self", "number"] []
  fi_q11 : PySem.W.typeIn K (.ref A.n_q11) = some (.type "function")
  kc_q11 : PySem.W.keepIn K (.ref A.c_q11) = true
  xa_q11_number : xaOk K A.c_q11 "number"
  I_q26 : Fun K "__init__" "NoTree.__init__" (inClass (top 2) 0) A.n_q26 A.nd_q26
  bi_q26 : Binds K A.nd_q26 ["self", "part", "number"] []
  fi_q26 : PySem.W.typeIn K (.ref A.n_q26) = some (.type "function")
  kc_q26 : PySem.W.keepIn K (.ref A.c_q26) = true
  xa_q26_part : xaOk K A.c_q26 "part"
  xa_q26_number : xaOk K A.c_q26 "number"
  B_q8 : BaseIn K A.c_q8
theorem sc_q13 : FnScope ["thing"] ["thing"] (defScope s_q13) := ⟨rfl, rfl, rfl, by decide +kernel, rfl, by decide +kernel, by decide +kernel⟩
theorem sc_q6 : FnScope ["thing", "least", "most"] ["thing", "least", "most"] (defScope s_q6) := ⟨rfl, rfl, rfl, by decide +kernel, rfl, by decide +kernel, by decide +kernel⟩
theorem sc_q0 : FnScope ["number", "bottom"] ["number", "bottom"] (defScope s_q0) := ⟨rfl, rfl, rfl, by decide +kernel, rfl, by decide +kernel, by decide +kernel⟩
theorem sc_q4 : FnScope ["thing", "top", "bottom"] ["thing"] (defScope s_q4) := ⟨rfl, rfl, rfl, by decide +kernel, rfl, by decide +kernel, by decide +kernel⟩
theorem sc_q2 : FnScope ["thing", "parents", "rooms"] ["thing"] (defScope s_q2) := ⟨rfl, rfl, rfl, by decide +kernel, rfl, by decide +kernel, by decide +kernel⟩
theorem sc_q3 : FnScope ["thing", "parents", "rooms", "number", "parent", "room"] ["thing"] (defScope s_q3) := ⟨rfl, rfl, rfl, by decide +kernel, rfl, by decide +kernel, by decide +kernel⟩
theorem sc_q12 : FnScope ["thing"] ["thing"] (defScope s_q12) := ⟨rfl, rfl, rfl, by decide +kernel, rfl, by decide +kernel, by decide +kernel⟩
theorem sc_q1 : FnScope ["tree", "thing", "ties", "number", "price"] ["tree", "thing"] (defScope s_q1) := ⟨rfl, rfl, rfl, by decide +kernel, rfl, by decide +kernel, by decide +kernel⟩
theorem sc_q27 : FnScope ["_law_script", "_law_k"] ["_law_script", "_law_k"] (defScope s_q27) := ⟨rfl, rfl, rfl, by decide +kernel, rfl, by decide +kernel, by decide +kernel⟩
theorem sc_q15 : FnScope ["_law_cell_here", "_law_k", "_law_number", "_law_seed"] ["_law_cell_here", "_law_k"] (defScope s_q15) := ⟨rfl, rfl, rfl, by decide +kernel, rfl, by decide +kernel, by decide +kernel⟩
theorem sc_q28 : FnScope ["_law_source_here", "_law_many", "_law_digit", "_law_found"] ["_law_source_here", "_law_many"] (defScope s_q28) := ⟨rfl, rfl, rfl, by decide +kernel, rfl, by decide +kernel, by decide +kernel⟩
theorem sc_q31 : FnScope ["_law_source_here", "_law_most", "_law_many", "_law_style", "_law_parents", "_law_k", "_law_wide"] ["_law_source_here", "_law_most"] (defScope s_q31) := ⟨rfl, rfl, rfl, by decide +kernel, rfl, by decide +kernel, by decide +kernel⟩
theorem sc_q14 : FnScope ["_law_top", "_law_bottom", "_law_one", "_law_other"] ["_law_top", "_law_bottom"] (defScope s_q14) := ⟨rfl, rfl, rfl, by decide +kernel, rfl, by decide +kernel, by decide +kernel⟩
theorem sc_q19 : FnScope ["_law_source_here", "_law_wide"] ["_law_source_here"] (defScope s_q19) := ⟨rfl, rfl, rfl, by decide +kernel, rfl, by decide +kernel, by decide +kernel⟩
theorem sc_q34 : FnScope ["_law_source_here", "_law_top", "_law_bottom", "_law_some"] ["_law_source_here"] (defScope s_q34) := ⟨rfl, rfl, rfl, by decide +kernel, rfl, by decide +kernel, by decide +kernel⟩
theorem sc_q20 : FnScope ["_law_many", "_law_source_here", "_law_thing_here", "_law_turn", "_law_way", "_law_at", "_law_k"] ["_law_many", "_law_source_here"] (defScope s_q20) := ⟨rfl, rfl, rfl, by decide +kernel, rfl, by decide +kernel, by decide +kernel⟩
theorem sc_q21 : FnScope ["_law_thing_here"] ["_law_thing_here"] (defScope s_q21) := ⟨rfl, rfl, rfl, by decide +kernel, rfl, by decide +kernel, by decide +kernel⟩
theorem sc_q7 : FnScope ["_law_thing_here"] ["_law_thing_here"] (defScope s_q7) := ⟨rfl, rfl, rfl, by decide +kernel, rfl, by decide +kernel, by decide +kernel⟩
theorem sc_q33 : FnScope ["_law_many", "_law_thing_here", "_law_place", "_law_one"] ["_law_many", "_law_thing_here"] (defScope s_q33) := ⟨rfl, rfl, rfl, by decide +kernel, rfl, by decide +kernel, by decide +kernel⟩
theorem sc_q29 : FnScope ["_law_e", "_law_kinds"] ["_law_e"] (defScope s_q29) := ⟨rfl, rfl, rfl, by decide +kernel, rfl, by decide +kernel, by decide +kernel⟩
theorem sc_q30 : FnScope ["_law_tree_here", "_law_thing_here", "_law_kept", "_law_found", "_law_e"] ["_law_tree_here", "_law_thing_here"] (defScope s_q30) := ⟨rfl, rfl, rfl, by decide +kernel, rfl, by decide +kernel, by decide +kernel⟩
theorem sc_law : FnScope ["_law_script", "_law_tree_here", "_law_kept", "_law_k", "_law_thing_here", "_law_due_here", "_law_copied"] ["_law_script"] (defScope s_law) := ⟨rfl, rfl, rfl, by decide +kernel, rfl, by decide +kernel, by decide +kernel⟩
theorem sci_q11 : FnScope ["self", "number"] ["self", "number"] (defScope (inClass (top 5) 0)) := ⟨rfl, rfl, rfl, by decide +kernel, rfl, by decide +kernel, by decide +kernel⟩
theorem sci_q26 : FnScope ["self", "part", "number"] ["self", "part", "number"] (defScope (inClass (top 2) 0)) := ⟨rfl, rfl, rfl, by decide +kernel, rfl, by decide +kernel, by decide +kernel⟩
section
variable {P : Program} {w : World} {K : PySem.W.Frag} {mg : Str → Option Value} {base : Heap} {A : Adr}
theorem oki_q11 (T : Txt K mg A) : FnOk P w K mg base CX0 1 A.n_q11 A.nd_q11 ["self", "number"] (spInit A.c_q11 ["number"]) := by
  refine T.I_q11.ok (k := 0) sci_q11 (fun vs H Q E h => by obtain ⟨e, xs, rfl, h, _⟩ := h; rw [List.length_cons, h]; rfl) (fun cdv Ar outer s H vs Q E hr h => ?_)
  obtain ⟨e, xs, rfl, hl, hv, hH, q⟩ := h
  obtain ⟨x1, rfl⟩ : ∃ x1, xs = [x1] := match xs, hl with | [x1], _ => ⟨x1, rfl⟩
  refine ⟨_, pss_cons (ps_expr (pe_binit T.B_q8 T.x_q11 rfl T.m_q8 (pa_cons (pv 0) (pa_cons (pe_join (pj_lit (pj_var (pv 1) pj_nil))) pa_nil)))) (pss_one (ps_x0 T.x_q11 T.o_q11 T.xa_q11_number (pv 0) (pv 1))), ?_⟩
  refine ⟨_, rfl, ⟨trivial, ⟨⟨x1, rfl, hv x1 (by simp)⟩, trivial⟩⟩, fun y => ?_⟩
  refine ⟨e, y, none, rfl, hH, ?_⟩
  refine ⟨_, rfl, _, rfl, e, rfl, upd_same, fun d hd => ?_⟩
  have hde : d ≠ e := fun z => by rw [z, upd_same] at hd; cases hd
  have hd0 : H d = none := by rw [upd_ne hde] at hd; exact hd
  have := q d hd0
  simp only [upd_upd]
  exact this
theorem oki_q26 (T : Txt K mg A) : FnOk P w K mg base CX0 1 A.n_q26 A.nd_q26 ["self", "part", "number"] (spInit A.c_q26 ["part", "number"]) := by
  refine T.I_q26.ok (k := 0) sci_q26 (fun vs H Q E h => by obtain ⟨e, xs, rfl, h, _⟩ := h; rw [List.length_cons, h]; rfl) (fun cdv Ar outer s H vs Q E hr h => ?_)
  obtain ⟨e, xs, rfl, hl, hv, hH, q⟩ := h
  obtain ⟨x1, x2, rfl⟩ : ∃ x1 x2, xs = [x1, x2] := match xs, hl with | [x1, x2], _ => ⟨x1, x2, rfl⟩
  refine ⟨_, pss_cons (ps_expr (pe_binit T.B_q8 T.x_q26 rfl T.m_q8 (pa_cons (pv 0) (pa_cons (pe_join (pj_lit (pj_var (pv 1) (pj_lit (pj_var (pv 2) pj_nil))))) pa_nil)))) (pss_cons (ps_x0 T.x_q26 T.o_q26 T.xa_q26_part (pv 0) (pv 1)) (pss_one (ps_x1 T.x_q26 T.o_q26 T.xa_q26_number (pv 0) (pv 2)))), ?_⟩
  refine ⟨_, rfl, ⟨trivial, ⟨⟨x1, rfl, hv x1 (by simp)⟩, ⟨trivial, ⟨⟨x2, rfl, hv x2 (by simp)⟩, trivial⟩⟩⟩⟩, fun y => ?_⟩
  refine ⟨e, y, none, rfl, hH, ?_⟩
  refine ⟨_, rfl, _, rfl, e, rfl, upd_same, fun d hd => ?_⟩
  have hde : d ≠ e := fun z => by rw [z, upd_same] at hd; cases hd
  have hd0 : H d = none := by rw [upd_ne hde] at hd; exact hd
  refine ⟨_, rfl, _, rfl, e, d, _, rfl, by rw [upd_ne (Ne.symm hde), upd_same], upd_same, hde, by simp, rfl, ?_⟩
  have := q d hd0
  simp only [upd_upd]
  exact this
theorem ok_q13 (T : Txt K mg A) : FnOk P w K mg base CX0 1 A.f_q13 A.d_q13 ["thing"] (spOf [false] false (sdWhole)) := by
  have S := sc_q13
  refine fnD T.F_q13 S ⟨[false], [false], false⟩ _ ?hl rfl rfl fun cdv Ar outer s H E hr => ⟨_, (qss_one (qs_ret (qe_and (qe_isT rfl T.z_isinstance bt_isinstance (qe_var 0) (pe_bltn (v := .ty "int") rfl T.z_int bt_int rfl)) (qe_one (qe_not (qe_isT rfl T.z_isinstance bt_isinstance (qe_var 0) (pe_bltn (v := .ty "bool") rfl T.z_bool bt_bool rfl))))))), fun ds q h => ?_⟩
  case hl => intro ds q h; obtain ⟨d, rfl, _⟩ := h; rfl
  obtain ⟨d, rfl, hs, q0⟩ := h
  cases d <;> first | exact q0 | cases hs
theorem ok_q6 (T : Txt K mg A) : FnOk P w K mg base CX0 2 A.f_q6 A.d_q6 ["thing", "least", "most"] (spOf [false, false, false] false (sdBetween)) := by
  have G_q13 := ok_q13 (P := P) (w := w) (base := base) T
  have S := sc_q6
  refine fnD T.F_q6 S ⟨[false, false, false], [false, false, false], false⟩ _ ?hl rfl rfl fun cdv Ar outer s H E hr => ⟨_, (qss_one (qs_ret (qe_and (qe_call (G_q13) (hr.mono (by decide)) rfl T.m_q13 T.k_q13 T.b_q13 (qk_s (qe_var 0) qk_nil)) (qe_one (qe_chain op_le op_le dB dB (qe_var 1) (qe_var 0) (qe_var 2)))))), fun ds q h => ?_⟩
  case hl => intro ds q h; obtain ⟨d, lo, hi, rfl, _⟩ := h; rfl
  obtain ⟨d, lo, hi, rfl, hs, q0⟩ := h
  refine ⟨d, rfl, hs, ?_⟩
  cases d
  case int i =>
    refine (ite2 (c := decide (lo ≤ i) = true) (fun c => ?_) (fun c => ?_))
    · have : btw lo hi (.int i) = decide (i ≤ hi) := by show (decide (lo ≤ i) && decide (i ≤ hi)) = _; rw [c, Bool.true_and]
      rw [this] at q0; exact q0
    · have : btw lo hi (.int i) = false := by show (decide (lo ≤ i) && decide (i ≤ hi)) = _; rw [Bool.eq_false_iff.mpr c, Bool.false_and]
      rw [this] at q0; exact q0
  all_goals first | exact q0 | cases hs
theorem ok_q0 (T : Txt K mg A) : FnOk P w K mg base CX0 1 A.f_q0 A.d_q0 ["number", "bottom"] (spOf [false, false] false (sdGcd)) := by
  have S := sc_q0
  refine fnD T.F_q0 S ⟨[false, false], [false, false], false⟩ _ ?hl rfl rfl fun cdv Ar outer s H E hr => ⟨_, (qss_cons (qs_while PassesOwn.never (qt_cmp (op_neD hr.units) dNe (qe_var 1) qe_int (nomark _)) (qss_one (qs_par (i := 0) (j := 1) rfl S.nd rfl rfl (by decide) rfl rfl (qe_var 1) (qe_op op_mod dIC (qe_var 0) (qe_var 1)) rfl)))
      (qss_one (qs_ret (qe_var 0)))), fun ds q h => ?_⟩
  case hl => intro ds q h; obtain ⟨n, b, rfl, _⟩ := h; rfl
  obtain ⟨n, b, rfl, hb, q0⟩ := h
  refine ⟨fun k ρ => ∃ n' b' : Int, ρ = [some (.int n'), some (.int b')] ∧ 0 ≤ b' ∧ b'.toNat = k ∧ gcdP n' b' = gcdP n b, ⟨_, n, b, rfl, hb, rfl, rfl⟩, ?_⟩
  rintro k ρ ⟨n', b', rfl, hb', hk, hg⟩
  refine (ite2 (c := (!decide (b' = 0)) = true) (fun c => ?_) (fun c => ?_))
  · have c' : b' ≠ 0 := by simpa using c
    have hp : 0 < b' := by omega
    refine ⟨hp, ?_⟩
    have := Int.emod_lt_of_pos n' hp
    have := Int.emod_nonneg n' (show b' ≠ 0 by omega)
    exact ⟨_, by omega, b', n' % b', rfl, by omega, rfl, by rw [gcdP_step hp]; exact hg⟩
  · have c' : b' = 0 := by simpa using c
    subst c'
    have e : gcdP n b = n' := by rw [← hg]; unfold gcdP; rw [if_pos rfl]
    rw [e] at q0; exact q0
theorem ok_q2 (T : Txt K mg A) : FnOk P w K mg base CX0 1 A.f_q2 A.d_q2 ["thing"] (spOf [false] false (sdTwoD)) := by
  have S := sc_q2
  refine fnD T.F_q2 S ⟨[false], [false, false, false], false⟩ _ ?hl rfl rfl fun cdv Ar outer s H E hr => ⟨_, (qss_cons (qs_if (QW.qt (qw_or (qt_not (qt_val (qe_isT rfl T.z_isinstance bt_isinstance (qe_var 0) (pe_bltn (v := .ty "tuple") rfl T.z_tuple bt_tuple rfl)))) (qw_or1 (qt_cmp (op_neD hr.units) dNe (qe_callB call_len_seq dLen rfl T.z_len bt_len (qa_cons (qe_var 0) qa_nil)) qe_int (nomark _))))) (qss_one (qs_ret qe_bl)) qss_nil)
      (qss_cons (qs_asg (qe_var 0) (qg_tup rfl (qgs_cons (qg_name (i := 1) S.nd rfl (Or.inl rfl)) (qgs_cons (qg_name (i := 2) S.nd rfl (Or.inl rfl)) qgs_nil)) (takes_cons1 (takes_cons1 takes_nil))))
      (qss_cons (qs_if (QW.qt (qw_or (qt_not (qt_val (qe_isT rfl T.z_isinstance bt_isinstance (qe_var 1) (pe_bltn (v := .ty "list") rfl T.z_list bt_list rfl)))) (qw_or1 (qt_not (qt_val (qe_isT rfl T.z_isinstance bt_isinstance (qe_var 2) (pe_bltn (v := .ty "list") rfl T.z_list bt_list rfl))))))) (qss_one (qs_ret qe_bl)) qss_nil)
      (qss_one (qs_ret (qe_and (qe_cmp (op_eqD hr.units) dEq (qe_callB call_len_seq dLen rfl T.z_len bt_len (qa_cons (qe_var 1) qa_nil)) (qe_callB call_len_seq dLen rfl T.z_len bt_len (qa_cons (qe_var 2) qa_nil)) (nomark _)) (qe_one (qe_chain op_le op_le dB dB qe_int (qe_callB call_len_seq dLen rfl T.z_len bt_len (qa_cons (qe_var 1) qa_nil)) (qe_globI (i := 23) rfl T.c_MOST_TIES))))))))), fun ds q h => ?_⟩
  case hl => intro ds q h; obtain ⟨d, rfl, _⟩ := h; rfl
  obtain ⟨d, rfl, hp, q0⟩ := h
  cases d with
  | tup ds =>
    refine (ite2 (c := (!decide ((ds.length : Int) = 2)) = true) (fun c => ?_) (fun c => ?_))
    · have : twoL (.tup ds) = false := by
        cases h : twoL (.tup ds) with
        | false => rfl
        | true =>
          obtain ⟨ps, rs, e, _⟩ := twoL_shape h
          cases e; simp at c
      rw [this] at q0; exact q0
    · obtain ⟨a, b, rfl⟩ : ∃ a b, ds = [a, b] := by
        have hl : ds.length = 2 := by simp at c; omega
        match ds, hl with
        | [a, b], _ => exact ⟨a, b, rfl⟩
      rw [pln, plns_cons, plns_cons] at hp
      have ha := pln_isS hp.1
      have hb := pln_isS hp.2.1
      cases a with
      | lst ps =>
        cases b with
        | lst rs =>
          refine (ite2 (c := decide ((ps.length : Int) = (rs.length : Int)) = true) (fun c1 => ?_) (fun c1 => ?_))
          · refine (ite2 (c := decide ((1 : Int) ≤ (ps.length : Int)) = true) (fun c2 => ?_) (fun c2 => ?_))
            · have e : twoL (.tup [.lst ps, .lst rs]) = decide ((ps.length : Int) ≤ 23) := by
                have c1' : ps.length = rs.length := by have := of_decide_eq_true c1; omega
                have c2' : 1 ≤ ps.length := by simp at c2; omega
                show (decide (ps.length = rs.length) && (decide (1 ≤ ps.length) && decide (ps.length ≤ 23))) = _
                rw [decide_eq_true c1', decide_eq_true c2', Bool.true_and, Bool.true_and]
                exact decide_eq_decide.mpr (by omega)
              rw [e] at q0; exact q0
            · have e : twoL (.tup [.lst ps, .lst rs]) = false := by
                have c2' : ¬ 1 ≤ ps.length := by simp at c2; omega
                show (decide (ps.length = rs.length) && (decide (1 ≤ ps.length) && decide (ps.length ≤ 23))) = _
                rw [decide_eq_false c2', Bool.false_and, Bool.and_false]
              rw [e] at q0; exact q0
          · have e : twoL (.tup [.lst ps, .lst rs]) = false := by
              have c1' : ¬ ps.length = rs.length := fun z => c1 (decide_eq_true (by omega))
              show (decide (ps.length = rs.length) && (decide (1 ≤ ps.length) && decide (ps.length ≤ 23))) = _
              rw [decide_eq_false c1', Bool.false_and]
            rw [e] at q0; exact q0
        | _ => first | exact q0 | cases hb
      | _ => first | exact q0 | cases ha
  | _ => first | exact q0 | (rw [pln] at hp; cases hp)
theorem okx_q3 (T : Txt K mg A) : FnOk P w K mg base (CX1 P w) 3 A.f_q3 A.d_q3 ["thing"] (spOfX [false] false ((sdLookT A.c_q26))) := by
  have G_q2 := ok_q2 (P := P) (w := w) (base := base) T
  have G_q6 := ok_q6 (P := P) (w := w) (base := base) T
  have S := sc_q3
  refine fnX T.F_q3 S ⟨[false], [false, false, false, false, false, false], false⟩ _ ?hl rfl rfl fun cdv Ar outer s H E hr => ⟨_, (qxs_cons (qx_if (qt_not (qt_val (qe_call (G_q2) (hr.mono (by decide)) rfl T.m_q2 T.k_q2 T.b_q2 (qk_s (qe_var 0) qk_nil)))) (qxs_one (qx_raise1 (oki_q26 T) (hr.mono (by decide)) T.bi_q26 T.x_q26 T.fi_q26 T.kc_q26 rfl T.m_q26 (qa_cons qe_str (qa_cons qe_non qa_nil)))) qxs_nil)
      (qxs_cons (qx_of (qs_asg (qe_var 0) (qg_tup rfl (qgs_cons (qg_name (i := 1) S.nd rfl (Or.inl rfl)) (qgs_cons (qg_name (i := 2) S.nd rfl (Or.inl rfl)) qgs_nil)) (takes_cons1 (takes_cons1 takes_nil)))))
      (qxs_cons (qx_for rfl (qi_enum rfl T.z_enumerate (qa_cons (qe_var 1) qa_nil)) (qg_tup rfl (qgs_cons (qg_name (i := 3) S.nd rfl (Or.inl rfl)) (qgs_cons (qg_name (i := 4) S.nd rfl (Or.inl rfl)) qgs_nil)) (takes_cons1 (takes_cons1 takes_nil))) (qxs_one (qx_if (qt_not (qt_val (qe_call (G_q6) (hr.mono (by decide)) rfl T.m_q6 T.k_q6 T.b_q6 (qk_s (qe_var 4) (qk_s qe_int (qk_s (qe_var 3) qk_nil)))))) (qxs_one (qx_raise1 (oki_q26 T) (hr.mono (by decide)) T.bi_q26 T.x_q26 T.fi_q26 T.kc_q26 rfl T.m_q26 (qa_cons qe_str (qa_cons (qe_var 3) qa_nil)))) qxs_nil)))
      (qxs_one (qx_for rfl (qi_enum rfl T.z_enumerate (qa_cons (qe_var 2) qa_nil)) (qg_tup rfl (qgs_cons (qg_name (i := 3) S.nd rfl (Or.inl rfl)) (qgs_cons (qg_name (i := 5) S.nd rfl (Or.inl rfl)) qgs_nil)) (takes_cons1 (takes_cons1 takes_nil))) (qxs_one (qx_if (qt_not (qt_val (qe_call (G_q6) (hr.mono (by decide)) rfl T.m_q6 T.k_q6 T.b_q6 (qk_s (qe_var 5) (qk_s qe_int (qk_s (qe_globI (i := 1000000) rfl T.c_MOST_ROOM) qk_nil)))))) (qxs_one (qx_raise1 (oki_q26 T) (hr.mono (by decide)) T.bi_q26 T.x_q26 T.fi_q26 T.kc_q26 rfl T.m_q26 (qa_cons qe_str (qa_cons (qe_var 3) qa_nil)))) qxs_nil))))))), fun ds q qx h => ?_⟩
  case hl => intro ds q qx h; obtain ⟨d, rfl, _⟩ := h; rfl
  obtain ⟨d, rfl, hp, q0, x0⟩ := h
  refine ⟨d, rfl, hp, ?_⟩
  cases hT : twoL d with
  | false => exact ⟨rfl, fmt2 (fmt_str (by decide)) fmt_non, x0 _ _ (treeErr_no hT)⟩
  | true =>
    obtain ⟨ps, rs, rfl, hl, h1, h2⟩ := twoL_shape hT
    rw [treeErr_two hT] at q0 x0
    rw [pln, plns_cons, plns_cons, pln, pln] at hp
    refine ⟨fun i ρ => ∃ v1 v2 v3, ρ = [some (.tup [.lst ps, .lst rs]), some (.lst ps), some (.lst rs), v1, v2, v3] ∧ firstBad fPar ps 0 = firstBad fPar (ps.drop i) i, ⟨_, _, _, rfl, rfl⟩, ?_, ?_⟩
    · rintro i d ρ hd ⟨v1, v2, v3, rfl, hf⟩
      obtain ⟨d', hd', rfl⟩ := enuD_at hd
      have hi : i < ps.length := (List.getElem?_eq_some_iff.mp hd').1
      refine ⟨d', 0, (i : Int), rfl, pln_isS (plns_at hp.1 hd'), ?_⟩
      rw [firstBad_step hd'] at hf
      cases hb : btw 0 (i : Int) d' with
      | true =>
        rw [if_pos (show fPar i d' = true from hb)] at hf
        exact ⟨_, _, _, rfl, hf⟩
      | false =>
        rw [if_neg (show ¬ fPar i d' = true by show ¬ btw 0 (i : Int) d' = true; rw [hb]; decide)] at hf
        exact ⟨rfl, fmt2 (fmt_str (by decide)) (fmt_nat (Nat.lt_trans (show i < 23 by omega) (by decide))), x0 _ _ (by rw [hf])⟩
    · rintro ρ ⟨v1, v2, v3, rfl, hf⟩
      rw [show (enuD ps).length = ps.length by simp [enuD], List.drop_length] at hf
      have hf : firstBad fPar ps 0 = none := hf
      rw [hf] at q0 x0
      refine ⟨fun i ρ => ∃ v1 v2 v3, ρ = [some (.tup [.lst ps, .lst rs]), some (.lst ps), some (.lst rs), v1, v2, v3] ∧ firstBad fRoom rs 0 = firstBad fRoom (rs.drop i) i, ⟨_, _, _, rfl, rfl⟩, ?_, ?_⟩
      · rintro i d ρ hd ⟨v1, v2, v3, rfl, hg⟩
        obtain ⟨d', hd', rfl⟩ := enuD_at hd
        have hi : i < rs.length := (List.getElem?_eq_some_iff.mp hd').1
        refine ⟨d', 1, 1000000, rfl, pln_isS (plns_at hp.2.1 hd'), ?_⟩
        rw [firstBad_step hd'] at hg
        cases hb : btw 1 1000000 d' with
        | true =>
          rw [if_pos (show fRoom i d' = true from hb)] at hg
          exact ⟨_, _, _, rfl, hg⟩
        | false =>
          rw [if_neg (show ¬ fRoom i d' = true by show ¬ btw 1 1000000 d' = true; rw [hb]; decide)] at hg
          exact ⟨rfl, fmt2 (fmt_str (by decide)) (fmt_nat (Nat.lt_trans (show i < 23 by omega) (by decide))), x0 _ _ (by rw [hg])⟩
      · rintro ρ ⟨v1, v2, v3, rfl, hg⟩
        rw [show (enuD rs).length = rs.length by simp [enuD], List.drop_length] at hg
        have hg : firstBad fRoom rs 0 = none := hg
        rw [hg] at q0
        exact q0 rfl
theorem ok_q4 (T : Txt K mg A) : FnOk P w K mg base CX0 2 A.f_q4 A.d_q4 ["thing"] (spOf [false] false (sdFrD)) := by
  have G_q0 := ok_q0 (P := P) (w := w) (base := base) T
  have G_q13 := ok_q13 (P := P) (w := w) (base := base) T
  have S := sc_q4
  refine fnD T.F_q4 S ⟨[false], [false, false, false], false⟩ _ ?hl rfl rfl fun cdv Ar outer s H E hr => ⟨_, (qss_cons (qs_if (QW.qt (qw_or (qt_not (qt_val (qe_isT rfl T.z_isinstance bt_isinstance (qe_var 0) (pe_bltn (v := .ty "tuple") rfl T.z_tuple bt_tuple rfl)))) (qw_or1 (qt_cmp (op_neD hr.units) dNe (qe_callB call_len_seq dLen rfl T.z_len bt_len (qa_cons (qe_var 0) qa_nil)) qe_int (nomark _))))) (qss_one (qs_ret qe_bl)) qss_nil)
      (qss_cons (qs_asg (qe_var 0) (qg_tup rfl (qgs_cons (qg_name (i := 1) S.nd rfl (Or.inl rfl)) (qgs_cons (qg_name (i := 2) S.nd rfl (Or.inl rfl)) qgs_nil)) (takes_cons1 (takes_cons1 takes_nil))))
      (qss_cons (qs_if (QW.qt (qw_or (qt_not (qt_val (qe_call (G_q13) (hr.mono (by decide)) rfl T.m_q13 T.k_q13 T.b_q13 (qk_s (qe_var 1) qk_nil)))) (qw_or1 (qt_not (qt_val (qe_call (G_q13) (hr.mono (by decide)) rfl T.m_q13 T.k_q13 T.b_q13 (qk_s (qe_var 2) qk_nil))))))) (qss_one (qs_ret qe_bl)) qss_nil)
      (qss_one (qs_ret (qe_and (qe_cmp op_ge dB (qe_var 2) qe_int (nomark _)) (qe_one (qe_cmp (op_eqD hr.units) dEq (qe_call (G_q0) (hr.mono (by decide)) rfl T.m_q0 T.k_q0 T.b_q0 (qk_s (qe_var 1) (qk_s (qe_var 2) qk_nil))) qe_int (nomark _))))))))), fun ds q h => ?_⟩
  case hl => intro ds q h; obtain ⟨d, rfl, _⟩ := h; rfl
  obtain ⟨d, rfl, hp, q0⟩ := h
  cases d with
  | tup ds =>
    refine (ite2 (c := (!decide ((ds.length : Int) = 2)) = true) (fun c => ?_) (fun c => ?_))
    · have : frB (.tup ds) = false := by
        unfold frB; split
        · rename_i e; cases e; simp at c
        · rfl
      rw [this] at q0; exact q0
    · obtain ⟨x, y, rfl⟩ : ∃ x y, ds = [x, y] := by
        have hl : ds.length = 2 := by simp at c; omega
        match ds, hl with
        | [a, b], _ => exact ⟨a, b, rfl⟩
      rw [pln, plns_cons, plns_cons] at hp
      refine ⟨x, rfl, pln_isS hp.1, ?_⟩
      cases x with
      | int t =>
        refine ⟨y, rfl, pln_isS hp.2.1, ?_⟩
        cases y with
        | int b =>
          have e : frB (.tup [.int t, .int b]) = (decide (1 ≤ b) && decide (gcdP t b = 1)) := rfl
          rw [e] at q0
          refine (ite2 (c := decide (1 ≤ b) = true) (fun c => ?_) (fun c => ?_))
          · have hb : 1 ≤ b := of_decide_eq_true c
            refine ⟨t, b, rfl, by omega, ?_⟩
            rw [c, Bool.true_and] at q0; exact q0
          · rw [Bool.eq_false_iff.mpr c, Bool.false_and] at q0; exact q0
        | _ => first | exact q0 | (have := hp.2.1; rw [pln] at this; cases this)
      | _ => first | exact q0 | (have := hp.1; rw [pln] at this; cases this)
  | _ => first | exact q0 | (rw [pln] at hp; cases hp)
theorem ok_q12 (T : Txt K mg A) : FnOk P w K mg base CX0 3 A.f_q12 A.d_q12 ["thing"] (spOf [false] false (sdPrD)) := by
  have G_q4 := ok_q4 (P := P) (w := w) (base := base) T
  have S := sc_q12
  refine fnD T.F_q12 S ⟨[false], [false], false⟩ _ ?hl rfl rfl fun cdv Ar outer s H E hr => ⟨_, (qss_one (qs_ret (qe_and (qe_call (G_q4) (hr.mono (by decide)) rfl T.m_q4 T.k_q4 T.b_q4 (qk_s (qe_var 0) qk_nil)) (qe_one (qe_cmp op_ge dB (qe_ix ix_seq dIx (qe_var 0) qe_int (fun _ _ => rfl)) qe_int (nomark _)))))), fun ds q h => ?_⟩
  case hl => intro ds q h; obtain ⟨d, rfl, _⟩ := h; rfl
  obtain ⟨d, rfl, hp, q0⟩ := h
  refine ⟨d, rfl, hp, ?_⟩
  cases hf : frB d with
  | false =>
    have : prB d = false := by
      unfold prB frB at *; split at hf
      · rename_i t b; show ((decide (1 ≤ b) && decide (gcdP t b = 1)) && decide (0 ≤ t)) = false; rw [hf]; rfl
      · rfl
    rw [this] at q0; exact q0
  | true =>
    obtain ⟨t, b, rfl⟩ : ∃ t b, d = .tup [.int t, .int b] := by
      unfold frB at hf; split at hf
      · exact ⟨_, _, rfl⟩
      · cases hf
    have e : prB (.tup [.int t, .int b]) = (frB (.tup [.int t, .int b]) && decide (0 ≤ t)) := rfl
    rw [e, hf, Bool.true_and] at q0
    exact q0
theorem okx_q1 (T : Txt K mg A) : FnOk P w K mg base (CX1 P w) 4 A.f_q1 A.d_q1 ["tree", "thing"] (spOfX [false, false] false ((sdPricesX A.c_q26 A.c_q11))) := by
  have G_q12 := ok_q12 (P := P) (w := w) (base := base) T
  have GX_q3 := okx_q3 (P := P) (w := w) (base := base) T
  have S := sc_q1
  refine fnX T.F_q1 S ⟨[false, false], [false, false, false, false, false], false⟩ _ ?hl rfl rfl fun cdv Ar outer s H E hr => ⟨_, (qxs_cons (qx_drop (qxe_call (GX_q3) (hr.mono (by decide)) rfl T.m_q3 T.k_q3 T.b_q3 (qk_s (qe_var 0) qk_nil)))
      (qxs_cons (qx_if (qt_not (qt_val (qe_isT rfl T.z_isinstance bt_isinstance (qe_var 1) (pe_bltn (v := .ty "list") rfl T.z_list bt_list rfl)))) (qxs_one (qx_raise1 (oki_q11 T) (hr.mono (by decide)) T.bi_q11 T.x_q11 T.fi_q11 T.kc_q11 rfl T.m_q11 (qa_cons qe_non qa_nil))) qxs_nil)
      (qxs_cons (qx_of (qs_set (i := 2) S.nd rfl (Or.inl rfl) (qe_callB call_len_seq dLen rfl T.z_len bt_len (qa_cons (qe_ix ix_seq dIx (qe_var 0) qe_int (fun _ _ => rfl)) qa_nil))))
      (qxs_cons (qx_for rfl (qi_enum rfl T.z_enumerate (qa_cons (qe_slice (qe_var 1) qo_none (qo_some (qe_var 2))) qa_nil)) (qg_tup rfl (qgs_cons (qg_name (i := 3) S.nd rfl (Or.inl rfl)) (qgs_cons (qg_name (i := 4) S.nd rfl (Or.inl rfl)) qgs_nil)) (takes_cons1 (takes_cons1 takes_nil))) (qxs_one (qx_if (qt_not (qt_val (qe_call (G_q12) (hr.mono (by decide)) rfl T.m_q12 T.k_q12 T.b_q12 (qk_s (qe_var 4) qk_nil)))) (qxs_one (qx_raise1 (oki_q11 T) (hr.mono (by decide)) T.bi_q11 T.x_q11 T.fi_q11 T.kc_q11 rfl T.m_q11 (qa_cons (qe_var 3) qa_nil))) qxs_nil)))
      (qxs_one (qx_if (qt_cmp (op_neD hr.units) dNe (qe_callB call_len_seq dLen rfl T.z_len bt_len (qa_cons (qe_var 1) qa_nil)) (qe_var 2) (nomark _)) (qxs_one (qx_raise1 (oki_q11 T) (hr.mono (by decide)) T.bi_q11 T.x_q11 T.fi_q11 T.kc_q11 rfl T.m_q11 (qa_cons (qe_callB (call_min2 rfl) dMin rfl T.z_min bt_min (qa_cons (qe_callB call_len_seq dLen rfl T.z_len bt_len (qa_cons (qe_var 1) qa_nil)) (qa_cons (qe_var 2) qa_nil))) qa_nil))) qxs_nil)))))), fun ds q qx h => ?_⟩
  case hl => intro ds q qx h; obtain ⟨t, x, rfl, _⟩ := h; rfl
  obtain ⟨t, x, rfl, h⟩ := h
  rcases h with ⟨p, n, hp, he, x0⟩ | ⟨ps, rs, rfl, hT, hx, hlen, h⟩
  · refine ⟨t, rfl, hp, fun z => ?_, fun p' n' z => ?_⟩
    · rw [he] at z; cases z
    · rw [he] at z; cases z; exact x0
  · refine ⟨dPair ps rs, rfl, pln_pair ps rs, fun _ => ?_, fun p' n' z => by rw [treeErr_tree hT] at z; cases z⟩
    have hti := hT.hi
    cases x with
    | lst ds =>
      have hl := hlen ds rfl
      rw [pln] at hx
      have e : pricesErr ps.length (.lst ds) = (match firstBad fPr (ds.take ps.length) 0 with | some i => some (.int i) | none => if ds.length = ps.length then none else some (.int (min ds.length ps.length : Nat))) := rfl
      rw [e] at h
      have ec : cutD ds none (some ((ps.map D.int).length : Int)) = ds.take ps.length := by rw [cutD_take (by omega), Int.toNat_natCast, List.length_map]
      show ∃ I : Nat → DSt → Prop, _
      rw [ec]
      have htl : (ds.take ps.length).length ≤ 23 := Nat.le_trans (List.length_take_le ..) hti
      refine ⟨fun i ρ => ∃ v1 v2, ρ = [some (dPair ps rs), some (.lst ds), some (.int ((ps.map D.int).length : Int)), v1, v2] ∧ firstBad fPr (ds.take ps.length) 0 = firstBad fPr ((ds.take ps.length).drop i) i, ⟨_, _, rfl, rfl⟩, ?_, ?_⟩
      · rintro i d ρ hd ⟨v1, v2, rfl, hf⟩
        obtain ⟨d', hd', rfl⟩ := enuD_at hd
        have hi : i < (ds.take ps.length).length := (List.getElem?_eq_some_iff.mp hd').1
        refine ⟨d', rfl, plns_at (plns_take hx ps.length) hd', ?_⟩
        rw [firstBad_step hd'] at hf
        cases hb : prB d' with
        | true =>
          rw [if_pos (show fPr i d' = true from hb)] at hf
          exact ⟨_, _, rfl, hf⟩
        | false =>
          rw [if_neg (show ¬ fPr i d' = true by show ¬ prB d' = true; rw [hb]; decide)] at hf
          rw [hf] at h
          refine ⟨rfl, fmt1 (fmt_nat (Nat.lt_trans (show i < 31 by omega) (by decide))), ?_⟩
          rcases h with ⟨n, e, z⟩ | ⟨e, _⟩
          · cases e; exact z
          · cases e
      · rintro ρ ⟨v1, v2, rfl, hf⟩
        rw [show (enuD (ds.take ps.length)).length = (ds.take ps.length).length by simp [enuD], List.drop_length] at hf
        have hf : firstBad fPr (ds.take ps.length) 0 = none := hf
        rw [hf] at h
        have h : (∃ n, (if ds.length = ps.length then none else some (D.int (min ds.length ps.length : Nat))) = some n ∧ qx A.c_q11 nNum [n] []) ∨ ((if ds.length = ps.length then none else some (D.int (min ds.length ps.length : Nat))) = none ∧ q .non []) := h
        refine (ite2 (c := (!decide ((ds.length : Int) = ((ps.map D.int).length : Int))) = true) (fun c => ?_) (fun c => ?_))
        · have c' : ¬ ds.length = ps.length := by rw [len_ints] at c; simp at c; omega
          rw [if_neg c'] at h
          have em : (if ((ps.map D.int).length : Int) < (ds.length : Int) then ((ps.map D.int).length : Int) else (ds.length : Int)) = ((min ds.length ps.length : Nat) : Int) := by
            rw [len_ints]; split <;> omega
          have hx : qx A.c_q11 nNum [.int (min ds.length ps.length : Nat)] [] := by
            rcases h with ⟨n, e, z⟩ | ⟨e, _⟩
            · cases e; exact z
            · cases e
          have hfm : (min ds.length ps.length : Nat) < 31 := Nat.lt_of_le_of_lt (Nat.min_le_right _ _) (Nat.lt_of_le_of_lt hti (by decide))
          generalize (min ds.length ps.length : Nat) = mm at em hx hfm
          have hx' : qx A.c_q11 nNum [.int (if ((ps.map D.int).length : Int) < (ds.length : Int) then ((ps.map D.int).length : Int) else (ds.length : Int))] [] := by rw [em]; exact hx
          exact ⟨rfl, fmt1 (em ▸ fmt_nat (Nat.lt_trans hfm (by decide))), hx'⟩
        · have c' : ds.length = ps.length := by rw [len_ints] at c; simp at c; omega
          rw [if_pos c'] at h
          rcases h with ⟨n, e, z⟩ | ⟨_, z⟩
          · cases e
          · exact z
    | _ =>
      first
      | (refine ⟨rfl, fmt1 fmt_non, ?_⟩
         rcases h with ⟨n, e, z⟩ | ⟨e, _⟩
         · cases e; exact z
         · cases e)
      | (rw [pln] at hx; cases hx)
end
end K23
namespace K23
open PySem L2
section
variable {P : Program} {w : World} {K : PySem.W.Frag} {mg : Str → Option Value} {base : Heap} {A : Adr}
theorem ok_q27 (T : Txt K mg A) : FnOk P w K mg base CX0 1 A.f_q27 A.d_q27 ["_law_script", "_law_k"] (spOf [false, false] false (sdCell K)) := by
  have S := sc_q27
  refine fnD T.F_q27 S ⟨[false, false], [false, false], false⟩ _ ?hl rfl rfl fun cdv Ar outer s H E hr => ⟨_, (qss_cons (qs_if (qt_cmp op_lt dB (qe_var 1) (qe_callB call_len_seq dLen rfl T.z_len bt_len (qa_cons (qe_var 0) qa_nil)) (nomark _)) (qss_one (qs_ret (qe_ix ix_seq dIx (qe_var 0) (qe_var 1) (fun _ _ => rfl)))) qss_nil)
      (qss_one (qs_ret qe_int))), fun ds q h => ?_⟩
  case hl => intro ds q h; obtain ⟨φ, ns, k, rfl, _⟩ := h; rfl
  obtain ⟨φ, ns, k, rfl, hφ, h0, q0⟩ := h
  refine ⟨hφ, ?_⟩
  refine (ite2 (c := decide (k < (ns.length : Int)) = true) (fun c => ?_) (fun c => ?_))
  · have c' : k < ns.length := by simpa using c
    refine ⟨hφ, ?_⟩
    show (match atI ns k with | some n => q (.int n) [] | none => False)
    rw [atI_ns h0 c']; exact q0
  · have c' : ns.length ≤ k.toNat := by simp at c; omega
    have e : cellZ ns k = 0 := by unfold cellZ; rw [List.getD_eq_getElem?_getD, List.getElem?_eq_none c']; rfl
    rw [e] at q0; exact q0
theorem ok_q15 (T : Txt K mg A) : FnOk P w K mg base CX0 1 A.f_q15 A.d_q15 ["_law_cell_here", "_law_k"] (spOf [false, false] true (sdSource)) := by
  have S := sc_q15
  refine fnD T.F_q15 S ⟨[false, false], [false, false, false, false], true⟩ _ ?hl rfl rfl fun cdv Ar outer s H E hr => ⟨_, (qss_cons (qs_set (i := 2) S.nd rfl (Or.inl rfl) (qe_callB call_abs dAbs rfl T.z_abs bt_abs (qa_cons (qe_var 0) qa_nil)))
      (qss_cons (qs_set (i := 3) S.nd rfl (Or.inl rfl) (qe_op op_mod dIC (qe_op op_mul dIC (qe_op op_add dI (qe_op op_add dI (qe_op op_mod dIC (qe_var 2) qe_int) (qe_op op_mul dIC qe_int (qe_var 1))) qe_int) qe_int) qe_int))
      (qss_cons (qs_if (qt_cmp op_lt dB (qe_var 2) (qe_op op_pow dIC qe_int qe_int) (nomark _)) (qss_one (qs_set (i := 2) S.nd rfl (Or.inl rfl) qe_int)) qss_nil)
      (qss_one (qs_retM (QF.qm (qf_lst (qa_cons (qe_var 2) (qa_cons (qe_var 3) qa_nil))))))))), fun ds q h => ?_⟩
  case hl => intro ds q h; obtain ⟨c, k, rfl, _⟩ := h; rfl
  obtain ⟨c, k, rfl, h0, h1, q0⟩ := h
  obtain ⟨z, hz⟩ : ∃ z : Int, z = (if c < 0 then -c else c) := ⟨_, rfl⟩
  have hz0 : 0 ≤ z := by rw [hz]; split <;> omega
  refine ⟨(show (0 : Int) < 1000003 by decide), Or.inl ⟨by decide, by decide⟩, Or.inr ⟨by decide, by decide⟩, (show (0 : Int) < 2147483647 by decide), ?_⟩
  refine ⟨⟨by decide, by decide, by decide⟩, ?_⟩
  refine (ite2 (c := decide ((if c < 0 then -c else c) < 10 ^ 18) = true) (fun c => ?_) (fun c => ?_))
  · exact ⟨rfl, q0 _ _ (Int.le_refl 0)⟩
  · exact ⟨rfl, q0 _ _ (by rw [← hz]; exact hz0)⟩
theorem ok_q28 (T : Txt K mg A) : FnOk P w K mg base CX0 1 A.f_q28 A.d_q28 ["_law_source_here", "_law_many"] (spOf [true, false] false (sdTake)) := by
  have S := sc_q28
  refine fnD T.F_q28 S ⟨[true, false], [true, false, false, false], false⟩ _ ?hl rfl rfl fun cdv Ar outer s H E hr => ⟨_, (qss_cons (qs_if (QT.bor [0] (qt_cmp op_gt dB (qe_ix ix_seq dIx (qe_var 0) qe_int (fun _ _ => rfl)) qe_int (nomark _))) (qss_cons (qs_set (i := 2) S.nd rfl (Or.inl rfl) (QE.bor [0] (qe_op op_mod dIC (qe_ix ix_seq dIx (qe_var 0) qe_int (fun _ _ => rfl)) (qe_var 1))))
      (qss_cons (qs_setI (i := 0) rfl (QF.bor [0] (QE.qf (qe_op op_fdivB dIC (qe_ix ix_seq dIx (qe_var 0) qe_int (fun _ _ => rfl)) (qe_var 1)))) qe_int)
      (qss_one (qs_ret (qe_var 2))))) qss_nil)
      (qss_cons (qs_setI (i := 0) rfl (QF.bor [0] (QE.qf (qe_op op_mod dIC (qe_op op_add dI (qe_op op_mul dIC (qe_ix ix_seq dIx (qe_var 0) qe_int (fun _ _ => rfl)) qe_int) qe_int) qe_int))) qe_int)
      (qss_cons (qs_set (i := 3) S.nd rfl (Or.inl rfl) (QE.bor [0] (qe_op op_fdiv dIC (qe_op op_mod dIC (qe_op op_mul dIC (qe_ix ix_seq dIx (qe_var 0) qe_int (fun _ _ => rfl)) (qe_ix ix_seq dIx (qe_var 0) qe_int (fun _ _ => rfl))) qe_int) qe_int)))
      (qss_cons (qs_if (qt_cmp op_gt dB (qe_var 1) (qe_op op_pow dIC qe_int qe_int) (nomark _)) (qss_cons (qs_setI (i := 0) rfl (QF.bor [0] (QE.qf (qe_op op_mod dIC (qe_op op_add dI (qe_op op_mul dIC (qe_ix ix_seq dIx (qe_var 0) qe_int (fun _ _ => rfl)) qe_int) qe_int) qe_int))) qe_int)
      (qss_one (qs_set (i := 3) S.nd rfl (Or.inl rfl) (QE.bor [0] (qe_op op_add dI (qe_op op_mul dIC (qe_var 3) qe_int) (qe_op op_fdiv dIC (qe_op op_mod dIC (qe_op op_mul dIC (qe_ix ix_seq dIx (qe_var 0) qe_int (fun _ _ => rfl)) (qe_ix ix_seq dIx (qe_var 0) qe_int (fun _ _ => rfl))) qe_int) qe_int)))))) qss_nil)
      (qss_one (qs_ret (qe_op op_mod dIC (qe_var 3) (qe_var 1)))))))), fun ds q h => ?_⟩
  case hl => intro ds q h; obtain ⟨c, m, many, rfl, _⟩ := h; rfl
  obtain ⟨c, m, many, rfl, h0, hm, hs, q0⟩ := h
  refine (ite2 (c := decide (0 < c) = true) (fun c1 => ?_) (fun c1 => ?_))
  · refine ⟨hm, rfl, ?_⟩
    refine ⟨⟨hm, hs⟩, rfl, ?_⟩
    exact q0 _ (c / many) m (Int.emod_nonneg _ (Int.ne_of_gt hm)) (Int.emod_lt_of_pos _ hm) (Int.ediv_nonneg h0 (Int.le_of_lt hm))
  · refine ⟨Or.inr ⟨by decide, by decide⟩, (show (0 : Int) < 2147483647 by decide), rfl, ?_⟩
    obtain ⟨m1, hm1⟩ : ∃ m1, m1 = (m * 48271 + 11) % 2147483647 := ⟨_, rfl⟩
    have a1 := Int.emod_nonneg (m * 48271 + 11) (show (2147483647 : Int) ≠ 0 by decide)
    have a2 := Int.emod_lt_of_pos (m * 48271 + 11) (show (0 : Int) < 2147483647 by decide)
    rw [← hm1] at a1 a2
    rw [hm1] at a1 a2
    have cm : ∀ x : Int, CMul ((m * 48271 + 11) % 2147483647) x := fun x => Or.inl ⟨by omega, by omega⟩
    refine ⟨cm _, (show (0 : Int) < 2147483629 by decide), ⟨by decide, by decide⟩, rfl, ?_⟩
    refine ⟨⟨by decide, by decide, by decide⟩, ?_⟩
    refine (ite2 (c := decide ((10 : Int) ^ Int.toNat 7 < many) = true) (fun c2 => ?_) (fun c2 => ?_))
    · refine ⟨cm _, (show (0 : Int) < 2147483647 by decide), rfl, ?_⟩
      have b1 := Int.emod_nonneg ((m * 48271 + 11) % 2147483647 * 39373 + 17) (show (2147483647 : Int) ≠ 0 by decide)
      have b2 := Int.emod_lt_of_pos ((m * 48271 + 11) % 2147483647 * 39373 + 17) (show (0 : Int) < 2147483647 by decide)
      refine ⟨Or.inr ⟨by decide, by decide⟩, ⟨Or.inl ⟨by omega, by omega⟩, (show (0 : Int) < 2147483629 by decide), ⟨by decide, by decide⟩, rfl, ?_⟩⟩
      refine ⟨hm, ?_⟩
      exact q0 _ c _ (Int.emod_nonneg _ (Int.ne_of_gt hm)) (Int.emod_lt_of_pos _ hm) h0
    · refine ⟨hm, ?_⟩
      exact q0 _ c _ (Int.emod_nonneg _ (Int.ne_of_gt hm)) (Int.emod_lt_of_pos _ hm) h0
theorem ok_q31 (T : Txt K mg A) : FnOk P w K mg base CX0 2 A.f_q31 A.d_q31 ["_law_source_here", "_law_most"] (spOf [true, false] true (sdTree2)) := by
  have G_q28 := ok_q28 (P := P) (w := w) (base := base) T
  have S := sc_q31
  refine fnD T.F_q31 S ⟨[true, false], [true, false, false, false, true, false, false], true⟩ _ ?hl rfl rfl fun cdv Ar outer s H E hr => ⟨_, (qss_cons (qs_set (i := 2) S.nd rfl (Or.inl rfl) (qe_op op_add dI qe_int (qe_call (G_q28) (hr.mono (by decide)) rfl T.m_q28 T.k_q28 T.b_q28 (qk_m 0 (qk_s (qe_var 1) qk_nil)))))
      (qss_cons (qs_set (i := 3) S.nd rfl (Or.inl rfl) (qe_call (G_q28) (hr.mono (by decide)) rfl T.m_q28 T.k_q28 T.b_q28 (qk_m 0 (qk_s qe_int qk_nil))))
      (qss_cons (qs_setO (i := 4) S.nd rfl (Or.inl rfl) (qf_lst qa_nil))
      (qss_cons (qs_for PassesOwn.never rfl (qi_range1 rfl T.z_range (qa_cons (qe_var 2) qa_nil)) (qg_name (i := 5) S.nd rfl (Or.inl rfl)) (qss_one (qs_append (i := 4) rfl (QE.qf (qe_ix ix_seq dIx (qe_lst (qa_cons (qe_call (G_q28) (hr.mono (by decide)) rfl T.m_q28 T.k_q28 T.b_q28 (qk_m 0 (qk_s (qe_op op_add dI (qe_var 5) qe_int) qk_nil))) (qa_cons (qe_var 5) (qa_cons qe_int (qa_cons (qe_op op_fdiv dIC (qe_var 5) qe_int) qa_nil))))) (qe_var 3) (fun _ _ => rfl))))))
      (qss_cons (qs_set (i := 6) S.nd rfl (Or.inr rfl) (qe_ix ix_seq dIx (qe_lst (qa_cons qe_int (qa_cons qe_int (qa_cons qe_int (qa_cons (qe_op op_pow dIC qe_int qe_int) qa_nil))))) (qe_call (G_q28) (hr.mono (by decide)) rfl T.m_q28 T.k_q28 T.b_q28 (qk_m 0 (qk_s qe_int qk_nil))) (fun _ _ => rfl)))
      (qss_one (qs_retM (qm_tup (qms_cons (qm_move 4) (qms_cons (QF.qm (qf_compM ["_law_k"] [0, 6] 0 1 ⟨rfl, rfl, by decide +kernel, rfl, rfl, (by first | exact trivial | exact ⟨rfl, trivial⟩ | exact ⟨rfl, rfl, trivial⟩ | exact ⟨rfl, rfl, rfl, trivial⟩ | exact ⟨rfl, rfl, rfl, rfl, trivial⟩), rfl⟩ rfl (qi_range1 rfl T.z_range (qa_cons (qe_var 2) qa_nil)) (cgm_name 0) (fun _ _ _ _ => ⟨(pg_name (i := 0) (show List.Nodup (["_law_k", "_law_source_here", "_law_wide"] : List Str) by decide +kernel) rfl (Or.inl rfl)), qif_nil, (qe_op op_add dI qe_int (qe_call (G_q28) (hr.mono (by decide)) rfl T.m_q28 T.k_q28 T.b_q28 (qk_m 1 (qk_s (qe_var 2) qk_nil))))⟩))) qms_nil)))))))))), fun ds q h => ?_⟩
  case hl => intro ds q h; obtain ⟨c, m, most, rfl, _⟩ := h; rfl
  obtain ⟨c, m, most, rfl, h0, hm0, hm1, q0⟩ := h
  refine ⟨c, m, most, rfl, h0, hm0, sm_of (n := 23) (by omega) (by decide +kernel), fun n c1 m1 n0 n1 h1 => ?_⟩
  refine ⟨c1, m1, 4, rfl, h1, by decide, sm_of (n := 4) (by decide) (by decide +kernel), fun w0 c2 m2 w00 w01 h2 => ?_⟩
  refine ⟨rfl, ?_⟩
  refine ⟨⟨by omega, by omega⟩, ?_⟩
  refine ⟨fun i ρ => ∃ (ps : List Int) (c m : Int) (v : Option D), ρ = [some (dInts [c, m]), some (.int most), some (.int (1 + n)), some (.int w0), some (dInts ps), v, none] ∧ 0 ≤ c ∧ ps.length = i ∧ (∀ (j : Nat) (x : Int), ps[j]? = some x → 0 ≤ x ∧ x ≤ j), ⟨[], c2, m2, _, rfl, h2, rfl, (fun j x h => by simp at h)⟩, ?_, ?_⟩
  · rintro i d ρ hd ⟨ps, c3, m3, v, rfl, h3, lp, hpar⟩
    obtain ⟨hi, rfl⟩ := rngD_at hd
    have hi2 : i < 23 := by omega
    refine ⟨c3, m3, 0 + (i : Int) + 1, rfl, h3, by omega, sm_of (n := 23) (by omega) (by decide +kernel), fun r c4 m4 r0 r1 h4 => ?_⟩
    refine ⟨⟨(show (0 : Int) < 2 by decide), (show (2 : Int) < 1073741824 by decide)⟩, ?_⟩
    obtain ⟨y, hy, y1, y2⟩ : ∃ y : Int, atI [D.int r, D.int (0 + (i : Int)), D.int 0, D.int ((0 + (i : Int)) / 2)] w0 = some (.int y) ∧ 0 ≤ y ∧ y ≤ i := by
      have : w0 = 0 ∨ w0 = 1 ∨ w0 = 2 ∨ w0 = 3 := by omega
      rcases this with rfl | rfl | rfl | rfl
      all_goals exact ⟨_, rfl, by omega, by omega⟩
    refine atD_of hy ?_
    refine ⟨rfl, by rw [len_ints]; omega, ?_⟩
    refine ⟨ps ++ [y], c4, m4, some (.int (0 + (i : Int))), ?_, h4, by rw [List.length_append, lp]; rfl, snoc_at hpar ⟨y1, by omega⟩⟩
    rw [← ints_snoc]; rfl
  · rintro ρ ⟨ps, c3, m3, v, rfl, h3, lp, hpar⟩
    rw [rngD_len] at lp
    refine ⟨⟨by decide, by decide, by decide⟩, ?_⟩
    refine ⟨c3, m3, 4, rfl, h3, by decide, sm_of (n := 4) (by decide) (by decide +kernel), fun r c4 m4 r0 r1 h4 => ?_⟩
    obtain ⟨z, hz, z1, z2⟩ : ∃ z : Int, atI [D.int 1, D.int 3, D.int 60, D.int (10 ^ Int.toNat 6)] r = some (.int z) ∧ 1 ≤ z ∧ z ≤ 1000000 := by
      have : r = 0 ∨ r = 1 ∨ r = 2 ∨ r = 3 := by omega
      rcases this with rfl | rfl | rfl | rfl
      all_goals exact ⟨_, rfl, by decide, by decide⟩
    refine atD_of hz ?_
    refine ⟨⟨by omega, by omega⟩, ?_⟩
    refine ⟨by rw [rngD_len]; omega, ?_⟩
    refine ⟨fun i es d => ∃ (rs : List Int) (c m : Int), es = rs.map D.int ∧ d = dInts [c, m] ∧ 0 ≤ c ∧ rs.length = i ∧ (∀ (j : Nat) (x : Int), rs[j]? = some x → 1 ≤ x ∧ x ≤ 1000000), ⟨[], c4, m4, rfl, rfl, h4, rfl, (fun j x h => by simp at h)⟩, ?_, ?_⟩
    · rintro j x es d hx ⟨rs, c5, m5, rfl, rfl, h5, lr, hroom⟩
      refine ⟨c5, m5, z, rfl, h5, by omega, sm_of (n := 1000000) (by omega) (by decide +kernel), fun u c6 m6 u0 u1 h6 => ?_⟩
      exact ⟨rs ++ [1 + u], c6, m6, (List.map_append (l₂ := [1 + u])).symm, rfl, h6, by rw [List.length_append, lr]; rfl, snoc_at hroom ⟨by omega, by omega⟩⟩
    · rintro es d ⟨rs, c5, m5, rfl, rfl, h5, lr, hroom⟩
      rw [rngD_len] at lr
      refine ⟨imms_ints _, ?_⟩
      exact q0 ps rs c5 m5 ⟨by omega, by omega, by omega, hpar, hroom⟩ (by omega) h5
theorem ok_q14 (T : Txt K mg A) : FnOk P w K mg base CX0 1 A.f_q14 A.d_q14 ["_law_top", "_law_bottom"] (spOf [false, false] false (sdLowest)) := by
  have S := sc_q14
  refine fnD T.F_q14 S ⟨[false, false], [false, false, false, false], false⟩ _ ?hl rfl rfl fun cdv Ar outer s H E hr => ⟨_, (qss_cons (qs_set (i := 2) S.nd rfl (Or.inl rfl) (qe_var 1))
      (qss_cons (qs_set (i := 3) S.nd rfl (Or.inl rfl) (qe_callB call_abs dAbs rfl T.z_abs bt_abs (qa_cons (qe_var 0) qa_nil)))
      (qss_cons (qs_while PassesOwn.never (qt_cmp op_gt dB (qe_var 3) qe_int (nomark _)) (qss_one (qs_par (i := 2) (j := 3) rfl S.nd rfl rfl (by decide) rfl rfl (qe_var 3) (qe_op op_mod dIC (qe_var 2) (qe_var 3)) rfl)))
      (qss_one (qs_ret (qe_tup (qa_cons (qe_op op_fdivB dIC (qe_var 0) (qe_var 2)) (qa_cons (qe_op op_fdivB dIC (qe_var 1) (qe_var 2)) qa_nil)))))))), fun ds q h => ?_⟩
  case hl => intro ds q h; obtain ⟨t, b, rfl, _⟩ := h; rfl
  obtain ⟨t, b, rfl, hb, hs, q0⟩ := h
  refine ⟨fun k ρ => ∃ n' b' : Int, ρ = [some (.int t), some (.int b), some (.int n'), some (.int b')] ∧ 0 ≤ b' ∧ b'.toNat = k ∧ gcdP n' b' = gcdP t b, ⟨_, b, _, rfl, by split <;> omega, rfl, gcd_swap hb⟩, ?_⟩
  rintro k ρ ⟨n', b', rfl, hb', hk, hg⟩
  refine (ite2 (c := decide (0 < b') = true) (fun c => ?_) (fun c => ?_))
  · have hp : 0 < b' := by simpa using c
    refine ⟨hp, ?_⟩
    have := Int.emod_lt_of_pos n' hp
    have := Int.emod_nonneg n' (show b' ≠ 0 by omega)
    exact ⟨_, by omega, b', n' % b', rfl, by omega, rfl, by rw [gcdP_step hp]; exact hg⟩
  · have c' : ¬ 0 < b' := by simpa using c
    have c2 : b' = 0 := by omega
    subst c2
    have e : n' = gcdP t b := by rw [← hg]; unfold gcdP; rw [if_pos rfl]
    subst e
    have g := gcdP_pos (n := t) hb
    have gl := gcdP_le (n := t) hb
    have gs : Sm (gcdP t b) := by show (gcdP t b).natAbs < _; exact Nat.lt_of_le_of_lt (by omega) hs
    refine ⟨⟨g, gs⟩, ⟨g, gs⟩, ?_⟩
    rw [quo_num hb, quo_den hb]
    exact q0
end
end K23
namespace K23
open PySem L2
section
variable {P : Program} {w : World} {K : PySem.W.Frag} {mg : Str → Option Value} {base : Heap} {A : Adr}
def M30 : Int := 1000000000000000000000000000000
def sdPrice : SpD := fun ds q => ∃ c m, ds = [dInts [c, m]] ∧ 0 ≤ c ∧ ∀ (r : Rat) c' m', 0 ≤ r → (r.den : Int) ≤ M30 → 0 ≤ c' → q (dQ r) [some (dInts [c', m'])]
theorem ok_q19 (T : Txt K mg A) : FnOk P w K mg base CX0 2 A.f_q19 A.d_q19 ["_law_source_here"] (spOf [true] false (sdPrice)) := by
  have G_q28 := ok_q28 (P := P) (w := w) (base := base) T
  have G_q14 := ok_q14 (P := P) (w := w) (base := base) T
  have S := sc_q19
  refine fnD T.F_q19 S ⟨[true], [true, false], false⟩ _ ?hl rfl rfl fun cdv Ar outer s H E hr => ⟨_, (qss_cons (qs_set (i := 1) S.nd rfl (Or.inl rfl) (qe_ix ix_seq dIx (qe_lst (qa_cons qe_int (qa_cons qe_int (qa_cons (qe_op op_pow dIC qe_int qe_int) (qa_cons (qe_op op_pow dIC qe_int qe_int) qa_nil))))) (qe_call (G_q28) (hr.mono (by decide)) rfl T.m_q28 T.k_q28 T.b_q28 (qk_m 0 (qk_s qe_int qk_nil))) (fun _ _ => rfl)))
      (qss_one (qs_ret (qe_call (G_q14) (hr.mono (by decide)) rfl T.m_q14 T.k_q14 T.b_q14 (qk_s (qe_call (G_q28) (hr.mono (by decide)) rfl T.m_q28 T.k_q28 T.b_q28 (qk_m 0 (qk_s (qe_op op_mul dIC qe_int (qe_var 1)) qk_nil))) (qk_s (qe_op op_add dI qe_int (qe_call (G_q28) (hr.mono (by decide)) rfl T.m_q28 T.k_q28 T.b_q28 (qk_m 0 (qk_s (qe_var 1) qk_nil)))) qk_nil)))))), fun ds q h => ?_⟩
  case hl => intro ds q h; obtain ⟨c, m, rfl, _⟩ := h; rfl
  obtain ⟨c, m, rfl, h0, q0⟩ := h
  refine ⟨⟨by decide +kernel, by decide +kernel, by decide +kernel⟩, ⟨by decide +kernel, by decide +kernel, by decide +kernel⟩, ?_⟩
  refine ⟨c, m, 4, rfl, h0, by decide, sm_of (n := 4) (by decide) (by decide +kernel), fun r c1 m1 r0 r1 h1 => ?_⟩
  obtain ⟨z, hz, z1, z2⟩ : ∃ z : Int, atI [D.int 1, D.int 12, D.int (10 ^ Int.toNat 9), D.int (10 ^ Int.toNat 30)] r = some (.int z) ∧ 1 ≤ z ∧ z ≤ M30 := by
    have : r = 0 ∨ r = 1 ∨ r = 2 ∨ r = 3 := by omega
    rcases this with rfl | rfl | rfl | rfl
    all_goals exact ⟨_, rfl, by decide +kernel, by decide +kernel⟩
  refine atD_of hz ?_
  have hM : M30 = 1000000000000000000000000000000 := rfl
  refine ⟨Or.inl ⟨by decide, by decide⟩, ?_⟩
  refine ⟨c1, m1, 9 * z, rfl, h1, by omega, sm_of (n := 10000000000000000000000000000000) (by omega) (by decide +kernel), fun t c2 m2 t0 t1 h2 => ?_⟩
  refine ⟨c2, m2, z, rfl, h2, by omega, sm_of (n := 10000000000000000000000000000000) (by omega) (by decide +kernel), fun b c3 m3 b0 b1 h3 => ?_⟩
  have hb : 0 < 1 + b := by omega
  refine ⟨t, 1 + b, rfl, hb, sm_of (n := 10000000000000000000000000000000) (by omega) (by decide +kernel), ?_⟩
  have hd := (divInt_bd (t := t) hb).2
  refine q0 _ c3 m3 ?_ (by omega) h3
  exact Rat.divInt_nonneg t0 (Int.le_of_lt hb)
end
end K23
namespace K23
open PySem L2
section
variable {P : Program} {w : World} {K : PySem.W.Frag} {mg : Str → Option Value} {base : Heap} {A : Adr}
structure ThOk (x : D) : Prop where
  pl : pln x = true
  eq : eqS x 10 = true
  sm : ∀ t b, x = .tup [.int t, .int b] → Sm b
theorem th_cons {x : D} {xs : List D} (h : ThOk x) (t : ∀ y ∈ xs, ThOk y) : ∀ y ∈ x :: xs, ThOk y := List.forall_mem_cons.mpr ⟨h, t⟩
theorem th_nil : ∀ y ∈ ([] : List D), ThOk y := fun y h => by cases h
theorem th_app {xs ys : List D} (h : ∀ y ∈ xs, ThOk y) (t : ∀ y ∈ ys, ThOk y) : ∀ y ∈ xs ++ ys, ThOk y := fun y hy => (List.mem_append.mp hy).elim (h y) (t y)
def od1 : List D := [.non, .bl true, .int 0, .int 1, .str "0", .str "1/2", .str "", .lst [.int 1, .int 2], .lst [], .dic [] [], .tup [], .tup [.int 1], .tup [.int 1, .int 2, .int 3], .tup [.int 1, .int 0], .tup [.int 0, .int 2]]
def od2 : List D := od1 ++ [.tup [.int 2, .int 4], .tup [.int (-1), .int 2]]
def od3 : List D := od2 ++ [.tup [.int 1, .int (-2)], .tup [.bl true, .int 1], .tup [.int 1, .bl true], .tup [.tup [.int 1, .int 2], .int 1], .tup [.non, .int 1], .tup [.str "1", .int 1], .tup [.int 0, .int 0]]
def od4 (t b : Int) : List D := od3 ++ [.tup [.int (-1 - t), .int 1], .tup [.int (2 * t), .int (2 * b)], .tup [.int t, .int (0 - b)], .lst [.int t, .int b]]
theorem th_all {t b : Int} (h0 : 0 < b) (h1 : b ≤ M30) : ∀ y ∈ od4 t b, ThOk y := by
  have hM : M30 = 1000000000000000000000000000000 := rfl
  have s1 : ∀ i : Int, -10 ≤ i → i ≤ 10 → Sm i := fun i a b => sm_of (n := 10) (by omega) (by decide +kernel)
  have s2 : ∀ i : Int, -10000000000000000000000000000000 ≤ i → i ≤ 10000000000000000000000000000000 → Sm i := fun i a b => sm_of (n := 10000000000000000000000000000000) (by omega) (by decide +kernel)
  unfold od4 od3 od2 od1
  repeat' (first | exact th_nil | refine th_app ?_ ?_ | refine th_cons ?_ ?_)
  all_goals (refine ⟨rfl, rfl, ?_⟩; intro t' b' e; first
    | (cases e; done)
    | (cases e; exact s1 _ (by decide) (by decide))
    | (cases e; exact s2 _ (by omega) (by omega)))
def sdOdd : SpD := fun ds q => ∃ c m, ds = [dInts [c, m]] ∧ 0 ≤ c ∧ ∀ x c' m', ThOk x → 0 ≤ c' → q x [some (dInts [c', m'])]
theorem ok_q34 (T : Txt K mg A) : FnOk P w K mg base CX0 3 A.f_q34 A.d_q34 ["_law_source_here"] (spOf [true] false (sdOdd)) := by
  have G_q28 := ok_q28 (P := P) (w := w) (base := base) T
  have G_q19 := ok_q19 (P := P) (w := w) (base := base) T
  have S := sc_q34
  refine fnD T.F_q34 S ⟨[true], [true, false, false, false], false⟩ _ ?hl rfl rfl fun cdv Ar outer s H E hr => ⟨_, (qss_cons (qs_asg (qe_call (G_q19) (hr.mono (by decide)) rfl T.m_q19 T.k_q19 T.b_q19 (qk_m 0 qk_nil)) (qg_tup rfl (qgs_cons (qg_name (i := 1) S.nd rfl (Or.inl rfl)) (qgs_cons (qg_name (i := 2) S.nd rfl (Or.inl rfl)) qgs_nil)) (takes_cons1 (takes_cons1 takes_nil))))
      (qss_cons (qs_cut (qs_set (i := 3) S.nd rfl (Or.inl rfl) (qe_lst (qa_cons qe_non (qa_cons qe_bl (qa_cons qe_int (qa_cons qe_int (qa_cons qe_str (qa_cons qe_str (qa_cons qe_str (qa_cons (qe_lst (qa_cons qe_int (qa_cons qe_int qa_nil))) (qa_cons (qe_lst qa_nil) (qa_cons (QF.qe qf_dic0) (qa_cons (qe_tup qa_nil) (qa_cons (qe_tup (qa_cons qe_int qa_nil)) (qa_cons (qe_tup (qa_cons qe_int (qa_cons qe_int (qa_cons qe_int qa_nil)))) (qa_cons (qe_tup (qa_cons qe_int (qa_cons qe_int qa_nil))) (qa_cons (qe_tup (qa_cons qe_int (qa_cons qe_int qa_nil))) qa_nil))))))))))))))))))
      (qss_cons (qs_cut (qs_set (i := 3) S.nd rfl (Or.inl rfl) (qe_mk op_cat dCat (qe_var 3) (qe_lst (qa_cons (qe_tup (qa_cons qe_int (qa_cons qe_int qa_nil))) (qa_cons (qe_tup (qa_cons (qe_neg qe_int) (qa_cons qe_int qa_nil))) qa_nil))))))
      (qss_cons (qs_cut (qs_set (i := 3) S.nd rfl (Or.inl rfl) (qe_mk op_cat dCat (qe_var 3) (qe_lst (qa_cons (qe_tup (qa_cons qe_int (qa_cons (qe_neg qe_int) qa_nil))) (qa_cons (qe_tup (qa_cons qe_bl (qa_cons qe_int qa_nil))) (qa_cons (qe_tup (qa_cons qe_int (qa_cons qe_bl qa_nil))) (qa_cons (qe_tup (qa_cons (qe_tup (qa_cons qe_int (qa_cons qe_int qa_nil))) (qa_cons qe_int qa_nil))) (qa_cons (qe_tup (qa_cons qe_non (qa_cons qe_int qa_nil))) (qa_cons (qe_tup (qa_cons qe_str (qa_cons qe_int qa_nil))) (qa_cons (qe_tup (qa_cons qe_int (qa_cons qe_int qa_nil))) qa_nil)))))))))))
      (qss_cons (qs_cut (qs_set (i := 3) S.nd rfl (Or.inl rfl) (qe_mk op_cat dCat (qe_var 3) (qe_lst (qa_cons (qe_tup (qa_cons (qe_op op_sub dI (qe_neg qe_int) (qe_var 1)) (qa_cons qe_int qa_nil))) (qa_cons (qe_tup (qa_cons (qe_op op_mul dIC qe_int (qe_var 1)) (qa_cons (qe_op op_mul dIC qe_int (qe_var 2)) qa_nil))) (qa_cons (qe_tup (qa_cons (qe_var 1) (qa_cons (qe_op op_sub dI qe_int (qe_var 2)) qa_nil))) (qa_cons (qe_lst (qa_cons (qe_var 1) (qa_cons (qe_var 2) qa_nil))) qa_nil))))))))
      (qss_one (qs_ret (qe_ix ix_seq dIx (qe_var 3) (qe_call (G_q28) (hr.mono (by decide)) rfl T.m_q28 T.k_q28 T.b_q28 (qk_m 0 (qk_s qe_int qk_nil))) (fun _ _ => rfl))))))))), fun ds q h => ?_⟩
  case hl => intro ds q h; obtain ⟨c, m, rfl, _⟩ := h; rfl
  obtain ⟨c, m, rfl, h0, q0⟩ := h
  refine ⟨c, m, rfl, h0, fun r c1 m1 r0 r1 h1 => ?_⟩
  have hd0 := den_posI r
  refine ⟨fun ρ => ρ = [some (dInts [c1, m1]), some (.int r.num), some (.int r.den), some (.lst od1)], rfl, ?_⟩
  rintro ρ rfl
  refine ⟨fun ρ => ρ = [some (dInts [c1, m1]), some (.int r.num), some (.int r.den), some (.lst od2)], ⟨by decide, rfl⟩, ?_⟩
  rintro ρ rfl
  refine ⟨fun ρ => ρ = [some (dInts [c1, m1]), some (.int r.num), some (.int r.den), some (.lst od3)], ⟨by decide, rfl⟩, ?_⟩
  rintro ρ rfl
  refine ⟨fun ρ => ρ = [some (dInts [c1, m1]), some (.int r.num), some (.int r.den), some (.lst (od4 r.num r.den))], ⟨Or.inl ⟨by decide, by decide⟩, Or.inl ⟨by decide, by decide⟩, by show 28 ≤ 1000; decide, rfl⟩, ?_⟩
  rintro ρ rfl
  refine ⟨c1, m1, 28, rfl, h1, by decide, sm_of (n := 28) (by decide) (by decide +kernel), fun u c2 m2 u0 u1 h2 => ?_⟩
  obtain ⟨x, hx, e⟩ := atI_any (xs := od4 r.num r.den) (i := u) (by omega) (by show u < 28; omega)
  refine atD_of e ?_
  exact q0 x c2 m2 (th_all hd0 r1 x hx) h2
end
end K23
namespace K23
open PySem L2
section
variable {P : Program} {w : World} {K : PySem.W.Frag} {mg : Str → Option Value} {base : Heap} {A : Adr}
structure LsOk (n : Nat) (ds : List D) : Prop where
  len : ds.length ≤ n
  ok : ∀ d ∈ ds, ThOk d
structure TgOk (x : D) : Prop where
  pl : pln x = true
  eq : eqS x 60 = true
  ls : ∀ ds, x = .lst ds → LsOk 100 ds
theorem dQ_th {r : Rat} (h : (r.den : Int) ≤ M30) : ThOk (dQ r) := ⟨rfl, rfl, fun t b e => by
  have hM : M30 = 1000000000000000000000000000000 := rfl
  have := den_posI r
  cases e; exact sm_of (n := 10000000000000000000000000000000) (by omega) (by decide +kernel)⟩
theorem eqS_mono : ∀ (d : D) (n m : Nat), n ≤ m → eqS d n = true → eqS d m = true := by
  have key : ∀ (n : Nat) (ds : List D), eqSs ds n = ds.all fun d => eqS d n := fun n ds => by
    induction ds with
    | nil => rw [eqSs]; rfl
    | cons d ds ih => rw [eqSs, List.all_cons, ih]
  intro d n
  induction n generalizing d with
  | zero =>
    intro m _ h
    cases d with
    | tup ds => rw [eqS] at h; cases h
    | lst ds => rw [eqS] at h; cases h
    | dic ks ds => cases ks <;> cases ds <;> simp [eqS] at h ⊢
    | dct => simp [eqS] at h
    | scr _ _ => simp [eqS] at h
    | ext _ => simp [eqS] at h
    | _ => simp [eqS]
  | succ n ih =>
    intro m hm h
    obtain ⟨m, rfl⟩ : ∃ k, m = k + 1 := ⟨m - 1, by omega⟩
    cases d with
    | tup ds =>
      rw [eqS, key, Bool.and_eq_true, List.all_eq_true] at h ⊢
      exact ⟨rfl, fun x hx => ih x m (by omega) (h.2 x hx)⟩
    | lst ds =>
      rw [eqS, key, Bool.and_eq_true, List.all_eq_true] at h ⊢
      exact ⟨rfl, fun x hx => ih x m (by omega) (h.2 x hx)⟩
    | dic ks ds => cases ks <;> cases ds <;> simp [eqS] at h ⊢
    | dct => simp [eqS] at h
    | scr _ _ => simp [eqS] at h
    | ext _ => simp [eqS] at h
    | _ => simp [eqS]
theorem eqSs_of {n : Nat} : ∀ {ds : List D}, (∀ d ∈ ds, eqS d n = true) → eqSs ds n = true
  | [], _ => by rw [eqSs]
  | d :: ds, h => by rw [eqSs, h d (.head _), eqSs_of fun x hx => h x (.tail _ hx)]; rfl
theorem LsOk.eqs {n : Nat} {ds : List D} (h : LsOk n ds) (m : Nat) (hm : 10 ≤ m) : eqSs ds m = true := eqSs_of fun d hd => eqS_mono d 10 m hm (h.ok d hd).eq
theorem LsOk.tg {n : Nat} {ds : List D} (h : LsOk n ds) (hn : n ≤ 100) : TgOk (.lst ds) :=
  ⟨by rw [pln]; exact plns_of fun d hd => (h.ok d hd).pl, by rw [eqS, h.eqs 59 (by decide)]; rfl, fun es e => by cases e; exact ⟨Nat.le_trans h.len hn, h.ok⟩⟩
theorem LsOk.tup {n : Nat} {ds : List D} (h : LsOk n ds) : TgOk (.tup ds) :=
  ⟨by rw [pln]; exact plns_of fun d hd => (h.ok d hd).pl, by rw [eqS, h.eqs 59 (by decide)]; rfl, fun es e => by cases e⟩
theorem imms_of : ∀ {ds : List D}, (∀ d ∈ ds, imm d = true) → imms ds = true
  | [], _ => by rw [imms]
  | d :: ds, h => by rw [imms, h d (.head _), imms_of fun x hx => h x (.tail _ hx)]; rfl
theorem LsOk.take {n : Nat} {ds : List D} (h : LsOk n ds) (k : Nat) : LsOk n (ds.take k) := ⟨Nat.le_trans (by rw [List.length_take]; exact Nat.min_le_right _ _) h.len, fun d hd => h.ok d (List.mem_of_mem_take hd)⟩
theorem LsOk.put {n : Nat} {ds : List D} {x : D} (h : LsOk n ds) (k : Nat) (hk : k ≤ ds.length) (hx : ThOk x) : LsOk (n + 1) (ds.take k ++ [x] ++ ds.drop (k + 1)) := by
  refine ⟨?_, fun d hd => ?_⟩
  · have := h.len
    rw [List.length_append, List.length_append, List.length_take, List.length_drop]
    show min k ds.length + 1 + _ ≤ _
    omega
  · rcases List.mem_append.mp hd with hd | hd
    · rcases List.mem_append.mp hd with hd | hd
      · exact h.ok d (List.mem_of_mem_take hd)
      · rw [List.mem_singleton.mp hd]; exact hx
    · exact h.ok d (List.mem_of_mem_drop hd)
theorem LsOk.more {n : Nat} {ds : List D} {x : D} (h : LsOk n ds) (hx : ThOk x) : LsOk (n + 1) (ds ++ [x]) := ⟨by rw [List.length_append]; exact Nat.succ_le_succ h.len, fun d hd => (List.mem_append.mp hd).elim (h.ok d) fun e => by rw [List.mem_singleton.mp e]; exact hx⟩
theorem LsOk.up {n m : Nat} {ds : List D} (h : LsOk n ds) (hm : n ≤ m) : LsOk m ds := ⟨Nat.le_trans h.len hm, h.ok⟩
theorem tg_all {n : Nat} {ds : List D} (h : LsOk n ds) : ∀ x ∈ [D.non, .int 5, .str "", .tup [.int 0, .int 1], .dic [] [], .bl true, .tup ds, .bl false], TgOk x := by
  intro x hx
  simp only [List.mem_cons, List.not_mem_nil, or_false] at hx
  rcases hx with rfl | rfl | rfl | rfl | rfl | rfl | rfl | rfl
  all_goals first
    | exact h.tup
    | (refine ⟨rfl, rfl, ?_⟩; intro es e; cases e)
def sdThing : SpD := fun ds q => ∃ c m n, ds = [.int n, dInts [c, m]] ∧ 0 ≤ c ∧ 1 ≤ n ∧ n ≤ 23 ∧ ∀ x c' m', TgOk x → 0 ≤ c' → q x [some (dInts [c', m'])]
theorem ok_q20 (T : Txt K mg A) : FnOk P w K mg base CX0 4 A.f_q20 A.d_q20 ["_law_many", "_law_source_here"] (spOf [false, true] false (sdThing)) := by
  have G_q28 := ok_q28 (P := P) (w := w) (base := base) T
  have G_q34 := ok_q34 (P := P) (w := w) (base := base) T
  have G_q19 := ok_q19 (P := P) (w := w) (base := base) T
  have S := sc_q20
  refine fnD T.F_q20 S ⟨[false, true], [false, true, false, false, false, false, false], false⟩ _ ?hl rfl rfl fun cdv Ar outer s H E hr => ⟨_, (qss_cons (qs_setCompM (i := 2) ["_law_k"] [1] 1 1 ⟨rfl, rfl, by decide +kernel, rfl, rfl, (by first | exact trivial | exact ⟨rfl, trivial⟩ | exact ⟨rfl, rfl, trivial⟩ | exact ⟨rfl, rfl, rfl, trivial⟩ | exact ⟨rfl, rfl, rfl, rfl, trivial⟩), rfl⟩ rfl S.nd rfl (Or.inl rfl) (qi_range1 rfl T.z_range (qa_cons (qe_var 0) qa_nil)) (cgm_name 0) (fun _ _ _ _ => ⟨(pg_name (i := 0) (show List.Nodup (["_law_k", "_law_source_here"] : List Str) by decide +kernel) rfl (Or.inl rfl)), qif_nil, (qe_call (G_q19) (hr.mono (by decide)) rfl T.m_q19 T.k_q19 T.b_q19 (qk_m 1 qk_nil))⟩))
      (qss_cons (qs_for PassesOwn.never rfl (qi_range1 rfl T.z_range (qa_cons (qe_call (G_q28) (hr.mono (by decide)) rfl T.m_q28 T.k_q28 T.b_q28 (qk_m 1 (qk_s qe_int qk_nil))) qa_nil)) (qg_name (i := 3) S.nd rfl (Or.inl rfl)) (qss_cons (qs_set (i := 4) S.nd rfl (Or.inl rfl) (qe_call (G_q28) (hr.mono (by decide)) rfl T.m_q28 T.k_q28 T.b_q28 (qk_m 1 (qk_s qe_int qk_nil))))
      (qss_cons (qs_set (i := 5) S.nd rfl (Or.inl rfl) (qe_call (G_q28) (hr.mono (by decide)) rfl T.m_q28 T.k_q28 T.b_q28 (qk_m 1 (qk_s (qe_op op_add dI (qe_callB call_len_seq dLen rfl T.z_len bt_len (qa_cons (qe_var 2) qa_nil)) qe_int) qk_nil))))
      (qss_cons (qs_cut (qs_if (qt_cmp (op_eqD hr.units) dEq (qe_var 4) qe_int (nomark _)) (qss_one (qs_ret (qe_ix ix_seq dIx (qe_lst (qa_cons qe_non (qa_cons qe_int (qa_cons qe_str (qa_cons (qe_tup (qa_cons qe_int (qa_cons qe_int qa_nil))) (qa_cons (QF.qe qf_dic0) (qa_cons qe_bl (qa_cons (qe_tupOf rfl T.z_tuple bt_tuple (qe_var 2)) (qa_cons qe_bl qa_nil))))))))) (qe_call (G_q28) (hr.mono (by decide)) rfl T.m_q28 T.k_q28 T.b_q28 (qk_m 1 (qk_s qe_int qk_nil))) (fun _ _ => rfl)))) qss_nil))
      (qss_one (qs_cut (qs_if (qt_cmp op_lt dB (qe_var 4) qe_int (nomark _)) (qss_one (qs_set (i := 2) S.nd rfl (Or.inl rfl) (qe_mk op_cat dCat (qe_mk op_cat dCat (qe_slice (qe_var 2) qo_none (qo_some (qe_var 5))) (qe_lst (qa_cons (qe_call (G_q34) (hr.mono (by decide)) rfl T.m_q34 T.k_q34 T.b_q34 (qk_m 1 qk_nil)) qa_nil))) (qe_slice (qe_var 2) (qo_some (qe_op op_add dI (qe_var 5) qe_int)) qo_none)))) (qss_one (qs_if (qt_cmp op_lt dB (qe_var 4) qe_int (nomark _)) (qss_one (qs_set (i := 2) S.nd rfl (Or.inl rfl) (qe_slice (qe_var 2) qo_none (qo_some (qe_var 5))))) (qss_one (qs_for PassesOwn.never rfl (qi_range1 rfl T.z_range (qa_cons (qe_op op_add dI qe_int (qe_call (G_q28) (hr.mono (by decide)) rfl T.m_q28 T.k_q28 T.b_q28 (qk_m 1 (qk_s qe_int qk_nil)))) qa_nil)) (qg_name (i := 6) S.nd rfl (Or.inl rfl)) (qss_one (qs_set (i := 2) S.nd rfl (Or.inl rfl) (qe_mk op_cat dCat (qe_var 2) (qe_lst (qa_cons (qe_ix ix_seq dIx (qe_lst (qa_cons (qe_call (G_q19) (hr.mono (by decide)) rfl T.m_q19 T.k_q19 T.b_q19 (qk_m 1 qk_nil)) (qa_cons (qe_call (G_q34) (hr.mono (by decide)) rfl T.m_q34 T.k_q34 T.b_q34 (qk_m 1 qk_nil)) qa_nil))) (qe_call (G_q28) (hr.mono (by decide)) rfl T.m_q28 T.k_q28 T.b_q28 (qk_m 1 (qk_s qe_int qk_nil))) (fun _ _ => rfl)) qa_nil))))))))))))))))
      (qss_one (qs_ret (qe_var 2))))), fun ds q h => ?_⟩
  case hl => intro ds q h; obtain ⟨c, m, n, rfl, _⟩ := h; rfl
  obtain ⟨c, m, n, rfl, h0, n0, n1, q0⟩ := h
  refine ⟨⟨by omega, by omega⟩, ?_⟩
  refine ⟨by rw [rngD_len]; omega, ?_⟩
  refine ⟨fun i es d => ∃ (c m : Int), d = dInts [c, m] ∧ 0 ≤ c ∧ es.length = i ∧ ∀ x ∈ es, ThOk x ∧ imm x = true, ⟨c, m, rfl, h0, rfl, fun x h => by cases h⟩, ?_, ?_⟩
  · rintro j x es d hx ⟨c5, m5, rfl, h5, le, hes⟩
    refine ⟨c5, m5, rfl, h5, fun r c6 m6 r0 r1 h6 => ?_⟩
    refine ⟨c6, m6, rfl, h6, by rw [List.length_append, le]; rfl, fun y hy => ?_⟩
    rcases List.mem_append.mp hy with hy | hy
    · exact hes y hy
    · rw [List.mem_singleton.mp hy]; exact ⟨dQ_th r1, rfl⟩
  rintro es d ⟨c5, m5, rfl, h5, le, hes⟩
  rw [rngD_len] at le
  refine ⟨imms_of fun x hx => (hes x hx).2, ?_⟩
  refine ⟨c5, m5, 3, rfl, h5, by decide, sm_of (n := 3) (by decide) (by decide +kernel), fun r3 c6 m6 r30 r31 h6 => ?_⟩
  refine ⟨⟨by omega, by omega⟩, ?_⟩
  refine ⟨fun i ρ => ∃ ds c m v3 v4 v5 v6, ρ = [some (.int n), some (dInts [c, m]), some (.lst ds), v3, v4, v5, v6] ∧ 0 ≤ c ∧ LsOk (23 + 3 * i) ds, ⟨es, c6, m6, _, _, _, _, rfl, h6, by omega, fun x hx => (hes x hx).1⟩, ?_, ?_⟩
  · rintro i d ρ hd ⟨ds, c7, m7, v3, v4, v5, v6, rfl, h7, hL⟩
    obtain ⟨hi2, rfl⟩ := rngD_at hd
    have hi3 : i < 3 := by omega
    have hln := hL.len
    refine ⟨c7, m7, 8, rfl, h7, by decide, sm_of (n := 8) (by decide) (by decide +kernel), fun w c8 m8 w0 w1 h8 => ?_⟩
    refine ⟨c8, m8, (ds.length : Int) + 1, rfl, h8, by omega, sm_of (n := 100) (by omega) (by decide +kernel), fun a c9 m9 a0 a1 h9 => ?_⟩
    refine ⟨fun ρ => ρ = [some (.int n), some (dInts [c9, m9]), some (.lst ds), some (.int (0 + (i : Int))), some (.int w), some (.int a), v6], ?_, ?_⟩
    · refine (ite2 (c := decide (w = 0) = true) (fun _ => ?_) (fun _ => rfl))
      refine ⟨c9, m9, 8, rfl, h9, by decide, sm_of (n := 8) (by decide) (by decide +kernel), fun u c10 m10 u0 u1 h10 => ?_⟩
      obtain ⟨x, hx, e⟩ := atI_any (xs := [D.non, .int 5, .str "", .tup [.int 0, .int 1], .dic [] [], .bl true, .tup ds, .bl false]) (i := u) (by omega) (by show u < 8; omega)
      refine atD_of e ?_
      exact q0 x c10 m10 (tg_all hL x hx) h10
    rintro ρ rfl
    refine ⟨fun ρ => ∃ ds' c m v6, ρ = [some (.int n), some (dInts [c, m]), some (.lst ds'), some (.int (0 + (i : Int))), some (.int w), some (.int a), v6] ∧ 0 ≤ c ∧ LsOk (23 + 3 * (i + 1)) ds', ?_, ?_⟩
    · refine (ite2 (c := decide (w < 4) = true) (fun _ => ?_) (fun _ => ?_))
      · refine ⟨c9, m9, rfl, h9, fun x c10 m10 hx h10 => ?_⟩
        have e1 : cutD ds none (some a) = ds.take a.toNat := cutD_take a0
        have e2 : cutD ds (some (a + 1)) none = ds.drop (a.toNat + 1) := by rw [cutD_drop (by omega), show (a + 1).toNat = a.toNat + 1 by omega]
        have hP := hL.put a.toNat (by omega) hx
        have hPl := hP.len
        rw [List.length_append] at hPl
        refine ⟨by rw [e1, List.length_take]; show min _ _ + 1 ≤ 1000; omega, ?_⟩
        refine ⟨by rw [e1, e2]; omega, ?_⟩
        rw [e1, e2]
        exact ⟨_, c10, m10, _, rfl, h10, hP.up (by omega)⟩
      · refine (ite2 (c := decide (w < 6) = true) (fun _ => ?_) (fun _ => ?_))
        · have e1 : cutD ds none (some a) = ds.take a.toNat := cutD_take a0
          show ∃ ds' c m v6, _ ∧ _
          rw [e1]
          exact ⟨_, c9, m9, _, rfl, h9, (hL.take _).up (by omega)⟩
        · refine ⟨c9, m9, 3, rfl, h9, by decide, sm_of (n := 3) (by decide) (by decide +kernel), fun r4 c10 m10 r40 r41 h10 => ?_⟩
          refine ⟨⟨by omega, by omega⟩, ?_⟩
          refine ⟨fun j ρ => ∃ ds' c m v6, ρ = [some (.int n), some (dInts [c, m]), some (.lst ds'), some (.int (0 + (i : Int))), some (.int w), some (.int a), v6] ∧ 0 ≤ c ∧ LsOk (23 + 3 * i + j) ds', ⟨ds, c10, m10, _, rfl, h10, hL⟩, ?_, ?_⟩
          · rintro j d ρ hd ⟨ds', c11, m11, v6, rfl, h11, hL'⟩
            obtain ⟨hj, rfl⟩ := rngD_at hd
            have hj3 : j < 3 := by omega
            have hl' := hL'.len
            refine ⟨c11, m11, rfl, h11, fun r c12 m12 r0 r1 h12 => ?_⟩
            refine ⟨c12, m12, rfl, h12, fun x c13 m13 hx h13 => ?_⟩
            refine ⟨c13, m13, 2, rfl, h13, by decide, sm_of (n := 2) (by decide) (by decide +kernel), fun u c14 m14 u0 u1 h14 => ?_⟩
            obtain ⟨y, hy, e⟩ := atI_any (xs := [dQ r, x]) (i := u) (by omega) (by show u < 2; omega)
            have hY : ThOk y := by
              simp only [List.mem_cons, List.not_mem_nil, or_false] at hy
              rcases hy with rfl | rfl
              · exact dQ_th r1
              · exact hx
            refine atD_of e ?_
            refine ⟨by show ds'.length + 1 ≤ 1000; omega, ?_⟩
            exact ⟨_, c14, m14, _, rfl, h14, (hL'.more hY).up (by omega)⟩
          · rintro ρ ⟨ds', c11, m11, v6, rfl, h11, hL'⟩
            rw [rngD_len] at hL'
            exact ⟨_, c11, m11, _, rfl, h11, hL'.up (by omega)⟩
    · rintro ρ ⟨ds', c10, m10, v6, rfl, h10, hL'⟩
      exact ⟨ds', c10, m10, _, _, _, _, rfl, h10, hL'⟩
  · rintro ρ ⟨ds, c7, m7, v3, v4, v5, v6, rfl, h7, hL⟩
    rw [rngD_len] at hL
    exact q0 _ c7 m7 (hL.tg (by omega)) h7
end
end K23
namespace K23
open PySem L2
section
variable {P : Program} {w : World} {K : PySem.W.Frag} {mg : Str → Option Value} {base : Heap} {A : Adr}
theorem ok_q21 (T : Txt K mg A) : FnOk P w K mg base CX0 1 A.f_q21 A.d_q21 ["_law_thing_here"] (spOf [false] false (sdWhole)) := by
  have S := sc_q21
  refine fnD T.F_q21 S ⟨[false], [false], false⟩ _ ?hl rfl rfl fun cdv Ar outer s H E hr => ⟨_, (qss_one (qs_ret (qe_and (qe_isT rfl T.z_isinstance bt_isinstance (qe_var 0) (pe_bltn (v := .ty "int") rfl T.z_int bt_int rfl)) (qe_one (qe_not (qe_isT rfl T.z_isinstance bt_isinstance (qe_var 0) (pe_bltn (v := .ty "bool") rfl T.z_bool bt_bool rfl))))))), fun ds q h => ?_⟩
  case hl => intro ds q h; obtain ⟨d, rfl, _⟩ := h; rfl
  obtain ⟨d, rfl, hs, q0⟩ := h
  cases d <;> first | exact q0 | cases hs
theorem low_self {t b : Int} (hb : 0 < b) : eqD (dQ (Rat.divInt t b)) (.tup [.int t, .int b]) = decide (gcdP t b = 1) := by
  unfold eqD dQ
  simp only [toP, toPs, PyData.eqv, PyData.eqvAll, Bool.and_true]
  rw [← quo_num hb, ← quo_den hb]
  have g := gcdP_pos (n := t) hb
  by_cases h : gcdP t b = 1
  · rw [h, Int.ediv_one, Int.ediv_one, decide_eq_true rfl]; simp
  · rw [decide_eq_false h]
    have h2 : b / gcdP t b ≠ b := fun e => by
      have e1 := Int.mul_ediv_cancel' (gcdP_dr (n := t) hb)
      rw [e] at e1
      have : gcdP t b * b = 1 * b := by rw [e1, Int.one_mul]
      exact h (Int.eq_of_mul_eq_mul_right (by omega) this)
    simp [h2]
def sdIsPrL : SpD := fun ds q => ∃ d, ds = [d] ∧ ThOk d ∧ q (.bl (prB d)) []
theorem ok_q7 (T : Txt K mg A) : FnOk P w K mg base CX0 2 A.f_q7 A.d_q7 ["_law_thing_here"] (spOf [false] false (sdIsPrL)) := by
  have G_q14 := ok_q14 (P := P) (w := w) (base := base) T
  have G_q21 := ok_q21 (P := P) (w := w) (base := base) T
  have S := sc_q7
  refine fnD T.F_q7 S ⟨[false], [false], false⟩ _ ?hl rfl rfl fun cdv Ar outer s H E hr => ⟨_, (qss_cons (qs_if (QW.qt (qw_or (qt_not (qt_val (qe_isT rfl T.z_isinstance bt_isinstance (qe_var 0) (pe_bltn (v := .ty "tuple") rfl T.z_tuple bt_tuple rfl)))) (qw_or1 (qt_cmp (op_neD hr.units) dNe (qe_callB call_len_seq dLen rfl T.z_len bt_len (qa_cons (qe_var 0) qa_nil)) qe_int (nomark _))))) (qss_one (qs_ret qe_bl)) qss_nil)
      (qss_cons (qs_if (QW.qt (qw_or (qt_not (qt_val (qe_call (G_q21) (hr.mono (by decide)) rfl T.m_q21 T.k_q21 T.b_q21 (qk_s (qe_ix ix_seq dIx (qe_var 0) qe_int (fun _ _ => rfl)) qk_nil)))) (qw_or1 (qt_not (qt_val (qe_call (G_q21) (hr.mono (by decide)) rfl T.m_q21 T.k_q21 T.b_q21 (qk_s (qe_ix ix_seq dIx (qe_var 0) qe_int (fun _ _ => rfl)) qk_nil))))))) (qss_one (qs_ret qe_bl)) qss_nil)
      (qss_one (qs_ret (qe_and (qe_cmp op_ge dB (qe_ix ix_seq dIx (qe_var 0) qe_int (fun _ _ => rfl)) qe_int (nomark _)) (qe_and (qe_cmp op_gt dB (qe_ix ix_seq dIx (qe_var 0) qe_int (fun _ _ => rfl)) qe_int (nomark _)) (qe_one (qe_cmp (op_eqD hr.units) dEq (qe_call (G_q14) (hr.mono (by decide)) rfl T.m_q14 T.k_q14 T.b_q14 (qk_s (qe_ix ix_seq dIx (qe_var 0) qe_int (fun _ _ => rfl)) (qk_s (qe_ix ix_seq dIx (qe_var 0) qe_int (fun _ _ => rfl)) qk_nil))) (qe_var 0) (nomark _))))))))), fun ds q h => ?_⟩
  case hl => intro ds q h; obtain ⟨d, rfl, _⟩ := h; rfl
  obtain ⟨d, rfl, hd, q0⟩ := h
  have hp := hd.pl
  cases d with
  | tup ds =>
    refine (ite2 (c := (!decide ((ds.length : Int) = 2)) = true) (fun c => ?_) (fun c => ?_))
    · have : prB (.tup ds) = false := by
        unfold prB; split
        · rename_i e; cases e; simp at c
        · rfl
      rw [this] at q0; exact q0
    · obtain ⟨x, y, rfl⟩ : ∃ x y, ds = [x, y] := by
        have hl : ds.length = 2 := by simp at c; omega
        match ds, hl with
        | [a, b], _ => exact ⟨a, b, rfl⟩
      rw [pln, plns_cons, plns_cons] at hp
      refine ⟨x, rfl, pln_isS hp.1, ?_⟩
      cases x with
      | int t =>
        refine ⟨y, rfl, pln_isS hp.2.1, ?_⟩
        cases y with
        | int b =>
          have hs := hd.sm t b rfl
          have e : prB (.tup [.int t, .int b]) = ((decide (1 ≤ b) && decide (gcdP t b = 1)) && decide (0 ≤ t)) := rfl
          rw [e] at q0
          refine (ite2 (c := decide (0 ≤ t) = true) (fun c => ?_) (fun c => ?_))
          · rw [c, Bool.and_true] at q0
            refine (ite2 (c := decide (0 < b) = true) (fun c2 => ?_) (fun c2 => ?_))
            · have hb : 0 < b := of_decide_eq_true c2
              refine ⟨t, b, rfl, hb, hs, ?_⟩
              refine ⟨okD_dQ _, rfl, ?_⟩
              show q (.bl (eqD (dQ (Rat.divInt t b)) (.tup [.int t, .int b]))) []
              rw [low_self hb]
              rw [decide_eq_true (show 1 ≤ b by omega), Bool.true_and] at q0
              exact q0
            · rw [decide_eq_false (show ¬ 1 ≤ b by simp at c2; omega), Bool.false_and] at q0
              exact q0
          · rw [Bool.eq_false_iff.mpr c, Bool.and_false] at q0; exact q0
        | _ => first | exact q0 | (have := hp.2.1; rw [pln] at this; cases this)
      | _ => first | exact q0 | (have := hp.1; rw [pln] at this; cases this)
  | _ => first | exact q0 | (rw [pln] at hp; cases hp)
def dueD (n : Nat) (x : D) : D := match pricesErr n x with
  | none => .lst [.str "good"]
  | some k => .lst [.str "prices", k]
def sdDueP : SpD := fun ds q => ∃ (n : Nat) (x : D), ds = [.int n, x] ∧ TgOk x ∧ q (dueD n x) []
theorem ok_q33 (T : Txt K mg A) : FnOk P w K mg base CX0 3 A.f_q33 A.d_q33 ["_law_many", "_law_thing_here"] (spOf [false, false] true (sdDueP)) := by
  have G_q7 := ok_q7 (P := P) (w := w) (base := base) T
  have S := sc_q33
  refine fnD T.F_q33 S ⟨[false, false], [false, false, false, false], true⟩ _ ?hl rfl rfl fun cdv Ar outer s H E hr => ⟨_, (qss_cons (qs_if (qt_not (qt_val (qe_isT rfl T.z_isinstance bt_isinstance (qe_var 1) (pe_bltn (v := .ty "list") rfl T.z_list bt_list rfl)))) (qss_one (qs_retM (QF.qm (qf_lst (qa_cons qe_str (qa_cons qe_non qa_nil)))))) qss_nil)
      (qss_cons (qs_for PassesOwn.never rfl (qi_enum rfl T.z_enumerate (qa_cons (qe_var 1) qa_nil)) (qg_tup rfl (qgs_cons (qg_name (i := 2) S.nd rfl (Or.inl rfl)) (qgs_cons (qg_name (i := 3) S.nd rfl (Or.inl rfl)) qgs_nil)) (takes_cons1 (takes_cons1 takes_nil))) (qss_one (qs_if (QW.qt (qw_or (qt_cmp (op_eqD hr.units) dEq (qe_var 2) (qe_var 0) (nomark _)) (qw_or1 (qt_not (qt_val (qe_call (G_q7) (hr.mono (by decide)) rfl T.m_q7 T.k_q7 T.b_q7 (qk_s (qe_var 3) qk_nil))))))) (qss_one (qs_retM (QF.qm (qf_lst (qa_cons qe_str (qa_cons (qe_var 2) qa_nil)))))) qss_nil)))
      (qss_cons (qs_if (qt_cmp op_lt dB (qe_callB call_len_seq dLen rfl T.z_len bt_len (qa_cons (qe_var 1) qa_nil)) (qe_var 0) (nomark _)) (qss_one (qs_retM (QF.qm (qf_lst (qa_cons qe_str (qa_cons (qe_callB call_len_seq dLen rfl T.z_len bt_len (qa_cons (qe_var 1) qa_nil)) qa_nil)))))) qss_nil)
      (qss_one (qs_retM (QF.qm (qf_lst (qa_cons qe_str qa_nil)))))))), fun ds q h => ?_⟩
  case hl => intro ds q h; obtain ⟨n, x, rfl, _⟩ := h; rfl
  obtain ⟨n, x, rfl, hx, q0⟩ := h
  have hp := hx.pl
  cases x with
  | lst ds =>
    have hL := hx.ls ds rfl
    have e : pricesErr n (.lst ds) = (match firstBad fPr (ds.take n) 0 with | some i => some (.int i) | none => if ds.length = n then none else some (.int (min ds.length n : Nat))) := rfl
    unfold dueD at q0
    rw [e] at q0
    refine ⟨fun i ρ => ∃ v1 v2, ρ = [some (.int n), some (.lst ds), v1, v2] ∧ i ≤ n ∧ firstBad fPr (ds.take n) 0 = firstBad fPr ((ds.take n).drop i) i, ⟨_, _, rfl, Nat.zero_le _, rfl⟩, ?_, ?_⟩
    · rintro i d ρ hd ⟨v1, v2, rfl, hin, hf⟩
      obtain ⟨d', hd', rfl⟩ := enuD_at hd
      have hil : i < ds.length := (List.getElem?_eq_some_iff.mp hd').1
      refine (ite2 (c := decide ((i : Int) = (n : Int)) = true) (fun c => ?_) (fun c => ?_))
      · have c' : i = n := by have := of_decide_eq_true c; omega
        subst c'
        have hd0 : (ds.take i).drop i = [] := by rw [List.drop_eq_nil_iff, List.length_take]; exact Nat.min_le_left _ _
        rw [hf, hd0] at q0
        have q0 : q (match (if ds.length = i then none else some (D.int (min ds.length i : Nat))) with | none => .lst [.str "good"] | some k => .lst [.str "prices", k]) [] := q0
        rw [if_neg (by omega), Nat.min_eq_right (Nat.le_of_lt hil)] at q0
        exact ⟨rfl, q0⟩
      · have c' : i ≠ n := fun z => c (decide_eq_true (by rw [z]))
        have hdt : (ds.take n)[i]? = some d' := by rw [List.getElem?_take, if_pos (by omega)]; exact hd'
        refine ⟨d', rfl, hL.ok d' (List.mem_of_getElem? hd'), ?_⟩
        rw [firstBad_step hdt] at hf
        cases hb : prB d' with
        | true =>
          rw [if_pos (show fPr i d' = true from hb)] at hf
          exact ⟨_, _, rfl, by omega, hf⟩
        | false =>
          rw [if_neg (show ¬ fPr i d' = true by show ¬ prB d' = true; rw [hb]; decide)] at hf
          rw [hf] at q0
          exact ⟨rfl, q0⟩
    · rintro ρ ⟨v1, v2, rfl, hin, hf⟩
      rw [enuD_len] at hin hf
      have hd0 : (ds.take n).drop ds.length = [] := by rw [List.drop_eq_nil_iff, List.length_take]; exact Nat.min_le_right _ _
      rw [hf, hd0] at q0
      have q0 : q (match (if ds.length = n then none else some (D.int (min ds.length n : Nat))) with | none => .lst [.str "good"] | some k => .lst [.str "prices", k]) [] := q0
      refine (ite2 (c := decide ((ds.length : Int) < (n : Int)) = true) (fun c => ?_) (fun c => ?_))
      · have c' : ds.length < n := by have := of_decide_eq_true c; omega
        rw [if_neg (by omega), Nat.min_eq_left (Nat.le_of_lt c')] at q0
        exact ⟨rfl, q0⟩
      · have c' : ds.length = n := by simp at c; omega
        rw [if_pos c'] at q0
        exact ⟨rfl, q0⟩
  | _ => first | exact ⟨rfl, q0⟩ | (rw [pln] at hp; cases hp)
end
end K23
namespace K23
open PySem L2
section
variable {P : Program} {w : World} {K : PySem.W.Frag} {mg : Str → Option Value} {base : Heap} {A : Adr}
def sdKind (c : Addr) : SpD := fun ds q => ∃ n, ds = [dExc c nNum [n]] ∧ q (.str "prices") []
theorem ok_q29 (T : Txt K mg A) : FnOk P w K mg base CX0 1 A.f_q29 A.d_q29 ["_law_e"] (spOf [false] false ((sdKind A.c_q11))) := by
  have S := sc_q29
  refine fnD T.F_q29 S ⟨[false], [false, false], false⟩ _ ?hl rfl rfl fun cdv Ar outer s H E hr => ⟨_, (qss_cons (qs_if (qt_not (qt_val (qe_isX relTy rfl T.z_isinstance bt_isinstance (qe_var 0) (pe_bltn (v := .ty "ValueError") rfl T.z_ValueError bt_ValueError rfl)))) (qss_one (qs_ret qe_str)) qss_nil)
      (qss_cons (qs_if (qt_val (qe_isXs (cs := [A.c_q23, A.c_q17, A.c_q5, A.c_q25, A.c_q10, A.c_q16]) rfl T.z_isinstance bt_isinstance (qe_var 0) (pa_cls rfl T.m_q23 (pa_cls rfl T.m_q17 (pa_cls rfl T.m_q5 (pa_cls rfl T.m_q25 (pa_cls rfl T.m_q10 (pa_cls rfl T.m_q16 pa_cls0)))))))) (qss_one (qs_ret qe_str)) qss_nil)
      (qss_cons (qs_if (qt_val (qe_isXs (cs := [A.c_q9, A.c_q18, A.c_q32, A.c_q24]) rfl T.z_isinstance bt_isinstance (qe_var 0) (pa_cls rfl T.m_q9 (pa_cls rfl T.m_q18 (pa_cls rfl T.m_q32 (pa_cls rfl T.m_q24 pa_cls0)))))) (qss_one (qs_ret qe_str)) qss_nil)
      (qss_cons (qs_set (i := 1) S.nd rfl (Or.inl rfl) (qe_lst (qa_cons (qe_isX relRef rfl T.z_isinstance bt_isinstance (qe_var 0) (pe_glob (v := .ref A.c_q26) rfl T.m_q26 rfl)) (qa_cons (qe_isX relRef rfl T.z_isinstance bt_isinstance (qe_var 0) (pe_glob (v := .ref A.c_q22) rfl T.m_q22 rfl)) (qa_cons (qe_isX relRef rfl T.z_isinstance bt_isinstance (qe_var 0) (pe_glob (v := .ref A.c_q11) rfl T.m_q11 rfl)) qa_nil)))))
      (qss_cons (qs_if (qt_cmp (op_neD hr.units) dNe (qe_count (qe_var 1)) qe_int (nomark _)) (qss_one (qs_ret qe_str)) qss_nil)
      (qss_one (qs_ret (qe_ix ix_seq dIx (qe_lst (qa_cons qe_str (qa_cons qe_str (qa_cons qe_str qa_nil)))) (qe_index (qe_var 1)) (fun _ _ => rfl))))))))), fun ds q h => ?_⟩
  case hl => intro ds q h; obtain ⟨n, rfl, _⟩ := h; rfl
  obtain ⟨n, rfl, q0⟩ := h
  refine ⟨true, .inl ⟨_, _, _, _, _, rfl, T.x_q11, T.o_q11, T.v_q11⟩, ?_⟩
  refine ⟨false, .inl ⟨_, _, _, _, _, rfl, T.x_q11, T.o_q11, kany_f T.i_q11_NoKeep (kany_f T.i_q11_NoShare (kany_f T.i_q11_NoPointing (kany_f T.i_q11_NoText (kany_f T.i_q11_NoNumber (kany_f T.i_q11_NoPlace kany_nil)))))⟩, ?_⟩
  refine ⟨false, .inl ⟨_, _, _, _, _, rfl, T.x_q11, T.o_q11, kany_f T.i_q11_NoChange (kany_f T.i_q11_TooMany (kany_f T.i_q11_NoRow (kany_f T.i_q11_NoName kany_nil)))⟩, ?_⟩
  refine ⟨false, .inl ⟨_, _, _, _, _, rfl, T.x_q11, T.o_q11, T.i_q11_NoTree⟩, ?_⟩
  refine ⟨false, .inl ⟨_, _, _, _, _, rfl, T.x_q11, T.o_q11, T.i_q11_NoAsks⟩, ?_⟩
  refine ⟨true, .inl ⟨_, _, _, _, _, rfl, T.x_q11, T.o_q11, kit_self⟩, ?_⟩
  refine ⟨[false, false, true], rfl, ?_⟩
  refine ⟨[false, false, true], 2, rfl, rfl, fun m h => ?_, by decide, ?_⟩
  · have : m = 0 ∨ m = 1 := by omega
    rcases this with rfl | rfl <;> rfl
  · exact q0
theorem err_imm {n : Nat} {x k : D} (h : pricesErr n x = some k) : imm k = true ∧ isTy k "bool" = some false := by
  unfold pricesErr at h
  split at h
  · split at h
    · cases h; exact ⟨rfl, rfl⟩
    · split at h
      · cases h
      · cases h; exact ⟨rfl, rfl⟩
  · cases h; exact ⟨rfl, rfl⟩
def sdTold : SpD := fun ds q => ∃ ps rs x, ds = [dPair ps rs, x] ∧ Tree ps rs ∧ TgOk x ∧ q (dueD ps.length x) []
theorem ok_q30 (T : Txt K mg A) : FnOk P w K mg base CX0 5 A.f_q30 A.d_q30 ["_law_tree_here", "_law_thing_here"] (spOf [false, false] true (sdTold)) := by
  have G_q29 := ok_q29 (P := P) (w := w) (base := base) T
  have GX_q1 := okx_q1 (P := P) (w := w) (base := base) T
  have S := sc_q30
  refine fnT T.F_q30 S ⟨[false, false], [false, false, false, false, false], true⟩ _ ?hl rfl rfl fun cdv Ar outer s H E hr => ⟨_, (qxs_cons (qx_of (qs_set (i := 2) S.nd rfl (Or.inl rfl) qe_non))
      (qxs_cons (qx_of (qs_set (i := 3) S.nd rfl (Or.inl rfl) qe_non))
      (qxs_cons (qx_cut (qx_try (i := 4) S.nd rfl rfl rfl T.m_q8 T.x_q8 (qxs_one (qx_set (i := 3) S.nd rfl (Or.inl rfl) (qxe_call (GX_q1) (hr.mono (by decide)) rfl T.m_q1 T.k_q1 T.b_q1 (qk_s (qe_var 0) (qk_s (qe_var 1) qk_nil))))) (fun _ => (qss_one (qs_set (i := 2) S.nd rfl (Or.inl rfl) (qe_var 4))))))
      (qxs_cons (qx_of (qs_if (qt_cmp op_isN dIsN (qe_var 2) qe_non (nomark _)) (qss_one (qs_retM (QF.qm (qf_lst (qa_cons (qe_ix ix_seq dIx (qe_lst (qa_cons qe_str (qa_cons qe_str qa_nil))) (qe_callTy call_int1 dInt1 rfl T.z_int bt_int (qa_cons (qe_cmp op_isN dIsN (qe_var 3) qe_non (nomark _)) qa_nil)) (fun _ _ => rfl)) qa_nil))))) qss_nil))
      (qxs_cons (qx_of (qs_if (QW.qt (qw_and (qt_cmp (op_eqD hr.units) dEq (qe_call (G_q29) (hr.mono (by decide)) rfl T.m_q29 T.k_q29 T.b_q29 (qk_s (qe_var 2) qk_nil)) qe_str (nomark _)) (qw_and1 (qt_not (qt_val (qe_isT rfl T.z_isinstance bt_isinstance (qe_xat (qe_var 2)) (pe_bltn (v := .ty "bool") rfl T.z_bool bt_bool rfl))))))) (qss_one (qs_retM (QF.qm (qf_lst (qa_cons qe_str (qa_cons (qe_xat (qe_var 2)) qa_nil)))))) qss_nil))
      (qxs_one (qx_of (qs_retM (QF.qm (qf_lst (qa_cons qe_str qa_nil))))))))))), fun ds q h => ?_⟩
  case hl => intro ds q h; obtain ⟨ps, rs, x, rfl, _⟩ := h; rfl
  obtain ⟨ps, rs, x, rfl, hT, hx, q0⟩ := h
  unfold dueD at q0
  refine ⟨fun ρ => ∃ e v4, ρ = [some (dPair ps rs), some x, some e, some .non, v4] ∧ ((pricesErr ps.length x = none ∧ e = .non) ∨ ∃ n, pricesErr ps.length x = some n ∧ e = dExc A.c_q11 nNum [n]), ?_, ?_⟩
  · refine ⟨dPair ps rs, x, rfl, .inr ⟨ps, rs, rfl, hT, hx.pl, fun ds e => Nat.le_trans (hx.ls ds e).len (by decide), ?_⟩⟩
    cases he : pricesErr ps.length x with
    | some n => exact .inl ⟨n, rfl, ⟨A.c_q11, _, _, rfl, T.x_q11, by simp⟩, fun _ => ⟨_, _, rfl, .inr ⟨n, rfl, rfl⟩⟩⟩
    | none => exact .inr ⟨rfl, _, _, rfl, .inl ⟨rfl, rfl⟩⟩
  · rintro ρ ⟨e, v4, rfl, h⟩
    rcases h with ⟨he, rfl⟩ | ⟨n, he, rfl⟩
    · rw [he] at q0
      exact ⟨rfl, q0⟩
    · rw [he] at q0
      obtain ⟨hi, ht⟩ := err_imm he
      refine ⟨n, rfl, ?_⟩
      refine ⟨okD_str (by decide +kernel), okD_str (by decide +kernel), ?_⟩
      rw [eqD_str, beq_self_eq_true]
      refine ⟨A.c_q11, nNum, _, n, _, _, rfl, T.x_q11, T.o_q11, T.xa_q11_number, rfl, ?_⟩
      show (match isTy n "bool" with | some b => _ | none => False)
      rw [ht]
      refine ⟨A.c_q11, nNum, _, n, _, _, rfl, T.x_q11, T.o_q11, T.xa_q11_number, rfl, ?_⟩
      refine ⟨by rw [imms, imms, hi]; rfl, q0⟩
end
end K23
namespace K23
open PySem L2
section
variable {P : Program} {w : World} {K : PySem.W.Frag} {mg : Str → Option Value} {base : Heap} {A : Adr}
theorem due_lay (n : Nat) (x : D) : layS 1 (dueD n x) = true := by
  unfold dueD
  cases e : pricesErr n x with
  | none => exact (by decide +kernel : layS 1 (.lst [.str "good"]) = true)
  | some k =>
    have hk : layS 0 k = true := by
      unfold pricesErr at e
      split at e
      · split at e
        · cases e; rfl
        · split at e
          · cases e
          · cases e; rfl
      · cases e; rfl
    show layS 1 (.lst [.str "prices", k]) = true
    rw [layS, List.all_cons, List.all_cons, hk]
    exact (by decide +kernel : (layS 0 (.str "prices") && (true && true)) = true)
theorem ok_law (T : Txt K mg A) : FnOk P w K mg base CX0 6 A.f_law A.d_law ["_law_script"] (spOf [false] false (sdLaw K)) := by
  have G_q27 := ok_q27 (P := P) (w := w) (base := base) T
  have G_q33 := ok_q33 (P := P) (w := w) (base := base) T
  have G_q15 := ok_q15 (P := P) (w := w) (base := base) T
  have G_q20 := ok_q20 (P := P) (w := w) (base := base) T
  have G_q30 := ok_q30 (P := P) (w := w) (base := base) T
  have G_q31 := ok_q31 (P := P) (w := w) (base := base) T
  have S := sc_law
  refine fnD T.F_law S ⟨[false], [false, false, false, false, false, false, false], false⟩ _ ?hl rfl rfl fun cdv Ar outer s H E hr => ⟨_, (qss_cons (qs_set (i := 1) S.nd rfl (Or.inl rfl) (QF.qe (qf_call (G_q31) (hr.mono (by decide)) rfl T.m_q31 T.k_q31 T.b_q31 (qk_t (qf_call (G_q15) (hr.mono (by decide)) rfl T.m_q15 T.k_q15 T.b_q15 (qk_s (qe_call (G_q27) (hr.mono (by decide)) rfl T.m_q27 T.k_q27 T.b_q27 (qk_s (qe_var 0) (qk_s qe_int qk_nil))) (qk_s qe_int qk_nil))) (qk_s qe_int qk_nil)))))
      (qss_cons (qs_set (i := 2) S.nd rfl (Or.inl rfl) (qe_tup (qa_cons (qe_callTyN call_list_of dList rfl T.z_list bt_list (qa_cons (qe_ix ix_seq dIx (qe_var 1) qe_int (fun _ _ => rfl)) qa_nil)) (qa_cons (qe_callTyN call_list_of dList rfl T.z_list bt_list (qa_cons (qe_ix ix_seq dIx (qe_var 1) qe_int (fun _ _ => rfl)) qa_nil)) qa_nil))))
      (qss_cons (qs_for PassesOwn.never rfl (qi_range2 rfl T.z_range (qa_cons qe_int (qa_cons (qe_callB (call_max2 rfl) dMax rfl T.z_max bt_max (qa_cons qe_int (qa_cons (qe_callB (call_min2 rfl) dMin rfl T.z_min bt_min (qa_cons (qe_callB call_len_seq dLen rfl T.z_len bt_len (qa_cons (qe_var 0) qa_nil)) (qa_cons qe_int qa_nil))) qa_nil))) qa_nil))) (qg_name (i := 3) S.nd rfl (Or.inl rfl)) (qss_cons (qs_set (i := 4) S.nd rfl (Or.inl rfl) (qe_call (G_q20) (hr.mono (by decide)) rfl T.m_q20 T.k_q20 T.b_q20 (qk_s (qe_callB call_len_seq dLen rfl T.z_len bt_len (qa_cons (qe_ix ix_seq dIx (qe_var 1) qe_int (fun _ _ => rfl)) qa_nil)) (qk_t (qf_call (G_q15) (hr.mono (by decide)) rfl T.m_q15 T.k_q15 T.b_q15 (qk_s (qe_call (G_q27) (hr.mono (by decide)) rfl T.m_q27 T.k_q27 T.b_q27 (qk_s (qe_var 0) (qk_s (qe_var 3) qk_nil))) (qk_s (qe_var 3) qk_nil))) qk_nil))))
      (qss_cons (qs_set (i := 5) S.nd rfl (Or.inl rfl) (QF.qe (qf_call (G_q33) (hr.mono (by decide)) rfl T.m_q33 T.k_q33 T.b_q33 (qk_s (qe_callB call_len_seq dLen rfl T.z_len bt_len (qa_cons (qe_ix ix_seq dIx (qe_var 1) qe_int (fun _ _ => rfl)) qa_nil)) (qk_s (qe_var 4) qk_nil)))))
      (qss_cons (qs_set (i := 6) S.nd rfl (Or.inl rfl) (qe_var 4))
      (qss_cons (qs_cut (qs_if (qt_val (qe_isT rfl T.z_isinstance bt_isinstance (qe_var 4) (pe_bltn (v := .ty "list") rfl T.z_list bt_list rfl))) (qss_one (qs_set (i := 6) S.nd rfl (Or.inl rfl) (qe_callTyN call_list_of dList rfl T.z_list bt_list (qa_cons (qe_var 4) qa_nil)))) qss_nil))
      (qss_one (qs_if (QW.qt (qw_or (qt_cmp (op_neD hr.units) dNe (QF.qe (qf_call (G_q30) (hr.mono (by decide)) rfl T.m_q30 T.k_q30 T.b_q30 (qk_s (qe_var 1) (qk_s (qe_var 4) qk_nil)))) (qe_var 5) (nomark _)) (qw_or (qt_cmp (op_neS hr.units) dNeS' (qe_var 4) (qe_var 6) (nomark _)) (qw_or1 (qt_cmp (op_neD hr.units) dNe (qe_var 1) (qe_var 2) (nomark _)))))) (qss_one (qs_ret qe_bl)) qss_nil)))))))
      (qss_one (qs_ret qe_bl))))), fun ds q h => ?_⟩
  case hl => intro ds q h; obtain ⟨φ, ns, rfl, _⟩ := h; rfl
  obtain ⟨φ, ns, rfl, hφ, hl, q0⟩ := h
  refine ⟨φ, ns, 0, rfl, hφ, by decide, ?_⟩
  refine ⟨_, 0, rfl, by decide, by decide, fun c m h0 => ?_⟩
  refine ⟨c, m, 23, rfl, h0, by decide, by decide, fun ps rs c1 m1 hT _ h1 => ?_⟩
  have hlo := hT.lo; have hti := hT.hi
  refine ⟨hφ, ?_⟩
  refine ⟨⟨by decide, by decide, by split <;> split <;> omega, by split <;> split <;> omega⟩, ?_⟩
  refine ⟨fun i ρ => ∃ v3 v4 v5 v6, ρ = [some (.scr φ ns), some (dPair ps rs), some (dPair ps rs), v3, v4, v5, v6], ⟨_, _, _, _, rfl⟩, ?_, ?_⟩
  · rintro i d ρ hd ⟨v3, v4, v5, v6, rfl⟩
    obtain ⟨hi2, rfl⟩ := rngD_at hd
    have hi3 : i < 40 := by revert hi2; split <;> split <;> omega
    refine ⟨φ, ns, 1 + (i : Int), rfl, hφ, by omega, ?_⟩
    refine ⟨_, 1 + (i : Int), rfl, by omega, by omega, fun c2 m2 h2 => ?_⟩
    refine ⟨c2, m2, (ps.length : Int), by rw [len_ints], h2, by omega, by omega, fun x c3 m3 hx h3 => ?_⟩
    refine ⟨ps.length, x, by rw [len_ints], hx, ?_⟩
    refine ⟨fun ρ => ρ = [some (.scr φ ns), some (dPair ps rs), some (dPair ps rs), some (.int (1 + (i : Int))), some x, some (dueD ps.length x), some x], ?_, ?_⟩
    · have hp := hx.pl
      cases x <;> first | exact rfl | (rw [pln] at hp; cases hp)
    rintro ρ rfl
    refine ⟨ps, rs, x, rfl, hT, hx, ?_⟩
    have hD := due_lay ps.length x
    obtain ⟨es, he⟩ : ∃ es, dueD ps.length x = .lst es := by unfold dueD; split <;> exact ⟨_, rfl⟩
    rw [he] at hD ⊢
    refine ⟨okD_layS hD (by decide), okD_layS hD (by decide), ?_⟩
    refine (ite2 (c := (!eqD (.lst es) (.lst es)) = true) (fun c => by rw [eqD_selfS 1 _ hD] at c; cases c) (fun _ => ?_))
    refine ⟨rfl, hx.eq, ?_⟩
    refine ⟨okD_pair ps rs, okD_pair ps rs, ?_⟩
    refine (ite2 (c := (!eqD (dPair ps rs) (dPair ps rs)) = true) (fun c => by rw [eqD_self 2 _ (lay_dPair 0 ps rs)] at c; cases c) (fun _ => ⟨_, _, _, _, rfl⟩))
  · rintro ρ ⟨v3, v4, v5, v6, rfl⟩
    exact q0
end
end K23
namespace K23
open PySem L2
theorem lenS {us : List Value} {n : Nat} (h : us.length = n + 1) : ∃ a r, us = a :: r ∧ r.length = n := by
  cases us with
  | nil => cases h
  | cons a r => exact ⟨a, r, rfl, Nat.succ.inj h⟩
theorem us1 {fd : FuncData} {ps : List Str} (h : ∀ a0, bindArgs fd ⟨[a0], []⟩ = pure (ps.zip [a0])) : ∀ us : List Value, us.length = 1 → bindArgs fd ⟨us, []⟩ = pure (ps.zip us) := fun us hl => by
  obtain ⟨a0, u0, rfl, h0⟩ := lenS hl
  cases List.eq_nil_of_length_eq_zero h0
  exact h a0
theorem us2 {fd : FuncData} {ps : List Str} (h : ∀ a0 a1, bindArgs fd ⟨[a0, a1], []⟩ = pure (ps.zip [a0, a1])) : ∀ us : List Value, us.length = 2 → bindArgs fd ⟨us, []⟩ = pure (ps.zip us) := fun us hl => by
  obtain ⟨a0, u0, rfl, h0⟩ := lenS hl
  obtain ⟨a1, u1, rfl, h1⟩ := lenS h0
  cases List.eq_nil_of_length_eq_zero h1
  exact h a0 a1
theorem us3 {fd : FuncData} {ps : List Str} (h : ∀ a0 a1 a2, bindArgs fd ⟨[a0, a1, a2], []⟩ = pure (ps.zip [a0, a1, a2])) : ∀ us : List Value, us.length = 3 → bindArgs fd ⟨us, []⟩ = pure (ps.zip us) := fun us hl => by
  obtain ⟨a0, u0, rfl, h0⟩ := lenS hl
  obtain ⟨a1, u1, rfl, h1⟩ := lenS h0
  obtain ⟨a2, u2, rfl, h2⟩ := lenS h1
  cases List.eq_nil_of_length_eq_zero h2
  exact h a0 a1 a2
theorem all_mk {l : PySem.W.OpenLaw} {w : World} {K : PySem.W.Frag} {h : Heap} {mg : Str → Option Value} {fa f_q13 f_q6 f_q0 f_q4 f_q2 f_q3 f_q12 f_q1 f_q27 f_q15 f_q28 f_q31 f_q14 f_q19 f_q34 f_q20 f_q21 f_q7 f_q33 f_q29 f_q30 f_law : Addr} (X : K.In h) (G : h.Ns mainGlobals mg) (hfa : mg "law" = some (.ref fa))
    {od_q13 an_q13 : Option Addr} {sl_q13 : Array (Option Value)} {oc_q13 kV_q13 dc_q13 pm_q13 cd_q13 ct_q13 : Value} (a_q13 : PySem.W.nsIn K mainGlobals "is_whole" = some (some (.ref f_q13))) (l_q13 : K.lookup f_q13 = some ⟨oc_q13, od_q13, .func (PySem.W.fnOf "is_whole" "is_whole" (defArgs s_q13) (defBody s_q13) (defScope s_q13) .none kV_q13 dc_q13 pm_q13 an_q13 cd_q13 ct_q13), sl_q13⟩) (c_q13 : PySem.W.codeIn K cd_q13 "is_whole" = true) (k_q13 : PySem.W.keepIn K (.ref f_q13) = true)
    {od_q6 an_q6 : Option Addr} {sl_q6 : Array (Option Value)} {oc_q6 kV_q6 dc_q6 pm_q6 cd_q6 ct_q6 : Value} (a_q6 : PySem.W.nsIn K mainGlobals "is_between" = some (some (.ref f_q6))) (l_q6 : K.lookup f_q6 = some ⟨oc_q6, od_q6, .func (PySem.W.fnOf "is_between" "is_between" (defArgs s_q6) (defBody s_q6) (defScope s_q6) .none kV_q6 dc_q6 pm_q6 an_q6 cd_q6 ct_q6), sl_q6⟩) (c_q6 : PySem.W.codeIn K cd_q6 "is_between" = true) (k_q6 : PySem.W.keepIn K (.ref f_q6) = true)
    {od_q0 an_q0 : Option Addr} {sl_q0 : Array (Option Value)} {oc_q0 kV_q0 dc_q0 pm_q0 cd_q0 ct_q0 : Value} (a_q0 : PySem.W.nsIn K mainGlobals "greatest_common" = some (some (.ref f_q0))) (l_q0 : K.lookup f_q0 = some ⟨oc_q0, od_q0, .func (PySem.W.fnOf "greatest_common" "greatest_common" (defArgs s_q0) (defBody s_q0) (defScope s_q0) .none kV_q0 dc_q0 pm_q0 an_q0 cd_q0 ct_q0), sl_q0⟩) (c_q0 : PySem.W.codeIn K cd_q0 "greatest_common" = true) (k_q0 : PySem.W.keepIn K (.ref f_q0) = true)
    {od_q4 an_q4 : Option Addr} {sl_q4 : Array (Option Value)} {oc_q4 kV_q4 dc_q4 pm_q4 cd_q4 ct_q4 : Value} (a_q4 : PySem.W.nsIn K mainGlobals "is_fraction" = some (some (.ref f_q4))) (l_q4 : K.lookup f_q4 = some ⟨oc_q4, od_q4, .func (PySem.W.fnOf "is_fraction" "is_fraction" (defArgs s_q4) (defBody s_q4) (defScope s_q4) .none kV_q4 dc_q4 pm_q4 an_q4 cd_q4 ct_q4), sl_q4⟩) (c_q4 : PySem.W.codeIn K cd_q4 "is_fraction" = true) (k_q4 : PySem.W.keepIn K (.ref f_q4) = true)
    {od_q2 an_q2 : Option Addr} {sl_q2 : Array (Option Value)} {oc_q2 kV_q2 dc_q2 pm_q2 cd_q2 ct_q2 : Value} (a_q2 : PySem.W.nsIn K mainGlobals "has_two_lists" = some (some (.ref f_q2))) (l_q2 : K.lookup f_q2 = some ⟨oc_q2, od_q2, .func (PySem.W.fnOf "has_two_lists" "has_two_lists" (defArgs s_q2) (defBody s_q2) (defScope s_q2) .none kV_q2 dc_q2 pm_q2 an_q2 cd_q2 ct_q2), sl_q2⟩) (c_q2 : PySem.W.codeIn K cd_q2 "has_two_lists" = true) (k_q2 : PySem.W.keepIn K (.ref f_q2) = true)
    {od_q3 an_q3 : Option Addr} {sl_q3 : Array (Option Value)} {oc_q3 kV_q3 dc_q3 pm_q3 cd_q3 ct_q3 : Value} (a_q3 : PySem.W.nsIn K mainGlobals "look_at_tree" = some (some (.ref f_q3))) (l_q3 : K.lookup f_q3 = some ⟨oc_q3, od_q3, .func (PySem.W.fnOf "look_at_tree" "look_at_tree" (defArgs s_q3) (defBody s_q3) (defScope s_q3) .none kV_q3 dc_q3 pm_q3 an_q3 cd_q3 ct_q3), sl_q3⟩) (c_q3 : PySem.W.codeIn K cd_q3 "look_at_tree" = true) (k_q3 : PySem.W.keepIn K (.ref f_q3) = true)
    {od_q12 an_q12 : Option Addr} {sl_q12 : Array (Option Value)} {oc_q12 kV_q12 dc_q12 pm_q12 cd_q12 ct_q12 : Value} (a_q12 : PySem.W.nsIn K mainGlobals "is_price" = some (some (.ref f_q12))) (l_q12 : K.lookup f_q12 = some ⟨oc_q12, od_q12, .func (PySem.W.fnOf "is_price" "is_price" (defArgs s_q12) (defBody s_q12) (defScope s_q12) .none kV_q12 dc_q12 pm_q12 an_q12 cd_q12 ct_q12), sl_q12⟩) (c_q12 : PySem.W.codeIn K cd_q12 "is_price" = true) (k_q12 : PySem.W.keepIn K (.ref f_q12) = true)
    {od_q1 an_q1 : Option Addr} {sl_q1 : Array (Option Value)} {oc_q1 kV_q1 dc_q1 pm_q1 cd_q1 ct_q1 : Value} (a_q1 : PySem.W.nsIn K mainGlobals "look_at_prices" = some (some (.ref f_q1))) (l_q1 : K.lookup f_q1 = some ⟨oc_q1, od_q1, .func (PySem.W.fnOf "look_at_prices" "look_at_prices" (defArgs s_q1) (defBody s_q1) (defScope s_q1) .none kV_q1 dc_q1 pm_q1 an_q1 cd_q1 ct_q1), sl_q1⟩) (c_q1 : PySem.W.codeIn K cd_q1 "look_at_prices" = true) (k_q1 : PySem.W.keepIn K (.ref f_q1) = true)
    {od_q27 an_q27 : Option Addr} {sl_q27 : Array (Option Value)} {oc_q27 kV_q27 dc_q27 pm_q27 cd_q27 ct_q27 : Value} (a_q27 : PySem.W.nsIn K mainGlobals "_law_cell" = some (some (.ref f_q27))) (l_q27 : K.lookup f_q27 = some ⟨oc_q27, od_q27, .func (PySem.W.fnOf "_law_cell" "_law_cell" (defArgs s_q27) (defBody s_q27) (defScope s_q27) .none kV_q27 dc_q27 pm_q27 an_q27 cd_q27 ct_q27), sl_q27⟩) (c_q27 : PySem.W.codeIn K cd_q27 "_law_cell" = true) (k_q27 : PySem.W.keepIn K (.ref f_q27) = true)
    {od_q15 an_q15 : Option Addr} {sl_q15 : Array (Option Value)} {oc_q15 kV_q15 dc_q15 pm_q15 cd_q15 ct_q15 : Value} (a_q15 : PySem.W.nsIn K mainGlobals "_law_source" = some (some (.ref f_q15))) (l_q15 : K.lookup f_q15 = some ⟨oc_q15, od_q15, .func (PySem.W.fnOf "_law_source" "_law_source" (defArgs s_q15) (defBody s_q15) (defScope s_q15) .none kV_q15 dc_q15 pm_q15 an_q15 cd_q15 ct_q15), sl_q15⟩) (c_q15 : PySem.W.codeIn K cd_q15 "_law_source" = true) (k_q15 : PySem.W.keepIn K (.ref f_q15) = true)
    {od_q28 an_q28 : Option Addr} {sl_q28 : Array (Option Value)} {oc_q28 kV_q28 dc_q28 pm_q28 cd_q28 ct_q28 : Value} (a_q28 : PySem.W.nsIn K mainGlobals "_law_draw" = some (some (.ref f_q28))) (l_q28 : K.lookup f_q28 = some ⟨oc_q28, od_q28, .func (PySem.W.fnOf "_law_draw" "_law_draw" (defArgs s_q28) (defBody s_q28) (defScope s_q28) .none kV_q28 dc_q28 pm_q28 an_q28 cd_q28 ct_q28), sl_q28⟩) (c_q28 : PySem.W.codeIn K cd_q28 "_law_draw" = true) (k_q28 : PySem.W.keepIn K (.ref f_q28) = true)
    {od_q31 an_q31 : Option Addr} {sl_q31 : Array (Option Value)} {oc_q31 kV_q31 dc_q31 pm_q31 cd_q31 ct_q31 : Value} (a_q31 : PySem.W.nsIn K mainGlobals "_law_tree" = some (some (.ref f_q31))) (l_q31 : K.lookup f_q31 = some ⟨oc_q31, od_q31, .func (PySem.W.fnOf "_law_tree" "_law_tree" (defArgs s_q31) (defBody s_q31) (defScope s_q31) .none kV_q31 dc_q31 pm_q31 an_q31 cd_q31 ct_q31), sl_q31⟩) (c_q31 : PySem.W.codeIn K cd_q31 "_law_tree" = true) (k_q31 : PySem.W.keepIn K (.ref f_q31) = true)
    {od_q14 an_q14 : Option Addr} {sl_q14 : Array (Option Value)} {oc_q14 kV_q14 dc_q14 pm_q14 cd_q14 ct_q14 : Value} (a_q14 : PySem.W.nsIn K mainGlobals "_law_lowest" = some (some (.ref f_q14))) (l_q14 : K.lookup f_q14 = some ⟨oc_q14, od_q14, .func (PySem.W.fnOf "_law_lowest" "_law_lowest" (defArgs s_q14) (defBody s_q14) (defScope s_q14) .none kV_q14 dc_q14 pm_q14 an_q14 cd_q14 ct_q14), sl_q14⟩) (c_q14 : PySem.W.codeIn K cd_q14 "_law_lowest" = true) (k_q14 : PySem.W.keepIn K (.ref f_q14) = true)
    {od_q19 an_q19 : Option Addr} {sl_q19 : Array (Option Value)} {oc_q19 kV_q19 dc_q19 pm_q19 cd_q19 ct_q19 : Value} (a_q19 : PySem.W.nsIn K mainGlobals "_law_price" = some (some (.ref f_q19))) (l_q19 : K.lookup f_q19 = some ⟨oc_q19, od_q19, .func (PySem.W.fnOf "_law_price" "_law_price" (defArgs s_q19) (defBody s_q19) (defScope s_q19) .none kV_q19 dc_q19 pm_q19 an_q19 cd_q19 ct_q19), sl_q19⟩) (c_q19 : PySem.W.codeIn K cd_q19 "_law_price" = true) (k_q19 : PySem.W.keepIn K (.ref f_q19) = true)
    {od_q34 an_q34 : Option Addr} {sl_q34 : Array (Option Value)} {oc_q34 kV_q34 dc_q34 pm_q34 cd_q34 ct_q34 : Value} (a_q34 : PySem.W.nsIn K mainGlobals "_law_odd" = some (some (.ref f_q34))) (l_q34 : K.lookup f_q34 = some ⟨oc_q34, od_q34, .func (PySem.W.fnOf "_law_odd" "_law_odd" (defArgs s_q34) (defBody s_q34) (defScope s_q34) .none kV_q34 dc_q34 pm_q34 an_q34 cd_q34 ct_q34), sl_q34⟩) (c_q34 : PySem.W.codeIn K cd_q34 "_law_odd" = true) (k_q34 : PySem.W.keepIn K (.ref f_q34) = true)
    {od_q20 an_q20 : Option Addr} {sl_q20 : Array (Option Value)} {oc_q20 kV_q20 dc_q20 pm_q20 cd_q20 ct_q20 : Value} (a_q20 : PySem.W.nsIn K mainGlobals "_law_thing" = some (some (.ref f_q20))) (l_q20 : K.lookup f_q20 = some ⟨oc_q20, od_q20, .func (PySem.W.fnOf "_law_thing" "_law_thing" (defArgs s_q20) (defBody s_q20) (defScope s_q20) .none kV_q20 dc_q20 pm_q20 an_q20 cd_q20 ct_q20), sl_q20⟩) (c_q20 : PySem.W.codeIn K cd_q20 "_law_thing" = true) (k_q20 : PySem.W.keepIn K (.ref f_q20) = true)
    {od_q21 an_q21 : Option Addr} {sl_q21 : Array (Option Value)} {oc_q21 kV_q21 dc_q21 pm_q21 cd_q21 ct_q21 : Value} (a_q21 : PySem.W.nsIn K mainGlobals "_law_whole" = some (some (.ref f_q21))) (l_q21 : K.lookup f_q21 = some ⟨oc_q21, od_q21, .func (PySem.W.fnOf "_law_whole" "_law_whole" (defArgs s_q21) (defBody s_q21) (defScope s_q21) .none kV_q21 dc_q21 pm_q21 an_q21 cd_q21 ct_q21), sl_q21⟩) (c_q21 : PySem.W.codeIn K cd_q21 "_law_whole" = true) (k_q21 : PySem.W.keepIn K (.ref f_q21) = true)
    {od_q7 an_q7 : Option Addr} {sl_q7 : Array (Option Value)} {oc_q7 kV_q7 dc_q7 pm_q7 cd_q7 ct_q7 : Value} (a_q7 : PySem.W.nsIn K mainGlobals "_law_is_price" = some (some (.ref f_q7))) (l_q7 : K.lookup f_q7 = some ⟨oc_q7, od_q7, .func (PySem.W.fnOf "_law_is_price" "_law_is_price" (defArgs s_q7) (defBody s_q7) (defScope s_q7) .none kV_q7 dc_q7 pm_q7 an_q7 cd_q7 ct_q7), sl_q7⟩) (c_q7 : PySem.W.codeIn K cd_q7 "_law_is_price" = true) (k_q7 : PySem.W.keepIn K (.ref f_q7) = true)
    {od_q33 an_q33 : Option Addr} {sl_q33 : Array (Option Value)} {oc_q33 kV_q33 dc_q33 pm_q33 cd_q33 ct_q33 : Value} (a_q33 : PySem.W.nsIn K mainGlobals "_law_due" = some (some (.ref f_q33))) (l_q33 : K.lookup f_q33 = some ⟨oc_q33, od_q33, .func (PySem.W.fnOf "_law_due" "_law_due" (defArgs s_q33) (defBody s_q33) (defScope s_q33) .none kV_q33 dc_q33 pm_q33 an_q33 cd_q33 ct_q33), sl_q33⟩) (c_q33 : PySem.W.codeIn K cd_q33 "_law_due" = true) (k_q33 : PySem.W.keepIn K (.ref f_q33) = true)
    {od_q29 an_q29 : Option Addr} {sl_q29 : Array (Option Value)} {oc_q29 kV_q29 dc_q29 pm_q29 cd_q29 ct_q29 : Value} (a_q29 : PySem.W.nsIn K mainGlobals "_law_kind" = some (some (.ref f_q29))) (l_q29 : K.lookup f_q29 = some ⟨oc_q29, od_q29, .func (PySem.W.fnOf "_law_kind" "_law_kind" (defArgs s_q29) (defBody s_q29) (defScope s_q29) .none kV_q29 dc_q29 pm_q29 an_q29 cd_q29 ct_q29), sl_q29⟩) (c_q29 : PySem.W.codeIn K cd_q29 "_law_kind" = true) (k_q29 : PySem.W.keepIn K (.ref f_q29) = true)
    {od_q30 an_q30 : Option Addr} {sl_q30 : Array (Option Value)} {oc_q30 kV_q30 dc_q30 pm_q30 cd_q30 ct_q30 : Value} (a_q30 : PySem.W.nsIn K mainGlobals "_law_told" = some (some (.ref f_q30))) (l_q30 : K.lookup f_q30 = some ⟨oc_q30, od_q30, .func (PySem.W.fnOf "_law_told" "_law_told" (defArgs s_q30) (defBody s_q30) (defScope s_q30) .none kV_q30 dc_q30 pm_q30 an_q30 cd_q30 ct_q30), sl_q30⟩) (c_q30 : PySem.W.codeIn K cd_q30 "_law_told" = true) (k_q30 : PySem.W.keepIn K (.ref f_q30) = true)
    {od_law an_law : Option Addr} {sl_law : Array (Option Value)} {oc_law kV_law dc_law pm_law cd_law ct_law : Value} (a_law : PySem.W.nsIn K mainGlobals "law" = some (some (.ref f_law))) (l_law : K.lookup f_law = some ⟨oc_law, od_law, .func (PySem.W.fnOf "law" "law" (defArgs s_law) (defBody s_law) (defScope s_law) .none kV_law dc_law pm_law an_law cd_law ct_law), sl_law⟩) (c_law : PySem.W.codeIn K cd_law "law" = true) (k_law : PySem.W.keepIn K (.ref f_law) = true)
    {t_MOST_TIES : Tok} (c_MOST_TIES : PySem.W.nsIn K mainGlobals "MOST_TIES" = some (some (.int 23 t_MOST_TIES)))
    {t_MOST_ROOM : Tok} (c_MOST_ROOM : PySem.W.nsIn K mainGlobals "MOST_ROOM" = some (some (.int 1000000 t_MOST_ROOM)))
    (z_ValueError : PySem.W.nsIn K mainGlobals "ValueError" = some none)
    (z_abs : PySem.W.nsIn K mainGlobals "abs" = some none)
    (z_bool : PySem.W.nsIn K mainGlobals "bool" = some none)
    (z_enumerate : PySem.W.nsIn K mainGlobals "enumerate" = some none)
    (z_int : PySem.W.nsIn K mainGlobals "int" = some none)
    (z_isinstance : PySem.W.nsIn K mainGlobals "isinstance" = some none)
    (z_len : PySem.W.nsIn K mainGlobals "len" = some none)
    (z_list : PySem.W.nsIn K mainGlobals "list" = some none)
    (z_max : PySem.W.nsIn K mainGlobals "max" = some none)
    (z_min : PySem.W.nsIn K mainGlobals "min" = some none)
    (z_range : PySem.W.nsIn K mainGlobals "range" = some none)
    (z_tuple : PySem.W.nsIn K mainGlobals "tuple" = some none)
    {c_q8 : Addr} (e_q8 : PySem.W.nsIn K mainGlobals "AskError" = some (some (.ref c_q8)))
    {c_q22 : Addr} (e_q22 : PySem.W.nsIn K mainGlobals "NoAsks" = some (some (.ref c_q22)))
    {c_q9 : Addr} (e_q9 : PySem.W.nsIn K mainGlobals "NoChange" = some (some (.ref c_q9)))
    {c_q23 : Addr} (e_q23 : PySem.W.nsIn K mainGlobals "NoKeep" = some (some (.ref c_q23)))
    {c_q24 : Addr} (e_q24 : PySem.W.nsIn K mainGlobals "NoName" = some (some (.ref c_q24)))
    {c_q10 : Addr} (e_q10 : PySem.W.nsIn K mainGlobals "NoNumber" = some (some (.ref c_q10)))
    {c_q16 : Addr} (e_q16 : PySem.W.nsIn K mainGlobals "NoPlace" = some (some (.ref c_q16)))
    {c_q5 : Addr} (e_q5 : PySem.W.nsIn K mainGlobals "NoPointing" = some (some (.ref c_q5)))
    {c_q11 : Addr} (e_q11 : PySem.W.nsIn K mainGlobals "NoPrices" = some (some (.ref c_q11)))
    {c_q32 : Addr} (e_q32 : PySem.W.nsIn K mainGlobals "NoRow" = some (some (.ref c_q32)))
    {c_q17 : Addr} (e_q17 : PySem.W.nsIn K mainGlobals "NoShare" = some (some (.ref c_q17)))
    {c_q25 : Addr} (e_q25 : PySem.W.nsIn K mainGlobals "NoText" = some (some (.ref c_q25)))
    {c_q26 : Addr} (e_q26 : PySem.W.nsIn K mainGlobals "NoTree" = some (some (.ref c_q26)))
    {c_q18 : Addr} (e_q18 : PySem.W.nsIn K mainGlobals "TooMany" = some (some (.ref c_q18)))
    {dd_q8 : Option Addr} {nm_q8 qn_q8 : Str} {bs_q8 su_q8 : List Value} {ns_q8 : Addr} {hb_q8 ab_q8 : Bool} {sn_q8 : List Str} {co_q8 : Option Bool} {u0_AskError u1_AskError u2_AskError u3_AskError u5_AskError : Option Value} (l_q8 : K.lookup c_q8 = some ⟨.type "type", dd_q8, .cls ⟨nm_q8, bs_q8, .ref c_q8 :: bmV, ns_q8, qn_q8, hb_q8, sn_q8, su_q8, ab_q8, co_q8, false⟩, #[u0_AskError, u1_AskError, u2_AskError, u3_AskError, some (.builtin "ValueError.__new__"), u5_AskError]⟩)
    {no_q8 : Value} {nd_q8 : Option Addr} {es_q8 : Array DictEntry} {np_q8 : Nat} {nl_q8 : Array (Option Value)} (n_q8' : K.lookup ns_q8 = some ⟨no_q8, nd_q8, .dict es_q8 np_q8, nl_q8⟩)
     (q_q8 : (es_q8.all fun e => match e.key with | .str _ _ => true | _ => false) = true)
     (t_q8 : PySem.W.nsIn K ns_q8 "__init__" = some none)
    {dd_q22 : Option Addr} {nm_q22 qn_q22 : Str} {bs_q22 su_q22 : List Value} {ns_q22 : Addr} {hb_q22 ab_q22 : Bool} {sn_q22 : List Str} {co_q22 : Option Bool} {u0_NoAsks u1_NoAsks u2_NoAsks u3_NoAsks u5_NoAsks : Option Value} (l_q22 : K.lookup c_q22 = some ⟨.type "type", dd_q22, .cls ⟨nm_q22, bs_q22, .ref c_q22 :: ([.ref c_q8] ++ bmV), ns_q22, qn_q22, hb_q22, sn_q22, su_q22, ab_q22, co_q22, false⟩, #[u0_NoAsks, u1_NoAsks, u2_NoAsks, u3_NoAsks, some (.builtin "ValueError.__new__"), u5_NoAsks]⟩)
    {dd_q9 : Option Addr} {nm_q9 qn_q9 : Str} {bs_q9 su_q9 : List Value} {ns_q9 : Addr} {hb_q9 ab_q9 : Bool} {sn_q9 : List Str} {co_q9 : Option Bool} {u0_NoChange u1_NoChange u2_NoChange u3_NoChange u5_NoChange : Option Value} (l_q9 : K.lookup c_q9 = some ⟨.type "type", dd_q9, .cls ⟨nm_q9, bs_q9, .ref c_q9 :: ([.ref c_q8] ++ bmV), ns_q9, qn_q9, hb_q9, sn_q9, su_q9, ab_q9, co_q9, false⟩, #[u0_NoChange, u1_NoChange, u2_NoChange, u3_NoChange, some (.builtin "ValueError.__new__"), u5_NoChange]⟩)
    {dd_q23 : Option Addr} {nm_q23 qn_q23 : Str} {bs_q23 su_q23 : List Value} {ns_q23 : Addr} {hb_q23 ab_q23 : Bool} {sn_q23 : List Str} {co_q23 : Option Bool} {u0_NoKeep u1_NoKeep u2_NoKeep u3_NoKeep u5_NoKeep : Option Value} (l_q23 : K.lookup c_q23 = some ⟨.type "type", dd_q23, .cls ⟨nm_q23, bs_q23, .ref c_q23 :: ([.ref c_q8] ++ bmV), ns_q23, qn_q23, hb_q23, sn_q23, su_q23, ab_q23, co_q23, false⟩, #[u0_NoKeep, u1_NoKeep, u2_NoKeep, u3_NoKeep, some (.builtin "ValueError.__new__"), u5_NoKeep]⟩)
    {dd_q24 : Option Addr} {nm_q24 qn_q24 : Str} {bs_q24 su_q24 : List Value} {ns_q24 : Addr} {hb_q24 ab_q24 : Bool} {sn_q24 : List Str} {co_q24 : Option Bool} {u0_NoName u1_NoName u2_NoName u3_NoName u5_NoName : Option Value} (l_q24 : K.lookup c_q24 = some ⟨.type "type", dd_q24, .cls ⟨nm_q24, bs_q24, .ref c_q24 :: ([.ref c_q8] ++ bmV), ns_q24, qn_q24, hb_q24, sn_q24, su_q24, ab_q24, co_q24, false⟩, #[u0_NoName, u1_NoName, u2_NoName, u3_NoName, some (.builtin "ValueError.__new__"), u5_NoName]⟩)
    {dd_q10 : Option Addr} {nm_q10 qn_q10 : Str} {bs_q10 su_q10 : List Value} {ns_q10 : Addr} {hb_q10 ab_q10 : Bool} {sn_q10 : List Str} {co_q10 : Option Bool} {u0_NoNumber u1_NoNumber u2_NoNumber u3_NoNumber u5_NoNumber : Option Value} (l_q10 : K.lookup c_q10 = some ⟨.type "type", dd_q10, .cls ⟨nm_q10, bs_q10, .ref c_q10 :: ([.ref c_q8] ++ bmV), ns_q10, qn_q10, hb_q10, sn_q10, su_q10, ab_q10, co_q10, false⟩, #[u0_NoNumber, u1_NoNumber, u2_NoNumber, u3_NoNumber, some (.builtin "ValueError.__new__"), u5_NoNumber]⟩)
    {dd_q16 : Option Addr} {nm_q16 qn_q16 : Str} {bs_q16 su_q16 : List Value} {ns_q16 : Addr} {hb_q16 ab_q16 : Bool} {sn_q16 : List Str} {co_q16 : Option Bool} {u0_NoPlace u1_NoPlace u2_NoPlace u3_NoPlace u5_NoPlace : Option Value} (l_q16 : K.lookup c_q16 = some ⟨.type "type", dd_q16, .cls ⟨nm_q16, bs_q16, .ref c_q16 :: ([.ref c_q8] ++ bmV), ns_q16, qn_q16, hb_q16, sn_q16, su_q16, ab_q16, co_q16, false⟩, #[u0_NoPlace, u1_NoPlace, u2_NoPlace, u3_NoPlace, some (.builtin "ValueError.__new__"), u5_NoPlace]⟩)
    {dd_q5 : Option Addr} {nm_q5 qn_q5 : Str} {bs_q5 su_q5 : List Value} {ns_q5 : Addr} {hb_q5 ab_q5 : Bool} {sn_q5 : List Str} {co_q5 : Option Bool} {u0_NoPointing u1_NoPointing u2_NoPointing u3_NoPointing u5_NoPointing : Option Value} (l_q5 : K.lookup c_q5 = some ⟨.type "type", dd_q5, .cls ⟨nm_q5, bs_q5, .ref c_q5 :: ([.ref c_q8] ++ bmV), ns_q5, qn_q5, hb_q5, sn_q5, su_q5, ab_q5, co_q5, false⟩, #[u0_NoPointing, u1_NoPointing, u2_NoPointing, u3_NoPointing, some (.builtin "ValueError.__new__"), u5_NoPointing]⟩)
    {dd_q11 : Option Addr} {nm_q11 qn_q11 : Str} {bs_q11 su_q11 : List Value} {ns_q11 : Addr} {hb_q11 ab_q11 : Bool} {sn_q11 : List Str} {co_q11 : Option Bool} {u0_NoPrices u1_NoPrices u2_NoPrices u3_NoPrices u5_NoPrices : Option Value} (l_q11 : K.lookup c_q11 = some ⟨.type "type", dd_q11, .cls ⟨nm_q11, bs_q11, .ref c_q11 :: ([.ref c_q8] ++ bmV), ns_q11, qn_q11, hb_q11, sn_q11, su_q11, ab_q11, co_q11, false⟩, #[u0_NoPrices, u1_NoPrices, u2_NoPrices, u3_NoPrices, some (.builtin "ValueError.__new__"), u5_NoPrices]⟩)
    {no_q11 : Value} {nd_q11 : Option Addr} {es_q11 : Array DictEntry} {np_q11 : Nat} {nl_q11 : Array (Option Value)} (n_q11' : K.lookup ns_q11 = some ⟨no_q11, nd_q11, .dict es_q11 np_q11, nl_q11⟩)
     (q_q11 : (es_q11.all fun e => match e.key with | .str _ _ => true | _ => false) = true)
    {n_q11 : Addr} (t_q11 : PySem.W.nsIn K ns_q11 "__init__" = some (some (.ref n_q11)))
    {dd_q32 : Option Addr} {nm_q32 qn_q32 : Str} {bs_q32 su_q32 : List Value} {ns_q32 : Addr} {hb_q32 ab_q32 : Bool} {sn_q32 : List Str} {co_q32 : Option Bool} {u0_NoRow u1_NoRow u2_NoRow u3_NoRow u5_NoRow : Option Value} (l_q32 : K.lookup c_q32 = some ⟨.type "type", dd_q32, .cls ⟨nm_q32, bs_q32, .ref c_q32 :: ([.ref c_q8] ++ bmV), ns_q32, qn_q32, hb_q32, sn_q32, su_q32, ab_q32, co_q32, false⟩, #[u0_NoRow, u1_NoRow, u2_NoRow, u3_NoRow, some (.builtin "ValueError.__new__"), u5_NoRow]⟩)
    {dd_q17 : Option Addr} {nm_q17 qn_q17 : Str} {bs_q17 su_q17 : List Value} {ns_q17 : Addr} {hb_q17 ab_q17 : Bool} {sn_q17 : List Str} {co_q17 : Option Bool} {u0_NoShare u1_NoShare u2_NoShare u3_NoShare u5_NoShare : Option Value} (l_q17 : K.lookup c_q17 = some ⟨.type "type", dd_q17, .cls ⟨nm_q17, bs_q17, .ref c_q17 :: ([.ref c_q8] ++ bmV), ns_q17, qn_q17, hb_q17, sn_q17, su_q17, ab_q17, co_q17, false⟩, #[u0_NoShare, u1_NoShare, u2_NoShare, u3_NoShare, some (.builtin "ValueError.__new__"), u5_NoShare]⟩)
    {dd_q25 : Option Addr} {nm_q25 qn_q25 : Str} {bs_q25 su_q25 : List Value} {ns_q25 : Addr} {hb_q25 ab_q25 : Bool} {sn_q25 : List Str} {co_q25 : Option Bool} {u0_NoText u1_NoText u2_NoText u3_NoText u5_NoText : Option Value} (l_q25 : K.lookup c_q25 = some ⟨.type "type", dd_q25, .cls ⟨nm_q25, bs_q25, .ref c_q25 :: ([.ref c_q8] ++ bmV), ns_q25, qn_q25, hb_q25, sn_q25, su_q25, ab_q25, co_q25, false⟩, #[u0_NoText, u1_NoText, u2_NoText, u3_NoText, some (.builtin "ValueError.__new__"), u5_NoText]⟩)
    {dd_q26 : Option Addr} {nm_q26 qn_q26 : Str} {bs_q26 su_q26 : List Value} {ns_q26 : Addr} {hb_q26 ab_q26 : Bool} {sn_q26 : List Str} {co_q26 : Option Bool} {u0_NoTree u1_NoTree u2_NoTree u3_NoTree u5_NoTree : Option Value} (l_q26 : K.lookup c_q26 = some ⟨.type "type", dd_q26, .cls ⟨nm_q26, bs_q26, .ref c_q26 :: ([.ref c_q8] ++ bmV), ns_q26, qn_q26, hb_q26, sn_q26, su_q26, ab_q26, co_q26, false⟩, #[u0_NoTree, u1_NoTree, u2_NoTree, u3_NoTree, some (.builtin "ValueError.__new__"), u5_NoTree]⟩)
    {no_q26 : Value} {nd_q26 : Option Addr} {es_q26 : Array DictEntry} {np_q26 : Nat} {nl_q26 : Array (Option Value)} (n_q26' : K.lookup ns_q26 = some ⟨no_q26, nd_q26, .dict es_q26 np_q26, nl_q26⟩)
     (q_q26 : (es_q26.all fun e => match e.key with | .str _ _ => true | _ => false) = true)
    {n_q26 : Addr} (t_q26 : PySem.W.nsIn K ns_q26 "__init__" = some (some (.ref n_q26)))
    {dd_q18 : Option Addr} {nm_q18 qn_q18 : Str} {bs_q18 su_q18 : List Value} {ns_q18 : Addr} {hb_q18 ab_q18 : Bool} {sn_q18 : List Str} {co_q18 : Option Bool} {u0_TooMany u1_TooMany u2_TooMany u3_TooMany u5_TooMany : Option Value} (l_q18 : K.lookup c_q18 = some ⟨.type "type", dd_q18, .cls ⟨nm_q18, bs_q18, .ref c_q18 :: ([.ref c_q8] ++ bmV), ns_q18, qn_q18, hb_q18, sn_q18, su_q18, ab_q18, co_q18, false⟩, #[u0_TooMany, u1_TooMany, u2_TooMany, u3_TooMany, some (.builtin "ValueError.__new__"), u5_TooMany]⟩)
     (sp_ : PySem.W.specialIn K (.builtin "object.__class__") "__get__" = some (some (.builtin "getset_descriptor.__get__")))
     (tk_ : PySem.W.takesIn K (.builtin "object.__class__") = some true)
     (g_q11 : PySem.W.findIn K (.ref c_q11) "__getattribute__" = some (some (.builtin "BaseException.__getattribute__")))
     (h_q11 : PySem.W.findIn K (.ref c_q11) "__getattr__" = some none)
     (w_q11 : PySem.W.findIn K (.ref c_q11) "__class__" = some (some (.builtin "object.__class__")))
     (mo_q11 : PySem.W.mroIn K c_q11 (.type "object") = some true)
     (hd_q11 : PySem.W.hasDictIn K c_q11 = true)
     (sv_q11 : PySem.W.subIn K (.ref c_q11) (.type "ValueError") = some true)
     (s_q11_NoAsks : PySem.W.subIn K (.ref c_q11) (.ref c_q22) = some false)
     (ne_q11_NoAsks : (Value.ref c_q11 == Value.ref c_q22) = false)
     (s_q11_NoChange : PySem.W.subIn K (.ref c_q11) (.ref c_q9) = some false)
     (ne_q11_NoChange : (Value.ref c_q11 == Value.ref c_q9) = false)
     (s_q11_NoKeep : PySem.W.subIn K (.ref c_q11) (.ref c_q23) = some false)
     (ne_q11_NoKeep : (Value.ref c_q11 == Value.ref c_q23) = false)
     (s_q11_NoName : PySem.W.subIn K (.ref c_q11) (.ref c_q24) = some false)
     (ne_q11_NoName : (Value.ref c_q11 == Value.ref c_q24) = false)
     (s_q11_NoNumber : PySem.W.subIn K (.ref c_q11) (.ref c_q10) = some false)
     (ne_q11_NoNumber : (Value.ref c_q11 == Value.ref c_q10) = false)
     (s_q11_NoPlace : PySem.W.subIn K (.ref c_q11) (.ref c_q16) = some false)
     (ne_q11_NoPlace : (Value.ref c_q11 == Value.ref c_q16) = false)
     (s_q11_NoPointing : PySem.W.subIn K (.ref c_q11) (.ref c_q5) = some false)
     (ne_q11_NoPointing : (Value.ref c_q11 == Value.ref c_q5) = false)
     (s_q11_NoRow : PySem.W.subIn K (.ref c_q11) (.ref c_q32) = some false)
     (ne_q11_NoRow : (Value.ref c_q11 == Value.ref c_q32) = false)
     (s_q11_NoShare : PySem.W.subIn K (.ref c_q11) (.ref c_q17) = some false)
     (ne_q11_NoShare : (Value.ref c_q11 == Value.ref c_q17) = false)
     (s_q11_NoText : PySem.W.subIn K (.ref c_q11) (.ref c_q25) = some false)
     (ne_q11_NoText : (Value.ref c_q11 == Value.ref c_q25) = false)
     (s_q11_NoTree : PySem.W.subIn K (.ref c_q11) (.ref c_q26) = some false)
     (ne_q11_NoTree : (Value.ref c_q11 == Value.ref c_q26) = false)
     (s_q11_TooMany : PySem.W.subIn K (.ref c_q11) (.ref c_q18) = some false)
     (ne_q11_TooMany : (Value.ref c_q11 == Value.ref c_q18) = false)
     (g_q26 : PySem.W.findIn K (.ref c_q26) "__getattribute__" = some (some (.builtin "BaseException.__getattribute__")))
     (h_q26 : PySem.W.findIn K (.ref c_q26) "__getattr__" = some none)
     (w_q26 : PySem.W.findIn K (.ref c_q26) "__class__" = some (some (.builtin "object.__class__")))
     (mo_q26 : PySem.W.mroIn K c_q26 (.type "object") = some true)
     (hd_q26 : PySem.W.hasDictIn K c_q26 = true)
     (sv_q26 : PySem.W.subIn K (.ref c_q26) (.type "ValueError") = some true)
     (s_q26_NoAsks : PySem.W.subIn K (.ref c_q26) (.ref c_q22) = some false)
     (ne_q26_NoAsks : (Value.ref c_q26 == Value.ref c_q22) = false)
     (s_q26_NoChange : PySem.W.subIn K (.ref c_q26) (.ref c_q9) = some false)
     (ne_q26_NoChange : (Value.ref c_q26 == Value.ref c_q9) = false)
     (s_q26_NoKeep : PySem.W.subIn K (.ref c_q26) (.ref c_q23) = some false)
     (ne_q26_NoKeep : (Value.ref c_q26 == Value.ref c_q23) = false)
     (s_q26_NoName : PySem.W.subIn K (.ref c_q26) (.ref c_q24) = some false)
     (ne_q26_NoName : (Value.ref c_q26 == Value.ref c_q24) = false)
     (s_q26_NoNumber : PySem.W.subIn K (.ref c_q26) (.ref c_q10) = some false)
     (ne_q26_NoNumber : (Value.ref c_q26 == Value.ref c_q10) = false)
     (s_q26_NoPlace : PySem.W.subIn K (.ref c_q26) (.ref c_q16) = some false)
     (ne_q26_NoPlace : (Value.ref c_q26 == Value.ref c_q16) = false)
     (s_q26_NoPointing : PySem.W.subIn K (.ref c_q26) (.ref c_q5) = some false)
     (ne_q26_NoPointing : (Value.ref c_q26 == Value.ref c_q5) = false)
     (s_q26_NoPrices : PySem.W.subIn K (.ref c_q26) (.ref c_q11) = some false)
     (ne_q26_NoPrices : (Value.ref c_q26 == Value.ref c_q11) = false)
     (s_q26_NoRow : PySem.W.subIn K (.ref c_q26) (.ref c_q32) = some false)
     (ne_q26_NoRow : (Value.ref c_q26 == Value.ref c_q32) = false)
     (s_q26_NoShare : PySem.W.subIn K (.ref c_q26) (.ref c_q17) = some false)
     (ne_q26_NoShare : (Value.ref c_q26 == Value.ref c_q17) = false)
     (s_q26_NoText : PySem.W.subIn K (.ref c_q26) (.ref c_q25) = some false)
     (ne_q26_NoText : (Value.ref c_q26 == Value.ref c_q25) = false)
     (s_q26_TooMany : PySem.W.subIn K (.ref c_q26) (.ref c_q18) = some false)
     (ne_q26_TooMany : (Value.ref c_q26 == Value.ref c_q18) = false)
     (y_q22 : PySem.W.typeIn K (.ref c_q22) = some (.type "type"))
     (y_q9 : PySem.W.typeIn K (.ref c_q9) = some (.type "type"))
     (y_q23 : PySem.W.typeIn K (.ref c_q23) = some (.type "type"))
     (y_q24 : PySem.W.typeIn K (.ref c_q24) = some (.type "type"))
     (y_q10 : PySem.W.typeIn K (.ref c_q10) = some (.type "type"))
     (y_q16 : PySem.W.typeIn K (.ref c_q16) = some (.type "type"))
     (y_q5 : PySem.W.typeIn K (.ref c_q5) = some (.type "type"))
     (y_q11 : PySem.W.typeIn K (.ref c_q11) = some (.type "type"))
     (y_q32 : PySem.W.typeIn K (.ref c_q32) = some (.type "type"))
     (y_q17 : PySem.W.typeIn K (.ref c_q17) = some (.type "type"))
     (y_q25 : PySem.W.typeIn K (.ref c_q25) = some (.type "type"))
     (y_q26 : PySem.W.typeIn K (.ref c_q26) = some (.type "type"))
     (y_q18 : PySem.W.typeIn K (.ref c_q18) = some (.type "type"))
    {odi_q11 ani_q11 : Option Addr} {sli_q11 : Array (Option Value)} {oci_q11 kVi_q11 dci_q11 pmi_q11 cdi_q11 cti_q11 : Value} (li_q11 : K.lookup n_q11 = some ⟨oci_q11, odi_q11, .func (PySem.W.fnOf "__init__" "NoPrices.__init__" (defArgs (inClass (top 5) 0)) (defBody (inClass (top 5) 0)) (defScope (inClass (top 5) 0)) .none kVi_q11 dci_q11 pmi_q11 ani_q11 cdi_q11 cti_q11), sli_q11⟩)
     (ci_q11 : PySem.W.codeIn K cdi_q11 "NoPrices.__init__" = true)
     (ki_q11 : PySem.W.keepIn K (.ref n_q11) = true)
     (fi_q11 : PySem.W.typeIn K (.ref n_q11) = some (.type "function"))
     (kc_q11 : PySem.W.keepIn K (.ref c_q11) = true)
     (sa_q11 : PySem.W.findIn K (.ref c_q11) "__setattr__" = some (some (.builtin "object.__setattr__")))
     (at_q11_number : PySem.W.findIn K (.ref c_q11) "number" = some none)
    {odi_q26 ani_q26 : Option Addr} {sli_q26 : Array (Option Value)} {oci_q26 kVi_q26 dci_q26 pmi_q26 cdi_q26 cti_q26 : Value} (li_q26 : K.lookup n_q26 = some ⟨oci_q26, odi_q26, .func (PySem.W.fnOf "__init__" "NoTree.__init__" (defArgs (inClass (top 2) 0)) (defBody (inClass (top 2) 0)) (defScope (inClass (top 2) 0)) .none kVi_q26 dci_q26 pmi_q26 ani_q26 cdi_q26 cti_q26), sli_q26⟩)
     (ci_q26 : PySem.W.codeIn K cdi_q26 "NoTree.__init__" = true)
     (ki_q26 : PySem.W.keepIn K (.ref n_q26) = true)
     (fi_q26 : PySem.W.typeIn K (.ref n_q26) = some (.type "function"))
     (kc_q26 : PySem.W.keepIn K (.ref c_q26) = true)
     (sa_q26 : PySem.W.findIn K (.ref c_q26) "__setattr__" = some (some (.builtin "object.__setattr__")))
     (at_q26_part : PySem.W.findIn K (.ref c_q26) "part" = some none)
     (at_q26_number : PySem.W.findIn K (.ref c_q26) "number" = some none)
     (rb_q8 : PySem.W.readsIn K c_q8 (.type "type") = true)
     (fb_q8 : PySem.W.findCls K (.ref c_q8) (.type "type") "__init__" = some (.val (.builtin "ValueError.__init__")))
     (gb_q8 : PySem.W.specialIn K (.ref c_q8) "__getattribute__" = some (some (.builtin "type.__getattribute__")))
    : ∃ fd : FuncData, (∀ (s : Shared) (v : Value), BindsTo s fd ⟨[v], []⟩ [("_law_script", v)]) ∧ ∀ base : Heap, K.In base → base.Ns mainGlobals mg → FnOk l.prog w K mg base CX0 6 fa fd ["_law_script"] (spLaw K) := by
  have e := hfa.symm.trans (PySem.W.mg_of X G a_law)
  cases e
  have F_q13 := fun_mk (st := s_q13) l_q13 c_q13 k_q13
  have b_q13 := F_q13.binds (ps := ["thing"]) fun _ _ _ _ _ _ us hl => us1 (fun _ => rfl) us hl
  have F_q6 := fun_mk (st := s_q6) l_q6 c_q6 k_q6
  have b_q6 := F_q6.binds (ps := ["thing", "least", "most"]) fun _ _ _ _ _ _ us hl => us3 (fun _ _ _ => rfl) us hl
  have F_q0 := fun_mk (st := s_q0) l_q0 c_q0 k_q0
  have b_q0 := F_q0.binds (ps := ["number", "bottom"]) fun _ _ _ _ _ _ us hl => us2 (fun _ _ => rfl) us hl
  have F_q4 := fun_mk (st := s_q4) l_q4 c_q4 k_q4
  have b_q4 := F_q4.binds (ps := ["thing"]) fun _ _ _ _ _ _ us hl => us1 (fun _ => rfl) us hl
  have F_q2 := fun_mk (st := s_q2) l_q2 c_q2 k_q2
  have b_q2 := F_q2.binds (ps := ["thing"]) fun _ _ _ _ _ _ us hl => us1 (fun _ => rfl) us hl
  have F_q3 := fun_mk (st := s_q3) l_q3 c_q3 k_q3
  have b_q3 := F_q3.binds (ps := ["thing"]) fun _ _ _ _ _ _ us hl => us1 (fun _ => rfl) us hl
  have F_q12 := fun_mk (st := s_q12) l_q12 c_q12 k_q12
  have b_q12 := F_q12.binds (ps := ["thing"]) fun _ _ _ _ _ _ us hl => us1 (fun _ => rfl) us hl
  have F_q1 := fun_mk (st := s_q1) l_q1 c_q1 k_q1
  have b_q1 := F_q1.binds (ps := ["tree", "thing"]) fun _ _ _ _ _ _ us hl => us2 (fun _ _ => rfl) us hl
  have F_q27 := fun_mk (st := s_q27) l_q27 c_q27 k_q27
  have b_q27 := F_q27.binds (ps := ["_law_script", "_law_k"]) fun _ _ _ _ _ _ us hl => us2 (fun _ _ => rfl) us hl
  have F_q15 := fun_mk (st := s_q15) l_q15 c_q15 k_q15
  have b_q15 := F_q15.binds (ps := ["_law_cell_here", "_law_k"]) fun _ _ _ _ _ _ us hl => us2 (fun _ _ => rfl) us hl
  have F_q28 := fun_mk (st := s_q28) l_q28 c_q28 k_q28
  have b_q28 := F_q28.binds (ps := ["_law_source_here", "_law_many"]) fun _ _ _ _ _ _ us hl => us2 (fun _ _ => rfl) us hl
  have F_q31 := fun_mk (st := s_q31) l_q31 c_q31 k_q31
  have b_q31 := F_q31.binds (ps := ["_law_source_here", "_law_most"]) fun _ _ _ _ _ _ us hl => us2 (fun _ _ => rfl) us hl
  have F_q14 := fun_mk (st := s_q14) l_q14 c_q14 k_q14
  have b_q14 := F_q14.binds (ps := ["_law_top", "_law_bottom"]) fun _ _ _ _ _ _ us hl => us2 (fun _ _ => rfl) us hl
  have F_q19 := fun_mk (st := s_q19) l_q19 c_q19 k_q19
  have b_q19 := F_q19.binds (ps := ["_law_source_here"]) fun _ _ _ _ _ _ us hl => us1 (fun _ => rfl) us hl
  have F_q34 := fun_mk (st := s_q34) l_q34 c_q34 k_q34
  have b_q34 := F_q34.binds (ps := ["_law_source_here"]) fun _ _ _ _ _ _ us hl => us1 (fun _ => rfl) us hl
  have F_q20 := fun_mk (st := s_q20) l_q20 c_q20 k_q20
  have b_q20 := F_q20.binds (ps := ["_law_many", "_law_source_here"]) fun _ _ _ _ _ _ us hl => us2 (fun _ _ => rfl) us hl
  have F_q21 := fun_mk (st := s_q21) l_q21 c_q21 k_q21
  have b_q21 := F_q21.binds (ps := ["_law_thing_here"]) fun _ _ _ _ _ _ us hl => us1 (fun _ => rfl) us hl
  have F_q7 := fun_mk (st := s_q7) l_q7 c_q7 k_q7
  have b_q7 := F_q7.binds (ps := ["_law_thing_here"]) fun _ _ _ _ _ _ us hl => us1 (fun _ => rfl) us hl
  have F_q33 := fun_mk (st := s_q33) l_q33 c_q33 k_q33
  have b_q33 := F_q33.binds (ps := ["_law_many", "_law_thing_here"]) fun _ _ _ _ _ _ us hl => us2 (fun _ _ => rfl) us hl
  have F_q29 := fun_mk (st := s_q29) l_q29 c_q29 k_q29
  have b_q29 := F_q29.binds (ps := ["_law_e"]) fun _ _ _ _ _ _ us hl => us1 (fun _ => rfl) us hl
  have F_q30 := fun_mk (st := s_q30) l_q30 c_q30 k_q30
  have b_q30 := F_q30.binds (ps := ["_law_tree_here", "_law_thing_here"]) fun _ _ _ _ _ _ us hl => us2 (fun _ _ => rfl) us hl
  have F_law := fun_mk (st := s_law) l_law c_law k_law
  have b_law := F_law.binds (ps := ["_law_script"]) fun _ _ _ _ _ _ us hl => us1 (fun _ => rfl) us hl
  have I_q11 := fun_mk (st := inClass (top 5) 0) li_q11 ci_q11 ki_q11
  have bi_q11 := I_q11.binds (ps := ["self", "number"]) fun _ _ _ _ _ _ us hl => us2 (fun _ _ => rfl) us hl
  have I_q26 := fun_mk (st := inClass (top 2) 0) li_q26 ci_q26 ki_q26
  have bi_q26 := I_q26.binds (ps := ["self", "part", "number"]) fun _ _ _ _ _ _ us hl => us3 (fun _ _ _ => rfl) us hl
  have T : Txt K mg ⟨f_q13, _, f_q6, _, f_q0, _, f_q4, _, f_q2, _, f_q3, _, f_q12, _, f_q1, _, f_q27, _, f_q15, _, f_q28, _, f_q31, _, f_q14, _, f_q19, _, f_q34, _, f_q20, _, f_q21, _, f_q7, _, f_q33, _, f_q29, _, f_q30, _, fa, _, c_q8, c_q22, c_q9, c_q23, c_q24, c_q10, c_q16, c_q5, c_q11, c_q32, c_q17, c_q25, c_q26, c_q18, n_q11, n_q26, _, _⟩ := ⟨F_q13, b_q13, k_q13, PySem.W.mg_of X G a_q13, F_q6, b_q6, k_q6, PySem.W.mg_of X G a_q6, F_q0, b_q0, k_q0, PySem.W.mg_of X G a_q0, F_q4, b_q4, k_q4, PySem.W.mg_of X G a_q4, F_q2, b_q2, k_q2, PySem.W.mg_of X G a_q2, F_q3, b_q3, k_q3, PySem.W.mg_of X G a_q3, F_q12, b_q12, k_q12, PySem.W.mg_of X G a_q12, F_q1, b_q1, k_q1, PySem.W.mg_of X G a_q1, F_q27, b_q27, k_q27, PySem.W.mg_of X G a_q27, F_q15, b_q15, k_q15, PySem.W.mg_of X G a_q15, F_q28, b_q28, k_q28, PySem.W.mg_of X G a_q28, F_q31, b_q31, k_q31, PySem.W.mg_of X G a_q31, F_q14, b_q14, k_q14, PySem.W.mg_of X G a_q14, F_q19, b_q19, k_q19, PySem.W.mg_of X G a_q19, F_q34, b_q34, k_q34, PySem.W.mg_of X G a_q34, F_q20, b_q20, k_q20, PySem.W.mg_of X G a_q20, F_q21, b_q21, k_q21, PySem.W.mg_of X G a_q21, F_q7, b_q7, k_q7, PySem.W.mg_of X G a_q7, F_q33, b_q33, k_q33, PySem.W.mg_of X G a_q33, F_q29, b_q29, k_q29, PySem.W.mg_of X G a_q29, F_q30, b_q30, k_q30, PySem.W.mg_of X G a_q30, F_law, b_law, k_law, PySem.W.mg_of X G a_law, PySem.W.mg_none_of X G z_ValueError, PySem.W.mg_none_of X G z_abs, PySem.W.mg_none_of X G z_bool, PySem.W.mg_none_of X G z_enumerate, PySem.W.mg_none_of X G z_int, PySem.W.mg_none_of X G z_isinstance, PySem.W.mg_none_of X G z_len, PySem.W.mg_none_of X G z_list, PySem.W.mg_none_of X G z_max, PySem.W.mg_none_of X G z_min, PySem.W.mg_none_of X G z_range, PySem.W.mg_none_of X G z_tuple, ⟨_, PySem.W.mg_of X G c_MOST_TIES⟩, ⟨_, PySem.W.mg_of X G c_MOST_ROOM⟩, PySem.W.mg_of X G e_q8, PySem.W.mg_of X G e_q22, PySem.W.mg_of X G e_q9, PySem.W.mg_of X G e_q23, PySem.W.mg_of X G e_q24, PySem.W.mg_of X G e_q10, PySem.W.mg_of X G e_q16, PySem.W.mg_of X G e_q5, PySem.W.mg_of X G e_q11, PySem.W.mg_of X G e_q32, PySem.W.mg_of X G e_q17, PySem.W.mg_of X G e_q25, PySem.W.mg_of X G e_q26, PySem.W.mg_of X G e_q18, (xc_mk l_q8 (nsOk_mk n_q8' q_q8) t_q8 tail_bm), (xc_mk l_q11 (nsOk_mk n_q11' q_q11) t_q11 (tail_mk l_q8 (nsOk_mk n_q8' q_q8) t_q8 tail_bm)), (xc_mk l_q26 (nsOk_mk n_q26' q_q26) t_q26 (tail_mk l_q8 (nsOk_mk n_q8' q_q8) t_q8 tail_bm)), (xcOk_mk g_q11 h_q11 w_q11 sp_ tk_ mo_q11 hd_q11), (kit_val sv_q11), (kit_own l_q22 y_q22 s_q11_NoAsks (.inr ne_q11_NoAsks)), (kit_own l_q9 y_q9 s_q11_NoChange (.inr ne_q11_NoChange)), (kit_own l_q23 y_q23 s_q11_NoKeep (.inr ne_q11_NoKeep)), (kit_own l_q24 y_q24 s_q11_NoName (.inr ne_q11_NoName)), (kit_own l_q10 y_q10 s_q11_NoNumber (.inr ne_q11_NoNumber)), (kit_own l_q16 y_q16 s_q11_NoPlace (.inr ne_q11_NoPlace)), (kit_own l_q5 y_q5 s_q11_NoPointing (.inr ne_q11_NoPointing)), (kit_own l_q32 y_q32 s_q11_NoRow (.inr ne_q11_NoRow)), (kit_own l_q17 y_q17 s_q11_NoShare (.inr ne_q11_NoShare)), (kit_own l_q25 y_q25 s_q11_NoText (.inr ne_q11_NoText)), (kit_own l_q26 y_q26 s_q11_NoTree (.inr ne_q11_NoTree)), (kit_own l_q18 y_q18 s_q11_TooMany (.inr ne_q11_TooMany)), (xcOk_mk g_q26 h_q26 w_q26 sp_ tk_ mo_q26 hd_q26), (kit_val sv_q26), (kit_own l_q22 y_q22 s_q26_NoAsks (.inr ne_q26_NoAsks)), (kit_own l_q9 y_q9 s_q26_NoChange (.inr ne_q26_NoChange)), (kit_own l_q23 y_q23 s_q26_NoKeep (.inr ne_q26_NoKeep)), (kit_own l_q24 y_q24 s_q26_NoName (.inr ne_q26_NoName)), (kit_own l_q10 y_q10 s_q26_NoNumber (.inr ne_q26_NoNumber)), (kit_own l_q16 y_q16 s_q26_NoPlace (.inr ne_q26_NoPlace)), (kit_own l_q5 y_q5 s_q26_NoPointing (.inr ne_q26_NoPointing)), (kit_own l_q11 y_q11 s_q26_NoPrices (.inr ne_q26_NoPrices)), (kit_own l_q32 y_q32 s_q26_NoRow (.inr ne_q26_NoRow)), (kit_own l_q17 y_q17 s_q26_NoShare (.inr ne_q26_NoShare)), (kit_own l_q25 y_q25 s_q26_NoText (.inr ne_q26_NoText)), (kit_own l_q18 y_q18 s_q26_TooMany (.inr ne_q26_TooMany)), I_q11, bi_q11, fi_q11, kc_q11, ⟨sa_q11, at_q11_number⟩, I_q26, bi_q26, fi_q26, kc_q26, ⟨sa_q26, at_q26_part⟩, ⟨sa_q26, at_q26_number⟩, ⟨rb_q8, fb_q8, gb_q8⟩⟩
  exact ⟨PySem.W.fnOf "law" "law" (defArgs s_law) (defBody s_law) (defScope s_law) .none kV_law dc_law pm_law an_law cd_law ct_law, fun s v => .of_eq rfl, fun base _ _ => (ok_law T).imp fun _ _ _ _ h => spLaw_of h⟩
theorem walk {l : PySem.W.OpenLaw} {q : Program} {loose : List Str} {XP : (Str → Option Value) → Heap → Prop} {YP : World → Heap → Prop} {d : DefRec} {K : Params → PySem.W.Frag} (hn : l.most = some 63) (hdf : d.params.defaults = [])
    (hY : ∀ (w : World) (h : Heap), YP w h → (K w.params).In h)
    (F : ∀ (w : World) (mg : Str → Option Value) (fa : Addr) (h : Heap), (K w.params).In h → h.Ns mainGlobals mg → mg d.name = some (.ref fa) →
      ∃ fd : FuncData, (∀ (s : Shared) (u : Value), BindsTo s fd ⟨[u], []⟩ [("_law_script", u)]) ∧ ∀ base : Heap, (K w.params).In base → base.Ns mainGlobals mg → FnOk l.prog w (K w.params) mg base CX0 6 fa fd ["_law_script"] (spLaw (K w.params))) :
    PySem.W.WalkO q loose XP YP l.row.toRowW d [] (fun f vs => PySem.call f vs) :=
  L2.walk_of (n := 63) (k := 6) (x := "_law_script") (CX := fun _ => CX0) (sp := fun w => spLaw (K w.params)) hn (by decide) hdf ⟨rfl, by decide, by decide, rfl⟩ hY F (fun _ _ a ns hl hO hS => ⟨a, ns, rfl, hO, hS, hl, fun _ => rfl⟩) fun _ _ _ _ _ z => z
end K23
open PySem PySem.W PyProof.Rows
set_option maxRecDepth 100000 in
theorem PySem.Challenge.cw_treeasks_k23_what_are_prices_holds : PySem.Challenge.rw_treeasks_k23_what_are_prices.Holds := by
  w_on; o_law; k_head; (case hw => w_witness2)
  k_fill
  refine K23.walk (l := PySem.Challenge.rw_treeasks_k23_what_are_prices) rfl rfl (fun w h Y => PySem.W.kIn_of Y) ?F
  case F =>
    intro w mg fa h KX G hmg
    refine' K23.all_mk KX G hmg ?a_q13 ?l_q13 ?c_q13 ?k_q13 ?a_q6 ?l_q6 ?c_q6 ?k_q6 ?a_q0 ?l_q0 ?c_q0 ?k_q0 ?a_q4 ?l_q4 ?c_q4 ?k_q4 ?a_q2 ?l_q2 ?c_q2 ?k_q2 ?a_q3 ?l_q3 ?c_q3 ?k_q3 ?a_q12 ?l_q12 ?c_q12 ?k_q12 ?a_q1 ?l_q1 ?c_q1 ?k_q1 ?a_q27 ?l_q27 ?c_q27 ?k_q27 ?a_q15 ?l_q15 ?c_q15 ?k_q15 ?a_q28 ?l_q28 ?c_q28 ?k_q28 ?a_q31 ?l_q31 ?c_q31 ?k_q31 ?a_q14 ?l_q14 ?c_q14 ?k_q14 ?a_q19 ?l_q19 ?c_q19 ?k_q19 ?a_q34 ?l_q34 ?c_q34 ?k_q34 ?a_q20 ?l_q20 ?c_q20 ?k_q20 ?a_q21 ?l_q21 ?c_q21 ?k_q21 ?a_q7 ?l_q7 ?c_q7 ?k_q7 ?a_q33 ?l_q33 ?c_q33 ?k_q33 ?a_q29 ?l_q29 ?c_q29 ?k_q29 ?a_q30 ?l_q30 ?c_q30 ?k_q30 ?a_law ?l_law ?c_law ?k_law ?c_MOST_TIES ?c_MOST_ROOM ?z_ValueError ?z_abs ?z_bool ?z_enumerate ?z_int ?z_isinstance ?z_len ?z_list ?z_max ?z_min ?z_range ?z_tuple ?e_q8 ?e_q22 ?e_q9 ?e_q23 ?e_q24 ?e_q10 ?e_q16 ?e_q5 ?e_q11 ?e_q32 ?e_q17 ?e_q25 ?e_q26 ?e_q18 ?l_q8 ?n_q8' ?q_q8 ?t_q8 ?l_q22 ?l_q9 ?l_q23 ?l_q24 ?l_q10 ?l_q16 ?l_q5 ?l_q11 ?n_q11' ?q_q11 ?t_q11 ?l_q32 ?l_q17 ?l_q25 ?l_q26 ?n_q26' ?q_q26 ?t_q26 ?l_q18 ?sp_ ?tk_ ?g_q11 ?h_q11 ?w_q11 ?mo_q11 ?hd_q11 ?sv_q11 ?s_q11_NoAsks ?ne_q11_NoAsks ?s_q11_NoChange ?ne_q11_NoChange ?s_q11_NoKeep ?ne_q11_NoKeep ?s_q11_NoName ?ne_q11_NoName ?s_q11_NoNumber ?ne_q11_NoNumber ?s_q11_NoPlace ?ne_q11_NoPlace ?s_q11_NoPointing ?ne_q11_NoPointing ?s_q11_NoRow ?ne_q11_NoRow ?s_q11_NoShare ?ne_q11_NoShare ?s_q11_NoText ?ne_q11_NoText ?s_q11_NoTree ?ne_q11_NoTree ?s_q11_TooMany ?ne_q11_TooMany ?g_q26 ?h_q26 ?w_q26 ?mo_q26 ?hd_q26 ?sv_q26 ?s_q26_NoAsks ?ne_q26_NoAsks ?s_q26_NoChange ?ne_q26_NoChange ?s_q26_NoKeep ?ne_q26_NoKeep ?s_q26_NoName ?ne_q26_NoName ?s_q26_NoNumber ?ne_q26_NoNumber ?s_q26_NoPlace ?ne_q26_NoPlace ?s_q26_NoPointing ?ne_q26_NoPointing ?s_q26_NoPrices ?ne_q26_NoPrices ?s_q26_NoRow ?ne_q26_NoRow ?s_q26_NoShare ?ne_q26_NoShare ?s_q26_NoText ?ne_q26_NoText ?s_q26_TooMany ?ne_q26_TooMany ?y_q22 ?y_q9 ?y_q23 ?y_q24 ?y_q10 ?y_q16 ?y_q5 ?y_q11 ?y_q32 ?y_q17 ?y_q25 ?y_q26 ?y_q18 ?li_q11 ?ci_q11 ?ki_q11 ?fi_q11 ?kc_q11 ?sa_q11 ?at_q11_number ?li_q26 ?ci_q26 ?ki_q26 ?fi_q26 ?kc_q26 ?sa_q26 ?at_q26_part ?at_q26_number ?rb_q8 ?fb_q8 ?gb_q8
    (case a_q13 => k_is)
    (case l_q13 => k_is)
    (case c_q13 => k_is)
    (case k_q13 => k_is)
    (case a_q6 => k_is)
    (case l_q6 => k_is)
    (case c_q6 => k_is)
    (case k_q6 => k_is)
    (case a_q0 => k_is)
    (case l_q0 => k_is)
    (case c_q0 => k_is)
    (case k_q0 => k_is)
    (case a_q4 => k_is)
    (case l_q4 => k_is)
    (case c_q4 => k_is)
    (case k_q4 => k_is)
    (case a_q2 => k_is)
    (case l_q2 => k_is)
    (case c_q2 => k_is)
    (case k_q2 => k_is)
    (case a_q3 => k_is)
    (case l_q3 => k_is)
    (case c_q3 => k_is)
    (case k_q3 => k_is)
    (case a_q12 => k_is)
    (case l_q12 => k_is)
    (case c_q12 => k_is)
    (case k_q12 => k_is)
    (case a_q1 => k_is)
    (case l_q1 => k_is)
    (case c_q1 => k_is)
    (case k_q1 => k_is)
    (case a_q27 => k_is)
    (case l_q27 => k_is)
    (case c_q27 => k_is)
    (case k_q27 => k_is)
    (case a_q15 => k_is)
    (case l_q15 => k_is)
    (case c_q15 => k_is)
    (case k_q15 => k_is)
    (case a_q28 => k_is)
    (case l_q28 => k_is)
    (case c_q28 => k_is)
    (case k_q28 => k_is)
    (case a_q31 => k_is)
    (case l_q31 => k_is)
    (case c_q31 => k_is)
    (case k_q31 => k_is)
    (case a_q14 => k_is)
    (case l_q14 => k_is)
    (case c_q14 => k_is)
    (case k_q14 => k_is)
    (case a_q19 => k_is)
    (case l_q19 => k_is)
    (case c_q19 => k_is)
    (case k_q19 => k_is)
    (case a_q34 => k_is)
    (case l_q34 => k_is)
    (case c_q34 => k_is)
    (case k_q34 => k_is)
    (case a_q20 => k_is)
    (case l_q20 => k_is)
    (case c_q20 => k_is)
    (case k_q20 => k_is)
    (case a_q21 => k_is)
    (case l_q21 => k_is)
    (case c_q21 => k_is)
    (case k_q21 => k_is)
    (case a_q7 => k_is)
    (case l_q7 => k_is)
    (case c_q7 => k_is)
    (case k_q7 => k_is)
    (case a_q33 => k_is)
    (case l_q33 => k_is)
    (case c_q33 => k_is)
    (case k_q33 => k_is)
    (case a_q29 => k_is)
    (case l_q29 => k_is)
    (case c_q29 => k_is)
    (case k_q29 => k_is)
    (case a_q30 => k_is)
    (case l_q30 => k_is)
    (case c_q30 => k_is)
    (case k_q30 => k_is)
    (case a_law => k_is)
    (case l_law => k_is)
    (case c_law => k_is)
    (case k_law => k_is)
    (case c_MOST_TIES => k_is)
    (case c_MOST_ROOM => k_is)
    (case z_ValueError => k_is)
    (case z_abs => k_is)
    (case z_bool => k_is)
    (case z_enumerate => k_is)
    (case z_int => k_is)
    (case z_isinstance => k_is)
    (case z_len => k_is)
    (case z_list => k_is)
    (case z_max => k_is)
    (case z_min => k_is)
    (case z_range => k_is)
    (case z_tuple => k_is)
    (case e_q8 => k_is)
    (case e_q22 => k_is)
    (case e_q9 => k_is)
    (case e_q23 => k_is)
    (case e_q24 => k_is)
    (case e_q10 => k_is)
    (case e_q16 => k_is)
    (case e_q5 => k_is)
    (case e_q11 => k_is)
    (case e_q32 => k_is)
    (case e_q17 => k_is)
    (case e_q25 => k_is)
    (case e_q26 => k_is)
    (case e_q18 => k_is)
    (case l_q8 => k_is)
    (case n_q8' => k_is)
    (case q_q8 => (rw [← Array.all_toList]; rfl))
    (case t_q8 => k_is)
    (case l_q22 => k_is)
    (case l_q9 => k_is)
    (case l_q23 => k_is)
    (case l_q24 => k_is)
    (case l_q10 => k_is)
    (case l_q16 => k_is)
    (case l_q5 => k_is)
    (case l_q11 => k_is)
    (case n_q11' => k_is)
    (case q_q11 => (rw [← Array.all_toList]; rfl))
    (case t_q11 => k_is)
    (case l_q32 => k_is)
    (case l_q17 => k_is)
    (case l_q25 => k_is)
    (case l_q26 => k_is)
    (case n_q26' => k_is)
    (case q_q26 => (rw [← Array.all_toList]; rfl))
    (case t_q26 => k_is)
    (case l_q18 => k_is)
    (case sp_ => k_is)
    (case tk_ => k_is)
    (case g_q11 => k_is)
    (case h_q11 => k_is)
    (case w_q11 => k_is)
    (case mo_q11 => k_is)
    (case hd_q11 => k_is)
    (case sv_q11 => k_is)
    (case s_q11_NoAsks => k_is)
    (case ne_q11_NoAsks => rfl)
    (case s_q11_NoChange => k_is)
    (case ne_q11_NoChange => rfl)
    (case s_q11_NoKeep => k_is)
    (case ne_q11_NoKeep => rfl)
    (case s_q11_NoName => k_is)
    (case ne_q11_NoName => rfl)
    (case s_q11_NoNumber => k_is)
    (case ne_q11_NoNumber => rfl)
    (case s_q11_NoPlace => k_is)
    (case ne_q11_NoPlace => rfl)
    (case s_q11_NoPointing => k_is)
    (case ne_q11_NoPointing => rfl)
    (case s_q11_NoRow => k_is)
    (case ne_q11_NoRow => rfl)
    (case s_q11_NoShare => k_is)
    (case ne_q11_NoShare => rfl)
    (case s_q11_NoText => k_is)
    (case ne_q11_NoText => rfl)
    (case s_q11_NoTree => k_is)
    (case ne_q11_NoTree => rfl)
    (case s_q11_TooMany => k_is)
    (case ne_q11_TooMany => rfl)
    (case g_q26 => k_is)
    (case h_q26 => k_is)
    (case w_q26 => k_is)
    (case mo_q26 => k_is)
    (case hd_q26 => k_is)
    (case sv_q26 => k_is)
    (case s_q26_NoAsks => k_is)
    (case ne_q26_NoAsks => rfl)
    (case s_q26_NoChange => k_is)
    (case ne_q26_NoChange => rfl)
    (case s_q26_NoKeep => k_is)
    (case ne_q26_NoKeep => rfl)
    (case s_q26_NoName => k_is)
    (case ne_q26_NoName => rfl)
    (case s_q26_NoNumber => k_is)
    (case ne_q26_NoNumber => rfl)
    (case s_q26_NoPlace => k_is)
    (case ne_q26_NoPlace => rfl)
    (case s_q26_NoPointing => k_is)
    (case ne_q26_NoPointing => rfl)
    (case s_q26_NoPrices => k_is)
    (case ne_q26_NoPrices => rfl)
    (case s_q26_NoRow => k_is)
    (case ne_q26_NoRow => rfl)
    (case s_q26_NoShare => k_is)
    (case ne_q26_NoShare => rfl)
    (case s_q26_NoText => k_is)
    (case ne_q26_NoText => rfl)
    (case s_q26_TooMany => k_is)
    (case ne_q26_TooMany => rfl)
    (case y_q22 => k_is)
    (case y_q9 => k_is)
    (case y_q23 => k_is)
    (case y_q24 => k_is)
    (case y_q10 => k_is)
    (case y_q16 => k_is)
    (case y_q5 => k_is)
    (case y_q11 => k_is)
    (case y_q32 => k_is)
    (case y_q17 => k_is)
    (case y_q25 => k_is)
    (case y_q26 => k_is)
    (case y_q18 => k_is)
    (case li_q11 => k_is)
    (case ci_q11 => k_is)
    (case ki_q11 => k_is)
    (case fi_q11 => k_is)
    (case kc_q11 => k_is)
    (case sa_q11 => k_is)
    (case at_q11_number => k_is)
    (case li_q26 => k_is)
    (case ci_q26 => k_is)
    (case ki_q26 => k_is)
    (case fi_q26 => k_is)
    (case kc_q26 => k_is)
    (case sa_q26 => k_is)
    (case at_q26_part => k_is)
    (case at_q26_number => k_is)
    (case rb_q8 => k_is)
    (case fb_q8 => k_is)
    (case gb_q8 => k_is)
end
