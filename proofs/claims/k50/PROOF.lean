import PyProof.Rows.All
import Wide.All
import OpenK.AllK
import Wide.FinOn
import Lean
import PyProof.EqAt
import PyProof.EqKinds
import PyProof.TupleCall
import PyProof.Rows.ListRangeD
import KE.LcSums
import KE.KRevSl
import PyProof.Rows.SetFrom
import PySem.Challenge.RW_treeasks_k50_whole_lines_and_stars
set_option Elab.async false
set_option linter.all false
set_option maxRecDepth 100000
set_option genSizeOf false
set_option maxHeartbeats 4000000
set_option exponentiation.threshold 9000
noncomputable section
theorem PySem.W.Fast.te17949810323775619304 : True := trivial
def PySem.W.Fast.tw17949810323775619304 : Nat := 0
theorem PySem.W.Fast.te14895556622072284003 : True := trivial
def PySem.W.Fast.tw14895556622072284003 : Nat := 0
def PySem.W.Fast.tw95170390684600498 : PySem.Program := PySem.Challenge.pw_treeasks_k50_whole_lines_and_stars
theorem PySem.W.Fast.te95170390684600498 : PySem.Challenge.pw_treeasks_k50_whole_lines_and_stars = PySem.W.Fast.tw95170390684600498 := rfl
namespace L2
open PySem PySem.Spec PyProof.Rows
abbrev Key := Sum Int Str
def keyIs : Key → Value → Bool
  | .inl k,v => Value.isInt k v
  | .inr x,v => Value.isStrOf x v
def keyH (w : World) : Key → Int
  | .inl k => hashInt k
  | .inr x => hashStr w x
theorem keyIs_shape : ∀ {k : Key} {v : Value},keyIs k v = true → (∃ i t,k = Sum.inl i ∧ v = Value.int i t) ∨ (∃ x t,k = Sum.inr x ∧ v = Value.str x t)
  | .inl i,v,h => by
    obtain ⟨t,e⟩ := Value.isInt_shape (k := i) (v := v) h
    exact .inl ⟨i,t,rfl,e⟩
  | .inr x,v,h => by
    obtain ⟨t,e⟩ := Value.isStrOf_shape (x := x) (v := v) h
    exact .inr ⟨x,t,rfl,e⟩
theorem keyIs_int (i : Int) (t : Tok) : keyIs (.inl i) (.int i t) = true := by simp [keyIs,Value.isInt]
theorem keyIs_str (x : Str) (t : Tok) : keyIs (.inr x) (.str x t) = true := by simp [keyIs,Value.isStrOf]
theorem key_ll (a b : Int) : decide ((Sum.inl a : Key) = Sum.inl b) = (a == b) := by
  by_cases e : a = b
  · subst e; simp
  · have h : ¬ (Sum.inl a : Key) = Sum.inl b := fun q => e (Sum.inl.inj q)
    rw [decide_eq_false h]
    exact (beq_eq_false_iff_ne.mpr e).symm
theorem key_rr (a b : Str) : decide ((Sum.inr a : Key) = Sum.inr b) = decide (a = b) := by
  by_cases e : a = b
  · subst e; simp
  · have h : ¬ (Sum.inr a : Key) = Sum.inr b := fun q => e (Sum.inr.inj q)
    rw [decide_eq_false h,decide_eq_false e]
theorem key_lr (a : Int) (b : Str) : decide ((Sum.inl a : Key) = Sum.inr b) = false := decide_eq_false (fun q => nomatch q)
theorem key_rl (a : Str) (b : Int) : decide ((Sum.inr a : Key) = Sum.inl b) = false := decide_eq_false (fun q => nomatch q)
def mixKind (prog : Program) (w : World) : PySem.KeyKind prog w Key where
  is := keyIs
  hash := keyH w
  inj := fun v a b ha hb => by
    rcases keyIs_shape ha with ⟨i,t,rfl,rfl⟩ | ⟨x,t,rfl,rfl⟩
    · rcases keyIs_shape hb with ⟨j,u,rfl,e⟩ | ⟨y,u,rfl,e⟩
      · injection e with e1 _; rw [e1]
      · exact nomatch e
    · rcases keyIs_shape hb with ⟨j,u,rfl,e⟩ | ⟨y,u,rfl,e⟩
      · exact nomatch e
      · injection e with e1 _; rw [e1]
  byValue := fun k v h => by
    rcases keyIs_shape h with ⟨i,t,rfl,rfl⟩ | ⟨x,t,rfl,rfl⟩ <;> rfl
  pyHash := fun hv h => by
    rcases keyIs_shape hv with ⟨i,t,rfl,rfl⟩ | ⟨x,t,rfl,rfl⟩
    · exact wpAny_pyHash_int h
    · exact wpAny_pyHash_str h
  eqBool := fun hu hv h => by
    rcases keyIs_shape hu with ⟨i,t,rfl,rfl⟩ | ⟨x,t,rfl,rfl⟩
    · rcases keyIs_shape hv with ⟨j,u,rfl,rfl⟩ | ⟨y,u,rfl,rfl⟩
      · rw [key_ll] at h; exact wpAny_eqBool_int h
      · rw [key_lr] at h; exact SeqAt.EqAt.int_str i t y u _ _ _ _ h
    · rcases keyIs_shape hv with ⟨j,u,rfl,rfl⟩ | ⟨y,u,rfl,rfl⟩
      · rw [key_rl] at h; exact SeqAt.EqAt.str_int x t j u _ _ _ _ h
      · rw [key_rr] at h; exact wpAny_eqBool_str h
  «strs» := fun k x t v h => by
    rcases keyIs_shape h with ⟨i,u,rfl,e⟩ | ⟨y,u,rfl,e⟩
    · exact nomatch e
    · injection e with e1 _
      subst e1
      cases v <;> rfl
theorem mixKind_int (prog : Program) (w : World) (i : Int) (t : Tok) : (mixKind prog w).is (.inl i) (.int i t) = true := keyIs_int i t
theorem mixKind_str (prog : Program) (w : World) (x : Str) (t : Tok) : (mixKind prog w).is (.inr x) (.str x t) = true := keyIs_str x t
inductive V where
  | non | bl (b : Bool) | int (i : Int) | str (x : Str) | byt (b : Array UInt8) | flt (b : UInt64) | ref (a : Addr) | ty (n : String)
  deriving DecidableEq
def RelV : V → Value → Prop
  | .non,u => u = Value.none
  | .bl b,u => u = Value.bool b
  | .int i,u => ∃ t,u = Value.int i t
  | .str x,u => ∃ t,u = Value.str x t
  | .byt b,u => ∃ t,u = Value.bytes b t
  | .flt b,u => ∃ t,u = Value.float b t
  | .ref a,u => u = Value.ref a
  | .ty n,u => u = Value.type n
abbrev Vals : List V → List Value → Prop := Paired RelV
theorem Vals.length {xs : List V} {us : List Value} (r : Vals xs us) : xs.length = us.length := Paired.length r
theorem Vals.get : ∀ {xs : List V} {us : List Value} {i : Nat} {x : V},Vals xs us → xs[i]? = some x → ∃ u,us[i]? = some u ∧ RelV x u
  | _,_,_,_,.nil,e => by simp at e
  | _,_,0,_,.cons r _,e => by simp at e; subst e; exact ⟨_,rfl,r⟩
  | _,_,i + 1,x,.cons _ t,e => by
    obtain ⟨u,h1,h2⟩ := Vals.get (i := i) (x := x) t (by simpa using e)
    exact ⟨u,by simpa using h1,h2⟩
theorem Vals.set {x : V} {u : Value} (r : RelV x u) : ∀ {xs : List V} {us : List Value} (i : Nat),Vals xs us → Vals (xs.set i x) (us.set i u)
  | _,_,_,.nil => .nil
  | _,_,0,.cons _ t => .cons r t
  | _,_,i + 1,.cons q t => .cons q (Vals.set r i t)
theorem Vals.append : ∀ {xs ys : List V} {us ws : List Value},Vals xs us → Vals ys ws → Vals (xs ++ ys) (us ++ ws)
  | _,_,_,_,.nil,s => s
  | _,_,_,_,.cons r t,s => .cons r (Vals.append t s)
theorem Vals.take : ∀ {xs : List V} {us : List Value} (n : Nat),Vals xs us → Vals (xs.take n) (us.take n)
  | _,_,0,_ => .nil
  | _,_,_ + 1,.nil => .nil
  | _,_,n + 1,.cons r t => .cons r (Vals.take n t)
theorem Vals.drop : ∀ {xs : List V} {us : List Value} (n : Nat),Vals xs us → Vals (xs.drop n) (us.drop n)
  | _,_,0,r => r
  | _,_,_ + 1,.nil => .nil
  | _,_,n + 1,.cons _ t => Vals.drop n t
def RelO : Option V → Option Value → Prop
  | some v,some u => RelV v u
  | none,none => True
  | _,_ => False
def KV {κ : Type} : List (κ × V) → List (κ × Value) → Prop := Paired fun (p : κ × V) (q : κ × Value) => p.1 = q.1 ∧ RelV p.2 q.2
def kV : Key → V
  | .inl i => .int i
  | .inr x => .str x
inductive HO where
  
  | lst (xs : List V)
  
  | tup (xs : List V)
  
  | dK (kvs : List (Key × V)) | dT (kvs : List (List Key × V))
  
  | set (S : Int → Bool) (n : Nat)
  
  | ins (C dx : Addr) (fs : List (Str × V))
  
  | own (x : Addr)
  
  | xd (fs : List (Str × V))
  
  | met (f x : Addr)
  
  | rng (lo hi : Int)
  
  | frz (o : Obj) (u : HO)
  
  | tbl (ps : Array Value)
  
  | ext (φ : Heap → Prop)
abbrev Hp := Addr → Option HO
def upd (H : Hp) (a : Addr) (o : HO) : Hp := fun b => if b = a then some o else H b
theorem upd_same {H : Hp} {a : Addr} {o : HO} : upd H a o a = some o := by unfold upd; rw [if_pos rfl]
theorem upd_ne {H : Hp} {a b : Addr} {o : HO} (h : b ≠ a) : upd H a o b = H b := by unfold upd; rw [if_neg h]
theorem ne_of {H : Hp} {a b : Addr} {o u : HO} (h : H a = some o) (h' : H b = some u) (d : o ≠ u) : a ≠ b := by
  intro e; subst e; rw [h] at h'; exact d (Option.some.inj h')
theorem ne_of_none {H : Hp} {a b : Addr} {o : HO} (h : H a = some o) (h' : H b = none) : a ≠ b := by
  intro e; subst e; rw [h] at h'; cases h'
section
variable (P : Program) (w : World)
def ObjOk (H : Hp) (h : Heap) (a : Addr) : HO → Prop
  | .lst xs => xs.length ≤ sizeLine ∧ ∃ (its : List Value) (n : Nat),Vals xs its ∧ h.get? a = some { cls := .type "list",data := .seq its.toArray n }
  | .tup xs => xs.length ≤ sizeLine ∧ ∃ its : List Value,Vals xs its ∧ IsTup h a its.toArray
  | .dK kvs => kvs.length ≤ sizeLine ∧ (a == sysModules) = false ∧ ∃ vs,KV kvs vs ∧ h.DictOf (mixKind P w) a vs
  | .dT kvs => kvs.length ≤ sizeLine ∧ (a == sysModules) = false ∧ ∃ xs : List (List Key × Addr × Value),
      Paired (fun (p : List Key × V) (q : List Key × Addr × Value) => p.1 = q.1 ∧ H q.2.1 = some (.tup (p.1.map kV)) ∧ RelV p.2 q.2.2) kvs xs ∧
      ∃ o es ep,h.get? a = some o ∧ o.ExactDict ∧ o.data = .dict es ep ∧ es.toList = xs.map (entryOfKey (tupleKind (mixKind P w))) ∧ (xs.map (·.1)).Nodup
  | .set S n => h.SetOf (intKind P w) a S n
  | .ins C dx fs => H dx = some (.own a) ∧ fs.length ≤ 1000 ∧ dx ≠ a ∧ h.get? a = some (PySem.W.instObj C dx) ∧
      ∃ mA,h.Ns1 dx mA ∧ (∀ f,RelO (fs.lookup f) (mA f)) ∧ PySem.Within mA (fs.map (·.1))
  | .own _ => ∃ o,h.get? a = some o
  | .xd fs => ∃ mA,h.Ns1 a mA ∧ ∀ f,RelO (fs.lookup f) (mA f)
  | .rng lo hi => ∃ t u v,h.get? a = some { cls := .type "range",data := .fields #[.int lo t,.int hi u,.int 1 v] }
  | .frz o u => h.get? a = some o ∧ ObjOk H h a u
  | .tbl ps => h.get? a = some { cls := .none,data := .fields ps }
  | .met f x => h.get? a = some (PySem.W.methodObj (.ref f) (.ref x))
  | .ext φ => φ h ∧ (∃ o,h.get? a = some o) ∧ ∀ h1 h2 : Heap,φ h1 → (∀ o,h1.get? a = some o → h2.get? a = some o) → φ h2
def HOk (H : Hp) (h : Heap) : Prop := ∀ a o,H a = some o → ObjOk P w H h a o
end
section
variable {P : Program} {w : World} {H H' : Hp} {h h' : Heap} {a : Addr} {o : HO}
theorem ObjOk.lt (x : ObjOk P w H h a o) : a < h.objs.size := by
  cases o with
  | lst xs => obtain ⟨_,_,_,_,e⟩ := x; exact Heap.lt_size e
  | tup xs => obtain ⟨_,_,_,p⟩ := x; exact p.lt
  | dK kvs => obtain ⟨_,_,_,_,o,_,_,e,_⟩ := x; exact Heap.lt_size e
  | dT kvs => obtain ⟨_,_,_,_,o,_,_,e,_⟩ := x; exact Heap.lt_size e
  | set S n => obtain ⟨o,_,_,_,e,_⟩ := x; exact Heap.lt_size e
  | ins C dx fs => obtain ⟨_,_,_,e,_⟩ := x; exact Heap.lt_size e
  | own y => obtain ⟨_,e⟩ := x; exact Heap.lt_size e
  | xd fs => obtain ⟨_,⟨_,_,_,e,_⟩,_⟩ := x; exact Heap.lt_size e
  | rng lo hi => obtain ⟨_,_,_,e⟩ := x; exact Heap.lt_size e
  | frz ob u => obtain ⟨e,_⟩ := x; exact Heap.lt_size e
  | tbl ps => exact Heap.lt_size (show h.get? a = some _ from x)
  | met f y => exact Heap.lt_size (show h.get? a = some _ from x)
  | ext φ => obtain ⟨_,⟨_,e⟩,_⟩ := x; exact Heap.lt_size e
theorem Paired.mapP {α β : Type} {F G : α → β → Prop} : ∀ {l₁ : List α} {l₂ : List β},Paired F l₁ l₂ → (∀ a b,F a b → G a b) → Paired G l₁ l₂
  | _,_,.nil,_ => .nil
  | _,_,.cons r t,f => .cons (f _ _ r) (Paired.mapP t f)
theorem ObjOk.stay (x : ObjOk P w H h a o) (k : ∀ b u,(b = a ∨ H b = some (.own a)) → h.get? b = some u → h'.get? b = some u)
    (ho : ∀ b,H b = some (.own a) → H' b = some (.own a)) (ht : ∀ b xs,H b = some (.tup xs) → H' b = some (.tup xs)) : ObjOk P w H' h' a o := by
  induction o with
  | lst xs => obtain ⟨z,its,n,r,e⟩ := x; exact ⟨z,its,n,r,k _ _ (.inl rfl) e⟩
  | tup xs => obtain ⟨z,its,r,ob,e,c⟩ := x; exact ⟨z,its,r,ob,k _ _ (.inl rfl) e,c⟩
  | dK kvs => obtain ⟨z,y,vs,r,ob,es,ep,e,c⟩ := x; exact ⟨z,y,vs,r,ob,es,ep,k _ _ (.inl rfl) e,c⟩
  | dT kvs =>
    obtain ⟨z,y,xs,r,ob,es,ep,e,c⟩ := x
    exact ⟨z,y,xs,Paired.mapP r fun p q z => ⟨z.1,ht _ _ z.2.1,z.2.2⟩,ob,es,ep,k _ _ (.inl rfl) e,c⟩
  | set S n => obtain ⟨ob,es,ep,t,e,c⟩ := x; exact ⟨ob,es,ep,t,k _ _ (.inl rfl) e,c⟩
  | ins C dx fs =>
    obtain ⟨d,z,ne,e,mA,⟨od,es,ep,e2,c⟩,r⟩ := x
    exact ⟨ho _ d,z,ne,k _ _ (.inl rfl) e,mA,⟨od,es,ep,k _ _ (.inr d) e2,c⟩,r⟩
  | own y => obtain ⟨ob,e⟩ := x; exact ⟨ob,k _ _ (.inl rfl) e⟩
  | xd fs => obtain ⟨mA,⟨od,es,ep,e,c⟩,r⟩ := x; exact ⟨mA,⟨od,es,ep,k _ _ (.inl rfl) e,c⟩,r⟩
  | rng lo hi => obtain ⟨t,u,v,e⟩ := x; exact ⟨t,u,v,k _ _ (.inl rfl) e⟩
  | frz ob u ih => obtain ⟨e,q⟩ := x; exact ⟨k _ _ (.inl rfl) e,ih q⟩
  | tbl ps =>
    have e : h.get? a = some { cls := .none,data := .fields ps } := x
    show h'.get? a = some { cls := .none,data := .fields ps }
    exact k a _ (.inl rfl) e
  | met f y =>
    have e : h.get? a = some (PySem.W.methodObj (.ref f) (.ref y)) := x
    show h'.get? a = some (PySem.W.methodObj (.ref f) (.ref y))
    exact k a _ (.inl rfl) e
  | ext φ => obtain ⟨p,⟨o,e⟩,st⟩ := x; exact ⟨st _ _ p fun o q => k _ _ (.inl rfl) q,⟨o,k _ _ (.inl rfl) e⟩,st⟩
theorem HOk.lt (x : HOk P w H h) (e : H a = some o) : a < h.objs.size := (x a o e).lt
theorem HOk.fresh (x : HOk P w H h) (e : h.objs.size ≤ a) : H a = none := by
  cases q : H a with
  | none => rfl
  | some u => exact absurd (Nat.lt_of_lt_of_le (x.lt q) e) (Nat.lt_irrefl _)
theorem HOk.kept (x : HOk P w H h) (k : ∀ b u,h.get? b = some u → h'.get? b = some u) : HOk P w H h' := fun a o e =>
  (x a o e).stay (fun b u _ q => k b u q) (fun _ q => q) fun _ _ q => q
theorem HOk.laid (x : HOk P w H h) (k : ∀ b u,h.get? b = some u → h'.get? b = some u) (hp : h.objs.size ≤ a) (new : ObjOk P w (upd H a o) h' a o) : HOk P w (upd H a o) h' := fun b u e => by
  have hn := x.fresh hp
  by_cases hb : b = a
  · subst hb; rw [upd_same] at e; cases e; exact new
  · rw [upd_ne hb] at e
    exact (x b u e).stay (fun c v _ q => k c v q) (fun c q => by rw [upd_ne (ne_of_none q hn)]; exact q) fun c xs q => by rw [upd_ne (ne_of_none q hn)]; exact q
end
def Rd (H : Hp) (a : Addr) (u : HO) : Prop := H a = some u ∨ ∃ o,H a = some (.frz o u)
theorem Rd.ok {P : Program} {w : World} {H : Hp} {h : Heap} {a : Addr} {u : HO} (r : Rd H a u) (x : HOk P w H h) : ObjOk P w H h a u := by
  rcases r with r | ⟨o,r⟩
  · exact x a u r
  · obtain ⟨_,q⟩ := x a _ r
    exact q
def Mut : Option HO → Prop
  | some (.lst _) => True
  | some (.dK _) => True
  | some (.dT _) => True
  | some (.set _ _) => True
  | some (.ins _ _ _) => True
  | some (.ext _) => True
  | _ => False
section
variable {P : Program} {w : World} {H : Hp} {h h' : Heap} {x e : Addr} {o' : HO}
theorem HOk.write (ok : HOk P w H h) (mu : Mut (H x)) (he : e = x ∨ H e = some (.own x)) (k : ∀ b u,b ≠ e → h.get? b = some u → h'.get? b = some u) (heo : ∃ u,h'.get? e = some u)
    (new : ObjOk P w (upd H x o') h' x o') : HOk P w (upd H x o') h' := fun b u q => by
  have nown : ∀ c y,H c = some (.own y) → c ≠ x := fun c y r z => by subst z; rw [r] at mu; exact mu
  have ntup : ∀ c xs,H c = some (.tup xs) → c ≠ x := fun c xs r z => by subst z; rw [r] at mu; exact mu
  by_cases hb : b = x
  · subst hb; rw [upd_same] at q; cases q; exact new
  · rw [upd_ne hb] at q
    by_cases hbe : b = e
    · have q' : H b = some (.own x) := by
        rcases he with z | z
        · exact absurd (hbe.trans z) hb
        · rw [hbe]; exact z
      rw [q] at q'; cases q'
      obtain ⟨v,hv⟩ := heo
      exact ⟨v,by rw [hbe]; exact hv⟩
    · refine (ok b u q).stay (fun c v hc r => k c v ?_ r) (fun c r => by rw [upd_ne (nown c b r)]; exact r) fun c xs r => by rw [upd_ne (ntup c xs r)]; exact r
      rcases hc with rfl | hc
      · exact hbe
      · rintro rfl
        rcases he with z | z
        · exact nown c b hc z
        · rw [hc] at z; cases z; exact hb rfl
end
structure Un (fs ex : List Addr) (H H' : Hp) (h h' : Heap) : Prop where
  keep : ∀ b o,h.get? b = some o → H b = none → b ∉ fs → b ∉ ex → h'.get? b = some o
  slot : ∀ b o,h.get? b = some o → H b = none → b ∈ fs → b ∉ ex → ∃ sl,h'.get? b = some { o with slots := sl }
  free : ∀ b o,h.get? b = some o → H b = none → b ∉ ex → H' b = none
  there : ∀ b o,h.get? b = some o → b ∉ ex → ∃ o',h'.get? b = some o'
  tups : ∀ b xs,H b = some (.tup xs) → H' b = some (.tup xs)
  frzs : ∀ b o u,H b = some (.frz o u) → H' b = some (.frz o u)
  tbls : ∀ b ps,H b = some (.tbl ps) → ∃ more,H' b = some (.tbl (ps ++ more))
section
variable {fs fs' ex ex' : List Addr} {H H1 H2 : Hp} {h h1 h2 h' : Heap} {a x e : Addr} {o : HO}
theorem Un.any (u : Un fs ex H H1 h h1) {b : Addr} {ob : Obj} (q : h.get? b = some ob) (n : H b = none) (hx : b ∉ ex) : ∃ sl,h1.get? b = some { ob with slots := sl } := by
  by_cases hb : b ∈ fs
  · exact u.slot b ob q n hb hx
  · exact ⟨ob.slots,u.keep b ob q n hb hx⟩
theorem Un.kept (k : ∀ b u,h.get? b = some u → h'.get? b = some u) : Un fs ex H H h h' :=
  ⟨fun b ob q _ _ _ => k b ob q,fun b ob q _ _ _ => ⟨ob.slots,k b ob q⟩,fun _ _ _ n _ => n,fun b ob q _ => ⟨ob,k b ob q⟩,fun _ _ q => q,fun _ _ _ q => q,fun _ ps q => ⟨#[],by rw [q]; simp⟩⟩
theorem Un.refl : Un fs ex H H h h := Un.kept fun _ _ q => q
theorem Un.laid (k : ∀ b u,h.get? b = some u → h'.get? b = some u) (hp : h.objs.size ≤ a) (hn : H a = none) : Un fs ex H (upd H a o) h h' where
  keep := fun b u q _ _ _ => k b u q
  slot := fun b u q _ _ _ => ⟨u.slots,k b u q⟩
  free := fun b u q n _ => by rw [upd_ne (Nat.ne_of_lt (Nat.lt_of_lt_of_le (Heap.lt_size q) hp))]; exact n
  there := fun b u q _ => ⟨u,k b u q⟩
  tups := fun b xs q => by rw [upd_ne (ne_of_none q hn)]; exact q
  frzs := fun b u xs q => by rw [upd_ne (ne_of_none q hn)]; exact q
  tbls := fun b ps q => ⟨#[],by rw [upd_ne (ne_of_none q hn),q]; simp⟩
theorem Un.write (mu : Mut (H x)) (he : e = x ∨ H e = some (.own x)) (k : ∀ b u,b ≠ e → h.get? b = some u → h'.get? b = some u) (heo : ∃ u,h'.get? e = some u) : Un fs ex H (upd H x o) h h' := by
  have hx : ∀ b,H b = none → b ≠ x := fun b n z => by subst z; rw [n] at mu; exact mu
  have hb : ∀ b,H b = none → b ≠ e := fun b n z => by
    subst z
    rcases he with r | r
    · exact hx b n r
    · rw [n] at r; cases r
  have hm : ∀ b u,H b = some u → ¬ Mut (some u) → b ≠ x := fun b u q nm z => by subst z; rw [q] at mu; exact nm mu
  refine ⟨fun b u q n _ _ => k b u (hb b n) q,fun b u q n _ _ => ⟨u.slots,k b u (hb b n) q⟩,fun b u q n _ => by rw [upd_ne (hx b n)]; exact n,fun b u q _ => ?_,
    fun b xs q => by rw [upd_ne (hm b _ q fun z => z)]; exact q,fun b u xs q => by rw [upd_ne (hm b _ q fun z => z)]; exact q,fun b ps q => ⟨#[],by rw [upd_ne (hm b _ q fun z => z),q]; simp⟩⟩
  by_cases hbe : b = e
  · subst hbe; exact heo
  · exact ⟨u,k b u hbe q⟩
end
def trk (h : Heap) (H : Hp) : List Addr := (List.range h.objs.size).filter fun a => (H a).isSome
def hidT (h : Heap) (H : Hp) : Heap := PySem.W.hideAll h (trk h H)
theorem hidT_size (h : Heap) (H : Hp) : (hidT h H).objs.size = h.objs.size := PySem.W.hideAll_size _ _
theorem hidT_get {h : Heap} {H : Hp} {b : Addr} {o : Obj} (e : h.get? b = some o) (n : H b = none) : (hidT h H).get? b = some o :=
  PySem.W.hideAll_get _ e fun hm => by
    have q : (H b).isSome = true := (List.mem_filter.mp hm).2
    rw [n] at q; simp at q
theorem of_hidT {h : Heap} {H : Hp} {b : Addr} {o : Obj} (e : (hidT h H).get? b = some o) : h.get? b = some o ∧ H b = none := by
  have e' : h.get? b = some o := PySem.W.of_hideAll (trk h H) e
  refine ⟨e',?_⟩
  cases q : H b with
  | none => rfl
  | some x =>
    have hm : b ∈ trk h H := List.mem_filter.mpr ⟨List.mem_range.mpr (Heap.lt_size e'),by simp [q]⟩
    have z : (hidT h H).get? b = none := PySem.W.hideAll_none (trk h H) hm
    rw [z] at e; cases e
structure Mod (K : PySem.W.Frag) (mg : Str → Option Value) (base : Heap) : Prop where
  kin : K.In base
  glob : base.Ns mainGlobals mg
  blt : ∃ mb,base.Ns builtinsNs mb ∧ ∀ x : Str,x ≠ "__name__" → mb x = bootBuiltins x
  nolimit : base.NoLimit
structure Cx where
  prog : Program
  w : World
  K : PySem.W.Frag
  mg : Str → Option Value
  base : Heap
  A : Around
  N : List Str
  s₀ : Shared
  H₀ : Hp
  env : Env
  outer : List Env
  stack : List Env
  ex : List Addr
  fn : Str → Bool
  calm : Bool
  pn : List (Addr × Obj)
  xe : Value → Shared → Prop
def frs (l : List Env) : List Addr := l.filterMap (·.frame)
abbrev Cx.fs (X : Cx) : List Addr := frs X.outer
def Vis (sc : Scope) (x : Str) : Prop := sc.names.lookup x = some .local ∨ sc.names.lookup x = some .cell ∨ sc.names.lookup x = some .free
def Loc (sc : Scope) (x : Str) : Prop := sc.names.lookup x = some .local ∨ sc.names.lookup x = some .cell
def Look (env : Env) (h : Heap) (m : Str → Option Value) (x : Str) (u : Value) : Prop :=
  (env.kindOf x = some .local ∧ m x = some u) ∨ ((env.kindOf x = some .cell ∨ env.kindOf x = some .free) ∧ ∃ c,env.cells.lookup x = some c ∧ h.IsCell c (some u))
structure Cx.Ok (X : Cx) : Prop where
  mod : Mod X.K X.mg X.base
  kind : X.env.scope.kind = .function
  glob : X.env.globals = mainGlobals
  blt : X.env.builtins = builtinsNs
  above : X.s₀.heap.objs.size ≤ X.env.locals
  inj : ∀ x y c,X.env.cells.lookup x = some c → X.env.cells.lookup y = some c → x = y
  has : ∀ x,(X.env.kindOf x = some .cell ∨ X.env.kindOf x = some .free) → ∃ c,X.env.cells.lookup x = some c
  cab : ∀ x c,X.fn x = true → X.env.cells.lookup x = some c → X.s₀.heap.objs.size ≤ c
  hd : X.calm = true → X.A.handled = none
  frames : X.A.frames = some X.stack
  stk : X.stack = X.outer ∨ (X.stack = X.env :: X.outer ∧ X.env.frame = some X.env.locals)
  exf : ∀ b ∈ X.ex,b ≠ X.env.locals ∧ ∀ x c,X.env.cells.lookup x = some c → c ≠ b
  bs : ∀ b o,X.base.get? b = some o → X.s₀.heap.get? b = some o ∧ X.H₀ b = none
  bsz : X.base.objs.size ≤ X.s₀.heap.objs.size
  noex : ∀ b o,X.base.get? b = some o → b ∉ X.ex
  exfs : ∀ b ∈ X.ex,b ∉ X.fs
  funs : X.s₀.heap.FunFrames X.base X.outer
  frf : ∀ b ∈ X.fs,X.H₀ b = none
structure Inv (X : Cx) (pins : List (Addr × Obj)) (σ : List (Option V)) (H : Hp) (s : Shared) : Prop where
  ok : X.Ok
  os : s.os = X.s₀.os
  bare : AllBare s.gens
  base : Un X.fs X.ex X.H₀ H X.s₀.heap s.heap
  loc : ∃ m,s.heap.Ns X.env.locals m ∧ ∀ (i : Nat) (x : Str) (v : V),X.N[i]? = some x → σ[i]? = some (some v) → Vis X.env.scope x → ∃ u,RelV v u ∧ Look X.env s.heap m x u
  cell : ∀ x c,X.env.cells.lookup x = some c → ∃ v,s.heap.IsCell c v
  free : H X.env.locals = none
  freeC : ∀ x c,X.env.cells.lookup x = some c → H c = none
  pin : ∀ p ∈ X.pn ++ pins,s.heap.get? p.1 = some p.2 ∧ H p.1 = none ∧ p.1 ≠ X.env.locals ∧ p.1 ∉ X.fs ∧ ∀ v,p.2.data ≠ .cell v
  hok : HOk X.prog X.w H s.heap
  len : σ.length = X.N.length
section
variable {X : Cx} {pins : List (Addr × Obj)} {σ : List (Option V)} {H H' : Hp} {s : Shared} {h' : Heap}
theorem Cx.Ok.nofr (ok : X.Ok) {b : Addr} {o : Obj} (e : X.base.get? b = some o) : b ∉ X.fs := fun hb => by
  have := (ok.funs.mem hb).1
  rw [e] at this; cases this
theorem Inv.bs (I : Inv X pins σ H s) : ∀ b o,X.base.get? b = some o → s.heap.get? b = some o ∧ H b = none := fun b o e =>
  ⟨I.base.keep b o (I.ok.bs b o e).1 (I.ok.bs b o e).2 (I.ok.nofr e) (I.ok.noex b o e),I.base.free b o (I.ok.bs b o e).1 (I.ok.bs b o e).2 (I.ok.noex b o e)⟩
theorem Inv.bk (I : Inv X pins σ H s) : ∀ b o,X.base.get? b = some o → s.heap.get? b = some o := fun b o e => (I.bs b o e).1
theorem Inv.mod (I : Inv X pins σ H s) : Mod X.K X.mg X.base := I.ok.mod
theorem Inv.kIn (I : Inv X pins σ H s) : X.K.In s.heap := I.ok.mod.kin.keeps I.bk
theorem Inv.fr (I : Inv X pins σ H s) : ∃ m,Fr X.base X.env.locals s.heap m :=
  let ⟨m,hn,_⟩ := I.loc
  ⟨m,hn,I.bk,Nat.le_trans I.ok.bsz I.ok.above⟩
theorem Inv.lt (I : Inv X pins σ H s) : X.env.locals < s.heap.objs.size := let ⟨_,hn,_⟩ := I.loc; hn.lt
theorem Inv.sz (I : Inv X pins σ H s) : X.s₀.heap.objs.size ≤ s.heap.objs.size := Nat.le_trans I.ok.above (Nat.le_of_lt I.lt)
theorem Inv.nofs (I : Inv X pins σ H s) {a : Addr} (h : s.heap.objs.size ≤ a) : a ∉ X.fs := fun hb => by
  obtain ⟨_,o,ho,_⟩ := I.ok.funs.mem hb
  exact absurd (Nat.lt_of_lt_of_le (Heap.lt_size ho) (Nat.le_trans I.sz h)) (Nat.lt_irrefl _)
theorem Inv.cne (I : Inv X pins σ H s) : ∀ x c,X.env.cells.lookup x = some c → c ≠ X.env.locals := fun x c e z => by
  obtain ⟨v,o,ho,hd⟩ := I.cell x c e
  obtain ⟨m,⟨o',es,ep,ho',hd',_⟩,_⟩ := I.loc
  rw [z,ho'] at ho; cases ho; rw [hd'] at hd; cases hd
theorem Inv.funs (I : Inv X pins σ H s) : s.heap.FunFrames X.base X.outer := by
  have all : ∀ (l : List Env),(∀ b ∈ frs l,b ∈ X.fs) → X.s₀.heap.FunFrames X.base l → s.heap.FunFrames X.base l := by
    intro l
    induction l with
    | nil => intro _ _; trivial
    | cons env r ih =>
      intro hs hl
      obtain ⟨hk,⟨L,o,hf,hn,ho,hd⟩,hr⟩ := hl
      have hL : L ∈ X.fs := hs L (by unfold frs; rw [List.filterMap_cons,hf]; exact List.mem_cons_self)
      obtain ⟨sl,e⟩ := I.base.slot L o ho (I.ok.frf L hL) hL fun z => I.ok.exfs L z hL
      exact ⟨hk,⟨L,_,hf,hn,e,hd⟩,ih (fun b hb => hs b (by unfold frs; rw [List.filterMap_cons,hf]; exact List.mem_cons_of_mem _ hb)) hr⟩
  exact all X.outer (fun _ hb => hb) I.ok.funs
theorem Inv.stack (I : Inv X pins σ H s) : s.heap.FunFrames X.base X.stack := by
  rcases I.ok.stk with e | ⟨e,hf⟩
  · rw [e]; exact I.funs
  · rw [e]
    obtain ⟨m,hn,_⟩ := I.loc
    refine .cons (by rw [I.ok.kind]; decide) hf hn ?_ I.funs
    exact Heap.get?_none_of_le (Nat.le_trans I.ok.bsz I.ok.above)
theorem Inv.stkSub (I : Inv X pins σ H s) : ∀ b ∈ frs X.stack,b ∈ X.env.locals :: X.fs := fun b hb => by
  rcases I.ok.stk with e | ⟨e,hf⟩
  · rw [e] at hb; exact List.mem_cons_of_mem _ hb
  · rw [e] at hb
    unfold frs at hb
    rw [List.filterMap_cons,hf] at hb
    exact hb
theorem Inv.stkFree (I : Inv X pins σ H s) : ∀ b ∈ frs X.stack,H b = none := fun b hb => by
  rcases List.mem_cons.mp (I.stkSub b hb) with e | hb
  · rw [e]; exact I.free
  · obtain ⟨_,o,ho,_⟩ := I.ok.funs.mem hb
    exact I.base.free b o ho (I.ok.frf b hb) fun z => I.ok.exfs b z hb
theorem Inv.step {g' : Array GenState} {t' : Nat} {d' : Drawn} {ch : List Addr} (I : Inv X pins σ H s)
    (hch : ∀ b ∈ ch,(b ∈ X.ex ∨ X.s₀.heap.objs.size ≤ b) ∧ b ≠ X.env.locals ∧ (∀ x c,X.env.cells.lookup x = some c → c ≠ b) ∧ ∀ p ∈ X.pn ++ pins,p.1 ≠ b)
    (keep : ∀ b o,b ≠ X.env.locals → b ∉ X.fs → b ∉ ch → s.heap.get? b = some o → H b = none → h'.get? b = some o)
    (slot : ∀ b o,b ≠ X.env.locals → b ∈ X.fs → b ∉ ch → s.heap.get? b = some o → H b = none → ∃ sl,h'.get? b = some { o with slots := sl }) (free : ∀ b o,b ∉ ch → s.heap.get? b = some o → H b = none → H' b = none)
    (there : ∀ b o,b ∉ ch → s.heap.get? b = some o → ∃ o',h'.get? b = some o')
    (tups : ∀ b xs,H b = some (.tup xs) → H' b = some (.tup xs)) (frzs : ∀ b o u,H b = some (.frz o u) → H' b = some (.frz o u)) (tbls : ∀ b ps,H b = some (.tbl ps) → ∃ more,H' b = some (.tbl (ps ++ more)))
    (ns : ∀ m,s.heap.Ns X.env.locals m → h'.Ns X.env.locals m) (hok : HOk X.prog X.w H' h') (hg : AllBare g') :
    Inv X pins σ H' { s with heap := h',gens := g',drawn := d',toks := t' } := by
  have neL : ∀ b o,X.s₀.heap.get? b = some o → b ≠ X.env.locals := fun b o e => Nat.ne_of_lt (Nat.lt_of_lt_of_le (Heap.lt_size e) I.ok.above)
  have neC : ∀ b o,X.s₀.heap.get? b = some o → b ∉ X.ex → b ∉ ch := fun b o e hx hb => by
    rcases (hch b hb).1 with z | z
    · exact hx z
    · exact absurd (Nat.lt_of_lt_of_le (Heap.lt_size e) z) (Nat.lt_irrefl _)
  have cellK : ∀ x c,X.env.cells.lookup x = some c → ∀ v,s.heap.IsCell c v → h'.IsCell c v := fun x c e v ⟨o,ho,hd⟩ => by
    have nch : c ∉ ch := fun z => (hch c z).2.2.1 x c e rfl
    by_cases hc : c ∈ X.fs
    · obtain ⟨sl,q⟩ := slot c o (I.cne x c e) hc nch ho (I.freeC x c e)
      exact ⟨_,q,hd⟩
    · exact ⟨o,keep c o (I.cne x c e) hc nch ho (I.freeC x c e),hd⟩
  refine ⟨I.ok,I.os,hg,⟨fun b o e n hb hx => ?_,fun b o e n hb hx => ?_,fun b o e n hx => ?_,fun b o e hx => ?_,fun b xs e => tups b xs (I.base.tups b xs e),fun b o xs e => frzs b o xs (I.base.frzs b o xs e),fun b ps e => ?_⟩,?_,fun x c e => ?_,?_,fun x c e => ?_,fun p hp => ?_,hok,I.len⟩
  · exact keep b o (neL b o e) hb (neC b o e hx) (I.base.keep b o e n hb hx) (I.base.free b o e n hx)
  · obtain ⟨sl,e1⟩ := I.base.slot b o e n hb hx
    obtain ⟨sl',e2⟩ := slot b _ (neL b o e) hb (neC b o e hx) e1 (I.base.free b o e n hx)
    exact ⟨sl',e2⟩
  · obtain ⟨o',e1⟩ := I.base.there b o e hx
    exact free b o' (neC b o e hx) e1 (I.base.free b o e n hx)
  · obtain ⟨o',e1⟩ := I.base.there b o e hx
    exact there b o' (neC b o e hx) e1
  · obtain ⟨m1,e1⟩ := I.base.tbls b ps e
    obtain ⟨m2,e2⟩ := tbls b _ e1
    exact ⟨m1 ++ m2,by rw [e2,Array.append_assoc]⟩
  · obtain ⟨m,hn,hl⟩ := I.loc
    refine ⟨m,ns m hn,fun i x v e1 e2 e3 => ?_⟩
    obtain ⟨u,r,l⟩ := hl i x v e1 e2 e3
    refine ⟨u,r,?_⟩
    rcases l with l | ⟨k,c,e,z⟩
    · exact .inl l
    · exact .inr ⟨k,c,e,cellK x c e _ z⟩
  · obtain ⟨v,z⟩ := I.cell x c e
    exact ⟨v,cellK x c e v z⟩
  · obtain ⟨m,⟨o,_,_,ho,_⟩,_⟩ := I.loc
    exact free _ o (fun z => (hch _ z).2.1 rfl) ho I.free
  · obtain ⟨v,o,ho,hd⟩ := I.cell x c e
    exact free c o (fun z => (hch c z).2.2.1 x c e rfl) ho (I.freeC x c e)
  · obtain ⟨e,n,ne,nf,d⟩ := I.pin p hp
    have nch : p.1 ∉ ch := fun z => (hch p.1 z).2.2.2 p hp rfl
    exact ⟨keep p.1 p.2 ne nf nch e n,free p.1 p.2 nch e n,ne,nf,d⟩
theorem Inv.un {t' : Nat} (I : Inv X pins σ H s) (u : Un X.fs [] H H' s.heap h') (hok : HOk X.prog X.w H' h') : Inv X pins σ H' { s with heap := h',toks := t' } := by
  obtain ⟨m,⟨o,es,ep,ho,r⟩,_⟩ := id I.loc
  obtain ⟨sl,hL⟩ := u.any ho I.free (by simp)
  exact I.step (g' := s.gens) (d' := s.drawn) (ch := []) (fun _ z => nomatch z) (fun b o _ hb _ e n => u.keep b o e n hb (by simp)) (fun b o _ hb _ e n => u.slot b o e n hb (by simp)) (fun b o _ e n => u.free b o e n (by simp)) (fun b o _ e => u.there b o e (by simp)) u.tups u.frzs u.tbls (fun m' hm => by
    obtain ⟨o',es',ep',ho',r'⟩ := hm
    rw [ho] at ho'; cases ho'
    exact ⟨_,es',ep',hL,r'⟩) hok I.bare
theorem Inv.call {g' : Array GenState} {t' : Nat} {d' : Drawn} {ch : List Addr} (I : Inv X pins σ H s) (u : Un (frs X.stack) ch H H' s.heap h') (hok : HOk X.prog X.w H' h') (hg : AllBare g')
    (hch : ∀ b ∈ ch,(b ∈ X.ex ∨ X.s₀.heap.objs.size ≤ b) ∧ b ≠ X.env.locals ∧ (∀ x c,X.env.cells.lookup x = some c → c ≠ b) ∧ ∀ p ∈ X.pn ++ pins,p.1 ≠ b) :
    Inv X pins σ H' { s with heap := h',gens := g',drawn := d',toks := t' } := by
  obtain ⟨m,⟨o,es,ep,ho,r⟩,_⟩ := id I.loc
  obtain ⟨sl,hL⟩ := u.any ho I.free fun z => (hch _ z).2.1 rfl
  exact I.step (ch := ch) hch (fun b o hL hb hc e n => u.keep b o e n (fun z => (List.mem_cons.mp (I.stkSub b z)).elim hL hb) hc) (fun b o _ _ hc e n => u.any e n hc) (fun b o hc e n => u.free b o e n hc) (fun b o hc e => u.there b o e hc) u.tups u.frzs u.tbls (fun m' hm => by
    obtain ⟨o',es',ep',ho',r'⟩ := hm
    rw [ho] at ho'; cases ho'
    exact ⟨_,es',ep',hL,r'⟩) hok hg
theorem Inv.turned {t' : Nat} {it : Addr} (I : Inv X pins σ H s) (k : ∀ b o,b ≠ it → s.heap.get? b = some o → h'.get? b = some o) (hn : H it = none) (hL : it ≠ X.env.locals)
    (h1 : it ∈ X.ex ∨ X.s₀.heap.objs.size ≤ it) (h2 : ∀ x c,X.env.cells.lookup x = some c → c ≠ it) (h3 : ∀ p ∈ X.pn ++ pins,p.1 ≠ it) : Inv X pins σ H { s with heap := h',toks := t' } := by
  have nit : ∀ b u,H b = some u → b ≠ it := fun b u e z => by rw [z,hn] at e; cases e
  refine I.step (g' := s.gens) (d' := s.drawn) (ch := [it]) (fun b hb => ?_) (fun b o _ _ hc e _ => k b o (fun z => hc (by simp [z])) e) (fun b o _ _ hc e _ => ⟨o.slots,k b o (fun z => hc (by simp [z])) e⟩) (fun _ _ _ _ n => n)
    (fun b o hc e => ⟨o,k b o (fun z => hc (by simp [z])) e⟩) (fun _ _ e => e) (fun _ _ _ e => e) (fun b ps e => ⟨#[],by rw [e]; simp⟩) (fun m hm => ?_) (fun b u e => ?_) I.bare
  · have e : b = it := by simpa using hb
    subst e
    exact ⟨h1,hL,h2,h3⟩
  · obtain ⟨o,es,ep,ho,r⟩ := hm
    exact ⟨o,es,ep,k _ o (Ne.symm hL) ho,r⟩
  · refine (I.hok b u e).stay (fun c v hc q => k c v ?_ q) (fun _ q => q) fun _ _ q => q
    rcases hc with z | z
    · rw [z]; exact nit b u e
    · exact nit c _ z
theorem Inv.tok (I : Inv X pins σ H s) (t : Nat) : Inv X pins σ H { s with toks := t } := I.un (h' := s.heap) (t' := t) Un.refl I.hok
theorem Inv.kept {t' : Nat} (I : Inv X pins σ H s) (k : ∀ b u,s.heap.get? b = some u → h'.get? b = some u) : Inv X pins σ H { s with heap := h',toks := t' } := I.un (Un.kept k) (I.hok.kept k)
theorem Inv.laid {a : Addr} {o : HO} {t' : Nat} (I : Inv X pins σ H s) (k : ∀ b u,s.heap.get? b = some u → h'.get? b = some u) (hp : s.heap.objs.size ≤ a) (new : ObjOk X.prog X.w (upd H a o) h' a o) :
    Inv X pins σ (upd H a o) { s with heap := h',toks := t' } := I.un (Un.laid k hp (I.hok.fresh hp)) (I.hok.laid k hp new)
theorem Inv.write {x e : Addr} {o : HO} {t' : Nat} (I : Inv X pins σ H s) (mu : Mut (H x)) (he : e = x ∨ H e = some (.own x)) (k : ∀ b u,b ≠ e → s.heap.get? b = some u → h'.get? b = some u) (heo : ∃ u,h'.get? e = some u)
    (new : ObjOk X.prog X.w (upd H x o) h' x o) : Inv X pins σ (upd H x o) { s with heap := h',toks := t' } := I.un (Un.write mu he k heo) (I.hok.write mu he k heo new)
theorem Inv.weak {σ' : List (Option V)} (I : Inv X pins σ H s) (hl : σ'.length = σ.length) (w : ∀ (i : Nat) v,σ'[i]? = some (some v) → σ[i]? = some (some v)) : Inv X pins σ' H s :=
  ⟨I.ok,I.os,I.bare,I.base,let ⟨m,hn,hl'⟩ := I.loc; ⟨m,hn,fun i x v e1 e2 e3 => hl' i x v e1 (w i v e2) e3⟩,I.cell,I.free,I.freeC,I.pin,I.hok,hl.trans I.len⟩
theorem Inv.pins_of {pins' : List (Addr × Obj)} (I : Inv X pins σ H s) (h : ∀ p ∈ pins',s.heap.get? p.1 = some p.2 ∧ H p.1 = none ∧ p.1 ≠ X.env.locals ∧ p.1 ∉ X.fs ∧ ∀ v,p.2.data ≠ .cell v) : Inv X pins' σ H s :=
  ⟨I.ok,I.os,I.bare,I.base,I.loc,I.cell,I.free,I.freeC,fun p hp => (List.mem_append.mp hp).elim (fun z => I.pin p (List.mem_append_left _ z)) (h p),I.hok,I.len⟩
theorem nodup_ix {N : List Str} (hN : N.Nodup) {i j : Nat} {x : Str} (a : N[i]? = some x) (b : N[j]? = some x) : i = j := by
  obtain ⟨h1,e1⟩ := List.getElem?_eq_some_iff.mp a
  obtain ⟨h2,e2⟩ := List.getElem?_eq_some_iff.mp b
  exact (List.getElem_inj hN).mp (e1.trans e2.symm)
theorem store_ok2 {M : Model} {A : Around} {E : Value → Shared → Prop} {i : Nat} {x : Str} {v : V} {u : Value} {Q : Unit → Shared → Prop} (I : Inv X pins σ H s) (hN : X.N.Nodup) (hi : X.N[i]? = some x) (hx : Loc X.env.scope x) (r : RelV v u)
    (h : ∀ s',Inv X pins (σ.set i (some v)) H s' → (∃ a,Heap.SameBut a s.heap s'.heap ∧ (a = X.env.locals ∨ X.env.cells.lookup x = some a)) → Q () s') (hf : X.fn x = true ∨ X.env.scope.names.lookup x = some .local := by first | exact .inl rfl | exact .inr rfl | assumption) : wpAny M A (storeName X.env x u) Q E s := by
  obtain ⟨m,hn,hl⟩ := id I.loc
  have hcls : (X.env.scope.kind == .class || (X.env.scope.kind == .module && X.env.locals != X.env.globals)) = false := by rw [I.ok.kind]; rfl
  have hiσ : i < σ.length := by rw [I.len]; exact (List.getElem?_eq_some_iff.mp hi).1
  have cne := I.cne
  have tracked : ∀ {a : Addr} {h' : Heap},(∃ o,s.heap.get? a = some o ∧ H a = none) → Heap.SameBut a s.heap h' → HOk X.prog X.w H h' := fun {a h'} ha hs b ob e => by
    obtain ⟨_,_,hfree⟩ := ha
    refine (I.hok b ob e).stay (fun c w' hc q => (hs.2 c ?_).trans q) (fun _ q => q) fun _ _ q => q
    rintro rfl
    rcases hc with rfl | hc
    · rw [hfree] at e; cases e
    · rw [hfree] at hc; cases hc
  rcases hx with hk | hk
  · refine wpAny_storeName_local hk hn (fun h' hn' hs => ?_) hcls
    obtain ⟨oL,_,_,hoL,_⟩ := id hn
    refine h _ ⟨I.ok,I.os,I.bare,⟨fun b o e n hb hx => ?_,fun b o e n hb hx => ?_,I.base.free,fun b o e hx => ?_,I.base.tups,I.base.frzs,I.base.tbls⟩,⟨_,hn',fun j y v' e1 e2 e3 => ?_⟩,fun y c e => ?_,I.free,I.freeC,fun p hp => ?_,tracked ⟨oL,hoL,I.free⟩ hs,by simpa using I.len⟩ ⟨_,hs,.inl rfl⟩
    · exact (hs.2 b (Nat.ne_of_lt (Nat.lt_of_lt_of_le (Heap.lt_size e) I.ok.above))).trans (I.base.keep b o e n hb hx)
    · obtain ⟨sl,e1⟩ := I.base.slot b o e n hb hx
      exact ⟨sl,(hs.2 b (Nat.ne_of_lt (Nat.lt_of_lt_of_le (Heap.lt_size e) I.ok.above))).trans e1⟩
    · obtain ⟨o',e1⟩ := I.base.there b o e hx
      exact ⟨o',(hs.2 b (Nat.ne_of_lt (Nat.lt_of_lt_of_le (Heap.lt_size e) I.ok.above))).trans e1⟩
    · by_cases hj : j = i
      · subst hj
        rw [hi] at e1; cases e1
        rw [List.getElem?_set_self hiσ] at e2
        cases e2
        exact ⟨u,r,.inl ⟨hk,by simp⟩⟩
      · rw [List.getElem?_set_ne (Ne.symm hj)] at e2
        obtain ⟨u',r',q⟩ := hl j y v' e1 e2 e3
        refine ⟨u',r',?_⟩
        rcases q with ⟨k,e⟩ | ⟨k,c,e,z⟩
        · refine .inl ⟨k,?_⟩
          have : y ≠ x := fun e => hj (nodup_ix hN e1 (e ▸ hi))
          simp [this,e]
        · exact .inr ⟨k,c,e,z.sameBut hs (cne y c e)⟩
    · obtain ⟨w',z⟩ := I.cell y c e
      exact ⟨w',z.sameBut hs (cne y c e)⟩
    · obtain ⟨e,n,ne,nf,d⟩ := I.pin p hp
      exact ⟨(hs.2 p.1 ne).trans e,n,ne,nf,d⟩
  · have hfn : X.fn x = true := by
      rcases hf with z | z
      · exact z
      · rw [z] at hk; cases hk
    obtain ⟨c,hc⟩ := I.ok.has x (.inl hk)
    obtain ⟨w',z⟩ := I.cell x c hc
    refine wpAny_storeName_cell I.ok.kind hk hc z (fun h' hc' hs => ?_)
    obtain ⟨oc,hoc,hocd⟩ := id z
    refine h { s with heap := h' } ⟨I.ok,I.os,I.bare,⟨fun b o e n hb hx => ?_,fun b o e n hb hx => ?_,I.base.free,fun b o e hx => ?_,I.base.tups,I.base.frzs,I.base.tbls⟩,⟨m,hn.sameBut hs (Ne.symm (cne x c hc)),fun j y v' e1 e2 e3 => ?_⟩,fun y c' e => ?_,I.free,I.freeC,fun p hp => ?_,tracked ⟨oc,hoc,I.freeC x c hc⟩ hs,by simpa using I.len⟩ ⟨c,hs,.inr hc⟩
    · exact (hs.2 b (Nat.ne_of_lt (Nat.lt_of_lt_of_le (Heap.lt_size e) (I.ok.cab x c hfn hc)))).trans (I.base.keep b o e n hb hx)
    · obtain ⟨sl,e1⟩ := I.base.slot b o e n hb hx
      exact ⟨sl,(hs.2 b (Nat.ne_of_lt (Nat.lt_of_lt_of_le (Heap.lt_size e) (I.ok.cab x c hfn hc)))).trans e1⟩
    · obtain ⟨o',e1⟩ := I.base.there b o e hx
      exact ⟨o',(hs.2 b (Nat.ne_of_lt (Nat.lt_of_lt_of_le (Heap.lt_size e) (I.ok.cab x c hfn hc)))).trans e1⟩
    · by_cases hj : j = i
      · subst hj
        rw [hi] at e1; cases e1
        rw [List.getElem?_set_self hiσ] at e2
        cases e2
        exact ⟨u,r,.inr ⟨.inl hk,c,hc,hc'⟩⟩
      · rw [List.getElem?_set_ne (Ne.symm hj)] at e2
        obtain ⟨u',r',q⟩ := hl j y v' e1 e2 e3
        refine ⟨u',r',?_⟩
        rcases q with q | ⟨k,c',e,z'⟩
        · exact .inl q
        · refine .inr ⟨k,c',e,z'.sameBut hs ?_⟩
          rintro rfl
          exact hj (nodup_ix hN e1 (I.ok.inj _ _ _ e hc ▸ hi))
    · by_cases hcc : c' = c
      · subst hcc; exact ⟨_,hc'⟩
      · obtain ⟨w2,z2⟩ := I.cell y c' e
        exact ⟨w2,z2.sameBut hs hcc⟩
    · obtain ⟨e,n,ne,nf,d⟩ := I.pin p hp
      refine ⟨(hs.2 p.1 ?_).trans e,n,ne,nf,d⟩
      intro q
      rw [q,hoc] at e
      have q' : oc = p.2 := Option.some.inj e
      exact d w' (by rw [← q']; exact hocd)
theorem store_ok {M : Model} {A : Around} {E : Value → Shared → Prop} {i : Nat} {x : Str} {v : V} {u : Value} {Q : Unit → Shared → Prop} (I : Inv X pins σ H s) (hN : X.N.Nodup) (hi : X.N[i]? = some x) (hx : Loc X.env.scope x) (r : RelV v u)
    (h : ∀ s',Inv X pins (σ.set i (some v)) H s' → Q () s') (hf : X.fn x = true ∨ X.env.scope.names.lookup x = some .local := by first | exact .inl rfl | exact .inr rfl | assumption) : wpAny M A (storeName X.env x u) Q E s :=
  store_ok2 I hN hi hx r (fun s' I' _ => h s' I') hf
theorem Inv.call' {s' : Shared} {ch : List Addr} (I : Inv X pins σ H s) (ho : s'.os = s.os) (u : Un (frs X.stack) ch H H' s.heap s'.heap) (hok : HOk X.prog X.w H' s'.heap) (hg : AllBare s'.gens)
    (hch : ∀ b ∈ ch,(b ∈ X.ex ∨ X.s₀.heap.objs.size ≤ b) ∧ b ≠ X.env.locals ∧ (∀ x c,X.env.cells.lookup x = some c → c ≠ b) ∧ ∀ p ∈ X.pn ++ pins,p.1 ≠ b) : Inv X pins σ H' s' := by
  obtain ⟨h',g',d',t',o'⟩ := s'
  have e : o' = s.os := ho
  subst e
  exact I.call (g' := g') (t' := t') (d' := d') u hok hg hch
end
abbrev XK := Value → Option Addr → Hp → Prop
abbrev St := List (Option V)
abbrev VK := V → Hp → Prop
abbrev TE := St → Hp → VK → Prop
abbrev TT := St → Hp → (Bool → Hp → Prop) → Prop
abbrev TA := St → Hp → (List V → Hp → Prop) → Prop
structure Ends where
  nx : St → Hp → Prop
  rt : VK
  bk : St → Hp → Prop := fun _ _ => False
  ct : St → Hp → Prop := fun _ _ => False
abbrev TS := Ends → St → Hp → Prop
def EP (X : Cx) (pins : List (Addr × Obj)) (σ : St) (Q : VK) (u : Value) (s' : Shared) : Prop := ∃ v H',Inv X pins σ H' s' ∧ RelV v u ∧ Q v H'
def TP (X : Cx) (pins : List (Addr × Obj)) (σ : St) (Q : Bool → Hp → Prop) (b : Bool) (s' : Shared) : Prop := ∃ H',Inv X pins σ H' s' ∧ Q b H'
def AP (X : Cx) (pins : List (Addr × Obj)) (σ : St) (Q : List V → Hp → Prop) (us : List Value) (s' : Shared) : Prop := ∃ vs H',Inv X pins σ H' s' ∧ Vals vs us ∧ Q vs H'
def SP (X : Cx) (pins : List (Addr × Obj)) (D : Ends) (f : Flow) (s' : Shared) : Prop :=
  match f with
  | .next => ∃ σ' H',Inv X pins σ' H' s' ∧ D.nx σ' H'
  | .brk => ∃ σ' H',Inv X pins σ' H' s' ∧ D.bk σ' H'
  | .cont => ∃ σ' H',Inv X pins σ' H' s' ∧ D.ct σ' H'
  | .ret u => ∃ v σ' H',Inv X pins σ' H' s' ∧ RelV v u ∧ D.rt v H'
structure PE (X : Cx) (e : Expr) (t : TE) : Prop where
  go : ∀ (pins : List (Addr × Obj)) (s : Shared) (σ : St) (H : Hp) (Q : VK),Inv X pins σ H s → t σ H Q → wpAny (model X.prog X.w) X.A (eval e X.env) (EP X pins σ Q) X.xe s
instance {X : Cx} {e : Expr} {t : TE} : CoeFun (PE X e t) fun _ => ∀ (pins : List (Addr × Obj)) (s : Shared) (σ : St) (H : Hp) (Q : VK),Inv X pins σ H s → t σ H Q → wpAny (model X.prog X.w) X.A (eval e X.env) (EP X pins σ Q) X.xe s := ⟨fun h => h.go⟩
structure PT (X : Cx) (e : Expr) (t : TT) : Prop where
  go : ∀ (pins : List (Addr × Obj)) (s : Shared) (σ : St) (H : Hp) (Q : Bool → Hp → Prop),Inv X pins σ H s → t σ H Q → wpAny (model X.prog X.w) X.A (isTrue e X.env (eval e X.env)) (TP X pins σ Q) X.xe s
instance {X : Cx} {e : Expr} {t : TT} : CoeFun (PT X e t) fun _ => ∀ (pins : List (Addr × Obj)) (s : Shared) (σ : St) (H : Hp) (Q : Bool → Hp → Prop),Inv X pins σ H s → t σ H Q → wpAny (model X.prog X.w) X.A (isTrue e X.env (eval e X.env)) (TP X pins σ Q) X.xe s := ⟨fun h => h.go⟩
structure PW (X : Cx) (e : Expr) (t : TT) : Prop where
  go : ∀ (whole : Sem Value) (pins : List (Addr × Obj)) (s : Shared) (σ : St) (H : Hp) (Q : Bool → Hp → Prop),Inv X pins σ H s → t σ H Q → wpAny (model X.prog X.w) X.A (isTrue e X.env whole) (TP X pins σ Q) X.xe s
instance {X : Cx} {e : Expr} {t : TT} : CoeFun (PW X e t) fun _ => ∀ (whole : Sem Value) (pins : List (Addr × Obj)) (s : Shared) (σ : St) (H : Hp) (Q : Bool → Hp → Prop),Inv X pins σ H s → t σ H Q → wpAny (model X.prog X.w) X.A (isTrue e X.env whole) (TP X pins σ Q) X.xe s := ⟨fun h => h.go⟩
theorem PW.pt {X : Cx} {e : Expr} {t : TT} (h : PW X e t) : PT X e t := ⟨h.go _⟩
structure PA (X : Cx) (es : List Expr) (t : TA) : Prop where
  go : ∀ (pos : Pos) (pins : List (Addr × Obj)) (s : Shared) (σ : St) (H : Hp) (Q : List V → Hp → Prop),Inv X pins σ H s → t σ H Q → wpAny (model X.prog X.w) X.A (spliced (backTo pos (starEach es X.env))) (AP X pins σ Q) X.xe s
instance {X : Cx} {es : List Expr} {t : TA} : CoeFun (PA X es t) fun _ => ∀ (pos : Pos) (pins : List (Addr × Obj)) (s : Shared) (σ : St) (H : Hp) (Q : List V → Hp → Prop),Inv X pins σ H s → t σ H Q → wpAny (model X.prog X.w) X.A (spliced (backTo pos (starEach es X.env))) (AP X pins σ Q) X.xe s := ⟨fun h => h.go⟩
structure PS (X : Cx) (st : Stmt) (t : TS) : Prop where
  go : ∀ (pins : List (Addr × Obj)) (s : Shared) (σ : St) (H : Hp) (D : Ends),Inv X pins σ H s → t D σ H → wpAny (model X.prog X.w) X.A (exec st X.env) (SP X pins D) X.xe s
instance {X : Cx} {st : Stmt} {t : TS} : CoeFun (PS X st t) fun _ => ∀ (pins : List (Addr × Obj)) (s : Shared) (σ : St) (H : Hp) (D : Ends),Inv X pins σ H s → t D σ H → wpAny (model X.prog X.w) X.A (exec st X.env) (SP X pins D) X.xe s := ⟨fun h => h.go⟩
structure PSs (X : Cx) (st : List Stmt) (t : TS) : Prop where
  go : ∀ (pins : List (Addr × Obj)) (s : Shared) (σ : St) (H : Hp) (D : Ends),Inv X pins σ H s → t D σ H → wpAny (model X.prog X.w) X.A (execs st X.env) (SP X pins D) X.xe s
instance {X : Cx} {st : List Stmt} {t : TS} : CoeFun (PSs X st t) fun _ => ∀ (pins : List (Addr × Obj)) (s : Shared) (σ : St) (H : Hp) (D : Ends),Inv X pins σ H s → t D σ H → wpAny (model X.prog X.w) X.A (execs st X.env) (SP X pins D) X.xe s := ⟨fun h => h.go⟩
theorem thn {α : Type} {t : Sem α} {Q Q' : α → Shared → Prop} {M : Model} {A : Around} {E : Value → Shared → Prop} {s : Shared} (h : wpAny M A t Q E s) (hQ : ∀ a s,Q a s → Q' a s) : wpAny M A t Q' E s := wpAny_mono h hQ fun _ _ x => x
section
variable {X : Cx}
theorem bin {a b : Expr} {ta tb : TE} (ha : PE X a ta) (hb : PE X b tb) {pins : List (Addr × Obj)} {s : Shared} {σ : St} {H : Hp} {R : V → V → Hp → Prop} (I : Inv X pins σ H s) (h : ta σ H fun x H1 => tb σ H1 fun y H2 => R x y H2)
    {α : Type} {Q : α → Shared → Prop} {f : Value → Value → Sem α}
    (hf : ∀ v u s2 x y H2,Inv X pins σ H2 s2 → RelV x v → RelV y u → R x y H2 → wpAny (model X.prog X.w) X.A (f v u) Q X.xe s2) :
    wpAny (model X.prog X.w) X.A (eval a X.env) (fun v s₁ => wpAny (model X.prog X.w) X.A (eval b X.env) (fun u s₂ => wpAny (model X.prog X.w) X.A (f v u) Q X.xe s₂) X.xe s₁) X.xe s := by
  refine thn (ha pins s σ H _ I h) fun v s1 ⟨x,H1,I1,r1,q1⟩ => ?_
  refine thn (hb pins s1 σ H1 _ I1 q1) fun u s2 ⟨y,H2,I2,r2,q2⟩ => ?_
  exact hf v u s2 x y H2 I2 r1 r2 q2
def tVar (i : Nat) : TE := fun σ H Q => ∃ v,σ[i]? = some (some v) ∧ Q v H
def tC (v : V) : TE := fun _ H Q => Q v H
theorem pe_var {i : Nat} {x : Str} {pos : Pos} (hN : X.N[i]? = some x) (hv : Vis X.env.scope x) (hd : (x == ("__debug__" : Str)) = false := by decide) (hcd : (x == ("__classdict__" : Str)) = false := by decide) : PE X (.Name x pos) (tVar i) := by
  (try refine ⟨?_⟩); intro pins s σ H Q I h
  obtain ⟨v,e,h⟩ := h
  obtain ⟨m,hn,hl⟩ := I.loc
  obtain ⟨u,r,l⟩ := hl i x v hN e hv
  have fin : EP X pins σ Q u s := ⟨v,H,I,r,h⟩
  rcases l with ⟨hk,hm⟩ | ⟨hk,c,hc,hcell⟩
  · exact wpAny_Name (wpAny_loadName_local I.ok.kind hk hn hm fin) hd
  · rcases hk with hk | hk
    · exact wpAny_Name (wpAny_loadName_cell I.ok.kind hk hc hcell fin) hd
    · exact wpAny_Name (wpAny_loadName_free I.ok.kind hk hc hcell fin hcd) hd
theorem pe_int {i j pos} : PE X (.Constant (.int i) j pos) (tC (.int i)) := ⟨fun _ _ _ H _ I h => wpAny_Constant_int ⟨.int i,H,I.tok _,⟨_,rfl⟩,h⟩⟩
theorem pe_bl {b j pos} : PE X (.Constant (.bool b) j pos) (tC (.bl b)) := ⟨fun _ _ _ H _ I h => Constant_bool ⟨.bl b,H,I,rfl,h⟩⟩
theorem pe_non {j pos} : PE X (.Constant .none j pos) (tC .non) := ⟨fun _ _ _ H _ I h => Constant_none ⟨.non,H,I,rfl,h⟩⟩
theorem pe_str {x j pos} : PE X (.Constant (.str x) j pos) (tC (.str x)) := ⟨fun _ _ _ H _ I h => Calls.Constant_str ⟨.str x,H,I.tok _,⟨_,rfl⟩,h⟩⟩
def Gl (X : Cx) (x : Str) : Prop := X.env.kindOf x = some .globalImplicit
theorem ld_glob {E : Value → Shared → Prop} {pins : List (Addr × Obj)} {s : Shared} {σ : St} {H : Hp} {x : Str} {u : Value} {pos : Pos} {Q : Value → Shared → Prop} (I : Inv X pins σ H s) (hg : Gl X x) (hm : X.mg x = some u) (h : Q u s)
    (hd : (x == ("__debug__" : Str)) = false := by decide) : wpAny (model X.prog X.w) X.A (eval (.Name x pos) X.env) Q E s :=
  Calls.Name_function_global I.ok.kind hg (Calls.loadGlobal_global (by rw [I.ok.glob]; exact I.mod.glob.keeps I.bk) hm h) hd
theorem ld_blt {E : Value → Shared → Prop} {pins : List (Addr × Obj)} {s : Shared} {σ : St} {H : Hp} {x : Str} {u : Value} {pos : Pos} {Q : Value → Shared → Prop} (I : Inv X pins σ H s) (hg : Gl X x) (hm : X.mg x = none) (hv : bootBuiltins x = some u) (h : Q u s)
    (hn : x ≠ "__name__" := by decide) (hd : (x == ("__debug__" : Str)) = false := by decide) : wpAny (model X.prog X.w) X.A (eval (.Name x pos) X.env) Q E s := by
  obtain ⟨mb,h1,h2⟩ := I.mod.blt
  exact Calls.Name_function_global I.ok.kind hg (Calls.loadGlobal_builtin (by rw [I.ok.glob]; exact I.mod.glob.keeps I.bk) hm (by rw [I.ok.blt]; exact h1.keeps I.bk) ((h2 x hn).trans hv) h) hd
theorem pe_glob {x : Str} {v : V} {u : Value} {pos : Pos} (hg : Gl X x) (hm : X.mg x = some u) (r : RelV v u) (hd : (x == ("__debug__" : Str)) = false := by decide) : PE X (.Name x pos) (tC v) := ⟨fun _ _ _ H _ I h => ld_glob I hg hm ⟨v,H,I,r,h⟩ hd⟩
theorem pe_bltn {x : Str} {v : V} {u : Value} {pos : Pos} (hg : Gl X x) (hm : X.mg x = none) (hv : bootBuiltins x = some u) (r : RelV v u) (hn : x ≠ "__name__" := by decide) (hd : (x == ("__debug__" : Str)) = false := by decide) : PE X (.Name x pos) (tC v) := ⟨fun _ _ _ H _ I h => ld_blt I hg hm hv ⟨v,H,I,r,h⟩ hn hd⟩
variable {a b : Expr} {ta tb : TE} {pos : Pos}
def tB (t : TE) : TT := fun σ H Q => t σ H fun x H1 => ∃ c,x = .bl c ∧ Q c H1
theorem pt_val {e : Expr} {t : TE} (h : PE X e t) (he : ∀ whole,isTrue e X.env whole = (do let v ← whole; standAt e.pos; holding [v] (truthy v)) := by intro _; rfl) : PT X e (tB t) := by
  (try refine ⟨?_⟩); intro pins s σ H Q I hw
  refine isTrue_plain (thn (h pins s σ H _ I hw) fun v s1 ⟨x,H1,I1,r1,q1⟩ => ?_) (he _)
  obtain ⟨d,rfl,q⟩ := q1
  cases r1
  exact wpAny_truthy_bool ⟨H1,I1,q⟩
variable {tA tB' : TT} {rest : List Expr}
def tAnd (t u : TT) : TT := fun σ H Q => t σ H fun c H1 => if c = true then u σ H1 Q else Q false H1
def tOr (t u : TT) : TT := fun σ H Q => t σ H fun c H1 => if c = true then Q true H1 else u σ H1 Q
def tNot (t : TT) : TT := fun σ H Q => t σ H fun c H1 => Q (!c) H1
theorem pw_and1 (ha : PT X a tA) : PW X (.BoolOp .And [a] pos) tA := by
  (try refine ⟨?_⟩); intro wh pins s σ H Q I h
  refine isTrue_and (thn (ha pins s σ H Q I h) fun c s1 e => ?_)
  cases c with
  | true => exact isTrue_and_nil e
  | false => exact e
theorem pw_or1 (ha : PT X a tA) : PW X (.BoolOp .Or [a] pos) tA := by
  (try refine ⟨?_⟩); intro wh pins s σ H Q I h
  refine isTrue_or (thn (ha pins s σ H Q I h) fun c s1 e => ?_)
  cases c with
  | false => exact isTrue_or_nil e
  | true => exact e
theorem pw_and (ha : PT X a tA) (hb : PW X (.BoolOp .And (b :: rest) pos) tB') : PW X (.BoolOp .And (a :: b :: rest) pos) (tAnd tA tB') := by
  (try refine ⟨?_⟩); intro wh pins s σ H Q I h
  refine isTrue_and (thn (ha pins s σ H _ I h) fun c s1 ⟨H1,I1,q1⟩ => ?_)
  cases c with
  | true => exact hb wh pins s1 σ H1 Q I1 q1
  | false => exact ⟨H1,I1,q1⟩
theorem pw_or (ha : PT X a tA) (hb : PW X (.BoolOp .Or (b :: rest) pos) tB') : PW X (.BoolOp .Or (a :: b :: rest) pos) (tOr tA tB') := by
  (try refine ⟨?_⟩); intro wh pins s σ H Q I h
  refine isTrue_or (thn (ha pins s σ H _ I h) fun c s1 ⟨H1,I1,q1⟩ => ?_)
  cases c with
  | true => exact ⟨H1,I1,q1⟩
  | false => exact hb wh pins s1 σ H1 Q I1 q1
theorem pt_not (ha : PT X a tA) : PT X (.UnaryOp .Not a pos) (tNot tA) := by
  (try refine ⟨?_⟩); intro pins s σ H Q I h
  exact isTrue_not (ha pins s σ H (fun c H1 => Q (!c) H1) I h)
def tAndV (ta tb : TE) : TE := fun σ H Q => ta σ H fun x H1 => ∃ c,x = .bl c ∧ if c = true then tb σ H1 Q else Q (.bl false) H1
def tNotV (ta : TE) : TE := fun σ H Q => ta σ H fun x H1 => ∃ c,x = .bl c ∧ Q (.bl (!c)) H1
theorem pe_one {op} {t : TE} (h : PE X a t) : PE X (.BoolOp op [a] pos) t := ⟨fun pins s σ H Q I hw => BoolOp_one (h pins s σ H Q I hw)⟩
theorem pe_and (ha : PE X a ta) (hb : PE X (.BoolOp .And (b :: rest) pos) tb) : PE X (.BoolOp .And (a :: b :: rest) pos) (tAndV ta tb) := by
  (try refine ⟨?_⟩); intro pins s σ H Q I h
  refine BoolOp_and (thn (ha pins s σ H _ I h) fun v s1 ⟨x,H1,I1,r1,q1⟩ => ?_)
  obtain ⟨c,rfl,q1⟩ := q1
  cases r1
  refine wpAny_truthy_bool ?_
  cases c with
  | true => exact hb pins s1 σ H1 Q I1 q1
  | false => exact ⟨.bl false,H1,I1,rfl,q1⟩
theorem pe_not (ha : PE X a ta) : PE X (.UnaryOp .Not a pos) (tNotV ta) := by
  (try refine ⟨?_⟩); intro pins s σ H Q I h
  refine UnaryOp_ (thn (ha pins s σ H _ I h) fun v s1 ⟨x,H1,I1,r1,q1⟩ => ?_)
  obtain ⟨c,rfl,q1⟩ := q1
  cases r1
  exact not_of (wpAny_truthy_bool ⟨.bl (!c),H1,I1,rfl,q1⟩)
def tIf (t : TT) (ta tb : TE) : TE := fun σ H Q => t σ H fun c H1 => if c = true then ta σ H1 Q else tb σ H1 Q
theorem pe_ifExp {c : Expr} (hc : PT X c tA) (ha : PE X a ta) (hb : PE X b tb) : PE X (.IfExp c a b pos) (tIf tA ta tb) := by
  (try refine ⟨?_⟩); intro pins s σ H Q I h
  refine wpAny_IfExp (thn (hc pins s σ H _ I h) fun d s1 ⟨H1,I1,q1⟩ => ?_)
  cases d with
  | true => exact ha pins s1 σ H1 Q I1 q1
  | false => exact hb pins s1 σ H1 Q I1 q1
end
def SqL (K : PySem.W.Frag) (H : Hp) (a : Addr) (xs : List V) : Prop :=
  Rd H a (.lst xs) ∨
    ∃ (o : Obj) (its : Array Value) (n : Nat),K.lookup a = some o ∧ o.cls = .type "list" ∧ o.dict = none ∧ o.data = .seq its n ∧ its.size ≤ sizeLine ∧ Vals xs its.toList
def SqT (K : PySem.W.Frag) (H : Hp) (a : Addr) (xs : List V) : Prop :=
  Rd H a (.tup xs) ∨
    ∃ (o : Obj) (its : Array Value) (n : Nat),K.lookup a = some o ∧ o.cls = .type "tuple" ∧ o.data = .seq its n ∧ its.size ≤ sizeLine ∧ Vals xs its.toList
def absV : Value → Option V
  | .none => some .non
  | .bool b => some (.bl b)
  | .int i _ => some (.int i)
  | .str x _ => some (.str x)
  | .bytes b _ => some (.byt b)
  | .float b _ => some (.flt b)
  | .ref a => some (.ref a)
  | .type n => some (.ty n)
  | _ => none
theorem RelV.abs {x : V} {u : Value} (r : RelV x u) : absV u = some x := by
  cases x with
  | non => cases r; rfl
  | bl _ => cases r; rfl
  | int _ => obtain ⟨t,rfl⟩ := r; rfl
  | str _ => obtain ⟨t,rfl⟩ := r; rfl
  | byt _ => obtain ⟨t,rfl⟩ := r; rfl
  | flt _ => obtain ⟨t,rfl⟩ := r; rfl
  | ref _ => cases r; rfl
  | ty _ => cases r; rfl
theorem RelV.inj {x y : V} {u : Value} (r : RelV x u) (q : RelV y u) : x = y := Option.some.inj (r.abs.symm.trans q.abs)
theorem Vals.inj : ∀ {xs ys : List V} {us : List Value},Vals xs us → Vals ys us → xs = ys
  | _,_,_,.nil,.nil => rfl
  | _,_,_,.cons r t,.cons r' t' => by rw [r.inj r',Vals.inj t t']
section
variable {X : Cx} {pins : List (Addr × Obj)} {σ : St} {H : Hp} {s : Shared} {a : Addr} {xs ys : List V}
theorem SqL.of {K : PySem.W.Frag} (h : H a = some (.lst xs)) : SqL K H a xs := .inl (.inl h)
theorem SqT.of {K : PySem.W.Frag} (h : H a = some (.tup xs)) : SqT K H a xs := .inl (.inl h)
theorem Inv.list (I : Inv X pins σ H s) (h : SqL X.K H a xs) : ∃ its : List Value,Vals xs its ∧ PlainL s.heap a its.toArray ∧ xs.length ≤ sizeLine := by
  rcases h with h | ⟨o,its,n,hk,hc,hd,hs,hz,r⟩
  · obtain ⟨z,its,n,r,e⟩ := h.ok I.hok
    exact ⟨its,r,⟨_,n,e,rfl,rfl,rfl⟩,z⟩
  · refine ⟨its.toList,r,⟨o,n,I.kIn a o hk,hc,hd,by simpa using hs⟩,?_⟩
    have e := r.length
    simp only [Array.length_toList] at e
    omega
theorem Inv.tuple (I : Inv X pins σ H s) (h : SqT X.K H a xs) : ∃ its : List Value,Vals xs its ∧ IsTup s.heap a its.toArray ∧ xs.length ≤ sizeLine := by
  rcases h with h | ⟨o,its,n,hk,hc,hs,hz,r⟩
  · obtain ⟨z,its,r,p⟩ := h.ok I.hok
    exact ⟨its,r,p,z⟩
  · refine ⟨its.toList,r,⟨o,I.kIn a o hk,hc,n,by simpa using hs⟩,?_⟩
    have e := r.length
    simp only [Array.length_toList] at e
    omega
theorem Inv.list_inj (I : Inv X pins σ H s) (h : SqL X.K H a xs) (h' : SqL X.K H a ys) : xs = ys := by
  obtain ⟨its,r,⟨o,n,e,_,_,d⟩,_⟩ := I.list h
  obtain ⟨its',r',⟨o',n',e',_,_,d'⟩,_⟩ := I.list h'
  rw [e] at e'; cases e'
  rw [d] at d'
  injection d' with d1 _
  have : its = its' := by simpa using congrArg Array.toList d1
  subst this
  exact r.inj r'
end
abbrev Cx.wish (X : Cx) (E : Value → Shared → Prop) : Cx := { X with xe := E }
abbrev Cx.nox (X : Cx) : Cx := X.wish fun _ _ => False
theorem Cx.Ok.wish {X : Cx} (ok : X.Ok) (E : Value → Shared → Prop) : (X.wish E).Ok :=
  ⟨ok.mod,ok.kind,ok.glob,ok.blt,ok.above,ok.inj,ok.has,ok.cab,ok.hd,ok.frames,ok.stk,ok.exf,ok.bs,ok.bsz,ok.noex,ok.exfs,ok.funs,ok.frf⟩
theorem Cx.Ok.unwish {X : Cx} {E : Value → Shared → Prop} (ok : (X.wish E).Ok) : X.Ok :=
  ⟨ok.mod,ok.kind,ok.glob,ok.blt,ok.above,ok.inj,ok.has,ok.cab,ok.hd,ok.frames,ok.stk,ok.exf,ok.bs,ok.bsz,ok.noex,ok.exfs,ok.funs,ok.frf⟩
section
variable {X : Cx} {pins : List (Addr × Obj)} {σ : St} {H : Hp} {s : Shared} {E : Value → Shared → Prop}
theorem Inv.wish (I : Inv X pins σ H s) (E : Value → Shared → Prop) : Inv (X.wish E) pins σ H s := ⟨I.ok.wish E,I.os,I.bare,I.base,I.loc,I.cell,I.free,I.freeC,I.pin,I.hok,I.len⟩
theorem Inv.unwish (I : Inv (X.wish E) pins σ H s) : Inv X pins σ H s := ⟨I.ok.unwish,I.os,I.bare,I.base,I.loc,I.cell,I.free,I.freeC,I.pin,I.hok,I.len⟩
theorem SP.unwish {D : Ends} {f : Flow} {s' : Shared} (h : SP (X.wish E) pins D f s') : SP X pins D f s' := by
  cases f with
  | next => obtain ⟨σ',H',I,q⟩ := h; exact ⟨σ',H',I.unwish,q⟩
  | brk => obtain ⟨σ',H',I,q⟩ := h; exact ⟨σ',H',I.unwish,q⟩
  | cont => obtain ⟨σ',H',I,q⟩ := h; exact ⟨σ',H',I.unwish,q⟩
  | ret u => obtain ⟨v,σ',H',I,r,q⟩ := h; exact ⟨v,σ',H',I.unwish,r,q⟩
theorem PSs.nox {st : List Stmt} {t : TS} (h : PSs X.nox st t) : PSs X st t := ⟨fun pins s σ H D I hw =>
  wpAny_mono (h pins s σ H D (I.wish _) hw) (fun _ _ q => q.unwish) fun _ _ z => False.elim z⟩
end
section
variable {X : Cx} {st : Stmt} {rest : List Stmt} {t u : TS} {e : Expr} {te : TE} {pos : Pos}
def tNext : TS := fun D σ H => D.nx σ H
def tSeq (t u : TS) : TS := fun D σ H => t { D with nx := u D } σ H
theorem pss_nil : PSs X [] tNext := ⟨fun _ _ σ H _ I h => wpAny_execs_nil ⟨σ,H,I,h⟩⟩
theorem pss_cons (h1 : PS X st t) (h2 : PSs X rest u) : PSs X (st :: rest) (tSeq t u) := by
  (try refine ⟨?_⟩); intro pins s σ H D I h
  refine wpAny_execs_cons (thn (h1 pins s σ H { D with nx := u D } I h) fun f s1 q => ?_)
  cases f with
  | next =>
    obtain ⟨σ',H',I',q⟩ := q
    exact h2 pins s1 σ' H' D I' q
  | ret v => exact q
  | brk => exact q
  | cont => exact q
theorem pss_one (h1 : PS X st t) : PSs X [st] t := by
  (try refine ⟨?_⟩); intro pins s σ H D I h
  refine wpAny_execs_cons (thn (h1 pins s σ H D I h) fun f s1 q => ?_)
  cases f with
  | next => exact wpAny_execs_nil q
  | ret v => exact q
  | brk => exact q
  | cont => exact q
theorem Inv.quiet {pins : List (Addr × Obj)} {σ : St} {H : Hp} {s : Shared} (I : Inv X pins σ H s) : interactive X.env = false := by simp [interactive,I.ok.kind]
def tDrop (te : TE) : TS := fun D σ H => te σ H fun _ H1 => D.nx σ H1
theorem ps_expr (he : PE X e te) (hs : swapsWith e none pos.line X.env = pure false := by rfl) : PS X (.Expr e pos) (tDrop te) := by
  (try refine ⟨?_⟩); intro pins s σ H D I h
  exact wpAny_Expr_any (thn (he pins s σ H _ I h) fun v s1 ⟨x,H1,I1,r1,q1⟩ => ⟨σ,H1,I1,q1⟩) I.quiet hs
def tRet (te : TE) : TS := fun D σ H => te σ H D.rt
theorem ps_ret (he : PE X e te) : PS X (.Return (some e) pos) (tRet te) := by
  (try refine ⟨?_⟩); intro pins s σ H D I h
  exact wpAny_Return_some (thn (he pins s σ H _ I h) fun v s1 ⟨x,H1,I1,r1,q1⟩ => ⟨x,σ,H1,I1,r1,q1⟩)
def tIfS (c : TT) (t u : TS) : TS := fun D σ H => c σ H fun b H1 => if b = true then t D σ H1 else u D σ H1
theorem ps_if {c : Expr} {a b : List Stmt} {tc : TT} (hc : PT X c tc) (ha : PSs X a t) (hb : PSs X b u) : PS X (.If c a b pos) (tIfS tc t u) := by
  (try refine ⟨?_⟩); intro pins s σ H D I h
  refine wpAny_If (thn (hc pins s σ H _ I h) fun d s1 ⟨H1,I1,q1⟩ => ?_)
  cases d with
  | true => exact ha pins s1 σ H1 D I1 q1
  | false => exact hb pins s1 σ H1 D I1 q1
def tNever : TS := fun _ _ _ => False
theorem ps_never : PS X st tNever := ⟨fun _ _ _ _ _ _ h => h.elim⟩
end
abbrev TG := V → St → Hp → (St → Hp → Prop) → Prop
abbrev TGs := List V → St → Hp → (St → Hp → Prop) → Prop
structure PG (X : Cx) (target : Expr) (t : TG) : Prop where
  go : ∀ (pins : List (Addr × Obj)) (s : Shared) (σ : St) (H : Hp) (v : V) (u : Value) (Q : St → Hp → Prop),Inv X pins σ H s → RelV v u → t v σ H Q →
    wpAny (model X.prog X.w) X.A (assign target X.env u) (fun _ s' => ∃ σ' H',Inv X pins σ' H' s' ∧ Q σ' H') X.xe s
instance {X : Cx} {target : Expr} {t : TG} : CoeFun (PG X target t) fun _ => ∀ (pins : List (Addr × Obj)) (s : Shared) (σ : St) (H : Hp) (v : V) (u : Value) (Q : St → Hp → Prop),Inv X pins σ H s → RelV v u → t v σ H Q →
    wpAny (model X.prog X.w) X.A (assign target X.env u) (fun _ s' => ∃ σ' H',Inv X pins σ' H' s' ∧ Q σ' H') X.xe s := ⟨fun h => h.go⟩
structure PGs (X : Cx) (ts : List Expr) (t : TGs) : Prop where
  go : ∀ (pins : List (Addr × Obj)) (s : Shared) (σ : St) (H : Hp) (vs : List V) (us : List Value) (Q : St → Hp → Prop),Inv X pins σ H s → Vals vs us → t vs σ H Q →
    wpAny (model X.prog X.w) X.A (assignInOrder ((assignEach ts X.env).map (·.2)) us) (fun _ s' => ∃ σ' H',Inv X pins σ' H' s' ∧ Q σ' H') X.xe s
instance {X : Cx} {ts : List Expr} {t : TGs} : CoeFun (PGs X ts t) fun _ => ∀ (pins : List (Addr × Obj)) (s : Shared) (σ : St) (H : Hp) (vs : List V) (us : List Value) (Q : St → Hp → Prop),Inv X pins σ H s → Vals vs us → t vs σ H Q →
    wpAny (model X.prog X.w) X.A (assignInOrder ((assignEach ts X.env).map (·.2)) us) (fun _ s' => ∃ σ' H',Inv X pins σ' H' s' ∧ Q σ' H') X.xe s := ⟨fun h => h.go⟩
abbrev TSet := V → V → V → Hp → (Hp → Prop) → Prop
def PSet (X : Cx) (t : TSet) : Prop :=
  ∀ (pins : List (Addr × Obj)) (s : Shared) (σ : St) (H : Hp) (o i v : V) (ov iv u : Value) (Q : Hp → Prop),Inv X pins σ H s → RelV o ov → RelV i iv → RelV v u → t o i v H Q →
    wpAny (model X.prog X.w) X.A (setItem ov iv u) (fun _ s' => ∃ H',Inv X pins σ H' s' ∧ Q H') X.xe s
abbrev TIp := V → V → Hp → VK → Prop
def PIp (X : Cx) (op : Operator) (t : TIp) : Prop :=
  ∀ (pins : List (Addr × Obj)) (s : Shared) (σ : St) (H : Hp) (x y : V) (v u : Value) (Q : VK),Inv X pins σ H s → RelV x v → RelV y u → t x y H Q →
    wpAny (model X.prog X.w) X.A (inplaceOp op v u) (EP X pins σ Q) X.xe s
section
variable {X : Cx} {pos : Pos}
def gName (i : Nat) : TG := fun v σ H Q => Q (σ.set i (some v)) H
theorem pg_name {i : Nat} {x : Str} (hN : X.N.Nodup) (hi : X.N[i]? = some x) (hx : Loc X.env.scope x) (hf : X.fn x = true ∨ X.env.scope.names.lookup x = some .local := by first | exact .inl rfl | exact .inr rfl | assumption) : PG X (.Name x pos) (gName i) := by
  (try refine ⟨?_⟩); intro pins s σ H v u Q I r h
  exact wpAny_assign_Name (store_ok I hN hi hx r (fun s' I' => ⟨_,H,I',h⟩) hf)
def gNil : TGs := fun vs σ H Q => vs = [] ∧ Q σ H
def gCons (t : TG) (u : TGs) : TGs := fun vs σ H Q => ∃ v r,vs = v :: r ∧ t v σ H fun σ' H' => u r σ' H' Q
theorem pgs_nil : PGs X [] gNil := by
  (try refine ⟨?_⟩); intro pins s σ H vs us Q I r h
  obtain ⟨e,h⟩ := h
  subst e
  cases r
  exact assignInOrder_nil ⟨σ,H,I,h⟩
theorem pgs_cons {e : Expr} {es : List Expr} {t : TG} {u : TGs} (h1 : PG X e t) (h2 : PGs X es u)
    (hs : (assignEach (e :: es) X.env).map (·.2) = assign e X.env :: (assignEach es X.env).map (·.2) := by rfl) : PGs X (e :: es) (gCons t u) := by
  (try refine ⟨?_⟩); intro pins s σ H vs us Q I r h
  obtain ⟨v,vr,e1,h⟩ := h
  subst e1
  cases r with
  | cons r rr =>
    rw [hs]
    refine assignInOrder_cons (thn (h1 pins s σ H _ _ _ I r h) fun _ s1 ⟨σ1,H1,I1,q1⟩ => ?_)
    exact h2 pins s1 σ1 H1 _ _ Q I1 rr q1
def gTup (K : PySem.W.Frag) (n : Nat) (t : TGs) : TG := fun v σ H Q => ∃ a xs,v = .ref a ∧ SqT K H a xs ∧ xs.length = n ∧ t xs σ H Q
theorem pg_tup {es : List Expr} {k : Nat} {t : TGs} {n : Nat} (hc : X.calm = true) (h : PGs X es t)
    (hn : (assignEach es X.env).length = n := by rfl) (hst : (assignEach es X.env).findIdx? (·.1) = none := by rfl) : PG X (.Tuple es k pos) (gTup X.K n t) := by
  (try refine ⟨?_⟩); intro pins s σ H v u Q I r hw
  obtain ⟨a,xs,e1,hq,hl,hw⟩ := hw
  subst e1
  cases r
  obtain ⟨its,rv,ht,hz⟩ := I.tuple hq
  refine assign_Tuple_tuple (I.ok.hd hc) ht (by simp [hn,← hl,rv.length]) hst fun h' hx => ?_
  have I1 : Inv X pins σ H { s with heap := h' } := I.kept (t' := s.toks) fun b o e => hx b o (Nat.ne_of_lt (Heap.lt_size e)) e
  exact h pins _ σ H xs _ Q I1 (by simpa using rv) hw
def gSub (to ti : TE) (t : TSet) : TG := fun v σ H Q => to σ H fun o H1 => ti σ H1 fun i H2 => t o i v H2 fun H3 => Q σ H3
theorem pg_sub {o i : Expr} {to ti : TE} {t : TSet} (ho : PE X o to) (hi : PE X i ti) (hs : PSet X t)
    (ha : ∀ v,assign (.Subscript o i pos) X.env v = (do
      let ov ← holding [v] (eval o X.env)
      let iv ← holding [v,ov] (eval i X.env)
      standAt pos
      holding [v,ov,iv] (setItem ov iv v)
      release [v,ov,iv] []) := by intro _; rfl) : PG X (.Subscript o i pos) (gSub to ti t) := by
  (try refine ⟨?_⟩); intro pins s σ H v u Q I r h
  rw [ha]
  refine wpAny_bind (wpAny_holding (thn (ho pins s σ H _ I h) fun ov s1 ⟨x,H1,I1,r1,q1⟩ => ?_))
  refine wpAny_bind (wpAny_holding (thn (hi pins s1 σ H1 _ I1 q1) fun iv s2 ⟨y,H2,I2,r2,q2⟩ => ?_))
  refine wpAny_bind (wpAny_standAt (wpAny_bind (wpAny_holding (thn (hs pins s2 σ H2 x y v ov iv u _ I2 r1 r2 r q2) fun _ s3 ⟨H3,I3,q3⟩ => ?_))))
  exact wpAny_release ⟨σ,H3,I3,q3⟩
def tAsg (te : TE) (g : TG) : TS := fun D σ H => te σ H fun x H1 => g x σ H1 D.nx
theorem ps_asg {tg e : Expr} {te : TE} {g : TG} (he : PE X e te) (hg : PG X tg g) (hs : swapsWithSole [tg] e pos.line X.env = pure false := by rfl) (hw : swappedStores [tg] e X.env = pure none := by rfl)
    (h1 : (assignEach [tg] X.env).map (·.2) = [assign tg X.env] := by rfl) : PS X (.Assign [tg] e pos) (tAsg te g) := by
  (try refine ⟨?_⟩); intro pins s σ H D I h
  refine wpAny_Assign_stores (thn (he pins s σ H _ I h) fun v s1 ⟨x,H1,I1,r1,q1⟩ => ?_) hs hw
  rw [h1]
  exact thn (hg pins s1 σ H1 x v _ I1 r1 q1) fun _ s2 q => q
theorem ps_set {i : Nat} {x : Str} {e : Expr} {te : TE} {pos' : Pos} (hN : X.N.Nodup) (hi : X.N[i]? = some x) (hx : Loc X.env.scope x) (he : PE X e te) (hs : swapsWith e (some (.Name x pos')) pos.line X.env = pure false := by rfl) (hf : X.fn x = true ∨ X.env.scope.names.lookup x = some .local := by first | exact .inl rfl | exact .inr rfl | assumption) :
    PS X (.Assign [.Name x pos'] e pos) (tAsg te (gName i)) := by
  (try refine ⟨?_⟩); intro pins s σ H D I h
  refine wpAny_Assign_Name (thn (he pins s σ H _ I h) fun v s1 ⟨y,H1,I1,r1,q1⟩ => ?_) hs
  exact store_ok I1 hN hi hx r1 (fun s2 I2 => ⟨_,H1,I2,q1⟩) hf
def tPar (i j : Nat) (ta : TA) : TS := fun D σ H => ta σ H fun vs H1 => ∃ v w,vs = [v,w] ∧ D.nx ((σ.set i (some v)).set j (some w)) H1
theorem ps_par {i j : Nat} {x y : Str} {a b : Expr} {ta : TA} {px py pt : Pos} {kt k2 pt2} (hc : X.calm = true) (hN : X.N.Nodup) (hi : X.N[i]? = some x) (hj : X.N[j]? = some y) (hij : i ≠ j)
    (hx : X.env.scope.names.lookup x = some .local) (hy : X.env.scope.names.lookup y = some .local) (ha : PA X [a,b] ta)
    (hw : swappedStores [.Tuple [.Name x px,.Name y py] kt pt] (.Tuple [a,b] k2 pt2) X.env = pure (some [x,y]))
    (hs : swapsWithSole [.Tuple [.Name x px,.Name y py] kt pt] (.Tuple [a,b] k2 pt2) pos.line X.env = pure false := by rfl) :
    PS X (.Assign [.Tuple [.Name x px,.Name y py] kt pt] (.Tuple [a,b] k2 pt2) pos) (tPar i j ta) := by
  (try refine ⟨?_⟩); intro pins s σ H D I h
  rw [exec_Assign_arm]
  refine wpAny_bind (wpAny_standAt ?_)
  rw [hs]
  refine wpAny_bind (wpAny_pure ?_)
  rw [if_neg (by decide)]
  refine wpAny_bind (Tuple_ (thn (ha _ pins s σ H _ I h) fun us s1 ⟨vs,H1,I1,r1,q1⟩ => ?_))
  obtain ⟨v,w,e1,q1⟩ := q1
  subst e1
  obtain ⟨u1,u2,rfl,rv,rw'⟩ : ∃ u1 u2,us = [u1,u2] ∧ RelV v u1 ∧ RelV w u2 := by
    cases r1 with
    | cons p q =>
      cases q with
      | cons p' q' =>
        cases q'
        exact ⟨_,_,rfl,p,p'⟩
  refine wpAny_newObj_type ?_ (by show 2 ≤ sizeLine; decide)
  have I2 : Inv X pins σ H1 { s1 with heap := s1.heap.push { cls := .type "tuple",data := .seq [u1,u2].toArray } } := I1.kept (t' := s1.toks) fun b o e => Heap.get?_push_of_some _ e
  rw [hw]
  refine wpAny_bind (wpAny_pure ?_)
  show wpAny (model X.prog X.w) X.A (do rule "assign.swapped-stores"; let items ← unpackItems (.ref s1.heap.objs.size) 2 none; assignInOrder [fun v => bindName X.env y v,fun v => bindName X.env x v] items.reverse; pure Flow.next) _ _ _
  refine wpAny_bind (wpAny_rule (wpAny_bind (unpackItems_tuple (items := #[u1,u2]) (I.ok.hd hc) (IsTup.new s1.heap _) fun h' hx' => ?_)))
  have I3 := I2.kept (h' := h') (t' := s1.toks) fun b o e => hx' b o (Nat.ne_of_lt (Heap.lt_size e)) e
  show wpAny _ _ (assignInOrder [fun v => bindName X.env y v,fun v => bindName X.env x v] [u2,u1] >>= fun _ => pure Flow.next) _ _ _
  refine wpAny_bind (assignInOrder_cons (wpAny_bindName (store_ok I3 hN hj (.inl hy) rw' (fun s2 I4 => ?_) (.inr hy))))
  refine assignInOrder_cons (wpAny_bindName (store_ok I4 hN hi (.inl hx) rv (fun s3 I5 => assignInOrder_nil (wpAny_pure ?_)) (.inr hx)))
  rw [List.set_comm _ _ (Ne.symm hij)] at I5
  exact ⟨_,H1,I5,q1⟩
def tAug (i : Nat) (te : TE) (ti : TIp) : TS := fun D σ H => ∃ x,σ[i]? = some (some x) ∧ te σ H fun y H1 => ti x y H1 fun z H2 => D.nx (σ.set i (some z)) H2
theorem ps_aug {i : Nat} {x : Str} {e : Expr} {te : TE} {op : Operator} {ti : TIp} {pos' : Pos} (hN : X.N.Nodup) (hi : X.N[i]? = some x) (hx : Loc X.env.scope x) (he : PE X e te) (ho : PIp X op ti) (hf : X.fn x = true ∨ X.env.scope.names.lookup x = some .local := by first | exact .inl rfl | exact .inr rfl | assumption) :
    PS X (.AugAssign (.Name x pos') op e pos) (tAug i te ti) := by
  (try refine ⟨?_⟩); intro pins s σ H D I h
  obtain ⟨v,e1,h⟩ := h
  obtain ⟨m,hn,hl⟩ := I.loc
  have vis : Vis X.env.scope x := by rcases hx with k | k; exact .inl k; exact .inr (.inl k)
  obtain ⟨u,r,l⟩ := hl i x v hi e1 vis
  refine wpAny_AugAssign_Name ?_
  have go : wpAny (model X.prog X.w) X.A (eval e X.env) (fun w s₂ => wpAny (model X.prog X.w) X.A (inplaceOp op u w) (fun r s₃ => wpAny (model X.prog X.w) X.A (storeName X.env x r) (fun _ => SP X pins D .next) X.xe s₃) X.xe s₂) X.xe s := by
    refine thn (he pins s σ H _ I h) fun w s1 ⟨y,H1,I1,r1,q1⟩ => ?_
    refine thn (ho pins s1 σ H1 v y u w _ I1 r r1 q1) fun z s2 ⟨zv,H2,I2,r2,q2⟩ => ?_
    exact store_ok I2 hN hi hx r2 (fun s3 I3 => ⟨_,H2,I3,q2⟩) hf
  rcases l with ⟨hk,hm⟩ | ⟨hk,c,hc,hcell⟩
  · exact wpAny_loadName_local I.ok.kind hk hn hm go
  · rcases hk with hk | hk
    · exact wpAny_loadName_cell I.ok.kind hk hc hcell go
    · rcases hx with k | k
      · have : X.env.scope.names.lookup x = some .free := hk
        rw [k] at this; cases this
      · have : X.env.scope.names.lookup x = some .free := hk
        rw [k] at this; cases this
def ipI (f : Int → Int → Int) : TIp := fun x y H Q => ∃ i j,x = .int i ∧ y = .int j ∧ Q (.int (f i j)) H
theorem ip_add : PIp X .Add (ipI fun i j => i + j) := by
  (try refine ⟨?_⟩); intro pins s σ H x y v u Q I r1 r2 h
  obtain ⟨i,j,e1,e2,q⟩ := h
  subst e1; subst e2
  obtain ⟨t,rfl⟩ := r1
  obtain ⟨t',rfl⟩ := r2
  exact iadd_int ⟨.int _,H,I.tok _,⟨_,rfl⟩,q⟩
end
section
variable {X : Cx} {pos : Pos}
def tWhile (c : TT) (tb : TS) : TS := fun D σ H => ∃ W : Nat → St → Hp → Prop,(∃ m,W m σ H) ∧ ∀ m σ H,W m σ H →
  c σ H fun b H1 => if b = true then ∃ N : St → Hp → Prop,(∀ σ' H',N σ' H' → ∃ m',m' < m ∧ W m' σ' H') ∧ tb { D with nx := N,ct := N,bk := D.nx } σ H1 else D.nx σ H1
theorem ps_while {c : Expr} {body : List Stmt} {tc : TT} {tb : TS} (hp : PassesOwn (model X.prog X.w) X.A X.env X.xe) (hc : PT X c tc) (hb : PSs X body tb) : PS X (.While c body [] pos) (tWhile tc tb) := by
  (try refine ⟨?_⟩); intro pins s σ H D I h
  obtain ⟨W,⟨m0,w0⟩,turn⟩ := h
  refine wpAny_While (codeAny_whileLoop (fun n s' => ∃ σ' H',Inv X pins σ' H' s' ∧ W n σ' H') ?_ m0 ⟨σ,H,I,w0⟩)
  rintro n s1 ⟨σ1,H1,I1,w1⟩
  refine wpAny_passesOwn hp (thn (hc pins s1 σ1 H1 _ I1 (turn n σ1 H1 w1)) fun b s2 ⟨H2,I2,q2⟩ => ?_)
  cases b with
  | true =>
    obtain ⟨N,hN,q2⟩ := q2
    rw [if_pos rfl]
    refine wpAny_passesOwn hp (thn (hb pins s2 σ1 H2 _ I2 q2) fun f s3 q3 => ?_)
    cases f with
    | next =>
      obtain ⟨σ3,H3,I3,n3⟩ := q3
      obtain ⟨m',hm,w3⟩ := hN σ3 H3 n3
      exact ⟨m',hm,σ3,H3,I3,w3⟩
    | cont =>
      obtain ⟨σ3,H3,I3,n3⟩ := q3
      obtain ⟨m',hm,w3⟩ := hN σ3 H3 n3
      exact ⟨m',hm,σ3,H3,I3,w3⟩
    | brk => exact q3
    | ret v => exact q3
  | false =>
    rw [if_neg Bool.false_ne_true]
    exact wpAny_execs_nil ⟨σ1,H2,I2,q2⟩
end
structure It where
  go : Nat → Hp → Prop
  yld : Nat → Hp → V → Hp → Prop
  stop : Nat → Hp → Prop
def FpOk (X : Cx) (pins : List (Addr × Obj)) (H : Hp) (b : Addr) : Prop :=
  H b = none ∧ b ≠ X.env.locals ∧ b ∉ X.fs ∧ (b ∈ X.ex ∨ X.s₀.heap.objs.size ≤ b) ∧ (∀ x c,X.env.cells.lookup x = some c → c ≠ b) ∧ ∀ p ∈ X.pn ++ pins,p.1 ≠ b
theorem Inv.fpOk {X : Cx} {pins : List (Addr × Obj)} {σ : St} {H H' : Hp} {s : Shared} {b : Addr} (I : Inv X pins σ H s) (hb : s.heap.objs.size ≤ b) (hn : H' b = none) : FpOk X pins H' b := by
  refine ⟨hn,Nat.ne_of_gt (Nat.lt_of_lt_of_le I.lt hb),I.nofs hb,.inr (Nat.le_trans I.sz hb),fun x c e z => ?_,fun p hp z => ?_⟩
  · obtain ⟨v,q⟩ := I.cell x c e
    exact absurd (Nat.lt_of_lt_of_le q.lt (by rw [z]; exact hb)) (Nat.lt_irrefl _)
  · exact absurd (Nat.lt_of_lt_of_le (Heap.lt_size (I.pin p hp).1) (by rw [z]; exact hb)) (Nat.lt_irrefl _)
structure Turn (P : Program) (w : World) (K : PySem.W.Frag) (tg : Expr) (J : It) (fp : List Addr) (it : Addr) (tn : Nat → Heap → Prop) : Prop where
  mem : it ∈ fp
  obj : ∀ i h,tn i h → ∀ b ∈ fp,∃ o,h.get? b = some o ∧ ∀ v,o.data ≠ .cell v
  keep : ∀ i h h',tn i h → (∀ b ∈ fp,∀ o,h.get? b = some o → h'.get? b = some o) → tn i h'
  item : ∀ (X : Cx),X.prog = P → X.w = w → X.K = K → X.calm = true → ∀ (i : Nat) (pins : List (Addr × Obj)) (s : Shared) (σ : St) (H : Hp) (E : Value → Shared → Prop),Inv X pins σ H s → (∀ b ∈ fp,FpOk X pins H b) → tn i s.heap → J.go i H →
    wpAny (model P w) X.A (pyNext (.ref it)) (fun r s1 => ∃ u,r = some u ∧
      wpAny (model P w) X.A (letOwnedTupleGo tg (.ref it) u) (fun _ s2 => ∃ x H',Inv X pins σ H' s2 ∧ RelV x u ∧ J.yld i H x H' ∧ tn (i + 1) s2.heap ∧ ∀ b ∈ fp,H' b = none) E s1) E s
  done : ∀ (X : Cx),X.prog = P → X.w = w → X.K = K → X.calm = true → ∀ (i : Nat) (pins : List (Addr × Obj)) (s : Shared) (σ : St) (H : Hp) (E : Value → Shared → Prop),Inv X pins σ H s → (∀ b ∈ fp,FpOk X pins H b) → tn i s.heap → J.stop i H →
    wpAny (model P w) X.A (pyNext (.ref it)) (fun r s1 => r = none ∧ Inv X pins σ H s1) E s
  self : ∀ (A : Around) (i : Nat) (s : Shared) (Q : Value → Shared → Prop) (E : Value → Shared → Prop),tn i s.heap → Q (.ref it) s → wpAny (model P w) A (pyIter (.ref it)) Q E s
abbrev TI := St → Hp → (It → Hp → Prop) → Prop
def PIE (X : Cx) (pins : List (Addr × Obj)) (σ : St) (tg : Expr) (R : It → Hp → Prop) (itv : Value) (s2 : Shared) : Prop :=
  ∃ (it : Addr) (fp : List Addr) (tn : Nat → Heap → Prop) (J : It) (H' : Hp),itv = .ref it ∧ Inv X pins σ H' s2 ∧ Turn X.prog X.w X.K tg J fp it tn ∧ tn 0 s2.heap ∧ (∀ b ∈ fp,FpOk X pins H' b) ∧ R J H'
structure PI (X : Cx) (tg iter : Expr) (wi : TI) : Prop where
  go : ∀ (pins : List (Addr × Obj)) (s : Shared) (σ : St) (H : Hp) (R : It → Hp → Prop),Inv X pins σ H s → wi σ H R →
    wpAny (model X.prog X.w) X.A (eval iter X.env) (fun v s1 => wpAny (model X.prog X.w) X.A (pyIter v) (PIE X pins σ tg R) X.xe s1) X.xe s
instance {X : Cx} {tg iter : Expr} {wi : TI} : CoeFun (PI X tg iter wi) fun _ => ∀ (pins : List (Addr × Obj)) (s : Shared) (σ : St) (H : Hp) (R : It → Hp → Prop),Inv X pins σ H s → wi σ H R →
    wpAny (model X.prog X.w) X.A (eval iter X.env) (fun v s1 => wpAny (model X.prog X.w) X.A (pyIter v) (PIE X pins σ tg R) X.xe s1) X.xe s := ⟨fun h => h.go⟩
theorem go_of {M : Model} {A : Around} {E : Value → Shared → Prop} {s : Shared} {tg : Expr} {it : Addr} {u : Value} {o : Obj} {n : String} {vs : Array Value} {Q : Unit → Shared → Prop} (ho : s.heap.get? it = some o) (hc : o.cls = .type n) (hd : o.data = .fields vs)
    (hn : ["enumerate","zip","dict_itemiterator","dict_reverseitemiterator","odict_iterator","itertools.zip_longest","itertools.pairwise"].contains n = false) (hQ : Q () s) : wpAny M A (letOwnedTupleGo tg (.ref it) u) Q E s := by
  unfold letOwnedTupleGo
  cases tg <;> first
    | exact wpAny_pure hQ
    | (cases u <;> first
        | exact wpAny_pure hQ
        | (refine wpAny_bind (wpAny_load ho ?_)
           rw [hc,hd]
           show wpAny M A (if (["enumerate","zip","dict_itemiterator","dict_reverseitemiterator","odict_iterator","itertools.zip_longest","itertools.pairwise"].contains n && vs[0]? == some (rawInt _)) = true then _ else _) Q E s
           rw [if_neg (by intro h; rw [hn,Bool.false_and] at h; cases h)]
           exact wpAny_pure hQ))
def Itl (K : PySem.W.Frag) (a : Addr) : It :=
  ⟨fun i H => ∃ xs x,SqL K H a xs ∧ xs[i]? = some x,fun i H x H' => H' = H ∧ ∀ xs,SqL K H a xs → xs[i]? = some x,fun i H => ∃ xs,SqL K H a xs ∧ xs.length ≤ i⟩
def Itr (lo : Int) (n : Nat) : It := ⟨fun i _ => i < n,fun i H x H' => H' = H ∧ x = .int (lo + i),fun i _ => n ≤ i⟩
theorem turn_list {P : Program} {w : World} {K : PySem.W.Frag} {tg : Expr} (a it : Addr) : Turn P w K tg (Itl K a) [it] it (fun i h => h.IsListIter it a i) where
  mem := by simp
  obj := fun i h st b hb => by
    have e : b = it := by simpa using hb
    subst e
    obtain ⟨o,e,c,d⟩ := st
    exact ⟨o,e,fun v z => by rw [d] at z; cases z⟩
  keep := fun i h h' st k => st.at fun o e => k it (by simp) o e
  item := by
    intro X hP hw hK hc i pins s σ H E I hf st hg
    subst hP hw hK
    obtain ⟨xs,x,hq,hx⟩ := hg
    obtain ⟨its,rv,p,hz⟩ := I.list hq
    obtain ⟨u,hu,ru⟩ := rv.get hx
    obtain ⟨f0,f1,f2,f3,f4,f5⟩ := hf it (by simp)
    refine wpAny_pyNext_list_item st p.isList (x := u) (by simpa using hu) fun h' st' sb => ?_
    have I1 : Inv X pins σ H { s with heap := h' } := I.turned (t' := s.toks) (fun b o hb e => (sb.2 b hb).trans e) f0 f1 f3 f4 f5
    obtain ⟨o,e,c,d⟩ := id st'
    exact ⟨u,rfl,go_of (s := { s with heap := h' }) e c d (by decide) ⟨x,H,I1,ru,⟨rfl,fun ys hy => by rw [I.list_inj hy hq]; exact hx⟩,st',fun b hb => (hf b hb).1⟩⟩
  done := by
    intro X hP hw hK hc i pins s σ H E I hf st hg
    subst hP hw hK
    obtain ⟨xs,hq,hx⟩ := hg
    obtain ⟨its,rv,p,hz⟩ := I.list hq
    obtain ⟨f0,f1,f2,f3,f4,f5⟩ := hf it (by simp)
    have hl := rv.length
    exact wpAny_pyNext_list_end (I.ok.hd hc) st p.isList (by simp; omega) fun h' eb => ⟨rfl,I.turned (t' := s.toks) (fun b o hb e => eb b o hb e) f0 f1 f3 f4 f5⟩
  self := fun _ _ _ _ _ st h => wpAny_pyIter_listiter st h
theorem turn_range {P : Program} {w : World} {K : PySem.W.Frag} {tg : Expr} (it : Addr) (lo : Int) (n : Nat) : Turn P w K tg (Itr lo n) [it] it (fun i h => IsRangeIter h it (lo + (i : Nat) * 1) ((n : Int) - (i : Nat)) 1) where
  mem := by simp
  obj := fun i h st b hb => by
    have e : b = it := by simpa using hb
    subst e
    exact ⟨_,st,fun v z => by
      have z' : Data.fields _ = Data.cell v := z
      cases z'⟩
  keep := fun i h h' st k => k it (by simp) _ st
  item := by
    intro X hP hw hK hc i pins s σ H E I hf st hg
    subst hP hw hK
    obtain ⟨f0,f1,f2,f3,f4,f5⟩ := hf it (by simp)
    have W := Walks.range (prog := X.prog) (w := X.w) (I.ok.hd hc) it lo 1 n
    refine W.item i s _ _ hg st fun v h' tk hv st' kk => ?_
    obtain ⟨t,rfl⟩ := hv
    have I1 : Inv X pins σ H { s with heap := h',toks := tk } := I.turned (fun b o hb e => kk b o (by simpa using hb) e) f0 f1 f3 f4 f5
    refine ⟨_,rfl,go_of (s := { s with heap := h',toks := tk }) (n := "range_iterator") st' rfl rfl (by decide) ⟨.int (lo + i),H,I1,⟨t,?_⟩,⟨rfl,rfl⟩,st',fun b hb => (hf b hb).1⟩⟩
    rw [Int.mul_one]
  done := by
    intro X hP hw hK hc i pins s σ H E I hf st hg
    subst hP hw hK
    obtain ⟨f0,f1,f2,f3,f4,f5⟩ := hf it (by simp)
    exact wpAny_pyNext_range_end (I.ok.hd hc) st (by have : n ≤ i := hg; omega) fun h' eb => ⟨rfl,I.turned (t' := s.toks) (fun b o hb e => eb b o hb e) f0 f1 f3 f4 f5⟩
  self := fun _ _ _ _ _ st h => wpAny_pyIter_rangeiter st h
section
variable {X : Cx} {tg : Expr}
def iList (K : PySem.W.Frag) (tl : TE) : TI := fun σ H R => tl σ H fun x H1 => ∃ a,x = .ref a ∧ (∃ xs,SqL K H1 a xs) ∧ R (Itl K a) H1
theorem pi_list {l : Expr} {tl : TE} (hl : PE X l tl) : PI X tg l (iList X.K tl) := by
  (try refine ⟨?_⟩); intro pins s σ H R I h
  refine thn (hl pins s σ H _ I h) fun v s1 ⟨x,H1,I1,r1,q1⟩ => ?_
  obtain ⟨a,e,⟨xs,hq⟩,q⟩ := q1
  subst e
  cases r1
  obtain ⟨its,rv,p,hz⟩ := I1.list hq
  refine wpAny_pyIter_list p.isList ?_
  refine ⟨s1.heap.objs.size,[s1.heap.objs.size],_,_,H1,rfl,I1.kept (t' := s1.toks) fun b o e => Heap.get?_push_of_some _ e,turn_list a _,⟨_,Heap.get?_push_size _ rfl,rfl,rfl⟩,fun b hb => ?_,q⟩
  have e : b = s1.heap.objs.size := by simpa using hb
  subst e
  exact I1.fpOk (Nat.le_refl _) (I1.hok.fresh (Nat.le_refl _))
theorem range_it {pins : List (Addr × Obj)} {σ : St} {H : Hp} {s : Shared} {R : It → Hp → Prop} {E : Value → Shared → Prop} {lo hi : Int} {t u v : Tok} {tk : Nat} (I : Inv X pins σ H s) (h1 : -(2 ^ 62) ≤ lo) (h2 : lo < 2 ^ 62) (h3 : -(2 ^ 62) ≤ hi) (h4 : hi < 2 ^ 62)
    (q : R (Itr lo (hi - lo).toNat) H) : wpAny (model X.prog X.w) X.A (pyIter (.ref s.heap.objs.size)) (PIE X pins σ tg R) E { s with heap := s.heap.push { cls := .type "range",data := .fields #[.int lo t,.int hi u,.int 1 v] },toks := tk } := by
  refine wpAny_pyIter_range (IsRange.new ..) (small_one h1 h2 h3 h4) ?_
  have I1 : Inv X pins σ H { s with heap := s.heap.push { cls := .type "range",data := .fields #[.int lo t,.int hi u,.int 1 v] },toks := tk } := I.kept fun b o e => Heap.get?_push_of_some _ e
  refine ⟨(s.heap.push { cls := .type "range",data := .fields #[.int lo t,.int hi u,.int 1 v] }).objs.size,[(s.heap.push { cls := .type "range",data := .fields #[.int lo t,.int hi u,.int 1 v] }).objs.size],_,_,H,rfl,
    I1.kept (t' := tk) fun b o e => Heap.get?_push_of_some _ e,turn_range _ lo (hi - lo).toNat,?_,fun b hb => ?_,q⟩
  · have e1 : lo + ((0 : Nat) : Int) * 1 = lo := by simp
    have e2 : (((hi - lo).toNat : Nat) : Int) - ((0 : Nat) : Int) = Builtin.Range.rangeSize lo hi 1 := by rw [rangeSize_one]; split <;> omega
    show IsRangeIter _ _ (lo + ((0 : Nat) : Int) * 1) ((((hi - lo).toNat : Nat) : Int) - ((0 : Nat) : Int)) 1
    rw [e1,e2]
    exact Heap.get?_push_size _ rfl
  · have e : b = (s.heap.push { cls := .type "range",data := .fields #[.int lo t,.int hi u,.int 1 v] }).objs.size := by simpa using hb
    subst e
    exact I1.fpOk (Nat.le_refl _) (I1.hok.fresh (Nat.le_refl _))
def iRng1 (ta : TA) : TI := fun σ H R => ta σ H fun vs H1 => ∃ j : Int,vs = [.int j] ∧ -(2 ^ 62) ≤ j ∧ j < 2 ^ 62 ∧ R (Itr 0 j.toNat) H1
def iRng2 (ta : TA) : TI := fun σ H R => ta σ H fun vs H1 => ∃ i j : Int,vs = [.int i,.int j] ∧ (-(2 ^ 62) ≤ i ∧ i < 2 ^ 62 ∧ -(2 ^ 62) ≤ j ∧ j < 2 ^ 62) ∧ R (Itr i (j - i).toNat) H1
theorem pi_range1 {a : Expr} {ta : TA} {p pos : Pos} (hg : Gl X "range") (hm : X.mg "range" = none) (ha : PA X [a] ta) (hs : starEach [a] X.env = [(false,eval a X.env)] := by rfl) : PI X tg (.Call (.Name "range" p) [a] [] pos) (iRng1 ta) := by
  (try refine ⟨?_⟩); intro pins s σ H R I h
  refine Call_ (ld_blt I hg hm boot_range (PyProof.Rows.callWith_type1 (thn (ha pos pins s σ H _ I h) fun us s1 ⟨vs,H1,I1,r1,q1⟩ => ?_) hs rfl))
  obtain ⟨j,e,q1,q2,q⟩ := q1
  subst e
  cases r1 with
  | cons r rr =>
    cases rr
    obtain ⟨t,rfl⟩ := r
    exact call_range_1 (range_it I1 (by omega) (by omega) q1 q2 (by simpa using q))
theorem pi_range2 {a b : Expr} {ta : TA} {p pos : Pos} (hg : Gl X "range") (hm : X.mg "range" = none) (ha : PA X [a,b] ta) (hs : starEach [a,b] X.env = [(false,eval a X.env),(false,eval b X.env)] := by rfl) (hs2 : starEach [b] X.env = [(false,eval b X.env)] := by rfl) :
    PI X tg (.Call (.Name "range" p) [a,b] [] pos) (iRng2 ta) := by
  (try refine ⟨?_⟩); intro pins s σ H R I h
  refine Call_ (ld_blt I hg hm boot_range (PyProof.Rows.callWith_type1 (thn (ha pos pins s σ H _ I h) fun us s1 ⟨vs,H1,I1,r1,q1⟩ => ?_) (by rw [hs,hs2]) (by rw [hs2]; rfl)))
  obtain ⟨i,j,e,⟨q1,q2,q3,q4⟩,q⟩ := q1
  subst e
  cases r1 with
  | cons r rr =>
    cases rr with
    | cons r' rr =>
      cases rr
      obtain ⟨t,rfl⟩ := r
      obtain ⟨t',rfl⟩ := r'
      exact call_range_2 (range_it I1 q1 q2 q3 q4 q)
def tFor (wi : TI) (g : TG) (tb : TS) : TS := fun D σ H => wi σ H fun J H1 => ∃ W : Nat → Nat → St → Hp → Prop,(∃ m,W 0 m σ H1) ∧ ∀ i m σ H,W i m σ H →
  (J.stop i H ∧ D.nx σ H) ∨ (J.go i H ∧ ∃ N : St → Hp → Prop,(∀ σ' H',N σ' H' → ∃ m',m' < m ∧ W (i + 1) m' σ' H') ∧ ∀ x H',J.yld i H x H' → g x σ H' fun σ2 H2 => tb { D with nx := N,ct := N,bk := D.nx } σ2 H2)
def pinsAt (fp : List Addr) (h : Heap) : List (Addr × Obj) := fp.filterMap fun b => (h.get? b).map fun o => (b,o)
theorem mem_pinsAt {fp : List Addr} {h : Heap} {b : Addr} {o : Obj} (hb : b ∈ fp) (e : h.get? b = some o) : (b,o) ∈ pinsAt fp h := List.mem_filterMap.mpr ⟨b,hb,by rw [e]; rfl⟩
theorem of_pinsAt {fp : List Addr} {h : Heap} {p : Addr × Obj} (hp : p ∈ pinsAt fp h) : p.1 ∈ fp ∧ h.get? p.1 = some p.2 := by
  obtain ⟨b,hb,e⟩ := List.mem_filterMap.mp hp
  cases q : h.get? b with
  | none => rw [q] at e; cases e
  | some o =>
    rw [q] at e
    have e' : (b,o) = p := Option.some.inj e
    subst e'
    exact ⟨hb,q⟩
theorem Inv.pinned {pins : List (Addr × Obj)} {σ : St} {H : Hp} {s : Shared} {fp : List Addr} (I : Inv X pins σ H s) (hf : ∀ b ∈ fp,FpOk X pins H b) (ho : ∀ b ∈ fp,∃ o,s.heap.get? b = some o ∧ ∀ v,o.data ≠ .cell v) : Inv X (pins ++ pinsAt fp s.heap) σ H s :=
  I.pins_of fun p hp => (List.mem_append.mp hp).elim (fun z => I.pin p (List.mem_append_right _ z)) fun z => by
    obtain ⟨hb,e⟩ := of_pinsAt z
    obtain ⟨f0,f1,f2,_⟩ := hf p.1 hb
    obtain ⟨o,e',d⟩ := ho p.1 hb
    rw [e] at e'; cases e'
    exact ⟨e,f0,f1,f2,d⟩
theorem Inv.unpinned {pins pl : List (Addr × Obj)} {σ : St} {H : Hp} {s : Shared} (I : Inv X (pins ++ pl) σ H s) : Inv X pins σ H s := I.pins_of fun p hp => I.pin p (List.mem_append_right _ (List.mem_append_left _ hp))
theorem ps_for {iter : Expr} {body : List Stmt} {wi : TI} {g : TG} {tb : TS} {pos : Pos} (hp : PassesOwn (model X.prog X.w) X.A X.env X.xe) (hc : X.calm = true) (hi : PI X tg iter wi) (hg : PG X tg g) (hb : PSs X body tb)
    (hs : ∀ x,foldedSetIterable iter X.env x = pure x := by intro _; rfl) : PS X (.For tg iter body [] pos) (tFor wi g tb) := by
  (try refine ⟨?_⟩); intro pins s σ H D I h
  refine wpAny_For (thn (hi pins s σ H _ I h) fun v s1 h1 => thn h1 fun itv s2 h2 => ?_) hs
  obtain ⟨it,fp,tn,J,H2,e,I2,T,st2,f2,W,⟨m0,w0⟩,turn⟩ := h2
  subst e
  -- what stays true of the iterator's objects through the loop
  have stat : ∀ {H' : Hp},(∀ b ∈ fp,H' b = none) → ∀ b ∈ fp,FpOk X pins H' b := fun hn b hb => ⟨hn b hb,(f2 b hb).2⟩
  refine codeAny_forLoop_any (fun n s' => ∃ i σ' H',Inv X pins σ' H' s' ∧ tn i s'.heap ∧ (∀ b ∈ fp,H' b = none) ∧ W i n σ' H') ?_ m0 ⟨0,σ,H2,I2,st2,fun b hb => (f2 b hb).1,w0⟩
  rintro n s3 ⟨i,σ3,H3,I3,st3,fr3,w3⟩
  rcases turn i n σ3 H3 w3 with ⟨stop,qn⟩ | ⟨go,N,hN,step⟩
  · refine wpAny_passesOwn hp (thn (T.done X rfl rfl rfl hc i pins s3 σ3 H3 X.xe I3 (stat fr3) st3 stop) fun r s4 ⟨hr,I4⟩ => ?_)
    subst hr
    exact wpAny_execs_nil ⟨σ3,H3,I4,qn⟩
  · refine wpAny_passesOwn hp (thn (T.item X rfl rfl rfl hc i pins s3 σ3 H3 X.xe I3 (stat fr3) st3 go) fun r s4 ⟨u,hr,h4⟩ => ?_)
    subst hr
    refine wpAny_passesOwn hp (thn h4 fun _ s5 ⟨x,H5,I5,r5,y5,st5,fr5⟩ => ?_)
    have I5' := I5.pinned (stat fr5) (T.obj _ _ st5)
    refine wpAny_passesOwn hp (thn (hg _ s5 σ3 H5 x u _ I5' r5 (step x H5 y5)) fun _ s6 ⟨σ6,H6,I6,q6⟩ => ?_)
    refine wpAny_passesOwn hp (thn (hb _ s6 σ6 H6 _ I6 q6) fun f s7 q7 => ?_)
    have again : ∀ {σ7 : St} {H7 : Hp},Inv X (pins ++ pinsAt fp s5.heap) σ7 H7 s7 → N σ7 H7 → ∃ m,m < n ∧ ∃ i σ' H',Inv X pins σ' H' s7 ∧ tn i s7.heap ∧ (∀ b ∈ fp,H' b = none) ∧ W i m σ' H' := fun {σ7 H7} I7 n7 => by
      obtain ⟨m',hm,w7⟩ := hN σ7 H7 n7
      refine ⟨m',hm,i + 1,σ7,H7,I7.unpinned,T.keep _ _ _ st5 fun b hb o e => (I7.pin (b,o) (List.mem_append_right _ (List.mem_append_right _ (mem_pinsAt hb e)))).1,fun b hb => ?_,w7⟩
      obtain ⟨o,e,d⟩ := T.obj _ _ st5 b hb
      exact (I7.pin (b,o) (List.mem_append_right _ (List.mem_append_right _ (mem_pinsAt hb e)))).2.1
    cases f with
    | next => obtain ⟨σ7,H7,I7,n7⟩ := q7; exact again I7 n7
    | cont => obtain ⟨σ7,H7,I7,n7⟩ := q7; exact again I7 n7
    | brk => obtain ⟨σ7,H7,I7,q7⟩ := q7; exact ⟨σ7,H7,I7.unpinned,q7⟩
    | ret v => obtain ⟨x7,σ7,H7,I7,r7,q7⟩ := q7; exact ⟨x7,σ7,H7,I7.unpinned,r7,q7⟩
end
abbrev R2 := V → V → Hp → VK → Prop
def OpR (X : Cx) (f : Value → Value → Sem Value) (r : R2) : Prop :=
  ∀ (pins : List (Addr × Obj)) (s : Shared) (σ : St) (H : Hp) (x y : V) (v u : Value) (Q : VK),Inv X pins σ H s → RelV x v → RelV y u → r x y H Q →
    wpAny (model X.prog X.w) X.A (f v u) (EP X pins σ Q) X.xe s
def UnR (X : Cx) (f : Value → Sem Value) (r : V → Hp → VK → Prop) : Prop :=
  ∀ (pins : List (Addr × Obj)) (s : Shared) (σ : St) (H : Hp) (x : V) (v : Value) (Q : VK),Inv X pins σ H s → RelV x v → r x H Q →
    wpAny (model X.prog X.w) X.A (f v) (EP X pins σ Q) X.xe s
def CallR (X : Cx) (f : Value) (r : List V → Hp → VK → Prop) : Prop :=
  ∀ (pins : List (Addr × Obj)) (s : Shared) (σ : St) (H : Hp) (xs : List V) (us : List Value) (Q : VK),Inv X pins σ H s → Vals xs us → r xs H Q →
    wpAny (model X.prog X.w) X.A (call f us) (EP X pins σ Q) X.xe s
def TruR (X : Cx) (r : V → Hp → (Bool → Hp → Prop) → Prop) : Prop :=
  ∀ (pins : List (Addr × Obj)) (s : Shared) (σ : St) (H : Hp) (x : V) (v : Value) (Q : Bool → Hp → Prop),Inv X pins σ H s → RelV x v → r x H Q →
    wpAny (model X.prog X.w) X.A (truthy v) (TP X pins σ Q) X.xe s
def tOp (r : R2) (ta tb : TE) : TE := fun σ H Q => ta σ H fun x H1 => tb σ H1 fun y H2 => r x y H2 Q
def tUn (r : V → Hp → VK → Prop) (ta : TE) : TE := fun σ H Q => ta σ H fun x H1 => r x H1 Q
def rI (C : Int → Int → Prop) (g : Int → Int → V) : R2 := fun x y H Q => ∃ i j,x = .int i ∧ y = .int j ∧ C i j ∧ Q (g i j) H
def rI0 (g : Int → Int → V) : R2 := fun x y H Q => ∃ i j,x = .int i ∧ y = .int j ∧ Q (g i j) H
def rU (g : Int → V) : V → Hp → VK → Prop := fun x H Q => ∃ i,x = .int i ∧ Q (g i) H
section
variable {X : Cx} {a b c : Expr} {ta tb tc : TE} {pos : Pos}
theorem binT (ha : PE X a ta) (hb : PE X b tb) {pins : List (Addr × Obj)} {s : Shared} {σ : St} {H : Hp} {R : V → V → Hp → Prop} (I : Inv X pins σ H s)
    (h : ta σ H fun x H1 => tb σ H1 fun y H2 => R x y H2) {Q : Value → Shared → Prop} {f : Value → Value → Sem Value}
    (hf : ∀ v u s2 x y H2,Inv X pins σ H2 s2 → RelV x v → RelV y u → R x y H2 → wpAny (model X.prog X.w) X.A (f v u) Q X.xe s2) :
    wpAny (model X.prog X.w) X.A (eval a X.env) (fun v s₁ => wpAny (model X.prog X.w) X.A (eval b X.env) (fun u s₂ => wpAny (model X.prog X.w) X.A (f v u) Q X.xe s₂) X.xe s₁) X.xe s := by
  refine thn (ha pins s σ H _ I h) fun v s1 ⟨x,H1,I1,r1,q1⟩ => ?_
  refine thn (hb pins s1 σ H1 _ I1 q1) fun u s2 ⟨y,H2,I2,r2,q2⟩ => ?_
  exact hf v u s2 x y H2 I2 r1 r2 q2
theorem pe_op {op : Operator} {r : R2} (ho : OpR X (binaryOp op) r) (ha : PE X a ta) (hb : PE X b tb) : PE X (.BinOp a op b pos) (tOp r ta tb) := by
  (try refine ⟨?_⟩); intro pins s σ H Q I h
  exact wpAny_BinOp (binT ha hb I h fun v u s2 x y H2 I2 rx ry q => ho pins s2 σ H2 x y v u Q I2 rx ry q)
theorem pe_un {op : UnaryOp} {r : V → Hp → VK → Prop} (ho : UnR X (unaryOp op) r) (ha : PE X a ta) : PE X (.UnaryOp op a pos) (tUn r ta) := by
  (try refine ⟨?_⟩); intro pins s σ H Q I h
  exact UnaryOp_ (thn (ha pins s σ H _ I h) fun v s1 ⟨x,H1,I1,r1,q1⟩ => ho pins s1 σ H1 x v Q I1 r1 q1)
theorem opI {f : Value → Value → Sem Value} {C : Int → Int → Prop} {g : Int → Int → Int}
    (rule : ∀ (i j : Int) (t u : Tok) (s : Shared) (Q : Value → Shared → Prop) (E : Value → Shared → Prop),C i j → Q (.int (g i j) s.toks) { s with toks := s.toks + 1 } → wpAny (model X.prog X.w) X.A (f (.int i t) (.int j u)) Q E s) :
    OpR X f (rI C fun i j => .int (g i j)) := by
  (try refine ⟨?_⟩); intro pins s σ H x y v u Q I rx ry h
  obtain ⟨i,j,rfl,rfl,hc,q⟩ := h
  obtain ⟨t,rfl⟩ := rx
  obtain ⟨t',rfl⟩ := ry
  exact rule i j t t' s _ _ hc ⟨.int (g i j),H,I.tok _,⟨_,rfl⟩,q⟩
theorem opI0 {f : Value → Value → Sem Value} {g : Int → Int → Int}
    (rule : ∀ (i j : Int) (t u : Tok) (s : Shared) (Q : Value → Shared → Prop) (E : Value → Shared → Prop),Q (.int (g i j) s.toks) { s with toks := s.toks + 1 } → wpAny (model X.prog X.w) X.A (f (.int i t) (.int j u)) Q E s) :
    OpR X f (rI0 fun i j => .int (g i j)) := by
  (try refine ⟨?_⟩); intro pins s σ H x y v u Q I rx ry h
  obtain ⟨i,j,rfl,rfl,q⟩ := h
  obtain ⟨t,rfl⟩ := rx
  obtain ⟨t',rfl⟩ := ry
  exact rule i j t t' s _ _ ⟨.int (g i j),H,I.tok _,⟨_,rfl⟩,q⟩
theorem opB0 {f : Value → Value → Sem Value} {g : Int → Int → Bool}
    (rule : ∀ (i j : Int) (t u : Tok) (s : Shared) (Q : Value → Shared → Prop) (E : Value → Shared → Prop),Q (.bool (g i j)) s → wpAny (model X.prog X.w) X.A (f (.int i t) (.int j u)) Q E s) :
    OpR X f (rI0 fun i j => .bl (g i j)) := by
  (try refine ⟨?_⟩); intro pins s σ H x y v u Q I rx ry h
  obtain ⟨i,j,rfl,rfl,q⟩ := h
  obtain ⟨t,rfl⟩ := rx
  obtain ⟨t',rfl⟩ := ry
  exact rule i j t t' s _ _ ⟨.bl (g i j),H,I,rfl,q⟩
def CDiv (i j : Int) : Prop := 0 < j ∧ j < 1073741824
def CPow (i j : Int) : Prop := 0 ≤ j ∧ j ≤ 1000000 ∧ i.natAbs < 2 ^ 64
def CMul (i j : Int) : Prop := (-(2 ^ 64) < i ∧ i < 2 ^ 64) ∨ (-(2 ^ 64) < j ∧ j < 2 ^ 64)
theorem CMul.ok {i j : Int} (h : CMul i j) : IntMulOk i j := by
  rcases h with ⟨h1,h2⟩ | ⟨h1,h2⟩
  · exact .of_left (intBits_le_64 h1 h2)
  · exact .of_right (intBits_le_64 h1 h2)
theorem op_add : OpR X (binaryOp .Add) (rI0 fun i j => .int (i + j)) := opI0 fun _ _ _ _ _ _ _ q => add_int q
theorem op_sub : OpR X (binaryOp .Sub) (rI0 fun i j => .int (i - j)) := opI0 fun _ _ _ _ _ _ _ q => sub_int q
theorem op_mul : OpR X (binaryOp .Mult) (rI CMul fun i j => .int (i * j)) := opI fun _ _ _ _ _ _ _ hc q => mul_int q hc.ok
theorem op_fdiv : OpR X (binaryOp .FloorDiv) (rI CDiv fun i j => .int (i / j)) := opI fun i j _ _ _ _ _ hc q => by
  have h1 : (0 : Int) < j := hc.1
  have h2 : j < 1073741824 := hc.2
  exact floordiv_int (by omega) (by rw [Int.fdiv_eq_ediv_of_nonneg i (by omega)]; exact q) (.inl (PyProof.noPylong_small (by omega)))
theorem op_mod : OpR X (binaryOp .Mod) (rI (fun _ j => 0 < j) fun i j => .int (i % j)) := opI fun i j _ _ _ _ _ hc q => by
  have h1 : (0 : Int) < j := hc
  exact mod_int' (by omega) (by rw [Int.fmod_eq_emod_of_nonneg i (by omega)]; exact q)
theorem op_pow : OpR X (binaryOp .Pow) (rI CPow fun i j => .int (i ^ j.toNat)) := opI fun _ _ _ _ _ _ _ hc q => pow_int_small hc.1 hc.2.1 hc.2.2 q
theorem unI {f : Value → Sem Value} {g : Int → Int}
    (rule : ∀ (i : Int) (t : Tok) (s : Shared) (Q : Value → Shared → Prop) (E : Value → Shared → Prop),Q (.int (g i) s.toks) { s with toks := s.toks + 1 } → wpAny (model X.prog X.w) X.A (f (.int i t)) Q E s) :
    UnR X f (rU fun i => .int (g i)) := by
  (try refine ⟨?_⟩); intro pins s σ H x v Q I rx h
  obtain ⟨i,rfl,q⟩ := h
  obtain ⟨t,rfl⟩ := rx
  exact rule i t s _ _ ⟨.int (g i),H,I.tok _,⟨_,rfl⟩,q⟩
theorem un_neg : UnR X (unaryOp .USub) (rU fun i => .int (-i)) := unI fun _ _ _ _ _ q => neg_int q
end
section
variable {X : Cx} {a b c : Expr} {ta tb tc : TE} {pos : Pos}
theorem fin_bl {pins : List (Addr × Obj)} {σ : St} {H : Hp} {s : Shared} {Q : VK} {k k' : Bool} (I : Inv X pins σ H s) (q : Q (.bl k) H) (e : k = k') : EP X pins σ Q (.bool k') s := by
  subst e
  exact ⟨.bl k,H,I,rfl,q⟩
theorem op_lt : OpR X (compareOp .Lt) (rI0 fun i j => .bl (decide (i < j))) := opB0 fun _ _ _ _ _ _ _ q => lt_int q
theorem op_le : OpR X (compareOp .LtE) (rI0 fun i j => .bl (decide (i ≤ j))) := opB0 fun _ _ _ _ _ _ _ q => le_int q
theorem op_gt : OpR X (compareOp .Gt) (rI0 fun i j => .bl (decide (j < i))) := opB0 fun _ _ _ _ _ _ _ q => gt_int q
theorem op_isN : OpR X (compareOp .Is) (fun x y H Q => y = .non ∧ Q (.bl (decide (x = .non))) H) := by
  (try refine ⟨?_⟩); intro pins s σ H x y v u Q I rx ry h
  obtain ⟨rfl,q⟩ := h
  cases ry
  refine is_none_gen (fin_bl I q ?_)
  cases x <;> first
    | (cases rx; rfl)
    | (obtain ⟨t,rfl⟩ := rx; rfl)
theorem op_notN : OpR X (compareOp .IsNot) (fun x y H Q => y = .non ∧ Q (.bl (!decide (x = .non))) H) := by
  (try refine ⟨?_⟩); intro pins s σ H x y v u Q I rx ry h
  obtain ⟨rfl,q⟩ := h
  cases ry
  refine isnot_none_gen (fin_bl I q ?_)
  cases x <;> first
    | (cases rx; rfl)
    | (obtain ⟨t,rfl⟩ := rx; rfl)
theorem nomark (b : Expr) {op : CmpOp} (h : op ≠ .In := by decide) (h2 : op ≠ .NotIn := by decide) : behindInMarks op b = false := by
  have e1 : (op == CmpOp.In) = false := by cases op <;> first | rfl | exact absurd rfl h
  have e2 : (op == CmpOp.NotIn) = false := by cases op <;> first | rfl | exact absurd rfl h2
  cases b <;> simp [behindInMarks,e1,e2]
theorem pe_cmpR {op : CmpOp} {r : R2} (ho : OpR X (compareOp op) r) (ha : PE X a ta) (hb : PE X b tb) (hm : behindInMarks op b = false) : PE X (.Compare a [op] [b] pos) (tOp r ta tb) := by
  (try refine ⟨?_⟩); intro pins s σ H Q I h
  exact wpAny_Compare1 (binT ha hb I h fun v u s2 x y H2 I2 rx ry q => ho pins s2 σ H2 x y v u Q I2 rx ry q) hm
def tTest (t : TE) : TT := fun σ H Q => t σ H fun x H' => ∃ k,x = .bl k ∧ Q k H'
theorem pt_cmpR {op : CmpOp} {r : R2} (ho : OpR X (compareOp op) r) (ha : PE X a ta) (hb : PE X b tb) (hm : behindInMarks op b = false) : PT X (.Compare a [op] [b] pos) (tTest (tOp r ta tb)) := by
  (try refine ⟨?_⟩); intro pins s σ H Q I h
  refine wpAny_isTrue_Compare1 (thn (ha pins s σ H _ I h) fun v s1 ⟨x,H1,I1,r1,q1⟩ => thn (hb pins s1 σ H1 _ I1 q1) fun u s2 ⟨y,H2,I2,r2,q2⟩ =>
    thn (ho pins s2 σ H2 x y v u _ I2 r1 r2 q2) fun c s3 ⟨z,H3,I3,r3,k,e,q3⟩ => ?_) hm
  subst e
  cases r3
  exact wpAny_truthy_bool ⟨H3,I3,q3⟩
def tChain (r r' : R2) (ta tb tc : TE) : TE := fun σ H Q => ta σ H fun x H1 => tb σ H1 fun y H2 => r x y H2 fun z H3 => ∃ k,z = .bl k ∧
  (if k = true then tc σ H3 fun w' H4 => r' y w' H4 Q else Q (.bl false) H3)
theorem pe_chain {op op' : CmpOp} {r r' : R2} (ho : OpR X (compareOp op) r) (ho' : OpR X (compareOp op') r') (ha : PE X a ta) (hb : PE X b tb) (hc : PE X c tc)
    (hm : lastMarks [op,op'] [b,c] = false := by with_unfolding_all rfl) : PE X (.Compare a [op,op'] [b,c] pos) (tChain r r' ta tb tc) := by
  (try refine ⟨?_⟩); intro pins s σ H Q I h
  refine Compare_chain (thn (ha pins s σ H _ I h) fun v s1 ⟨x,H1,I1,r1,q1⟩ => chain_link (thn (hb pins s1 σ H1 _ I1 q1) fun u s2 ⟨y,H2,I2,r2,q2⟩ =>
    thn (ho pins s2 σ H2 x y v u _ I2 r1 r2 q2) fun d s3 ⟨z,H3,I3,r3,k,e,q3⟩ => ?_)) hm
  subst e
  cases r3
  refine wpAny_truthy_bool ?_
  cases k with
  | false => exact ite_ff ⟨.bl false,H3,I3,rfl,q3⟩
  | true => exact ite_tt (chain_last (thn (hc pins s3 σ H3 _ I3 q3) fun w' s4 ⟨z',H4,I4,r4,q4⟩ => ho' pins s4 σ H4 y z' u w' Q I4 r2 r4 q4))
theorem pt_chain {op op' : CmpOp} {r r' : R2} (ho : OpR X (compareOp op) r) (ho' : OpR X (compareOp op') r') (ha : PE X a ta) (hb : PE X b tb) (hc : PE X c tc)
    (hm : lastMarks [op,op'] [b,c] = false := by with_unfolding_all rfl) : PT X (.Compare a [op,op'] [b,c] pos) (tTest (tChain r r' ta tb tc)) := by
  (try refine ⟨?_⟩); intro pins s σ H Q I h
  refine isTrue_chain (thn (ha pins s σ H _ I h) fun v s1 ⟨x,H1,I1,r1,q1⟩ => test_link (thn (hb pins s1 σ H1 _ I1 q1) fun u s2 ⟨y,H2,I2,r2,q2⟩ =>
    thn (ho pins s2 σ H2 x y v u _ I2 r1 r2 q2) fun d s3 ⟨z,H3,I3,r3,k,e,q3⟩ => ?_)) hm
  subst e
  cases r3
  refine wpAny_truthy_bool ?_
  cases k with
  | false =>
    obtain ⟨k',e',q'⟩ := q3
    cases e'
    exact ite_ff ⟨H3,I3,q'⟩
  | true =>
    refine ite_tt (test_last (thn (hc pins s3 σ H3 _ I3 q3) fun w' s4 ⟨z',H4,I4,r4,q4⟩ => thn (ho' pins s4 σ H4 y z' u w' _ I4 r2 r4 q4) fun d' s5 ⟨z2,H5,I5,r5,k2,e2,q5⟩ => ?_))
    subst e2
    cases r5
    exact wpAny_truthy_bool ⟨H5,I5,q5⟩
def TruV (K : PySem.W.Frag) (x : V) (H : Hp) (k : Bool) : Prop :=
  match x with
  | .non => k = false
  | .bl b => k = b
  | .int i => k = (i != 0)
  | .str y => y.length ≤ sizeLine ∧ k = ((y.length : Int) != 0)
  | .byt y => y.size ≤ sizeLine ∧ k = ((y.size : Int) != 0)
  | .ref p => (∃ xs,SqL K H p xs ∧ k = !xs.isEmpty) ∨ (∃ xs,SqT K H p xs ∧ k = !xs.isEmpty) ∨ ∃ kvs,H p = some (.dK kvs) ∧ k = !kvs.isEmpty
  | _ => False
theorem isEmpty_kv {κ : Type} {kvs : List (κ × V)} {vs : List (κ × Value)} (r : KV kvs vs) : (!vs.isEmpty) = !kvs.isEmpty := by
  cases r <;> rfl
theorem isEmpty_of {xs : List V} {its : List Value} (r : Vals xs its) : (!its.toArray.isEmpty) = !xs.isEmpty := by
  cases r <;> simp
theorem line63 : (sizeLine : Nat) < 2 ^ 63 := by rw [sizeLine_eq]; decide
theorem tru_ok : TruR X (fun x H Q => ∃ k,TruV X.K x H k ∧ Q k H) := by
  (try refine ⟨?_⟩); intro pins s σ H x v Q I rx h
  obtain ⟨k,e,q⟩ := h
  have hl := line63
  have hs : sizeLine = 16777216 := sizeLine_eq
  cases x with
  | non =>
    cases rx
    have e' : k = false := e
    subst e'
    exact truthy_none ⟨H,I,q⟩
  | bl b =>
    cases rx
    have e' : k = b := e
    subst e'
    exact wpAny_truthy_bool ⟨H,I,q⟩
  | int i =>
    obtain ⟨t,rfl⟩ := rx
    have e' : k = (i != 0) := e
    subst e'
    exact PySem.P.truthy_int ⟨H,I,q⟩
  | str y =>
    obtain ⟨t,rfl⟩ := rx
    obtain ⟨hy,e'⟩ : y.length ≤ sizeLine ∧ k = ((y.length : Int) != 0) := e
    subst e'
    exact PySem.P.truthy_str (by omega) ⟨H,I.tok _,q⟩
  | byt y =>
    obtain ⟨t,rfl⟩ := rx
    obtain ⟨hy,e'⟩ : y.size ≤ sizeLine ∧ k = ((y.size : Int) != 0) := e
    subst e'
    exact PySem.W.truthy_bytes (by omega) ⟨H,I.tok _,q⟩
  | ref p =>
    cases rx
    have e' : (∃ xs,SqL X.K H p xs ∧ k = !xs.isEmpty) ∨ (∃ xs,SqT X.K H p xs ∧ k = !xs.isEmpty) ∨ ∃ kvs,H p = some (.dK kvs) ∧ k = !kvs.isEmpty := e
    rcases e' with ⟨xs,hx,e'⟩ | ⟨xs,hx,e'⟩ | ⟨kvs,hx,e'⟩
    · subst e'
      obtain ⟨its,r,pl,hz⟩ := I.list hx
      have hlen := r.length
      exact wpAny_truthy_list pl.isList (by simp only [List.size_toArray]; omega) ⟨H,I.tok _,by rw [isEmpty_of r]; exact q⟩
    · subst e'
      obtain ⟨its,r,pl,hz⟩ := I.tuple hx
      have hlen := r.length
      exact truthy_tuple pl (by simp only [List.size_toArray]; omega) ⟨H,I.tok _,by rw [isEmpty_of r]; exact q⟩
    · subst e'
      obtain ⟨hz,hS,vs,r,m⟩ : kvs.length ≤ sizeLine ∧ (p == sysModules) = false ∧ ∃ vs,KV kvs vs ∧ s.heap.DictOf (mixKind X.prog X.w) p vs := I.hok p _ hx
      have hlen : kvs.length = vs.length := Paired.length r
      exact wpAny_truthy_dict hS m (by omega) ⟨H,I.tok _,by rw [isEmpty_kv r]; exact q⟩
  | _ => exact (show False from e).elim
theorem pt_truth (ha : PE X a ta) (he : ∀ whole,isTrue a X.env whole = (do let v ← whole; standAt a.pos; holding [v] (truthy v))) :
    PT X a (fun σ H Q => ta σ H fun x H' => ∃ k,TruV X.K x H' k ∧ Q k H') := by
  (try refine ⟨?_⟩); intro pins s σ H Q I h
  exact isTrue_plain (thn (ha pins s σ H _ I h) fun v s1 ⟨x,H1,I1,r1,q1⟩ => tru_ok pins s1 σ H1 x v Q I1 r1 q1) (he _)
theorem vals1 {x : V} {us : List Value} (r : Vals [x] us) : ∃ u,us = [u] ∧ RelV x u := by
  cases r with
  | cons r1 r2 => cases r2; exact ⟨_,rfl,r1⟩
theorem vals2 {x y : V} {us : List Value} (r : Vals [x,y] us) : ∃ u w',us = [u,w'] ∧ RelV x u ∧ RelV y w' := by
  cases r with
  | cons r1 r2 =>
    cases r2 with
    | cons r3 r4 => cases r4; exact ⟨_,_,rfl,r1,r3⟩
theorem call_abs : CallR X (.builtin "abs") (fun xs H Q => ∃ i,xs = [.int i] ∧ Q (.int (if i < 0 then -i else i)) H) := by
  (try refine ⟨?_⟩); intro pins s σ H xs us Q I r h
  obtain ⟨i,rfl,q⟩ := h
  obtain ⟨u,rfl,t,rfl⟩ := vals1 r
  exact call_abs_int fun u tk => ⟨.int (if i < 0 then -i else i),H,I.tok _,⟨_,rfl⟩,q⟩
theorem call_max2 (hc : X.calm = true) : CallR X (.builtin "max") (fun xs H Q => ∃ i j,xs = [.int i,.int j] ∧ Q (.int (if j > i then j else i)) H) := by
  (try refine ⟨?_⟩); intro pins s σ H xs us Q I r h
  obtain ⟨i,j,rfl,q⟩ := h
  obtain ⟨u,w',rfl,⟨t,rfl⟩,⟨t',rfl⟩⟩ := vals2 r
  refine max_two_ints (I.ok.hd hc) fun h' tk k => ⟨_,H,I.kept k,?_,q⟩
  by_cases hj : j > i
  · rw [if_pos hj,if_pos hj]; exact ⟨_,rfl⟩
  · rw [if_neg hj,if_neg hj]; exact ⟨_,rfl⟩
theorem call_min2 (hc : X.calm = true) : CallR X (.builtin "min") (fun xs H Q => ∃ i j,xs = [.int i,.int j] ∧ Q (.int (if j < i then j else i)) H) := by
  (try refine ⟨?_⟩); intro pins s σ H xs us Q I r h
  obtain ⟨i,j,rfl,q⟩ := h
  obtain ⟨u,w',rfl,⟨t,rfl⟩,⟨t',rfl⟩⟩ := vals2 r
  refine min_two_ints (I.ok.hd hc) fun h' tk k => ⟨_,H,I.kept k,?_,q⟩
  by_cases hj : j < i
  · rw [if_pos hj,if_pos hj]; exact ⟨_,rfl⟩
  · rw [if_neg hj,if_neg hj]; exact ⟨_,rfl⟩
theorem call_int1 : CallR X (.type "int") (fun xs H Q => (∃ i,xs = [.int i] ∧ Q (.int i) H) ∨ ∃ k,xs = [.bl k] ∧ Q (.int (if k then 1 else 0)) H) := by
  (try refine ⟨?_⟩); intro pins s σ H xs us Q I r h
  rcases h with ⟨i,rfl,q⟩ | ⟨k,rfl,q⟩
  · obtain ⟨u,rfl,t,rfl⟩ := vals1 r
    exact call_int_int ⟨.int i,H,I,⟨_,rfl⟩,q⟩
  · obtain ⟨u,rfl,r1⟩ := vals1 r
    cases r1
    exact call_int_bool ⟨.int (if k then 1 else 0),H,I.tok _,⟨_,rfl⟩,q⟩
end
structure ObjM (h : Heap) (x dx C : Addr) (mA : Str → Option Value) : Prop where
  obj : h.get? x = some (PySem.W.instObj C dx)
  ns : h.Ns1 dx mA
  ne : dx ≠ x
theorem lookIn_ns {h : Heap} {dx : Addr} {mA : Str → Option Value} (n : h.Ns1 dx mA) : ∃ od,h.get? dx = some od ∧ ∀ name,PySem.W.lookIn name od = some (mA name) := by
  obtain ⟨o,es,ep,ho,hd,hk,_,hm⟩ := n
  refine ⟨o,ho,fun name => ?_⟩
  have e := hm name
  unfold nsFind findBy at e
  rw [← Array.find?_toList] at e
  unfold PySem.W.lookIn
  rw [hd]
  dsimp only
  split
  · rename_i y q
    rw [q] at e
    exact congrArg some e
  · rename_i q
    rw [q] at e
    have a : es.toList.any (·.refKey) = false := by
      rw [List.any_eq_false]
      intro y hy
      obtain ⟨z,t,hkey⟩ := hk y (Array.mem_toList_iff.mp hy)
      simp [DictEntry.refKey,hkey]
    have a' : ¬ es.toList.any (·.refKey) = true := by rw [a]; exact Bool.false_ne_true
    rw [if_neg a']
    exact congrArg some e
theorem ObjM.look {h : Heap} {x dx C : Addr} {mA : Str → Option Value} (I : ObjM h x dx C mA) : ∃ od,PySem.W.InstAt h x (PySem.W.instObj C dx) C (some od) ∧ ∀ name,PySem.W.lookIn name od = some (mA name) :=
  let ⟨od,ho,hl⟩ := lookIn_ns I.ns
  ⟨od,⟨I.obj,rfl,rfl,ho⟩,hl⟩
section
variable {prog : Program} {w : World} {A : Around} {E : Value → Shared → Prop} {s : Shared} {K : PySem.W.Frag} {x dx C f : Addr} {mA : Str → Option Value} {name : Str} {v : Value}
end
theorem RelO.some_of {v : V} {o : Option Value} (r : RelO (some v) o) : ∃ u,o = some u ∧ RelV v u := by
  cases o with
  | none => exact (show False from r).elim
  | some u => exact ⟨u,rfl,r⟩
section
variable {P : Program} {w : World} {H H' : Hp} {h h' : Heap} {a C dx : Addr} {fs fs' : List (Str × V)}
theorem ins_get (hok : HOk P w H h) (e : H a = some (.ins C dx fs)) : ∃ mA,ObjM h a dx C mA ∧ (∀ f,RelO (fs.lookup f) (mA f)) ∧ PySem.Within mA (fs.map (·.1)) ∧ fs.length ≤ 1000 ∧ H dx = some (.own a) := by
  obtain ⟨d,z,ne,ob,mA,n,r,q⟩ := (show ObjOk P w H h a (.ins C dx fs) from hok a _ e)
  exact ⟨mA,⟨ob,n,ne⟩,r,q,z,d⟩
end
structure Cls (K : PySem.W.Frag) (C : Addr) : Prop where
  pg : PySem.W.plainGet K C Str.empty = true
  hd : PySem.W.hasDictIn K C = true
  po : PySem.W.plainOver K C = true
  sa : PySem.W.findIn K (.ref C) "__setattr__" = some (some (.builtin "object.__setattr__"))
theorem Cls.get {K : PySem.W.Frag} {C : Addr} (c : Cls K C) (f : Str) : PySem.W.plainGet K C f = true := c.pg
section
variable {X : Cx} {pins : List (Addr × Obj)} {σ : St} {H : Hp} {s : Shared} {a C dx : Addr} {fs : List (Str × V)} {f : Str} {v : V} {A : Around} {E : Value → Shared → Prop}
end
section
variable {X : Cx} {o e value : Expr} {f : Str} {pos pos' tpos : Pos} {ta tv : TE}
end
section
variable {X : Cx} {pins : List (Addr × Obj)} {σ : St} {H : Hp} {s : Shared} {A : Around} {E : Value → Shared → Prop} {Q : Value → Shared → Prop} {c : Value} {b : Bool}
inductive TyOf (K : PySem.W.Frag) (H : Hp) : V → Value → Prop where
  | non : TyOf K H .non (.type "NoneType")
  | bl (x : Bool) : TyOf K H (.bl x) (.type "bool")
  | int (i : Int) : TyOf K H (.int i) (.type "int")
  | str (x : Str) : TyOf K H (.str x) (.type "str")
  | flt (x : UInt64) : TyOf K H (.flt x) (.type "float")
  | lst {a : Addr} {xs : List V} (e : H a = some (.lst xs)) : TyOf K H (.ref a) (.type "list")
  | frz {a : Addr} {o : Obj} {xs : List V} (e : H a = some (.frz o (.lst xs))) : TyOf K H (.ref a) (.type "list")
  | tup {a : Addr} {xs : List V} (e : H a = some (.tup xs)) : TyOf K H (.ref a) (.type "tuple")
  | dK {a : Addr} {kvs : List (Key × V)} (e : H a = some (.dK kvs)) : TyOf K H (.ref a) (.type "dict")
  | dT {a : Addr} {kvs : List (List Key × V)} (e : H a = some (.dT kvs)) : TyOf K H (.ref a) (.type "dict")
  | ins {a C dx : Addr} {fs : List (Str × V)} (e : H a = some (.ins C dx fs)) (cl : Cls K C) (ha : PySem.W.findIn K (.ref C) "__class__" = some (some (.builtin "object.__class__")))
      (hn : PySem.W.specialIn K (.builtin "object.__class__") "__get__" = some (some (.builtin "getset_descriptor.__get__"))) (htk : PySem.W.takesIn K (.builtin "object.__class__") = some true)
      (hm : PySem.W.mroIn K C (.type "object") = some true) : TyOf K H (.ref a) (.ref C)
theorem isinst_ok {x : V} {u t : Value} (I : Inv X pins σ H s) (rx : RelV x u) (ty : TyOf X.K H x t) (e : PySem.W.kitOne X.K t c = some b) (h : ∀ tk,Q (.bool b) { s with toks := tk }) :
    wpAny (model X.prog X.w) A (call (.builtin "isinstance") [u,c]) Q E s := by
  cases ty with
  | non => cases (show u = Value.none from rx); exact PySem.W.kia_one PySem.W.kitx_none I.kIn True.intro e (fun z => nomatch z) h
  | bl y => cases (show u = Value.bool y from rx); exact PySem.W.kia_one PySem.W.kitx_bool I.kIn True.intro e (fun z => nomatch z) h
  | int i => obtain ⟨t,q⟩ := (show ∃ t,u = Value.int i t from rx); cases q; exact PySem.W.kia_one PySem.W.kitx_int I.kIn True.intro e (fun z => nomatch z) h
  | str y => obtain ⟨t,q⟩ := (show ∃ t,u = Value.str y t from rx); cases q; exact PySem.W.kia_one PySem.W.kitx_str I.kIn True.intro e (fun z => nomatch z) h
  | flt y => obtain ⟨t,q⟩ := (show ∃ t,u = Value.float y t from rx); cases q; exact PySem.W.kia_one PySem.W.kitx_float I.kIn True.intro e (fun z => nomatch z) h
  | @lst a xs ea =>
    cases (show u = Value.ref a from rx)
    obtain ⟨_,_,n,_,h1⟩ := (show ObjOk X.prog X.w H s.heap a (.lst xs) from I.hok a _ ea)
    exact PySem.W.kia_one PySem.W.kitx_list I.kIn ⟨_,h1,rfl⟩ e (fun z => nomatch z) h
  | @frz a ob xs ea =>
    cases (show u = Value.ref a from rx)
    obtain ⟨_,_,_,n,_,h1⟩ := (show ObjOk X.prog X.w H s.heap a (.frz ob (.lst xs)) from I.hok a _ ea)
    exact PySem.W.kia_one PySem.W.kitx_list I.kIn ⟨_,h1,rfl⟩ e (fun z => nomatch z) h
  | @tup a xs ea =>
    cases (show u = Value.ref a from rx)
    obtain ⟨_,_,_,p⟩ := (show ObjOk X.prog X.w H s.heap a (.tup xs) from I.hok a _ ea)
    obtain ⟨o,h1,h2,_⟩ := p
    exact PySem.W.kia_one PySem.W.kitx_tuple I.kIn ⟨o,h1,h2⟩ e (fun z => nomatch z) h
  | @dK a kvs ea =>
    cases (show u = Value.ref a from rx)
    obtain ⟨_,_,vs,_,p⟩ := (show ObjOk X.prog X.w H s.heap a (.dK kvs) from I.hok a _ ea)
    obtain ⟨o,es,ep,h1,h2,_⟩ := p
    exact PySem.W.kia_one PySem.W.kitx_dict I.kIn ⟨o,h1,h2.1⟩ e (fun z => nomatch z) h
  | @dT a kvs ea =>
    cases (show u = Value.ref a from rx)
    obtain ⟨_,_,xs,_,o,es,ep,h1,h2,_⟩ := (show ObjOk X.prog X.w H s.heap a (.dT kvs) from I.hok a _ ea)
    exact PySem.W.kia_one PySem.W.kitx_dict I.kIn ⟨o,h1,h2.1⟩ e (fun z => nomatch z) h
  | @ins a C dx fs ea cl ha hn htk hm =>
    cases (show u = Value.ref a from rx)
    obtain ⟨mA,O,_⟩ := ins_get I.hok ea
    obtain ⟨od,J,_⟩ := O.look
    exact PySem.W.kia_one (PySem.W.kitx_own (cl.get _) cl.hd ha hn htk hm) I.kIn J e (fun z => nomatch z) h
end
structure Room (k : Nat) (A : Around) : Prop where
  hd : A.handled = none
  dp : A.depth + 3 * k + 5 < recursionLimit
  un : A.units + 16 * k + 200 < cLine
  gd : A.guards = some []
theorem Room.mono {j k : Nat} {A : Around} (r : Room k A) (h : j ≤ k) : Room j A := ⟨r.hd,by have := r.dp; omega,by have := r.un; omega,r.gd⟩
theorem Room.deeper {k : Nat} {A : Around} (r : Room (k + 1) A) (env : Env) : Room k (A.deeper env) :=
  ⟨r.hd,by have := r.dp; show A.depth + 1 + 3 * k + 5 < _; omega,by have := r.un; show A.units + 3 + 16 * k + 200 < _; omega,r.gd⟩
theorem Room.depth {k : Nat} {A : Around} (r : Room k A) : A.depth < recursionLimit := by have := r.dp; omega
theorem Room.units {k : Nat} {A : Around} (r : Room k A) : A.units + 64 < cLine := by have := r.un; omega
def tNil : TA := fun _ H Q => Q [] H
def tCons (ta : TE) (tr : TA) : TA := fun σ H Q => ta σ H fun x H1 => tr σ H1 fun xs H2 => Q (x :: xs) H2
section
variable {X : Cx} {e : Expr} {es : List Expr} {te : TE} {t : TA} {pos : Pos}
theorem pa_nil : PA X [] tNil := ⟨fun _ _ _ _ H Q I h => Calls.spliced_nil ⟨[],H,I,.nil,h⟩⟩
theorem pa_cons (ha : PE X e te) (hr : PA X es t) (hs : starEach (e :: es) X.env = (false,eval e X.env) :: starEach es X.env := by rfl) : PA X (e :: es) (tCons te t) := by
  (try refine ⟨?_⟩); intro pos pins s σ H Q I h
  rw [hs]
  show wpAny _ _ (spliced ((false,eval e X.env) :: backTo pos (starEach es X.env))) _ _ s
  refine Calls.spliced_cons (thn (ha pins s σ H _ I h) fun u s1 ⟨x,H1,I1,r1,q1⟩ => ?_)
  exact thn (hr pos pins s1 σ H1 _ I1 q1) fun us s2 ⟨xs,H2,I2,r2,q2⟩ => ⟨x :: xs,H2,I2,.cons r1 r2,q2⟩
def tTup (t : TA) : TE := fun σ H Q => t σ H fun xs H1 => xs.length ≤ sizeLine ∧ ∀ p,H1 p = none → Q (.ref p) (upd H1 p (.tup xs))
def tLst (t : TA) : TE := fun σ H Q => t σ H fun xs H1 => xs.length ≤ sizeLine ∧ ∀ p,H1 p = none → Q (.ref p) (upd H1 p (.lst xs))
theorem pe_tup {x1} (h : PA X es t) : PE X (.Tuple es x1 pos) (tTup t) := by
  (try refine ⟨?_⟩); intro pins s σ H Q I hq
  refine wpAny_Tuple_spliced (thn (h pos pins s σ H _ I hq) fun us s1 ⟨xs,H1,I1,r,z,q⟩ => ⟨by rw [← r.length]; exact z,?_⟩)
  have hf : H1 s1.heap.objs.size = none := I1.hok.fresh (Nat.le_refl _)
  refine ⟨.ref s1.heap.objs.size,upd H1 s1.heap.objs.size (.tup xs),I1.laid (t' := s1.toks) (fun b u e => Heap.get?_push_of_some _ e) (Nat.le_refl _) ?_,rfl,q _ hf⟩
  exact ⟨z,us,r,⟨_,Heap.get?_push_size _ rfl,rfl,_,rfl⟩⟩
theorem pe_lst (h : PA X es t) : PE X (.List es pos) (tLst t) := by
  (try refine ⟨?_⟩); intro pins s σ H Q I hq
  refine wpAny_List_spliced (thn (h pos pins s σ H _ I hq) fun us s1 ⟨xs,H1,I1,r,z,q⟩ => ⟨by rw [← r.length]; exact z,?_⟩)
  have hf : H1 s1.heap.objs.size = none := I1.hok.fresh (Nat.le_refl _)
  refine ⟨.ref s1.heap.objs.size,upd H1 s1.heap.objs.size (.lst xs),I1.laid (t' := s1.toks) (fun b u e => Heap.get?_push_of_some _ e) (Nat.le_refl _) ?_,rfl,q _ hf⟩
  exact ⟨z,us,0,r,Heap.get?_push_size _ rfl⟩
end
abbrev Sp := List V → Hp → VK → XK → Prop
abbrev CXT := List Env → Hp → Shared → XK → Value → Shared → Prop
structure Env0 (P : Program) (w : World) (K : PySem.W.Frag) (mg : Str → Option Value) (base : Heap) (A : Around) (outer : List Env) (s : Shared) (H : Hp) : Prop where
  frames : A.frames = some outer
  mod : Mod K mg base
  bs : ∀ b o,base.get? b = some o → s.heap.get? b = some o ∧ H b = none
  bsz : base.objs.size ≤ s.heap.objs.size
  funs : s.heap.FunFrames base outer
  frf : ∀ b ∈ frs outer,H b = none
  hok : HOk P w H s.heap
  bare : AllBare s.gens
def CE (outer : List Env) (P : Program) (w : World) (H : Hp) (s : Shared) (Q : VK) (u : Value) (s' : Shared) : Prop :=
  ∃ v H',s'.os = s.os ∧ AllBare s'.gens ∧ Un (frs outer) [] H H' s.heap s'.heap ∧ HOk P w H' s'.heap ∧ RelV v u ∧ Q v H'
def CR (CX : CXT) (outer : List Env) (P : Program) (w : World) (H : Hp) (s : Shared) (Q : VK) (E : XK) (r : Result) (s' : Shared) : Prop :=
  match r with
  | .ok (.ret u) => CE outer P w H s Q u s'
  | .ok _ => False
  | .error e => CX outer H s E e s'
structure FnOk (P : Program) (w : World) (K : PySem.W.Frag) (mg : Str → Option Value) (base : Heap) (CX : CXT) (k : Nat) (f : Addr) (fd : FuncData) (ps : List Str) (sp : Sp) : Prop where
  len : ∀ vs H Q E,sp vs H Q E → vs.length = ps.length
  run : ∀ (A : Around) (outer : List Env) (s : Shared) (H : Hp) (args : Args) (us : List Value) (vs : List V) (Q : VK) (E : XK),Room k A → Env0 P w K mg base A outer s H → BindsTo s fd args (ps.zip us) → Vals vs us → sp vs H Q E →
    codeAny (model P w) A (.call (.ref f) args) (CR CX outer P w H s Q E) s
theorem FnOk.imp {P : Program} {w : World} {K : PySem.W.Frag} {mg : Str → Option Value} {base : Heap} {CX : CXT} {k : Nat} {f : Addr} {fd : FuncData} {ps : List Str} {sp sp' : Sp} (F : FnOk P w K mg base CX k f fd ps sp)
    (h : ∀ vs H Q E,sp' vs H Q E → sp vs H Q E) : FnOk P w K mg base CX k f fd ps sp' :=
  ⟨fun vs H Q E q => F.len vs H Q E (h _ _ _ _ q),fun A outer s H args us vs Q E hr he hb hv hs => F.run A outer s H args us vs Q E hr he hb hv (h _ _ _ _ hs)⟩
section
variable {X : Cx} {pins : List (Addr × Obj)} {σ : St} {H : Hp} {s s' : Shared}
theorem Inv.env0 (I : Inv X pins σ H s) : Env0 X.prog X.w X.K X.mg X.base X.A X.stack s H :=
  ⟨I.ok.frames,I.ok.mod,I.bs,Nat.le_trans I.ok.bsz I.sz,I.stack,I.stkFree,I.hok,I.bare⟩
theorem Inv.after {Q : VK} {u : Value} (I : Inv X pins σ H s) (h : CE X.stack X.prog X.w H s Q u s') : EP X pins σ Q u s' := by
  obtain ⟨v,H',os,bare,un,hok,r,q⟩ := h
  obtain ⟨hh,g,d,t,os'⟩ := s'
  obtain rfl : os' = s.os := os
  exact ⟨v,H',I.call (h' := hh) (g' := g) (d' := d) (t' := t) (ch := []) un hok bare (fun b z => absurd z (by simp)),r,q⟩
end
def tCall (sp : Sp) (dvs : List V) (E : XK) (t : TA) : TE := fun σ H Q => t σ H fun vs H1 => sp (vs ++ dvs) H1 Q E
def Binds (K : PySem.W.Frag) (fd : FuncData) (ps : List Str) (ds : List Value) : Prop :=
  ∀ (s : Shared) (us : List Value),K.In s.heap → (us ++ ds).length = ps.length → BindsTo s fd ⟨us,[]⟩ (ps.zip (us ++ ds))
theorem Binds.all {K : PySem.W.Frag} {fd : FuncData} {ps : List Str} (h : ∀ us : List Value,us.length = ps.length → bindArgs fd ⟨us,[]⟩ = pure (ps.zip us)) : Binds K fd ps [] := fun s us _ hl => by
  rw [List.append_nil] at hl ⊢
  exact .of_eq (h us hl)
def Passes (CX : CXT) (X : Cx) (E : XK) : Prop := ∀ (pins : List (Addr × Obj)) (σ : St) (H : Hp) (s : Shared) (e : Value) (s' : Shared),Inv X pins σ H s → CX X.stack H s E e s' → X.xe e s'
section
variable {X : Cx} {CX : CXT} {k : Nat} {f C : Addr} {fd : FuncData} {ps : List Str} {sp : Sp} {dvs : List V} {ds : List Value} {E : XK} {x m : Str} {p pos apos : Pos} {e o : Expr} {es : List Expr} {ta : TE} {t : TA}
theorem run_fn {pins : List (Addr × Obj)} {σ : St} {H : Hp} {s : Shared} {Q : VK} {us : List Value} {vs : List V} (F : FnOk X.prog X.w X.K X.mg X.base CX k f fd ps sp) (hr : Room k X.A) (hb : Binds X.K fd ps ds) (hd : Vals dvs ds) (hx : Passes CX X E)
    (I : Inv X pins σ H s) (r : Vals vs us) (h : sp (vs ++ dvs) H Q E) : wpAny (model X.prog X.w) X.A (call (.ref f) us) (EP X pins σ Q) X.xe s := by
  have r2 : Vals (vs ++ dvs) (us ++ ds) := r.append hd
  have hl : (us ++ ds).length = ps.length := by rw [← r2.length]; exact F.len _ _ _ _ h
  refine wpAny_call (codeAny_mono (F.run X.A X.stack s H ⟨us,[]⟩ (us ++ ds) (vs ++ dvs) Q E hr I.env0 (hb s us I.kIn hl) r2 h) fun r s' hq => ?_)
  cases r with
  | error e => exact hx pins σ H s e s' I hq
  | ok fl =>
    cases fl with
    | ret u => exact I.after hq
    | next => exact False.elim hq
    | brk => exact False.elim hq
    | cont => exact False.elim hq
theorem pe_call (F : FnOk X.prog X.w X.K X.mg X.base CX k f fd ps sp) (hr : Room k X.A) (hg : Gl X x) (hm : X.mg x = some (.ref f)) (hk : PySem.W.keepIn X.K (.ref f) = true) (hb : Binds X.K fd ps ds) (hd : Vals dvs ds) (hx : Passes CX X E)
    (ha : PA X (e :: es) t) (hdb : (x == ("__debug__" : Str)) = false := by decide) (he : starEach (e :: es) X.env = (false,eval e X.env) :: starEach es X.env := by rfl) (hpl : (backTo pos (starEach es X.env)).any (·.1) = false := by rfl) :
    PE X (.Call (.Name x p) (e :: es) [] pos) (tCall sp dvs E t) := by
  (try refine ⟨?_⟩); intro pins s σ H Q I h
  refine wpAny_Call_Name_kw (ld_glob I hg hm ?_ hdb)
  refine PySem.W.callWith_K (h₀ := X.base) I.ok.mod.kin hk (thn (ha pos pins s σ H _ I h) fun us s1 ⟨vs,H1,I1,r,q⟩ => ⟨I1.kIn,?_⟩) he hpl
  exact run_fn F hr hb hd hx I1 r q
end
section
variable {X : Cx} {CX : CXT} {k : Nat} {f C : Addr} {fd : FuncData} {ps ks : List Str} {sp : Sp} {E : XK} {x m : Str} {p pos apos kpos : Pos} {e o : Expr} {es : List Expr} {kws : List Keyword} {te ta : TE} {t tk : TA} {nm : Option Str}
variable {g : List Value → List Value → List Value} {gV : List V → List V → List V}
end
structure FnScope (N P : List Str) (sc : Scope) : Prop where
  kind : sc.kind = .function
  co : sc.isCoroutine = false
  gen : sc.isGenerator = false
  nd : N.Nodup
  pre : N.take P.length = P
  par : ∀ x ∈ P,sc.names.lookup x = some .local ∨ sc.names.lookup x = some .cell
  nofree : ∀ y ∈ sc.names,y.2 ≠ .free
theorem bindL_out {kindOf : Str → Option NameKind} {x : Str} : ∀ {binds : List (Str × Value)} {m : Str → Option Value},(∀ v,(x,v) ∉ binds) → bindL kindOf binds m x = m x
  | [],_,_ => rfl
  | (n,v) :: r,m,h => by
    unfold bindL
    rw [bindL_out fun w hw => h w (List.mem_cons_of_mem _ hw)]
    split
    · have : x ≠ n := by rintro rfl; exact h v List.mem_cons_self
      simp [this]
    · rfl
theorem bindC_out {kindOf : Str → Option NameKind} {x : Str} : ∀ {binds : List (Str × Value)} {m : Str → Option Value},(∀ v,(x,v) ∉ binds) → bindC kindOf binds m x = m x
  | [],_,_ => rfl
  | (n,v) :: r,m,h => by
    unfold bindC
    rw [bindC_out fun w hw => h w (List.mem_cons_of_mem _ hw)]
    split
    · rfl
    · have : x ≠ n := by rintro rfl; exact h v List.mem_cons_self
      simp [this]
theorem bindL_get {kindOf : Str → Option NameKind} {x : Str} {v : Value} : ∀ {P : List Str} {vs : List Value} {i : Nat} {m : Str → Option Value},P.Nodup → P[i]? = some x → vs[i]? = some v → kindOf x = some .local →
    bindL kindOf (P.zip vs) m x = some v
  | [],_,_,_,_,h,_,_ => by simp at h
  | _ :: _,[],_,_,_,_,h,_ => by simp at h
  | p :: P,w :: vs,0,m,nd,h1,h2,hk => by
    simp at h1 h2; subst h1; subst h2
    show bindL kindOf ((p,w) :: P.zip vs) m p = _
    unfold bindL
    rw [bindL_out fun v hv => (List.nodup_cons.mp nd).1 (List.of_mem_zip hv).1,if_pos hk]
    simp
  | p :: P,w :: vs,i + 1,m,nd,h1,h2,hk => by
    show bindL kindOf ((p,w) :: P.zip vs) m x = _
    unfold bindL
    exact bindL_get (i := i) (List.nodup_cons.mp nd).2 (by simpa using h1) (by simpa using h2) hk
theorem bindC_get {kindOf : Str → Option NameKind} {x : Str} {v : Value} : ∀ {P : List Str} {vs : List Value} {i : Nat} {m : Str → Option Value},P.Nodup → P[i]? = some x → vs[i]? = some v → kindOf x ≠ some .local →
    bindC kindOf (P.zip vs) m x = some v
  | [],_,_,_,_,h,_,_ => by simp at h
  | _ :: _,[],_,_,_,_,h,_ => by simp at h
  | p :: P,w :: vs,0,m,nd,h1,h2,hk => by
    simp at h1 h2; subst h1; subst h2
    show bindC kindOf ((p,w) :: P.zip vs) m p = _
    unfold bindC
    rw [bindC_out fun v hv => (List.nodup_cons.mp nd).1 (List.of_mem_zip hv).1,if_neg hk]
    simp
  | p :: P,w :: vs,i + 1,m,nd,h1,h2,hk => by
    show bindC kindOf ((p,w) :: P.zip vs) m x = _
    unfold bindC
    exact bindC_get (i := i) (List.nodup_cons.mp nd).2 (by simpa using h1) (by simpa using h2) hk
def start (N : List Str) (vs : List V) : St := vs.map some ++ List.replicate (N.length - vs.length) none
def cxOf (CX : CXT) (P : Program) (w : World) (K : PySem.W.Frag) (mg : Str → Option Value) (base : Heap) (N : List Str) (qual : Str) (scope : Scope) (f : Addr) (cd : Value) (A : Around) (outer : List Env) (s : Shared) (H : Hp) (E : XK) : Cx where
  prog := P
  w := w
  K := K
  mg := mg
  base := base
  A := A.deeper (envOfC qual scope s.heap.objs.size f cd)
  N := N
  s₀ := s
  H₀ := H
  env := envOfC qual scope s.heap.objs.size f cd
  outer := outer
  stack := envOfC qual scope s.heap.objs.size f cd :: outer
  ex := []
  calm := true
  fn := fun _ => true
  pn := []
  xe := fun e s' => wpAny (model P w) (A.deeper (envOfC qual scope s.heap.objs.size f cd)) (leaving (envOfC qual scope s.heap.objs.size f cd) e) (fun _ s'' => CX outer H s E e s'') (fun e' s'' => CX outer H s E e' s'') s'
theorem cell_has {sc : Scope} {n : Nat} {x : Str} (h : sc.names.lookup x = some .cell) : ∃ c,(cellsFrom n sc.names []).lookup x = some c := by
  have q := PySem.W.cellsFrom_some sc.names n [] (.inl h)
  exact Option.isSome_iff_exists.mp q
theorem inv_start {CX : CXT} {P : Program} {w : World} {K : PySem.W.Frag} {mg : Str → Option Value} {base : Heap} {N ps : List Str} {qual : Str} {scope : Scope} {f : Addr} {cd : Value} {A : Around} {outer : List Env} {s s1 : Shared} {H : Hp} {E : XK} {us : List Value} {vs : List V}
    (S : FnScope N ps scope) (hd : A.handled = none) (e0 : Env0 P w K mg base A outer s H) (hl : vs.length = ps.length) (r : Vals vs us)
    (x : InCallC s s.heap.objs.size (bindL (envOfC qual scope s.heap.objs.size f cd).kindOf (ps.zip us) fun _ => none) (cellsFrom (s.heap.objs.size + 1) scope.names []) (bindC (envOfC qual scope s.heap.objs.size f cd).kindOf (ps.zip us) fun _ => none) s1) :
    Inv (cxOf CX P w K mg base N qual scope f cd A outer s H E) [] (start N vs) H s1 := by
  have hpl : ps.length ≤ N.length := by have := congrArg List.length S.pre; rw [List.length_take] at this; omega
  obtain ⟨h1,tk,rfl,hk⟩ := x.done
  have noA : ∀ b : Addr,b ∉ (cxOf CX P w K mg base N qual scope f cd A outer s H E).ex := fun b z => absurd (show b ∈ ([] : List Addr) from z) (by simp)
  refine ⟨⟨e0.mod,S.kind,rfl,rfl,Nat.le_refl _,fun y z c h1 h2 => ?_,fun y hy => ?_,fun y c _ h => ?_,fun _ => hd,Around.frames_deeper e0.frames,.inr ⟨rfl,rfl⟩,fun b z => absurd z (noA b),e0.bs,e0.bsz,fun b _ _ => noA b,fun b z => absurd z (noA b),e0.funs,e0.frf⟩,
    rfl,e0.bare,Un.kept hk,⟨_,x.toInCall.ns,fun i y v h1 h2 h3 => ?_⟩,fun y c h => ⟨_,x.cell y c h⟩,e0.hok.fresh (Nat.le_refl _),fun y c h => ?_,fun p hp => absurd (show p ∈ ([] : List (Addr × Obj)) from hp) (by simp),e0.hok.kept hk,?_⟩
  · exact name_of_addr x.apart (PySem.mem_of_lookup h1) (PySem.mem_of_lookup h2)
  · have hy : scope.names.lookup y = some .cell ∨ scope.names.lookup y = some .free := hy
    rcases hy with hy | hy
    · exact cell_has hy
    · exact absurd rfl (S.nofree _ (PySem.mem_of_lookup hy))
  · exact Nat.le_of_lt (x.above y c (PySem.mem_of_lookup h))
  · have hi : i < vs.length := by
      unfold start at h2
      by_cases hi : i < vs.length
      · exact hi
      · rw [List.getElem?_append_right (by simpa using hi)] at h2
        rw [List.getElem?_replicate] at h2
        split at h2 <;> cases h2
    have ha : vs[i]? = some v := by
      unfold start at h2
      rw [List.getElem?_append_left (by simpa using hi),List.getElem?_map] at h2
      cases e : vs[i]? with
      | none => rw [e] at h2; cases h2
      | some a => rw [e] at h2; cases h2; rfl
    obtain ⟨u,hu,rv⟩ := r.get ha
    have hp : ps[i]? = some y := by
      rw [← S.pre,List.getElem?_take_of_lt (by omega)]; exact h1
    have ndP : ps.Nodup := by rw [← S.pre]; exact S.nd.sublist (List.take_sublist _ _)
    refine ⟨u,rv,?_⟩
    rcases S.par y (List.mem_of_getElem? hp) with k | k
    · exact .inl ⟨k,bindL_get ndP hp hu k⟩
    · obtain ⟨c,e⟩ := cell_has (n := s.heap.objs.size + 1) k
      refine .inr ⟨.inl k,c,e,?_⟩
      have q := x.cell y c e
      rw [bindC_get ndP hp hu (by show scope.names.lookup y ≠ _; rw [k]; decide)] at q
      exact q
  · exact e0.hok.fresh (Nat.le_of_lt (x.above y c (PySem.mem_of_lookup h)))
  · unfold start
    show _ = N.length
    rw [List.length_append,List.length_map,List.length_replicate]
    omega
theorem fn_of {CX : CXT} {P : Program} {w : World} {K : PySem.W.Frag} {mg : Str → Option Value} {base : Heap} {k : Nat} {f : Addr} {name qual : Str} {params : Arguments} {body : List Stmt} {scope : Scope} {dV kV doc pm cdv ct oc : Value} {an od : Option Addr}
    {osl : Array (Option Value)} {N ps : List Str} {sp : Sp} (lk : K.lookup f = some ⟨oc,od,.func (PySem.W.fnOf name qual params body scope dV kV doc pm an cdv ct),osl⟩) (hcd : PySem.W.codeIn K cdv qual = true) (S : FnScope N ps scope)
    (len : ∀ vs H Q E,sp vs H Q E → vs.length = ps.length)
    (hbody : ∀ (A : Around) (outer : List Env) (s : Shared) (H : Hp) (vs : List V) (Q : VK) (E : XK),Room k (A.deeper (envOfC qual scope s.heap.objs.size f cdv)) → sp vs H Q E →
      ∃ t,PSs (cxOf CX P w K mg base N qual scope f cdv A outer s H E) body t ∧ t { nx := fun _ H' => Q .non H',rt := Q } (start N vs) H) :
    FnOk P w K mg base CX (k + 1) f (PySem.W.fnOf name qual params body scope dV kV doc pm an cdv ct) ps sp := by
  refine ⟨len,fun A outer s H args us vs Q E hr e0 hb r hsp => ?_⟩
  have hl := len _ _ _ _ hsp
  have KX : K.In s.heap := e0.mod.kin.keeps fun b o e => (e0.bs b o e).1
  have lim : s.heap.NoLimit := e0.mod.nolimit.keeps fun b o e => (e0.bs b o e).1
  have hkind : ∀ y ∈ ps.zip us,scope.names.lookup y.1 = some .local ∨ (scope.names.lookup y.1 = some .cell ∧ ((cellsFrom (s.heap.objs.size + 1) scope.names []).lookup y.1).isSome = true) := fun ⟨n,v⟩ hy => by
    rcases S.par n (List.of_mem_zip hy).1 with q | q
    · exact .inl q
    · exact .inr ⟨q,PySem.W.cellsFrom_some _ _ _ (.inl q)⟩
  refine codeAny_call_function hr.depth (KX _ _ lk) rfl S.co S.gen rfl (PySem.W.codeRec_of KX hcd) (hb _ _ _ _ ?_)
  refine wpAny_newFunctionEnv_cells S.kind hkind fun env he s1 x => ?_
  subst he
  refine ⟨lim.keeps x.toInCall.keep,codeAny_func ?_⟩
  obtain ⟨t,ht,hq⟩ := hbody A outer s H vs Q E (hr.deeper _) hsp
  have I : Inv (cxOf CX P w K mg base N qual scope f cdv A outer s H E) [] (start N vs) H s1 := inv_start S hr.hd e0 hl r x
  refine wpAny_mono (ht [] s1 (start N vs) H _ I hq) (fun fl s' hs => ?_) fun e s' hs => hs
  have fin : ∀ {σ' : St} {H' : Hp} {v : V} {u : Value},Inv (cxOf CX P w K mg base N qual scope f cdv A outer s H E) [] σ' H' s' → RelV v u → Q v H' → CE outer P w H s Q u s' :=
    fun {σ' H' v u} J rv q => ⟨v,H',J.os,J.bare,J.base,J.hok,rv,q⟩
  cases fl with
  | ret u =>
    obtain ⟨v,σ',H',J,rv,q⟩ := hs
    exact fin J rv q
  | next =>
    obtain ⟨σ',H',J,q⟩ := hs
    exact fin (v := V.non) (u := Value.none) J rfl q
  | brk =>
    obtain ⟨_,_,_,q⟩ := hs
    exact False.elim q
  | cont =>
    obtain ⟨_,_,_,q⟩ := hs
    exact False.elim q
section
variable {X : Cx} {x : Str} {p pos : Pos} {e : Expr} {es : List Expr} {t : TA} {id T : String} {r : List V → Hp → VK → Prop}
def tCB (r : List V → Hp → VK → Prop) (t : TA) : TE := fun σ H Q => t σ H fun vs H1 => r vs H1 Q
theorem pe_callB (hc : CallR X (.builtin id) r) (hg : Gl X x) (hm : X.mg x = none) (hv : bootBuiltins x = some (.builtin id)) (ha : PA X (e :: es) t) (hn : x ≠ "__name__" := by decide) (hdb : (x == ("__debug__" : Str)) = false := by decide)
    (he : starEach (e :: es) X.env = (false,eval e X.env) :: starEach es X.env := by rfl) (hpl : (backTo pos (starEach es X.env)).any (·.1) = false := by rfl) : PE X (.Call (.Name x p) (e :: es) [] pos) (tCB r t) := by
  (try refine ⟨?_⟩); intro pins s σ H Q I h
  refine wpAny_Call_Name_kw (ld_blt I hg hm hv ?_ hn hdb)
  exact PyProof.Rows.callWith_builtin1 (thn (ha pos pins s σ H _ I h) fun us s1 ⟨vs,H1,I1,r1,q1⟩ => hc pins s1 σ H1 vs us Q I1 r1 q1) he hpl
theorem pe_callTy (hc : CallR X (.type T) r) (hg : Gl X x) (hm : X.mg x = none) (hv : bootBuiltins x = some (.type T)) (ha : PA X (e :: es) t) (hn : x ≠ "__name__" := by decide) (hdb : (x == ("__debug__" : Str)) = false := by decide)
    (he : starEach (e :: es) X.env = (false,eval e X.env) :: starEach es X.env := by rfl) (hpl : (backTo pos (starEach es X.env)).any (·.1) = false := by rfl) : PE X (.Call (.Name x p) (e :: es) [] pos) (tCB r t) := by
  (try refine ⟨?_⟩); intro pins s σ H Q I h
  refine wpAny_Call_Name_kw (ld_blt I hg hm hv ?_ hn hdb)
  exact PyProof.Rows.callWith_type1 (thn (ha pos pins s σ H _ I h) fun us s1 ⟨vs,H1,I1,r1,q1⟩ => hc pins s1 σ H1 vs us Q I1 r1 q1) he hpl
end
end L2
namespace HT
open PySem PyProof.Rows
section
open PySem.SeqAt
open PySem.AutoSeq1 (wpAny_loadPart')
open PySem.MeetsSeq PySem.MeetsSeq2 PySem.MeetsSeq3
end
section
variable {prog : Program} {w : World} {A : Around} {E : Value → Shared → Prop} {s : Shared}
def sIx (n d : Nat) : Option Int → Nat
  | none => d
  | some v => if v < 0 then (v + (n : Int)).toNat else min v.toNat n
theorem sIx_none (n d : Nat) : sIx n d none = d := rfl
theorem sIx_nat (n d k : Nat) : sIx n d (some (k : Int)) = min k n := by
  show (if (k : Int) < 0 then ((k : Int) + (n : Int)).toNat else min (k : Int).toNat n) = min k n
  rw [if_neg (by omega),Int.toNat_natCast]
theorem sIx_le (n d : Nat) (hd : d ≤ n) (o : Option Int) : sIx n d o ≤ n := by
  cases o with
  | none => exact hd
  | some v =>
    show (if v < 0 then (v + (n : Int)).toNat else min v.toNat n) ≤ n
    by_cases hv : v < 0
    · rw [if_pos hv]; omega
    · rw [if_neg hv]; exact Nat.min_le_right _ _
theorem clip_eq (v : Int) (n d : Nat) : (if v < 0 then max (v + (n : Int)) 0 else min v (n : Int)) = ((sIx n d (some v) : Nat) : Int) := by
  show (if v < 0 then max (v + (n : Int)) 0 else min v (n : Int)) = (((if v < 0 then (v + (n : Int)).toNat else min v.toNat n) : Nat) : Int)
  by_cases hv : v < 0
  · simp only [if_pos hv]; omega
  · simp only [if_neg hv]; omega
theorem adjust_gen (lo hi : Option Int) (n : Nat) : Builtin.Slice.sliceAdjust lo hi 1 (n : Int) = (((sIx n 0 lo : Nat) : Int),((sIx n n hi : Nat) : Int)) := by
  have h1 : ¬ ((1 : Int) < 0) := by omega
  unfold Builtin.Slice.sliceAdjust
  simp only [h1,if_false]
  refine Prod.ext ?_ ?_
  · cases lo with
    | none => rfl
    | some v => exact clip_eq v n 0
  · cases hi with
    | none => rfl
    | some v => exact clip_eq v n n
theorem places_gen (i j : Nat) : Builtin.Slice.slicePlaces (i : Int) (j : Int) 1 = j - i := by
  unfold Builtin.Slice.slicePlaces
  have h1 : (1 : Int) > 0 := by omega
  simp only [h1,if_true,Int.ediv_one]
  split <;> omega
theorem slicePart_ {v : Value} {o : Option Int} {Q : Option Int → Shared → Prop} (p : IsPart v o) (h : Q o s) : wpAny (model prog w) A (Builtin.Slice.slicePartIndex v) Q E s := by
  cases p with
  | none => exact slicePart_none h
  | int i t => exact slicePart_int h
theorem sliceApplied_gen {sl : Addr} {vl vu : Value} {lo hi : Option Int} {n : Nat} {Q : Int × Int × Nat → Shared → Prop} (hs : s.heap.IsSliceOf sl vl vu .none) (pl : IsPart vl lo) (pu : IsPart vu hi)
    (h : Q (((sIx n 0 lo : Nat) : Int),1,sIx n n hi - sIx n 0 lo) s) : wpAny (model prog w) A (Builtin.Slice.sliceApplied (.ref sl) (pure (n : Int))) Q E s := by
  obtain ⟨os,hos,hcs,hds⟩ := id hs
  unfold Builtin.Slice.sliceApplied Builtin.Slice.sliceFields
  refine wpAny_bind (wpAny_bind (wpAny_field hos hds (x := vl) rfl (wpAny_bind (wpAny_field hos hds (x := vu) rfl (wpAny_bind (wpAny_field hos hds (x := .none) rfl (wpAny_pure ?_)))))))
  refine wpAny_bind (slicePart_none ?_)
  show wpAny _ _ (if ((1 : Int) == 0) = true then _ else _) _ _ s
  rw [if_neg (by decide)]
  refine wpAny_bind (slicePart_ pl (wpAny_bind (slicePart_ pu (wpAny_bind (wpAny_pure ?_)))))
  show wpAny _ _ (match Builtin.Slice.sliceAdjust lo hi 1 (n : Int) with | (lo,hi) => pure (lo,(1 : Int),Builtin.Slice.slicePlaces lo hi 1)) _ _ s
  rw [adjust_gen lo hi n]
  show wpAny _ _ (pure (((sIx n 0 lo : Nat) : Int),(1 : Int),Builtin.Slice.slicePlaces ((sIx n 0 lo : Nat) : Int) ((sIx n n hi : Nat) : Int) 1)) _ _ s
  rw [places_gen]
  exact wpAny_pure h
theorem pick_gen (xs : Array Value) (i k : Nat) : ((List.range k).filterMap fun (m : Nat) => xs[((i : Int) + (m : Int) * 1).toNat]?).toArray = ((xs.toList.drop i).take k).toArray := by
  have e : (fun (m : Nat) => xs[((i : Int) + (m : Int) * 1).toNat]?) = fun m => xs[i + m]? := by
    funext m
    have : ((i : Int) + (m : Int) * 1).toNat = i + m := by omega
    rw [this]
  rw [e]
  have := pick_run xs i k
  rw [List.filterMap_map] at this
  have e2 : ((fun x => xs[x]?) ∘ fun x => i + x) = fun m => xs[i + m]? := rfl
  rw [e2] at this
  rw [this]
theorem getItem_tuple_cut {t sl : Addr} {items : Array Value} {vl vu : Value} {lo hi : Option Int} {Q : Value → Shared → Prop} (ht : IsTup s.heap t items) (hs : s.heap.IsSliceOf sl vl vu .none) (pl : IsPart vl lo) (pu : IsPart vu hi)
    (hw : ¬ (sIx items.size 0 lo = 0 ∧ sIx items.size items.size hi = items.size))
    (h : Q (.ref s.heap.objs.size) { s with heap := s.heap.push { cls := .type "tuple",data := .seq ((items.toList.drop (sIx items.size 0 lo)).take (sIx items.size items.size hi - sIx items.size 0 lo)).toArray } })
    (hsz : items.size ≤ sizeLine) : wpAny (model prog w) A (getItem (.ref t) (.ref sl)) Q E s := by
  have htake : sizeOk (.seq ((items.toList.drop (sIx items.size 0 lo)).take (sIx items.size items.size hi - sIx items.size 0 lo)).toArray) := by
    show ((items.toList.drop (sIx items.size 0 lo)).take (sIx items.size items.size hi - sIx items.size 0 lo)).toArray.size ≤ sizeLine
    rw [List.size_toArray,List.length_take,List.length_drop,Array.length_toList]
    omega
  have hj : sIx items.size items.size hi ≤ items.size := sIx_le _ _ (Nat.le_refl _) hi
  obtain ⟨os,hos,hcs,hds⟩ := id hs
  have hTs : s.TypeIs (.ref sl) "slice" := ⟨os,hos,hcs⟩
  unfold getItem
  try with_reducible refine wpAny_holding ?_
  first | refine wpAny_bind (wpAny_pure ?_) | skip
  refine wpAny_bind (wpAny_sequenceKey ht.typeIs (by decide) ?_)
  refine wpAny_bind (wpAny_callSpecial?_slot (name := Str.ofString "__getitem__") ht.typeIs PyProof.Rows.slot_tuple_getitem
    (wpAny_call_entry PyProof.Rows.slot_tuple_getitem ht.typeIs entry_tuple_getitem ?_ (args_tuple_getitem _ _)))
  show wpAny _ _ (Builtin.Tuple.tupleItemsOf (.ref t) >>= _) _ _ s
  refine wpAny_bind (tupleItemsOf_ ht ?_)
  refine wpAny_bind (wpAny_typeOf hTs ?_)
  rw [if_pos (by decide)]
  refine wpAny_bind (sliceApplied_gen hs pl pu ?_)
  have hno : ¬ ((((sIx items.size 0 lo : Nat) : Int) == 0 && (1 : Int) == 1 && (sIx items.size items.size hi - sIx items.size 0 lo) == items.size) = true) := by
    intro q
    rw [Bool.and_eq_true,Bool.and_eq_true] at q
    have q1 : ((sIx items.size 0 lo : Nat) : Int) = 0 := eq_of_beq q.1.1
    have q2 : sIx items.size items.size hi - sIx items.size 0 lo = items.size := eq_of_beq q.2
    exact hw ⟨by omega,by omega⟩
  show wpAny _ _ (if (((sIx items.size 0 lo : Nat) : Int) == 0 && (1 : Int) == 1 && (sIx items.size items.size hi - sIx items.size 0 lo) == items.size) = true then _ else _) _ _ s
  rw [if_neg hno,pick_gen]
  first
    | exact wpAny_bind (m := Builtin.Tuple.tupleExact _) (wpAny_newObj_type (wpAny_pure ⟨_,rfl,wpAny_pure h⟩) htake)
    | exact wpAny_bind (m := Builtin.Tuple.tupleExact _) (wpAny_newObj_type (wpAny_bind (wpAny_pure (wpAny_pure ⟨_,rfl,wpAny_pure h⟩))) htake)
    | exact wpAny_bind (wpAny_bind (m := Builtin.Tuple.tupleExact _) (wpAny_newObj_type (wpAny_pure (wpAny_pure ⟨_,rfl,wpAny_pure h⟩)) htake))
    | exact wpAny_bind (wpAny_bind (m := Builtin.Tuple.tupleExact _) (wpAny_newObj_type (wpAny_pure ⟨_,rfl,wpAny_pure h⟩) htake))
end
end HT
namespace L2
open PySem PySem.Spec PyProof.Rows
abbrev TO := St → Hp → (Option Int → Hp → Prop) → Prop
structure PO (X : Cx) (e : Option Expr) (t : TO) : Prop where
  go : ∀ (pins : List (Addr × Obj)) (s : Shared) (σ : St) (H : Hp) (Q : Option Int → Hp → Prop),Inv X pins σ H s → t σ H Q →
    wpAny (model X.prog X.w) X.A (evalPart e X.env) (fun u s' => ∃ o H',Inv X pins σ H' s' ∧ IsPart u o ∧ Q o H') X.xe s
instance {X : Cx} {e : Option Expr} {t : TO} : CoeFun (PO X e t) fun _ => ∀ (pins : List (Addr × Obj)) (s : Shared) (σ : St) (H : Hp) (Q : Option Int → Hp → Prop),Inv X pins σ H s → t σ H Q →
    wpAny (model X.prog X.w) X.A (evalPart e X.env) (fun u s' => ∃ o H',Inv X pins σ H' s' ∧ IsPart u o ∧ Q o H') X.xe s := ⟨fun h => h.go⟩
def tNoPart : TO := fun _ H Q => Q none H
def tPart (t : TE) : TO := fun σ H Q => t σ H fun x H1 => ∃ i,x = .int i ∧ Q (some i) H1
theorem intsAre_of {ns : List Int} : ∀ {us : List Value},Vals (ns.map V.int) us → IntsAre us ns := by
  induction ns with
  | nil => intro us r; rw [List.map_nil] at r; cases r; exact .nil
  | cons n ns ih =>
    intro us r
    rw [List.map_cons] at r
    cases r with
    | cons r1 r2 =>
      obtain ⟨t,e⟩ := r1
      subst e
      exact .cons n t (ih r2)
section
variable {X : Cx} {e : Expr} {te : TE} {lo hi : Option Expr} {tl th : TO} {pos p2 : Pos}
theorem po_none : PO X none tNoPart := by
  (try refine ⟨?_⟩); intro pins s σ H Q I h
  rw [evalPart_none]
  exact wpAny_pure ⟨none,H,I,.none,h⟩
theorem po_some (h : PE X e te) : PO X (some e) (tPart te) := by
  (try refine ⟨?_⟩); intro pins s σ H Q I hw
  rw [evalPart_some]
  refine thn (h pins s σ H _ I hw) fun u s1 ⟨x,H1,I1,r1,q1⟩ => ?_
  obtain ⟨i,rfl,q⟩ := q1
  obtain ⟨t,rfl⟩ := r1
  exact ⟨some i,H1,I1,.int i t,q⟩
def SlR (X : Cx) (r : V → Option Int → Option Int → Hp → VK → Prop) : Prop :=
  ∀ (pins : List (Addr × Obj)) (s : Shared) (σ : St) (H : Hp) (x : V) (v vl vu : Value) (lo hi : Option Int) (sl : Addr) (Q : VK),Inv X pins σ H s → RelV x v → s.heap.IsSliceOf sl vl vu .none → IsPart vl lo → IsPart vu hi → r x lo hi H Q →
    ∃ T id,typeLookup (.type T) "__getitem__" = pure (some (.builtin id)) ∧ s.TypeIs v T ∧ wpAny (model X.prog X.w) X.A (getItem v (.ref sl)) (EP X pins σ Q) X.xe s
def tSl (r : V → Option Int → Option Int → Hp → VK → Prop) (te : TE) (tl th : TO) : TE := fun σ H Q => te σ H fun x H1 => tl σ H1 fun l H2 => th σ H2 fun u H3 => r x l u H3 Q
theorem pe_slice {r : V → Option Int → Option Int → Hp → VK → Prop} (hr : SlR X r) (he : PE X e te) (hl : PO X lo tl) (hu : PO X hi th) : PE X (.Subscript e (.Slice lo hi none p2) pos) (tSl r te tl th) := by
  (try refine ⟨?_⟩); intro pins s σ H Q I h
  refine Subscript_ (thn (he pins s σ H _ I h) fun v s1 ⟨x,H1,I1,r1,q1⟩ => ?_)
  refine wpAny_Slice (thn (hl pins s1 σ H1 _ I1 q1) fun vl s2 ⟨l,H2,I2,pl,q2⟩ => thn (hu pins s2 σ H2 _ I2 q2) fun vu s3 ⟨u,H3,I3,pu,q3⟩ => ?_)
  rw [evalPart_none]
  refine wpAny_pure ?_
  have I4 : Inv X pins σ H3 { s3 with heap := s3.heap.push { cls := .type "slice",data := .fields #[vl,vu,.none] } } := I3.kept (t' := s3.toks) fun b ob q => Heap.get?_push_of_some _ q
  obtain ⟨T,id,hT,ht,hg⟩ := hr pins { s3 with heap := s3.heap.push { cls := .type "slice",data := .fields #[vl,vu,.none] } } σ H3 x v vl vu l u s3.heap.objs.size Q I4 r1 (Heap.IsSliceOf.new ..) pl pu q3
  show wpAny (model X.prog X.w) X.A (subscriptTail e (.Slice lo hi none p2) v (.ref s3.heap.objs.size)) (EP X pins σ Q) X.xe { s3 with heap := s3.heap.push { cls := .type "slice",data := .fields #[vl,vu,.none] } }
  exact tail_any (ops := [.ref s3.heap.objs.size,v]) ht hT hg (by with_unfolding_all rfl)
def cutV (xs : List V) (lo hi : Option Int) : List V := (xs.drop (HT.sIx xs.length 0 lo)).take (HT.sIx xs.length xs.length hi - HT.sIx xs.length 0 lo)
theorem cutV_length (xs : List V) (lo hi : Option Int) : (cutV xs lo hi).length ≤ xs.length := by
  unfold cutV
  rw [List.length_take,List.length_drop]
  omega
def rSlT (K : PySem.W.Frag) : V → Option Int → Option Int → Hp → VK → Prop := fun x lo hi H Q => ∃ a xs,x = .ref a ∧ SqT K H a xs ∧
  ¬ (HT.sIx xs.length 0 lo = 0 ∧ HT.sIx xs.length xs.length hi = xs.length) ∧ ∀ p,H p = none → Q (.ref p) (upd H p (.tup (cutV xs lo hi)))
theorem sl_tup : SlR X (rSlT X.K) := by
  (try refine ⟨?_⟩); intro pins s σ H x v vl vu lo hi sl Q I rx hs pl pu h
  obtain ⟨a,xs,rfl,hx,hw,q⟩ := h
  cases rx
  obtain ⟨its,r,ht,hz⟩ := I.tuple hx
  have hlen : its.toArray.size = xs.length := by rw [List.size_toArray]; exact r.length.symm
  refine ⟨"tuple",_,PyProof.Rows.slot_tuple_getitem.lookup,ht.typeIs,?_⟩
  refine HT.getItem_tuple_cut ht hs pl pu (by rw [hlen]; exact hw) ?_ (by rw [hlen]; exact hz)
  rw [hlen]
  refine ⟨.ref s.heap.objs.size,_,I.laid (t' := s.toks) (o := .tup (cutV xs lo hi)) (fun b ob q => Heap.get?_push_of_some _ q) (Nat.le_refl _) ?_,rfl,q _ (I.hok.fresh (Nat.le_refl _))⟩
  exact ⟨Nat.le_trans (cutV_length xs lo hi) hz,_,(r.drop (HT.sIx xs.length 0 lo)).take (HT.sIx xs.length xs.length hi - HT.sIx xs.length 0 lo),IsTup.new _ _⟩
end
def ixN (n : Nat) (i : Int) : Option Nat := if 0 ≤ i then (if i < n then some i.toNat else none) else if -(n : Int) ≤ i then some (i + n).toNat else none
def atI {α : Type} (xs : List α) (i : Int) : Option α := (ixN xs.length i).bind fun j => xs[j]?
theorem ixN_seq {n : Nat} {i : Int} {j : Nat} (h : ixN n i = some j) : seqIndex? i n = some j ∧ j < n ∧ -(n : Int) ≤ i ∧ i < n := by
  unfold ixN at h
  by_cases h0 : 0 ≤ i
  · rw [if_pos h0] at h
    by_cases h1 : i < n
    · rw [if_pos h1] at h
      have e : i.toNat = j := Option.some.inj h
      exact ⟨by rw [seqIndex_of h0 h1,e],by omega,by omega,h1⟩
    · rw [if_neg h1] at h; cases h
  · rw [if_neg h0] at h
    by_cases h1 : -(n : Int) ≤ i
    · rw [if_pos h1] at h
      have e : (i + n).toNat = j := Option.some.inj h
      exact ⟨by rw [seqIndex_neg (by omega) h1,e],by omega,h1,by omega⟩
    · rw [if_neg h1] at h; cases h
theorem atI_get {α : Type} {xs : List α} {i : Int} {v : α} (h : atI xs i = some v) : ∃ j,seqIndex? i xs.length = some j ∧ xs[j]? = some v ∧ j < xs.length ∧ -(xs.length : Int) ≤ i ∧ i < xs.length := by
  unfold atI at h
  cases e : ixN xs.length i with
  | none => rw [e] at h; cases h
  | some j =>
    rw [e] at h
    obtain ⟨h1,h2,h3,h4⟩ := ixN_seq e
    exact ⟨j,h1,h,h2,h3,h4⟩
theorem atI_nat {α : Type} {xs : List α} {j : Nat} {v : α} (h : xs[j]? = some v) : atI xs (j : Int) = some v := by
  have hj : j < xs.length := (List.getElem?_eq_some_iff.mp h).1
  have e : ixN xs.length (j : Int) = some j := by
    unfold ixN
    rw [if_pos (by omega),if_pos (by omega)]; simp
  unfold atI; rw [e]; exact h
theorem atI_last {α : Type} (xs : List α) (v : α) : atI (xs ++ [v]) (-1) = some v := by
  have hl : (xs ++ [v]).length = xs.length + 1 := by simp
  have e : ixN (xs ++ [v]).length (-1) = some xs.length := by
    unfold ixN
    rw [hl,if_neg (by decide),if_pos (by omega)]
    congr 1
    omega
  unfold atI
  rw [e]
  show (xs ++ [v])[xs.length]? = some v
  simp
def PlainIx (b : Expr) : Prop := ∀ o i,subscripted b false o i = operate [o,i] (getItem o i)
def IxR (X : Cx) (r : R2) : Prop :=
  ∀ (value slice : Expr) (pins : List (Addr × Obj)) (s : Shared) (σ : St) (H : Hp) (x y : V) (v u : Value) (Q : VK),Inv X pins σ H s → RelV x v → RelV y u → r x y H Q →
    subscripted slice false v u = operate [v,u] (getItem v u) → wpAny (model X.prog X.w) X.A (subscriptTail value slice v u) (EP X pins σ Q) X.xe s
def MtR (X : Cx) (id : String) (r : V → List V → Hp → VK → Prop) : Prop :=
  ∀ (pins : List (Addr × Obj)) (s : Shared) (σ : St) (H : Hp) (x : V) (xs : List V) (v : Value) (us : List Value) (Q : VK),Inv X pins σ H s → RelV x v → Vals xs us → r x xs H Q →
    wpAny (model X.prog X.w) X.A (call (.builtin id) (v :: us)) (EP X pins σ Q) X.xe s
section
variable {X : Cx} {a b : Expr} {ta tb : TE} {pos : Pos}
theorem IxR.or {r r' : R2} (h : IxR X r) (h' : IxR X r') : IxR X (fun x y H Q => r x y H Q ∨ r' x y H Q) := by
  intro value slice pins s σ H x y v u Q I rx ry q hs
  rcases q with q | q
  · exact h value slice pins s σ H x y v u Q I rx ry q hs
  · exact h' value slice pins s σ H x y v u Q I rx ry q hs
theorem pe_ix {r : R2} (hr : IxR X r) (ha : PE X a ta) (hb : PE X b tb) (hs : PlainIx b) : PE X (.Subscript a b pos) (tOp r ta tb) := by
  (try refine ⟨?_⟩); intro pins s σ H Q I h
  exact Subscript_ (binT ha hb I h fun v u s2 x y H2 I2 rx ry q => hr a b pins s2 σ H2 x y v u Q I2 rx ry q (hs _ _))
def rIxL (K : PySem.W.Frag) : R2 := fun x y H Q => ∃ p xs i v,x = .ref p ∧ y = .int i ∧ SqL K H p xs ∧ atI xs i = some v ∧ Q v H
def rIxT (K : PySem.W.Frag) : R2 := fun x y H Q => ∃ p xs i v,x = .ref p ∧ y = .int i ∧ SqT K H p xs ∧ atI xs i = some v ∧ Q v H
def rIxS : R2 := fun x y H Q => ∃ z i c,x = .str z ∧ y = .int i ∧ z.length ≤ sizeLine ∧ atI z.cps.toList i = some c ∧ Q (.str ⟨#[c]⟩) H
theorem ix_list : IxR X (rIxL X.K) := by
  intro value slice pins s σ H x y v u Q I rx ry h hs
  obtain ⟨p,xs,i,z,rfl,rfl,hq,he,q⟩ := h
  cases rx
  obtain ⟨t,rfl⟩ := ry
  obtain ⟨its,r,pl,hz⟩ := I.list hq
  obtain ⟨j,h1,h2,h3,h4,h5⟩ := atI_get he
  obtain ⟨w,ew,rw'⟩ := r.get h2
  have hl := r.length
  have hn := line63
  have fin : EP X pins σ Q w s := ⟨z,H,I,rw',q⟩
  by_cases h0 : 0 ≤ i
  · have hj : i.toNat = j := by
      rw [seqIndex_of h0 h5] at h1
      exact Option.some.inj h1
    exact item_listR pl.isList h0 (by omega) (by rw [hj]; simpa using ew) fin hs
  · have hj : (i + (its.toArray.size : Int)).toNat = j := by
      rw [seqIndex_neg (by omega) h4] at h1
      rw [List.size_toArray,← hl]
      exact Option.some.inj h1
    exact subscriptTail_builtinR (x := w) pl.isList.typeIs slot_list_getitem.lookup
      (wpAny_getItem_list_neg (Q := fun r s' => r = w ∧ EP X pins σ Q r s') pl.isList (by omega) (by rw [List.size_toArray] <;> omega) (by omega) (by rw [hj]; simpa using ew) ⟨rfl,fin⟩) hs
theorem ix_tup : IxR X (rIxT X.K) := by
  intro value slice pins s σ H x y v u Q I rx ry h hs
  obtain ⟨p,xs,i,z,rfl,rfl,hq,he,q⟩ := h
  cases rx
  obtain ⟨t,rfl⟩ := ry
  obtain ⟨its,r,pl,hz⟩ := I.tuple hq
  obtain ⟨j,h1,h2,h3,h4,h5⟩ := atI_get he
  obtain ⟨w,ew,rw'⟩ := r.get h2
  have hl := r.length
  have hn := line63
  have fin : EP X pins σ Q w s := ⟨z,H,I,rw',q⟩
  exact subscriptTail_builtinR (x := w) pl.typeIs slot_tuple_getitem.lookup
    (getItem_tuple (j := j) (Q := fun r s' => r = w ∧ EP X pins σ Q r s') pl (by omega) (by omega) (by rw [List.size_toArray,← hl]; exact h1) (by simpa using ew) ⟨rfl,fin⟩) hs
theorem ix_str : IxR X rIxS := by
  intro value slice pins s σ H x y v u Q I rx ry h hs
  obtain ⟨z,i,c,rfl,rfl,hz,he,q⟩ := h
  obtain ⟨t,rfl⟩ := rx
  obtain ⟨t',rfl⟩ := ry
  obtain ⟨j,h1,h2,h3,h4,h5⟩ := atI_get he
  have hl : z.cps.toList.length = z.length := by simp [Str.length]
  rw [hl] at h1 h4 h5
  have hn := line63
  exact tail_any (typeIs_str s z t) slot_str_getitem.lookup (getItem_str (c := c) (by
    have e1 : decide (i < -(2 ^ 63 : Int)) = false := decide_eq_false (by omega)
    have e2 : decide (i ≥ 2 ^ 63) = false := decide_eq_false (by omega)
    rw [e1,e2,Bool.or_false]) (by rw [h1]; simpa using h2) ⟨.str ⟨#[c]⟩,H,I.tok _,⟨_,rfl⟩,q⟩) hs
def rIx (K : PySem.W.Frag) : R2 := fun x y H Q => rIxL K x y H Q ∨ rIxT K x y H Q ∨ rIxS x y H Q
theorem ix_seq : IxR X (rIx X.K) := ix_list.or (ix_tup.or ix_str)
theorem mapSeq_set (its : List Value) (n j : Nat) (u : Value) : Obj.mapSeq (·.setIfInBounds j u) { cls := .type "list",data := .seq its.toArray n } = { cls := .type "list",data := .seq (its.set j u).toArray n } := by
  simp [Obj.mapSeq]
theorem Inv.lst {pins : List (Addr × Obj)} {σ : St} {H : Hp} {s : Shared} {p : Addr} {xs : List V} (I : Inv X pins σ H s) (h : H p = some (.lst xs)) :
    ∃ (its : List Value) (n : Nat),Vals xs its ∧ s.heap.get? p = some { cls := .type "list",data := .seq its.toArray n } ∧ xs.length ≤ sizeLine := by
  obtain ⟨z,its,n,r,e⟩ := I.hok p _ h
  exact ⟨its,n,r,e,z⟩
theorem Inv.lstUpd {pins : List (Addr × Obj)} {σ : St} {H : Hp} {s : Shared} {p : Addr} {xs ys : List V} {its its' : List Value} {n n' : Nat} {f : Obj → Obj} (I : Inv X pins σ H s) (h : H p = some (.lst xs))
    (ho : s.heap.get? p = some { cls := .type "list",data := .seq its.toArray n }) (hf : f { cls := .type "list",data := .seq its.toArray n } = { cls := .type "list",data := .seq its'.toArray n' }) (r : Vals ys its') (hz : ys.length ≤ sizeLine) (t : Nat) :
    Inv X pins σ (upd H p (.lst ys)) { s with heap := s.heap.update p f,toks := t } := by
  have e : (s.heap.update p f).get? p = some { cls := .type "list",data := .seq its'.toArray n' } := by
    rw [Heap.get?_update_self f ho (by rw [hf] <;> rfl),hf]
  refine I.write (x := p) (e := p) (by rw [h]; trivial) (.inl rfl) (fun b u hb q => (Heap.get?_update_other _ _ (Ne.symm hb)).trans q) ⟨_,e⟩ ?_
  exact ⟨hz,its',n',r,e⟩
def rSetL : V → V → V → Hp → (Hp → Prop) → Prop := fun o i v H Q => ∃ p xs k j,o = .ref p ∧ i = .int k ∧ H p = some (.lst xs) ∧ ixN xs.length k = some j ∧ Q (upd H p (.lst (xs.set j v)))
theorem set_list : PSet X rSetL := by
  (try refine ⟨?_⟩); intro pins s σ H o i v ov iv u Q I ro ri rv h
  obtain ⟨p,xs,k,j,rfl,rfl,hp,hj,q⟩ := h
  cases ro
  obtain ⟨t,rfl⟩ := ri
  obtain ⟨its,n,r,ho,hz⟩ := I.lst hp
  obtain ⟨h1,h2,h3,h4⟩ := ixN_seq hj
  have hl := r.length
  have hn := line63
  have I' : Inv X pins σ (upd H p (.lst (xs.set j v))) { s with heap := s.heap.update p (Obj.mapSeq (·.setIfInBounds j u)) } :=
    I.lstUpd hp ho (mapSeq_set its n j u) (r.set rv j) (by rw [List.length_set]; exact hz) s.toks
  by_cases h0 : 0 ≤ k
  · have hk : k.toNat = j := by
      rw [seqIndex_of h0 h4] at h1
      exact Option.some.inj h1
    exact PySem.W.ki_setAt ho h0 (by omega) (by rw [List.size_toArray,← hl]; exact h4) (by rw [hk]; exact ⟨_,I',q⟩)
  · have hk : (k + (its.toArray.size : Int)).toNat = j := by
      rw [seqIndex_neg (by omega) h3] at h1
      rw [List.size_toArray,← hl]
      exact Option.some.inj h1
    exact PySem.W.ki_setBack ho (by omega) (by rw [List.size_toArray,← hl]; exact h3) (by omega) (by rw [hk]; exact ⟨_,I',q⟩)
theorem slice_bounds (lo hi : Option Int) (n : Nat) : (sliceBounds lo hi none n).1 = ((HT.sIx n 0 lo : Nat) : Int) ∧ (sliceBounds lo hi none n).2.1 = ((HT.sIx n n hi : Nat) : Int) ∧ (sliceBounds lo hi none n).2.2 = 1 := by
  refine ⟨?_,?_,rfl⟩
  · cases lo with
    | none => simp [sliceBounds,HT.sIx]
    | some i =>
      simp only [sliceBounds,HT.sIx,Option.getD_none,show (1 : Int) > 0 by decide,if_true]
      by_cases h : i < 0
      · simp only [h,if_true] <;> omega
      · simp only [h,if_false] <;> omega
  · cases hi with
    | none => simp [sliceBounds,HT.sIx]
    | some i =>
      simp only [sliceBounds,HT.sIx,Option.getD_none,show (1 : Int) > 0 by decide,if_true]
      by_cases h : i < 0
      · simp only [h,if_true] <;> omega
      · simp only [h,if_false] <;> omega
theorem slicePick_cut (its : List Value) (lo hi : Option Int) : slicePick its.toArray lo hi none = ((its.drop (HT.sIx its.length 0 lo)).take (HT.sIx its.length its.length hi - HT.sIx its.length 0 lo)).toArray := by
  obtain ⟨h1,h2,h3⟩ := slice_bounds lo hi its.toArray.size
  unfold slicePick
  rw [h1,h2,h3]
  simp only [sliceRange_one,pick_run,List.size_toArray] <;> rfl
def rSlL (K : PySem.W.Frag) : V → Option Int → Option Int → Hp → VK → Prop := fun x lo hi H Q => ∃ a xs,x = .ref a ∧ SqL K H a xs ∧ ∀ p,H p = none → Q (.ref p) (upd H p (.lst (cutV xs lo hi)))
theorem sl_list : SlR X (rSlL X.K) := by
  (try refine ⟨?_⟩); intro pins s σ H x v vl vu lo hi sl Q I rx hs pl pu h
  obtain ⟨a,xs,rfl,hx,q⟩ := h
  cases rx
  obtain ⟨its,r,ht,hz⟩ := I.list hx
  have hlen := r.length
  refine ⟨"list",_,slot_list_getitem.lookup,ht.isList.typeIs,?_⟩
  refine wpAny_getItem_list_slice ht.isList hs pl pu .none (by simp) ?_ (by rw [List.size_toArray] <;> omega)
  rw [slicePick_cut,← hlen]
  refine ⟨.ref s.heap.objs.size,_,I.laid (t' := s.toks) (o := .lst (cutV xs lo hi)) (fun b ob q => Heap.get?_push_of_some _ q) (Nat.le_refl _) ?_,rfl,q _ (I.hok.fresh (Nat.le_refl _))⟩
  exact ⟨Nat.le_trans (cutV_length xs lo hi) hz,_,0,(r.drop (HT.sIx xs.length 0 lo)).take (HT.sIx xs.length xs.length hi - HT.sIx xs.length 0 lo),Heap.get?_push_size _ rfl⟩
def flatV : V → Bool
  | .non => true
  | .bl _ => true
  | .int _ => true
  | .str _ => true
  | _ => false
def eqV : V → V → Bool
  | .non,.non => true
  | .bl a,.bl b => a == b
  | .bl a,.int b => (if a then 1 else 0) == b
  | .int a,.bl b => a == (if b then 1 else 0)
  | .int a,.int b => a == b
  | .str a,.str b => a == b
  | _,_ => false
theorem eqAt_V {A : Around} {s : Shared} {y x : V} {u v : Value} (ry : RelV y u) (rx : RelV x v) (fy : flatV y = true) (fx : flatV x = true) : SeqAt.EqAt A s u v (eqV y x) := by
  cases y with
  | non =>
    cases ry
    cases x with
    | non => cases rx; exact SeqAt.EqAt.same _
    | bl b => cases rx; exact SeqAt.EqAt.none_bool b
    | int b => obtain ⟨t,rfl⟩ := rx; exact SeqAt.EqAt.none_int b t
    | str b => obtain ⟨t,rfl⟩ := rx; exact SeqAt.EqAt.none_str b t
    | _ => exact absurd (show false = true from fx) Bool.false_ne_true
  | bl a =>
    cases ry
    cases x with
    | non => cases rx; exact SeqAt.EqAt.bool_none a
    | bl b => cases rx; exact SeqAt.EqAt.bool_bool a b
    | int b => obtain ⟨t,rfl⟩ := rx; exact SeqAt.EqAt.bool_int a b t
    | str b => obtain ⟨t,rfl⟩ := rx; exact SeqAt.EqAt.bool_str a b t
    | _ => exact absurd (show false = true from fx) Bool.false_ne_true
  | int a =>
    obtain ⟨t',rfl⟩ := ry
    cases x with
    | non => cases rx; exact SeqAt.EqAt.int_none a t'
    | bl b => cases rx; exact SeqAt.EqAt.int_bool a t' b
    | int b => obtain ⟨t,rfl⟩ := rx; exact SeqAt.EqAt.int_int a t' b t
    | str b => obtain ⟨t,rfl⟩ := rx; exact SeqAt.EqAt.int_str a t' b t
    | _ => exact absurd (show false = true from fx) Bool.false_ne_true
  | str a =>
    obtain ⟨t',rfl⟩ := ry
    cases x with
    | non => cases rx; exact SeqAt.EqAt.str_none a t'
    | bl b => cases rx; exact SeqAt.EqAt.str_bool a t' b
    | int b => obtain ⟨t,rfl⟩ := rx; exact SeqAt.EqAt.str_int a t' b t
    | str b => obtain ⟨t,rfl⟩ := rx; exact SeqAt.EqAt.str_str a t' b t
    | _ => exact absurd (show false = true from fx) Bool.false_ne_true
  | _ => exact absurd (show false = true from fy) Bool.false_ne_true
def eqU (x : V) (u : Value) : Bool := match u with
  | .none => eqV .non x
  | .bool b => eqV (.bl b) x
  | .int i _ => eqV (.int i) x
  | .str z _ => eqV (.str z) x
  | _ => false
theorem eqU_of {x y : V} {u : Value} (r : RelV y u) (f : flatV y = true) : eqU x u = eqV y x := by
  cases y with
  | non => cases r; rfl
  | bl b => cases r; rfl
  | int i => obtain ⟨t,rfl⟩ := r; rfl
  | str z => obtain ⟨t,rfl⟩ := r; rfl
  | _ => exact absurd (show false = true from f) Bool.false_ne_true
theorem any_eqU {x : V} : ∀ {xs : List V} {us : List Value},Vals xs us → xs.all flatV = true → us.any (eqU x) = xs.any fun y => eqV y x
  | _,_,.nil,_ => rfl
  | y :: xs,u :: us,.cons r t,f => by
    rw [List.all_cons,Bool.and_eq_true] at f
    rw [List.any_cons,List.any_cons,eqU_of r f.1,any_eqU t f.2]
theorem mem_eqAt {A : Around} {s : Shared} {x : V} {v : Value} (rx : RelV x v) (fx : flatV x = true) : ∀ {xs : List V} {us : List Value},Vals xs us → xs.all flatV = true → ∀ u ∈ us,SeqAt.EqAt A s u v (eqU x u)
  | _,_,.nil,_ => fun u hu => by cases hu
  | y :: xs,u :: us,.cons r t,f => fun u' hu => by
    rw [List.all_cons,Bool.and_eq_true] at f
    rcases List.mem_cons.mp hu with rfl | hu
    · rw [eqU_of r f.1]; exact eqAt_V r rx f.1 fx
    · exact mem_eqAt rx fx t f.2 u' hu
def inV (x : V) (xs : List V) : Bool := xs.any fun y => eqV y x
def rIn (K : PySem.W.Frag) (neg : Bool) : R2 := fun x y H Q => ∃ p xs,y = .ref p ∧ (SqL K H p xs ∨ SqT K H p xs) ∧ flatV x = true ∧ xs.all flatV = true ∧ Q (.bl (if neg then !inV x xs else inV x xs)) H
theorem op_in_seq : OpR X (compareOp .In) (rIn X.K false) := by
  (try refine ⟨?_⟩); intro pins s σ H x y v u Q I rx ry h
  obtain ⟨p,xs,rfl,hq,fx,fs,q⟩ := h
  cases ry
  rcases hq with hq | hq
  · obtain ⟨its,r,pl,hz⟩ := I.list hq
    refine SeqAt.in_listAt (eqU x) pl.isList (fun w hw => mem_eqAt rx fx r fs w (by simpa using hw)) ⟨.bl _,H,I,rfl,?_⟩
    rw [show its.toArray.any (eqU x) = its.any (eqU x) by simp,any_eqU r fs]
    exact q
  · obtain ⟨its,r,pl,hz⟩ := I.tuple hq
    refine SeqAt.in_tupleAt (eqU x) pl (fun w hw => mem_eqAt rx fx r fs w (by simpa using hw)) ⟨.bl _,H,I,rfl,?_⟩
    rw [show its.toArray.any (eqU x) = its.any (eqU x) by simp,any_eqU r fs]
    exact q
theorem op_notIn_seq : OpR X (compareOp .NotIn) (rIn X.K true) := by
  (try refine ⟨?_⟩); intro pins s σ H x y v u Q I rx ry h
  obtain ⟨p,xs,rfl,hq,fx,fs,q⟩ := h
  cases ry
  rcases hq with hq | hq
  · obtain ⟨its,r,pl,hz⟩ := I.list hq
    refine SeqAt.notIn_listAt (eqU x) pl.isList (fun w hw => mem_eqAt rx fx r fs w (by simpa using hw)) ⟨.bl _,H,I,rfl,?_⟩
    rw [show its.toArray.any (eqU x) = its.any (eqU x) by simp,any_eqU r fs]
    exact q
  · obtain ⟨its,r,pl,hz⟩ := I.tuple hq
    refine SeqAt.notIn_tupleAt (eqU x) pl (fun w hw => mem_eqAt rx fx r fs w (by simpa using hw)) ⟨.bl _,H,I,rfl,?_⟩
    rw [show its.toArray.any (eqU x) = its.any (eqU x) by simp,any_eqU r fs]
    exact q
theorem call_len_seq : CallR X (.builtin "len") (fun xs H Q => ∃ p ys,xs = [.ref p] ∧ (SqL X.K H p ys ∨ SqT X.K H p ys) ∧ Q (.int ys.length) H) := by
  (try refine ⟨?_⟩); intro pins s σ H xs us Q I r h
  obtain ⟨p,ys,rfl,hq,q⟩ := h
  obtain ⟨u,rfl,rx⟩ := vals1 r
  cases rx
  have hn := line63
  rcases hq with hq | hq
  · obtain ⟨its,r',pl,hz⟩ := I.list hq
    have hlen := r'.length
    exact Calls.call_len_list pl.isList (by simp only [List.size_toArray] <;> omega) ⟨.int ys.length,H,I.tok _,⟨s.toks + 1,by rw [List.size_toArray,hlen]⟩,q⟩
  · obtain ⟨its,r',pl,hz⟩ := I.tuple hq
    have hlen := r'.length
    exact len_tuple pl (by simp only [List.size_toArray] <;> omega) ⟨.int ys.length,H,I.tok _,⟨s.toks + 1,by rw [List.size_toArray,hlen]⟩,q⟩
theorem call_list_of : CallR X (.type "list") (fun xs H Q => ∃ p ys,xs = [.ref p] ∧ (SqL X.K H p ys ∨ SqT X.K H p ys) ∧ ∀ l,H l = none → Q (.ref l) (upd H l (.lst ys))) := by
  (try refine ⟨?_⟩); intro pins s σ H xs us Q I r h
  obtain ⟨p,ys,rfl,hq,q⟩ := h
  obtain ⟨u,rfl,rx⟩ := vals1 r
  cases rx
  have fin : ∀ (its : List Value),Vals ys its → ys.length ≤ sizeLine → ∀ (h' : Heap) (c' : Nat),(∀ b o',s.heap.get? b = some o' → h'.get? b = some o') →
      h'.get? s.heap.objs.size = some { cls := .type "list",dict := none,data := .seq its.toArray c',slots := #[] } → EP X pins σ Q (.ref s.heap.objs.size) { s with heap := h' } := fun its r' hz h' c' kp e =>
    ⟨.ref s.heap.objs.size,_,I.laid (t' := s.toks) kp (Nat.le_refl _) (show ObjOk X.prog X.w _ h' _ (.lst ys) from ⟨hz,its,c',r',e⟩),rfl,q _ (I.hok.fresh (Nat.le_refl _))⟩
  rcases hq with hq | hq
  · obtain ⟨its,r',pl,hz⟩ := I.list hq
    have hlen := r'.length
    obtain ⟨o,ho,hc,n,hd⟩ := pl.isList
    exact call_list_seq p (.inl rfl) ho hc hd (fun h' c' kp e => fin its r' hz h' c' kp e) (by simp only [List.size_toArray] <;> omega)
  · obtain ⟨its,r',pl,hz⟩ := I.tuple hq
    have hlen := r'.length
    obtain ⟨o,ho,hc,n,hd⟩ := pl
    exact call_list_seq p (.inr rfl) ho hc hd (fun h' c' kp e => fin its r' hz h' c' kp e) (by simp only [List.size_toArray] <;> omega)
def tyV (K : PySem.W.Frag) (T : String) (x : V) (H : Hp) : Prop := match x with
  | .str _ => T = "str"
  | .int _ => T = "int"
  | .ref p => (T = "list" ∧ ∃ xs,SqL K H p xs) ∨ (T = "tuple" ∧ ∃ o,K.lookup p = some o ∧ o.cls = .type "tuple" ∧ o.dict = none) ∨
      (T = "dict" ∧ ((∃ kvs,H p = some (.dK kvs)) ∨ ∃ kvs,H p = some (.dT kvs))) ∨ (T = "set" ∧ ∃ S n,H p = some (.set S n))
  | _ => False
theorem tyV_is {pins : List (Addr × Obj)} {σ : St} {H : Hp} {s : Shared} {T : String} {x : V} {v : Value} (I : Inv X pins σ H s) (r : RelV x v) (ty : tyV X.K T x H) :
    s.TypeIs v T ∧ ∀ a,v = .ref a → ∃ ob,s.heap.get? a = some ob ∧ ob.dict = none := by
  cases x with
  | str z =>
    obtain ⟨t,rfl⟩ := r
    cases (show T = "str" from ty)
    exact ⟨typeIs_str s z t,fun _ e => nomatch e⟩
  | int i =>
    obtain ⟨t,rfl⟩ := r
    cases (show T = "int" from ty)
    exact ⟨typeIs_int s i t,fun _ e => nomatch e⟩
  | ref p =>
    cases r
    rcases ty with ⟨rfl,xs,hq⟩ | ⟨rfl,o,hk,hc,hd⟩ | ⟨rfl,hk⟩ | ⟨rfl,S,n,hk⟩
    · obtain ⟨its,_,pl,_⟩ := I.list hq
      refine ⟨pl.isList.typeIs,fun a e => ?_⟩
      cases e
      obtain ⟨o,n,e,c,hd,_⟩ := pl
      exact ⟨o,e,hd⟩
    · refine ⟨⟨o,I.kIn p o hk,hc⟩,fun a e => ?_⟩
      cases e
      exact ⟨o,I.kIn _ o hk,hd⟩
    · have z : ∃ o,s.heap.get? p = some o ∧ o.ExactDict := by
        rcases hk with ⟨kvs,hk⟩ | ⟨kvs,hk⟩
        · obtain ⟨_,_,_,_,o,_,_,e,ex,_⟩ := I.hok p _ hk
          exact ⟨o,e,ex⟩
        · obtain ⟨_,_,_,_,o,_,_,e,ex,_⟩ := I.hok p _ hk
          exact ⟨o,e,ex⟩
      obtain ⟨o,e,ex⟩ := z
      refine ⟨⟨o,e,ex.1⟩,fun a e2 => ?_⟩
      cases e2
      exact ⟨o,e,ex.2.1⟩
    · obtain ⟨o,_,_,_,e,ex,_⟩ := I.hok p _ hk
      refine ⟨⟨o,e,ex.1⟩,fun a e2 => ?_⟩
      cases e2
      exact ⟨o,e,ex.2.1⟩
  | _ => exact False.elim ty
def tBM0 (K : PySem.W.Frag) (T : String) (r : V → List V → Hp → VK → Prop) (to : TE) : TE := fun σ H Q => to σ H fun x H1 => tyV K T x H1 ∧ r x [] H1 Q
def tBM (K : PySem.W.Frag) (T : String) (r : V → List V → Hp → VK → Prop) (to : TE) (t : TA) : TE := fun σ H Q => to σ H fun x H1 => tyV K T x H1 ∧ t σ H1 fun xs H2 => r x xs H2 Q
variable {o e : Expr} {es : List Expr} {to : TE} {t : TA} {name : Str} {apos cpos : Pos} {T id : String} {r : V → List V → Hp → VK → Prop}
theorem pe_bm0 (pa : PlainAttrs T) (slot : Slot T name id) (hty : typeOf (.builtin id) = pure (.type "method_descriptor")) (hm : MtR X id r) (ho : PE X o to)
    (hbase : attributeBase o name X.env (eval o X.env) = eval o X.env := by rfl) (hline : (apos.endLine == cpos.line) = true := by rfl) : PE X (.Call (.Attribute o name apos) [] [] cpos) (tBM0 X.K T r to) := by
  (try refine ⟨?_⟩); intro pins s σ H Q I h
  refine wpAny_Call_method0_late hbase hline (thn (ho pins s σ H _ I h) fun v s1 ⟨x,H1,I1,r1,ty,q1⟩ => ?_)
  obtain ⟨h1,h2⟩ := tyV_is I1 r1 ty
  exact ⟨T,id,pa,slot,hty,h1,h2,Calls.callWith_builtin rfl (PySem.evalArgs_none (hm pins s1 σ H1 x [] v [] Q I1 r1 .nil q1))⟩
theorem pe_bm (pa : PlainAttrs T) (slot : Slot T name id) (hty : typeOf (.builtin id) = pure (.type "method_descriptor")) (hm : MtR X id r) (ho : PE X o to) (ha : PA X (e :: es) t)
    (hbase : attributeBase o name X.env (eval o X.env) = eval o X.env := by rfl)
    (hfew : ((backTo cpos (starEach (e :: es) X.env)).all (fun x => !x.1) && (backToKw cpos (keywordEach [] X.env)).all (fun x => x.1.isSome)
      && decide ((e :: es).length + ([] : List Keyword).length + (if ([] : List Keyword).isEmpty then 0 else 1) < 30)) = true := by rfl)
    (hline : (apos.endLine == cpos.line) = true := by rfl) (hs : starEach (e :: es) X.env = (false,eval e X.env) :: starEach es X.env := by rfl) (hplain : (backTo cpos (starEach es X.env)).any (·.1) = false := by rfl) :
    PE X (.Call (.Attribute o name apos) (e :: es) [] cpos) (tBM X.K T r to t) := by
  (try refine ⟨?_⟩); intro pins s σ H Q I h
  refine wpAny_Call_method_late hbase hfew hline rfl (thn (ho pins s σ H _ I h) fun v s1 ⟨x,H1,I1,r1,ty,q1⟩ => ?_)
  obtain ⟨h1,h2⟩ := tyV_is I1 r1 ty
  refine ⟨T,id,pa,slot,hty,h1,h2,?_⟩
  have hA := ha cpos pins s1 σ H1 _ I1 q1
  rw [hs] at hA ⊢
  refine Calls.callWith_builtin (by show (false || (backTo cpos (starEach es X.env)).any (·.1)) = false; rw [hplain] <;> rfl) (Calls.evalArgs_plain ?_)
  exact thn hA fun us s2 ⟨vs,H2,I2,r2,q2⟩ => hm pins s2 σ H2 x vs v us Q I2 r1 r2 q2
/- xs.append(e),list.index on a module's tuple .. are MtR facts of 06m -/
end
def MtM (X : Cx) (id : String) (r : V → List V → Hp → VK → Prop) : Prop :=
  ∀ (pins : List (Addr × Obj)) (s : Shared) (σ : St) (H : Hp) (x : V) (xs : List V) (v : Value) (us : List Value) (Q : VK),Inv X pins σ H s → RelV x v → Vals xs us → r x xs H Q →
    wpAny (model X.prog X.w) X.A (call (.builtin id) (v :: us)) (EP X pins σ Q) X.xe s
theorem Vals.one : ∀ {x : V} {us : List Value},Vals [x] us → ∃ u,us = [u] ∧ RelV x u := fun h => by
  cases h with
  | cons r q => cases q; exact ⟨_,rfl,r⟩
theorem Vals.zero : ∀ {us : List Value},Vals [] us → us = []
  | _,.nil => rfl
theorem Vals.dropLast {xs : List V} {us : List Value} (h : Vals xs us) : Vals xs.dropLast us.dropLast := by
  induction h with
  | nil => exact .nil
  | cons r t ih =>
    cases t with
    | nil => exact .nil
    | cons q t' => exact .cons r ih
theorem Vals.rep {xs : List V} {us : List Value} (h : Vals xs us) : ∀ k : Nat,Vals (List.replicate k xs).flatten (List.replicate k us).flatten
  | 0 => .nil
  | k + 1 => by
    rw [List.replicate_succ,List.replicate_succ,List.flatten_cons,List.flatten_cons]
    exact Vals.append h (Vals.rep h k)
theorem erase_last {α : Type} (l : List α) : l.eraseIdx (l.length - 1) = l.dropLast := by
  induction l with
  | nil => rfl
  | cons a r ih =>
    cases r with
    | nil => rfl
    | cons b r =>
      have e : (a :: b :: r).length - 1 = ((b :: r).length - 1) + 1 := by
        have h1 : (a :: b :: r).length = r.length + 2 := rfl
        have h2 : (b :: r).length = r.length + 1 := rfl
        omega
      rw [e,List.eraseIdx_cons_succ,ih]
      all_goals rfl
theorem foldl_rep (its : List Value) : ∀ (k : Nat) (acc : List Value),
    List.foldl (fun x1 x2 => x1 ++ x2) acc.toArray (List.replicate k its.toArray) = (acc ++ (List.replicate k its).flatten).toArray
  | 0,acc => by simp
  | k + 1,acc => by
    have e : acc.toArray ++ its.toArray = (acc ++ its).toArray := by simp
    have e2 : (acc ++ its) ++ (List.replicate k its).flatten = acc ++ (List.replicate (k + 1) its).flatten := by
      rw [List.replicate_succ,List.flatten_cons,List.append_assoc]
    rw [← e2,← foldl_rep its k (acc ++ its),← e,List.replicate_succ,List.foldl_cons]
section
variable {X : Cx} {pins : List (Addr × Obj)} {σ : St} {H : Hp} {s : Shared} {l b : Addr} {xs ys zs : List V}
theorem Inv.lset {its its' : List Value} {n : Nat} {f : Array Value → Array Value} {t' : Nat} (I : Inv X pins σ H s) (hH : H l = some (.lst xs))
    (e : s.heap.get? l = some { cls := .type "list",data := .seq its.toArray n }) (hf : f its.toArray = its'.toArray) (hv : Vals ys its') (hz : ys.length ≤ sizeLine) :
    Inv X pins σ (upd H l (.lst ys)) { s with heap := s.heap.update l (Obj.mapSeq f),toks := t' } := by
  have q := PySem.IsL.update e f
  rw [hf] at q
  refine I.write (x := l) (e := l) (by rw [hH]; exact trivial) (.inl rfl) (fun b' u hb hu => (Heap.get?_update_other s.heap (Obj.mapSeq f) (Ne.symm hb)).trans hu) ⟨_,q⟩ ?_
  exact ⟨hz,its',_,hv,q⟩
theorem Inv.lnew {its : List Value} {t' : Nat} (I : Inv X pins σ H s) (hv : Vals ys its) (hz : ys.length ≤ sizeLine) :
    Inv X pins σ (upd H s.heap.objs.size (.lst ys)) { s with heap := s.heap.push { cls := .type "list",data := .seq its.toArray },toks := t' } :=
  I.laid (fun _ _ q => Heap.get?_push_of_some _ q) (Nat.le_refl _) ⟨hz,its,0,hv,Heap.get?_push_size _ rfl⟩
theorem Inv.fresh (I : Inv X pins σ H s) : H s.heap.objs.size = none := I.hok.fresh (Nat.le_refl _)
theorem Inv.lstM (I : Inv X pins σ H s) (hH : H l = some (.lst xs)) : xs.length ≤ sizeLine ∧ ∃ (its : List Value) (n : Nat),Vals xs its ∧ xs.length = its.length ∧ s.heap.get? l = some { cls := .type "list",data := .seq its.toArray n } := by
  obtain ⟨z,its,n,r,e⟩ := I.hok l _ hH
  exact ⟨z,its,n,r,r.length,e⟩
theorem notLongL {n : Nat} (h : n ≤ sizeLine) : Builtin.List.listTooLong n = false := by
  unfold Builtin.List.listTooLong
  exact decide_eq_false (by omega)
end
section
variable {X : Cx}
def rAppend : V → List V → Hp → VK → Prop := fun x vs H Q => ∃ l xs y,x = .ref l ∧ vs = [y] ∧ H l = some (.lst xs) ∧ xs.length < sizeLine ∧ Q .non (upd H l (.lst (xs ++ [y])))
theorem mt_append : MtM X "list.append" rAppend := by
  (try refine ⟨?_⟩); intro pins s σ H x vs v us Q I rx rv h
  obtain ⟨l,xs,y,rfl,rfl,hH,hz,q⟩ := h
  cases rx
  obtain ⟨u,rfl,ru⟩ := rv.one
  obtain ⟨z,its,n,r,hl,e⟩ := I.lstM hH
  refine call_meets F.slot_list_append ⟨_,e,rfl⟩ F.entry_list_append (F.args_list_append_2 _ _) (PySem.list_append l its.toArray n u (by rw [List.size_toArray]; omega)) ⟨e,?_⟩
  refine ⟨.non,_,I.lset (its' := its ++ [u]) hH e (by simp) (r.append (.cons ru .nil)) ?_,rfl,q⟩
  rw [List.length_append,List.length_singleton]
  omega
def rExtend : V → List V → Hp → VK → Prop := fun x vs H Q => ∃ l b xs zs,x = .ref l ∧ vs = [.ref b] ∧ H l = some (.lst xs) ∧ H b = some (.lst zs) ∧ xs.length + zs.length ≤ sizeLine ∧ Q .non (upd H l (.lst (xs ++ zs)))
theorem mt_extend : MtM X "list.extend" rExtend := by
  (try refine ⟨?_⟩); intro pins s σ H x vs v us Q I rx rv h
  obtain ⟨l,b,xs,zs,rfl,rfl,hH,hB,hz,q⟩ := h
  cases rx
  obtain ⟨u,rfl,ru⟩ := rv.one
  cases ru
  obtain ⟨z,its,n,r,hl,e⟩ := I.lstM hH
  obtain ⟨z2,its2,n2,r2,hl2,e2⟩ := I.lstM hB
  have hsz : its.toArray.size + its2.toArray.size ≤ sizeLine := by rw [List.size_toArray,List.size_toArray]; omega
  have hlong : ¬ (!its.toArray.isEmpty && Builtin.List.listTooLong (its.toArray.size + its2.toArray.size)) = true := by
    rw [notLongL hsz,Bool.and_false]
    exact Bool.false_ne_true
  refine call_meets F.slot_list_extend ⟨_,e,rfl⟩ F.entry_list_extend (F.args_list_extend_2 _ _)
    (AutoSeq1.list_extend_list_list_0 l its.toArray n b its2.toArray n2 hlong (by rw [List.size_toArray]; omega) (by omega)) ⟨e,e2,?_⟩
  refine ⟨.non,_,I.lset (its' := its ++ its2) hH e (by simp) (r.append r2) ?_,rfl,q⟩
  rw [List.length_append]
  omega
def rPop : V → List V → Hp → VK → Prop := fun x vs H Q => ∃ l xs y,x = .ref l ∧ vs = [] ∧ H l = some (.lst xs) ∧ xs[xs.length - 1]? = some y ∧ Q y (upd H l (.lst xs.dropLast))
theorem mt_pop : MtM X "list.pop" rPop := by
  (try refine ⟨?_⟩); intro pins s σ H x vs v us Q I rx rv h
  obtain ⟨l,xs,y,rfl,rfl,hH,hy,q⟩ := h
  cases rx
  have hus := rv.zero
  subst hus
  obtain ⟨z,its,n,r,hl,e⟩ := I.lstM hH
  obtain ⟨u,hu,ru⟩ := r.get hy
  have hy' : its.toArray[its.toArray.size - 1]? = some u := by
    show its.toArray[its.length - 1]? = some u
    rw [← Array.getElem?_toList,← hl]
    exact hu
  refine call_meets F.slot_list_pop ⟨_,e,rfl⟩ F.entry_list_pop (F.args_list_pop_1 _) (MeetsSeq.list_pop_last l its.toArray n u hy' (by rw [List.size_toArray]; omega)) ⟨e,?_⟩
  refine ⟨y,_,I.lset (its' := its.dropLast) hH e ?_ r.dropLast ?_,ru,q⟩
  · show its.toArray.eraseIdxIfInBounds (its.toArray.size - 1) = its.dropLast.toArray
    rw [List.size_toArray,List.eraseIdxIfInBounds_toArray,erase_last]
  · rw [List.length_dropLast]
    omega
def rCat : R2 := fun x y H Q => ∃ l b xs zs,x = .ref l ∧ y = .ref b ∧ H l = some (.lst xs) ∧ H b = some (.lst zs) ∧ xs.length + zs.length ≤ sizeLine ∧ ∀ p,H p = none → Q (.ref p) (upd H p (.lst (xs ++ zs)))
theorem op_cat : OpR X (binaryOp .Add) rCat := by
  (try refine ⟨?_⟩); intro pins s σ H x y v u Q I rx ry h
  obtain ⟨l,b,xs,zs,rfl,rfl,hH,hB,hz,q⟩ := h
  cases rx
  cases ry
  obtain ⟨z,its,n,r,hl,e⟩ := I.lstM hH
  obtain ⟨z2,its2,n2,r2,hl2,e2⟩ := I.lstM hB
  refine PySem.P.add_list e e2 ?_ (by rw [List.size_toArray,List.size_toArray]; omega)
  have ea : its.toArray ++ its2.toArray = (its ++ its2).toArray := by simp
  rw [ea]
  exact ⟨.ref _,_,I.lnew (t' := s.toks) (r.append r2) (by rw [List.length_append]; omega),rfl,q _ I.fresh⟩
def rRep : R2 := fun x y H Q => ∃ l k xs,x = .ref l ∧ y = .int k ∧ H l = some (.lst xs) ∧ -(2 ^ 63) ≤ k ∧ k < 2 ^ 63 ∧ xs.length * k.toNat ≤ sizeLine ∧
  ∀ p,H p = none → Q (.ref p) (upd H p (.lst (List.replicate k.toNat xs).flatten))
theorem len_rep {α : Type} (xs : List α) (k : Nat) : (List.replicate k xs).flatten.length = k * xs.length := by
  induction k with
  | zero => simp
  | succ k ih => rw [List.replicate_succ,List.flatten_cons,List.length_append,ih,Nat.succ_mul,Nat.add_comm]
theorem op_rep : OpR X (binaryOp .Mult) rRep := by
  (try refine ⟨?_⟩); intro pins s σ H x y v u Q I rx ry h
  obtain ⟨l,k,xs,rfl,rfl,hH,h1,h2,hz,q⟩ := h
  cases rx
  obtain ⟨t,rfl⟩ := ry
  obtain ⟨z,its,n,r,hl,e⟩ := I.lstM hH
  have hlen : its.toArray.size * k.toNat ≤ sizeLine := by rw [List.size_toArray,← hl]; exact hz
  have hcap : ¬ its.toArray.size * k.toNat > (2 ^ 63 - 1) / 8 := by
    have : (sizeLine : Nat) ≤ (2 ^ 63 - 1) / 8 := by decide
    omega
  have hfit : ¬ (!Builtin.List.listFitsIndex k) = true := by
    rw [fitsIndex_both h1 h2]
    exact Bool.false_ne_true
  have hlong : ¬ Builtin.List.listTooLong (its.toArray.size * k.toNat) = true := by
    rw [notLongL hlen]
    exact Bool.false_ne_true
  have hnew : List.foldl (fun x1 x2 => x1 ++ x2) #[] (List.replicate (if its.toArray.isEmpty = true then 0 else k.toNat) its.toArray) = (List.replicate k.toNat its).flatten.toArray := by
    have f0 : ∀ m : Nat,List.foldl (fun x1 x2 => x1 ++ x2) #[] (List.replicate m its.toArray) = (List.replicate m its).flatten.toArray := fun m => by
      have := foldl_rep its m []
      rw [List.nil_append] at this
      exact this
    rw [f0]
    cases its with
    | nil => simp
    | cons a r' => rw [if_neg (by simp)]
  refine wpAny_binaryOp_repeat_ref (T := "list") (U := "int") (by decide) ⟨_,e,rfl⟩ (fun s' => typeIs_int s' k t) noFill_list_mul F.fills_int_mul F.slot_int_rmul repeat_list F.slot_int_index.lookup
    (call_meets F.slot_int_rmul (typeIs_int s k t) F.entry_int_rmul (F.args_int_rmul_2 _ _) (int___rmul___int_list k t l its.toArray n)
      ⟨e,rfl,⟨_,e,rfl⟩,call_meets F.slot_list_mul ⟨_,e,rfl⟩ F.entry_list_mul (F.args_list_mul_2 _ _) (AutoListH.list___mul___list_int_3 l its.toArray n k t hfit hcap hlong) ⟨e,?_⟩⟩)
  rw [hnew]
  exact ⟨.ref _,_,I.lnew (t' := s.toks) (r.rep k.toNat) (by rw [len_rep,Nat.mul_comm]; exact hz),rfl,q _ I.fresh⟩
end
section
variable {prog : Program} {w : World} {A : Around} {E : Value → Shared → Prop} {s : Shared}
end
section
variable {X : Cx}
end
end L2
namespace Att
open PySem PySem.W PySem.Calls PyProof.Rows
theorem ints_of_wellAll {P : Params} {h : Heap} : ∀ (ns : List Int) (vs : List Value),WellAll P h vs (ns.map WData.int) → IntsAre vs ns := by
  intro ns
  induction ns with
  | nil =>
    intro vs w
    rw [List.map_nil] at w
    cases w
    exact .nil
  | cons n ns ih =>
    intro vs w
    rw [List.map_cons] at w
    cases w with
    | cons a b =>
      cases a
      exact .cons _ _ (ih _ b)
theorem script_of {l : OpenLaw} {n : Nat} (hn : l.most = some n) {P : Params} {h : Heap} {args : List WData} {vals : List Value}
    (hpre : l.row.toRowW.claim.pre args = true) (hwl : WellAll P h vals args) :
    ∃ a vs ns,vals = [Value.ref a] ∧ args = [WData.list (ns.map WData.int)] ∧ h.get? a = some { cls := .type "list",data := .seq vs.toArray } ∧ IntsAre vs ns ∧ ns.length ≤ n := by
  have hsh : WShape.hasAll [] args [.list .int] = true := (pre_splitW hpre).1
  have hc : l.pre.holds [] { args := args } = true := (pre_splitW hpre).2
  obtain ⟨d,r,rfl,h1,h2⟩ := hasAllW_cons hsh
  obtain rfl := hasAllW_nil h2
  obtain ⟨xs,rfl,h3⟩ := hasW_list h1
  obtain ⟨ns,rfl⟩ := items_int h3
  have hlen : ns.length ≤ n := by
    unfold OpenLaw.pre at hc
    have h4 : (WTm.not (.lt (.lit (.int (n : Int))) (.len (.arg 0)))).holds [] { args := [.list (ns.map .int)] } = true := by
      have h4 := (holds_andW hc).1
      rw [hn] at h4
      exact h4
    have h5 := condW_of h4 (w_not (w_lt w_lit (w_len_list (w_arg rfl))))
    rw [List.length_map] at h5
    refine Nat.le_of_not_lt fun q => ?_
    have q' : (n : Int) < ((ns.length : Nat) : Int) := by omega
    first
      | (rw [decide_eq_true q'] at h5; exact absurd h5 (by decide))
      | (simp at h5; omega)
  cases hwl with
  | cons w1 w2 =>
    cases w2
    cases w1 with
    | list ho hall => exact ⟨_,_,ns,rfl,rfl,ho,ints_of_wellAll ns _ hall,hlen⟩
theorem post_true (l : OpenLaw) (args : List WData) : l.row.toRowW.claim.post args (.bool true) args = true :=
  postW_of (r := l.row.toRowW) (X := (true == true))
    (show WShape.has [] (.bool true) .bool = true by first | rfl | decide | simp [WShape.has,WShape.arms,WShape.armsAll])
    (show (WTm.eq .res (.lit (.bool true))).value [] { args := args,res := some (.bool true),after := args } = some (.bool (true == true)) from w_eq_bool (w_res rfl) w_lit) rfl
theorem attach_call {l : OpenLaw} {n : Nat} {q : Program} {loose : List Str} {XP : (Str → Option Value) → Heap → Prop} {YP : World → Heap → Prop} {d : DefRec}
    (hn : l.most = some n) (hdf : d.params.defaults = [])
    (call : ∀ (w : World) (s₀ s₁ : Shared) (mg mb : Str → Option Value) (fa : Addr) (o : Obj) (pm cd doc : Value) (a : Addr) (vs : List Value) (ns : List Int),
      Ground q loose [] XP w s₀ mg mb s₁.heap → YP w s₁.heap →
      s₁.heap.get? fa = some o → o.data = .func (docDef d.name d.params d.body d.scope pm cd doc) → s₁.heap.CodeRec cd d.name → mg d.name = some (.ref fa) →
      s₁.heap.get? a = some { cls := .type "list",data := .seq vs.toArray } → IntsAre vs ns → ns.length ≤ n → s₁.gens = #[] →
      codeAny (model l.prog w) callerA (.call (.ref fa) ⟨[.ref a],[]⟩) (fun r s' => r = .ok (.ret (.bool true)) ∧ OldK s₁.heap s'.heap ∧ s'.os = s₁.os ∧ AllBare s'.gens) s₁) :
    WalkO q loose XP YP l.row.toRowW d [] (fun f vs => PySem.call f vs) := by
  intro w s₀ s₁ mg mb G Y fa o pm cd doc dV kV ho hd hcd hD hmg hg args vals as hpre hlay hrd hwl hlo
  obtain rfl : dV = .none := Dflts.none hD hdf
  obtain rfl : kV = .none := Dflts.noKw hD
  obtain ⟨a,vs,ns,rfl,rfl,hobj,hints,hlen⟩ := script_of hn hpre hwl
  refine enter_call (codeAny_mono (call w s₀ s₁ mg mb fa o pm cd doc a vs ns G Y ho (fd_plain hd) hcd hmg hobj hints hlen hg) fun r s' hq => ?_)
  obtain ⟨rfl,h2,h3,h4⟩ := hq
  exact ⟨.inl ⟨.bool true,.bool true,[],rfl,fun _ => rfl,.bool true,post_true l _,fun _ => ⟨List.Pairwise.nil,fun _ hm => (nomatch hm)⟩⟩,h2,h3,h4⟩
section
variable {prog : Program} {w : World} {A : Around} {E : Value → Shared → Prop} {s : Shared} {K : Frag}
end
end Att
namespace L2
open PySem PySem.Spec PyProof.Rows
theorem vals_ints : ∀ {vs : List Value} {ns : List Int},IntsAre vs ns → Vals (ns.map V.int) vs
  | _,_,.nil => .nil
  | _,_,.cons n t h => .cons ⟨t,rfl⟩ (vals_ints h)
def Only (H : Hp) : Prop := ∀ b,H b = none ∨ ∃ o xs,H b = some (.frz o (.lst xs))
theorem law_call {P : Program} {w : World} {K : PySem.W.Frag} {mg mb : Str → Option Value} {CX : CXT} {k : Nat} {fa a : Addr} {fd : FuncData} {x : Str} {sp : Sp} {s₁ : Shared} {vs : List Value} {ns : List Int}
    (KX : K.In s₁.heap) (hns : s₁.heap.Ns mainGlobals mg) (hb : s₁.heap.Ns builtinsNs mb) (hbb : ∀ x : Str,x ≠ "__name__" → mb x = bootBuiltins x) (hlim : s₁.heap.NoLimit) (hg : s₁.gens = #[])
    (ha : s₁.heap.get? a = some { cls := .type "list",data := .seq vs.toArray }) (hi : IntsAre vs ns) (hl : ns.length ≤ sizeLine) (hr : Room k callerA)
    (F : ∀ base : Heap,K.In base → base.Ns mainGlobals mg → FnOk P w K mg base CX k fa fd [x] sp) (hbind : ∀ (s : Shared) (u : Value),BindsTo s fd ⟨[u],[]⟩ [(x,u)])
    (hsp : ∀ H : Hp,Only H → SqL K H a (ns.map V.int) → sp [.ref a] H (fun v _ => v = .bl true) fun _ _ _ => False)
    (hCX : ∀ H e s',CX [] H s₁ (fun _ _ _ => False) e s' → False) :
    codeAny (model P w) callerA (.call (.ref fa) ⟨[.ref a],[]⟩) (fun r s' => r = .ok (.ret (.bool true)) ∧ OldK s₁.heap s'.heap ∧ s'.os = s₁.os ∧ AllBare s'.gens) s₁ := by
  have rv := vals_ints hi
  have lenV := hi.length
  -- from an abstract heap in which nothing but the script may be tracked
  have core : ∀ H : Hp,Only H → SqL K H a (ns.map V.int) → HOk P w H s₁.heap → (∀ b,H b ≠ none → b = a) → (H a ≠ none → K.lookup a = none) →
      codeAny (model P w) callerA (.call (.ref fa) ⟨[.ref a],[]⟩) (fun r s' => r = .ok (.ret (.bool true)) ∧ OldK s₁.heap s'.heap ∧ s'.os = s₁.os ∧ AllBare s'.gens) s₁ := by
    intro H hO hS hok hA hK
    have base_of : ∀ {b : Addr} {o : Obj},s₁.heap.get? b = some o → H b = none → (hidT s₁.heap H).get? b = some o := fun e n => hidT_get e n
    have noA : ∀ {b : Addr} {o : Obj} {es : Array DictEntry} {ep : Nat},s₁.heap.get? b = some o → o.data = .dict es ep → H b = none := fun {b o es ep} e d => by
      cases q : H b with
      | none => rfl
      | some u =>
        have e' : b = a := hA b (by rw [q]; simp)
        subst e'
        rw [ha] at e; cases e
        have d' : Data.seq vs.toArray _ = Data.dict es ep := d
        cases d'
    have nsK : ∀ {b : Addr} {m : Str → Option Value},s₁.heap.Ns b m → (hidT s₁.heap H).Ns b m := fun {b m} ⟨o,es,ep,e,d,r⟩ => ⟨o,es,ep,base_of e (noA e d),d,r⟩
    have hKb : K.In (hidT s₁.heap H) := fun b o e => base_of (KX b o e) (by
      cases q : H b with
      | none => rfl
      | some u =>
        have e' : b = a := hA b (by rw [q]; simp)
        subst e'
        rw [hK (by rw [q]; simp)] at e; cases e)
    have hM : Mod K mg (hidT s₁.heap H) := ⟨hKb,nsK hns,⟨mb,nsK hb,hbb⟩,let ⟨mc,h1,h2⟩ := hlim; ⟨mc,nsK h1,h2⟩⟩
    have e0 : Env0 P w K mg (hidT s₁.heap H) callerA [] s₁ H := ⟨rfl,hM,fun b o e => of_hidT e,Nat.le_of_eq (hidT_size _ _),trivial,fun b hb => absurd (show b ∈ ([] : List Addr) from hb) (by simp),hok,.of_eq hg⟩
    refine codeAny_mono ((F _ hKb (nsK hns)).run callerA [] s₁ H ⟨[.ref a],[]⟩ [.ref a] [.ref a] _ _ hr e0 (hbind s₁ (.ref a)) (.cons rfl .nil) (hsp H hO hS)) fun r s' h => ?_
    cases r with
    | error e => exact (hCX H e s' h).elim
    | ok fl =>
      cases fl with
      | next => exact False.elim h
      | brk => exact False.elim h
      | cont => exact False.elim h
      | ret u =>
        obtain ⟨v,H',os,bare,un,hok',r',q⟩ := h
        have q' : v = .bl true := q
        subst q'
        obtain rfl : u = Value.bool true := r'
        refine ⟨rfl,OldK.of_keep fun b o e => ?_,os,bare⟩
        cases q : H b with
        | none => exact un.keep b o e q (by intro z; exact absurd (show b ∈ ([] : List Addr) from z) (by simp)) (by simp)
        | some u =>
          rcases hO b with z | ⟨ob,xs,z⟩
          · rw [q] at z; cases z
          · have z2 := un.frzs b ob _ z
            obtain ⟨e1,_⟩ := hok b _ z
            obtain ⟨e2,_⟩ := hok' b _ z2
            rw [e] at e1; cases e1
            exact e2
  cases hk : K.lookup a with
  | some o =>
    -- the script is one of the module's own objects
    have e := KX a o hk
    rw [ha] at e
    cases e
    refine core (fun _ => none) (fun _ => .inl rfl) (.inr ⟨_,vs.toArray,_,hk,rfl,rfl,rfl,by rw [List.size_toArray,lenV]; exact hl,by simpa using rv⟩) (fun b u z => by have z' : (none : Option HO) = some u := z; cases z') (fun b z => absurd rfl z) fun z => absurd rfl z
  | none =>
    refine core (fun b => if b = a then some (.frz { cls := .type "list",data := .seq vs.toArray } (.lst (ns.map V.int))) else none) (fun b => ?_) (.inl (.inr ⟨{ cls := .type "list",data := .seq vs.toArray },if_pos rfl⟩)) (fun b u z => ?_) (fun b z => ?_) fun _ => hk
    · by_cases hb : b = a
      · exact .inr ⟨_,_,if_pos hb⟩
      · exact .inl (if_neg hb)
    · by_cases hb : b = a
      · have z' := (if_pos hb).symm.trans z
        cases z'
        subst hb
        exact ⟨ha,by rw [List.length_map]; exact hl,vs,_,rv,ha⟩
      · have z' := (if_neg hb).symm.trans z
        cases z'
    · by_cases hb : b = a
      · exact hb
      · exact absurd (if_neg hb) z
theorem walk_of {l : PySem.W.OpenLaw} {n k : Nat} {q : Program} {loose : List Str} {XP : (Str → Option Value) → Heap → Prop} {YP : World → Heap → Prop} {d : DefRec} {K : Params → PySem.W.Frag} {CX : World → CXT} {sp : World → Sp} {x : Str}
    (hn : l.most = some n) (hn2 : n ≤ sizeLine) (hdf : d.params.defaults = []) (hr : Room k callerA)
    (hY : ∀ (w : World) (h : Heap),YP w h → (K w.params).In h)
    (F : ∀ (w : World) (mg : Str → Option Value) (fa : Addr) (h : Heap),(K w.params).In h → h.Ns mainGlobals mg → mg d.name = some (.ref fa) →
      ∃ fd : FuncData,(∀ (s : Shared) (u : Value),BindsTo s fd ⟨[u],[]⟩ [(x,u)]) ∧
        ∀ base : Heap,(K w.params).In base → base.Ns mainGlobals mg → FnOk l.prog w (K w.params) mg base (CX w) k fa fd [x] (sp w))
    (hsp : ∀ (w : World) (H : Hp) (a : Addr) (ns : List Int),ns.length ≤ n → Only H → SqL (K w.params) H a (ns.map V.int) → sp w [.ref a] H (fun v _ => v = .bl true) fun _ _ _ => False)
    (hCX : ∀ (w : World) (H : Hp) (s : Shared) (e : Value) (s' : Shared),CX w [] H s (fun _ _ _ => False) e s' → False) :
    PySem.W.WalkO q loose XP YP l.row.toRowW d [] (fun f vs => PySem.call f vs) := by
  refine Att.attach_call hn hdf fun w s₀ s₁ mg mb fa o pm cd doc a vs ns G Y ho hd hcd hmg hobj hints hlen hg => ?_
  have KX := hY w _ Y
  obtain ⟨fd,hb,hF⟩ := F w mg fa _ KX G.T.g hmg
  exact law_call KX G.T.g G.T.b G.T.builtins G.T.nolimit hg hobj hints (Nat.le_trans hlen hn2) hr hF hb (fun H hO hS => hsp w H a ns hlen hO hS) fun H e s' => hCX w H s₁ e s'
end L2
/- THE LAST THEOREM (shape; LID,My.* are yours):
   My.Adr: a structure of the addresses that your layer names (classes,functions); My.Txt K t: a structure (Prop) of the equations over K;
   My.txt_mk : {K} {implicit addresses ..} (e1 : nsIn K mainGlobals "law" = some (some (.ref f))) (e2 : K.lookup f = some ⟨oc,od,.func (fnOf "law" "law" params body scope dV kV doc pm an cdv ct),sl⟩) (e3 : codeIn K cdv "law" = true) .. : ∃ t,My.Txt K t
(the tactic k_is has no namespace: write k_is) -/
namespace L2
open PySem PySem.Spec PyProof.Rows
def defArgs (s : Stmt) : Arguments := match s with
  | .FunctionDef _ a _ _ _ _ _ _ _ _ => a
  | _ => { posonlyargs := [],args := [],vararg := none,kwonlyargs := [],kw_defaults := [],kwarg := none,defaults := [] }
def defBody (s : Stmt) : List Stmt := match s with
  | .FunctionDef _ _ b _ _ _ _ _ _ _ => b
  | _ => []
def defScope (s : Stmt) : Scope := match s with
  | .FunctionDef _ _ _ _ _ _ sc _ _ _ => sc
  | _ => { kind := .function,names := [],isGenerator := false,isCoroutine := false }
abbrev CX0 : CXT := fun _ _ _ _ _ _ => False
abbrev E0 : XK := fun _ _ _ => False
theorem pass0 {X : Cx} : Passes CX0 X E0 := fun _ _ _ _ _ _ _ h => h.elim
structure Fun (K : PySem.W.Frag) (x qual : Str) (st : Stmt) (f : Addr) (fd : FuncData) : Prop where
  ex : ∃ (oc : Value) (od : Option Addr) (kV doc pm : Value) (an : Option Addr) (cdv ct : Value) (osl : Array (Option Value)),
    fd = PySem.W.fnOf x qual (defArgs st) (defBody st) (defScope st) .none kV doc pm an cdv ct ∧ K.lookup f = some ⟨oc,od,.func fd,osl⟩ ∧ PySem.W.codeIn K cdv qual = true
  kp : PySem.W.keepIn K (.ref f) = true
section
variable {P : Program} {w : World} {K : PySem.W.Frag} {mg : Str → Option Value} {base : Heap}
theorem Fun.ok {x qual : Str} {st : Stmt} {f : Addr} {fd : FuncData} {N ps : List Str} {k : Nat} {sp : Sp} (F : Fun K x qual st f fd) (S : FnScope N ps (defScope st)) (len : ∀ vs H Q E,sp vs H Q E → vs.length = ps.length)
    (hbody : ∀ (cdv : Value) (A : Around) (outer : List Env) (s : Shared) (H : Hp) (vs : List V) (Q : VK) (E : XK),Room k (A.deeper (envOfC qual (defScope st) s.heap.objs.size f cdv)) → sp vs H Q E →
      ∃ t,PSs (cxOf CX0 P w K mg base N qual (defScope st) f cdv A outer s H E).nox (defBody st) t ∧ t { nx := fun _ H' => Q .non H',rt := Q } (start N vs) H) : FnOk P w K mg base CX0 (k + 1) f fd ps sp := by
  obtain ⟨oc,od,kV,doc,pm,an,cdv,ct,osl,rfl,lk,hcd⟩ := F.ex
  refine fn_of lk hcd S len fun A outer s H vs Q E hr hsp => ?_
  obtain ⟨t,h,q⟩ := hbody cdv A outer s H vs Q E hr hsp
  exact ⟨t,h.nox,q⟩
theorem Fun.binds {x qual : Str} {st : Stmt} {f : Addr} {fd : FuncData} {ps : List Str} (F : Fun K x qual st f fd)
    (h : ∀ (kV doc pm : Value) (an : Option Addr) (cdv ct : Value) (us : List Value),us.length = ps.length → bindArgs (PySem.W.fnOf x qual (defArgs st) (defBody st) (defScope st) .none kV doc pm an cdv ct) ⟨us,[]⟩ = pure (ps.zip us)) : Binds K fd ps [] := by
  obtain ⟨oc,od,kV,doc,pm,an,cdv,ct,osl,rfl,lk,hcd⟩ := F.ex
  exact .all (h kV doc pm an cdv ct)
theorem fun_mk {x qual : Str} {st : Stmt} {f : Addr} {oc : Value} {od an : Option Addr} {osl : Array (Option Value)} {kV doc pm cdv ct : Value} (l : K.lookup f = some ⟨oc,od,.func (PySem.W.fnOf x qual (defArgs st) (defBody st) (defScope st) .none kV doc pm an cdv ct),osl⟩)
    (c : PySem.W.codeIn K cdv qual = true) (k : PySem.W.keepIn K (.ref f) = true) : Fun K x qual st f (PySem.W.fnOf x qual (defArgs st) (defBody st) (defScope st) .none kV doc pm an cdv ct) := ⟨⟨oc,od,kV,doc,pm,an,cdv,ct,osl,rfl,l,c⟩,k⟩
end
theorem hu_of {A : Around} {k : Nat} (hr : Room k A) : A.units + 1 < cLine := Nat.lt_of_le_of_lt (Nat.add_le_add_left (by decide : 1 ≤ 64) _) hr.units
theorem small1000 {n : Nat} (h : n ≤ 1000) : n < sizeLine := Nat.lt_of_le_of_lt h (by decide)
section
variable {X : Cx}
end
theorem ite2 {c A B : Prop} [Decidable c] (h1 : c → A) (h2 : ¬ c → B) : if c then A else B := by
  by_cases h : c
  · rw [if_pos h]
    exact h1 h
  · rw [if_neg h]
    exact h2 h
def Same (H H' : Hp) : Prop := ∀ b o,H b = some o → H' b = some o
theorem Same.refl (H : Hp) : Same H H := fun _ _ h => h
theorem Same.trans {H H1 H2 : Hp} (a : Same H H1) (b : Same H1 H2) : Same H H2 := fun c o h => b c o (a c o h)
inductive D where
  | non | bl (b : Bool) | int (i : Int) | str (x : Str) | tup (ds : List D) | lst (ds : List D) | dct | dic (ks : List Key) (ds : List D) | scr (φ : Addr → Prop) (ns : List Int) | ext (φ : Hp → Addr → Prop)
mutual
def Rep (H : Hp) : D → V → Prop
  | .non,v => v = .non
  | .bl b,v => v = .bl b
  | .int i,v => v = .int i
  | .str x,v => v = .str x
  | .tup ds,v => ∃ a xs,v = .ref a ∧ H a = some (.tup xs) ∧ Reps H ds xs
  | .lst ds,v => ∃ a xs,v = .ref a ∧ H a = some (.lst xs) ∧ Reps H ds xs
  | .dct,v => ∃ a kvs,v = .ref a ∧ H a = some (.dK kvs)
  | .dic ks ds,v => ∃ a xs,v = .ref a ∧ H a = some (.dK (ks.zip xs)) ∧ ks.length = ds.length ∧ Reps H ds xs
  | .scr φ ns,v => ∃ a,v = .ref a ∧ ((∃ o,H a = some (.frz o (.lst (ns.map V.int)))) ∨ φ a)
  | .ext φ,v => ∃ a H0,v = .ref a ∧ Same H0 H ∧ φ H0 a
def Reps (H : Hp) : List D → List V → Prop
  | [],xs => xs = []
  | d :: ds,xs => ∃ v vs,xs = v :: vs ∧ Rep H d v ∧ Reps H ds vs
end
theorem Reps.length {H : Hp} : ∀ {ds : List D} {xs : List V},Reps H ds xs → xs.length = ds.length
  | [],xs,h => by rw [Reps] at h; subst h; rfl
  | d :: ds,xs,h => by
    rw [Reps] at h
    obtain ⟨v,vs,rfl,_,h2⟩ := h
    have := Reps.length h2
    simp [this]
mutual
theorem Rep.mono {H H' : Hp} (e : Same H H') : ∀ (d : D) (v : V),Rep H d v → Rep H' d v
  | .non,v,h => by rw [Rep] at *; exact h
  | .bl b,v,h => by rw [Rep] at *; exact h
  | .int i,v,h => by rw [Rep] at *; exact h
  | .str x,v,h => by rw [Rep] at *; exact h
  | .tup ds,v,h => by
    rw [Rep] at *
    obtain ⟨a,xs,h1,h2,h3⟩ := h
    exact ⟨a,xs,h1,e _ _ h2,Reps.mono e ds xs h3⟩
  | .lst ds,v,h => by
    rw [Rep] at *
    obtain ⟨a,xs,h1,h2,h3⟩ := h
    exact ⟨a,xs,h1,e _ _ h2,Reps.mono e ds xs h3⟩
  | .dct,v,h => by
    rw [Rep] at *
    obtain ⟨a,kvs,h1,h2⟩ := h
    exact ⟨a,kvs,h1,e _ _ h2⟩
  | .dic ks ds,v,h => by
    rw [Rep] at *
    obtain ⟨a,xs,h1,h2,h3,h4⟩ := h
    exact ⟨a,xs,h1,e _ _ h2,h3,Reps.mono e ds xs h4⟩
  | .scr φ ns,v,h => by
    rw [Rep] at *
    obtain ⟨a,h1,h2⟩ := h
    refine ⟨a,h1,?_⟩
    rcases h2 with ⟨o,h2⟩ | h2
    · exact .inl ⟨o,e _ _ h2⟩
    · exact .inr h2
  | .ext φ,v,h => by
    rw [Rep] at *
    obtain ⟨a,H0,h1,h2,h3⟩ := h
    exact ⟨a,H0,h1,fun b o q => e _ _ (h2 b o q),h3⟩
theorem Reps.mono {H H' : Hp} (e : Same H H') : ∀ (ds : List D) (xs : List V),Reps H ds xs → Reps H' ds xs
  | [],xs,h => by rw [Reps] at *; exact h
  | d :: ds,xs,h => by
    rw [Reps] at *
    obtain ⟨v,vs,h1,h2,h3⟩ := h
    exact ⟨v,vs,h1,Rep.mono e d v h2,Reps.mono e ds vs h3⟩
end
def D.ty : D → String
  | .non => "NoneType" | .bl _ => "bool" | .int _ => "int" | .str _ => "str" | .tup _ => "tuple" | .lst _ => "list" | .dct => "dict" | .dic _ _ => "dict" | .scr _ _ => "list" | .ext _ => "object"
def D.isS : D → Bool
  | .scr _ _ => true
  | .ext _ => true
  | _ => false
theorem Rep.ty {K : PySem.W.Frag} {H : Hp} {d : D} {v : V} (h : Rep H d v) (hs : d.isS = false) : TyOf K H v (.type d.ty) := by
  cases d with
  | non => rw [Rep] at h; subst h; exact .non
  | bl b => rw [Rep] at h; subst h; exact .bl b
  | int i => rw [Rep] at h; subst h; exact .int i
  | str x => rw [Rep] at h; subst h; exact .str x
  | tup ds => rw [Rep] at h; obtain ⟨a,xs,rfl,h2,_⟩ := h; exact .tup h2
  | lst ds => rw [Rep] at h; obtain ⟨a,xs,rfl,h2,_⟩ := h; exact .lst h2
  | dct => rw [Rep] at h; obtain ⟨a,kvs,rfl,h2⟩ := h; exact .dK h2
  | dic ks ds => rw [Rep] at h; obtain ⟨a,xs,rfl,h2,_⟩ := h; exact .dK h2
  | scr φ ns => cases hs
  | ext φ => cases hs
theorem reps_at {H : Hp} : ∀ {ds : List D} {xs : List V} {r : Nat},Reps H ds xs → r < ds.length → ∃ v d,xs[r]? = some v ∧ ds[r]? = some d ∧ Rep H d v
  | [],_,_,_,h => absurd h (Nat.not_lt_zero _)
  | d :: ds,xs,0,h,_ => by obtain ⟨v,vs,rfl,h1,_⟩ := h; exact ⟨v,d,rfl,rfl,h1⟩
  | d :: ds,xs,r + 1,h,hl => by
    obtain ⟨v,vs,rfl,_,h2⟩ := h
    obtain ⟨v',d',e1,e2,e3⟩ := reps_at (r := r) h2 (by simpa using hl)
    exact ⟨v',d',by simpa using e1,by simpa using e2,e3⟩
theorem rep_tup {H : Hp} {a : Addr} {xs : List V} {ds : List D} (h : H a = some (.tup xs)) (r : Reps H ds xs) : Rep H (.tup ds) (.ref a) := by rw [Rep]; exact ⟨a,xs,rfl,h,r⟩
theorem rep_lst {H : Hp} {a : Addr} {xs : List V} {ds : List D} (h : H a = some (.lst xs)) (r : Reps H ds xs) : Rep H (.lst ds) (.ref a) := by rw [Rep]; exact ⟨a,xs,rfl,h,r⟩
theorem reps_nil {H : Hp} : Reps H [] [] := by rw [Reps]
theorem reps_cons {H : Hp} {d : D} {v : V} {ds : List D} {vs : List V} (h : Rep H d v) (r : Reps H ds vs) : Reps H (d :: ds) (v :: vs) := by rw [Reps]; exact ⟨v,vs,rfl,h,r⟩
theorem rep_int {H : Hp} (i : Int) : Rep H (.int i) (.int i) := by rw [Rep]
theorem rep_bl {H : Hp} (i : Bool) : Rep H (.bl i) (.bl i) := by rw [Rep]
theorem rep_str {H : Hp} (i : Str) : Rep H (.str i) (.str i) := by rw [Rep]
theorem rep_non {H : Hp} : Rep H .non .non := by rw [Rep]
theorem same_upd {H : Hp} {p : Addr} (h : H p = none) (o : HO) : Same H (upd H p o) := fun b u q => by rw [upd_ne (ne_of_none q h)]; exact q
section
variable {X : Cx}
def isTy (d : D) (T : String) : Option Bool := if d.isS = true then none else if (Value.type d.ty == Value.type T) = true then some true else if PySem.W.kitMeta T = true then (fastBuiltinMro d.ty).map (·.contains (.type T)) else none
theorem isTy_kit (K : PySem.W.Frag) (d : D) (T : String) (hs : d.isS = false) : PySem.W.kitOne K (.type d.ty) (.type T) = isTy d T := by
  unfold isTy; rw [hs,if_neg (by decide)]; rfl
def rIsI : List V → Hp → VK → Prop := fun xs H Q => ∃ x T d b,xs = [x,.ty T] ∧ Rep H d x ∧ isTy d T = some b ∧ Q (.bl b) H
theorem call_isinst : CallR X (.builtin "isinstance") rIsI := by
  intro pins s σ H xs us Q I r h
  obtain ⟨x,T,d,b,rfl,hd,e,q⟩ := h
  obtain ⟨u,w',rfl,ru,rw'⟩ := vals2 r
  cases (show w' = Value.type T from rw')
  have hs : d.isS = false := by
    cases z : d.isS with
    | false => rfl
    | true => unfold isTy at e; rw [z,if_pos rfl] at e; cases e
  rw [← isTy_kit X.K d T hs] at e
  exact isinst_ok I ru (hd.ty hs) e fun tk => ⟨.bl b,H,I.tok tk,rfl,q⟩
theorem op_isB : OpR X (compareOp .Is) (fun x y H Q => ∃ b c,x = .bl b ∧ y = .bl c ∧ Q (.bl (b == c)) H) := by
  intro pins s σ H x y v u Q I rx ry h
  obtain ⟨b,c,rfl,rfl,q⟩ := h
  cases rx; cases ry
  exact is_bool ⟨.bl _,H,I,rfl,q⟩
def Sm (i : Int) : Prop := i.natAbs < 2 ^ 8000
theorem Sm.log {i : Int} (h : Sm i) : i.natAbs.log2 < 8000 := by
  by_cases h0 : i.natAbs = 0
  · rw [h0]; decide
  · exact (Nat.log2_lt h0).mpr h
def CDivB (i j : Int) : Prop := 0 < j ∧ Sm j
theorem op_fdivB : OpR X (binaryOp .FloorDiv) (rI CDivB fun i j => .int (i / j)) := opI fun i j _ _ _ _ _ hc q => by
  refine floordiv_int (Int.ne_of_gt hc.1) ?_ (.inl (PyProof.noPylong_of_log2 (Nat.lt_of_lt_of_le hc.2.log (by decide))))
  rw [Int.fdiv_eq_ediv_of_nonneg _ (Int.le_of_lt hc.1)]
  exact q
end
theorem bt_len : bootBuiltins "len" = some (.builtin "len") := by decide +kernel
theorem bt_abs : bootBuiltins "abs" = some (.builtin "abs") := by decide +kernel
theorem bt_max : bootBuiltins "max" = some (.builtin "max") := by decide +kernel
theorem bt_min : bootBuiltins "min" = some (.builtin "min") := by decide +kernel
theorem bt_isinstance : bootBuiltins "isinstance" = some (.builtin "isinstance") := by decide +kernel
theorem bt_sorted : bootBuiltins "sorted" = some (.builtin "sorted") := by decide +kernel
theorem bt_range : bootBuiltins "range" = some (.type "range") := by decide +kernel
theorem bt_int : bootBuiltins "int" = some (.type "int") := by decide +kernel
theorem bt_bool : bootBuiltins "bool" = some (.type "bool") := by decide +kernel
theorem bt_tuple : bootBuiltins "tuple" = some (.type "tuple") := by decide +kernel
theorem bt_list : bootBuiltins "list" = some (.type "list") := by decide +kernel
theorem bt_enumerate : bootBuiltins "enumerate" = some (.type "enumerate") := by decide +kernel
theorem bt_zip : bootBuiltins "zip" = some (.type "zip") := by decide +kernel
section
variable {X : Cx} {pins : List (Addr × Obj)} {σ : St} {H : Hp} {s : Shared} {pos : Pos}
theorem Inv.big (I : Inv X pins σ H s) : sysModules < s.heap.objs.size := by
  obtain ⟨o,es,ep,e,_⟩ := I.ok.mod.glob
  have h1 := Heap.lt_size (I.bk _ _ e)
  exact Nat.lt_of_le_of_lt (by decide) h1
theorem dk_empty {P : Program} {w : World} {H : Hp} (h : Heap) (hb : sysModules < h.objs.size) : ObjOk P w H (h.push { cls := .type "dict",data := .dict #[] }) h.objs.size (.dK []) :=
  ⟨Nat.zero_le _,beq_eq_false_iff_ne.mpr (Ne.symm (Nat.ne_of_lt hb)),[],.nil,Heap.DictOf.new h⟩
def tDNewK : TE := fun _ H Q => ∀ p,H p = none → Q (.ref p) (upd H p (.dK []))
theorem pe_dnewK : PE X (.Dict [] [] pos) tDNewK := ⟨fun pins s σ H Q I h =>
  wpAny_Dict_empty ⟨.ref s.heap.objs.size,_,I.laid (a := s.heap.objs.size) (o := .dK []) (t' := s.toks) (fun _ _ q => Heap.get?_push_of_some _ q) (Nat.le_refl _) (dk_empty s.heap I.big),rfl,h _ (I.hok.fresh (Nat.le_refl _))⟩⟩
end
end L2
namespace L2
open PySem
theorem sm_of {i : Int} {n : Nat} (h : i.natAbs ≤ n) (hn : n < 2 ^ 8000) : Sm i := Nat.lt_of_le_of_lt h hn
end L2
namespace L2
open PySem PySem.Spec PyProof.Rows
def CL (env : Env) : List (Str × Addr) → Prop
  | [] => True
  | p :: r => env.cells.lookup p.1 = some p.2 ∧ CL env r
theorem CL.get {env : Env} : ∀ {cl : List (Str × Addr)},CL env cl → ∀ {x : Str} {c : Addr},cl.lookup x = some c → env.cells.lookup x = some c
  | [],_,x,c,h => by simp at h
  | (y,d) :: r,h,x,c,e => by
    rw [List.lookup_cons] at e
    cases hx : x == y with
    | true =>
      rw [hx] at e
      have e1 : x = y := by simpa using hx
      have e2 : d = c := Option.some.inj e
      subst e1 e2
      exact h.1
    | false =>
      rw [hx] at e
      exact CL.get h.2 e
theorem lookup_relabel {env : Env} : ∀ {names : List (Str × NameKind)} {x : Str} {k : NameKind},
    (names.map fun (n,k) => if (k == NameKind.free && env.scope.kind == .function && env.kindOf n == some .cell) then (n,NameKind.cell) else (n,k)).lookup x = some k →
    ∃ k',names.lookup x = some k' ∧ (k' = k ∨ (k' = .free ∧ k = .cell))
  | [],x,k,h => by simp at h
  | (n,kn) :: r,x,k,h => by
    have ih := @lookup_relabel env r x k
    by_cases hc : (kn == NameKind.free && env.scope.kind == .function && env.kindOf n == some .cell) = true
    · have h' : List.lookup x ((n,NameKind.cell) :: (r.map fun (n,k) => if (k == NameKind.free && env.scope.kind == .function && env.kindOf n == some .cell) then (n,NameKind.cell) else (n,k))) = some k := by
        rw [List.map_cons] at h
        simp only [hc,if_true] at h
        exact h
      rw [List.lookup_cons] at h' ⊢
      cases hx : x == n with
      | true =>
        rw [hx] at h'
        have : kn = .free := by
          simp only [Bool.and_eq_true,beq_iff_eq] at hc
          exact hc.1.1
        exact ⟨kn,rfl,.inr ⟨this,(Option.some.inj h').symm⟩⟩
      | false => rw [hx] at h'; exact ih h'
    · have h' : List.lookup x ((n,kn) :: (r.map fun (n,k) => if (k == NameKind.free && env.scope.kind == .function && env.kindOf n == some .cell) then (n,NameKind.cell) else (n,k))) = some k := by
        rw [List.map_cons] at h
        simp only [hc] at h
        exact h
      rw [List.lookup_cons] at h' ⊢
      cases hx : x == n with
      | true => rw [hx] at h'; exact ⟨kn,rfl,.inl (Option.some.inj h')⟩
      | false => rw [hx] at h'; exact ih h'
def compCx (X : Cx) (scope : Scope) (cl : List (Str × Addr)) (N : List Str) (C : Addr) (s₀ : Shared) (H₀ : Hp) (ex : List Addr) : Cx where
  prog := X.prog
  w := X.w
  K := X.K
  mg := X.mg
  base := X.base
  A := X.A
  N := N
  s₀ := s₀
  H₀ := H₀
  env := compEnvC scope cl C X.env
  outer := X.stack
  stack := X.stack
  ex := ex
  fn := fun _ => false
  calm := X.calm
  pn := []
  xe := fun _ _ => False
def okJ (X : Cx) (scope : Scope) (j : Nat) : Bool := match X.N[j]? with
  | some x => (match X.env.scope.names.lookup x with | some .cell => true | _ => false) && (match scope.names.lookup x with | some .free => true | _ => false)
  | none => false
def sig0 (own : List Str) (js : List Nat) (σ : St) : St := own.map (fun _ => none) ++ js.map fun j => (σ[j]?).getD none
def nam0 (X : Cx) (own : List Str) (js : List Nat) : List Str := own ++ js.map fun j => (X.N[j]?).getD (Str.ofString "")
structure CompOk (X : Cx) (scope : Scope) (cl : List (Str × Addr)) (own : List Str) (js : List Nat) : Prop where
  clos : closureFor scope X.env = pure cl
  kind : scope.kind = .function
  names : ∀ x ∈ scope.names,x.2 = .local → scope.names.lookup x.1 = some .local
  ncell : (scope.names.all fun y => match y.2 with | .cell => false | _ => true) = true
  has : (scope.names.all fun y => match y.2 with | .free => (cl.lookup y.1).isSome | _ => true) = true
  cells : CL X.env cl
  js : js.all (okJ X scope) = true
theorem CompOk.nc {X : Cx} {scope : Scope} {cl : List (Str × Addr)} {own : List Str} {js : List Nat} (c : CompOk X scope cl own js) : ∀ y ∈ scope.names,y.2 ≠ .cell := fun y hy e => by
  have := List.all_eq_true.mp c.ncell y hy
  rw [e] at this
  cases this
theorem CompOk.fr {X : Cx} {scope : Scope} {cl : List (Str × Addr)} {own : List Str} {js : List Nat} (c : CompOk X scope cl own js) {x : Str} (h : scope.names.lookup x = some .free) : ∃ d,cl.lookup x = some d := by
  have := List.all_eq_true.mp c.has (x,.free) (PySem.mem_of_lookup h)
  exact Option.isSome_iff_exists.mp this
section
variable {X : Cx} {pins : List (Addr × Obj)} {σ : St} {H : Hp} {s : Shared} {scope : Scope} {cl : List (Str × Addr)} {own : List Str} {js : List Nat}
theorem comp_start {h1 : Heap} {C : Addr} {fp : List Addr} {t' : Nat} (c : CompOk X scope cl own js) (I : Inv X pins σ H s) (hf : ∀ b ∈ fp,FpOk X pins H b) (hlt : ∀ b ∈ fp,b < s.heap.objs.size)
    (hC : s.heap.objs.size ≤ C) (hk : ∀ b o,s.heap.get? b = some o → h1.get? b = some o) (hn : h1.Ns C fun _ => none) :
    Inv (compCx X scope cl (nam0 X own js) C s H fp) [] (sig0 own js σ) H { s with heap := h1,toks := t' } := by
  have kindOfY : ∀ x k,(compCx X scope cl (nam0 X own js) C s H fp).env.kindOf x = some k → ∃ k',scope.names.lookup x = some k' ∧ (k' = k ∨ (k' = .free ∧ k = .cell)) := fun x k e => lookup_relabel (env := X.env) (names := scope.names) e
  refine ⟨⟨I.ok.mod,c.kind,I.ok.glob,I.ok.blt,hC,fun x y d h1 h2 => I.ok.inj x y d (c.cells.get h1) (c.cells.get h2),fun x hx => ?_,fun x d h => (by cases h),I.ok.hd,I.ok.frames,.inl rfl,fun b hb => ⟨?_,fun x d e => (hf b hb).2.2.2.2.1 x d (c.cells.get e)⟩,
    fun b o e => I.bs b o e,Nat.le_trans I.ok.bsz I.sz,fun b o e hb => ?_,fun b hb z => ?_,I.stack,I.stkFree⟩,rfl,I.bare,Un.kept hk,⟨_,hn,fun i x v e1 e2 e3 => ?_⟩,fun x d e => ?_,I.hok.fresh hC,fun x d e => I.freeC x d (c.cells.get e),fun p hp => (by cases hp),I.hok.kept hk,?_⟩
  · rcases hx with hx | hx
    · obtain ⟨k',e1,e2⟩ := kindOfY x _ hx
      rcases e2 with e2 | ⟨e2,_⟩
      · exact absurd e2 (c.nc _ (PySem.mem_of_lookup e1))
      · subst e2; exact c.fr e1
    · obtain ⟨k',e1,e2⟩ := kindOfY x _ hx
      rcases e2 with e2 | ⟨_,e2⟩
      · subst e2; exact c.fr e1
      · cases e2
  · exact Nat.ne_of_lt (Nat.lt_of_lt_of_le (hlt b hb) hC)
  · rcases (hf b hb).2.2.2.1 with z | z
    · exact I.ok.noex b o e z
    · exact absurd (Nat.lt_of_lt_of_le (Heap.lt_size e) (Nat.le_trans I.ok.bsz z)) (Nat.lt_irrefl _)
  · rcases List.mem_cons.mp (I.stkSub b z) with q | q
    · exact (hf b hb).2.1 q
    · exact (hf b hb).2.2.1 q
  · -- a name taken from the frame
    have e1 : (nam0 X own js)[i]? = some x := e1
    unfold nam0 at e1
    unfold sig0 at e2
    by_cases hi : i < own.length
    · rw [List.getElem?_append_left (by simpa using hi),List.getElem?_map,List.getElem?_eq_getElem hi] at e2
      cases e2
    · rw [List.getElem?_append_right (by simpa using Nat.not_lt.mp hi),List.getElem?_map,List.length_map] at e2
      rw [List.getElem?_append_right (Nat.not_lt.mp hi),List.getElem?_map] at e1
      cases ej : js[i - own.length]? with
      | none => rw [ej] at e2; cases e2
      | some j =>
        rw [ej] at e1 e2
        have hj := List.all_eq_true.mp c.js j (List.mem_of_getElem? ej)
        unfold okJ at hj
        have e1' : (X.N[j]?).getD (Str.ofString "") = x := Option.some.inj e1
        have e2' : (σ[j]?).getD none = some v := Option.some.inj e2
        cases en : X.N[j]? with
        | none => rw [en] at hj; cases hj
        | some y =>
          rw [en] at hj e1'
          have e1'' : y = x := e1'
          subst e1''
          have hv : σ[j]? = some (some v) := by
            cases es : σ[j]? with
            | none => rw [es] at e2'; cases e2'
            | some ov => rw [es] at e2'; rw [show ov = some v from e2']
          dsimp only at hj
          rw [Bool.and_eq_true] at hj
          have k1 : X.env.scope.names.lookup y = some .cell := by
            have := hj.1
            split at this
            · assumption
            · cases this
          have k2 : scope.names.lookup y = some .free := by
            have := hj.2
            split at this
            · assumption
            · cases this
          obtain ⟨m,_,hl⟩ := I.loc
          obtain ⟨u,ru,l⟩ := hl j y v en hv (.inr (.inl k1))
          refine ⟨u,ru,?_⟩
          rcases l with ⟨l,_⟩ | ⟨_,d,ed,z⟩
          · rw [show X.env.kindOf y = some .cell from k1] at l; cases l
          · obtain ⟨d',ed'⟩ := c.fr k2
            have := c.cells.get ed'
            rw [ed] at this
            cases this
            obtain ⟨o,ho,hd⟩ := z
            refine .inr ⟨?_,d,ed',⟨o,hk _ _ ho,hd⟩⟩
            have e3 : (compCx X scope cl (nam0 X own js) C s H fp).env.scope.names.lookup y = some .local ∨ (compCx X scope cl (nam0 X own js) C s H fp).env.scope.names.lookup y = some .cell ∨ (compCx X scope cl (nam0 X own js) C s H fp).env.scope.names.lookup y = some .free := e3
            rcases e3 with e3 | e3 | e3
            · obtain ⟨k',q1,q2⟩ := kindOfY y _ e3
              rw [k2] at q1
              cases q1
              rcases q2 with q2 | ⟨_,q2⟩ <;> cases q2
            · exact .inl e3
            · exact .inr e3
  · obtain ⟨v,o,ho,hd⟩ := I.cell x d (c.cells.get e)
    exact ⟨v,o,hk _ _ ho,hd⟩
  · show (sig0 own js σ).length = (nam0 X own js).length
    unfold sig0 nam0
    simp
structure PIf (X : Cx) (ifs : List Expr) (t : TT) : Prop where
  go : ∀ (pins : List (Addr × Obj)) (s : Shared) (σ : St) (H : Hp) (Q : Bool → Hp → Prop),Inv X pins σ H s → t σ H Q →
    wpAny (model X.prog X.w) X.A (forIn ifs true fun c r => if r = true then do let ok ← isTrue c X.env (eval c X.env); pure (ForInStep.yield ok) else pure (ForInStep.yield r)) (TP X pins σ Q) X.xe s
def tYes : TT := fun _ H Q => Q true H
theorem pif_nil : PIf X [] tYes := ⟨fun pins s σ H Q I h => wpAny_tests_nil ⟨H,I,h⟩⟩
theorem pif_one {c : Expr} {t : TT} (h : PT X c t) : PIf X [c] t := ⟨fun pins s σ H Q I q => wpAny_tests_one (h.go pins s σ H Q I q)⟩
theorem codeAny_compLoop_go {prog : Program} {w : World} {A : Around} {R : Result → Shared → Prop} {s : Shared} {elt target iter : Expr} {ifs : List Expr} {scope : Scope} {pos : Pos} {it acc : Value} {env : Env} (I : Nat → Shared → Prop)
    (turn : ∀ n s,I n s → wpAny (model prog w) A (pyNext it) (fun r s₁ => match r with
      | none => R (.ok .next) s₁
      | some v => wpAny (model prog w) A (letOwnedTupleGo target it v) (fun _ s₁ => wpAny (model prog w) A (assign target env v) (fun _ s₂ =>
          wpAny (model prog w) A (forIn ifs true fun c r => if r = true then do let ok ← isTrue c env (eval c env); pure (ForInStep.yield ok) else pure (ForInStep.yield r)) (fun ok s₃ =>
            if ok = true then wpAny (model prog w) A (eval elt env) (fun x s₄ =>
              wpAny (model prog w) A (call (.builtin "list.append") [acc,x]) (fun _ s₅ => ∃ m,m < n ∧ I m s₅) (fun _ _ => False) s₄) (fun _ _ => False) s₃
            else ∃ m,m < n ∧ I m s₃) (fun _ _ => False) s₂) (fun _ _ => False) s₁) (fun _ _ => False) s₁) (fun _ _ => False) s)
    (n : Nat) (h : I n s) :
    codeAny (model prog w) A (.compLoop (.ListComp elt [⟨target,iter,ifs,0⟩] scope pos) 0 it acc env) R s := by
  refine codeAny_loop rfl I (fun n s hI => ?_) n h
  show wpAny _ A ((compTurn (.ListComp elt [⟨target,iter,ifs,0⟩] scope pos) 0 it acc env).onRaise (fun x => do noteFrame x env; theTreesLotGoes x)) _ _ s
  refine wpAny_noted ?_
  rw [compTurn_list]
  refine wpAny_bind (wpAny_standAt (wpAny_bind (wpAny_mono (turn n s hI) (fun r s₁ h₁ => ?_) fun _ _ h' => h'.elim)))
  cases r with
  | none => exact wpAny_pure h₁
  | some v =>
    refine wpAny_bind (wpAny_mono h₁ (fun _ s₁ h₁ => ?_) fun _ _ h' => h'.elim)
    refine wpAny_bind (wpAny_mono h₁ (fun _ s₂ h₂ => wpAny_bind (wpAny_mono h₂ (fun ok s₃ h₃ => ?_) fun _ _ h' => h'.elim)) fun _ _ h' => h'.elim)
    cases ok with
    | false => exact wpAny_pure ⟨rfl,h₃⟩
    | true =>
      exact wpAny_bind (wpAny_bind (wpAny_mono h₃ (fun x s₄ h₄ => wpAny_bind (wpAny_mono h₄ (fun _ s₅ h₅ => wpAny_pure (wpAny_pure ⟨rfl,h₅⟩)) fun _ _ h' => h'.elim)) fun _ _ h' => h'.elim))
def kept : St → St → Prop
  | [],[] => True
  | none :: r,_ :: r' => kept r r'
  | some v :: r,y :: r' => y = some v ∧ kept r r'
  | [],_ :: _ => False
  | _ :: _,[] => False
theorem kept_len : ∀ {a b : St},kept a b → a.length = b.length
  | [],[],_ => rfl
  | none :: r,_ :: r',h => congrArg (· + 1) (kept_len (a := r) (b := r') h)
  | some v :: r,y :: r',h => congrArg (· + 1) (kept_len (a := r) (b := r') h.2)
  | [],_ :: _,h => False.elim h
  | none :: _,[],h => False.elim h
  | some _ :: _,[],h => False.elim h
theorem kept_get : ∀ {a b : St},kept a b → ∀ (i : Nat) (v : V),a[i]? = some (some v) → b[i]? = some (some v)
  | [],[],_,i,v,e => by simp at e
  | none :: r,_ :: r',h,0,v,e => by simp at e
  | none :: r,_ :: r',h,i + 1,v,e => by simpa using kept_get (a := r) (b := r') h i v (by simpa using e)
  | some w :: r,y :: r',h,0,v,e => by simp at e; subst e; simp [h.1]
  | some w :: r,y :: r',h,i + 1,v,e => by simpa using kept_get (a := r) (b := r') h.2 i v (by simpa using e)
  | [],_ :: _,h,_,_,_ => False.elim h
  | none :: _,[],h,_,_,_ => False.elim h
  | some _ :: _,[],h,_,_,_ => False.elim h
def CompW (J : It) (g : TG) (tt : TT) (te : TE) (σ0 : St) (H : Hp) (Z : List V → Hp → Prop) : Prop :=
  ∃ W : Nat → Nat → List V → Hp → Prop,(∃ m,W 0 m [] H) ∧ ∀ i m acc H,W i m acc H →
    (J.stop i H ∧ acc.length ≤ sizeLine ∧ Z acc H) ∨ (J.go i H ∧ acc.length < sizeLine ∧ ∃ N : List V → Hp → Prop,(∀ acc' H',N acc' H' → ∃ m',m' < m ∧ W (i + 1) m' acc' H') ∧
      ∀ x H',J.yld i H x H' → g x σ0 H' fun σ2 H2 => kept σ0 σ2 ∧ tt σ2 H2 fun b H3 => if b = true then te σ2 H3 fun v H4 => N (acc ++ [v]) H4 else N acc H3)
theorem HOk.adopt {P : Program} {w : World} {H : Hp} {h : Heap} {a : Addr} {o : HO} (x : HOk P w H h) (hn : H a = none) (new : ObjOk P w (upd H a o) h a o) : HOk P w (upd H a o) h := fun b u e => by
  by_cases hb : b = a
  · subst hb; rw [upd_same] at e; cases e; exact new
  · rw [upd_ne hb] at e
    exact (x b u e).stay (fun c v _ q => q) (fun c q => by rw [upd_ne (ne_of_none q hn)]; exact q) fun c xs q => by rw [upd_ne (ne_of_none q hn)]; exact q
theorem comp_core {elt tg iter : Expr} {ifs : List Expr} {pos : Pos} {J : It} {fp : List Addr} {it : Addr} {tn : Nat → Heap → Prop} {g : TG} {tt : TT} {te : TE} {Z : List V → Hp → Prop} {E : Value → Shared → Prop}
    {RR : Value → Addr → Result → Shared → Prop} (c : CompOk X scope cl own js) (hc : X.calm = true) (I : Inv X pins σ H s) (T : Turn X.prog X.w X.K tg J fp it tn) (t0 : tn 0 s.heap) (hf : ∀ b ∈ fp,FpOk X pins H b)
    (inner : ∀ (C : Addr) (s₀ : Shared) (H₀ : Hp) (ex : List Addr),PG (compCx X scope cl (nam0 X own js) C s₀ H₀ ex) tg g ∧ PIf (compCx X scope cl (nam0 X own js) C s₀ H₀ ex) ifs tt ∧ PE (compCx X scope cl (nam0 X own js) C s₀ H₀ ex) elt te)
    (hW : CompW J g tt te (sig0 own js σ) H Z)
    (hRR : ∀ (D C : Addr) (s' : Shared) (acc : List V) (H' : Hp),(∃ m,s'.heap.Ns C m) → H' D = none → Z acc H' → s.heap.objs.size ≤ C → C ≠ X.env.locals → (upd H' D (.lst acc)) C = none → (∀ h',Heap.SameBut C s'.heap h' → Inv X pins σ (upd H' D (.lst acc)) { s' with heap := h' }) → RR (.ref D) C (.ok .next) s') :
    wpAny (model X.prog X.w) X.A (newList []) (fun acc s₃ => wpAny (model X.prog X.w) X.A (newFunctionEnv scope X.env.globals cl [] X.env.qual none .none (some X.env)) (fun cenv s₄ =>
      codeAny (model X.prog X.w) X.A (.compStart (.ListComp elt [⟨tg,iter,ifs,0⟩] scope pos) 0 (.ref it) acc { cenv with scope := relabel scope X.env }) (RR acc cenv.locals) s₄) E s₃) E s := by
  refine wpAny_newObj_type (wpAny_newFunctionEnv c.nc (by intro y hy; simp at hy) (fun h₁ hns₁ hsb₁ => ?_) c.kind)
  dsimp only at hns₁ hsb₁ ⊢
  generalize hH2 : s.heap.push { cls := .type "list",dict := none,data := .seq ([] : List Value).toArray } = H2 at hns₁ hsb₁ ⊢
  have hCs : H2.objs.size = s.heap.objs.size + 1 := by rw [← hH2,Heap.size_push]
  have hns₁ : h₁.Ns H2.objs.size (fun _ => none) := hns₁
  have hCle : s.heap.objs.size ≤ H2.objs.size := by rw [hCs]; exact Nat.le_succ _
  have hDC : s.heap.objs.size ≠ H2.objs.size := by rw [hCs]; exact Nat.ne_of_lt (Nat.lt_succ_self _)
  have below : ∀ b,b < s.heap.objs.size → b ≠ H2.objs.size ∧ b ≠ s.heap.objs.size := fun b hb => ⟨by rw [hCs]; exact Nat.ne_of_lt (Nat.lt_succ_of_lt hb),Nat.ne_of_lt hb⟩
  have old : ∀ b o,s.heap.get? b = some o → h₁.get? b = some o := fun b o e => hsb₁.extBut b o (below b (Heap.lt_size e)).1 (Heap.get?_push_of_some _ (hH2 ▸ Heap.get?_push_of_some _ e))
  have hD1 : h₁.get? s.heap.objs.size = some { cls := .type "list",data := .seq ([] : List Value).toArray } := hsb₁.extBut _ _ hDC (Heap.get?_push_of_some _ (hH2 ▸ Heap.get?_push_size _ rfl))
  have hlt : ∀ b ∈ fp,b < s.heap.objs.size := fun b hb => by
    obtain ⟨o,e,_⟩ := T.obj 0 _ t0 b hb
    exact Heap.lt_size e
  have hCL : H2.objs.size ≠ X.env.locals := fun z => absurd (Nat.lt_of_lt_of_le I.lt (by rw [← z]; exact hCle)) (Nat.lt_irrefl _)
  have hDfs : s.heap.objs.size ∉ frs X.stack := fun z => by
    rcases List.mem_cons.mp (I.stkSub _ z) with q | q
    · exact absurd I.lt (by rw [← q]; exact Nat.lt_irrefl _)
    · exact I.nofs (Nat.le_refl _) q
  have hfs : ∀ b ∈ fp,b ∉ frs X.stack := fun b hb z => by
    rcases List.mem_cons.mp (I.stkSub b z) with q | q
    · exact (hf b hb).2.1 q
    · exact (hf b hb).2.2.1 q
  have hDcell : ∀ x d,cl.lookup x = some d → d ≠ s.heap.objs.size := fun x d e => by
    obtain ⟨v,q⟩ := I.cell x d (c.cells.get e)
    exact Nat.ne_of_lt q.lt
  have fresh : H s.heap.objs.size = none := I.hok.fresh (Nat.le_refl _)
  obtain ⟨W,⟨m0,w0⟩,turn⟩ := hW
  have loop : ∀ s₃ : Shared,s₃ = { s with heap := h₁,toks := s.toks + ([] : List (Str × Value)).length } →
      codeAny (model X.prog X.w) X.A (.compLoop (.ListComp elt [⟨tg,iter,ifs,0⟩] scope pos) 0 (.ref it) (.ref s.heap.objs.size) (compEnvC scope cl H2.objs.size X.env)) (RR (.ref s.heap.objs.size) H2.objs.size) s₃ := by
    rintro s₃ rfl
    have I0 := comp_start (t' := s.toks + ([] : List (Str × Value)).length) c I hf hlt hCle old hns₁
    obtain ⟨hg,hi,he⟩ := inner H2.objs.size s H fp
    generalize hY : compCx X scope cl (nam0 X own js) H2.objs.size s H fp = Y at I0 hg hi he
    have Yp : Y.prog = X.prog := by rw [← hY]; rfl
    have Yw : Y.w = X.w := by rw [← hY]; rfl
    have YK : Y.K = X.K := by rw [← hY]; rfl
    have YA : Y.A = X.A := by rw [← hY]; rfl
    have Ye : Y.env = compEnvC scope cl H2.objs.size X.env := by rw [← hY]; rfl
    have Yl : Y.env.locals = H2.objs.size := by rw [← hY]; rfl
    have Yc : Y.env.cells = cl := by rw [← hY]; rfl
    have Yf : Y.fs = frs X.stack := by rw [← hY]; rfl
    have Yx : Y.ex = fp := by rw [← hY]; rfl
    have Ys : Y.s₀ = s := by rw [← hY]; rfl
    have YH : Y.H₀ = H := by rw [← hY]; rfl
    have Yn : Y.pn = [] := by rw [← hY]; rfl
    have Yo : Y.calm = true := by rw [← hY]; exact hc
    have YE : Y.xe = fun _ _ => False := by rw [← hY]; rfl
    have fpY : ∀ {H' : Hp} (pn : List (Addr × Obj)),(∀ b ∈ fp,H' b = none) → (∀ b ∈ fp,∀ p ∈ pn,p.1 ≠ b) → ∀ b ∈ fp,FpOk Y pn H' b := fun pn hn hp b hb =>
      ⟨hn b hb,by rw [Yl]; exact (below b (hlt b hb)).1,by rw [Yf]; exact hfs b hb,.inl (by rw [Yx]; exact hb),fun x d e => (hf b hb).2.2.2.2.1 x d (c.cells.get (by rw [← Yc]; exact e)),fun p hp' => hp b hb p (by rw [Yn] at hp'; exact hp')⟩
    refine codeAny_compLoop_go (fun n s' => ∃ i acc its k H',Inv Y [] (sig0 own js σ) H' s' ∧ tn i s'.heap ∧ (∀ b ∈ fp,H' b = none) ∧ W i n acc H' ∧ H' s.heap.objs.size = none ∧ s'.heap.get? s.heap.objs.size = some { cls := .type "list",data := .seq (its : List Value).toArray k } ∧ Vals acc its) ?_ m0
      ⟨0,[],[],0,H,I0,T.keep 0 _ _ t0 (fun b hb o e => old b o e),fun b hb => (hf b hb).1,w0,fresh,hD1,.nil⟩
    rintro n s' ⟨i,acc,its,k,H',I',tn',fr',w',hD',oD',hv'⟩
    have hpinD : ∀ b ∈ fp,∀ p ∈ [(s.heap.objs.size,({ cls := .type "list",data := .seq its.toArray k } : Obj))],p.1 ≠ b := fun b hb p hp => by
      rw [List.mem_singleton] at hp
      subst hp
      exact fun z => (below b (hlt b hb)).2 z.symm
    have ID : Inv Y [(s.heap.objs.size,({ cls := .type "list",data := .seq its.toArray k } : Obj))] (sig0 own js σ) H' s' := I'.pins_of fun p hp => by
      rw [List.mem_singleton] at hp
      subst hp
      exact ⟨oD',hD',by rw [Yl]; exact hDC,by rw [Yf]; exact hDfs,fun v z => by cases z⟩
    rcases turn i n acc H' w' with ⟨stop,hlen,hz⟩ | ⟨go,hlen,N,hN,step⟩
    · have hd := T.done Y Yp Yw YK Yo i _ s' (sig0 own js σ) H' (fun _ _ => False) ID (fpY _ fr' hpinD) tn' stop
      rw [YA] at hd
      refine thn hd fun r s1 ⟨hr,I1⟩ => ?_
      subst hr
      obtain ⟨oD1,_⟩ := I1.pin _ (List.mem_append_right _ (List.mem_singleton.mpr rfl))
      have hC0 : H' H2.objs.size = none := by have := I1.free; rw [Yl] at this; exact this
      have B1 : Un (frs X.stack) fp H H' s.heap s1.heap := by have := I1.base; rw [Yf,Yx,YH,Ys] at this; exact this
      refine hRR s.heap.objs.size H2.objs.size s1 acc H' (by obtain ⟨m,hn,_⟩ := I1.loc; rw [Yl] at hn; exact ⟨m,hn⟩) hD' hz hCle hCL (by rw [upd_ne (Ne.symm hDC)]; exact hC0) fun h' hsb => ?_
      have at' : ∀ b o,b ≠ H2.objs.size → s1.heap.get? b = some o → h'.get? b = some o := fun b o hb e => by rw [hsb.2 b hb]; exact e
      refine I.call' (s' := { s1 with heap := h' }) (ch := fp) (by have := I1.os; rw [Ys] at this; exact this) ⟨fun b o q nn hb hx => ?_,fun b o q nn hb hx => ?_,fun b o q nn hx => ?_,fun b o q hx => ?_,fun b xs q => ?_,fun b o u q => ?_,fun b ps q => ?_⟩ ?_ I1.bare fun b hb => ⟨(hf b hb).2.2.2.1,(hf b hb).2.1,(hf b hb).2.2.2.2.1,(hf b hb).2.2.2.2.2⟩
      · exact at' b o (below b (Heap.lt_size q)).1 (B1.keep b o q nn hb hx)
      · obtain ⟨sl,e⟩ := B1.slot b o q nn hb hx
        exact ⟨sl,at' b _ (below b (Heap.lt_size q)).1 e⟩
      · rw [upd_ne (below b (Heap.lt_size q)).2]; exact B1.free b o q nn hx
      · obtain ⟨o',e⟩ := B1.there b o q hx
        exact ⟨o',at' b _ (below b (Heap.lt_size q)).1 e⟩
      · have q' := B1.tups b xs q
        rw [upd_ne (ne_of_none q' hD')]; exact q'
      · have q' := B1.frzs b o u q
        rw [upd_ne (ne_of_none q' hD')]; exact q'
      · obtain ⟨more,q'⟩ := B1.tbls b ps q
        exact ⟨more,by rw [upd_ne (ne_of_none q' hD')]; exact q'⟩
      · have hok1 : HOk X.prog X.w H' h' := fun a o e => by
          have hok := I1.hok
          rw [Yp,Yw] at hok
          refine (hok a o e).stay (fun b u hb q => at' b u ?_ q) (fun _ q => q) fun _ _ q => q
          rcases hb with rfl | hb
          · exact ne_of_none e hC0
          · exact ne_of_none hb hC0
        exact hok1.adopt hD' ⟨hlen,its,k,hv',at' _ _ hDC oD1⟩
    · have hd := T.item Y Yp Yw YK Yo i _ s' (sig0 own js σ) H' (fun _ _ => False) ID (fpY _ fr' hpinD) tn' go
      rw [YA] at hd
      refine thn hd fun r s1 ⟨u,hr,h4⟩ => ?_
      subst hr
      have h4 := h4
      refine thn h4 fun _ s2 ⟨x,H5,I5,r5,y5,tn5,fr5⟩ => ?_
      have I5' := I5.pinned (fpY _ fr5 hpinD) (T.obj _ _ tn5)
      have hg' := hg.go _ s2 _ H5 x u _ I5' r5 (step x H5 y5)
      rw [Yp,Yw,YA,Ye,YE] at hg'
      refine thn hg' fun _ s3 ⟨σ6,H6,I6,kp6,q6⟩ => ?_
      have hi' := hi.go _ s3 σ6 H6 _ I6 q6
      rw [Yp,Yw,YA,Ye,YE] at hi'
      refine thn hi' fun ok s4 ⟨H7,I7,q7⟩ => ?_
      cases ok with
      | false =>
        rw [if_neg Bool.false_ne_true] at q7 ⊢
        obtain ⟨m',hm,w7⟩ := hN _ _ q7
        obtain ⟨oD7,hD7,_⟩ := I7.pin _ (List.mem_append_right _ (List.mem_append_left _ (List.mem_singleton.mpr rfl)))
        refine ⟨m',hm,i + 1,acc,its,k,H7,(I7.pins_of (pins' := []) fun p hp => (by cases hp)).weak (kept_len kp6) (kept_get kp6),T.keep _ _ _ tn5 fun b hb o e => (I7.pin (b,o) (List.mem_append_right _ (List.mem_append_right _ (mem_pinsAt hb e)))).1,fun b hb => ?_,w7,hD7,oD7,hv'⟩
        obtain ⟨o,e,_⟩ := T.obj _ _ tn5 b hb
        exact (I7.pin (b,o) (List.mem_append_right _ (List.mem_append_right _ (mem_pinsAt hb e)))).2.1
      | true =>
        rw [if_pos rfl] at q7 ⊢
        have he' := he.go _ s4 σ6 H7 _ I7 q7
        rw [Yp,Yw,YA,Ye,YE] at he'
        refine thn he' fun v s5 ⟨xv,H8,I8,r8,n8⟩ => ?_
        obtain ⟨m',hm,w8⟩ := hN _ _ n8
        obtain ⟨oD8,hD8,_⟩ := I8.pin _ (List.mem_append_right _ (List.mem_append_left _ (List.mem_singleton.mpr rfl)))
        have hsz : its.toArray.size < sizeLine := by rw [List.size_toArray,← hv'.length]; exact hlen
        refine call_meets F.slot_list_append ⟨_,oD8,rfl⟩ F.entry_list_append (F.args_list_append_2 _ _) (PySem.list_append s.heap.objs.size its.toArray k v (Nat.le_of_lt hsz)) ⟨oD8,?_⟩
        have q := PySem.IsL.update oD8 (fun a => a.push v)
        have J8 : Inv Y (pinsAt fp s2.heap) σ6 H8 s5 := I8.pins_of fun p hp => I8.pin p (List.mem_append_right _ (List.mem_append_right _ hp))
        have ne8 : ∀ b,b ∈ fp → b ≠ s.heap.objs.size := fun b hb => (below b (hlt b hb)).2
        have J9 := J8.turned (t' := s5.toks) (h' := s5.heap.update s.heap.objs.size (Obj.mapSeq fun a => a.push v)) (it := s.heap.objs.size) (fun b o hb e => (Heap.get?_update_other s5.heap _ (Ne.symm hb)).trans e) hD8 (by rw [Yl]; exact hDC) (.inr (by rw [Ys]; exact Nat.le_refl _)) (fun x d e => hDcell x d (by rw [← Yc]; exact e))
          (fun p hp => by
            rw [Yn,List.nil_append] at hp
            obtain ⟨hb,_⟩ := of_pinsAt hp
            exact ne8 _ hb)
        have keep9 : ∀ b o,b ∈ fp → s2.heap.get? b = some o → (s5.heap.update s.heap.objs.size (Obj.mapSeq fun a => a.push v)).get? b = some o := fun b o hb e => (J9.pin (b,o) (List.mem_append_right _ (mem_pinsAt hb e))).1
        refine ⟨m',hm,i + 1,acc ++ [xv],its ++ [v],(if ((its ++ [v]).toArray.size == its.toArray.size) = true then k else k + 1),H8,(J9.pins_of (pins' := []) fun p hp => (by cases hp)).weak (kept_len kp6) (kept_get kp6),T.keep _ _ _ tn5 fun b hb o e => keep9 b o hb e,fun b hb => ?_,w8,hD8,?_,hv'.append (.cons r8 .nil)⟩
        · obtain ⟨o,e,_⟩ := T.obj _ _ tn5 b hb
          exact (J9.pin (b,o) (List.mem_append_right _ (mem_pinsAt hb e))).2.1
        · have q' := q
          simp only [List.push_toArray] at q'
          exact q'
  exact codeAny_compStart_list (loop _ rfl) (T.self _ 0 _ _ _ (T.keep 0 _ _ t0 (fun b hb o e => old b o e)) (loop _ rfl))
def tComp (wi : TI) (g : TG) (tt : TT) (te : TE) (own : List Str) (js : List Nat) : TE := fun σ H Q => wi σ H fun J H1 => CompW J g tt te (sig0 own js σ) H1 fun acc H2 => ∀ p,H2 p = none → Q (.ref p) (upd H2 p (.lst acc))
theorem pe_comp {elt tg iter : Expr} {ifs : List Expr} {pos : Pos} {wi : TI} {g : TG} {tt : TT} {te : TE} (own : List Str) (js : List Nat) (c : CompOk X scope cl own js) (hc : X.calm = true) (hi : PI X tg iter wi)
    (inner : ∀ (C : Addr) (s₀ : Shared) (H₀ : Hp) (ex : List Addr),PG (compCx X scope cl (nam0 X own js) C s₀ H₀ ex) tg g ∧ PIf (compCx X scope cl (nam0 X own js) C s₀ H₀ ex) ifs tt ∧ PE (compCx X scope cl (nam0 X own js) C s₀ H₀ ex) elt te)
    (hs : ∀ x,foldedSetIterable iter X.env x = pure x := by intro _; rfl) : PE X (.ListComp elt [⟨tg,iter,ifs,0⟩] scope pos) (tComp wi g tt te own js) := by
  refine ⟨fun pins s σ H Q I h => ?_⟩
  rw [eval_ListComp]
  refine wpAny_comprehension_free (use := none) rfl hs c.clos c.kind c.names (thn (hi.go pins s σ H _ I h) fun v s1 h1 => thn h1 fun itv s2 h2 => ?_)
  obtain ⟨it,fp,tn,J,H2,e,I2,T,st2,f2,hW⟩ := h2
  subst e
  refine comp_core (RR := fun acc C => compPost (model X.prog X.w) X.A X.xe none (EP X pins σ Q) acc C) c hc I2 T st2 f2 inner hW ?_
  intro D C s' acc H' hn hD hz hDC hCL hUC hI
  exact ⟨hn.choose,hn.choose_spec,fun h' hsb => ⟨.ref D,_,hI h' hsb,rfl,hz D hD⟩⟩
theorem ps_setComp {elt tg iter : Expr} {ifs : List Expr} {pos spos py : Pos} {wi : TI} {g : TG} {tt : TT} {te : TE} {i : Nat} {y : Str} (own : List Str) (js : List Nat) (c : CompOk X scope cl own js) (hc : X.calm = true) (hN : X.N.Nodup) (hy : X.N[i]? = some y) (hx : Loc X.env.scope y) (hi : PI X tg iter wi)
    (inner : ∀ (C : Addr) (s₀ : Shared) (H₀ : Hp) (ex : List Addr),PG (compCx X scope cl (nam0 X own js) C s₀ H₀ ex) tg g ∧ PIf (compCx X scope cl (nam0 X own js) C s₀ H₀ ex) ifs tt ∧ PE (compCx X scope cl (nam0 X own js) C s₀ H₀ ex) elt te)
    (hsw : swapsWith (.ListComp elt [⟨tg,iter,ifs,0⟩] scope pos) (some (.Name y py)) spos.line X.env = pure true := by rfl)
    (hs : ∀ x,foldedSetIterable iter X.env x = pure x := by intro _; rfl) (hf : X.fn y = true ∨ X.env.scope.names.lookup y = some .local := by first | exact .inl rfl | exact .inr rfl | assumption) :
    PS X (.Assign [.Name y py] (.ListComp elt [⟨tg,iter,ifs,0⟩] scope pos) spos) (tAsg (tComp wi g tt te own js) (gName i)) := by
  refine ⟨fun pins s σ H D I h => ?_⟩
  rw [exec_Assign_Name_used _ _ _ _ hsw]
  refine wpAny_bind (wpAny_standAt (wpAny_bind ?_))
  show wpAny _ X.A (do let _ ← comprehension (.ListComp elt [⟨tg,iter,ifs,0⟩] scope pos) scope X.env _ (newList []) false (eval iter X.env) (some (assign (.Name y py) X.env))) _ _ s
  refine wpAny_bind (wpAny_mono (wpAny_comprehension_free (use := some (assign (.Name y py) X.env)) (Q := fun _ s' => SP X pins D .next s') rfl hs c.clos c.kind c.names
    (thn (hi.go pins s σ H _ I h) fun v s1 h1 => thn h1 fun itv s2 h2 => ?_)) (fun _ s' hq => wpAny_pure (wpAny_pure hq)) fun _ _ e => e)
  obtain ⟨it,fp,tn,J,H2,e,I2,T,st2,f2,hW⟩ := h2
  subst e
  refine comp_core (RR := fun acc C => compPost (model X.prog X.w) X.A X.xe (some (assign (.Name y py) X.env)) (fun _ s' => SP X pins D .next s') acc C) c hc I2 T st2 f2 inner hW ?_
  intro D' C s' acc H' hn hD hz hDC hCL hUC hI
  show wpAny _ X.A (assign (.Name y py) X.env (.ref D')) _ _ _
  have I9 := hI s'.heap (Heap.SameBut.refl _ _)
  obtain ⟨m,hm⟩ := hn
  refine wpAny_assign_Name (store_ok2 (v := .ref D') I9 hN hy hx rfl (fun s'' I'' ⟨a,sb,ha⟩ => ?_) hf)
  have aC : C ≠ a := by
    rcases ha with ha | ha
    · rw [ha]; exact hCL
    · intro z
      subst z
      obtain ⟨v,q⟩ := I2.cell y C ha
      exact absurd (Nat.lt_of_lt_of_le q.lt hDC) (Nat.lt_irrefl _)
  refine ⟨m,hm.sameBut sb aC,fun h' hsb => ?_⟩
  refine ⟨σ.set i (some (.ref D')),upd H' D' (.lst acc),I''.turned (t' := s''.toks) (it := C) (fun b o hb e => by rw [hsb.2 b hb]; exact e) ?_ hCL (.inr (Nat.le_trans I2.sz hDC)) (fun x d e z => ?_) (fun p hp z => ?_),hz D' hD⟩
  · exact hUC
  · obtain ⟨v,q⟩ := I2.cell x d e
    rw [z] at q
    exact absurd (Nat.lt_of_lt_of_le q.lt hDC) (Nat.lt_irrefl _)
  · have q := Heap.lt_size (I2.pin p hp).1
    rw [z] at q
    exact absurd (Nat.lt_of_lt_of_le q hDC) (Nat.lt_irrefl _)
end
def Ite (a : Addr) : It :=
  ⟨fun i H => ∃ xs x,H a = some (.lst xs) ∧ xs[i]? = some x,fun i H v H' => ∃ p x,H p = none ∧ v = .ref p ∧ H' = upd H p (.tup [.int i,x]) ∧ ∀ xs,H a = some (.lst xs) → xs[i]? = some x,fun i H => ∃ xs,H a = some (.lst xs) ∧ xs.length ≤ i⟩
theorem turn_enum {P : Program} {w : World} {K : PySem.W.Frag} {es : List Expr} {k : Nat} {pos : Pos} (a e it : Addr) (hne : e ≠ it) :
    Turn P w K (.Tuple es k pos) (Ite a) [e,it] e (fun i h => (∃ old,IsEnum h e it i old) ∧ h.IsListIter it a i) where
  mem := by simp
  obj := fun i h st b hb => by
    rw [List.mem_cons,List.mem_singleton] at hb
    rcases hb with rfl | rfl
    · obtain ⟨⟨old,q⟩,_⟩ := st
      exact ⟨_,q,fun v z => by cases z⟩
    · obtain ⟨_,o,q,c,d⟩ := st
      exact ⟨o,q,fun v z => by rw [d] at z; cases z⟩
  keep := fun i h h' st kp => ⟨by obtain ⟨old,q⟩ := st.1; exact ⟨old,kp e (by simp) _ q⟩,st.2.at fun o q => kp it (by simp) o q⟩
  item := by
    intro X hP hw hK hc i pins s σ H E I hf st hg
    subst hP hw hK
    obtain ⟨xs,x,hq,hx⟩ := hg
    obtain ⟨⟨old,he⟩,hit⟩ := st
    obtain ⟨its,rv,p,hz⟩ := I.list (SqL.of hq)
    obtain ⟨u,hu,ru⟩ := rv.get hx
    obtain ⟨f0,f1,f2,f3,f4,f5⟩ := hf e (by simp)
    obtain ⟨g0,g1,g2,g3,g4,g5⟩ := hf it (by simp)
    refine wpAny_pyNext_enum_item he hit p.isList (x := u) (by simpa using hu) hne fun h' eo it' ht hsz hk => ?_
    refine ⟨.ref s.heap.objs.size,rfl,?_⟩
    refine wpAny_letOwnedTupleGo_enum eo fun h2 he2 hs2 => ?_
    have fr : H s.heap.objs.size = none := I.hok.fresh (Nat.le_refl _)
    have ne2 : ∀ b,b < s.heap.objs.size → b ≠ s.heap.objs.size := fun b hb => Nat.ne_of_lt hb
    have ee : e < s.heap.objs.size := Heap.lt_size he
    have k2 : ∀ b o,b ≠ e → b ≠ it → s.heap.get? b = some o → h2.get? b = some o := fun b o h1 h2' q => (hs2.2 b h1).trans (hk b o h1 h2' q)
    have ht2 : h2.get? s.heap.objs.size = some { cls := .type "tuple",data := .seq #[.int i s.toks,u] } := (hs2.2 _ (Nat.ne_of_gt ee)).trans ht
    have trk : ∀ b v,H b = some v → b ≠ e ∧ b ≠ it := fun b v q => ⟨ne_of_none q f0,ne_of_none q g0⟩
    have hok0 : HOk X.prog X.w H h2 := fun b o q => (I.hok b o q).stay (fun c v hc q' => by
      rcases hc with rfl | hc
      · exact k2 c v (trk c _ q).1 (trk c _ q).2 q'
      · exact k2 c v (trk c _ hc).1 (trk c _ hc).2 q') (fun _ z => z) fun _ _ z => z
    have I1 : Inv X pins σ (upd H s.heap.objs.size (.tup [.int i,x])) { s with heap := h2,toks := s.toks + 1 } := by
      refine I.step (g' := s.gens) (d' := s.drawn) (ch := [e,it]) (fun b hb => ?_) (fun b o _ _ hc q _ => k2 b o (fun z => hc (by simp [z])) (fun z => hc (by simp [z])) q) (fun b o _ _ hc q _ => ⟨o.slots,k2 b o (fun z => hc (by simp [z])) (fun z => hc (by simp [z])) q⟩)
        (fun b o _ q n => by rw [upd_ne (ne2 b (Heap.lt_size q))]; exact n) (fun b o hc q => ⟨o,k2 b o (fun z => hc (by simp [z])) (fun z => hc (by simp [z])) q⟩) (fun b ys q => by rw [upd_ne (ne_of_none q fr)]; exact q) (fun b o v q => by rw [upd_ne (ne_of_none q fr)]; exact q)
        (fun b ps q => ⟨#[],by rw [upd_ne (ne_of_none q fr),q]; simp⟩) (fun m hm => ?_) ?_ I.bare
      · rw [List.mem_cons,List.mem_singleton] at hb
        rcases hb with rfl | rfl
        · exact ⟨f3,f1,f4,f5⟩
        · exact ⟨g3,g1,g4,g5⟩
      · obtain ⟨o,es',ep,ho,r⟩ := hm
        exact ⟨o,es',ep,k2 _ o (Ne.symm f1) (Ne.symm g1) ho,r⟩
      · exact hok0.adopt fr ⟨by show 2 ≤ sizeLine; decide,[.int i s.toks,u],.cons ⟨_,rfl⟩ (.cons ru .nil),⟨_,ht2,rfl,_,rfl⟩⟩
    refine ⟨.ref s.heap.objs.size,_,I1,rfl,⟨_,x,fr,rfl,rfl,fun ys hy => by rw [hq] at hy; cases hy; exact hx⟩,⟨⟨_,by simpa using he2⟩,it'.extBut hs2.extBut (Ne.symm hne)⟩,fun b hb => ?_⟩
    have : H b = none := (hf b hb).1
    have hb' : b < s.heap.objs.size := by
      rw [List.mem_cons,List.mem_singleton] at hb
      rcases hb with rfl | rfl
      · exact ee
      · obtain ⟨o,q,_⟩ := hit; exact Heap.lt_size q
    rw [upd_ne (ne2 b hb')]
    exact this
  done := by
    intro X hP hw hK hc i pins s σ H E I hf st hg
    subst hP hw hK
    obtain ⟨xs,hq,hx⟩ := hg
    obtain ⟨⟨old,he⟩,hit⟩ := st
    obtain ⟨its,rv,p,hz⟩ := I.list (SqL.of hq)
    obtain ⟨g0,g1,g2,g3,g4,g5⟩ := hf it (by simp)
    have hl := rv.length
    exact wpAny_pyNext_enum_end (I.ok.hd hc) he hit p.isList (by simp; omega) fun h' eb => ⟨rfl,I.turned (t' := s.toks) (fun b o hb e => eb b o hb e) g0 g1 g3 g4 g5⟩
  self := fun _ _ _ _ _ st h => by
    obtain ⟨⟨old,he⟩,_⟩ := st
    exact wpAny_pyIter_enum he h
section
variable {X : Cx} {es : List Expr} {k : Nat} {tpos : Pos}
def iEnum (ta : TA) : TI := fun σ H R => ta σ H fun vs H1 => ∃ a,vs = [.ref a] ∧ (∃ xs,H1 a = some (.lst xs)) ∧ R (Ite a) H1
theorem pi_enum {l : Expr} {ta : TA} {p pos : Pos} (hg : Gl X "enumerate") (hm : X.mg "enumerate" = none) (ha : PA X [l] ta) (hs : starEach [l] X.env = [(false,eval l X.env)] := by rfl) : PI X (.Tuple es k tpos) (.Call (.Name "enumerate" p) [l] [] pos) (iEnum ta) := by
  refine ⟨fun pins s σ H R I h => ?_⟩
  refine wpAny_Call_Name_kw (ld_blt I hg hm bt_enumerate ?_)
  refine PyProof.Rows.callWith_type1 (thn (ha pos pins s σ H _ I h) fun us s1 ⟨vs,H1,I1,r1,a,e,⟨xs,hx⟩,q⟩ => ?_) hs rfl
  subst e
  obtain ⟨u,rfl,ru⟩ := vals1 r1
  cases ru
  obtain ⟨_,its,n,rv,ho⟩ := (show ObjOk X.prog X.w H1 s1.heap a (.lst xs) from I1.hok a _ hx)
  refine call_enumerate_1 ho fun h' he hit hsz hk => ?_
  have I2 : Inv X pins σ H1 { s1 with heap := h' } := I1.kept (t' := s1.toks) hk
  refine wpAny_pyIter_enum he ⟨s1.heap.objs.size + 1,[s1.heap.objs.size + 1,s1.heap.objs.size],_,Ite a,H1,rfl,I2,turn_enum a (s1.heap.objs.size + 1) s1.heap.objs.size (Nat.succ_ne_self _),⟨⟨_,he⟩,hit⟩,fun b hb => ?_,q⟩
  have hb' : s1.heap.objs.size ≤ b := by
    rw [List.mem_cons,List.mem_singleton] at hb
    rcases hb with rfl | rfl <;> omega
  have z := I1.fpOk (H' := H1) hb' (I1.hok.fresh hb')
  exact z
end
mutual
def toP : D → PyData
  | .non => .none
  | .bl b => .bool b
  | .int i => .int i
  | .str x => .str x
  | .tup ds => .tuple (toPs ds)
  | .lst ds => .list (toPs ds)
  | .dct => .dict []
  | .dic _ _ => .dict []
  | .scr _ _ => .dict []
  | .ext _ => .dict []
def toPs : List D → List PyData
  | [] => []
  | d :: ds => toP d :: toPs ds
end
mutual
theorem rep_reads {X : Cx} {pins : List (Addr × Obj)} {σ : St} {H : Hp} {s : Shared} (I : Inv X pins σ H s) : ∀ (d : D) (v : V) (u : Value),Rep H d v → RelV v u → (toP d).canLay0 = true → ∃ as,Reads s.heap u (toP d) as
  | .non,v,u,h,r,_ => by rw [Rep] at h; subst h; cases r; rw [toP]; exact ⟨_,.none⟩
  | .bl b,v,u,h,r,_ => by rw [Rep] at h; subst h; cases r; rw [toP]; exact ⟨_,.bool b⟩
  | .int i,v,u,h,r,_ => by rw [Rep] at h; subst h; obtain ⟨t,rfl⟩ := r; rw [toP]; exact ⟨_,.int i t⟩
  | .str x,v,u,h,r,_ => by rw [Rep] at h; subst h; obtain ⟨t,rfl⟩ := r; rw [toP]; exact ⟨_,.str x t⟩
  | .tup ds,v,u,h,r,c => by
    rw [Rep] at h
    obtain ⟨a,xs,rfl,ha,hx⟩ := h
    cases r
    rw [toP] at c ⊢
    obtain ⟨_,its,rv,o,e1,e2,n,e3⟩ := (show ObjOk X.prog X.w H s.heap a (.tup xs) from I.hok a _ ha)
    obtain ⟨as,q⟩ := reps_reads I ds xs its hx rv (by rw [PyData.canLay0] at c; exact c)
    exact ⟨_,reads_tuple_at e1 e2 e3 (by simpa using q)⟩
  | .lst ds,v,u,h,r,c => by
    rw [Rep] at h
    obtain ⟨a,xs,rfl,ha,hx⟩ := h
    cases r
    rw [toP] at c ⊢
    obtain ⟨_,its,n,rv,e1⟩ := (show ObjOk X.prog X.w H s.heap a (.lst xs) from I.hok a _ ha)
    obtain ⟨as,q⟩ := reps_reads I ds xs its hx rv (by rw [PyData.canLay0] at c; exact c)
    exact ⟨_,reads_list_at e1 rfl rfl (by simpa using q)⟩
  | .dct,v,u,h,r,c => by rw [toP,PyData.canLay0] at c; cases c
  | .dic _ _,v,u,h,r,c => by rw [toP,PyData.canLay0] at c; cases c
  | .scr _ _,v,u,h,r,c => by rw [toP,PyData.canLay0] at c; cases c
  | .ext _,v,u,h,r,c => by rw [toP,PyData.canLay0] at c; cases c
theorem reps_reads {X : Cx} {pins : List (Addr × Obj)} {σ : St} {H : Hp} {s : Shared} (I : Inv X pins σ H s) : ∀ (ds : List D) (vs : List V) (us : List Value),Reps H ds vs → Vals vs us → PyData.canLayAll0 (toPs ds) = true → ∃ as,ReadsAll s.heap us (toPs ds) as
  | [],vs,us,h,r,_ => by rw [Reps] at h; subst h; cases r; rw [toPs]; exact ⟨_,.nil⟩
  | d :: ds,vs,us,h,r,c => by
    rw [Reps] at h
    obtain ⟨v,vs',rfl,h1,h2⟩ := h
    rw [toPs] at c ⊢
    rw [PyData.canLayAll0,Bool.and_eq_true] at c
    cases r with
    | cons r1 r2 =>
      obtain ⟨as,q1⟩ := rep_reads I d v _ h1 r1 c.1
      obtain ⟨bs,q2⟩ := reps_reads I ds vs' _ h2 r2 c.2
      exact ⟨_,.cons q1 q2⟩
end
section
variable {X : Cx}
def rEqD : R2 := fun x y H Q => ∃ d e,Rep H d x ∧ Rep H e y ∧ SeqAt.shaped (toP d) = true ∧ SeqAt.shaped (toP e) = true ∧ Q (.bl (PyData.eqv (toP d) (toP e))) H
def rNeD : R2 := fun x y H Q => ∃ d e,Rep H d x ∧ Rep H e y ∧ SeqAt.shaped (toP d) = true ∧ SeqAt.shaped (toP e) = true ∧ Q (.bl (!PyData.eqv (toP d) (toP e))) H
theorem op_eqD (hu : X.A.units + 64 < cLine) : OpR X (compareOp .Eq) rEqD := by
  intro pins s σ H x y v u Q I rx ry h
  obtain ⟨d,e,h1,h2,c1,c2,q⟩ := h
  obtain ⟨as,r1⟩ := rep_reads I d x v h1 rx (SeqAt.canLay_of_shaped c1)
  obtain ⟨bs,r2⟩ := rep_reads I e y u h2 ry (SeqAt.canLay_of_shaped c2)
  exact eq_dataH r1 r2 c1 c2 hu ⟨.bl _,H,I,rfl,q⟩
theorem op_neD (hu : X.A.units + 64 < cLine) : OpR X (compareOp .NotEq) rNeD := by
  intro pins s σ H x y v u Q I rx ry h
  obtain ⟨d,e,h1,h2,c1,c2,q⟩ := h
  obtain ⟨as,r1⟩ := rep_reads I d x v h1 rx (SeqAt.canLay_of_shaped c1)
  obtain ⟨bs,r2⟩ := rep_reads I e y u h2 ry (SeqAt.canLay_of_shaped c2)
  exact ne_dataH r1 r2 c1 c2 hu ⟨.bl _,H,I,rfl,q⟩
end
def dInts (ns : List Int) : D := .lst (ns.map .int)
theorem reps_ints {H : Hp} : ∀ ns : List Int,Reps H (ns.map .int) (ns.map V.int)
  | [] => reps_nil
  | n :: r => reps_cons (rep_int n) (reps_ints r)
def dPair (ns ms : List Int) : D := .tup [dInts ns,dInts ms]
section
variable {X : Cx}
def ranI (lo : Int) (n : Nat) : List Int := (List.range n).map fun (i : Nat) => lo + i
theorem vals_of_get : ∀ {xs : List V} {us : List Value},xs.length = us.length → (∀ (i : Nat) x u,xs[i]? = some x → us[i]? = some u → RelV x u) → Vals xs us
  | [],[],_,_ => .nil
  | x :: xs,u :: us,hl,h => .cons (h 0 x u rfl rfl) (vals_of_get (by simpa using hl) fun i x' u' e1 e2 => h (i + 1) x' u' (by simpa using e1) (by simpa using e2))
  | [],_ :: _,hl,_ => by simp at hl
  | _ :: _,[],hl,_ => by simp at hl
end
abbrev DSt := List (Option D)
abbrev Own := Addr → Option (Nat × List Nat)
mutual
def Sep (G H : Hp) (O : Own) (i : Nat) : D → List Nat → V → Prop
  | .non,_,v => v = .non
  | .bl b,_,v => v = .bl b
  | .int n,_,v => v = .int n
  | .str x,_,v => v = .str x
  | .tup ds,π,v => ∃ a xs,v = .ref a ∧ G a = some (.tup xs) ∧ Seps G H O i ds 0 π xs
  | .lst ds,π,v => ∃ a xs,v = .ref a ∧ O a = some (i,π) ∧ H a = some (.lst xs) ∧ Seps G H O i ds 0 π xs
  | .dct,_,_ => False
  | .dic ks ds,π,v => ∃ a xs,v = .ref a ∧ O a = some (i,π) ∧ H a = some (.dK (ks.zip xs)) ∧ ks.length = ds.length ∧ Seps G H O i ds 0 π xs
  | .scr _ _,_,_ => False
  | .ext _,_,_ => False
def Seps (G H : Hp) (O : Own) (i : Nat) : List D → Nat → List Nat → List V → Prop
  | [],_,_,xs => xs = []
  | d :: ds,k,π,xs => ∃ v vs,xs = v :: vs ∧ Sep G H O i d (k :: π) v ∧ Seps G H O i ds (k + 1) π vs
end
def TSame (G G' : Hp) : Prop := ∀ a xs,G a = some (.tup xs) → G' a = some (.tup xs)
theorem Same.ts {G G' : Hp} (h : Same G G') : TSame G G' := fun a xs e => h a _ e
mutual
theorem Sep.map {G H G' H' : Hp} {O O' : Own} {i i' : Nat} {f : List Nat → List Nat} (hG : TSame G G') (hf : ∀ k π,f (k :: π) = k :: f π) :
    ∀ (d : D) (π : List Nat) (v : V),(∀ a τ,O a = some (i,τ ++ π) → O' a = some (i',f (τ ++ π)) ∧ H' a = H a) → Sep G H O i d π v → Sep G' H' O' i' d (f π) v
  | .non,_,_,_,h => by rw [Sep] at *; exact h
  | .bl b,_,_,_,h => by rw [Sep] at *; exact h
  | .int n,_,_,_,h => by rw [Sep] at *; exact h
  | .str x,_,_,_,h => by rw [Sep] at *; exact h
  | .tup ds,π,v,hO,h => by
    rw [Sep] at *
    obtain ⟨a,xs,h1,h2,h3⟩ := h
    exact ⟨a,xs,h1,hG _ _ h2,Seps.map hG hf ds 0 π xs (fun a τ _ => hO a τ) h3⟩
  | .lst ds,π,v,hO,h => by
    rw [Sep] at *
    obtain ⟨a,xs,h1,h2,h3,h4⟩ := h
    have q := hO a [] h2
    exact ⟨a,xs,h1,q.1,q.2.trans h3,Seps.map hG hf ds 0 π xs (fun a τ _ => hO a τ) h4⟩
  | .dic ks ds,π,v,hO,h => by
    rw [Sep] at *
    obtain ⟨a,xs,h1,h2,h3,h5,h4⟩ := h
    have q := hO a [] h2
    exact ⟨a,xs,h1,q.1,q.2.trans h3,h5,Seps.map hG hf ds 0 π xs (fun a τ _ => hO a τ) h4⟩
  | .dct,_,_,_,h => by rw [Sep] at h; exact h.elim
  | .scr _ _,_,_,_,h => by rw [Sep] at h; exact h.elim
  | .ext _,_,_,_,h => by rw [Sep] at h; exact h.elim
theorem Seps.map {G H G' H' : Hp} {O O' : Own} {i i' : Nat} {f : List Nat → List Nat} (hG : TSame G G') (hf : ∀ k π,f (k :: π) = k :: f π) :
    ∀ (ds : List D) (k : Nat) (π : List Nat) (xs : List V),(∀ a τ,τ ≠ [] → O a = some (i,τ ++ π) → O' a = some (i',f (τ ++ π)) ∧ H' a = H a) → Seps G H O i ds k π xs → Seps G' H' O' i' ds k (f π) xs
  | [],_,_,_,_,h => by rw [Seps] at *; exact h
  | d :: ds,k,π,xs,hO,h => by
    rw [Seps] at *
    obtain ⟨v,vs,h1,h2,h3⟩ := h
    refine ⟨v,vs,h1,?_,Seps.map hG hf ds (k + 1) π vs hO h3⟩
    rw [← hf]
    refine Sep.map hG hf d (k :: π) v (fun a τ e => ?_) h2
    have e' : τ ++ k :: π = (τ ++ [k]) ++ π := by simp
    rw [e'] at e ⊢
    exact hO a (τ ++ [k]) (by simp) e
end
theorem Sep.keep {G H G' H' : Hp} {O O' : Own} {i i' : Nat} {d : D} {π : List Nat} {v : V} (hG : TSame G G') (hO : ∀ a τ,O a = some (i,τ ++ π) → O' a = some (i',τ ++ π) ∧ H' a = H a) (h : Sep G H O i d π v) : Sep G' H' O' i' d π v :=
  Sep.map (f := id) hG (fun _ _ => rfl) d π v hO h
theorem Seps.keep {G H G' H' : Hp} {O O' : Own} {i i' : Nat} {ds : List D} {k : Nat} {π : List Nat} {xs : List V} (hG : TSame G G') (hO : ∀ a τ,τ ≠ [] → O a = some (i,τ ++ π) → O' a = some (i',τ ++ π) ∧ H' a = H a) (h : Seps G H O i ds k π xs) : Seps G' H' O' i' ds k π xs :=
  Seps.map (f := id) hG (fun _ _ => rfl) ds k π xs hO h
mutual
theorem Sep.rep {G H G' : Hp} {O : Own} {i : Nat} (hG : TSame G G') : ∀ (d : D) (π : List Nat) (v : V),(∀ a τ (o : HO),O a = some (i,τ ++ π) → H a = some o → G' a = some o) → Sep G H O i d π v → Rep G' d v
  | .non,_,_,_,h => by rw [Sep] at h; rw [Rep]; exact h
  | .bl b,_,_,_,h => by rw [Sep] at h; rw [Rep]; exact h
  | .int n,_,_,_,h => by rw [Sep] at h; rw [Rep]; exact h
  | .str x,_,_,_,h => by rw [Sep] at h; rw [Rep]; exact h
  | .tup ds,π,v,hO,h => by
    rw [Sep] at h; rw [Rep]
    obtain ⟨a,xs,h1,h2,h3⟩ := h
    exact ⟨a,xs,h1,hG _ _ h2,Seps.rep hG ds 0 π xs (fun a τ ys _ => hO a τ ys) h3⟩
  | .lst ds,π,v,hO,h => by
    rw [Sep] at h; rw [Rep]
    obtain ⟨a,xs,h1,h2,h3,h4⟩ := h
    exact ⟨a,xs,h1,hO a [] _ h2 h3,Seps.rep hG ds 0 π xs (fun a τ ys _ => hO a τ ys) h4⟩
  | .dic ks ds,π,v,hO,h => by
    rw [Sep] at h; rw [Rep]
    obtain ⟨a,xs,h1,h2,h3,h5,h4⟩ := h
    exact ⟨a,xs,h1,hO a [] _ h2 h3,h5,Seps.rep hG ds 0 π xs (fun a τ ys _ => hO a τ ys) h4⟩
  | .dct,_,_,_,h => by rw [Sep] at h; exact h.elim
  | .scr _ _,_,_,_,h => by rw [Sep] at h; exact h.elim
  | .ext _,_,_,_,h => by rw [Sep] at h; exact h.elim
theorem Seps.rep {G H G' : Hp} {O : Own} {i : Nat} (hG : TSame G G') : ∀ (ds : List D) (k : Nat) (π : List Nat) (xs : List V),(∀ a τ (o : HO),τ ≠ [] → O a = some (i,τ ++ π) → H a = some o → G' a = some o) → Seps G H O i ds k π xs → Reps G' ds xs
  | [],_,_,_,_,h => by rw [Seps] at h; rw [Reps]; exact h
  | d :: ds,k,π,xs,hO,h => by
    rw [Seps] at h; rw [Reps]
    obtain ⟨v,vs,h1,h2,h3⟩ := h
    refine ⟨v,vs,h1,Sep.rep hG d (k :: π) v (fun a τ ys e q => ?_) h2,Seps.rep hG ds (k + 1) π vs hO h3⟩
    have e' : τ ++ k :: π = (τ ++ [k]) ++ π := by simp
    rw [e'] at e
    exact hO a (τ ++ [k]) ys (by simp) e q
end
mutual
def imm : D → Bool
  | .tup ds => imms ds
  | .lst _ => false
  | .dct => false
  | .dic _ _ => false
  | .scr _ _ => false
  | .ext _ => false
  | _ => true
def imms : List D → Bool
  | [] => true
  | d :: ds => imm d && imms ds
end
mutual
theorem Rep.sep {G H : Hp} {O : Own} {i : Nat} : ∀ (d : D) (π : List Nat) (v : V),imm d = true → Rep G d v → Sep G H O i d π v
  | .non,_,_,_,h => by rw [Rep] at h; rw [Sep]; exact h
  | .bl b,_,_,_,h => by rw [Rep] at h; rw [Sep]; exact h
  | .int n,_,_,_,h => by rw [Rep] at h; rw [Sep]; exact h
  | .str x,_,_,_,h => by rw [Rep] at h; rw [Sep]; exact h
  | .tup ds,π,v,hi,h => by
    rw [Rep] at h; rw [Sep]
    obtain ⟨a,xs,h1,h2,h3⟩ := h
    exact ⟨a,xs,h1,h2,Reps.sep ds 0 π xs (by rw [imm] at hi; exact hi) h3⟩
  | .lst ds,_,_,hi,_ => by rw [imm] at hi; cases hi
  | .dct,_,_,hi,_ => by rw [imm] at hi; cases hi
  | .dic _ _,_,_,hi,_ => by rw [imm] at hi; cases hi
  | .scr _ _,_,_,hi,_ => by rw [imm] at hi; cases hi
  | .ext _,_,_,hi,_ => by rw [imm] at hi; cases hi
theorem Reps.sep {G H : Hp} {O : Own} {i : Nat} : ∀ (ds : List D) (k : Nat) (π : List Nat) (xs : List V),imms ds = true → Reps G ds xs → Seps G H O i ds k π xs
  | [],_,_,_,_,h => by rw [Reps] at h; rw [Seps]; exact h
  | d :: ds,k,π,xs,hi,h => by
    rw [Reps] at h; rw [Seps]
    rw [imms,Bool.and_eq_true] at hi
    obtain ⟨v,vs,h1,h2,h3⟩ := h
    exact ⟨v,vs,h1,Rep.sep d (k :: π) v hi.1 h2,Reps.sep ds (k + 1) π vs hi.2 h3⟩
end
mutual
theorem Sep.imm {G H : Hp} {O : Own} {i : Nat} : ∀ (d : D) (π : List Nat) (v : V),L2.imm d = true → Sep G H O i d π v → Rep G d v
  | .non,_,_,_,h => by rw [Sep] at h; rw [Rep]; exact h
  | .bl b,_,_,_,h => by rw [Sep] at h; rw [Rep]; exact h
  | .int n,_,_,_,h => by rw [Sep] at h; rw [Rep]; exact h
  | .str x,_,_,_,h => by rw [Sep] at h; rw [Rep]; exact h
  | .tup ds,π,v,hi,h => by
    rw [Sep] at h; rw [Rep]
    obtain ⟨a,xs,h1,h2,h3⟩ := h
    exact ⟨a,xs,h1,h2,Seps.imm ds 0 π xs (by rw [L2.imm] at hi; exact hi) h3⟩
  | .lst ds,_,_,hi,_ => by rw [L2.imm] at hi; cases hi
  | .dct,_,_,hi,_ => by rw [L2.imm] at hi; cases hi
  | .dic _ _,_,_,hi,_ => by rw [L2.imm] at hi; cases hi
  | .scr _ _,_,_,hi,_ => by rw [L2.imm] at hi; cases hi
  | .ext _,_,_,hi,_ => by rw [L2.imm] at hi; cases hi
theorem Seps.imm {G H : Hp} {O : Own} {i : Nat} : ∀ (ds : List D) (k : Nat) (π : List Nat) (xs : List V),imms ds = true → Seps G H O i ds k π xs → Reps G ds xs
  | [],_,_,_,_,h => by rw [Seps] at h; rw [Reps]; exact h
  | d :: ds,k,π,xs,hi,h => by
    rw [Seps] at h; rw [Reps]
    rw [imms,Bool.and_eq_true] at hi
    obtain ⟨v,vs,h1,h2,h3⟩ := h
    exact ⟨v,vs,h1,Sep.imm d (k :: π) v hi.1 h2,Seps.imm ds (k + 1) π vs hi.2 h3⟩
end
mutual
theorem Rep.imms {G G' : Hp} (hG : TSame G G') : ∀ (d : D) (v : V),L2.imm d = true → Rep G d v → Rep G' d v
  | .non,_,_,h => by rw [Rep] at *; exact h
  | .bl b,_,_,h => by rw [Rep] at *; exact h
  | .int n,_,_,h => by rw [Rep] at *; exact h
  | .str x,_,_,h => by rw [Rep] at *; exact h
  | .tup ds,v,hi,h => by
    rw [Rep] at *
    obtain ⟨a,xs,h1,h2,h3⟩ := h
    exact ⟨a,xs,h1,hG _ _ h2,Reps.imms hG ds xs (by rw [L2.imm] at hi; exact hi) h3⟩
  | .lst ds,_,hi,_ => by rw [L2.imm] at hi; cases hi
  | .dct,_,hi,_ => by rw [L2.imm] at hi; cases hi
  | .dic _ _,_,hi,_ => by rw [L2.imm] at hi; cases hi
  | .scr _ _,_,hi,_ => by rw [L2.imm] at hi; cases hi
  | .ext _,_,hi,_ => by rw [L2.imm] at hi; cases hi
theorem Reps.imms {G G' : Hp} (hG : TSame G G') : ∀ (ds : List D) (xs : List V),L2.imms ds = true → Reps G ds xs → Reps G' ds xs
  | [],_,_,h => by rw [Reps] at *; exact h
  | d :: ds,xs,hi,h => by
    rw [Reps] at *
    rw [L2.imms,Bool.and_eq_true] at hi
    obtain ⟨v,vs,h1,h2,h3⟩ := h
    exact ⟨v,vs,h1,Rep.imms hG d v hi.1 h2,Reps.imms hG ds vs hi.2 h3⟩
end
theorem Seps.length {G H : Hp} {O : Own} {i : Nat} : ∀ {ds : List D} {k : Nat} {π : List Nat} {xs : List V},Seps G H O i ds k π xs → xs.length = ds.length
  | [],_,_,_,h => by rw [Seps] at h; subst h; rfl
  | d :: ds,k,π,xs,h => by
    rw [Seps] at h
    obtain ⟨v,vs,rfl,_,h3⟩ := h
    simp [Seps.length h3]
abbrev WrO := List V ⊕ List (Key × V)
def WrO.ho : WrO → HO
  | .inl xs => .lst xs
  | .inr kvs => .dK kvs
theorem WrO.ne {m : WrO} {xs : List V} (h : m.ho = .tup xs) : False := by cases m <;> cases h
structure Ctx where
  G : Hp
  H : Hp
  O : Own
  mu : List (Option V)
  np : Nat
def Pend (G H : Hp) (O : Own) : List (D × V) → Prop
  | [] => True
  | (d,v) :: r => Sep G H O (2 * r.length + 1) d [] v ∧ Pend G H O r
def Nw (C : Ctx) (a : Addr) (l : Nat) : Prop := C.H a = none ∨ ∃ π,C.O a = some (l,π)
structure RO (C : Ctx) (ow : List Bool) (G : Hp) (ρ : DSt) (σ : St) (H : Hp) (pd : List (D × V)) (O : Own) : Prop where
  len : ρ.length = σ.length
  gh : Same G H
  g0 : Same C.G G
  gn : ∀ a o,G a = some o → C.G a = some o ∨ C.H a = none
  og : ∀ a l,O a = some l → G a = none ∧ (∃ xs : WrO,H a = some xs.ho) ∧ Nw C a l.1
  cok : ∀ a l π,C.O a = some (l,π) → (∃ (i : Nat) (v : V),l = 2 * i ∧ C.mu[i]? = some (some v)) ∨ ∃ j,l = 2 * j + 1 ∧ j < C.np
  fr : ∀ a o,C.H a = some o → C.O a = none → H a = some o
  al : ∀ a,H a = none → C.H a = none
  mp : ∀ (i : Nat) v,C.mu[i]? = some (some v) → σ[i]? = some (some v)
  sl : ∀ (i : Nat) d,ρ[i]? = some (some d) → ∃ v,σ[i]? = some (some v) ∧ if ow[i]? = some true then Sep G H O (2 * i) d [] v else Rep G d v
  pn : Pend G H O pd
  np : C.np ≤ pd.length
def R (C : Ctx) (ow : List Bool) (G : Hp) (ρ : DSt) (σ : St) (H : Hp) (pd : List (D × V)) : Prop := ∃ O,RO C ow G ρ σ H pd O
theorem Pend.keep {G H G' H' : Hp} {O O' : Own} (hG : TSame G G') : ∀ {pd : List (D × V)},(∀ a j π,j < pd.length → O a = some (2 * j + 1,π) → O' a = some (2 * j + 1,π) ∧ H' a = H a) → Pend G H O pd → Pend G' H' O' pd
  | [],_,_ => trivial
  | (d,v) :: r,hO,⟨h1,h2⟩ => ⟨h1.keep hG fun a τ e => hO a r.length _ (by simp) e,Pend.keep hG (fun a j π hj => hO a j π (by simp; omega)) h2⟩
section
variable {C : Ctx} {ow : List Bool} {G : Hp} {ρ : DSt} {σ : St} {H : Hp} {pd : List (D × V)} {O : Own}
theorem RO.new (h : RO C ow G ρ σ H pd O) {p : Addr} (hp : H p = none) (o : HO) : RO C ow (upd G p o) ρ σ (upd H p o) pd O ∧ Same G (upd G p o) := by
  have gp : G p = none := by
    cases e : G p with
    | none => rfl
    | some z => rw [h.gh _ _ e] at hp; cases hp
  have sG := same_upd gp o
  have ne : ∀ a l,O a = some l → a ≠ p := fun a l e z => by
    obtain ⟨_,⟨xs,q⟩,_⟩ := h.og a l e
    rw [z,hp] at q; cases q
  refine ⟨⟨h.len,?_,fun a u e => sG _ _ (h.g0 a u e),?_,?_,h.cok,?_,?_,h.mp,?_,?_,h.np⟩,sG⟩
  · intro a u e
    by_cases z : a = p
    · subst z; rw [upd_same] at e ⊢; exact e
    · rw [upd_ne z] at e ⊢; exact h.gh _ _ e
  · intro a u e
    by_cases z : a = p
    · subst z; exact .inr (h.al _ hp)
    · rw [upd_ne z] at e; exact h.gn a u e
  · intro a l e
    have z := ne a l e
    rw [upd_ne z,upd_ne z]
    exact h.og a l e
  · intro a u e n
    rw [upd_ne (ne_of_none (h.fr a u e n) hp)]
    exact h.fr a u e n
  · intro a e
    by_cases z : a = p
    · subst z; rw [upd_same] at e; cases e
    · rw [upd_ne z] at e; exact h.al a e
  · intro i d e
    obtain ⟨v,h1,h2⟩ := h.sl i d e
    refine ⟨v,h1,?_⟩
    split at h2
    · rename_i c; rw [if_pos c]; exact h2.keep sG.ts fun a τ q => ⟨q,upd_ne (ne a _ q)⟩
    · rename_i c; rw [if_neg c]; exact h2.mono sG
  · exact Pend.keep sG.ts (fun a j π _ q => ⟨q,upd_ne (ne a _ q)⟩) h.pn
theorem RO.newL (h : RO C ow G ρ σ H pd O) {p : Addr} (hp : H p = none) {xs : List V} {ds : List D} (hi : imms ds = true) (hr : Reps G ds xs) :
    R C ow G ρ σ (upd H p (.lst xs)) ((.lst ds,.ref p) :: pd) := by
  have gp : G p = none := by
    cases e : G p with
    | none => rfl
    | some z => rw [h.gh _ _ e] at hp; cases hp
  have ne : ∀ a l,O a = some l → a ≠ p := fun a l e z => by
    obtain ⟨_,⟨xs,q⟩,_⟩ := h.og a l e
    rw [z,hp] at q; cases q
  let O' : Own := fun a => if a = p then some (2 * pd.length + 1,[]) else O a
  have old : ∀ a l,O a = some l → O' a = some l := fun a l e => by
    show (if a = p then _ else _) = _
    rw [if_neg (ne a _ e),e]
  refine ⟨O',h.len,?_,h.g0,h.gn,?_,h.cok,?_,?_,h.mp,?_,⟨?_,?_⟩,Nat.le_succ_of_le h.np⟩
  · intro a u e
    rw [upd_ne (fun z => by rw [z,gp] at e; cases e)]
    exact h.gh _ _ e
  · intro a l e
    by_cases z : a = p
    · subst z; exact ⟨gp,⟨.inl xs,upd_same⟩,.inl (h.al _ hp)⟩
    · rw [upd_ne z]
      change (if a = p then _ else _) = _ at e
      rw [if_neg z] at e
      exact h.og a _ e
  · intro a u e n
    rw [upd_ne (ne_of_none (h.fr a u e n) hp)]
    exact h.fr a u e n
  · intro a e
    by_cases z : a = p
    · subst z; rw [upd_same] at e; cases e
    · rw [upd_ne z] at e; exact h.al a e
  · intro i d e
    obtain ⟨v,h1,h2⟩ := h.sl i d e
    refine ⟨v,h1,?_⟩
    split at h2
    · rename_i c; rw [if_pos c]; exact h2.keep (fun _ _ z => z) fun a τ q => ⟨old a _ q,upd_ne (ne a _ q)⟩
    · rename_i c; rw [if_neg c]; exact h2
  · rw [Sep]
    exact ⟨p,xs,rfl,by show (if p = p then _ else _) = _; rw [if_pos rfl],upd_same,hr.sep ds 0 [] xs hi⟩
  · exact Pend.keep (fun _ _ z => z) (fun a j π hj q => ⟨old a _ q,upd_ne (ne a _ q)⟩) h.pn
end
theorem Seps.snoc {G H : Hp} {O : Own} {i : Nat} {d : D} {v : V} : ∀ {ds : List D} {k : Nat} {π : List Nat} {xs : List V},Seps G H O i ds k π xs → Sep G H O i d ((k + ds.length) :: π) v → Seps G H O i (ds ++ [d]) k π (xs ++ [v])
  | [],k,π,xs,h,hd => by rw [Seps] at h; subst h; show Seps _ _ _ _ [d] _ _ [v]; rw [Seps]; exact ⟨v,[],rfl,by simpa using hd,by rw [Seps]⟩
  | e :: ds,k,π,xs,h,hd => by
    rw [Seps] at h
    obtain ⟨u,us,rfl,h2,h3⟩ := h
    show Seps _ _ _ _ (e :: (ds ++ [d])) _ _ (u :: (us ++ [v]))
    rw [Seps]
    refine ⟨u,us ++ [v],rfl,h2,Seps.snoc h3 ?_⟩
    have : k + 1 + ds.length = k + (e :: ds).length := by simp; omega
    rw [this]; exact hd
theorem Seps.set {G H : Hp} {O : Own} {i : Nat} {d : D} {v : V} : ∀ {ds : List D} {k : Nat} {π : List Nat} {xs : List V} {j : Nat},Seps G H O i ds k π xs → Sep G H O i d ((k + j) :: π) v → Seps G H O i (ds.set j d) k π (xs.set j v)
  | [],k,π,xs,j,h,hd => by rw [Seps] at h; subst h; simp; rw [Seps]
  | e :: ds,k,π,xs,0,h,hd => by
    rw [Seps] at h
    obtain ⟨u,us,rfl,h2,h3⟩ := h
    simp only [List.set_cons_zero]; rw [Seps]
    exact ⟨v,us,rfl,by simpa using hd,h3⟩
  | e :: ds,k,π,xs,j + 1,h,hd => by
    rw [Seps] at h
    obtain ⟨u,us,rfl,h2,h3⟩ := h
    simp only [List.set_cons_succ]; rw [Seps]
    refine ⟨u,_,rfl,h2,Seps.set h3 ?_⟩
    have : k + 1 + j = k + (j + 1) := by omega
    rw [this]; exact hd
theorem Seps.at {G H : Hp} {O : Own} {i : Nat} {d : D} : ∀ {ds : List D} {k : Nat} {π : List Nat} {xs : List V} {j : Nat},Seps G H O i ds k π xs → ds[j]? = some d → ∃ v,xs[j]? = some v ∧ Sep G H O i d ((k + j) :: π) v
  | [],k,π,xs,j,h,e => by simp at e
  | e :: ds,k,π,xs,0,h,q => by
    rw [Seps] at h
    obtain ⟨u,us,rfl,h2,h3⟩ := h
    simp at q; subst q
    exact ⟨u,rfl,by simpa using h2⟩
  | e :: ds,k,π,xs,j + 1,h,q => by
    rw [Seps] at h
    obtain ⟨u,us,rfl,h2,h3⟩ := h
    obtain ⟨v,h4,h5⟩ := Seps.at (j := j) h3 (by simpa using q)
    refine ⟨v,by simpa using h4,?_⟩
    have : k + 1 + j = k + (j + 1) := by omega
    rw [← this]; exact h5
theorem Seps.front {G H : Hp} {O : Own} {i : Nat} : ∀ {ds : List D} {k : Nat} {π : List Nat} {xs : List V},Seps G H O i ds k π xs → Seps G H O i ds.dropLast k π xs.dropLast
  | [],k,π,xs,h => by rw [Seps] at h; subst h; show Seps _ _ _ _ [] _ _ []; rw [Seps]
  | [e],k,π,xs,h => by
    rw [Seps] at h
    obtain ⟨u,us,rfl,h2,h3⟩ := h
    rw [Seps] at h3; subst h3
    show Seps _ _ _ _ [] _ _ []; rw [Seps]
  | e :: e' :: ds,k,π,xs,h => by
    rw [Seps] at h
    obtain ⟨u,us,rfl,h2,h3⟩ := h
    have h3' := h3
    rw [Seps] at h3
    obtain ⟨u',us',rfl,_,_⟩ := h3
    show Seps _ _ _ _ (e :: (e' :: ds).dropLast) _ _ (u :: (u' :: us').dropLast)
    rw [Seps]
    exact ⟨u,_,rfl,h2,Seps.front h3'⟩
section
variable {C : Ctx} {ow : List Bool} {G : Hp} {ρ : DSt} {σ : St} {H : Hp} {pd : List (D × V)} {O : Own}
theorem set_at {α : Type} {l : List (Option α)} {i j : Nat} {x : Option α} {d : α} (h : (l.set i x)[j]? = some (some d)) : (j = i ∧ x = some d) ∨ (j ≠ i ∧ l[j]? = some (some d)) := by
  rw [List.getElem?_set] at h
  by_cases e : i = j
  · rw [if_pos e] at h
    split at h
    · exact .inl ⟨e.symm,Option.some.inj h⟩
    · cases h
  · rw [if_neg e] at h; exact .inr ⟨fun z => e z.symm,h⟩
theorem lt_of_slot {α : Type} {l : List (Option α)} {i : Nat} {x : Option α} (h : l[i]? = some x) : i < l.length := (List.getElem?_eq_some_iff.mp h).1
theorem RO.setS (h : RO C ow G ρ σ H pd O) {i : Nat} {d : D} {v : V} (hi : ow[i]? ≠ some true) (hm : ∀ v,C.mu[i]? ≠ some (some v)) (r : Rep G d v) : RO C ow G (ρ.set i (some d)) (σ.set i (some v)) H pd O := by
  refine ⟨by simp [h.len],h.gh,h.g0,h.gn,h.og,h.cok,h.fr,h.al,?_,?_,h.pn,h.np⟩
  · intro j u e
    have : i ≠ j := fun z => hm u (z ▸ e)
    rw [List.getElem?_set_ne this]
    exact h.mp j u e
  · intro j e q
    rcases set_at q with ⟨rfl,z⟩ | ⟨z,q'⟩
    · cases z
      have hl : j < σ.length := by have := lt_of_slot q; rw [List.length_set,h.len] at this; exact this
      exact ⟨v,by rw [List.getElem?_set_self hl],by rw [if_neg hi]; exact r⟩
    · obtain ⟨u,h1,h2⟩ := h.sl j e q'
      exact ⟨u,by rw [List.getElem?_set_ne (Ne.symm z)]; exact h1,h2⟩
def lab (f : Nat → List Nat → Nat × List Nat) (O : Own) : Own := fun a => (O a).map fun l => f l.1 l.2
theorem lab_at {f : Nat → List Nat → Nat × List Nat} {a : Addr} {l : Nat} {π : List Nat} (h : O a = some (l,π)) : lab f O a = some (f l π) := by unfold lab; rw [h]; rfl
theorem lab_of {f : Nat → List Nat → Nat × List Nat} {a : Addr} {m : Nat × List Nat} (h : lab f O a = some m) : ∃ l π,O a = some (l,π) ∧ m = f l π := by
  unfold lab at h
  cases e : O a with
  | none => rw [e] at h; cases h
  | some l => rw [e] at h; exact ⟨l.1,l.2,rfl,(Option.some.inj h).symm⟩
theorem even_ne {i j : Nat} : 2 * i ≠ 2 * j + 1 := by omega
theorem RO.setO {d : D} {v : V} (h : RO C ow G ρ σ H ((d,v) :: pd) O) {i : Nat} (hi : ow[i]? = some true) (hm : ∀ v,C.mu[i]? ≠ some (some v)) (hn : C.np ≤ pd.length) :
    R C ow G (ρ.set i (some d)) (σ.set i (some v)) H pd := by
  refine ⟨lab (fun l π => if l = 2 * pd.length + 1 then (2 * i,π) else (l,π)) O,by simp [h.len],h.gh,h.g0,h.gn,?_,h.cok,h.fr,h.al,?_,?_,?_,hn⟩
  · intro a m e
    obtain ⟨l,π,e1,rfl⟩ := lab_of e
    obtain ⟨q1,q2,q3⟩ := h.og a _ e1
    refine ⟨q1,q2,?_⟩
    try dsimp only
    split
    · rename_i z
      rcases q3 with q3 | ⟨_,q3⟩
      · exact .inl q3
      · rcases h.cok _ _ _ q3 with ⟨k,_,q4,_⟩ | ⟨k,q4,q5⟩
        · exact absurd (q4.symm.trans z) even_ne
        · omega
    · exact q3
  · intro j u e
    have : i ≠ j := fun z => hm u (z ▸ e)
    rw [List.getElem?_set_ne this]
    exact h.mp j u e
  · intro j e q
    rcases set_at q with ⟨rfl,z⟩ | ⟨z,q'⟩
    · cases z
      have hl : j < σ.length := by have := lt_of_slot q; rw [List.length_set,h.len] at this; exact this
      refine ⟨v,by rw [List.getElem?_set_self hl],?_⟩
      rw [if_pos hi]
      exact h.pn.1.keep (fun _ _ z => z) fun a τ q => ⟨by rw [lab_at q,if_pos rfl],rfl⟩
    · obtain ⟨u,h1,h2⟩ := h.sl j e q'
      refine ⟨u,by rw [List.getElem?_set_ne (Ne.symm z)]; exact h1,?_⟩
      split at h2
      · rename_i c; rw [if_pos c]; exact h2.keep (fun _ _ z => z) fun a τ q => ⟨by rw [lab_at q,if_neg even_ne],rfl⟩
      · rename_i c; rw [if_neg c]; exact h2
  · exact Pend.keep (fun _ _ z => z) (fun a j π hj q => ⟨by rw [lab_at q,if_neg (by omega)],rfl⟩) h.pn.2
theorem RO.move (h : RO C ow G ρ σ H pd O) {i : Nat} {d : D} (e : ρ[i]? = some (some d)) (hi : ow[i]? = some true) (hm : ∀ v,C.mu[i]? ≠ some (some v)) :
    ∃ v,σ[i]? = some (some v) ∧ R C ow G (ρ.set i none) σ H ((d,v) :: pd) := by
  obtain ⟨v,hv,s⟩ := h.sl i d e
  rw [if_pos hi] at s
  refine ⟨v,hv,lab (fun l π => if l = 2 * i then (2 * pd.length + 1,π) else (l,π)) O,by simp [h.len],h.gh,h.g0,h.gn,?_,h.cok,h.fr,h.al,h.mp,?_,⟨?_,?_⟩,Nat.le_succ_of_le h.np⟩
  · intro a m e
    obtain ⟨l,π,e1,rfl⟩ := lab_of e
    obtain ⟨q1,q2,q3⟩ := h.og a _ e1
    refine ⟨q1,q2,?_⟩
    try dsimp only
    split
    · rename_i z
      rcases q3 with q3 | ⟨_,q3⟩
      · exact .inl q3
      · rcases h.cok _ _ _ q3 with ⟨k,u,q4,q5⟩ | ⟨k,q4,_⟩
        · have : k = i := by have := q4.symm.trans z; omega
          exact absurd (this ▸ q5) (hm u)
        · omega
    · exact q3
  · intro j e q
    rcases set_at q with ⟨rfl,z⟩ | ⟨z,q'⟩
    · cases z
    · obtain ⟨u,h1,h2⟩ := h.sl j e q'
      refine ⟨u,h1,?_⟩
      split at h2
      · rename_i c; rw [if_pos c]; exact h2.keep (fun _ _ z => z) fun a τ q => ⟨by rw [lab_at q,if_neg (by omega)],rfl⟩
      · rename_i c; rw [if_neg c]; exact h2
  · exact s.keep (fun _ _ z => z) fun a τ q => ⟨by rw [lab_at q,if_pos rfl],rfl⟩
  · exact Pend.keep (fun _ _ z => z) (fun a j π hj q => ⟨by rw [lab_at q,if_neg (fun z => even_ne z.symm)],rfl⟩) h.pn
def hasL (O : Own) (l : Nat) (a : Addr) : Bool := match O a with
  | some m => m.1 == l
  | none => false
theorem hasL_iff {l : Nat} {a : Addr} : hasL O l a = true ↔ ∃ π,O a = some (l,π) := by
  unfold hasL
  cases e : O a with
  | none => simp
  | some m => obtain ⟨m1,m2⟩ := m; simp
theorem RO.share {d : D} {v : V} (h : RO C ow G ρ σ H ((d,v) :: pd) O) (hn : C.np ≤ pd.length) : ∃ G',Same G G' ∧ R C ow G' ρ σ H pd ∧ Rep G' d v := by
  let l₀ := 2 * pd.length + 1
  let G' : Hp := fun a => if hasL O l₀ a = true then H a else G a
  have sG : Same G G' := fun a o e => by
    show (if _ then _ else _) = _
    split
    · exact h.gh _ _ e
    · exact e
  have inH : ∀ a τ (o : HO),O a = some (l₀,τ) → H a = some o → G' a = some o := fun a τ xs q e => by
    show (if _ then _ else _) = _
    rw [if_pos (hasL_iff.mpr ⟨_,q⟩)]; exact e
  refine ⟨G',sG,⟨fun a => if hasL O l₀ a = true then none else O a,h.len,?_,fun a o e => sG _ _ (h.g0 _ _ e),?_,?_,h.cok,h.fr,h.al,h.mp,?_,?_,hn⟩,h.pn.1.rep sG.ts d [] v (fun a τ xs q e => inH a _ xs q e)⟩
  · intro a o e
    change (if _ then _ else _) = _ at e
    split at e
    · exact e
    · exact h.gh _ _ e
  · intro a o e
    change (if _ then _ else _) = _ at e
    split at e
    · rename_i c
      obtain ⟨π,q⟩ := hasL_iff.mp c
      obtain ⟨_,_,q3⟩ := h.og a _ q
      rcases q3 with q3 | ⟨_,q3⟩
      · exact .inr q3
      · rcases h.cok _ _ _ q3 with ⟨k,_,q4,_⟩ | ⟨k,q4,q5⟩
        · exact absurd q4.symm even_ne
        · have q4' : 2 * pd.length + 1 = 2 * k + 1 := q4
          omega
    · exact h.gn a o e
  · intro a l e
    try dsimp only at e
    split at e
    · cases e
    · rename_i c
      obtain ⟨q1,q2,q3⟩ := h.og a l e
      exact ⟨by show (if _ then _ else _) = _; rw [if_neg c]; exact q1,q2,q3⟩
  · intro j e q
    obtain ⟨u,h1,h2⟩ := h.sl j e q
    refine ⟨u,h1,?_⟩
    split at h2
    · rename_i c; rw [if_pos c]
      refine h2.keep sG.ts fun a τ q => ⟨?_,rfl⟩
      rw [if_neg,q]
      intro z
      obtain ⟨π,z⟩ := hasL_iff.mp z
      rw [q] at z
      have := (Prod.mk.inj (Option.some.inj z)).1
      omega
    · rename_i c; rw [if_neg c]; exact h2.mono sG
  · refine Pend.keep sG.ts (fun a j π hj q => ⟨?_,rfl⟩) h.pn.2
    rw [if_neg,q]
    intro z
    obtain ⟨π,z⟩ := hasL_iff.mp z
    rw [q] at z
    have := (Prod.mk.inj (Option.some.inj z)).1
    omega
theorem RO.write (h : RO C ow G ρ σ H pd O) {i : Nat} {ds : List D} (e : ρ[i]? = some (some (.lst ds))) (hi : ow[i]? = some true) :
    ∃ a xs,σ[i]? = some (some (.ref a)) ∧ H a = some (.lst xs) ∧ Seps G H O (2 * i) ds 0 [] xs ∧
      ∀ ds' xs',Seps G H O (2 * i) ds' 0 [] xs' → RO C ow G (ρ.set i (some (.lst ds'))) σ (upd H a (.lst xs')) pd O := by
  obtain ⟨v,hv,s⟩ := h.sl i _ e
  rw [if_pos hi,Sep] at s
  obtain ⟨a,xs,rfl,hO,hH,hs⟩ := s
  refine ⟨a,xs,hv,hH,hs,fun ds' xs' hs' => ?_⟩
  obtain ⟨g0,_,nw⟩ := h.og a _ hO
  have ne : ∀ b l π,O b = some (l,π) → (l ≠ 2 * i ∨ π ≠ []) → b ≠ a := fun b l π q n z => by
    subst z
    rw [hO] at q
    obtain ⟨q1,q2⟩ := Prod.mk.inj (Option.some.inj q)
    rcases n with n | n
    · exact n q1.symm
    · exact n q2.symm
  refine ⟨by simp [h.len],?_,h.g0,h.gn,?_,h.cok,?_,?_,h.mp,?_,?_,h.np⟩
  · intro b o q
    rw [upd_ne (fun z => by rw [z,g0] at q; cases q)]; exact h.gh _ _ q
  · intro b l q
    obtain ⟨q1,⟨ys,q2⟩,q3⟩ := h.og b l q
    refine ⟨q1,?_,q3⟩
    by_cases z : b = a
    · subst z; exact ⟨.inl _,upd_same⟩
    · rw [upd_ne z]; exact ⟨ys,q2⟩
  · intro b o q n
    by_cases z : b = a
    · subst z
      rcases nw with nw | ⟨_,nw⟩
      · rw [nw] at q; cases q
      · rw [nw] at n; cases n
    · rw [upd_ne z]; exact h.fr b o q n
  · intro b q
    by_cases z : b = a
    · subst z; rw [upd_same] at q; cases q
    · rw [upd_ne z] at q; exact h.al b q
  · intro j u q
    rcases set_at q with ⟨rfl,z⟩ | ⟨z,q'⟩
    · cases z
      refine ⟨_,hv,?_⟩
      rw [if_pos hi,Sep]
      exact ⟨a,xs',rfl,hO,upd_same,hs'.keep (fun _ _ z => z) fun b τ hτ q => ⟨q,upd_ne (ne b _ _ q (.inr (by simpa using hτ)))⟩⟩
    · obtain ⟨w,h1,h2⟩ := h.sl j u q'
      refine ⟨w,h1,?_⟩
      split at h2
      · rename_i c; rw [if_pos c]; exact h2.keep (fun _ _ z => z) fun b τ q => ⟨q,upd_ne (ne b _ _ q (.inl (by omega)))⟩
      · rename_i c; rw [if_neg c]; exact h2
  · exact Pend.keep (fun _ _ z => z) (fun b j π hj q => ⟨q,upd_ne (ne b _ _ q (.inl (fun z => even_ne z.symm)))⟩) h.pn
theorem RO.join {d : D} {v : V} (h : RO C ow G ρ σ H ((d,v) :: pd) O) (i n : Nat) (hn : C.np ≤ pd.length) :
    ∃ O',RO C ow G ρ σ H pd O' ∧ Sep G H O' (2 * i) d [n] v ∧ ∀ (l : Nat) ds k π xs,l ≠ 2 * pd.length + 1 → Seps G H O l ds k π xs → Seps G H O' l ds k π xs := by
  refine ⟨lab (fun l π => if l = 2 * pd.length + 1 then (2 * i,π ++ [n]) else (l,π)) O,⟨h.len,h.gh,h.g0,h.gn,?_,h.cok,h.fr,h.al,h.mp,?_,?_,hn⟩,?_,?_⟩
  · intro a m e
    obtain ⟨l,π,e1,rfl⟩ := lab_of e
    obtain ⟨q1,q2,q3⟩ := h.og a _ e1
    refine ⟨q1,q2,?_⟩
    try dsimp only
    split
    · rename_i z
      rcases q3 with q3 | ⟨_,q3⟩
      · exact .inl q3
      · rcases h.cok _ _ _ q3 with ⟨k,_,q4,_⟩ | ⟨k,q4,q5⟩
        · exact absurd (q4.symm.trans z) even_ne
        · omega
    · exact q3
  · intro j e q
    obtain ⟨u,h1,h2⟩ := h.sl j e q
    refine ⟨u,h1,?_⟩
    split at h2
    · rename_i c; rw [if_pos c]; exact h2.keep (fun _ _ z => z) fun a τ q => ⟨by rw [lab_at q,if_neg even_ne],rfl⟩
    · rename_i c; rw [if_neg c]; exact h2
  · exact Pend.keep (fun _ _ z => z) (fun a j π hj q => ⟨by rw [lab_at q,if_neg (by omega)],rfl⟩) h.pn.2
  · exact Sep.map (f := fun π => π ++ [n]) (fun _ _ z => z) (fun _ _ => rfl) d [] v (fun a τ q => ⟨by rw [lab_at q,if_pos rfl],rfl⟩) h.pn.1
  · intro l ds k π xs hl hs
    exact hs.keep (fun _ _ z => z) fun a τ _ q => ⟨by rw [lab_at q,if_neg hl],rfl⟩
end
def bor (js : List Nat) (ow : List Bool) : List Bool := ow.mapIdx fun j b => b && !js.contains j
theorem bor_iff {js : List Nat} {ow : List Bool} {j : Nat} : (bor js ow)[j]? = some true ↔ ow[j]? = some true ∧ js.contains j = false := by
  unfold bor
  rw [List.getElem?_mapIdx]
  cases e : ow[j]? with
  | none => simp
  | some b => cases b <;> simp
def livB (ρ : DSt) (js : List Nat) (n l : Nat) : Bool := if l % 2 = 0 then (match ρ[l / 2]? with | some (some _) => !js.contains (l / 2) | _ => false) else decide (l / 2 < n)
def demB (js : List Nat) (l : Nat) : Bool := decide (l % 2 = 0) && js.contains (l / 2)
def ownOf (f : Nat → Bool) (O : Own) : Own := fun a => match O a with
  | some m => if f m.1 = true then some m else none
  | none => none
theorem ownOf_at {f : Nat → Bool} {O : Own} {a : Addr} {m : Nat × List Nat} (h : O a = some m) (hf : f m.1 = true) : ownOf f O a = some m := by unfold ownOf; rw [h]; show (if _ then _ else _) = _; rw [if_pos hf]
theorem ownOf_of {f : Nat → Bool} {O : Own} {a : Addr} {m : Nat × List Nat} (h : ownOf f O a = some m) : O a = some m ∧ f m.1 = true := by
  unfold ownOf at h
  cases e : O a with
  | none => rw [e] at h; cases h
  | some n =>
    rw [e] at h
    change (if _ then _ else _) = _ at h
    split at h
    · rename_i c; cases h; exact ⟨rfl,c⟩
    · cases h
def isSm {α : Type} : Option α → Bool
  | some _ => true
  | none => false
section
variable {C : Ctx} {ow : List Bool} {G : Hp} {ρ : DSt} {σ : St} {H : Hp} {pd : List (D × V)} {O : Own}
def gBor (js : List Nat) (G H : Hp) (O : Own) : Hp := fun a => if isSm (ownOf (demB js) O a) = true then H a else G a
def cBor (js : List Nat) (G H : Hp) (O : Own) (ρ : DSt) (σ : St) (n : Nat) : Ctx := ⟨gBor js G H O,H,ownOf (livB ρ js n) O,σ,n⟩
theorem gBor_same (h : RO C ow G ρ σ H pd O) (js : List Nat) : Same G (gBor js G H O) := fun a o e => by
  show (if _ then _ else _) = _
  split
  · exact h.gh _ _ e
  · exact e
theorem isSm_of {α : Type} {o : Option α} (h : isSm o = true) : ∃ x,o = some x := by cases o with | none => cases h | some x => exact ⟨x,rfl⟩
theorem RO.enter (h : RO C ow G ρ σ H pd O) (js : List Nat) : RO (cBor js G H O ρ σ pd.length) (bor js ow) (gBor js G H O) ρ σ H pd (ownOf (livB ρ js pd.length) O) := by
  have sG := gBor_same h js
  refine ⟨h.len,?_,fun _ _ e => e,fun _ _ e => .inl e,?_,?_,fun _ _ e _ => e,fun _ e => e,fun _ _ e => e,?_,?_,Nat.le_refl _⟩
  · intro a o e
    change (if _ then _ else _) = _ at e
    split at e
    · exact e
    · exact h.gh _ _ e
  · intro a l e
    obtain ⟨e1,e2⟩ := ownOf_of e
    obtain ⟨q1,q2,q3⟩ := h.og a l e1
    refine ⟨?_,q2,.inr ⟨l.2,e⟩⟩
    · show (if _ then _ else _) = _
      rw [if_neg]; exact q1
      intro z
      obtain ⟨m,z⟩ := isSm_of z
      obtain ⟨z1,z2⟩ := ownOf_of z
      rw [e1] at z1; cases z1
      unfold demB at z2; unfold livB at e2
      simp only [Bool.and_eq_true,decide_eq_true_eq] at z2
      rw [if_pos z2.1] at e2
      split at e2
      · rw [z2.2] at e2; cases e2
      · cases e2
  · intro a l π e
    obtain ⟨e1,e2⟩ := ownOf_of e
    unfold livB at e2
    split at e2
    · rename_i c
      split at e2
      · rename_i d hd
        obtain ⟨v,hv,_⟩ := h.sl _ _ hd
        exact .inl ⟨l / 2,v,by omega,hv⟩
      · cases e2
    · exact .inr ⟨l / 2,by omega,of_decide_eq_true e2⟩
  · intro j d e
    obtain ⟨v,h1,h2⟩ := h.sl j d e
    refine ⟨v,h1,?_⟩
    by_cases c : ow[j]? = some true
    · rw [if_pos c] at h2
      by_cases c2 : js.contains j = true
      · rw [if_neg (fun z => by rw [bor_iff] at z; rw [c2] at z; exact absurd z.2 (by decide))]
        refine h2.rep sG.ts d [] v fun a τ xs q e => ?_
        show (if _ then _ else _) = _
        rw [if_pos]; exact e
        rw [ownOf_at q]; rfl
        unfold demB
        simp only [Bool.and_eq_true,decide_eq_true_eq]
        exact ⟨by omega,by rw [show 2 * j / 2 = j by omega]; exact c2⟩
      · rw [if_pos (bor_iff.mpr ⟨c,by simpa using c2⟩)]
        refine h2.keep sG.ts fun a τ q => ⟨ownOf_at q ?_,rfl⟩
        unfold livB
        show (if 2 * j % 2 = 0 then _ else _) = _
        rw [if_pos (by omega),show 2 * j / 2 = j by omega,e]
        simp at c2 ⊢; exact c2
    · rw [if_neg c] at h2
      rw [if_neg (fun z => c (bor_iff.mp z).1)]
      exact h2.mono sG
  · refine Pend.keep sG.ts (fun a j π hj q => ⟨ownOf_at q ?_,rfl⟩) h.pn
    unfold livB
    show (if (2 * j + 1) % 2 = 0 then _ else _) = _
    rw [if_neg (by omega),show (2 * j + 1) / 2 = j by omega]
    simpa using hj
def Kp (ow : List Bool) (ρ ρ' : DSt) : Prop := ∀ (j : Nat),ow[j]? ≠ some true → ρ'[j]? = ρ[j]?
def gBack (js : List Nat) (O : Own) (G2 : Hp) : Hp := fun a => if isSm (ownOf (demB js) O a) = true then none else G2 a
def oBack (js : List Nat) (O O2 : Own) : Own := fun a => match O2 a with
  | some l => some l
  | none => ownOf (demB js) O a
theorem RO.leave (h : RO C ow G ρ σ H pd O) {js : List Nat} {G2 : Hp} {ρ2 : DSt} {H2 : Hp} {pd2 : List (D × V)} {O2 : Own}
    (h2 : RO (cBor js G H O ρ σ pd.length) (bor js ow) G2 ρ2 σ H2 pd2 O2) (kp : Kp (bor js ow) ρ ρ2) :
    RO C ow (gBack js O G2) ρ2 σ H2 pd2 (oBack js O O2) ∧ Same G (gBack js O G2) ∧ TSame G2 (gBack js O G2) := by
  have sG := gBor_same h js
  have dm : ∀ a m,ownOf (demB js) O a = some m → O a = some m ∧ G a = none ∧ ∃ xs : WrO,H a = some xs.ho ∧ G2 a = some xs.ho := fun a m e => by
    obtain ⟨e1,e2⟩ := ownOf_of e
    obtain ⟨q1,⟨xs,q2⟩,q3⟩ := h.og a m e1
    refine ⟨e1,q1,xs,q2,h2.g0 a _ ?_⟩
    show (if _ then _ else _) = _
    rw [if_pos (by rw [e]; rfl)]; exact q2
  have nd : ∀ a,G a ≠ none → ¬ isSm (ownOf (demB js) O a) = true := fun a g z => by
    obtain ⟨m,z⟩ := isSm_of z
    exact g (dm a m z).2.1
  have sG3 : Same G (gBack js O G2) := fun a o e => by
    show (if _ then _ else _) = _
    rw [if_neg (nd a (by rw [e]; simp))]
    exact h2.g0 a o (sG a o e)
  have ts : TSame G2 (gBack js O G2) := fun a xs e => by
    show (if _ then _ else _) = _
    rw [if_neg]; exact e
    intro z
    obtain ⟨m,z⟩ := isSm_of z
    obtain ⟨_,_,ys,_,q⟩ := dm a m z
    rw [e] at q; exact (WrO.ne (Option.some.inj q).symm).elim
  have o2 : ∀ a l,O2 a = some l → oBack js O O2 a = some l := fun a l e => by show (match O2 a with | some l => some l | none => _) = _; rw [e]
  refine ⟨⟨h2.len,?_,fun a o e => sG3 _ _ (h.g0 _ _ e),?_,?_,h.cok,?_,fun a e => h.al a (h2.al a e),h.mp,?_,?_,Nat.le_trans h.np h2.np⟩,sG3,ts⟩
  · intro a o e
    change (if _ then _ else _) = _ at e
    split at e
    · cases e
    · exact h2.gh _ _ e
  · intro a o e
    change (if _ then _ else _) = _ at e
    split at e
    · cases e
    · rename_i c
      rcases h2.gn a o e with q | q
      · change (if _ then _ else _) = _ at q
        rw [if_neg c] at q
        exact h.gn a o q
      · exact .inr (h.al a q)
  · intro a l e
    change (match O2 a with | some l => some l | none => _) = _ at e
    cases q : O2 a with
    | some l' =>
      rw [q] at e; cases e
      obtain ⟨q1,q2,q3⟩ := h2.og a l q
      refine ⟨by show (if _ then _ else _) = _; split <;> first | rfl | exact q1,q2,?_⟩
      rcases q3 with q3 | ⟨q3,q4⟩
      · exact .inl (h.al a q3)
      · exact (h.og a _ (ownOf_of q4).1).2.2
    | none =>
      rw [q] at e
      change ownOf (demB js) O a = some l at e
      obtain ⟨e1,q1,xs,q2,q3⟩ := dm a l e
      refine ⟨by show (if _ then _ else _) = _; rw [if_pos (by rw [e]; rfl)],⟨xs,h2.gh _ _ q3⟩,(h.og a l e1).2.2⟩
  · intro a o e n
    have q := h.fr a o e n
    refine h2.fr a o q ?_
    show ownOf _ O a = none
    cases z : ownOf (livB ρ js pd.length) O a with
    | none => rfl
    | some m =>
      obtain ⟨z1,_⟩ := ownOf_of z
      obtain ⟨_,_,z3⟩ := h.og a m z1
      rcases z3 with z3 | ⟨_,z3⟩
      · rw [z3] at e; cases e
      · rw [z3] at n; cases n
  · intro j d e
    by_cases c : (bor js ow)[j]? = some true
    · obtain ⟨v,q1,q2⟩ := h2.sl j d e
      rw [if_pos c] at q2
      refine ⟨v,q1,?_⟩
      rw [if_pos (bor_iff.mp c).1]
      exact q2.keep ts fun a τ q => ⟨o2 _ _ q,rfl⟩
    · rw [kp j c] at e
      obtain ⟨v,q1,q2⟩ := h.sl j d e
      refine ⟨v,q1,?_⟩
      by_cases c2 : ow[j]? = some true
      · rw [if_pos c2] at q2 ⊢
        have hj : js.contains j = true := by
          cases z : js.contains j with
          | true => rfl
          | false => exact absurd (bor_iff.mpr ⟨c2,z⟩) c
        refine q2.keep sG3.ts fun a τ q => ?_
        have dd : ownOf (demB js) O a = some (2 * j,τ ++ []) := ownOf_at q (by
          unfold demB
          simp only [Bool.and_eq_true,decide_eq_true_eq]
          exact ⟨by omega,by rw [show 2 * j / 2 = j by omega]; exact hj⟩)
        obtain ⟨_,_,xs,q4,q5⟩ := dm a _ dd
        refine ⟨?_,by rw [q4]; exact h2.gh _ _ q5⟩
        show (match O2 a with | some l => some l | none => _) = _
        cases z : O2 a with
        | some l => have := (h2.og a l z).1; rw [q5] at this; cases this
        | none => exact dd
      · rw [if_neg c2] at q2 ⊢
        exact q2.mono sG3
  · exact Pend.keep ts (fun a j π hj q => ⟨o2 _ _ q,rfl⟩) h2.pn
end
abbrev ME := DSt → (D → DSt → Prop) → Prop
abbrev MT := DSt → (Bool → DSt → Prop) → Prop
abbrev MA := DSt → (List D → DSt → Prop) → Prop
def SE (ow : List Bool) (t : TE) (m : ME) : Prop := ∀ (C : Ctx) (G : Hp) (ρ : DSt) (σ : St) (H : Hp) (pd : List (D × V)) (q : D → DSt → Prop) (Q : VK),R C ow G ρ σ H pd → m ρ q →
  (∀ d ρ' v G' H',q d ρ' → Same G G' → Kp ow ρ ρ' → R C ow G' ρ' σ H' pd → Rep G' d v → Q v H') → t σ H Q
def SF (ow : List Bool) (t : TE) (m : ME) : Prop := ∀ (C : Ctx) (G : Hp) (ρ : DSt) (σ : St) (H : Hp) (pd : List (D × V)) (q : D → DSt → Prop) (Q : VK),R C ow G ρ σ H pd → m ρ q →
  (∀ d ρ' v G' H',q d ρ' → Same G G' → Kp ow ρ ρ' → R C ow G' ρ' σ H' ((d,v) :: pd) → Q v H') → t σ H Q
def STe (ow : List Bool) (t : TT) (m : MT) : Prop := ∀ (C : Ctx) (G : Hp) (ρ : DSt) (σ : St) (H : Hp) (pd : List (D × V)) (q : Bool → DSt → Prop) (Q : Bool → Hp → Prop),R C ow G ρ σ H pd → m ρ q →
  (∀ b ρ' G' H',q b ρ' → Same G G' → Kp ow ρ ρ' → R C ow G' ρ' σ H' pd → Q b H') → t σ H Q
def SA (ow : List Bool) (n : Nat) (t : TA) (m : MA) : Prop := ∀ (C : Ctx) (G : Hp) (ρ : DSt) (σ : St) (H : Hp) (pd : List (D × V)) (q : List D → DSt → Prop) (Q : List V → Hp → Prop),R C ow G ρ σ H pd → m ρ q →
  (∀ ds ρ' vs G' H',q ds ρ' → Same G G' → Kp ow ρ ρ' → R C ow G' ρ' σ H' pd → Reps G' ds vs → vs.length = n → Q vs H') → t σ H Q
structure QE (X : Cx) (ow : List Bool) (e : Expr) (m : ME) : Prop where
  ex : ∃ t,PE X e t ∧ SE ow t m
structure QF (X : Cx) (ow : List Bool) (e : Expr) (m : ME) : Prop where
  ex : ∃ t,PE X e t ∧ SF ow t m
structure QT (X : Cx) (ow : List Bool) (e : Expr) (m : MT) : Prop where
  ex : ∃ t,PT X e t ∧ STe ow t m
structure QW (X : Cx) (ow : List Bool) (e : Expr) (m : MT) : Prop where
  ex : ∃ t,PW X e t ∧ STe ow t m
structure QA (X : Cx) (ow : List Bool) (es : List Expr) (m : MA) : Prop where
  ex : ∃ t,PA X es t ∧ SA ow es.length t m
theorem Kp.refl {ow : List Bool} {ρ : DSt} : Kp ow ρ ρ := fun _ _ => rfl
theorem Kp.trans {ow : List Bool} {ρ ρ1 ρ2 : DSt} (a : Kp ow ρ ρ1) (b : Kp ow ρ1 ρ2) : Kp ow ρ ρ2 := fun j h => (b j h).trans (a j h)
theorem R.gh {C : Ctx} {ow : List Bool} {G : Hp} {ρ : DSt} {σ : St} {H : Hp} {pd : List (D × V)} (h : R C ow G ρ σ H pd) : Same G H := let ⟨_,h⟩ := h; h.gh
theorem R.np {C : Ctx} {ow : List Bool} {G : Hp} {ρ : DSt} {σ : St} {H : Hp} {pd : List (D × V)} (h : R C ow G ρ σ H pd) : C.np ≤ pd.length := let ⟨_,h⟩ := h; h.np
section
variable {X : Cx} {ow : List Bool} {a b c e : Expr} {ma mb mc : ME} {pos : Pos}
def mVar (i : Nat) : ME := fun ρ q => match ρ[i]? with
  | some (some d) => q d ρ
  | _ => False
theorem qe_var (i : Nat) {x : Str} (hs : ow[i]? ≠ some true := by decide) (hN : X.N[i]? = some x := by rfl) (hv : Vis X.env.scope x := by first | exact Or.inl rfl | exact Or.inr (Or.inl rfl) | exact Or.inr (Or.inr rfl)) (hd : (x == ("__debug__" : Str)) = false := by decide)
    (hcd : (x == ("__classdict__" : Str)) = false := by decide) : QE X ow (.Name x pos) (mVar i) := ⟨_,pe_var hN hv hd hcd,fun C G ρ σ H pd q Q r h k => by
  unfold mVar at h
  split at h
  · rename_i d e
    obtain ⟨O,ro⟩ := r
    obtain ⟨v,h1,h2⟩ := ro.sl i d e
    rw [if_neg hs] at h2
    exact ⟨v,h1,k d ρ v G H h (Same.refl _) Kp.refl ⟨O,ro⟩ h2⟩
  · exact h.elim⟩
def mC (d : D) : ME := fun ρ q => q d ρ
theorem qe_c {v : V} {d : D} (h : PE X e (tC v)) (hr : ∀ G,Rep G d v) : QE X ow e (mC d) := ⟨_,h,fun C G ρ σ H pd q Q r h k => k d ρ v G H h (Same.refl _) Kp.refl r (hr G)⟩
theorem qe_int {i j} : QE X ow (.Constant (.int i) j pos) (mC (.int i)) := qe_c pe_int fun _ => rep_int _
theorem qe_bl {i j} : QE X ow (.Constant (.bool i) j pos) (mC (.bl i)) := qe_c pe_bl fun _ => rep_bl _
theorem qe_non {j} : QE X ow (.Constant .none j pos) (mC .non) := qe_c pe_non fun _ => rep_non
theorem qe_str {i j} : QE X ow (.Constant (.str i) j pos) (mC (.str i)) := qe_c pe_str fun _ => rep_str _
theorem qe_globI {x : Str} {i : Int} (hg : Gl X x) (hm : ∃ t,X.mg x = some (.int i t)) (hd : (x == ("__debug__" : Str)) = false := by decide) : QE X ow (.Name x pos) (mC (.int i)) := by
  obtain ⟨t,hm⟩ := hm
  exact qe_c (pe_glob (v := .int i) hg hm ⟨t,rfl⟩ hd) fun _ => rep_int _
theorem se_two {ta tb : TE} (ha : SE ow ta ma) (hb : SE ow tb mb) {C : Ctx} {G : Hp} {ρ : DSt} {σ : St} {H : Hp} {pd : List (D × V)} {f : D → D → DSt → Prop} {Q : V → V → Hp → Prop}
    (r : R C ow G ρ σ H pd) (h : ma ρ fun x ρ1 => mb ρ1 fun y ρ2 => f x y ρ2)
    (k : ∀ dx dy ρ' x y G' H',f dx dy ρ' → Same G G' → Kp ow ρ ρ' → R C ow G' ρ' σ H' pd → Rep G' dx x → Rep G' dy y → Q x y H') : ta σ H fun x H1 => tb σ H1 fun y H2 => Q x y H2 := by
  refine ha C G ρ σ H pd _ _ r h fun dx ρ1 x G1 H1 h1 s1 k1 r1 p1 => ?_
  refine hb C G1 ρ1 σ H1 pd _ _ r1 h1 fun dy ρ2 y G2 H2 h2 s2 k2 r2 p2 => ?_
  exact k dx dy ρ2 x y G2 H2 h2 (s1.trans s2) (k1.trans k2) r2 (Rep.mono s2 _ _ p1) p2
def DOp (r : R2) (f : D → D → (D → Prop) → Prop) : Prop := ∀ (G H : Hp) (x y : V) (dx dy : D) (q : D → Prop) (Q : VK),Same G H → Rep G dx x → Rep G dy y → f dx dy q → (∀ d v,q d → Rep G d v → Q v H) → r x y H Q
def mOp (f : D → D → (D → Prop) → Prop) (ma mb : ME) : ME := fun ρ q => ma ρ fun x ρ1 => mb ρ1 fun y ρ2 => f x y fun d => q d ρ2
theorem se_op {r : R2} {f : D → D → (D → Prop) → Prop} {ta tb : TE} (hd : DOp r f) (ha : SE ow ta ma) (hb : SE ow tb mb) : SE ow (tOp r ta tb) (mOp f ma mb) := fun C G ρ σ H pd q Q hr h k => by
  refine se_two ha hb hr h fun dx dy ρ' x y G' H' hf s kp r' p1 p2 => ?_
  exact hd G' H' x y dx dy _ _ r'.gh p1 p2 hf fun d v hq p => k d ρ' v G' H' hq s kp r' p
theorem qe_op {op : Operator} {r : R2} {f : D → D → (D → Prop) → Prop} (ho : OpR X (binaryOp op) r) (hd : DOp r f) (ha : QE X ow a ma) (hb : QE X ow b mb) : QE X ow (.BinOp a op b pos) (mOp f ma mb) := by
  obtain ⟨ta,pa,sa⟩ := ha; obtain ⟨tb,pb,sb⟩ := hb
  exact ⟨_,pe_op ho pa pb,se_op hd sa sb⟩
theorem qe_cmp {op : CmpOp} {r : R2} {f : D → D → (D → Prop) → Prop} (ho : OpR X (compareOp op) r) (hd : DOp r f) (ha : QE X ow a ma) (hb : QE X ow b mb) (hm : behindInMarks op b = false) : QE X ow (.Compare a [op] [b] pos) (mOp f ma mb) := by
  obtain ⟨ta,pa,sa⟩ := ha; obtain ⟨tb,pb,sb⟩ := hb
  exact ⟨_,pe_cmpR ho pa pb hm,se_op hd sa sb⟩
theorem qe_ix {r : R2} {f : D → D → (D → Prop) → Prop} (ho : IxR X r) (hd : DOp r f) (ha : QE X ow a ma) (hb : QE X ow b mb) (hs : PlainIx b) : QE X ow (.Subscript a b pos) (mOp f ma mb) := by
  obtain ⟨ta,pa,sa⟩ := ha; obtain ⟨tb,pb,sb⟩ := hb
  exact ⟨_,pe_ix ho pa pb hs,se_op hd sa sb⟩
def mB (m : ME) : MT := fun ρ q => m ρ fun d ρ' => match d with
  | .bl b => q b ρ'
  | _ => False
theorem rep_bl_of {G : Hp} {b : Bool} {v : V} (h : Rep G (.bl b) v) : v = .bl b := by rw [Rep] at h; exact h
theorem rep_int_of {G : Hp} {b : Int} {v : V} (h : Rep G (.int b) v) : v = .int b := by rw [Rep] at h; exact h
theorem st_of {t : TE} {m : ME} (h : SE ow t m) : STe ow (tTest t) (mB m) := fun C G ρ σ H pd q Q r hm k => by
  refine h C G ρ σ H pd _ _ r hm fun d ρ' v G' H' hq s kp r' p => ?_
  cases d with
  | bl b => exact ⟨b,rep_bl_of p,k b ρ' G' H' hq s kp r'⟩
  | _ => exact hq.elim
theorem qt_cmp {op : CmpOp} {r : R2} {f : D → D → (D → Prop) → Prop} (ho : OpR X (compareOp op) r) (hd : DOp r f) (ha : QE X ow a ma) (hb : QE X ow b mb) (hm : behindInMarks op b = false) : QT X ow (.Compare a [op] [b] pos) (mB (mOp f ma mb)) := by
  obtain ⟨ta,pa,sa⟩ := ha; obtain ⟨tb,pb,sb⟩ := hb
  exact ⟨_,pt_cmpR ho pa pb hm,st_of (se_op hd sa sb)⟩
theorem qt_val (h : QE X ow e ma) (he : ∀ whole,isTrue e X.env whole = (do let v ← whole; standAt e.pos; holding [v] (truthy v)) := by intro _; rfl) : QT X ow e (mB ma) := by
  obtain ⟨ta,pa,sa⟩ := h
  exact ⟨_,pt_val pa he,st_of sa⟩
def mTru (m : ME) : MT := fun ρ q => m ρ fun d ρ' => match d with
  | .bl b => q b ρ'
  | .lst ds => q (!ds.isEmpty) ρ'
  | .tup ds => q (!ds.isEmpty) ρ'
  | .int i => q (i != 0) ρ'
  | .non => q false ρ'
  | _ => False
theorem emp_of {α β : Type} {xs : List α} {ds : List β} (h : xs.length = ds.length) : (!xs.isEmpty) = !ds.isEmpty := by
  cases xs <;> cases ds <;> simp_all
theorem qt_truth (h : QE X ow e ma) (he : ∀ whole,isTrue e X.env whole = (do let v ← whole; standAt e.pos; holding [v] (truthy v)) := by intro _; rfl) : QT X ow e (mTru ma) := by
  obtain ⟨ta,pa,sa⟩ := h
  refine ⟨_,pt_truth pa he,fun C G ρ σ H pd q Q r hm k => ?_⟩
  refine sa C G ρ σ H pd _ _ r hm fun d ρ' v G' H' hq s kp r' p => ?_
  cases d with
  | bl b => exact ⟨b,by rw [rep_bl_of p]; rfl,k b ρ' G' H' hq s kp r'⟩
  | int i => exact ⟨_,by rw [rep_int_of p]; rfl,k _ ρ' G' H' hq s kp r'⟩
  | non => exact ⟨_,by rw [Rep] at p; rw [p]; rfl,k _ ρ' G' H' hq s kp r'⟩
  | lst ds => rw [Rep] at p; obtain ⟨a,xs,rfl,h1,h2⟩ := p; exact ⟨_,.inl ⟨xs,SqL.of (r'.gh _ _ h1),(emp_of h2.length).symm⟩,k _ ρ' G' H' hq s kp r'⟩
  | tup ds => rw [Rep] at p; obtain ⟨a,xs,rfl,h1,h2⟩ := p; exact ⟨_,.inr (.inl ⟨xs,SqT.of (r'.gh _ _ h1),(emp_of h2.length).symm⟩),k _ ρ' G' H' hq s kp r'⟩
  | _ => exact hq.elim
def mIf {α : Type} (m : MT) (x y : DSt → (α → DSt → Prop) → Prop) : DSt → (α → DSt → Prop) → Prop := fun ρ q => m ρ fun b ρ1 => if b = true then x ρ1 q else y ρ1 q
def mYes (b : Bool) : MT := fun ρ q => q b ρ
theorem st_if {t t1 t2 : TT} {m m1 m2 : MT} (h : STe ow t m) (h1 : STe ow t1 m1) (h2 : STe ow t2 m2) : STe ow (fun σ H Q => t σ H fun c H1 => if c = true then t1 σ H1 Q else t2 σ H1 Q) (mIf m m1 m2) := fun C G ρ σ H pd q Q r hm k => by
  refine h C G ρ σ H pd _ _ r hm fun b ρ' G' H' hq s kp r' => ?_
  cases b with
  | true => rw [if_pos rfl] at hq ⊢; exact h1 C G' ρ' σ H' pd _ _ r' hq fun b ρ2 G2 H2 hq2 s2 kp2 r2 => k b ρ2 G2 H2 hq2 (s.trans s2) (kp.trans kp2) r2
  | false => rw [if_neg (by decide)] at hq ⊢; exact h2 C G' ρ' σ H' pd _ _ r' hq fun b ρ2 G2 H2 hq2 s2 kp2 r2 => k b ρ2 G2 H2 hq2 (s.trans s2) (kp.trans kp2) r2
theorem st_yes (b : Bool) : STe ow (fun _ H Q => Q b H) (mYes b) := fun C G ρ σ H pd q Q r hm k => k b ρ G H hm (Same.refl _) Kp.refl r
variable {mt mu mv : MT} {rest : List Expr}
theorem qw_and1 (h : QT X ow a mt) : QW X ow (.BoolOp .And [a] pos) mt := by obtain ⟨t,p,s⟩ := h; exact ⟨_,pw_and1 p,s⟩
theorem qw_or1 (h : QT X ow a mt) : QW X ow (.BoolOp .Or [a] pos) mt := by obtain ⟨t,p,s⟩ := h; exact ⟨_,pw_or1 p,s⟩
theorem qw_and (h : QT X ow a mt) (h2 : QW X ow (.BoolOp .And (b :: rest) pos) mu) : QW X ow (.BoolOp .And (a :: b :: rest) pos) (mIf mt mu (mYes false)) := by
  obtain ⟨t,p,s⟩ := h; obtain ⟨t2,p2,s2⟩ := h2; exact ⟨_,pw_and p p2,st_if s s2 (st_yes false)⟩
theorem qw_or (h : QT X ow a mt) (h2 : QW X ow (.BoolOp .Or (b :: rest) pos) mu) : QW X ow (.BoolOp .Or (a :: b :: rest) pos) (mIf mt (mYes true) mu) := by
  obtain ⟨t,p,s⟩ := h; obtain ⟨t2,p2,s2⟩ := h2; exact ⟨_,pw_or p p2,st_if s (st_yes true) s2⟩
theorem QW.qt (h : QW X ow e mt) : QT X ow e mt := by obtain ⟨t,p,s⟩ := h; exact ⟨_,p.pt,s⟩
def mNot (m : MT) : MT := fun ρ q => m ρ fun b ρ' => q (!b) ρ'
theorem qt_not (h : QT X ow a mt) : QT X ow (.UnaryOp .Not a pos) (mNot mt) := by
  obtain ⟨t,p,s⟩ := h
  exact ⟨_,pt_not p,fun C G ρ σ H pd q Q r hm k => s C G ρ σ H pd _ _ r hm fun b ρ' G' H' hq s kp r' => k _ ρ' G' H' hq s kp r'⟩
def mV (m : MT) : ME := fun ρ q => m ρ fun b ρ' => q (.bl b) ρ'
theorem qe_one {op} (h : QE X ow a ma) : QE X ow (.BoolOp op [a] pos) ma := by obtain ⟨t,p,s⟩ := h; exact ⟨_,pe_one p,s⟩
theorem qe_not (h : QE X ow a ma) : QE X ow (.UnaryOp .Not a pos) (mV (mNot (mB ma))) := by
  obtain ⟨t,p,s⟩ := h
  refine ⟨_,pe_not p,fun C G ρ σ H pd q Q r hm k => ?_⟩
  refine s C G ρ σ H pd _ _ r hm fun d ρ' v G' H' hq s kp r' p => ?_
  cases d with
  | bl b => exact ⟨b,rep_bl_of p,k _ ρ' _ G' H' hq s kp r' (rep_bl _)⟩
  | _ => exact hq.elim
theorem qe_and (h : QE X ow a ma) (h2 : QE X ow (.BoolOp .And (b :: rest) pos) mb) : QE X ow (.BoolOp .And (a :: b :: rest) pos) (mIf (mB ma) mb (mC (.bl false))) := by
  obtain ⟨t,p,s⟩ := h; obtain ⟨t2,p2,s2⟩ := h2
  refine ⟨_,pe_and p p2,fun C G ρ σ H pd q Q r hm k => ?_⟩
  refine s C G ρ σ H pd _ _ r hm fun d ρ' v G' H' hq s kp r' p => ?_
  cases d with
  | bl b =>
    refine ⟨b,rep_bl_of p,?_⟩
    change (if b = true then _ else _) at hq
    cases b with
    | true => rw [if_pos rfl] at hq ⊢; exact s2 C G' ρ' σ H' pd _ _ r' hq fun d ρ2 v G2 H2 hq2 z2 kp2 r2 p2 => k d ρ2 v G2 H2 hq2 (s.trans z2) (kp.trans kp2) r2 p2
    | false => rw [if_neg (by decide)] at hq ⊢; exact k _ ρ' _ G' H' hq s kp r' (rep_bl _)
  | _ => exact hq.elim
theorem qe_ifExp (h : QT X ow c mt) (ha : QE X ow a ma) (hb : QE X ow b mb) : QE X ow (.IfExp c a b pos) (mIf mt ma mb) := by
  obtain ⟨t,p,s⟩ := h; obtain ⟨t1,p1,s1⟩ := ha; obtain ⟨t2,p2,s2⟩ := hb
  refine ⟨_,pe_ifExp p p1 p2,fun C G ρ σ H pd q Q r hm k => ?_⟩
  refine s C G ρ σ H pd _ _ r hm fun d ρ' G' H' hq s kp r' => ?_
  cases d with
  | true => rw [if_pos rfl] at hq ⊢; exact s1 C G' ρ' σ H' pd _ _ r' hq fun d ρ2 v G2 H2 hq2 z2 kp2 r2 p2 => k d ρ2 v G2 H2 hq2 (s.trans z2) (kp.trans kp2) r2 p2
  | false => rw [if_neg (by decide)] at hq ⊢; exact s2 C G' ρ' σ H' pd _ _ r' hq fun d ρ2 v G2 H2 hq2 z2 kp2 r2 p2 => k d ρ2 v G2 H2 hq2 (s.trans z2) (kp.trans kp2) r2 p2
theorem QF.qe (h : QF X ow e ma) : QE X ow e ma := by
  obtain ⟨t,p,s⟩ := h
  refine ⟨_,p,fun C G ρ σ H pd q Q r hm k => s C G ρ σ H pd _ _ r hm fun d ρ' v G' H' hq s kp r' => ?_⟩
  obtain ⟨O,r'⟩ := r'
  obtain ⟨G2,s2,r2,p2⟩ := r'.share r.np
  exact k d ρ' v G2 H' hq (s.trans s2) kp r2 p2
def mImm (m : ME) : ME := fun ρ q => m ρ fun d ρ' => imm d = true ∧ q d ρ'
theorem QE.qf (h : QE X ow e ma) : QF X ow e (mImm ma) := by
  obtain ⟨t,p,s⟩ := h
  refine ⟨_,p,fun C G ρ σ H pd q Q r hm k => s C G ρ σ H pd _ _ r hm fun d ρ' v G' H' hq s kp r' p => ?_⟩
  obtain ⟨O,r'⟩ := r'
  exact k d ρ' v G' H' hq.2 s kp ⟨O,r'.len,r'.gh,r'.g0,r'.gn,r'.og,r'.cok,r'.fr,r'.al,r'.mp,r'.sl,⟨p.sep d [] v hq.1,r'.pn⟩,Nat.le_succ_of_le r'.np⟩
theorem kp_bor {js : List Nat} {ρ ρ' : DSt} (h : Kp (bor js ow) ρ ρ') : Kp ow ρ ρ' := fun j n => h j fun z => n (bor_iff.mp z).1
theorem QE.bor (js : List Nat) (h : QE X (bor js ow) e ma) : QE X ow e (mImm ma) := by
  obtain ⟨t,p,s⟩ := h
  refine ⟨_,p,fun C G ρ σ H pd q Q r hm k => ?_⟩
  obtain ⟨O,r⟩ := r
  refine s _ _ ρ σ H pd _ _ ⟨_,r.enter js⟩ hm fun d ρ' v G' H' hq s kp r' p => ?_
  obtain ⟨O',r'⟩ := r'
  obtain ⟨r2,s2,ts⟩ := r.leave r' kp
  exact k d ρ' v _ H' hq.2 s2 (kp_bor kp) ⟨_,r2⟩ (p.imms ts d v hq.1)
theorem QF.bor (js : List Nat) (h : QF X (bor js ow) e ma) : QF X ow e ma := by
  obtain ⟨t,p,s⟩ := h
  refine ⟨_,p,fun C G ρ σ H pd q Q r hm k => ?_⟩
  obtain ⟨O,r⟩ := r
  refine s _ _ ρ σ H pd _ _ ⟨_,r.enter js⟩ hm fun d ρ' v G' H' hq s kp r' => ?_
  obtain ⟨O',r'⟩ := r'
  obtain ⟨r2,s2,ts⟩ := r.leave r' kp
  exact k d ρ' v _ H' hq s2 (kp_bor kp) ⟨_,r2⟩
theorem QT.bor (js : List Nat) (h : QT X (bor js ow) e mt) : QT X ow e mt := by
  obtain ⟨t,p,s⟩ := h
  refine ⟨_,p,fun C G ρ σ H pd q Q r hm k => ?_⟩
  obtain ⟨O,r⟩ := r
  refine s _ _ ρ σ H pd _ _ ⟨_,r.enter js⟩ hm fun d ρ' G' H' hq s kp r' => ?_
  obtain ⟨O',r'⟩ := r'
  obtain ⟨r2,s2,ts⟩ := r.leave r' kp
  exact k d ρ' _ H' hq s2 (kp_bor kp) ⟨_,r2⟩
def mNil : MA := fun ρ q => q [] ρ
def mCons (m : ME) (r : MA) : MA := fun ρ q => m ρ fun d ρ1 => r ρ1 fun ds ρ2 => q (d :: ds) ρ2
variable {mr : MA} {es : List Expr}
theorem qa_nil : QA X ow [] mNil := ⟨_,pa_nil,fun C G ρ σ H pd q Q r h k => k [] ρ [] G H h (Same.refl _) Kp.refl r reps_nil rfl⟩
theorem qa_cons (ha : QE X ow e ma) (hr : QA X ow es mr) (hs : starEach (e :: es) X.env = (false,eval e X.env) :: starEach es X.env := by rfl) : QA X ow (e :: es) (mCons ma mr) := by
  obtain ⟨t,p,s⟩ := ha; obtain ⟨t2,p2,s2⟩ := hr
  refine ⟨_,pa_cons p p2 hs,fun C G ρ σ H pd q Q r hm k => ?_⟩
  refine s C G ρ σ H pd _ _ r hm fun d ρ' v G' H' hq z kp r' p => ?_
  refine s2 C G' ρ' σ H' pd _ _ r' hq fun ds ρ2 vs G2 H2 hq2 z2 kp2 r2 p2 hl => ?_
  exact k (d :: ds) ρ2 (v :: vs) G2 H2 hq2 (z.trans z2) (kp.trans kp2) r2 (reps_cons (Rep.mono z2 _ _ p) p2) (by simp [hl])
def mTup (m : MA) : ME := fun ρ q => m ρ fun ds ρ' => q (.tup ds) ρ'
def mLst (m : MA) : ME := fun ρ q => m ρ fun ds ρ' => q (.lst ds) ρ'
def mLstI (m : MA) : ME := fun ρ q => m ρ fun ds ρ' => imms ds = true ∧ q (.lst ds) ρ'
theorem le_line {n : Nat} (h : n ≤ 1000) : n ≤ sizeLine := Nat.le_of_lt (small1000 h)
theorem qe_tup {x1} (h : QA X ow es mr) (hl : es.length ≤ 1000 := by decide) : QE X ow (.Tuple es x1 pos) (mTup mr) := by
  obtain ⟨t,p,s⟩ := h
  refine ⟨_,pe_tup p,fun C G ρ σ H pd q Q r hm k => s C G ρ σ H pd _ _ r hm fun ds ρ' vs G' H' hq z kp r' p hn => ⟨le_line (by omega),fun a ha => ?_⟩⟩
  obtain ⟨O,r'⟩ := r'
  obtain ⟨r2,s2⟩ := r'.new ha (.tup vs)
  exact k _ ρ' _ _ _ hq (z.trans s2) kp ⟨O,r2⟩ (rep_tup upd_same (Reps.mono s2 _ _ p))
theorem qe_lst (h : QA X ow es mr) (hl : es.length ≤ 1000 := by decide) : QE X ow (.List es pos) (mLst mr) := by
  obtain ⟨t,p,s⟩ := h
  refine ⟨_,pe_lst p,fun C G ρ σ H pd q Q r hm k => s C G ρ σ H pd _ _ r hm fun ds ρ' vs G' H' hq z kp r' p hn => ⟨le_line (by omega),fun a ha => ?_⟩⟩
  obtain ⟨O,r'⟩ := r'
  obtain ⟨r2,s2⟩ := r'.new ha (.lst vs)
  exact k _ ρ' _ _ _ hq (z.trans s2) kp ⟨O,r2⟩ (rep_lst upd_same (Reps.mono s2 _ _ p))
theorem qf_lst (h : QA X ow es mr) (hl : es.length ≤ 1000 := by decide) : QF X ow (.List es pos) (mLstI mr) := by
  obtain ⟨t,p,s⟩ := h
  refine ⟨_,pe_lst p,fun C G ρ σ H pd q Q r hm k => s C G ρ σ H pd _ _ r hm fun ds ρ' vs G' H' hq z kp r' p hn => ⟨le_line (by omega),fun a ha => ?_⟩⟩
  obtain ⟨O,r'⟩ := r'
  exact k _ ρ' _ _ _ hq.2 z kp (r'.newL ha hq.1 p)
def DCall (r : List V → Hp → VK → Prop) (f : List D → (D → Prop) → Prop) : Prop := ∀ (G H : Hp) (xs : List V) (ds : List D) (q : D → Prop) (Q : VK),Same G H → Reps G ds xs → f ds q → (∀ d v,q d → Rep G d v → Q v H) → r xs H Q
def mCB (f : List D → (D → Prop) → Prop) (m : MA) : ME := fun ρ q => m ρ fun ds ρ' => f ds fun d => q d ρ'
theorem se_cb {r : List V → Hp → VK → Prop} {f : List D → (D → Prop) → Prop} {t : TA} {n : Nat} (hd : DCall r f) (s : SA ow n t mr) : SE ow (tCB r t) (mCB f mr) := fun C G ρ σ H pd q Q hr hm k =>
  s C G ρ σ H pd _ _ hr hm fun ds ρ' vs G' H' hq z kp r' p hn => hd G' H' vs ds _ _ r'.gh p hq fun d v hq p => k d ρ' v G' H' hq z kp r' p
variable {x : Str} {p' : Pos}
theorem qe_callB {id : String} {r : List V → Hp → VK → Prop} {f : List D → (D → Prop) → Prop} (hc : CallR X (.builtin id) r) (hd : DCall r f) (hg : Gl X x) (hm : X.mg x = none) (hv : bootBuiltins x = some (.builtin id)) (ha : QA X ow (e :: es) mr) (hn : x ≠ "__name__" := by decide) (hdb : (x == ("__debug__" : Str)) = false := by decide)
    (he : starEach (e :: es) X.env = (false,eval e X.env) :: starEach es X.env := by rfl) (hpl : (backTo pos (starEach es X.env)).any (·.1) = false := by rfl) : QE X ow (.Call (.Name x p') (e :: es) [] pos) (mCB f mr) := by
  obtain ⟨t,p,s⟩ := ha
  exact ⟨_,pe_callB hc hg hm hv p hn hdb he hpl,se_cb hd s⟩
theorem qe_callTy {id : String} {r : List V → Hp → VK → Prop} {f : List D → (D → Prop) → Prop} (hc : CallR X (.type id) r) (hd : DCall r f) (hg : Gl X x) (hm : X.mg x = none) (hv : bootBuiltins x = some (.type id)) (ha : QA X ow (e :: es) mr) (hn : x ≠ "__name__" := by decide) (hdb : (x == ("__debug__" : Str)) = false := by decide)
    (he : starEach (e :: es) X.env = (false,eval e X.env) :: starEach es X.env := by rfl) (hpl : (backTo pos (starEach es X.env)).any (·.1) = false := by rfl) : QE X ow (.Call (.Name x p') (e :: es) [] pos) (mCB f mr) := by
  obtain ⟨t,p,s⟩ := ha
  exact ⟨_,pe_callTy hc hg hm hv p hn hdb he hpl,se_cb hd s⟩
end
def fI (g : Int → Int → Int) : D → D → (D → Prop) → Prop := fun a b q => match a,b with
  | .int i,.int j => q (.int (g i j))
  | _,_ => False
def fIC (C : Int → Int → Prop) (g : Int → Int → Int) : D → D → (D → Prop) → Prop := fun a b q => match a,b with
  | .int i,.int j => C i j ∧ q (.int (g i j))
  | _,_ => False
def fB (g : Int → Int → Bool) : D → D → (D → Prop) → Prop := fun a b q => match a,b with
  | .int i,.int j => q (.bl (g i j))
  | _,_ => False
theorem dI {g : Int → Int → Int} : DOp (rI0 fun i j => .int (g i j)) (fI g) := fun G H x y dx dy q Q s p1 p2 hf k => by
  unfold fI at hf
  split at hf
  · exact ⟨_,_,rep_int_of p1,rep_int_of p2,k _ _ hf (rep_int _)⟩
  · exact hf.elim
theorem dIC {C : Int → Int → Prop} {g : Int → Int → Int} : DOp (rI C fun i j => .int (g i j)) (fIC C g) := fun G H x y dx dy q Q s p1 p2 hf k => by
  unfold fIC at hf
  split at hf
  · exact ⟨_,_,rep_int_of p1,rep_int_of p2,hf.1,k _ _ hf.2 (rep_int _)⟩
  · exact hf.elim
theorem dB {g : Int → Int → Bool} : DOp (rI0 fun i j => .bl (g i j)) (fB g) := fun G H x y dx dy q Q s p1 p2 hf k => by
  unfold fB at hf
  split at hf
  · exact ⟨_,_,rep_int_of p1,rep_int_of p2,k _ _ hf (rep_bl _)⟩
  · exact hf.elim
def eqD (a b : D) : Bool := PyData.eqv (toP a) (toP b)
def okD (a : D) : Bool := SeqAt.shaped (toP a)
def fEq : D → D → (D → Prop) → Prop := fun a b q => match a,b with
  | .int i,.int j => q (.bl (decide (i = j)))
  | a,b => okD a = true ∧ okD b = true ∧ q (.bl (eqD a b))
def fNe : D → D → (D → Prop) → Prop := fun a b q => match a,b with
  | .int i,.int j => q (.bl (!decide (i = j)))
  | a,b => okD a = true ∧ okD b = true ∧ q (.bl (!eqD a b))
theorem eqD_int (i j : Int) : eqD (.int i) (.int j) = decide (i = j) := by
  unfold eqD; rw [toP,toP,PyData.eqv]; first | rfl | (rw [Bool.beq_eq_decide_eq])
theorem okD_int (i : Int) : okD (.int i) = true := by unfold okD; rw [toP]; rfl
theorem dEq : DOp rEqD fEq := fun G H x y dx dy q Q s p1 p2 hf k => by
  have main : okD dx = true ∧ okD dy = true ∧ q (.bl (eqD dx dy)) := by
    unfold fEq at hf
    split at hf
    · exact ⟨okD_int _,okD_int _,by rw [eqD_int]; exact hf⟩
    · exact hf
  exact ⟨dx,dy,Rep.mono s _ _ p1,Rep.mono s _ _ p2,main.1,main.2.1,k _ _ main.2.2 (rep_bl _)⟩
theorem dNe : DOp rNeD fNe := fun G H x y dx dy q Q s p1 p2 hf k => by
  have main : okD dx = true ∧ okD dy = true ∧ q (.bl (!eqD dx dy)) := by
    unfold fNe at hf
    split at hf
    · exact ⟨okD_int _,okD_int _,by rw [eqD_int]; exact hf⟩
    · exact hf
  exact ⟨dx,dy,Rep.mono s _ _ p1,Rep.mono s _ _ p2,main.1,main.2.1,k _ _ main.2.2 (rep_bl _)⟩
def isNon : D → Bool
  | .non => true
  | _ => false
theorem rep_non_iff {G : Hp} {d : D} {v : V} (h : Rep G d v) : decide (v = .non) = isNon d := by
  cases d <;> rw [Rep] at h
  case non => subst h; rfl
  case tup => obtain ⟨a,xs,rfl,_⟩ := h; rfl
  case lst => obtain ⟨a,xs,rfl,_⟩ := h; rfl
  case dct => obtain ⟨a,xs,rfl,_⟩ := h; rfl
  case dic => obtain ⟨a,xs,rfl,_⟩ := h; rfl
  case scr => obtain ⟨a,rfl,_⟩ := h; rfl
  case ext => obtain ⟨a,H0,rfl,_⟩ := h; rfl
  all_goals subst h; rfl
def fIsN : D → D → (D → Prop) → Prop := fun a b q => match b with
  | .non => q (.bl (isNon a))
  | _ => False
def fNotN : D → D → (D → Prop) → Prop := fun a b q => match b with
  | .non => q (.bl (!isNon a))
  | _ => False
theorem dIsN : DOp (fun x y H Q => y = .non ∧ Q (.bl (decide (x = .non))) H) fIsN := fun G H x y dx dy q Q s p1 p2 hf k => by
  unfold fIsN at hf
  split at hf
  · rw [Rep] at p2; exact ⟨p2,by rw [rep_non_iff p1]; exact k _ _ hf (rep_bl _)⟩
  · exact hf.elim
theorem dNotN : DOp (fun x y H Q => y = .non ∧ Q (.bl (!decide (x = .non))) H) fNotN := fun G H x y dx dy q Q s p1 p2 hf k => by
  unfold fNotN at hf
  split at hf
  · rw [Rep] at p2; exact ⟨p2,by rw [rep_non_iff p1]; exact k _ _ hf (rep_bl _)⟩
  · exact hf.elim
def fIsB : D → D → (D → Prop) → Prop := fun a b q => match a,b with
  | .bl x,.bl y => q (.bl (x == y))
  | _,_ => False
theorem dIsB : DOp (fun x y H Q => ∃ b c,x = .bl b ∧ y = .bl c ∧ Q (.bl (b == c)) H) fIsB := fun G H x y dx dy q Q s p1 p2 hf k => by
  unfold fIsB at hf
  split at hf
  · exact ⟨_,_,rep_bl_of p1,rep_bl_of p2,k _ _ hf (rep_bl _)⟩
  · exact hf.elim
def flatD : D → Bool
  | .non => true
  | .bl _ => true
  | .int _ => true
  | .str _ => true
  | _ => false
def eqF : D → D → Bool
  | .non,.non => true
  | .bl a,.bl b => a == b
  | .bl a,.int b => (if a then 1 else 0) == b
  | .int a,.bl b => a == (if b then 1 else 0)
  | .int a,.int b => a == b
  | .str a,.str b => a == b
  | _,_ => false
def toV : D → V
  | .non => .non
  | .bl b => .bl b
  | .int i => .int i
  | .str x => .str x
  | _ => .non
theorem flat_rep {G : Hp} {d : D} {v : V} (h : Rep G d v) (f : flatD d = true) : v = toV d := by
  cases d <;> first | (rw [Rep] at h; exact h) | cases f
theorem eqV_toV : ∀ {a b : D},flatD a = true → flatD b = true → eqV (toV a) (toV b) = eqF a b := by
  intro a b f g
  cases a <;> cases b <;> first | rfl | exact absurd f Bool.false_ne_true | exact absurd g Bool.false_ne_true
theorem flatV_toV {d : D} (f : flatD d = true) : flatV (toV d) = true := by
  cases d <;> first | rfl | cases f
theorem reps_flat {G : Hp} : ∀ {ds : List D} {xs : List V},Reps G ds xs → ds.all flatD = true → xs = ds.map toV
  | [],xs,h,_ => by rw [Reps] at h; subst h; rfl
  | d :: ds,xs,h,f => by
    rw [Reps] at h
    obtain ⟨v,vs,rfl,h1,h2⟩ := h
    rw [List.all_cons,Bool.and_eq_true] at f
    rw [flat_rep h1 f.1,reps_flat h2 f.2]; rfl
def inD (a : D) (ds : List D) : Bool := ds.any fun y => eqF y a
theorem inV_map {a : D} (f : flatD a = true) : ∀ {ds : List D},ds.all flatD = true → inV (toV a) (ds.map toV) = inD a ds
  | [],_ => rfl
  | d :: ds,g => by
    rw [List.all_cons,Bool.and_eq_true] at g
    have := inV_map f g.2
    unfold inV inD at *
    rw [List.map_cons,List.any_cons,List.any_cons,eqV_toV g.1 f,this]
theorem all_flat : ∀ {ds : List D},ds.all flatD = true → (ds.map toV).all flatV = true
  | [],_ => rfl
  | d :: ds,g => by
    rw [List.all_cons,Bool.and_eq_true] at g
    rw [List.map_cons,List.all_cons,flatV_toV g.1,all_flat g.2]; rfl
def fIn (neg : Bool) : D → D → (D → Prop) → Prop := fun a b q => match b with
  | .lst ds => flatD a = true ∧ ds.all flatD = true ∧ q (.bl (if neg then !inD a ds else inD a ds))
  | .tup ds => flatD a = true ∧ ds.all flatD = true ∧ q (.bl (if neg then !inD a ds else inD a ds))
  | _ => False
theorem dIn {K : PySem.W.Frag} {neg : Bool} : DOp (rIn K neg) (fIn neg) := fun G H x y dx dy q Q s p1 p2 hf k => by
  unfold fIn at hf
  split at hf
  · rw [Rep] at p2
    obtain ⟨a,xs,rfl,h1,h2⟩ := p2
    obtain ⟨f1,f2,hq⟩ := hf
    refine ⟨a,xs,rfl,.inl (SqL.of (s _ _ h1)),?_,?_,?_⟩
    · rw [flat_rep p1 f1]; exact flatV_toV f1
    · rw [reps_flat h2 f2]; exact all_flat f2
    · rw [flat_rep p1 f1,reps_flat h2 f2,inV_map f1 f2]; exact k _ _ hq (rep_bl _)
  · rw [Rep] at p2
    obtain ⟨a,xs,rfl,h1,h2⟩ := p2
    obtain ⟨f1,f2,hq⟩ := hf
    refine ⟨a,xs,rfl,.inr (SqT.of (s _ _ h1)),?_,?_,?_⟩
    · rw [flat_rep p1 f1]; exact flatV_toV f1
    · rw [reps_flat h2 f2]; exact all_flat f2
    · rw [flat_rep p1 f1,reps_flat h2 f2,inV_map f1 f2]; exact k _ _ hq (rep_bl _)
  · exact hf.elim
def atD (ds : List D) (i : Int) (q : D → Prop) : Prop := match atI ds i with
  | some d => q d
  | none => False
def fIx (K : PySem.W.Frag) : D → D → (D → Prop) → Prop := fun a b q => match a,b with
  | .lst ds,.int i => atD ds i q
  | .tup ds,.int i => atD ds i q
  | .scr φ ns,.int i => (∀ a H,φ a → SqL K H a (ns.map V.int)) ∧ match atI ns i with
    | some n => q (.int n)
    | none => False
  | _,_ => False
theorem reps_get {G : Hp} : ∀ {ds : List D} {xs : List V} {j : Nat} {d : D},Reps G ds xs → ds[j]? = some d → ∃ v,xs[j]? = some v ∧ Rep G d v
  | [],_,_,_,_,e => by simp at e
  | d :: ds,xs,0,e,h,q => by rw [Reps] at h; obtain ⟨v,vs,rfl,h1,_⟩ := h; simp at q; subst q; exact ⟨v,rfl,h1⟩
  | d :: ds,xs,j + 1,e,h,q => by
    rw [Reps] at h
    obtain ⟨v,vs,rfl,_,h2⟩ := h
    obtain ⟨u,e1,e2⟩ := reps_get (j := j) h2 (by simpa using q)
    exact ⟨u,by simpa using e1,e2⟩
theorem reps_atI {G : Hp} {ds : List D} {xs : List V} {i : Int} {d : D} (h : Reps G ds xs) (e : atI ds i = some d) : ∃ v,atI xs i = some v ∧ Rep G d v := by
  unfold atI at *
  rw [h.length]
  cases q : ixN ds.length i with
  | none => rw [q] at e; cases e
  | some j => rw [q] at e; exact reps_get h e
theorem atI_map {α β : Type} {f : α → β} {xs : List α} {i : Int} {x : α} (h : atI xs i = some x) : atI (xs.map f) i = some (f x) := by
  unfold atI at *
  rw [List.length_map]
  cases q : ixN xs.length i with
  | none => rw [q] at h; cases h
  | some j => rw [q] at h; rw [show (Option.some j).bind _ = (xs.map f)[j]? from rfl,List.getElem?_map,show xs[j]? = some x from h]; rfl
theorem dIx {K : PySem.W.Frag} : DOp (rIx K) (fIx K) := fun G H x y dx dy q Q s p1 p2 hf k => by
  unfold fIx at hf
  split at hf
  · rw [Rep] at p1
    obtain ⟨a,xs,rfl,h1,h2⟩ := p1
    unfold atD at hf
    split at hf
    · rename_i e
      obtain ⟨v,e1,e2⟩ := reps_atI h2 e
      exact .inl ⟨a,xs,_,v,rfl,rep_int_of p2,SqL.of (s _ _ h1),e1,k _ _ hf e2⟩
    · exact hf.elim
  · rw [Rep] at p1
    obtain ⟨a,xs,rfl,h1,h2⟩ := p1
    unfold atD at hf
    split at hf
    · rename_i e
      obtain ⟨v,e1,e2⟩ := reps_atI h2 e
      exact .inr (.inl ⟨a,xs,_,v,rfl,rep_int_of p2,SqT.of (s _ _ h1),e1,k _ _ hf e2⟩)
    · exact hf.elim
  · rw [Rep] at p1
    obtain ⟨a,rfl,h1⟩ := p1
    obtain ⟨hk,hf⟩ := hf
    split at hf
    · rename_i e
      refine .inl ⟨a,_,_,_,rfl,rep_int_of p2,?_,atI_map e,k _ _ hf (rep_int _)⟩
      rcases h1 with ⟨o,h1⟩ | h1
      · exact .inl (.inr ⟨o,s _ _ h1⟩)
      · exact hk a H h1
    · exact hf.elim
  · exact hf.elim
def fLen (K : PySem.W.Frag) : List D → (D → Prop) → Prop := fun ds q => match ds with
  | [.lst ds] => q (.int ds.length)
  | [.tup ds] => q (.int ds.length)
  | [.scr φ ns] => (∀ a H,φ a → SqL K H a (ns.map V.int)) ∧ q (.int ns.length)
  | _ => False
theorem rep_lst_of {G : Hp} {ds : List D} {v : V} (h : Rep G (.lst ds) v) : ∃ a xs,v = .ref a ∧ G a = some (.lst xs) ∧ Reps G ds xs := by rw [Rep] at h; exact h
theorem rep_tup_of {G : Hp} {ds : List D} {v : V} (h : Rep G (.tup ds) v) : ∃ a xs,v = .ref a ∧ G a = some (.tup xs) ∧ Reps G ds xs := by rw [Rep] at h; exact h
theorem rep_scr_of {G : Hp} {φ : Addr → Prop} {ns : List Int} {v : V} (h : Rep G (.scr φ ns) v) : ∃ a,v = .ref a ∧ ((∃ o,G a = some (.frz o (.lst (ns.map V.int)))) ∨ φ a) := by rw [Rep] at h; exact h
theorem reps_one {G : Hp} {d : D} {xs : List V} (h : Reps G [d] xs) : ∃ v,xs = [v] ∧ Rep G d v := by
  rw [Reps] at h; obtain ⟨v,vs,rfl,h1,h2⟩ := h; rw [Reps] at h2; subst h2; exact ⟨v,rfl,h1⟩
theorem reps_two {G : Hp} {d e : D} {xs : List V} (h : Reps G [d,e] xs) : ∃ v u,xs = [v,u] ∧ Rep G d v ∧ Rep G e u := by
  rw [Reps] at h; obtain ⟨v,vs,rfl,h1,h2⟩ := h; obtain ⟨u,rfl,h3⟩ := reps_one h2; exact ⟨v,u,rfl,h1,h3⟩
theorem dLen {K : PySem.W.Frag} : DCall (fun xs H Q => ∃ p ys,xs = [.ref p] ∧ (SqL K H p ys ∨ SqT K H p ys) ∧ Q (.int ys.length) H) (fLen K) := fun G H xs ds q Q s p hf k => by
  unfold fLen at hf
  split at hf
  · obtain ⟨v,rfl,p1⟩ := reps_one p
    obtain ⟨a,xs,rfl,h1,h2⟩ := rep_lst_of p1
    exact ⟨a,xs,rfl,.inl (SqL.of (s _ _ h1)),by rw [h2.length]; exact k _ _ hf (rep_int _)⟩
  · obtain ⟨v,rfl,p1⟩ := reps_one p
    obtain ⟨a,xs,rfl,h1,h2⟩ := rep_tup_of p1
    exact ⟨a,xs,rfl,.inr (SqT.of (s _ _ h1)),by rw [h2.length]; exact k _ _ hf (rep_int _)⟩
  · obtain ⟨v,rfl,p1⟩ := reps_one p
    obtain ⟨a,rfl,h1⟩ := rep_scr_of p1
    rename_i φ ns
    have hS : SqL K H a (ns.map V.int) := by
      rcases h1 with ⟨o,h1⟩ | h1
      · exact .inl (.inr ⟨o,s _ _ h1⟩)
      · exact hf.1 a H h1
    exact ⟨a,_,rfl,.inl hS,by rw [List.length_map]; exact k _ _ hf.2 (rep_int _)⟩
  · exact hf.elim
def fMax : List D → (D → Prop) → Prop := fun ds q => match ds with
  | [.int i,.int j] => q (.int (if j > i then j else i))
  | _ => False
def fMin : List D → (D → Prop) → Prop := fun ds q => match ds with
  | [.int i,.int j] => q (.int (if j < i then j else i))
  | _ => False
theorem dMax : DCall (fun xs H Q => ∃ i j,xs = [.int i,.int j] ∧ Q (.int (if j > i then j else i)) H) fMax := fun G H xs ds q Q s p hf k => by
  unfold fMax at hf
  split at hf
  · obtain ⟨v,u,rfl,p1,p2⟩ := reps_two p
    rw [rep_int_of p1,rep_int_of p2]
    exact ⟨_,_,rfl,k _ _ hf (rep_int _)⟩
  · exact hf.elim
theorem dMin : DCall (fun xs H Q => ∃ i j,xs = [.int i,.int j] ∧ Q (.int (if j < i then j else i)) H) fMin := fun G H xs ds q Q s p hf k => by
  unfold fMin at hf
  split at hf
  · obtain ⟨v,u,rfl,p1,p2⟩ := reps_two p
    rw [rep_int_of p1,rep_int_of p2]
    exact ⟨_,_,rfl,k _ _ hf (rep_int _)⟩
  · exact hf.elim
def fInt1 : List D → (D → Prop) → Prop := fun ds q => match ds with
  | [.int i] => q (.int i)
  | [.bl k] => q (.int (if k then 1 else 0))
  | _ => False
theorem dInt1 : DCall (fun xs H Q => (∃ i,xs = [.int i] ∧ Q (.int i) H) ∨ ∃ k,xs = [.bl k] ∧ Q (.int (if k then 1 else 0)) H) fInt1 := fun G H xs ds q Q s p hf k => by
  unfold fInt1 at hf
  split at hf
  · obtain ⟨v,rfl,p1⟩ := reps_one p
    rw [rep_int_of p1]
    exact .inl ⟨_,rfl,k _ _ hf (rep_int _)⟩
  · obtain ⟨v,rfl,p1⟩ := reps_one p
    rw [rep_bl_of p1]
    exact .inr ⟨_,rfl,k _ _ hf (rep_int _)⟩
  · exact hf.elim
def fAbs : List D → (D → Prop) → Prop := fun ds q => match ds with
  | [.int i] => q (.int (if i < 0 then -i else i))
  | _ => False
theorem dAbs : DCall (fun xs H Q => ∃ i,xs = [.int i] ∧ Q (.int (if i < 0 then -i else i)) H) fAbs := fun G H xs ds q Q s p hf k => by
  unfold fAbs at hf
  split at hf
  · obtain ⟨v,rfl,p1⟩ := reps_one p
    rw [rep_int_of p1]
    exact ⟨_,rfl,k _ _ hf (rep_int _)⟩
  · exact hf.elim
section
variable {X : Cx} {ow : List Bool} {a b c e : Expr} {ma mb mc : ME} {pos : Pos} {mr : MA} {es : List Expr}
def mNeg (m : ME) : ME := fun ρ q => m ρ fun d ρ' => match d with
  | .int i => q (.int (-i)) ρ'
  | _ => False
theorem qe_neg (h : QE X ow a ma) : QE X ow (.UnaryOp .USub a pos) (mNeg ma) := by
  obtain ⟨t,p,s⟩ := h
  refine ⟨_,pe_un un_neg p,fun C G ρ σ H pd q Q r hm k => s C G ρ σ H pd _ _ r hm fun d ρ' v G' H' hq s kp r' p => ?_⟩
  cases d with
  | int i => exact ⟨i,rep_int_of p,k _ ρ' _ G' H' hq s kp r' (rep_int _)⟩
  | _ => exact hq.elim
def mIsT (T : String) (m : ME) : ME := fun ρ q => m ρ fun d ρ' => match isTy d T with
  | some b => q (.bl b) ρ'
  | none => False
theorem qe_isT {T : String} {x y : Str} {p1 p2 : Pos} (hg : Gl X x) (hm : X.mg x = none) (hv : bootBuiltins x = some (.builtin "isinstance")) (ha : QE X ow a ma) (ht : PE X (.Name y p2) (tC (.ty T)))
    (hn : x ≠ "__name__" := by decide) (hdb : (x == ("__debug__" : Str)) = false := by decide)
    (hs : starEach [.Name y p2] X.env = [(false,eval (.Name y p2) X.env)] := by rfl)
    (he : starEach [a,.Name y p2] X.env = (false,eval a X.env) :: starEach [.Name y p2] X.env := by rfl) (hpl : (backTo pos (starEach [.Name y p2] X.env)).any (·.1) = false := by rfl) :
    QE X ow (.Call (.Name x p1) [a,.Name y p2] [] pos) (mIsT T ma) := by
  obtain ⟨t,p,s⟩ := ha
  refine ⟨_,pe_callB call_isinst hg hm hv (pa_cons p (pa_cons ht pa_nil hs) he) hn hdb he hpl,fun C G ρ σ H pd q Q r hm k => s C G ρ σ H pd _ _ r hm fun d ρ' v G' H' hq s kp r' p => ?_⟩
  cases e : isTy d T with
  | none => rw [e] at hq; exact hq.elim
  | some b => rw [e] at hq; exact ⟨v,T,d,b,rfl,Rep.mono r'.gh _ _ p,e,k _ ρ' _ G' H' hq s kp r' (rep_bl _)⟩
def mChain (f g : D → D → (D → Prop) → Prop) (ma mb mc : ME) : ME := fun ρ q => ma ρ fun x ρ1 => mb ρ1 fun y ρ2 => f x y fun z => match z with
  | .bl k => if k = true then mc ρ2 fun w ρ3 => g y w fun d => q d ρ3 else q (.bl false) ρ2
  | _ => False
theorem se_chain {r r' : R2} {f g : D → D → (D → Prop) → Prop} {ta tb tc : TE} (hf : DOp r f) (hg : DOp r' g) (ha : SE ow ta ma) (hb : SE ow tb mb) (hc : SE ow tc mc) : SE ow (tChain r r' ta tb tc) (mChain f g ma mb mc) := fun C G ρ σ H pd q Q hr h k => by
  refine se_two (Q := fun x y H2 => r x y H2 _) ha hb hr h fun dx dy ρ' x y G' H' h1 s kp r1 p1 p2 => ?_
  refine hf G' H' x y dx dy _ _ r1.gh p1 p2 h1 fun d v hq p => ?_
  cases d with
  | bl b =>
    refine ⟨b,rep_bl_of p,?_⟩
    change (if b = true then _ else _) at hq
    cases b with
    | true =>
      rw [if_pos rfl] at hq ⊢
      refine hc C G' ρ' σ H' pd _ _ r1 hq fun dw ρ3 w G3 H3 h3 s3 kp3 r3 p3 => ?_
      exact hg G3 H3 y w dy dw _ _ r3.gh (Rep.mono s3 _ _ p2) p3 h3 fun d v hq p => k d ρ3 v G3 H3 hq (s.trans s3) (kp.trans kp3) r3 p
    | false => rw [if_neg (by decide)] at hq ⊢; exact k _ ρ' _ G' H' hq s kp r1 (rep_bl _)
  | _ => exact hq.elim
theorem qe_chain {op op' : CmpOp} {r r' : R2} {f g : D → D → (D → Prop) → Prop} (ho : OpR X (compareOp op) r) (ho' : OpR X (compareOp op') r') (hf : DOp r f) (hg : DOp r' g) (ha : QE X ow a ma) (hb : QE X ow b mb) (hc : QE X ow c mc)
    (hm : lastMarks [op,op'] [b,c] = false := by with_unfolding_all rfl) : QE X ow (.Compare a [op,op'] [b,c] pos) (mChain f g ma mb mc) := by
  obtain ⟨ta,pa,sa⟩ := ha; obtain ⟨tb,pb,sb⟩ := hb; obtain ⟨tc,pc,sc⟩ := hc
  exact ⟨_,pe_chain ho ho' pa pb pc hm,se_chain hf hg sa sb sc⟩
theorem qt_chain {op op' : CmpOp} {r r' : R2} {f g : D → D → (D → Prop) → Prop} (ho : OpR X (compareOp op) r) (ho' : OpR X (compareOp op') r') (hf : DOp r f) (hg : DOp r' g) (ha : QE X ow a ma) (hb : QE X ow b mb) (hc : QE X ow c mc)
    (hm : lastMarks [op,op'] [b,c] = false := by with_unfolding_all rfl) : QT X ow (.Compare a [op,op'] [b,c] pos) (mB (mChain f g ma mb mc)) := by
  obtain ⟨ta,pa,sa⟩ := ha; obtain ⟨tb,pb,sb⟩ := hb; obtain ⟨tc,pc,sc⟩ := hc
  exact ⟨_,pt_chain ho ho' pa pb pc hm,st_of (se_chain hf hg sa sb sc)⟩
def DNew (r : List V → Hp → VK → Prop) (f : List D → (List D → Prop) → Prop) : Prop := ∀ (G H : Hp) (xs : List V) (ds : List D) (q : List D → Prop) (Q : VK),Same G H → Reps G ds xs → f ds q →
  (∀ es ys p,q es → Reps G es ys → H p = none → Q (.ref p) (upd H p (.lst ys))) → r xs H Q
def mNew (f : List D → (List D → Prop) → Prop) (m : MA) : ME := fun ρ q => m ρ fun ds ρ' => f ds fun es => imms es = true ∧ q (.lst es) ρ'
def mNewS (f : List D → (List D → Prop) → Prop) (m : MA) : ME := fun ρ q => m ρ fun ds ρ' => f ds fun es => q (.lst es) ρ'
theorem sf_new {r : List V → Hp → VK → Prop} {f : List D → (List D → Prop) → Prop} {t : TA} {n : Nat} (hd : DNew r f) (s : SA ow n t mr) : SF ow (fun σ H Q => t σ H fun xs H1 => r xs H1 Q) (mNew f mr) := fun C G ρ σ H pd q Q hr hm k =>
  s C G ρ σ H pd _ _ hr hm fun ds ρ' vs G' H' hq z kp r' p hn => hd G' H' vs ds _ _ r'.gh p hq fun es ys a hq p ha => by
    obtain ⟨O,r'⟩ := r'
    exact k _ ρ' _ _ _ hq.2 z kp (r'.newL ha hq.1 p)
theorem se_new {r : List V → Hp → VK → Prop} {f : List D → (List D → Prop) → Prop} {t : TA} {n : Nat} (hd : DNew r f) (s : SA ow n t mr) : SE ow (fun σ H Q => t σ H fun xs H1 => r xs H1 Q) (mNewS f mr) := fun C G ρ σ H pd q Q hr hm k =>
  s C G ρ σ H pd _ _ hr hm fun ds ρ' vs G' H' hq z kp r' p hn => hd G' H' vs ds _ _ r'.gh p hq fun es ys a hq p ha => by
    obtain ⟨O,r'⟩ := r'
    obtain ⟨r2,s2⟩ := r'.new ha (.lst ys)
    exact k _ ρ' _ _ _ hq (z.trans s2) kp ⟨O,r2⟩ (rep_lst upd_same (Reps.mono s2 _ _ p))
theorem sa_two {ta tb : TE} (ha : SE ow ta ma) (hb : SE ow tb mb) : SA ow 2 (fun σ H Q => ta σ H fun x H1 => tb σ H1 fun y H2 => Q [x,y] H2) (mCons ma (mCons mb mNil)) := fun C G ρ σ H pd q Q hr hm k =>
  se_two (Q := fun x y H2 => Q [x,y] H2) ha hb hr hm fun dx dy ρ' x y G' H' h1 s kp r1 p1 p2 => k [dx,dy] ρ' [x,y] G' H' h1 s kp r1 (reps_cons p1 (reps_cons p2 reps_nil)) rfl
theorem reps_app {G : Hp} : ∀ {ds es : List D} {xs ys : List V},Reps G ds xs → Reps G es ys → Reps G (ds ++ es) (xs ++ ys)
  | [],es,xs,ys,h,h2 => by rw [Reps] at h; subst h; exact h2
  | d :: ds,es,xs,ys,h,h2 => by rw [Reps] at h; obtain ⟨v,vs,rfl,h1,h3⟩ := h; exact reps_cons h1 (reps_app h3 h2)
theorem reps_drop {G : Hp} : ∀ {ds : List D} {xs : List V} (n : Nat),Reps G ds xs → Reps G (ds.drop n) (xs.drop n)
  | [],xs,n,h => by rw [Reps] at h; subst h; simp; exact reps_nil
  | d :: ds,xs,0,h => h
  | d :: ds,xs,n + 1,h => by rw [Reps] at h; obtain ⟨v,vs,rfl,h1,h3⟩ := h; exact reps_drop n h3
theorem reps_take {G : Hp} : ∀ {ds : List D} {xs : List V} (n : Nat),Reps G ds xs → Reps G (ds.take n) (xs.take n)
  | [],xs,n,h => by rw [Reps] at h; subst h; simp; exact reps_nil
  | d :: ds,xs,0,h => by simp; exact reps_nil
  | d :: ds,xs,n + 1,h => by rw [Reps] at h; obtain ⟨v,vs,rfl,h1,h3⟩ := h; exact reps_cons h1 (reps_take n h3)
theorem reps_rep {G : Hp} {ds : List D} {xs : List V} (h : Reps G ds xs) : ∀ n : Nat,Reps G (List.replicate n ds).flatten (List.replicate n xs).flatten
  | 0 => by simp; exact reps_nil
  | n + 1 => by simp [List.replicate_succ]; exact reps_app h (reps_rep h n)
def fCat : List D → (List D → Prop) → Prop := fun ds q => match ds with
  | [.lst xs,.lst ys] => xs.length + ys.length ≤ 1000 ∧ q (xs ++ ys)
  | _ => False
theorem dCat : DNew (fun xs H Q => ∃ x y,xs = [x,y] ∧ rCat x y H Q) fCat := fun G H xs ds q Q s p hf k => by
  unfold fCat at hf
  split at hf
  · obtain ⟨v,u,rfl,p1,p2⟩ := reps_two p
    rw [Rep] at p1 p2
    obtain ⟨a1,xs,rfl,h1,h2⟩ := p1
    obtain ⟨a2,ys,rfl,h3,h4⟩ := p2
    exact ⟨_,_,rfl,a1,a2,xs,ys,rfl,rfl,s _ _ h1,s _ _ h3,le_line (by rw [h2.length,h4.length]; exact hf.1),fun p hp => k _ _ p hf.2 (reps_app h2 h4) hp⟩
  · exact hf.elim
def fRep : List D → (List D → Prop) → Prop := fun ds q => match ds with
  | [.lst xs,.int n] => (-(2 ^ 63) ≤ n ∧ n < 2 ^ 63 ∧ xs.length * n.toNat ≤ 1000) ∧ q (List.replicate n.toNat xs).flatten
  | _ => False
theorem dRep : DNew (fun xs H Q => ∃ x y,xs = [x,y] ∧ rRep x y H Q) fRep := fun G H xs ds q Q s p hf k => by
  unfold fRep at hf
  split at hf
  · obtain ⟨v,u,rfl,p1,p2⟩ := reps_two p
    obtain ⟨a1,xs,rfl,h1,h2⟩ := rep_lst_of p1
    rw [rep_int_of p2]
    exact ⟨_,_,rfl,a1,_,xs,rfl,rfl,s _ _ h1,hf.1.1,hf.1.2.1,le_line (by rw [h2.length]; exact hf.1.2.2),fun p hp => k _ _ p hf.2 (reps_rep h2 _) hp⟩
  · exact hf.elim
def mMk (f : List D → (List D → Prop) → Prop) (ma mb : ME) : ME := mNew f (mCons ma (mCons mb mNil))
def mMkS (f : List D → (List D → Prop) → Prop) (ma mb : ME) : ME := mNewS f (mCons ma (mCons mb mNil))
def R2ok (r : R2) : List V → Hp → VK → Prop := fun xs H Q => match xs with
  | [x,y] => r x y H Q
  | _ => False
theorem DNew.r2 {r : R2} {f : List D → (List D → Prop) → Prop} (h : DNew (fun xs H Q => ∃ x y,xs = [x,y] ∧ r x y H Q) f) : DNew (R2ok r) f := fun G H xs ds q Q s p hf k => by
  obtain ⟨x,y,rfl,z⟩ := h G H xs ds q Q s p hf k
  exact z
theorem qf_mk {op : Operator} {r : R2} {f : List D → (List D → Prop) → Prop} (ho : OpR X (binaryOp op) r) (hd : DNew (fun xs H Q => ∃ x y,xs = [x,y] ∧ r x y H Q) f) (ha : QE X ow a ma) (hb : QE X ow b mb) : QF X ow (.BinOp a op b pos) (mMk f ma mb) := by
  obtain ⟨ta,pa,sa⟩ := ha; obtain ⟨tb,pb,sb⟩ := hb
  exact ⟨tOp r ta tb,pe_op ho pa pb,sf_new (r := R2ok r) hd.r2 (sa_two sa sb)⟩
theorem qe_mk {op : Operator} {r : R2} {f : List D → (List D → Prop) → Prop} (ho : OpR X (binaryOp op) r) (hd : DNew (fun xs H Q => ∃ x y,xs = [x,y] ∧ r x y H Q) f) (ha : QE X ow a ma) (hb : QE X ow b mb) : QE X ow (.BinOp a op b pos) (mMkS f ma mb) := by
  obtain ⟨ta,pa,sa⟩ := ha; obtain ⟨tb,pb,sb⟩ := hb
  exact ⟨tOp r ta tb,pe_op ho pa pb,se_new (r := R2ok r) hd.r2 (sa_two sa sb)⟩
def fList : List D → (List D → Prop) → Prop := fun ds q => match ds with
  | [.lst xs] => q xs
  | [.tup xs] => q xs
  | _ => False
theorem dList {K : PySem.W.Frag} : DNew (fun xs H Q => ∃ p ys,xs = [.ref p] ∧ (SqL K H p ys ∨ SqT K H p ys) ∧ ∀ l,H l = none → Q (.ref l) (upd H l (.lst ys))) fList := fun G H xs ds q Q s p hf k => by
  unfold fList at hf
  split at hf
  · obtain ⟨v,rfl,p1⟩ := reps_one p
    obtain ⟨a,xs,rfl,h1,h2⟩ := rep_lst_of p1
    exact ⟨a,xs,rfl,.inl (SqL.of (s _ _ h1)),fun l hl => k _ _ l hf h2 hl⟩
  · obtain ⟨v,rfl,p1⟩ := reps_one p
    obtain ⟨a,xs,rfl,h1,h2⟩ := rep_tup_of p1
    exact ⟨a,xs,rfl,.inr (SqT.of (s _ _ h1)),fun l hl => k _ _ l hf h2 hl⟩
  · exact hf.elim
variable {x : Str} {p' : Pos}
theorem qf_callTy {id : String} {r : List V → Hp → VK → Prop} {f : List D → (List D → Prop) → Prop} (hc : CallR X (.type id) r) (hd : DNew r f) (hg : Gl X x) (hm : X.mg x = none) (hv : bootBuiltins x = some (.type id)) (ha : QA X ow (e :: es) mr) (hn : x ≠ "__name__" := by decide) (hdb : (x == ("__debug__" : Str)) = false := by decide)
    (he : starEach (e :: es) X.env = (false,eval e X.env) :: starEach es X.env := by rfl) (hpl : (backTo pos (starEach es X.env)).any (·.1) = false := by rfl) : QF X ow (.Call (.Name x p') (e :: es) [] pos) (mNew f mr) := by
  obtain ⟨t,p,s⟩ := ha
  exact ⟨_,pe_callTy hc hg hm hv p hn hdb he hpl,sf_new hd s⟩
theorem qf_callB {id : String} {r : List V → Hp → VK → Prop} {f : List D → (List D → Prop) → Prop} (hc : CallR X (.builtin id) r) (hd : DNew r f) (hg : Gl X x) (hm : X.mg x = none) (hv : bootBuiltins x = some (.builtin id)) (ha : QA X ow (e :: es) mr) (hn : x ≠ "__name__" := by decide) (hdb : (x == ("__debug__" : Str)) = false := by decide)
    (he : starEach (e :: es) X.env = (false,eval e X.env) :: starEach es X.env := by rfl) (hpl : (backTo pos (starEach es X.env)).any (·.1) = false := by rfl) : QF X ow (.Call (.Name x p') (e :: es) [] pos) (mNew f mr) := by
  obtain ⟨t,p,s⟩ := ha
  exact ⟨_,pe_callB hc hg hm hv p hn hdb he hpl,sf_new hd s⟩
def cutD (xs : List D) (lo hi : Option Int) : List D := (xs.drop (HT.sIx xs.length 0 lo)).take (HT.sIx xs.length xs.length hi - HT.sIx xs.length 0 lo)
theorem reps_cut {G : Hp} {ds : List D} {xs : List V} (h : Reps G ds xs) (lo hi : Option Int) : Reps G (cutD ds lo hi) (cutV xs lo hi) := by
  unfold cutD cutV
  rw [h.length]
  exact reps_take _ (reps_drop _ h)
abbrev MO := DSt → (Option Int → DSt → Prop) → Prop
def SO (ow : List Bool) (t : TO) (m : MO) : Prop := ∀ (C : Ctx) (G : Hp) (ρ : DSt) (σ : St) (H : Hp) (pd : List (D × V)) (q : Option Int → DSt → Prop) (Q : Option Int → Hp → Prop),R C ow G ρ σ H pd → m ρ q →
  (∀ b ρ' G' H',q b ρ' → Same G G' → Kp ow ρ ρ' → R C ow G' ρ' σ H' pd → Q b H') → t σ H Q
structure QO (X : Cx) (ow : List Bool) (e : Option Expr) (m : MO) : Prop where
  ex : ∃ t,PO X e t ∧ SO ow t m
def mNoPart : MO := fun ρ q => q none ρ
def mPart (m : ME) : MO := fun ρ q => m ρ fun d ρ' => match d with
  | .int i => q (some i) ρ'
  | _ => False
theorem qo_none : QO X ow none mNoPart := ⟨_,po_none,fun C G ρ σ H pd q Q r h k => k none ρ G H h (Same.refl _) Kp.refl r⟩
theorem qo_some (h : QE X ow e ma) : QO X ow (some e) (mPart ma) := by
  obtain ⟨t,p,s⟩ := h
  refine ⟨_,po_some p,fun C G ρ σ H pd q Q r hm k => s C G ρ σ H pd _ _ r hm fun d ρ' v G' H' hq s kp r' p => ?_⟩
  cases d with
  | int i => exact ⟨i,rep_int_of p,k _ ρ' G' H' hq s kp r'⟩
  | _ => exact hq.elim
def mSl (m : ME) (ml mh : MO) : ME := fun ρ q => m ρ fun d ρ1 => ml ρ1 fun lo ρ2 => mh ρ2 fun hi ρ3 => match d with
  | .lst ds => imms (cutD ds lo hi) = true ∧ q (.lst (cutD ds lo hi)) ρ3
  | _ => False
def mSlS (m : ME) (ml mh : MO) : ME := fun ρ q => m ρ fun d ρ1 => ml ρ1 fun lo ρ2 => mh ρ2 fun hi ρ3 => match d with
  | .lst ds => q (.lst (cutD ds lo hi)) ρ3
  | _ => False
variable {lo hi : Option Expr} {ml mh : MO} {p2 : Pos}
theorem qe_slice (h : QE X ow e ma) (hl : QO X ow lo ml) (hh : QO X ow hi mh) : QE X ow (.Subscript e (.Slice lo hi none p2) pos) (mSlS ma ml mh) := by
  obtain ⟨t,p,s⟩ := h; obtain ⟨t1,p1,s1⟩ := hl; obtain ⟨t2,p2,s2⟩ := hh
  refine ⟨_,pe_slice sl_list p p1 p2,fun C G ρ σ H pd q Q r hm k => s C G ρ σ H pd _ _ r hm fun d ρ' v G' H' hq z kp r' p => ?_⟩
  refine s1 C G' ρ' σ H' pd _ _ r' hq fun l ρ1 G1 H1 hq1 z1 kp1 r1 => s2 C G1 ρ1 σ H1 pd _ _ r1 hq1 fun u ρ2 G2 H2 hq2 z2 kp2 r2 => ?_
  cases d with
  | lst ds =>
    obtain ⟨a,xs,rfl,h1,h2⟩ := rep_lst_of (Rep.mono (z1.trans z2) _ _ p)
    refine ⟨a,xs,rfl,SqL.of (r2.gh _ _ h1),fun b hb => ?_⟩
    obtain ⟨O,r2⟩ := r2
    obtain ⟨r3,z3⟩ := r2.new hb (.lst (cutV xs l u))
    exact k _ ρ2 _ _ _ hq2 (z.trans (z1.trans (z2.trans z3))) (kp.trans (kp1.trans kp2)) ⟨O,r3⟩ (rep_lst upd_same (Reps.mono z3 _ _ (reps_cut h2 _ _)))
  | _ => exact hq2.elim
end
def ownM (f : Nat → Option Nat) (O : Own) : Own := fun a => match O a with
  | some m => (f m.1).map fun l => (l,m.2)
  | none => none
theorem ownM_at {f : Nat → Option Nat} {O : Own} {a : Addr} {l l' : Nat} {π : List Nat} (h : O a = some (l,π)) (hf : f l = some l') : ownM f O a = some (l',π) := by unfold ownM; rw [h]; show (f l).map _ = _; rw [hf]; rfl
theorem ownM_of {f : Nat → Option Nat} {O : Own} {a : Addr} {l' : Nat} {π : List Nat} (h : ownM f O a = some (l',π)) : ∃ l,O a = some (l,π) ∧ f l = some l' := by
  unfold ownM at h
  cases e : O a with
  | none => rw [e] at h; cases h
  | some m =>
    rw [e] at h
    change (f m.1).map _ = _ at h
    cases e2 : f m.1 with
    | none => rw [e2] at h; cases h
    | some l => rw [e2] at h; cases h; exact ⟨m.1,rfl,e2⟩
theorem ownM_none {f : Nat → Option Nat} {O : Own} {a : Addr} {l : Nat} {π : List Nat} (h : O a = some (l,π)) (hf : f l = none) : ownM f O a = none := by unfold ownM; rw [h]; show (f l).map _ = _; rw [hf]; rfl
def msV : List Bool → List V → List (Option V)
  | b :: bs,v :: vs => (if b = true then some v else none) :: msV bs vs
  | _,_ => []
theorem msV_of : ∀ {mu : List Bool} {vs : List V} {k : Nat} {v : V},(msV mu vs)[k]? = some (some v) → mu[k]? = some true ∧ vs[k]? = some v
  | [],vs,k,v,h => by simp [msV] at h
  | b :: bs,[],k,v,h => by simp [msV] at h
  | b :: bs,u :: vs,0,v,h => by
    simp only [msV,List.getElem?_cons_zero,Option.some.injEq] at h
    split at h
    · rename_i c; cases h; subst c; exact ⟨rfl,rfl⟩
    · cases h
  | b :: bs,u :: vs,k + 1,v,h => by
    simp only [msV,List.getElem?_cons_succ] at h
    simpa using msV_of h
theorem msV_at : ∀ {mu : List Bool} {vs : List V} {k : Nat} {v : V},mu[k]? = some true → vs[k]? = some v → (msV mu vs)[k]? = some (some v)
  | [],vs,k,v,h,_ => by simp at h
  | b :: bs,[],k,v,_,h => by simp at h
  | b :: bs,u :: vs,0,v,h,h2 => by simp at h h2; subst h; subst h2; simp [msV]
  | b :: bs,u :: vs,k + 1,v,h,h2 => by simp only [msV,List.getElem?_cons_succ]; exact msV_at (by simpa using h) (by simpa using h2)
section
variable {C : Ctx} {ow mu : List Bool} {G : Hp} {ρ : DSt} {σ : St} {H : Hp} {pd : List (D × V)} {O : Own} {fin fbk : Nat → Option Nat}
theorem RO.into (ro : RO C ow G ρ σ H pd O) {ds : List D} {vs : List V} (hl : ds.length = vs.length)
    (hs : ∀ (k : Nat) d,ds[k]? = some d → ∃ v,vs[k]? = some v ∧ if mu[k]? = some true then ∃ l,Sep G H O l d [] v ∧ fin l = some (2 * k) else Rep G d v)
    (hc : ∀ l l',fin l = some l' → ∃ k,l' = 2 * k ∧ mu[k]? = some true ∧ k < vs.length) :
    RO ⟨G,H,ownM fin O,msV mu vs,0⟩ mu G (ds.map some) (vs.map some) H [] (ownM fin O) := by
  refine ⟨by simp [hl],ro.gh,fun _ _ e => e,fun _ _ e => .inl e,?_,?_,fun _ _ e _ => e,fun _ e => e,?_,?_,trivial,Nat.le_refl _⟩
  · intro a m e
    obtain ⟨l',π⟩ := m
    obtain ⟨l,e1,e2⟩ := ownM_of e
    obtain ⟨q1,q2,_⟩ := ro.og a _ e1
    exact ⟨q1,q2,.inr ⟨π,e⟩⟩
  · intro a l' π e
    obtain ⟨l,e1,e2⟩ := ownM_of e
    obtain ⟨k,rfl,h2,h3⟩ := hc _ _ e2
    exact .inl ⟨k,vs[k],rfl,msV_at h2 (List.getElem?_eq_getElem h3)⟩
  · intro k v e
    rw [List.getElem?_map,(msV_of e).2]; rfl
  · intro k d e
    rw [List.getElem?_map] at e
    cases e1 : ds[k]? with
    | none => rw [e1] at e; cases e
    | some d' =>
      rw [e1] at e
      cases e
      obtain ⟨v,h1,h2⟩ := hs k d e1
      refine ⟨v,by rw [List.getElem?_map,h1]; rfl,?_⟩
      split at h2
      · rename_i c
        rw [if_pos c]
        obtain ⟨l,h3,h4⟩ := h2
        exact h3.keep (fun _ _ z => z) fun a τ q => ⟨ownM_at q h4,rfl⟩
      · rename_i c; rw [if_neg c]; exact h2
def ownB (fin fbk : Nat → Option Nat) (O O2 : Own) : Own := fun a => match O2 a with
  | some m => (fbk m.1).map fun l => (l,m.2)
  | none => match ownM fin O a with
    | some _ => none
    | none => O a
theorem RO.out (ro : RO C ow G ρ σ H pd O) {vs : List V} {G2 : Hp} {ρ2 : DSt} {σ2 : St} {H2 : Hp} {pd2 pd3 : List (D × V)} {O2 : Own} {ρ3 : DSt} {ow2 : List Bool} {np : Nat} {mv : List (Option V)}
    (ri : RO ⟨G,H,ownM fin O,mv,np⟩ ow2 G2 ρ2 σ2 H2 pd2 O2) (hib : ∀ l0 l' l,fin l0 = some l' → fbk l' = some l → l = l0)
    (hlen : ρ3.length = σ.length) (hnp : C.np ≤ pd3.length)
    (hS : ∀ (i : Nat) d,ow[i]? ≠ some true → ρ3[i]? = some (some d) → ρ[i]? = some (some d))
    (hO : ∀ (i : Nat) d,ow[i]? = some true → ρ3[i]? = some (some d) → (fin (2 * i) = none ∧ ρ[i]? = some (some d)) ∨ ∃ (k : Nat) (v : V),fbk (2 * k) = some (2 * i) ∧ ow2[k]? = some true ∧ ρ2[k]? = some (some d) ∧ σ[i]? = some (some v) ∧ σ2[k]? = some (some v))
    (hP : ∀ (O3 : Own),(∀ a l π,O a = some (l,π) → fin l = none → O3 a = some (l,π) ∧ H2 a = H a) → (∀ a l l' π,O2 a = some (l',π) → fbk l' = some l → O3 a = some (l,π)) → TSame G G2 → Pend G2 H2 O3 pd3) :
    RO C ow G2 ρ3 σ H2 pd3 (ownB fin fbk O O2) := by
  have keep : ∀ a l π,O a = some (l,π) → fin l = none → ownB fin fbk O O2 a = some (l,π) ∧ H2 a = H a := fun a l π e hn => by
    have e1 := ownM_none (f := fin) e hn
    obtain ⟨g,⟨xs,hx⟩,_⟩ := ro.og a _ e
    have e2 : O2 a = none := by
      cases q : O2 a with
      | none => rfl
      | some m =>
        obtain ⟨_,_,q3⟩ := ri.og a m q
        rcases q3 with q3 | ⟨π',q3⟩
        · change H a = none at q3; rw [hx] at q3; cases q3
        · change ownM fin O a = _ at q3; rw [e1] at q3; cases q3
    constructor
    · show (match O2 a with | some m => _ | none => _) = _
      rw [e2]
      show (match ownM fin O a with | some _ => none | none => O a) = _
      rw [e1]; exact e
    · rw [ri.fr a _ hx e1,hx]
  have come : ∀ a l l' π,O2 a = some (l',π) → fbk l' = some l → ownB fin fbk O O2 a = some (l,π) := fun a l l' π e hb => by
    show (match O2 a with | some m => _ | none => _) = _
    rw [e]
    show (fbk l').map _ = _
    rw [hb]; rfl
  have ts : TSame G G2 := (Same.ts ri.g0)
  refine ⟨hlen,ri.gh,fun a o e => ri.g0 a o (ro.g0 a o e),?_,?_,ro.cok,?_,fun a e => ro.al a (ri.al a e),ro.mp,?_,hP _ keep come ts,hnp⟩
  · intro a o e
    rcases ri.gn a o e with q | q
    · exact ro.gn a o q
    · exact .inr (ro.al a q)
  · intro a m e
    change (match O2 a with | some m => _ | none => _) = _ at e
    cases q : O2 a with
    | some m' =>
      rw [q] at e
      change (fbk m'.1).map _ = _ at e
      cases q2 : fbk m'.1 with
      | none => rw [q2] at e; cases e
      | some l =>
        rw [q2] at e; cases e
        obtain ⟨g1,g2,g3⟩ := ri.og a m' q
        refine ⟨g1,g2,?_⟩
        rcases g3 with g3 | ⟨π',g3⟩
        · exact .inl (ro.al a g3)
        · obtain ⟨l0,g4,g5⟩ := ownM_of g3
          have := hib _ _ _ g5 q2
          subst this
          exact (ro.og a _ g4).2.2
    | none =>
      rw [q] at e
      change (match ownM fin O a with | some _ => none | none => O a) = _ at e
      cases q2 : ownM fin O a with
      | some _ => rw [q2] at e; cases e
      | none =>
        rw [q2] at e
        change O a = some m at e
        obtain ⟨g1,⟨xs,g2⟩,g3⟩ := ro.og a m e
        refine ⟨?_,⟨xs,ri.fr a _ g2 q2⟩,g3⟩
        cases z : G2 a with
        | none => rfl
        | some o =>
          rcases ri.gn a o z with z | z
          · change G a = _ at z; rw [g1] at z; cases z
          · change H a = _ at z; rw [g2] at z; cases z
  · intro a o e n
    have q := ro.fr a o e n
    refine ri.fr a o q ?_
    show ownM fin O a = none
    cases z : ownM fin O a with
    | none => rfl
    | some m =>
      obtain ⟨l',π⟩ := m
      obtain ⟨l,z1,_⟩ := ownM_of z
      obtain ⟨_,_,z3⟩ := ro.og a _ z1
      rcases z3 with z3 | ⟨_,z3⟩
      · rw [z3] at e; cases e
      · rw [z3] at n; cases n
  · intro i d e
    by_cases c : ow[i]? = some true
    · rcases hO i d c e with ⟨h1,h2⟩ | ⟨k,v,h1,h2,h3,h4,h5⟩
      · obtain ⟨v,q1,q2⟩ := ro.sl i d h2
        rw [if_pos c] at q2
        exact ⟨v,q1,by rw [if_pos c]; exact q2.keep ts fun a τ q => keep a _ _ q h1⟩
      · obtain ⟨v',q1,q2⟩ := ri.sl k d h3
        rw [if_pos h2] at q2
        rw [h5] at q1; cases q1
        exact ⟨v,h4,by rw [if_pos c]; exact q2.keep (fun _ _ z => z) fun a τ q => ⟨come _ _ _ _ q h1,rfl⟩⟩
    · obtain ⟨v,q1,q2⟩ := ro.sl i d (hS i d c e)
      rw [if_neg c] at q2
      exact ⟨v,q1,by rw [if_neg c]; exact q2.mono ri.g0⟩
end
def Ret (fr : Bool) (C : Ctx) (ow : List Bool) (G : Hp) (ρ : DSt) (σ : St) (H : Hp) (d : D) (v : V) : Prop := if fr = true then R C ow G ρ σ H [(d,v)] else R C ow G ρ σ H [] ∧ Rep G d v
def mus : List Bool → DSt → DSt
  | true :: bs,x :: ρ => x :: mus bs ρ
  | false :: bs,_ :: ρ => mus bs ρ
  | true :: bs,[] => none :: mus bs []
  | false :: bs,[] => mus bs []
  | [],_ => []
def padS {α : Type} : Nat → List (Option α) → List (Option α)
  | 0,_ => []
  | n + 1,x :: ρ => x :: padS n ρ
  | n + 1,[] => none :: padS n []
theorem padS_len {α : Type} : ∀ (n : Nat) (ρ : List (Option α)),(padS n ρ).length = n
  | 0,_ => rfl
  | n + 1,x :: ρ => by simp [padS,padS_len n ρ]
  | n + 1,[] => by simp [padS,padS_len n []]
theorem padS_mus : ∀ (mu : List Bool) (ρ : DSt),mus mu (padS mu.length ρ) = mus mu ρ
  | [],_ => by simp [mus]
  | true :: bs,x :: ρ => by simp [padS,mus,padS_mus bs ρ]
  | false :: bs,x :: ρ => by simp [padS,mus,padS_mus bs ρ]
  | true :: bs,[] => by simp [padS,mus,padS_mus bs []]
  | false :: bs,[] => by simp [padS,mus,padS_mus bs []]
theorem padS_of {α : Type} : ∀ {n : Nat} {ρ : List (Option α)} {i : Nat} {d : α},(padS n ρ)[i]? = some (some d) → i < n ∧ ρ[i]? = some (some d)
  | 0,_,_,_,h => by simp [padS] at h
  | n + 1,x :: ρ,0,d,h => by simp [padS] at h; exact ⟨by omega,by simp [h]⟩
  | n + 1,x :: ρ,i + 1,d,h => by simp only [padS,List.getElem?_cons_succ] at h; obtain ⟨a,b⟩ := padS_of h; exact ⟨by omega,by simpa using b⟩
  | n + 1,[],0,d,h => by simp [padS] at h
  | n + 1,[],i + 1,d,h => by simp only [padS,List.getElem?_cons_succ] at h; obtain ⟨a,b⟩ := padS_of h; simp at b
theorem padS_at {α : Type} : ∀ {n : Nat} {ρ : List (Option α)} {i : Nat} {d : α},i < n → ρ[i]? = some (some d) → (padS n ρ)[i]? = some (some d)
  | 0,_,_,_,h,_ => by omega
  | n + 1,x :: ρ,0,d,h,e => by simp at e; simp [padS,e]
  | n + 1,x :: ρ,i + 1,d,h,e => by simp only [padS,List.getElem?_cons_succ]; exact padS_at (by omega) (by simpa using e)
  | n + 1,[],i,d,h,e => by simp at e
abbrev SpD := List D → (D → DSt → Prop) → Prop
def spOf (mu : List Bool) (fr : Bool) (sd : SpD) : Sp := fun vs H Q _ => ∃ (C : Ctx) (G : Hp) (ds : List D) (q : D → DSt → Prop),C.np = 0 ∧ C.mu = msV mu vs ∧ R C mu G (ds.map some) (vs.map some) H [] ∧ sd ds q ∧ mu.length = ds.length ∧
  ∀ d ρ' σ' v G' H',q d (mus mu ρ') → Same G G' → ρ'.length = mu.length → Ret fr C mu G' ρ' σ' H' d v → Q v H'
structure EndsD where
  nx : DSt → Prop
  rt : D → DSt → Prop
  bk : DSt → Prop := fun _ => False
  ct : DSt → Prop := fun _ => False
abbrev MS := EndsD → DSt → Prop
structure Ks (C : Ctx) (ow : List Bool) (fr : Bool) (G : Hp) (n : EndsD) (D : Ends) : Prop where
  nx : ∀ ρ σ G' H,n.nx ρ → Same G G' → R C ow G' ρ σ H [] → D.nx σ H
  bk : ∀ ρ σ G' H,n.bk ρ → Same G G' → R C ow G' ρ σ H [] → D.bk σ H
  ct : ∀ ρ σ G' H,n.ct ρ → Same G G' → R C ow G' ρ σ H [] → D.ct σ H
  rt : ∀ d ρ σ v G' H,n.rt d ρ → Same G G' → Ret fr C ow G' ρ σ H d v → D.rt v H
theorem Ks.mono {C : Ctx} {ow : List Bool} {fr : Bool} {G G1 : Hp} {n : EndsD} {D : Ends} (h : Ks C ow fr G n D) (s : Same G G1) : Ks C ow fr G1 n D :=
  ⟨fun ρ σ G' H a b c => h.nx ρ σ G' H a (s.trans b) c,fun ρ σ G' H a b c => h.bk ρ σ G' H a (s.trans b) c,fun ρ σ G' H a b c => h.ct ρ σ G' H a (s.trans b) c,fun d ρ σ v G' H a b c => h.rt d ρ σ v G' H a (s.trans b) c⟩
def MuOk (C : Ctx) (mu : List Bool) : Prop := ∀ (i : Nat) v,C.mu[i]? = some (some v) → mu[i]? = some true
theorem MuOk.no {C : Ctx} {mu : List Bool} (h : MuOk C mu) {i : Nat} (hi : mu[i]? ≠ some true) : ∀ v,C.mu[i]? ≠ some (some v) := fun v e => hi (h i v e)
structure Md where
  mu : List Bool
  ow : List Bool
  fr : Bool
def SS (M : Md) (t : TS) (m : MS) : Prop := ∀ (C : Ctx) (G : Hp) (ρ : DSt) (σ : St) (H : Hp) (n : EndsD) (D : Ends),MuOk C M.mu → C.np = 0 → R C M.ow G ρ σ H [] → m n ρ → Ks C M.ow M.fr G n D → t D σ H
structure QS (X : Cx) (M : Md) (st : Stmt) (m : MS) : Prop where
  ex : ∃ t,PS X st t ∧ SS M t m
structure QSs (X : Cx) (M : Md) (st : List Stmt) (m : MS) : Prop where
  ex : ∃ t,PSs X st t ∧ SS M t m
section
variable {X : Cx} {M : Md} {a b c e : Expr} {ma mb mc : ME} {mt : MT} {pos pos' : Pos} {st : Stmt} {rest : List Stmt} {m m1 m2 : MS}
def mSeq (m1 m2 : MS) : MS := fun n ρ => m1 { n with nx := fun ρ' => m2 n ρ' } ρ
def mNext : MS := fun n ρ => n.nx ρ
theorem qss_nil : QSs X M [] mNext := ⟨_,pss_nil,fun C G ρ σ H n D hm hn r h k => k.nx ρ σ G H h (Same.refl _) r⟩
theorem qss_one (h : QS X M st m) : QSs X M [st] m := by obtain ⟨t,p,s⟩ := h; exact ⟨_,pss_one p,s⟩
theorem qss_cons (h : QS X M st m1) (h2 : QSs X M rest m2) : QSs X M (st :: rest) (mSeq m1 m2) := by
  obtain ⟨t,p,s⟩ := h; obtain ⟨t2,p2,s2⟩ := h2
  refine ⟨_,pss_cons p p2,fun C G ρ σ H n D hm hn r h k => s C G ρ σ H _ _ hm hn r h ?_⟩
  exact ⟨fun ρ' σ' G' H' h' z r' => s2 C G' ρ' σ' H' n D hm hn r' h' (k.mono z),k.bk,k.ct,k.rt⟩
def mNever : MS := fun _ _ => False
theorem qs_never : QS X M st mNever := ⟨_,ps_never,fun C G ρ σ H n D hm hn r h k => h.elim⟩
def mIfS (mt : MT) (m1 m2 : MS) : MS := fun n ρ => mt ρ fun b ρ1 => if b = true then m1 n ρ1 else m2 n ρ1
theorem qs_if {s1 s2 : List Stmt} (h : QT X M.ow c mt) (h1 : QSs X M s1 m1) (h2 : QSs X M s2 m2) : QS X M (.If c s1 s2 pos) (mIfS mt m1 m2) := by
  obtain ⟨t,p,s⟩ := h; obtain ⟨t1,p1,s1⟩ := h1; obtain ⟨t2,p2,s2⟩ := h2
  refine ⟨_,ps_if p p1 p2,fun C G ρ σ H n D hm hn r h k => s C G ρ σ H [] _ _ r h fun b ρ' G' H' hq z kp r' => ?_⟩
  cases b with
  | true => rw [if_pos rfl] at hq ⊢; exact s1 C G' ρ' σ H' n D hm hn r' hq (k.mono z)
  | false => rw [if_neg (by decide)] at hq ⊢; exact s2 C G' ρ' σ H' n D hm hn r' hq (k.mono z)
def mRet (m : ME) : MS := fun n ρ => m ρ n.rt
theorem qs_ret (h : QE X M.ow e ma) (hf : M.fr = false := by rfl) : QS X M (.Return (some e) pos) (mRet ma) := by
  obtain ⟨t,p,s⟩ := h
  refine ⟨_,ps_ret p,fun C G ρ σ H n D hm hn r h k => s C G ρ σ H [] _ _ r h fun d ρ' v G' H' hq z kp r' p => k.rt d ρ' σ v G' H' hq z (by unfold Ret; rw [if_neg (by rw [hf]; decide)]; exact ⟨r',p⟩)⟩
theorem R.non {C : Ctx} {ow : List Bool} {fr : Bool} {G : Hp} {ρ : DSt} {σ : St} {H : Hp} (r : R C ow G ρ σ H []) : Ret fr C ow G ρ σ H .non .non := by
  unfold Ret
  split
  · obtain ⟨O,r⟩ := r
    exact ⟨O,r.len,r.gh,r.g0,r.gn,r.og,r.cok,r.fr,r.al,r.mp,r.sl,⟨by rw [Sep],trivial⟩,Nat.le_succ_of_le r.np⟩
  · exact ⟨r,rep_non⟩
def mSet (i : Nat) (m : ME) : MS := fun n ρ => m ρ fun d ρ1 => n.nx (ρ1.set i (some d))
theorem ss_set {t : TE} {i : Nat} (s : SE M.ow t ma) (ho : M.ow[i]? ≠ some true) (hu : M.mu[i]? ≠ some true) : SS M (tAsg t (gName i)) (mSet i ma) := fun C G ρ σ H n D hm hn r h k =>
  s C G ρ σ H [] _ _ r h fun d ρ' v G' H' hq z kp r' p => by
    obtain ⟨O,r'⟩ := r'
    exact k.nx _ _ G' H' hq z ⟨O,r'.setS ho (hm.no hu) p⟩
theorem ss_setO {t : TE} {i : Nat} (s : SF M.ow t ma) (ho : M.ow[i]? = some true) (hu : M.mu[i]? ≠ some true) : SS M (tAsg t (gName i)) (mSet i ma) := fun C G ρ σ H n D hm hn r h k =>
  s C G ρ σ H [] _ _ r h fun d ρ' v G' H' hq z kp r' => by
    obtain ⟨O,r'⟩ := r'
    exact k.nx _ _ G' H' hq z (r'.setO ho (hm.no hu) (by rw [hn]; exact Nat.zero_le _))
theorem qs_set {i : Nat} {x : Str} (hN : X.N.Nodup) (hi : X.N[i]? = some x) (hx : Loc X.env.scope x) (he : QE X M.ow e ma) (ho : M.ow[i]? ≠ some true := by decide) (hu : M.mu[i]? ≠ some true := by decide) (hs : swapsWith e (some (.Name x pos')) pos.line X.env = pure false := by rfl) (hf : X.fn x = true ∨ X.env.scope.names.lookup x = some .local := by first | exact .inl rfl | exact .inr rfl | assumption) :
    QS X M (.Assign [.Name x pos'] e pos) (mSet i ma) := by
  obtain ⟨t,p,s⟩ := he
  exact ⟨_,ps_set hN hi hx p hs hf,ss_set s ho hu⟩
theorem qs_setO {i : Nat} {x : Str} (hN : X.N.Nodup) (hi : X.N[i]? = some x) (hx : Loc X.env.scope x) (he : QF X M.ow e ma) (ho : M.ow[i]? = some true := by decide) (hu : M.mu[i]? ≠ some true := by decide) (hs : swapsWith e (some (.Name x pos')) pos.line X.env = pure false := by rfl) (hf : X.fn x = true ∨ X.env.scope.names.lookup x = some .local := by first | exact .inl rfl | exact .inr rfl | assumption) :
    QS X M (.Assign [.Name x pos'] e pos) (mSet i ma) := by
  obtain ⟨t,p,s⟩ := he
  exact ⟨_,ps_set hN hi hx p hs hf,ss_setO s ho hu⟩
def mPar (i j : Nat) (ma mb : ME) : MS := fun n ρ => ma ρ fun x ρ1 => mb ρ1 fun y ρ2 => n.nx ((ρ2.set i (some x)).set j (some y))
theorem qs_par {i j : Nat} {x y : Str} {px py pt : Pos} {kt k2 pt2} (hc : X.calm = true) (hN : X.N.Nodup) (hi : X.N[i]? = some x) (hj : X.N[j]? = some y) (hij : i ≠ j)
    (hx : X.env.scope.names.lookup x = some .local) (hy : X.env.scope.names.lookup y = some .local) (ha : QE X M.ow a ma) (hb : QE X M.ow b mb)
    (hw : swappedStores [.Tuple [.Name x px,.Name y py] kt pt] (.Tuple [a,b] k2 pt2) X.env = pure (some [x,y]))
    (oi : M.ow[i]? ≠ some true := by decide) (oj : M.ow[j]? ≠ some true := by decide) (ui : M.mu[i]? ≠ some true := by decide) (uj : M.mu[j]? ≠ some true := by decide)
    (hs1 : starEach [a,b] X.env = (false,eval a X.env) :: starEach [b] X.env := by rfl) (hs2 : starEach [b] X.env = [(false,eval b X.env)] := by rfl)
    (hs : swapsWithSole [.Tuple [.Name x px,.Name y py] kt pt] (.Tuple [a,b] k2 pt2) pos.line X.env = pure false := by rfl) :
    QS X M (.Assign [.Tuple [.Name x px,.Name y py] kt pt] (.Tuple [a,b] k2 pt2) pos) (mPar i j ma mb) := by
  obtain ⟨ta,pa,sa⟩ := ha; obtain ⟨tb,pb,sb⟩ := hb
  refine ⟨_,ps_par hc hN hi hj hij hx hy (pa_cons pa (pa_cons pb pa_nil hs2) hs1) hw hs,fun C G ρ σ H n D hm hn r h k => ?_⟩
  refine se_two (Q := fun u w H2 => ∃ v w',[u,w] = [v,w'] ∧ D.nx ((σ.set i (some v)).set j (some w')) H2) sa sb r h fun dx dy ρ' u w G' H' hq z kp r' p1 p2 => ⟨u,w,rfl,?_⟩
  obtain ⟨O,r'⟩ := r'
  exact k.nx _ _ G' H' hq z ⟨O,(r'.setS oi (hm.no ui) p1).setS oj (hm.no uj) p2⟩
abbrev MG := D → DSt → (DSt → Prop) → Prop
abbrev MGs := List D → DSt → (DSt → Prop) → Prop
def SG (M : Md) (g : TG) (m : MG) : Prop := ∀ (C : Ctx) (G : Hp) (ρ : DSt) (σ : St) (H : Hp) (pd : List (D × V)) (d : D) (v : V) (k : DSt → Prop) (K : St → Hp → Prop),MuOk C M.mu → R C M.ow G ρ σ H pd → Rep G d v → m d ρ k →
  (∀ ρ' σ',k ρ' → R C M.ow G ρ' σ' H pd → K σ' H) → g v σ H K
def SGs (M : Md) (g : TGs) (m : MGs) : Prop := ∀ (C : Ctx) (G : Hp) (ρ : DSt) (σ : St) (H : Hp) (pd : List (D × V)) (d : List D) (v : List V) (k : DSt → Prop) (K : St → Hp → Prop),MuOk C M.mu → R C M.ow G ρ σ H pd → Reps G d v → m d ρ k →
  (∀ ρ' σ',k ρ' → R C M.ow G ρ' σ' H pd → K σ' H) → g v σ H K
structure QG (X : Cx) (M : Md) (e : Expr) (m : MG) : Prop where
  ex : ∃ t,PG X e t ∧ SG M t m
structure QGs (X : Cx) (M : Md) (e : List Expr) (m : MGs) : Prop where
  ex : ∃ t,PGs X e t ∧ SGs M t m
def gmName (i : Nat) : MG := fun d ρ k => k (ρ.set i (some d))
theorem qg_name {i : Nat} {x : Str} (hN : X.N.Nodup) (hi : X.N[i]? = some x) (hx : Loc X.env.scope x) (ho : M.ow[i]? ≠ some true := by decide) (hu : M.mu[i]? ≠ some true := by decide) (hf : X.fn x = true ∨ X.env.scope.names.lookup x = some .local := by first | exact .inl rfl | exact .inr rfl | assumption) : QG X M (.Name x pos) (gmName i) :=
  ⟨_,pg_name hN hi hx hf,fun C G ρ σ H pd d v k K hm r p h kk => by obtain ⟨O,r⟩ := r; exact kk _ _ h ⟨O,r.setS ho (hm.no hu) p⟩⟩
def gmNil : MGs := fun ds ρ k => match ds with
  | [] => k ρ
  | _ => False
def gmCons (t : MG) (u : MGs) : MGs := fun ds ρ k => match ds with
  | d :: ds => t d ρ fun ρ1 => u ds ρ1 k
  | [] => False
def gmTup (t : MGs) : MG := fun d ρ k => match d with
  | .tup ds => t ds ρ k
  | _ => False
variable {mg : MG} {mgs : MGs} {es : List Expr}
theorem qgs_nil : QGs X M [] gmNil := ⟨_,pgs_nil,fun C G ρ σ H pd d v k K hm r p h kk => by
  cases d with
  | nil => rw [Reps] at p; exact ⟨p,kk _ _ h r⟩
  | cons _ _ => exact h.elim⟩
theorem qgs_cons (h1 : QG X M e mg) (h2 : QGs X M es mgs) (hs : (assignEach (e :: es) X.env).map (·.2) = assign e X.env :: (assignEach es X.env).map (·.2) := by rfl) : QGs X M (e :: es) (gmCons mg mgs) := by
  obtain ⟨t,p,s⟩ := h1; obtain ⟨t2,p2,s2⟩ := h2
  refine ⟨_,pgs_cons p p2 hs,fun C G ρ σ H pd d v k K hm r p h kk => ?_⟩
  cases d with
  | nil => exact h.elim
  | cons d ds =>
    rw [Reps] at p
    obtain ⟨v,vs,rfl,p1,p3⟩ := p
    exact ⟨v,vs,rfl,s C G ρ σ H pd d v _ _ hm r p1 h fun ρ' σ' h' r' => s2 C G ρ' σ' H pd ds vs k K hm r' p3 h' kk⟩
def takes (n : Nat) (m : MGs) : Prop := ∀ ds ρ k,m ds ρ k → ds.length = n
theorem takes_nil : takes 0 gmNil := fun ds ρ k h => by cases ds with | nil => rfl | cons _ _ => exact h.elim
theorem takes_cons1 {n : Nat} {i : Nat} (h : takes n mgs) : takes (n + 1) (gmCons (gmName i) mgs) := fun ds ρ k q => by
  cases ds with
  | nil => exact q.elim
  | cons d ds => simp [h ds _ _ q]
theorem qg_tup {kk : Nat} {n : Nat} (hc : X.calm = true) (h : QGs X M es mgs) (ht : takes n mgs)
    (hn : (assignEach es X.env).length = n := by rfl) (hst : (assignEach es X.env).findIdx? (·.1) = none := by rfl) : QG X M (.Tuple es kk pos) (gmTup mgs) := by
  obtain ⟨t,p,s⟩ := h
  refine ⟨_,pg_tup hc p hn hst,fun C G ρ σ H pd d v k K hm r p h kk => ?_⟩
  cases d with
  | tup ds =>
    obtain ⟨a,xs,rfl,h1,h2⟩ := rep_tup_of p
    exact ⟨a,xs,rfl,SqT.of (r.gh _ _ h1),by rw [h2.length]; exact ht _ _ _ h,s C G ρ σ H pd ds xs k K hm r h2 h kk⟩
  | _ => exact h.elim
def mAsg (m : ME) (g : MG) : MS := fun n ρ => m ρ fun d ρ1 => g d ρ1 n.nx
theorem qs_asg {tg : Expr} (he : QE X M.ow e ma) (hg : QG X M tg mg) (hs : swapsWithSole [tg] e pos.line X.env = pure false := by rfl) (hw : swappedStores [tg] e X.env = pure none := by rfl)
    (h1 : (assignEach [tg] X.env).map (·.2) = [assign tg X.env] := by rfl) : QS X M (.Assign [tg] e pos) (mAsg ma mg) := by
  obtain ⟨t,p,s⟩ := he; obtain ⟨t2,p2,s2⟩ := hg
  refine ⟨_,ps_asg p p2 hs hw h1,fun C G ρ σ H n D hm hn r h k => s C G ρ σ H [] _ _ r h fun d ρ' v G' H' hq z kp r' p => ?_⟩
  exact s2 C G' ρ' σ H' [] d v _ _ hm r' p hq fun ρ2 σ2 h2 r2 => k.nx ρ2 σ2 G' H' h2 z r2
def mDrop (m : ME) : MS := fun n ρ => m ρ fun _ ρ1 => n.nx ρ1
theorem qs_expr (he : QE X M.ow e ma) (hs : swapsWith e none pos.line X.env = pure false := by rfl) : QS X M (.Expr e pos) (mDrop ma) := by
  obtain ⟨t,p,s⟩ := he
  exact ⟨_,ps_expr p hs,fun C G ρ σ H n D hm hn r h k => s C G ρ σ H [] _ _ r h fun d ρ' v G' H' hq z kp r' p => k.nx ρ' σ G' H' hq z r'⟩
def mAppend (i : Nat) (m : ME) : MS := fun n ρ => match ρ[i]? with
  | some (some (.lst _)) => m ρ fun d ρ1 => match ρ1[i]? with
    | some (some (.lst ds)) => ds.length < 1000 ∧ n.nx (ρ1.set i (some (.lst (ds ++ [d]))))
    | _ => False
  | _ => False
theorem qs_append {i : Nat} {x : Str} {apos cpos npos : Pos} (hN : X.N[i]? = some x) (he : QF X M.ow e ma) (ho : M.ow[i]? = some true := by decide)
    (hv : Vis X.env.scope x := by first | exact Or.inl rfl | exact Or.inr (Or.inl rfl) | exact Or.inr (Or.inr rfl)) (hd : (x == ("__debug__" : Str)) = false := by decide) (hcd : (x == ("__classdict__" : Str)) = false := by decide)
    (hbase : attributeBase (.Name x npos) "append" X.env (eval (.Name x npos) X.env) = eval (.Name x npos) X.env := by rfl)
    (hfew : ((backTo cpos (starEach [e] X.env)).all (fun x => !x.1) && (backToKw cpos (keywordEach [] X.env)).all (fun x => x.1.isSome)
      && decide ([e].length + ([] : List Keyword).length + (if ([] : List Keyword).isEmpty then 0 else 1) < 30)) = true := by rfl)
    (hline : (apos.endLine == cpos.line) = true := by rfl) (hst : starEach [e] X.env = [(false,eval e X.env)] := by rfl)
    (hs : swapsWith (.Call (.Attribute (.Name x npos) "append" apos) [e] [] cpos) none pos.line X.env = pure false := by rfl) :
    QS X M (.Expr (.Call (.Attribute (.Name x npos) "append" apos) [e] [] cpos) pos) (mAppend i ma) := by
  obtain ⟨t,p,s⟩ := he
  refine ⟨_,ps_expr (pe_bm PySem.F.plainAttrs_list PySem.F.slot_list_append PySem.F.type_list_append mt_append (pe_var hN hv hd hcd) (pa_cons p pa_nil hst) hbase hfew hline hst (by rfl)) hs,fun C G ρ σ H n D hm hn r h k => ?_⟩
  unfold mAppend at h
  split at h
  · rename_i ds e1
    obtain ⟨O,ro⟩ := r
    obtain ⟨a,xs,h1,h2,_,_⟩ := ro.write e1 ho
    refine ⟨.ref a,h1,.inl ⟨rfl,xs,SqL.of h2⟩,?_⟩
    refine s C G ρ σ H [] _ _ ⟨O,ro⟩ h fun d ρ' v G' H' hq z kp r' => ?_
    split at hq
    · rename_i ds' e2
      obtain ⟨O',r'⟩ := r'
      obtain ⟨O2,r2,s2,s3⟩ := r'.join i ds'.length (by rw [hn]; exact Nat.zero_le _)
      obtain ⟨a',xs',g1,g2,g3,g4⟩ := r2.write e2 ho
      rw [h1] at g1; cases g1
      have hl := g3.length
      refine ⟨a,xs',v,rfl,rfl,g2,by rw [hl]; exact small1000 (Nat.le_of_lt hq.1),?_⟩
      exact k.nx _ _ G' _ hq.2 z ⟨O2,g4 _ _ (g3.snoc (by simpa using s2))⟩
    · exact hq.elim
  · exact h.elim
def mSetI (i : Nat) (mk m : ME) : MS := fun n ρ => m ρ fun d ρ1 => match ρ1[i]? with
  | some (some (.lst _)) => mk ρ1 fun k ρ2 => match ρ2[i]? with
    | some (some (.lst ds)) => match k with
      | .int j => match ixN ds.length j with
        | some p => n.nx (ρ2.set i (some (.lst (ds.set p d))))
        | none => False
      | _ => False
    | _ => False
  | _ => False
theorem qs_setI {i : Nat} {x : Str} {npos spos : Pos} (hN : X.N[i]? = some x) (he : QF X M.ow e ma) (hk : QE X M.ow b mb) (ho : M.ow[i]? = some true := by decide)
    (hv : Vis X.env.scope x := by first | exact Or.inl rfl | exact Or.inr (Or.inl rfl) | exact Or.inr (Or.inr rfl)) (hd : (x == ("__debug__" : Str)) = false := by decide) (hcd : (x == ("__classdict__" : Str)) = false := by decide)
    (ha : ∀ v,assign (.Subscript (.Name x npos) b spos) X.env v = (do
      let ov ← holding [v] (eval (.Name x npos) X.env)
      let iv ← holding [v,ov] (eval b X.env)
      standAt spos
      holding [v,ov,iv] (setItem ov iv v)
      release [v,ov,iv] []) := by intro _; rfl)
    (hs : swapsWithSole [.Subscript (.Name x npos) b spos] e pos.line X.env = pure false := by rfl) (hw : swappedStores [.Subscript (.Name x npos) b spos] e X.env = pure none := by rfl)
    (h1 : (assignEach [.Subscript (.Name x npos) b spos] X.env).map (·.2) = [assign (.Subscript (.Name x npos) b spos) X.env] := by rfl) :
    QS X M (.Assign [.Subscript (.Name x npos) b spos] e pos) (mSetI i mb ma) := by
  obtain ⟨t,p,s⟩ := he; obtain ⟨t2,p2,s2⟩ := hk
  refine ⟨_,ps_asg p (pg_sub (pe_var hN hv hd hcd) p2 set_list ha) hs hw h1,fun C G ρ σ H n D hm hn r h k => s C G ρ σ H [] _ _ r h fun d ρ' v G' H' hq z kp r' => ?_⟩
  split at hq
  · rename_i ds0 e0
    obtain ⟨O0,ro⟩ := r'
    obtain ⟨a,xs,hu,_,_,_⟩ := ro.write e0 ho
    refine ⟨.ref a,hu,?_⟩
    refine s2 C G' ρ' σ H' _ _ _ ⟨O0,ro⟩ hq fun dk ρ2 jv G2 H2 hq2 z2 kp2 r2 pj => ?_
    split at hq2
    · rename_i ds e2
      cases dk with
      | int j =>
        dsimp only at hq2
        split at hq2
        · rename_i pl e3
          obtain ⟨O',r2⟩ := r2
          obtain ⟨O2,r3,w2,w3⟩ := r2.join i pl (by rw [hn]; exact Nat.zero_le _)
          obtain ⟨a',xs',g1,g2,g3,g4⟩ := r3.write e2 ho
          rw [hu] at g1; cases g1
          refine ⟨a,xs',j,pl,rfl,rep_int_of pj,g2,by rw [g3.length]; exact e3,?_⟩
          exact k.nx _ _ G2 _ hq2 (z.trans z2) ⟨O2,g4 _ _ (g3.set (by simpa using w2))⟩
        · exact hq2.elim
      | _ => exact hq2.elim
    · exact hq2.elim
  · exact hq.elim
def mWhile (mt : MT) (mb : MS) : MS := fun n ρ => ∃ W : Nat → DSt → Prop,(∃ k,W k ρ) ∧ ∀ k ρ,W k ρ → mt ρ fun b ρ1 =>
  if b = true then mb { n with nx := fun ρ' => ∃ k',k' < k ∧ W k' ρ',ct := fun ρ' => ∃ k',k' < k ∧ W k' ρ',bk := n.nx } ρ1 else n.nx ρ1
theorem qs_while {body : List Stmt} (hp : PassesOwn (model X.prog X.w) X.A X.env X.xe) (hc : QT X M.ow c mt) (hb : QSs X M body m) : QS X M (.While c body [] pos) (mWhile mt m) := by
  obtain ⟨t,p,s⟩ := hc; obtain ⟨t2,p2,s2⟩ := hb
  refine ⟨_,ps_while hp p p2,fun C G ρ σ H n D hm hn r h k => ?_⟩
  obtain ⟨W,⟨k0,w0⟩,turn⟩ := h
  refine ⟨fun j σ' H' => ∃ G' ρ',Same G G' ∧ R C M.ow G' ρ' σ' H' [] ∧ W j ρ',⟨k0,G,ρ,Same.refl _,r,w0⟩,?_⟩
  rintro j σ' H' ⟨G',ρ',z,r',w⟩
  refine s C G' ρ' σ' H' [] _ _ r' (turn j ρ' w) fun b ρ1 G1 H1 hq z1 kp r1 => ?_
  cases b with
  | true =>
    rw [if_pos rfl] at hq ⊢
    refine ⟨fun σ2 H2 => ∃ j',j' < j ∧ ∃ G2 ρ2,Same G G2 ∧ R C M.ow G2 ρ2 σ2 H2 [] ∧ W j' ρ2,fun σ2 H2 h => h,?_⟩
    refine s2 C G1 ρ1 σ' H1 _ _ hm hn r1 hq ⟨?_,?_,?_,?_⟩
    · rintro ρ2 σ2 G2 H2 ⟨j',hj,w'⟩ z2 r2; exact ⟨j',hj,G2,ρ2,z.trans (z1.trans z2),r2,w'⟩
    · intro ρ2 σ2 G2 H2 h z2 r2; exact k.nx ρ2 σ2 G2 H2 h (z.trans (z1.trans z2)) r2
    · rintro ρ2 σ2 G2 H2 ⟨j',hj,w'⟩ z2 r2; exact ⟨j',hj,G2,ρ2,z.trans (z1.trans z2),r2,w'⟩
    · intro d ρ2 σ2 v G2 H2 h z2 r2; exact k.rt d ρ2 σ2 v G2 H2 h (z.trans (z1.trans z2)) r2
  | false => rw [if_neg (by decide)] at hq ⊢; exact k.nx ρ1 σ' G1 H1 hq (z.trans z1) r1
def ItOk (J : It) (G : Hp) (ds : List D) : Prop := ∀ (C : Ctx) (ow : List Bool) (G' : Hp) (ρ : DSt) (σ : St) (H : Hp) (pd : List (D × V)) (i : Nat),Same G G' → R C ow G' ρ σ H pd →
  (ds.length ≤ i → J.stop i H) ∧ ∀ d,ds[i]? = some d → J.go i H ∧ ∀ x H',J.yld i H x H' → ∃ G2,Same G' G2 ∧ R C ow G2 ρ σ H' pd ∧ Rep G2 d x
def SI (ow : List Bool) (wi : TI) (mi : MA) : Prop := ∀ (C : Ctx) (G : Hp) (ρ : DSt) (σ : St) (H : Hp) (pd : List (D × V)) (q : List D → DSt → Prop) (Q : It → Hp → Prop),R C ow G ρ σ H pd → mi ρ q →
  (∀ ds ρ' G' H' J,q ds ρ' → Same G G' → Kp ow ρ ρ' → R C ow G' ρ' σ H' pd → ItOk J G' ds → Q J H') → wi σ H Q
structure QI (X : Cx) (ow : List Bool) (tg iter : Expr) (mi : MA) : Prop where
  ex : ∃ t,PI X tg iter t ∧ SI ow t mi
def forD (g : MG) (mb : MS) (n : EndsD) (ds : List D) (ρ : DSt) : Prop := ∃ I : Nat → DSt → Prop,I 0 ρ ∧
  (∀ i d ρ,ds[i]? = some d → I i ρ → g d ρ fun ρ1 => mb { n with nx := I (i + 1),ct := I (i + 1),bk := n.nx } ρ1) ∧ ∀ ρ,I ds.length ρ → n.nx ρ
def mFor (mi : MA) (g : MG) (mb : MS) : MS := fun n ρ => mi ρ fun ds ρ1 => forD g mb n ds ρ1
theorem qs_for {mi : MA} {tg iter : Expr} {body : List Stmt} (hp : PassesOwn (model X.prog X.w) X.A X.env X.xe) (hc : X.calm = true) (hi : QI X M.ow tg iter mi) (hg : QG X M tg mg) (hb : QSs X M body m)
    (hs : ∀ x,foldedSetIterable iter X.env x = pure x := by intro _; rfl) : QS X M (.For tg iter body [] pos) (mFor mi mg m) := by
  obtain ⟨ti,pi,si⟩ := hi; obtain ⟨tg',pg,sg⟩ := hg; obtain ⟨tb,pb,sb⟩ := hb
  refine ⟨_,ps_for hp hc pi pg pb hs,fun C G ρ σ H n D hm hn r h k => si C G ρ σ H [] _ _ r h fun ds ρ0 G0 H0 J hq z0 kp r0 jo => ?_⟩
  obtain ⟨I,i0,turn,fin⟩ := hq
  refine ⟨fun i j σ' H' => j = ds.length - i ∧ i ≤ ds.length ∧ ∃ G' ρ',Same G0 G' ∧ R C M.ow G' ρ' σ' H' [] ∧ I i ρ',⟨_,rfl,Nat.zero_le _,G0,ρ0,Same.refl _,r0,i0⟩,?_⟩
  rintro i j σ' H' ⟨rfl,hi,G',ρ',z,r',w⟩
  obtain ⟨st,go⟩ := jo C M.ow G' ρ' σ' H' [] i z r'
  by_cases hlt : i < ds.length
  · obtain ⟨g1,g2⟩ := go ds[i] (List.getElem?_eq_getElem hlt)
    refine .inr ⟨g1,fun σ2 H2 => ∃ G2 ρ2,Same G0 G2 ∧ R C M.ow G2 ρ2 σ2 H2 [] ∧ I (i + 1) ρ2,fun σ2 H2 h => ⟨ds.length - (i + 1),by omega,rfl,hlt,h⟩,fun x H1 hy => ?_⟩
    obtain ⟨G1,z1,r1,p1⟩ := g2 x H1 hy
    refine sg C G1 ρ' σ' H1 [] ds[i] x _ _ hm r1 p1 (turn i ds[i] ρ' (List.getElem?_eq_getElem hlt) w) fun ρ2 σ2 h2 r2 => ?_
    refine sb C G1 ρ2 σ2 H1 _ _ hm hn r2 h2 ⟨?_,?_,?_,?_⟩
    · intro ρ3 σ3 G3 H3 h3 z3 r3; exact ⟨G3,ρ3,z.trans (z1.trans z3),r3,h3⟩
    · intro ρ3 σ3 G3 H3 h3 z3 r3; exact k.nx ρ3 σ3 G3 H3 h3 (z0.trans (z.trans (z1.trans z3))) r3
    · intro ρ3 σ3 G3 H3 h3 z3 r3; exact ⟨G3,ρ3,z.trans (z1.trans z3),r3,h3⟩
    · intro d ρ3 σ3 v G3 H3 h3 z3 r3; exact k.rt d ρ3 σ3 v G3 H3 h3 (z0.trans (z.trans (z1.trans z3))) r3
  · have e : i = ds.length := by omega
    subst e
    exact .inl ⟨st (Nat.le_refl _),k.nx ρ' σ' G' H' (fin ρ' w) (z0.trans z) r'⟩
end
section
variable {X : Cx} {ow : List Bool} {a b c e tg : Expr} {ma mb mc : ME} {pos : Pos} {mr : MA} {es : List Expr}
theorem itl_ok {K : PySem.W.Frag} {G : Hp} {p : Addr} {xs : List V} {ds : List D} (h1 : G p = some (.lst xs)) (h2 : Reps G ds xs) : ItOk (Itl K p) G ds := fun C ow G' ρ σ H pd i z r => by
  have hp := r.gh _ _ (z _ _ h1)
  refine ⟨fun hl => ⟨xs,SqL.of hp,by rw [h2.length]; exact hl⟩,fun d e => ?_⟩
  obtain ⟨v,e1,e2⟩ := reps_get h2 e
  refine ⟨⟨xs,v,SqL.of hp,e1⟩,fun x H' hy => ?_⟩
  obtain ⟨rfl,hy⟩ := hy
  have := hy xs (SqL.of hp)
  rw [e1] at this; cases this
  exact ⟨G',Same.refl _,r,Rep.mono z _ _ e2⟩
def miLst (m : ME) : MA := fun ρ q => m ρ fun d ρ' => match d with
  | .lst ds => q ds ρ'
  | _ => False
theorem qi_list (h : QE X ow e ma) : QI X ow tg e (miLst ma) := by
  obtain ⟨t,p,s⟩ := h
  refine ⟨_,pi_list p,fun C G ρ σ H pd q Q r hm k => s C G ρ σ H pd _ _ r hm fun d ρ' v G' H' hq z kp r' p => ?_⟩
  cases d with
  | lst ds => obtain ⟨a,xs,rfl,h1,h2⟩ := rep_lst_of p; exact ⟨a,rfl,⟨xs,SqL.of (r'.gh _ _ h1)⟩,k ds ρ' G' H' _ hq z kp r' (itl_ok h1 h2)⟩
  | _ => exact hq.elim
def rngD (lo : Int) (n : Nat) : List D := (List.range n).map fun (i : Nat) => .int (lo + i)
theorem rngD_at {lo : Int} {n i : Nat} {d : D} (h : (rngD lo n)[i]? = some d) : i < n ∧ d = .int (lo + i) := by
  unfold rngD at h
  rw [List.getElem?_map] at h
  by_cases c : i < n
  · rw [List.getElem?_range c] at h; exact ⟨c,(Option.some.inj h).symm⟩
  · rw [List.getElem?_eq_none (by simp; omega)] at h; cases h
theorem rngD_len (lo : Int) (n : Nat) : (rngD lo n).length = n := by unfold rngD; simp
theorem itr_ok {G : Hp} {lo : Int} {n : Nat} : ItOk (Itr lo n) G (rngD lo n) := fun C ow G' ρ σ H pd i z r => by
  refine ⟨fun hl => by rw [rngD_len] at hl; exact hl,fun d e => ?_⟩
  obtain ⟨h1,rfl⟩ := rngD_at e
  refine ⟨h1,fun x H' hy => ?_⟩
  obtain ⟨rfl,rfl⟩ := hy
  exact ⟨G',Same.refl _,r,rep_int _⟩
def miR1 (m : MA) : MA := fun ρ q => m ρ fun ds ρ' => match ds with
  | [.int j] => (-(2 ^ 62) ≤ j ∧ j < 2 ^ 62) ∧ q (rngD 0 j.toNat) ρ'
  | _ => False
def miR2 (m : MA) : MA := fun ρ q => m ρ fun ds ρ' => match ds with
  | [.int i,.int j] => (-(2 ^ 62) ≤ i ∧ i < 2 ^ 62 ∧ -(2 ^ 62) ≤ j ∧ j < 2 ^ 62) ∧ q (rngD i (j - i).toNat) ρ'
  | _ => False
theorem qi_range1 {p : Pos} (hg : Gl X "range") (hm : X.mg "range" = none) (ha : QA X ow [a] mr) (hs : starEach [a] X.env = [(false,eval a X.env)] := by rfl) : QI X ow tg (.Call (.Name "range" p) [a] [] pos) (miR1 mr) := by
  obtain ⟨t,p,s⟩ := ha
  refine ⟨_,pi_range1 hg hm p hs,fun C G ρ σ H pd q Q r hm k => s C G ρ σ H pd _ _ r hm fun ds ρ' vs G' H' hq z kp r' p hn => ?_⟩
  split at hq
  · obtain ⟨v,rfl,p1⟩ := reps_one p
    rw [rep_int_of p1]
    exact ⟨_,rfl,hq.1.1,hq.1.2,k _ ρ' G' H' _ hq.2 z kp r' itr_ok⟩
  · exact hq.elim
theorem qi_range2 {p : Pos} (hg : Gl X "range") (hm : X.mg "range" = none) (ha : QA X ow [a,b] mr) (hs : starEach [a,b] X.env = [(false,eval a X.env),(false,eval b X.env)] := by rfl) (hs2 : starEach [b] X.env = [(false,eval b X.env)] := by rfl) : QI X ow tg (.Call (.Name "range" p) [a,b] [] pos) (miR2 mr) := by
  obtain ⟨t,p,s⟩ := ha
  refine ⟨_,pi_range2 hg hm p hs hs2,fun C G ρ σ H pd q Q r hm k => s C G ρ σ H pd _ _ r hm fun ds ρ' vs G' H' hq z kp r' p hn => ?_⟩
  split at hq
  · obtain ⟨v,u,rfl,p1,p2⟩ := reps_two p
    rw [rep_int_of p1,rep_int_of p2]
    exact ⟨_,_,rfl,hq.1,k _ ρ' G' H' _ hq.2 z kp r' itr_ok⟩
  · exact hq.elim
def enuD (ds : List D) : List D := ds.mapIdx fun i d => .tup [.int i,d]
theorem enuD_len (ds : List D) : (enuD ds).length = ds.length := by unfold enuD; simp
theorem enuD_at {ds : List D} {i : Nat} {d : D} (h : (enuD ds)[i]? = some d) : ∃ d',ds[i]? = some d' ∧ d = .tup [.int i,d'] := by
  unfold enuD at h
  rw [List.getElem?_mapIdx] at h
  cases e : ds[i]? with
  | none => rw [e] at h; cases h
  | some d' => rw [e] at h; exact ⟨d',rfl,(Option.some.inj h).symm⟩
theorem ite_ok {G : Hp} {p : Addr} {xs : List V} {ds : List D} (h1 : G p = some (.lst xs)) (h2 : Reps G ds xs) : ItOk (Ite p) G (enuD ds) := fun C ow G' ρ σ H pd i z r => by
  have hp := r.gh _ _ (z _ _ h1)
  refine ⟨fun hl => ⟨xs,hp,by rw [h2.length]; rw [enuD_len] at hl; exact hl⟩,fun d e => ?_⟩
  obtain ⟨d',e0,rfl⟩ := enuD_at e
  obtain ⟨v,e1,e2⟩ := reps_get h2 e0
  refine ⟨⟨xs,v,hp,e1⟩,fun x H' hy => ?_⟩
  obtain ⟨a,x',ha,rfl,rfl,hy⟩ := hy
  have := hy xs hp
  rw [e1] at this; cases this
  obtain ⟨O,r⟩ := r
  obtain ⟨r2,s2⟩ := r.new ha (.tup [.int i,v])
  exact ⟨_,s2,⟨O,r2⟩,rep_tup upd_same (reps_cons (rep_int _) (reps_cons (Rep.mono (z.trans s2) _ _ e2) reps_nil))⟩
def miEnu (m : MA) : MA := fun ρ q => m ρ fun ds ρ' => match ds with
  | [.lst ds] => q (enuD ds) ρ'
  | _ => False
theorem qi_enum {k : Nat} {tpos p : Pos} (hg : Gl X "enumerate") (hm : X.mg "enumerate" = none) (ha : QA X ow [a] mr) (hs : starEach [a] X.env = [(false,eval a X.env)] := by rfl) : QI X ow (.Tuple es k tpos) (.Call (.Name "enumerate" p) [a] [] pos) (miEnu mr) := by
  obtain ⟨t,p,s⟩ := ha
  refine ⟨_,pi_enum hg hm p hs,fun C G ρ σ H pd q Q r hm k => s C G ρ σ H pd _ _ r hm fun ds ρ' vs G' H' hq z kp r' p hn => ?_⟩
  split at hq
  · obtain ⟨v,rfl,p1⟩ := reps_one p
    obtain ⟨a,xs,rfl,h1,h2⟩ := rep_lst_of p1
    exact ⟨a,rfl,⟨xs,r'.gh _ _ h1⟩,k _ ρ' G' H' _ hq z kp r' (ite_ok h1 h2)⟩
  · exact hq.elim
def mMove (i : Nat) : ME := fun ρ q => match ρ[i]? with
  | some (some d) => q d (ρ.set i none)
  | _ => False
end
inductive AK where
  | s | m (i : Nat) | t
def AK.isM : AK → Bool
  | .s => false
  | _ => true
def ArgsK (G : Hp) (σ : St) : List AK → List D → List V → List (D × V) → Prop
  | [],[],[],[] => True
  | .s :: ks,d :: ds,v :: vs,T => Rep G d v ∧ ArgsK G σ ks ds vs T
  | .m i :: ks,_ :: ds,v :: vs,T => σ[i]? = some (some v) ∧ ArgsK G σ ks ds vs T
  | .t :: ks,d :: ds,v :: vs,x :: T => x = (d,v) ∧ ArgsK G σ ks ds vs T
  | _,_,_,_ => False
def SAk (ow : List Bool) (ks : List AK) (t : TA) (m : MA) : Prop := ∀ (C : Ctx) (G : Hp) (ρ : DSt) (σ : St) (H : Hp) (pd : List (D × V)) (q : List D → DSt → Prop) (Q : List V → Hp → Prop),R C ow G ρ σ H pd → m ρ q →
  (∀ ds ρ' vs T G' H',q ds ρ' → Same G G' → Kp ow ρ ρ' → R C ow G' ρ' σ H' (T.reverse ++ pd) → ArgsK G' σ ks ds vs T → Q vs H') → t σ H Q
structure QAk (X : Cx) (ow : List Bool) (ks : List AK) (es : List Expr) (m : MA) : Prop where
  ex : ∃ t,PA X es t ∧ SAk ow ks t m
section
variable {X : Cx} {ow : List Bool} {a b c e tg : Expr} {ma mb mc : ME} {pos : Pos} {mr : MA} {es : List Expr} {ks : List AK}
theorem qk_nil : QAk X ow [] [] mNil := ⟨_,pa_nil,fun C G ρ σ H pd q Q r h k => k [] ρ [] [] G H h (Same.refl _) Kp.refl r trivial⟩
theorem qk_s (ha : QE X ow e ma) (hr : QAk X ow ks es mr) (hs : starEach (e :: es) X.env = (false,eval e X.env) :: starEach es X.env := by rfl) : QAk X ow (.s :: ks) (e :: es) (mCons ma mr) := by
  obtain ⟨t,p,s⟩ := ha; obtain ⟨t2,p2,s2⟩ := hr
  refine ⟨_,pa_cons p p2 hs,fun C G ρ σ H pd q Q r hm k => s C G ρ σ H pd _ _ r hm fun d ρ' v G' H' hq z kp r' p => ?_⟩
  exact s2 C G' ρ' σ H' pd _ _ r' hq fun ds ρ2 vs T G2 H2 hq2 z2 kp2 r2 p2 => k (d :: ds) ρ2 (v :: vs) T G2 H2 hq2 (z.trans z2) (kp.trans kp2) r2 ⟨Rep.mono z2 _ _ p,p2⟩
theorem qk_t (ha : QF X ow e ma) (hr : QAk X ow ks es mr) (hs : starEach (e :: es) X.env = (false,eval e X.env) :: starEach es X.env := by rfl) : QAk X ow (.t :: ks) (e :: es) (mCons ma mr) := by
  obtain ⟨t,p,s⟩ := ha; obtain ⟨t2,p2,s2⟩ := hr
  refine ⟨_,pa_cons p p2 hs,fun C G ρ σ H pd q Q r hm k => s C G ρ σ H pd _ _ r hm fun d ρ' v G' H' hq z kp r' => ?_⟩
  exact s2 C G' ρ' σ H' _ _ _ r' hq fun ds ρ2 vs T G2 H2 hq2 z2 kp2 r2 p2 => k (d :: ds) ρ2 (v :: vs) ((d,v) :: T) G2 H2 hq2 (z.trans z2) (kp.trans kp2) (by simpa using r2) ⟨rfl,p2⟩
def mConsM (i : Nat) (r : MA) : MA := fun ρ q => match ρ[i]? with
  | some (some _) => r ρ fun ds ρ2 => q (.non :: ds) ρ2
  | _ => False
theorem qk_m (i : Nat) {x : Str} (hr : QAk X ow ks es mr) (hN : X.N[i]? = some x := by rfl) (hv : Vis X.env.scope x := by first | exact Or.inl rfl | exact Or.inr (Or.inl rfl) | exact Or.inr (Or.inr rfl)) (hd : (x == ("__debug__" : Str)) = false := by decide)
    (hcd : (x == ("__classdict__" : Str)) = false := by decide) (hs : starEach (.Name x pos :: es) X.env = (false,eval (.Name x pos) X.env) :: starEach es X.env := by rfl) : QAk X ow (.m i :: ks) (.Name x pos :: es) (mConsM i mr) := by
  obtain ⟨t2,p2,s2⟩ := hr
  refine ⟨_,pa_cons (pe_var hN hv hd hcd) p2 hs,fun C G ρ σ H pd q Q r hm k => ?_⟩
  unfold mConsM at hm
  split at hm
  · rename_i d e
    obtain ⟨O,ro⟩ := r
    obtain ⟨v,h1,_⟩ := ro.sl i d e
    exact ⟨v,h1,s2 C G ρ σ H pd _ _ ⟨O,ro⟩ hm fun ds ρ2 vs T G2 H2 hq2 z2 kp2 r2 p2 => k (.non :: ds) ρ2 (v :: vs) T G2 H2 hq2 z2 kp2 r2 ⟨h1,p2⟩⟩
  · exact hm.elim
def fillA : List AK → List D → DSt → Option (List D)
  | [],[],_ => some []
  | .s :: ks,d :: ds,ρ => (fillA ks ds ρ).map (d :: ·)
  | .t :: ks,d :: ds,ρ => (fillA ks ds ρ).map (d :: ·)
  | .m i :: ks,_ :: ds,ρ => match ρ[i]? with
    | some (some d) => (fillA ks ds ρ).map (d :: ·)
    | _ => none
  | _,_,_ => none
def lbs : List AK → Nat → List (Option Nat)
  | [],_ => []
  | .s :: ks,r => none :: lbs ks r
  | .m i :: ks,r => some (2 * i) :: lbs ks r
  | .t :: ks,r => some (2 * r + 1) :: lbs ks (r + 1)
def slotsOf : List AK → List Nat
  | [] => []
  | .m i :: ks => i :: slotsOf ks
  | _ :: ks => slotsOf ks
def fnd (l : Nat) : List (Option Nat) → Nat → Option Nat
  | [],_ => none
  | x :: xs,k => if x = some l then some k else fnd l xs (k + 1)
theorem fnd_of {l : Nat} : ∀ {xs : List (Option Nat)} {k j : Nat},fnd l xs k = some j → ∃ i,j = k + i ∧ xs[i]? = some (some l)
  | [],_,_,h => by cases h
  | x :: xs,k,j,h => by
    unfold fnd at h
    split at h
    · rename_i c; cases h; exact ⟨0,rfl,by simp [c]⟩
    · obtain ⟨i,rfl,e⟩ := fnd_of h; exact ⟨i + 1,by omega,by simpa using e⟩
theorem fnd_none {l : Nat} : ∀ {xs : List (Option Nat)} {k : Nat},(∀ i : Nat,xs[i]? ≠ some (some l)) → fnd l xs k = none
  | [],_,_ => rfl
  | x :: xs,k,h => by
    unfold fnd
    rw [if_neg (fun c => h 0 (by simp [c]))]
    exact fnd_none fun i => by simpa using h (i + 1)
theorem fnd_at {l : Nat} : ∀ {xs : List (Option Nat)} {k i : Nat},(∀ (i j : Nat) (l : Nat),xs[i]? = some (some l) → xs[j]? = some (some l) → i = j) → xs[i]? = some (some l) → fnd l xs k = some (k + i)
  | [],_,_,_,h => by simp at h
  | x :: xs,k,i,u,h => by
    unfold fnd
    by_cases c : x = some l
    · rw [if_pos c]
      have := u 0 i l (by simp [c]) h
      subst this; rfl
    · rw [if_neg c]
      cases i with
      | zero => simp at h; exact absurd h c
      | succ i =>
        have := fnd_at (k := k + 1) (i := i) (fun i j l a b => by have := u (i + 1) (j + 1) l (by simpa using a) (by simpa using b); omega) (by simpa using h)
        rw [this]; congr 1; omega
theorem lbs_odd : ∀ {ks : List AK} {r : Nat} {i l : Nat},(lbs ks r)[i]? = some (some l) → (∃ j ∈ slotsOf ks,l = 2 * j) ∨ ∃ j,r ≤ j ∧ l = 2 * j + 1
  | [],_,_,_,h => by simp [lbs] at h
  | .s :: ks,r,0,l,h => by simp [lbs] at h
  | .s :: ks,r,i + 1,l,h => by simp only [lbs,List.getElem?_cons_succ] at h; have := lbs_odd (ks := ks) h; simpa [slotsOf] using this
  | .m j :: ks,r,0,l,h => by simp [lbs] at h; exact .inl ⟨j,by simp [slotsOf],h.symm⟩
  | .m j :: ks,r,i + 1,l,h => by
    simp only [lbs,List.getElem?_cons_succ] at h
    rcases lbs_odd h with ⟨z,h1,h2⟩ | h
    · exact .inl ⟨z,by simp [slotsOf,h1],h2⟩
    · exact .inr h
  | .t :: ks,r,0,l,h => by simp [lbs] at h; exact .inr ⟨r,Nat.le_refl _,h.symm⟩
  | .t :: ks,r,i + 1,l,h => by
    simp only [lbs,List.getElem?_cons_succ] at h
    rcases lbs_odd h with ⟨z,h1,h2⟩ | ⟨j,h1,h2⟩
    · exact .inl ⟨z,by simpa [slotsOf] using h1,h2⟩
    · exact .inr ⟨j,by omega,h2⟩
theorem lbs_uniq : ∀ {ks : List AK} {r : Nat},(slotsOf ks).Nodup → ∀ (i j l : Nat),(lbs ks r)[i]? = some (some l) → (lbs ks r)[j]? = some (some l) → i = j
  | [],_,_,i,j,l,h,_ => by simp [lbs] at h
  | .s :: ks,r,nd,0,j,l,h,_ => by simp [lbs] at h
  | .s :: ks,r,nd,i + 1,0,l,_,h => by simp [lbs] at h
  | .s :: ks,r,nd,i + 1,j + 1,l,h,h2 => by simp only [lbs,List.getElem?_cons_succ] at h h2; rw [lbs_uniq (ks := ks) (by simpa [slotsOf] using nd) i j l h h2]
  | .m a :: ks,r,nd,0,0,l,_,_ => rfl
  | .m a :: ks,r,nd,0,j + 1,l,h,h2 => by
    simp only [lbs,List.getElem?_cons_succ] at h2; simp [lbs] at h
    simp only [slotsOf,List.nodup_cons] at nd
    rcases lbs_odd h2 with ⟨z,h3,h4⟩ | ⟨z,h3,h4⟩
    · exact absurd h3 (by rw [show z = a by omega]; exact nd.1)
    · omega
  | .m a :: ks,r,nd,i + 1,0,l,h2,h => by
    simp only [lbs,List.getElem?_cons_succ] at h2; simp [lbs] at h
    simp only [slotsOf,List.nodup_cons] at nd
    rcases lbs_odd h2 with ⟨z,h3,h4⟩ | ⟨z,h3,h4⟩
    · exact absurd h3 (by rw [show z = a by omega]; exact nd.1)
    · omega
  | .m a :: ks,r,nd,i + 1,j + 1,l,h,h2 => by
    simp only [slotsOf,List.nodup_cons] at nd
    simp only [lbs,List.getElem?_cons_succ] at h h2; rw [lbs_uniq (ks := ks) nd.2 i j l h h2]
  | .t :: ks,r,nd,0,0,l,_,_ => rfl
  | .t :: ks,r,nd,0,j + 1,l,h,h2 => by
    simp only [lbs,List.getElem?_cons_succ] at h2; simp [lbs] at h
    rcases lbs_odd h2 with ⟨z,h3,h4⟩ | ⟨z,h3,h4⟩ <;> omega
  | .t :: ks,r,nd,i + 1,0,l,h2,h => by
    simp only [lbs,List.getElem?_cons_succ] at h2; simp [lbs] at h
    rcases lbs_odd h2 with ⟨z,h3,h4⟩ | ⟨z,h3,h4⟩ <;> omega
  | .t :: ks,r,nd,i + 1,j + 1,l,h,h2 => by simp only [lbs,List.getElem?_cons_succ] at h h2; rw [lbs_uniq (ks := ks) (by simpa [slotsOf] using nd) i j l h h2]
end
theorem pend_tail {G H : Hp} {O : Own} : ∀ {T pd : List (D × V)},Pend G H O (T ++ pd) → Pend G H O pd
  | [],_,h => h
  | _ :: T,_,h => pend_tail (T := T) h.2
theorem pend_at {G H : Hp} {O : Own} : ∀ {T pd : List (D × V)} {j : Nat} {x : D × V},Pend G H O (T.reverse ++ pd) → T[j]? = some x → Sep G H O (2 * (pd.length + j) + 1) x.1 [] x.2
  | [],_,_,_,_,e => by simp at e
  | y :: T,pd,j,x,h,e => by
    have h' : Pend G H O (T.reverse ++ (y :: pd)) := by simpa using h
    cases j with
    | zero => simp at e; subst e; exact (pend_tail h').1
    | succ j =>
      have := pend_at (j := j) h' (by simpa using e)
      rw [show pd.length + (j + 1) = (y :: pd).length + j by simp; omega]
      exact this
theorem args_at {G H : Hp} {O : Own} {σ : St} {ρ : DSt} : ∀ {ks : List AK} {ds ds' : List D} {vs : List V} {T : List (D × V)} {r : Nat},ArgsK G σ ks ds vs T → fillA ks ds ρ = some ds' →
    (∀ (j : Nat) x,T[j]? = some x → Sep G H O (2 * (r + j) + 1) x.1 [] x.2) → (∀ i ∈ slotsOf ks,∀ d,ρ[i]? = some (some d) → ∃ v,σ[i]? = some (some v) ∧ Sep G H O (2 * i) d [] v) →
    ds'.length = vs.length ∧ vs.length = ks.length ∧ ∀ (k : Nat) d,ds'[k]? = some d → ∃ v,vs[k]? = some v ∧ ((∃ l,(lbs ks r)[k]? = some (some l) ∧ (ks.map AK.isM)[k]? = some true ∧ Sep G H O l d [] v) ∨ ((ks.map AK.isM)[k]? = some false ∧ Rep G d v))
  | [],[],ds',[],[],r,_,hf,_,_ => by simp [fillA] at hf; subst hf; exact ⟨rfl,rfl,fun k d e => by simp at e⟩
  | .s :: ks,d :: ds,ds',v :: vs,T,r,h,hf,hT,hS => by
    rw [fillA] at hf
    cases e : fillA ks ds ρ with
    | none => rw [e] at hf; cases hf
    | some es =>
      rw [e] at hf; cases hf
      obtain ⟨l1,l2,ih⟩ := args_at (ks := ks) h.2 e hT (fun i hi => hS i (by simpa [slotsOf] using hi))
      refine ⟨by simp [l1],by simp [l2],fun k d' e' => ?_⟩
      cases k with
      | zero => simp at e'; subst e'; exact ⟨v,rfl,.inr ⟨rfl,h.1⟩⟩
      | succ k => obtain ⟨u,g1,g2⟩ := ih k d' (by simpa using e'); exact ⟨u,by simpa using g1,by simpa [lbs] using g2⟩
  | .m i :: ks,d :: ds,ds',v :: vs,T,r,h,hf,hT,hS => by
    rw [fillA] at hf
    cases e0 : ρ[i]? with
    | none => rw [e0] at hf; cases hf
    | some o =>
      cases o with
      | none => rw [e0] at hf; cases hf
      | some d0 =>
        rw [e0] at hf
        dsimp only at hf
        cases e : fillA ks ds ρ with
        | none => rw [e] at hf; cases hf
        | some es =>
          rw [e] at hf; cases hf
          obtain ⟨l1,l2,ih⟩ := args_at (ks := ks) h.2 e hT (fun i hi => hS i (by simp [slotsOf,hi]))
          refine ⟨by simp [l1],by simp [l2],fun k d' e' => ?_⟩
          cases k with
          | zero =>
            simp at e'; subst e'
            obtain ⟨u,g1,g2⟩ := hS i (by simp [slotsOf]) d0 e0
            rw [h.1] at g1; cases g1
            exact ⟨v,rfl,.inl ⟨2 * i,by simp [lbs],rfl,g2⟩⟩
          | succ k => obtain ⟨u,g1,g2⟩ := ih k d' (by simpa using e'); exact ⟨u,by simpa using g1,by simpa [lbs] using g2⟩
  | .t :: ks,d :: ds,ds',v :: vs,x :: T,r,h,hf,hT,hS => by
    rw [fillA] at hf
    cases e : fillA ks ds ρ with
    | none => rw [e] at hf; cases hf
    | some es =>
      rw [e] at hf; cases hf
      obtain ⟨l1,l2,ih⟩ := args_at (ks := ks) (r := r + 1) h.2 e (fun j x e => by rw [show r + 1 + j = r + (j + 1) by omega]; exact hT (j + 1) x (by simpa using e)) (fun i hi => hS i (by simpa [slotsOf] using hi))
      refine ⟨by simp [l1],by simp [l2],fun k d' e' => ?_⟩
      cases k with
      | zero =>
        simp at e'; subst e'
        have := hT 0 x rfl
        rw [h.1] at this
        exact ⟨v,rfl,.inl ⟨2 * r + 1,by simp [lbs],rfl,this⟩⟩
      | succ k => obtain ⟨u,g1,g2⟩ := ih k d' (by simpa using e'); exact ⟨u,by simpa using g1,by simpa [lbs] using g2⟩
  | [],_ :: _,_,_,_,_,h,_,_,_ => h.elim
  | [],[],_,_ :: _,_,_,h,_,_,_ => h.elim
  | [],[],_,[],_ :: _,_,h,_,_,_ => h.elim
  | .s :: _,[],_,_,_,_,h,_,_,_ => h.elim
  | .s :: _,_ :: _,_,[],_,_,h,_,_,_ => h.elim
  | .m _ :: _,[],_,_,_,_,h,_,_,_ => h.elim
  | .m _ :: _,_ :: _,_,[],_,_,h,_,_,_ => h.elim
  | .t :: _,[],_,_,_,_,h,_,_,_ => h.elim
  | .t :: _,_ :: _,_,[],_,_,h,_,_,_ => h.elim
  | .t :: _,_ :: _,_,_ :: _,[],_,h,_,_,_ => h.elim
theorem args_slot {G : Hp} {σ : St} : ∀ {ks : List AK} {ds : List D} {vs : List V} {T : List (D × V)} {k i : Nat},ArgsK G σ ks ds vs T → ks[k]? = some (.m i) → ∃ v,vs[k]? = some v ∧ σ[i]? = some (some v)
  | [],_,_,_,k,i,_,e => by simp at e
  | .s :: ks,d :: ds,v :: vs,T,0,i,h,e => by simp at e
  | .s :: ks,d :: ds,v :: vs,T,k + 1,i,h,e => by obtain ⟨u,g1,g2⟩ := args_slot (k := k) h.2 (by simpa using e); exact ⟨u,by simpa using g1,g2⟩
  | .m j :: ks,d :: ds,v :: vs,T,0,i,h,e => by simp at e; subst e; exact ⟨v,rfl,h.1⟩
  | .m j :: ks,d :: ds,v :: vs,T,k + 1,i,h,e => by obtain ⟨u,g1,g2⟩ := args_slot (k := k) h.2 (by simpa using e); exact ⟨u,by simpa using g1,g2⟩
  | .t :: ks,d :: ds,v :: vs,x :: T,0,i,h,e => by simp at e
  | .t :: ks,d :: ds,v :: vs,x :: T,k + 1,i,h,e => by obtain ⟨u,g1,g2⟩ := args_slot (k := k) h.2 (by simpa using e); exact ⟨u,by simpa using g1,g2⟩
  | .s :: _,[],_,_,_,_,h,_ => h.elim
  | .s :: _,_ :: _,[],_,_,_,h,_ => h.elim
  | .m _ :: _,[],_,_,_,_,h,_ => h.elim
  | .m _ :: _,_ :: _,[],_,_,_,h,_ => h.elim
  | .t :: _,[],_,_,_,_,h,_ => h.elim
  | .t :: _,_ :: _,[],_,_,_,h,_ => h.elim
  | .t :: _,_ :: _,_ :: _,[],_,_,h,_ => h.elim
def putR : List AK → DSt → DSt → DSt
  | .m i :: ks,x :: ρ2,ρ => putR ks ρ2 (ρ.set i x)
  | _ :: ks,_ :: ρ2,ρ => putR ks ρ2 ρ
  | _,_,ρ => ρ
def putK : List AK → DSt → DSt → DSt
  | .s :: ks,os,ρ => putK ks os ρ
  | .m i :: ks,o :: os,ρ => putK ks os (ρ.set i o)
  | .t :: ks,_ :: os,ρ => putK ks os ρ
  | _,_,ρ => ρ
theorem putK_eq : ∀ {ks : List AK} {ρ2 ρ : DSt},ρ2.length = ks.length → putK ks (mus (ks.map AK.isM) ρ2) ρ = putR ks ρ2 ρ
  | [],[],ρ,_ => rfl
  | .s :: ks,x :: ρ2,ρ,h => by simp only [List.map,AK.isM,mus,putK,putR]; exact putK_eq (by simpa using h)
  | .m i :: ks,x :: ρ2,ρ,h => by simp only [List.map,AK.isM,mus,putK,putR]; exact putK_eq (by simpa using h)
  | .t :: ks,x :: ρ2,ρ,h => by simp only [List.map,AK.isM,mus,putK,putR]; exact putK_eq (by simpa using h)
theorem putR_len : ∀ {ks : List AK} {ρ2 ρ : DSt},(putR ks ρ2 ρ).length = ρ.length
  | [],_,_ => by simp [putR]
  | .s :: ks,[],_ => by simp [putR]
  | .m i :: ks,[],_ => by simp [putR]
  | .t :: ks,[],_ => by simp [putR]
  | .s :: ks,x :: ρ2,ρ => by simp only [putR]; exact putR_len
  | .m i :: ks,x :: ρ2,ρ => by simp only [putR]; rw [putR_len]; simp
  | .t :: ks,x :: ρ2,ρ => by simp only [putR]; exact putR_len
theorem putR_off : ∀ {ks : List AK} {ρ2 ρ : DSt} {i : Nat},i ∉ slotsOf ks → (putR ks ρ2 ρ)[i]? = ρ[i]?
  | [],_,_,_,_ => by simp [putR]
  | .s :: ks,[],_,_,_ => by simp [putR]
  | .m i :: ks,[],_,_,_ => by simp [putR]
  | .t :: ks,[],_,_,_ => by simp [putR]
  | .s :: ks,x :: ρ2,ρ,i,h => by simp only [putR]; exact putR_off (by simpa [slotsOf] using h)
  | .t :: ks,x :: ρ2,ρ,i,h => by simp only [putR]; exact putR_off (by simpa [slotsOf] using h)
  | .m j :: ks,x :: ρ2,ρ,i,h => by
    simp only [putR]
    simp only [slotsOf,List.mem_cons,not_or] at h
    rw [putR_off h.2,List.getElem?_set_ne (Ne.symm h.1)]
theorem putR_at : ∀ {ks : List AK} {ρ2 ρ : DSt} {i : Nat} {d : D},(putR ks ρ2 ρ)[i]? = some (some d) → ρ2.length = ks.length → (i ∉ slotsOf ks ∧ ρ[i]? = some (some d)) ∨ ∃ k : Nat,ks[k]? = some (.m i) ∧ ρ2[k]? = some (some d)
  | [],[],ρ,i,d,h,_ => .inl ⟨by simp [slotsOf],by simpa [putR] using h⟩
  | .s :: ks,x :: ρ2,ρ,i,d,h,hl => by
    simp only [putR] at h
    rcases putR_at h (by simpa using hl) with ⟨h1,h2⟩ | ⟨k,h1,h2⟩
    · exact .inl ⟨by simpa [slotsOf] using h1,h2⟩
    · exact .inr ⟨k + 1,by simpa using h1,by simpa using h2⟩
  | .t :: ks,x :: ρ2,ρ,i,d,h,hl => by
    simp only [putR] at h
    rcases putR_at h (by simpa using hl) with ⟨h1,h2⟩ | ⟨k,h1,h2⟩
    · exact .inl ⟨by simpa [slotsOf] using h1,h2⟩
    · exact .inr ⟨k + 1,by simpa using h1,by simpa using h2⟩
  | .m j :: ks,x :: ρ2,ρ,i,d,h,hl => by
    simp only [putR] at h
    rcases putR_at h (by simpa using hl) with ⟨h1,h2⟩ | ⟨k,h1,h2⟩
    · rcases set_at h2 with ⟨rfl,rfl⟩ | ⟨h3,h4⟩
      · exact .inr ⟨0,rfl,rfl⟩
      · exact .inl ⟨by simp [slotsOf,h1,h3],h4⟩
    · exact .inr ⟨k + 1,by simpa using h1,by simpa using h2⟩
theorem lbs_m : ∀ {ks : List AK} {r k i : Nat},ks[k]? = some (.m i) → (lbs ks r)[k]? = some (some (2 * i))
  | [],_,_,_,e => by simp at e
  | .s :: ks,r,0,i,e => by simp at e
  | .s :: ks,r,k + 1,i,e => by simp only [lbs,List.getElem?_cons_succ]; exact lbs_m (by simpa using e)
  | .m j :: ks,r,0,i,e => by simp at e; subst e; simp [lbs]
  | .m j :: ks,r,k + 1,i,e => by simp only [lbs,List.getElem?_cons_succ]; exact lbs_m (by simpa using e)
  | .t :: ks,r,0,i,e => by simp at e
  | .t :: ks,r,k + 1,i,e => by simp only [lbs,List.getElem?_cons_succ]; exact lbs_m (by simpa using e)
theorem lbs_isM : ∀ {ks : List AK} {r k l : Nat},(lbs ks r)[k]? = some (some l) → (ks.map AK.isM)[k]? = some true
  | [],_,_,_,e => by simp [lbs] at e
  | .s :: ks,r,0,i,e => by simp [lbs] at e
  | .s :: ks,r,k + 1,i,e => by simp only [lbs,List.getElem?_cons_succ] at e; simp only [List.map,List.getElem?_cons_succ]; exact lbs_isM e
  | .m j :: ks,r,0,i,e => rfl
  | .m j :: ks,r,k + 1,i,e => by simp only [lbs,List.getElem?_cons_succ] at e; simp only [List.map,List.getElem?_cons_succ]; exact lbs_isM e
  | .t :: ks,r,0,i,e => rfl
  | .t :: ks,r,k + 1,i,e => by simp only [lbs,List.getElem?_cons_succ] at e; simp only [List.map,List.getElem?_cons_succ]; exact lbs_isM e
theorem slot_of {ks : List AK} {k i : Nat} (h : ks[k]? = some (.m i)) : i ∈ slotsOf ks := by
  induction ks generalizing k with
  | nil => simp at h
  | cons x ks ih =>
    cases k with
    | zero => simp at h; subst h; simp [slotsOf]
    | succ k => have := ih (by simpa using h); cases x <;> simp [slotsOf,this]
theorem run_call {C : Ctx} {ow : List Bool} {G : Hp} {ρ : DSt} {σ : St} {H : Hp} {pd T : List (D × V)} {ks : List AK} {ds ds' : List D} {vs : List V} {fr : Bool} {sd : SpD} {q : D → DSt → Prop} {Q : VK} {E : XK}
    (hn : C.np ≤ pd.length) (r : R C ow G ρ σ H (T.reverse ++ pd)) (ha : ArgsK G σ ks ds vs T) (hf : fillA ks ds ρ = some ds') (nd : (slotsOf ks).Nodup) (hw : ∀ i ∈ slotsOf ks,ow[i]? = some true)
    (h : sd ds' fun d os => q d (putK ks os ρ))
    (k : ∀ d ρ' v G' H',q d ρ' → Same G G' → Kp ow ρ ρ' → (if fr = true then R C ow G' ρ' σ H' ((d,v) :: pd) else R C ow G' ρ' σ H' pd ∧ Rep G' d v) → Q v H') : spOf (ks.map AK.isM) fr sd vs H Q E := by
  obtain ⟨O,ro⟩ := r
  have pn := ro.pn
  obtain ⟨l1,l2,hat⟩ := args_at (O := O) (H := H) (r := pd.length) ha hf (fun j x e => pend_at pn e) (fun i hi d e => by
    obtain ⟨v,h1,h2⟩ := ro.sl i d e; rw [if_pos (hw i hi)] at h2; exact ⟨v,h1,h2⟩)
  let lb := lbs ks pd.length
  let fin : Nat → Option Nat := fun l => (fnd l lb 0).map (2 * ·)
  let fbk : Nat → Option Nat := fun l => if l = 1 then some (2 * pd.length + 1) else if l % 2 = 0 then (match lb[l / 2]? with | some o => o | none => none) else none
  have uq := lbs_uniq (ks := ks) (r := pd.length) nd
  have fin_at : ∀ (i l : Nat),lb[i]? = some (some l) → fin l = some (2 * i) := fun i l e => by
    show (fnd l lb 0).map _ = _
    rw [fnd_at uq e]; simp
  have fin_of : ∀ l l',fin l = some l' → ∃ i,l' = 2 * i ∧ lb[i]? = some (some l) := fun l l' e => by
    change (fnd l lb 0).map _ = _ at e
    cases z : fnd l lb 0 with
    | none => rw [z] at e; cases e
    | some j => rw [z] at e; cases e; obtain ⟨i,rfl,e2⟩ := fnd_of z; exact ⟨i,by show 2 * (0 + i) = 2 * i; omega,e2⟩
  have fin_none : ∀ l,(∀ i : Nat,lb[i]? ≠ some (some l)) → fin l = none := fun l e => by
    show (fnd l lb 0).map _ = _
    rw [fnd_none e]; rfl
  have ri := ro.into (mu := ks.map AK.isM) (fin := fin) (ds := ds') (vs := vs) l1 (fun j d e => by
    obtain ⟨v,h1,h2⟩ := hat j d e
    refine ⟨v,h1,?_⟩
    rcases h2 with ⟨l,h2,h3,h4⟩ | ⟨h2,h3⟩
    · rw [if_pos h3]; exact ⟨l,h4,fin_at j l h2⟩
    · rw [if_neg (by rw [h2]; decide)]; exact h3) (fun l l' e => by
    obtain ⟨i,rfl,e2⟩ := fin_of l l' e
    exact ⟨i,rfl,lbs_isM e2,by have := (List.getElem?_eq_some_iff.mp (lbs_isM e2)).1; rw [List.length_map] at this; omega⟩)
  refine ⟨_,G,ds',fun d os => q d (putK ks os ρ),rfl,rfl,⟨_,ri⟩,h,by rw [List.length_map,l1,l2],?_⟩
  intro d ρ2 σ2 v G2 H2 hq z hl hr
  rw [List.length_map] at hl
  rw [putK_eq hl] at hq
  have out : ∀ (pd2 pd3 : List (D × V)) (O2 : Own),RO ⟨G,H,ownM fin O,msV (ks.map AK.isM) vs,0⟩ (ks.map AK.isM) G2 ρ2 σ2 H2 pd2 O2 → C.np ≤ pd3.length →
      (∀ (O3 : Own),(∀ a l π,O a = some (l,π) → fin l = none → O3 a = some (l,π) ∧ H2 a = H a) → (∀ a l l' π,O2 a = some (l',π) → fbk l' = some l → O3 a = some (l,π)) → TSame G G2 → Pend G2 H2 O3 pd3) →
      RO C ow G2 (putR ks ρ2 ρ) σ H2 pd3 (ownB fin fbk O O2) := fun pd2 pd3 O2 r2 hn3 hP => by
    refine ro.out (vs := vs) r2 ?_ (by rw [putR_len]; exact ro.len) hn3 ?_ ?_ hP
    · intro l0 l' l e1 e2
      obtain ⟨i,rfl,e3⟩ := fin_of l0 l' e1
      change (if 2 * i = 1 then _ else if 2 * i % 2 = 0 then _ else _) = _ at e2
      rw [if_neg (by omega),if_pos (by omega),show 2 * i / 2 = i by omega,e3] at e2
      exact (Option.some.inj e2).symm
    · intro i d c e
      rcases putR_at e hl with ⟨_,h2⟩ | ⟨k,h1,_⟩
      · exact h2
      · exact absurd (hw i (slot_of h1)) c
    · intro i d c e
      rcases putR_at e hl with ⟨h1,h2⟩ | ⟨j,h1,h2⟩
      · refine .inl ⟨fin_none _ fun j e => ?_,h2⟩
        rcases lbs_odd e with ⟨z,h3,h4⟩ | ⟨z,h3,h4⟩
        · exact h1 (by rw [show i = z by omega]; exact h3)
        · omega
      · obtain ⟨u,g1,g2⟩ := args_slot ha h1
        have im : (ks.map AK.isM)[j]? = some true := by rw [List.getElem?_map,h1]; rfl
        refine .inr ⟨j,u,?_,im,h2,g2,r2.mp j u (msV_at im g1)⟩
        show (if 2 * j = 1 then _ else if 2 * j % 2 = 0 then _ else _) = _
        rw [if_neg (by omega),if_pos (by omega),show 2 * j / 2 = j by omega,lbs_m h1]
  have pdk : ∀ (O3 : Own),(∀ a l π,O a = some (l,π) → fin l = none → O3 a = some (l,π) ∧ H2 a = H a) → TSame G G2 → Pend G2 H2 O3 pd := fun O3 h1 ts =>
    Pend.keep ts (fun a j π hj e => h1 a _ _ e (fin_none _ fun i e => by
      rcases lbs_odd e with ⟨z,h3,h4⟩ | ⟨z,h3,h4⟩ <;> omega)) (pend_tail (T := T.reverse) pn)
  have kp : Kp ow ρ (putR ks ρ2 ρ) := fun j hj => putR_off fun hs => hj (hw j hs)
  refine k d (putR ks ρ2 ρ) v G2 H2 hq z kp ?_
  unfold Ret at hr
  split at hr
  · rename_i c
    rw [if_pos c]
    obtain ⟨O2,r2⟩ := hr
    refine ⟨_,out _ ((d,v) :: pd) O2 r2 (Nat.le_succ_of_le hn) fun O3 h1 h2 ts => ⟨?_,pdk O3 h1 ts⟩⟩
    exact r2.pn.1.keep (fun _ _ z => z) fun a τ e => ⟨h2 a _ _ _ e (by show (if 2 * 0 + 1 = 1 then _ else _) = _; rw [if_pos rfl]),rfl⟩
  · rename_i c
    rw [if_neg c]
    obtain ⟨⟨O2,r2⟩,p⟩ := hr
    exact ⟨⟨_,out _ pd O2 r2 hn fun O3 h1 h2 ts => pdk O3 h1 ts⟩,p⟩
section
variable {X : Cx} {ow : List Bool} {a b c e tg : Expr} {ma mb mc : ME} {pos p' : Pos} {mr : MA} {es : List Expr} {ks : List AK} {x : Str}
def mCall (ks : List AK) (sd : SpD) (m : MA) : ME := fun ρ q => m ρ fun ds ρ1 => match fillA ks ds ρ1 with
  | some ds' => sd ds' fun d os => q d (putK ks os ρ1)
  | none => False
theorem qe_call {k : Nat} {f : Addr} {fd : FuncData} {ps : List Str} {mu : List Bool} {sd : SpD} (F : FnOk X.prog X.w X.K X.mg X.base CX0 k f fd ps (spOf mu false sd)) (hr : Room k X.A) (hg : Gl X x) (hm : X.mg x = some (.ref f)) (hk : PySem.W.keepIn X.K (.ref f) = true) (hb : Binds X.K fd ps [])
    (ha : QAk X ow ks (e :: es) mr) (hmu : mu = ks.map AK.isM := by rfl) (nd : (slotsOf ks).Nodup := by decide) (hw : ∀ i ∈ slotsOf ks,ow[i]? = some true := by decide) (hdb : (x == ("__debug__" : Str)) = false := by decide)
    (he : starEach (e :: es) X.env = (false,eval e X.env) :: starEach es X.env := by rfl) (hpl : (backTo pos (starEach es X.env)).any (·.1) = false := by rfl) : QE X ow (.Call (.Name x p') (e :: es) [] pos) (mCall ks sd mr) := by
  obtain ⟨t,p,s⟩ := ha
  subst hmu
  refine ⟨_,pe_call F hr hg hm hk hb .nil pass0 p hdb he hpl,fun C G ρ σ H pd q Q r hm k => s C G ρ σ H pd _ _ r hm fun ds ρ' vs T G' H' hq z kp r' p => ?_⟩
  rw [List.append_nil]
  split at hq
  · rename_i ds' ef
    exact run_call (fr := false) r.np r' p ef nd hw hq fun d ρ2 v G2 H2 hq2 z2 kp2 h2 => by
      rw [if_neg (by decide)] at h2
      exact k d ρ2 v G2 H2 hq2 (z.trans z2) (kp.trans kp2) h2.1 h2.2
  · exact hq.elim
theorem qf_call {k : Nat} {f : Addr} {fd : FuncData} {ps : List Str} {mu : List Bool} {sd : SpD} (F : FnOk X.prog X.w X.K X.mg X.base CX0 k f fd ps (spOf mu true sd)) (hr : Room k X.A) (hg : Gl X x) (hm : X.mg x = some (.ref f)) (hk : PySem.W.keepIn X.K (.ref f) = true) (hb : Binds X.K fd ps [])
    (ha : QAk X ow ks (e :: es) mr) (hmu : mu = ks.map AK.isM := by rfl) (nd : (slotsOf ks).Nodup := by decide) (hw : ∀ i ∈ slotsOf ks,ow[i]? = some true := by decide) (hdb : (x == ("__debug__" : Str)) = false := by decide)
    (he : starEach (e :: es) X.env = (false,eval e X.env) :: starEach es X.env := by rfl) (hpl : (backTo pos (starEach es X.env)).any (·.1) = false := by rfl) : QF X ow (.Call (.Name x p') (e :: es) [] pos) (mCall ks sd mr) := by
  obtain ⟨t,p,s⟩ := ha
  subst hmu
  refine ⟨_,pe_call F hr hg hm hk hb .nil pass0 p hdb he hpl,fun C G ρ σ H pd q Q r hm k => s C G ρ σ H pd _ _ r hm fun ds ρ' vs T G' H' hq z kp r' p => ?_⟩
  rw [List.append_nil]
  split at hq
  · rename_i ds' ef
    exact run_call (fr := true) r.np r' p ef nd hw hq fun d ρ2 v G2 H2 hq2 z2 kp2 h2 => by
      rw [if_pos rfl] at h2
      exact k d ρ2 v G2 H2 hq2 (z.trans z2) (kp.trans kp2) h2
  · exact hq.elim
end
theorem RO.grow {C : Ctx} {mu ow : List Bool} {G : Hp} {ds : List D} {vs : List V} {H : Hp} {O : Own} (n : Nat) (h : RO C mu G (ds.map some) (vs.map some) H [] O) (ho : ∀ i : Nat,i < ds.length → ow[i]? = mu[i]?) :
    RO C ow G (ds.map some ++ List.replicate n none) (vs.map some ++ List.replicate n none) H [] O := by
  have hl : ds.length = vs.length := by simpa using h.len
  have up : ∀ {α : Type} {l : List α} {i : Nat} {d : α},(l.map some ++ List.replicate n none)[i]? = some (some d) → i < l.length ∧ (l.map some)[i]? = some (some d) := fun {α l i d} e => by
    by_cases c : i < l.length
    · rw [List.getElem?_append_left (by simpa using c)] at e; exact ⟨c,e⟩
    · rw [List.getElem?_append_right (by simpa using c)] at e
      rw [List.getElem?_replicate] at e
      split at e <;> cases e
  refine ⟨by simp [hl],h.gh,h.g0,h.gn,h.og,h.cok,h.fr,h.al,?_,?_,h.pn,h.np⟩
  · intro i v e
    have := h.mp i v e
    rw [List.getElem?_append_left (lt_of_slot this)]; exact this
  · intro i d e
    obtain ⟨c,e1⟩ := up e
    obtain ⟨v,h1,h2⟩ := h.sl i d e1
    exact ⟨v,by rw [List.getElem?_append_left (lt_of_slot h1)]; exact h1,by rw [ho i c]; exact h2⟩
theorem RO.trim {C : Ctx} {mu ow : List Bool} {G : Hp} {ρ : DSt} {σ : St} {H : Hp} {pd : List (D × V)} {O : Own} (h : RO C ow G ρ σ H pd O) (hm : MuOk C mu) (ho : ∀ i : Nat,i < mu.length → ow[i]? = mu[i]?) :
    RO C mu G (padS mu.length ρ) (padS mu.length σ) H pd O := by
  refine ⟨by rw [padS_len,padS_len],h.gh,h.g0,h.gn,h.og,h.cok,h.fr,h.al,?_,?_,h.pn,h.np⟩
  · intro i v e
    exact padS_at (lt_of_slot' (hm i v e)) (h.mp i v e)
  · intro i d e
    obtain ⟨c,e1⟩ := padS_of e
    obtain ⟨v,h1,h2⟩ := h.sl i d e1
    exact ⟨v,padS_at c h1,by rw [← ho i c]; exact h2⟩
where
  lt_of_slot' {l : List Bool} {i : Nat} {x : Bool} (h : l[i]? = some x) : i < l.length := (List.getElem?_eq_some_iff.mp h).1
def endsOf (mu : List Bool) (q : D → DSt → Prop) : EndsD := ⟨fun ρ => q .non (mus mu ρ),fun d ρ => q d (mus mu ρ),fun _ => False,fun _ => False⟩
theorem fnD {P : Program} {w : World} {K : PySem.W.Frag} {mg : Str → Option Value} {base : Heap} {x qual : Str} {st : Stmt} {f : Addr} {fd : FuncData} {N ps : List Str} {k : Nat} (F : Fun K x qual st f fd) (S : FnScope N ps (defScope st)) (M : Md) (sd : SpD)
    (hl : ∀ ds q,sd ds q → ds.length = ps.length) (ho : M.ow.take ps.length = M.mu) (hml : M.mu.length = ps.length)
    (hbody : ∀ (cdv : Value) (A : Around) (outer : List Env) (s : Shared) (H : Hp) (E : XK),Room k (A.deeper (envOfC qual (defScope st) s.heap.objs.size f cdv)) →
      ∃ m,QSs (cxOf CX0 P w K mg base N qual (defScope st) f cdv A outer s H E).nox M (defBody st) m ∧ ∀ ds q,sd ds q → m (endsOf M.mu q) (ds.map some ++ List.replicate (N.length - ps.length) none)) :
    FnOk P w K mg base CX0 (k + 1) f fd ps (spOf M.mu M.fr sd) := by
  have hov : ∀ i : Nat,i < M.mu.length → M.ow[i]? = M.mu[i]? := fun i hi => by rw [← ho,List.getElem?_take_of_lt (by omega)]
  have hlen : ∀ vs H Q E,spOf M.mu M.fr sd vs H Q E → vs.length = ps.length := fun vs H Q E ⟨C,G,ds,q,_,_,⟨O,ro⟩,h1,_,_⟩ => by
    have := ro.len; simp at this; rw [← this]; exact hl ds q h1
  refine F.ok S hlen fun cdv A outer s H vs Q E hr hsp => ?_
  obtain ⟨m,⟨t,p,ss⟩,hm⟩ := hbody cdv A outer s H E hr
  have hvl := hlen vs H Q E hsp
  obtain ⟨C,G,ds,q,hnp,hmu,⟨O,ro⟩,hsd,hml2,kk⟩ := hsp
  refine ⟨t,p,?_⟩
  have hmo : MuOk C M.mu := fun i v e => by rw [hmu] at e; exact (msV_of e).1
  have r0 : R C M.ow G (ds.map some ++ List.replicate (N.length - ps.length) none) (start N vs) H [] := by
    unfold start; rw [hvl]
    exact ⟨O,ro.grow _ fun i hi => hov i (by omega)⟩
  refine ss C G _ _ H (endsOf M.mu q) _ hmo hnp r0 (hm ds q hsd) ⟨?_,fun _ _ _ _ h => h.elim,fun _ _ _ _ h => h.elim,?_⟩
  · intro ρ σ G' H' h z ⟨O',r'⟩
    refine kk .non (padS M.mu.length ρ) (padS M.mu.length σ) .non G' H' (by rw [padS_mus]; exact h) z (padS_len _ _) (R.non ⟨O',r'.trim hmo hov⟩)
  · intro d ρ σ v G' H' h z hr'
    refine kk d (padS M.mu.length ρ) (padS M.mu.length σ) v G' H' (by rw [padS_mus]; exact h) z (padS_len _ _) ?_
    unfold Ret at hr' ⊢
    split at hr'
    · rename_i c; rw [if_pos c]; obtain ⟨O',r'⟩ := hr'; exact ⟨O',r'.trim hmo hov⟩
    · rename_i c; rw [if_neg c]; obtain ⟨⟨O',r'⟩,p⟩ := hr'; exact ⟨⟨O',r'.trim hmo hov⟩,p⟩
theorem Seps.mk {G H : Hp} {O : Own} {i : Nat} : ∀ {T : List (D × V)} {k : Nat} {π : List Nat},(∀ (j : Nat) x,T[j]? = some x → Sep G H O i x.1 ((k + j) :: π) x.2) → Seps G H O i (T.map (·.1)) k π (T.map (·.2))
  | [],_,_,_ => by simp; rw [Seps]
  | x :: T,k,π,h => by
    simp only [List.map]; rw [Seps]
    exact ⟨x.2,_,rfl,by simpa using h 0 x rfl,Seps.mk fun j y e => by rw [show k + 1 + j = k + (j + 1) by omega]; exact h (j + 1) y (by simpa using e)⟩
section
variable {C : Ctx} {ow : List Bool} {G : Hp} {ρ : DSt} {σ : St} {H : Hp} {pd T : List (D × V)} {O : Own}
theorem RO.gather (h : RO C ow G ρ σ H (T.reverse ++ pd) O) (hn : C.np ≤ pd.length) : ∃ O',RO C ow G ρ σ H pd O' ∧ Seps G H O' (2 * pd.length + 1) (T.map (·.1)) 0 [] (T.map (·.2)) := by
  refine ⟨lab (fun l π => if l % 2 = 1 ∧ pd.length ≤ l / 2 then (2 * pd.length + 1,π ++ [l / 2 - pd.length]) else (l,π)) O,⟨h.len,h.gh,h.g0,h.gn,?_,h.cok,h.fr,h.al,h.mp,?_,?_,hn⟩,?_⟩
  · intro a m e
    obtain ⟨l,π,e1,rfl⟩ := lab_of e
    obtain ⟨q1,q2,q3⟩ := h.og a _ e1
    refine ⟨q1,q2,?_⟩
    split
    · rename_i z
      rcases q3 with q3 | ⟨_,q3⟩
      · exact .inl q3
      · rcases h.cok _ _ _ q3 with ⟨k,_,q4,_⟩ | ⟨k,q4,q5⟩
        · omega
        · omega
    · exact q3
  · intro j e q
    obtain ⟨u,h1,h2⟩ := h.sl j e q
    refine ⟨u,h1,?_⟩
    split at h2
    · rename_i c; rw [if_pos c]; exact h2.keep (fun _ _ z => z) fun a τ q => ⟨by rw [lab_at q,if_neg (by omega)],rfl⟩
    · rename_i c; rw [if_neg c]; exact h2
  · exact Pend.keep (fun _ _ z => z) (fun a j π hj q => ⟨by rw [lab_at q,if_neg (by omega)],rfl⟩) (pend_tail (T := T.reverse) h.pn)
  · refine Seps.mk fun j x e => ?_
    have := pend_at h.pn e
    refine Sep.map (f := fun π => π ++ [0 + j]) (fun _ _ z => z) (fun _ _ => rfl) x.1 [] x.2 (fun a τ q => ⟨?_,rfl⟩) this
    rw [lab_at q,if_pos (by omega)]
    rw [show (2 * (pd.length + j) + 1) / 2 - pd.length = 0 + j by omega]
theorem RO.newT (h : RO C ow G ρ σ H pd O) {p : Addr} (hp : H p = none) {ds : List D} {vs : List V} (hs : Seps G H O (2 * pd.length + 1) ds 0 [] vs) : R C ow (upd G p (.tup vs)) ρ σ (upd H p (.tup vs)) ((.tup ds,.ref p) :: pd) ∧ Same G (upd G p (.tup vs)) := by
  obtain ⟨r,z⟩ := h.new hp (.tup vs)
  refine ⟨⟨O,r.len,r.gh,r.g0,r.gn,r.og,r.cok,r.fr,r.al,r.mp,r.sl,⟨?_,r.pn⟩,Nat.le_succ_of_le r.np⟩,z⟩
  rw [Sep]
  exact ⟨p,vs,rfl,upd_same,hs.keep z.ts fun a τ _ q => ⟨q,upd_ne (fun e => by obtain ⟨_,⟨xs,w⟩,_⟩ := h.og a _ q; rw [e,hp] at w; cases w)⟩⟩
theorem RO.newS (h : RO C ow G ρ σ H pd O) {p : Addr} (hp : H p = none) {ds : List D} {vs : List V} (hs : Seps G H O (2 * pd.length + 1) ds 0 [] vs) : R C ow G ρ σ (upd H p (.lst vs)) ((.lst ds,.ref p) :: pd) := by
  have gp : G p = none := by
    cases e : G p with
    | none => rfl
    | some z => rw [h.gh _ _ e] at hp; cases hp
  have ne : ∀ a l,O a = some l → a ≠ p := fun a l e z => by
    obtain ⟨_,⟨xs,q⟩,_⟩ := h.og a l e
    rw [z,hp] at q; cases q
  let O' : Own := fun a => if a = p then some (2 * pd.length + 1,[]) else O a
  have old : ∀ a l,O a = some l → O' a = some l := fun a l e => by
    show (if a = p then _ else _) = _
    rw [if_neg (ne a _ e),e]
  refine ⟨O',h.len,?_,h.g0,h.gn,?_,h.cok,?_,?_,h.mp,?_,⟨?_,?_⟩,Nat.le_succ_of_le h.np⟩
  · intro a u e
    rw [upd_ne (fun z => by rw [z,gp] at e; cases e)]
    exact h.gh _ _ e
  · intro a l e
    by_cases z : a = p
    · subst z; exact ⟨gp,⟨.inl vs,upd_same⟩,.inl (h.al _ hp)⟩
    · rw [upd_ne z]
      change (if a = p then _ else _) = _ at e
      rw [if_neg z] at e
      exact h.og a _ e
  · intro a u e n
    rw [upd_ne (ne_of_none (h.fr a u e n) hp)]
    exact h.fr a u e n
  · intro a e
    by_cases z : a = p
    · subst z; rw [upd_same] at e; cases e
    · rw [upd_ne z] at e; exact h.al a e
  · intro i d e
    obtain ⟨v,h1,h2⟩ := h.sl i d e
    refine ⟨v,h1,?_⟩
    split at h2
    · rename_i c; rw [if_pos c]; exact h2.keep (fun _ _ z => z) fun a τ q => ⟨old a _ q,upd_ne (ne a _ q)⟩
    · rename_i c; rw [if_neg c]; exact h2
  · rw [Sep]
    exact ⟨p,vs,rfl,by show (if p = p then _ else _) = _; rw [if_pos rfl],upd_same,hs.keep (fun _ _ z => z) fun a τ _ q => ⟨old a _ q,upd_ne (ne a _ q)⟩⟩
  · exact Pend.keep (fun _ _ z => z) (fun a j π hj q => ⟨old a _ q,upd_ne (ne a _ q)⟩) h.pn
end
def SFm (M : Md) (t : TE) (m : ME) : Prop := ∀ (C : Ctx) (G : Hp) (ρ : DSt) (σ : St) (H : Hp) (pd : List (D × V)) (q : D → DSt → Prop) (Q : VK),MuOk C M.mu → R C M.ow G ρ σ H pd → m ρ q →
  (∀ d ρ' v G' H',q d ρ' → Same G G' → R C M.ow G' ρ' σ H' ((d,v) :: pd) → Q v H') → t σ H Q
structure QM (X : Cx) (M : Md) (e : Expr) (m : ME) : Prop where
  ex : ∃ t,PE X e t ∧ SFm M t m
def SAm (M : Md) (n : Nat) (t : TA) (m : MA) : Prop := ∀ (C : Ctx) (G : Hp) (ρ : DSt) (σ : St) (H : Hp) (pd : List (D × V)) (q : List D → DSt → Prop) (Q : List V → Hp → Prop),MuOk C M.mu → R C M.ow G ρ σ H pd → m ρ q →
  (∀ (T : List (D × V)) ρ' G' H',q (T.map (·.1)) ρ' → Same G G' → R C M.ow G' ρ' σ H' (T.reverse ++ pd) → T.length = n → Q (T.map (·.2)) H') → t σ H Q
structure QMs (X : Cx) (M : Md) (es : List Expr) (m : MA) : Prop where
  ex : ∃ t,PA X es t ∧ SAm M es.length t m
section
variable {X : Cx} {M : Md} {a b c e : Expr} {ma mb mc : ME} {pos pos' : Pos} {mr : MA} {es : List Expr}
theorem QF.qm (h : QF X M.ow e ma) : QM X M e ma := by
  obtain ⟨t,p,s⟩ := h
  exact ⟨_,p,fun C G ρ σ H pd q Q hm r h k => s C G ρ σ H pd q Q r h fun d ρ' v G' H' hq z kp r' => k d ρ' v G' H' hq z r'⟩
theorem qm_move (i : Nat) {x : Str} (ho : M.ow[i]? = some true := by decide) (hu : M.mu[i]? ≠ some true := by decide) (hN : X.N[i]? = some x := by rfl) (hv : Vis X.env.scope x := by first | exact Or.inl rfl | exact Or.inr (Or.inl rfl) | exact Or.inr (Or.inr rfl)) (hd : (x == ("__debug__" : Str)) = false := by decide)
    (hcd : (x == ("__classdict__" : Str)) = false := by decide) : QM X M (.Name x pos) (mMove i) := ⟨_,pe_var hN hv hd hcd,fun C G ρ σ H pd q Q hm r h k => by
  unfold mMove at h
  split at h
  · rename_i d e
    obtain ⟨O,ro⟩ := r
    obtain ⟨v,h1,h2⟩ := ro.move e ho (hm.no hu)
    exact ⟨v,h1,k d _ v G H h (Same.refl _) h2⟩
  · exact h.elim⟩
theorem qms_nil : QMs X M [] mNil := ⟨_,pa_nil,fun C G ρ σ H pd q Q hm r h k => k [] ρ G H h (Same.refl _) r rfl⟩
theorem qms_cons (ha : QM X M e ma) (hr : QMs X M es mr) (hs : starEach (e :: es) X.env = (false,eval e X.env) :: starEach es X.env := by rfl) : QMs X M (e :: es) (mCons ma mr) := by
  obtain ⟨t,p,s⟩ := ha; obtain ⟨t2,p2,s2⟩ := hr
  refine ⟨_,pa_cons p p2 hs,fun C G ρ σ H pd q Q hm r h k => s C G ρ σ H pd _ _ hm r h fun d ρ' v G' H' hq z r' => ?_⟩
  exact s2 C G' ρ' σ H' _ _ _ hm r' hq fun T ρ2 G2 H2 hq2 z2 r2 hn => k ((d,v) :: T) ρ2 G2 H2 hq2 (z.trans z2) (by simpa using r2) (by simp [hn])
theorem qm_tup {x1} (h : QMs X M es mr) (hl : es.length ≤ 1000 := by decide) : QM X M (.Tuple es x1 pos) (mTup mr) := by
  obtain ⟨t,p,s⟩ := h
  refine ⟨_,pe_tup p,fun C G ρ σ H pd q Q hm r h k => s C G ρ σ H pd _ _ hm r h fun T ρ' G' H' hq z r' hn => ⟨le_line (by simp; omega),fun a ha => ?_⟩⟩
  obtain ⟨O,r'⟩ := r'
  obtain ⟨O2,r2,s2⟩ := r'.gather r.np
  obtain ⟨r3,z3⟩ := r2.newT ha s2
  exact k _ ρ' _ _ _ hq (z.trans z3) r3
theorem qm_lst (h : QMs X M es mr) (hl : es.length ≤ 1000 := by decide) : QM X M (.List es pos) (mLst mr) := by
  obtain ⟨t,p,s⟩ := h
  refine ⟨_,pe_lst p,fun C G ρ σ H pd q Q hm r h k => s C G ρ σ H pd _ _ hm r h fun T ρ' G' H' hq z r' hn => ⟨le_line (by simp; omega),fun a ha => ?_⟩⟩
  obtain ⟨O,r'⟩ := r'
  obtain ⟨O2,r2,s2⟩ := r'.gather r.np
  exact k _ ρ' _ _ _ hq z (r2.newS ha s2)
theorem qs_retM (h : QM X M e ma) (hf : M.fr = true := by rfl) : QS X M (.Return (some e) pos) (mRet ma) := by
  obtain ⟨t,p,s⟩ := h
  refine ⟨_,ps_ret p,fun C G ρ σ H n D hm hn r h k => s C G ρ σ H [] _ _ hm r h fun d ρ' v G' H' hq z r' => k.rt d ρ' σ v G' H' hq z (by unfold Ret; rw [if_pos hf]; exact r')⟩
theorem qs_setM {i : Nat} {x : Str} (hN : X.N.Nodup) (hi : X.N[i]? = some x) (hx : Loc X.env.scope x) (he : QM X M e ma) (ho : M.ow[i]? = some true := by decide) (hu : M.mu[i]? ≠ some true := by decide) (hs : swapsWith e (some (.Name x pos')) pos.line X.env = pure false := by rfl) (hf : X.fn x = true ∨ X.env.scope.names.lookup x = some .local := by first | exact .inl rfl | exact .inr rfl | assumption) :
    QS X M (.Assign [.Name x pos'] e pos) (mSet i ma) := by
  obtain ⟨t,p,s⟩ := he
  refine ⟨_,ps_set hN hi hx p hs hf,fun C G ρ σ H n D hm hn r h k => s C G ρ σ H [] _ _ hm r h fun d ρ' v G' H' hq z r' => ?_⟩
  obtain ⟨O,r'⟩ := r'
  exact k.nx _ _ G' H' hq z (r'.setO ho (hm.no hu) (by rw [hn]; exact Nat.zero_le _))
end
def compD (g : MG) (mt : MT) (me : ME) (ρ0 : DSt) (ds : List D) (K : List D → Prop) : Prop := ∃ I : Nat → List D → Prop,I 0 [] ∧
  (∀ i d es,ds[i]? = some d → I i es → g d ρ0 fun ρ2 => mt ρ2 fun b ρ3 => if b = true then me ρ3 fun x _ => I (i + 1) (es ++ [x]) else I (i + 1) es) ∧ ∀ es,I ds.length es → K es
def rho0 (k : Nat) (js : List Nat) (ρ : DSt) : DSt := List.replicate k none ++ js.map fun j => (ρ[j]?).getD none
def mComp (mi : MA) (g : MG) (mt : MT) (me : ME) (k : Nat) (js : List Nat) : ME := fun ρ q => mi ρ fun ds ρ1 => ds.length ≤ 1000 ∧ compD g mt me (rho0 k js ρ1) ds fun es => imms es = true ∧ q (.lst es) ρ1
def mCompS (mi : MA) (g : MG) (mt : MT) (me : ME) (k : Nat) (js : List Nat) : ME := fun ρ q => mi ρ fun ds ρ1 => ds.length ≤ 1000 ∧ compD g mt me (rho0 k js ρ1) ds fun es => q (.lst es) ρ1
structure QIf (X : Cx) (ow : List Bool) (ifs : List Expr) (m : MT) : Prop where
  ex : ∃ t,PIf X ifs t ∧ STe ow t m
theorem qif_nil {X : Cx} {ow : List Bool} : QIf X ow [] (mYes true) := ⟨_,pif_nil,st_yes true⟩
theorem qif_one {X : Cx} {ow : List Bool} {c : Expr} {mt : MT} (h : QT X ow c mt) : QIf X ow [c] mt := by obtain ⟨t,p,s⟩ := h; exact ⟨_,pif_one p,s⟩
section
variable {C : Ctx} {ow : List Bool} {G : Hp} {ρ : DSt} {σ : St} {H : Hp} {pd : List (D × V)} {O : Own}
theorem RO.inner (h : RO C ow G ρ σ H pd O) (own : List Str) (js : List Nat) (hj : ∀ j ∈ js,ow[j]? ≠ some true) :
    RO ⟨G,H,ownM (fun _ => none) O,[],0⟩ [] G (rho0 own.length js ρ) (sig0 own js σ) H [] (ownM (fun _ => none) O) := by
  have no : ∀ a,ownM (fun _ => none) O a = none := fun a => by unfold ownM; cases O a <;> rfl
  refine ⟨by simp [rho0,sig0],h.gh,fun _ _ e => e,fun _ _ e => .inl e,fun a l e => ?_,fun a l π e => ?_,fun _ _ e _ => e,fun _ e => e,fun i v e => by simp at e,?_,trivial,Nat.le_refl _⟩
  · rw [no] at e; cases e
  · exact absurd (e.symm.trans (no a)) (by simp)
  · intro i d e
    unfold rho0 at e
    by_cases c : i < own.length
    · rw [List.getElem?_append_left (by simpa using c),List.getElem?_replicate] at e
      split at e <;> cases e
    · rw [List.getElem?_append_right (by simpa using c),List.getElem?_map] at e
      simp only [List.length_replicate] at e
      cases z : js[i - own.length]? with
      | none => rw [z] at e; cases e
      | some j =>
        rw [z] at e
        have e' : (ρ[j]?).getD none = some d := Option.some.inj e
        have e2 : ρ[j]? = some (some d) := by
          cases w : ρ[j]? with
          | none => rw [w] at e'; cases e'
          | some o => rw [w] at e'; exact congrArg some e'
        obtain ⟨v,h1,h2⟩ := h.sl j d e2
        rw [if_neg (hj j (List.mem_of_getElem? z))] at h2
        refine ⟨v,?_,by simpa using h2⟩
        unfold sig0
        rw [List.getElem?_append_right (by simpa using c),List.getElem?_map]
        simp only [List.length_map]
        rw [z,show (some j).map _ = some ((σ[j]?).getD none) from rfl,h1]; rfl
end
theorem RO.back {C : Ctx} {ow : List Bool} {G G' : Hp} {ρ0 ρ2 : DSt} {σ0 σ2 : St} {H H' : Hp} {pd : List (D × V)} {O O' : Own} (h0 : RO C ow G ρ0 σ0 H pd O) (hn : ∀ i : Nat,ow[i]? ≠ some true) (h : RO C ow G' ρ2 σ2 H' pd O') (z : Same G G') : RO C ow G' ρ0 σ0 H' pd O' :=
  ⟨h0.len,h.gh,h.g0,h.gn,h.og,h.cok,h.fr,h.al,h0.mp,fun i d e => by
    obtain ⟨v,h1,h2⟩ := h0.sl i d e
    rw [if_neg (hn i)] at h2
    exact ⟨v,h1,by rw [if_neg (hn i)]; exact h2.mono z⟩,h.pn,h.np⟩
theorem comp_sound {ow : List Bool} {J : It} {g : TG} {mg : MG} {tt : TT} {mt : MT} {te : TE} {me : ME} {C : Ctx} {G : Hp} {ρ : DSt} {σ : St} {H : Hp} {pd : List (D × V)} {ds : List D} {own : List Str} {js : List Nat} {K : List D → Prop} {Z : List V → Hp → Prop}
    (r : R C ow G ρ σ H pd) (hj : ∀ j ∈ js,ow[j]? ≠ some true) (jo : ItOk J G ds) (sg : SG ⟨[],[],false⟩ g mg) (st : STe [] tt mt) (se : SE [] te me) (hk : ∀ x H k,g x (sig0 own js σ) H k → g x (sig0 own js σ) H fun σ2 H2 => kept (sig0 own js σ) σ2 ∧ k σ2 H2)
    (hl : ds.length ≤ 1000) (h : compD mg mt me (rho0 own.length js ρ) ds K)
    (k : ∀ es vs G' H',K es → Same G G' → R C ow G' ρ σ H' pd → Reps G' es vs → vs.length ≤ 1000 → Z vs H') : CompW J g tt te (sig0 own js σ) H Z := by
  obtain ⟨O,ro⟩ := r
  have ri := ro.inner own js hj
  obtain ⟨I,i0,turn,fin⟩ := h
  have nt : ∀ i : Nat,([] : List Bool)[i]? ≠ some true := fun i => by simp
  let C1 : Ctx := ⟨G,H,ownM (fun _ => none) O,[],0⟩
  have fnone : ownM (fun _ => none) O = fun _ => none := by funext a; unfold ownM; cases O a <;> rfl
  refine ⟨fun i m acc H' => m = ds.length - i ∧ i ≤ ds.length ∧ acc.length ≤ i ∧ ∃ G' es,Same G G' ∧ R C1 [] G' (rho0 own.length js ρ) (sig0 own js σ) H' [] ∧ Reps G' es acc ∧ I i es,⟨_,rfl,Nat.zero_le _,Nat.le_refl _,G,[],Same.refl _,⟨_,ri⟩,reps_nil,i0⟩,?_⟩
  rintro i m acc H' ⟨rfl,hi,ha,G',es,z,r',pa,w⟩
  obtain ⟨sp,go⟩ := jo C1 [] G' _ _ H' [] i z r'
  by_cases hlt : i < ds.length
  · obtain ⟨g1,g2⟩ := go ds[i] (List.getElem?_eq_getElem hlt)
    refine .inr ⟨g1,small1000 (by omega),fun acc' H2 => acc'.length ≤ i + 1 ∧ ∃ G2 es2,Same G G2 ∧ R C1 [] G2 (rho0 own.length js ρ) (sig0 own js σ) H2 [] ∧ Reps G2 es2 acc' ∧ I (i + 1) es2,fun acc' H2 h => ⟨ds.length - (i + 1),by omega,rfl,hlt,h.1,h.2⟩,fun x H1 hy => hk _ _ _ ?_⟩
    obtain ⟨G1,z1,r1,p1⟩ := g2 x H1 hy
    refine sg C1 G1 _ _ H1 [] ds[i] x _ _ (fun i v e => by simp [C1] at e) r1 p1 (turn i ds[i] es (List.getElem?_eq_getElem hlt) w) fun ρ2 σ2 h2 r2 => ?_
    refine st C1 G1 ρ2 σ2 H1 [] _ _ r2 h2 fun b ρ3 G3 H3 h3 z3 kp3 r3 => ?_
    have bk : ∀ {G4 : Hp} {ρ4 : DSt} {H4 : Hp},Same G3 G4 → R C1 [] G4 ρ4 σ2 H4 [] → R C1 [] G4 (rho0 own.length js ρ) (sig0 own js σ) H4 [] := fun z4 ⟨O4,r4⟩ => by
      obtain ⟨O1,r1'⟩ := r1
      exact ⟨_,r1'.back nt r4 (z3.trans z4)⟩
    cases b with
    | true =>
      rw [if_pos rfl] at h3 ⊢
      refine se C1 G3 ρ3 σ2 H3 [] _ _ r3 h3 fun d ρ4 v G4 H4 h4 z4 kp4 r4 p4 => ?_
      exact ⟨by simp; omega,G4,es ++ [d],z.trans (z1.trans (z3.trans z4)),bk z4 r4,reps_app (Reps.mono (z1.trans (z3.trans z4)) _ _ pa) (reps_cons p4 reps_nil),h4⟩
    | false =>
      rw [if_neg (by decide)] at h3 ⊢
      exact ⟨by omega,G3,es,z.trans (z1.trans z3),bk (Same.refl _) r3,Reps.mono (z1.trans z3) _ _ pa,h3⟩
  · have e : i = ds.length := by omega
    subst e
    refine .inl ⟨sp (Nat.le_refl _),le_line (by omega),?_⟩
    obtain ⟨O2,r2⟩ := r'
    refine k es acc G' H' (fin es w) z ⟨ownB (fun _ => none) (fun _ => none) O O2,?_⟩ pa (by omega)
    refine ro.out (vs := []) r2 (fun _ _ _ e => by cases e) ro.len ro.np (fun i d _ e => e) (fun i d _ e => .inl ⟨rfl,e⟩) fun O3 h1 h2 ts => ?_
    exact Pend.keep ts (fun a j π hj e => h1 a _ _ e rfl) ro.pn
section
variable {X : Cx} {ow : List Bool} {elt tg iter : Expr} {ifs : List Expr} {pos : Pos} {mi : MA} {mg : MG} {mt : MT} {me : ME} {scope : Scope} {cl : List (Str × Addr)}
def KeepG (n : Nat) (g : TG) : Prop := ∀ (σ0 : St),(∀ i,i < n → σ0[i]? = some none) → ∀ σ x H k,kept σ0 σ → g x σ H k → g x σ H fun σ2 H2 => kept σ0 σ2 ∧ k σ2 H2
def KeepGs (n : Nat) (g : TGs) : Prop := ∀ (σ0 : St),(∀ i,i < n → σ0[i]? = some none) → ∀ σ x H k,kept σ0 σ → g x σ H k → g x σ H fun σ2 H2 => kept σ0 σ2 ∧ k σ2 H2
theorem kept_set : ∀ {a b : St} {i : Nat} {v : V},kept a b → a[i]? = some none → kept a (b.set i (some v))
  | [],[],i,v,h,e => by simp at e
  | none :: r,y :: r',0,v,h,e => h
  | none :: r,y :: r',i + 1,v,h,e => by simp only [List.set_cons_succ]; exact kept_set (a := r) (b := r') h (by simpa using e)
  | some w :: r,y :: r',0,v,h,e => by simp at e
  | some w :: r,y :: r',i + 1,v,h,e => by simp only [List.set_cons_succ]; exact ⟨h.1,kept_set (a := r) (b := r') h.2 (by simpa using e)⟩
  | [],_ :: _,_,_,h,_ => h.elim
  | none :: _,[],_,_,h,_ => h.elim
  | some _ :: _,[],_,_,h,_ => h.elim
theorem kept_refl : ∀ (a : St),kept a a
  | [] => trivial
  | none :: r => kept_refl r
  | some v :: r => ⟨rfl,kept_refl r⟩
def MonG (g : TG) : Prop := ∀ x σ H (k k' : St → Hp → Prop),(∀ σ2 H2,k σ2 H2 → k' σ2 H2) → g x σ H k → g x σ H k'
def MonGs (g : TGs) : Prop := ∀ x σ H (k k' : St → Hp → Prop),(∀ σ2 H2,k σ2 H2 → k' σ2 H2) → g x σ H k → g x σ H k'
structure CG (n : Nat) (g : TG) (m : MG) : Prop where
  sg : SG ⟨[],[],false⟩ g m
  kp : KeepG n g
  mn : MonG g
structure CGs (n : Nat) (g : TGs) (m : MGs) : Prop where
  sg : SGs ⟨[],[],false⟩ g m
  kp : KeepGs n g
  mn : MonGs g
theorem cg_name {n : Nat} (i : Nat) (h : i < n := by decide) : CG n (gName i) (gmName i) :=
  ⟨fun C G ρ σ H pd d v k K hm r p h kk => by obtain ⟨O,r⟩ := r; exact kk _ _ h ⟨O,r.setS (by simp) (fun v e => by have := hm i v e; simp at this) p⟩,
   fun σ0 h0 σ x H k hk hg => ⟨kept_set hk (h0 i h),hg⟩,fun x σ H k k' hk h => hk _ _ h⟩
theorem cgs_nil {n : Nat} : CGs n gNil gmNil :=
  ⟨fun C G ρ σ H pd d v k K hm r p h kk => by
    cases d with
    | nil => rw [Reps] at p; exact ⟨p,kk _ _ h r⟩
    | cons _ _ => exact h.elim,fun σ0 h0 σ x H k hk hg => ⟨hg.1,hk,hg.2⟩,fun x σ H k k' hk h => ⟨h.1,hk _ _ h.2⟩⟩
theorem cgs_cons {n : Nat} {g : TG} {gs : TGs} {mg : MG} {mgs : MGs} (h1 : CG n g mg) (h2 : CGs n gs mgs) : CGs n (gCons g gs) (gmCons mg mgs) :=
  ⟨fun C G ρ σ H pd d v k K hm r p h kk => by
    cases d with
    | nil => exact h.elim
    | cons d ds =>
      rw [Reps] at p
      obtain ⟨v,vs,rfl,p1,p3⟩ := p
      exact ⟨v,vs,rfl,h1.sg C G ρ σ H pd d v _ _ hm r p1 h fun ρ' σ' h' r' => h2.sg C G ρ' σ' H pd ds vs k K hm r' p3 h' kk⟩,
   fun σ0 h0 σ x H k hk hg => by
    obtain ⟨v,r,e,q⟩ := hg
    exact ⟨v,r,e,h1.mn _ _ _ _ _ (fun σ2 H2 z => h2.kp σ0 h0 σ2 r H2 k z.1 z.2) (h1.kp σ0 h0 σ v H _ hk q)⟩,
   fun x σ H k k' hk h => by
    obtain ⟨v,r,e,q⟩ := h
    exact ⟨v,r,e,h1.mn _ _ _ _ _ (fun σ2 H2 z => h2.mn _ _ _ _ _ hk z) q⟩⟩
theorem cg_tup {n j : Nat} {K : PySem.W.Frag} {gs : TGs} {mgs : MGs} (h : CGs n gs mgs) (ht : takes j mgs) : CG n (gTup K j gs) (gmTup mgs) :=
  ⟨fun C G ρ σ H pd d v k K hm r p h' kk => by
    cases d with
    | tup ds =>
      obtain ⟨a,xs,rfl,h1,h2⟩ := rep_tup_of p
      exact ⟨a,xs,rfl,SqT.of (r.gh _ _ h1),by rw [h2.length]; exact ht _ _ _ h',h.sg C G ρ σ H pd ds xs k K hm r h2 h' kk⟩
    | _ => exact h'.elim,
   fun σ0 h0 σ x H k hk hg => by obtain ⟨a,xs,e,e1,e2,q⟩ := hg; exact ⟨a,xs,e,e1,e2,h.kp σ0 h0 σ xs H k hk q⟩,
   fun x σ H k k' hk hg => by obtain ⟨a,xs,e,e1,e2,q⟩ := hg; exact ⟨a,xs,e,e1,e2,h.mn _ _ _ _ _ hk q⟩⟩
def canE (ow : List Bool) (m : ME) : TE := fun σ H Q => ∃ (C : Ctx) (G : Hp) (ρ : DSt) (pd : List (D × V)) (q : D → DSt → Prop),R C ow G ρ σ H pd ∧ m ρ q ∧ ∀ d ρ' v G' H',q d ρ' → Same G G' → Kp ow ρ ρ' → R C ow G' ρ' σ H' pd → Rep G' d v → Q v H'
def canT (ow : List Bool) (m : MT) : TT := fun σ H Q => ∃ (C : Ctx) (G : Hp) (ρ : DSt) (pd : List (D × V)) (q : Bool → DSt → Prop),R C ow G ρ σ H pd ∧ m ρ q ∧ ∀ d ρ' G' H',q d ρ' → Same G G' → Kp ow ρ ρ' → R C ow G' ρ' σ H' pd → Q d H'
theorem can_se {ow : List Bool} {m : ME} : SE ow (canE ow m) m := fun C G ρ σ H pd q Q r h k => ⟨C,G,ρ,pd,q,r,h,k⟩
theorem can_st {ow : List Bool} {m : MT} : STe ow (canT ow m) m := fun C G ρ σ H pd q Q r h k => ⟨C,G,ρ,pd,q,r,h,k⟩
theorem QE.can {X : Cx} {ow : List Bool} {e : Expr} {m : ME} (h : QE X ow e m) : PE X e (canE ow m) := by
  obtain ⟨t,p,s⟩ := h
  exact ⟨fun pins s' σ H Q I ⟨C,G,ρ,pd,q,r,h,k⟩ => p.go pins s' σ H Q I (s C G ρ σ H pd q Q r h k)⟩
theorem QIf.can {X : Cx} {ow : List Bool} {e : List Expr} {m : MT} (h : QIf X ow e m) : PIf X e (canT ow m) := by
  obtain ⟨t,p,s⟩ := h
  exact ⟨fun pins s' σ H Q I ⟨C,G,ρ,pd,q,r,h,k⟩ => p.go pins s' σ H Q I (s C G ρ σ H pd q Q r h k)⟩
theorem sig0_none {own : List Str} {js : List Nat} {σ : St} : ∀ i,i < own.length → (sig0 own js σ)[i]? = some none := fun i h => by
  unfold sig0
  rw [List.getElem?_append_left (by simpa using h),List.getElem?_map,List.getElem?_eq_getElem h]; rfl
theorem comp_sf {ow : List Bool} {wi : TI} {g : TG} {own : List Str} {js : List Nat} (si : SI ow wi mi) (cg : CG own.length g mg) (hj : ∀ j ∈ js,ow[j]? ≠ some true) : SF ow (tComp wi g (canT [] mt) (canE [] me) own js) (mComp mi mg mt me own.length js) := fun C G ρ σ H pd q Q r h k =>
  si C G ρ σ H pd _ _ r h fun ds ρ' G' H' J hq z kp r' jo => by
    refine comp_sound r' hj jo cg.sg can_st can_se (fun x H k hg => cg.kp _ sig0_none _ x H k (kept_refl _) hg) hq.1 hq.2 fun es vs G2 H2 hK z2 r2 p2 hl p hp => ?_
    obtain ⟨O2,r2⟩ := r2
    exact k _ ρ' _ _ _ hK.2 (z.trans z2) kp (r2.newL hp hK.1 p2)
theorem comp_se {ow : List Bool} {wi : TI} {g : TG} {own : List Str} {js : List Nat} (si : SI ow wi mi) (cg : CG own.length g mg) (hj : ∀ j ∈ js,ow[j]? ≠ some true) : SE ow (tComp wi g (canT [] mt) (canE [] me) own js) (mCompS mi mg mt me own.length js) := fun C G ρ σ H pd q Q r h k =>
  si C G ρ σ H pd _ _ r h fun ds ρ' G' H' J hq z kp r' jo => by
    refine comp_sound r' hj jo cg.sg can_st can_se (fun x H k hg => cg.kp _ sig0_none _ x H k (kept_refl _) hg) hq.1 hq.2 fun es vs G2 H2 hK z2 r2 p2 hl p hp => ?_
    obtain ⟨O2,r2⟩ := r2
    obtain ⟨r3,z3⟩ := r2.new hp (.lst vs)
    exact k _ ρ' _ _ _ hK (z.trans (z2.trans z3)) kp ⟨O2,r3⟩ (rep_lst upd_same (Reps.mono z3 _ _ p2))
structure CInn (X : Cx) (tg : Expr) (ifs : List Expr) (elt : Expr) (g : TG) (mt : MT) (me : ME) : Prop where
  pg : PG X tg g
  qi : QIf X [] ifs mt
  qe : QE X [] elt me
theorem qe_comp {g : TG} (own : List Str) (js : List Nat) (c : CompOk X scope cl own js) (hc : X.calm = true) (hi : QI X ow tg iter mi) (cg : CG own.length g mg)
    (inner : ∀ (C : Addr) (s₀ : Shared) (H₀ : Hp) (ex : List Addr),CInn (compCx X scope cl (nam0 X own js) C s₀ H₀ ex) tg ifs elt g mt me) (hj : ∀ j ∈ js,ow[j]? ≠ some true := by decide)
    (hs : ∀ x,foldedSetIterable iter X.env x = pure x := by intro _; rfl) : QE X ow (.ListComp elt [⟨tg,iter,ifs,0⟩] scope pos) (mCompS mi mg mt me own.length js) := by
  obtain ⟨wi,pi,si⟩ := hi
  exact ⟨_,pe_comp own js c hc pi (fun C s₀ H₀ ex => ⟨(inner C s₀ H₀ ex).pg,(inner C s₀ H₀ ex).qi.can,(inner C s₀ H₀ ex).qe.can⟩) hs,comp_se si cg hj⟩
theorem qs_setComp {M : Md} {g : TG} {i : Nat} {y : Str} {spos py : Pos} (own : List Str) (js : List Nat) (c : CompOk X scope cl own js) (hc : X.calm = true) (hN : X.N.Nodup) (hy : X.N[i]? = some y) (hx : Loc X.env.scope y) (hi : QI X M.ow tg iter mi) (cg : CG own.length g mg)
    (inner : ∀ (C : Addr) (s₀ : Shared) (H₀ : Hp) (ex : List Addr),CInn (compCx X scope cl (nam0 X own js) C s₀ H₀ ex) tg ifs elt g mt me) (hj : ∀ j ∈ js,M.ow[j]? ≠ some true := by decide) (ho : M.ow[i]? ≠ some true := by decide) (hu : M.mu[i]? ≠ some true := by decide)
    (hsw : swapsWith (.ListComp elt [⟨tg,iter,ifs,0⟩] scope pos) (some (.Name y py)) spos.line X.env = pure true := by rfl)
    (hs : ∀ x,foldedSetIterable iter X.env x = pure x := by intro _; rfl) (hf : X.fn y = true ∨ X.env.scope.names.lookup y = some .local := by first | exact .inl rfl | exact .inr rfl | assumption) :
    QS X M (.Assign [.Name y py] (.ListComp elt [⟨tg,iter,ifs,0⟩] scope pos) spos) (mSet i (mCompS mi mg mt me own.length js)) := by
  obtain ⟨wi,pi,si⟩ := hi
  exact ⟨_,ps_setComp own js c hc hN hy hx pi (fun C s₀ H₀ ex => ⟨(inner C s₀ H₀ ex).pg,(inner C s₀ H₀ ex).qi.can,(inner C s₀ H₀ ex).qe.can⟩) hsw hs hf,ss_set (comp_se si cg hj) ho hu⟩
end
theorem compD_fm {g : MG} {mt : MT} {me : ME} {ρ0 : DSt} {ds : List D} {K : List D → Prop} (f : D → Option D)
    (step : ∀ (d : D),d ∈ ds → ∀ k : Option D → Prop,k (f d) → g d ρ0 fun ρ2 => mt ρ2 fun b ρ3 => if b = true then me ρ3 fun x _ => k (some x) else k none) (h : K (ds.filterMap f)) : compD g mt me ρ0 ds K := by
  refine ⟨fun i es => es = (ds.take i).filterMap f,rfl,?_,fun es e => by rw [e,List.take_length]; exact h⟩
  rintro i d es hd rfl
  have := step d (List.mem_of_getElem? hd) (fun o => match o with | some x => (ds.take i).filterMap f ++ [x] = (ds.take (i + 1)).filterMap f | none => (ds.take i).filterMap f = (ds.take (i + 1)).filterMap f) (by
    rw [List.take_add_one,hd]
    simp only [Option.toList,List.filterMap_append]
    cases e : f d with
    | none => simp [e]
    | some x => simp [e])
  exact this
theorem compD_map {g : MG} {me : ME} {ρ0 : DSt} {ds : List D} {K : List D → Prop} (f : D → D)
    (step : ∀ (d : D),d ∈ ds → ∀ k : D → Prop,k (f d) → g d ρ0 fun ρ2 => me ρ2 fun x _ => k x) (h : K (ds.map f)) : compD g (mYes true) me ρ0 ds K := by
  refine ⟨fun i es => es = (ds.take i).map f,rfl,?_,fun es e => by rw [e,List.take_length]; exact h⟩
  rintro i d es hd rfl
  have := step d (List.mem_of_getElem? hd) (fun x => (ds.take i).map f ++ [x] = (ds.take (i + 1)).map f) (by
    rw [List.take_add_one,hd]; simp)
  exact this
def insZ (x : Int) : List Int → List Int
  | [] => [x]
  | y :: r => if x ≤ y then x :: y :: r else y :: insZ x r
def sortZ : List Int → List Int
  | [] => []
  | x :: r => insZ x (sortZ r)
theorem insZ_perm (x : Int) : ∀ l : List Int,(insZ x l).Perm (x :: l)
  | [] => List.Perm.refl _
  | y :: r => by
    unfold insZ
    split
    · exact List.Perm.refl _
    · exact ((insZ_perm x r).cons y).trans (List.Perm.swap x y r)
theorem sortZ_perm : ∀ l : List Int,(sortZ l).Perm l
  | [] => List.Perm.refl _
  | x :: r => (insZ_perm x (sortZ r)).trans ((sortZ_perm r).cons x)
theorem insZ_sorted (x : Int) : ∀ {l : List Int},l.Pairwise (· ≤ ·) → (insZ x l).Pairwise (· ≤ ·)
  | [],_ => by simp [insZ]
  | y :: r,h => by
    unfold insZ
    rw [List.pairwise_cons] at h
    split
    · rename_i c
      refine List.pairwise_cons.mpr ⟨fun z hz => ?_,List.pairwise_cons.mpr h⟩
      rcases List.mem_cons.mp hz with rfl | hz
      · exact c
      · exact Int.le_trans c (h.1 z hz)
    · rename_i c
      refine List.pairwise_cons.mpr ⟨fun z hz => ?_,insZ_sorted x h.2⟩
      rcases List.mem_cons.mp ((insZ_perm x r).mem_iff.mp hz) with rfl | hz
      · omega
      · exact h.1 z hz
theorem sortZ_sorted : ∀ l : List Int,(sortZ l).Pairwise (· ≤ ·)
  | [] => List.Pairwise.nil
  | x :: r => insZ_sorted x (sortZ_sorted r)
theorem sorted_one : ∀ {a b : List Int},a.Perm b → a.Pairwise (· ≤ ·) → b.Pairwise (· ≤ ·) → a = b
  | [],b,p,_,_ => (List.Perm.nil_eq p)
  | x :: a,[],p,_,_ => by have := p.length_eq; simp at this
  | x :: a,y :: b,p,ha,hb => by
    have hx : x = y := by
      rw [List.pairwise_cons] at ha hb
      have h1 : x ∈ y :: b := p.mem_iff.mp (.head _)
      have h2 : y ∈ x :: a := p.mem_iff.mpr (.head _)
      rcases List.mem_cons.mp h1 with rfl | h1
      · rfl
      rcases List.mem_cons.mp h2 with h2 | h2
      · exact h2.symm
      have := ha.1 y h2
      have := hb.1 x h1
      omega
    subst hx
    rw [sorted_one ((List.perm_cons x).mp p) (List.pairwise_cons.mp ha).2 (List.pairwise_cons.mp hb).2]
theorem sortZ_of {a b : List Int} (p : a.Perm b) (h : a.Pairwise (· ≤ ·)) : a = sortZ b := sorted_one (p.trans (sortZ_perm b).symm) h (sortZ_sorted b)
theorem sortZ_len (l : List Int) : (sortZ l).length = l.length := (sortZ_perm l).length_eq
section
variable {X : Cx}
def rSortI (K : PySem.W.Frag) : List V → Hp → VK → Prop := fun xs H Q => ∃ (p : Addr) (ns : List Int),xs = [.ref p] ∧ SqL K H p (ns.map V.int) ∧ ns.length < 64 ∧ ∀ l,H l = none → Q (.ref l) (upd H l (.lst ((sortZ ns).map V.int)))
theorem call_sortedI : CallR X (.builtin "sorted") (rSortI X.K) := by
  intro pins s σ H xs us Q I r h
  obtain ⟨p,ns,rfl,hS,h64,q⟩ := h
  obtain ⟨u,rfl,ru⟩ := vals1 r
  cases ru
  obtain ⟨its,rv,pl,_⟩ := I.list hS
  have hI : IntsAre its ns := intsAre_of rv
  have hlen : its.length = ns.length := by have := rv.length; simp at this; exact this.symm
  refine sorted_ints (l := p) (vs := its) (ns := ns) (isList_of pl) hI (by omega) fun out ns' a1 a2 a3 => ?_
  obtain ⟨e,he⟩ := sortedAll_at s.heap its out
  have hl : ns' = sortZ ns := sortZ_of a2 a3
  subst hl
  refine ⟨.ref (s.heap.objs.size + 1),_,I.laid (a := s.heap.objs.size + 1) (o := .lst ((sortZ ns).map V.int)) (t' := s.toks) (fun _ _ q => sortedAll_old q) (Nat.le_succ _) ?_,rfl,q _ (I.hok.fresh (Nat.le_succ _))⟩
  refine ⟨Nat.le_of_lt (small1000 (by rw [List.length_map,sortZ_len]; omega)),out.toList,e,vals_ints a1,?_⟩
  simpa [seqObj] using he
where
  isList_of {h : Heap} {a : Addr} {its : List Value} (pl : PlainL h a its.toArray) : h.IsList a its.toArray := by
    first | exact pl.isList | exact pl.1 | exact pl
theorem sqL_isList {pins : List (Addr × Obj)} {σ : St} {H : Hp} {s : Shared} {p : Addr} {xs : List V} (I : Inv X pins σ H s) (h : SqL X.K H p xs) : ∃ its : List Value,Vals xs its ∧ s.heap.IsList p its.toArray := by
  obtain ⟨its,rv,⟨o,n,h1,h2,h3,h4⟩,_⟩ := I.list h
  exact ⟨its,rv,o,h1,h2,n,h4⟩
theorem bools_of : ∀ {bs : List Bool} {us : List Value},Vals (bs.map V.bl) us → LSm.BoolsAre us bs
  | [],us,h => by cases h; exact .nil
  | b :: bs,us,h => by
    cases h with
    | cons r1 r2 => cases (show _ = Value.bool b from r1); exact .cons b (bools_of r2)
theorem call_allB (hc : X.calm = true) : CallR X (.builtin "all") (fun xs H Q => ∃ (p : Addr) (bs : List Bool),xs = [.ref p] ∧ SqL X.K H p (bs.map V.bl) ∧ Q (.bl (bs.all id)) H) := by
  intro pins s σ H xs us Q I r h
  obtain ⟨p,bs,rfl,hS,q⟩ := h
  obtain ⟨u,rfl,ru⟩ := vals1 r
  cases ru
  obtain ⟨its,rv,hl⟩ := sqL_isList I hS
  have truths := bools_of rv
  have below : p < s.heap.objs.size := by obtain ⟨_,at_p,_⟩ := hl; exact Heap.lt_size at_p
  refine call_all_walk (wpAny_pyIter_list hl ⟨s.heap.objs.size,[s.heap.objs.size,p],[s.heap.objs.size],its.toArray.size,_,_,fun j => (bs[j]?).getD true,rfl,Walks.list (A := X.A.in1) (I.ok.hd hc) _ p (Nat.ne_of_lt below) its.toArray,
    ⟨⟨_,Heap.get?_push_size _ rfl,rfl,rfl⟩,hl.push _⟩,fun j u s₁ Q₁ E₁ at_j want => ?_,fun hp tk₁ kept => ?_⟩)
  · obtain ⟨b,is_b,rfl⟩ := truths.get j u (by simpa using at_j)
    simp only [is_b,Option.getD_some] at want
    exact wpAny_truthy_bool want
  · have same : ((List.range its.toArray.size).all fun j => (bs[j]?).getD true) = bs.all id := by rw [List.size_toArray,truths.length]; exact LSm.range_all bs
    rw [same]
    exact ⟨.bl (bs.all id),H,I.kept (LSm.kept_iter kept),rfl,q⟩
end
theorem reps_ints_of {G : Hp} : ∀ {ns : List Int} {xs : List V},Reps G (ns.map D.int) xs → xs = ns.map V.int
  | [],xs,h => by rw [List.map_nil,Reps] at h; subst h; rfl
  | n :: r,xs,h => by rw [List.map_cons,Reps] at h; obtain ⟨v,vs,rfl,h1,h2⟩ := h; rw [rep_int_of h1,reps_ints_of h2]; rfl
theorem reps_bls_of {G : Hp} : ∀ {ns : List Bool} {xs : List V},Reps G (ns.map D.bl) xs → xs = ns.map V.bl
  | [],xs,h => by rw [List.map_nil,Reps] at h; subst h; rfl
  | n :: r,xs,h => by rw [List.map_cons,Reps] at h; obtain ⟨v,vs,rfl,h1,h2⟩ := h; rw [rep_bl_of h1,reps_bls_of h2]; rfl
def fSortI : List D → (List D → Prop) → Prop := fun ds q => match ds with
  | [.lst xs] => ∃ ns : List Int,xs = ns.map D.int ∧ ns.length < 64 ∧ q ((sortZ ns).map D.int)
  | _ => False
theorem dSortI {K : PySem.W.Frag} : DNew (rSortI K) fSortI := fun G H xs ds q Q s p hf k => by
  unfold fSortI at hf
  split at hf
  · obtain ⟨v,rfl,p1⟩ := reps_one p
    obtain ⟨a,xs,rfl,h1,h2⟩ := rep_lst_of p1
    obtain ⟨ns,rfl,hl,hq⟩ := hf
    rw [reps_ints_of h2] at h1
    exact ⟨a,ns,rfl,SqL.of (s _ _ h1),hl,fun l hl => k _ _ l hq (reps_ints _) hl⟩
  · exact hf.elim
def fAll : List D → (D → Prop) → Prop := fun ds q => match ds with
  | [.lst xs] => ∃ bs : List Bool,xs = bs.map D.bl ∧ q (.bl (bs.all id))
  | _ => False
theorem dAll {K : PySem.W.Frag} : DCall (fun xs H Q => ∃ (p : Addr) (bs : List Bool),xs = [.ref p] ∧ SqL K H p (bs.map V.bl) ∧ Q (.bl (bs.all id)) H) fAll := fun G H xs ds q Q s p hf k => by
  unfold fAll at hf
  split at hf
  · obtain ⟨v,rfl,p1⟩ := reps_one p
    obtain ⟨a,xs,rfl,h1,h2⟩ := rep_lst_of p1
    obtain ⟨bs,rfl,hq⟩ := hf
    rw [reps_bls_of h2] at h1
    exact ⟨a,bs,rfl,SqL.of (s _ _ h1),k _ _ hq (rep_bl _)⟩
  · exact hf.elim
section
variable {C : Ctx} {ow : List Bool} {G : Hp} {ρ : DSt} {σ : St} {H : Hp} {pd : List (D × V)} {O : Own}
end
section
variable {ow : List Bool} {t : TE} {m : ME}
theorem SF.bor (js : List Nat) (s : SF (L2.bor js ow) t m) : SF ow t m := fun C G ρ σ H pd q Q r hm k => by
  obtain ⟨O,r⟩ := r
  refine s _ _ ρ σ H pd _ _ ⟨_,r.enter js⟩ hm fun d ρ' v G' H' hq s kp r' => ?_
  obtain ⟨O',r'⟩ := r'
  obtain ⟨r2,s2,ts⟩ := r.leave r' kp
  exact k d ρ' v _ H' hq s2 (kp_bor kp) ⟨_,r2⟩
end
section
variable {X : Cx} {M : Md} {a b c e : Expr} {ma mb mc : ME} {pos pos' : Pos} {mr : MA} {es : List Expr}
theorem qs_setCompBO {g : TG} {mg : MG} {mt : MT} {me : ME} {mi : MA} {tg iter elt : Expr} {ifs : List Expr} {scope : Scope} {cl : List (Str × Addr)} {i : Nat} {y : Str} {spos py : Pos} (bs : List Nat) (own : List Str) (js : List Nat) (c : CompOk X scope cl own js) (hc : X.calm = true) (hN : X.N.Nodup) (hy : X.N[i]? = some y) (hx : Loc X.env.scope y) (hi : QI X (bor bs M.ow) tg iter mi) (cg : CG own.length g mg)
    (inner : ∀ (C : Addr) (s₀ : Shared) (H₀ : Hp) (ex : List Addr),CInn (compCx X scope cl (nam0 X own js) C s₀ H₀ ex) tg ifs elt g mt me) (hj : ∀ j ∈ js,(bor bs M.ow)[j]? ≠ some true := by decide) (ho : M.ow[i]? = some true := by decide) (hu : M.mu[i]? ≠ some true := by decide)
    (hsw : swapsWith (.ListComp elt [⟨tg,iter,ifs,0⟩] scope pos) (some (.Name y py)) spos.line X.env = pure true := by rfl)
    (hs : ∀ x,foldedSetIterable iter X.env x = pure x := by intro _; rfl) (hf : X.fn y = true ∨ X.env.scope.names.lookup y = some .local := by first | exact .inl rfl | exact .inr rfl | assumption) :
    QS X M (.Assign [.Name y py] (.ListComp elt [⟨tg,iter,ifs,0⟩] scope pos) spos) (mSet i (mComp mi mg mt me own.length js)) := by
  obtain ⟨wi,pi,si⟩ := hi
  exact ⟨_,ps_setComp own js c hc hN hy hx pi (fun C s₀ H₀ ex => ⟨(inner C s₀ H₀ ex).pg,(inner C s₀ H₀ ex).qi.can,(inner C s₀ H₀ ex).qe.can⟩) hsw hs hf,ss_setO (SF.bor bs (comp_sf si cg hj)) ho hu⟩
def mSetN (i c : Nat) (mk m : ME) : MS := fun n ρ => m ρ fun d ρ1 => imm d = true ∧ match ρ1[i]? with
  | some (some (.tup es)) => match es[c]? with
    | some (.lst _) => mk ρ1 fun k ρ2 => match ρ2[i]? with
      | some (some (.tup es)) => match es[c]? with
        | some (.lst ds) => match k with
          | .int j => match ixN ds.length j with
            | some p => n.nx (ρ2.set i (some (.tup (es.set c (.lst (ds.set p d))))))
            | none => False
          | _ => False
        | _ => False
      | _ => False
    | _ => False
  | _ => False
def mPop (i : Nat) : ME := fun ρ q => match ρ[i]? with
  | some (some (.lst ds)) => match ds[ds.length - 1]? with
    | some d => imm d = true ∧ q d (ρ.set i (some (.lst ds.dropLast)))
    | none => False
  | _ => False
theorem imms_ints (ns : List Int) : imms (ns.map D.int) = true := by
  induction ns with
  | nil => rfl
  | cons n r ih => simp only [List.map,imms,imm,ih]; rfl
end
def mCut (m : MS) : MS := fun n ρ => ∃ I : DSt → Prop,m { n with nx := I } ρ ∧ ∀ ρ',I ρ' → n.nx ρ'
theorem qs_cut {X : Cx} {M : Md} {st : Stmt} {m : MS} (h : QS X M st m) : QS X M st (mCut m) := by
  obtain ⟨t,p,s⟩ := h
  refine ⟨_,p,fun C G ρ σ H n D hm hn r h k => ?_⟩
  obtain ⟨I,h1,h2⟩ := h
  exact s C G ρ σ H _ D hm hn r h1 ⟨fun ρ' σ' G' H' hi => k.nx ρ' σ' G' H' (h2 ρ' hi),k.bk,k.ct,k.rt⟩
mutual
theorem Sep.strip {G H : Hp} {O O' : Own} {i i' : Nat} {sfx : List Nat} :
    ∀ (d : D) (π : List Nat) (v : V),(∀ a τ,O a = some (i,(τ ++ π) ++ sfx) → O' a = some (i',τ ++ π)) → Sep G H O i d (π ++ sfx) v → Sep G H O' i' d π v
  | .non,_,_,_,h => by rw [Sep] at *; exact h
  | .bl b,_,_,_,h => by rw [Sep] at *; exact h
  | .int n,_,_,_,h => by rw [Sep] at *; exact h
  | .str x,_,_,_,h => by rw [Sep] at *; exact h
  | .tup ds,π,v,hO,h => by
    rw [Sep] at *
    obtain ⟨a,xs,h1,h2,h3⟩ := h
    exact ⟨a,xs,h1,h2,Seps.strip ds 0 π xs (fun a τ => hO a τ) h3⟩
  | .lst ds,π,v,hO,h => by
    rw [Sep] at *
    obtain ⟨a,xs,h1,h2,h3,h4⟩ := h
    exact ⟨a,xs,h1,hO a [] h2,h3,Seps.strip ds 0 π xs (fun a τ => hO a τ) h4⟩
  | .dic ks ds,π,v,hO,h => by
    rw [Sep] at *
    obtain ⟨a,xs,h1,h2,h3,h5,h4⟩ := h
    exact ⟨a,xs,h1,hO a [] h2,h3,h5,Seps.strip ds 0 π xs (fun a τ => hO a τ) h4⟩
  | .dct,_,_,_,h => by rw [Sep] at h; exact h.elim
  | .scr _ _,_,_,_,h => by rw [Sep] at h; exact h.elim
  | .ext _,_,_,_,h => by rw [Sep] at h; exact h.elim
theorem Seps.strip {G H : Hp} {O O' : Own} {i i' : Nat} {sfx : List Nat} :
    ∀ (ds : List D) (k : Nat) (π : List Nat) (xs : List V),(∀ a τ,O a = some (i,(τ ++ π) ++ sfx) → O' a = some (i',τ ++ π)) → Seps G H O i ds k (π ++ sfx) xs → Seps G H O' i' ds k π xs
  | [],_,_,_,_,h => by rw [Seps] at *; exact h
  | d :: ds,k,π,xs,hO,h => by
    rw [Seps] at *
    obtain ⟨v,vs,h1,h2,h3⟩ := h
    refine ⟨v,vs,h1,Sep.strip d (k :: π) v (fun a τ e => ?_) h2,Seps.strip ds (k + 1) π vs hO h3⟩
    have e' : τ ++ k :: π = (τ ++ [k]) ++ π := by simp
    rw [e'] at e ⊢
    exact hO a (τ ++ [k]) e
end
section
variable {C : Ctx} {ow : List Bool} {G : Hp} {ρ : DSt} {σ : St} {H : Hp} {pd : List (D × V)} {O : Own}
theorem RO.split {ds : List D} {v : V} (h : RO C ow G ρ σ H ((.tup ds,v) :: pd) O) (hn : C.np ≤ pd.length) : ∃ a xs,v = .ref a ∧ G a = some (.tup xs) ∧ xs.length = ds.length ∧ R C ow G ρ σ H (ds.zip xs ++ pd) := by
  obtain ⟨s,pn⟩ := h.pn
  rw [Sep] at s
  obtain ⟨a,xs,rfl,hG,hs⟩ := s
  have hl := hs.length
  refine ⟨a,xs,rfl,hG,hl,lab (fun l π => if l = 2 * pd.length + 1 then (2 * (pd.length + (ds.length - 1 - π.getLastD 0)) + 1,π.dropLast) else (l,π)) O,h.len,h.gh,h.g0,h.gn,?_,h.cok,h.fr,h.al,h.mp,?_,?_,by simp; omega⟩
  · intro b m e
    obtain ⟨l,π,e1,rfl⟩ := lab_of e
    obtain ⟨q1,q2,q3⟩ := h.og b _ e1
    refine ⟨q1,q2,?_⟩
    split
    · rename_i z
      rcases q3 with q3 | ⟨_,q3⟩
      · exact .inl q3
      · rcases h.cok _ _ _ q3 with ⟨k,_,q4,_⟩ | ⟨k,q4,q5⟩
        · exact absurd (q4.symm.trans z) even_ne
        · omega
    · exact q3
  · intro j e q
    obtain ⟨u,h1,h2⟩ := h.sl j e q
    refine ⟨u,h1,?_⟩
    split at h2
    · rename_i c; rw [if_pos c]; exact h2.keep (fun _ _ z => z) fun a τ q => ⟨by rw [lab_at q,if_neg even_ne],rfl⟩
    · rename_i c; rw [if_neg c]; exact h2
  · have old : ∀ (O' : Own),(∀ b j π,j < pd.length → O b = some (2 * j + 1,π) → O' b = some (2 * j + 1,π)) → Pend G H O' pd := fun O' hO => Pend.keep (fun _ _ z => z) (fun b j π hj q => ⟨hO b j π hj q,rfl⟩) pn
    have key : ∀ (ds0 : List D) (k : Nat) (xs0 : List V) (O' : Own),k + ds0.length = ds.length → Seps G H O (2 * pd.length + 1) ds0 k [] xs0 →
        (∀ b j π,j < pd.length → O b = some (2 * j + 1,π) → O' b = some (2 * j + 1,π)) → (∀ b τ k',O b = some (2 * pd.length + 1,τ ++ [k']) → O' b = some (2 * (pd.length + (ds.length - 1 - k')) + 1,τ)) → Pend G H O' (ds0.zip xs0 ++ pd) := by
      intro ds0
      induction ds0 with
      | nil => intro k xs0 O' _ _ ho _; exact old O' ho
      | cons d0 r ih =>
        intro k xs0 O' hk hh ho hnw
        rw [Seps] at hh
        obtain ⟨w,ws,rfl,w1,w2⟩ := hh
        have hwl := w2.length
        refine ⟨?_,ih (k + 1) ws O' (by simp at hk; omega) w2 ho hnw⟩
        have e : (List.zip r ws ++ pd).length = pd.length + (ds.length - 1 - k) := by simp at hk ⊢; omega
        show Sep G H O' (2 * (List.zip r ws ++ pd).length + 1) d0 [] w
        rw [e]
        exact Sep.strip (sfx := [k]) d0 [] w (fun b τ q => by simpa using hnw b τ k (by simpa using q)) w1
    refine key ds 0 xs _ (by omega) hs (fun b j π hj q => by rw [lab_at q,if_neg (by omega)]) (fun b τ k' q => ?_)
    rw [lab_at q,if_pos rfl]
    simp
end
def SGF (M : Md) (g : TGs) (m : MGs) : Prop := ∀ (C : Ctx) (G : Hp) (ρ : DSt) (σ : St) (H : Hp) (T pd : List (D × V)) (k : DSt → Prop) (K : St → Hp → Prop),MuOk C M.mu → C.np ≤ pd.length → R C M.ow G ρ σ H (T ++ pd) → m (T.map (·.1)) ρ k →
  (∀ ρ' σ' G',k ρ' → Same G G' → R C M.ow G' ρ' σ' H pd → K σ' H) → g (T.map (·.2)) σ H K
structure QGF (X : Cx) (M : Md) (e : List Expr) (m : MGs) : Prop where
  ex : ∃ t,PGs X e t ∧ SGF M t m
section
variable {X : Cx} {M : Md} {a b c e : Expr} {ma mb mc : ME} {pos pos' : Pos} {mr : MA} {es : List Expr} {mgs : MGs}
theorem qgf_nil : QGF X M [] gmNil := ⟨_,pgs_nil,fun C G ρ σ H T pd k K hm hn r h kk => by
  cases T with
  | nil => exact ⟨rfl,kk _ _ G h (Same.refl _) r⟩
  | cons _ _ => exact h.elim⟩
theorem qgf_own {i : Nat} {x : Str} (hN : X.N.Nodup) (hi : X.N[i]? = some x) (hx : Loc X.env.scope x) (h2 : QGF X M es mgs) (ho : M.ow[i]? = some true := by decide) (hu : M.mu[i]? ≠ some true := by decide) (hf : X.fn x = true ∨ X.env.scope.names.lookup x = some .local := by first | exact .inl rfl | exact .inr rfl | assumption)
    (hs : (assignEach (.Name x pos :: es) X.env).map (·.2) = assign (.Name x pos) X.env :: (assignEach es X.env).map (·.2) := by rfl) : QGF X M (.Name x pos :: es) (gmCons (gmName i) mgs) := by
  obtain ⟨t2,p2,s2⟩ := h2
  refine ⟨_,pgs_cons (pg_name hN hi hx hf) p2 hs,fun C G ρ σ H T pd k K hm hn r h kk => ?_⟩
  cases T with
  | nil => exact h.elim
  | cons x T =>
    obtain ⟨O,r⟩ := r
    exact ⟨_,_,rfl,s2 C G _ _ H T pd k K hm hn (r.setO ho (hm.no hu) (by simp; omega)) h kk⟩
theorem qgf_sh {i : Nat} {x : Str} (hN : X.N.Nodup) (hi : X.N[i]? = some x) (hx : Loc X.env.scope x) (h2 : QGF X M es mgs) (ho : M.ow[i]? ≠ some true := by decide) (hu : M.mu[i]? ≠ some true := by decide) (hf : X.fn x = true ∨ X.env.scope.names.lookup x = some .local := by first | exact .inl rfl | exact .inr rfl | assumption)
    (hs : (assignEach (.Name x pos :: es) X.env).map (·.2) = assign (.Name x pos) X.env :: (assignEach es X.env).map (·.2) := by rfl) : QGF X M (.Name x pos :: es) (gmCons (gmName i) mgs) := by
  obtain ⟨t2,p2,s2⟩ := h2
  refine ⟨_,pgs_cons (pg_name hN hi hx hf) p2 hs,fun C G ρ σ H T pd k K hm hn r h kk => ?_⟩
  cases T with
  | nil => exact h.elim
  | cons x T =>
    obtain ⟨O,r⟩ := r
    obtain ⟨G2,z2,⟨O2,r2⟩,p⟩ := r.share (by simp; omega)
    exact ⟨_,_,rfl,s2 C G2 _ _ H T pd k K hm hn ⟨O2,r2.setS ho (hm.no hu) p⟩ h fun ρ' σ' G' hk z r' => kk ρ' σ' G' hk (z2.trans z) r'⟩
theorem qs_asgF {kk : Nat} {n : Nat} {tpos : Pos} (hc : X.calm = true) (he : QM X M e ma) (hg : QGF X M es mgs) (ht : takes n mgs)
    (hn : (assignEach es X.env).length = n := by rfl) (hst : (assignEach es X.env).findIdx? (·.1) = none := by rfl)
    (hs : swapsWithSole [.Tuple es kk tpos] e pos.line X.env = pure false := by rfl) (hw : swappedStores [.Tuple es kk tpos] e X.env = pure none := by rfl)
    (h1 : (assignEach [.Tuple es kk tpos] X.env).map (·.2) = [assign (.Tuple es kk tpos) X.env] := by rfl) : QS X M (.Assign [.Tuple es kk tpos] e pos) (mAsg ma (gmTup mgs)) := by
  obtain ⟨t,p,s⟩ := he; obtain ⟨t2,p2,s2⟩ := hg
  refine ⟨_,ps_asg p (pg_tup hc p2 hn hst) hs hw h1,fun C G ρ σ H n D hm hn r h k => s C G ρ σ H [] _ _ hm r h fun d ρ' v G' H' hq z r' => ?_⟩
  cases d with
  | tup ds =>
    obtain ⟨O,r'⟩ := r'
    obtain ⟨a,xs,rfl,h1,h2,r2⟩ := r'.split (by rw [hn]; exact Nat.zero_le _)
    have hl := ht _ _ _ hq
    have e1 : (ds.zip xs).map (·.1) = ds := List.map_fst_zip (by omega)
    have e2 : (ds.zip xs).map (·.2) = xs := List.map_snd_zip (by omega)
    refine ⟨a,xs,rfl,SqT.of (r2.gh _ _ h1),by omega,?_⟩
    have := s2 C G' ρ' σ H' (ds.zip xs) [] n.nx D.nx hm (by rw [hn]; exact Nat.zero_le _) r2 (by rw [e1]; exact hq) fun ρ3 σ3 G3 h3 z3 r3 => k.nx ρ3 σ3 G3 H' h3 (z.trans z3) r3
    rw [e2] at this
    exact this
  | _ => exact hq.elim
theorem qe_pop {i : Nat} {x : Str} {apos cpos npos : Pos} {ow : List Bool} (hN : X.N[i]? = some x) (ho : ow[i]? = some true := by decide)
    (hv : Vis X.env.scope x := by first | exact Or.inl rfl | exact Or.inr (Or.inl rfl) | exact Or.inr (Or.inr rfl)) (hd : (x == ("__debug__" : Str)) = false := by decide) (hcd : (x == ("__classdict__" : Str)) = false := by decide)
    (hbase : attributeBase (.Name x npos) "pop" X.env (eval (.Name x npos) X.env) = eval (.Name x npos) X.env := by rfl) (hline : (apos.endLine == cpos.line) = true := by rfl) :
    QE X ow (.Call (.Attribute (.Name x npos) "pop" apos) [] [] cpos) (mPop i) := by
  refine ⟨_,pe_bm0 PySem.F.plainAttrs_list PySem.F.slot_list_pop PySem.F.type_list_pop mt_pop (pe_var hN hv hd hcd) hbase hline,fun C G ρ σ H pd q Q r h k => ?_⟩
  unfold mPop at h
  split at h
  · rename_i ds e1
    split at h
    · rename_i d e2
      obtain ⟨O,ro⟩ := r
      obtain ⟨a,xs,h1,h2,h3,h4⟩ := ro.write e1 ho
      obtain ⟨v,h5,h6⟩ := h3.at e2
      have hl := h3.length
      refine ⟨.ref a,h1,.inl ⟨rfl,xs,SqL.of h2⟩,a,xs,v,rfl,rfl,h2,by rw [hl]; exact h5,?_⟩
      exact k d _ v G _ h.2 (Same.refl _) (fun j hj => List.getElem?_set_ne (fun (z : i = j) => hj (z ▸ ho))) ⟨O,h4 _ _ h3.front⟩ (h6.imm d _ v h.1)
    · exact h.elim
  · exact h.elim
end
section
variable {X : Cx} {M : Md} {a b c e : Expr} {ma mb mc : ME} {pos pos' : Pos}
def mAugI (i : Nat) (mk m : ME) : MS := fun n ρ => match ρ[i]? with
  | some (some (.lst _)) => mk ρ fun k ρ1 => match k with
    | .int j => match ρ1[i]? with
      | some (some (.lst ds)) => 0 ≤ j ∧ match atI ds j with
        | some (.int x) => m ρ1 fun d ρ2 => match d with
          | .int y => match ρ2[i]? with
            | some (some (.lst ds2)) => match ixN ds2.length j with
              | some p => n.nx (ρ2.set i (some (.lst (ds2.set p (.int (x + y))))))
              | none => False
            | _ => False
          | _ => False
        | _ => False
      | _ => False
    | _ => False
  | _ => False
end
def compM (g : MG) (mt : MT) (me : ME) (ρ0 : DSt) (k0 : Nat) (ds : List D) (d0 : D) (K : List D → D → Prop) : Prop := ∃ I : Nat → List D → D → Prop,I 0 [] d0 ∧
  (∀ i x es d,ds[i]? = some x → I i es d → g x (ρ0.set k0 (some d)) fun ρ2 => mt ρ2 fun b ρ3 => if b = true then me ρ3 fun y ρ4 => (match ρ4[k0]? with | some (some d') => I (i + 1) (es ++ [y]) d' | _ => False) else match ρ3[k0]? with | some (some d') => I (i + 1) es d' | _ => False) ∧
  ∀ es d,I ds.length es d → K es d
def mCompM (mi : MA) (g : MG) (mt : MT) (me : ME) (k : Nat) (js : List Nat) (j0 k0 : Nat) : ME := fun ρ q => mi ρ fun ds ρ1 => ds.length ≤ 1000 ∧ match ρ1[j0]? with
  | some (some d0) => compM g mt me (rho0 k js ρ1) k0 ds d0 fun es d => imms es = true ∧ q (.lst es) (ρ1.set j0 (some d))
  | _ => False
def owM (k0 : Nat) : List Bool := List.replicate k0 false ++ [true]
theorem owM_iff {k0 i : Nat} : (owM k0)[i]? = some true ↔ i = k0 := by
  unfold owM
  by_cases h : i < k0
  · rw [List.getElem?_append_left (by simpa using h),List.getElem?_replicate,if_pos h]
    constructor
    · intro z; cases z
    · intro z; omega
  · rw [List.getElem?_append_right (by simpa using h),List.length_replicate]
    cases e : i - k0 with
    | zero => simp; omega
    | succ m => simp; omega
def muM (k0 : Nat) (v : V) : List (Option V) := List.replicate k0 none ++ [some v]
theorem muM_iff {k0 i : Nat} {v w : V} (h : (muM k0 v)[i]? = some (some w)) : i = k0 ∧ w = v := by
  unfold muM at h
  by_cases c : i < k0
  · rw [List.getElem?_append_left (by simpa using c),List.getElem?_replicate,if_pos c] at h; cases h
  · rw [List.getElem?_append_right (by simpa using c),List.length_replicate] at h
    cases e : i - k0 with
    | zero => rw [e] at h; simp at h; exact ⟨by omega,h.symm⟩
    | succ m => rw [e] at h; simp at h
theorem muM_at (k0 : Nat) (v : V) : (muM k0 v)[k0]? = some (some v) := by unfold muM; rw [List.getElem?_append_right (by simp)]; simp
theorem rho0_of {k : Nat} {js : List Nat} {ρ : DSt} {i : Nat} {d : D} (e : (rho0 k js ρ)[i]? = some (some d)) : k ≤ i ∧ ∃ j,js[i - k]? = some j ∧ ρ[j]? = some (some d) := by
  unfold rho0 at e
  by_cases c : i < k
  · rw [List.getElem?_append_left (by simpa using c),List.getElem?_replicate] at e
    split at e <;> cases e
  · rw [List.getElem?_append_right (by simpa using c),List.getElem?_map] at e
    simp only [List.length_replicate] at e
    refine ⟨by omega,?_⟩
    cases z : js[i - k]? with
    | none => rw [z] at e; cases e
    | some j =>
      rw [z] at e
      have e' : (ρ[j]?).getD none = some d := Option.some.inj e
      refine ⟨j,rfl,?_⟩
      cases w : ρ[j]? with
      | none => rw [w] at e'; cases e'
      | some o => rw [w] at e'; exact congrArg some e'
theorem sig0_at {own : List Str} {js : List Nat} {σ : St} {i j : Nat} {v : V} (hi : own.length ≤ i) (hj : js[i - own.length]? = some j) (hv : σ[j]? = some (some v)) : (sig0 own js σ)[i]? = some (some v) := by
  unfold sig0
  rw [List.getElem?_append_right (by simpa using hi),List.getElem?_map]
  simp only [List.length_map]
  rw [hj,show (some j).map _ = some ((σ[j]?).getD none) from rfl,hv]; rfl
structure CGM (k0 n : Nat) (g : TG) (m : MG) : Prop where
  sg : SG ⟨owM k0,owM k0,false⟩ g m
  kp : KeepG n g
  mn : MonG g
theorem cgm_name {k0 n : Nat} (i : Nat) (h : i < n := by decide) (hk : n ≤ k0 := by decide) : CGM k0 n (gName i) (gmName i) :=
  ⟨fun C G ρ σ H pd d v k K hm r p hh kk => by
    have hn : (owM k0)[i]? ≠ some true := fun z => by have := owM_iff.mp z; omega
    obtain ⟨O,r⟩ := r; exact kk _ _ hh ⟨O,r.setS hn (hm.no hn) p⟩,
   fun σ0 h0 σ x H k hk hg => ⟨kept_set hk (h0 i h),hg⟩,fun x σ H k k' hk h => hk _ _ h⟩
theorem comp_soundM {ow : List Bool} {J : It} {g : TG} {mg : MG} {tt : TT} {mt : MT} {te : TE} {me : ME} {C : Ctx} {G : Hp} {ρ : DSt} {σ : St} {H : Hp} {pd : List (D × V)} {ds : List D} {own : List Str} {js : List Nat} {j0 k0 : Nat} {d0 : D} {K : List D → D → Prop} {Z : List V → Hp → Prop}
    (r : R C ow G ρ σ H pd) (ho : ow[j0]? = some true) (hk0 : own.length ≤ k0) (hjk : js[k0 - own.length]? = some j0) (hj : ∀ (i j : Nat),js[i]? = some j → i ≠ k0 - own.length → ow[j]? ≠ some true) (he : ρ[j0]? = some (some d0)) (jo : ItOk J G ds) (cg : CGM k0 own.length g mg) (st : STe (owM k0) tt mt) (se : SE (owM k0) te me)
    (hl : ds.length ≤ 1000) (h : compM mg mt me (rho0 own.length js ρ) k0 ds d0 K)
    (k : ∀ es d vs G' H',K es d → Same G G' → R C ow G' (ρ.set j0 (some d)) σ H' pd → Reps G' es vs → vs.length ≤ 1000 → Z vs H') : CompW J g tt te (sig0 own js σ) H Z := by
  obtain ⟨O,ro⟩ := r
  obtain ⟨v0,hv0,sv0⟩ := ro.sl j0 d0 he
  rw [if_pos ho] at sv0
  let fin : Nat → Option Nat := fun l => if l = 2 * j0 then some (2 * k0) else none
  let fbk : Nat → Option Nat := fun l => if l = 2 * k0 then some (2 * j0) else none
  let C1 : Ctx := ⟨G,H,ownM fin O,muM k0 v0,0⟩
  let ρ0 := rho0 own.length js ρ
  have s0k : (sig0 own js σ)[k0]? = some (some v0) := sig0_at hk0 hjk hv0
  have r0l : k0 < ρ0.length := by
    have : k0 - own.length < js.length := (List.getElem?_eq_some_iff.mp hjk).1
    show k0 < (rho0 own.length js ρ).length
    unfold rho0; simp; omega
  have fino : ∀ l l',fin l = some l' → l = 2 * j0 ∧ l' = 2 * k0 := fun l l' e => by
    change (if l = 2 * j0 then _ else _) = _ at e
    split at e
    · rename_i c; exact ⟨c,(Option.some.inj e).symm⟩
    · cases e
  have finj : fin (2 * j0) = some (2 * k0) := by show (if _ then _ else _) = _; rw [if_pos rfl]
  -- the inner state,by the owned slot's value
  have inner : ∀ {G' : Hp} {H' : Hp} {O' : Own} {d : D},Same G G' → Same G' H' → (∀ a o,G' a = some o → G a = some o ∨ H a = none) → (∀ a l,O' a = some l → G' a = none ∧ (∃ xs : WrO,H' a = some xs.ho) ∧ Nw C1 a l.1) →
      (∀ a o,H a = some o → ownM fin O a = none → H' a = some o) → (∀ a,H' a = none → H a = none) → Sep G' H' O' (2 * k0) d [] v0 → RO C1 (owM k0) G' (ρ0.set k0 (some d)) (sig0 own js σ) H' [] O' := by
    intro G' H' O' d z gh gn og fr al sp
    refine ⟨by rw [List.length_set]; show (rho0 own.length js ρ).length = _; unfold rho0 sig0; simp,gh,z,gn,og,?_,fr,al,?_,?_,trivial,Nat.le_refl _⟩
    · intro a l π e
      obtain ⟨l0,e1,e2⟩ := ownM_of e
      obtain ⟨_,rfl⟩ := fino _ _ e2
      exact .inl ⟨k0,v0,rfl,muM_at k0 v0⟩
    · intro i w e
      obtain ⟨rfl,rfl⟩ := muM_iff e
      exact s0k
    · intro i d' e
      rcases set_at e with ⟨rfl,e'⟩ | ⟨hne,e'⟩
      · cases e'
        exact ⟨v0,s0k,by rw [if_pos (owM_iff.mpr rfl)]; exact sp⟩
      · obtain ⟨hi,j,h1,h2⟩ := rho0_of e'
        obtain ⟨v,g1,g2⟩ := ro.sl j d' h2
        rw [if_neg (hj _ j h1 (by omega))] at g2
        exact ⟨v,sig0_at hi h1 g1,by rw [if_neg (fun zz => hne (owM_iff.mp zz))]; exact g2.mono z⟩
  have og1 : ∀ a l,ownM fin O a = some l → G a = none ∧ (∃ xs : WrO,H a = some xs.ho) ∧ Nw C1 a l.1 := fun a l e => by
    obtain ⟨l',π⟩ := l
    obtain ⟨l0,e1,e2⟩ := ownM_of e
    obtain ⟨q1,q2,_⟩ := ro.og a _ e1
    exact ⟨q1,q2,.inr ⟨π,e⟩⟩
  have start : R C1 (owM k0) G (ρ0.set k0 (some d0)) (sig0 own js σ) H [] := ⟨_,inner (Same.refl _) ro.gh (fun _ _ e => .inl e) og1 (fun _ _ e _ => e) (fun _ e => e) (sv0.keep (fun _ _ z => z) fun a τ q => ⟨ownM_at q finj,rfl⟩)⟩
  obtain ⟨I,i0,turn,fini⟩ := h
  have hmu : MuOk C1 (owM k0) := fun i v e => by obtain ⟨rfl,_⟩ := muM_iff e; exact owM_iff.mpr rfl
  refine ⟨fun i m acc H' => m = ds.length - i ∧ i ≤ ds.length ∧ acc.length ≤ i ∧ ∃ G' es d,Same G G' ∧ R C1 (owM k0) G' (ρ0.set k0 (some d)) (sig0 own js σ) H' [] ∧ Reps G' es acc ∧ I i es d,⟨_,rfl,Nat.zero_le _,Nat.le_refl _,G,[],d0,Same.refl _,start,reps_nil,i0⟩,?_⟩
  rintro i m acc H' ⟨rfl,hi,ha,G',es,d,z,r',pa,w⟩
  obtain ⟨sp,go⟩ := jo C1 (owM k0) G' _ _ H' [] i z r'
  by_cases hlt : i < ds.length
  · obtain ⟨g1,g2⟩ := go ds[i] (List.getElem?_eq_getElem hlt)
    refine .inr ⟨g1,small1000 (by omega),fun acc' H2 => acc'.length ≤ i + 1 ∧ ∃ G2 es2 d2,Same G G2 ∧ R C1 (owM k0) G2 (ρ0.set k0 (some d2)) (sig0 own js σ) H2 [] ∧ Reps G2 es2 acc' ∧ I (i + 1) es2 d2,fun acc' H2 h => ⟨ds.length - (i + 1),by omega,rfl,hlt,h.1,h.2⟩,fun x H1 hy => ?_⟩
    obtain ⟨G1,z1,r1,p1⟩ := g2 x H1 hy
    have step1 := cg.sg C1 G1 _ _ H1 [] ds[i] x _ (fun σ2 H2 => ∃ ρ2,(mt ρ2 fun b ρ3 => if b = true then me ρ3 fun y ρ4 => (match ρ4[k0]? with | some (some d') => I (i + 1) (es ++ [y]) d' | _ => False) else match ρ3[k0]? with | some (some d') => I (i + 1) es d' | _ => False) ∧ R C1 (owM k0) G1 ρ2 σ2 H2 []) hmu r1 p1 (turn i ds[i] es d (List.getElem?_eq_getElem hlt) w) (fun ρ2 σ2 h2 r2 => ⟨ρ2,h2,r2⟩)
    refine cg.mn _ _ _ _ _ ?_ (cg.kp (sig0 own js σ) sig0_none (sig0 own js σ) x H1 _ (kept_refl _) step1)
    rintro σ2 H2 ⟨hkp,ρ2,h2,r2⟩
    refine ⟨hkp,st C1 G1 ρ2 σ2 H2 [] _ _ r2 h2 fun b ρ3 G3 H3 h3 z3 kp3 r3 => ?_⟩
    have bk : ∀ {G4 : Hp} {ρ4 : DSt} {H4 : Hp} {d' : D},ρ4[k0]? = some (some d') → R C1 (owM k0) G4 ρ4 σ2 H4 [] → R C1 (owM k0) G4 (ρ0.set k0 (some d')) (sig0 own js σ) H4 [] := fun e4 ⟨O4,r4⟩ => by
      obtain ⟨v,q1,q2⟩ := r4.sl k0 _ e4
      rw [if_pos (owM_iff.mpr rfl)] at q2
      rw [kept_get hkp k0 v0 s0k] at q1
      cases q1
      exact ⟨O4,inner r4.g0 r4.gh r4.gn r4.og r4.fr r4.al q2⟩
    cases b with
    | true =>
      rw [if_pos rfl] at h3 ⊢
      refine se C1 G3 ρ3 σ2 H3 [] _ _ r3 h3 fun y ρ4 v G4 H4 h4 z4 kp4 r4 p4 => ?_
      split at h4
      · rename_i d' e4
        exact ⟨by simp; omega,G4,es ++ [y],d',z.trans (z1.trans (z3.trans z4)),bk e4 r4,reps_app (Reps.mono (z1.trans (z3.trans z4)) _ _ pa) (reps_cons p4 reps_nil),h4⟩
      · exact h4.elim
    | false =>
      rw [if_neg (by decide)] at h3 ⊢
      split at h3
      · rename_i d' e4
        exact ⟨by omega,G3,es,d',z.trans (z1.trans z3),bk e4 r3,Reps.mono (z1.trans z3) _ _ pa,h3⟩
      · exact h3.elim
  · have e : i = ds.length := by omega
    subst e
    refine .inl ⟨sp (Nat.le_refl _),le_line (by omega),?_⟩
    obtain ⟨O2,r2⟩ := r'
    refine k es d acc G' H' (fini es d w) z ⟨ownB fin fbk O O2,?_⟩ pa (by omega)
    refine ro.out (vs := []) r2 ?_ (by rw [List.length_set]; exact ro.len) ro.np ?_ ?_ fun O3 h1 h2 ts => ?_
    · intro l0 l' l e1 e2
      obtain ⟨rfl,rfl⟩ := fino _ _ e1
      change (if 2 * k0 = 2 * k0 then _ else _) = _ at e2
      rw [if_pos rfl] at e2
      exact (Option.some.inj e2).symm
    · intro i d' c e
      rcases set_at e with ⟨rfl,_⟩ | ⟨_,e'⟩
      · exact absurd ho c
      · exact e'
    · intro i d' c e
      rcases set_at e with ⟨rfl,e'⟩ | ⟨hne,e'⟩
      · cases e'
        exact .inr ⟨k0,v0,by show (if _ then _ else _) = _; rw [if_pos rfl],owM_iff.mpr rfl,by rw [List.getElem?_set_self r0l],hv0,s0k⟩
      · exact .inl ⟨by show (if _ then _ else _) = _; rw [if_neg (by omega)],e'⟩
    · exact Pend.keep ts (fun a j π hj e => h1 a _ _ e (by show (if _ then _ else _) = _; rw [if_neg (by omega)])) ro.pn
section
variable {X : Cx} {ow : List Bool} {elt tg iter : Expr} {ifs : List Expr} {pos : Pos} {mi : MA} {mg : MG} {mt : MT} {me : ME} {scope : Scope} {cl : List (Str × Addr)}
theorem comp_sfM {wi : TI} {g : TG} {own : List Str} {js : List Nat} {j0 k0 : Nat} (si : SI ow wi mi) (cg : CGM k0 own.length g mg) (ho : ow[j0]? = some true) (hk0 : own.length ≤ k0) (hjk : js[k0 - own.length]? = some j0) (hj : ∀ (i j : Nat),js[i]? = some j → i ≠ k0 - own.length → ow[j]? ≠ some true) :
    SF ow (tComp wi g (canT (owM k0) mt) (canE (owM k0) me) own js) (mCompM mi mg mt me own.length js j0 k0) := fun C G ρ σ H pd q Q r h k =>
  si C G ρ σ H pd _ _ r h fun ds ρ' G' H' J hq z kp r' jo => by
    obtain ⟨hl,hq⟩ := hq
    split at hq
    · rename_i d0 e0
      refine comp_soundM r' ho hk0 hjk hj e0 jo cg can_st can_se hl hq fun es d vs G2 H2 hK z2 r2 p2 hl p hp => ?_
      obtain ⟨O2,r2⟩ := r2
      exact k _ _ _ _ _ hK.2 (z.trans z2) (kp.trans fun j hj => List.getElem?_set_ne (fun (zz : j0 = j) => hj (zz ▸ ho))) (r2.newL hp hK.1 p2)
    · exact hq.elim
structure CInnM (X : Cx) (k0 : Nat) (tg : Expr) (ifs : List Expr) (elt : Expr) (g : TG) (mt : MT) (me : ME) : Prop where
  pg : PG X tg g
  qi : QIf X (owM k0) ifs mt
  qe : QE X (owM k0) elt me
theorem qf_compM {g : TG} (own : List Str) (js : List Nat) (j0 k0 : Nat) (c : CompOk X scope cl own js) (hc : X.calm = true) (hi : QI X ow tg iter mi) (cg : CGM k0 own.length g mg)
    (inner : ∀ (C : Addr) (s₀ : Shared) (H₀ : Hp) (ex : List Addr),CInnM (compCx X scope cl (nam0 X own js) C s₀ H₀ ex) k0 tg ifs elt g mt me) (ho : ow[j0]? = some true := by decide) (hk0 : own.length ≤ k0 := by decide) (hjk : js[k0 - own.length]? = some j0 := by rfl)
    (hj : (js.mapIdx fun i j => decide (i = k0 - own.length) || !decide (ow[j]? = some true)).all id = true := by decide)
    (hs : ∀ x,foldedSetIterable iter X.env x = pure x := by intro _; rfl) : QF X ow (.ListComp elt [⟨tg,iter,ifs,0⟩] scope pos) (mCompM mi mg mt me own.length js j0 k0) := by
  obtain ⟨wi,pi,si⟩ := hi
  have hj' : ∀ (i j : Nat),js[i]? = some j → i ≠ k0 - own.length → ow[j]? ≠ some true := fun i j e hne z => by
    rw [List.all_eq_true] at hj
    have := hj (decide (i = k0 - own.length) || !decide (ow[j]? = some true)) (List.mem_of_getElem? (i := i) (by rw [List.getElem?_mapIdx,e]; rfl))
    simp [hne,z] at this
  exact ⟨_,pe_comp own js c hc pi (fun C s₀ H₀ ex => ⟨(inner C s₀ H₀ ex).pg,(inner C s₀ H₀ ex).qi.can,(inner C s₀ H₀ ex).qe.can⟩) hs,comp_sfM si cg ho hk0 hjk hj'⟩
end
section
variable {X : Cx} {M : Md} {a b c e : Expr} {ma mb mc : ME} {pos pos' p1 p2 p3 : Pos} {te : TE} {j1 : Nat} {ow : List Bool}
theorem imms_app : ∀ {a b : List D},imms a = true → imms b = true → imms (a ++ b) = true
  | [],b,_,h => h
  | d :: a,b,h,h2 => by rw [imms,Bool.and_eq_true] at h; rw [List.cons_append,imms,h.1,imms_app h.2 h2]; rfl
end
def isW : D → Bool
  | .int _ => true
  | _ => false
def btw (lo hi : Int) : D → Bool
  | .int i => decide (lo ≤ i) && decide (i ≤ hi)
  | _ => false
structure Tree (ps rs : List Int) : Prop where
  len : ps.length = rs.length
  lo : 1 ≤ ps.length
  hi : ps.length ≤ 23
  par : ∀ (i : Nat) (x : Int),ps[i]? = some x → 0 ≤ x ∧ x ≤ i
  room : ∀ (i : Nat) (x : Int),rs[i]? = some x → 1 ≤ x ∧ x ≤ 1000000
def sdWhole : SpD := fun ds q => ∃ d,ds = [d] ∧ d.isS = false ∧ q (.bl (isW d)) []
def sdBetween : SpD := fun ds q => ∃ d lo hi,ds = [d,.int lo,.int hi] ∧ d.isS = false ∧ q (.bl (btw lo hi d)) []
def sdTwoP : SpD := fun ds q => ∃ ps rs,ds = [dPair ps rs] ∧ Tree ps rs ∧ q (.bl true) []
def sdLook : SpD := fun ds q => ∃ ps rs,ds = [dPair ps rs] ∧ Tree ps rs ∧ q .non []
def cellZ (ns : List Int) (k : Int) : Int := ns.getD k.toNat 0
def ScrOk (K : PySem.W.Frag) (φ : Addr → Prop) (ns : List Int) : Prop := ∀ a H,φ a → SqL K H a (ns.map V.int)
def sdCell (K : PySem.W.Frag) : SpD := fun ds q => ∃ φ ns k,ds = [.scr φ ns,.int k] ∧ ScrOk K φ ns ∧ 0 ≤ k ∧ q (.int (cellZ ns k)) []
def sdTake : SpD := fun ds q => ∃ c m many,ds = [dInts [c,m],.int many] ∧ 0 ≤ c ∧ 0 < many ∧ Sm many ∧ ∀ r c' m',0 ≤ r → r < many → 0 ≤ c' → q (.int r) [some (dInts [c',m'])]
def sdLaw (K : PySem.W.Frag) : SpD := fun ds q => ∃ φ ns,ds = [.scr φ ns] ∧ ScrOk K φ ns ∧ ns.length ≤ 63 ∧ q (.bl true) []
def spLaw (K : PySem.W.Frag) : Sp := fun vs H Q _ => ∃ (a : Addr) (ns : List Int),vs = [.ref a] ∧ Only H ∧ SqL K H a (ns.map V.int) ∧ ns.length ≤ 63 ∧ ∀ H',Q (.bl true) H'
theorem spLaw_of {K : PySem.W.Frag} {vs : List V} {H : Hp} {Q : VK} {E : XK} (h : spLaw K vs H Q E) : spOf [false] false (sdLaw K) vs H Q E := by
  obtain ⟨a,ns,rfl,hO,hS,hl,hq⟩ := h
  have main : ∀ φ : Addr → Prop,ScrOk K φ ns → Rep H (.scr φ ns) (.ref a) → spOf [false] false (sdLaw K) [.ref a] H Q E := fun φ hφ r => by
    refine ⟨⟨H,H,fun _ => none,[none],0⟩,H,[.scr φ ns],fun d _ => d = .bl true,rfl,rfl,⟨fun _ => none,rfl,Same.refl _,Same.refl _,fun _ _ e => .inl e,fun a l e => by (first | cases e),fun a l π e => by (first | cases e),fun _ _ e _ => e,fun _ e => e,fun i v e => ?_,?_,trivial,Nat.le_refl _⟩,⟨φ,ns,rfl,hφ,hl,rfl⟩,rfl,?_⟩
    · cases i with
      | zero => simp at e
      | succ i => simp at e
    · intro i d e
      cases i with
      | zero => simp at e; subst e; exact ⟨_,rfl,by simpa using r⟩
      | succ i => simp at e
    · intro d ρ' σ' v G' H' hd _ _ hr
      subst hd
      unfold Ret at hr
      rw [if_neg (by decide)] at hr
      rw [rep_bl_of hr.2]
      exact hq H'
  rcases hS with (h1 | ⟨o,h1⟩) | h1
  · rcases hO a with z | ⟨o,xs,z⟩
    · rw [h1] at z; cases z
    · rw [h1] at z; cases z
  · exact main (fun _ => False) (fun _ _ z => z.elim) (by rw [Rep]; exact ⟨a,rfl,.inl ⟨o,h1⟩⟩)
  · exact main (fun b => b = a) (fun b H' z => by subst z; exact .inr h1) (by rw [Rep]; exact ⟨a,rfl,.inr rfl⟩)
theorem atI_ints {ns : List Int} {k : Int} (h0 : 0 ≤ k) (h1 : k < ns.length) : atI (ns.map D.int) k = some (.int (ns.getD k.toNat 0)) := by
  have ek : k = ((k.toNat : Nat) : Int) := by omega
  have hl : k.toNat < ns.length := by omega
  have : atI (ns.map D.int) ((k.toNat : Nat) : Int) = some (.int (ns.getD k.toNat 0)) := atI_nat (by rw [List.getElem?_map,List.getD_eq_getElem?_getD,List.getElem?_eq_getElem hl]; rfl)
  rw [← ek] at this
  exact this
theorem atI_ns {ns : List Int} {k : Int} (h0 : 0 ≤ k) (h1 : k < ns.length) : atI ns k = some (ns.getD k.toNat 0) := by
  have ek : k = ((k.toNat : Nat) : Int) := by omega
  have hl : k.toNat < ns.length := by omega
  have : atI ns ((k.toNat : Nat) : Int) = some (ns.getD k.toNat 0) := atI_nat (by rw [List.getD_eq_getElem?_getD,List.getElem?_eq_getElem hl]; rfl)
  rw [← ek] at this
  exact this
theorem atD_of {ds : List D} {k : Int} {d : D} {q : D → Prop} (h : atI ds k = some d) (hq : q d) : atD ds k q := by unfold atD; rw [h]; exact hq
theorem map_at {ns : List Int} {i : Nat} {d : D} (h : (ns.map D.int)[i]? = some d) : ∃ z,ns[i]? = some z ∧ d = .int z := by
  rw [List.getElem?_map] at h
  cases e : ns[i]? with
  | none => rw [e] at h; cases h
  | some z => rw [e] at h; exact ⟨z,rfl,(Option.some.inj h).symm⟩
theorem btw_int {lo hi z : Int} (h1 : lo ≤ z) (h2 : z ≤ hi) : btw lo hi (.int z) = true := by show (decide (lo ≤ z) && decide (z ≤ hi)) = true; rw [decide_eq_true h1,decide_eq_true h2]; rfl
abbrev parZ (ps : List Int) (k : Int) : Int := ps.getD (k - 1).toNat 0
theorem Tree.up {ps rs : List Int} (hT : Tree ps rs) {k : Int} (h0 : 0 < k) (h1 : k ≤ ps.length) : 0 ≤ parZ ps k ∧ parZ ps k < k := by
  have hl : (k - 1).toNat < ps.length := by omega
  have e : ps[(k - 1).toNat]? = some (parZ ps k) := by unfold parZ; rw [List.getD_eq_getElem?_getD,List.getElem?_eq_getElem hl]; rfl
  have := hT.par _ _ e
  omega
inductive Up (ps : List Int) : Int → List Int → Prop
  | zero : Up ps 0 [0]
  | step {k : Int} {u : List Int} (h : 0 < k) : Up ps (parZ ps k) u → Up ps k (k :: u)
theorem Up.det {ps : List Int} {k : Int} {u : List Int} (h : Up ps k u) : ∀ {v : List Int},Up ps k v → u = v := by
  induction h with
  | zero => intro v h; cases h with | zero => rfl | step h0 _ => omega
  | step h0 _ ih => intro v h; cases h with | zero => omega | step _ h => rw [ih h]
theorem Up.all {ps rs : List Int} (hT : Tree ps rs) : ∀ (n : Nat) (k : Int),k.toNat = n → 0 ≤ k → k ≤ ps.length → ∃ u,Up ps k u
  | n,k,hn,h0,h1 => by
    by_cases hk : k = 0
    · subst hk; exact ⟨_,.zero⟩
    · have hp := hT.up (k := k) (by omega) h1
      obtain ⟨u,hu⟩ := Up.all hT (parZ ps k).toNat (parZ ps k) rfl hp.1 (by omega)
      exact ⟨_,.step (by omega) hu⟩
termination_by n k hn => n
decreasing_by omega
theorem Up.le {ps rs : List Int} (hT : Tree ps rs) {k : Int} {u : List Int} (h : Up ps k u) : k ≤ ps.length → ∀ x ∈ u,0 ≤ x ∧ x ≤ k := by
  induction h with
  | zero => intro _ x hx; simp at hx; omega
  | step h0 _ ih =>
    intro h1 x hx
    have hp := hT.up h0 h1
    rcases List.mem_cons.mp hx with rfl | hx
    · omega
    · have := ih (by omega) x hx; omega
theorem Up.head {ps : List Int} {k : Int} {u : List Int} (h : Up ps k u) : k ∈ u := by cases h <;> simp
inductive Climb (ps : List Int) : Int → Int → List Int → Int → Prop
  | same (a : Int) : Climb ps a a [] a
  | left {a b : Int} {w : List Int} {m : Int} (h : b < a) : Climb ps b (parZ ps a) w m → Climb ps a b (a :: w) m
  | right {a b : Int} {w : List Int} {m : Int} (h : a < b) : Climb ps a (parZ ps b) w m → Climb ps a b (b :: w) m
theorem Climb.meet {ps rs : List Int} (hT : Tree ps rs) {a b m : Int} {w : List Int} (h : Climb ps a b w m) : 0 ≤ a → 0 ≤ b → a ≤ ps.length → b ≤ ps.length → ∀ {ua ub : List Int},Up ps a ua → Up ps b ub → m ∈ ua ∧ m ∈ ub ∧ ∀ x ∈ ua,x ∈ ub → x ≤ m := by
  induction h with
  | same a => intro a0 _ a1 _ ua ub ha hb; have := ha.det hb; subst this; exact ⟨ha.head,ha.head,fun x hx _ => (ha.le hT a1 x hx).2⟩
  | left hlt hc ih =>
    intro a0 b0 a1 b1 ua ub ha hb
    cases ha with
    | zero => omega
    | step h0 hu =>
      have hp := hT.up h0 a1
      obtain ⟨m1,m2,m3⟩ := ih b0 hp.1 b1 (by omega) hb hu
      refine ⟨List.mem_cons_of_mem _ m2,m1,fun x hx hxb => ?_⟩
      rcases List.mem_cons.mp hx with rfl | hx
      · have := (hb.le hT b1 _ hxb).2; omega
      · exact m3 x hxb hx
  | right hlt hc ih =>
    intro a0 b0 a1 b1 ua ub ha hb
    cases hb with
    | zero => omega
    | step h0 hu =>
      have hp := hT.up h0 b1
      obtain ⟨m1,m2,m3⟩ := ih a0 hp.1 a1 (by omega) ha hu
      refine ⟨m1,List.mem_cons_of_mem _ m2,fun x hx hxb => ?_⟩
      rcases List.mem_cons.mp hxb with rfl | hxb
      · have := (ha.le hT a1 _ hx).2; omega
      · exact m3 x hx hxb
theorem Climb.low {ps rs : List Int} (hT : Tree ps rs) {a b m : Int} {w : List Int} (h : Climb ps a b w m) : 0 ≤ a → 0 ≤ b → a ≤ ps.length → b ≤ ps.length → 0 ≤ m ∧ m ≤ a ∧ m ≤ b := by
  induction h with
  | same a => intro a0 _ _ _; omega
  | left hlt hc ih => intro a0 b0 a1 b1; have hp := hT.up (show 0 < _ by omega) a1; have := ih b0 hp.1 b1 (by omega); omega
  | right hlt hc ih => intro a0 b0 a1 b1; have hp := hT.up (show 0 < _ by omega) b1; have := ih a0 hp.1 a1 (by omega); omega
theorem Climb.perm {ps rs : List Int} (hT : Tree ps rs) {a b m : Int} {w : List Int} (h : Climb ps a b w m) : 0 ≤ a → 0 ≤ b → a ≤ ps.length → b ≤ ps.length → ∀ {ua ub um : List Int},Up ps a ua → Up ps b ub → Up ps m um → w.Perm ((ua ++ ub).filter fun x => !um.contains x) := by
  induction h with
  | same a =>
    intro a0 _ a1 _ ua ub um ha hb hm
    have := ha.det hb; subst this
    have := ha.det hm; subst this
    have : (ua ++ ua).filter (fun x => !ua.contains x) = [] := by
      rw [List.filter_eq_nil_iff]; intro x hx; simp at hx; simp [hx]
    rw [this]
  | @left a b w m hlt hc ih =>
    intro a0 b0 a1 b1 ua ub um ha hb hm
    cases ha with
    | zero => omega
    | step h0 hu =>
      have hp := hT.up h0 a1
      have hl := hc.low hT b0 hp.1 b1 (by omega)
      have ih' := ih b0 hp.1 b1 (by omega) hb hu hm
      have hn : ¬ um.contains a = true := fun z => by
        have := (hm.le hT (by omega) _ (List.contains_iff_mem.mp z)).2
        omega
      rw [List.cons_append,List.filter_cons_of_pos (by simpa using hn)]
      refine List.Perm.cons _ (ih'.trans ?_)
      exact List.Perm.filter _ List.perm_append_comm
  | @right a b w m hlt hc ih =>
    intro a0 b0 a1 b1 ua ub um ha hb hm
    cases hb with
    | zero => omega
    | step h0 hu =>
      have hp := hT.up h0 b1
      have hl := hc.low hT a0 hp.1 a1 (by omega)
      have ih' := ih a0 hp.1 a1 (by omega) ha hu hm
      have hn : ¬ um.contains b = true := fun z => by
        have := (hm.le hT (by omega) _ (List.contains_iff_mem.mp z)).2
        omega
      refine (List.Perm.cons _ ih').trans ?_
      refine List.Perm.trans ?_ (List.Perm.filter _ (List.perm_middle (l₁ := _)).symm)
      rw [List.filter_cons_of_pos (by simpa using hn)]
theorem Climb.mem {ps rs : List Int} (hT : Tree ps rs) {a b m : Int} {w : List Int} (h : Climb ps a b w m) : 0 ≤ a → 0 ≤ b → a ≤ ps.length → b ≤ ps.length → ∀ x ∈ w,0 < x ∧ x ≤ ps.length := by
  induction h with
  | same a => intro _ _ _ _ x hx; cases hx
  | left hlt hc ih =>
    intro a0 b0 a1 b1 x hx
    have hp := hT.up (show 0 < _ by omega) a1
    rcases List.mem_cons.mp hx with rfl | hx
    · omega
    · exact ih b0 hp.1 b1 (by omega) x hx
  | right hlt hc ih =>
    intro a0 b0 a1 b1 x hx
    have hp := hT.up (show 0 < _ by omega) b1
    rcases List.mem_cons.mp hx with rfl | hx
    · omega
    · exact ih a0 hp.1 a1 (by omega) x hx
theorem Climb.len {ps rs : List Int} (hT : Tree ps rs) {a b m : Int} {w : List Int} (h : Climb ps a b w m) : 0 ≤ a → 0 ≤ b → a ≤ ps.length → b ≤ ps.length → (w.length : Int) ≤ a + b := by
  induction h with
  | same a => intro _ _ _ _; simp; omega
  | left hlt hc ih => intro a0 b0 a1 b1; have hp := hT.up (show 0 < _ by omega) a1; have := ih b0 hp.1 b1 (by omega); simp; omega
  | right hlt hc ih => intro a0 b0 a1 b1; have hp := hT.up (show 0 < _ by omega) b1; have := ih a0 hp.1 a1 (by omega); simp; omega
theorem Climb.det {ps : List Int} {a b m : Int} {w : List Int} (h : Climb ps a b w m) : ∀ {m' : Int} {w' : List Int},Climb ps a b w' m' → w = w' ∧ m = m' := by
  induction h with
  | same a => intro m' w' h; cases h with | same => exact ⟨rfl,rfl⟩ | left h _ => omega | right h _ => omega
  | left hlt hc ih => intro m' w' h; cases h with | same => omega | left _ h => have := ih h; exact ⟨by rw [this.1],this.2⟩ | right h _ => omega
  | right hlt hc ih => intro m' w' h; cases h with | same => omega | right _ h => have := ih h; exact ⟨by rw [this.1],this.2⟩ | left h _ => omega
structure Ends2 (ps : List Int) (a b : Int) : Prop where
  a0 : 0 ≤ a
  a1 : a ≤ ps.length
  b0 : 0 ≤ b
  b1 : b ≤ ps.length
  ne : a ≠ b
def sdPlace : SpD := fun ds q => ∃ ps rs d,ds = [dPair ps rs,d] ∧ d.isS = false ∧ q (.bl (btw 0 ps.length d)) []
def sdEnds : SpD := fun ds q => ∃ ps rs a b,ds = [dPair ps rs,.int a,.int b] ∧ Ends2 ps a b ∧ q (.bl true) []
def sdLookEnds : SpD := fun ds q => ∃ ps rs a b,ds = [dPair ps rs,.int a,.int b] ∧ Tree ps rs ∧ Ends2 ps a b ∧ q .non []
def sdClimb : SpD := fun ds q => ∃ ps rs a b,ds = [dPair ps rs,.int a,.int b] ∧ Tree ps rs ∧ 0 ≤ a ∧ a ≤ ps.length ∧ 0 ≤ b ∧ b ≤ ps.length ∧ ∀ w m,Climb ps a b w m → q (.tup [dInts (sortZ w),.int m]) []
def sdWay : SpD := fun ds q => ∃ ps rs a b,ds = [dPair ps rs,.int a,.int b] ∧ Tree ps rs ∧ Ends2 ps a b ∧ ∀ w m,Climb ps a b w m → q (dInts (sortZ w)) []
theorem ints_snoc (ps : List Int) (y : Int) : D.lst (ps.map D.int ++ [D.int y]) = dInts (ps ++ [y]) := by unfold dInts; rw [List.map_append]; rfl
theorem len_ints (ps : List Int) : (ps.map D.int).length = ps.length := List.length_map _
theorem snoc_at {P : Nat → Int → Prop} {ps : List Int} {y : Int} (h : ∀ (j : Nat) (x : Int),ps[j]? = some x → P j x) (hy : P ps.length y) : ∀ (j : Nat) (x : Int),(ps ++ [y])[j]? = some x → P j x := by
  intro j x hj
  by_cases hjl : j < ps.length
  · rw [List.getElem?_append_left hjl] at hj; exact h j x hj
  · rw [List.getElem?_append_right (by omega)] at hj
    cases e : j - ps.length with
    | zero => rw [e] at hj; have : y = x := by simpa using hj
              subst this; rw [show j = ps.length by omega]; exact hy
    | succ q => rw [e] at hj; simp at hj
theorem flat_ints (ns : List Int) : (ns.map D.int).all flatD = true := by
  induction ns with
  | nil => rfl
  | cons n r ih => rw [List.map_cons,List.all_cons,ih]; rfl
theorem inD_ints (x : Int) (ns : List Int) : inD (.int x) (ns.map D.int) = ns.contains x := by
  unfold inD
  induction ns with
  | nil => rfl
  | cons n r ih =>
    rw [List.map_cons,List.any_cons,ih,List.contains_cons]
    show ((n == x) || _) = _
    rw [Bool.beq_comm]
theorem mem_ints {ns : List Int} {d : D} (h : d ∈ ns.map D.int) : ∃ x ∈ ns,d = .int x := by
  obtain ⟨x,h1,h2⟩ := List.mem_map.mp h
  exact ⟨x,h1,h2.symm⟩
def sdTie : SpD := fun ds q => ∃ ps rs d,ds = [dPair ps rs,d] ∧ d.isS = false ∧ q (.bl (btw 1 ps.length d)) []
def sdBeneath : SpD := fun ds q => ∃ ps rs a b,ds = [dPair ps rs,.int a,.int b] ∧ Tree ps rs ∧ 1 ≤ a ∧ a ≤ ps.length ∧ 1 ≤ b ∧ b ≤ ps.length ∧ ∀ u,Up ps (parZ ps a) u → q (.bl (u.contains b)) []
def lay : Nat → D → Bool
  | _,.int _ => true
  | _,.bl _ => true
  | _,.non => true
  | n + 1,.tup ds => ds.all (lay n)
  | n + 1,.lst ds => ds.all (lay n)
  | _,_ => false
theorem lay_all {n : Nat} (ih : ∀ d,lay n d = true → (toP d).canLay0 = true ∧ (toP d).depth ≤ n + 1) : ∀ ds : List D,ds.all (lay n) = true → PyData.canLayAll0 (toPs ds) = true ∧ PyData.depthAll (toPs ds) ≤ n + 1
  | [],_ => by rw [toPs]; simp [PyData.canLayAll0,PyData.depthAll]
  | d :: ds,h => by
    rw [List.all_cons,Bool.and_eq_true] at h
    have h1 := ih d h.1
    have h2 := lay_all ih ds h.2
    rw [toPs]
    simp only [PyData.canLayAll0,PyData.depthAll,h1.1,h2.1,Bool.and_self,true_and]
    omega
theorem lay_ok : ∀ (n : Nat) (d : D),lay n d = true → (toP d).canLay0 = true ∧ (toP d).depth ≤ n + 1
  | n,.int _,_ => by rw [toP]; simp [PyData.canLay0,PyData.depth]
  | n,.bl _,_ => by rw [toP]; simp [PyData.canLay0,PyData.depth]
  | n,.non,_ => by rw [toP]; simp [PyData.canLay0,PyData.depth]
  | n + 1,.tup ds,h => by
    have := lay_all (lay_ok n) ds (by simpa [lay] using h)
    rw [toP]; simp only [PyData.canLay0,PyData.depth,this.1,true_and]; omega
  | n + 1,.lst ds,h => by
    have := lay_all (lay_ok n) ds (by simpa [lay] using h)
    rw [toP]; simp only [PyData.canLay0,PyData.depth,this.1,true_and]; omega
  | 0,.tup _,h => by simp [lay] at h
  | 0,.lst _,h => by simp [lay] at h
  | n,.str _,h => by cases n <;> simp [lay] at h
  | n,.dct,h => by cases n <;> simp [lay] at h
  | n,.dic _ _,h => by cases n <;> simp [lay] at h
  | n,.scr _ _,h => by cases n <;> simp [lay] at h
  | n,.ext _,h => by cases n <;> simp [lay] at h
theorem okD_lay {n : Nat} {d : D} (h : lay n d = true) (hn : n ≤ 60) : okD d = true := by
  have := lay_ok n d h
  unfold okD SeqAt.shaped
  rw [this.1,Bool.true_and]
  exact decide_eq_true (by omega)
structure Ask where
  one : Int
  other : Int
  size : Int
  worth : Int
def dAsk (a : Ask) : D := .tup [.int a.one,.int a.other,.int a.size,.int a.worth]
def dAsks (as : List Ask) : D := .lst (as.map dAsk)
structure AskOk (ps : List Int) (a : Ask) : Prop where
  ends : Ends2 ps a.one a.other
  s0 : 1 ≤ a.size
  s1 : a.size ≤ 1000000
  w0 : 1 ≤ a.worth
  w1 : a.worth ≤ 1000000000000
structure AsksOk (ps : List Int) (as : List Ask) : Prop where
  len : as.length ≤ 30
  ok : ∀ a ∈ as,AskOk ps a
theorem asks_at {as : List Ask} {i : Nat} {d : D} (h : (as.map dAsk)[i]? = some d) : ∃ a,as[i]? = some a ∧ d = dAsk a := by
  rw [List.getElem?_map] at h
  cases e : as[i]? with
  | none => rw [e] at h; cases h
  | some z => rw [e] at h; exact ⟨z,rfl,(Option.some.inj h).symm⟩
def ask0 : Ask := ⟨0,0,0,0⟩
theorem atI_asks {as : List Ask} {k : Int} (h0 : 0 ≤ k) (h1 : k < as.length) : atI (as.map dAsk) k = some (dAsk (as.getD k.toNat ask0)) := by
  have ek : k = ((k.toNat : Nat) : Int) := by omega
  have hl : k.toNat < as.length := by omega
  have : atI (as.map dAsk) ((k.toNat : Nat) : Int) = some (dAsk (as.getD k.toNat ask0)) := atI_nat (by rw [List.getElem?_map,List.getD_eq_getElem?_getD,List.getElem?_eq_getElem hl]; rfl)
  rw [← ek] at this
  exact this
theorem getD_ask {as : List Ask} {k : Nat} (h : k < as.length) : as.getD k ask0 ∈ as := by rw [List.getD_eq_getElem?_getD,List.getElem?_eq_getElem h]; exact List.getElem_mem h
theorem len_asks (as : List Ask) : (as.map dAsk).length = as.length := List.length_map _
theorem asks_snoc (as : List Ask) (a : Ask) : D.lst (as.map dAsk ++ [dAsk a]) = dAsks (as ++ [a]) := by unfold dAsks; rw [List.map_append]; rfl
def sdIsAsk : SpD := fun ds q => ∃ ps rs a,ds = [dPair ps rs,dAsk a] ∧ AskOk ps a ∧ q (.bl true) []
def sdLookAsks : SpD := fun ds q => ∃ ps rs as,ds = [dPair ps rs,dAsks as] ∧ Tree ps rs ∧ AsksOk ps as ∧ q .non []
def climbW (ps : List Int) : Nat → Int → Int → List Int
  | 0,_,_ => []
  | f + 1,a,b => if b < a then a :: climbW ps f b (parZ ps a) else if a < b then b :: climbW ps f a (parZ ps b) else []
def climbM (ps : List Int) : Nat → Int → Int → Int
  | 0,a,_ => a
  | f + 1,a,b => if b < a then climbM ps f b (parZ ps a) else if a < b then climbM ps f a (parZ ps b) else a
theorem climb_is {ps rs : List Int} (hT : Tree ps rs) : ∀ (f : Nat) (a b : Int),(a + b).toNat ≤ f → 0 ≤ a → 0 ≤ b → a ≤ ps.length → b ≤ ps.length → Climb ps a b (climbW ps f a b) (climbM ps f a b)
  | 0,a,b,hf,a0,b0,_,_ => by
    have : a = b := by omega
    subst this
    exact .same a
  | f + 1,a,b,hf,a0,b0,a1,b1 => by
    unfold climbW climbM
    by_cases h1 : b < a
    · rw [if_pos h1,if_pos h1]
      have hp := hT.up (show 0 < a by omega) a1
      exact .left h1 (climb_is hT f b _ (by omega) b0 hp.1 b1 (by omega))
    · rw [if_neg h1,if_neg h1]
      by_cases h2 : a < b
      · rw [if_pos h2,if_pos h2]
        have hp := hT.up (show 0 < b by omega) b1
        exact .right h2 (climb_is hT f a _ (by omega) a0 hp.1 a1 (by omega))
      · rw [if_neg h2,if_neg h2]
        have : a = b := by omega
        subst this
        exact .same a
def wayZ (ps : List Int) (a b : Int) : List Int := sortZ (climbW ps 100 a b)
def meetZ (ps : List Int) (a b : Int) : Int := climbM ps 100 a b
theorem Climb.way {ps rs : List Int} (hT : Tree ps rs) {a b m : Int} {w : List Int} (h : Climb ps a b w m) (a0 : 0 ≤ a) (b0 : 0 ≤ b) (a1 : a ≤ ps.length) (b1 : b ≤ ps.length) : sortZ w = wayZ ps a b ∧ m = meetZ ps a b := by
  have hi := hT.hi
  have := h.det (climb_is hT 100 a b (by omega) a0 b0 a1 b1)
  exact ⟨by rw [this.1]; rfl,this.2⟩
theorem way_q38 {ps rs : List Int} (hT : Tree ps rs) {a b : Int} (a0 : 0 ≤ a) (b0 : 0 ≤ b) (a1 : a ≤ ps.length) (b1 : b ≤ ps.length) : ∃ w,Climb ps a b w (meetZ ps a b) ∧ wayZ ps a b = sortZ w := by
  have hi := hT.hi
  exact ⟨_,climb_is hT 100 a b (by omega) a0 b0 a1 b1,rfl⟩
theorem way_mem {ps rs : List Int} (hT : Tree ps rs) {a b : Int} (he : Ends2 ps a b) {x : Int} (hx : x ∈ wayZ ps a b) : 0 < x ∧ x ≤ ps.length := by
  obtain ⟨w,hw,e⟩ := way_q38 hT he.a0 he.b0 he.a1 he.b1
  rw [e] at hx
  exact hw.mem hT he.a0 he.b0 he.a1 he.b1 x ((sortZ_perm w).mem_iff.mp hx)
def askWay (ps : List Int) (a : Ask) : List Int := wayZ ps a.one a.other
def sdWayOf : SpD := fun ds q => ∃ ps rs a,ds = [dPair ps rs,dAsk a] ∧ Tree ps rs ∧ Ends2 ps a.one a.other ∧ q (dInts (askWay ps a)) []
theorem ixN_nat {n : Nat} {k : Int} (h0 : 0 ≤ k) (h1 : k < n) : ixN n k = some k.toNat := by unfold ixN; rw [if_pos h0,if_pos h1]
theorem other_ends {ps : List Int} {a r : Int} (a0 : 0 ≤ a) (a1 : a < 1 + (ps.length : Int)) (r0 : 0 ≤ r) (r1 : r < ps.length) : Ends2 ps a ((a + 1 + r) % (1 + (ps.length : Int))) := by
  refine ⟨a0,by omega,Int.emod_nonneg _ (by omega),?_,?_⟩
  · have := Int.emod_lt_of_pos (a + 1 + r) (show 0 < 1 + (ps.length : Int) by omega); omega
  · intro he
    by_cases hlt : a + 1 + r < 1 + (ps.length : Int)
    · rw [Int.emod_eq_of_lt (by omega) hlt] at he; omega
    · have e : (a + 1 + r) % (1 + (ps.length : Int)) = a + 1 + r - (1 + (ps.length : Int)) := by
        rw [← Int.sub_emod_right,Int.emod_eq_of_lt (by omega) (by omega)]
      omega
theorem Climb.nodup {ps rs : List Int} (hT : Tree ps rs) {a b m : Int} {w : List Int} (h : Climb ps a b w m) : 0 ≤ a → 0 ≤ b → a ≤ ps.length → b ≤ ps.length → w.Nodup ∧ ∀ x ∈ w,x ≤ max a b := by
  induction h with
  | same a => intro _ _ _ _; exact ⟨List.nodup_nil,fun x h => by cases h⟩
  | @left a b w m hlt hc ih =>
    intro a0 b0 a1 b1
    have hp := hT.up (show 0 < a by omega) a1
    obtain ⟨h1,h2⟩ := ih b0 hp.1 b1 (by omega)
    refine ⟨List.nodup_cons.mpr ⟨fun z => by have := h2 a z; omega,h1⟩,fun x hx => ?_⟩
    rcases List.mem_cons.mp hx with rfl | hx
    · omega
    · have := h2 x hx; omega
  | @right a b w m hlt hc ih =>
    intro a0 b0 a1 b1
    have hp := hT.up (show 0 < b by omega) b1
    obtain ⟨h1,h2⟩ := ih a0 hp.1 a1 (by omega)
    refine ⟨List.nodup_cons.mpr ⟨fun z => by have := h2 b z; omega,h1⟩,fun x hx => ?_⟩
    rcases List.mem_cons.mp hx with rfl | hx
    · omega
    · have := h2 x hx; omega
theorem way_nodup {ps rs : List Int} (hT : Tree ps rs) {a b : Int} (he : Ends2 ps a b) : (wayZ ps a b).Nodup := by
  obtain ⟨w,hw,e⟩ := way_q38 hT he.a0 he.b0 he.a1 he.b1
  rw [e]
  exact (sortZ_perm w).nodup_iff.mpr (hw.nodup hT he.a0 he.b0 he.a1 he.b1).1
section
variable {X : Cx}
end
section
variable {X : Cx} {M : Md} {e : Expr} {ma : ME} {pos : Pos}
end
def eqB : Value → Bool
  | .bool a => a == true
  | _ => false
def rCount : V → List V → Hp → VK → Prop := fun x vs H Q => ∃ (l : Addr) (bs : List Bool),x = .ref l ∧ vs = [.bl true] ∧ H l = some (.lst (bs.map V.bl)) ∧ Q (.int (bs.countP id : Nat)) H
theorem vals_blsR : ∀ {bs : List Bool} {us : List Value},Vals (bs.map V.bl) us → us = bs.map Value.bool
  | [],_,.nil => rfl
  | b :: bs,_,.cons r t => by rw [vals_blsR (bs := bs) t]; cases r; rfl
theorem countP_bls : ∀ bs : List Bool,(bs.map Value.bool).countP eqB = bs.countP id
  | [] => rfl
  | b :: bs => by rw [List.map_cons,List.countP_cons,List.countP_cons,countP_bls bs]; cases b <;> rfl
section
variable {X : Cx}
theorem mt_count : MtM X "list.count" rCount := by
  (try refine ⟨?_⟩); intro pins s σ H x vs v us Q I rx rv h
  obtain ⟨l,bs,rfl,rfl,hH,q⟩ := h
  cases rx
  obtain ⟨u,rfl,ru⟩ := rv.one
  cases ru
  obtain ⟨z,its,n,r,hl,e⟩ := I.lstM hH
  have ei := vals_blsR r
  subst ei
  refine call_meets F.slot_list_count ⟨_,e,rfl⟩ F.entry_list_count (F.args_list_count_2 _ _)
    (SeqAt.list_countAt l (bs.map Value.bool).toArray n none #[] (.bool true) eqB) ⟨e,fun y hy => ?_,?_⟩
  · obtain ⟨b,hb,rfl⟩ := List.mem_map.mp (List.mem_toArray.mp hy)
    exact SeqAt.EqAt.bool_bool b true
  · refine ⟨.int (bs.countP id : Nat),H,I.tok _,⟨s.toks,?_⟩,q⟩
    show Value.int (((bs.map Value.bool).toArray.toList.countP eqB : Nat) : Int) s.toks = _
    rw [← countP_bls]
variable {ow : List Bool} {e : Expr} {ma : ME}
theorem reps_blsR {G : Hp} : ∀ {bs : List Bool} {xs : List V},Reps G (bs.map D.bl) xs → xs = bs.map V.bl
  | [],xs,h => by rw [List.map_nil,Reps] at h; subst h; rfl
  | n :: r,xs,h => by rw [List.map_cons,Reps] at h; obtain ⟨v,vs,rfl,h1,h2⟩ := h; rw [rep_bl_of h1,reps_blsR h2]; rfl
def mCount (m : ME) : ME := fun ρ q => m ρ fun d ρ1 => match d with
  | .lst ds => ∃ bs : List Bool,ds = bs.map D.bl ∧ q (.int (bs.countP id : Nat)) ρ1
  | _ => False
theorem qe_count {j1 : Nat} {p1 apos cpos : Pos} (h : QE X ow e ma)
    (hbase : attributeBase e "count" X.env (eval e X.env) = eval e X.env := by rfl)
    (hfew : ((backTo cpos (starEach [.Constant (.bool true) j1 p1] X.env)).all (fun x => !x.1) && (backToKw cpos (keywordEach [] X.env)).all (fun x => x.1.isSome)
      && decide (([.Constant (.bool true) j1 p1] : List Expr).length + ([] : List Keyword).length + (if ([] : List Keyword).isEmpty then 0 else 1) < 30)) = true := by rfl)
    (hline : (apos.endLine == cpos.line) = true := by rfl) (hst : starEach [.Constant (.bool true) j1 p1] X.env = [(false,eval (.Constant (.bool true) j1 p1) X.env)] := by rfl) :
    QE X ow (.Call (.Attribute e "count" apos) [.Constant (.bool true) j1 p1] [] cpos) (mCount ma) := by
  obtain ⟨t,p,s⟩ := h
  refine ⟨_,pe_bm PySem.F.plainAttrs_list PySem.F.slot_list_count PySem.F.type_list_count mt_count p (pa_cons pe_bl pa_nil hst) hbase hfew hline hst (by rfl),fun C G ρ σ H pd q Q r hm k => s C G ρ σ H pd _ _ r hm fun d ρ' v G' H' hq z kp r' pp => ?_⟩
  cases d with
  | lst ds =>
    obtain ⟨bs,rfl,hq⟩ := hq
    obtain ⟨l,xs,rfl,h1,h2⟩ := rep_lst_of pp
    have ex := reps_blsR h2
    subst ex
    refine ⟨.inl ⟨rfl,_,SqL.of (r'.gh _ _ h1)⟩,?_⟩
    refine ⟨l,bs,rfl,rfl,r'.gh _ _ h1,?_⟩
    exact k _ ρ' _ _ _ hq z kp r' (rep_int _)
  | _ => exact hq.elim
end
section
variable {X : Cx}
variable {ow : List Bool} {e : Expr} {ma : ME} {pos p1 p2 p3 : Pos}
end
end L2
namespace L2
open PySem
structure DepOk (ps e : List Int) (n : Nat) : Prop where
  len : e.length = n + 1
  up : ∀ (k : Int) (u : List Int),0 ≤ k → k ≤ n → Up ps k u → e.getD k.toNat 0 + 1 = u.length
theorem dep0 (ps : List Int) : DepOk ps [0] 0 := ⟨rfl,fun k u h0 h1 hu => by
  have : k = 0 := by omega
  subst this
  cases hu with
  | zero => rfl
  | step h _ => omega⟩
inductive Pth (ps : List Int) (m : Int) : Int → List Int → Prop
  | nil : Pth ps m m []
  | step {k : Int} {l : List Int} (h0 : 0 < k) (h : k ≠ m) : Pth ps m (parZ ps k) l → Pth ps m k (k :: l)
theorem Climb.pth {ps rs : List Int} (hT : Tree ps rs) {a b m : Int} {w : List Int} (h : Climb ps a b w m) : 0 ≤ a → 0 ≤ b → a ≤ ps.length → b ≤ ps.length → ∃ pa pb,Pth ps m a pa ∧ Pth ps m b pb ∧ w.Perm (pa ++ pb) := by
  induction h with
  | same a => intro _ _ _ _; exact ⟨[],[],.nil,.nil,.nil⟩
  | left hlt hc ih =>
    intro a0 b0 a1 b1
    have hp := hT.up (show 0 < _ by omega) a1
    have hlow := hc.low hT b0 hp.1 b1 (by omega)
    obtain ⟨pb,pa,h1,h2,h3⟩ := ih b0 hp.1 b1 (by omega)
    exact ⟨_ :: pa,pb,.step (by omega) (by omega) h2,h1,(h3.trans List.perm_append_comm).cons _⟩
  | right hlt hc ih =>
    intro a0 b0 a1 b1
    have hp := hT.up (show 0 < _ by omega) b1
    have hlow := hc.low hT a0 hp.1 a1 (by omega)
    obtain ⟨pa,pb,h1,h2,h3⟩ := ih a0 hp.1 a1 (by omega)
    exact ⟨pa,_ :: pb,h1,.step (by omega) (by omega) h2,(h3.cons _).trans List.perm_middle.symm⟩
theorem Up.chain {ps rs : List Int} (hT : Tree ps rs) {b : Int} {u : List Int} (h : Up ps b u) : b ≤ ps.length → ∀ {x y : Int},x ∈ u → y ∈ u → x ≤ y → ∃ uy,Up ps y uy ∧ x ∈ uy ∧ ∀ z ∈ uy,z ∈ u := by
  induction h with
  | zero =>
    intro _ x y hx hy _
    have e : y = 0 := by simpa using hy
    subst e
    exact ⟨[0],.zero,hx,fun z hz => hz⟩
  | @step k u h0 hu ih =>
    intro h1 x y hx hy hxy
    have hp := hT.up h0 h1
    have hle := hu.le hT (by omega)
    rcases List.mem_cons.mp hy with hy' | hy'
    · subst hy'; exact ⟨_,.step h0 hu,hx,fun z hz => hz⟩
    · rcases List.mem_cons.mp hx with hx' | hx'
      · have := (hle y hy').2; omega
      · obtain ⟨uy,g1,g2,g3⟩ := ih (by omega) hx' hy' hxy
        exact ⟨uy,g1,g2,fun z hz => .tail _ (g3 z hz)⟩
theorem Pth.len {ps : List Int} {m k : Int} {l um : List Int} (h : Pth ps m k l) (hm : Up ps m um) : ∀ {uk : List Int},Up ps k uk → uk.length = l.length + um.length := by
  induction h with
  | nil => intro uk h; rw [h.det hm]; simp
  | @step k l h0 hne hp ih =>
    intro uk h
    cases h with
    | zero => omega
    | step _ h => rw [List.length_cons,List.length_cons,ih h]; omega
theorem way_deep {ps rs e w : List Int} {a b m : Int} (hT : Tree ps rs) (he : DepOk ps e ps.length) (a0 : 0 ≤ a) (a1 : a ≤ ps.length) (b0 : 0 ≤ b) (b1 : b ≤ ps.length) (h : Climb ps a b w m) :
    ((sortZ w).length : Int) = e.getD a.toNat 0 + e.getD b.toNat 0 - 2 * e.getD m.toNat 0 := by
  obtain ⟨pa,pb,h1,h2,h3⟩ := h.pth hT a0 b0 a1 b1
  have hlow := h.low hT a0 b0 a1 b1
  obtain ⟨ua,ha⟩ := Up.all hT _ a rfl a0 a1
  obtain ⟨ub,hb⟩ := Up.all hT _ b rfl b0 b1
  obtain ⟨um,hm⟩ := Up.all hT _ m rfl hlow.1 (by omega)
  have e1 := h1.len hm ha
  have e2 := h2.len hm hb
  have d1 := he.up a ua a0 (by omega) ha
  have d2 := he.up b ub b0 (by omega) hb
  have d3 := he.up m um hlow.1 (by omega) hm
  have l1 := ((sortZ_perm w).trans h3).length_eq
  rw [List.length_append] at l1
  omega
theorem way_xor {ps rs w ua ub : List Int} {a b m t : Int} (hT : Tree ps rs) (a0 : 0 ≤ a) (a1 : a ≤ ps.length) (b0 : 0 ≤ b) (b1 : b ≤ ps.length) (h : Climb ps a b w m) (ha : Up ps a ua) (hb : Up ps b ub) :
    (sortZ w).contains t = (ua.contains t != ub.contains t) := by
  have hlow := h.low hT a0 b0 a1 b1
  obtain ⟨um,hm⟩ := Up.all hT _ m rfl hlow.1 (by omega)
  obtain ⟨p1,p2,p3⟩ := h.meet hT a0 b0 a1 b1 ha hb
  have hp := (sortZ_perm w).trans (h.perm hT a0 b0 a1 b1 ha hb hm)
  have k1 : t ∈ um → t ∈ ua ∧ t ∈ ub := fun ht => by
    obtain ⟨u1,g1,_,g3⟩ := ha.chain hT a1 p1 p1 (Int.le_refl _)
    obtain ⟨u2,g1',_,g3'⟩ := hb.chain hT b1 p2 p2 (Int.le_refl _)
    rw [g1.det hm] at g3; rw [g1'.det hm] at g3'
    exact ⟨g3 _ ht,g3' _ ht⟩
  have k2 : t ∈ ua → t ∈ ub → t ∈ um := fun h1 h2 => by
    obtain ⟨u1,g1,g2,_⟩ := ha.chain hT a1 h1 p1 (p3 t h1 h2)
    rw [g1.det hm] at g2; exact g2
  have e : t ∈ sortZ w ↔ (t ∈ ua ∨ t ∈ ub) ∧ t ∉ um := by
    rw [hp.mem_iff,List.mem_filter,List.mem_append]; simp
  have c : ∀ l : List Int,l.contains t = decide (t ∈ l) := fun l => by simp
  rw [c,c,c]
  by_cases x1 : t ∈ ua <;> by_cases x2 : t ∈ ub <;> simp [x1,x2,e] <;> first | exact k2 x1 x2 | exact fun z => x2 (k1 z).2 | exact fun z => x1 (k1 z).1 | skip
end L2
namespace L2
open PySem PySem.Spec PyProof.Rows
section
variable {prog : Program} {w : World} {A : Around} {E : Value → Shared → Prop} {s : Shared}
end
section
variable {X : Cx} {M : Md} {e : Expr} {es : List Expr} {mgs : MGs} {pos : Pos}
end
section
variable {X : Cx} {M : Md} {pos : Pos}
end
def Itz (a b : Addr) : It :=
  ⟨fun i H => ∃ xs ys x y,H a = some (.lst xs) ∧ H b = some (.lst ys) ∧ xs[i]? = some x ∧ ys[i]? = some y,
   fun i H v H' => ∃ p x y,H p = none ∧ v = .ref p ∧ H' = upd H p (.tup [x,y]) ∧ (∀ xs,H a = some (.lst xs) → xs[i]? = some x) ∧ ∀ ys,H b = some (.lst ys) → ys[i]? = some y,
   fun i H => ∃ xs ys,H a = some (.lst xs) ∧ H b = some (.lst ys) ∧ (xs.length ≤ i ∨ ys.length ≤ i)⟩
theorem mem5 {c a1 a2 a3 a4 a5 : Addr} (h : c ∈ [a1,a2,a3,a4,a5]) : c = a1 ∨ c = a2 ∨ c = a3 ∨ c = a4 ∨ c = a5 := by simpa using h
theorem mem4 {c a1 a2 a3 a4 : Addr} (h : c ∈ [a1,a2,a3,a4]) : c = a1 ∨ c = a2 ∨ c = a3 ∨ c = a4 := by simpa using h
theorem nmem4 {c a1 a2 a3 a4 : Addr} (h : c ∉ [a1,a2,a3,a4]) : c ≠ a1 ∧ c ≠ a2 ∧ c ≠ a3 ∧ c ≠ a4 := by simpa using h
theorem nd5 {z TI TO i1 i2 : Addr} (h : [z,TI,TO,i1,i2].Nodup) : (z ≠ TI ∧ z ≠ TO ∧ z ≠ i1 ∧ z ≠ i2) ∧ (TI ≠ TO ∧ TI ≠ i1 ∧ TI ≠ i2) ∧ (TO ≠ i1 ∧ TO ≠ i2) ∧ i1 ≠ i2 := by simpa using h
theorem allmem5 {z TI TO i1 i2 : Addr} : z ∈ [z,TI,TO,i1,i2] ∧ TI ∈ [z,TI,TO,i1,i2] ∧ TO ∈ [z,TI,TO,i1,i2] ∧ i1 ∈ [z,TI,TO,i1,i2] ∧ i2 ∈ [z,TI,TO,i1,i2] := by simp
structure ZipSt (z TI TO i1 i2 a b : Addr) (i : Nat) (h : Heap) : Prop where
  hz : IsZip h z TI TO .none
  ti : IsPair h TI (.ref i1) (.ref i2)
  to : ∃ x y,IsPair h TO x y
  t1 : h.IsListIter i1 a i
  t2 : h.IsListIter i2 b i
theorem turn_zip {P : Program} {w : World} {K : PySem.W.Frag} {es : List Expr} {k : Nat} {pos : Pos} (a b z TI TO i1 i2 : Addr) (nd : [z,TI,TO,i1,i2].Nodup) :
    Turn P w K (.Tuple es k pos) (Itz a b) [z,TI,TO,i1,i2] z (ZipSt z TI TO i1 i2 a b) where
  mem := allmem5.1
  obj := fun i h st c hc => by
    obtain ⟨hz,ti,⟨x,y,to⟩,⟨o1,e1,c1,d1⟩,⟨o2,e2,c2,d2⟩⟩ := st
    rcases mem5 hc with rfl | rfl | rfl | rfl | rfl
    · exact ⟨_,hz,fun v q => by cases q⟩
    · exact ⟨_,ti,fun v q => by cases q⟩
    · exact ⟨_,to,fun v q => by cases q⟩
    · exact ⟨o1,e1,fun v q => by rw [d1] at q; cases q⟩
    · exact ⟨o2,e2,fun v q => by rw [d2] at q; cases q⟩
  keep := fun i h h' st kp => by
    obtain ⟨m1,m2,m3,m4,m5⟩ := allmem5 (z := z) (TI := TI) (TO := TO) (i1 := i1) (i2 := i2)
    obtain ⟨x,y,q⟩ := st.to
    exact ⟨kp z m1 _ st.hz,kp TI m2 _ st.ti,⟨x,y,kp TO m3 _ q⟩,st.t1.at fun o q => kp i1 m4 o q,st.t2.at fun o q => kp i2 m5 o q⟩
  item := by
    intro X hP hw hK hc i pins s σ H E I hf st hg
    subst hP hw hK
    obtain ⟨xs,ys,x,y,hq1,hq2,hx,hy⟩ := hg
    obtain ⟨hz,ti,⟨ox,oy,to⟩,t1,t2⟩ := st
    obtain ⟨its1,rv1,p1,hz1⟩ := I.list (SqL.of hq1)
    obtain ⟨its2,rv2,p2,hz2⟩ := I.list (SqL.of hq2)
    obtain ⟨u,hu,ru⟩ := rv1.get hx
    obtain ⟨v,hv,rv⟩ := rv2.get hy
    obtain ⟨m1,m2,m3,m4,m5⟩ := allmem5 (z := z) (TI := TI) (TO := TO) (i1 := i1) (i2 := i2)
    have fz := hf z m1; have fO := hf TO m3; have f1 := hf i1 m4; have f2 := hf i2 m5
    obtain ⟨⟨n1,n2,n3,n4⟩,⟨n5,n6,n7⟩,⟨n8,n9⟩,n10⟩ := nd5 nd
    have la : ∀ {c : Addr},H c = none → a ≠ c := fun h => ne_of_none hq1 h
    have lb : ∀ {c : Addr},H c = none → b ≠ c := fun h => ne_of_none hq2 h
    have AP : ZipApart z TI TO i1 i2 a b := ⟨Ne.symm n1,Ne.symm n2,Ne.symm n3,Ne.symm n4,n5,n6,n7,n8,n9,n10,la fz.1,la fO.1,la f1.1,la f2.1,lb fz.1,lb fO.1,lb f1.1,lb f2.1⟩
    refine wpAny_pyNext_zip_item AP hz ti to t1 t2 p1.isList p2.isList (x := u) (y := v) (by simpa using hu) (by simpa using hv) fun h' zo to' t1' t2' ht hsz hk => ?_
    refine ⟨.ref s.heap.objs.size,rfl,?_⟩
    refine wpAny_letOwnedTupleGo_zip zo fun h2 he2 hs2 => ?_
    have fr : H s.heap.objs.size = none := I.hok.fresh (Nat.le_refl _)
    have ne2 : ∀ b,b < s.heap.objs.size → b ≠ s.heap.objs.size := fun b hb => Nat.ne_of_lt hb
    have ee : z < s.heap.objs.size := Heap.lt_size hz
    have k2 : ∀ c o,c ≠ z → c ≠ TO → c ≠ i1 → c ≠ i2 → s.heap.get? c = some o → h2.get? c = some o := fun c o c1 c2 c3 c4 q => (hs2.2 c c1).trans (hk c o c1 c2 c3 c4 q)
    have ht2 : h2.get? s.heap.objs.size = some { cls := .type "tuple",data := .seq #[u,v] } := (hs2.2 _ (Nat.ne_of_gt ee)).trans ht
    have trk : ∀ c o,H c = some o → c ≠ z ∧ c ≠ TO ∧ c ≠ i1 ∧ c ≠ i2 := fun c o q => ⟨ne_of_none q fz.1,ne_of_none q fO.1,ne_of_none q f1.1,ne_of_none q f2.1⟩
    have hok0 : HOk X.prog X.w H h2 := fun c o q => (I.hok c o q).stay (fun d v' hc q' => by
      rcases hc with rfl | hc
      · obtain ⟨z1,z2,z3,z4⟩ := trk d _ q; exact k2 d v' z1 z2 z3 z4 q'
      · obtain ⟨z1,z2,z3,z4⟩ := trk d _ hc; exact k2 d v' z1 z2 z3 z4 q') (fun _ z => z) fun _ _ z => z
    have I1 : Inv X pins σ (upd H s.heap.objs.size (.tup [x,y])) { s with heap := h2,toks := s.toks } := by
      refine I.step (g' := s.gens) (d' := s.drawn) (ch := [z,TO,i1,i2]) (fun c hc => ?_) (fun c o _ _ hc q _ => by obtain ⟨z1,z2,z3,z4⟩ := nmem4 hc; exact k2 c o z1 z2 z3 z4 q) (fun c o _ _ hc q _ => by obtain ⟨z1,z2,z3,z4⟩ := nmem4 hc; exact ⟨o.slots,k2 c o z1 z2 z3 z4 q⟩)
        (fun c o _ q n => by rw [upd_ne (ne2 c (Heap.lt_size q))]; exact n) (fun c o hc q => by obtain ⟨z1,z2,z3,z4⟩ := nmem4 hc; exact ⟨o,k2 c o z1 z2 z3 z4 q⟩) (fun c ys q => by rw [upd_ne (ne_of_none q fr)]; exact q) (fun c o v q => by rw [upd_ne (ne_of_none q fr)]; exact q)
        (fun c ps q => ⟨#[],by rw [upd_ne (ne_of_none q fr),q]; simp⟩) (fun m hm => ?_) ?_ I.bare
      · rcases mem4 hc with rfl | rfl | rfl | rfl
        · exact ⟨fz.2.2.2.1,fz.2.1,fz.2.2.2.2.1,fz.2.2.2.2.2⟩
        · exact ⟨fO.2.2.2.1,fO.2.1,fO.2.2.2.2.1,fO.2.2.2.2.2⟩
        · exact ⟨f1.2.2.2.1,f1.2.1,f1.2.2.2.2.1,f1.2.2.2.2.2⟩
        · exact ⟨f2.2.2.2.1,f2.2.1,f2.2.2.2.2.1,f2.2.2.2.2.2⟩
      · obtain ⟨o,es',ep,ho,r⟩ := hm
        exact ⟨o,es',ep,k2 _ o (Ne.symm fz.2.1) (Ne.symm fO.2.1) (Ne.symm f1.2.1) (Ne.symm f2.2.1) ho,r⟩
      · exact hok0.adopt fr ⟨by show 2 ≤ sizeLine; decide,[u,v],.cons ru (.cons rv .nil),⟨_,ht2,rfl,_,rfl⟩⟩
    have lt : ∀ c ∈ [z,TI,TO,i1,i2],c < s.heap.objs.size := fun c hc => by
      rcases mem5 hc with rfl | rfl | rfl | rfl | rfl
      · exact ee
      · exact Heap.lt_size ti
      · exact Heap.lt_size to
      · obtain ⟨o,q,_⟩ := t1; exact Heap.lt_size q
      · obtain ⟨o,q,_⟩ := t2; exact Heap.lt_size q
    refine ⟨.ref s.heap.objs.size,_,I1,rfl,⟨_,x,y,fr,rfl,rfl,fun ws hw => by rw [hq1] at hw; cases hw; exact hx,fun ws hw => by rw [hq2] at hw; cases hw; exact hy⟩,⟨he2,(hs2.2 _ (Ne.symm n1)).trans (hk TI _ (Ne.symm n1) n5 n6 n7 ti),⟨_,_,(hs2.2 _ (Ne.symm n2)).trans to'⟩,t1'.extBut hs2.extBut (Ne.symm n3),t2'.extBut hs2.extBut (Ne.symm n4)⟩,fun c hc => ?_⟩
    rw [upd_ne (ne2 c (lt c hc))]
    exact (hf c hc).1
  done := by
    intro X hP hw hK hc i pins s σ H E I hf st hg
    subst hP hw hK
    obtain ⟨xs,ys,hq1,hq2,hend⟩ := hg
    obtain ⟨hz,ti,⟨ox,oy,to⟩,t1,t2⟩ := st
    obtain ⟨its1,rv1,p1,hz1⟩ := I.list (SqL.of hq1)
    obtain ⟨its2,rv2,p2,hz2⟩ := I.list (SqL.of hq2)
    obtain ⟨m1,m2,m3,m4,m5⟩ := allmem5 (z := z) (TI := TI) (TO := TO) (i1 := i1) (i2 := i2)
    have fz := hf z m1; have fO := hf TO m3; have f1 := hf i1 m4; have f2 := hf i2 m5
    obtain ⟨⟨n1,n2,n3,n4⟩,⟨n5,n6,n7⟩,⟨n8,n9⟩,n10⟩ := nd5 nd
    have la : ∀ {c : Addr},H c = none → a ≠ c := fun h => ne_of_none hq1 h
    have lb : ∀ {c : Addr},H c = none → b ≠ c := fun h => ne_of_none hq2 h
    have AP : ZipApart z TI TO i1 i2 a b := ⟨Ne.symm n1,Ne.symm n2,Ne.symm n3,Ne.symm n4,n5,n6,n7,n8,n9,n10,la fz.1,la fO.1,la f1.1,la f2.1,lb fz.1,lb fO.1,lb f1.1,lb f2.1⟩
    have l1 := rv1.length
    have l2 := rv2.length
    refine wpAny_pyNext_zip_end (I.ok.hd hc) AP hz ti to t1 t2 p1.isList p2.isList (by rcases hend with h | h; exact .inl (by simp; omega); exact .inr (by simp; omega)) fun h' hk => ⟨rfl,?_⟩
    have trk : ∀ c o,H c = some o → c ≠ z ∧ c ≠ TO ∧ c ≠ i1 ∧ c ≠ i2 := fun c o q => ⟨ne_of_none q fz.1,ne_of_none q fO.1,ne_of_none q f1.1,ne_of_none q f2.1⟩
    refine I.step (g' := s.gens) (d' := s.drawn) (t' := s.toks) (ch := [z,TO,i1,i2]) (fun c hc => ?_) (fun c o _ _ hc q _ => by obtain ⟨z1,z2,z3,z4⟩ := nmem4 hc; exact hk c o z1 z2 z3 z4 q) (fun c o _ _ hc q _ => by obtain ⟨z1,z2,z3,z4⟩ := nmem4 hc; exact ⟨o.slots,hk c o z1 z2 z3 z4 q⟩)
      (fun _ _ _ _ n => n) (fun c o hc q => by obtain ⟨z1,z2,z3,z4⟩ := nmem4 hc; exact ⟨o,hk c o z1 z2 z3 z4 q⟩) (fun _ _ e => e) (fun _ _ _ e => e) (fun c ps e => ⟨#[],by rw [e]; simp⟩) (fun m hm => ?_) (fun c o q => ?_) I.bare
    · rcases mem4 hc with rfl | rfl | rfl | rfl
      · exact ⟨fz.2.2.2.1,fz.2.1,fz.2.2.2.2.1,fz.2.2.2.2.2⟩
      · exact ⟨fO.2.2.2.1,fO.2.1,fO.2.2.2.2.1,fO.2.2.2.2.2⟩
      · exact ⟨f1.2.2.2.1,f1.2.1,f1.2.2.2.2.1,f1.2.2.2.2.2⟩
      · exact ⟨f2.2.2.2.1,f2.2.1,f2.2.2.2.2.1,f2.2.2.2.2.2⟩
    · obtain ⟨o,es',ep,ho,r⟩ := hm
      exact ⟨o,es',ep,hk _ o (Ne.symm fz.2.1) (Ne.symm fO.2.1) (Ne.symm f1.2.1) (Ne.symm f2.2.1) ho,r⟩
    · refine (I.hok c o q).stay (fun d v' hc q' => ?_) (fun _ z => z) fun _ _ z => z
      rcases hc with rfl | hc
      · obtain ⟨z1,z2,z3,z4⟩ := trk d _ q; exact hk d v' z1 z2 z3 z4 q'
      · obtain ⟨z1,z2,z3,z4⟩ := trk d _ hc; exact hk d v' z1 z2 z3 z4 q'
  self := fun _ _ _ _ _ st h => wpAny_pyIter_zip st.hz h
section
variable {X : Cx} {es : List Expr} {k : Nat} {tpos : Pos}
def iZip (ta : TA) : TI := fun σ H R => ta σ H fun vs H1 => ∃ a b,vs = [.ref a,.ref b] ∧ (∃ xs,H1 a = some (.lst xs)) ∧ (∃ ys,H1 b = some (.lst ys)) ∧ R (Itz a b) H1
theorem pi_zip {l m : Expr} {ta : TA} {p pos : Pos} (hg : Gl X "zip") (hm : X.mg "zip" = none) (ha : PA X [l,m] ta) (hs : starEach [l,m] X.env = [(false,eval l X.env),(false,eval m X.env)] := by rfl) (hs2 : (backTo pos (starEach [m] X.env)).any (·.1) = false := by rfl) (hs3 : starEach [l,m] X.env = (false,eval l X.env) :: starEach [m] X.env := by rfl) : PI X (.Tuple es k tpos) (.Call (.Name "zip" p) [l,m] [] pos) (iZip ta) := by
  refine ⟨fun pins s σ H R I h => ?_⟩
  refine wpAny_Call_Name_kw (ld_blt I hg hm bt_zip ?_)
  refine PyProof.Rows.callWith_type1 (thn (ha pos pins s σ H _ I h) fun us s1 ⟨vs,H1,I1,r1,a,b,e,⟨xs,hx⟩,⟨ys,hy⟩,q⟩ => ?_) hs3 hs2
  subst e
  obtain ⟨u,v,rfl,ru,rv⟩ := vals2 r1
  cases ru; cases rv
  obtain ⟨its1,rv1,p1,_⟩ := I1.list (SqL.of hx)
  obtain ⟨its2,rv2,p2,_⟩ := I1.list (SqL.of hy)
  refine call_zip_2 p1.isList p2.isList fun h' hz ti to t1 t2 hsz hk => ?_
  have I2 : Inv X pins σ H1 { s1 with heap := h' } := I1.kept (t' := s1.toks) hk
  have nd : [s1.heap.objs.size + 4,s1.heap.objs.size + 2,s1.heap.objs.size + 3,s1.heap.objs.size,s1.heap.objs.size + 1].Nodup := by
    simp only [List.nodup_cons,List.mem_cons,List.not_mem_nil,or_false,not_or,not_false_eq_true,List.nodup_nil,and_true]
    refine ⟨⟨?_,?_,?_,?_⟩,⟨?_,?_,?_⟩,⟨?_,?_⟩,?_⟩ <;> omega
  refine wpAny_pyIter_zip hz ⟨s1.heap.objs.size + 4,_,_,Itz a b,H1,rfl,I2,turn_zip a b _ _ _ _ _ nd,⟨hz,ti,⟨_,_,to⟩,t1,t2⟩,fun c hc => ?_,q⟩
  have hc' : s1.heap.objs.size ≤ c := by
    rcases mem5 hc with rfl | rfl | rfl | rfl | rfl
    · exact Nat.le_add_right _ 4
    · exact Nat.le_add_right _ 2
    · exact Nat.le_add_right _ 3
    · exact Nat.le_refl _
    · exact Nat.le_add_right _ 1
  exact I1.fpOk (H' := H1) hc' (I1.hok.fresh hc')
variable {ow : List Bool} {a b : Expr} {mr : MA} {pos : Pos}
def zipD (ds es : List D) : List D := List.zipWith (fun a b => .tup [a,b]) ds es
theorem zipD_at {ds es : List D} {i : Nat} {d : D} (h : (zipD ds es)[i]? = some d) : ∃ x y,ds[i]? = some x ∧ es[i]? = some y ∧ d = .tup [x,y] := by
  unfold zipD at h
  rw [List.getElem?_zipWith] at h
  cases e1 : ds[i]? with
  | none => rw [e1] at h; cases h
  | some x =>
    cases e2 : es[i]? with
    | none => rw [e1,e2] at h; cases h
    | some y => rw [e1,e2] at h; exact ⟨x,y,rfl,rfl,(Option.some.inj h).symm⟩
theorem itz_ok {G : Hp} {p q : Addr} {xs ys : List V} {ds es : List D} (h1 : G p = some (.lst xs)) (h2 : Reps G ds xs) (h3 : G q = some (.lst ys)) (h4 : Reps G es ys) : ItOk (Itz p q) G (zipD ds es) := fun C ow G' ρ σ H pd i z r => by
  have hp := r.gh _ _ (z _ _ h1)
  have hq := r.gh _ _ (z _ _ h3)
  refine ⟨fun hl => ⟨xs,ys,hp,hq,?_⟩,fun d e => ?_⟩
  · rw [h2.length,h4.length]
    unfold zipD at hl
    rw [List.length_zipWith] at hl
    omega
  · obtain ⟨x,y,e1,e2,rfl⟩ := zipD_at e
    obtain ⟨v,g1,g2⟩ := reps_get h2 e1
    obtain ⟨u,g3,g4⟩ := reps_get h4 e2
    refine ⟨⟨xs,ys,v,u,hp,hq,g1,g3⟩,fun w H' hy => ?_⟩
    obtain ⟨t,x',y',ht,rfl,rfl,hy1,hy2⟩ := hy
    have z1 := hy1 xs hp
    rw [g1] at z1; cases z1
    have z2 := hy2 ys hq
    rw [g3] at z2; cases z2
    obtain ⟨O,r⟩ := r
    obtain ⟨r2,s2⟩ := r.new ht (.tup [v,u])
    exact ⟨_,s2,⟨O,r2⟩,rep_tup upd_same (reps_cons (Rep.mono (z.trans s2) _ _ g2) (reps_cons (Rep.mono (z.trans s2) _ _ g4) reps_nil))⟩
def miZip (m : MA) : MA := fun ρ q => m ρ fun ds ρ' => match ds with
  | [.lst ds,.lst es] => q (zipD ds es) ρ'
  | _ => False
theorem qi_zip {p : Pos} (hg : Gl X "zip") (hm : X.mg "zip" = none) (ha : QA X ow [a,b] mr) (hs : starEach [a,b] X.env = [(false,eval a X.env),(false,eval b X.env)] := by rfl) (hs2 : (backTo pos (starEach [b] X.env)).any (·.1) = false := by rfl) (hs3 : starEach [a,b] X.env = (false,eval a X.env) :: starEach [b] X.env := by rfl) : QI X ow (.Tuple es k tpos) (.Call (.Name "zip" p) [a,b] [] pos) (miZip mr) := by
  obtain ⟨t,p,s⟩ := ha
  refine ⟨_,pi_zip hg hm p hs hs2 hs3,fun C G ρ σ H pd q Q r hm k => s C G ρ σ H pd _ _ r hm fun ds ρ' vs G' H' hq z kp r' p hn => ?_⟩
  split at hq
  · obtain ⟨v,u,rfl,p1,p2⟩ := reps_two p
    obtain ⟨a1,xs,rfl,h1,h2⟩ := rep_lst_of p1
    obtain ⟨a2,ys,rfl,h3,h4⟩ := rep_lst_of p2
    exact ⟨a1,a2,rfl,⟨xs,r'.gh _ _ h1⟩,⟨ys,r'.gh _ _ h3⟩,k _ ρ' G' H' _ hq z kp r' (itz_ok h1 h2 h3 h4)⟩
  · exact hq.elim
end
end L2
namespace L2
open PySem
theorem Climb.comm {ps : List Int} {a b m : Int} {w : List Int} (h : Climb ps a b w m) : Climb ps b a w m := by
  cases h with
  | same => exact .same _
  | left h c => exact .right h c
  | right h c => exact .left h c
def sdSource : SpD := fun ds q => ∃ c k,ds = [.int c,.int k] ∧ 0 ≤ k ∧ k ≤ 1000 ∧ ∀ n s,0 ≤ n → q (dInts [n,s]) []
end L2
namespace L2
open PySem PySem.Spec PyProof.Rows
section
variable {M : Model} {A : Around} {E : Value → Shared → Prop} {s : Shared}
end
section
variable {X : Cx} {pins : List (Addr × Obj)} {σ : St} {H H' : Hp} {s s' : Shared} {e : Addr} {cls : Value} {dx : Option Addr} {T : Option Addr}
end
section
variable {X : Cx} {x : Str} {p pos : Pos} {e : Expr} {es : List Expr} {t : TA} {k : Nat} {f : Addr} {fd : FuncData} {ps : List Str} {sp : Sp} {xk : XS}
end
section
variable {X : Cx} {pins : List (Addr × Obj)} {σ : St} {H : Hp} {s : Shared} {xk : XS}
variable {x : Str} {C : Addr} {bm : List Value} {e : Expr} {args : List Expr} {np cpos pos : Pos} {t : TA}
end
section
variable {X : Cx} {pins p : List (Addr × Obj)} {σ : St} {H : Hp} {s : Shared} {E : Value → Shared → Prop} {v : Value}
variable {e : Addr} {cls : Value} {dx T : Option Addr}
variable {x n : Str} {i : Nat} {C D0 : Addr} {bm bmD : List Value} {ini iniD : Option Value} {b0 : Stmt} {suite : List Stmt} {np npos : Pos} {ts : TS} {D : Ends} {t : Addr}
end
section
variable {X : Cx} {E : Value → Shared → Prop} {p : List (Addr × Obj)}
end
section
variable {X : Cx} {M : Md} {a b c e : Expr} {mt : MT} {pos pos' : Pos} {st : Stmt} {rest : List Stmt} {m : MS} {m1 m2 : MSX} {mex : MEX}
variable {mg : MG}
variable {es : List Expr} {ks : List AK} {mr : MA} {x : Str} {p' : Pos} {ow : List Bool}
end
section
variable {X : Cx} {M : Md} {e : Expr} {es : List Expr} {ks : List AK} {mr : MA} {x : Str} {pos p' : Pos} {ow : List Bool} {mu : List Bool} {k : Nat} {f : Addr} {fd : FuncData} {ps : List Str} {sd : SpX}
end
end L2
namespace L2
open PySem PySem.Spec PyProof.Rows PySem.W Builtin.ObjectAttr
section
variable {prog : Program} {w : World} {A : Around} {E : Value → Shared → Prop} {s : Shared} {K : PySem.W.Frag} {x D : Addr} {ox : Obj} {od : Option Obj} {name : Str} {bm : List Value} {ini : Option Value} {tk : Tok}
end
end L2
namespace L2
open PySem PySem.Spec PyProof.Rows
section
variable {X : Cx}
variable {ow : List Bool} {a : Expr} {ma : ME} {pos : Pos}
end
section
variable {K : PySem.W.Frag} {C a N : Addr} {dd nd : Option Addr} {nm qn : Str} {bs bm sub : List Value} {hd ab : Bool} {sn : List Str} {col : Option Bool} {k0 k1 k2 k3 k5 ini : Option Value} {no : Value} {es : Array DictEntry} {np : Nat} {nl : Array (Option Value)} {sl : Array (Option Value)} {oc : Value} {cd : ClassData}
end
section
variable {X : Cx}
variable {ow : List Bool} {a : Expr} {ma : ME} {pos : Pos}
end
section
variable {K : PySem.W.Frag} {t c : Value} {cs : List Value} {b : Bool}
end
section
variable {prog : Program} {w : World} {A : Around} {E : Value → Shared → Prop} {h : Heap} {g : Array GenState} {d : Drawn} {t : Nat} {os : OsState}
variable {nm q : Str} {C N : Addr} {bs bm : List Value} {hdct : Bool} {sn : List Str} {sub : List Value} {ab : Bool} {col : Option Bool} {dd : Option Addr} {k0 k1 k2 k3 k5 : Option Value}
end
section
variable {prog : Program} {w : World} {A : Around} {E : Value → Shared → Prop} {h : Heap} {g : Array GenState} {d : Drawn} {t : Nat} {os : OsState}
variable {nm q : Str} {C N : Addr} {bs bm : List Value} {hdct : Bool} {sn : List Str} {sub : List Value} {ab : Bool} {col : Option Bool} {dd : Option Addr} {k0 k1 k2 k3 k5 : Option Value}
end
end L2
namespace L2
open PySem PySem.Spec PyProof.Rows PySem.W Builtin.ObjectAttr Builtin
section
variable {prog : Program} {w : World} {A : Around} {E : Value → Shared → Prop} {s : Shared} {K : PySem.W.Frag} {x C : Addr} {ox : Obj} {od : Option Obj} {name : Str} {bm : List Value} {ini : Option Value} {v : Value}
end
end L2
namespace L2
open PySem PySem.Spec PyProof.Rows
section
variable {X : Cx} {pins : List (Addr × Obj)} {σ : St} {H : Hp} {s : Shared} {e C fI : Addr} {bm : List Value}
end
section
variable {prog : Program} {w : World} {A : Around} {E : Value → Shared → Prop} {s : Shared} {env : Env}
end
section
variable {X : Cx} {xk : XS} {x : Str} {C fI : Addr} {bm : List Value} {e : Expr} {args : List Expr} {np cpos pos : Pos} {t : TA} {k : Nat} {fd : FuncData} {ps ns : List Str}
end
section
variable {X : Cx} {M : Md} {e : Expr} {es : List Expr} {mr : MA} {x : Str} {pos : Pos} {k : Nat} {fd : FuncData} {ps ns : List Str}
end
section
variable {X : Cx} {es : List Expr} {c : St → Prop}
end
section
variable {X : Cx} {C B : Addr} {bm : List Value} {ini : Option Value} {x : Str} {a b : Expr} {np apos pos pos' : Pos} {t : TA}
end
section
variable {X : Cx} {pins : List (Addr × Obj)} {σ : St} {H : Hp} {s : Shared} {h' : Heap} {a : Addr} {oa od : HO}
end
section
variable {X : Cx} {C : Addr} {bm : List Value} {ini : Option Value} {f : Str} {o value : Expr} {pos pos' : Pos} {ta tv : TE}
end
section
variable {X : Cx} {ow : List Bool} {a : Expr} {ma : ME} {pos : Pos} {f : Str}
end
section
variable {X : Cx}
variable {ow : List Bool} {e : Expr} {ma : ME}
end
section
variable {X : Cx} {M : Md} {ow : List Bool} {a e : Expr} {es : List Expr} {pos : Pos} {mex : MEX} {m1 : MSX} {mg : MG}
variable {x : Str} {p' : Pos} {ma : ME}
end
section
variable {C : Ctx} {ow : List Bool} {G : Hp} {ρ : DSt} {σ : St} {H : Hp} {pd : List (D × V)} {O : Own} {p : Addr} {xs : List V}
theorem RO.free (h : RO C ow G ρ σ H pd O) (hp : H p = none) : G p = none ∧ O p = none ∧ C.H p = none := by
  refine ⟨?_,?_,h.al p hp⟩
  · cases e : G p with
    | none => rfl
    | some z => rw [h.gh _ _ e] at hp; cases hp
  · cases e : O p with
    | none => rfl
    | some l => obtain ⟨_,⟨xs,q⟩,_⟩ := h.og p l e; rw [hp] at q; cases q
end
section
variable {X : Cx} {ow : List Bool} {a b e : Expr} {es : List Expr} {ma mb : ME} {mr : MA} {pos : Pos} {x : Str} {p' : Pos}
end
section
variable {X : Cx} {M : Md} {i : Nat} {st : Stmt} {rest : List Stmt} {m1 m2 : MFl} {me : MFe} {ms : MS} {pos pos' : Pos}
variable {e b c : Expr} {ma mb : ME} {mt : MT}
end
section
variable {C : Ctx} {ow : List Bool} {i : Nat} {G : Hp} {ρ : DSt} {σ : St} {H : Hp} {p : Addr} {ds : List D}
end
section
variable {X : Cx} {M : Md} {i : Nat} {pos pos' : Pos} {e c : Expr} {ma : ME} {mt : MT} {m1 m2 : MFl}
end
section
variable {X : Cx} {M : Md} {a b e : Expr} {ma mb : ME} {pos : Pos}
end
section
variable {X : Cx} {M : Md} {a b : Expr} {ma mb : ME} {pos : Pos}
end
section
variable {X : Cx} {pos p1 p2 q1 q2 : Pos} {n1 n2 : Nat} {k1 k2 x y : Str} {i j : Nat} {ow : List Bool}
end
section
variable {X : Cx} {ow : List Bool} {a b e : Expr} {ma mb : ME} {pos p2 : Pos} {lo hi : Option Expr} {ml mh : MO}
def mSlT (m : ME) (ml mh : MO) : ME := fun ρ q => m ρ fun d ρ1 => ml ρ1 fun lo ρ2 => mh ρ2 fun hi ρ3 => match d with
  | .tup ds => ¬ (HT.sIx ds.length 0 lo = 0 ∧ HT.sIx ds.length ds.length hi = ds.length) ∧ q (.tup (cutD ds lo hi)) ρ3
  | _ => False
theorem qe_sliceT (h : QE X ow e ma) (hl : QO X ow lo ml) (hh : QO X ow hi mh) : QE X ow (.Subscript e (.Slice lo hi none p2) pos) (mSlT ma ml mh) := by
  obtain ⟨t,p,s⟩ := h; obtain ⟨t1,p1,s1⟩ := hl; obtain ⟨t2,p2,s2⟩ := hh
  refine ⟨_,pe_slice sl_tup p p1 p2,fun C G ρ σ H pd q Q r hm k => s C G ρ σ H pd _ _ r hm fun d ρ' v G' H' hq z kp r' p => ?_⟩
  refine s1 C G' ρ' σ H' pd _ _ r' hq fun l ρ1 G1 H1 hq1 z1 kp1 r1 => s2 C G1 ρ1 σ H1 pd _ _ r1 hq1 fun u ρ2 G2 H2 hq2 z2 kp2 r2 => ?_
  cases d with
  | tup ds =>
    obtain ⟨a,xs,rfl,h1,h2⟩ := rep_tup_of (Rep.mono (z1.trans z2) _ _ p)
    refine ⟨a,xs,rfl,SqT.of (r2.gh _ _ h1),by rw [h2.length]; exact hq2.1,fun b hb => ?_⟩
    obtain ⟨O,r2⟩ := r2
    obtain ⟨r3,z3⟩ := r2.new hb (.tup (cutV xs l u))
    exact k _ ρ2 _ _ _ hq2.2 (z.trans (z1.trans (z2.trans z3))) (kp.trans (kp1.trans kp2)) ⟨O,r3⟩ (rep_tup upd_same (Reps.mono z3 _ _ (reps_cut h2 _ _)))
  | _ => exact hq2.elim
end
section
variable {X : Cx} {M : Md} {i : Nat} {st : Stmt} {m : MFl}
end
def layS : Nat → D → Bool
  | _,.int _ => true
  | _,.bl _ => true
  | _,.non => true
  | _,.str x => (PyData.str x).canLay0
  | n + 1,.tup ds => ds.all (layS n)
  | n + 1,.lst ds => ds.all (layS n)
  | _,_ => false
theorem layS_all {n : Nat} (ih : ∀ d,layS n d = true → (toP d).canLay0 = true ∧ (toP d).depth ≤ n + 1) : ∀ ds : List D,ds.all (layS n) = true → PyData.canLayAll0 (toPs ds) = true ∧ PyData.depthAll (toPs ds) ≤ n + 1
  | [],_ => by rw [toPs]; simp [PyData.canLayAll0,PyData.depthAll]
  | d :: ds,h => by
    rw [List.all_cons,Bool.and_eq_true] at h
    have h1 := ih d h.1
    have h2 := layS_all ih ds h.2
    rw [toPs]
    simp only [PyData.canLayAll0,PyData.depthAll,h1.1,h2.1,Bool.and_self,true_and]
    omega
theorem layS_ok : ∀ (n : Nat) (d : D),layS n d = true → (toP d).canLay0 = true ∧ (toP d).depth ≤ n + 1
  | n,.int _,_ => by rw [toP]; simp [PyData.canLay0,PyData.depth]
  | n,.bl _,_ => by rw [toP]; simp [PyData.canLay0,PyData.depth]
  | n,.non,_ => by rw [toP]; simp [PyData.canLay0,PyData.depth]
  | n,.str x,h => by rw [toP]; exact ⟨by cases n <;> exact h,by simp [PyData.depth]⟩
  | n + 1,.tup ds,h => by
    have := layS_all (layS_ok n) ds (by simpa [layS] using h)
    rw [toP]; simp only [PyData.canLay0,PyData.depth,this.1,true_and]; omega
  | n + 1,.lst ds,h => by
    have := layS_all (layS_ok n) ds (by simpa [layS] using h)
    rw [toP]; simp only [PyData.canLay0,PyData.depth,this.1,true_and]; omega
  | 0,.tup _,h => by simp [layS] at h
  | 0,.lst _,h => by simp [layS] at h
  | n,.dct,h => by cases n <;> simp [layS] at h
  | n,.dic _ _,h => by cases n <;> simp [layS] at h
  | n,.scr _ _,h => by cases n <;> simp [layS] at h
  | n,.ext _,h => by cases n <;> simp [layS] at h
theorem okD_layS {n : Nat} {d : D} (h : layS n d = true) (hn : n ≤ 60) : okD d = true := by
  have := layS_ok n d h
  unfold okD SeqAt.shaped
  rw [this.1,Bool.true_and]
  exact decide_eq_true (by omega)
theorem okD_str {x : Str} (h : (PyData.str x).canLay0 = true) : okD (.str x) = true := okD_layS (n := 0) h (by decide)
theorem eqD_str (a b : Str) : eqD (.str a) (.str b) = (a == b) := by unfold eqD; rw [toP,toP,PyData.eqv]
theorem btw_shape {lo hi : Int} {d : D} (h : btw lo hi d = true) : ∃ i,d = .int i ∧ lo ≤ i ∧ i ≤ hi := by
  cases d with
  | int i => simp only [btw,Bool.and_eq_true,decide_eq_true_eq] at h; exact ⟨i,rfl,h.1,h.2⟩
  | _ => cases h
theorem cutD_take {xs : List D} {k : Int} (h0 : 0 ≤ k) : cutD xs none (some k) = xs.take k.toNat := by
  have ek : k = ((k.toNat : Nat) : Int) := by omega
  unfold cutD
  rw [HT.sIx_none,ek,HT.sIx_nat,List.drop_zero,Nat.sub_zero,Int.toNat_natCast]
  by_cases h : k.toNat ≤ xs.length
  · rw [show min k.toNat xs.length = k.toNat by omega]
  · rw [show min k.toNat xs.length = xs.length by omega,List.take_length,List.take_of_length_le (by omega)]
theorem cutD_drop {xs : List D} {k : Int} (h0 : 0 ≤ k) : cutD xs (some k) none = xs.drop k.toNat := by
  have ek : k = ((k.toNat : Nat) : Int) := by omega
  unfold cutD
  rw [HT.sIx_none,ek,HT.sIx_nat,Int.toNat_natCast]
  by_cases h : k.toNat ≤ xs.length
  · rw [show min k.toNat xs.length = k.toNat by omega,List.take_of_length_le (by simp)]
  · rw [show min k.toNat xs.length = xs.length by omega,List.drop_length,List.drop_of_length_le (by omega)]; simp
section
variable {X : Cx}
end
end L2
namespace L2
open PySem
end L2
namespace L2
open PySem PySem.Spec PyProof.Rows
section
variable {X : Cx}
end
section
variable {X : Cx} {M : Md} {e : Expr} {ma : ME} {pos : Pos}
end
section
variable {X : Cx} {M : Md} {i : Nat} {st : Stmt} {rest : List Stmt} {m1 m2 : MFl} {me : MFe} {pos pos' : Pos} {e : Expr} {ma : ME}
end
section
variable {X : Cx} {M : Md} {elt tg iter : Expr} {ifs : List Expr} {pos : Pos} {mi : MA} {mg : MG} {mt : MT} {me : ME} {scope : Scope} {cl : List (Str × Addr)} {rest : List Stmt} {mf : MFe}
end
section
variable {X : Cx} {ow : List Bool} {e : Expr} {ma : ME} {pos p2 : Pos} {lo hi : Option Expr} {ml mh : MO}
end
end L2
namespace L2
open PySem
end L2
namespace L2
open PySem PySem.Spec PyProof.Rows
section
variable {X : Cx} {pins p : List (Addr × Obj)} {σ : St} {H : Hp} {s : Shared} {E : Value → Shared → Prop} {v : Value} {e : Addr} {cls : Value} {dx T : Option Addr}
variable {x : Str} {C D0 : Addr} {bm bmD : List Value} {ini iniD : Option Value} {b0 : Stmt} {suite : List Stmt} {np npos : Pos} {ts : TS} {D : Ends} {t : Addr}
end
section
variable {X : Cx} {ow : List Bool} {a b : Expr} {mex : MEX} {mb : ME} {pos : Pos}
end
end L2
namespace L2
open PySem
end L2
namespace L2
open PySem PySem.Spec PyProof.Rows
section
variable {X : Cx} {pos p1 q1 : Pos} {n1 : Nat} {k1 : Int} {x : Str} {i : Nat} {ow : List Bool}
end
section
variable {X : Cx} {ow : List Bool} {es : List Expr} {mr : MA} {pos : Pos}
end
end L2
namespace L2
open PySem
end L2
namespace L2
open PySem PySem.Spec PyProof.Rows
theorem bt_all : bootBuiltins "all" = some (.builtin "all") := by decide +kernel
section
variable {X : Cx}
def insI (ns : List Int) (k : Nat) (z : Int) : List Int := ns.take k ++ z :: ns.drop k
end
section
variable {X : Cx} {M : Md} {e e' : Expr} {mr : MA} {pos : Pos}
def mInsI (i : Nat) (m : MA) : MS := fun n ρ => match ρ[i]? with
  | some (some (.lst _)) => m ρ fun d ρ2 => match ρ2[i]? with
    | some (some (.lst ds)) => ∃ (ns : List Int) (k : Nat) (z : Int),d = [.int k,.int z] ∧ ds = ns.map D.int ∧ k ≤ ns.length ∧ ns.length < 1000 ∧ n.nx (ρ2.set i (some (dInts (insI ns k z))))
    | _ => False
  | _ => False
def mAug (i : Nat) (g : Int → Int → Int) (m : ME) : MS := fun n ρ => match ρ[i]? with
  | some (some (.int x)) => m ρ fun d ρ1 => match d with
    | .int y => n.nx (ρ1.set i (some (.int (g x y))))
    | _ => False
  | _ => False
theorem qs_aug {i : Nat} {x : Str} {e : Expr} {ma : ME} {op : Operator} {g : Int → Int → Int} {pos' : Pos} (hN : X.N.Nodup) (hi : X.N[i]? = some x) (hx : Loc X.env.scope x) (hp : PIp X op (ipI g)) (he : QE X M.ow e ma) (ho : M.ow[i]? ≠ some true := by decide) (hu : M.mu[i]? ≠ some true := by decide)
    (hf : X.fn x = true ∨ X.env.scope.names.lookup x = some .local := by first | exact .inl rfl | exact .inr rfl | assumption) : QS X M (.AugAssign (.Name x pos') op e pos) (mAug i g ma) := by
  obtain ⟨t,p,s⟩ := he
  refine ⟨_,ps_aug hN hi hx p hp hf,fun C G ρ σ H n D hm hn r h k => ?_⟩
  unfold mAug at h
  split at h
  · rename_i z ez
    have r0 := r
    obtain ⟨O,ro⟩ := r0
    obtain ⟨v,h1,h2⟩ := ro.sl i _ ez
    rw [if_neg ho] at h2
    refine ⟨v,h1,s C G ρ σ H [] _ _ r h fun d ρ' w G' H' hq zz kp r' pd => ?_⟩
    cases d with
    | int y =>
      obtain ⟨O',r'⟩ := r'
      exact ⟨z,y,rep_int_of h2,rep_int_of pd,k.nx _ _ G' H' hq zz ⟨O',r'.setS ho (hm.no hu) (rep_int _)⟩⟩
    | _ => exact hq.elim
  · exact h.elim
end
end L2
namespace L2
open PySem
def askN (as : List Ask) (k : Int) : Ask := as.getD k.toNat ask0
end L2
namespace L2
open PySem PySem.Spec PyProof.Rows
section
variable {X : Cx}
end
end L2
namespace L2
open PySem
end L2
namespace L2
open PySem PySem.Spec PyProof.Rows
section
variable {X : Cx}
variable {ow : List Bool} {e e2 : Expr} {ma mb : ME}
end
end L2
namespace L2
open PySem
end L2
namespace L2
open PySem PySem.Spec PyProof.Rows
section
variable {X : Cx}
end
end L2
namespace L2
open PySem
end L2
namespace L2
open PySem PySem.Spec PyProof.Rows
section
variable {κ : Type} [DecidableEq κ]
def valV (kvs : List (κ × V)) (k : κ) : Option V := (kvs.find? fun kv => decide (kv.1 = k)).map (·.2)
def putKV (kvs : List (κ × V)) (k : κ) (v : V) : List (κ × V) :=
  if (kvs.any fun kv => decide (kv.1 = k)) = true then kvs.map (fun kv => if kv.1 = k then (kv.1,v) else kv) else kvs ++ [(k,v)]
theorem valV_pos {p : κ × V} {r : List (κ × V)} {k : κ} (e : p.1 = k) : valV (p :: r) k = some p.2 := by simp [valV,List.find?_cons,e]
theorem valV_neg {p : κ × V} {r : List (κ × V)} {k : κ} (e : ¬ p.1 = k) : valV (p :: r) k = valV r k := by simp [valV,List.find?_cons,e]
theorem valV_any (k : κ) : ∀ kvs : List (κ × V),(kvs.any fun kv => decide (kv.1 = k)) = (valV kvs k).isSome
  | [] => rfl
  | p :: r => by
    rw [List.any_cons]
    by_cases e : p.1 = k
    · simp only [valV_pos e,decide_eq_true e,Bool.true_or,Option.isSome_some]
    · rw [valV_neg e,decide_eq_false e,Bool.false_or]; exact valV_any k r
theorem length_putK (kvs : List (κ × V)) (k : κ) (v : V) : (putKV kvs k v).length ≤ kvs.length + 1 := by
  unfold putKV
  split
  · rw [List.length_map]; omega
  · rw [List.length_append,List.length_cons,List.length_nil]; omega
theorem RelO.isSome_eq {o : Option V} {u : Option Value} (r : RelO o u) : o.isSome = u.isSome := by
  cases o with
  | none => cases u with
    | none => rfl
    | some _ => exact (show False from r).elim
  | some _ => cases u with
    | none => exact (show False from r).elim
    | some _ => rfl
theorem KV.val {kvs : List (κ × V)} {vs : List (κ × Value)} (r : KV kvs vs) (k : κ) : RelO (valV kvs k) (valueAt vs k) := by
  unfold KV at r
  induction r with
  | nil => exact True.intro
  | @cons p q ps qs h t ih =>
    obtain ⟨h1,h2⟩ := h
    by_cases e : p.1 = k
    · have e' : q.1 = k := h1.symm.trans e
      have b : valueAt (q :: qs) k = some q.2 := by simp [valueAt,List.find?_cons,e']
      rw [valV_pos e,b]; exact h2
    · have e' : ¬ q.1 = k := fun z => e (h1.trans z)
      have b : valueAt (q :: qs) k = valueAt qs k := by simp [valueAt,List.find?_cons,e']
      rw [valV_neg e,b]; exact ih
theorem KV.any {kvs : List (κ × V)} {vs : List (κ × Value)} (r : KV kvs vs) (k : κ) : (kvs.any fun kv => decide (kv.1 = k)) = vs.any fun kv => decide (kv.1 = k) := by
  unfold KV at r
  induction r with
  | nil => rfl
  | cons h t ih => rw [List.any_cons,List.any_cons,ih,h.1]
theorem KV.repl {kvs : List (κ × V)} {vs : List (κ × Value)} (r : KV kvs vs) (k : κ) {y : V} {u : Value} (ry : RelV y u) :
    KV (kvs.map fun kv => if kv.1 = k then (kv.1,y) else kv) (vs.map fun kv => if kv.1 = k then (kv.1,u) else kv) := by
  unfold KV at r ⊢
  induction r with
  | nil => exact .nil
  | @cons p q ps qs h t ih =>
    rw [List.map_cons,List.map_cons]
    refine .cons ?_ ih
    obtain ⟨h1,h2⟩ := h
    by_cases e : p.1 = k
    · rw [if_pos e,if_pos (h1.symm.trans e)]; exact ⟨h1,ry⟩
    · rw [if_neg e,if_neg (fun z => e (h1.trans z))]; exact ⟨h1,h2⟩
theorem KV.put {kvs : List (κ × V)} {vs : List (κ × Value)} (r : KV kvs vs) (k : κ) {y : V} {u : Value} (ry : RelV y u) : KV (putKV kvs k y) (stored vs k u) := by
  unfold putKV stored
  rw [r.any k]
  by_cases e : (vs.any fun kv => decide (kv.1 = k)) = true
  · rw [if_pos e,if_pos e]; exact r.repl k ry
  · rw [if_neg e,if_neg e]; exact Paired.snoc r ⟨rfl,ry⟩
theorem KV.length {kvs : List (κ × V)} {vs : List (κ × Value)} (r : KV kvs vs) : kvs.length = vs.length := Paired.length r
end
theorem kV_is {P : Program} {w : World} {k : Key} {u : Value} (r : RelV (kV k) u) : (mixKind P w).is k u = true := by
  cases k with
  | inl i => obtain ⟨t,e⟩ := (show ∃ t,u = Value.int i t from r); subst e; exact mixKind_int P w i t
  | inr x => obtain ⟨t,e⟩ := (show ∃ t,u = Value.str x t from r); subst e; exact mixKind_str P w x t
theorem items_are {P : Program} {w : World} : ∀ {ks : List Key} {us : List Value},Vals (ks.map kV) us → ItemsAre (mixKind P w) ks us
  | [],_,r => by rw [List.map_nil] at r; cases r; exact .nil
  | k :: ks,_,r => by
    rw [List.map_cons] at r
    cases r with
    | cons h t => exact .cons (kV_is h) (items_are t)
abbrev KT (H : Hp) : List (List Key × V) → List (List Key × Addr × Value) → Prop := Paired fun p q => p.1 = q.1 ∧ H q.2.1 = some (.tup (p.1.map kV)) ∧ RelV p.2 q.2.2
theorem KT.val {H : Hp} {kvs : List (List Key × V)} {xs : List (List Key × Addr × Value)} (r : KT H kvs xs) (k : List Key) : RelO (valV kvs k) ((atKey xs k).map (·.2)) := by
  induction r with
  | nil => exact True.intro
  | @cons p q ps qs h t ih =>
    obtain ⟨h1,_,h2⟩ := h
    by_cases e : p.1 = k
    · have e' : q.1 = k := h1.symm.trans e
      have b : atKey (q :: qs) k = some q.2 := by simp [atKey,List.find?_cons,e']
      rw [valV_pos e,b]; exact h2
    · have e' : ¬ q.1 = k := fun z => e (h1.trans z)
      have b : atKey (q :: qs) k = atKey qs k := by simp [atKey,List.find?_cons,e']
      rw [valV_neg e,b]; exact ih
theorem KT.repl {H : Hp} {kvs : List (List Key × V)} {xs : List (List Key × Addr × Value)} (r : KT H kvs xs) (k : List Key) {y : V} {u : Value} (ry : RelV y u) :
    KT H (kvs.map fun kv => if kv.1 = k then (kv.1,y) else kv) (xs.map (putAt k u)) := by
  induction r with
  | nil => exact .nil
  | @cons p q ps qs h t ih =>
    rw [List.map_cons,List.map_cons]
    refine .cons ?_ ih
    obtain ⟨h1,h2,h3⟩ := h
    unfold putAt
    by_cases e : p.1 = k
    · rw [if_pos e,if_pos (h1.symm.trans e)]; exact ⟨h1,h2,ry⟩
    · rw [if_neg e,if_neg (fun z => e (h1.trans z))]; exact ⟨h1,h2,h3⟩
theorem KT.put {H : Hp} {kvs : List (List Key × V)} {xs : List (List Key × Addr × Value)} (r : KT H kvs xs) (k : List Key) {b : Addr} {y : V} {u : Value} (hb : H b = some (.tup (k.map kV))) (ry : RelV y u) :
    KT H (putKV kvs k y) (storedH xs k b u) := by
  have e : (kvs.any fun kv => decide (kv.1 = k)) = (atKey xs k).isSome := by
    rw [valV_any,(r.val k).isSome_eq,Option.isSome_map]
  unfold putKV storedH
  rw [e]
  by_cases q : (atKey xs k).isSome = true
  · rw [if_pos q,if_pos q]; exact r.repl k ry
  · rw [if_neg q,if_neg q]; exact Paired.snoc r ⟨rfl,hb,ry⟩
theorem KT.keeps {H H' : Hp} {kvs : List (List Key × V)} {xs : List (List Key × Addr × Value)} (r : KT H kvs xs) (ht : ∀ b ys,H b = some (.tup ys) → H' b = some (.tup ys)) : KT H' kvs xs :=
  Paired.mapP r fun _ _ z => ⟨z.1,ht _ _ z.2.1,z.2.2⟩
section
variable {P : Program} {w : World} {H : Hp} {h : Heap} {a : Addr}
theorem rd_of {u : HO} (ok : HOk P w H h) (e : Rd H a u) : ObjOk P w H h a u := e.ok ok
theorem dk_rd {kvs : List (Key × V)} (ok : HOk P w H h) (e : Rd H a (.dK kvs)) : kvs.length ≤ sizeLine ∧ (a == sysModules) = false ∧ ∃ vs,KV kvs vs ∧ h.DictOf (mixKind P w) a vs :=
  show ObjOk P w H h a (.dK kvs) from rd_of ok e
theorem dk_of {kvs : List (Key × V)} (ok : HOk P w H h) (e : H a = some (.dK kvs)) : kvs.length ≤ sizeLine ∧ (a == sysModules) = false ∧ ∃ vs,KV kvs vs ∧ h.DictOf (mixKind P w) a vs := dk_rd ok (.inl e)
theorem key_of {ks : List Key} (ok : HOk P w H h) (e : H a = some (.tup (ks.map kV))) : (tupleKind (mixKind P w)).is h ks a := by
  obtain ⟨_,its,r,o,h1,h2,n,h3⟩ := (show ObjOk P w H h a (.tup (ks.map kV)) from ok a _ e)
  exact ⟨o,its.toArray,n,h1,h2,h3,by simpa using items_are r⟩
theorem dt_rd {kvs : List (List Key × V)} (ok : HOk P w H h) (e : Rd H a (.dT kvs)) : kvs.length ≤ sizeLine ∧ (a == sysModules) = false ∧
    ∃ xs,KT H kvs xs ∧ h.DictOfH (tupleKind (mixKind P w)) a xs := by
  obtain ⟨z,y,xs,r,o,es,ep,h1,h2,h3,h4,h5⟩ := (show ObjOk P w H h a (.dT kvs) from rd_of ok e)
  refine ⟨z,y,xs,r,o,es,ep,h1,h2,h3,h4,fun x hx => ?_,h5⟩
  have all : ∀ {l : List (List Key × V)} {m : List (List Key × Addr × Value)},KT H l m → ∀ x ∈ m,(tupleKind (mixKind P w)).is h x.1 x.2.1 := by
    intro l m q
    induction q with
    | nil => intro x hx; exact nomatch hx
    | @cons p q ps qs hq t ih =>
      intro x hx
      rcases List.mem_cons.mp hx with e | hx
      · subst e
        exact key_of ok (by rw [← hq.1]; exact hq.2.1)
      · exact ih x hx
  exact all r x hx
theorem dt_of {kvs : List (List Key × V)} (ok : HOk P w H h) (e : H a = some (.dT kvs)) : kvs.length ≤ sizeLine ∧ (a == sysModules) = false ∧
    ∃ xs,KT H kvs xs ∧ h.DictOfH (tupleKind (mixKind P w)) a xs := dt_rd ok (.inl e)
end
def DGet (H : Hp) (a : Addr) (y : V) (r : Option V) : Prop :=
  (∃ kvs k,Rd H a (.dK kvs) ∧ y = kV k ∧ r = valV kvs k) ∨ ∃ kvs k b,Rd H a (.dT kvs) ∧ y = .ref b ∧ H b = some (.tup (k.map kV)) ∧ r = valV kvs k
def DPut (H : Hp) (a : Addr) (y v : V) (H' : Hp) : Prop :=
  (∃ kvs k,H a = some (.dK kvs) ∧ y = kV k ∧ kvs.length < sizeLine ∧ H' = upd H a (.dK (putKV kvs k v))) ∨
  ∃ kvs k b,H a = some (.dT kvs) ∧ y = .ref b ∧ H b = some (.tup (k.map kV)) ∧ kvs.length < sizeLine ∧ H' = upd H a (.dT (putKV kvs k v))
theorem DGet.k {H : Hp} {a : Addr} {kvs : List (Key × V)} {k : Key} (e : H a = some (.dK kvs)) : DGet H a (kV k) (valV kvs k) := .inl ⟨kvs,k,.inl e,rfl,rfl⟩
theorem DPut.k {H : Hp} {a : Addr} {kvs : List (Key × V)} {k : Key} {v : V} (e : H a = some (.dK kvs)) (hl : kvs.length < sizeLine) : DPut H a (kV k) v (upd H a (.dK (putKV kvs k v))) := .inl ⟨kvs,k,e,rfl,hl,rfl⟩
section
variable {X : Cx} {pins : List (Addr × Obj)} {σ : St} {H : Hp} {s : Shared} {a : Addr} {y v : V} {u r : Value} {o : Option V} {A : Around} {E : Value → Shared → Prop}
theorem d_getItem {Q : Value → Shared → Prop} (hu : A.units + 1 < cLine) (I : Inv X pins σ H s) (g : DGet H a y (some v)) (ry : RelV y u) (h : ∀ w' s',Inv X pins σ H s' → RelV v w' → Q w' s') :
    wpAny (model X.prog X.w) A (getItem (.ref a) u) Q E s := by
  rcases g with ⟨kvs,k,e,ey,l⟩ | ⟨kvs,k,b,e,ey,eb,l⟩
  · subst ey
    obtain ⟨z,hd,vs,rel,dd⟩ := dk_rd I.hok e
    obtain ⟨w',hw,rw'⟩ := RelO.some_of (v := v) (o := valueAt vs k) (by rw [l]; exact rel.val k)
    exact wpAny_getItem_of (kV_is ry) dd.mapOf hw (h w' _ (I.tok _) rw')
  · subst ey
    cases (show u = Value.ref b from ry)
    obtain ⟨z,hd,xs,rel,dd⟩ := dt_rd I.hok e
    obtain ⟨w',hw,rw'⟩ := RelO.some_of (v := v) (o := (atKey xs k).map (·.2)) (by rw [l]; exact rel.val k)
    obtain ⟨p,hp,hp2⟩ := Option.map_eq_some_iff.mp hw
    refine wpAny_getItem_heap (tupleKind_room_in1 hu) (key_of I.hok eb) dd hp ?_
    rw [hp2]
    exact h w' _ (I.tok _) rw'
theorem d_in {Q : Value → Shared → Prop} (hu : A.units + 1 < cLine) (I : Inv X pins σ H s) (g : DGet H a y o) (ry : RelV y u) (h : ∀ s',Inv X pins σ H s' → Q (.bool o.isSome) s') :
    wpAny (model X.prog X.w) A (compareOp .In u (.ref a)) Q E s := by
  rcases g with ⟨kvs,k,e,ey,l⟩ | ⟨kvs,k,b,e,ey,eb,l⟩
  · subst ey
    obtain ⟨z,hd,vs,rel,dd⟩ := dk_rd I.hok e
    refine wpAny_in_of (kV_is ry) hd dd.mapOf ?_
    rw [← (rel.val k).isSome_eq,← l]
    exact h _ (I.tok _)
  · subst ey
    cases (show u = Value.ref b from ry)
    obtain ⟨z,hd,xs,rel,dd⟩ := dt_rd I.hok e
    refine wpAny_in_heap (tupleKind_room_in1 hu) (key_of I.hok eb) hd dd ?_
    have q := (rel.val k).isSome_eq
    rw [Option.isSome_map] at q
    rw [← q,← l]
    exact h _ (I.tok _)
theorem d_notIn {Q : Value → Shared → Prop} (hu : A.units + 1 < cLine) (I : Inv X pins σ H s) (g : DGet H a y o) (ry : RelV y u) (h : ∀ s',Inv X pins σ H s' → Q (.bool (!o.isSome)) s') :
    wpAny (model X.prog X.w) A (compareOp .NotIn u (.ref a)) Q E s := by
  rcases g with ⟨kvs,k,e,ey,l⟩ | ⟨kvs,k,b,e,ey,eb,l⟩
  · subst ey
    obtain ⟨z,hd,vs,rel,dd⟩ := dk_rd I.hok e
    refine wpAny_notIn_of (kV_is ry) hd dd.mapOf ?_
    rw [← (rel.val k).isSome_eq,← l]
    exact h _ (I.tok _)
  · subst ey
    cases (show u = Value.ref b from ry)
    obtain ⟨z,hd,xs,rel,dd⟩ := dt_rd I.hok e
    refine wpAny_notIn_heap (tupleKind_room_in1 hu) (key_of I.hok eb) hd dd ?_
    have q := (rel.val k).isSome_eq
    rw [Option.isSome_map] at q
    rw [← q,← l]
    exact h _ (I.tok _)
theorem d_write {h' : Heap} {t' : Nat} {ob : HO} (I : Inv X pins σ H s) (mu : Mut (H a)) (hs : Heap.SameBut a s.heap h') (he : ∃ q,h'.get? a = some q) (new : ObjOk X.prog X.w (upd H a ob) h' a ob) :
    Inv X pins σ (upd H a ob) { s with heap := h',toks := t' } :=
  I.write (x := a) (e := a) mu (.inl rfl) (fun b q hb z => (hs.2 b hb).trans z) he new
theorem dk_new {P : Program} {w : World} {H' : Hp} {h' : Heap} {kvs : List (Key × V)} {vs : List (Key × Value)} (z : kvs.length ≤ sizeLine) (hd : (a == sysModules) = false) (rel : KV kvs vs) (dd : h'.DictOf (mixKind P w) a vs) :
    ObjOk P w H' h' a (.dK kvs) := ⟨z,hd,vs,rel,dd⟩
theorem d_setItem {H' : Hp} {Q : Unit → Shared → Prop} (hu : A.units + 1 < cLine) (I : Inv X pins σ H s) (g : DPut H a y v H') (ry : RelV y u) (rv : RelV v r) (h : ∀ s',Inv X pins σ H' s' → Q () s') :
    wpAny (model X.prog X.w) A (setItem (.ref a) u r) Q E s := by
  rcases g with ⟨kvs,k,e,ey,l,eH⟩ | ⟨kvs,k,b,e,ey,eb,l,eH⟩
  · subst ey eH
    obtain ⟨z,hd,vs,rel,dd⟩ := dk_of I.hok e
    have hz : vs.length ≤ sizeLine := by rw [← rel.length]; exact z
    have hl : (putKV kvs k v).length ≤ sizeLine := by have := length_putK kvs k v; omega
    refine wpAny_setItem_pairs (hsz := hz) (kV_is ry) dd fun h' dd' hs => h _ ?_
    have he : ∃ q,h'.get? a = some q := let ⟨q,_,_,hq,_⟩ := dd'; ⟨q,hq⟩
    exact d_write I (by rw [e]; exact True.intro) hs he (dk_new hl hd (rel.put k rv) dd')
  · subst ey eH
    cases (show u = Value.ref b from ry)
    obtain ⟨z,hd,xs,rel,dd⟩ := dt_of I.hok e
    have hz : xs.length ≤ sizeLine := by rw [← Paired.length rel]; exact z
    have hl : (putKV kvs k v).length ≤ sizeLine := by have := length_putK kvs k v; omega
    refine wpAny_setItem_heap (hsz := hz) (tupleKind_room_in1 hu) (key_of I.hok eb) dd fun h' dd' hs => h _ ?_
    obtain ⟨q,es,ep,hq,h2,h3,h4,_,h5⟩ := dd'
    refine d_write I (by rw [e]; exact True.intro) hs ⟨q,hq⟩ ⟨hl,hd,_,(rel.put k eb rv).keeps fun c ys ec => ?_,q,es,ep,hq,h2,h3,h4,h5⟩
    rw [upd_ne (ne_of ec e (fun z => nomatch z))]
    exact ec
end
section
variable {X : Cx} {pins : List (Addr × Obj)} {σ : St} {H : Hp} {s : Shared} {a : Addr} {kvs : List (Key × V)} {k : Key} {u : Value} {A : Around} {E : Value → Shared → Prop}
end
def NoSl (i : Expr) : Prop := ∀ ov iv,subscripted i false ov iv = operate [ov,iv] (getItem ov iv)
theorem subD_of {prog : Program} {w : World} {A : Around} {E : Value → Shared → Prop} {s : Shared} {env : Env} {value slice : Expr} {pos : Pos} {T id : String} {Q : Value → Shared → Prop}
    (hl : typeLookup (.type T) "__getitem__" = pure (some (.builtin id))) (hs : NoSl slice)
    (h : wpAny (model prog w) A (eval value env) (fun o s₁ => wpAny (model prog w) A (eval slice env) (fun i s₂ => s₂.TypeIs o T ∧ wpAny (model prog w) A (getItem o i) Q E s₂) E s₁) E s) :
    wpAny (model prog w) A (eval (.Subscript value slice pos) env) Q E s := by
  refine Subscript_ (wpAny_mono h (fun o s₁ h₁ => wpAny_mono h₁ (fun i s₂ h₂ => ?_) fun _ _ x => x) fun _ _ x => x)
  obtain ⟨hT,h₂⟩ := h₂
  unfold subscriptTail
  refine wpAny_bind ?_
  rw [getitemInPython_of_ne hT.not_modules]
  refine wpAny_bind (wpAny_specialOf hT hl ?_)
  have fin : wpAny (model prog w) A (subscripted slice false o i) (fun r s₃ => wpAny (model prog w) A (letTemporaryGo value o r >>= fun _ => pure r) Q E s₃) E s₂ := by
    rw [hs o i]
    exact wpAny_operating (wpAny_mono h₂ (fun r s₃ h₃ => wpAny_bind (wpAny_letTemporaryGo (wpAny_pure h₃))) fun _ _ x => x)
  first
    | exact wpAny_pure (wpAny_bind fin)
    | exact wpAny_bind (wpAny_pure (wpAny_bind fin))
    | exact wpAny_bind fin
theorem dict_typeIs {X : Cx} {pins : List (Addr × Obj)} {σ : St} {H : Hp} {s : Shared} {a : Addr} {y : V} {o : Option V} (I : Inv X pins σ H s) (g : DGet H a y o) : s.TypeIs (.ref a) "dict" := by
  rcases g with ⟨kvs,k,e,_,_⟩ | ⟨kvs,k,b,e,_,_,_⟩
  · obtain ⟨_,_,vs,_,dd⟩ := dk_rd I.hok e
    exact dd.typeIs
  · obtain ⟨_,_,xs,_,dd⟩ := dt_rd I.hok e
    exact dd.typeIs
def tDGet (td ty : TE) : TE := fun σ H Q => td σ H fun x H1 => ty σ H1 fun y H2 => ∃ a v,x = .ref a ∧ DGet H2 a y (some v) ∧ Q v H2
def sDPut (td ty tv : TE) : TS := fun D σ H => tv σ H fun v H1 => td σ H1 fun x H2 => ty σ H2 fun y H3 => ∃ a H4,x = .ref a ∧ DPut H3 a y v H4 ∧ D.nx σ H4
section
variable {X : Cx} {o i e value : Expr} {pos pos' tpos : Pos} {td ty tv : TE}
theorem pe_dget (hu : X.A.units + 1 < cLine) (ho : PE X o td) (hi : PE X i ty) (hs : NoSl i) : PE X (.Subscript o i pos) (tDGet td ty) := by
  (try refine ⟨?_⟩); intro pins s σ H Q I h
  refine subD_of PySem.F.slot_dict_getitem.lookup hs (thn (ho pins s σ H _ I h) fun u s1 ⟨x,H1,I1,rx,q1⟩ => thn (hi pins s1 σ H1 _ I1 q1) fun iv s2 ⟨y,H2,I2,ry,a,v,ex,g,q2⟩ => ?_)
  subst ex
  obtain rfl : u = Value.ref a := rx
  exact ⟨dict_typeIs I2 g,d_getItem hu I2 g ry fun w' s3 I3 rw' => ⟨v,H2,I3,rw',q2⟩⟩
theorem ps_dput (hu : X.A.units + 1 < cLine) (ho : PE X o td) (hi : PE X i ty) (hv : PE X value tv) (hs : swapsWith value (some (.Subscript o i pos')) pos.line X.env = pure false) :
    PS X (.Assign [.Subscript o i pos'] value pos) (sDPut td ty tv) := by
  (try refine ⟨?_⟩); intro pins s σ H D I h
  refine wpAny_Assign_Subscript (thn (hv pins s σ H _ I h) fun r s1 ⟨v,H1,I1,rv,q1⟩ => thn (ho pins s1 σ H1 _ I1 q1) fun u s2 ⟨x,H2,I2,rx,q2⟩ => thn (hi pins s2 σ H2 _ I2 q2) fun iv s3 ⟨y,H3,I3,ry,a,H4,ex,g,q3⟩ => ?_) hs
  subst ex
  obtain rfl : u = Value.ref a := rx
  exact d_setItem hu I3 g ry rv fun s4 I4 => ⟨σ,H4,I4,q3⟩
end
section
variable {X : Cx} {pos : Pos}
end
section
variable {X : Cx} {pins : List (Addr × Obj)} {σ : St} {H : Hp} {s : Shared} {a : Addr} {y d : V} {u r : Value} {o : Option V} {A : Around} {E : Value → Shared → Prop}
end
section
variable {X : Cx} {o e f : Expr} {apos cpos : Pos} {td ty tx : TE}
end
section
variable {X : Cx} {pins : List (Addr × Obj)} {σ : St} {H : Hp} {s : Shared} {a : Addr} {kvs : List (Key × V)} {A : Around} {E : Value → Shared → Prop}
end
section
variable {X : Cx} {pins : List (Addr × Obj)} {σ : St} {H : Hp} {s : Shared} {a : Addr} {y : V} {u : Value} {A : Around} {E : Value → Shared → Prop}
end
def dKey : Key → D
  | .inl i => .int i
  | .inr x => .str x
theorem rep_key {G : Hp} {k : Key} {v : V} (h : Rep G (dKey k) v) : v = kV k := by cases k <;> (unfold dKey at h; rw [Rep] at h; exact h)
def valD : List Key → List D → Key → Option D
  | j :: ks,d :: ds,k => if j = k then some d else valD ks ds k
  | _,_,_ => none
def hasK : List Key → Key → Bool
  | [],_ => false
  | j :: ks,k => if j = k then true else hasK ks k
def putKs (ks : List Key) (k : Key) : List Key := if hasK ks k = true then ks else ks ++ [k]
def putAt {α : Type} (ks : List Key) (xs : List α) (k : Key) (x : α) : List α := if hasK ks k = true then List.zipWith (fun j y => if j = k then x else y) ks xs else xs ++ [x]
theorem val_of {G : Hp} {k : Key} : ∀ {ks : List Key} {ds : List D} {xs : List V},ks.length = ds.length → Reps G ds xs → (valD ks ds k = none ∧ valV (ks.zip xs) k = none) ∨ ∃ d v,valD ks ds k = some d ∧ valV (ks.zip xs) k = some v ∧ Rep G d v
  | [],[],xs,_,h => .inl ⟨rfl,rfl⟩
  | j :: ks,d :: ds,xs,hl,h => by
    rw [Reps] at h
    obtain ⟨v,vs,rfl,h1,h2⟩ := h
    rw [List.zip_cons_cons]
    by_cases e : j = k
    · exact .inr ⟨d,v,by rw [valD,if_pos e],by rw [valV_pos (p := (j,v)) e],h1⟩
    · rw [valD,if_neg e,valV_neg (p := (j,v)) e]
      exact val_of (by simpa using hl) h2
  | [],_ :: _,_,hl,_ => by simp at hl
  | _ :: _,[],_,hl,_ => by simp at hl
theorem valD_some : ∀ {ks : List Key} {ds : List D} {k : Key},ks.length = ds.length → (valD ks ds k).isSome = hasK ks k
  | [],[],k,_ => rfl
  | j :: ks,d :: ds,k,hl => by
    rw [valD,hasK]
    by_cases e : j = k
    · rw [if_pos e,if_pos e]; rfl
    · rw [if_neg e,if_neg e,valD_some (by simpa using hl)]
  | [],_ :: _,_,hl => by simp at hl
  | _ :: _,[],_,hl => by simp at hl
theorem putAt_len {α : Type} {ks : List Key} {xs : List α} {k : Key} {x : α} (h : ks.length = xs.length) : (putKs ks k).length = (putAt ks xs k x).length := by
  unfold putKs putAt; split <;> simp [h]
theorem any_mem {β : Type} {k : Key} : ∀ {ks : List Key} {xs : List β},ks.length = xs.length → ((ks.zip xs).any fun kv => decide (kv.1 = k)) = hasK ks k
  | [],[],_ => rfl
  | j :: ks,x :: xs,hl => by
    rw [List.zip_cons_cons,List.any_cons,any_mem (by simpa using hl),hasK]
    by_cases e : j = k
    · simp [e]
    · simp [e]
  | [],_ :: _,hl => by simp at hl
  | _ :: _,[],hl => by simp at hl
theorem put_zip {ks : List Key} {xs : List V} {k : Key} {v : V} (h : ks.length = xs.length) : putKV (ks.zip xs) k v = (putKs ks k).zip (putAt ks xs k v) := by
  unfold putKV putKs putAt
  rw [any_mem h]
  by_cases e : hasK ks k = true
  · rw [if_pos e,if_pos e,if_pos e]
    clear e
    induction ks generalizing xs with
    | nil => rfl
    | cons j ks ih =>
      cases xs with
      | nil => simp at h
      | cons x xs =>
        rw [List.zip_cons_cons,List.map_cons,List.zipWith_cons_cons,List.zip_cons_cons,ih (by simpa using h)]
        by_cases e : j = k <;> simp [e]
  · rw [if_neg e,if_neg e,if_neg e]
    rw [List.zip_append h]; rfl
theorem seps_put {G H : Hp} {O : Own} {i : Nat} {k : Key} {d : D} {v : V} (hi : imm d = true) (hr : Rep G d v) : ∀ {ks : List Key} {ds : List D} {m : Nat} {π : List Nat} {xs : List V},ks.length = ds.length → Seps G H O i ds m π xs →
    Seps G H O i (List.zipWith (fun j y => if j = k then d else y) ks ds) m π (List.zipWith (fun j y => if j = k then v else y) ks xs)
  | [],[],m,π,xs,_,h => by rw [Seps] at h; subst h; show Seps _ _ _ _ [] _ _ []; rw [Seps]
  | j :: ks,e :: ds,m,π,xs,hl,h => by
    rw [Seps] at h
    obtain ⟨u,us,rfl,h1,h2⟩ := h
    rw [List.zipWith_cons_cons,List.zipWith_cons_cons,Seps]
    refine ⟨_,_,rfl,?_,seps_put hi hr (by simpa using hl) h2⟩
    by_cases c : j = k
    · rw [if_pos c,if_pos c]; exact hr.sep d _ v hi
    · rw [if_neg c,if_neg c]; exact h1
  | [],_ :: _,_,_,_,hl,_ => by simp at hl
  | _ :: _,[],_,_,_,hl,_ => by simp at hl
theorem seps_putAt {G H : Hp} {O : Own} {i : Nat} {k : Key} {d : D} {v : V} {ks : List Key} {ds : List D} {π : List Nat} {xs : List V} (hi : imm d = true) (hr : Rep G d v) (hl : ks.length = ds.length) (h : Seps G H O i ds 0 π xs) :
    Seps G H O i (putAt ks ds k d) 0 π (putAt ks xs k v) := by
  unfold putAt
  split
  · exact seps_put hi hr hl h
  · exact h.snoc (hr.sep d _ v hi)
section
variable {C : Ctx} {ow : List Bool} {G : Hp} {ρ : DSt} {σ : St} {H : Hp} {pd : List (D × V)} {O : Own}
theorem RO.newD (h : RO C ow G ρ σ H pd O) {p : Addr} (hp : H p = none) : R C ow G ρ σ (upd H p (.dK [])) ((.dic [] [],.ref p) :: pd) := by
  obtain ⟨gp,op,_⟩ : G p = none ∧ O p = none ∧ C.H p = none := h.free hp
  have ne : ∀ a l,O a = some l → a ≠ p := fun a l e z => by rw [z,op] at e; cases e
  let O' : Own := fun a => if a = p then some (2 * pd.length + 1,[]) else O a
  have old : ∀ a l,O a = some l → O' a = some l := fun a l e => by
    show (if a = p then _ else _) = _
    rw [if_neg (ne a _ e),e]
  refine ⟨O',h.len,?_,h.g0,h.gn,?_,h.cok,?_,?_,h.mp,?_,⟨?_,?_⟩,Nat.le_succ_of_le h.np⟩
  · intro a u e
    rw [upd_ne (fun z => by rw [z,gp] at e; cases e)]
    exact h.gh _ _ e
  · intro a l e
    by_cases z : a = p
    · subst z; exact ⟨gp,⟨.inr [],upd_same⟩,.inl (h.al _ hp)⟩
    · rw [upd_ne z]
      change (if a = p then _ else _) = _ at e
      rw [if_neg z] at e
      exact h.og a _ e
  · intro a u e n
    rw [upd_ne (ne_of_none (h.fr a u e n) hp)]
    exact h.fr a u e n
  · intro a e
    by_cases z : a = p
    · subst z; rw [upd_same] at e; cases e
    · rw [upd_ne z] at e; exact h.al a e
  · intro i d e
    obtain ⟨v,h1,h2⟩ := h.sl i d e
    refine ⟨v,h1,?_⟩
    split at h2
    · rename_i c; rw [if_pos c]; exact h2.keep (fun _ _ z => z) fun a τ q => ⟨old a _ q,upd_ne (ne a _ q)⟩
    · rename_i c; rw [if_neg c]; exact h2
  · rw [Sep]
    exact ⟨p,[],rfl,by show (if p = p then _ else _) = _; rw [if_pos rfl],upd_same,rfl,by rw [Seps]⟩
  · exact Pend.keep (fun _ _ z => z) (fun a j π hj q => ⟨old a _ q,upd_ne (ne a _ q)⟩) h.pn
theorem RO.writeD (h : RO C ow G ρ σ H pd O) {i : Nat} {ks : List Key} {ds : List D} (e : ρ[i]? = some (some (.dic ks ds))) (hi : ow[i]? = some true) :
    ∃ a xs,σ[i]? = some (some (.ref a)) ∧ H a = some (.dK (ks.zip xs)) ∧ ks.length = ds.length ∧ Seps G H O (2 * i) ds 0 [] xs ∧
      ∀ (ks' : List Key) ds' xs',ks'.length = ds'.length → Seps G H O (2 * i) ds' 0 [] xs' → RO C ow G (ρ.set i (some (.dic ks' ds'))) σ (upd H a (.dK (ks'.zip xs'))) pd O := by
  obtain ⟨v,hv,s⟩ := h.sl i _ e
  rw [if_pos hi,Sep] at s
  obtain ⟨a,xs,rfl,hO,hH,hl,hs⟩ := s
  refine ⟨a,xs,hv,hH,hl,hs,fun ks' ds' xs' hl' hs' => ?_⟩
  obtain ⟨g0,_,nw⟩ := h.og a _ hO
  have ne : ∀ b l π,O b = some (l,π) → (l ≠ 2 * i ∨ π ≠ []) → b ≠ a := fun b l π q n z => by
    subst z
    rw [hO] at q
    obtain ⟨q1,q2⟩ := Prod.mk.inj (Option.some.inj q)
    rcases n with n | n
    · exact n q1.symm
    · exact n q2.symm
  refine ⟨by simp [h.len],?_,h.g0,h.gn,?_,h.cok,?_,?_,h.mp,?_,?_,h.np⟩
  · intro b o q
    rw [upd_ne (fun z => by rw [z,g0] at q; cases q)]; exact h.gh _ _ q
  · intro b l q
    obtain ⟨q1,⟨ys,q2⟩,q3⟩ := h.og b l q
    refine ⟨q1,?_,q3⟩
    by_cases z : b = a
    · subst z; exact ⟨.inr _,upd_same⟩
    · rw [upd_ne z]; exact ⟨ys,q2⟩
  · intro b o q n
    by_cases z : b = a
    · subst z
      rcases nw with nw | ⟨_,nw⟩
      · rw [nw] at q; cases q
      · rw [nw] at n; cases n
    · rw [upd_ne z]; exact h.fr b o q n
  · intro b q
    by_cases z : b = a
    · subst z; rw [upd_same] at q; cases q
    · rw [upd_ne z] at q; exact h.al b q
  · intro j u q
    rcases set_at q with ⟨rfl,z⟩ | ⟨z,q'⟩
    · cases z
      refine ⟨_,hv,?_⟩
      rw [if_pos hi,Sep]
      exact ⟨a,xs',rfl,hO,upd_same,hl',hs'.keep (fun _ _ z => z) fun b τ hτ q => ⟨q,upd_ne (ne b _ _ q (.inr (by simpa using hτ)))⟩⟩
    · obtain ⟨w,h1,h2⟩ := h.sl j u q'
      refine ⟨w,h1,?_⟩
      split at h2
      · rename_i c; rw [if_pos c]; exact h2.keep (fun _ _ z => z) fun b τ q => ⟨q,upd_ne (ne b _ _ q (.inl (by omega)))⟩
      · rename_i c; rw [if_neg c]; exact h2
  · exact Pend.keep (fun _ _ z => z) (fun b j π hj q => ⟨q,upd_ne (ne b _ _ q (.inl (fun z => even_ne z.symm)))⟩) h.pn
end
section
variable {X : Cx} {M : Md} {ow : List Bool} {a b c e : Expr} {ma mb mc : ME} {pos : Pos}
theorem qf_dic0 : QF X ow (.Dict [] [] pos) (mC (.dic [] [])) := ⟨_,pe_dnewK,fun C G ρ σ H pd q Q r hm k p hp => by
  obtain ⟨O,r⟩ := r
  exact k _ ρ _ G _ hm (Same.refl _) Kp.refl (r.newD hp)⟩
def rInK : R2 := fun y x H Q => ∃ a kvs k,x = .ref a ∧ y = kV k ∧ H a = some (.dK kvs) ∧ Q (.bl (valV kvs k).isSome) H
def rNinK : R2 := fun y x H Q => ∃ a kvs k,x = .ref a ∧ y = kV k ∧ H a = some (.dK kvs) ∧ Q (.bl (!(valV kvs k).isSome)) H
theorem op_inK (hu : X.A.units + 1 < cLine) : OpR X (compareOp .In) rInK := by
  intro pins s σ H x y v u Q I rx ry h
  obtain ⟨p,kvs,k,rfl,rfl,g,q⟩ := h
  cases ry
  exact d_in hu I (DGet.k g) rx fun s' I' => ⟨.bl _,H,I',rfl,q⟩
theorem op_notInK (hu : X.A.units + 1 < cLine) : OpR X (compareOp .NotIn) rNinK := by
  intro pins s σ H x y v u Q I rx ry h
  obtain ⟨p,kvs,k,rfl,rfl,g,q⟩ := h
  cases ry
  exact d_notIn hu I (DGet.k g) rx fun s' I' => ⟨.bl _,H,I',rfl,q⟩
def fInK (neg : Bool) : D → D → (D → Prop) → Prop := fun x y q => match y with
  | .dic ks _ => ∃ k,x = dKey k ∧ q (.bl (if neg then !hasK ks k else hasK ks k))
  | _ => False
theorem isSome_key {G : Hp} {k : Key} {ks : List Key} {ds : List D} {xs : List V} (hl : ks.length = ds.length) (h : Reps G ds xs) : (valV (ks.zip xs) k).isSome = hasK ks k := by
  rw [← valD_some (ds := ds) hl]
  rcases val_of (k := k) hl h with ⟨e1,e2⟩ | ⟨d,v,e1,e2,_⟩ <;> rw [e1,e2] <;> rfl
theorem dInK : DOp rInK (fInK false) := fun G H x y dx dy q Q s p1 p2 hf k => by
  unfold fInK at hf
  split at hf
  · obtain ⟨kk,rfl,hq⟩ := hf
    rw [Rep] at p2
    obtain ⟨p,xs,rfl,g1,g2,g3⟩ := p2
    refine ⟨p,_,kk,rfl,rep_key p1,s _ _ g1,?_⟩
    rw [isSome_key g2 g3]
    exact k _ _ hq (rep_bl _)
  · exact hf.elim
theorem dNinK : DOp rNinK (fInK true) := fun G H x y dx dy q Q s p1 p2 hf k => by
  unfold fInK at hf
  split at hf
  · obtain ⟨kk,rfl,hq⟩ := hf
    rw [Rep] at p2
    obtain ⟨p,xs,rfl,g1,g2,g3⟩ := p2
    refine ⟨p,_,kk,rfl,rep_key p1,s _ _ g1,?_⟩
    rw [isSome_key g2 g3]
    exact k _ _ hq (rep_bl _)
  · exact hf.elim
def fDGet : D → D → (D → Prop) → Prop := fun x y q => match x with
  | .dic ks ds => ∃ k d,y = dKey k ∧ valD ks ds k = some d ∧ q d
  | _ => False
theorem qe_dget (hu : X.A.units + 1 < cLine) (ha : QE X ow a ma) (hb : QE X ow b mb) (hs : NoSl b := by exact fun _ _ => rfl) : QE X ow (.Subscript a b pos) (mOp fDGet ma mb) := by
  obtain ⟨ta,pa,sa⟩ := ha; obtain ⟨tb,pb,sb⟩ := hb
  refine ⟨_,pe_dget hu pa pb hs,fun C G ρ σ H pd q Q hr h k => ?_⟩
  refine se_two sa sb hr h fun dx dy ρ' x y G' H' hf s kp r' p1 p2 => ?_
  unfold fDGet at hf
  split at hf
  · obtain ⟨kk,d,rfl,e,hq⟩ := hf
    rw [Rep] at p1
    obtain ⟨p,xs,rfl,g1,g2,g3⟩ := p1
    rcases val_of (k := kk) g2 g3 with ⟨e1,_⟩ | ⟨d',v,e1,e2,e3⟩
    · rw [e] at e1; cases e1
    · rw [e] at e1; cases e1
      refine ⟨p,v,rfl,?_,k d ρ' v G' H' hq s kp r' e3⟩
      rw [rep_key p2,← e2]
      exact DGet.k (r'.gh _ _ g1)
  · exact hf.elim
def mPutK (i : Nat) (mk m : ME) : MS := fun n ρ => m ρ fun d ρ1 => imm d = true ∧ match ρ1[i]? with
  | some (some (.dic _ _)) => mk ρ1 fun kd ρ2 => match ρ2[i]? with
    | some (some (.dic ks ds)) => ∃ k,kd = dKey k ∧ ks.length < 1000 ∧ n.nx (ρ2.set i (some (.dic (putKs ks k) (putAt ks ds k d))))
    | _ => False
  | _ => False
theorem qs_putK {i : Nat} {x : Str} {npos spos : Pos} (hu : X.A.units + 1 < cLine) (hN : X.N[i]? = some x) (he : QE X M.ow e ma) (hk : QE X M.ow b mb) (ho : M.ow[i]? = some true := by decide)
    (hv : Vis X.env.scope x := by first | exact Or.inl rfl | exact Or.inr (Or.inl rfl) | exact Or.inr (Or.inr rfl)) (hd : (x == ("__debug__" : Str)) = false := by decide) (hcd : (x == ("__classdict__" : Str)) = false := by decide)
    (hs : swapsWith e (some (.Subscript (.Name x npos) b spos)) pos.line X.env = pure false := by rfl) :
    QS X M (.Assign [.Subscript (.Name x npos) b spos] e pos) (mPutK i mb ma) := by
  obtain ⟨t,p,s⟩ := he; obtain ⟨t2,p2,s2⟩ := hk
  refine ⟨_,ps_dput hu (pe_var hN hv hd hcd) p2 p hs,fun C G ρ σ H n D hm hn r h k => s C G ρ σ H [] _ _ r h fun d ρ' v G' H' hq z kp r' pv => ?_⟩
  obtain ⟨hi,hq⟩ := hq
  split at hq
  · rename_i ks0 ds0 e0
    obtain ⟨O0,ro⟩ := r'
    obtain ⟨a,xs,hu,_⟩ := ro.writeD e0 ho
    refine ⟨.ref a,hu,?_⟩
    refine s2 C G' ρ' σ H' _ _ _ ⟨O0,ro⟩ hq fun dk ρ2 jv G2 H2 hq2 z2 kp2 r2 pj => ?_
    split at hq2
    · rename_i ks ds e2
      obtain ⟨kk,rfl,hl,hq2⟩ := hq2
      obtain ⟨O2,r2⟩ := r2
      obtain ⟨a',xs',g1,g2,g3,g4,g5⟩ := r2.writeD e2 ho
      rw [hu] at g1; cases g1
      have hx : ks.length = xs'.length := by rw [g4.length]; exact g3
      refine ⟨a,_,rfl,by rw [rep_key pj]; exact DPut.k g2 (by rw [List.length_zip,← hx,Nat.min_self]; exact small1000 (Nat.le_of_lt hl)),?_⟩
      rw [put_zip hx]
      exact k.nx _ _ G2 _ hq2 (z.trans z2) ⟨O2,g5 _ _ _ (putAt_len g3) (seps_putAt hi (Rep.mono z2 _ _ pv) g3 g4)⟩
    · exact hq2.elim
  · exact hq.elim
end
def subD : D → Nat → Option D
  | .lst ds,c => ds[c]?
  | .tup ds,c => ds[c]?
  | _,_ => none
def putS : D → Nat → D → D
  | .lst ds,c,e => .lst (ds.set c e)
  | .tup ds,c,e => .tup (ds.set c e)
  | d,_,_ => d
def lenD : D → Nat
  | .lst ds => ds.length
  | .tup ds => ds.length
  | _ => 0
def getP : List Nat → D → Option D
  | [],d => some d
  | c :: p,d => match subD d c with
    | some e => getP p e
    | none => none
def setP : List Nat → D → D → D
  | [],_,x => x
  | c :: p,d,x => match subD d c with
    | some e => putS d c (setP p e x)
    | none => d
def SeqV (H : Hp) (v : V) (xs : List V) : Prop := ∃ b,v = .ref b ∧ (H b = some (.lst xs) ∨ H b = some (.tup xs))
def WalkV (H : Hp) : List Nat → V → V → Prop
  | [],v,u => v = u
  | c :: p,v,u => ∃ xs w,SeqV H v xs ∧ xs[c]? = some w ∧ WalkV H p w u
theorem SeqV.one {H : Hp} {v : V} {xs ys : List V} (h : SeqV H v xs) (g : SeqV H v ys) : xs = ys := by
  obtain ⟨b,rfl,h⟩ := h
  obtain ⟨b',e,g⟩ := g
  cases e
  rcases h with h | h <;> rcases g with g | g <;> (rw [h] at g; cases g) <;> rfl
theorem SeqV.mono {H H' : Hp} {v : V} {xs : List V} (s : Same H H') (h : SeqV H v xs) : SeqV H' v xs := by
  obtain ⟨b,e,h⟩ := h
  exact ⟨b,e,h.imp (s _ _) (s _ _)⟩
theorem WalkV.mono {H H' : Hp} (s : Same H H') : ∀ {p : List Nat} {v u : V},WalkV H p v u → WalkV H' p v u
  | [],_,_,h => h
  | _ :: _,_,_,⟨xs,w,h1,h2,h3⟩ => ⟨xs,w,h1.mono s,h2,h3.mono s⟩
theorem WalkV.one {H : Hp} : ∀ {p : List Nat} {v u u' : V},WalkV H p v u → WalkV H p v u' → u = u'
  | [],_,_,_,h,g => h.symm.trans g
  | _ :: _,_,_,_,⟨xs,w,h1,h2,h3⟩,⟨ys,w',g1,g2,g3⟩ => by
    cases h1.one g1
    rw [h2] at g2; cases g2
    exact h3.one g3
theorem WalkV.snoc {H : Hp} {c : Nat} {xs : List V} {w : V} : ∀ {p : List Nat} {v u : V},WalkV H p v u → SeqV H u xs → xs[c]? = some w → WalkV H (p ++ [c]) v w
  | [],v,u,h,g,e => by cases h; exact ⟨xs,w,g,e,rfl⟩
  | _ :: _,_,_,⟨ys,w',h1,h2,h3⟩,g,e => ⟨ys,w',h1,h2,h3.snoc g e⟩
theorem getP_snoc {c : Nat} : ∀ {p : List Nat} {d e : D},getP p d = some e → getP (p ++ [c]) d = subD e c
  | [],d,e,h => by cases h; show (match subD d c with | some e => getP [] e | none => none) = _; cases subD d c <;> rfl
  | b :: p,d,e,h => by
    show (match subD d b with | some e => getP (p ++ [c]) e | none => none) = _
    change (match subD d b with | some e => getP p e | none => none) = _ at h
    cases q : subD d b with
    | none => rw [q] at h; cases h
    | some e' => rw [q] at h; exact getP_snoc h
theorem Rep.walk {H : Hp} : ∀ {p : List Nat} {d e : D} {v : V},Rep H d v → getP p d = some e → ∃ u,WalkV H p v u ∧ Rep H e u
  | [],d,e,v,h,g => by cases g; exact ⟨v,rfl,h⟩
  | c :: p,d,e,v,h,g => by
    change (match subD d c with | some e => getP p e | none => none) = _ at g
    cases q : subD d c with
    | none => rw [q] at g; cases g
    | some d1 =>
      rw [q] at g
      cases d with
      | lst ds =>
        rw [Rep] at h
        obtain ⟨a,xs,rfl,h1,h2⟩ := h
        obtain ⟨w,d',e1,e2,e3⟩ := reps_at (r := c) h2 (List.getElem?_eq_some_iff.mp q).1
        rw [show ds[c]? = some d1 from q] at e2; cases e2
        obtain ⟨u,k1,k2⟩ := Rep.walk e3 g
        exact ⟨u,⟨xs,w,⟨a,rfl,.inl h1⟩,e1,k1⟩,k2⟩
      | tup ds =>
        rw [Rep] at h
        obtain ⟨a,xs,rfl,h1,h2⟩ := h
        obtain ⟨w,d',e1,e2,e3⟩ := reps_at (r := c) h2 (List.getElem?_eq_some_iff.mp q).1
        rw [show ds[c]? = some d1 from q] at e2; cases e2
        obtain ⟨u,k1,k2⟩ := Rep.walk e3 g
        exact ⟨u,⟨xs,w,⟨a,rfl,.inr h1⟩,e1,k1⟩,k2⟩
      | _ => cases q
theorem Seps.repl {G H H' : Hp} {O : Own} {i : Nat} {d' : D} : ∀ {es : List D} {k0 : Nat} {π : List Nat} {ys : List V} {c : Nat} {u : V},Seps G H O i es k0 π ys → ys[c]? = some u → Sep G H' O i d' ((k0 + c) :: π) u →
    (∀ (j : Nat) d v,j ≠ c → Sep G H O i d ((k0 + j) :: π) v → Sep G H' O i d ((k0 + j) :: π) v) → Seps G H' O i (es.set c d') k0 π ys
  | [],k0,π,ys,c,u,h,e,_,_ => by rw [Seps] at h; subst h; simp at e
  | d :: es,k0,π,ys,0,u,h,e,h1,h2 => by
    rw [Seps] at h
    obtain ⟨w,ws,rfl,w1,w2⟩ := h
    simp at e; subst e
    rw [List.set_cons_zero,Seps]
    refine ⟨_,ws,rfl,by simpa using h1,?_⟩
    have all : ∀ (es : List D) (k : Nat) (ws : List V),k0 < k → Seps G H O i es k π ws → Seps G H' O i es k π ws := by
      intro es
      induction es with
      | nil => intro k ws _ h; rw [Seps] at *; exact h
      | cons d es ih =>
        intro k ws hk h
        rw [Seps] at *
        obtain ⟨v,vs,rfl,v1,v2⟩ := h
        refine ⟨v,vs,rfl,?_,ih (k + 1) vs (by omega) v2⟩
        have := h2 (k - k0) d v (by omega)
        rw [show k0 + (k - k0) = k by omega] at this
        exact this v1
    exact all es (k0 + 1) ws (by omega) w2
  | d :: es,k0,π,ys,c + 1,u,h,e,h1,h2 => by
    rw [Seps] at h
    obtain ⟨w,ws,rfl,w1,w2⟩ := h
    rw [List.set_cons_succ,Seps]
    refine ⟨w,ws,rfl,by have := h2 0 d w (by omega); simpa using this (by simpa using w1),Seps.repl w2 (by simpa using e) ?_ ?_⟩
    · rw [show k0 + 1 + c = k0 + (c + 1) by omega]; exact h1
    · intro j d v hj
      rw [show k0 + 1 + j = k0 + (j + 1) by omega]
      exact h2 (j + 1) d v (by omega)
theorem Sep.focus {G H : Hp} {O : Own} {i : Nat} (gh : Same G H) (og : ∀ a l,O a = some l → G a = none) : ∀ {p : List Nat} {d : D} {π : List Nat} {v : V} {ds : List D},Sep G H O i d π v → getP p d = some (.lst ds) →
    ∃ a xs,WalkV H p v (.ref a) ∧ O a = some (i,p.reverse ++ π) ∧ H a = some (.lst xs) ∧ Seps G H O i ds 0 (p.reverse ++ π) xs ∧
      ∀ ds' xs',Seps G H O i ds' 0 (p.reverse ++ π) xs' → Sep G (upd H a (.lst xs')) O i (setP p d (.lst ds')) π v
  | [],d,π,v,ds,h,g => by
    cases g
    rw [Sep] at h
    obtain ⟨a,xs,rfl,h1,h2,h3⟩ := h
    refine ⟨a,xs,rfl,h1,h2,h3,fun ds' xs' h' => ?_⟩
    show Sep G _ O i (.lst ds') π _
    rw [Sep]
    refine ⟨a,xs',rfl,h1,upd_same,h'.keep (fun _ _ z => z) fun b τ hτ q => ⟨q,upd_ne fun z => ?_⟩⟩
    rw [z,h1] at q
    have := congrArg List.length (Prod.mk.inj (Option.some.inj q)).2
    simp at this
    exact hτ this
  | c :: p,d,π,v,ds,h,g => by
    change (match subD d c with | some e => getP p e | none => none) = _ at g
    cases q : subD d c with
    | none => rw [q] at g; cases g
    | some d1 =>
      rw [q] at g
      have other : ∀ (a b : Addr) (j : Nat) (τ : List Nat),O a = some (i,p.reverse ++ c :: π) → O b = some (i,τ ++ j :: π) → j ≠ c → b ≠ a := fun a b j τ ha hb hj z => by
        rw [z,ha] at hb
        have e := congrArg List.reverse (Prod.mk.inj (Option.some.inj hb)).2
        simp at e
        exact hj e.1.symm
      have lab : (c :: p).reverse ++ π = p.reverse ++ c :: π := by simp
      have hset : ∀ x,setP (c :: p) d x = putS d c (setP p d1 x) := fun x => by
        show (match subD d c with | some e => putS d c (setP p e x) | none => d) = _
        rw [q]
      cases d with
      | lst es =>
        rw [Sep] at h
        obtain ⟨a0,ys,rfl,h1,h2,h3⟩ := h
        obtain ⟨w,e1,e2⟩ := h3.at (j := c) q
        rw [Nat.zero_add] at e2
        obtain ⟨a,xs,k1,k2,k3,k4,k5⟩ := Sep.focus gh og e2 g
        have n0 : a0 ≠ a := fun z => by
          rw [← z,h1] at k2
          have := congrArg List.length (Prod.mk.inj (Option.some.inj k2)).2
          simp at this
          omega
        refine ⟨a,xs,⟨ys,w,⟨a0,rfl,.inl h2⟩,e1,k1⟩,by rw [lab]; exact k2,k3,by rw [lab]; exact k4,fun ds' xs' h' => ?_⟩
        rw [hset]
        show Sep G _ O i (.lst (es.set c _)) π _
        rw [Sep]
        refine ⟨a0,ys,rfl,h1,by rw [upd_ne n0]; exact h2,?_⟩
        refine h3.repl e1 (by rw [Nat.zero_add]; exact k5 ds' xs' (by rw [lab] at h'; exact h')) fun j d v hj s => ?_
        rw [Nat.zero_add] at s ⊢
        exact s.keep (fun _ _ z => z) fun b τ qb => ⟨qb,upd_ne (other a b j τ k2 qb hj)⟩
      | tup es =>
        rw [Sep] at h
        obtain ⟨a0,ys,rfl,h1,h3⟩ := h
        obtain ⟨w,e1,e2⟩ := h3.at (j := c) q
        rw [Nat.zero_add] at e2
        obtain ⟨a,xs,k1,k2,k3,k4,k5⟩ := Sep.focus gh og e2 g
        refine ⟨a,xs,⟨ys,w,⟨a0,rfl,.inr (gh _ _ h1)⟩,e1,k1⟩,by rw [lab]; exact k2,k3,by rw [lab]; exact k4,fun ds' xs' h' => ?_⟩
        rw [hset]
        show Sep G _ O i (.tup (es.set c _)) π _
        rw [Sep]
        refine ⟨a0,ys,rfl,h1,?_⟩
        refine h3.repl e1 (by rw [Nat.zero_add]; exact k5 ds' xs' (by rw [lab] at h'; exact h')) fun j d v hj s => ?_
        rw [Nat.zero_add] at s ⊢
        exact s.keep (fun _ _ z => z) fun b τ qb => ⟨qb,upd_ne (other a b j τ k2 qb hj)⟩
      | _ => cases q
section
variable {C : Ctx} {ow : List Bool} {G : Hp} {ρ : DSt} {σ : St} {H : Hp} {pd : List (D × V)} {O : Own}
theorem RO.writeP (h : RO C ow G ρ σ H pd O) {i : Nat} {p : List Nat} {d : D} {ds : List D} (e : ρ[i]? = some (some d)) (hp : getP p d = some (.lst ds)) (hi : ow[i]? = some true) :
    ∃ v a xs,σ[i]? = some (some v) ∧ WalkV H p v (.ref a) ∧ H a = some (.lst xs) ∧ Seps G H O (2 * i) ds 0 p.reverse xs ∧
      ∀ ds' xs',Seps G H O (2 * i) ds' 0 p.reverse xs' → RO C ow G (ρ.set i (some (setP p d (.lst ds')))) σ (upd H a (.lst xs')) pd O := by
  obtain ⟨v,hv,s⟩ := h.sl i _ e
  rw [if_pos hi] at s
  obtain ⟨a,xs,k1,k2,k3,k4,k5⟩ := Sep.focus h.gh (fun a l e => (h.og a l e).1) s hp
  rw [List.append_nil] at k2 k4 k5
  refine ⟨v,a,xs,hv,k1,k3,k4,fun ds' xs' hs' => ?_⟩
  obtain ⟨g0,_,nw⟩ := h.og a _ k2
  have ne : ∀ b l π,O b = some (l,π) → l ≠ 2 * i → b ≠ a := fun b l π q n z => by
    rw [z,k2] at q
    exact n (Prod.mk.inj (Option.some.inj q)).1.symm
  refine ⟨by simp [h.len],?_,h.g0,h.gn,?_,h.cok,?_,?_,h.mp,?_,?_,h.np⟩
  · intro b o q
    rw [upd_ne (fun z => by rw [z,g0] at q; cases q)]; exact h.gh _ _ q
  · intro b l q
    obtain ⟨q1,⟨ys,q2⟩,q3⟩ := h.og b l q
    refine ⟨q1,?_,q3⟩
    by_cases z : b = a
    · subst z; exact ⟨.inl _,upd_same⟩
    · rw [upd_ne z]; exact ⟨ys,q2⟩
  · intro b o q n
    by_cases z : b = a
    · subst z
      rcases nw with nw | ⟨_,nw⟩
      · rw [nw] at q; cases q
      · rw [nw] at n; cases n
    · rw [upd_ne z]; exact h.fr b o q n
  · intro b q
    by_cases z : b = a
    · subst z; rw [upd_same] at q; cases q
    · rw [upd_ne z] at q; exact h.al b q
  · intro j u q
    rcases set_at q with ⟨rfl,z⟩ | ⟨z,q'⟩
    · cases z
      exact ⟨v,hv,by rw [if_pos hi]; exact k5 ds' xs' hs'⟩
    · obtain ⟨w,h1,h2⟩ := h.sl j u q'
      refine ⟨w,h1,?_⟩
      split at h2
      · rename_i c; rw [if_pos c]; exact h2.keep (fun _ _ z => z) fun b τ q => ⟨q,upd_ne (ne b _ _ q (by omega))⟩
      · rename_i c; rw [if_neg c]; exact h2
  · exact Pend.keep (fun _ _ z => z) (fun b j π hj q => ⟨q,upd_ne (ne b _ _ q (fun z => even_ne z.symm))⟩) h.pn
end
abbrev MN0 := DSt → (Int → Prop) → Prop
def SN0 (ow : List Bool) (t : TE) (m : MN0) : Prop := ∀ (C : Ctx) (G : Hp) (ρ : DSt) (σ : St) (H : Hp) (pd : List (D × V)) (q : Int → Prop) (Q : VK),R C ow G ρ σ H pd → m ρ q → (∀ n,q n → Q (.int n) H) → t σ H Q
structure QN0 (X : Cx) (ow : List Bool) (e : Expr) (m : MN0) : Prop where
  ex : ∃ t,PE X e t ∧ SN0 ow t m
section
variable {X : Cx} {ow : List Bool} {a b e : Expr} {pos : Pos} {ma mb : MN0}
theorem qz_int {i j} : QN0 X ow (.Constant (.int i) j pos) (fun _ q => q i) := ⟨_,pe_int,fun C G ρ σ H pd q Q r h k => k _ h⟩
theorem qz_var (i : Nat) {x : Str} (hs : ow[i]? ≠ some true := by decide) (hN : X.N[i]? = some x := by rfl) (hv : Vis X.env.scope x := by first | exact Or.inl rfl | exact Or.inr (Or.inl rfl) | exact Or.inr (Or.inr rfl)) (hd : (x == ("__debug__" : Str)) = false := by decide)
    (hcd : (x == ("__classdict__" : Str)) = false := by decide) : QN0 X ow (.Name x pos) (fun ρ q => ∃ n,ρ[i]? = some (some (.int n)) ∧ q n) := ⟨_,pe_var hN hv hd hcd,fun C G ρ σ H pd q Q r h k => by
  obtain ⟨n,e,hq⟩ := h
  obtain ⟨O,ro⟩ := r
  obtain ⟨v,h1,h2⟩ := ro.sl i _ e
  rw [if_neg hs] at h2
  refine ⟨v,h1,?_⟩
  rw [rep_int_of h2]; exact k n hq⟩
end
abbrev MPt := DSt → (List Nat → D → Prop) → Prop
def SPt (ow : List Bool) (i : Nat) (t : TE) (m : MPt) : Prop := ∀ (C : Ctx) (G : Hp) (ρ : DSt) (σ : St) (H : Hp) (pd : List (D × V)) (O : Own) (q : List Nat → D → Prop) (Q : VK),RO C ow G ρ σ H pd O → m ρ q →
  (∀ p d0 e v0 v,q p e → ρ[i]? = some (some d0) → getP p d0 = some e → σ[i]? = some (some v0) → WalkV H p v0 v → Q v H) → t σ H Q
structure QPt (X : Cx) (ow : List Bool) (i : Nat) (e : Expr) (m : MPt) : Prop where
  ex : ∃ t,PE X e t ∧ SPt ow i t m
theorem RO.walk {C : Ctx} {ow : List Bool} {G : Hp} {ρ : DSt} {σ : St} {H : Hp} {pd : List (D × V)} {O : Own} (h : RO C ow G ρ σ H pd O) {i : Nat} {p : List Nat} {d e : D} (e1 : ρ[i]? = some (some d)) (hp : getP p d = some e) :
    ∃ v u,σ[i]? = some (some v) ∧ WalkV H p v u ∧ ∃ G',Same G' H ∧ WalkV G' p v u ∧ Rep G' e u := by
  obtain ⟨v,hv,_⟩ := h.sl i _ e1
  have r := h.enter [i]
  obtain ⟨v',hv',s⟩ := r.sl i _ e1
  rw [hv] at hv'; cases hv'
  rw [if_neg (fun z => by rw [bor_iff] at z; simp at z)] at s
  obtain ⟨u,k1,k2⟩ := Rep.walk s hp
  exact ⟨v,u,hv,k1.mono r.gh,_,r.gh,k1,k2⟩
section
variable {X : Cx} {M : Md} {ow : List Bool} {i : Nat} {a b e : Expr} {pos : Pos} {mp : MPt} {mz : MN0} {ma : ME}
theorem qp_var {x : Str} (hN : X.N[i]? = some x := by rfl) (hv : Vis X.env.scope x := by first | exact Or.inl rfl | exact Or.inr (Or.inl rfl) | exact Or.inr (Or.inr rfl)) (hd : (x == ("__debug__" : Str)) = false := by decide)
    (hcd : (x == ("__classdict__" : Str)) = false := by decide) : QPt X ow i (.Name x pos) (fun ρ q => ∃ d,ρ[i]? = some (some d) ∧ q [] d) := ⟨_,pe_var hN hv hd hcd,fun C G ρ σ H pd O q Q r h k => by
  obtain ⟨d,e,hq⟩ := h
  obtain ⟨v,h1,_⟩ := r.sl i _ e
  exact ⟨v,h1,k [] d d v v hq e rfl h1 rfl⟩⟩
def mPIx (mp : MPt) (mz : MN0) : MPt := fun ρ q => mp ρ fun p d => mz ρ fun n => ∃ c e,ixN (lenD d) n = some c ∧ subD d c = some e ∧ q (p ++ [c]) e
theorem qp_ix (ha : QPt X ow i a mp) (hb : QN0 X ow b mz) (hs : PlainIx b := by exact fun _ _ => rfl) : QPt X ow i (.Subscript a b pos) (mPIx mp mz) := by
  obtain ⟨ta,pa,sa⟩ := ha; obtain ⟨tb,pb,sb⟩ := hb
  refine ⟨_,pe_ix ix_seq pa pb hs,fun C G ρ σ H pd O q Q r h k => ?_⟩
  refine sa C G ρ σ H pd O _ _ r h fun p d0 d v0 v hq e1 e2 e3 wk => ?_
  refine sb C G ρ σ H pd _ _ ⟨O,r⟩ hq fun n hn => ?_
  obtain ⟨c,e,h1,h2,hq⟩ := hn
  obtain ⟨v',u,g1,g2,G',sG,g3,g4⟩ := r.walk e1 e2
  rw [e3] at g1; cases g1
  obtain rfl := wk.one g2
  have hx : ∃ bb xs w,v = V.ref bb ∧ (H bb = some (.lst xs) ∨ H bb = some (.tup xs)) ∧ xs.length = lenD d ∧ xs[c]? = some w := by
    cases d with
    | lst ds =>
      rw [Rep] at g4
      obtain ⟨bb,xs,rfl,f1,f2⟩ := g4
      obtain ⟨w,d',w1,w2,w3⟩ := reps_at (r := c) f2 (List.getElem?_eq_some_iff.mp h2).1
      exact ⟨bb,xs,w,rfl,.inl (sG _ _ f1),f2.length,w1⟩
    | tup ds =>
      rw [Rep] at g4
      obtain ⟨bb,xs,rfl,f1,f2⟩ := g4
      obtain ⟨w,d',w1,w2,w3⟩ := reps_at (r := c) f2 (List.getElem?_eq_some_iff.mp h2).1
      exact ⟨bb,xs,w,rfl,.inr (sG _ _ f1),f2.length,w1⟩
    | _ => cases h2
  obtain ⟨bb,xs,w,rfl,f1,f2,f3⟩ := hx
  have at1 : atI xs n = some w := by unfold atI; rw [f2,h1]; exact f3
  have fin : Q w H := k (p ++ [c]) d0 e v0 w hq e1 (by rw [getP_snoc e2]; exact h2) e3 (wk.snoc ⟨bb,rfl,f1⟩ f3)
  rcases f1 with f1 | f1
  · exact .inl ⟨bb,xs,n,w,rfl,rfl,SqL.of f1,at1,fin⟩
  · exact .inr (.inl ⟨bb,xs,n,w,rfl,rfl,SqT.of f1,at1,fin⟩)
def mAppP (i : Nat) (mp : MPt) (m : ME) : MS := fun n ρ => mp ρ fun p e => ∃ d0 ds,e = .lst ds ∧ ρ[i]? = some (some d0) ∧ m ρ fun d ρ1 => imm d = true ∧ ds.length < 1000 ∧ n.nx (ρ1.set i (some (setP p d0 (.lst (ds ++ [d])))))
theorem qs_appP {apos cpos : Pos} (hp : QPt X M.ow i a mp) (he : QE X (bor [i] M.ow) e ma) (ho : M.ow[i]? = some true := by decide)
    (hbase : attributeBase a "append" X.env (eval a X.env) = eval a X.env := by rfl)
    (hfew : ((backTo cpos (starEach [e] X.env)).all (fun x => !x.1) && (backToKw cpos (keywordEach [] X.env)).all (fun x => x.1.isSome)
      && decide ([e].length + ([] : List Keyword).length + (if ([] : List Keyword).isEmpty then 0 else 1) < 30)) = true := by rfl)
    (hline : (apos.endLine == cpos.line) = true := by rfl) (hst : starEach [e] X.env = [(false,eval e X.env)] := by rfl)
    (hs : swapsWith (.Call (.Attribute a "append" apos) [e] [] cpos) none pos.line X.env = pure false := by rfl) :
    QS X M (.Expr (.Call (.Attribute a "append" apos) [e] [] cpos) pos) (mAppP i mp ma) := by
  obtain ⟨t,p,s⟩ := he; obtain ⟨t1,p1,s1⟩ := hp
  refine ⟨_,ps_expr (pe_bm PySem.F.plainAttrs_list PySem.F.slot_list_append PySem.F.type_list_append mt_append p1 (pa_cons p pa_nil hst) hbase hfew hline hst (by rfl)) hs,fun C G ρ σ H n D hm hn r h k => ?_⟩
  obtain ⟨O,ro⟩ := r
  refine s1 C G ρ σ H [] O _ _ ro h fun p d0 e v0 u hq e1 e2 e3 wk => ?_
  obtain ⟨d0',ds,rfl,e1',hq⟩ := hq
  rw [e1] at e1'; cases e1'
  have rb := ro.enter [i]
  obtain ⟨v',hv',sb⟩ := rb.sl i _ e1
  rw [e3] at hv'; cases hv'
  rw [if_neg (fun z => by rw [bor_iff] at z; simp at z)] at sb
  obtain ⟨u',k1,k2⟩ := Rep.walk sb e2
  cases (k1.mono rb.gh).one wk
  rw [Rep] at k2
  obtain ⟨a1,xs1,rfl,f1,f2⟩ := k2
  refine ⟨.inl ⟨rfl,xs1,SqL.of (rb.gh _ _ f1)⟩,?_⟩
  refine s _ _ ρ σ H [] _ _ ⟨_,rb⟩ hq fun d ρ' v G' H' hq z kp r' pv => ?_
  obtain ⟨O',r'⟩ := r'
  obtain ⟨r2,z2,ts⟩ := ro.leave r' kp
  have ei : ρ'[i]? = some (some d0) := by rw [kp i (fun z => by rw [bor_iff] at z; simp at z)]; exact e1
  obtain ⟨v1,a2,xs2,g1,g2,g3,g4,g5⟩ := r2.writeP ei e2 ho
  rw [e3] at g1; cases g1
  have k3 : WalkV H' p v0 (.ref a1) := (k1.mono z).mono r'.gh
  cases k3.one g2
  refine ⟨a1,xs2,v,rfl,rfl,g3,by rw [g4.length]; exact small1000 (Nat.le_of_lt hq.2.1),?_⟩
  exact k.nx _ _ _ _ hq.2.2 z2 ⟨_,g5 _ _ (g4.snoc (by rw [Nat.zero_add]; exact (pv.imms ts d v hq.1).sep d _ v hq.1))⟩
end
section
variable {X : Cx} {M : Md} {i : Nat} {pos : Pos} {mg : MG} {m : MS}
end
end L2
namespace L2
open PySem
theorem valD_zip {k j : Key} {d : D} : ∀ {ks : List Key} {ds : List D},ks.length = ds.length → valD ks (List.zipWith (fun j y => if j = k then d else y) ks ds) j = if j = k then (valD ks ds j).map (fun _ => d) else valD ks ds j
  | [],[],_ => by simp [valD]
  | i :: ks,e :: ds,hl => by
    rw [List.zipWith_cons_cons,valD,valD,valD_zip (by simpa using hl)]
    by_cases h1 : i = j
    · subst h1
      by_cases h2 : i = k <;> simp [h2]
    · simp [h1]
  | [],_ :: _,hl => by simp at hl
  | _ :: _,[],hl => by simp at hl
theorem valD_snoc {k j : Key} {d : D} : ∀ {ks : List Key} {ds : List D},ks.length = ds.length → ¬ hasK ks k = true → valD (ks ++ [k]) (ds ++ [d]) j = if j = k then some d else valD ks ds j
  | [],[],_,_ => by
    show (if k = j then some d else valD [] [] j) = _
    by_cases e : k = j
    · rw [if_pos e,if_pos e.symm]
    · rw [if_neg e,if_neg (fun z => e z.symm)]
  | i :: ks,e :: ds,hl,hn => by
    rw [hasK] at hn
    have h1 : ¬ i = k := fun z => hn (if_pos z)
    rw [if_neg h1] at hn
    show (if i = j then some e else valD (ks ++ [k]) (ds ++ [d]) j) = _
    rw [valD,valD_snoc (by simpa using hl) hn]
    by_cases h2 : i = j
    · subst h2; simp [h1]
    · simp [h2]
  | [],_ :: _,hl,_ => by simp at hl
  | _ :: _,[],hl,_ => by simp at hl
theorem valD_put {ks : List Key} {ds : List D} {k j : Key} {d : D} (hl : ks.length = ds.length) : valD (putKs ks k) (putAt ks ds k d) j = if j = k then some d else valD ks ds j := by
  unfold putKs putAt
  by_cases h : hasK ks k = true
  · rw [if_pos h,if_pos h,valD_zip hl]
    by_cases e : j = k
    · subst e
      rw [if_pos rfl,if_pos rfl]
      have := valD_some (k := j) hl
      rw [h] at this
      cases q : valD ks ds j with
      | none => rw [q] at this; cases this
      | some z => rfl
    · rw [if_neg e,if_neg e]
  · rw [if_neg h,if_neg h,valD_snoc hl h]
end L2
namespace L2
open PySem PySem.Spec PyProof.Rows
section
variable {X : Cx}
end
section
variable {X : Cx} {pins : List (Addr × Obj)} {σ : St} {H : Hp} {s : Shared}
end
section
variable {X : Cx} {ow : List Bool} {pos : Pos}
def rNeNil : R2 := fun x y H Q => ∃ a xs b,x = .ref a ∧ H a = some (.lst xs) ∧ y = .ref b ∧ H b = some (.lst []) ∧ Q (.bl (!xs.isEmpty)) H
def rEqNil : R2 := fun x y H Q => ∃ a xs b,x = .ref a ∧ H a = some (.lst xs) ∧ y = .ref b ∧ H b = some (.lst []) ∧ Q (.bl xs.isEmpty) H
theorem op_neNil (hu : X.A.units + 64 < cLine) : OpR X (compareOp .NotEq) rNeNil := by
  intro pins s σ H x y v u Q I rx ry h
  obtain ⟨a,xs,b,rfl,ha,rfl,hb,q⟩ := h
  cases rx; cases ry
  obtain ⟨_,its,m,rv,e1⟩ := (show ObjOk X.prog X.w H s.heap a (.lst xs) from I.hok a _ ha)
  obtain ⟨_,its',m',rv',e1'⟩ := (show ObjOk X.prog X.w H s.heap b (.lst []) from I.hok b _ hb)
  cases rv'
  have i1 : s.heap.IsList a its.toArray := ⟨_,e1,rfl,m,rfl⟩
  have i2 : s.heap.IsList b ([] : List Value).toArray := ⟨_,e1',rfl,m',rfl⟩
  cases rv with
  | nil =>
    have z := SeqAt.RcNeAt.lists (A := X.A) (e := fun _ => true) i1 i2 rfl (by omega) (fun j j1 j2 => absurd j1 (Nat.not_lt_zero _))
    exact z _ _ _ _ ⟨.bl false,H,I,rfl,q⟩
  | cons r t => exact SeqAt.RcNeAt.lists_lengths i1 i2 (by simp) (by omega) _ _ _ _ ⟨.bl true,H,I,rfl,q⟩
theorem op_eqNil (hu : X.A.units + 64 < cLine) : OpR X (compareOp .Eq) rEqNil := by
  intro pins s σ H x y v u Q I rx ry h
  obtain ⟨a,xs,b,rfl,ha,rfl,hb,q⟩ := h
  cases rx; cases ry
  obtain ⟨_,its,m,rv,e1⟩ := (show ObjOk X.prog X.w H s.heap a (.lst xs) from I.hok a _ ha)
  obtain ⟨_,its',m',rv',e1'⟩ := (show ObjOk X.prog X.w H s.heap b (.lst []) from I.hok b _ hb)
  cases rv'
  have i1 : s.heap.IsList a its.toArray := ⟨_,e1,rfl,m,rfl⟩
  have i2 : s.heap.IsList b ([] : List Value).toArray := ⟨_,e1',rfl,m',rfl⟩
  cases rv with
  | nil =>
    have z := SeqAt.RcAt.lists (A := X.A) (e := fun _ => true) i1 i2 rfl (by omega) (fun j j1 j2 => absurd j1 (Nat.not_lt_zero _))
    exact z _ _ _ _ ⟨.bl true,H,I,rfl,q⟩
  | cons r t => exact SeqAt.RcAt.lists_lengths i1 i2 (by simp) (by omega) _ _ _ _ ⟨.bl false,H,I,rfl,q⟩
def fNeNil : D → D → (D → Prop) → Prop := fun a b q => match a,b with
  | .lst ds,.lst [] => q (.bl (!ds.isEmpty))
  | _,_ => False
def fEqNil : D → D → (D → Prop) → Prop := fun a b q => match a,b with
  | .lst ds,.lst [] => q (.bl ds.isEmpty)
  | _,_ => False
theorem reps_emp {G : Hp} : ∀ {ds : List D} {xs : List V},Reps G ds xs → xs.isEmpty = ds.isEmpty
  | [],xs,h => by rw [Reps] at h; subst h; rfl
  | d :: ds,xs,h => by rw [Reps] at h; obtain ⟨v,vs,rfl,_,_⟩ := h; rfl
theorem dNeNil : DOp rNeNil fNeNil := fun G H x y dx dy q Q s p1 p2 hf k => by
  unfold fNeNil at hf
  split at hf
  · obtain ⟨a,xs,rfl,h1,h2⟩ := rep_lst_of p1
    obtain ⟨b,ys,rfl,h3,h4⟩ := rep_lst_of p2
    rw [Reps] at h4; subst h4
    exact ⟨a,xs,b,rfl,s _ _ h1,rfl,s _ _ h3,by rw [reps_emp h2]; exact k _ _ hf (rep_bl _)⟩
  · exact hf.elim
theorem dEqNil : DOp rEqNil fEqNil := fun G H x y dx dy q Q s p1 p2 hf k => by
  unfold fEqNil at hf
  split at hf
  · obtain ⟨a,xs,rfl,h1,h2⟩ := rep_lst_of p1
    obtain ⟨b,ys,rfl,h3,h4⟩ := rep_lst_of p2
    rw [Reps] at h4; subst h4
    exact ⟨a,xs,b,rfl,s _ _ h1,rfl,s _ _ h3,by rw [reps_emp h2]; exact k _ _ hf (rep_bl _)⟩
  · exact hf.elim
end
section
open AutoSeq1 (wpAny_loadPart')
open MeetsSeq MeetsSeq2 MeetsSeq3
end
section
variable {prog : Program} {w : World} {A : Around} {E : Value → Shared → Prop} {s : Shared}
end
section
variable {X : Cx}
end
section
variable {X : Cx} {ow : List Bool} {pos p1 p2 p3 p4 : Pos} {j1 j2 j3 j4 : Nat}
end
end L2
namespace L2
open PySem
inductive Sides (ps : List Int) : Int → Int → List Int → List Int → Int → Prop
  | same (a : Int) : Sides ps a a [] [] a
  | left {a b m : Int} {u d : List Int} (h : b < a) : Sides ps (parZ ps a) b u d m → Sides ps a b (a :: u) d m
  | right {a b m : Int} {u d : List Int} (h : a < b) : Sides ps a (parZ ps b) u d m → Sides ps a b u (b :: d) m
theorem Sides.climb {ps : List Int} {a b m : Int} {u d : List Int} (h : Sides ps a b u d m) : ∃ w,Climb ps a b w m ∧ w.Perm (u ++ d) := by
  induction h with
  | same a => exact ⟨[],.same a,List.Perm.refl _⟩
  | @left a b m u d h _ ih =>
    obtain ⟨w,h1,h2⟩ := ih
    exact ⟨a :: w,.left h h1.comm,h2.cons a⟩
  | @right a b m u d h _ ih =>
    obtain ⟨w,h1,h2⟩ := ih
    exact ⟨b :: w,.right h h1,(h2.cons b).trans List.perm_middle.symm⟩
theorem Sides.up {ps rs : List Int} (hT : Tree ps rs) {a b m : Int} {u d : List Int} (h : Sides ps a b u d m) : 0 ≤ a → 0 ≤ b → a ≤ ps.length → b ≤ ps.length → Climb ps a m u m := by
  induction h with
  | same a => intro _ _ _ _; exact .same a
  | @left a b m u d h hs ih =>
    intro a0 b0 a1 b1
    have hp := hT.up (k := a) (by omega) a1
    obtain ⟨w,h1,_⟩ := hs.climb
    have hl := h1.low hT hp.1 b0 (by omega) b1
    exact .left (by omega) (ih hp.1 b0 (by omega) b1).comm
  | @right a b m u d h hs ih =>
    intro a0 b0 a1 b1
    have hp := hT.up (k := b) (by omega) b1
    exact ih a0 hp.1 a1 (by omega)
def upW (ps : List Int) (a b : Int) : List Int := climbW ps 100 a (meetZ ps a b)
theorem Climb.upW {ps rs : List Int} (hT : Tree ps rs) {a b m : Int} {u : List Int} (a0 : 0 ≤ a) (a1 : a ≤ ps.length) (m0 : 0 ≤ m) (m1 : m ≤ ps.length) (hm : m = meetZ ps a b) (h : Climb ps a m u m) : u = L2.upW ps a b := by
  have hi := hT.hi
  unfold L2.upW
  rw [← hm]
  exact (h.det (climb_is hT 100 a m (by omega) a0 m0 a1 m1)).1
structure SideOk (ps : List Int) (a b : Int) (u d : List Int) : Prop where
  eu : u = upW ps a b
  pm : (wayZ ps a b).Perm (u ++ d)
theorem Sides.ok {ps rs : List Int} (hT : Tree ps rs) {a b m : Int} {u d : List Int} (h : Sides ps a b u d m) (a0 : 0 ≤ a) (b0 : 0 ≤ b) (a1 : a ≤ ps.length) (b1 : b ≤ ps.length) : SideOk ps a b u d := by
  obtain ⟨w,h1,h2⟩ := h.climb
  have hw := h1.way hT a0 b0 a1 b1
  have hl := h1.low hT a0 b0 a1 b1
  exact ⟨(h.up hT a0 b0 a1 b1).upW hT a0 a1 hl.1 (by omega) hw.2,by rw [← hw.1]; exact (sortZ_perm w).trans h2⟩
theorem Sides.comm {ps : List Int} {a b m : Int} {u d : List Int} (h : Sides ps a b u d m) : Sides ps b a d u m := by
  induction h with
  | same a => exact .same a
  | left h _ ih => exact .right h ih
  | right h _ ih => exact .left h ih
theorem Climb.sides {ps : List Int} {a b m : Int} {w : List Int} (h : Climb ps a b w m) : ∃ u d,Sides ps a b u d m := by
  induction h with
  | same a => exact ⟨_,_,.same a⟩
  | left h _ ih => obtain ⟨u,d,s⟩ := ih; exact ⟨_,_,.left h s.comm⟩
  | right h _ ih => obtain ⟨u,d,s⟩ := ih; exact ⟨_,_,.right h s⟩
def txt (b : Bool) : Str := if b = true then "up" else "down"
def dTx (bs : List Bool) : D := .lst (bs.map fun b => .str (txt b))
theorem ok_txt (b : Bool) : okD (.str (txt b)) = true := by cases b <;> exact okD_str (by decide +kernel)
theorem eq_txt (b c : Bool) : eqD (.str (txt b)) (.str (txt c)) = (b == c) := by rw [eqD_str]; cases b <;> cases c <;> decide +kernel
def alB (ps : List Int) (a b : Int) (bs : List Bool) (t : Int) : Bool := bs.getD (t - 1).toNat false == (upW ps a b).contains t
def runB (ps : List Int) (a b : Int) (bs : List Bool) : Bool := (wayZ ps a b).all (alB ps a b bs) || !((wayZ ps a b).any (alB ps a b bs))
theorem tx_at {bs : List Bool} {t : Int} (h0 : 0 < t) (h1 : t ≤ bs.length) : atI (bs.map fun b => D.str (txt b)) (t - 1) = some (.str (txt (bs.getD (t - 1).toNat false))) := by
  have e : t - 1 = (((t - 1).toNat : Nat) : Int) := by omega
  have h : (bs.map fun b => D.str (txt b))[(t - 1).toNat]? = some (.str (txt (bs.getD (t - 1).toNat false))) := by
    rw [List.getElem?_map,List.getD_eq_getElem?_getD,List.getElem?_eq_getElem (by omega)]; rfl
  have := atI_nat h
  rw [← e] at this
  exact this
def alL (bs : List Bool) (u d : List Int) : List Bool := u.map (fun t => bs.getD (t - 1).toNat false == true) ++ d.map (fun t => bs.getD (t - 1).toNat false == false)
theorem alL_eq {ps rs : List Int} {a b : Int} {u d : List Int} {bs : List Bool} (hT : Tree ps rs) (he : Ends2 ps a b) (h : SideOk ps a b u d) : alL bs u d = (u ++ d).map (alB ps a b bs) := by
  have hn : (u ++ d).Nodup := h.pm.nodup_iff.mp (way_nodup hT he)
  rw [List.nodup_append] at hn
  unfold alL
  rw [List.map_append]
  congr 1
  · refine List.map_congr_left fun t ht => ?_
    unfold alB
    rw [← h.eu,List.contains_iff_mem.mpr ht]
  · refine List.map_congr_left fun t ht => ?_
    unfold alB
    have : u.contains t = false := by
      rw [Bool.eq_false_iff]; intro hc
      exact hn.2.2 t (List.contains_iff_mem.mp hc) t ht rfl
    rw [← h.eu,this]
theorem count_all : ∀ L : List Bool,(decide (L.count true = 0) || decide (L.count true = L.length)) = (L.all id || !L.any id) := by
  intro L
  have h1 : L.count true = L.length ↔ L.all id = true := by
    rw [List.count_eq_length,List.all_eq_true]
    exact ⟨fun h b hb => (h b hb).symm,fun h b hb => (h b hb).symm⟩
  have h0 : L.count true = 0 ↔ L.any id = false := by
    rw [List.count_eq_zero]
    constructor
    · intro h; rw [Bool.eq_false_iff]; intro hc
      obtain ⟨b,hb,e⟩ := List.any_eq_true.mp hc
      cases b with
      | true => exact h hb
      | false => cases e
    · intro h hm
      have : L.any id = true := List.any_eq_true.mpr ⟨true,hm,rfl⟩
      rw [h] at this; cases this
  rw [Bool.eq_iff_iff,Bool.or_eq_true,Bool.or_eq_true,decide_eq_true_iff,decide_eq_true_iff,h1,h0,Bool.not_eq_true']
  exact Or.comm
theorem run_two {ps rs : List Int} {a b : Int} {u d : List Int} {bs : List Bool} (hT : Tree ps rs) (he : Ends2 ps a b) (h : SideOk ps a b u d) : ((alL bs u d).all id || !(alL bs u d).any id) = runB ps a b bs := by
  rw [alL_eq hT he h]
  unfold runB
  rw [List.all_map,List.any_map]
  have e1 : (u ++ d).all (id ∘ alB ps a b bs) = (wayZ ps a b).all (alB ps a b bs) := by
    rw [Bool.eq_iff_iff,List.all_eq_true,List.all_eq_true]
    exact ⟨fun z t ht => z t (h.pm.mem_iff.mp ht),fun z t ht => z t (h.pm.mem_iff.mpr ht)⟩
  have e2 : (u ++ d).any (id ∘ alB ps a b bs) = (wayZ ps a b).any (alB ps a b bs) := by
    rw [Bool.eq_iff_iff,List.any_eq_true,List.any_eq_true]
    exact ⟨fun ⟨t,ht,z⟩ => ⟨t,h.pm.mem_iff.mpr ht,z⟩,fun ⟨t,ht,z⟩ => ⟨t,h.pm.mem_iff.mp ht,z⟩⟩
  rw [e1,e2]
def benB (ps : List Int) (a b : Int) : Bool := @decide (∃ u,Up ps (parZ ps a) u ∧ b ∈ u) (Classical.propDecidable _)
theorem ben_of {ps : List Int} {a b : Int} {u : List Int} (h : Up ps (parZ ps a) u) : u.contains b = benB ps a b := by
  unfold benB
  rw [Bool.eq_iff_iff,List.contains_iff_mem,@decide_eq_true_iff _ (Classical.propDecidable _)]
  exact ⟨fun m => ⟨u,h,m⟩,fun ⟨v,hv,m⟩ => by rw [h.det hv]; exact m⟩
def apartB (ps : List Int) (a b : Int) : Bool := !benB ps a b && !benB ps b a
def linkB (n m : Nat) : D → Bool
  | .tup [t,k] => btw 1 n t && btw 0 ((m : Int) - 1) k
  | _ => false
def joinB (ps : List Int) (as : List Ask) (a b k : Int) : Bool := !decide (a = b) && ((askWay ps (askN as k)).contains a && (askWay ps (askN as k)).contains b)
def lkOf : D → Int × Int
  | .tup [.int t,.int k] => (t,k)
  | _ => (0,0)
def dLk (l : Int × Int) : D := .tup [.int l.1,.int l.2]
def nth (ls : List (Int × Int)) (j : Nat) : Int × Int := ls.getD j (0,0)
def stepT (ps : List Int) (as : List Ask) (ls : List (Int × Int)) (j : Nat) : Bool := joinB ps as (nth ls j).1 (nth ls ((j + 1) % ls.length)).1 (nth ls j).2
def apT (ps : List Int) (ls : List (Int × Int)) (j : Nat) : Bool := apartB ps (nth ls j).1 (nth ls ((j + 1) % ls.length)).1
def cntT (ps : List Int) (ls : List (Int × Int)) (i : Nat) : Nat := ((List.range i).filter (apT ps ls)).length
def ringZ (ps : List Int) (as : List Ask) (ls : List (Int × Int)) : Bool := (List.range ls.length).all (stepT ps as ls) && decide (cntT ps ls ls.length % 2 = 1)
def ringB (ps : List Int) (as : List Ask) : D → Bool
  | .lst ds => (decide (3 ≤ ds.length) && decide (ds.length ≤ 61)) && (ds.all (linkB ps.length as.length) && ringZ ps as (ds.map lkOf))
  | _ => false
theorem cnt_succ (ps : List Int) (ls : List (Int × Int)) (i : Nat) : cntT ps ls (i + 1) = cntT ps ls i + (if apT ps ls i = true then 1 else 0) := by
  unfold cntT
  rw [List.range_succ,List.filter_append,List.length_append]
  by_cases h : apT ps ls i = true
  · rw [if_pos h,List.filter_cons,if_pos h]; rfl
  · rw [if_neg h,List.filter_cons,if_neg h]; rfl
theorem ring_no {ps : List Int} {as : List Ask} {ls : List (Int × Int)} {i : Nat} (hi : i < ls.length) (h : stepT ps as ls i = false) : ringZ ps as ls = false := by
  unfold ringZ
  have : (List.range ls.length).all (stepT ps as ls) = false := by
    rw [List.all_eq_false]; exact ⟨i,List.mem_range.mpr hi,by rw [h]; decide⟩
  rw [this]; rfl
theorem ring_yes {ps : List Int} {as : List Ask} {ls : List (Int × Int)} (h : ∀ j,j < ls.length → stepT ps as ls j = true) : ringZ ps as ls = decide (cntT ps ls ls.length % 2 = 1) := by
  unfold ringZ
  have : (List.range ls.length).all (stepT ps as ls) = true := by
    rw [List.all_eq_true]; exact fun j hj => h j (List.mem_range.mp hj)
  rw [this,Bool.true_and]
structure LkOk (n m : Nat) (l : Int × Int) : Prop where
  t0 : 1 ≤ l.1
  t1 : l.1 ≤ (n : Int)
  k0 : 0 ≤ l.2
  k1 : l.2 < (m : Int)
theorem link_of {n m : Nat} {d : D} (h : linkB n m d = true) : d = dLk (lkOf d) ∧ LkOk n m (lkOf d) := by
  unfold linkB at h
  split at h
  · rename_i t k
    rw [Bool.and_eq_true] at h
    obtain ⟨x,rfl,x0,x1⟩ := btw_shape h.1
    obtain ⟨y,rfl,y0,y1⟩ := btw_shape h.2
    exact ⟨rfl,x0,x1,y0,by show y < _; omega⟩
  · cases h
theorem links_of {n m : Nat} : ∀ {ds : List D},ds.all (linkB n m) = true → ds = (ds.map lkOf).map dLk ∧ ∀ l ∈ ds.map lkOf,LkOk n m l
  | [],_ => ⟨rfl,fun l h => by cases h⟩
  | d :: ds,h => by
    rw [List.all_cons,Bool.and_eq_true] at h
    obtain ⟨e1,o1⟩ := link_of h.1
    obtain ⟨e2,o2⟩ := links_of h.2
    refine ⟨by rw [List.map_cons,List.map_cons,← e1,← e2],fun l hl => ?_⟩
    rcases List.mem_cons.mp hl with rfl | hl
    · exact o1
    · exact o2 l hl
theorem lk_map (ls : List (Int × Int)) : (ls.map dLk).map lkOf = ls := by
  rw [List.map_map]
  have : (lkOf ∘ dLk) = id := by funext l; rfl
  rw [this,List.map_id]
theorem nth_at {ls : List (Int × Int)} {j : Nat} (h : j < ls.length) : ls[j]? = some (nth ls j) := by
  unfold nth; rw [List.getD_eq_getElem?_getD,List.getElem?_eq_getElem h]; rfl
theorem nth_mem {ls : List (Int × Int)} {j : Nat} (h : j < ls.length) : nth ls j ∈ ls := List.mem_of_getElem? (nth_at h)
theorem rot_at {ls : List (Int × Int)} {j : Nat} (h : j < ls.length) : (ls.drop 1 ++ ls.take 1)[j]? = some (nth ls ((j + 1) % ls.length)) := by
  by_cases hj : j + 1 < ls.length
  · rw [List.getElem?_append_left (by rw [List.length_drop]; omega),List.getElem?_drop,show 1 + j = j + 1 by omega,Nat.mod_eq_of_lt hj]
    exact nth_at hj
  · have e : j + 1 = ls.length := by omega
    rw [List.getElem?_append_right (by rw [List.length_drop]; omega),List.length_drop,show j - (ls.length - 1) = 0 by omega,e,Nat.mod_self,List.getElem?_take,if_pos (by decide)]
    exact nth_at (by omega)
theorem chain_no {ps rs : List Int} (hT : Tree ps rs) {a x y : Int} {ua : List Int} (a1 : a ≤ ps.length) (h : Up ps a ua) (hx : x ∈ ua) (hy : y ∈ ua) (x0 : 0 < x) (y0 : 0 < y) (e : x ≠ y) : apartB ps x y = false := by
  have key : ∀ {x y : Int},x ∈ ua → y ∈ ua → x < y → 0 < y → benB ps y x = true := fun {x y} hx hy hlt y0 => by
    obtain ⟨uy,h1,h2,_⟩ := h.chain hT a1 hx hy (by omega)
    cases h1 with
    | zero => omega
    | step h0 hu =>
      rw [← ben_of hu]
      rcases List.mem_cons.mp h2 with z | z
      · omega
      · exact List.contains_iff_mem.mpr z
  unfold apartB
  by_cases hlt : x < y
  · rw [key hx hy hlt y0]; simp
  · rw [key hy hx (by omega) x0]; rfl
theorem cross_ben {ps rs : List Int} (hT : Tree ps rs) {a x y : Int} {ua : List Int} (a1 : a ≤ ps.length) (h : Up ps a ua) (hx : x ∈ ua) (hy : ¬ y ∈ ua) (x0 : 0 < x) : benB ps x y = false := by
  obtain ⟨ux,h1,_,h3⟩ := h.chain hT a1 hx hx (Int.le_refl _)
  cases h1 with
  | zero => omega
  | step h0 hu =>
    rw [← ben_of hu,Bool.eq_false_iff]
    intro hc
    exact hy (h3 y (.tail _ (List.contains_iff_mem.mp hc)))
theorem Sides.inUp {ps rs : List Int} (hT : Tree ps rs) {a b m : Int} {u d : List Int} (h : Sides ps a b u d m) : ∀ {ua ub : List Int},Up ps a ua → Up ps b ub → 0 ≤ a → 0 ≤ b → a ≤ ps.length → b ≤ ps.length → (∀ x ∈ u,x ∈ ua) ∧ ∀ y ∈ d,y ∈ ub := by
  induction h with
  | same a => intro ua ub _ _ _ _ _ _; exact ⟨fun x h => (by cases h),fun x h => (by cases h)⟩
  | @left a b m u d h _ ih =>
    intro ua ub hua hub a0 b0 a1 b1
    cases hua with
    | zero => omega
    | step h0 hu =>
      obtain ⟨i1,i2⟩ := ih hu hub (hT.up h0 a1).1 b0 (by have := (hT.up h0 a1).2; omega) b1
      exact ⟨fun x hx => (List.mem_cons.mp hx).elim (fun z => by rw [z]; exact .head _) fun z => .tail _ (i1 x z),i2⟩
  | @right a b m u d h _ ih =>
    intro ua ub hua hub a0 b0 a1 b1
    cases hub with
    | zero => omega
    | step h0 hu =>
      obtain ⟨i1,i2⟩ := ih hua hu a0 (hT.up h0 b1).1 a1 (by have := (hT.up h0 b1).2; omega)
      exact ⟨i1,fun y hy => (List.mem_cons.mp hy).elim (fun z => by rw [z]; exact .head _) fun z => .tail _ (i2 y z)⟩
theorem side_iff {ps rs : List Int} (hT : Tree ps rs) {a b t : Int} {ua ub : List Int} (he : Ends2 ps a b) (hua : Up ps a ua) (hub : Up ps b ub) (ht : t ∈ wayZ ps a b) : (upW ps a b).contains t = ua.contains t ∧ ub.contains t = !ua.contains t := by
  obtain ⟨w,hw,ew⟩ := way_q38 hT he.a0 he.b0 he.a1 he.b1
  have hx := way_xor (t := t) hT he.a0 he.a1 he.b0 he.b1 hw hua hub
  rw [← ew,List.contains_iff_mem.mpr ht] at hx
  have h2 : ub.contains t = !ua.contains t := by revert hx; cases ua.contains t <;> cases ub.contains t <;> decide
  refine ⟨?_,h2⟩
  obtain ⟨u,d,hs⟩ := hw.sides
  have ho := hs.ok hT he.a0 he.b0 he.a1 he.b1
  obtain ⟨i1,i2⟩ := hs.inUp hT hua hub he.a0 he.b0 he.a1 he.b1
  rw [← ho.eu]
  have hm := ho.pm.mem_iff.mp ht
  cases e : ua.contains t with
  | true =>
    rcases List.mem_append.mp hm with z | z
    · exact List.contains_iff_mem.mpr z
    · have := List.contains_iff_mem.mpr (i2 t z); rw [h2,e] at this; cases this
  | false =>
    rw [Bool.eq_false_iff]; intro hc
    have := List.contains_iff_mem.mpr (i1 t (List.contains_iff_mem.mp hc)); rw [e] at this; cases this
theorem apart_way {ps rs : List Int} (hT : Tree ps rs) {a b x y : Int} (he : Ends2 ps a b) (hx : x ∈ wayZ ps a b) (hy : y ∈ wayZ ps a b) (e : x ≠ y) : apartB ps x y = ((upW ps a b).contains x != (upW ps a b).contains y) := by
  obtain ⟨ua,hua⟩ := Up.all hT _ a rfl he.a0 he.a1
  obtain ⟨ub,hub⟩ := Up.all hT _ b rfl he.b0 he.b1
  obtain ⟨x1,x2⟩ := side_iff hT he hua hub hx
  obtain ⟨y1,y2⟩ := side_iff hT he hua hub hy
  have x0 := (way_mem hT he hx).1
  have y0 := (way_mem hT he hy).1
  rw [x1,y1]
  cases ex : ua.contains x with
  | true =>
    have mx := List.contains_iff_mem.mp ex
    cases ey : ua.contains y with
    | true => exact chain_no hT he.a1 hua mx (List.contains_iff_mem.mp ey) x0 y0 e
    | false =>
      rw [ey] at y2
      rw [ex] at x2
      have my := List.contains_iff_mem.mp y2
      have nx : ¬ x ∈ ub := fun z => by rw [List.contains_iff_mem.mpr z] at x2; cases x2
      have ny : ¬ y ∈ ua := fun z => by rw [List.contains_iff_mem.mpr z] at ey; cases ey
      unfold apartB
      rw [cross_ben hT he.a1 hua mx ny x0,cross_ben hT he.b1 hub my nx y0]; rfl
  | false =>
    rw [ex] at x2
    have mx := List.contains_iff_mem.mp x2
    cases ey : ua.contains y with
    | false =>
      rw [ey] at y2
      exact chain_no hT he.b1 hub mx (List.contains_iff_mem.mp y2) x0 y0 e
    | true =>
      rw [ey] at y2
      have my := List.contains_iff_mem.mp ey
      have nx : ¬ x ∈ ua := fun z => by rw [List.contains_iff_mem.mpr z] at ex; cases ex
      have ny : ¬ y ∈ ub := fun z => by rw [List.contains_iff_mem.mpr z] at y2; cases y2
      unfold apartB
      rw [cross_ben hT he.b1 hub mx ny x0,cross_ben hT he.a1 hua my nx y0]; rfl
def wd (bs : List Bool) (t : Int) : Bool := bs.getD (t - 1).toNat false
theorem al_pair {ps rs : List Int} (hT : Tree ps rs) {a b x y : Int} {bs : List Bool} (he : Ends2 ps a b) (hx : x ∈ wayZ ps a b) (hy : y ∈ wayZ ps a b) (e : x ≠ y) : alB ps a b bs x = alB ps a b bs y ↔ (wd bs x != wd bs y) = apartB ps x y := by
  rw [apart_way hT he hx hy e]
  unfold alB wd
  generalize bs.getD (x - 1).toNat false = p
  generalize bs.getD (y - 1).toNat false = q
  cases p <;> cases q <;> cases (upW ps a b).contains x <;> cases (upW ps a b).contains y <;> decide
theorem run_const {ps : List Int} {a b : Int} {bs : List Bool} : runB ps a b bs = true ↔ ∀ x ∈ wayZ ps a b,∀ y ∈ wayZ ps a b,alB ps a b bs x = alB ps a b bs y := by
  unfold runB
  rw [Bool.or_eq_true,Bool.not_eq_true',List.all_eq_true,List.any_eq_false]
  constructor
  · rintro (h | h) x hx y hy
    · rw [h x hx,h y hy]
    · rw [Bool.eq_false_iff.mpr (h x hx),Bool.eq_false_iff.mpr (h y hy)]
  · intro h
    by_cases hc : ∃ x ∈ wayZ ps a b,alB ps a b bs x = true
    · obtain ⟨x,hx,e⟩ := hc
      exact .inl fun y hy => by rw [h y hy x hx,e]
    · exact .inr fun y hy z => hc ⟨y,hy,z⟩
theorem run_pairs {ps rs : List Int} (hT : Tree ps rs) {a b : Int} {bs : List Bool} (he : Ends2 ps a b) : runB ps a b bs = true ↔ ∀ x ∈ wayZ ps a b,∀ y ∈ wayZ ps a b,x ≠ y → (wd bs x != wd bs y) = apartB ps x y := by
  rw [run_const]
  constructor
  · intro h x hx y hy e
    exact (al_pair hT he hx hy e).mp (h x hx y hy)
  · intro h x hx y hy
    by_cases e : x = y
    · rw [e]
    · exact (al_pair hT he hx hy e).mpr (h x hx y hy e)
theorem const_chain {α β : Type} (f : α → β) : ∀ {w : List α},(∀ p ∈ w.zip (w.drop 1),f p.1 = f p.2) → ∀ x ∈ w,∀ y ∈ w,f x = f y
  | [],_,x,hx,_,_ => by cases hx
  | [a],_,x,hx,y,hy => by rw [List.mem_singleton.mp hx,List.mem_singleton.mp hy]
  | a :: b :: w,h,x,hx,y,hy => by
    have ih := const_chain f (w := b :: w) fun p hp => h p (.tail _ hp)
    have hab : f a = f b := h (a,b) (.head _)
    have all : ∀ z ∈ a :: b :: w,f z = f b := fun z hz => (List.mem_cons.mp hz).elim (fun e => by rw [e]; exact hab) fun e => ih z e b (.head _)
    rw [all x hx,all y hy]
theorem mem_zip1 {α : Type} {w : List α} {p : α × α} (h : p ∈ w.zip (w.drop 1)) : p.1 ∈ w ∧ p.2 ∈ w := by
  have := List.of_mem_zip (show (p.1,p.2) ∈ w.zip (w.drop 1) from h)
  exact ⟨this.1,List.mem_of_mem_drop this.2⟩
theorem zip1_ne {w : List Int} (hn : w.Nodup) : ∀ {p : Int × Int},p ∈ w.zip (w.drop 1) → p.1 ≠ p.2 := by
  intro p hp
  obtain ⟨j,hj⟩ := List.getElem?_of_mem hp
  rw [List.getElem?_zip_eq_some,List.getElem?_drop] at hj
  intro e
  have h1 := List.getElem?_eq_some_iff.mp hj.1
  have h2 := List.getElem?_eq_some_iff.mp hj.2
  obtain ⟨l1,e1⟩ := h1
  obtain ⟨l2,e2⟩ := h2
  have := (List.getElem_inj (h₀ := l1) (h₁ := l2) hn).mp (by rw [e1,e2]; exact e)
  omega
theorem run_chain {ps rs : List Int} (hT : Tree ps rs) {a b : Int} {bs : List Bool} (he : Ends2 ps a b) (h : ∀ p ∈ (wayZ ps a b).zip ((wayZ ps a b).drop 1),(wd bs p.1 != wd bs p.2) = apartB ps p.1 p.2) : runB ps a b bs = true := by
  rw [run_const]
  refine const_chain _ fun p hp => ?_
  have hm := mem_zip1 hp
  exact (al_pair hT he hm.1 hm.2 (zip1_ne (way_nodup hT he) hp)).mpr (h p hp)
theorem ring_not {ps rs : List Int} {as : List Ask} {ls : List (Int × Int)} {bs : List Bool} (hT : Tree ps rs) (ha : AsksOk ps as) (hl : 0 < ls.length) (hk : ∀ l ∈ ls,LkOk ps.length as.length l) (hr : ringZ ps as ls = true) (hp : ∀ a ∈ as,runB ps a.one a.other bs = true) : False := by
  unfold ringZ at hr
  rw [Bool.and_eq_true,List.all_eq_true] at hr
  have key : ∀ j,j < ls.length → apT ps ls j = (wd bs (nth ls j).1 != wd bs (nth ls ((j + 1) % ls.length)).1) := fun j hj => by
    have hs := hr.1 j (List.mem_range.mpr hj)
    unfold stepT joinB at hs
    rw [Bool.and_eq_true,Bool.and_eq_true] at hs
    have lk := hk _ (nth_mem hj)
    have k0 := lk.k0; have k1 := lk.k1
    have hm : askN as (nth ls j).2 ∈ as := getD_ask (as := as) (k := (nth ls j).2.toNat) (by omega)
    have he := (ha.ok _ hm).ends
    have := (run_pairs hT he).mp (hp _ hm) _ (List.contains_iff_mem.mp hs.2.1) _ (List.contains_iff_mem.mp hs.2.2) (by simpa using hs.1)
    exact this.symm
  have cnt : ∀ i,i ≤ ls.length → cntT ps ls i % 2 = if (wd bs (nth ls 0).1 != wd bs (nth ls (i % ls.length)).1) = true then 1 else 0 := by
    intro i
    induction i with
    | zero => intro _; rw [Nat.zero_mod,bne_self_eq_false]; rfl
    | succ i ih =>
      intro hi
      rw [cnt_succ,key i (by omega)]
      have := ih (by omega)
      rw [Nat.mod_eq_of_lt (show i < ls.length by omega)] at this
      generalize wd bs (nth ls 0).1 = p at this
      generalize wd bs (nth ls i).1 = q at this
      generalize wd bs (nth ls ((i + 1) % ls.length)).1 = r
      revert this
      cases p <;> cases q <;> cases r <;> simp <;> omega
  have := cnt ls.length (Nat.le_refl _)
  rw [Nat.mod_self,bne_self_eq_false,of_decide_eq_true hr.2] at this
  cases this
abbrev Came := List (Int × Option (Int × Int))
def getC : Came → Int → Option (Option (Int × Int))
  | [],_ => none
  | (j,v) :: cs,x => if j = x then some v else getC cs x
def valC : Option (Int × Int) → D
  | none => .non
  | some l => dLk l
def keysC (cs : Came) : List Key := cs.map fun c => .inl c.1
def valsC (cs : Came) : List D := cs.map fun c => valC c.2
def dCame (cs : Came) : D := .dic (keysC cs) (valsC cs)
theorem valD_came {x : Int} : ∀ cs : Came,valD (keysC cs) (valsC cs) (.inl x) = (getC cs x).map valC
  | [] => rfl
  | (j,v) :: cs => by
    show (if (Sum.inl j : Key) = .inl x then some (valC v) else valD (keysC cs) (valsC cs) (.inl x)) = Option.map valC (if j = x then some v else getC cs x)
    rw [valD_came cs]
    by_cases e : j = x
    · rw [if_pos (by rw [e]),if_pos e]; rfl
    · rw [if_neg (fun z => e (by injection z)),if_neg e]
theorem hasK_came {x : Int} : ∀ cs : Came,hasK (keysC cs) (.inl x) = (getC cs x).isSome
  | [] => rfl
  | (j,v) :: cs => by
    show (if (Sum.inl j : Key) = .inl x then true else hasK (keysC cs) (.inl x)) = Option.isSome (if j = x then some v else getC cs x)
    rw [hasK_came cs]
    by_cases e : j = x
    · rw [if_pos (by rw [e]),if_pos e]; rfl
    · rw [if_neg (fun z => e (by injection z)),if_neg e]
theorem put_came {cs : Came} {x : Int} {v : Option (Int × Int)} (h : getC cs x = none) : putKs (keysC cs) (.inl x) = keysC (cs ++ [(x,v)]) ∧ putAt (keysC cs) (valsC cs) (.inl x) (valC v) = valsC (cs ++ [(x,v)]) := by
  have e : hasK (keysC cs) (.inl x) = false := by rw [hasK_came,h]; rfl
  unfold putKs putAt
  rw [e]
  unfold keysC valsC
  rw [List.map_append,List.map_append]
  exact ⟨rfl,rfl⟩
theorem get_snoc {x y : Int} {v : Option (Int × Int)} : ∀ {cs : Came},getC cs x = none → getC (cs ++ [(x,v)]) y = if x = y then some v else getC cs y
  | [],_ => by show (if x = y then some v else none) = _; rfl
  | (j,u) :: cs,h => by
    have h' : getC cs x = none := by
      by_cases e : j = x
      · unfold getC at h; rw [if_pos e] at h; cases h
      · unfold getC at h; rw [if_neg e] at h; exact h
    have hj : j ≠ x := fun e => by unfold getC at h; rw [if_pos e] at h; cases h
    show (if j = y then some u else getC (cs ++ [(x,v)]) y) = if x = y then some v else if j = y then some u else getC cs y
    rw [get_snoc h']
    by_cases e1 : j = y
    · rw [if_pos e1,if_neg (fun z => hj (by omega)),if_pos e1]
    · rw [if_neg e1,if_neg e1]
theorem get_keep {x y : Int} {v : Option (Int × Int)} {cs : Came} {u : Option (Int × Int)} (hx : getC cs x = none) (h : getC cs y = some u) : getC (cs ++ [(x,v)]) y = some u := by
  rw [get_snoc hx,if_neg (fun z => by rw [z,h] at hx; cases hx)]; exact h
inductive Cm (n : Nat) (E : Int → Int → Int → Prop) : Came → Prop
  | nil : Cm n E []
  | root {cs : Came} {x : Int} : Cm n E cs → getC cs x = none → 1 ≤ x → x ≤ n → Cm n E (cs ++ [(x,none)])
  | link {cs : Came} {x t k : Int} {u : Option (Int × Int)} : Cm n E cs → getC cs x = none → 1 ≤ x → x ≤ n → getC cs t = some u → E x t k → Cm n E (cs ++ [(x,some (t,k))])
inductive Back (cs : Came) : Int → List (Int × Int) → Int → Prop
  | root {x : Int} : getC cs x = some none → Back cs x [] x
  | step {x t k r : Int} {p : List (Int × Int)} : getC cs x = some (some (t,k)) → Back cs t p r → Back cs x ((x,k) :: p) r
theorem Back.det {cs : Came} {x r : Int} {p : List (Int × Int)} (h : Back cs x p r) : ∀ {p' : List (Int × Int)} {r' : Int},Back cs x p' r' → p = p' ∧ r = r' := by
  induction h with
  | root e => intro p' r' h'; cases h' with
    | root _ => exact ⟨rfl,rfl⟩
    | step e2 _ => rw [e] at e2; cases e2
  | step e _ ih => intro p' r' h'; cases h' with
    | root e2 => rw [e] at e2; cases e2
    | step e2 h2 =>
      rw [e] at e2; cases e2
      obtain ⟨a,b⟩ := ih h2
      exact ⟨by rw [a],b⟩
theorem Back.keep {cs : Came} {x y r : Int} {v : Option (Int × Int)} {p : List (Int × Int)} (hy : getC cs y = none) (h : Back cs x p r) : Back (cs ++ [(y,v)]) x p r := by
  induction h with
  | root e => exact .root (get_keep hy e)
  | step e _ ih => exact .step (get_keep hy e) ih
theorem Cm.rng {n : Nat} {E : Int → Int → Int → Prop} {cs : Came} (h : Cm n E cs) : ∀ {x : Int} {u : Option (Int × Int)},getC cs x = some u → 1 ≤ x ∧ x ≤ n := by
  induction h with
  | nil => intro x u h; cases h
  | root _ hn h0 h1 ih =>
    intro y u e
    rw [get_snoc hn] at e
    split at e
    · rename_i z; omega
    · exact ih e
  | link _ hn h0 h1 _ _ ih =>
    intro y u e
    rw [get_snoc hn] at e
    split at e
    · rename_i z; omega
    · exact ih e
theorem Cm.par {n : Nat} {E : Int → Int → Int → Prop} {cs : Came} (h : Cm n E cs) : ∀ {x t k : Int},getC cs x = some (some (t,k)) → E x t k ∧ ∃ u,getC cs t = some u := by
  induction h with
  | nil => intro x t k h; cases h
  | root _ hn h0 h1 ih =>
    intro y t k e
    rw [get_snoc hn] at e
    split at e
    · cases e
    · obtain ⟨a,u,b⟩ := ih e; exact ⟨a,u,get_keep hn b⟩
  | @link cs x t k u _ hn h0 h1 ht hE ih =>
    intro y t' k' e
    rw [get_snoc hn] at e
    split at e
    · rename_i z; cases e; rw [← z]; exact ⟨hE,u,get_keep hn ht⟩
    · obtain ⟨a,u,b⟩ := ih e; exact ⟨a,u,get_keep hn b⟩
theorem Cm.back {n : Nat} {E : Int → Int → Int → Prop} {cs : Came} (h : Cm n E cs) : ∀ {x : Int} {u : Option (Int × Int)},getC cs x = some u → ∃ p r,Back cs x p r ∧ p.length < cs.length := by
  induction h with
  | nil => intro x u h; cases h
  | @root cs x _ hn h0 h1 ih =>
    intro y u e
    rw [List.length_append]
    have e2 := e
    rw [get_snoc hn] at e
    split at e
    · rename_i z; cases e
      exact ⟨[],y,.root e2,by show 0 < _ + 1; omega⟩
    · obtain ⟨p,r,a,b⟩ := ih e; exact ⟨p,r,a.keep hn,by omega⟩
  | @link cs x t k u0 _ hn h0 h1 ht hE ih =>
    intro y u e
    rw [List.length_append]
    have e2 := e
    rw [get_snoc hn] at e
    split at e
    · rename_i z; cases e
      obtain ⟨p,r,a,b⟩ := ih ht
      exact ⟨(y,k) :: p,r,.step e2 (a.keep hn),by show p.length + 1 < cs.length + 1; omega⟩
    · obtain ⟨p,r,a,b⟩ := ih e; exact ⟨p,r,a.keep hn,by omega⟩
theorem Cm.nd {n : Nat} {E : Int → Int → Int → Prop} {cs : Came} (h : Cm n E cs) : (cs.map (·.1)).Nodup ∧ ∀ x ∈ cs.map (·.1),∃ u,getC cs x = some u := by
  have snoc : ∀ {cs : Came} {x : Int} {v : Option (Int × Int)},getC cs x = none → ((cs.map (·.1)).Nodup ∧ ∀ x ∈ cs.map (·.1),∃ u,getC cs x = some u) → ((cs ++ [(x,v)]).map (·.1)).Nodup ∧ ∀ y ∈ (cs ++ [(x,v)]).map (·.1),∃ u,getC (cs ++ [(x,v)]) y = some u := by
    intro cs x v hn ih
    rw [List.map_append]
    refine ⟨List.nodup_append.mpr ⟨ih.1,by simp,fun a ha b hb z => ?_⟩,fun y hy => ?_⟩
    · have : b = x := by simpa using hb
      obtain ⟨u,hu⟩ := ih.2 a ha
      rw [z,this,hn] at hu; cases hu
    · rcases List.mem_append.mp hy with z | z
      · obtain ⟨u,hu⟩ := ih.2 y z; exact ⟨u,get_keep hn hu⟩
      · have : y = x := by simpa using z
        rw [this]; exact ⟨v,by rw [get_snoc hn,if_pos rfl]⟩
  induction h with
  | nil => exact ⟨List.nodup_nil,fun x h => (by cases h)⟩
  | root _ hn _ _ ih => exact snoc hn ih
  | link _ hn _ _ _ _ ih => exact snoc hn ih
theorem Cm.few {n : Nat} {E : Int → Int → Int → Prop} {cs : Came} (h : Cm n E cs) : cs.length ≤ n := by
  have := h.nd.1.length_le_of_subset (l₂ := (List.range n).map fun j => ((j + 1 : Nat) : Int)) fun x hx => by
    obtain ⟨u,hu⟩ := h.nd.2 x hx
    have := h.rng hu
    exact List.mem_map.mpr ⟨(x - 1).toNat,List.mem_range.mpr (by omega),by omega⟩
  rw [List.length_map,List.length_map,List.length_range] at this
  exact this
def hdP (p : List (Int × Int)) (r : Int) : Int := match p with
  | [] => r
  | l :: _ => l.1
def twP (ps : List Int) : List (Int × Int) → Int → Bool
  | [],_ => false
  | l :: p,r => apartB ps l.1 (hdP p r) != twP ps p r
theorem Back.hd {cs : Came} {x r : Int} {p : List (Int × Int)} (h : Back cs x p r) : hdP p r = x := by cases h <;> rfl
theorem twP_app {ps : List Int} {r : Int} : ∀ (p c : List (Int × Int)),twP ps (p ++ c) r = (twP ps p (hdP c r) != twP ps c r)
  | [],c => by show _ = (false != _); simp
  | l :: p,c => by
    show (apartB ps l.1 (hdP (p ++ c) r) != twP ps (p ++ c) r) = ((apartB ps l.1 (hdP p (hdP c r)) != twP ps p (hdP c r)) != twP ps c r)
    rw [twP_app p c]
    have : hdP (p ++ c) r = hdP p (hdP c r) := by cases p <;> rfl
    rw [this]
    cases apartB ps l.1 (hdP p (hdP c r)) <;> cases twP ps p (hdP c r) <;> cases twP ps c r <;> rfl
def Wk (J : Int → Int → Int → Prop) : List (Int × Int) → Int → Prop
  | [],_ => True
  | l :: B,x => J l.1 (hdP B x) l.2 ∧ Wk J B x
theorem hd_app (A B : List (Int × Int)) (x : Int) : hdP (A ++ B) x = hdP A (hdP B x) := by cases A <;> rfl
theorem wk_app {J : Int → Int → Int → Prop} {x : Int} : ∀ {A B : List (Int × Int)},Wk J (A ++ B) x ↔ Wk J A (hdP B x) ∧ Wk J B x
  | [],B => ⟨fun h => ⟨trivial,h⟩,fun h => h.2⟩
  | l :: A,B => by
    show (J l.1 (hdP (A ++ B) x) l.2 ∧ Wk J (A ++ B) x) ↔ (J l.1 (hdP A (hdP B x)) l.2 ∧ Wk J A (hdP B x)) ∧ Wk J B x
    rw [hd_app,wk_app,and_assoc]
theorem Back.wk {n : Nat} {E : Int → Int → Int → Prop} {cs : Came} (hc : Cm n E cs) {x r : Int} {p : List (Int × Int)} (h : Back cs x p r) : Wk E p r := by
  induction h with
  | root e => trivial
  | @step x t k r p e hb ih => exact ⟨by rw [hb.hd]; exact (hc.par e).1,ih⟩
def dnP : List (Int × Int) → Int → List (Int × Int)
  | [],_ => []
  | l :: q,z => dnP q z ++ [(hdP q z,l.2)]
theorem dn_len : ∀ (q : List (Int × Int)) (z : Int),(dnP q z).length = q.length
  | [],_ => rfl
  | l :: q,z => by rw [dnP,List.length_append,dn_len q z]; rfl
theorem hd_dn : ∀ (q s : List (Int × Int)) (z x : Int),hdP s x = hdP q z → hdP (dnP q z ++ s) x = z
  | [],s,z,x,h => h
  | l :: q,s,z,x,h => by
    rw [dnP,List.append_assoc]
    exact hd_dn q ([(hdP q z,l.2)] ++ s) z x rfl
theorem wk_dn {J : Int → Int → Int → Prop} (sy : ∀ a b k,J a b k → J b a k) : ∀ (q s : List (Int × Int)) (z x : Int),hdP s x = hdP q z → Wk J q z → Wk J s x → Wk J (dnP q z ++ s) x
  | [],s,z,x,_,_,h => h
  | l :: q,s,z,x,h,hq,hs => by
    rw [dnP,List.append_assoc]
    refine wk_dn sy q ([(hdP q z,l.2)] ++ s) z x rfl hq.2 ⟨?_,hs⟩
    show J (hdP q z) (hdP s x) l.2
    rw [h]; exact sy _ _ _ hq.1
theorem apart_sym (ps : List Int) (a b : Int) : apartB ps a b = apartB ps b a := by unfold apartB; rw [Bool.and_comm]
theorem tw_dn {ps : List Int} : ∀ (q s : List (Int × Int)) (z x : Int),hdP s x = hdP q z → twP ps (dnP q z ++ s) x = (twP ps q z != twP ps s x)
  | [],s,z,x,_ => by show twP ps s x = (false != twP ps s x); simp
  | l :: q,s,z,x,h => by
    rw [dnP,List.append_assoc,tw_dn q ([(hdP q z,l.2)] ++ s) z x rfl]
    show (twP ps q z != (apartB ps (hdP q z) (hdP s x) != twP ps s x)) = ((apartB ps l.1 (hdP q z) != twP ps q z) != twP ps s x)
    rw [h,apart_sym ps (hdP q z)]
    show (twP ps q z != (apartB ps l.1 (hdP q z) != twP ps s x)) = _
    cases apartB ps l.1 (hdP q z) <;> cases twP ps q z <;> cases twP ps s x <;> rfl
theorem drop_nth {R : List (Int × Int)} {j : Nat} (h : j < R.length) : R.drop j = nth R j :: R.drop (j + 1) := by
  rw [List.drop_eq_getElem_cons h]
  congr 1
  have := nth_at h
  rw [List.getElem?_eq_getElem h] at this
  exact Option.some.inj this
theorem next_nth {R : List (Int × Int)} {j : Nat} {x : Int} (h : j < R.length) (hx : hdP R x = x) : hdP (R.drop (j + 1)) x = (nth R ((j + 1) % R.length)).1 := by
  by_cases e : j + 1 < R.length
  · rw [drop_nth e,Nat.mod_eq_of_lt e]; rfl
  · have e' : j + 1 = R.length := by omega
    rw [e',List.drop_length,Nat.mod_self]
    have := drop_nth (R := R) (j := 0) (by omega)
    rw [List.drop_zero] at this
    show x = (nth R 0).1
    rw [← hx]
    conv => lhs; rw [this]
    rfl
theorem ring_walk {ps : List Int} {as : List Ask} {R : List (Int × Int)} {x : Int} (hx : hdP R x = x) (hw : Wk (fun a b k => joinB ps as a b k = true) R x) (ht : twP ps R x = true) : ringZ ps as R = true := by
  have wk : ∀ j,j ≤ R.length → Wk (fun a b k => joinB ps as a b k = true) (R.drop j) x := by
    intro j
    induction j with
    | zero => intro _; exact hw
    | succ j ih => intro hj; have := ih (by omega); rw [drop_nth (by omega)] at this; exact this.2
  have cnt : ∀ i,i ≤ R.length → (decide (cntT ps R i % 2 = 1) != twP ps (R.drop i) x) = true := by
    intro i
    induction i with
    | zero => intro _; show (false != twP ps R x) = true; rw [ht]; rfl
    | succ i ih =>
      intro hi
      have := ih (by omega)
      rw [drop_nth (by omega)] at this
      have e : twP ps (nth R i :: R.drop (i + 1)) x = (apT ps R i != twP ps (R.drop (i + 1)) x) := by
        show (apartB ps (nth R i).1 (hdP (R.drop (i + 1)) x) != _) = _
        rw [next_nth (by omega) hx]; rfl
      rw [e] at this
      rw [cnt_succ]
      revert this
      generalize cntT ps R i = c
      cases apT ps R i <;> cases twP ps (R.drop (i + 1)) x <;> simp <;> omega
  rw [ring_yes fun j hj => ?_]
  · have := cnt R.length (Nat.le_refl _)
    rw [List.drop_length] at this
    revert this
    show (decide _ != false) = true → _
    intro h
    revert h
    cases decide (cntT ps R R.length % 2 = 1)
    · intro h; cases h
    · intro _; rfl
  · have := wk j (by omega)
    rw [drop_nth hj] at this
    have h2 := this.1
    rw [next_nth hj hx] at h2
    exact h2
theorem ring_thr {n : Nat} {ps : List Int} {as : List Ask} {cs : Came} {x y k r : Int} {P Q C : List (Int × Int)} (hc : Cm n (fun a b k => joinB ps as a b k = true) cs) (h1 : Back cs x (P ++ C) r) (h2 : Back cs y (Q ++ C) r) (hj : joinB ps as x y k = true) (hcl : ((twP ps (P ++ C) r != twP ps (Q ++ C) r) != apartB ps x y) = true) :
    ringZ ps as (P ++ (dnP Q (hdP C r) ++ [(y,k)])) = true ∧ 3 ≤ (P ++ (dnP Q (hdP C r) ++ [(y,k)])).length := by
  have sy : ∀ a b k,joinB ps as a b k = true → joinB ps as b a k = true := fun a b k h => by
    unfold joinB at *
    rw [Bool.and_eq_true,Bool.and_eq_true] at h ⊢
    refine ⟨?_,h.2.2,h.2.1⟩
    have h1 := h.1
    rw [Bool.not_eq_true',decide_eq_false_iff_not] at h1 ⊢
    exact fun e => h1 e.symm
  have e1 := h1.hd
  have e2 := h2.hd
  rw [hd_app] at e1 e2
  have w1 := wk_app.mp (h1.wk hc)
  have w2 := wk_app.mp (h2.wk hc)
  rw [twP_app,twP_app] at hcl
  generalize hdP C r = z at *
  have hz : hdP (dnP Q z ++ [(y,k)]) x = z := hd_dn Q [(y,k)] z x (by rw [e2]; rfl)
  refine ⟨ring_walk (x := x) ?_ ?_ ?_,?_⟩
  · rw [hd_app,hz]; exact e1
  · rw [wk_app,hz]
    exact ⟨w1.1,wk_dn sy Q [(y,k)] z x (by rw [e2]; rfl) w2.1 ⟨sy _ _ _ hj,trivial⟩⟩
  · rw [twP_app,hz,tw_dn Q [(y,k)] z x (by rw [e2]; rfl)]
    show (twP ps P z != (twP ps Q z != (apartB ps y x != false))) = true
    rw [apart_sym ps y x]
    revert hcl
    cases twP ps P z <;> cases twP ps Q z <;> cases twP ps C r <;> cases apartB ps x y <;> decide
  · rw [List.length_append,List.length_append,dn_len]
    show 3 ≤ P.length + (Q.length + 1)
    have hne : x ≠ y := fun e => by
      unfold joinB at hj; rw [e] at hj; simp at hj
    rcases P with _ | ⟨l,P⟩
    · rcases Q with _ | ⟨l',Q⟩
      · exact absurd (e1.symm.trans e2) hne
      · rcases Q with _ | ⟨l'',Q⟩
        · exfalso
          have a : z = x := e1
          have b : l'.1 = y := e2
          revert hcl
          show (((false != twP ps C r) != ((apartB ps l'.1 z != false) != twP ps C r)) != apartB ps x y) = true → False
          rw [a,b,apart_sym ps y x]
          cases twP ps C r <;> cases apartB ps x y <;> decide
        · show 3 ≤ 0 + (Q.length + 1 + 1 + 1); omega
    · rcases P with _ | ⟨l2,P⟩
      · rcases Q with _ | ⟨l',Q⟩
        · exfalso
          have a : l.1 = x := e1
          have b : z = y := e2
          revert hcl
          show ((((apartB ps l.1 z != false) != twP ps C r) != (false != twP ps C r)) != apartB ps x y) = true → False
          rw [a,b]
          cases twP ps C r <;> cases apartB ps x y <;> decide
        · show 3 ≤ 0 + 1 + (Q.length + 1 + 1); omega
      · show 3 ≤ P.length + 1 + 1 + (Q.length + 1); omega
end L2
namespace L2
open PySem PySem.Spec PyProof.Rows
section
variable {X : Cx} {ow : List Bool} {a b : Expr} {ma mb : DSt → (Int → Prop) → Prop} {pos : Pos}
theorem qz_op0 {op : Operator} {g : Int → Int → Int} (ho : OpR X (binaryOp op) (rI0 fun i j => .int (g i j))) (ha : QN0 X ow a ma) (hb : QN0 X ow b mb) : QN0 X ow (.BinOp a op b pos) (fun ρ q => ma ρ fun i => mb ρ fun j => q (g i j)) := by
  obtain ⟨ta,pa,sa⟩ := ha; obtain ⟨tb,pb,sb⟩ := hb
  exact ⟨_,pe_op ho pa pb,fun C G ρ σ H pd q Q r h k => sa C G ρ σ H pd _ _ r h fun i hi => sb C G ρ σ H pd _ _ r hi fun j hj => ⟨i,j,rfl,rfl,k _ hj⟩⟩
end
def drp (G : Hp) (as : List Addr) : Hp := fun a => if a ∈ as then none else G a
theorem drp_in {G : Hp} {as : List Addr} {a : Addr} (h : a ∈ as) : drp G as a = none := if_pos h
theorem drp_out {G : Hp} {as : List Addr} {a : Addr} (h : ¬ a ∈ as) : drp G as a = G a := if_neg h
theorem at_one {as : List Addr} (nd : as.Nodup) {i j : Nat} {a : Addr} (h1 : as[i]? = some a) (h2 : as[j]? = some a) : i = j := by
  obtain ⟨l1,e1⟩ := List.getElem?_eq_some_iff.mp h1
  obtain ⟨l2,e2⟩ := List.getElem?_eq_some_iff.mp h2
  exact (List.getElem_inj (h₀ := l1) (h₁ := l2) nd).mp (by rw [e1,e2])
theorem ix_at {as : List Addr} (nd : as.Nodup) {j : Nat} {a : Addr} (h : as[j]? = some a) : as.idxOf a = j := by
  have hm := List.mem_of_getElem? h
  have hl := List.idxOf_lt_length_iff.mpr hm
  refine at_one nd (a := a) ?_ h
  rw [List.getElem?_eq_getElem hl,List.getElem_idxOf]
section
variable {C : Ctx} {ow : List Bool} {G G' : Hp} {ρ : DSt} {σ : St} {H H' : Hp} {pd : List (D × V)} {O O' : Own}
theorem RO.unshare (h0 : RO C ow G ρ σ H pd O) (h : RO C ow G' ρ σ H' pd O') (z : Same G G') {as : List Addr} (ha : ∀ a ∈ as,G' a = some (.lst []) ∧ G a = none) (nd : as.Nodup) {p : Addr} (hp : H' p = none) :
    R C ow (drp G' as) ρ σ (upd H' p (.lst (as.map V.ref))) ((.lst (as.map fun _ => .lst []),.ref p) :: pd) ∧ Same G (drp G' as) := by
  have sG : Same G (drp G' as) := fun a o e => by
    rw [drp_out fun m => by rw [(ha a m).2] at e; cases e]; exact z a o e
  have hH : ∀ a ∈ as,H' a = some (.lst []) := fun a m => h.gh _ _ (ha a m).1
  have pas : ¬ p ∈ as := fun m => by rw [hH p m] at hp; cases hp
  have gp : G' p = none := by
    cases e : G' p with
    | none => rfl
    | some z => rw [h.gh _ _ e] at hp; cases hp
  have ne : ∀ a l,O' a = some l → a ≠ p := fun a l e z => by
    obtain ⟨_,⟨xs,q⟩,_⟩ := h.og a l e
    rw [z,hp] at q; cases q
  have nas : ∀ a l,O' a = some l → ¬ a ∈ as := fun a l e m => by
    have := (h.og a l e).1
    rw [(ha a m).1] at this; cases this
  let O2 : Own := fun a => if a = p then some (2 * pd.length + 1,[]) else if a ∈ as then some (2 * pd.length + 1,[as.idxOf a]) else O' a
  have old : ∀ a l,O' a = some l → O2 a = some l := fun a l e => by
    show (if a = p then _ else if a ∈ as then _ else _) = _
    rw [if_neg (ne a _ e),if_neg (nas a _ e),e]
  have ts : TSame G' (drp G' as) := fun a xs e => by
    rw [drp_out fun m => by rw [(ha a m).1] at e; cases e]; exact e
  refine ⟨⟨O2,h.len,?_,fun a u e => sG _ _ (h0.g0 a u e),?_,?_,h.cok,?_,?_,h.mp,?_,⟨?_,?_⟩,Nat.le_succ_of_le h.np⟩,sG⟩
  · intro a u e
    by_cases m : a ∈ as
    · rw [drp_in m] at e; cases e
    · rw [drp_out m] at e
      rw [upd_ne (fun z => by rw [z,gp] at e; cases e)]
      exact h.gh _ _ e
  · intro a u e
    by_cases m : a ∈ as
    · rw [drp_in m] at e; cases e
    · rw [drp_out m] at e; exact h.gn a u e
  · intro a l e
    by_cases z1 : a = p
    · subst z1; exact ⟨by rw [drp_out pas]; exact gp,⟨.inl (as.map V.ref),upd_same⟩,.inl (h.al _ hp)⟩
    · rw [upd_ne z1]
      change (if a = p then _ else if a ∈ as then _ else _) = _ at e
      rw [if_neg z1] at e
      by_cases m : a ∈ as
      · refine ⟨drp_in m,⟨.inl [],hH a m⟩,.inl ?_⟩
        rcases h.gn a _ (ha a m).1 with q | q
        · have := h0.g0 a _ q; rw [(ha a m).2] at this; cases this
        · exact q
      · rw [if_neg m] at e
        rw [drp_out m]; exact h.og a _ e
  · intro a u e n
    rw [upd_ne (ne_of_none (h.fr a u e n) hp)]
    exact h.fr a u e n
  · intro a e
    by_cases z1 : a = p
    · subst z1; rw [upd_same] at e; cases e
    · rw [upd_ne z1] at e; exact h.al a e
  · intro i d e
    by_cases c : ow[i]? = some true
    · obtain ⟨v,h1,h2⟩ := h.sl i d e
      rw [if_pos c] at h2
      exact ⟨v,h1,by rw [if_pos c]; exact h2.keep ts fun a τ q => ⟨old a _ q,upd_ne (ne a _ q)⟩⟩
    · obtain ⟨v,h1,h2⟩ := h0.sl i d e
      rw [if_neg c] at h2
      exact ⟨v,h1,by rw [if_neg c]; exact h2.mono sG⟩
  · rw [Sep]
    refine ⟨p,as.map V.ref,rfl,by show (if p = p then _ else _) = _; rw [if_pos rfl],upd_same,?_⟩
    have := Seps.mk (G := drp G' as) (H := upd H' p (.lst (as.map V.ref))) (O := O2) (i := 2 * pd.length + 1) (T := as.map fun a => ((.lst [],.ref a) : D × V)) (k := 0) (π := []) (fun j x e => by
      rw [List.getElem?_map] at e
      obtain ⟨a,e1,e2⟩ := Option.map_eq_some_iff.mp e
      subst e2
      have m := List.mem_of_getElem? e1
      have nep : a ≠ p := fun z => pas (z ▸ m)
      show Sep _ _ _ _ (.lst []) _ (.ref a)
      rw [Sep]
      refine ⟨a,[],rfl,?_,by rw [upd_ne nep]; exact hH a m,by rw [Seps]⟩
      show (if a = p then _ else if a ∈ as then _ else _) = _
      rw [if_neg nep,if_pos m,ix_at nd e1,Nat.zero_add])
    rw [List.map_map,List.map_map] at this
    exact this
  · exact Pend.keep ts (fun a j π hj q => ⟨old a _ q,upd_ne (ne a _ q)⟩) h.pn
end
theorem comp_nils {ow : List Bool} {J : It} {g : TG} {mg : MG} {tt : TT} {C : Ctx} {G : Hp} {ρ : DSt} {σ : St} {H : Hp} {pd : List (D × V)} {ds : List D} {own : List Str} {js : List Nat} {Z : List V → Hp → Prop}
    (r : R C ow G ρ σ H pd) (hj : ∀ j ∈ js,ow[j]? ≠ some true) (jo : ItOk J G ds) (sg : SG ⟨[],[],false⟩ g mg) (st : STe [] tt (mYes true)) (hk : ∀ x H k,g x (sig0 own js σ) H k → g x (sig0 own js σ) H fun σ2 H2 => kept (sig0 own js σ) σ2 ∧ k σ2 H2)
    (hl : ds.length ≤ 1000) (hm : ∀ d ∈ ds,mg d (rho0 own.length js ρ) fun _ => True)
    (k : ∀ (as : List Addr) G' H',Same G G' → R C ow G' ρ σ H' pd → as.length = ds.length → as.Nodup → (∀ a ∈ as,G' a = some (.lst []) ∧ G a = none) → Z (as.map V.ref) H') : CompW J g tt (tLst tNil) (sig0 own js σ) H Z := by
  obtain ⟨O,ro⟩ := r
  have ri := ro.inner own js hj
  have nt : ∀ i : Nat,([] : List Bool)[i]? ≠ some true := fun i => by simp
  let C1 : Ctx := ⟨G,H,ownM (fun _ => none) O,[],0⟩
  refine ⟨fun i m acc H' => m = ds.length - i ∧ i ≤ ds.length ∧ ∃ (G' : Hp) (as : List Addr),Same G G' ∧ R C1 [] G' (rho0 own.length js ρ) (sig0 own js σ) H' [] ∧ acc = as.map V.ref ∧ as.length = i ∧ as.Nodup ∧ ∀ a ∈ as,G' a = some (.lst []) ∧ G a = none,⟨_,rfl,Nat.zero_le _,G,[],Same.refl _,⟨_,ri⟩,rfl,rfl,List.nodup_nil,fun a h => (by cases h)⟩,?_⟩
  rintro i m acc H' ⟨rfl,hi,G',as,z,r',rfl,la,nd,pa⟩
  obtain ⟨sp,go⟩ := jo C1 [] G' _ _ H' [] i z r'
  by_cases hlt : i < ds.length
  · obtain ⟨g1,g2⟩ := go ds[i] (List.getElem?_eq_getElem hlt)
    refine .inr ⟨g1,small1000 (by rw [List.length_map]; omega),fun acc' H2 => ∃ (G2 : Hp) (as2 : List Addr),Same G G2 ∧ R C1 [] G2 (rho0 own.length js ρ) (sig0 own js σ) H2 [] ∧ acc' = as2.map V.ref ∧ as2.length = i + 1 ∧ as2.Nodup ∧ ∀ a ∈ as2,G2 a = some (.lst []) ∧ G a = none,fun acc' H2 h => ⟨ds.length - (i + 1),by omega,rfl,hlt,h⟩,fun x H1 hy => hk _ _ _ ?_⟩
    obtain ⟨G1,z1,r1,p1⟩ := g2 x H1 hy
    refine sg C1 G1 _ _ H1 [] ds[i] x _ _ (fun i v e => by simp [C1] at e) r1 p1 (hm ds[i] (List.getElem_mem hlt)) fun ρ2 σ2 h2 r2 => ?_
    refine st C1 G1 ρ2 σ2 H1 [] (fun b _ => b = true) _ r2 rfl fun b ρ3 G3 H3 h3 z3 kp3 r3 => ?_
    have bk : ∀ {G4 : Hp} {ρ4 : DSt} {H4 : Hp},Same G3 G4 → R C1 [] G4 ρ4 σ2 H4 [] → R C1 [] G4 (rho0 own.length js ρ) (sig0 own js σ) H4 [] := fun z4 ⟨O4,r4⟩ => by
      obtain ⟨O1,r1'⟩ := r1
      exact ⟨_,r1'.back nt r4 (z3.trans z4)⟩
    rw [if_pos h3]
    refine ⟨Nat.zero_le _,fun p hp => ?_⟩
    obtain ⟨O3,r3⟩ := r3
    have gp : G3 p = none := by
      cases e : G3 p with
      | none => rfl
      | some z => rw [r3.gh _ _ e] at hp; cases hp
    have zG : Same G G3 := z.trans (z1.trans z3)
    have gp0 : G p = none := by
      cases e : G p with
      | none => rfl
      | some o => rw [zG _ _ e] at gp; cases gp
    obtain ⟨r4,z4⟩ := r3.new hp (.lst [])
    have pas : ∀ a ∈ as,G3 a = some (.lst []) := fun a m => z3 _ _ (z1 _ _ (pa a m).1)
    refine ⟨upd G3 p (.lst []),as ++ [p],zG.trans z4,bk z4 ⟨O3,r4⟩,by rw [List.map_append]; rfl,by rw [List.length_append,la]; rfl,List.nodup_append.mpr ⟨nd,by simp,fun a m b hb e => ?_⟩,fun a m => ?_⟩
    · have hb' : b = p := by simpa using hb
      have := pas a m
      rw [e,hb',gp] at this; cases this
    · rcases List.mem_append.mp m with m | m
      · exact ⟨z4 _ _ (pas a m),(pa a m).2⟩
      · have e : a = p := by simpa using m
        rw [e]; exact ⟨upd_same,gp0⟩
  · have e : i = ds.length := by omega
    subst e
    refine .inl ⟨sp (Nat.le_refl _),le_line (by rw [List.length_map]; omega),?_⟩
    obtain ⟨O2,r2⟩ := r'
    refine k as G' H' z ⟨ownB (fun _ => none) (fun _ => none) O O2,?_⟩ la nd pa
    refine ro.out (vs := []) r2 (fun _ _ _ e => by cases e) ro.len ro.np (fun i d _ e => e) (fun i d _ e => .inl ⟨rfl,e⟩) fun O3 h1 h2 ts => ?_
    exact Pend.keep ts (fun a j π hj e => h1 a _ _ e rfl) ro.pn
section
variable {X : Cx} {ow : List Bool} {tg iter : Expr} {ifs : List Expr} {pos pos' : Pos} {mi : MA} {mg : MG} {scope : Scope} {cl : List (Str × Addr)}
def mNils (mi : MA) (mg : MG) (n : Nat) (js : List Nat) : ME := fun ρ q => mi ρ fun ds ρ1 => ds.length ≤ 1000 ∧ (∀ d ∈ ds,mg d (rho0 n js ρ1) fun _ => True) ∧ q (.lst (ds.map fun _ => .lst [])) ρ1
theorem nils_sf {wi : TI} {g : TG} {own : List Str} {js : List Nat} (si : SI ow wi mi) (cg : CG own.length g mg) (hj : ∀ j ∈ js,ow[j]? ≠ some true) : SF ow (tComp wi g (canT [] (mYes true)) (tLst tNil) own js) (mNils mi mg own.length js) := fun C G ρ σ H pd q Q r h k =>
  si C G ρ σ H pd _ _ r h fun ds ρ' G' H' J hq z kp r' jo => by
    refine comp_nils r' hj jo cg.sg can_st (fun x H k hg => cg.kp _ sig0_none _ x H k (kept_refl _) hg) hq.1 hq.2.1 fun as G2 H2 z2 r2 la nd pa p hp => ?_
    obtain ⟨O',r'⟩ := r'
    obtain ⟨O2,r2⟩ := r2
    obtain ⟨r3,z3⟩ := r'.unshare r2 z2 pa nd hp
    have e : (as.map fun _ => D.lst []) = ds.map fun _ => D.lst [] := by
      rw [List.map_const',List.map_const',la]
    rw [e] at r3
    exact k _ ρ' _ _ _ hq.2.2 (z.trans z3) kp r3
theorem qs_setNils {M : Md} {g : TG} {i : Nat} {y : Str} {spos py : Pos} {me : ME} (own : List Str) (js : List Nat) (c : CompOk X scope cl own js) (hc : X.calm = true) (hN : X.N.Nodup) (hy : X.N[i]? = some y) (hx : Loc X.env.scope y) (hi : QI X M.ow tg iter mi) (cg : CG own.length g mg)
    (inner : ∀ (C : Addr) (s₀ : Shared) (H₀ : Hp) (ex : List Addr),CInn (compCx X scope cl (nam0 X own js) C s₀ H₀ ex) tg [] (.List [] pos') g (mYes true) me) (hj : ∀ j ∈ js,M.ow[j]? ≠ some true := by decide) (ho : M.ow[i]? = some true := by decide) (hu : M.mu[i]? ≠ some true := by decide)
    (hsw : swapsWith (.ListComp (.List [] pos') [⟨tg,iter,[],0⟩] scope pos) (some (.Name y py)) spos.line X.env = pure true := by rfl)
    (hs : ∀ x,foldedSetIterable iter X.env x = pure x := by intro _; rfl) (hf : X.fn y = true ∨ X.env.scope.names.lookup y = some .local := by first | exact .inl rfl | exact .inr rfl | assumption) :
    QS X M (.Assign [.Name y py] (.ListComp (.List [] pos') [⟨tg,iter,[],0⟩] scope pos) spos) (mSet i (mNils mi mg own.length js)) := by
  obtain ⟨wi,pi,si⟩ := hi
  exact ⟨_,ps_setComp own js c hc hN hy hx pi (fun C s₀ H₀ ex => ⟨(inner C s₀ H₀ ex).pg,(inner C s₀ H₀ ex).qi.can,pe_lst pa_nil⟩) hsw hs hf,ss_setO (nils_sf si cg hj) ho hu⟩
end
section
variable {X : Cx}
theorem call_range2 : CallR X (.type "range") (fun xs H Q => ∃ i j : Int,xs = [.int i,.int j] ∧ ∀ p,H p = none → Q (.ref p) (upd H p (.rng i j))) := by
  intro pins s σ H xs us Q I r h
  obtain ⟨i,j,rfl,q⟩ := h
  obtain ⟨u,v,rfl,⟨t,rfl⟩,⟨t',rfl⟩⟩ := vals2 r
  refine call_range_2 ⟨.ref s.heap.objs.size,_,I.laid (a := s.heap.objs.size) (o := .rng i j) (fun _ _ e => Heap.get?_push_of_some _ e) (Nat.le_refl _) ⟨_,_,_,Heap.get?_push_size _ rfl⟩,rfl,q _ (I.hok.fresh (Nat.le_refl _))⟩
theorem call_list_rng2 (hc : X.calm = true) : CallR X (.type "list") (fun xs H Q => ∃ (r : Addr) (i j : Int),xs = [.ref r] ∧ H r = some (.rng i j) ∧ 0 ≤ i ∧ i ≤ j ∧ j ≤ 1000 ∧ ∀ p,H p = none → Q (.ref p) (upd H p (.lst ((ranI i (j - i).toNat).map V.int)))) := by
  intro pins s σ H xs us Q I r h
  obtain ⟨a,lo,j,rfl,ha,h0,hij,h1,q⟩ := h
  obtain ⟨u,rfl,ru⟩ := vals1 r
  cases ru
  obtain ⟨t,u,v,e⟩ := (show ObjOk X.prog X.w H s.heap a (.rng lo j) from I.hok a _ ha)
  refine call_list_range (n := (j - lo).toNat) (I.ok.hd hc) e (small_one (by omega) (by omega) (by omega) (by omega)) (by rw [rangeSize_one]; split <;> omega) (by omega) fun h' tk acc' c' hk hS hacc => ?_
  refine ⟨.ref s.heap.objs.size,_,I.laid (a := s.heap.objs.size) (o := .lst ((ranI lo (j - lo).toNat).map V.int)) hk (Nat.le_refl _) ?_,rfl,q _ (I.hok.fresh (Nat.le_refl _))⟩
  have hl : ((ranI lo (j - lo).toNat).map V.int).length = (j - lo).toNat := by simp [ranI]
  refine ⟨Nat.le_of_lt (small1000 (by rw [hl]; omega)),acc'.toList,c',vals_of_get (by rw [hl]; simpa using hacc.1.symm) (fun i x w e1 e2 => ?_),by simpa using hS⟩
  have e3 := hacc.2 i w (by simpa using e2)
  obtain ⟨t',rfl⟩ := e3
  rw [List.getElem?_map] at e1
  unfold ranI at e1
  rw [List.getElem?_map] at e1
  have hi : i < (j - lo).toNat := by
    cases z : (List.range (j - lo).toNat)[i]? with
    | none => rw [z] at e1; cases e1
    | some k => have := (List.getElem?_eq_some_iff.mp z).1; simpa using this
  rw [List.getElem?_range hi] at e1
  have e1' : V.int (lo + (i : Int)) = x := Option.some.inj e1
  subst e1'
  exact ⟨t',by simp⟩
def mLRng2 (m : MA) : ME := fun ρ q => m ρ fun ds ρ' => match ds with
  | [.int i,.int j] => (0 ≤ i ∧ i ≤ j ∧ j ≤ 1000) ∧ q (.lst (rngD i (j - i).toNat)) ρ'
  | _ => False
theorem rngD_ints (lo : Int) (n : Nat) : rngD lo n = (ranI lo n).map D.int := by unfold rngD ranI; rw [List.map_map]; rfl
variable {a b : Expr} {mr : MA} {pos : Pos}
theorem qf_lrng2 {ow : List Bool} {x y : Str} {p1 p2 pos2 : Pos} (hc : X.calm = true) (hgl : Gl X x) (hml : X.mg x = none) (hvl : bootBuiltins x = some (.type "list")) (hgr : Gl X y) (hmr : X.mg y = none) (hvr : bootBuiltins y = some (.type "range")) (ha : QA X ow [a,b] mr)
    (hn1 : x ≠ "__name__" := by decide) (hd1 : (x == ("__debug__" : Str)) = false := by decide) (hn2 : y ≠ "__name__" := by decide) (hd2 : (y == ("__debug__" : Str)) = false := by decide)
    (hs1 : starEach [a,b] X.env = (false,eval a X.env) :: starEach [b] X.env := by rfl) (hs3 : (backTo pos2 (starEach [b] X.env)).any (·.1) = false := by rfl) (hs2 : starEach [.Call (.Name y p2) [a,b] [] pos2] X.env = [(false,eval (.Call (.Name y p2) [a,b] [] pos2) X.env)] := by rfl) :
    QF X ow (.Call (.Name x p1) [.Call (.Name y p2) [a,b] [] pos2] [] pos) (mLRng2 mr) := by
  obtain ⟨t,p,s⟩ := ha
  refine ⟨_,pe_callTy (call_list_rng2 hc) hgl hml hvl (pa_cons (pe_callTy call_range2 hgr hmr hvr p hn2 hd2 hs1 hs3) pa_nil hs2) hn1 hd1 hs2 (by rfl),fun C G ρ σ H pd q Q r hm k => s C G ρ σ H pd _ _ r hm fun ds ρ' vs G' H' hq z kp r' p hn => ?_⟩
  split at hq
  · rename_i i j
    obtain ⟨v,u,rfl,p1,p2⟩ := reps_two p
    rw [rep_int_of p1,rep_int_of p2]
    refine ⟨i,j,rfl,fun b hb => ⟨b,i,j,rfl,upd_same,hq.1.1,hq.1.2.1,hq.1.2.2,fun l hl => ?_⟩⟩
    obtain ⟨O,r'⟩ := r'
    obtain ⟨r2,z2⟩ := r'.new hb (.rng i j)
    refine k _ ρ' _ _ _ hq.2 (z.trans z2) kp (r2.newL hl ?_ ?_)
    · rw [rngD_ints]; exact imms_ints _
    · rw [rngD_ints]; exact reps_ints _
  · exact hq.elim
end
def Itv (a : Addr) (n : Nat) : It :=
  ⟨fun i H => ∃ xs x,H a = some (.lst xs) ∧ xs.length = n ∧ i < n ∧ xs[n - 1 - i]? = some x,fun i H x H' => H' = H ∧ ∀ xs,H a = some (.lst xs) → xs[n - 1 - i]? = some x,fun i _ => n ≤ i⟩
theorem turn_rev {P : Program} {w : World} {K : PySem.W.Frag} {tg : Expr} (a it : Addr) (n : Nat) : Turn P w K tg (Itv a n) [it] it (fun i h => i ≤ n ∧ h.IsRevIter it a ((n : Int) - 1 - (i : Int))) where
  mem := by simp
  obj := fun i h st b hb => by
    have e : b = it := by simpa using hb
    subst e
    obtain ⟨_,o,e,c,d⟩ := st
    exact ⟨o,e,fun v z => by rw [d] at z; cases z⟩
  keep := fun i h h' st k => ⟨st.1,st.2.at fun o e => k it (by simp) o e⟩
  item := by
    intro X hP hw hK hc i pins s σ H E I hf st hg
    subst hP hw hK
    obtain ⟨xs,x,hq,hn,hi,hx⟩ := hg
    obtain ⟨its,rv,p,hz⟩ := I.list (SqL.of hq)
    obtain ⟨u,hu,ru⟩ := rv.get hx
    obtain ⟨f0,f1,f2,f3,f4,f5⟩ := hf it (by simp)
    have st2 := st.2
    rw [show (n : Int) - 1 - (i : Int) = ((n - 1 - i : Nat) : Int) by omega] at st2
    refine wpAny_pyNext_rev_item st2 p.isList (x := u) (by simpa using hu) fun h' st' sb => ?_
    have I1 : Inv X pins σ H { s with heap := h' } := I.turned (t' := s.toks) (fun b o hb e => (sb.2 b hb).trans e) f0 f1 f3 f4 f5
    obtain ⟨o,e,c,d⟩ := id st'
    refine ⟨u,rfl,go_of (s := { s with heap := h' }) e c d (by decide) ⟨x,H,I1,ru,⟨rfl,fun ys hy => by rw [hq] at hy; cases hy; exact hx⟩,⟨hi,?_⟩,fun b hb => (hf b hb).1⟩⟩
    rw [show (n : Int) - 1 - ((i + 1 : Nat) : Int) = ((n - 1 - i : Nat) : Int) - 1 by omega]
    exact st'
  done := by
    intro X hP hw hK hc i pins s σ H E I hf st hg
    subst hP hw hK
    have hg : n ≤ i := hg
    have hg : i = n := Nat.le_antisymm st.1 hg
    obtain ⟨f0,f1,f2,f3,f4,f5⟩ := hf it (by simp)
    have st2 := st.2
    rw [show (n : Int) - 1 - (i : Int) = -1 by omega] at st2
    exact wpAny_pyNext_rev_end (I.ok.hd hc) st2 fun h' eb => ⟨rfl,I.turned (t' := s.toks) (fun b o hb e => eb b o hb e) f0 f1 f3 f4 f5⟩
  self := fun _ _ _ _ _ st h => wpAny_pyIter_revIter st.2 h
section
variable {X : Cx} {tg : Expr}
def iRev (ta : TA) : TI := fun σ H R => ta σ H fun vs H1 => ∃ a xs,vs = [.ref a] ∧ H1 a = some (.lst xs) ∧ R (Itv a xs.length) H1
theorem pi_rev {l : Expr} {ta : TA} {p pos : Pos} (hg : Gl X "reversed") (hm : X.mg "reversed" = none) (ha : PA X [l] ta) (hs : starEach [l] X.env = [(false,eval l X.env)] := by rfl) : PI X tg (.Call (.Name "reversed" p) [l] [] pos) (iRev ta) := by
  refine ⟨fun pins s σ H R I h => ?_⟩
  refine Call_ (ld_blt I hg hm (show bootBuiltins "reversed" = some (.type "reversed") by decide +kernel) (PyProof.Rows.callWith_type1 (thn (ha pos pins s σ H _ I h) fun us s1 ⟨vs,H1,I1,r1,q1⟩ => ?_) hs rfl))
  obtain ⟨a,xs,e,hx,q⟩ := q1
  subst e
  obtain ⟨u,rfl,ru⟩ := vals1 r1
  cases ru
  obtain ⟨its,rv,p1,hz⟩ := I1.list (SqL.of hx)
  have hl := rv.length
  refine call_reversed_list p1.isList ?_
  refine wpAny_pyIter_revIter (it := s1.heap.objs.size) (l := a) (i := (its.toArray.size : Int) - 1) ⟨_,Heap.get?_push_size _ rfl,rfl,rfl⟩ ?_
  refine ⟨s1.heap.objs.size,[s1.heap.objs.size],_,_,H1,rfl,I1.kept (t' := s1.toks) fun b o e => Heap.get?_push_of_some _ e,turn_rev a _ xs.length,⟨Nat.zero_le _,_,Heap.get?_push_size _ rfl,rfl,?_⟩,fun b hb => ?_,q⟩
  · have e1 : its.toArray.size = xs.length := by simp; omega
    show Data.fields #[.ref a,rawInt ((its.toArray.size : Int) - 1)] = Data.fields #[.ref a,rawInt ((xs.length : Int) - 1 - ((0 : Nat) : Int))]
    rw [e1]
    congr 3
    simp
  · have e : b = s1.heap.objs.size := by simpa using hb
    subst e
    exact I1.fpOk (Nat.le_refl _) (I1.hok.fresh (Nat.le_refl _))
theorem itv_ok {G : Hp} {p : Addr} {xs : List V} {ds : List D} (h1 : G p = some (.lst xs)) (h2 : Reps G ds xs) : ItOk (Itv p xs.length) G ds.reverse := fun C ow G' ρ σ H pd i z r => by
  have hp := r.gh _ _ (z _ _ h1)
  have hl := h2.length
  refine ⟨fun h => by rw [List.length_reverse] at h; show xs.length ≤ i; omega,fun d e => ?_⟩
  have hi : i < ds.length := by have := (List.getElem?_eq_some_iff.mp e).1; rw [List.length_reverse] at this; exact this
  rw [List.getElem?_reverse hi] at e
  obtain ⟨v,e1,e2⟩ := reps_get h2 e
  rw [← hl] at e1
  refine ⟨⟨xs,v,hp,rfl,by omega,e1⟩,fun x H' hy => ?_⟩
  obtain ⟨rfl,hy⟩ := hy
  have := hy xs hp
  rw [e1] at this; cases this
  exact ⟨G',Same.refl _,r,Rep.mono z _ _ e2⟩
def miRev (m : MA) : MA := fun ρ q => m ρ fun ds ρ' => match ds with
  | [.lst ds] => q ds.reverse ρ'
  | _ => False
variable {ow : List Bool} {a : Expr} {mr : MA} {pos : Pos}
theorem qi_rev {p : Pos} (hg : Gl X "reversed") (hm : X.mg "reversed" = none) (ha : QA X ow [a] mr) (hs : starEach [a] X.env = [(false,eval a X.env)] := by rfl) : QI X ow tg (.Call (.Name "reversed" p) [a] [] pos) (miRev mr) := by
  obtain ⟨t,p,s⟩ := ha
  refine ⟨_,pi_rev hg hm p hs,fun C G ρ σ H pd q Q r hm k => s C G ρ σ H pd _ _ r hm fun ds ρ' vs G' H' hq z kp r' p hn => ?_⟩
  split at hq
  · obtain ⟨v,rfl,p1⟩ := reps_one p
    obtain ⟨a,xs,rfl,h1,h2⟩ := rep_lst_of p1
    exact ⟨a,xs,rfl,r'.gh _ _ h1,k _ ρ' G' H' _ hq z kp r' (itv_ok h1 h2)⟩
  · exact hq.elim
end
end L2
namespace K50
open PySem L2
def top (i : Nat) : Stmt := PySem.Challenge.pw_treeasks_k50_whole_lines_and_stars.main.body.getD i (.Pass ⟨0,0,0,0⟩)
abbrev s_q18 : Stmt := top 6
abbrev s_q10 : Stmt := top 7
abbrev s_q0 : Stmt := top 11
abbrev s_q4 : Stmt := top 12
abbrev s_q17 : Stmt := top 13
abbrev s_q31 : Stmt := top 14
abbrev s_q16 : Stmt := top 15
abbrev s_q30 : Stmt := top 20
abbrev s_q2 : Stmt := top 21
abbrev s_q3 : Stmt := top 23
abbrev s_q38 : Stmt := top 24
abbrev s_q7 : Stmt := top 25
abbrev s_q37 : Stmt := top 26
abbrev s_q9 : Stmt := top 27
abbrev s_q12 : Stmt := top 31
abbrev s_q23 : Stmt := top 32
abbrev s_q8 : Stmt := top 33
abbrev s_q24 : Stmt := top 34
abbrev s_q21 : Stmt := top 35
abbrev s_q11 : Stmt := top 36
abbrev s_q14 : Stmt := top 37
abbrev s_q27 : Stmt := top 38
abbrev s_q5 : Stmt := top 39
abbrev s_q6 : Stmt := top 40
abbrev s_q26 : Stmt := top 41
abbrev s_q32 : Stmt := top 43
abbrev s_q20 : Stmt := top 44
abbrev s_q33 : Stmt := top 45
abbrev s_q25 : Stmt := top 47
abbrev s_q35 : Stmt := top 48
abbrev s_q1 : Stmt := top 49
abbrev s_q34 : Stmt := top 50
abbrev s_q19 : Stmt := top 51
abbrev s_q36 : Stmt := top 52
abbrev s_law : Stmt := top 53
set_option genInjectivity false in
structure Adr where
  f_q18 : Addr
  d_q18 : FuncData
  f_q10 : Addr
  d_q10 : FuncData
  f_q0 : Addr
  d_q0 : FuncData
  f_q4 : Addr
  d_q4 : FuncData
  f_q17 : Addr
  d_q17 : FuncData
  f_q31 : Addr
  d_q31 : FuncData
  f_q16 : Addr
  d_q16 : FuncData
  f_q30 : Addr
  d_q30 : FuncData
  f_q2 : Addr
  d_q2 : FuncData
  f_q3 : Addr
  d_q3 : FuncData
  f_q38 : Addr
  d_q38 : FuncData
  f_q7 : Addr
  d_q7 : FuncData
  f_q37 : Addr
  d_q37 : FuncData
  f_q9 : Addr
  d_q9 : FuncData
  f_q12 : Addr
  d_q12 : FuncData
  f_q23 : Addr
  d_q23 : FuncData
  f_q8 : Addr
  d_q8 : FuncData
  f_q24 : Addr
  d_q24 : FuncData
  f_q21 : Addr
  d_q21 : FuncData
  f_q11 : Addr
  d_q11 : FuncData
  f_q14 : Addr
  d_q14 : FuncData
  f_q27 : Addr
  d_q27 : FuncData
  f_q5 : Addr
  d_q5 : FuncData
  f_q6 : Addr
  d_q6 : FuncData
  f_q26 : Addr
  d_q26 : FuncData
  f_q32 : Addr
  d_q32 : FuncData
  f_q20 : Addr
  d_q20 : FuncData
  f_q33 : Addr
  d_q33 : FuncData
  f_q25 : Addr
  d_q25 : FuncData
  f_q35 : Addr
  d_q35 : FuncData
  f_q1 : Addr
  d_q1 : FuncData
  f_q34 : Addr
  d_q34 : FuncData
  f_q19 : Addr
  d_q19 : FuncData
  f_q36 : Addr
  d_q36 : FuncData
  f_law : Addr
  d_law : FuncData
set_option genInjectivity false in
structure Txt (K : PySem.W.Frag) (mg : Str → Option Value) (A : Adr) : Prop where
  F_q18 : Fun K "is_whole" "is_whole" s_q18 A.f_q18 A.d_q18
  b_q18 : Binds K A.d_q18 ["thing"] []
  k_q18 : PySem.W.keepIn K (.ref A.f_q18) = true
  m_q18 : mg "is_whole" = some (.ref A.f_q18)
  F_q10 : Fun K "is_between" "is_between" s_q10 A.f_q10 A.d_q10
  b_q10 : Binds K A.d_q10 ["thing","least","most"] []
  k_q10 : PySem.W.keepIn K (.ref A.f_q10) = true
  m_q10 : mg "is_between" = some (.ref A.f_q10)
  F_q0 : Fun K "has_two_lists" "has_two_lists" s_q0 A.f_q0 A.d_q0
  b_q0 : Binds K A.d_q0 ["thing"] []
  k_q0 : PySem.W.keepIn K (.ref A.f_q0) = true
  m_q0 : mg "has_two_lists" = some (.ref A.f_q0)
  F_q4 : Fun K "look_at_tree" "look_at_tree" s_q4 A.f_q4 A.d_q4
  b_q4 : Binds K A.d_q4 ["thing"] []
  k_q4 : PySem.W.keepIn K (.ref A.f_q4) = true
  m_q4 : mg "look_at_tree" = some (.ref A.f_q4)
  F_q17 : Fun K "is_place" "is_place" s_q17 A.f_q17 A.d_q17
  b_q17 : Binds K A.d_q17 ["tree","thing"] []
  k_q17 : PySem.W.keepIn K (.ref A.f_q17) = true
  m_q17 : mg "is_place" = some (.ref A.f_q17)
  F_q31 : Fun K "is_tie" "is_tie" s_q31 A.f_q31 A.d_q31
  b_q31 : Binds K A.d_q31 ["tree","thing"] []
  k_q31 : PySem.W.keepIn K (.ref A.f_q31) = true
  m_q31 : mg "is_tie" = some (.ref A.f_q31)
  F_q16 : Fun K "are_ends" "are_ends" s_q16 A.f_q16 A.d_q16
  b_q16 : Binds K A.d_q16 ["tree","one","other"] []
  k_q16 : PySem.W.keepIn K (.ref A.f_q16) = true
  m_q16 : mg "are_ends" = some (.ref A.f_q16)
  F_q30 : Fun K "is_ask" "is_ask" s_q30 A.f_q30 A.d_q30
  b_q30 : Binds K A.d_q30 ["tree","thing"] []
  k_q30 : PySem.W.keepIn K (.ref A.f_q30) = true
  m_q30 : mg "is_ask" = some (.ref A.f_q30)
  F_q2 : Fun K "look_at_asks" "look_at_asks" s_q2 A.f_q2 A.d_q2
  b_q2 : Binds K A.d_q2 ["tree","thing"] []
  k_q2 : PySem.W.keepIn K (.ref A.f_q2) = true
  m_q2 : mg "look_at_asks" = some (.ref A.f_q2)
  F_q3 : Fun K "look_at_ends" "look_at_ends" s_q3 A.f_q3 A.d_q3
  b_q3 : Binds K A.d_q3 ["tree","one","other"] []
  k_q3 : PySem.W.keepIn K (.ref A.f_q3) = true
  m_q3 : mg "look_at_ends" = some (.ref A.f_q3)
  F_q38 : Fun K "climb" "climb" s_q38 A.f_q38 A.d_q38
  b_q38 : Binds K A.d_q38 ["tree","one","other"] []
  k_q38 : PySem.W.keepIn K (.ref A.f_q38) = true
  m_q38 : mg "climb" = some (.ref A.f_q38)
  F_q7 : Fun K "way_between" "way_between" s_q7 A.f_q7 A.d_q7
  b_q7 : Binds K A.d_q7 ["tree","one","other"] []
  k_q7 : PySem.W.keepIn K (.ref A.f_q7) = true
  m_q7 : mg "way_between" = some (.ref A.f_q7)
  F_q37 : Fun K "way_of" "way_of" s_q37 A.f_q37 A.d_q37
  b_q37 : Binds K A.d_q37 ["tree","ask"] []
  k_q37 : PySem.W.keepIn K (.ref A.f_q37) = true
  m_q37 : mg "way_of" = some (.ref A.f_q37)
  F_q9 : Fun K "is_beneath" "is_beneath" s_q9 A.f_q9 A.d_q9
  b_q9 : Binds K A.d_q9 ["tree","one","other"] []
  k_q9 : PySem.W.keepIn K (.ref A.f_q9) = true
  m_q9 : mg "is_beneath" = some (.ref A.f_q9)
  F_q12 : Fun K "are_apart" "are_apart" s_q12 A.f_q12 A.d_q12
  b_q12 : Binds K A.d_q12 ["tree","one","other"] []
  k_q12 : PySem.W.keepIn K (.ref A.f_q12) = true
  m_q12 : mg "are_apart" = some (.ref A.f_q12)
  F_q23 : Fun K "is_link" "is_link" s_q23 A.f_q23 A.d_q23
  b_q23 : Binds K A.d_q23 ["tree","asks","thing"] []
  k_q23 : PySem.W.keepIn K (.ref A.f_q23) = true
  m_q23 : mg "is_link" = some (.ref A.f_q23)
  F_q8 : Fun K "are_joined" "are_joined" s_q8 A.f_q8 A.d_q8
  b_q8 : Binds K A.d_q8 ["tree","asks","one","other","number"] []
  k_q8 : PySem.W.keepIn K (.ref A.f_q8) = true
  m_q8 : mg "are_joined" = some (.ref A.f_q8)
  F_q24 : Fun K "is_ring" "is_ring" s_q24 A.f_q24 A.d_q24
  b_q24 : Binds K A.d_q24 ["tree","asks","thing"] []
  k_q24 : PySem.W.keepIn K (.ref A.f_q24) = true
  m_q24 : mg "is_ring" = some (.ref A.f_q24)
  F_q21 : Fun K "links_of" "links_of" s_q21 A.f_q21 A.d_q21
  b_q21 : Binds K A.d_q21 ["tree","asks"] []
  k_q21 : PySem.W.keepIn K (.ref A.f_q21) = true
  m_q21 : mg "links_of" = some (.ref A.f_q21)
  F_q11 : Fun K "reach_from" "reach_from" s_q11 A.f_q11 A.d_q11
  b_q11 : Binds K A.d_q11 ["first","links","came"] []
  k_q11 : PySem.W.keepIn K (.ref A.f_q11) = true
  m_q11 : mg "reach_from" = some (.ref A.f_q11)
  F_q14 : Fun K "path_back" "path_back" s_q14 A.f_q14 A.d_q14
  b_q14 : Binds K A.d_q14 ["came","tie"] []
  k_q14 : PySem.W.keepIn K (.ref A.f_q14) = true
  m_q14 : mg "path_back" = some (.ref A.f_q14)
  F_q27 : Fun K "text_of" "text_of" s_q27 A.f_q27 A.d_q27
  b_q27 : Binds K A.d_q27 ["tree","came","tie"] []
  k_q27 : PySem.W.keepIn K (.ref A.f_q27) = true
  m_q27 : mg "text_of" = some (.ref A.f_q27)
  F_q5 : Fun K "ring_through" "ring_through" s_q5 A.f_q5 A.d_q5
  b_q5 : Binds K A.d_q5 ["came","one","other","closing"] []
  k_q5 : PySem.W.keepIn K (.ref A.f_q5) = true
  m_q5 : mg "ring_through" = some (.ref A.f_q5)
  F_q6 : Fun K "first_clash" "first_clash" s_q6 A.f_q6 A.d_q6
  b_q6 : Binds K A.d_q6 ["tree","links","texts"] []
  k_q6 : PySem.W.keepIn K (.ref A.f_q6) = true
  m_q6 : mg "first_clash" = some (.ref A.f_q6)
  F_q26 : Fun K "pointed" "pointed" s_q26 A.f_q26 A.d_q26
  b_q26 : Binds K A.d_q26 ["tree","asks"] []
  k_q26 : PySem.W.keepIn K (.ref A.f_q26) = true
  m_q26 : mg "pointed" = some (.ref A.f_q26)
  F_q32 : Fun K "_law_cell" "_law_cell" s_q32 A.f_q32 A.d_q32
  b_q32 : Binds K A.d_q32 ["_law_script","_law_k"] []
  k_q32 : PySem.W.keepIn K (.ref A.f_q32) = true
  m_q32 : mg "_law_cell" = some (.ref A.f_q32)
  F_q20 : Fun K "_law_source" "_law_source" s_q20 A.f_q20 A.d_q20
  b_q20 : Binds K A.d_q20 ["_law_cell_here","_law_k"] []
  k_q20 : PySem.W.keepIn K (.ref A.f_q20) = true
  m_q20 : mg "_law_source" = some (.ref A.f_q20)
  F_q33 : Fun K "_law_draw" "_law_draw" s_q33 A.f_q33 A.d_q33
  b_q33 : Binds K A.d_q33 ["_law_source_here","_law_many"] []
  k_q33 : PySem.W.keepIn K (.ref A.f_q33) = true
  m_q33 : mg "_law_draw" = some (.ref A.f_q33)
  F_q25 : Fun K "_law_sides" "_law_sides" s_q25 A.f_q25 A.d_q25
  b_q25 : Binds K A.d_q25 ["_law_parents","_law_one","_law_other"] []
  k_q25 : PySem.W.keepIn K (.ref A.f_q25) = true
  m_q25 : mg "_law_sides" = some (.ref A.f_q25)
  F_q35 : Fun K "_law_runs" "_law_runs" s_q35 A.f_q35 A.d_q35
  b_q35 : Binds K A.d_q35 ["_law_parents","_law_ask","_law_thing"] []
  k_q35 : PySem.W.keepIn K (.ref A.f_q35) = true
  m_q35 : mg "_law_runs" = some (.ref A.f_q35)
  F_q1 : Fun K "_law_is_pointing" "_law_is_pointing" s_q1 A.f_q1 A.d_q1
  b_q1 : Binds K A.d_q1 ["_law_tree","_law_asks","_law_thing"] []
  k_q1 : PySem.W.keepIn K (.ref A.f_q1) = true
  m_q1 : mg "_law_is_pointing" = some (.ref A.f_q1)
  F_q34 : Fun K "_law_line" "_law_line" s_q34 A.f_q34 A.d_q34
  b_q34 : Binds K A.d_q34 ["_law_source_here"] []
  k_q34 : PySem.W.keepIn K (.ref A.f_q34) = true
  m_q34 : mg "_law_line" = some (.ref A.f_q34)
  F_q19 : Fun K "_law_halves" "_law_halves" s_q19 A.f_q19 A.d_q19
  b_q19 : Binds K A.d_q19 ["_law_many","_law_asks"] []
  k_q19 : PySem.W.keepIn K (.ref A.f_q19) = true
  m_q19 : mg "_law_halves" = some (.ref A.f_q19)
  F_q36 : Fun K "_law_told" "_law_told" s_q36 A.f_q36 A.d_q36
  b_q36 : Binds K A.d_q36 ["_law_tree","_law_asks","_law_can"] []
  k_q36 : PySem.W.keepIn K (.ref A.f_q36) = true
  m_q36 : mg "_law_told" = some (.ref A.f_q36)
  F_law : Fun K "law" "law" s_law A.f_law A.d_law
  b_law : Binds K A.d_law ["_law_script"] []
  k_law : PySem.W.keepIn K (.ref A.f_law) = true
  m_law : mg "law" = some (.ref A.f_law)
  z_abs : mg "abs" = none
  z_all : mg "all" = none
  z_bool : mg "bool" = none
  z_enumerate : mg "enumerate" = none
  z_int : mg "int" = none
  z_isinstance : mg "isinstance" = none
  z_len : mg "len" = none
  z_list : mg "list" = none
  z_max : mg "max" = none
  z_min : mg "min" = none
  z_range : mg "range" = none
  z_reversed : mg "reversed" = none
  z_sorted : mg "sorted" = none
  z_tuple : mg "tuple" = none
  z_zip : mg "zip" = none
  c_MOST_TIES : ∃ t,mg "MOST_TIES" = some (.int 23 t)
  c_MOST_ROOM : ∃ t,mg "MOST_ROOM" = some (.int 1000000 t)
  c_MOST_ASKS : ∃ t,mg "MOST_ASKS" = some (.int 30 t)
  c_MOST_SIZE : ∃ t,mg "MOST_SIZE" = some (.int 1000000 t)
  c_MOST_WORTH : ∃ t,mg "MOST_WORTH" = some (.int 1000000000000 t)
  c_LEAST_RING : ∃ t,mg "LEAST_RING" = some (.int 3 t)
  c_MOST_RING : ∃ t,mg "MOST_RING" = some (.int 61 t)
theorem sc_q18 : FnScope ["thing"] ["thing"] (defScope s_q18) := ⟨rfl,rfl,rfl,by decide +kernel,rfl,by decide +kernel,by decide +kernel⟩
theorem sc_q10 : FnScope ["thing","least","most"] ["thing","least","most"] (defScope s_q10) := ⟨rfl,rfl,rfl,by decide +kernel,rfl,by decide +kernel,by decide +kernel⟩
theorem sc_q0 : FnScope ["thing","parents","rooms"] ["thing"] (defScope s_q0) := ⟨rfl,rfl,rfl,by decide +kernel,rfl,by decide +kernel,by decide +kernel⟩
theorem sc_q4 : FnScope ["thing","parents","rooms","number","parent","room"] ["thing"] (defScope s_q4) := ⟨rfl,rfl,rfl,by decide +kernel,rfl,by decide +kernel,by decide +kernel⟩
theorem sc_q17 : FnScope ["tree","thing"] ["tree","thing"] (defScope s_q17) := ⟨rfl,rfl,rfl,by decide +kernel,rfl,by decide +kernel,by decide +kernel⟩
theorem sc_q31 : FnScope ["tree","thing"] ["tree","thing"] (defScope s_q31) := ⟨rfl,rfl,rfl,by decide +kernel,rfl,by decide +kernel,by decide +kernel⟩
theorem sc_q16 : FnScope ["tree","one","other"] ["tree","one","other"] (defScope s_q16) := ⟨rfl,rfl,rfl,by decide +kernel,rfl,by decide +kernel,by decide +kernel⟩
theorem sc_q30 : FnScope ["tree","thing","one","other","size","worth"] ["tree","thing"] (defScope s_q30) := ⟨rfl,rfl,rfl,by decide +kernel,rfl,by decide +kernel,by decide +kernel⟩
theorem sc_q2 : FnScope ["tree","thing","number","ask"] ["tree","thing"] (defScope s_q2) := ⟨rfl,rfl,rfl,by decide +kernel,rfl,by decide +kernel,by decide +kernel⟩
theorem sc_q3 : FnScope ["tree","one","other"] ["tree","one","other"] (defScope s_q3) := ⟨rfl,rfl,rfl,by decide +kernel,rfl,by decide +kernel,by decide +kernel⟩
theorem sc_q38 : FnScope ["tree","one","other","way","low"] ["tree","one","other"] (defScope s_q38) := ⟨rfl,rfl,rfl,by decide +kernel,rfl,by decide +kernel,by decide +kernel⟩
theorem sc_q7 : FnScope ["tree","one","other","way","meeting"] ["tree","one","other"] (defScope s_q7) := ⟨rfl,rfl,rfl,by decide +kernel,rfl,by decide +kernel,by decide +kernel⟩
theorem sc_q37 : FnScope ["tree","ask"] ["tree","ask"] (defScope s_q37) := ⟨rfl,rfl,rfl,by decide +kernel,rfl,by decide +kernel,by decide +kernel⟩
theorem sc_q9 : FnScope ["tree","one","other","place"] ["tree","one","other"] (defScope s_q9) := ⟨rfl,rfl,rfl,by decide +kernel,rfl,by decide +kernel,by decide +kernel⟩
theorem sc_q12 : FnScope ["tree","one","other"] ["tree","one","other"] (defScope s_q12) := ⟨rfl,rfl,rfl,by decide +kernel,rfl,by decide +kernel,by decide +kernel⟩
theorem sc_q23 : FnScope ["tree","asks","thing"] ["tree","asks","thing"] (defScope s_q23) := ⟨rfl,rfl,rfl,by decide +kernel,rfl,by decide +kernel,by decide +kernel⟩
theorem sc_q8 : FnScope ["tree","asks","one","other","number","way"] ["tree","asks","one","other","number"] (defScope s_q8) := ⟨rfl,rfl,rfl,by decide +kernel,rfl,by decide +kernel,by decide +kernel⟩
theorem sc_q24 : FnScope ["tree","asks","thing","turns","link","following"] ["tree","asks","thing"] (defScope s_q24) := ⟨rfl,rfl,rfl,by decide +kernel,rfl,by decide +kernel,by decide +kernel⟩
theorem sc_q21 : FnScope ["tree","asks","found","number","ask","way","one","other"] ["tree","asks"] (defScope s_q21) := ⟨rfl,rfl,rfl,by decide +kernel,rfl,by decide +kernel,by decide +kernel⟩
theorem sc_q11 : FnScope ["first","links","came","waiting","tie","other","number"] ["first","links","came"] (defScope s_q11) := ⟨rfl,rfl,rfl,by decide +kernel,rfl,by decide +kernel,by decide +kernel⟩
theorem sc_q14 : FnScope ["came","tie","path","ahead","number"] ["came","tie"] (defScope s_q14) := ⟨rfl,rfl,rfl,by decide +kernel,rfl,by decide +kernel,by decide +kernel⟩
theorem sc_q27 : FnScope ["tree","came","tie","turns"] ["tree","came","tie"] (defScope s_q27) := ⟨rfl,rfl,rfl,by decide +kernel,rfl,by decide +kernel,by decide +kernel⟩
theorem sc_q5 : FnScope ["came","one","other","closing","there","back"] ["came","one","other","closing"] (defScope s_q5) := ⟨rfl,rfl,rfl,by decide +kernel,rfl,by decide +kernel,by decide +kernel⟩
theorem sc_q6 : FnScope ["tree","links","texts","place","beside","other","number"] ["tree","links","texts"] (defScope s_q6) := ⟨rfl,rfl,rfl,by decide +kernel,rfl,by decide +kernel,by decide +kernel⟩
theorem sc_q26 : FnScope ["tree","asks","links","ties","came","tie","texts","clash","one","other","number"] ["tree","asks"] (defScope s_q26) := ⟨rfl,rfl,rfl,by decide +kernel,rfl,by decide +kernel,by decide +kernel⟩
theorem sc_q32 : FnScope ["_law_script","_law_k"] ["_law_script","_law_k"] (defScope s_q32) := ⟨rfl,rfl,rfl,by decide +kernel,rfl,by decide +kernel,by decide +kernel⟩
theorem sc_q20 : FnScope ["_law_cell_here","_law_k","_law_number","_law_seed"] ["_law_cell_here","_law_k"] (defScope s_q20) := ⟨rfl,rfl,rfl,by decide +kernel,rfl,by decide +kernel,by decide +kernel⟩
theorem sc_q33 : FnScope ["_law_source_here","_law_many","_law_digit","_law_found"] ["_law_source_here","_law_many"] (defScope s_q33) := ⟨rfl,rfl,rfl,by decide +kernel,rfl,by decide +kernel,by decide +kernel⟩
theorem sc_q25 : FnScope ["_law_parents","_law_one","_law_other","_law_up","_law_down"] ["_law_parents","_law_one","_law_other"] (defScope s_q25) := ⟨rfl,rfl,rfl,by decide +kernel,rfl,by decide +kernel,by decide +kernel⟩
theorem sc_q35 : FnScope ["_law_parents","_law_ask","_law_thing","_law_up","_law_down","_law_along"] ["_law_parents","_law_ask","_law_thing"] (defScope s_q35) := ⟨rfl,rfl,rfl,by decide +kernel,rfl,by decide +kernel,by decide +kernel⟩
theorem sc_q1 : FnScope ["_law_tree","_law_asks","_law_thing"] ["_law_tree","_law_asks","_law_thing"] (defScope s_q1) := ⟨rfl,rfl,rfl,by decide +kernel,rfl,by decide +kernel,by decide +kernel⟩
theorem sc_q34 : FnScope ["_law_source_here","_law_many","_law_ends","_law_parents","_law_k","_law_arm"] ["_law_source_here"] (defScope s_q34) := ⟨rfl,rfl,rfl,by decide +kernel,rfl,by decide +kernel,by decide +kernel⟩
theorem sc_q19 : FnScope ["_law_many","_law_asks","_law_halves_here","_law_begin","_law_more","_law_one","_law_other","_law_size","_law_worth","_law_here","_law_there"] ["_law_many","_law_asks"] (defScope s_q19) := ⟨rfl,rfl,rfl,by decide +kernel,rfl,by decide +kernel,by decide +kernel⟩
theorem sc_q36 : FnScope ["_law_tree","_law_asks","_law_can","_law_found"] ["_law_tree","_law_asks","_law_can"] (defScope s_q36) := ⟨rfl,rfl,rfl,by decide +kernel,rfl,by decide +kernel,by decide +kernel⟩
theorem sc_law : FnScope ["_law_script","_law_line_here","_law_many","_law_star","_law_asks","_law_k","_law_source_here","_law_one","_law_other"] ["_law_script"] (defScope s_law) := ⟨rfl,rfl,rfl,by decide +kernel,rfl,by decide +kernel,by decide +kernel⟩
section
variable {P : Program} {w : World} {K : PySem.W.Frag} {mg : Str → Option Value} {base : Heap} {A : Adr}
theorem ok_q18 (T : Txt K mg A) : FnOk P w K mg base CX0 1 A.f_q18 A.d_q18 ["thing"] (spOf [false] false (sdWhole)) := by
  have S := sc_q18
  refine fnD T.F_q18 S ⟨[false],[false],false⟩ _ ?hl rfl rfl fun cdv Ar outer s H E hr => ⟨_,(qss_one (qs_ret (qe_and (qe_isT rfl T.z_isinstance bt_isinstance (qe_var 0) (pe_bltn (v := .ty "int") rfl T.z_int bt_int rfl)) (qe_one (qe_not (qe_isT rfl T.z_isinstance bt_isinstance (qe_var 0) (pe_bltn (v := .ty "bool") rfl T.z_bool bt_bool rfl))))))),fun ds q h => ?_⟩
  case hl => intro ds q h; obtain ⟨d,rfl,_⟩ := h; rfl
  obtain ⟨d,rfl,hs,q0⟩ := h
  cases d <;> first | exact q0 | cases hs
theorem ok_q10 (T : Txt K mg A) : FnOk P w K mg base CX0 2 A.f_q10 A.d_q10 ["thing","least","most"] (spOf [false,false,false] false (sdBetween)) := by
  have G_q18 := ok_q18 (P := P) (w := w) (base := base) T
  have S := sc_q10
  refine fnD T.F_q10 S ⟨[false,false,false],[false,false,false],false⟩ _ ?hl rfl rfl fun cdv Ar outer s H E hr => ⟨_,(qss_one (qs_ret (qe_and (qe_call (G_q18) (hr.mono (by decide)) rfl T.m_q18 T.k_q18 T.b_q18 (qk_s (qe_var 0) qk_nil)) (qe_one (qe_chain op_le op_le dB dB (qe_var 1) (qe_var 0) (qe_var 2)))))),fun ds q h => ?_⟩
  case hl => intro ds q h; obtain ⟨d,lo,hi,rfl,_⟩ := h; rfl
  obtain ⟨d,lo,hi,rfl,hs,q0⟩ := h
  refine ⟨d,rfl,hs,?_⟩
  cases d
  case int i =>
    refine (ite2 (c := decide (lo ≤ i) = true) (fun c => ?_) (fun c => ?_))
    · have : btw lo hi (.int i) = decide (i ≤ hi) := by show (decide (lo ≤ i) && decide (i ≤ hi)) = _; rw [c,Bool.true_and]
      rw [this] at q0; exact q0
    · have : btw lo hi (.int i) = false := by show (decide (lo ≤ i) && decide (i ≤ hi)) = _; rw [Bool.eq_false_iff.mpr c,Bool.false_and]
      rw [this] at q0; exact q0
  all_goals first | exact q0 | cases hs
theorem ok_q0 (T : Txt K mg A) : FnOk P w K mg base CX0 1 A.f_q0 A.d_q0 ["thing"] (spOf [false] false (sdTwoP)) := by
  have S := sc_q0
  refine fnD T.F_q0 S ⟨[false],[false,false,false],false⟩ _ ?hl rfl rfl fun cdv Ar outer s H E hr => ⟨_,(qss_cons (qs_if (QW.qt (qw_or (qt_not (qt_val (qe_isT rfl T.z_isinstance bt_isinstance (qe_var 0) (pe_bltn (v := .ty "tuple") rfl T.z_tuple bt_tuple rfl)))) (qw_or1 (qt_cmp (op_neD hr.units) dNe (qe_callB call_len_seq dLen rfl T.z_len bt_len (qa_cons (qe_var 0) qa_nil)) qe_int (nomark _))))) (qss_one (qs_ret qe_bl)) qss_nil)
      (qss_cons (qs_asg (qe_var 0) (qg_tup rfl (qgs_cons (qg_name (i := 1) S.nd rfl (Or.inl rfl)) (qgs_cons (qg_name (i := 2) S.nd rfl (Or.inl rfl)) qgs_nil)) (takes_cons1 (takes_cons1 takes_nil))))
      (qss_cons (qs_if (QW.qt (qw_or (qt_not (qt_val (qe_isT rfl T.z_isinstance bt_isinstance (qe_var 1) (pe_bltn (v := .ty "list") rfl T.z_list bt_list rfl)))) (qw_or1 (qt_not (qt_val (qe_isT rfl T.z_isinstance bt_isinstance (qe_var 2) (pe_bltn (v := .ty "list") rfl T.z_list bt_list rfl))))))) (qss_one (qs_ret qe_bl)) qss_nil)
      (qss_one (qs_ret (qe_and (qe_cmp (op_eqD hr.units) dEq (qe_callB call_len_seq dLen rfl T.z_len bt_len (qa_cons (qe_var 1) qa_nil)) (qe_callB call_len_seq dLen rfl T.z_len bt_len (qa_cons (qe_var 2) qa_nil)) (nomark _)) (qe_one (qe_chain op_le op_le dB dB qe_int (qe_callB call_len_seq dLen rfl T.z_len bt_len (qa_cons (qe_var 1) qa_nil)) (qe_globI (i := 23) rfl T.c_MOST_TIES))))))))),fun ds q h => ?_⟩
  case hl => intro ds q h; obtain ⟨ps,rs,rfl,_⟩ := h; rfl
  obtain ⟨ps,rs,rfl,hT,q0⟩ := h
  have l1 : ((ps.map D.int).length : Int) = ps.length := by rw [List.length_map]
  have l2 : ((rs.map D.int).length : Int) = rs.length := by rw [List.length_map]
  have h1 := hT.len
  have h2 := hT.lo
  have h3 := hT.hi
  refine (ite2 (c := decide (((ps.map D.int).length : Int) = ((rs.map D.int).length : Int)) = true) (fun c => ?_) (fun c => ?_))
  · refine (ite2 (c := decide ((1 : Int) ≤ ((ps.map D.int).length : Int)) = true) (fun c => ?_) (fun c => ?_))
    · show q (.bl (decide (((ps.map D.int).length : Int) ≤ 23))) []
      rw [decide_eq_true (by omega)]; exact q0
    · exact absurd (decide_eq_true (by omega)) c
  · exact absurd (decide_eq_true (by omega)) c
theorem ok_q4 (T : Txt K mg A) : FnOk P w K mg base CX0 3 A.f_q4 A.d_q4 ["thing"] (spOf [false] false (sdLook)) := by
  have G_q0 := ok_q0 (P := P) (w := w) (base := base) T
  have G_q10 := ok_q10 (P := P) (w := w) (base := base) T
  have S := sc_q4
  refine fnD T.F_q4 S ⟨[false],[false,false,false,false,false,false],false⟩ _ ?hl rfl rfl fun cdv Ar outer s H E hr => ⟨_,(qss_cons (qs_if (qt_not (qt_val (qe_call (G_q0) (hr.mono (by decide)) rfl T.m_q0 T.k_q0 T.b_q0 (qk_s (qe_var 0) qk_nil)))) (qss_one qs_never) qss_nil)
      (qss_cons (qs_asg (qe_var 0) (qg_tup rfl (qgs_cons (qg_name (i := 1) S.nd rfl (Or.inl rfl)) (qgs_cons (qg_name (i := 2) S.nd rfl (Or.inl rfl)) qgs_nil)) (takes_cons1 (takes_cons1 takes_nil))))
      (qss_cons (qs_for PassesOwn.never rfl (qi_enum rfl T.z_enumerate (qa_cons (qe_var 1) qa_nil)) (qg_tup rfl (qgs_cons (qg_name (i := 3) S.nd rfl (Or.inl rfl)) (qgs_cons (qg_name (i := 4) S.nd rfl (Or.inl rfl)) qgs_nil)) (takes_cons1 (takes_cons1 takes_nil))) (qss_one (qs_if (qt_not (qt_val (qe_call (G_q10) (hr.mono (by decide)) rfl T.m_q10 T.k_q10 T.b_q10 (qk_s (qe_var 4) (qk_s qe_int (qk_s (qe_var 3) qk_nil)))))) (qss_one qs_never) qss_nil)))
      (qss_one (qs_for PassesOwn.never rfl (qi_enum rfl T.z_enumerate (qa_cons (qe_var 2) qa_nil)) (qg_tup rfl (qgs_cons (qg_name (i := 3) S.nd rfl (Or.inl rfl)) (qgs_cons (qg_name (i := 5) S.nd rfl (Or.inl rfl)) qgs_nil)) (takes_cons1 (takes_cons1 takes_nil))) (qss_one (qs_if (qt_not (qt_val (qe_call (G_q10) (hr.mono (by decide)) rfl T.m_q10 T.k_q10 T.b_q10 (qk_s (qe_var 5) (qk_s qe_int (qk_s (qe_globI (i := 1000000) rfl T.c_MOST_ROOM) qk_nil)))))) (qss_one qs_never) qss_nil))))))),fun ds q h => ?_⟩
  case hl => intro ds q h; obtain ⟨ps,rs,rfl,_⟩ := h; rfl
  obtain ⟨ps,rs,rfl,hT,q0⟩ := h
  refine ⟨ps,rs,rfl,hT,?_⟩
  refine ⟨fun _ ρ => ∃ v1 v2 v3,ρ = [some (dPair ps rs),some (dInts ps),some (dInts rs),v1,v2,v3],⟨_,_,_,rfl⟩,?_,?_⟩
  · rintro i d ρ hd ⟨v1,v2,v3,rfl⟩
    obtain ⟨d',h1,rfl⟩ := enuD_at hd
    obtain ⟨z,hz,rfl⟩ := map_at h1
    have hb := hT.par i z hz
    refine ⟨.int z,0,(i : Int),rfl,rfl,?_⟩
    rw [btw_int hb.1 hb.2]
    exact ⟨_,_,_,rfl⟩
  · rintro ρ ⟨v1,v2,v3,rfl⟩
    refine ⟨fun _ ρ => ∃ v1 v2 v3,ρ = [some (dPair ps rs),some (dInts ps),some (dInts rs),v1,v2,v3],⟨_,_,_,rfl⟩,?_,?_⟩
    · rintro i d ρ hd ⟨v1,v2,v3,rfl⟩
      obtain ⟨d',h1,rfl⟩ := enuD_at hd
      obtain ⟨z,hz,rfl⟩ := map_at h1
      have hb := hT.room i z hz
      refine ⟨.int z,1,1000000,rfl,rfl,?_⟩
      rw [btw_int hb.1 hb.2]
      exact ⟨_,_,_,rfl⟩
    · rintro ρ ⟨v1,v2,v3,rfl⟩
      exact q0
theorem ok_q17 (T : Txt K mg A) : FnOk P w K mg base CX0 3 A.f_q17 A.d_q17 ["tree","thing"] (spOf [false,false] false (sdPlace)) := by
  have G_q10 := ok_q10 (P := P) (w := w) (base := base) T
  have S := sc_q17
  refine fnD T.F_q17 S ⟨[false,false],[false,false],false⟩ _ ?hl rfl rfl fun cdv Ar outer s H E hr => ⟨_,(qss_one (qs_ret (qe_call (G_q10) (hr.mono (by decide)) rfl T.m_q10 T.k_q10 T.b_q10 (qk_s (qe_var 1) (qk_s qe_int (qk_s (qe_callB call_len_seq dLen rfl T.z_len bt_len (qa_cons (qe_ix ix_seq dIx (qe_var 0) qe_int (fun _ _ => rfl)) qa_nil)) qk_nil)))))),fun ds q h => ?_⟩
  case hl => intro ds q h; obtain ⟨ps,rs,d,rfl,_⟩ := h; rfl
  obtain ⟨ps,rs,d,rfl,hs,q0⟩ := h
  refine ⟨d,0,((ps.map D.int).length : Int),rfl,hs,?_⟩
  rw [List.length_map]; exact q0
theorem ok_q16 (T : Txt K mg A) : FnOk P w K mg base CX0 4 A.f_q16 A.d_q16 ["tree","one","other"] (spOf [false,false,false] false (sdEnds)) := by
  have G_q17 := ok_q17 (P := P) (w := w) (base := base) T
  have S := sc_q16
  refine fnD T.F_q16 S ⟨[false,false,false],[false,false,false],false⟩ _ ?hl rfl rfl fun cdv Ar outer s H E hr => ⟨_,(qss_one (qs_ret (qe_and (qe_call (G_q17) (hr.mono (by decide)) rfl T.m_q17 T.k_q17 T.b_q17 (qk_s (qe_var 0) (qk_s (qe_var 1) qk_nil))) (qe_and (qe_call (G_q17) (hr.mono (by decide)) rfl T.m_q17 T.k_q17 T.b_q17 (qk_s (qe_var 0) (qk_s (qe_var 2) qk_nil))) (qe_one (qe_cmp (op_neD hr.units) dNe (qe_var 1) (qe_var 2) (nomark _))))))),fun ds q h => ?_⟩
  case hl => intro ds q h; obtain ⟨ps,rs,a,b,rfl,_⟩ := h; rfl
  obtain ⟨ps,rs,a,b,rfl,he,q0⟩ := h
  refine ⟨ps,rs,.int a,rfl,rfl,?_⟩
  rw [btw_int he.a0 he.a1]
  refine ⟨ps,rs,.int b,rfl,rfl,?_⟩
  rw [btw_int he.b0 he.b1]
  have : (!decide (a = b)) = true := by simp [he.ne]
  show q (.bl (!decide (a = b))) []
  rw [this]; exact q0
theorem ok_q31 (T : Txt K mg A) : FnOk P w K mg base CX0 3 A.f_q31 A.d_q31 ["tree","thing"] (spOf [false,false] false (sdTie)) := by
  have G_q10 := ok_q10 (P := P) (w := w) (base := base) T
  have S := sc_q31
  refine fnD T.F_q31 S ⟨[false,false],[false,false],false⟩ _ ?hl rfl rfl fun cdv Ar outer s H E hr => ⟨_,(qss_one (qs_ret (qe_call (G_q10) (hr.mono (by decide)) rfl T.m_q10 T.k_q10 T.b_q10 (qk_s (qe_var 1) (qk_s qe_int (qk_s (qe_callB call_len_seq dLen rfl T.z_len bt_len (qa_cons (qe_ix ix_seq dIx (qe_var 0) qe_int (fun _ _ => rfl)) qa_nil)) qk_nil)))))),fun ds q h => ?_⟩
  case hl => intro ds q h; obtain ⟨ps,rs,d,rfl,_⟩ := h; rfl
  obtain ⟨ps,rs,d,rfl,hs,q0⟩ := h
  refine ⟨d,1,((ps.map D.int).length : Int),rfl,hs,?_⟩
  rw [List.length_map]; exact q0
theorem ok_q9 (T : Txt K mg A) : FnOk P w K mg base CX0 4 A.f_q9 A.d_q9 ["tree","one","other"] (spOf [false,false,false] false (sdBeneath)) := by
  have G_q31 := ok_q31 (P := P) (w := w) (base := base) T
  have G_q4 := ok_q4 (P := P) (w := w) (base := base) T
  have S := sc_q9
  refine fnD T.F_q9 S ⟨[false,false,false],[false,false,false,false],false⟩ _ ?hl rfl rfl fun cdv Ar outer s H E hr => ⟨_,(qss_cons (qs_expr (qe_call (G_q4) (hr.mono (by decide)) rfl T.m_q4 T.k_q4 T.b_q4 (qk_s (qe_var 0) qk_nil)))
      (qss_cons (qs_if (QW.qt (qw_or (qt_not (qt_val (qe_call (G_q31) (hr.mono (by decide)) rfl T.m_q31 T.k_q31 T.b_q31 (qk_s (qe_var 0) (qk_s (qe_var 1) qk_nil))))) (qw_or1 (qt_not (qt_val (qe_call (G_q31) (hr.mono (by decide)) rfl T.m_q31 T.k_q31 T.b_q31 (qk_s (qe_var 0) (qk_s (qe_var 2) qk_nil)))))))) (qss_one qs_never) qss_nil)
      (qss_cons (qs_set (i := 3) S.nd rfl (Or.inl rfl) (qe_ix ix_seq dIx (qe_ix ix_seq dIx (qe_var 0) qe_int (fun _ _ => rfl)) (qe_op op_sub dI (qe_var 1) qe_int) (fun _ _ => rfl)))
      (qss_cons (qs_while PassesOwn.never (qt_cmp op_gt dB (qe_var 3) (qe_var 2) (nomark _)) (qss_one (qs_set (i := 3) S.nd rfl (Or.inl rfl) (qe_ix ix_seq dIx (qe_ix ix_seq dIx (qe_var 0) qe_int (fun _ _ => rfl)) (qe_op op_sub dI (qe_var 3) qe_int) (fun _ _ => rfl)))))
      (qss_one (qs_ret (qe_cmp (op_eqD hr.units) dEq (qe_var 3) (qe_var 2) (nomark _)))))))),fun ds q h => ?_⟩
  case hl => intro ds q h; obtain ⟨ps,rs,a,b,rfl,_⟩ := h; rfl
  obtain ⟨ps,rs,a,b,rfl,hT,a0,a1,b0,b1,q0⟩ := h
  refine ⟨ps,rs,rfl,hT,?_⟩
  refine ⟨ps,rs,.int a,rfl,rfl,?_⟩
  rw [btw_int a0 a1]
  refine ⟨ps,rs,.int b,rfl,rfl,?_⟩
  rw [btw_int b0 b1]
  refine atD_of (atI_ints (by omega) (by omega)) ?_
  have hp := hT.up (show 0 < a by omega) a1
  obtain ⟨u,hu⟩ := Up.all hT _ (parZ ps a) rfl hp.1 (by omega)
  refine ⟨fun j ρ => ∃ k : Int,ρ = [some (dPair ps rs),some (.int a),some (.int b),some (.int k)] ∧ 0 ≤ k ∧ k ≤ ps.length ∧ j = k.toNat ∧ ∀ u',Up ps k u' → u.contains b = u'.contains b,⟨_,parZ ps a,rfl,hp.1,by omega,rfl,fun u' h => by rw [hu.det h]⟩,?_⟩
  rintro j ρ ⟨k,rfl,k0,k1,rfl,hk⟩
  refine (ite2 (c := decide (b < k) = true) (fun c => ?_) (fun c => ?_))
  · have hlt : b < k := by simpa using c
    have hp' := hT.up (show 0 < k by omega) k1
    refine atD_of (atI_ints (by omega) (by omega)) ?_
    refine ⟨(parZ ps k).toNat,by omega,parZ ps k,rfl,hp'.1,by omega,rfl,fun u' h => ?_⟩
    rw [hk _ (.step (by omega) h),List.contains_cons,show (b == k) = false by simp; omega,Bool.false_or]
  · have hle : k ≤ b := by simp at c; omega
    obtain ⟨u',hu'⟩ := Up.all hT _ k rfl k0 k1
    have e := hk u' hu'
    have : u'.contains b = decide (k = b) := by
      by_cases hkb : k = b
      · subst hkb; rw [decide_eq_true rfl]; exact List.contains_iff_mem.mpr hu'.head
      · rw [decide_eq_false hkb]
        cases z : u'.contains b with
        | false => rfl
        | true => have := (hu'.le hT k1 b (List.contains_iff_mem.mp z)).2; omega
    show q (.bl (decide (k = b))) []
    rw [← this,← e]
    exact q0 u hu
theorem ok_q30 (T : Txt K mg A) : FnOk P w K mg base CX0 5 A.f_q30 A.d_q30 ["tree","thing"] (spOf [false,false] false (sdIsAsk)) := by
  have G_q16 := ok_q16 (P := P) (w := w) (base := base) T
  have G_q10 := ok_q10 (P := P) (w := w) (base := base) T
  have S := sc_q30
  refine fnD T.F_q30 S ⟨[false,false],[false,false,false,false,false,false],false⟩ _ ?hl rfl rfl fun cdv Ar outer s H E hr => ⟨_,(qss_cons (qs_if (QW.qt (qw_or (qt_not (qt_val (qe_isT rfl T.z_isinstance bt_isinstance (qe_var 1) (pe_bltn (v := .ty "tuple") rfl T.z_tuple bt_tuple rfl)))) (qw_or1 (qt_cmp (op_neD hr.units) dNe (qe_callB call_len_seq dLen rfl T.z_len bt_len (qa_cons (qe_var 1) qa_nil)) qe_int (nomark _))))) (qss_one (qs_ret qe_bl)) qss_nil)
      (qss_cons (qs_asg (qe_var 1) (qg_tup rfl (qgs_cons (qg_name (i := 2) S.nd rfl (Or.inl rfl)) (qgs_cons (qg_name (i := 3) S.nd rfl (Or.inl rfl)) (qgs_cons (qg_name (i := 4) S.nd rfl (Or.inl rfl)) (qgs_cons (qg_name (i := 5) S.nd rfl (Or.inl rfl)) qgs_nil)))) (takes_cons1 (takes_cons1 (takes_cons1 (takes_cons1 takes_nil))))))
      (qss_one (qs_ret (qe_and (qe_call (G_q16) (hr.mono (by decide)) rfl T.m_q16 T.k_q16 T.b_q16 (qk_s (qe_var 0) (qk_s (qe_var 2) (qk_s (qe_var 3) qk_nil)))) (qe_and (qe_call (G_q10) (hr.mono (by decide)) rfl T.m_q10 T.k_q10 T.b_q10 (qk_s (qe_var 4) (qk_s qe_int (qk_s (qe_globI (i := 1000000) rfl T.c_MOST_SIZE) qk_nil)))) (qe_one (qe_call (G_q10) (hr.mono (by decide)) rfl T.m_q10 T.k_q10 T.b_q10 (qk_s (qe_var 5) (qk_s qe_int (qk_s (qe_globI (i := 1000000000000) rfl T.c_MOST_WORTH) qk_nil))))))))))),fun ds q h => ?_⟩
  case hl => intro ds q h; obtain ⟨ps,rs,a,rfl,_⟩ := h; rfl
  obtain ⟨ps,rs,a,rfl,ha,q0⟩ := h
  refine ⟨ps,rs,a.one,a.other,rfl,ha.ends,?_⟩
  refine ⟨.int a.size,1,1000000,rfl,rfl,?_⟩
  rw [btw_int ha.s0 ha.s1]
  refine ⟨.int a.worth,1,1000000000000,rfl,rfl,?_⟩
  rw [btw_int ha.w0 ha.w1]
  exact q0
theorem ok_q2 (T : Txt K mg A) : FnOk P w K mg base CX0 6 A.f_q2 A.d_q2 ["tree","thing"] (spOf [false,false] false (sdLookAsks)) := by
  have G_q30 := ok_q30 (P := P) (w := w) (base := base) T
  have G_q4 := ok_q4 (P := P) (w := w) (base := base) T
  have S := sc_q2
  refine fnD T.F_q2 S ⟨[false,false],[false,false,false,false],false⟩ _ ?hl rfl rfl fun cdv Ar outer s H E hr => ⟨_,(qss_cons (qs_expr (qe_call (G_q4) (hr.mono (by decide)) rfl T.m_q4 T.k_q4 T.b_q4 (qk_s (qe_var 0) qk_nil)))
      (qss_cons (qs_if (QW.qt (qw_or (qt_not (qt_val (qe_isT rfl T.z_isinstance bt_isinstance (qe_var 1) (pe_bltn (v := .ty "list") rfl T.z_list bt_list rfl)))) (qw_or1 (qt_cmp op_gt dB (qe_callB call_len_seq dLen rfl T.z_len bt_len (qa_cons (qe_var 1) qa_nil)) (qe_globI (i := 30) rfl T.c_MOST_ASKS) (nomark _))))) (qss_one qs_never) qss_nil)
      (qss_one (qs_for PassesOwn.never rfl (qi_enum rfl T.z_enumerate (qa_cons (qe_var 1) qa_nil)) (qg_tup rfl (qgs_cons (qg_name (i := 2) S.nd rfl (Or.inl rfl)) (qgs_cons (qg_name (i := 3) S.nd rfl (Or.inl rfl)) qgs_nil)) (takes_cons1 (takes_cons1 takes_nil))) (qss_one (qs_if (qt_not (qt_val (qe_call (G_q30) (hr.mono (by decide)) rfl T.m_q30 T.k_q30 T.b_q30 (qk_s (qe_var 0) (qk_s (qe_var 3) qk_nil))))) (qss_one qs_never) qss_nil)))))),fun ds q h => ?_⟩
  case hl => intro ds q h; obtain ⟨ps,rs,as,rfl,_⟩ := h; rfl
  obtain ⟨ps,rs,as,rfl,hT,ha,q0⟩ := h
  refine ⟨ps,rs,rfl,hT,?_⟩
  refine (ite2 (c := decide ((30 : Int) < ((as.map dAsk).length : Int)) = true) (fun c => ?_) (fun c => ?_))
  · have := ha.len; rw [len_asks] at c; simp at c; omega
  refine ⟨fun _ ρ => ∃ v1 v2,ρ = [some (dPair ps rs),some (dAsks as),v1,v2],⟨_,_,rfl⟩,?_,?_⟩
  · rintro i d ρ hd ⟨v1,v2,rfl⟩
    obtain ⟨d',h1,rfl⟩ := enuD_at hd
    obtain ⟨z,hz,rfl⟩ := asks_at h1
    refine ⟨ps,rs,z,rfl,ha.ok z (List.mem_of_getElem? hz),?_⟩
    exact ⟨_,_,rfl⟩
  · rintro ρ ⟨v1,v2,rfl⟩
    exact q0
theorem ok_q3 (T : Txt K mg A) : FnOk P w K mg base CX0 5 A.f_q3 A.d_q3 ["tree","one","other"] (spOf [false,false,false] false (sdLookEnds)) := by
  have G_q16 := ok_q16 (P := P) (w := w) (base := base) T
  have G_q4 := ok_q4 (P := P) (w := w) (base := base) T
  have S := sc_q3
  refine fnD T.F_q3 S ⟨[false,false,false],[false,false,false],false⟩ _ ?hl rfl rfl fun cdv Ar outer s H E hr => ⟨_,(qss_cons (qs_expr (qe_call (G_q4) (hr.mono (by decide)) rfl T.m_q4 T.k_q4 T.b_q4 (qk_s (qe_var 0) qk_nil)))
      (qss_one (qs_if (qt_not (qt_val (qe_call (G_q16) (hr.mono (by decide)) rfl T.m_q16 T.k_q16 T.b_q16 (qk_s (qe_var 0) (qk_s (qe_var 1) (qk_s (qe_var 2) qk_nil)))))) (qss_one qs_never) qss_nil))),fun ds q h => ?_⟩
  case hl => intro ds q h; obtain ⟨ps,rs,a,b,rfl,_⟩ := h; rfl
  obtain ⟨ps,rs,a,b,rfl,hT,he,q0⟩ := h
  refine ⟨ps,rs,rfl,hT,?_⟩
  exact ⟨ps,rs,a,b,rfl,he,q0⟩
theorem ok_q38 (T : Txt K mg A) : FnOk P w K mg base CX0 1 A.f_q38 A.d_q38 ["tree","one","other"] (spOf [false,false,false] true (sdClimb)) := by
  have S := sc_q38
  refine fnD T.F_q38 S ⟨[false,false,false],[false,false,false,true,false],true⟩ _ ?hl rfl rfl fun cdv Ar outer s H E hr => ⟨_,(qss_cons (qs_setO (i := 3) S.nd rfl (Or.inl rfl) (qf_lst qa_nil))
      (qss_cons (qs_while PassesOwn.never (qt_cmp (op_neD hr.units) dNe (qe_var 1) (qe_var 2) (nomark _)) (qss_cons (qs_set (i := 4) S.nd rfl (Or.inl rfl) (qe_callB (call_max2 rfl) dMax rfl T.z_max bt_max (qa_cons (qe_var 1) (qa_cons (qe_var 2) qa_nil))))
      (qss_cons (qs_append (i := 3) rfl (QE.qf (qe_var 4)))
      (qss_one (qs_par (i := 1) (j := 2) rfl S.nd rfl rfl (by decide) rfl rfl (qe_callB (call_min2 rfl) dMin rfl T.z_min bt_min (qa_cons (qe_var 1) (qa_cons (qe_var 2) qa_nil))) (qe_ix ix_seq dIx (qe_ix ix_seq dIx (qe_var 0) qe_int (fun _ _ => rfl)) (qe_op op_sub dI (qe_var 4) qe_int) (fun _ _ => rfl)) rfl)))))
      (qss_one (qs_retM (qm_tup (qms_cons (QF.qm (QF.bor [3] (qf_callB call_sortedI dSortI rfl T.z_sorted bt_sorted (qa_cons (qe_var 3) qa_nil)))) (qms_cons (QF.qm (QE.qf (qe_var 1))) qms_nil))))))),fun ds q h => ?_⟩
  case hl => intro ds q h; obtain ⟨ps,rs,a,b,rfl,_⟩ := h; rfl
  obtain ⟨ps,rs,a,b,rfl,hT,a0,a1,b0,b1,q0⟩ := h
  refine ⟨rfl,?_⟩
  refine ⟨fun k ρ => ∃ a' b' acc v,ρ = [some (dPair ps rs),some (.int a'),some (.int b'),some (dInts acc),v] ∧ 0 ≤ a' ∧ a' ≤ ps.length ∧ 0 ≤ b' ∧ b' ≤ ps.length ∧ k = (a' + b').toNat ∧ acc.length + (a' + b').toNat ≤ 46 ∧ (∀ w m,Climb ps a' b' w m → Climb ps a b (acc ++ w) m),⟨_,a,b,[],_,rfl,a0,a1,b0,b1,rfl,by have := hT.hi; simp; omega,fun w m h => h⟩,?_⟩
  rintro k ρ ⟨a',b',acc,v,rfl,a0',a1',b0',b1',rfl,hl,hc⟩
  have hi := hT.hi
  refine (ite2 (c := (!decide (a' = b')) = true) (fun c => ?_) (fun c => ?_))
  · have hne : a' ≠ b' := by simpa using c
    have key : ∀ (low hig : Int),low = (if b' > a' then b' else a') → hig = (if b' < a' then b' else a') → 0 < low ∧ low ≤ ps.length ∧ 0 ≤ hig ∧ hig ≤ ps.length ∧ low + hig = a' + b' ∧ (∀ w m,Climb ps hig (parZ ps low) w m → Climb ps a' b' (low :: w) m) := by
      intro low hig e1 e2
      by_cases hlt : b' < a'
      · rw [if_neg (by omega)] at e1; rw [if_pos hlt] at e2; subst e1; subst e2
        exact ⟨by omega,a1',b0',b1',by omega,fun w m h => .left hlt h⟩
      · rw [if_pos (by omega)] at e1; rw [if_neg hlt] at e2; subst e1; subst e2
        exact ⟨by omega,b1',a0',a1',by omega,fun w m h => .right (by omega) h⟩
    obtain ⟨L,hL⟩ : ∃ L,L = (if b' > a' then b' else a') := ⟨_,rfl⟩
    obtain ⟨J,hJ⟩ : ∃ J,J = (if b' < a' then b' else a') := ⟨_,rfl⟩
    obtain ⟨k1,k2,k3,k4,k5,k6⟩ := key L J hL hJ
    clear key
    have hp := hT.up k1 k2
    refine ⟨rfl,?_⟩
    refine ⟨by show (acc.map D.int).length < 1000; rw [List.length_map]; clear hL hJ; omega,?_⟩
    refine atD_of (atI_ints (by rw [← hL]; clear hL hJ; omega) (by rw [← hL]; clear hL hJ; omega)) ?_
    refine ⟨(J + parZ ps L).toNat,by clear hL hJ; omega,J,parZ ps L,acc ++ [L],some (.int L),?_,k3,k4,hp.1,by clear hL hJ; omega,rfl,by rw [List.length_append]; show acc.length + 1 + _ ≤ 46; clear hL hJ; omega,fun w m h => by rw [List.append_assoc]; exact hc _ _ (k6 _ _ h)⟩
    show [some (dPair ps rs),some (.int (if b' < a' then b' else a')),some (.int (parZ ps (if b' > a' then b' else a'))),some (D.lst (acc.map D.int ++ [D.int (if b' > a' then b' else a')])),some (.int (if b' > a' then b' else a'))] = _
    rw [← hL,← hJ,dInts,List.map_append]; rfl
  · have : a' = b' := by simpa using c
    subst this
    have hw := hc [] a' (.same a')
    rw [List.append_nil] at hw
    have hln := hw.len hT a0 b0 a1 b1
    refine ⟨acc,rfl,by omega,imms_ints _,rfl,?_⟩
    exact q0 acc a' hw
theorem ok_q7 (T : Txt K mg A) : FnOk P w K mg base CX0 6 A.f_q7 A.d_q7 ["tree","one","other"] (spOf [false,false,false] true (sdWay)) := by
  have G_q38 := ok_q38 (P := P) (w := w) (base := base) T
  have G_q3 := ok_q3 (P := P) (w := w) (base := base) T
  have S := sc_q7
  refine fnD T.F_q7 S ⟨[false,false,false],[false,false,false,true,false],true⟩ _ ?hl rfl rfl fun cdv Ar outer s H E hr => ⟨_,(qss_cons (qs_expr (qe_call (G_q3) (hr.mono (by decide)) rfl T.m_q3 T.k_q3 T.b_q3 (qk_s (qe_var 0) (qk_s (qe_var 1) (qk_s (qe_var 2) qk_nil)))))
      (qss_cons (qs_asgF rfl (QF.qm (qf_call (G_q38) (hr.mono (by decide)) rfl T.m_q38 T.k_q38 T.b_q38 (qk_s (qe_var 0) (qk_s (qe_var 1) (qk_s (qe_var 2) qk_nil))))) (qgf_own (i := 3) S.nd rfl (Or.inl rfl) (qgf_sh (i := 4) S.nd rfl (Or.inl rfl) qgf_nil)) (takes_cons1 (takes_cons1 takes_nil)))
      (qss_one (qs_retM (qm_move 3))))),fun ds q h => ?_⟩
  case hl => intro ds q h; obtain ⟨ps,rs,a,b,rfl,_⟩ := h; rfl
  obtain ⟨ps,rs,a,b,rfl,hT,he,q0⟩ := h
  refine ⟨ps,rs,a,b,rfl,hT,he,?_⟩
  refine ⟨ps,rs,a,b,rfl,hT,he.a0,he.a1,he.b0,he.b1,fun w m hw => ?_⟩
  exact q0 w m hw
theorem ok_q37 (T : Txt K mg A) : FnOk P w K mg base CX0 7 A.f_q37 A.d_q37 ["tree","ask"] (spOf [false,false] true (sdWayOf)) := by
  have G_q7 := ok_q7 (P := P) (w := w) (base := base) T
  have S := sc_q37
  refine fnD T.F_q37 S ⟨[false,false],[false,false],true⟩ _ ?hl rfl rfl fun cdv Ar outer s H E hr => ⟨_,(qss_one (qs_retM (QF.qm (qf_call (G_q7) (hr.mono (by decide)) rfl T.m_q7 T.k_q7 T.b_q7 (qk_s (qe_var 0) (qk_s (qe_ix ix_seq dIx (qe_var 1) qe_int (fun _ _ => rfl)) (qk_s (qe_ix ix_seq dIx (qe_var 1) qe_int (fun _ _ => rfl)) qk_nil))))))),fun ds q h => ?_⟩
  case hl => intro ds q h; obtain ⟨ps,rs,a,rfl,_⟩ := h; rfl
  obtain ⟨ps,rs,a,rfl,hT,he,q0⟩ := h
  refine ⟨ps,rs,a.one,a.other,rfl,hT,he,fun w m hw => ?_⟩
  rw [(hw.way hT he.a0 he.b0 he.a1 he.b1).1]
  exact q0
def sdApart : SpD := fun ds q => ∃ ps rs a b,ds = [dPair ps rs,.int a,.int b] ∧ Tree ps rs ∧ 1 ≤ a ∧ a ≤ ps.length ∧ 1 ≤ b ∧ b ≤ ps.length ∧ q (.bl (apartB ps a b)) []
theorem ok_q12 (T : Txt K mg A) : FnOk P w K mg base CX0 5 A.f_q12 A.d_q12 ["tree","one","other"] (spOf [false,false,false] false (sdApart)) := by
  have G_q9 := ok_q9 (P := P) (w := w) (base := base) T
  have S := sc_q12
  refine fnD T.F_q12 S ⟨[false,false,false],[false,false,false],false⟩ _ ?hl rfl rfl fun cdv Ar outer s H E hr => ⟨_,(qss_one (qs_ret (qe_and (qe_not (qe_call (G_q9) (hr.mono (by decide)) rfl T.m_q9 T.k_q9 T.b_q9 (qk_s (qe_var 0) (qk_s (qe_var 1) (qk_s (qe_var 2) qk_nil))))) (qe_one (qe_not (qe_call (G_q9) (hr.mono (by decide)) rfl T.m_q9 T.k_q9 T.b_q9 (qk_s (qe_var 0) (qk_s (qe_var 2) (qk_s (qe_var 1) qk_nil))))))))),fun ds q h => ?_⟩
  case hl => intro ds q h; obtain ⟨ps,rs,a,b,rfl,_⟩ := h; rfl
  obtain ⟨ps,rs,a,b,rfl,hT,a0,a1,b0,b1,q0⟩ := h
  refine ⟨ps,rs,a,b,rfl,hT,a0,a1,b0,b1,fun u hu => ?_⟩
  rw [ben_of hu]
  unfold apartB at q0
  cases e : benB ps a b with
  | true => rw [e] at q0; exact q0
  | false =>
    rw [e] at q0
    refine ⟨ps,rs,b,a,rfl,hT,b0,b1,a0,a1,fun v hv => ?_⟩
    rw [ben_of hv]
    exact q0
end
end K50
namespace K50
open PySem L2
section
variable {P : Program} {w : World} {K : PySem.W.Frag} {mg : Str → Option Value} {base : Heap} {A : Adr}
def dLks (ls : List (Int × Int)) : D := .lst (ls.map dLk)
abbrev Lks := List (List (Int × Int))
def rowL (L : Lks) (t : Int) : List (Int × Int) := L.getD (t - 1).toNat []
def addL (L : Lks) (t : Int) (l : Int × Int) : Lks := L.set (t - 1).toNat (rowL L t ++ [l])
theorem row_add {L : Lks} {t s : Int} {l : Int × Int} (t0 : 1 ≤ t) (t1 : t ≤ (L.length : Int)) (s0 : 1 ≤ s) : rowL (addL L t l) s = if s = t then rowL L t ++ [l] else rowL L s := by
  unfold rowL addL
  rw [List.getD_eq_getElem?_getD,List.getElem?_set]
  by_cases e : s = t
  · rw [e,if_pos rfl,if_pos rfl,if_pos (by omega)]; rfl
  · rw [if_neg (show ¬ (t - 1).toNat = (s - 1).toNat by omega),if_neg e,List.getD_eq_getElem?_getD]
theorem add_len (L : Lks) (t : Int) (l : Int × Int) : (addL L t l).length = L.length := List.length_set ..
structure LnOk (ps : List Int) (as : List Ask) (b : Nat) (L : Lks) : Prop where
  len : L.length = ps.length
  row : ∀ t : Int,1 ≤ t → t ≤ ps.length → ∀ l ∈ rowL L t,joinB ps as t l.1 l.2 = true ∧ LkOk ps.length as.length l
  few : ∀ t : Int,1 ≤ t → t ≤ ps.length → (rowL L t).length ≤ b
  sym : ∀ t : Int,1 ≤ t → t ≤ ps.length → ∀ l ∈ rowL L t,(t,l.2) ∈ rowL L l.1
theorem LnOk.add {ps : List Int} {as : List Ask} {b : Nat} {L : Lks} {x y k : Int} (h : LnOk ps as b L) (hj : joinB ps as x y k = true) (hj2 : joinB ps as y x k = true) (hx : LkOk ps.length as.length (x,k)) (hy : LkOk ps.length as.length (y,k)) : LnOk ps as (b + 1) (addL (addL L x (y,k)) y (x,k)) := by
  have hne : x ≠ y := fun e => by unfold joinB at hj; rw [e] at hj; simp at hj
  have x0 : 1 ≤ x := hx.t0
  have x1 : x ≤ ps.length := hx.t1
  have y0 : 1 ≤ y := hy.t0
  have y1 : y ≤ ps.length := hy.t1
  have hl := h.len
  have row : ∀ t : Int,1 ≤ t → t ≤ ps.length → rowL (addL (addL L x (y,k)) y (x,k)) t = if t = y then rowL L y ++ [(x,k)] else if t = x then rowL L x ++ [(y,k)] else rowL L t := fun t t0 t1 => by
    rw [row_add y0 (by rw [add_len,hl]; exact y1) t0,row_add x0 (by rw [hl]; exact x1) y0,row_add x0 (by rw [hl]; exact x1) t0,if_neg (show ¬ y = x from fun e => hne e.symm)]
  refine ⟨by rw [add_len,add_len]; exact hl,fun t t0 t1 l hm => ?_,fun t t0 t1 => ?_,fun t t0 t1 l hm => ?_⟩
  · rw [row t t0 t1] at hm
    split at hm
    · rename_i e
      rcases List.mem_append.mp hm with z | z
      · rw [e]; exact h.row y y0 y1 l z
      · rw [List.mem_singleton.mp z,e]; exact ⟨hj2,hx⟩
    · split at hm
      · rename_i e
        rcases List.mem_append.mp hm with z | z
        · rw [e]; exact h.row x x0 x1 l z
        · rw [List.mem_singleton.mp z,e]; exact ⟨hj,hy⟩
      · exact h.row t t0 t1 l hm
  · rw [row t t0 t1]
    split
    · rw [List.length_append]; have := h.few y y0 y1; show _ + 1 ≤ _; omega
    · split
      · rw [List.length_append]; have := h.few x x0 x1; show _ + 1 ≤ _; omega
      · have := h.few t t0 t1; omega
  · rw [row t t0 t1] at hm
    have up : ∀ s : Int,1 ≤ s → s ≤ ps.length → ∀ m ∈ rowL L s,m ∈ rowL (addL (addL L x (y,k)) y (x,k)) s := fun s s0 s1 m hm => by
      rw [row s s0 s1]
      split
      · rename_i e; rw [e] at hm; exact List.mem_append_left _ hm
      · split
        · rename_i e; rw [e] at hm; exact List.mem_append_left _ hm
        · exact hm
    split at hm
    · rename_i e
      rcases List.mem_append.mp hm with z | z
      · have lk := (h.row y y0 y1 l z).2
        rw [e]; exact up _ lk.t0 lk.t1 _ (h.sym y y0 y1 l z)
      · rw [List.mem_singleton.mp z,e,row x x0 x1,if_neg hne,if_pos rfl]; exact List.mem_append_right _ (.head _)
    · split at hm
      · rename_i e
        rcases List.mem_append.mp hm with z | z
        · have lk := (h.row x x0 x1 l z).2
          rw [e]; exact up _ lk.t0 lk.t1 _ (h.sym x x0 x1 l z)
        · rw [List.mem_singleton.mp z,e,row y y0 y1,if_pos rfl]; exact List.mem_append_right _ (.head _)
      · have lk := (h.row t t0 t1 l hm).2
        exact up _ lk.t0 lk.t1 _ (h.sym t t0 t1 l hm)
theorem LnOk.up {ps : List Int} {as : List Ask} {b b' : Nat} {L : Lks} (h : LnOk ps as b L) (hb : b ≤ b') : LnOk ps as b' L := ⟨h.len,h.row,fun t t0 t1 => Nat.le_trans (h.few t t0 t1) hb,h.sym⟩
theorem add_mem {L : Lks} {t s : Int} {l m : Int × Int} (t0 : 1 ≤ t) (t1 : t ≤ (L.length : Int)) (s0 : 1 ≤ s) (h : m ∈ rowL L s) : m ∈ rowL (addL L t l) s := by
  rw [row_add t0 t1 s0]
  split
  · rename_i e; rw [e] at h; exact List.mem_append_left _ h
  · exact h
theorem sub_at {L : Lks} {t : Int} (t0 : 1 ≤ t) (t1 : t ≤ (L.length : Int)) : ixN (L.map dLks).length (t - 1) = some (t - 1).toNat ∧ (L.map dLks)[(t - 1).toNat]? = some (.lst ((rowL L t).map dLk)) := by
  refine ⟨ixN_nat (by omega) (by rw [List.length_map]; omega),?_⟩
  rw [List.getElem?_map]
  unfold rowL
  rw [List.getD_eq_getElem?_getD,List.getElem?_eq_getElem (by omega)]; rfl
theorem lset_at {L : Lks} {t : Int} {l : Int × Int} : (L.map dLks).set (t - 1).toNat (.lst ((rowL L t).map dLk ++ [dLk l])) = (addL L t l).map dLks := by
  unfold addL
  rw [List.map_set]
  congr 1
  unfold dLks
  rw [List.map_append]; rfl
def Cov (ps : List Int) (as : List Ask) (L : Lks) (i : Nat) : Prop := ∀ (k : Nat) a,k < i → as[k]? = some a → ∀ p ∈ (askWay ps a).zip ((askWay ps a).drop 1),(p.2,(k : Int)) ∈ rowL L p.1
def sdLinks : SpD := fun ds q => ∃ ps rs as,ds = [dPair ps rs,dAsks as] ∧ Tree ps rs ∧ AsksOk ps as ∧ ∀ L,LnOk ps as 690 L → Cov ps as L as.length → q (.lst (L.map dLks)) []
theorem ok_q21 (T : Txt K mg A) : FnOk P w K mg base CX0 8 A.f_q21 A.d_q21 ["tree","asks"] (spOf [false,false] true (sdLinks)) := by
  have G_q37 := ok_q37 (P := P) (w := w) (base := base) T
  have S := sc_q21
  refine fnD T.F_q21 S ⟨[false,false],[false,false,true,false,false,false,false,false],true⟩ _ ?hl rfl rfl fun cdv Ar outer s H E hr => ⟨_,(qss_cons (qs_setNils (i := 2) ["parent"] [] ⟨rfl,rfl,by decide +kernel,rfl,rfl,(by first | exact trivial | exact ⟨rfl,trivial⟩ | exact ⟨rfl,rfl,trivial⟩ | exact ⟨rfl,rfl,rfl,trivial⟩ | exact ⟨rfl,rfl,rfl,rfl,trivial⟩),rfl⟩ rfl S.nd rfl (Or.inl rfl) (qi_list (qe_ix ix_seq dIx (qe_var 0) qe_int (fun _ _ => rfl))) (cg_name 0) (fun _ _ _ _ => ⟨(pg_name (i := 0) (show List.Nodup (["parent"] : List Str) by decide +kernel) rfl (Or.inl rfl)),qif_nil,(qe_lst qa_nil)⟩))
      (qss_cons (qs_for PassesOwn.never rfl (qi_enum rfl T.z_enumerate (qa_cons (qe_var 1) qa_nil)) (qg_tup rfl (qgs_cons (qg_name (i := 3) S.nd rfl (Or.inl rfl)) (qgs_cons (qg_name (i := 4) S.nd rfl (Or.inl rfl)) qgs_nil)) (takes_cons1 (takes_cons1 takes_nil))) (qss_cons (qs_set (i := 5) S.nd rfl (Or.inl rfl) (QF.qe (qf_call (G_q37) (hr.mono (by decide)) rfl T.m_q37 T.k_q37 T.b_q37 (qk_s (qe_var 0) (qk_s (qe_var 4) qk_nil)))))
      (qss_one (qs_for PassesOwn.never rfl (qi_zip rfl T.z_zip (qa_cons (qe_var 5) (qa_cons (qe_slice (qe_var 5) (qo_some qe_int) qo_none) qa_nil))) (qg_tup rfl (qgs_cons (qg_name (i := 6) S.nd rfl (Or.inl rfl)) (qgs_cons (qg_name (i := 7) S.nd rfl (Or.inl rfl)) qgs_nil)) (takes_cons1 (takes_cons1 takes_nil))) (qss_cons (qs_appP (i := 2) (qp_ix qp_var (qz_op0 op_sub (qz_var 6) qz_int)) (qe_tup (qa_cons (qe_var 7) (qa_cons (qe_var 3) qa_nil))))
      (qss_one (qs_appP (i := 2) (qp_ix qp_var (qz_op0 op_sub (qz_var 7) qz_int)) (qe_tup (qa_cons (qe_var 6) (qa_cons (qe_var 3) qa_nil))))))))))
      (qss_one (qs_retM (qm_move 2))))),fun ds q h => ?_⟩
  case hl => intro ds q h; obtain ⟨ps,rs,as,rfl,_⟩ := h; rfl
  obtain ⟨ps,rs,as,rfl,hT,ha,q0⟩ := h
  have hal := ha.len
  have hti := hT.hi
  refine ⟨by rw [len_ints]; omega,fun d hd => trivial,?_⟩
  have e0 : ((ps.map D.int).map fun _ => D.lst []) = (ps.map fun _ => ([] : List (Int × Int))).map dLks := by rw [List.map_map,List.map_map]; rfl
  rw [e0]
  have hlen0 : (ps.map fun _ => ([] : List (Int × Int))).length = ps.length := List.length_map ..
  have h0 : LnOk ps as (23 * 0) (ps.map fun _ => ([] : List (Int × Int))) := by
    have re : ∀ t : Int,rowL (ps.map fun _ => ([] : List (Int × Int))) t = [] := fun t => by
      unfold rowL
      rw [List.getD_eq_getElem?_getD,List.getElem?_map]
      cases ps[(t - 1).toNat]? <;> rfl
    refine ⟨hlen0,fun t _ _ l hm => ?_,fun t _ _ => ?_,fun t _ _ l hm => ?_⟩
    · rw [re] at hm; cases hm
    · rw [re]; exact Nat.le_refl _
    · rw [re] at hm; cases hm
  refine ⟨fun i ρ => ∃ L v3 v4 v5 v6 v7,ρ = [some (dPair ps rs),some (dAsks as),some (.lst (L.map dLks)),v3,v4,v5,v6,v7] ∧ LnOk ps as (23 * i) L ∧ Cov ps as L i,⟨_,_,_,_,_,_,rfl,h0,fun k a h => absurd h (Nat.not_lt_zero _)⟩,?_,?_⟩
  rotate_left
  · rintro ρ ⟨L,v3,v4,v5,v6,v7,rfl,hL,hC⟩
    rw [enuD_len,len_asks] at hL hC
    exact q0 L (hL.up (by omega)) hC
  rintro i d ρ hd ⟨L,v3,v4,v5,v6,v7,rfl,hL,hC⟩
  obtain ⟨d',hd',rfl⟩ := enuD_at hd
  obtain ⟨a,ha1,rfl⟩ : ∃ a,as[i]? = some a ∧ dAsk a = d' := by rw [List.getElem?_map] at hd'; exact Option.map_eq_some_iff.mp hd'
  have hil : i < as.length := (List.getElem?_eq_some_iff.mp ha1).1
  have hok := ha.ok a (List.mem_of_getElem? ha1)
  have he := hok.ends
  have hnd : (askWay ps a).Nodup := way_nodup hT he
  have hwm : ∀ t ∈ askWay ps a,0 < t ∧ t ≤ (ps.length : Int) := fun t ht => way_mem hT he ht
  have eN : askN as (i : Int) = a := by unfold askN; rw [Int.toNat_natCast,List.getD_eq_getElem?_getD,ha1]; rfl
  have hwl : (askWay ps a).length ≤ 23 := by
    have := hnd.length_le_of_subset (l₂ := (List.range ps.length).map fun j => ((j + 1 : Nat) : Int)) fun x hx => by
      have := hwm x hx
      exact List.mem_map.mpr ⟨(x - 1).toNat,List.mem_range.mpr (by omega),by omega⟩
    rw [List.length_map,List.length_range] at this
    omega
  have hjn : ∀ x ∈ askWay ps a,∀ y ∈ askWay ps a,x ≠ y → joinB ps as x y (i : Int) = true := fun x hx y hy e => by
    unfold joinB
    rw [eN,List.contains_iff_mem.mpr hx,List.contains_iff_mem.mpr hy]
    simp [e]
  refine ⟨ps,rs,a,rfl,hT,he,?_⟩
  generalize hW : askWay ps a = W at hnd hwm hwl hjn
  have ec : cutD (W.map D.int) (some 1) none = (W.drop 1).map D.int := by rw [cutD_drop (by decide),List.map_drop]; rfl
  refine ⟨fun j ρ => ∃ L v6 v7,ρ = [some (dPair ps rs),some (dAsks as),some (.lst (L.map dLks)),some (.int (i : Int)),some (dAsk a),some (dInts W),v6,v7] ∧ LnOk ps as (23 * i + j) L ∧ Cov ps as L i ∧ ∀ p ∈ (W.zip (W.drop 1)).take j,(p.2,(i : Int)) ∈ rowL L p.1,⟨L,_,_,rfl,hL,hC,fun p h => (by cases h)⟩,?_,?_⟩
  rotate_left
  · rintro ρ ⟨L,v6,v7,rfl,hL,hC,hp⟩
    have hzl : (zipD (W.map D.int) (cutD (W.map D.int) (some 1) none)).length = (W.zip (W.drop 1)).length := by
      rw [ec]; unfold zipD; rw [List.length_zipWith,List.length_zip,List.length_map,List.length_map]
    rw [hzl] at hL hp
    rw [List.take_length] at hp
    refine ⟨L,_,_,_,_,_,rfl,hL.up ?_,fun k b hk hb p hp2 => ?_⟩
    · rw [List.length_zip,List.length_drop]; omega
    · by_cases e : k = i
      · subst e; rw [ha1] at hb; cases hb; rw [hW] at hp2; exact hp p hp2
      · exact hC k b (by omega) hb p hp2
  rintro j d ρ hd ⟨L,v6,v7,rfl,hL,hC,hp⟩
  rw [ec] at hd
  obtain ⟨x',y',hx,hy,rfl⟩ := zipD_at hd
  obtain ⟨x,hx1,rfl⟩ := map_at hx
  obtain ⟨y,hy1,rfl⟩ := map_at hy
  clear hx hy
  have hx := hx1
  have hy := hy1
  have hzj : (W.zip (W.drop 1))[j]? = some (x,y) := List.getElem?_zip_eq_some.mpr ⟨hx,hy⟩
  have hpm := List.mem_of_getElem? hzj
  have hne : x ≠ y := zip1_ne hnd hpm
  have mx := List.mem_of_getElem? hx
  have my := List.mem_of_mem_drop (List.mem_of_getElem? hy)
  have bx := hwm x mx
  have by' := hwm y my
  have hjl : j < 23 := by have := (List.getElem?_eq_some_iff.mp hx).1; omega
  have hln := hL.len
  have f1 := hL.few x (by omega) bx.2
  have f2 := hL.few y (by omega) by'.2
  have g1 := sub_at (L := L) (t := x) (by omega) (by rw [hln]; exact bx.2)
  refine ⟨.lst (L.map dLks),rfl,x,rfl,(x - 1).toNat,.lst ((rowL L x).map dLk),g1.1,g1.2,.lst (L.map dLks),(rowL L x).map dLk,rfl,rfl,rfl,by rw [List.length_map]; omega,?_⟩
  have e1 : setP ([] ++ [(x - 1).toNat]) (.lst (L.map dLks)) (.lst ((rowL L x).map dLk ++ [D.tup [.int y,.int (i : Int)]])) = .lst ((addL L x (y,(i : Int))).map dLks) := by
    show (match (L.map dLks)[(x - 1).toNat]? with | some e => D.lst ((L.map dLks).set (x - 1).toNat _) | none => _) = _
    rw [g1.2]
    show D.lst ((L.map dLks).set (x - 1).toNat (.lst ((rowL L x).map dLk ++ [dLk (y,(i : Int))]))) = _
    rw [lset_at]
  rw [e1]
  have hy1' : y ≤ ((addL L x (y,(i : Int))).length : Int) := by rw [add_len,hln]; exact by'.2
  have g2 := sub_at (L := addL L x (y,(i : Int))) (t := y) (by omega) hy1'
  have hry : (rowL (addL L x (y,(i : Int))) y).length ≤ 23 * i + j := by rw [row_add (by omega) (by rw [hln]; exact bx.2) (by omega),if_neg (fun z => hne z.symm)]; exact f2
  refine ⟨.lst ((addL L x (y,(i : Int))).map dLks),rfl,y,rfl,(y - 1).toNat,.lst ((rowL (addL L x (y,(i : Int))) y).map dLk),g2.1,g2.2,.lst ((addL L x (y,(i : Int))).map dLks),(rowL (addL L x (y,(i : Int))) y).map dLk,rfl,rfl,rfl,by rw [List.length_map]; omega,?_⟩
  have e2 : setP ([] ++ [(y - 1).toNat]) (.lst ((addL L x (y,(i : Int))).map dLks)) (.lst ((rowL (addL L x (y,(i : Int))) y).map dLk ++ [D.tup [.int x,.int (i : Int)]])) = .lst ((addL (addL L x (y,(i : Int))) y (x,(i : Int))).map dLks) := by
    show (match ((addL L x (y,(i : Int))).map dLks)[(y - 1).toNat]? with | some e => D.lst (((addL L x (y,(i : Int))).map dLks).set (y - 1).toNat _) | none => _) = _
    rw [g2.2]
    show D.lst (((addL L x (y,(i : Int))).map dLks).set (y - 1).toNat (.lst ((rowL (addL L x (y,(i : Int))) y).map dLk ++ [dLk (x,(i : Int))]))) = _
    rw [lset_at]
  rw [e2]
  have grow : ∀ (s : Int) m,1 ≤ s → m ∈ rowL L s → m ∈ rowL (addL (addL L x (y,(i : Int))) y (x,(i : Int))) s := fun s m s0 hm => add_mem (by omega) hy1' s0 (add_mem (by omega) (by rw [hln]; exact bx.2) s0 hm)
  have lx : LkOk ps.length as.length (x,(i : Int)) := ⟨by show 1 ≤ x; omega,bx.2,by show 0 ≤ (i : Int); omega,by show (i : Int) < _; omega⟩
  have ly : LkOk ps.length as.length (y,(i : Int)) := ⟨by show 1 ≤ y; omega,by'.2,by show 0 ≤ (i : Int); omega,by show (i : Int) < _; omega⟩
  refine ⟨_,_,_,rfl,hL.add (hjn x mx y my hne) (hjn y my x mx fun z => hne z.symm) lx ly,fun k b hk hb p hp2 => ?_,fun p hp2 => ?_⟩
  · have hm := hC k b hk hb p hp2
    have he2 := (ha.ok b (List.mem_of_getElem? hb)).ends
    have := way_mem hT he2 (mem_zip1 hp2).1
    exact grow p.1 _ (by omega) hm
  · rw [List.take_add_one,hzj] at hp2
    rcases List.mem_append.mp hp2 with z | z
    · have := hwm p.1 (mem_zip1 (List.mem_of_mem_take z)).1
      exact grow p.1 _ (by omega) (hp p z)
    · have e : p = (x,y) := by simpa using z
      rw [e]
      show (y,(i : Int)) ∈ rowL _ x
      refine add_mem (by omega) hy1' (by omega) ?_
      rw [row_add (by omega) (by rw [hln]; exact bx.2) (by omega),if_pos rfl]
      exact List.mem_append_right _ (.head _)
abbrev JoP (ps : List Int) (as : List Ask) : Int → Int → Int → Prop := fun a b k => joinB ps as a b k = true ∧ 0 ≤ k ∧ k < (as.length : Int)
structure Clo (L : Lks) (n : Nat) (cs : Came) : Prop where
  cl : ∀ (x : Int) u,getC cs x = some u → ∀ l ∈ rowL L x,∃ v,getC cs l.1 = some v
  rt : ∀ (x : Int) u,getC cs x = some u → ∀ l ∈ rowL L x,∃ p p' r,Back cs x p r ∧ Back cs l.1 p' r
def Ext (cs cs' : Came) : Prop := ∀ (x : Int) u,getC cs x = some u → getC cs' x = some u
theorem back_ext {cs cs' : Came} {x r : Int} {p : List (Int × Int)} (he : Ext cs cs') (h : Back cs x p r) : Back cs' x p r := by
  induction h with
  | root e => exact .root (he _ _ e)
  | step e _ ih => exact .step (he _ _ e) ih
structure Rch (ps : List Int) (as : List Ask) (L : Lks) (cs : Came) (f : Int) (cs' : Came) (W : List Int) (now : Option Int) : Prop where
  cm : Cm ps.length (JoP ps as) cs'
  ex : Ext cs cs'
  nw : ∀ (x : Int) u,getC cs' x = some u → getC cs x = none → ∃ p,Back cs' x p f
  fs : ∃ u,getC cs' f = some u
  wt : ∀ x ∈ W,getC cs x = none ∧ ∃ u,getC cs' x = some u
  dn : ∀ (x : Int) u,getC cs' x = some u → getC cs x = none → ¬ x ∈ W → now ≠ some x → ∀ l ∈ rowL L x,∃ v,getC cs' l.1 = some v
def sdReach : SpD := fun ds q => ∃ ps as L cs f b,ds = [.int f,.lst (L.map dLks),dCame cs] ∧ LnOk ps as b L ∧ b ≤ 900 ∧ ps.length ≤ 23 ∧ Cm ps.length (JoP ps as) cs ∧ Clo L ps.length cs ∧ getC cs f = none ∧ 1 ≤ f ∧ f ≤ (ps.length : Int) ∧ ∀ cs',Cm ps.length (JoP ps as) cs' → Clo L ps.length cs' → Ext cs cs' → (∃ u,getC cs' f = some u) → q .non [some (dCame cs')]
theorem Rch.done {ps : List Int} {as : List Ask} {L : Lks} {cs cs' : Came} {f : Int} {b : Nat} (hL : LnOk ps as b L) (hc : Cm ps.length (JoP ps as) cs) (hcl : Clo L ps.length cs) (h : Rch ps as L cs f cs' [] none) : Clo L ps.length cs' := by
  have old : ∀ (x : Int) u,getC cs x = some u → ∀ l ∈ rowL L x,(∃ v,getC cs' l.1 = some v) ∧ ∃ p p' r,Back cs' x p r ∧ Back cs' l.1 p' r := fun x u e l hl => by
    obtain ⟨v,hv⟩ := hcl.cl x u e l hl
    obtain ⟨p,p',r,b1,b2⟩ := hcl.rt x u e l hl
    exact ⟨⟨v,h.ex _ _ hv⟩,p,p',r,back_ext h.ex b1,back_ext h.ex b2⟩
  have new : ∀ (x : Int) u,getC cs' x = some u → getC cs x = none → ∀ l ∈ rowL L x,(∃ v,getC cs' l.1 = some v) ∧ ∃ p p' r,Back cs' x p r ∧ Back cs' l.1 p' r := fun x u e en l hl => by
    have hx := h.cm.rng e
    obtain ⟨v,hv⟩ := h.dn x u e en (by simp) (by simp) l hl
    have ln : getC cs l.1 = none := by
      cases e2 : getC cs l.1 with
      | none => rfl
      | some w =>
        have := hL.sym x hx.1 hx.2 l hl
        obtain ⟨v2,hv2⟩ := hcl.cl l.1 w e2 _ this
        rw [en] at hv2; cases hv2
    obtain ⟨p,b1⟩ := h.nw x u e en
    obtain ⟨p',b2⟩ := h.nw l.1 v hv ln
    exact ⟨⟨v,hv⟩,p,p',f,b1,b2⟩
  refine ⟨fun x u e l hl => ?_,fun x u e l hl => ?_⟩
  · cases en : getC cs x with
    | none => exact (new x u e en l hl).1
    | some w => exact (old x w en l hl).1
  · cases en : getC cs x with
    | none => exact (new x u e en l hl).2
    | some w => exact (old x w en l hl).2
theorem came_len (cs : Came) : (keysC cs).length = cs.length := List.length_map ..
theorem ok_q11 (T : Txt K mg A) : FnOk P w K mg base CX0 1 A.f_q11 A.d_q11 ["first","links","came"] (spOf [false,false,true] false (sdReach)) := by
  have S := sc_q11
  refine fnD T.F_q11 S ⟨[false,false,true],[false,false,true,true,false,false,false],false⟩ _ ?hl rfl rfl fun cdv Ar outer s H E hr => ⟨_,(qss_cons (qs_putK (i := 2) (hu_of hr) rfl qe_non (qe_var 0))
      (qss_cons (qs_setO (i := 3) S.nd rfl (Or.inl rfl) (qf_lst (qa_cons (qe_var 0) qa_nil)))
      (qss_one (qs_while PassesOwn.never (QT.bor [3] (qt_truth (qe_var 3))) (qss_cons (qs_set (i := 4) S.nd rfl (Or.inl rfl) (qe_pop (i := 3) rfl))
      (qss_one (qs_for PassesOwn.never rfl (qi_list (qe_ix ix_seq dIx (qe_var 1) (qe_op op_sub dI (qe_var 4) qe_int) (fun _ _ => rfl))) (qg_tup rfl (qgs_cons (qg_name (i := 5) S.nd rfl (Or.inl rfl)) (qgs_cons (qg_name (i := 6) S.nd rfl (Or.inl rfl)) qgs_nil)) (takes_cons1 (takes_cons1 takes_nil))) (qss_one (qs_if (QT.bor [2] (qt_cmp (op_notInK (hu_of hr)) dNinK (qe_var 5) (qe_var 2) rfl)) (qss_cons (qs_putK (i := 2) (hu_of hr) rfl (qe_tup (qa_cons (qe_var 4) (qa_cons (qe_var 6) qa_nil))) (qe_var 5))
      (qss_one (qs_append (i := 3) rfl (QE.qf (qe_var 5))))) qss_nil))))))))),fun ds q h => ?_⟩
  case hl => intro ds q h; obtain ⟨ps,as,L,cs,f,b,rfl,_⟩ := h; rfl
  obtain ⟨ps,as,L,cs,f,b,rfl,hL,hb,hn,hc,hcl,hf,f0,f1,q0⟩ := h
  have hfew := hc.few
  have e0 := put_came (v := none) hf
  refine ⟨rfl,.inl f,rfl,by rw [came_len]; omega,?_⟩
  have e00 : D.dic (putKs (keysC cs) (.inl f)) (L2.putAt (keysC cs) (valsC cs) (.inl f) D.non) = dCame (cs ++ [(f,none)]) := by
    unfold dCame; rw [← e0.1,← e0.2]; rfl
  rw [e00]
  have hR0 : Rch ps as L cs f (cs ++ [(f,none)]) [f] none := by
    have one : ∀ (x : Int) u,getC (cs ++ [(f,none)]) x = some u → getC cs x = none → x = f ∧ u = none := fun x u e en => by
      rw [get_snoc hf] at e
      split at e
      · rename_i z; cases e; exact ⟨z.symm,rfl⟩
      · rw [en] at e; cases e
    have hff : getC (cs ++ [(f,none)]) f = some none := by rw [get_snoc hf,if_pos rfl]
    refine ⟨.root hc hf f0 f1,fun x u e => get_keep hf e,fun x u e en => ?_,⟨_,hff⟩,fun x hx => ?_,fun x u e en hx _ => ?_⟩
    · obtain ⟨rfl,rfl⟩ := one x u e en; exact ⟨[],.root e⟩
    · rw [List.mem_singleton.mp hx]; exact ⟨hf,_,hff⟩
    · exact absurd (by rw [(one x u e en).1]; exact .head _) hx
  refine ⟨rfl,?_⟩
  refine ⟨fun m ρ => ∃ cs' W v4 v5 v6,ρ = [some (.int f),some (.lst (L.map dLks)),some (dCame cs'),some (dInts W),v4,v5,v6] ∧ Rch ps as L cs f cs' W none ∧ W.length ≤ cs'.length ∧ m = 2 * (ps.length - cs'.length) + W.length,⟨_,cs ++ [(f,none)],[f],_,_,_,rfl,hR0,by rw [List.length_append]; show 1 ≤ _ + 1; omega,rfl⟩,?_⟩
  rintro m ρ ⟨cs',W,v4,v5,v6,rfl,hR,hWl,rfl⟩
  rcases List.eq_nil_or_concat W with rfl | ⟨W0,t,rfl⟩
  · exact q0 cs' hR.cm (hR.done hL hc hcl) hR.ex hR.fs
  have hwt := hR.wt t (by simp)
  obtain ⟨tn,u0,tu⟩ := hwt
  have tr := hR.cm.rng tu
  have hfew' := hR.cm.few
  have em : (W0.concat t).map D.int = W0.map D.int ++ [.int t] := by rw [List.concat_eq_append,List.map_append]; rfl
  have hne : (!((W0.concat t).map D.int).isEmpty) = true := by rw [em]; cases W0 <;> rfl
  refine (ite2 (c := (!((W0.concat t).map D.int).isEmpty) = true) (fun _ => ?_) (fun c => absurd hne c))
  have hg : ((W0.concat t).map D.int)[((W0.concat t).map D.int).length - 1]? = some (.int t) := by
    rw [em,List.length_append]
    show (W0.map D.int ++ [D.int t])[(W0.map D.int).length + 1 - 1]? = _
    rw [Nat.add_sub_cancel,List.getElem?_append_right (Nat.le_refl _),Nat.sub_self]; rfl
  have hdl : ((W0.concat t).map D.int).dropLast = W0.map D.int := by rw [em,List.dropLast_concat]
  show (match ((W0.concat t).map D.int)[((W0.concat t).map D.int).length - 1]? with | some d => _ | none => False)
  rw [hg,hdl]
  refine ⟨rfl,?_⟩
  have g1 := sub_at (L := L) (t := t) tr.1 (by rw [hL.len]; exact tr.2)
  have hrl := hL.few t tr.1 tr.2
  refine atD_of (show atI (L.map dLks) (t - 1) = some (.lst ((rowL L t).map dLk)) by unfold atI; rw [g1.1]; exact g1.2) ?_
  have hlen : (W0.concat t).length = W0.length + 1 := by rw [List.concat_eq_append,List.length_append]; rfl
  refine ⟨fun j ρ => ∃ cs2 W2 v5 v6,ρ = [some (.int f),some (.lst (L.map dLks)),some (dCame cs2),some (dInts W2),some (.int t),v5,v6] ∧ Rch ps as L cs f cs2 W2 (some t) ∧ 2 * (ps.length - cs2.length) + W2.length + 1 ≤ 2 * (ps.length - cs'.length) + (W0.concat t).length ∧ W2.length ≤ cs2.length ∧ (∃ u,getC cs2 t = some u) ∧ ∀ l ∈ (rowL L t).take j,∃ v,getC cs2 l.1 = some v,?_,?_,?_⟩
  · refine ⟨cs',W0,_,_,rfl,⟨hR.cm,hR.ex,hR.nw,hR.fs,fun x hx => hR.wt x (by rw [List.concat_eq_append]; exact List.mem_append_left _ hx),fun x u e en hx hnow => hR.dn x u e en (fun z => ?_) (by simp)⟩,by omega,by omega,⟨u0,tu⟩,fun l h => (by cases h)⟩
    rw [List.concat_eq_append] at z
    rcases List.mem_append.mp z with z | z
    · exact hx z
    · exact hnow (by rw [List.mem_singleton.mp z])
  · rintro j d ρ hd ⟨cs2,W2,v5,v6,rfl,hR2,hm,hW,⟨u2,tu2⟩,hcov⟩
    obtain ⟨l,hl,rfl⟩ : ∃ l,(rowL L t)[j]? = some l ∧ dLk l = d := by rw [List.getElem?_map] at hd; exact Option.map_eq_some_iff.mp hd
    have hlm := List.mem_of_getElem? hl
    obtain ⟨hjo,hlk⟩ := hL.row t tr.1 tr.2 l hlm
    have hf2 := hR2.cm.few
    have tk : ∀ cs3 : Came,Ext cs2 cs3 → (∃ v,getC cs3 l.1 = some v) → ∀ m ∈ (rowL L t).take (j + 1),∃ v,getC cs3 m.1 = some v := fun cs3 hE hv m hm2 => by
      rw [List.take_add_one,hl] at hm2
      rcases List.mem_append.mp hm2 with z | z
      · obtain ⟨v,e⟩ := hcov m z; exact ⟨v,hE _ _ e⟩
      · have e : m = l := by simpa using z
        rw [e]; exact hv
    refine ⟨.inl l.1,rfl,?_⟩
    refine (ite2 (c := (!hasK (keysC cs2) (.inl l.1)) = true) (fun c => ?_) (fun c => ?_))
    rotate_left
    · rw [hasK_came] at c
      have : (getC cs2 l.1).isSome = true := by
        cases e : getC cs2 l.1 with
        | none => rw [e] at c; exact absurd rfl c
        | some v => rfl
      exact ⟨cs2,W2,_,_,rfl,hR2,hm,hW,⟨u2,tu2⟩,tk cs2 (fun _ _ e => e) (Option.isSome_iff_exists.mp this)⟩
    rw [hasK_came] at c
    have hnone : getC cs2 l.1 = none := by
      cases e : getC cs2 l.1 with
      | none => rfl
      | some v => rw [e] at c; cases c
    have ep := put_came (v := some (t,l.2)) hnone
    refine ⟨rfl,.inl l.1,rfl,by rw [came_len]; omega,?_⟩
    have epp : D.dic (putKs (keysC cs2) (.inl l.1)) (L2.putAt (keysC cs2) (valsC cs2) (.inl l.1) (D.tup [.int t,.int l.2])) = dCame (cs2 ++ [(l.1,some (t,l.2))]) := by
      unfold dCame; rw [← ep.1,← ep.2]; rfl
    rw [epp]
    refine ⟨rfl,by rw [List.length_map]; omega,?_⟩
    have hE : Ext cs2 (cs2 ++ [(l.1,some (t,l.2))]) := fun x u e => get_keep hnone e
    have hnew : getC (cs2 ++ [(l.1,some (t,l.2))]) l.1 = some (some (t,l.2)) := by rw [get_snoc hnone,if_pos rfl]
    have hsy : JoP ps as l.1 t l.2 := ⟨(hL.row l.1 hlk.t0 hlk.t1 _ (hL.sym t tr.1 tr.2 l hlm)).1,hlk.k0,hlk.k1⟩
    have ln : getC cs l.1 = none := by
      cases e : getC cs l.1 with
      | none => rfl
      | some v => rw [hR2.ex _ _ e] at hnone; cases hnone
    refine ⟨cs2 ++ [(l.1,some (t,l.2))],W2 ++ [l.1],some (.int l.1),some (.int l.2),?_,⟨.link hR2.cm hnone hlk.t0 hlk.t1 tu2 hsy,fun x u e => hE _ _ (hR2.ex _ _ e),fun x u e en => ?_,?_,fun x hx => ?_,fun x u e en hx hnow m hm2 => ?_⟩,?_,?_,⟨u2,hE _ _ tu2⟩,tk _ hE ⟨_,hnew⟩⟩
    · rw [show dInts (W2 ++ [l.1]) = .lst (W2.map D.int ++ [.int l.1]) by unfold dInts; rw [List.map_append]; rfl]; rfl
    · rw [get_snoc hnone] at e
      split at e
      · rename_i z
        obtain ⟨p,b⟩ := hR2.nw t u2 tu2 tn
        rw [← z]
        exact ⟨(l.1,l.2) :: p,.step hnew (b.keep hnone)⟩
      · obtain ⟨p,b⟩ := hR2.nw x u e en
        exact ⟨p,b.keep hnone⟩
    · obtain ⟨u,e⟩ := hR2.fs; exact ⟨u,hE _ _ e⟩
    · rcases List.mem_append.mp hx with z | z
      · obtain ⟨a1,u,a2⟩ := hR2.wt x z; exact ⟨a1,u,hE _ _ a2⟩
      · rw [List.mem_singleton.mp z]; exact ⟨ln,_,hnew⟩
    · have hxl : ¬ l.1 = x := fun z => hx (by rw [← z]; exact List.mem_append_right _ (.head _))
      rw [get_snoc hnone,if_neg hxl] at e
      obtain ⟨v,ev⟩ := hR2.dn x u e en (fun z => hx (List.mem_append_left _ z)) hnow m hm2
      exact ⟨v,hE _ _ ev⟩
    · have hf3 := (Cm.link hR2.cm hnone hlk.t0 hlk.t1 tu2 hsy).few
      rw [List.length_append] at hf3 ⊢
      rw [List.length_append]
      show 2 * (ps.length - (cs2.length + 1)) + (W2.length + 1) + 1 ≤ _
      have : cs2.length + 1 ≤ ps.length := hf3
      omega
    · rw [List.length_append,List.length_append]; show W2.length + 1 ≤ cs2.length + 1; omega
  · rintro ρ ⟨cs2,W2,v5,v6,rfl,hR2,hm,hW,⟨u2,tu2⟩,hcov⟩
    rw [List.length_map,List.take_length] at hcov
    refine ⟨2 * (ps.length - cs2.length) + W2.length,by omega,cs2,W2,_,_,_,rfl,⟨hR2.cm,hR2.ex,hR2.nw,hR2.fs,hR2.wt,fun x u e en hx _ m hm2 => ?_⟩,hW,rfl⟩
    by_cases ex : x = t
    · rw [ex] at hm2; exact hcov m hm2
    · exact hR2.dn x u e en hx (fun z => ex (by injection z with z; exact z.symm)) m hm2
end
end K50
namespace K50
open PySem L2
section
variable {P : Program} {w : World} {K : PySem.W.Frag} {mg : Str → Option Value} {base : Heap} {A : Adr}
def sdPath : SpD := fun ds q => ∃ cs x p r,ds = [dCame cs,.int x] ∧ Back cs x p r ∧ p.length ≤ 23 ∧ q (dLks p) []
theorem lks_snoc (ls : List (Int × Int)) (l : Int × Int) : D.lst (ls.map dLk ++ [dLk l]) = dLks (ls ++ [l]) := by unfold dLks; rw [List.map_append]; rfl
theorem ok_q14 (T : Txt K mg A) : FnOk P w K mg base CX0 1 A.f_q14 A.d_q14 ["came","tie"] (spOf [false,false] true (sdPath)) := by
  have S := sc_q14
  refine fnD T.F_q14 S ⟨[false,false],[false,false,true,false,false],true⟩ _ ?hl rfl rfl fun cdv Ar outer s H E hr => ⟨_,(qss_cons (qs_setO (i := 2) S.nd rfl (Or.inl rfl) (qf_lst qa_nil))
      (qss_cons (qs_while PassesOwn.never (qt_cmp op_notN dNotN (qe_dget (hu_of hr) (qe_var 0) (qe_var 1)) qe_non (nomark _)) (qss_cons (qs_asg (qe_dget (hu_of hr) (qe_var 0) (qe_var 1)) (qg_tup rfl (qgs_cons (qg_name (i := 3) S.nd rfl (Or.inl rfl)) (qgs_cons (qg_name (i := 4) S.nd rfl (Or.inl rfl)) qgs_nil)) (takes_cons1 (takes_cons1 takes_nil))))
      (qss_cons (qs_append (i := 2) rfl (QE.qf (qe_tup (qa_cons (qe_var 1) (qa_cons (qe_var 4) qa_nil)))))
      (qss_one (qs_set (i := 1) S.nd rfl (Or.inl rfl) (qe_var 3))))))
      (qss_one (qs_retM (qm_move 2))))),fun ds q h => ?_⟩
  case hl => intro ds q h; obtain ⟨cs,x,p,r,rfl,_⟩ := h; rfl
  obtain ⟨cs,x,p,r,rfl,hB,hl,q0⟩ := h
  refine ⟨rfl,?_⟩
  refine ⟨fun m ρ => ∃ acc y p' v3 v4,ρ = [some (dCame cs),some (.int y),some (dLks acc),v3,v4] ∧ Back cs y p' r ∧ p = acc ++ p' ∧ m = p'.length,⟨_,[],x,p,_,_,rfl,hB,rfl,rfl⟩,?_⟩
  rintro m ρ ⟨acc,y,p',v3,v4,rfl,hB',rfl,rfl⟩
  rw [List.length_append] at hl
  cases hB' with
  | root e =>
    refine ⟨.inl r,.non,rfl,by rw [valD_came,e]; rfl,?_⟩
    rw [List.append_nil] at q0
    exact q0
  | @step _ t k _ p2 e hb =>
    refine ⟨.inl y,dLk (t,k),rfl,by rw [valD_came,e]; rfl,?_⟩
    refine ⟨.inl y,dLk (t,k),rfl,by rw [valD_came,e]; rfl,?_⟩
    refine ⟨rfl,by show (acc.map dLk).length < 1000; rw [List.length_map]; omega,?_⟩
    refine ⟨p2.length,Nat.lt_succ_self _,acc ++ [(y,k)],t,p2,some (.int t),some (.int k),?_,hb,by rw [List.append_assoc]; rfl,rfl⟩
    rw [← lks_snoc]; rfl
def parC (cs : Came) (x : Int) : Int := match getC cs x with
  | some (some l) => l.1
  | _ => 0
def tnF (ps : List Int) (cs : Came) : D → Option D
  | .tup [.int a,.int _] => if apartB ps a (parC cs a) = true then some (.int 1) else none
  | _ => none
theorem turns_tw {ps : List Int} {cs : Came} {x r : Int} {p : List (Int × Int)} (h : Back cs x p r) : (((p.map dLk).filterMap (tnF ps cs)).length % 2 = 0) ↔ twP ps p r = false := by
  induction h with
  | root e => exact ⟨fun _ => rfl,fun _ => rfl⟩
  | @step x t k r p e hb ih =>
    have ep : parC cs x = t := by unfold parC; rw [e]
    have ef : tnF ps cs (dLk (x,k)) = if apartB ps x (parC cs x) = true then some (.int 1) else none := rfl
    rw [List.map_cons,List.filterMap_cons,ef,ep]
    show _ ↔ (apartB ps x (hdP p r) != twP ps p r) = false
    rw [hb.hd]
    cases apartB ps x t with
    | true =>
      rw [if_pos rfl,List.length_cons]
      cases h2 : twP ps p r with
      | true => rw [h2] at ih; simp at ih ⊢; omega
      | false => rw [h2] at ih; simp at ih ⊢; omega
    | false =>
      rw [if_neg (by decide)]
      rw [ih]
      cases twP ps p r <;> decide
theorem back_mem {cs : Came} {x r : Int} {p : List (Int × Int)} (h : Back cs x p r) : ∀ l ∈ p,∃ t,getC cs l.1 = some (some (t,l.2)) := by
  induction h with
  | root e => intro l hl; cases hl
  | step e _ ih =>
    intro l hl
    rcases List.mem_cons.mp hl with rfl | hl
    · exact ⟨_,e⟩
    · exact ih l hl
def sdTextOf : SpD := fun ds q => ∃ ps rs as cs x p r,ds = [dPair ps rs,dCame cs,.int x] ∧ Tree ps rs ∧ Cm ps.length (JoP ps as) cs ∧ Back cs x p r ∧ p.length ≤ 23 ∧ q (.str (txt (!twP ps p r))) []
theorem ok_q27 (T : Txt K mg A) : FnOk P w K mg base CX0 6 A.f_q27 A.d_q27 ["tree","came","tie"] (spOf [false,false,false] false (sdTextOf)) := by
  have G_q12 := ok_q12 (P := P) (w := w) (base := base) T
  have G_q14 := ok_q14 (P := P) (w := w) (base := base) T
  have S := sc_q27
  refine fnD T.F_q27 S ⟨[false,false,false],[false,false,false,false],false⟩ _ ?hl rfl rfl fun cdv Ar outer s H E hr => ⟨_,(qss_cons (qs_setComp (i := 3) ["low","number"] [0,1] ⟨rfl,rfl,by decide +kernel,rfl,rfl,(by first | exact trivial | exact ⟨rfl,trivial⟩ | exact ⟨rfl,rfl,trivial⟩ | exact ⟨rfl,rfl,rfl,trivial⟩ | exact ⟨rfl,rfl,rfl,rfl,trivial⟩),rfl⟩ rfl S.nd rfl (Or.inl rfl) (qi_list (QF.qe (qf_call (G_q14) (hr.mono (by decide)) rfl T.m_q14 T.k_q14 T.b_q14 (qk_s (qe_var 1) (qk_s (qe_var 2) qk_nil))))) (cg_tup (cgs_cons (cg_name 0) (cgs_cons (cg_name 1) cgs_nil)) (takes_cons1 (takes_cons1 takes_nil))) (fun _ _ _ _ => ⟨(pg_tup rfl (pgs_cons (pg_name (i := 0) (show List.Nodup (["low","number","tree","came"] : List Str) by decide +kernel) rfl (Or.inl rfl)) (pgs_cons (pg_name (i := 1) (show List.Nodup (["low","number","tree","came"] : List Str) by decide +kernel) rfl (Or.inl rfl)) pgs_nil))),(qif_one (qt_val (qe_call (G_q12) (hr.mono (by decide)) rfl T.m_q12 T.k_q12 T.b_q12 (qk_s (qe_var 2) (qk_s (qe_var 0) (qk_s (qe_ix ix_seq dIx (qe_dget (hu_of hr) (qe_var 3) (qe_var 0)) qe_int (fun _ _ => rfl)) qk_nil)))))),qe_int⟩))
      (qss_one (qs_ret (qe_ifExp (qt_cmp (op_eqD hr.units) dEq (qe_op op_mod dIC (qe_callB call_len_seq dLen rfl T.z_len bt_len (qa_cons (qe_var 3) qa_nil)) qe_int) qe_int (nomark _)) qe_str qe_str)))),fun ds q h => ?_⟩
  case hl => intro ds q h; obtain ⟨ps,rs,as,cs,x,p,r,rfl,_⟩ := h; rfl
  obtain ⟨ps,rs,as,cs,x,p,r,rfl,hT,hc,hB,hl,q0⟩ := h
  refine ⟨cs,x,p,r,rfl,hB,hl,?_⟩
  refine ⟨by rw [List.length_map]; omega,?_⟩
  refine compD_fm (tnF ps cs) ?_ ?_
  · intro d hd k hk
    obtain ⟨l,hm,rfl⟩ := List.mem_map.mp hd
    obtain ⟨t,e⟩ := back_mem hB l hm
    have r1 := hc.rng e
    obtain ⟨_,u,et⟩ := hc.par e
    have r2 := hc.rng et
    have ep : parC cs l.1 = t := by unfold parC; rw [e]
    have hk' : k (if apartB ps l.1 (parC cs l.1) = true then some (.int 1) else none) := hk
    rw [ep] at hk'
    refine ⟨.inl l.1,dLk (t,l.2),rfl,by rw [valD_came,e]; rfl,?_⟩
    refine ⟨ps,rs,l.1,t,rfl,hT,r1.1,r1.2,r2.1,r2.2,?_⟩
    cases ea : apartB ps l.1 t with
    | true => rw [ea] at hk'; exact hk'
    | false => rw [ea] at hk'; exact hk'
  have ht := turns_tw (ps := ps) hB
  generalize (p.map dLk).filterMap (tnF ps cs) = ts at ht
  refine ⟨(show (0 : Int) < 2 by decide),?_⟩
  refine (ite2 (c := decide (((ts.length : Nat) : Int) % 2 = 0) = true) (fun c => ?_) (fun c => ?_))
  · rw [ht.mp (by have := of_decide_eq_true c; omega)] at q0
    exact q0
  · have h1 : ¬ ts.length % 2 = 0 := fun z => c (decide_eq_true (by omega))
    have h2 : twP ps p r = true := by
      cases e : twP ps p r with
      | true => rfl
      | false => exact absurd (ht.mpr e) h1
    rw [h2] at q0
    exact q0
def sdClash : SpD := fun ds q => ∃ ps rs as L bs b,ds = [dPair ps rs,.lst (L.map dLks),dTx bs] ∧ Tree ps rs ∧ LnOk ps as b L ∧ bs.length = ps.length ∧
  ((∀ x : Int,1 ≤ x → x ≤ ps.length → ∀ l ∈ rowL L x,(wd bs x != wd bs l.1) = apartB ps x l.1) → q .non []) ∧
  ∀ (x : Int) l,1 ≤ x → x ≤ ps.length → l ∈ rowL L x → (((wd bs x != wd bs l.1) != apartB ps x l.1) = true) → q (.tup [.int x,.int l.1,.int l.2]) []
theorem ok_q6 (T : Txt K mg A) : FnOk P w K mg base CX0 6 A.f_q6 A.d_q6 ["tree","links","texts"] (spOf [false,false,false] false (sdClash)) := by
  have G_q12 := ok_q12 (P := P) (w := w) (base := base) T
  have S := sc_q6
  refine fnD T.F_q6 S ⟨[false,false,false],[false,false,false,false,false,false,false],false⟩ _ ?hl rfl rfl fun cdv Ar outer s H E hr => ⟨_,(qss_cons (qs_for PassesOwn.never rfl (qi_enum rfl T.z_enumerate (qa_cons (qe_var 1) qa_nil)) (qg_tup rfl (qgs_cons (qg_name (i := 3) S.nd rfl (Or.inl rfl)) (qgs_cons (qg_name (i := 4) S.nd rfl (Or.inl rfl)) qgs_nil)) (takes_cons1 (takes_cons1 takes_nil))) (qss_one (qs_for PassesOwn.never rfl (qi_list (qe_var 4)) (qg_tup rfl (qgs_cons (qg_name (i := 5) S.nd rfl (Or.inl rfl)) (qgs_cons (qg_name (i := 6) S.nd rfl (Or.inl rfl)) qgs_nil)) (takes_cons1 (takes_cons1 takes_nil))) (qss_one (qs_if (qt_cmp (op_neD hr.units) dNe (qe_cmp (op_neD hr.units) dNe (qe_ix ix_seq dIx (qe_var 2) (qe_var 3) (fun _ _ => rfl)) (qe_ix ix_seq dIx (qe_var 2) (qe_op op_sub dI (qe_var 5) qe_int) (fun _ _ => rfl)) (nomark _)) (qe_call (G_q12) (hr.mono (by decide)) rfl T.m_q12 T.k_q12 T.b_q12 (qk_s (qe_var 0) (qk_s (qe_op op_add dI (qe_var 3) qe_int) (qk_s (qe_var 5) qk_nil)))) (nomark _)) (qss_one (qs_ret (qe_tup (qa_cons (qe_op op_add dI (qe_var 3) qe_int) (qa_cons (qe_var 5) (qa_cons (qe_var 6) qa_nil)))))) qss_nil)))))
      (qss_one (qs_ret qe_non))),fun ds q h => ?_⟩
  case hl => intro ds q h; obtain ⟨ps,rs,as,L,bs,b,rfl,_⟩ := h; rfl
  obtain ⟨ps,rs,as,L,bs,b,rfl,hT,hL,hb,q0,q1⟩ := h
  have hti := hT.hi
  have hln := hL.len
  refine ⟨fun i ρ => ∃ v3 v4 v5 v6,ρ = [some (dPair ps rs),some (.lst (L.map dLks)),some (dTx bs),v3,v4,v5,v6] ∧ ∀ x : Int,1 ≤ x → x ≤ (i : Int) → ∀ l ∈ rowL L x,(wd bs x != wd bs l.1) = apartB ps x l.1,⟨_,_,_,_,rfl,fun x h0 h1 => by omega⟩,?_,?_⟩
  rotate_left
  · rintro ρ ⟨v3,v4,v5,v6,rfl,hA⟩
    rw [enuD_len,List.length_map,hln] at hA
    exact q0 hA
  rintro i d ρ hd ⟨v3,v4,v5,v6,rfl,hA⟩
  obtain ⟨d',hd',rfl⟩ := enuD_at hd
  have hil : i < L.length := by have := (List.getElem?_eq_some_iff.mp hd').1; rw [List.length_map] at this; exact this
  have g1 := sub_at (L := L) (t := (i : Int) + 1) (by omega) (by omega)
  have ed : d' = .lst ((rowL L ((i : Int) + 1)).map dLk) := by
    have := g1.2
    rw [show ((i : Int) + 1 - 1).toNat = i by omega,hd'] at this
    exact Option.some.inj this
  subst ed
  refine ⟨fun j ρ => ∃ v5 v6,ρ = [some (dPair ps rs),some (.lst (L.map dLks)),some (dTx bs),some (.int (i : Int)),some (.lst ((rowL L ((i : Int) + 1)).map dLk)),v5,v6] ∧ ∀ l ∈ (rowL L ((i : Int) + 1)).take j,(wd bs ((i : Int) + 1) != wd bs l.1) = apartB ps ((i : Int) + 1) l.1,⟨_,_,rfl,fun l h => (by cases h)⟩,?_,?_⟩
  rotate_left
  · rintro ρ ⟨v5,v6,rfl,hp⟩
    rw [List.length_map,List.take_length] at hp
    refine ⟨_,_,_,_,rfl,fun x x0 x1 l hl => ?_⟩
    by_cases e : x = (i : Int) + 1
    · rw [e] at hl ⊢; exact hp l hl
    · exact hA x x0 (by omega) l hl
  rintro j d ρ hd ⟨v5,v6,rfl,hp⟩
  obtain ⟨l,hl,rfl⟩ : ∃ l,(rowL L ((i : Int) + 1))[j]? = some l ∧ dLk l = d := by rw [List.getElem?_map] at hd; exact Option.map_eq_some_iff.mp hd
  have hlm := List.mem_of_getElem? hl
  obtain ⟨_,hlk⟩ := hL.row ((i : Int) + 1) (by omega) (by omega) l hlm
  have l0 := hlk.t0; have l1 := hlk.t1
  have a1 := tx_at (bs := bs) (t := (i : Int) + 1) (by omega) (by omega)
  rw [show (i : Int) + 1 - 1 = (i : Int) by omega] at a1
  have a2 := tx_at (bs := bs) (t := l.1) (by omega) (by omega)
  refine atD_of a1 ?_
  refine atD_of a2 ?_
  refine ⟨ok_txt _,ok_txt _,?_⟩
  have w1 : wd bs ((i : Int) + 1) = bs.getD (i : Int).toNat false := by unfold wd; rw [show (i : Int) + 1 - 1 = (i : Int) by omega]
  have w2 : wd bs l.1 = bs.getD (l.1 - 1).toNat false := rfl
  have hq1 := q1 ((i : Int) + 1) l (by omega) (by omega) hlm
  have go : (wd bs ((i : Int) + 1) != wd bs l.1) = apartB ps ((i : Int) + 1) l.1 → ∀ m ∈ (rowL L ((i : Int) + 1)).take (j + 1),(wd bs ((i : Int) + 1) != wd bs m.1) = apartB ps ((i : Int) + 1) m.1 := fun e m hm => by
    rw [List.take_add_one,hl] at hm
    rcases List.mem_append.mp hm with z | z
    · exact hp m z
    · have em : m = l := by simpa using z
      rw [em]; exact e
  generalize hG : (∀ m ∈ (rowL L ((i : Int) + 1)).take (j + 1),(wd bs ((i : Int) + 1) != wd bs m.1) = apartB ps ((i : Int) + 1) m.1) = Gd at go
  rw [eq_txt]
  refine ⟨ps,rs,(i : Int) + 1,l.1,rfl,hT,by omega,by omega,l0,l1,?_⟩
  rw [w1,w2] at hq1
  rw [w1,w2] at go
  generalize bs.getD (i : Int).toNat false = p1 at hq1 go
  generalize bs.getD (l.1 - 1).toNat false = p2 at hq1 go
  generalize apartB ps ((i : Int) + 1) l.1 = p3 at hq1 go
  cases p1 <;> cases p2 <;> cases p3
  all_goals
    refine ⟨rfl,rfl,?_⟩
    first
    | exact hq1 rfl
    | exact ⟨_,_,rfl,hG.mpr (go rfl)⟩
theorem dn_rev {cs : Came} {C : List (Int × Int)} {r : Int} : ∀ {Q : List (Int × Int)} {x : Int},Back cs x (Q ++ C) r → dnP Q (hdP C r) = Q.reverse.map fun l => (parC cs l.1,l.2)
  | [],_,_ => rfl
  | l :: Q,x,h => by
    cases h with
    | @step _ t k _ _ e hb =>
      have hb' : Back cs t (Q ++ C) r := hb
      show dnP Q (hdP C r) ++ [(hdP Q (hdP C r),k)] = _
      rw [dn_rev hb',List.reverse_cons,List.map_append]
      have h2 := hb'.hd
      rw [hd_app] at h2
      have ep : parC cs x = t := by unfold parC; rw [e]
      rw [h2]
      show _ = _ ++ [(parC cs x,k)]
      rw [ep]
theorem imms_lks : ∀ ls : List (Int × Int),imms (ls.map dLk) = true
  | [] => rfl
  | l :: ls => by rw [List.map_cons,imms,imms_lks ls]; rfl
theorem lay_lk (l : Int × Int) : lay 1 (dLk l) = true := rfl
theorem okD_lk (l : Int × Int) : okD (dLk l) = true := okD_lay (lay_lk l) (by decide)
theorem eqD_lk (a b : Int × Int) : eqD (dLk a) (dLk b) = decide (a = b) := by
  obtain ⟨a1,a2⟩ := a; obtain ⟨b1,b2⟩ := b
  rw [Bool.eq_iff_iff,decide_eq_true_iff]
  unfold eqD dLk
  simp [toP,toPs,PyData.eqv,PyData.eqvAll]
def sdThrough : SpD := fun ds q => ∃ cs x y k p1 p2 r,ds = [dCame cs,.int x,.int y,.int k] ∧ Back cs x p1 r ∧ Back cs y p2 r ∧ p1.length ≤ 23 ∧ p2.length ≤ 23 ∧ ∀ P Q C,p1 = P ++ C → p2 = Q ++ C → q (dLks (P ++ (dnP Q (hdP C r) ++ [(y,k)]))) []
theorem ok_q5 (T : Txt K mg A) : FnOk P w K mg base CX0 2 A.f_q5 A.d_q5 ["came","one","other","closing"] (spOf [false,false,false,false] true (sdThrough)) := by
  have G_q14 := ok_q14 (P := P) (w := w) (base := base) T
  have S := sc_q5
  refine fnD T.F_q5 S ⟨[false,false,false,false],[false,false,false,false,true,true],true⟩ _ ?hl rfl rfl fun cdv Ar outer s H E hr => ⟨_,(qss_cons (qs_setO (i := 4) S.nd rfl (Or.inl rfl) (qf_call (G_q14) (hr.mono (by decide)) rfl T.m_q14 T.k_q14 T.b_q14 (qk_s (qe_var 0) (qk_s (qe_var 1) qk_nil))))
      (qss_cons (qs_setO (i := 5) S.nd rfl (Or.inl rfl) (qf_call (G_q14) (hr.mono (by decide)) rfl T.m_q14 T.k_q14 T.b_q14 (qk_s (qe_var 0) (qk_s (qe_var 2) qk_nil))))
      (qss_cons (qs_cut (qs_while PassesOwn.never (QT.bor [4,5] (QW.qt (qw_and (qt_truth (qe_var 4)) (qw_and (qt_truth (qe_var 5)) (qw_and1 (qt_cmp (op_eqD hr.units) dEq (qe_ix ix_seq dIx (qe_var 4) (qe_neg qe_int) (fun _ _ => rfl)) (qe_ix ix_seq dIx (qe_var 5) (qe_neg qe_int) (fun _ _ => rfl)) (nomark _))))))) (qss_cons (qs_expr (qe_pop (i := 4) rfl))
      (qss_one (qs_expr (qe_pop (i := 5) rfl))))))
      (qss_one (qs_retM (QF.qm (QF.bor [4,5] (qf_mk op_cat dCat (qe_mk op_cat dCat (qe_var 4) (qe_comp ["tie","number"] [0] ⟨rfl,rfl,by decide +kernel,rfl,rfl,(by first | exact trivial | exact ⟨rfl,trivial⟩ | exact ⟨rfl,rfl,trivial⟩ | exact ⟨rfl,rfl,rfl,trivial⟩ | exact ⟨rfl,rfl,rfl,rfl,trivial⟩),rfl⟩ rfl (qi_rev rfl T.z_reversed (qa_cons (qe_var 5) qa_nil)) (cg_tup (cgs_cons (cg_name 0) (cgs_cons (cg_name 1) cgs_nil)) (takes_cons1 (takes_cons1 takes_nil))) (fun _ _ _ _ => ⟨(pg_tup rfl (pgs_cons (pg_name (i := 0) (show List.Nodup (["tie","number","came"] : List Str) by decide +kernel) rfl (Or.inl rfl)) (pgs_cons (pg_name (i := 1) (show List.Nodup (["tie","number","came"] : List Str) by decide +kernel) rfl (Or.inl rfl)) pgs_nil))),qif_nil,(qe_tup (qa_cons (qe_ix ix_seq dIx (qe_dget (hu_of hr) (qe_var 2) (qe_var 0)) qe_int (fun _ _ => rfl)) (qa_cons (qe_var 1) qa_nil)))⟩))) (qe_lst (qa_cons (qe_tup (qa_cons (qe_var 2) (qa_cons (qe_var 3) qa_nil))) qa_nil)))))))))),fun ds q h => ?_⟩
  case hl => intro ds q h; obtain ⟨cs,x,y,k,p1,p2,r,rfl,_⟩ := h; rfl
  obtain ⟨cs,x,y,k,p1,p2,r,rfl,hB1,hB2,l1,l2,q0⟩ := h
  refine ⟨cs,x,p1,r,rfl,hB1,l1,?_⟩
  refine ⟨cs,y,p2,r,rfl,hB2,l2,?_⟩
  refine ⟨fun ρ => ∃ P Q C,ρ = [some (dCame cs),some (.int x),some (.int y),some (.int k),some (dLks P),some (dLks Q)] ∧ p1 = P ++ C ∧ p2 = Q ++ C,?_,?_⟩
  rotate_left
  · rintro ρ ⟨P,Q,C,rfl,e1,e2⟩
    have hf := q0 P Q C e1 e2
    rw [e2] at hB2 l2
    rw [dn_rev hB2] at hf
    rw [e1] at l1
    rw [List.length_append] at l1 l2
    refine ⟨by rw [List.length_reverse,List.length_map]; omega,?_⟩
    refine compD_map (fun d => dLk (parC cs (lkOf d).1,(lkOf d).2)) ?_ ?_
    · intro d hd kk hk
      rw [List.mem_reverse] at hd
      obtain ⟨l,hm,rfl⟩ := List.mem_map.mp hd
      obtain ⟨t,e⟩ := back_mem hB2 l (List.mem_append_left _ hm)
      have ep : parC cs l.1 = t := by unfold parC; rw [e]
      refine ⟨.inl l.1,dLk (t,l.2),rfl,by rw [valD_came,e]; rfl,?_⟩
      rw [show lkOf (dLk l) = l from rfl,ep] at hk
      exact hk
    have em : (((Q.map dLk).reverse).map fun d => dLk (parC cs (lkOf d).1,(lkOf d).2)) = (Q.reverse.map fun l => (parC cs l.1,l.2)).map dLk := by
      rw [← List.map_reverse,List.map_map,List.map_map]; rfl
    rw [em]
    refine ⟨by rw [List.length_map,List.length_map,List.length_map,List.length_reverse]; omega,?_⟩
    refine ⟨by rw [List.length_append,List.length_map,List.length_map,List.length_map,List.length_reverse]; show _ + 1 ≤ 1000; omega,?_⟩
    have ef : dLks (P ++ ((Q.reverse.map fun l => (parC cs l.1,l.2)) ++ [(y,k)])) = .lst ((P.map dLk ++ (Q.reverse.map fun l => (parC cs l.1,l.2)).map dLk) ++ [dLk (y,k)]) := by
      unfold dLks; rw [List.map_append,List.map_append,List.append_assoc]; rfl
    rw [ef] at hf
    exact ⟨imms_app (imms_app (imms_lks _) (imms_lks _)) rfl,hf⟩
  refine ⟨fun m ρ => ∃ P Q C,ρ = [some (dCame cs),some (.int x),some (.int y),some (.int k),some (dLks P),some (dLks Q)] ∧ p1 = P ++ C ∧ p2 = Q ++ C ∧ m = P.length,⟨_,p1,p2,[],rfl,(List.append_nil _).symm,(List.append_nil _).symm,rfl⟩,?_⟩
  rintro m ρ ⟨P,Q,C,rfl,e1,e2,rfl⟩
  rcases List.eq_nil_or_concat P with rfl | ⟨P0,a,rfl⟩
  · exact ⟨[],Q,C,rfl,e1,e2⟩
  have em : ∀ (L : List (Int × Int)) (l : Int × Int),(L.concat l).map dLk = L.map dLk ++ [dLk l] := fun L l => by rw [List.concat_eq_append,List.map_append]; rfl
  have hne : ∀ (L : List (Int × Int)) (l : Int × Int),(!((L.concat l).map dLk).isEmpty) = true := fun L l => by rw [em]; cases L <;> rfl
  have hg : ∀ (L : List (Int × Int)) (l : Int × Int),((L.concat l).map dLk)[((L.concat l).map dLk).length - 1]? = some (dLk l) := fun L l => by
    rw [em,List.length_append]
    show (L.map dLk ++ [dLk l])[(L.map dLk).length + 1 - 1]? = _
    rw [Nat.add_sub_cancel,List.getElem?_append_right (Nat.le_refl _),Nat.sub_self]; rfl
  have hat : ∀ (L : List (Int × Int)) (l : Int × Int),atI ((L.concat l).map dLk) (-1) = some (dLk l) := fun L l => by
    rw [em]; exact atI_last _ _
  have hdl : ∀ (L : List (Int × Int)) (l : Int × Int),((L.concat l).map dLk).dropLast = L.map dLk := fun L l => by rw [em,List.dropLast_concat]
  refine (ite2 (c := (!((P0.concat a).map dLk).isEmpty) = true) (fun _ => ?_) (fun c => absurd (hne P0 a) c))
  rcases List.eq_nil_or_concat Q with rfl | ⟨Q0,b,rfl⟩
  · exact ⟨_,[],C,rfl,e1,e2⟩
  refine (ite2 (c := (!((Q0.concat b).map dLk).isEmpty) = true) (fun _ => ?_) (fun c => absurd (hne Q0 b) c))
  refine atD_of (hat P0 a) ?_
  refine atD_of (hat Q0 b) ?_
  refine ⟨okD_lk a,okD_lk b,?_⟩
  rw [eqD_lk]
  refine (ite2 (c := decide (a = b) = true) (fun c => ?_) (fun c => ⟨_,_,C,rfl,e1,e2⟩))
  have eab := of_decide_eq_true c
  show (match ((P0.concat a).map dLk)[((P0.concat a).map dLk).length - 1]? with | some d => _ | none => False)
  rw [hg,hdl]
  refine ⟨rfl,?_⟩
  show (match ((Q0.concat b).map dLk)[((Q0.concat b).map dLk).length - 1]? with | some d => _ | none => False)
  rw [hg,hdl]
  refine ⟨rfl,?_⟩
  refine ⟨P0.length,by rw [List.concat_eq_append,List.length_append]; exact Nat.lt_succ_self _,P0,Q0,a :: C,rfl,?_,?_,rfl⟩
  · rw [e1,List.concat_eq_append,List.append_assoc]; rfl
  · rw [e2,List.concat_eq_append,List.append_assoc,← eab]; rfl
theorem Cm.imp {n : Nat} {E E' : Int → Int → Int → Prop} (h : ∀ a b k,E a b k → E' a b k) {cs : Came} (hc : Cm n E cs) : Cm n E' cs := by
  induction hc with
  | nil => exact .nil
  | root _ a b c ih => exact .root ih a b c
  | link _ a b c d e ih => exact .link ih a b c d (h _ _ _ e)
def wB (ps : List Int) (cs : Came) (x : Int) : Bool := @decide (∃ p r,Back cs x p r ∧ twP ps p r = false) (Classical.propDecidable _)
theorem wB_of {ps : List Int} {cs : Came} {x r : Int} {p : List (Int × Int)} (h : Back cs x p r) : wB ps cs x = !twP ps p r := by
  unfold wB
  cases e : twP ps p r with
  | false => exact @decide_eq_true _ (Classical.propDecidable _) ⟨p,r,h,e⟩
  | true =>
    refine @decide_eq_false _ (Classical.propDecidable _) fun ⟨p',r',h',e'⟩ => ?_
    obtain ⟨rfl,rfl⟩ := h.det h'
    rw [e] at e'; cases e'
def bsC (ps : List Int) (cs : Came) (n : Nat) : List Bool := (List.range n).map fun i => wB ps cs ((1 : Int) + (i : Nat))
theorem bsC_len (ps : List Int) (cs : Came) (n : Nat) : (bsC ps cs n).length = n := by unfold bsC; rw [List.length_map,List.length_range]
theorem bsC_wd {ps : List Int} {cs : Came} {n : Nat} {x : Int} (h0 : 1 ≤ x) (h1 : x ≤ n) : wd (bsC ps cs n) x = wB ps cs x := by
  unfold wd bsC
  rw [List.getD_eq_getElem?_getD,List.getElem?_map,List.getElem?_range (by omega)]
  show wB ps cs (1 + (((x - 1).toNat : Nat) : Int)) = _
  rw [show 1 + (((x - 1).toNat : Nat) : Int) = x by omega]
def txF (ps : List Int) (cs : Came) : D → D
  | .int x => .str (txt (wB ps cs x))
  | d => d
theorem thr_ok {n : Nat} {ps : List Int} {as : List Ask} {cs : Came} {x y k r : Int} {P Q C : List (Int × Int)} (hc : Cm n (JoP ps as) cs) (h1 : Back cs x (P ++ C) r) (h2 : Back cs y (Q ++ C) r) (hy : LkOk n as.length (y,k)) : ∀ m ∈ P ++ (dnP Q (hdP C r) ++ [(y,k)]),LkOk n as.length m := fun m hm => by
  have one : ∀ {x : Int} {p : List (Int × Int)},Back cs x p r → ∀ l ∈ p,LkOk n as.length l ∧ LkOk n as.length (parC cs l.1,l.2) := fun hb l hl => by
    obtain ⟨t,e⟩ := back_mem hb l hl
    have r1 := hc.rng e
    obtain ⟨⟨_,k0,k1⟩,u,et⟩ := hc.par e
    have r2 := hc.rng et
    have ep : parC cs l.1 = t := by unfold parC; rw [e]
    rw [ep]
    exact ⟨⟨r1.1,r1.2,k0,k1⟩,r2.1,r2.2,k0,k1⟩
  rcases List.mem_append.mp hm with z | z
  · exact (one h1 m (List.mem_append_left _ z)).1
  · rcases List.mem_append.mp z with z | z
    · rw [dn_rev h2] at z
      obtain ⟨l,hl,rfl⟩ := List.mem_map.mp z
      exact (one h2 l (List.mem_append_left _ (List.mem_reverse.mp hl))).2
    · rw [List.mem_singleton.mp z]; exact hy
theorem ring_b {ps : List Int} {as : List Ask} {ls : List (Int × Int)} (h3 : 3 ≤ ls.length) (h61 : ls.length ≤ 61) (hk : ∀ l ∈ ls,LkOk ps.length as.length l) (hr : ringZ ps as ls = true) : ringB ps as (dLks ls) = true := by
  show ((decide (3 ≤ (ls.map dLk).length) && decide ((ls.map dLk).length ≤ 61)) && ((ls.map dLk).all (linkB ps.length as.length) && ringZ ps as ((ls.map dLk).map lkOf))) = true
  rw [lk_map,hr,List.length_map,decide_eq_true h3,decide_eq_true h61,List.all_map]
  rw [Bool.and_true,Bool.and_true,Bool.true_and]
  refine List.all_eq_true.mpr fun l hl => ?_
  have h := hk l hl
  have a := h.t0; have b := h.t1; have c := h.k0; have d := h.k1
  show (btw 1 ps.length (.int l.1) && btw 0 ((as.length : Int) - 1) (.int l.2)) = true
  unfold btw
  simp
  omega
theorem imms_tx : ∀ bs : List Bool,imms (bs.map fun b => D.str (txt b)) = true
  | [] => rfl
  | b :: bs => by rw [List.map_cons,imms,imms_tx bs]; rfl
def sdPointed : SpD := fun ds q => ∃ ps rs as,ds = [dPair ps rs,dAsks as] ∧ Tree ps rs ∧ AsksOk ps as ∧ (∀ bs,bs.length = ps.length → (∀ a ∈ as,runB ps a.one a.other bs = true) → q (.tup [.str "pointed",dTx bs]) []) ∧ ∀ R,ringB ps as (dLks R) = true → q (.tup [.str "ring",dLks R]) []
theorem ok_q26 (T : Txt K mg A) : FnOk P w K mg base CX0 9 A.f_q26 A.d_q26 ["tree","asks"] (spOf [false,false] true (sdPointed)) := by
  have G_q6 := ok_q6 (P := P) (w := w) (base := base) T
  have G_q21 := ok_q21 (P := P) (w := w) (base := base) T
  have G_q2 := ok_q2 (P := P) (w := w) (base := base) T
  have G_q11 := ok_q11 (P := P) (w := w) (base := base) T
  have G_q5 := ok_q5 (P := P) (w := w) (base := base) T
  have G_q27 := ok_q27 (P := P) (w := w) (base := base) T
  have S := sc_q26
  refine fnD T.F_q26 S ⟨[false,false],[false,false,false,false,true,false,true,false,false,false,false],true⟩ _ ?hl rfl rfl fun cdv Ar outer s H E hr => ⟨_,(qss_cons (qs_expr (qe_call (G_q2) (hr.mono (by decide)) rfl T.m_q2 T.k_q2 T.b_q2 (qk_s (qe_var 0) (qk_s (qe_var 1) qk_nil))))
      (qss_cons (qs_set (i := 2) S.nd rfl (Or.inl rfl) (QF.qe (qf_call (G_q21) (hr.mono (by decide)) rfl T.m_q21 T.k_q21 T.b_q21 (qk_s (qe_var 0) (qk_s (qe_var 1) qk_nil)))))
      (qss_cons (qs_set (i := 3) S.nd rfl (Or.inl rfl) (QF.qe (qf_lrng2 rfl rfl T.z_list bt_list rfl T.z_range bt_range (qa_cons qe_int (qa_cons (qe_op op_add dI (qe_callB call_len_seq dLen rfl T.z_len bt_len (qa_cons (qe_ix ix_seq dIx (qe_var 0) qe_int (fun _ _ => rfl)) qa_nil)) qe_int) qa_nil)))))
      (qss_cons (qs_setO (i := 4) S.nd rfl (Or.inr rfl) qf_dic0)
      (qss_cons (qs_for PassesOwn.never rfl (qi_list (qe_var 3)) (qg_name (i := 5) S.nd rfl (Or.inl rfl)) (qss_one (qs_if (QT.bor [4] (qt_cmp (op_notInK (hu_of hr)) dNinK (qe_var 5) (qe_var 4) rfl)) (qss_one (qs_expr (qe_call (G_q11) (hr.mono (by decide)) rfl T.m_q11 T.k_q11 T.b_q11 (qk_s (qe_var 5) (qk_s (qe_var 2) (qk_m 4 qk_nil)))))) qss_nil)))
      (qss_cons (qs_setCompBO (i := 6) [4] ["tie"] [0,4] ⟨rfl,rfl,by decide +kernel,rfl,rfl,(by first | exact trivial | exact ⟨rfl,trivial⟩ | exact ⟨rfl,rfl,trivial⟩ | exact ⟨rfl,rfl,rfl,trivial⟩ | exact ⟨rfl,rfl,rfl,rfl,trivial⟩),rfl⟩ rfl S.nd rfl (Or.inl rfl) (qi_list (qe_var 3)) (cg_name 0) (fun _ _ _ _ => ⟨(pg_name (i := 0) (show List.Nodup (["tie","tree","came"] : List Str) by decide +kernel) rfl (Or.inl rfl)),qif_nil,(qe_call (G_q27) (hr.mono (by decide)) rfl T.m_q27 T.k_q27 T.b_q27 (qk_s (qe_var 1) (qk_s (qe_var 2) (qk_s (qe_var 0) qk_nil))))⟩))
      (qss_cons (qs_set (i := 7) S.nd rfl (Or.inl rfl) (QE.bor [6] (qe_call (G_q6) (hr.mono (by decide)) rfl T.m_q6 T.k_q6 T.b_q6 (qk_s (qe_var 0) (qk_s (qe_var 2) (qk_s (qe_var 6) qk_nil))))))
      (qss_cons (qs_if (qt_cmp op_isN dIsN (qe_var 7) qe_non (nomark _)) (qss_one (qs_retM (qm_tup (qms_cons (QF.qm (QE.qf qe_str)) (qms_cons (qm_move 6) qms_nil))))) qss_nil)
      (qss_cons (qs_asg (qe_var 7) (qg_tup rfl (qgs_cons (qg_name (i := 8) S.nd rfl (Or.inl rfl)) (qgs_cons (qg_name (i := 9) S.nd rfl (Or.inl rfl)) (qgs_cons (qg_name (i := 10) S.nd rfl (Or.inl rfl)) qgs_nil))) (takes_cons1 (takes_cons1 (takes_cons1 takes_nil)))))
      (qss_one (qs_retM (qm_tup (qms_cons (QF.qm (QE.qf qe_str)) (qms_cons (QF.qm (QF.bor [4] (qf_call (G_q5) (hr.mono (by decide)) rfl T.m_q5 T.k_q5 T.b_q5 (qk_s (qe_var 4) (qk_s (qe_var 8) (qk_s (qe_var 9) (qk_s (qe_var 10) qk_nil))))))) qms_nil)))))))))))))),fun ds q h => ?_⟩
  case hl => intro ds q h; obtain ⟨ps,rs,as,rfl,_⟩ := h; rfl
  obtain ⟨ps,rs,as,rfl,hT,ha,q0,q1⟩ := h
  have hti := hT.hi
  refine ⟨ps,rs,as,rfl,hT,ha,?_⟩
  refine ⟨ps,rs,as,rfl,hT,ha,fun L hL hC => ?_⟩
  refine ⟨by rw [len_ints]; omega,?_⟩
  rw [show (((ps.map D.int).length : Int) + 1 - 1).toNat = ps.length by rw [len_ints]; omega]
  refine ⟨fun i ρ => ∃ cs v5 v6 v7 v8 v9 v10,ρ = [some (dPair ps rs),some (dAsks as),some (.lst (L.map dLks)),some (.lst (rngD 1 ps.length)),some (dCame cs),v5,v6,v7,v8,v9,v10] ∧ Cm ps.length (JoP ps as) cs ∧ Clo L ps.length cs ∧ ∀ t : Int,1 ≤ t → t ≤ (i : Int) → ∃ u,getC cs t = some u,⟨[],_,_,_,_,_,_,rfl,.nil,⟨fun x u h => (by cases h),fun x u h => (by cases h)⟩,fun t a b => absurd a (by omega)⟩,?_,?_⟩
  · rintro i d ρ hd ⟨cs,v5,v6,v7,v8,v9,v10,rfl,hc,hcl,hcov⟩
    obtain ⟨hi,rfl⟩ := rngD_at hd
    have go : ∀ cs' : Came,Ext cs cs' → (∃ u,getC cs' (1 + (i : Int)) = some u) → ∀ t : Int,1 ≤ t → t ≤ ((i + 1 : Nat) : Int) → ∃ u,getC cs' t = some u := fun cs' he h1 t t0 t1 => by
      by_cases e : t = 1 + (i : Int)
      · rw [e]; exact h1
      · obtain ⟨u,hu⟩ := hcov t t0 (by omega); exact ⟨u,he _ _ hu⟩
    refine ⟨.inl (1 + (i : Int)),rfl,?_⟩
    refine (ite2 (c := (!hasK (keysC cs) (.inl (1 + (i : Int)))) = true) (fun c => ?_) (fun c => ?_))
    · rw [hasK_came] at c
      have hnone : getC cs (1 + (i : Int)) = none := by
        cases e : getC cs (1 + (i : Int)) with
        | none => rfl
        | some v => rw [e] at c; cases c
      refine ⟨ps,as,L,cs,1 + (i : Int),690,rfl,hL,by omega,hti,hc,hcl,hnone,by omega,by omega,fun cs' hc' hcl' he hf => ?_⟩
      exact ⟨cs',_,_,_,_,_,_,rfl,hc',hcl',go cs' he hf⟩
    · rw [hasK_came] at c
      have : (getC cs (1 + (i : Int))).isSome = true := by
        cases e : getC cs (1 + (i : Int)) with
        | none => rw [e] at c; exact absurd rfl c
        | some v => rfl
      exact ⟨cs,_,_,_,_,_,_,rfl,hc,hcl,go cs (fun _ _ e => e) (Option.isSome_iff_exists.mp this)⟩
  · rintro ρ ⟨cs,v5,v6,v7,v8,v9,v10,rfl,hc,hcl,hcov⟩
    rw [rngD_len] at hcov
    have hfew := hc.few
    have hbk : ∀ x : Int,1 ≤ x → x ≤ ps.length → ∃ p r,Back cs x p r ∧ p.length ≤ 23 := fun x x0 x1 => by
      obtain ⟨u,hu⟩ := hcov x x0 x1
      obtain ⟨p,r,hb,hl⟩ := hc.back hu
      exact ⟨p,r,hb,by omega⟩
    refine ⟨by rw [rngD_len]; omega,?_⟩
    refine compD_map (txF ps cs) ?_ ?_
    · intro d hd k hk
      obtain ⟨i,hi⟩ := List.mem_iff_getElem?.mp hd
      obtain ⟨h1,rfl⟩ := rngD_at hi
      obtain ⟨p,r,hb,hl⟩ := hbk (1 + (i : Int)) (by omega) (by omega)
      refine ⟨ps,rs,as,cs,1 + (i : Int),p,r,rfl,hT,hc,hb,hl,?_⟩
      rw [← wB_of hb]
      exact hk
    have em : (rngD 1 ps.length).map (txF ps cs) = (bsC ps cs ps.length).map fun b => .str (txt b) := by
      unfold rngD bsC
      rw [List.map_map,List.map_map]; rfl
    rw [em]
    refine ⟨imms_tx _,?_⟩
    refine ⟨ps,rs,as,L,bsC ps cs ps.length,690,rfl,hT,hL,bsC_len _ _ _,fun hok => ?_,fun x l x0 x1 hl hcl2 => ?_⟩
    · refine ⟨rfl,rfl,q0 (bsC ps cs ps.length) (bsC_len _ _ _) fun a ha1 => ?_⟩
      obtain ⟨k,hk⟩ := List.mem_iff_getElem?.mp ha1
      have he := (ha.ok a ha1).ends
      refine run_chain hT he fun p hp => ?_
      have hm := hC k a (List.getElem?_eq_some_iff.mp hk).1 hk p hp
      have hw := way_mem hT he (mem_zip1 hp).1
      exact hok p.1 (by omega) hw.2 _ hm
    obtain ⟨hj,hlk⟩ := hL.row x x0 x1 l hl
    obtain ⟨ux,hux⟩ := hcov x x0 x1
    obtain ⟨p1,p2,r,hb1,hb2⟩ := hcl.rt x ux hux l hl
    obtain ⟨p1',r1',hb1',hl1⟩ := hbk x x0 x1
    obtain ⟨p2',r2',hb2',hl2⟩ := hbk l.1 hlk.t0 hlk.t1
    obtain ⟨rfl,rfl⟩ := hb1.det hb1'
    obtain ⟨rfl,rfl⟩ := hb2.det hb2'
    rw [bsC_wd x0 x1,bsC_wd hlk.t0 hlk.t1,wB_of hb1,wB_of hb2] at hcl2
    refine ⟨rfl,?_⟩
    refine ⟨rfl,cs,x,l.1,l.2,p1,p2,r,rfl,hb1,hb2,hl1,hl2,fun P Q C e1 e2 => ?_⟩
    rw [e1] at hb1 hcl2 hl1
    rw [e2] at hb2 hcl2 hl2
    rw [List.length_append] at hl1 hl2
    have hthr := ring_thr (k := l.2) (Cm.imp (fun _ _ _ h => h.1) hc) hb1 hb2 hj (by
      revert hcl2
      cases twP ps (P ++ C) r <;> cases twP ps (Q ++ C) r <;> cases apartB ps x l.1 <;> decide)
    refine q1 _ (ring_b hthr.2 ?_ (thr_ok hc hb1 hb2 hlk) hthr.1)
    rw [List.length_append,List.length_append,dn_len]
    show P.length + (Q.length + 1) ≤ 61
    omega
end
end K50
namespace K50
open PySem L2
section
variable {P : Program} {w : World} {K : PySem.W.Frag} {mg : Str → Option Value} {base : Heap} {A : Adr}
def sdLinkK : SpD := fun ds q => ∃ ps rs as l,ds = [dPair ps rs,dAsks as,dLk l] ∧ LkOk ps.length as.length l ∧ q (.bl true) []
theorem ok_q23 (T : Txt K mg A) : FnOk P w K mg base CX0 4 A.f_q23 A.d_q23 ["tree","asks","thing"] (spOf [false,false,false] false (sdLinkK)) := by
  have G_q10 := ok_q10 (P := P) (w := w) (base := base) T
  have G_q31 := ok_q31 (P := P) (w := w) (base := base) T
  have S := sc_q23
  refine fnD T.F_q23 S ⟨[false,false,false],[false,false,false],false⟩ _ ?hl rfl rfl fun cdv Ar outer s H E hr => ⟨_,(qss_cons (qs_if (QW.qt (qw_or (qt_not (qt_val (qe_isT rfl T.z_isinstance bt_isinstance (qe_var 2) (pe_bltn (v := .ty "tuple") rfl T.z_tuple bt_tuple rfl)))) (qw_or1 (qt_cmp (op_neD hr.units) dNe (qe_callB call_len_seq dLen rfl T.z_len bt_len (qa_cons (qe_var 2) qa_nil)) qe_int (nomark _))))) (qss_one (qs_ret qe_bl)) qss_nil)
      (qss_one (qs_ret (qe_and (qe_call (G_q31) (hr.mono (by decide)) rfl T.m_q31 T.k_q31 T.b_q31 (qk_s (qe_var 0) (qk_s (qe_ix ix_seq dIx (qe_var 2) qe_int (fun _ _ => rfl)) qk_nil))) (qe_one (qe_call (G_q10) (hr.mono (by decide)) rfl T.m_q10 T.k_q10 T.b_q10 (qk_s (qe_ix ix_seq dIx (qe_var 2) qe_int (fun _ _ => rfl)) (qk_s qe_int (qk_s (qe_op op_sub dI (qe_callB call_len_seq dLen rfl T.z_len bt_len (qa_cons (qe_var 1) qa_nil)) qe_int) qk_nil))))))))),fun ds q h => ?_⟩
  case hl => intro ds q h; obtain ⟨ps,rs,as,l,rfl,_⟩ := h; rfl
  obtain ⟨ps,rs,as,l,rfl,hl,q0⟩ := h
  have t0 := hl.t0; have t1 := hl.t1; have k0 := hl.k0; have k1 := hl.k1
  refine ⟨ps,rs,.int l.1,rfl,rfl,?_⟩
  rw [btw_int t0 t1]
  refine ⟨.int l.2,0,((as.map dAsk).length : Int) - 1,rfl,rfl,?_⟩
  rw [len_asks,btw_int k0 (by omega)]
  exact q0
def sdJoin : SpD := fun ds q => ∃ ps rs as a b k,ds = [dPair ps rs,dAsks as,.int a,.int b,.int k] ∧ Tree ps rs ∧ AsksOk ps as ∧ 0 ≤ k ∧ k < (as.length : Int) ∧ q (.bl (joinB ps as a b k)) []
theorem ok_q8 (T : Txt K mg A) : FnOk P w K mg base CX0 8 A.f_q8 A.d_q8 ["tree","asks","one","other","number"] (spOf [false,false,false,false,false] false (sdJoin)) := by
  have G_q37 := ok_q37 (P := P) (w := w) (base := base) T
  have S := sc_q8
  refine fnD T.F_q8 S ⟨[false,false,false,false,false],[false,false,false,false,false,false],false⟩ _ ?hl rfl rfl fun cdv Ar outer s H E hr => ⟨_,(qss_cons (qs_set (i := 5) S.nd rfl (Or.inl rfl) (QF.qe (qf_call (G_q37) (hr.mono (by decide)) rfl T.m_q37 T.k_q37 T.b_q37 (qk_s (qe_var 0) (qk_s (qe_ix ix_seq dIx (qe_var 1) (qe_var 4) (fun _ _ => rfl)) qk_nil)))))
      (qss_one (qs_ret (qe_and (qe_cmp (op_neD hr.units) dNe (qe_var 2) (qe_var 3) (nomark _)) (qe_and (qe_cmp op_in_seq dIn (qe_var 2) (qe_var 5) rfl) (qe_one (qe_cmp op_in_seq dIn (qe_var 3) (qe_var 5) rfl))))))),fun ds q h => ?_⟩
  case hl => intro ds q h; obtain ⟨ps,rs,as,a,b,k,rfl,_⟩ := h; rfl
  obtain ⟨ps,rs,as,a,b,k,rfl,hT,ha,k0,k1,q0⟩ := h
  have hok := ha.ok _ (getD_ask (as := as) (k := k.toNat) (by omega))
  refine atD_of (atI_asks k0 k1) ?_
  refine ⟨ps,rs,_,rfl,hT,hok.ends,?_⟩
  have e0 : askWay ps (as.getD k.toNat ask0) = askWay ps (askN as k) := rfl
  rw [e0]
  unfold joinB at q0
  refine (ite2 (c := (!decide (a = b)) = true) (fun c => ?_) (fun c => ?_))
  · rw [c,Bool.true_and] at q0
    refine ⟨rfl,flat_ints _,?_⟩
    rw [show (if false = true then !inD (.int a) ((askWay ps (askN as k)).map D.int) else inD (.int a) ((askWay ps (askN as k)).map D.int)) = (askWay ps (askN as k)).contains a by rw [if_neg (by decide),inD_ints]]
    cases e : (askWay ps (askN as k)).contains a with
    | false => rw [e] at q0; exact q0
    | true =>
      rw [e,Bool.true_and] at q0
      refine ⟨rfl,flat_ints _,?_⟩
      rw [show (if false = true then !inD (.int b) ((askWay ps (askN as k)).map D.int) else inD (.int b) ((askWay ps (askN as k)).map D.int)) = (askWay ps (askN as k)).contains b by rw [if_neg (by decide),inD_ints]]
      exact q0
  · rw [Bool.eq_false_iff.mpr c,Bool.false_and] at q0; exact q0
def sdRingK : SpD := fun ds q => ∃ ps rs as ls,ds = [dPair ps rs,dAsks as,dLks ls] ∧ Tree ps rs ∧ AsksOk ps as ∧ ls.length ≤ 61 ∧ (∀ l ∈ ls,LkOk ps.length as.length l) ∧ q (.bl (decide (3 ≤ ls.length) && ringZ ps as ls)) []
theorem ok_q24 (T : Txt K mg A) : FnOk P w K mg base CX0 9 A.f_q24 A.d_q24 ["tree","asks","thing"] (spOf [false,false,false] false (sdRingK)) := by
  have G_q12 := ok_q12 (P := P) (w := w) (base := base) T
  have G_q8 := ok_q8 (P := P) (w := w) (base := base) T
  have G_q23 := ok_q23 (P := P) (w := w) (base := base) T
  have G_q2 := ok_q2 (P := P) (w := w) (base := base) T
  have S := sc_q24
  refine fnD T.F_q24 S ⟨[false,false,false],[false,false,false,false,false,false],false⟩ _ ?hl rfl rfl fun cdv Ar outer s H E hr => ⟨_,(qss_cons (qs_expr (qe_call (G_q2) (hr.mono (by decide)) rfl T.m_q2 T.k_q2 T.b_q2 (qk_s (qe_var 0) (qk_s (qe_var 1) qk_nil))))
      (qss_cons (qs_if (QW.qt (qw_or (qt_not (qt_val (qe_isT rfl T.z_isinstance bt_isinstance (qe_var 2) (pe_bltn (v := .ty "list") rfl T.z_list bt_list rfl)))) (qw_or1 (qt_not (qt_chain op_le op_le dB dB (qe_globI (i := 3) rfl T.c_LEAST_RING) (qe_callB call_len_seq dLen rfl T.z_len bt_len (qa_cons (qe_var 2) qa_nil)) (qe_globI (i := 61) rfl T.c_MOST_RING)))))) (qss_one (qs_ret qe_bl)) qss_nil)
      (qss_cons (qs_cut (qs_if (qt_not (qt_val (qe_callB (call_allB rfl) dAll rfl T.z_all bt_all (qa_cons (qe_comp ["link"] [0,1] ⟨rfl,rfl,by decide +kernel,rfl,rfl,(by first | exact trivial | exact ⟨rfl,trivial⟩ | exact ⟨rfl,rfl,trivial⟩ | exact ⟨rfl,rfl,rfl,trivial⟩ | exact ⟨rfl,rfl,rfl,rfl,trivial⟩),rfl⟩ rfl (qi_list (qe_var 2)) (cg_name 0) (fun _ _ _ _ => ⟨(pg_name (i := 0) (show List.Nodup (["link","tree","asks"] : List Str) by decide +kernel) rfl (Or.inl rfl)),qif_nil,(qe_call (G_q23) (hr.mono (by decide)) rfl T.m_q23 T.k_q23 T.b_q23 (qk_s (qe_var 1) (qk_s (qe_var 2) (qk_s (qe_var 0) qk_nil))))⟩)) qa_nil)))) (qss_one (qs_ret qe_bl)) qss_nil))
      (qss_cons (qs_set (i := 3) S.nd rfl (Or.inl rfl) qe_int)
      (qss_cons (qs_for PassesOwn.never rfl (qi_zip rfl T.z_zip (qa_cons (qe_var 2) (qa_cons (qe_mk op_cat dCat (qe_slice (qe_var 2) (qo_some qe_int) qo_none) (qe_slice (qe_var 2) qo_none (qo_some qe_int))) qa_nil))) (qg_tup rfl (qgs_cons (qg_name (i := 4) S.nd rfl (Or.inl rfl)) (qgs_cons (qg_name (i := 5) S.nd rfl (Or.inl rfl)) qgs_nil)) (takes_cons1 (takes_cons1 takes_nil))) (qss_cons (qs_if (qt_not (qt_val (qe_call (G_q8) (hr.mono (by decide)) rfl T.m_q8 T.k_q8 T.b_q8 (qk_s (qe_var 0) (qk_s (qe_var 1) (qk_s (qe_ix ix_seq dIx (qe_var 4) qe_int (fun _ _ => rfl)) (qk_s (qe_ix ix_seq dIx (qe_var 5) qe_int (fun _ _ => rfl)) (qk_s (qe_ix ix_seq dIx (qe_var 4) qe_int (fun _ _ => rfl)) qk_nil)))))))) (qss_one (qs_ret qe_bl)) qss_nil)
      (qss_one (qs_if (qt_val (qe_call (G_q12) (hr.mono (by decide)) rfl T.m_q12 T.k_q12 T.b_q12 (qk_s (qe_var 0) (qk_s (qe_ix ix_seq dIx (qe_var 4) qe_int (fun _ _ => rfl)) (qk_s (qe_ix ix_seq dIx (qe_var 5) qe_int (fun _ _ => rfl)) qk_nil))))) (qss_one (qs_aug (i := 3) S.nd rfl (Or.inl rfl) ip_add qe_int)) qss_nil))))
      (qss_one (qs_ret (qe_cmp (op_eqD hr.units) dEq (qe_op op_mod dIC (qe_var 3) qe_int) qe_int (nomark _))))))))),fun ds q h => ?_⟩
  case hl => intro ds q h; obtain ⟨ps,rs,as,ls,rfl,_⟩ := h; rfl
  obtain ⟨ps,rs,as,ls,rfl,hT,ha,hl61,hlk,q0⟩ := h
  refine ⟨ps,rs,as,rfl,hT,ha,?_⟩
  have ell : ((ls.map dLk).length : Int) = (ls.length : Int) := by rw [List.length_map]
  refine (ite2 (c := decide ((3 : Int) ≤ ((ls.map dLk).length : Int)) = true) (fun c1 => ?_) (fun c1 => ?_))
  rotate_left
  · rw [decide_eq_false (show ¬ 3 ≤ ls.length by rw [ell] at c1; simp at c1; omega)] at q0; exact q0
  refine (ite2 (c := (!decide (((ls.map dLk).length : Int) ≤ 61)) = true) (fun c2 => ?_) (fun c2 => ?_))
  · exfalso; rw [ell] at c2; simp at c2; omega
  have hl3 : 3 ≤ ls.length := by have := of_decide_eq_true c1; omega
  rw [decide_eq_true hl3,Bool.true_and] at q0
  refine ⟨fun ρ => ρ = [some (dPair ps rs),some (dAsks as),some (.lst (ls.map dLk)),none,none,none],?_,?_⟩
  · refine ⟨by rw [List.length_map]; omega,?_⟩
    refine compD_map (fun _ => .bl true) ?_ ?_
    · intro d hd k hk
      obtain ⟨l,hm,rfl⟩ := List.mem_map.mp hd
      exact ⟨ps,rs,as,l,rfl,hlk l hm,hk⟩
    refine ⟨(ls.map dLk).map fun _ => true,by rw [List.map_map,List.map_map,List.map_map]; rfl,?_⟩
    rw [show (((ls.map dLk).map fun _ => true).all id) = true by rw [List.all_map]; exact List.all_eq_true.mpr fun _ _ => rfl]
    exact rfl
  rintro ρ rfl
  have e1 : cutD (ls.map dLk) (some 1) none = (ls.drop 1).map dLk := by rw [cutD_drop (by decide),List.map_drop]; rfl
  have e2 : cutD (ls.map dLk) none (some 1) = (ls.take 1).map dLk := by rw [cutD_take (by decide),List.map_take]; rfl
  refine ⟨by rw [e1,e2,List.length_map,List.length_map,List.length_drop,List.length_take]; omega,?_⟩
  rw [e1,e2,← List.map_append]
  refine ⟨fun i ρ => ∃ v4 v5,ρ = [some (dPair ps rs),some (dAsks as),some (.lst (ls.map dLk)),some (.int (cntT ps ls i)),v4,v5] ∧ ∀ j,j < i → stepT ps as ls j = true,⟨_,_,rfl,fun j h => absurd h (Nat.not_lt_zero _)⟩,?_,?_⟩
  · rintro i d ρ hd ⟨v4,v5,rfl,hst⟩
    obtain ⟨x,y,hx,hy,rfl⟩ := zipD_at hd
    have hil : i < ls.length := by have := (List.getElem?_eq_some_iff.mp hx).1; rw [List.length_map] at this; exact this
    have hmod : (i + 1) % ls.length < ls.length := Nat.mod_lt _ (by omega)
    rw [List.getElem?_map,nth_at hil] at hx
    rw [List.getElem?_map,rot_at hil] at hy
    cases hx; cases hy
    have l1 := hlk _ (nth_mem hil)
    have l2 := hlk _ (nth_mem hmod)
    refine ⟨ps,rs,as,(nth ls i).1,(nth ls ((i + 1) % ls.length)).1,(nth ls i).2,rfl,hT,ha,l1.k0,l1.k1,?_⟩
    have es : joinB ps as (nth ls i).1 (nth ls ((i + 1) % ls.length)).1 (nth ls i).2 = stepT ps as ls i := rfl
    rw [es]
    cases hs : stepT ps as ls i with
    | false => rw [ring_no hil hs] at q0; exact q0
    | true =>
      refine ⟨ps,rs,(nth ls i).1,(nth ls ((i + 1) % ls.length)).1,rfl,hT,l1.t0,l1.t1,l2.t0,l2.t1,?_⟩
      have ea : apartB ps (nth ls i).1 (nth ls ((i + 1) % ls.length)).1 = apT ps ls i := rfl
      rw [ea]
      have hst' : ∀ j,j < i + 1 → stepT ps as ls j = true := fun j hj => by
        by_cases e : j = i
        · rw [e]; exact hs
        · exact hst j (by omega)
      cases hap : apT ps ls i with
      | false =>
        show ∃ v4 v5,_ ∧ _
        rw [show cntT ps ls (i + 1) = cntT ps ls i by rw [cnt_succ,hap]; rfl]
        exact ⟨_,_,rfl,hst'⟩
      | true =>
        show ∃ v4 v5,_ ∧ _
        rw [show ((cntT ps ls (i + 1) : Nat) : Int) = (cntT ps ls i : Int) + 1 by rw [cnt_succ,hap]; rfl]
        exact ⟨_,_,rfl,hst'⟩
  · rintro ρ ⟨v4,v5,rfl,hst⟩
    have ez : (zipD (ls.map dLk) ((ls.drop 1 ++ ls.take 1).map dLk)).length = ls.length := by
      unfold zipD; rw [List.length_zipWith,List.length_map,List.length_map,List.length_append,List.length_drop,List.length_take]; omega
    rw [ez] at hst ⊢
    rw [ring_yes hst] at q0
    refine ⟨(show (0 : Int) < 2 by decide),?_⟩
    have ed : decide (((cntT ps ls ls.length : Nat) : Int) % 2 = 1) = decide (cntT ps ls ls.length % 2 = 1) := by rw [decide_eq_decide]; omega
    rw [← ed] at q0
    exact q0
end
end K50
namespace K50
open PySem L2
section
variable {P : Program} {w : World} {K : PySem.W.Frag} {mg : Str → Option Value} {base : Heap} {A : Adr}
theorem ok_q32 (T : Txt K mg A) : FnOk P w K mg base CX0 1 A.f_q32 A.d_q32 ["_law_script","_law_k"] (spOf [false,false] false (sdCell K)) := by
  have S := sc_q32
  refine fnD T.F_q32 S ⟨[false,false],[false,false],false⟩ _ ?hl rfl rfl fun cdv Ar outer s H E hr => ⟨_,(qss_cons (qs_if (qt_cmp op_lt dB (qe_var 1) (qe_callB call_len_seq dLen rfl T.z_len bt_len (qa_cons (qe_var 0) qa_nil)) (nomark _)) (qss_one (qs_ret (qe_ix ix_seq dIx (qe_var 0) (qe_var 1) (fun _ _ => rfl)))) qss_nil)
      (qss_one (qs_ret qe_int))),fun ds q h => ?_⟩
  case hl => intro ds q h; obtain ⟨φ,ns,k,rfl,_⟩ := h; rfl
  obtain ⟨φ,ns,k,rfl,hφ,h0,q0⟩ := h
  refine ⟨hφ,?_⟩
  refine (ite2 (c := decide (k < (ns.length : Int)) = true) (fun c => ?_) (fun c => ?_))
  · have c' : k < ns.length := by simpa using c
    refine ⟨hφ,?_⟩
    show (match atI ns k with | some n => q (.int n) [] | none => False)
    rw [atI_ns h0 c']; exact q0
  · have c' : ns.length ≤ k.toNat := by simp at c; omega
    have e : cellZ ns k = 0 := by unfold cellZ; rw [List.getD_eq_getElem?_getD,List.getElem?_eq_none c']; rfl
    rw [e] at q0; exact q0
theorem ok_q20 (T : Txt K mg A) : FnOk P w K mg base CX0 1 A.f_q20 A.d_q20 ["_law_cell_here","_law_k"] (spOf [false,false] true (sdSource)) := by
  have S := sc_q20
  refine fnD T.F_q20 S ⟨[false,false],[false,false,false,false],true⟩ _ ?hl rfl rfl fun cdv Ar outer s H E hr => ⟨_,(qss_cons (qs_set (i := 2) S.nd rfl (Or.inl rfl) (qe_callB call_abs dAbs rfl T.z_abs bt_abs (qa_cons (qe_var 0) qa_nil)))
      (qss_cons (qs_set (i := 3) S.nd rfl (Or.inl rfl) (qe_op op_mod dIC (qe_op op_mul dIC (qe_op op_add dI (qe_op op_add dI (qe_op op_mod dIC (qe_var 2) qe_int) (qe_op op_mul dIC qe_int (qe_var 1))) qe_int) qe_int) qe_int))
      (qss_cons (qs_if (qt_cmp op_lt dB (qe_var 2) (qe_op op_pow dIC qe_int qe_int) (nomark _)) (qss_one (qs_set (i := 2) S.nd rfl (Or.inl rfl) qe_int)) qss_nil)
      (qss_one (qs_retM (QF.qm (qf_lst (qa_cons (qe_var 2) (qa_cons (qe_var 3) qa_nil))))))))),fun ds q h => ?_⟩
  case hl => intro ds q h; obtain ⟨c,k,rfl,_⟩ := h; rfl
  obtain ⟨c,k,rfl,h0,h1,q0⟩ := h
  obtain ⟨z,hz⟩ : ∃ z : Int,z = (if c < 0 then -c else c) := ⟨_,rfl⟩
  have hz0 : 0 ≤ z := by rw [hz]; split <;> omega
  refine ⟨(show (0 : Int) < 1000003 by decide),Or.inl ⟨by decide,by decide⟩,Or.inr ⟨by decide,by decide⟩,(show (0 : Int) < 2147483647 by decide),?_⟩
  refine ⟨⟨by decide,by decide,by decide⟩,?_⟩
  refine (ite2 (c := decide ((if c < 0 then -c else c) < 10 ^ 18) = true) (fun c => ?_) (fun c => ?_))
  · exact ⟨rfl,q0 _ _ (Int.le_refl 0)⟩
  · exact ⟨rfl,q0 _ _ (by rw [← hz]; exact hz0)⟩
theorem ok_q33 (T : Txt K mg A) : FnOk P w K mg base CX0 1 A.f_q33 A.d_q33 ["_law_source_here","_law_many"] (spOf [true,false] false (sdTake)) := by
  have S := sc_q33
  refine fnD T.F_q33 S ⟨[true,false],[true,false,false,false],false⟩ _ ?hl rfl rfl fun cdv Ar outer s H E hr => ⟨_,(qss_cons (qs_if (QT.bor [0] (qt_cmp op_gt dB (qe_ix ix_seq dIx (qe_var 0) qe_int (fun _ _ => rfl)) qe_int (nomark _))) (qss_cons (qs_set (i := 2) S.nd rfl (Or.inl rfl) (QE.bor [0] (qe_op op_mod dIC (qe_ix ix_seq dIx (qe_var 0) qe_int (fun _ _ => rfl)) (qe_var 1))))
      (qss_cons (qs_setI (i := 0) rfl (QF.bor [0] (QE.qf (qe_op op_fdivB dIC (qe_ix ix_seq dIx (qe_var 0) qe_int (fun _ _ => rfl)) (qe_var 1)))) qe_int)
      (qss_one (qs_ret (qe_var 2))))) qss_nil)
      (qss_cons (qs_setI (i := 0) rfl (QF.bor [0] (QE.qf (qe_op op_mod dIC (qe_op op_add dI (qe_op op_mul dIC (qe_ix ix_seq dIx (qe_var 0) qe_int (fun _ _ => rfl)) qe_int) qe_int) qe_int))) qe_int)
      (qss_cons (qs_set (i := 3) S.nd rfl (Or.inl rfl) (QE.bor [0] (qe_op op_fdiv dIC (qe_op op_mod dIC (qe_op op_mul dIC (qe_ix ix_seq dIx (qe_var 0) qe_int (fun _ _ => rfl)) (qe_ix ix_seq dIx (qe_var 0) qe_int (fun _ _ => rfl))) qe_int) qe_int)))
      (qss_cons (qs_if (qt_cmp op_gt dB (qe_var 1) (qe_op op_pow dIC qe_int qe_int) (nomark _)) (qss_cons (qs_setI (i := 0) rfl (QF.bor [0] (QE.qf (qe_op op_mod dIC (qe_op op_add dI (qe_op op_mul dIC (qe_ix ix_seq dIx (qe_var 0) qe_int (fun _ _ => rfl)) qe_int) qe_int) qe_int))) qe_int)
      (qss_one (qs_set (i := 3) S.nd rfl (Or.inl rfl) (QE.bor [0] (qe_op op_add dI (qe_op op_mul dIC (qe_var 3) qe_int) (qe_op op_fdiv dIC (qe_op op_mod dIC (qe_op op_mul dIC (qe_ix ix_seq dIx (qe_var 0) qe_int (fun _ _ => rfl)) (qe_ix ix_seq dIx (qe_var 0) qe_int (fun _ _ => rfl))) qe_int) qe_int)))))) qss_nil)
      (qss_one (qs_ret (qe_op op_mod dIC (qe_var 3) (qe_var 1)))))))),fun ds q h => ?_⟩
  case hl => intro ds q h; obtain ⟨c,m,many,rfl,_⟩ := h; rfl
  obtain ⟨c,m,many,rfl,h0,hm,hs,q0⟩ := h
  refine (ite2 (c := decide (0 < c) = true) (fun c1 => ?_) (fun c1 => ?_))
  · refine ⟨hm,rfl,?_⟩
    refine ⟨⟨hm,hs⟩,rfl,?_⟩
    exact q0 _ (c / many) m (Int.emod_nonneg _ (Int.ne_of_gt hm)) (Int.emod_lt_of_pos _ hm) (Int.ediv_nonneg h0 (Int.le_of_lt hm))
  · refine ⟨Or.inr ⟨by decide,by decide⟩,(show (0 : Int) < 2147483647 by decide),rfl,?_⟩
    obtain ⟨m1,hm1⟩ : ∃ m1,m1 = (m * 48271 + 11) % 2147483647 := ⟨_,rfl⟩
    have a1 := Int.emod_nonneg (m * 48271 + 11) (show (2147483647 : Int) ≠ 0 by decide)
    have a2 := Int.emod_lt_of_pos (m * 48271 + 11) (show (0 : Int) < 2147483647 by decide)
    rw [← hm1] at a1 a2
    rw [hm1] at a1 a2
    have cm : ∀ x : Int,CMul ((m * 48271 + 11) % 2147483647) x := fun x => Or.inl ⟨by omega,by omega⟩
    refine ⟨cm _,(show (0 : Int) < 2147483629 by decide),⟨by decide,by decide⟩,rfl,?_⟩
    refine ⟨⟨by decide,by decide,by decide⟩,?_⟩
    refine (ite2 (c := decide ((10 : Int) ^ Int.toNat 7 < many) = true) (fun c2 => ?_) (fun c2 => ?_))
    · refine ⟨cm _,(show (0 : Int) < 2147483647 by decide),rfl,?_⟩
      have b1 := Int.emod_nonneg ((m * 48271 + 11) % 2147483647 * 39373 + 17) (show (2147483647 : Int) ≠ 0 by decide)
      have b2 := Int.emod_lt_of_pos ((m * 48271 + 11) % 2147483647 * 39373 + 17) (show (0 : Int) < 2147483647 by decide)
      refine ⟨Or.inr ⟨by decide,by decide⟩,⟨Or.inl ⟨by omega,by omega⟩,(show (0 : Int) < 2147483629 by decide),⟨by decide,by decide⟩,rfl,?_⟩⟩
      refine ⟨hm,?_⟩
      exact q0 _ c _ (Int.emod_nonneg _ (Int.ne_of_gt hm)) (Int.emod_lt_of_pos _ hm) h0
    · refine ⟨hm,?_⟩
      exact q0 _ c _ (Int.emod_nonneg _ (Int.ne_of_gt hm)) (Int.emod_lt_of_pos _ hm) h0
def sdSides : SpD := fun ds q => ∃ ps rs a b,ds = [dInts ps,.int a,.int b] ∧ Tree ps rs ∧ 0 ≤ a ∧ a ≤ ps.length ∧ 0 ≤ b ∧ b ≤ ps.length ∧ ∀ u d m,Sides ps a b u d m → u.length ≤ 46 → d.length ≤ 46 → q (.tup [dInts u,dInts d]) []
theorem ok_q25 (T : Txt K mg A) : FnOk P w K mg base CX0 1 A.f_q25 A.d_q25 ["_law_parents","_law_one","_law_other"] (spOf [false,false,false] true (sdSides)) := by
  have S := sc_q25
  refine fnD T.F_q25 S ⟨[false,false,false],[false,false,false,true,true],true⟩ _ ?hl rfl rfl fun cdv Ar outer s H E hr => ⟨_,(qss_cons (qs_setO (i := 3) S.nd rfl (Or.inl rfl) (qf_lst qa_nil))
      (qss_cons (qs_setO (i := 4) S.nd rfl (Or.inl rfl) (qf_lst qa_nil))
      (qss_cons (qs_while PassesOwn.never (qt_cmp (op_neD hr.units) dNe (qe_var 1) (qe_var 2) (nomark _)) (qss_one (qs_if (qt_cmp op_gt dB (qe_var 1) (qe_var 2) (nomark _)) (qss_cons (qs_append (i := 3) rfl (QE.qf (qe_var 1)))
      (qss_one (qs_set (i := 1) S.nd rfl (Or.inl rfl) (qe_ix ix_seq dIx (qe_var 0) (qe_op op_sub dI (qe_var 1) qe_int) (fun _ _ => rfl))))) (qss_cons (qs_append (i := 4) rfl (QE.qf (qe_var 2)))
      (qss_one (qs_set (i := 2) S.nd rfl (Or.inl rfl) (qe_ix ix_seq dIx (qe_var 0) (qe_op op_sub dI (qe_var 2) qe_int) (fun _ _ => rfl))))))))
      (qss_one (qs_retM (qm_tup (qms_cons (qm_move 3) (qms_cons (qm_move 4) qms_nil)))))))),fun ds q h => ?_⟩
  case hl => intro ds q h; obtain ⟨ps,rs,a,b,rfl,_⟩ := h; rfl
  obtain ⟨ps,rs,a,b,rfl,hT,a0,a1,b0,b1,q0⟩ := h
  have hi := hT.hi
  refine ⟨rfl,?_⟩
  refine ⟨rfl,?_⟩
  refine ⟨fun k ρ => ∃ a' b' U V,ρ = [some (dInts ps),some (.int a'),some (.int b'),some (dInts U),some (dInts V)] ∧ 0 ≤ a' ∧ a' ≤ ps.length ∧ 0 ≤ b' ∧ b' ≤ ps.length ∧ k = (a' + b').toNat ∧ U.length + V.length + (a' + b').toNat ≤ 46 ∧ (∀ u d m,Sides ps a' b' u d m → Sides ps a b (U ++ u) (V ++ d) m),⟨_,a,b,[],[],rfl,a0,a1,b0,b1,rfl,by simp; omega,fun u d m h => h⟩,?_⟩
  rintro k ρ ⟨a',b',U,V,rfl,a0',a1',b0',b1',rfl,hl,hc⟩
  refine (ite2 (c := (!decide (a' = b')) = true) (fun c => ?_) (fun c => ?_))
  · have hne : a' ≠ b' := by simpa using c
    refine (ite2 (c := decide (b' < a') = true) (fun c2 => ?_) (fun c2 => ?_))
    · have hlt : b' < a' := of_decide_eq_true c2
      have hp := hT.up (show 0 < a' by omega) a1'
      refine ⟨rfl,by show (U.map D.int).length < 1000; rw [List.length_map]; omega,?_⟩
      refine atD_of (atI_ints (by omega) (by omega)) ?_
      refine ⟨(parZ ps a' + b').toNat,by omega,parZ ps a',b',U ++ [a'],V,?_,hp.1,by omega,b0',b1',rfl,by rw [List.length_append]; show U.length + 1 + _ + _ ≤ 46; omega,fun u d m h => by rw [List.append_assoc]; exact hc _ _ _ (.left hlt h)⟩
      rw [show dInts (U ++ [a']) = .lst (U.map D.int ++ [.int a']) by unfold dInts; rw [List.map_append]; rfl]; rfl
    · have hlt : a' < b' := by rw [decide_eq_true_iff] at c2; omega
      have hp := hT.up (show 0 < b' by omega) b1'
      refine ⟨rfl,by show (V.map D.int).length < 1000; rw [List.length_map]; omega,?_⟩
      refine atD_of (atI_ints (by omega) (by omega)) ?_
      refine ⟨(a' + parZ ps b').toNat,by omega,a',parZ ps b',U,V ++ [b'],?_,a0',a1',hp.1,by omega,rfl,by rw [List.length_append]; show U.length + (V.length + 1) + _ ≤ 46; omega,fun u d m h => by rw [List.append_assoc]; exact hc _ _ _ (.right hlt h)⟩
      rw [show dInts (V ++ [b']) = .lst (V.map D.int ++ [.int b']) by unfold dInts; rw [List.map_append]; rfl]; rfl
  · have : a' = b' := by simpa using c
    subst this
    have hw := hc [] [] a' (.same a')
    rw [List.append_nil,List.append_nil] at hw
    exact q0 U V a' hw (by omega) (by omega)
def eqTx (b : Bool) (bs : List Bool) : D → D
  | .int t => .bl (bs.getD (t - 1).toNat false == b)
  | d => d
def sdRunsL : SpD := fun ds q => ∃ ps rs a bs,ds = [dInts ps,dAsk a,dTx bs] ∧ Tree ps rs ∧ Ends2 ps a.one a.other ∧ bs.length = ps.length ∧ q (.bl (runB ps a.one a.other bs)) []
theorem ok_q35 (T : Txt K mg A) : FnOk P w K mg base CX0 2 A.f_q35 A.d_q35 ["_law_parents","_law_ask","_law_thing"] (spOf [false,false,false] false (sdRunsL)) := by
  have G_q25 := ok_q25 (P := P) (w := w) (base := base) T
  have S := sc_q35
  refine fnD T.F_q35 S ⟨[false,false,false],[false,false,false,false,false,false],false⟩ _ ?hl rfl rfl fun cdv Ar outer s H E hr => ⟨_,(qss_cons (qs_asg (QF.qe (qf_call (G_q25) (hr.mono (by decide)) rfl T.m_q25 T.k_q25 T.b_q25 (qk_s (qe_var 0) (qk_s (qe_ix ix_seq dIx (qe_var 1) qe_int (fun _ _ => rfl)) (qk_s (qe_ix ix_seq dIx (qe_var 1) qe_int (fun _ _ => rfl)) qk_nil))))) (qg_tup rfl (qgs_cons (qg_name (i := 3) S.nd rfl (Or.inl rfl)) (qgs_cons (qg_name (i := 4) S.nd rfl (Or.inl rfl)) qgs_nil)) (takes_cons1 (takes_cons1 takes_nil))))
      (qss_cons (qs_set (i := 5) S.nd rfl (Or.inl rfl) (qe_mk op_cat dCat (qe_comp ["_law_tie"] [2] ⟨rfl,rfl,by decide +kernel,rfl,rfl,(by first | exact trivial | exact ⟨rfl,trivial⟩ | exact ⟨rfl,rfl,trivial⟩ | exact ⟨rfl,rfl,rfl,trivial⟩ | exact ⟨rfl,rfl,rfl,rfl,trivial⟩),rfl⟩ rfl (qi_list (qe_var 3)) (cg_name 0) (fun _ _ _ _ => ⟨(pg_name (i := 0) (show List.Nodup (["_law_tie","_law_thing"] : List Str) by decide +kernel) rfl (Or.inl rfl)),qif_nil,(qe_cmp (op_eqD hr.units) dEq (qe_ix ix_seq dIx (qe_var 1) (qe_op op_sub dI (qe_var 0) qe_int) (fun _ _ => rfl)) qe_str (nomark _))⟩)) (qe_comp ["_law_tie"] [2] ⟨rfl,rfl,by decide +kernel,rfl,rfl,(by first | exact trivial | exact ⟨rfl,trivial⟩ | exact ⟨rfl,rfl,trivial⟩ | exact ⟨rfl,rfl,rfl,trivial⟩ | exact ⟨rfl,rfl,rfl,rfl,trivial⟩),rfl⟩ rfl (qi_list (qe_var 4)) (cg_name 0) (fun _ _ _ _ => ⟨(pg_name (i := 0) (show List.Nodup (["_law_tie","_law_thing"] : List Str) by decide +kernel) rfl (Or.inl rfl)),qif_nil,(qe_cmp (op_eqD hr.units) dEq (qe_ix ix_seq dIx (qe_var 1) (qe_op op_sub dI (qe_var 0) qe_int) (fun _ _ => rfl)) qe_str (nomark _))⟩))))
      (qss_one (qs_ret (qe_cmp op_in_seq dIn (qe_count (qe_var 5)) (qe_tup (qa_cons qe_int (qa_cons (qe_callB call_len_seq dLen rfl T.z_len bt_len (qa_cons (qe_var 5) qa_nil)) qa_nil))) rfl))))),fun ds q h => ?_⟩
  case hl => intro ds q h; obtain ⟨ps,rs,a,bs,rfl,_⟩ := h; rfl
  obtain ⟨ps,rs,a,bs,rfl,hT,he,hl,q0⟩ := h
  refine ⟨ps,rs,a.one,a.other,rfl,hT,he.a0,he.a1,he.b0,he.b1,fun u d m hS hu hd => ?_⟩
  have hO := hS.ok hT he.a0 he.b0 he.a1 he.b1
  rw [← run_two (bs := bs) hT he hO,← count_all] at q0
  have hmem : ∀ t,t ∈ u ++ d → 0 < t ∧ t ≤ ps.length := fun t ht => way_mem hT he (hO.pm.mem_iff.mpr ht)
  refine ⟨by rw [len_ints]; omega,?_⟩
  refine compD_map (eqTx true bs) ?_ ?_
  · intro x hx k hk
    obtain ⟨t,ht,rfl⟩ := mem_ints hx
    have hm := hmem t (List.mem_append_left _ ht)
    refine atD_of (tx_at hm.1 (by omega)) ?_
    refine ⟨ok_txt _,ok_txt true,?_⟩
    show k (.bl (eqD (.str (txt (bs.getD (t - 1).toNat false))) (.str (txt true))))
    rw [eq_txt]; exact hk
  refine ⟨by rw [len_ints]; omega,?_⟩
  refine compD_map (eqTx false bs) ?_ ?_
  · intro x hx k hk
    obtain ⟨t,ht,rfl⟩ := mem_ints hx
    have hm := hmem t (List.mem_append_right _ ht)
    refine atD_of (tx_at hm.1 (by omega)) ?_
    refine ⟨ok_txt _,ok_txt false,?_⟩
    show k (.bl (eqD (.str (txt (bs.getD (t - 1).toNat false))) (.str (txt false))))
    rw [eq_txt]; exact hk
  have em : (u.map D.int).map (eqTx true bs) ++ (d.map D.int).map (eqTx false bs) = (alL bs u d).map D.bl := by
    unfold alL; rw [List.map_append,List.map_map,List.map_map,List.map_map,List.map_map]; rfl
  refine ⟨by rw [List.length_map,List.length_map,List.length_map,List.length_map]; omega,?_⟩
  rw [em]
  refine ⟨alL bs u d,rfl,?_⟩
  refine ⟨rfl,rfl,?_⟩
  have ec : (alL bs u d).countP id = (alL bs u d).count true := by
    unfold List.count
    congr 1
    funext b; cases b <;> rfl
  show q (.bl (inD (.int (((alL bs u d).countP id : Nat) : Int)) [.int 0,.int ((((alL bs u d).map D.bl).length : Nat) : Int)])) []
  rw [ec,List.length_map]
  have eI : inD (.int (((alL bs u d).count true : Nat) : Int)) [.int 0,.int (((alL bs u d).length : Nat) : Int)] = (decide ((alL bs u d).count true = 0) || decide ((alL bs u d).count true = (alL bs u d).length)) := by
    show (decide ((0 : Int) = _) || (decide ((((alL bs u d).length : Nat) : Int) = _) || false)) = _
    rw [Bool.or_false,Bool.eq_iff_iff,Bool.or_eq_true,Bool.or_eq_true,decide_eq_true_iff,decide_eq_true_iff,decide_eq_true_iff,decide_eq_true_iff]
    omega
  rw [eI]
  exact q0
def sdPointLK : SpD := fun ds q => ∃ ps rs as bs,ds = [dPair ps rs,dAsks as,dTx bs] ∧ Tree ps rs ∧ AsksOk ps as ∧ bs.length = ps.length ∧ q (.bl (as.all fun a => runB ps a.one a.other bs)) []
def noTx : D → Option D := fun _ => none
def noRun (ps : List Int) (bs : List Bool) : D → Option D
  | .tup [.int a,.int b,c,e] => if runB ps a b bs = true then none else some (.tup [.int a,.int b,c,e])
  | _ => none
theorem noRun_emp (ps : List Int) (bs : List Bool) : ∀ as : List Ask,((as.map dAsk).filterMap (noRun ps bs)).isEmpty = as.all fun a => runB ps a.one a.other bs
  | [] => rfl
  | a :: as => by
    have q : noRun ps bs (dAsk a) = if runB ps a.one a.other bs = true then none else some (dAsk a) := rfl
    rw [List.map_cons,List.filterMap_cons,List.all_cons,q]
    cases runB ps a.one a.other bs with
    | true => rw [if_pos rfl,Bool.true_and]; exact noRun_emp ps bs as
    | false => rw [if_neg (by decide)]; rfl
theorem ok_q1 (T : Txt K mg A) : FnOk P w K mg base CX0 3 A.f_q1 A.d_q1 ["_law_tree","_law_asks","_law_thing"] (spOf [false,false,false] false (sdPointLK)) := by
  have G_q35 := ok_q35 (P := P) (w := w) (base := base) T
  have S := sc_q1
  refine fnD T.F_q1 S ⟨[false,false,false],[false,false,false],false⟩ _ ?hl rfl rfl fun cdv Ar outer s H E hr => ⟨_,(qss_cons (qs_if (QW.qt (qw_or (qt_not (qt_val (qe_isT rfl T.z_isinstance bt_isinstance (qe_var 2) (pe_bltn (v := .ty "list") rfl T.z_list bt_list rfl)))) (qw_or1 (qt_cmp (op_neD hr.units) dNe (qe_callB call_len_seq dLen rfl T.z_len bt_len (qa_cons (qe_var 2) qa_nil)) (qe_callB call_len_seq dLen rfl T.z_len bt_len (qa_cons (qe_ix ix_seq dIx (qe_var 0) qe_int (fun _ _ => rfl)) qa_nil)) (nomark _))))) (qss_one (qs_ret qe_bl)) qss_nil)
      (qss_cons (qs_cut (qs_if (qt_cmp (op_neNil hr.units) dNeNil (qe_comp ["_law_word"] [] ⟨rfl,rfl,by decide +kernel,rfl,rfl,(by first | exact trivial | exact ⟨rfl,trivial⟩ | exact ⟨rfl,rfl,trivial⟩ | exact ⟨rfl,rfl,rfl,trivial⟩ | exact ⟨rfl,rfl,rfl,rfl,trivial⟩),rfl⟩ rfl (qi_list (qe_var 2)) (cg_name 0) (fun _ _ _ _ => ⟨(pg_name (i := 0) (show List.Nodup (["_law_word"] : List Str) by decide +kernel) rfl (Or.inl rfl)),(qif_one (QW.qt (qw_and (qt_cmp (op_neD hr.units) dNe (qe_var 0) qe_str (nomark _)) (qw_and1 (qt_cmp (op_neD hr.units) dNe (qe_var 0) qe_str (nomark _)))))),(qe_var 0)⟩)) (qe_lst qa_nil) (nomark _)) (qss_one (qs_ret qe_bl)) qss_nil))
      (qss_one (qs_ret (qe_cmp (op_eqNil hr.units) dEqNil (qe_comp ["_law_ask"] [2,0] ⟨rfl,rfl,by decide +kernel,rfl,rfl,(by first | exact trivial | exact ⟨rfl,trivial⟩ | exact ⟨rfl,rfl,trivial⟩ | exact ⟨rfl,rfl,rfl,trivial⟩ | exact ⟨rfl,rfl,rfl,rfl,trivial⟩),rfl⟩ rfl (qi_list (qe_var 1)) (cg_name 0) (fun _ _ _ _ => ⟨(pg_name (i := 0) (show List.Nodup (["_law_ask","_law_thing","_law_tree"] : List Str) by decide +kernel) rfl (Or.inl rfl)),(qif_one (qt_not (qt_val (qe_call (G_q35) (hr.mono (by decide)) rfl T.m_q35 T.k_q35 T.b_q35 (qk_s (qe_ix ix_seq dIx (qe_var 2) qe_int (fun _ _ => rfl)) (qk_s (qe_var 0) (qk_s (qe_var 1) qk_nil))))))),(qe_var 0)⟩)) (qe_lst qa_nil) (nomark _)))))),fun ds q h => ?_⟩
  case hl => intro ds q h; obtain ⟨ps,rs,as,bs,rfl,_⟩ := h; rfl
  obtain ⟨ps,rs,as,bs,rfl,hT,ha,hbl,q0⟩ := h
  have hal := ha.len
  have hti := hT.hi
  refine (ite2 (c := (!decide (((bs.map fun b => D.str (txt b)).length : Int) = ((ps.map D.int).length : Int))) = true) (fun c1 => ?_) (fun c1 => ?_))
  · exfalso; rw [len_ints,List.length_map] at c1; simp at c1; omega
  refine ⟨fun ρ => ρ = [some (dPair ps rs),some (dAsks as),some (dTx bs)],?_,?_⟩
  · refine ⟨by rw [List.length_map]; omega,?_⟩
    refine compD_fm noTx ?_ ?_
    · intro d hd k hk
      obtain ⟨b,_,rfl⟩ := List.mem_map.mp hd
      have e1 := eq_txt b true
      have e2 := eq_txt b false
      refine ⟨ok_txt b,ok_txt true,?_⟩
      show if (!eqD (.str (txt b)) (.str (txt true))) = true then _ else _
      rw [e1]
      cases b with
      | true => exact hk
      | false =>
        refine ⟨ok_txt false,ok_txt false,?_⟩
        show if (!eqD (.str (txt false)) (.str (txt false))) = true then _ else _
        rw [e2]; exact hk
    rw [show (bs.map fun b => D.str (txt b)).filterMap noTx = [] from List.filterMap_eq_nil_iff.mpr fun _ _ => rfl]
    exact rfl
  rintro ρ rfl
  refine ⟨by rw [len_asks]; omega,?_⟩
  refine compD_fm (noRun ps bs) ?_ ?_
  · intro d hd k hk
    obtain ⟨a,hm,rfl⟩ := List.mem_map.mp hd
    refine ⟨ps,rs,a,bs,rfl,hT,(ha.ok a hm).ends,hbl,?_⟩
    have hk' : k (if runB ps a.one a.other bs = true then none else some (dAsk a)) := hk
    cases e : runB ps a.one a.other bs with
    | true => rw [e] at hk'; exact hk'
    | false => rw [e] at hk'; exact hk'
  show q (.bl ((as.map dAsk).filterMap (noRun ps bs)).isEmpty) []
  rw [noRun_emp]
  exact q0
end
end K50
namespace K50
open PySem L2
section
variable {P : Program} {w : World} {K : PySem.W.Frag} {mg : Str → Option Value} {base : Heap} {A : Adr}
def EndB (arms : List Bool) (m : Nat) (b : Bool) (e : Int) : Prop := (e = 0 ∧ ∀ y : Int,1 ≤ y → y ≤ (m : Int) → wd arms y ≠ b) ∨ (1 ≤ e ∧ e ≤ (m : Int) ∧ wd arms e = b ∧ ∀ y : Int,e < y → y ≤ (m : Int) → wd arms y ≠ b)
theorem wd_app {arms : List Bool} {c : Bool} {y : Int} (h0 : 1 ≤ y) (h1 : y ≤ (arms.length : Int)) : wd (arms ++ [c]) y = wd arms y := by
  unfold wd
  rw [List.getD_eq_getElem?_getD,List.getD_eq_getElem?_getD,List.getElem?_append_left (by omega)]
theorem wd_last (arms : List Bool) (c : Bool) : wd (arms ++ [c]) ((arms.length : Int) + 1) = c := by
  unfold wd
  rw [List.getD_eq_getElem?_getD,show ((arms.length : Int) + 1 - 1).toNat = arms.length by omega,List.getElem?_append_right (Nat.le_refl _),Nat.sub_self]; rfl
theorem EndB.ext {arms : List Bool} {m : Nat} {b c : Bool} {e : Int} (h : EndB arms m b e) (hm : m ≤ arms.length) : EndB (arms ++ [c]) m b e := by
  rcases h with ⟨rfl,h⟩ | ⟨h1,h2,h3,h⟩
  · exact .inl ⟨rfl,fun y y0 y1 => by rw [wd_app y0 (by omega)]; exact h y y0 y1⟩
  · exact .inr ⟨h1,h2,by rw [wd_app h1 (by omega)]; exact h3,fun y y0 y1 => by rw [wd_app (by omega) (by omega)]; exact h y y0 y1⟩
theorem EndB.other {arms : List Bool} {b c : Bool} {e : Int} (h0 : EndB arms arms.length b e) (hc : c ≠ b) : EndB (arms ++ [c]) (arms.length + 1) b e := by
  rcases h0.ext (c := c) (Nat.le_refl _) with ⟨rfl,h⟩ | ⟨h1,h2,h3,h⟩
  · refine .inl ⟨rfl,fun y y0 y1 => ?_⟩
    by_cases z : y = (arms.length : Int) + 1
    · rw [z,wd_last]; exact hc
    · exact h y y0 (by omega)
  · refine .inr ⟨h1,by omega,h3,fun y y0 y1 => ?_⟩
    by_cases z : y = (arms.length : Int) + 1
    · rw [z,wd_last]; exact hc
    · exact h y y0 (by omega)
theorem EndB.self (arms : List Bool) (c : Bool) : EndB (arms ++ [c]) (arms.length + 1) c ((arms.length : Int) + 1) := .inr ⟨by omega,by omega,wd_last _ _,fun y y0 y1 => by omega⟩
structure LnI (ps : List Int) (arms : List Bool) : Prop where
  len : arms.length = ps.length
  ok : ∀ x : Nat,x < ps.length → EndB arms x (wd arms ((x : Int) + 1)) (parZ ps ((x : Int) + 1))
theorem LnI.more {ps : List Int} {arms : List Bool} {c : Bool} {e : Int} (h : LnI ps arms) (he : EndB arms arms.length c e) : LnI (ps ++ [e]) (arms ++ [c]) := by
  have hl := h.len
  refine ⟨by rw [List.length_append,List.length_append,hl]; rfl,fun x hx => ?_⟩
  rw [List.length_append] at hx
  have hx : x < ps.length + 1 := hx
  have hz : parZ (ps ++ [e]) ((x : Int) + 1) = (ps ++ [e]).getD x 0 := by unfold parZ; rw [show ((x : Int) + 1 - 1).toNat = x by omega]
  rw [hz]
  by_cases z : x < ps.length
  · rw [wd_app (by omega) (by omega),List.getD_eq_getElem?_getD,List.getElem?_append_left z]
    have := (h.ok x z).ext (c := c) (by omega)
    unfold parZ at this
    rw [show ((x : Int) + 1 - 1).toNat = x by omega,List.getD_eq_getElem?_getD] at this
    exact this
  · have z : x = arms.length := by omega
    subst z
    rw [wd_last,List.getD_eq_getElem?_getD,List.getElem?_append_right (by omega),hl,Nat.sub_self]
    rw [hl] at he
    exact he.ext (by omega)
theorem up_arm {ps rs : List Int} {arms : List Bool} (hT : Tree ps rs) (h : LnI ps arms) {k : Int} {u : List Int} (hu : Up ps k u) : k ≤ ps.length → 0 < k → ∀ y ∈ u,0 < y → wd arms y = wd arms k := by
  induction hu with
  | zero => intro _ h0; omega
  | @step k u h0 hu ih =>
    intro hk _ y hy y0
    rcases List.mem_cons.mp hy with rfl | hy
    · rfl
    have hp := hT.up h0 hk
    have hb := h.ok (k - 1).toNat (by omega)
    rw [show (((k - 1).toNat : Nat) : Int) + 1 = k by omega] at hb
    rcases hb with ⟨e,_⟩ | ⟨e1,e2,e3,_⟩
    · rw [e] at hu
      cases hu with
      | zero => rw [List.mem_singleton.mp hy] at y0; omega
      | step z _ => omega
    · rw [ih (by omega) (by omega) y hy y0]; exact e3
theorem lt_up {ps rs : List Int} {arms : List Bool} (hT : Tree ps rs) (h : LnI ps arms) : ∀ (N : Nat) (x y : Int),x.toNat ≤ N → 1 ≤ y → y < x → x ≤ ps.length → wd arms y = wd arms x → ∀ u,Up ps (parZ ps x) u → y ∈ u
  | 0,x,y,hN,y0,yx,_,_,_,_ => by omega
  | N + 1,x,y,hN,y0,yx,xn,hw,u,hu => by
    have hb := h.ok (x - 1).toNat (by omega)
    rw [show (((x - 1).toNat : Nat) : Int) + 1 = x by omega] at hb
    rcases hb with ⟨e,e2⟩ | ⟨e1,e2,e3,e4⟩
    · exact absurd hw (e2 y y0 (by omega))
    · by_cases z : y = parZ ps x
      · rw [z]; exact hu.head
      · by_cases z2 : parZ ps x < y
        · exact absurd hw (e4 y z2 (by omega))
        · generalize parZ ps x = e at *
          cases hu with
          | zero => omega
          | step h0 hu' => exact .tail _ (lt_up hT h N e y (by omega) y0 (by omega) (by omega) (by rw [hw,e3]) _ hu')
theorem line_ben {ps rs : List Int} {arms : List Bool} (hT : Tree ps rs) (h : LnI ps arms) {x y : Int} (x0 : 1 ≤ x) (x1 : x ≤ ps.length) (y0 : 1 ≤ y) (hne : wd arms x ≠ wd arms y) : benB ps x y = false := by
  have hp := hT.up (show 0 < x by omega) x1
  obtain ⟨u,hu⟩ := Up.all hT _ (parZ ps x) rfl hp.1 (by omega)
  rw [← ben_of hu]
  cases e : u.contains y with
  | false => rfl
  | true =>
    have := up_arm hT h (.step (by omega) hu) x1 (by omega) y (.tail _ (List.contains_iff_mem.mp e)) (by omega)
    exact absurd this.symm hne
theorem line_apart {ps rs : List Int} {arms : List Bool} (hT : Tree ps rs) (h : LnI ps arms) {x y : Int} (x0 : 1 ≤ x) (x1 : x ≤ ps.length) (y0 : 1 ≤ y) (y1 : y ≤ ps.length) (ne : x ≠ y) : (wd arms x != wd arms y) = apartB ps x y := by
  by_cases e : wd arms x = wd arms y
  · rw [e,bne_self_eq_false]
    have one : ∀ a b : Int,1 ≤ b → b < a → a ≤ ps.length → wd arms b = wd arms a → benB ps a b = true := fun a b b0 ba an hw => by
      have hp := hT.up (show 0 < a by omega) an
      obtain ⟨u,hu⟩ := Up.all hT _ (parZ ps a) rfl hp.1 (by omega)
      rw [← ben_of hu]
      exact List.contains_iff_mem.mpr (lt_up hT h _ a b (Nat.le_refl _) b0 ba an hw u hu)
    unfold apartB
    by_cases z : y < x
    · rw [one x y y0 z x1 e.symm]; rfl
    · rw [one y x x0 (by omega) y1 e,Bool.not_true,Bool.and_false]
  · unfold apartB
    rw [line_ben hT h x0 x1 y0 e,line_ben hT h y0 y1 x0 (fun z => e z.symm)]
    revert e
    cases wd arms x <;> cases wd arms y <;> decide
theorem line_run {ps rs : List Int} {arms : List Bool} (hT : Tree ps rs) (h : LnI ps arms) {a b : Int} (he : Ends2 ps a b) : runB ps a b arms = true :=
  (run_pairs hT he).mpr fun x hx y hy ne => by
    have mx := way_mem hT he hx
    have my := way_mem hT he hy
    exact line_apart hT h (by omega) mx.2 (by omega) my.2 ne
theorem star_par (n : Nat) (k : Int) : parZ (List.replicate n 0) k = 0 := by
  unfold parZ
  rw [List.getD_eq_getElem?_getD,List.getElem?_replicate]
  split <;> rfl
theorem star_ben (n : Nat) {x y : Int} (y0 : 1 ≤ y) : benB (List.replicate n 0) x y = false := by
  have hu : Up (List.replicate n 0) (parZ (List.replicate n 0) x) [0] := by rw [star_par]; exact .zero
  rw [← ben_of hu]
  simp; omega
theorem star_way {n : Nat} {rs : List Int} (hT : Tree (List.replicate n 0) rs) {a b : Int} (he : Ends2 (List.replicate n 0) a b) (x : Int) : x ∈ wayZ (List.replicate n 0) a b ↔ (x = a ∨ x = b) ∧ x ≠ 0 := by
  have go : ∀ w m,Climb (List.replicate n 0) a b w m → (∀ x,x ∈ w ↔ (x = a ∨ x = b) ∧ x ≠ 0) → (x ∈ wayZ (List.replicate n 0) a b ↔ (x = a ∨ x = b) ∧ x ≠ 0) := fun w m hc hm => by
    rw [← (hc.way hT he.a0 he.b0 he.a1 he.b1).1,(sortZ_perm w).mem_iff]; exact hm x
  have a0 := he.a0; have b0 := he.b0; have ne := he.ne
  have p := star_par n
  by_cases h : b < a
  · by_cases z : b = 0
    · subst z
      exact go [a] 0 (.left h (by rw [p]; exact .same 0)) fun x => by simp; omega
    · exact go [a,b] 0 (.left h (by rw [p]; exact .left (by omega) (by rw [p]; exact .same 0))) fun x => by simp; omega
  · by_cases z : a = 0
    · subst z
      exact go [b] 0 (.right (by omega) (by rw [p]; exact .same 0)) fun x => by simp; omega
    · exact go [b,a] 0 (.right (by omega) (by rw [p]; exact .left (by omega) (by rw [p]; exact .same 0))) fun x => by simp; omega
theorem star_run {n : Nat} {rs : List Int} (hT : Tree (List.replicate n 0) rs) {a b : Int} {p : List Bool} (he : Ends2 (List.replicate n 0) a b) : runB (List.replicate n 0) a b p = true ↔ (a ≠ 0 → b ≠ 0 → (wd p a != wd p b) = true) := by
  rw [run_pairs hT he]
  have ap : ∀ x y : Int,1 ≤ x → 1 ≤ y → apartB (List.replicate n 0) x y = true := fun x y x0 y0 => by unfold apartB; rw [star_ben n x0,star_ben n y0]; rfl
  have a0 := he.a0; have b0 := he.b0
  refine ⟨fun h ha hb => ?_,fun h x hx y hy ne => ?_⟩
  · rw [h a ((star_way hT he a).mpr ⟨.inl rfl,ha⟩) b ((star_way hT he b).mpr ⟨.inr rfl,hb⟩) he.ne]
    exact ap a b (by omega) (by omega)
  · obtain ⟨hx1,hx2⟩ := (star_way hT he x).mp hx
    obtain ⟨hy1,hy2⟩ := (star_way hT he y).mp hy
    rw [ap x y (by rcases hx1 with rfl | rfl <;> omega) (by rcases hy1 with rfl | rfl <;> omega)]
    rcases hx1 with rfl | rfl
    · rcases hy1 with rfl | rfl
      · exact absurd rfl ne
      · exact h hx2 hy2
    · rcases hy1 with rfl | rfl
      · have := h hy2 hx2
        revert this
        cases wd p x <;> cases wd p y <;> decide
      · exact absurd rfl ne
end
end K50
namespace K50
open PySem L2
section
variable {P : Program} {w : World} {K : PySem.W.Frag} {mg : Str → Option Value} {base : Heap} {A : Adr}
def sdLine : SpD := fun ds q => ∃ c m,ds = [dInts [c,m]] ∧ 0 ≤ c ∧ ∀ ps rs arms c' m',Tree ps rs → LnI ps arms → 0 ≤ c' → q (dPair ps rs) [some (dInts [c',m'])]
theorem ok_q34 (T : Txt K mg A) : FnOk P w K mg base CX0 2 A.f_q34 A.d_q34 ["_law_source_here"] (spOf [true] true (sdLine)) := by
  have G_q33 := ok_q33 (P := P) (w := w) (base := base) T
  have S := sc_q34
  refine fnD T.F_q34 S ⟨[true],[true,false,true,true,false,false],true⟩ _ ?hl rfl rfl fun cdv Ar outer s H E hr => ⟨_,(qss_cons (qs_set (i := 1) S.nd rfl (Or.inl rfl) (qe_op op_add dI qe_int (qe_call (G_q33) (hr.mono (by decide)) rfl T.m_q33 T.k_q33 T.b_q33 (qk_m 0 (qk_s qe_int qk_nil)))))
      (qss_cons (qs_setO (i := 2) S.nd rfl (Or.inl rfl) (qf_lst (qa_cons qe_int (qa_cons qe_int qa_nil))))
      (qss_cons (qs_setO (i := 3) S.nd rfl (Or.inl rfl) (qf_lst qa_nil))
      (qss_cons (qs_for PassesOwn.never rfl (qi_range1 rfl T.z_range (qa_cons (qe_var 1) qa_nil)) (qg_name (i := 4) S.nd rfl (Or.inl rfl)) (qss_cons (qs_set (i := 5) S.nd rfl (Or.inl rfl) (qe_call (G_q33) (hr.mono (by decide)) rfl T.m_q33 T.k_q33 T.b_q33 (qk_m 0 (qk_s qe_int qk_nil))))
      (qss_cons (qs_append (i := 3) rfl (QF.bor [2] (QE.qf (qe_ix ix_seq dIx (qe_var 2) (qe_var 5) (fun _ _ => rfl)))))
      (qss_one (qs_setI (i := 2) rfl (QE.qf (qe_op op_add dI (qe_var 4) qe_int)) (qe_var 5))))))
      (qss_one (qs_retM (qm_tup (qms_cons (qm_move 3) (qms_cons (QF.qm (qf_compM ["_law_k"] [0] 0 1 ⟨rfl,rfl,by decide +kernel,rfl,rfl,(by first | exact trivial | exact ⟨rfl,trivial⟩ | exact ⟨rfl,rfl,trivial⟩ | exact ⟨rfl,rfl,rfl,trivial⟩ | exact ⟨rfl,rfl,rfl,rfl,trivial⟩),rfl⟩ rfl (qi_range1 rfl T.z_range (qa_cons (qe_var 1) qa_nil)) (cgm_name 0) (fun _ _ _ _ => ⟨(pg_name (i := 0) (show List.Nodup (["_law_k","_law_source_here"] : List Str) by decide +kernel) rfl (Or.inl rfl)),qif_nil,(qe_op op_add dI qe_int (qe_call (G_q33) (hr.mono (by decide)) rfl T.m_q33 T.k_q33 T.b_q33 (qk_m 1 (qk_s qe_int qk_nil))))⟩))) qms_nil))))))))),fun ds q h => ?_⟩
  case hl => intro ds q h; obtain ⟨c,m,rfl,_⟩ := h; rfl
  obtain ⟨c,m,rfl,h0,q0⟩ := h
  refine ⟨c,m,23,rfl,h0,by decide,sm_of (n := 23) (by decide) (by decide +kernel),fun n c1 m1 n0 n1 h1 => ?_⟩
  refine ⟨rfl,?_⟩
  refine ⟨rfl,?_⟩
  refine ⟨⟨by omega,by omega⟩,?_⟩
  refine ⟨fun i ρ => ∃ (ps : List Int) (arms : List Bool) (e0 e1 c m : Int) (v4 v5 : Option D),ρ = [some (dInts [c,m]),some (.int (1 + n)),some (dInts [e0,e1]),some (dInts ps),v4,v5] ∧ 0 ≤ c ∧ ps.length = i ∧ LnI ps arms ∧ EndB arms ps.length false e0 ∧ EndB arms ps.length true e1 ∧ (∀ (j : Nat) (x : Int),ps[j]? = some x → 0 ≤ x ∧ x ≤ j),⟨[],[],0,0,c1,m1,_,_,rfl,h1,rfl,⟨rfl,fun x h => absurd h (Nat.not_lt_zero _)⟩,.inl ⟨rfl,fun y y0 y1 => absurd y1 (by show ¬ y ≤ 0; omega)⟩,.inl ⟨rfl,fun y y0 y1 => absurd y1 (by show ¬ y ≤ 0; omega)⟩,(fun j x h => by simp at h)⟩,?_,?_⟩
  · rintro i d ρ hd ⟨ps,arms,e0,e1,c3,m3,v4,v5,rfl,h3,lp,hL,hE0,hE1,hpar⟩
    obtain ⟨hi,rfl⟩ := rngD_at hd
    have hi2 : i < 23 := by omega
    have hla := hL.len
    have hz : (0 : Int) + (i : Int) + 1 = (arms.length : Int) + 1 := by omega
    have rng : ∀ b e,EndB arms ps.length b e → 0 ≤ e ∧ e ≤ (i : Int) := fun b e h => by rcases h with ⟨rfl,_⟩ | ⟨a,b,_⟩ <;> omega
    refine ⟨c3,m3,2,rfl,h3,by decide,sm_of (n := 3) (by decide) (by decide +kernel),fun r c4 m4 r0 r1 h4 => ?_⟩
    have : r = 0 ∨ r = 1 := by omega
    rcases this with rfl | rfl
    · refine ⟨rfl,by rw [len_ints]; omega,?_⟩
      refine ⟨rfl,?_⟩
      have hM := hL.more (c := false) (e := e0) (by rw [hla]; exact hE0)
      have hl' : (ps ++ [e0]).length = arms.length + 1 := by rw [List.length_append,hla]; rfl
      refine ⟨ps ++ [e0],arms ++ [false],(arms.length : Int) + 1,e1,c4,m4,some (.int (0 + (i : Int))),some (.int 0),?_,h4,by rw [List.length_append,lp]; rfl,hM,by rw [hl']; exact EndB.self _ _,by rw [hl']; exact EndB.other (by rw [hla]; exact hE1) (by decide),snoc_at hpar (by have := rng _ _ hE0; omega)⟩
      rw [← ints_snoc,← hz]; rfl
    · refine ⟨rfl,by rw [len_ints]; omega,?_⟩
      refine ⟨rfl,?_⟩
      have hM := hL.more (c := true) (e := e1) (by rw [hla]; exact hE1)
      have hl' : (ps ++ [e1]).length = arms.length + 1 := by rw [List.length_append,hla]; rfl
      refine ⟨ps ++ [e1],arms ++ [true],e0,(arms.length : Int) + 1,c4,m4,some (.int (0 + (i : Int))),some (.int 1),?_,h4,by rw [List.length_append,lp]; rfl,hM,by rw [hl']; exact EndB.other (by rw [hla]; exact hE0) (by decide),by rw [hl']; exact EndB.self _ _,snoc_at hpar (by have := rng _ _ hE1; omega)⟩
      rw [← ints_snoc,← hz]; rfl
  · rintro ρ ⟨ps,arms,e0,e1,c3,m3,v4,v5,rfl,h3,lp,hL,hE0,hE1,hpar⟩
    rw [rngD_len] at lp
    refine ⟨⟨by omega,by omega⟩,?_⟩
    refine ⟨by rw [rngD_len]; omega,?_⟩
    refine ⟨fun i es d => ∃ (rs : List Int) (c m : Int),es = rs.map D.int ∧ d = dInts [c,m] ∧ 0 ≤ c ∧ rs.length = i ∧ (∀ (j : Nat) (x : Int),rs[j]? = some x → 1 ≤ x ∧ x ≤ 1000000),⟨[],c3,m3,rfl,rfl,h3,rfl,(fun j x h => by simp at h)⟩,?_,?_⟩
    · rintro j x es d hx ⟨rs,c5,m5,rfl,rfl,h5,lr,hroom⟩
      refine ⟨c5,m5,9,rfl,h5,by decide,sm_of (n := 9) (by decide) (by decide +kernel),fun u c6 m6 u0 u1 h6 => ?_⟩
      exact ⟨rs ++ [1 + u],c6,m6,(List.map_append (l₂ := [1 + u])).symm,rfl,h6,by rw [List.length_append,lr]; rfl,snoc_at hroom ⟨by omega,by omega⟩⟩
    · rintro es d ⟨rs,c5,m5,rfl,rfl,h5,lr,hroom⟩
      rw [rngD_len] at lr
      refine ⟨imms_ints _,?_⟩
      exact q0 ps rs arms c5 m5 ⟨by omega,by omega,by omega,hpar,hroom⟩ hL h5
def sdTold : SpD := fun ds q => ∃ ps rs as can,ds = [dPair ps rs,dAsks as,.bl can] ∧ Tree ps rs ∧ AsksOk ps as ∧ (can = true ↔ ∃ p : List Bool,∀ a ∈ as,runB ps a.one a.other p = true) ∧ q (.bl true) []
theorem ring_parts {ps : List Int} {as : List Ask} {R : List (Int × Int)} (h : ringB ps as (dLks R) = true) : 3 ≤ R.length ∧ R.length ≤ 61 ∧ (∀ l ∈ R,LkOk ps.length as.length l) ∧ ringZ ps as R = true := by
  have e : ringB ps as (dLks R) = ((decide (3 ≤ (R.map dLk).length) && decide ((R.map dLk).length ≤ 61)) && ((R.map dLk).all (linkB ps.length as.length) && ringZ ps as ((R.map dLk).map lkOf))) := rfl
  rw [e,lk_map,List.length_map,Bool.and_eq_true,Bool.and_eq_true,Bool.and_eq_true,decide_eq_true_iff,decide_eq_true_iff] at h
  obtain ⟨⟨h3,h61⟩,ha,hr⟩ := h
  have := (links_of ha).2
  rw [lk_map] at this
  exact ⟨h3,h61,this,hr⟩
theorem ok_q36 (T : Txt K mg A) : FnOk P w K mg base CX0 10 A.f_q36 A.d_q36 ["_law_tree","_law_asks","_law_can"] (spOf [false,false,false] false (sdTold)) := by
  have G_q1 := ok_q1 (P := P) (w := w) (base := base) T
  have G_q24 := ok_q24 (P := P) (w := w) (base := base) T
  have G_q26 := ok_q26 (P := P) (w := w) (base := base) T
  have S := sc_q36
  refine fnD T.F_q36 S ⟨[false,false,false],[false,false,false,false],false⟩ _ ?hl rfl rfl fun cdv Ar outer s H E hr => ⟨_,(qss_cons (qs_set (i := 3) S.nd rfl (Or.inl rfl) (QF.qe (qf_call (G_q26) (hr.mono (by decide)) rfl T.m_q26 T.k_q26 T.b_q26 (qk_s (qe_var 0) (qk_s (qe_var 1) qk_nil)))))
      (qss_cons (qs_cut (qs_if (QW.qt (qw_or (qt_not (qt_val (qe_isT rfl T.z_isinstance bt_isinstance (qe_var 3) (pe_bltn (v := .ty "tuple") rfl T.z_tuple bt_tuple rfl)))) (qw_or (qt_cmp (op_neD hr.units) dNe (qe_callB call_len_seq dLen rfl T.z_len bt_len (qa_cons (qe_var 3) qa_nil)) qe_int (nomark _)) (qw_or1 (qt_cmp (op_neD hr.units) dNe (qe_ix ix_seq dIx (qe_var 3) qe_int (fun _ _ => rfl)) (qe_ix ix_seq dIx (qe_lst (qa_cons qe_str (qa_cons qe_str qa_nil))) (qe_callTy call_int1 dInt1 rfl T.z_int bt_int (qa_cons (qe_var 2) qa_nil)) (fun _ _ => rfl)) (nomark _)))))) (qss_one (qs_ret qe_bl)) qss_nil))
      (qss_cons (qs_if (qt_val (qe_var 2)) (qss_one (qs_ret (qe_call (G_q1) (hr.mono (by decide)) rfl T.m_q1 T.k_q1 T.b_q1 (qk_s (qe_var 0) (qk_s (qe_var 1) (qk_s (qe_ix ix_seq dIx (qe_var 3) qe_int (fun _ _ => rfl)) qk_nil)))))) qss_nil)
      (qss_one (qs_ret (qe_cmp op_isB dIsB (qe_call (G_q24) (hr.mono (by decide)) rfl T.m_q24 T.k_q24 T.b_q24 (qk_s (qe_var 0) (qk_s (qe_var 1) (qk_s (qe_ix ix_seq dIx (qe_var 3) qe_int (fun _ _ => rfl)) qk_nil)))) qe_bl (nomark _))))))),fun ds q h => ?_⟩
  case hl => intro ds q h; obtain ⟨ps,rs,as,can,rfl,_⟩ := h; rfl
  obtain ⟨ps,rs,as,can,rfl,hT,ha,hcan,q0⟩ := h
  refine ⟨ps,rs,as,rfl,hT,ha,fun bs hb hr => ?_,fun R hR => ?_⟩
  · have hc : can = true := hcan.mpr ⟨bs,hr⟩
    subst hc
    refine ⟨fun ρ => ρ = [some (dPair ps rs),some (dAsks as),some (.bl true),some (.tup [.str "pointed",dTx bs])],?_,?_⟩
    · refine ⟨okD_str (by decide +kernel),okD_str (by decide +kernel),?_⟩
      refine (ite2 (c := (!eqD (.str "pointed") (.str "pointed")) = true) (fun c => ?_) (fun _ => rfl))
      rw [eqD_str] at c; simp at c
    rintro ρ rfl
    refine ⟨ps,rs,as,bs,rfl,hT,ha,hb,?_⟩
    rw [List.all_eq_true.mpr hr]
    exact q0
  · obtain ⟨h3,h61,hlk,hrz⟩ := ring_parts hR
    have hc : can = false := by
      cases can with
      | false => rfl
      | true =>
        obtain ⟨p,hp⟩ := hcan.mp rfl
        exact (ring_not hT ha (by omega) hlk hrz hp).elim
    subst hc
    refine ⟨fun ρ => ρ = [some (dPair ps rs),some (dAsks as),some (.bl false),some (.tup [.str "ring",dLks R])],?_,?_⟩
    · refine ⟨okD_str (by decide +kernel),okD_str (by decide +kernel),?_⟩
      refine (ite2 (c := (!eqD (.str "ring") (.str "ring")) = true) (fun c => ?_) (fun _ => rfl))
      rw [eqD_str] at c; simp at c
    rintro ρ rfl
    refine ⟨ps,rs,as,R,rfl,hT,ha,h61,hlk,?_⟩
    rw [decide_eq_true h3,hrz]
    exact q0
end
end K50
namespace K50
open PySem L2
section
variable {P : Program} {w : World} {K : PySem.W.Frag} {mg : Str → Option Value} {base : Heap} {A : Adr}
theorem has_mem {k : Key} : ∀ {ks : List Key},hasK ks k = true ↔ k ∈ ks
  | [] => ⟨fun h => (by cases h),fun h => (by cases h)⟩
  | j :: ks => by
    unfold hasK
    by_cases e : j = k
    · rw [if_pos e]; exact ⟨fun _ => by rw [e]; exact .head _,fun _ => rfl⟩
    · rw [if_neg e,has_mem (ks := ks)]
      exact ⟨fun h => .tail _ h,fun h => (List.mem_cons.mp h).elim (fun z => absurd z.symm e) id⟩
theorem mem_put {ks : List Key} {k j : Key} : j ∈ putKs ks k ↔ j = k ∨ j ∈ ks := by
  unfold putKs
  by_cases e : hasK ks k = true
  · rw [if_pos e]; exact ⟨.inr,fun h => h.elim (fun z => by rw [z]; exact has_mem.mp e) id⟩
  · rw [if_neg e,List.mem_append,List.mem_singleton]; exact Or.comm
structure Wd (n : Nat) (ks : List Key) (ds : List D) : Prop where
  len : ks.length = ds.length
  key : ∀ k ∈ ks,∃ j : Nat,k = .inl (((j + 1 : Nat)) : Int) ∧ j < n
  val : ∀ k d,valD ks ds k = some d → d = .int 0 ∨ d = .int 1
  nd : ks.Nodup
theorem Wd.nil (n : Nat) : Wd n [] [] := ⟨rfl,fun k h => (by cases h),fun k d h => (by cases h),List.nodup_nil⟩
theorem Wd.few {n : Nat} {ks : List Key} {ds : List D} (h : Wd n ks ds) : ks.length ≤ n := by
  have := h.nd.length_le_of_subset (l₂ := (List.range n).map fun j => (.inl (((j + 1 : Nat)) : Int) : Key)) fun k hk => by
    obtain ⟨j,rfl,hj⟩ := h.key k hk
    exact List.mem_map.mpr ⟨j,List.mem_range.mpr hj,rfl⟩
  rw [List.length_map,List.length_range] at this
  exact this
theorem Wd.put {n : Nat} {ks : List Key} {ds : List D} {t v : Int} (h : Wd n ks ds) (h0 : 1 ≤ t) (h1 : t ≤ n) (hv : v = 0 ∨ v = 1) : Wd n (putKs ks (.inl t)) (putAt ks ds (.inl t) (.int v)) := by
  refine ⟨putAt_len h.len,fun k hk => ?_,fun k d hd => ?_,?_⟩
  · rcases mem_put.mp hk with rfl | hk
    · exact ⟨(t - 1).toNat,by congr 1; omega,by omega⟩
    · exact h.key k hk
  · rw [valD_put h.len] at hd
    split at hd
    · cases hd; exact hv.imp (fun z => by rw [z]) (fun z => by rw [z])
    · exact h.val k d hd
  · unfold putKs
    by_cases e : hasK ks (.inl t) = true
    · rw [if_pos e]; exact h.nd
    · rw [if_neg e,List.nodup_append]
      exact ⟨h.nd,by simp,fun a ha b hb z => e (has_mem.mpr (by rw [List.mem_singleton.mp hb] at z; rw [← z]; exact ha))⟩
theorem Wd.get {n : Nat} {ks : List Key} {ds : List D} {t : Int} (h : Wd n ks ds) (e : hasK ks (.inl t) = true) : ∃ v : Int,valD ks ds (.inl t) = some (.int v) ∧ (v = 0 ∨ v = 1) := by
  have := valD_some (k := .inl t) h.len
  rw [e] at this
  obtain ⟨d,hd⟩ := Option.isSome_iff_exists.mp this
  rcases h.val _ _ hd with rfl | rfl
  · exact ⟨0,hd,.inl rfl⟩
  · exact ⟨1,hd,.inr rfl⟩
theorem has_put {ks : List Key} {k : Key} : hasK (putKs ks k) k = true := has_mem.mpr (mem_put.mpr (.inl rfl))
theorem has_up {ks : List Key} {k j : Key} (h : hasK ks j = true) : hasK (putKs ks k) j = true := has_mem.mpr (mem_put.mpr (.inr (has_mem.mp h)))
theorem put_len {ks : List Key} {k : Key} : ks.length ≤ (putKs ks k).length := by
  unfold putKs; split
  · exact Nat.le_refl _
  · rw [List.length_append]; omega
theorem put_new {ks : List Key} {k : Key} (h : hasK ks k = false) : (putKs ks k).length = ks.length + 1 := by
  unfold putKs; rw [h]; exact List.length_append
def SubK (a b : List Key) : Prop := ∀ k,hasK a k = true → hasK b k = true
def vz (ks : List Key) (ds : List D) (t : Int) : Bool := match valD ks ds (.inl t) with
  | some (.int v) => decide (v = 0)
  | _ => true
theorem vz_of {ks : List Key} {ds : List D} {t v : Int} (h : valD ks ds (.inl t) = some (.int v)) : vz ks ds t = decide (v = 0) := by unfold vz; rw [h]
def Col (as : List Ask) (p : List Bool) : Prop := ∀ a ∈ as,a.one ≠ 0 → a.other ≠ 0 → (wd p a.one != wd p a.other) = true
def ClA (ks : List Key) (a : Ask) : Prop := a.one ≠ 0 → a.other ≠ 0 → (hasK ks (.inl a.one) = true ↔ hasK ks (.inl a.other) = true)
structure ClH (as : List Ask) (ks : List Key) (ds : List D) : Prop where
  cl : ∀ a ∈ as,ClA ks a
  cn : ∀ p,Col as p → ∀ a ∈ as,a.one ≠ 0 → a.other ≠ 0 → hasK ks (.inl a.one) = true → (vz ks ds a.one != wd p a.one) = (vz ks ds a.other != wd p a.other)
structure SpH (as : List Ask) (ks0 : List Key) (ds0 : List D) (ks : List Key) (ds : List D) : Prop where
  sub : ∀ t : Int,hasK ks0 (.inl t) = true → hasK ks (.inl t) = true ∧ valD ks ds (.inl t) = valD ks0 ds0 (.inl t)
  nw : ∀ p,Col as p → ∃ c0 : Bool,∀ t : Int,hasK ks (.inl t) = true → hasK ks0 (.inl t) = false → (vz ks ds t != wd p t) = c0
theorem SpH.refl (as : List Ask) (ks : List Key) (ds : List D) : SpH as ks ds ks ds := ⟨fun t h => ⟨h,rfl⟩,fun p _ => ⟨true,fun t h h' => by rw [h] at h'; cases h'⟩⟩
theorem has_put_iff {ks : List Key} {k j : Key} : hasK (putKs ks k) j = true ↔ j = k ∨ hasK ks j = true := by rw [has_mem,mem_put,has_mem]
theorem vz_put {ks : List Key} {ds : List D} {t v s : Int} (hl : ks.length = ds.length) : vz (putKs ks (.inl t)) (putAt ks ds (.inl t) (.int v)) s = if s = t then decide (v = 0) else vz ks ds s := by
  unfold vz
  rw [valD_put hl]
  by_cases e : s = t
  · rw [if_pos e,if_pos (by rw [e])]
  · rw [if_neg e,if_neg (fun z => e (Sum.inl.inj z))]
theorem SpH.put {as : List Ask} {ks0 ks : List Key} {ds0 ds : List D} {t v : Int} (h : SpH as ks0 ds0 ks ds) (hl : ks.length = ds.length) (ht : hasK ks0 (.inl t) = false)
    (hv : ∀ p,Col as p → ∀ c0 : Bool,(∀ t : Int,hasK ks (.inl t) = true → hasK ks0 (.inl t) = false → (vz ks ds t != wd p t) = c0) → (decide (v = 0) != wd p t) = c0) : SpH as ks0 ds0 (putKs ks (.inl t)) (putAt ks ds (.inl t) (.int v)) := by
  refine ⟨fun s hs => ?_,fun p hp => ?_⟩
  · obtain ⟨a,b⟩ := h.sub s hs
    refine ⟨has_up a,?_⟩
    rw [valD_put hl,if_neg (fun z => ?_)]
    · exact b
    · rw [Sum.inl.inj z,ht] at hs; cases hs
  · obtain ⟨c0,hc⟩ := h.nw p hp
    refine ⟨c0,fun s hs hs0 => ?_⟩
    rw [vz_put hl]
    by_cases e : s = t
    · rw [if_pos e,e]; exact hv p hp c0 hc
    · rw [if_neg e]
      refine hc s ?_ hs0
      rcases has_put_iff.mp hs with z | z
      · exact absurd (Sum.inl.inj z) e
      · exact z
theorem SpH.first {as : List Ask} {ks : List Key} {ds : List D} {t v : Int} (hl : ks.length = ds.length) (ht : hasK ks (.inl t) = false) : SpH as ks ds (putKs ks (.inl t)) (putAt ks ds (.inl t) (.int v)) := by
  refine ⟨fun s hs => ?_,fun p hp => ⟨decide (v = 0) != wd p t,fun s hs hs0 => ?_⟩⟩
  · refine ⟨has_up hs,?_⟩
    rw [valD_put hl,if_neg (fun z => ?_)]
    rw [Sum.inl.inj z,ht] at hs; cases hs
  · rw [vz_put hl]
    rcases has_put_iff.mp hs with z | z
    · have := Sum.inl.inj z; subst this; rw [if_pos rfl]
    · rw [hs0] at z; cases z
theorem SpH.done {as : List Ask} {ks0 ks : List Key} {ds0 ds : List D} (h0 : ClH as ks0 ds0) (h : SpH as ks0 ds0 ks ds) (hc : ∀ a ∈ as,ClA ks a) : ClH as ks ds := by
  refine ⟨hc,fun p hp a ha a1 a2 hk => ?_⟩
  have hk2 := (hc a ha a1 a2).mp hk
  have same : ∀ s : Int,hasK ks0 (.inl s) = true → vz ks ds s = vz ks0 ds0 s := fun s hs => by unfold vz; rw [(h.sub s hs).2]
  cases e : hasK ks0 (.inl a.one) with
  | true =>
    have e2 := (h0.cl a ha a1 a2).mp e
    rw [same _ e,same _ e2]
    exact h0.cn p hp a ha a1 a2 e
  | false =>
    have e2 : hasK ks0 (.inl a.other) = false := by
      cases z : hasK ks0 (.inl a.other) with
      | false => rfl
      | true => have := (h0.cl a ha a1 a2).mpr z; rw [e] at this; cases this
    obtain ⟨c0,hn⟩ := h.nw p hp
    rw [hn _ hk e,hn _ hk2 e2]
def badF (ks : List Key) (ds : List D) : D → Option D
  | .tup [.int a,.int b,c,e] => if ((!decide (a = 0) && !decide (b = 0)) && (vz ks ds a == vz ks ds b)) = true then some (.tup [.int a,.int b,c,e]) else none
  | _ => none
theorem bad_emp (ks : List Key) (ds : List D) : ∀ as : List Ask,((as.map dAsk).filterMap (badF ks ds)).isEmpty = true ↔ ∀ a ∈ as,a.one ≠ 0 → a.other ≠ 0 → (vz ks ds a.one != vz ks ds a.other) = true
  | [] => ⟨fun _ a h => (by cases h),fun _ => rfl⟩
  | a :: as => by
    have q : badF ks ds (dAsk a) = if ((!decide (a.one = 0) && !decide (a.other = 0)) && (vz ks ds a.one == vz ks ds a.other)) = true then some (dAsk a) else none := rfl
    rw [List.map_cons,List.filterMap_cons,q]
    by_cases c : ((!decide (a.one = 0) && !decide (a.other = 0)) && (vz ks ds a.one == vz ks ds a.other)) = true
    · rw [if_pos c]
      refine ⟨fun h => (by cases h),fun h => ?_⟩
      rw [Bool.and_eq_true,Bool.and_eq_true] at c
      obtain ⟨⟨c1,c2⟩,c3⟩ := c
      have := h a (.head _) (by simpa using c1) (by simpa using c2)
      rw [bne,c3] at this; cases this
    · rw [if_neg c]
      show ((as.map dAsk).filterMap (badF ks ds)).isEmpty = true ↔ _
      rw [bad_emp ks ds as]
      refine ⟨fun h b hb b1 b2 => ?_,fun h b hb => h b (.tail _ hb)⟩
      rcases List.mem_cons.mp hb with rfl | hb
      · revert c
        rw [decide_eq_false b1,decide_eq_false b2,bne]
        cases vz ks ds b.one == vz ks ds b.other <;> decide
      · exact h b hb b1 b2
structure HI (n : Nat) (as : List Ask) (ks0 : List Key) (ds0 : List D) (ks ks' : List Key) (mo : Bool) (prs : List (Int × Int)) (j : Nat) (ks2 : List Key) (ds2 : List D) (mo2 : Bool) : Prop where
  wd : Wd n ks2 ds2
  sub : SubK ks' ks2
  len : ks'.length ≤ ks2.length
  no : mo2 = false → mo = false ∧ ks2 = ks' ∧ ∀ pr ∈ prs.take j,pr.1 ≠ 0 → pr.2 ≠ 0 → hasK ks' (.inl pr.1) = true → hasK ks' (.inl pr.2) = true
  yes : mo2 = true → ks.length < ks2.length
  sp : SpH as ks0 ds0 ks2 ds2
theorem HI.skip {n : Nat} {as : List Ask} {ks0 : List Key} {ds0 : List D} {ks ks' : List Key} {mo : Bool} {prs : List (Int × Int)} {j : Nat} {ks2 : List Key} {ds2 : List D} {mo2 : Bool} {pr : Int × Int} (h : HI n as ks0 ds0 ks ks' mo prs j ks2 ds2 mo2) (hp : prs[j]? = some pr)
    (hn : pr.1 ≠ 0 → pr.2 ≠ 0 → hasK ks2 (.inl pr.1) = true → hasK ks2 (.inl pr.2) = true) : HI n as ks0 ds0 ks ks' mo prs (j + 1) ks2 ds2 mo2 := by
  refine ⟨h.wd,h.sub,h.len,fun z => ?_,h.yes,h.sp⟩
  obtain ⟨a,b,c⟩ := h.no z
  refine ⟨a,b,fun p hm => ?_⟩
  rw [List.take_add_one,hp] at hm
  rcases List.mem_append.mp hm with y | y
  · exact c p y
  · have : p = pr := by simpa using y
    subst this
    rw [b] at hn
    exact hn
theorem HI.put {n : Nat} {as : List Ask} {ks0 : List Key} {ds0 : List D} {ks ks' : List Key} {mo : Bool} {prs : List (Int × Int)} {j j' : Nat} {ks2 : List Key} {ds2 : List D} {mo2 : Bool} {x y v0 : Int} (h : HI n as ks0 ds0 ks ks' mo prs j ks2 ds2 mo2) (hl : ks.length ≤ ks'.length)
    (hx : hasK ks2 (.inl x) = true) (hy : hasK ks2 (.inl y) = false) (y0 : 1 ≤ y) (y1 : y ≤ (n : Int)) (hv : valD ks2 ds2 (.inl x) = some (.int v0)) (hv01 : v0 = 0 ∨ v0 = 1)
    (hcl : hasK ks0 (.inl x) = true → hasK ks0 (.inl y) = true) (hcol : ∀ p,Col as p → (L2.wd p x != L2.wd p y) = true) : HI n as ks0 ds0 ks ks' mo prs j' (putKs ks2 (.inl y)) (putAt ks2 ds2 (.inl y) (.int (1 - v0))) true := by
  have y00 : hasK ks0 (.inl y) = false := by
    cases z : hasK ks0 (.inl y) with
    | false => rfl
    | true => rw [(h.sp.sub y z).1] at hy; cases hy
  have x00 : hasK ks0 (.inl x) = false := by
    cases z : hasK ks0 (.inl x) with
    | false => rfl
    | true => rw [hcl z] at y00; cases y00
  refine ⟨h.wd.put y0 y1 (by omega),fun k z => has_up (h.sub k z),Nat.le_trans h.len put_len,fun z => (by cases z),fun _ => ?_,h.sp.put h.wd.len y00 fun p hp c0 hc => ?_⟩
  · rw [put_new hy]; have := h.len; omega
  · have h1 := hc x hx x00
    have h2 := hcol p hp
    rw [vz_of hv] at h1
    rw [← h1]
    have e : decide (1 - v0 = 0) = !decide (v0 = 0) := by rcases hv01 with z | z <;> rw [z] <;> decide
    rw [e]
    revert h2
    cases decide (v0 = 0) <;> cases L2.wd p x <;> cases L2.wd p y <;> decide
def dPr (l : Int × Int) : D := .tup [.int l.1,.int l.2]
def sdHalv5 : SpD := fun ds q => ∃ n rs as,ds = [.int (n : Nat),dAsks as] ∧ Tree (List.replicate n 0) rs ∧ AsksOk (List.replicate n 0) as ∧ ∀ h : Bool,(h = true ↔ ∃ p : List Bool,Col as p) → q (.bl h) []
theorem ok_q19 (T : Txt K mg A) : FnOk P w K mg base CX0 1 A.f_q19 A.d_q19 ["_law_many","_law_asks"] (spOf [false,false] false (sdHalv5)) := by
  have S := sc_q19
  refine fnD T.F_q19 S ⟨[false,false],[false,false,true,false,false,false,false,false,false,false,false],false⟩ _ ?hl rfl rfl fun cdv Ar outer s H E hr => ⟨_,(qss_cons (qs_setO (i := 2) S.nd rfl (Or.inr rfl) qf_dic0)
      (qss_cons (qs_for PassesOwn.never rfl (qi_range2 rfl T.z_range (qa_cons qe_int (qa_cons (qe_op op_add dI (qe_var 0) qe_int) qa_nil))) (qg_name (i := 3) S.nd rfl (Or.inl rfl)) (qss_cons (qs_set (i := 4) S.nd rfl (Or.inl rfl) (QE.bor [2] (qe_cmp (op_notInK (hu_of hr)) dNinK (qe_var 3) (qe_var 2) rfl)))
      (qss_cons (qs_cut (qs_if (qt_val (qe_var 4)) (qss_one (qs_putK (i := 2) (hu_of hr) rfl qe_int (qe_var 3))) qss_nil))
      (qss_one (qs_while PassesOwn.never (qt_val (qe_var 4)) (qss_cons (qs_set (i := 4) S.nd rfl (Or.inl rfl) qe_bl)
      (qss_one (qs_for PassesOwn.never rfl (qi_list (qe_var 1)) (qg_tup rfl (qgs_cons (qg_name (i := 5) S.nd rfl (Or.inl rfl)) (qgs_cons (qg_name (i := 6) S.nd rfl (Or.inl rfl)) (qgs_cons (qg_name (i := 7) S.nd rfl (Or.inl rfl)) (qgs_cons (qg_name (i := 8) S.nd rfl (Or.inl rfl)) qgs_nil)))) (takes_cons1 (takes_cons1 (takes_cons1 (takes_cons1 takes_nil))))) (qss_one (qs_for PassesOwn.never rfl (qi_list (qe_lst (qa_cons (qe_tup (qa_cons (qe_var 5) (qa_cons (qe_var 6) qa_nil))) (qa_cons (qe_tup (qa_cons (qe_var 6) (qa_cons (qe_var 5) qa_nil))) qa_nil)))) (qg_tup rfl (qgs_cons (qg_name (i := 9) S.nd rfl (Or.inl rfl)) (qgs_cons (qg_name (i := 10) S.nd rfl (Or.inl rfl)) qgs_nil)) (takes_cons1 (takes_cons1 takes_nil))) (qss_one (qs_cut (qs_if (QT.bor [2] (QW.qt (qw_and (qt_cmp op_notIn_seq dIn qe_int (qe_tup (qa_cons (qe_var 9) (qa_cons (qe_var 10) qa_nil))) rfl) (qw_and (qt_cmp (op_inK (hu_of hr)) dInK (qe_var 9) (qe_var 2) rfl) (qw_and1 (qt_cmp (op_notInK (hu_of hr)) dNinK (qe_var 10) (qe_var 2) rfl)))))) (qss_cons (qs_putK (i := 2) (hu_of hr) rfl (QE.bor [2] (qe_op op_sub dI qe_int (qe_dget (hu_of hr) (qe_var 2) (qe_var 9)))) (qe_var 10))
      (qss_one (qs_set (i := 4) S.nd rfl (Or.inl rfl) qe_bl))) qss_nil)))))))))))))
      (qss_one (qs_ret (QE.bor [2] (qe_cmp (op_eqNil hr.units) dEqNil (qe_comp ["_law_ask"] [2] ⟨rfl,rfl,by decide +kernel,rfl,rfl,(by first | exact trivial | exact ⟨rfl,trivial⟩ | exact ⟨rfl,rfl,trivial⟩ | exact ⟨rfl,rfl,rfl,trivial⟩ | exact ⟨rfl,rfl,rfl,rfl,trivial⟩),rfl⟩ rfl (qi_list (qe_var 1)) (cg_name 0) (fun _ _ _ _ => ⟨(pg_name (i := 0) (show List.Nodup (["_law_ask","_law_halves_here"] : List Str) by decide +kernel) rfl (Or.inl rfl)),(qif_one (QW.qt (qw_and (qt_cmp op_notIn_seq dIn qe_int (qe_sliceT (qe_var 0) qo_none (qo_some qe_int)) rfl) (qw_and1 (qt_cmp (op_eqD hr.units) dEq (qe_dget (hu_of hr) (qe_var 1) (qe_ix ix_seq dIx (qe_var 0) qe_int (fun _ _ => rfl))) (qe_dget (hu_of hr) (qe_var 1) (qe_ix ix_seq dIx (qe_var 0) qe_int (fun _ _ => rfl))) (nomark _)))))),(qe_var 0)⟩)) (qe_lst qa_nil) (nomark _))))))),fun ds q h => ?_⟩
  case hl => intro ds q h; obtain ⟨n,rs,as,rfl,_⟩ := h; rfl
  obtain ⟨n,rs,as,rfl,hT,ha,q0⟩ := h
  have hal := ha.len
  have hti : n ≤ 23 := by have := hT.hi; rw [List.length_replicate] at this; exact this
  have hends : ∀ a ∈ as,0 ≤ a.one ∧ a.one ≤ (n : Int) ∧ 0 ≤ a.other ∧ a.other ≤ (n : Int) := fun a hm => by
    have he := (ha.ok a hm).ends
    have a1 := he.a1; have b1 := he.b1
    rw [List.length_replicate] at a1 b1
    exact ⟨he.a0,a1,he.b0,b1⟩
  refine ⟨⟨by decide,by decide,by omega,by omega⟩,?_⟩
  refine ⟨fun i ρ => ∃ ks ds v3 v4 v5 v6 v7 v8 v9 v10,ρ = [some (.int (n : Nat)),some (dAsks as),some (.dic ks ds),v3,v4,v5,v6,v7,v8,v9,v10] ∧ Wd n ks ds ∧ ClH as ks ds ∧ ∀ j : Nat,j < i → hasK ks (.inl (((j + 1 : Nat)) : Int)) = true,⟨_,_,_,_,_,_,_,_,_,_,rfl,Wd.nil _,⟨fun a _ _ _ => ⟨fun h => (by cases h),fun h => (by cases h)⟩,fun p _ a _ _ _ h => (by cases h)⟩,fun j h => absurd h (Nat.not_lt_zero _)⟩,?_,?_⟩
  · rintro i d ρ hd ⟨ks0,ds0,v3,v4,v5,v6,v7,v8,v9,v10,rfl,hw,hc0,hj⟩
    obtain ⟨hi,rfl⟩ := rngD_at hd
    refine ⟨.inl (1 + (i : Int)),rfl,?_⟩
    refine ⟨rfl,?_⟩
    refine ⟨fun ρ => ∃ ks ds mo,ρ = [some (.int (n : Nat)),some (dAsks as),some (.dic ks ds),some (.int (1 + (i : Int))),some (.bl mo),v5,v6,v7,v8,v9,v10] ∧ Wd n ks ds ∧ SpH as ks0 ds0 ks ds ∧ (mo = false → ∀ a ∈ as,ClA ks a) ∧ ∀ j : Nat,j < i + 1 → hasK ks (.inl (((j + 1 : Nat)) : Int)) = true,?_,?_⟩
    · refine (ite2 (c := (!hasK ks0 (.inl (1 + (i : Int)))) = true) (fun c => ?_) (fun c => ?_))
      · have cf : hasK ks0 (.inl (1 + (i : Int))) = false := by simpa using c
        refine ⟨rfl,.inl (1 + (i : Int)),rfl,by have := hw.few; omega,?_⟩
        refine ⟨_,_,_,rfl,hw.put (by omega) (by omega) (.inl rfl),SpH.first hw.len cf,fun z => (by rw [c] at z; cases z),fun j hj2 => ?_⟩
        by_cases e : j = i
        · subst e; rw [show ((j + 1 : Nat) : Int) = 1 + (j : Int) by omega]; exact has_put
        · exact has_up (hj j (by omega))
      · refine ⟨_,_,_,rfl,hw,SpH.refl _ _ _,fun _ => hc0.cl,fun j hj2 => ?_⟩
        by_cases e : j = i
        · subst e; rw [show ((j + 1 : Nat) : Int) = 1 + (j : Int) by omega]; simpa using c
        · exact hj j (by omega)
    rintro ρ ⟨ks,ds,mo,rfl,hw,hsp,hmo,hj⟩
    refine ⟨fun m ρ => ∃ ks ds mo v5 v6 v7 v8 v9 v10,ρ = [some (.int (n : Nat)),some (dAsks as),some (.dic ks ds),some (.int (1 + (i : Int))),some (.bl mo),v5,v6,v7,v8,v9,v10] ∧ Wd n ks ds ∧ SpH as ks0 ds0 ks ds ∧ (mo = false → ∀ a ∈ as,ClA ks a) ∧ (∀ j : Nat,j < i + 1 → hasK ks (.inl (((j + 1 : Nat)) : Int)) = true) ∧ m = 2 * (n - ks.length) + (if mo = true then 1 else 0),⟨_,ks,ds,mo,_,_,_,_,_,_,rfl,hw,hsp,hmo,hj,rfl⟩,?_⟩
    rintro m ρ ⟨ks,ds,mo,v5,v6,v7,v8,v9,v10,rfl,hw,hsp,hmo,hj,rfl⟩
    cases mo with
    | false => exact ⟨_,_,_,_,_,_,_,_,_,_,rfl,hw,hsp.done hc0 (hmo rfl),hj⟩
    | true =>
      refine ⟨fun l ρ => ∃ ks' ds' mo v5 v6 v7 v8 v9 v10,ρ = [some (.int (n : Nat)),some (dAsks as),some (.dic ks' ds'),some (.int (1 + (i : Int))),some (.bl mo),v5,v6,v7,v8,v9,v10] ∧ Wd n ks' ds' ∧ SubK ks ks' ∧ ks.length ≤ ks'.length ∧ (mo = true → ks.length < ks'.length) ∧ SpH as ks0 ds0 ks' ds' ∧ (mo = false → ∀ a ∈ as.take l,ClA ks' a),⟨ks,ds,false,_,_,_,_,_,_,rfl,hw,fun _ h => h,Nat.le_refl _,fun h => (by cases h),hsp,fun _ v h => (by cases h)⟩,?_,?_⟩
      rotate_left
      · rintro ρ ⟨ks',ds',mo,v5,v6,v7,v8,v9,v10,rfl,hw',hs,hl1,hl2,hsp',hmo'⟩
        rw [List.length_map,List.take_length] at hmo'
        have hf := hw'.few
        have hf0 := hw.few
        refine ⟨2 * (n - ks'.length) + (if mo = true then 1 else 0),?_,ks',ds',mo,_,_,_,_,_,_,rfl,hw',hsp',hmo',fun j hj2 => hs _ (hj j hj2),rfl⟩
        cases mo with
        | true => have := hl2 rfl; rw [if_pos rfl]; omega
        | false => rw [if_neg (by decide),if_pos rfl]; omega
      rintro l d ρ hd ⟨ks',ds',mo,v5,v6,v7,v8,v9,v10,rfl,hw',hs,hl1,hl2,hsp',hmo'⟩
      obtain ⟨a,haL,rfl⟩ := asks_at hd
      have haM := List.mem_of_getElem? haL
      have hen := hends a haM
      have hcA := hc0.cl a haM
      have hprs : ∀ pr ∈ [(a.one,a.other),(a.other,a.one)],0 ≤ pr.1 ∧ 0 ≤ pr.2 ∧ pr.2 ≤ (n : Int) ∧ (pr.1 ≠ 0 → pr.2 ≠ 0 → (hasK ks0 (.inl pr.1) = true → hasK ks0 (.inl pr.2) = true) ∧ ∀ p,Col as p → (L2.wd p pr.1 != L2.wd p pr.2) = true) := fun pr hm => by
        rcases List.mem_cons.mp hm with rfl | hm
        · exact ⟨hen.1,hen.2.2.1,hen.2.2.2,fun a1 a2 => ⟨(hcA a1 a2).mp,fun p hp => hp a haM a1 a2⟩⟩
        · rw [List.mem_singleton.mp hm]
          refine ⟨hen.2.2.1,hen.1,hen.2.1,fun a2 a1 => ⟨(hcA a1 a2).mpr,fun p hp => ?_⟩⟩
          have := hp a haM a1 a2
          revert this
          show _ → (L2.wd p a.other != L2.wd p a.one) = true
          cases L2.wd p a.one <;> cases L2.wd p a.other <;> decide
      have hfin : ∀ ks2 : List Key,(∀ pr ∈ [(a.one,a.other),(a.other,a.one)],pr.1 ≠ 0 → pr.2 ≠ 0 → hasK ks2 (.inl pr.1) = true → hasK ks2 (.inl pr.2) = true) → ClA ks2 a := fun ks2 h a1 a2 => ⟨h _ (.head _) a1 a2,h _ (.tail _ (.head _)) a2 a1⟩
      have eds : [D.tup [.int a.one,.int a.other],.tup [.int a.other,.int a.one]] = [(a.one,a.other),(a.other,a.one)].map dPr := rfl
      have hpl : [(a.one,a.other),(a.other,a.one)].length = 2 := rfl
      generalize hP : [(a.one,a.other),(a.other,a.one)] = prs at hprs hfin eds hpl
      refine ⟨fun j ρ => ∃ ks2 ds2 mo2 v9 v10,ρ = [some (.int (n : Nat)),some (dAsks as),some (.dic ks2 ds2),some (.int (1 + (i : Int))),some (.bl mo2),some (.int a.one),some (.int a.other),some (.int a.size),some (.int a.worth),v9,v10] ∧ HI n as ks0 ds0 ks ks' mo prs j ks2 ds2 mo2,⟨ks',ds',mo,_,_,rfl,hw',fun _ h => h,Nat.le_refl _,fun z => ⟨z,rfl,fun pr h => (by cases h)⟩,hl2,hsp'⟩,?_,?_⟩
      rotate_left
      · rintro ρ ⟨ks2,ds2,mo2,v9,v10,rfl,hI⟩
        have hlen2 := hI.len
        refine ⟨ks2,ds2,mo2,_,_,_,_,_,_,rfl,hI.wd,fun k h => hI.sub k (hs k h),by omega,hI.yes,hI.sp,fun z => ?_⟩
        obtain ⟨m1,m2,m3⟩ := hI.no z
        rw [show ([D.tup [.int a.one,.int a.other],.tup [.int a.other,.int a.one]] : List D).length = prs.length by rw [hpl]; rfl,List.take_length] at m3
        intro b hb
        rw [m2]
        rw [List.take_add_one,haL] at hb
        rcases List.mem_append.mp hb with y | y
        · exact hmo' m1 b y
        · have : b = a := by simpa using y
          subst this
          exact hfin ks' m3
      rintro j d ρ hd ⟨ks2,ds2,mo2,v9,v10,rfl,hI⟩
      obtain ⟨pr,hpr,rfl⟩ : ∃ pr,prs[j]? = some pr ∧ dPr pr = d := by
        have hd' : ([D.tup [.int a.one,.int a.other],.tup [.int a.other,.int a.one]] : List D)[j]? = some d := hd
        rw [eds,List.getElem?_map] at hd'; exact Option.map_eq_some_iff.mp hd'
      obtain ⟨p0,p1,p2,p3⟩ := hprs pr (List.mem_of_getElem? hpr)
      refine ⟨fun ρ => ∃ ks3 ds3 mo3,ρ = [some (.int (n : Nat)),some (dAsks as),some (.dic ks3 ds3),some (.int (1 + (i : Int))),some (.bl mo3),some (.int a.one),some (.int a.other),some (.int a.size),some (.int a.worth),some (.int pr.1),some (.int pr.2)] ∧ HI n as ks0 ds0 ks ks' mo prs (j + 1) ks3 ds3 mo3,?_,?_⟩
      rotate_left
      · rintro ρ ⟨ks3,ds3,mo3,rfl,hI3⟩
        exact ⟨_,_,_,_,_,rfl,hI3⟩
      refine ⟨rfl,flat_ints [pr.1,pr.2],?_⟩
      show if (!inD (.int 0) ([pr.1,pr.2].map D.int)) = true then _ else _
      rw [inD_ints]
      refine (ite2 (c := (!([pr.1,pr.2].contains 0)) = true) (fun c => ?_) (fun c => ?_))
      rotate_left
      · refine ⟨_,_,_,rfl,hI.skip hpr fun a1 a2 => ?_⟩
        exfalso
        apply c
        simp
        omega
      have c' : pr.1 ≠ 0 ∧ pr.2 ≠ 0 := by
        simp at c
        omega
      refine ⟨.inl pr.1,rfl,?_⟩
      refine (ite2 (c := hasK ks2 (.inl pr.1) = true) (fun cx => ?_) (fun cx => ⟨_,_,_,rfl,hI.skip hpr fun _ _ z => absurd z cx⟩))
      refine ⟨.inl pr.2,rfl,?_⟩
      refine (ite2 (c := (!hasK ks2 (.inl pr.2)) = true) (fun cy => ?_) (fun cy => ⟨_,_,_,rfl,hI.skip hpr fun _ _ _ => by simpa using cy⟩))
      have cy' : hasK ks2 (.inl pr.2) = false := by simpa using cy
      obtain ⟨v0,hv0,hv01⟩ := hI.wd.get cx
      have hf2 := hI.wd.few
      refine ⟨.inl pr.1,.int v0,rfl,hv0,?_⟩
      refine ⟨rfl,rfl,.inl pr.2,rfl,by omega,?_⟩
      obtain ⟨g1,g2⟩ := p3 c'.1 c'.2
      exact ⟨_,_,_,rfl,hI.put hl1 cx cy' (by omega) p2 hv0 hv01 g1 g2⟩
  · rintro ρ ⟨ks,ds,v3,v4,v5,v6,v7,v8,v9,v10,rfl,hw,hcl,hj⟩
    rw [rngD_len] at hj
    have hall : ∀ t : Int,1 ≤ t → t ≤ (n : Int) → hasK ks (.inl t) = true := fun t t0 t1 => by
      have := hj (t - 1).toNat (by omega)
      rw [show (((t - 1).toNat + 1 : Nat) : Int) = t by omega] at this
      exact this
    refine ⟨by rw [len_asks]; omega,?_⟩
    refine compD_fm (badF ks ds) ?_ ?_
    · intro d hd k hk
      obtain ⟨a,hm,rfl⟩ := List.mem_map.mp hd
      have hen := hends a hm
      have hk' : k (if ((!decide (a.one = 0) && !decide (a.other = 0)) && (vz ks ds a.one == vz ks ds a.other)) = true then some (dAsk a) else none) := hk
      have ec : cutD [D.int a.one,D.int a.other,D.int a.size,D.int a.worth] none (some 2) = [a.one,a.other].map D.int := by rw [cutD_take (by decide)]; rfl
      refine ⟨by simp [HT.sIx],rfl,?_⟩
      rw [ec]
      refine ⟨flat_ints [a.one,a.other],?_⟩
      show if (!inD (.int 0) ([a.one,a.other].map D.int)) = true then _ else _
      rw [inD_ints]
      refine (ite2 (c := (!([a.one,a.other].contains 0)) = true) (fun c => ?_) (fun c => ?_))
      rotate_left
      · have cn : (!decide (a.one = 0) && !decide (a.other = 0)) = false := by
          cases z : (!decide (a.one = 0) && !decide (a.other = 0)) with
          | false => rfl
          | true =>
            exfalso
            apply c
            simp at z ⊢
            omega
        rw [cn] at hk'
        exact hk'
      have c' : a.one ≠ 0 ∧ a.other ≠ 0 := by simp at c; omega
      obtain ⟨v1,hv1,hv11⟩ := hw.get (hall a.one (by omega) hen.2.1)
      obtain ⟨v2,hv2,hv21⟩ := hw.get (hall a.other (by omega) hen.2.2.2)
      rw [decide_eq_false c'.1,decide_eq_false c'.2,vz_of hv1,vz_of hv2] at hk'
      refine ⟨.inl a.one,.int v1,rfl,hv1,?_⟩
      refine ⟨.inl a.other,.int v2,rfl,hv2,?_⟩
      rcases hv11 with rfl | rfl
      · rcases hv21 with rfl | rfl
        · exact hk'
        · exact hk'
      · rcases hv21 with rfl | rfl
        · exact hk'
        · exact hk'
    refine ⟨rfl,q0 ((as.map dAsk).filterMap (badF ks ds)).isEmpty ?_⟩
    rw [bad_emp]
    refine ⟨fun h => ⟨(List.range n).map fun (j : Nat) => vz ks ds ((j : Int) + 1),fun a hm a1 a2 => ?_⟩,fun ⟨p,hp⟩ a hm a1 a2 => ?_⟩
    · have hen := hends a hm
      have ew : ∀ t : Int,1 ≤ t → t ≤ (n : Int) → L2.wd ((List.range n).map fun (j : Nat) => vz ks ds ((j : Int) + 1)) t = vz ks ds t := fun t t0 t1 => by
        unfold L2.wd
        rw [List.getD_eq_getElem?_getD,List.getElem?_map,List.getElem?_range (by omega)]
        show vz ks ds ((((t - 1).toNat : Nat) : Int) + 1) = _
        rw [show (((t - 1).toNat : Nat) : Int) + 1 = t by omega]
      rw [ew _ (by omega) hen.2.1,ew _ (by omega) hen.2.2.2]
      exact h a hm a1 a2
    · have hen := hends a hm
      have h1 := hcl.cn p hp a hm a1 a2 (hall a.one (by omega) hen.2.1)
      have h2 := hp a hm a1 a2
      revert h1 h2
      cases vz ks ds a.one <;> cases vz ks ds a.other <;> cases L2.wd p a.one <;> cases L2.wd p a.other <;> decide
end
end K50
namespace K50
open PySem L2
section
variable {P : Program} {w : World} {K : PySem.W.Frag} {mg : Str → Option Value} {base : Heap} {A : Adr}
theorem star_tre5 {ps rs : List Int} (hT : Tree ps rs) : Tree (List.replicate ps.length 0) rs := by
  refine ⟨by rw [List.length_replicate]; exact hT.len,by rw [List.length_replicate]; exact hT.lo,by rw [List.length_replicate]; exact hT.hi,fun j x h => ?_,hT.room⟩
  rw [List.getElem?_replicate] at h
  split at h
  · cases h; exact ⟨by decide,by omega⟩
  · cases h
theorem ok_law (T : Txt K mg A) : FnOk P w K mg base CX0 11 A.f_law A.d_law ["_law_script"] (spOf [false] false (sdLaw K)) := by
  have G_q32 := ok_q32 (P := P) (w := w) (base := base) T
  have G_q33 := ok_q33 (P := P) (w := w) (base := base) T
  have G_q19 := ok_q19 (P := P) (w := w) (base := base) T
  have G_q34 := ok_q34 (P := P) (w := w) (base := base) T
  have G_q20 := ok_q20 (P := P) (w := w) (base := base) T
  have G_q36 := ok_q36 (P := P) (w := w) (base := base) T
  have S := sc_law
  refine fnD T.F_law S ⟨[false],[false,false,false,true,true,false,true,false,false],false⟩ _ ?hl rfl rfl fun cdv Ar outer s H E hr => ⟨_,(qss_cons (qs_set (i := 1) S.nd rfl (Or.inl rfl) (QF.qe (qf_call (G_q34) (hr.mono (by decide)) rfl T.m_q34 T.k_q34 T.b_q34 (qk_t (qf_call (G_q20) (hr.mono (by decide)) rfl T.m_q20 T.k_q20 T.b_q20 (qk_s (qe_call (G_q32) (hr.mono (by decide)) rfl T.m_q32 T.k_q32 T.b_q32 (qk_s (qe_var 0) (qk_s qe_int qk_nil))) (qk_s qe_int qk_nil))) qk_nil))))
      (qss_cons (qs_set (i := 2) S.nd rfl (Or.inl rfl) (qe_callB call_len_seq dLen rfl T.z_len bt_len (qa_cons (qe_ix ix_seq dIx (qe_var 1) qe_int (fun _ _ => rfl)) qa_nil)))
      (qss_cons (qs_setM (i := 3) S.nd rfl (Or.inl rfl) (qm_tup (qms_cons (QF.qm (qf_mk op_rep dRep (qe_lst (qa_cons qe_int qa_nil)) (qe_var 2))) (qms_cons (QF.qm (qf_callTy call_list_of dList rfl T.z_list bt_list (qa_cons (qe_ix ix_seq dIx (qe_var 1) qe_int (fun _ _ => rfl)) qa_nil))) qms_nil))))
      (qss_cons (qs_setM (i := 4) S.nd rfl (Or.inl rfl) (qm_lst (qms_cons (QF.qm (qf_lst qa_nil)) (qms_cons (QF.qm (qf_lst qa_nil)) qms_nil))))
      (qss_cons (qs_for PassesOwn.never rfl (qi_range2 rfl T.z_range (qa_cons qe_int (qa_cons (qe_callB (call_max2 rfl) dMax rfl T.z_max bt_max (qa_cons qe_int (qa_cons (qe_callB (call_min2 rfl) dMin rfl T.z_min bt_min (qa_cons (qe_callB call_len_seq dLen rfl T.z_len bt_len (qa_cons (qe_var 0) qa_nil)) (qa_cons qe_int qa_nil))) qa_nil))) qa_nil))) (qg_name (i := 5) S.nd rfl (Or.inl rfl)) (qss_cons (qs_setO (i := 6) S.nd rfl (Or.inl rfl) (qf_call (G_q20) (hr.mono (by decide)) rfl T.m_q20 T.k_q20 T.b_q20 (qk_s (qe_call (G_q32) (hr.mono (by decide)) rfl T.m_q32 T.k_q32 T.b_q32 (qk_s (qe_var 0) (qk_s (qe_var 5) qk_nil))) (qk_s (qe_var 5) qk_nil))))
      (qss_cons (qs_set (i := 7) S.nd rfl (Or.inl rfl) (qe_call (G_q33) (hr.mono (by decide)) rfl T.m_q33 T.k_q33 T.b_q33 (qk_m 6 (qk_s (qe_op op_add dI (qe_var 2) qe_int) qk_nil))))
      (qss_cons (qs_cut (qs_set (i := 8) S.nd rfl (Or.inl rfl) (qe_op op_mod dIC (qe_op op_add dI (qe_op op_add dI (qe_var 7) qe_int) (qe_call (G_q33) (hr.mono (by decide)) rfl T.m_q33 T.k_q33 T.b_q33 (qk_m 6 (qk_s (qe_var 2) qk_nil)))) (qe_op op_add dI (qe_var 2) qe_int))))
      (qss_cons (qs_cut (qs_appP (i := 4) (qp_ix qp_var qz_int) (qe_tup (qa_cons (qe_var 7) (qa_cons (qe_var 8) (qa_cons (qe_op op_add dI qe_int (qe_call (G_q33) (hr.mono (by decide)) rfl T.m_q33 T.k_q33 T.b_q33 (qk_m 6 (qk_s qe_int qk_nil)))) (qa_cons (qe_op op_add dI qe_int (qe_call (G_q33) (hr.mono (by decide)) rfl T.m_q33 T.k_q33 T.b_q33 (qk_m 6 (qk_s qe_int qk_nil)))) qa_nil)))))))
      (qss_cons (qs_set (i := 7) S.nd rfl (Or.inl rfl) (qe_op op_add dI qe_int (qe_call (G_q33) (hr.mono (by decide)) rfl T.m_q33 T.k_q33 T.b_q33 (qk_m 6 (qk_s (qe_var 2) qk_nil)))))
      (qss_cons (qs_set (i := 8) S.nd rfl (Or.inl rfl) qe_int)
      (qss_cons (qs_cut (qs_if (QW.qt (qw_and (qt_cmp op_gt dB (qe_var 2) qe_int (nomark _)) (qw_and1 (qt_cmp op_gt dB (qe_call (G_q33) (hr.mono (by decide)) rfl T.m_q33 T.k_q33 T.b_q33 (qk_m 6 (qk_s qe_int qk_nil))) qe_int (nomark _))))) (qss_one (qs_set (i := 8) S.nd rfl (Or.inl rfl) (qe_op op_add dI qe_int (qe_op op_mod dIC (qe_op op_add dI (qe_var 7) (qe_call (G_q33) (hr.mono (by decide)) rfl T.m_q33 T.k_q33 T.b_q33 (qk_m 6 (qk_s (qe_op op_sub dI (qe_var 2) qe_int) qk_nil)))) (qe_var 2))))) qss_nil))
      (qss_cons (qs_cut (qs_appP (i := 4) (qp_ix qp_var qz_int) (qe_tup (qa_cons (qe_var 7) (qa_cons (qe_var 8) (qa_cons qe_int (qa_cons (qe_op op_add dI qe_int (qe_call (G_q33) (hr.mono (by decide)) rfl T.m_q33 T.k_q33 T.b_q33 (qk_m 6 (qk_s qe_int qk_nil)))) qa_nil)))))))
      (qss_one (qs_cut (qs_if (qt_cmp (op_eqD hr.units) dEq (qe_op op_mod dIC (qe_var 5) qe_int) qe_int (nomark _)) (qss_cons (qs_if (QT.bor [4] (qt_not (qt_val (qe_call (G_q36) (hr.mono (by decide)) rfl T.m_q36 T.k_q36 T.b_q36 (qk_s (qe_var 1) (qk_s (qe_ix ix_seq dIx (qe_var 4) qe_int (fun _ _ => rfl)) (qk_s qe_bl qk_nil))))))) (qss_one (qs_ret qe_bl)) qss_nil)
      (qss_one (qs_if (QT.bor [3,4] (qt_not (qt_val (qe_call (G_q36) (hr.mono (by decide)) rfl T.m_q36 T.k_q36 T.b_q36 (qk_s (qe_var 3) (qk_s (qe_ix ix_seq dIx (qe_var 4) qe_int (fun _ _ => rfl)) (qk_s (qe_call (G_q19) (hr.mono (by decide)) rfl T.m_q19 T.k_q19 T.b_q19 (qk_s (qe_var 2) (qk_s (qe_ix ix_seq dIx (qe_var 4) qe_int (fun _ _ => rfl)) qk_nil))) qk_nil))))))) (qss_one (qs_ret qe_bl)) qss_nil))) qss_nil))))))))))))
      (qss_one (qs_ret qe_bl))))))),fun ds q h => ?_⟩
  case hl => intro ds q h; obtain ⟨φ,ns,rfl,_⟩ := h; rfl
  obtain ⟨φ,ns,rfl,hφ,hl,q0⟩ := h
  refine ⟨φ,ns,0,rfl,hφ,by decide,?_⟩
  refine ⟨_,0,rfl,by decide,by decide,fun c m h0 => ?_⟩
  refine ⟨c,m,rfl,h0,fun ps rs arms c1 m1 hT hL h1 => ?_⟩
  have hti := hT.hi
  have hlo := hT.lo
  refine ⟨⟨by rw [len_ints]; omega,by rw [len_ints]; omega,by rw [len_ints]; show 1 * _ ≤ 1000; omega⟩,?_⟩
  have er : (List.replicate ((ps.map D.int).length : Int).toNat [D.int 0]).flatten = (List.replicate ps.length (0 : Int)).map D.int := by
    rw [len_ints,Int.toNat_natCast,List.map_replicate]
    generalize ps.length = n
    induction n with
    | zero => rfl
    | succ n ih => rw [List.replicate_succ,List.replicate_succ,List.flatten_cons,ih]; rfl
  rw [er]
  refine ⟨imms_ints _,?_⟩
  refine ⟨imms_ints _,?_⟩
  have hS := star_tre5 hT
  have hsl : (List.replicate ps.length (0 : Int)).length = ps.length := List.length_replicate ..
  generalize hst : List.replicate ps.length (0 : Int) = st at hsl
  rw [hst] at hS
  refine ⟨rfl,rfl,hφ,?_⟩
  refine ⟨⟨by decide,by decide,by split <;> split <;> omega,by split <;> split <;> omega⟩,?_⟩
  refine ⟨fun i ρ => ∃ (a0 a1 : List Ask) (v5 v6 v7 v8 : Option D),ρ = [some (.scr φ ns),some (dPair ps rs),some (.int (ps.length : Int)),some (dPair st rs),some (.lst [dAsks a0,dAsks a1]),v5,v6,v7,v8] ∧ a0.length = i ∧ a1.length = i ∧ (∀ a ∈ a0,AskOk ps a) ∧ (∀ a ∈ a1,AskOk st a),⟨[],[],_,_,_,_,by rw [len_ints]; rfl,rfl,rfl,fun a h => (by cases h),fun a h => (by cases h)⟩,?_,?_⟩
  rotate_left
  · rintro ρ ⟨a0,a1,v5,v6,v7,v8,rfl,_⟩
    exact q0
  rintro i d ρ hd ⟨a0,a1,v5,v6,v7,v8,rfl,l0,l1,ho0,ho1⟩
  obtain ⟨hi,rfl⟩ := rngD_at hd
  have hi2 : i < 30 := by revert hi; split <;> split <;> omega
  refine ⟨φ,ns,1 + (i : Int),rfl,hφ,by omega,?_⟩
  refine ⟨_,1 + (i : Int),rfl,by omega,by omega,fun c2 m2 h2 => ?_⟩
  refine ⟨c2,m2,(ps.length : Int) + 1,rfl,h2,by omega,sm_of (n := 24) (by omega) (by decide +kernel),fun x c3 m3 x0 x1 h3 => ?_⟩
  refine ⟨fun ρ => ∃ z c m,ρ = [some (.scr φ ns),some (dPair ps rs),some (.int (ps.length : Int)),some (dPair st rs),some (.lst [dAsks a0,dAsks a1]),some (.int (1 + (i : Int))),some (dInts [c,m]),some (.int x),some (.int z)] ∧ Ends2 ps x z ∧ 0 ≤ c,?_,?_⟩
  · refine ⟨c3,m3,(ps.length : Int),rfl,h3,by omega,sm_of (n := 24) (by omega) (by decide +kernel),fun y c4 m4 y0 y1 h4 => ?_⟩
    refine ⟨by show (0 : Int) < _; omega,?_⟩
    have hz : Ends2 ps x ((x + 1 + y) % ((ps.length : Int) + 1)) := by
      have he := other_ends (ps := ps) (a := x) (r := y) x0 (by omega) y0 (by omega)
      rw [show 1 + (ps.length : Int) = (ps.length : Int) + 1 by omega] at he
      exact he
    exact ⟨_,_,_,rfl,hz,h4⟩
  rintro ρ ⟨z,c4,m4,rfl,hz,h4⟩
  refine ⟨fun ρ => ∃ b0 c m,ρ = [some (.scr φ ns),some (dPair ps rs),some (.int (ps.length : Int)),some (dPair st rs),some (.lst [dAsks b0,dAsks a1]),some (.int (1 + (i : Int))),some (dInts [c,m]),some (.int x),some (.int z)] ∧ AsksOk ps b0 ∧ b0.length = i + 1 ∧ 0 ≤ c,?_,?_⟩
  · refine ⟨.lst [dAsks a0,dAsks a1],rfl,0,dAsks a0,rfl,rfl,.lst [dAsks a0,dAsks a1],a0.map dAsk,rfl,rfl,?_⟩
    refine ⟨c4,m4,9,rfl,h4,by decide,sm_of (n := 9) (by decide) (by decide +kernel),fun s c5 m5 s0 s1 h5 => ?_⟩
    refine ⟨c5,m5,9,rfl,h5,by decide,sm_of (n := 9) (by decide) (by decide +kernel),fun v c6 m6 w0 w1 h6 => ?_⟩
    refine ⟨rfl,by rw [len_asks]; omega,?_⟩
    have e0 : setP ([] ++ [0]) (.lst [dAsks a0,dAsks a1]) (.lst (a0.map dAsk ++ [D.tup [.int x,.int z,.int (1 + s),.int (1 + v)]])) = .lst [dAsks (a0 ++ [⟨x,z,1 + s,1 + v⟩]),dAsks a1] := by
      rw [← asks_snoc]; rfl
    rw [e0]
    have hk0 : AskOk ps ⟨x,z,1 + s,1 + v⟩ := ⟨hz,by show 1 ≤ 1 + s; omega,by show 1 + s ≤ 1000000; omega,by show 1 ≤ 1 + v; omega,by show 1 + v ≤ 1000000000000; omega⟩
    exact ⟨_,_,_,rfl,⟨by rw [List.length_append]; show _ + 1 ≤ 30; omega,fun a hm => (List.mem_append.mp hm).elim (ho0 a) fun y => by rw [List.mem_singleton.mp y]; exact hk0⟩,by rw [List.length_append,l0]; rfl,h6⟩
  rintro ρ ⟨b0,c6,m6,rfl,hA0,hal0,h6⟩
  refine ⟨c6,m6,(ps.length : Int),rfl,h6,by omega,sm_of (n := 24) (by omega) (by decide +kernel),fun r c7 m7 r0 r1 h7 => ?_⟩
  refine ⟨fun ρ => ∃ z2 c m,ρ = [some (.scr φ ns),some (dPair ps rs),some (.int (ps.length : Int)),some (dPair st rs),some (.lst [dAsks b0,dAsks a1]),some (.int (1 + (i : Int))),some (dInts [c,m]),some (.int (1 + r)),some (.int z2)] ∧ Ends2 st (1 + r) z2 ∧ 0 ≤ c,?_,?_⟩
  · have hE0 : Ends2 st (1 + r) 0 := ⟨by omega,by rw [hsl]; omega,by omega,by omega,by omega⟩
    refine (ite2 (c := decide ((1 : Int) < (ps.length : Int)) = true) (fun cc => ?_) (fun _ => ⟨_,_,_,rfl,hE0,h7⟩))
    have cc := of_decide_eq_true cc
    refine ⟨c7,m7,5,rfl,h7,by decide,sm_of (n := 9) (by decide) (by decide +kernel),fun g c8 m8 g0 g1 h8 => ?_⟩
    refine (ite2 (c := decide ((0 : Int) < g) = true) (fun _ => ?_) (fun _ => ⟨_,_,_,rfl,hE0,h8⟩))
    refine ⟨c8,m8,(ps.length : Int) - 1,rfl,h8,by omega,sm_of (n := 24) (by omega) (by decide +kernel),fun u c9 m9 u0 u1 h9 => ?_⟩
    refine ⟨by show (0 : Int) < _; omega,?_⟩
    refine ⟨_,_,_,rfl,?_,h9⟩
    have n0 := Int.emod_nonneg (1 + r + u) (show (ps.length : Int) ≠ 0 by omega)
    have n1 := Int.emod_lt_of_pos (1 + r + u) (show (0 : Int) < (ps.length : Int) by omega)
    refine ⟨by omega,by rw [hsl]; omega,by omega,by rw [hsl]; omega,fun e => ?_⟩
    have e2 : (1 + r + u) % (ps.length : Int) = r := by omega
    by_cases lt : 1 + r + u < (ps.length : Int)
    · rw [Int.emod_eq_of_lt (by omega) lt] at e2; omega
    · rw [← Int.sub_emod_right,Int.emod_eq_of_lt (by omega) (by omega)] at e2; omega
  rintro ρ ⟨z2,c8,m8,rfl,hE2,h8⟩
  refine ⟨fun ρ => ∃ b1 c m,ρ = [some (.scr φ ns),some (dPair ps rs),some (.int (ps.length : Int)),some (dPair st rs),some (.lst [dAsks b0,dAsks b1]),some (.int (1 + (i : Int))),some (dInts [c,m]),some (.int (1 + r)),some (.int z2)] ∧ AsksOk st b1 ∧ b1.length = i + 1,?_,?_⟩
  · refine ⟨.lst [dAsks b0,dAsks a1],rfl,1,dAsks a1,rfl,rfl,.lst [dAsks b0,dAsks a1],a1.map dAsk,rfl,rfl,?_⟩
    refine ⟨c8,m8,9,rfl,h8,by decide,sm_of (n := 9) (by decide) (by decide +kernel),fun v2 c9 m9 v0 v1 h9 => ?_⟩
    refine ⟨rfl,by rw [len_asks]; omega,?_⟩
    have e1 : setP ([] ++ [1]) (.lst [dAsks b0,dAsks a1]) (.lst (a1.map dAsk ++ [D.tup [.int (1 + r),.int z2,.int 1,.int (1 + v2)]])) = .lst [dAsks b0,dAsks (a1 ++ [⟨1 + r,z2,1,1 + v2⟩])] := by
      rw [← asks_snoc]; rfl
    rw [e1]
    have hk1 : AskOk st ⟨1 + r,z2,1,1 + v2⟩ := ⟨hE2,by show (1 : Int) ≤ 1; omega,by show (1 : Int) ≤ 1000000; omega,by show 1 ≤ 1 + v2; omega,by show 1 + v2 ≤ 1000000000000; omega⟩
    exact ⟨_,_,_,rfl,⟨by rw [List.length_append]; show _ + 1 ≤ 30; omega,fun a hm => (List.mem_append.mp hm).elim (ho1 a) fun y => by rw [List.mem_singleton.mp y]; exact hk1⟩,by rw [List.length_append,l1]; rfl⟩
  rintro ρ ⟨b1,c9,m9,rfl,hA1,hal1⟩
  refine ⟨fun ρ => ∃ v5 v6 v7 v8,ρ = [some (.scr φ ns),some (dPair ps rs),some (.int (ps.length : Int)),some (dPair st rs),some (.lst [dAsks b0,dAsks b1]),v5,v6,v7,v8],?_,?_⟩
  rotate_left
  · rintro ρ ⟨v5,v6,v7,v8,rfl⟩
    exact ⟨b0,b1,_,_,_,_,rfl,hal0,hal1,hA0.ok,hA1.ok⟩
  refine ⟨(show (0 : Int) < 3 by decide),?_⟩
  refine (ite2 (c := decide ((1 + (i : Int)) % 3 = 1) = true) (fun _ => ?_) (fun _ => ⟨_,_,_,_,rfl⟩))
  refine ⟨ps,rs,b0,true,rfl,hT,hA0,⟨fun _ => ⟨arms,fun a hm => line_run hT hL (hA0.ok a hm).ends⟩,fun _ => rfl⟩,?_⟩
  have hA1' : AsksOk (List.replicate ps.length 0) b1 := by rw [hst]; exact hA1
  have hS' : Tree (List.replicate ps.length 0) rs := by rw [hst]; exact hS
  refine ⟨ps.length,rs,b1,rfl,hS',hA1',fun hh hcol => ?_⟩
  refine ⟨st,rs,b1,hh,rfl,hS,hA1,?_,⟨_,_,_,_,rfl⟩⟩
  rw [hcol]
  refine ⟨fun ⟨p,hp⟩ => ⟨p,fun a hm => ?_⟩,fun ⟨p,hp⟩ => ⟨p,fun a hm => ?_⟩⟩
  · have := (star_run hS' (p := p) (hA1'.ok a hm).ends).mpr (hp a hm)
    rw [hst] at this; exact this
  · have := hp a hm
    rw [← hst] at this
    exact (star_run hS' (hA1'.ok a hm).ends).mp this
end
end K50
namespace K50
open PySem L2
theorem lenS {us : List Value} {n : Nat} (h : us.length = n + 1) : ∃ a r,us = a :: r ∧ r.length = n := by
  cases us with
  | nil => cases h
  | cons a r => exact ⟨a,r,rfl,Nat.succ.inj h⟩
theorem us1 {fd : FuncData} {ps : List Str} (h : ∀ a0,bindArgs fd ⟨[a0],[]⟩ = pure (ps.zip [a0])) : ∀ us : List Value,us.length = 1 → bindArgs fd ⟨us,[]⟩ = pure (ps.zip us) := fun us hl => by
  obtain ⟨a0,u0,rfl,h0⟩ := lenS hl
  cases List.eq_nil_of_length_eq_zero h0
  exact h a0
theorem us2 {fd : FuncData} {ps : List Str} (h : ∀ a0 a1,bindArgs fd ⟨[a0,a1],[]⟩ = pure (ps.zip [a0,a1])) : ∀ us : List Value,us.length = 2 → bindArgs fd ⟨us,[]⟩ = pure (ps.zip us) := fun us hl => by
  obtain ⟨a0,u0,rfl,h0⟩ := lenS hl
  obtain ⟨a1,u1,rfl,h1⟩ := lenS h0
  cases List.eq_nil_of_length_eq_zero h1
  exact h a0 a1
theorem us3 {fd : FuncData} {ps : List Str} (h : ∀ a0 a1 a2,bindArgs fd ⟨[a0,a1,a2],[]⟩ = pure (ps.zip [a0,a1,a2])) : ∀ us : List Value,us.length = 3 → bindArgs fd ⟨us,[]⟩ = pure (ps.zip us) := fun us hl => by
  obtain ⟨a0,u0,rfl,h0⟩ := lenS hl
  obtain ⟨a1,u1,rfl,h1⟩ := lenS h0
  obtain ⟨a2,u2,rfl,h2⟩ := lenS h1
  cases List.eq_nil_of_length_eq_zero h2
  exact h a0 a1 a2
theorem us4 {fd : FuncData} {ps : List Str} (h : ∀ a0 a1 a2 a3,bindArgs fd ⟨[a0,a1,a2,a3],[]⟩ = pure (ps.zip [a0,a1,a2,a3])) : ∀ us : List Value,us.length = 4 → bindArgs fd ⟨us,[]⟩ = pure (ps.zip us) := fun us hl => by
  obtain ⟨a0,u0,rfl,h0⟩ := lenS hl
  obtain ⟨a1,u1,rfl,h1⟩ := lenS h0
  obtain ⟨a2,u2,rfl,h2⟩ := lenS h1
  obtain ⟨a3,u3,rfl,h3⟩ := lenS h2
  cases List.eq_nil_of_length_eq_zero h3
  exact h a0 a1 a2 a3
theorem us5 {fd : FuncData} {ps : List Str} (h : ∀ a0 a1 a2 a3 a4,bindArgs fd ⟨[a0,a1,a2,a3,a4],[]⟩ = pure (ps.zip [a0,a1,a2,a3,a4])) : ∀ us : List Value,us.length = 5 → bindArgs fd ⟨us,[]⟩ = pure (ps.zip us) := fun us hl => by
  obtain ⟨a0,u0,rfl,h0⟩ := lenS hl
  obtain ⟨a1,u1,rfl,h1⟩ := lenS h0
  obtain ⟨a2,u2,rfl,h2⟩ := lenS h1
  obtain ⟨a3,u3,rfl,h3⟩ := lenS h2
  obtain ⟨a4,u4,rfl,h4⟩ := lenS h3
  cases List.eq_nil_of_length_eq_zero h4
  exact h a0 a1 a2 a3 a4
theorem all_mk {l : PySem.W.OpenLaw} {w : World} {K : PySem.W.Frag} {h : Heap} {mg : Str → Option Value} {fa f_q18 f_q10 f_q0 f_q4 f_q17 f_q31 f_q16 f_q30 f_q2 f_q3 f_q38 f_q7 f_q37 f_q9 f_q12 f_q23 f_q8 f_q24 f_q21 f_q11 f_q14 f_q27 f_q5 f_q6 f_q26 f_q32 f_q20 f_q33 f_q25 f_q35 f_q1 f_q34 f_q19 f_q36 f_law : Addr} (X : K.In h) (G : h.Ns mainGlobals mg) (hfa : mg "law" = some (.ref fa))
    {od_q18 an_q18 : Option Addr} {sl_q18 : Array (Option Value)} {oc_q18 kV_q18 dc_q18 pm_q18 cd_q18 ct_q18 : Value} (a_q18 : PySem.W.nsIn K mainGlobals "is_whole" = some (some (.ref f_q18))) (l_q18 : K.lookup f_q18 = some ⟨oc_q18,od_q18,.func (PySem.W.fnOf "is_whole" "is_whole" (defArgs s_q18) (defBody s_q18) (defScope s_q18) .none kV_q18 dc_q18 pm_q18 an_q18 cd_q18 ct_q18),sl_q18⟩) (c_q18 : PySem.W.codeIn K cd_q18 "is_whole" = true) (k_q18 : PySem.W.keepIn K (.ref f_q18) = true)
    {od_q10 an_q10 : Option Addr} {sl_q10 : Array (Option Value)} {oc_q10 kV_q10 dc_q10 pm_q10 cd_q10 ct_q10 : Value} (a_q10 : PySem.W.nsIn K mainGlobals "is_between" = some (some (.ref f_q10))) (l_q10 : K.lookup f_q10 = some ⟨oc_q10,od_q10,.func (PySem.W.fnOf "is_between" "is_between" (defArgs s_q10) (defBody s_q10) (defScope s_q10) .none kV_q10 dc_q10 pm_q10 an_q10 cd_q10 ct_q10),sl_q10⟩) (c_q10 : PySem.W.codeIn K cd_q10 "is_between" = true) (k_q10 : PySem.W.keepIn K (.ref f_q10) = true)
    {od_q0 an_q0 : Option Addr} {sl_q0 : Array (Option Value)} {oc_q0 kV_q0 dc_q0 pm_q0 cd_q0 ct_q0 : Value} (a_q0 : PySem.W.nsIn K mainGlobals "has_two_lists" = some (some (.ref f_q0))) (l_q0 : K.lookup f_q0 = some ⟨oc_q0,od_q0,.func (PySem.W.fnOf "has_two_lists" "has_two_lists" (defArgs s_q0) (defBody s_q0) (defScope s_q0) .none kV_q0 dc_q0 pm_q0 an_q0 cd_q0 ct_q0),sl_q0⟩) (c_q0 : PySem.W.codeIn K cd_q0 "has_two_lists" = true) (k_q0 : PySem.W.keepIn K (.ref f_q0) = true)
    {od_q4 an_q4 : Option Addr} {sl_q4 : Array (Option Value)} {oc_q4 kV_q4 dc_q4 pm_q4 cd_q4 ct_q4 : Value} (a_q4 : PySem.W.nsIn K mainGlobals "look_at_tree" = some (some (.ref f_q4))) (l_q4 : K.lookup f_q4 = some ⟨oc_q4,od_q4,.func (PySem.W.fnOf "look_at_tree" "look_at_tree" (defArgs s_q4) (defBody s_q4) (defScope s_q4) .none kV_q4 dc_q4 pm_q4 an_q4 cd_q4 ct_q4),sl_q4⟩) (c_q4 : PySem.W.codeIn K cd_q4 "look_at_tree" = true) (k_q4 : PySem.W.keepIn K (.ref f_q4) = true)
    {od_q17 an_q17 : Option Addr} {sl_q17 : Array (Option Value)} {oc_q17 kV_q17 dc_q17 pm_q17 cd_q17 ct_q17 : Value} (a_q17 : PySem.W.nsIn K mainGlobals "is_place" = some (some (.ref f_q17))) (l_q17 : K.lookup f_q17 = some ⟨oc_q17,od_q17,.func (PySem.W.fnOf "is_place" "is_place" (defArgs s_q17) (defBody s_q17) (defScope s_q17) .none kV_q17 dc_q17 pm_q17 an_q17 cd_q17 ct_q17),sl_q17⟩) (c_q17 : PySem.W.codeIn K cd_q17 "is_place" = true) (k_q17 : PySem.W.keepIn K (.ref f_q17) = true)
    {od_q31 an_q31 : Option Addr} {sl_q31 : Array (Option Value)} {oc_q31 kV_q31 dc_q31 pm_q31 cd_q31 ct_q31 : Value} (a_q31 : PySem.W.nsIn K mainGlobals "is_tie" = some (some (.ref f_q31))) (l_q31 : K.lookup f_q31 = some ⟨oc_q31,od_q31,.func (PySem.W.fnOf "is_tie" "is_tie" (defArgs s_q31) (defBody s_q31) (defScope s_q31) .none kV_q31 dc_q31 pm_q31 an_q31 cd_q31 ct_q31),sl_q31⟩) (c_q31 : PySem.W.codeIn K cd_q31 "is_tie" = true) (k_q31 : PySem.W.keepIn K (.ref f_q31) = true)
    {od_q16 an_q16 : Option Addr} {sl_q16 : Array (Option Value)} {oc_q16 kV_q16 dc_q16 pm_q16 cd_q16 ct_q16 : Value} (a_q16 : PySem.W.nsIn K mainGlobals "are_ends" = some (some (.ref f_q16))) (l_q16 : K.lookup f_q16 = some ⟨oc_q16,od_q16,.func (PySem.W.fnOf "are_ends" "are_ends" (defArgs s_q16) (defBody s_q16) (defScope s_q16) .none kV_q16 dc_q16 pm_q16 an_q16 cd_q16 ct_q16),sl_q16⟩) (c_q16 : PySem.W.codeIn K cd_q16 "are_ends" = true) (k_q16 : PySem.W.keepIn K (.ref f_q16) = true)
    {od_q30 an_q30 : Option Addr} {sl_q30 : Array (Option Value)} {oc_q30 kV_q30 dc_q30 pm_q30 cd_q30 ct_q30 : Value} (a_q30 : PySem.W.nsIn K mainGlobals "is_ask" = some (some (.ref f_q30))) (l_q30 : K.lookup f_q30 = some ⟨oc_q30,od_q30,.func (PySem.W.fnOf "is_ask" "is_ask" (defArgs s_q30) (defBody s_q30) (defScope s_q30) .none kV_q30 dc_q30 pm_q30 an_q30 cd_q30 ct_q30),sl_q30⟩) (c_q30 : PySem.W.codeIn K cd_q30 "is_ask" = true) (k_q30 : PySem.W.keepIn K (.ref f_q30) = true)
    {od_q2 an_q2 : Option Addr} {sl_q2 : Array (Option Value)} {oc_q2 kV_q2 dc_q2 pm_q2 cd_q2 ct_q2 : Value} (a_q2 : PySem.W.nsIn K mainGlobals "look_at_asks" = some (some (.ref f_q2))) (l_q2 : K.lookup f_q2 = some ⟨oc_q2,od_q2,.func (PySem.W.fnOf "look_at_asks" "look_at_asks" (defArgs s_q2) (defBody s_q2) (defScope s_q2) .none kV_q2 dc_q2 pm_q2 an_q2 cd_q2 ct_q2),sl_q2⟩) (c_q2 : PySem.W.codeIn K cd_q2 "look_at_asks" = true) (k_q2 : PySem.W.keepIn K (.ref f_q2) = true)
    {od_q3 an_q3 : Option Addr} {sl_q3 : Array (Option Value)} {oc_q3 kV_q3 dc_q3 pm_q3 cd_q3 ct_q3 : Value} (a_q3 : PySem.W.nsIn K mainGlobals "look_at_ends" = some (some (.ref f_q3))) (l_q3 : K.lookup f_q3 = some ⟨oc_q3,od_q3,.func (PySem.W.fnOf "look_at_ends" "look_at_ends" (defArgs s_q3) (defBody s_q3) (defScope s_q3) .none kV_q3 dc_q3 pm_q3 an_q3 cd_q3 ct_q3),sl_q3⟩) (c_q3 : PySem.W.codeIn K cd_q3 "look_at_ends" = true) (k_q3 : PySem.W.keepIn K (.ref f_q3) = true)
    {od_q38 an_q38 : Option Addr} {sl_q38 : Array (Option Value)} {oc_q38 kV_q38 dc_q38 pm_q38 cd_q38 ct_q38 : Value} (a_q38 : PySem.W.nsIn K mainGlobals "climb" = some (some (.ref f_q38))) (l_q38 : K.lookup f_q38 = some ⟨oc_q38,od_q38,.func (PySem.W.fnOf "climb" "climb" (defArgs s_q38) (defBody s_q38) (defScope s_q38) .none kV_q38 dc_q38 pm_q38 an_q38 cd_q38 ct_q38),sl_q38⟩) (c_q38 : PySem.W.codeIn K cd_q38 "climb" = true) (k_q38 : PySem.W.keepIn K (.ref f_q38) = true)
    {od_q7 an_q7 : Option Addr} {sl_q7 : Array (Option Value)} {oc_q7 kV_q7 dc_q7 pm_q7 cd_q7 ct_q7 : Value} (a_q7 : PySem.W.nsIn K mainGlobals "way_between" = some (some (.ref f_q7))) (l_q7 : K.lookup f_q7 = some ⟨oc_q7,od_q7,.func (PySem.W.fnOf "way_between" "way_between" (defArgs s_q7) (defBody s_q7) (defScope s_q7) .none kV_q7 dc_q7 pm_q7 an_q7 cd_q7 ct_q7),sl_q7⟩) (c_q7 : PySem.W.codeIn K cd_q7 "way_between" = true) (k_q7 : PySem.W.keepIn K (.ref f_q7) = true)
    {od_q37 an_q37 : Option Addr} {sl_q37 : Array (Option Value)} {oc_q37 kV_q37 dc_q37 pm_q37 cd_q37 ct_q37 : Value} (a_q37 : PySem.W.nsIn K mainGlobals "way_of" = some (some (.ref f_q37))) (l_q37 : K.lookup f_q37 = some ⟨oc_q37,od_q37,.func (PySem.W.fnOf "way_of" "way_of" (defArgs s_q37) (defBody s_q37) (defScope s_q37) .none kV_q37 dc_q37 pm_q37 an_q37 cd_q37 ct_q37),sl_q37⟩) (c_q37 : PySem.W.codeIn K cd_q37 "way_of" = true) (k_q37 : PySem.W.keepIn K (.ref f_q37) = true)
    {od_q9 an_q9 : Option Addr} {sl_q9 : Array (Option Value)} {oc_q9 kV_q9 dc_q9 pm_q9 cd_q9 ct_q9 : Value} (a_q9 : PySem.W.nsIn K mainGlobals "is_beneath" = some (some (.ref f_q9))) (l_q9 : K.lookup f_q9 = some ⟨oc_q9,od_q9,.func (PySem.W.fnOf "is_beneath" "is_beneath" (defArgs s_q9) (defBody s_q9) (defScope s_q9) .none kV_q9 dc_q9 pm_q9 an_q9 cd_q9 ct_q9),sl_q9⟩) (c_q9 : PySem.W.codeIn K cd_q9 "is_beneath" = true) (k_q9 : PySem.W.keepIn K (.ref f_q9) = true)
    {od_q12 an_q12 : Option Addr} {sl_q12 : Array (Option Value)} {oc_q12 kV_q12 dc_q12 pm_q12 cd_q12 ct_q12 : Value} (a_q12 : PySem.W.nsIn K mainGlobals "are_apart" = some (some (.ref f_q12))) (l_q12 : K.lookup f_q12 = some ⟨oc_q12,od_q12,.func (PySem.W.fnOf "are_apart" "are_apart" (defArgs s_q12) (defBody s_q12) (defScope s_q12) .none kV_q12 dc_q12 pm_q12 an_q12 cd_q12 ct_q12),sl_q12⟩) (c_q12 : PySem.W.codeIn K cd_q12 "are_apart" = true) (k_q12 : PySem.W.keepIn K (.ref f_q12) = true)
    {od_q23 an_q23 : Option Addr} {sl_q23 : Array (Option Value)} {oc_q23 kV_q23 dc_q23 pm_q23 cd_q23 ct_q23 : Value} (a_q23 : PySem.W.nsIn K mainGlobals "is_link" = some (some (.ref f_q23))) (l_q23 : K.lookup f_q23 = some ⟨oc_q23,od_q23,.func (PySem.W.fnOf "is_link" "is_link" (defArgs s_q23) (defBody s_q23) (defScope s_q23) .none kV_q23 dc_q23 pm_q23 an_q23 cd_q23 ct_q23),sl_q23⟩) (c_q23 : PySem.W.codeIn K cd_q23 "is_link" = true) (k_q23 : PySem.W.keepIn K (.ref f_q23) = true)
    {od_q8 an_q8 : Option Addr} {sl_q8 : Array (Option Value)} {oc_q8 kV_q8 dc_q8 pm_q8 cd_q8 ct_q8 : Value} (a_q8 : PySem.W.nsIn K mainGlobals "are_joined" = some (some (.ref f_q8))) (l_q8 : K.lookup f_q8 = some ⟨oc_q8,od_q8,.func (PySem.W.fnOf "are_joined" "are_joined" (defArgs s_q8) (defBody s_q8) (defScope s_q8) .none kV_q8 dc_q8 pm_q8 an_q8 cd_q8 ct_q8),sl_q8⟩) (c_q8 : PySem.W.codeIn K cd_q8 "are_joined" = true) (k_q8 : PySem.W.keepIn K (.ref f_q8) = true)
    {od_q24 an_q24 : Option Addr} {sl_q24 : Array (Option Value)} {oc_q24 kV_q24 dc_q24 pm_q24 cd_q24 ct_q24 : Value} (a_q24 : PySem.W.nsIn K mainGlobals "is_ring" = some (some (.ref f_q24))) (l_q24 : K.lookup f_q24 = some ⟨oc_q24,od_q24,.func (PySem.W.fnOf "is_ring" "is_ring" (defArgs s_q24) (defBody s_q24) (defScope s_q24) .none kV_q24 dc_q24 pm_q24 an_q24 cd_q24 ct_q24),sl_q24⟩) (c_q24 : PySem.W.codeIn K cd_q24 "is_ring" = true) (k_q24 : PySem.W.keepIn K (.ref f_q24) = true)
    {od_q21 an_q21 : Option Addr} {sl_q21 : Array (Option Value)} {oc_q21 kV_q21 dc_q21 pm_q21 cd_q21 ct_q21 : Value} (a_q21 : PySem.W.nsIn K mainGlobals "links_of" = some (some (.ref f_q21))) (l_q21 : K.lookup f_q21 = some ⟨oc_q21,od_q21,.func (PySem.W.fnOf "links_of" "links_of" (defArgs s_q21) (defBody s_q21) (defScope s_q21) .none kV_q21 dc_q21 pm_q21 an_q21 cd_q21 ct_q21),sl_q21⟩) (c_q21 : PySem.W.codeIn K cd_q21 "links_of" = true) (k_q21 : PySem.W.keepIn K (.ref f_q21) = true)
    {od_q11 an_q11 : Option Addr} {sl_q11 : Array (Option Value)} {oc_q11 kV_q11 dc_q11 pm_q11 cd_q11 ct_q11 : Value} (a_q11 : PySem.W.nsIn K mainGlobals "reach_from" = some (some (.ref f_q11))) (l_q11 : K.lookup f_q11 = some ⟨oc_q11,od_q11,.func (PySem.W.fnOf "reach_from" "reach_from" (defArgs s_q11) (defBody s_q11) (defScope s_q11) .none kV_q11 dc_q11 pm_q11 an_q11 cd_q11 ct_q11),sl_q11⟩) (c_q11 : PySem.W.codeIn K cd_q11 "reach_from" = true) (k_q11 : PySem.W.keepIn K (.ref f_q11) = true)
    {od_q14 an_q14 : Option Addr} {sl_q14 : Array (Option Value)} {oc_q14 kV_q14 dc_q14 pm_q14 cd_q14 ct_q14 : Value} (a_q14 : PySem.W.nsIn K mainGlobals "path_back" = some (some (.ref f_q14))) (l_q14 : K.lookup f_q14 = some ⟨oc_q14,od_q14,.func (PySem.W.fnOf "path_back" "path_back" (defArgs s_q14) (defBody s_q14) (defScope s_q14) .none kV_q14 dc_q14 pm_q14 an_q14 cd_q14 ct_q14),sl_q14⟩) (c_q14 : PySem.W.codeIn K cd_q14 "path_back" = true) (k_q14 : PySem.W.keepIn K (.ref f_q14) = true)
    {od_q27 an_q27 : Option Addr} {sl_q27 : Array (Option Value)} {oc_q27 kV_q27 dc_q27 pm_q27 cd_q27 ct_q27 : Value} (a_q27 : PySem.W.nsIn K mainGlobals "text_of" = some (some (.ref f_q27))) (l_q27 : K.lookup f_q27 = some ⟨oc_q27,od_q27,.func (PySem.W.fnOf "text_of" "text_of" (defArgs s_q27) (defBody s_q27) (defScope s_q27) .none kV_q27 dc_q27 pm_q27 an_q27 cd_q27 ct_q27),sl_q27⟩) (c_q27 : PySem.W.codeIn K cd_q27 "text_of" = true) (k_q27 : PySem.W.keepIn K (.ref f_q27) = true)
    {od_q5 an_q5 : Option Addr} {sl_q5 : Array (Option Value)} {oc_q5 kV_q5 dc_q5 pm_q5 cd_q5 ct_q5 : Value} (a_q5 : PySem.W.nsIn K mainGlobals "ring_through" = some (some (.ref f_q5))) (l_q5 : K.lookup f_q5 = some ⟨oc_q5,od_q5,.func (PySem.W.fnOf "ring_through" "ring_through" (defArgs s_q5) (defBody s_q5) (defScope s_q5) .none kV_q5 dc_q5 pm_q5 an_q5 cd_q5 ct_q5),sl_q5⟩) (c_q5 : PySem.W.codeIn K cd_q5 "ring_through" = true) (k_q5 : PySem.W.keepIn K (.ref f_q5) = true)
    {od_q6 an_q6 : Option Addr} {sl_q6 : Array (Option Value)} {oc_q6 kV_q6 dc_q6 pm_q6 cd_q6 ct_q6 : Value} (a_q6 : PySem.W.nsIn K mainGlobals "first_clash" = some (some (.ref f_q6))) (l_q6 : K.lookup f_q6 = some ⟨oc_q6,od_q6,.func (PySem.W.fnOf "first_clash" "first_clash" (defArgs s_q6) (defBody s_q6) (defScope s_q6) .none kV_q6 dc_q6 pm_q6 an_q6 cd_q6 ct_q6),sl_q6⟩) (c_q6 : PySem.W.codeIn K cd_q6 "first_clash" = true) (k_q6 : PySem.W.keepIn K (.ref f_q6) = true)
    {od_q26 an_q26 : Option Addr} {sl_q26 : Array (Option Value)} {oc_q26 kV_q26 dc_q26 pm_q26 cd_q26 ct_q26 : Value} (a_q26 : PySem.W.nsIn K mainGlobals "pointed" = some (some (.ref f_q26))) (l_q26 : K.lookup f_q26 = some ⟨oc_q26,od_q26,.func (PySem.W.fnOf "pointed" "pointed" (defArgs s_q26) (defBody s_q26) (defScope s_q26) .none kV_q26 dc_q26 pm_q26 an_q26 cd_q26 ct_q26),sl_q26⟩) (c_q26 : PySem.W.codeIn K cd_q26 "pointed" = true) (k_q26 : PySem.W.keepIn K (.ref f_q26) = true)
    {od_q32 an_q32 : Option Addr} {sl_q32 : Array (Option Value)} {oc_q32 kV_q32 dc_q32 pm_q32 cd_q32 ct_q32 : Value} (a_q32 : PySem.W.nsIn K mainGlobals "_law_cell" = some (some (.ref f_q32))) (l_q32 : K.lookup f_q32 = some ⟨oc_q32,od_q32,.func (PySem.W.fnOf "_law_cell" "_law_cell" (defArgs s_q32) (defBody s_q32) (defScope s_q32) .none kV_q32 dc_q32 pm_q32 an_q32 cd_q32 ct_q32),sl_q32⟩) (c_q32 : PySem.W.codeIn K cd_q32 "_law_cell" = true) (k_q32 : PySem.W.keepIn K (.ref f_q32) = true)
    {od_q20 an_q20 : Option Addr} {sl_q20 : Array (Option Value)} {oc_q20 kV_q20 dc_q20 pm_q20 cd_q20 ct_q20 : Value} (a_q20 : PySem.W.nsIn K mainGlobals "_law_source" = some (some (.ref f_q20))) (l_q20 : K.lookup f_q20 = some ⟨oc_q20,od_q20,.func (PySem.W.fnOf "_law_source" "_law_source" (defArgs s_q20) (defBody s_q20) (defScope s_q20) .none kV_q20 dc_q20 pm_q20 an_q20 cd_q20 ct_q20),sl_q20⟩) (c_q20 : PySem.W.codeIn K cd_q20 "_law_source" = true) (k_q20 : PySem.W.keepIn K (.ref f_q20) = true)
    {od_q33 an_q33 : Option Addr} {sl_q33 : Array (Option Value)} {oc_q33 kV_q33 dc_q33 pm_q33 cd_q33 ct_q33 : Value} (a_q33 : PySem.W.nsIn K mainGlobals "_law_draw" = some (some (.ref f_q33))) (l_q33 : K.lookup f_q33 = some ⟨oc_q33,od_q33,.func (PySem.W.fnOf "_law_draw" "_law_draw" (defArgs s_q33) (defBody s_q33) (defScope s_q33) .none kV_q33 dc_q33 pm_q33 an_q33 cd_q33 ct_q33),sl_q33⟩) (c_q33 : PySem.W.codeIn K cd_q33 "_law_draw" = true) (k_q33 : PySem.W.keepIn K (.ref f_q33) = true)
    {od_q25 an_q25 : Option Addr} {sl_q25 : Array (Option Value)} {oc_q25 kV_q25 dc_q25 pm_q25 cd_q25 ct_q25 : Value} (a_q25 : PySem.W.nsIn K mainGlobals "_law_sides" = some (some (.ref f_q25))) (l_q25 : K.lookup f_q25 = some ⟨oc_q25,od_q25,.func (PySem.W.fnOf "_law_sides" "_law_sides" (defArgs s_q25) (defBody s_q25) (defScope s_q25) .none kV_q25 dc_q25 pm_q25 an_q25 cd_q25 ct_q25),sl_q25⟩) (c_q25 : PySem.W.codeIn K cd_q25 "_law_sides" = true) (k_q25 : PySem.W.keepIn K (.ref f_q25) = true)
    {od_q35 an_q35 : Option Addr} {sl_q35 : Array (Option Value)} {oc_q35 kV_q35 dc_q35 pm_q35 cd_q35 ct_q35 : Value} (a_q35 : PySem.W.nsIn K mainGlobals "_law_runs" = some (some (.ref f_q35))) (l_q35 : K.lookup f_q35 = some ⟨oc_q35,od_q35,.func (PySem.W.fnOf "_law_runs" "_law_runs" (defArgs s_q35) (defBody s_q35) (defScope s_q35) .none kV_q35 dc_q35 pm_q35 an_q35 cd_q35 ct_q35),sl_q35⟩) (c_q35 : PySem.W.codeIn K cd_q35 "_law_runs" = true) (k_q35 : PySem.W.keepIn K (.ref f_q35) = true)
    {od_q1 an_q1 : Option Addr} {sl_q1 : Array (Option Value)} {oc_q1 kV_q1 dc_q1 pm_q1 cd_q1 ct_q1 : Value} (a_q1 : PySem.W.nsIn K mainGlobals "_law_is_pointing" = some (some (.ref f_q1))) (l_q1 : K.lookup f_q1 = some ⟨oc_q1,od_q1,.func (PySem.W.fnOf "_law_is_pointing" "_law_is_pointing" (defArgs s_q1) (defBody s_q1) (defScope s_q1) .none kV_q1 dc_q1 pm_q1 an_q1 cd_q1 ct_q1),sl_q1⟩) (c_q1 : PySem.W.codeIn K cd_q1 "_law_is_pointing" = true) (k_q1 : PySem.W.keepIn K (.ref f_q1) = true)
    {od_q34 an_q34 : Option Addr} {sl_q34 : Array (Option Value)} {oc_q34 kV_q34 dc_q34 pm_q34 cd_q34 ct_q34 : Value} (a_q34 : PySem.W.nsIn K mainGlobals "_law_line" = some (some (.ref f_q34))) (l_q34 : K.lookup f_q34 = some ⟨oc_q34,od_q34,.func (PySem.W.fnOf "_law_line" "_law_line" (defArgs s_q34) (defBody s_q34) (defScope s_q34) .none kV_q34 dc_q34 pm_q34 an_q34 cd_q34 ct_q34),sl_q34⟩) (c_q34 : PySem.W.codeIn K cd_q34 "_law_line" = true) (k_q34 : PySem.W.keepIn K (.ref f_q34) = true)
    {od_q19 an_q19 : Option Addr} {sl_q19 : Array (Option Value)} {oc_q19 kV_q19 dc_q19 pm_q19 cd_q19 ct_q19 : Value} (a_q19 : PySem.W.nsIn K mainGlobals "_law_halves" = some (some (.ref f_q19))) (l_q19 : K.lookup f_q19 = some ⟨oc_q19,od_q19,.func (PySem.W.fnOf "_law_halves" "_law_halves" (defArgs s_q19) (defBody s_q19) (defScope s_q19) .none kV_q19 dc_q19 pm_q19 an_q19 cd_q19 ct_q19),sl_q19⟩) (c_q19 : PySem.W.codeIn K cd_q19 "_law_halves" = true) (k_q19 : PySem.W.keepIn K (.ref f_q19) = true)
    {od_q36 an_q36 : Option Addr} {sl_q36 : Array (Option Value)} {oc_q36 kV_q36 dc_q36 pm_q36 cd_q36 ct_q36 : Value} (a_q36 : PySem.W.nsIn K mainGlobals "_law_told" = some (some (.ref f_q36))) (l_q36 : K.lookup f_q36 = some ⟨oc_q36,od_q36,.func (PySem.W.fnOf "_law_told" "_law_told" (defArgs s_q36) (defBody s_q36) (defScope s_q36) .none kV_q36 dc_q36 pm_q36 an_q36 cd_q36 ct_q36),sl_q36⟩) (c_q36 : PySem.W.codeIn K cd_q36 "_law_told" = true) (k_q36 : PySem.W.keepIn K (.ref f_q36) = true)
    {od_law an_law : Option Addr} {sl_law : Array (Option Value)} {oc_law kV_law dc_law pm_law cd_law ct_law : Value} (a_law : PySem.W.nsIn K mainGlobals "law" = some (some (.ref f_law))) (l_law : K.lookup f_law = some ⟨oc_law,od_law,.func (PySem.W.fnOf "law" "law" (defArgs s_law) (defBody s_law) (defScope s_law) .none kV_law dc_law pm_law an_law cd_law ct_law),sl_law⟩) (c_law : PySem.W.codeIn K cd_law "law" = true) (k_law : PySem.W.keepIn K (.ref f_law) = true)
    {t_MOST_TIES : Tok} (c_MOST_TIES : PySem.W.nsIn K mainGlobals "MOST_TIES" = some (some (.int 23 t_MOST_TIES)))
    {t_MOST_ROOM : Tok} (c_MOST_ROOM : PySem.W.nsIn K mainGlobals "MOST_ROOM" = some (some (.int 1000000 t_MOST_ROOM)))
    {t_MOST_ASKS : Tok} (c_MOST_ASKS : PySem.W.nsIn K mainGlobals "MOST_ASKS" = some (some (.int 30 t_MOST_ASKS)))
    {t_MOST_SIZE : Tok} (c_MOST_SIZE : PySem.W.nsIn K mainGlobals "MOST_SIZE" = some (some (.int 1000000 t_MOST_SIZE)))
    {t_MOST_WORTH : Tok} (c_MOST_WORTH : PySem.W.nsIn K mainGlobals "MOST_WORTH" = some (some (.int 1000000000000 t_MOST_WORTH)))
    {t_LEAST_RING : Tok} (c_LEAST_RING : PySem.W.nsIn K mainGlobals "LEAST_RING" = some (some (.int 3 t_LEAST_RING)))
    {t_MOST_RING : Tok} (c_MOST_RING : PySem.W.nsIn K mainGlobals "MOST_RING" = some (some (.int 61 t_MOST_RING)))
    (z_abs : PySem.W.nsIn K mainGlobals "abs" = some none)
    (z_all : PySem.W.nsIn K mainGlobals "all" = some none)
    (z_bool : PySem.W.nsIn K mainGlobals "bool" = some none)
    (z_enumerate : PySem.W.nsIn K mainGlobals "enumerate" = some none)
    (z_int : PySem.W.nsIn K mainGlobals "int" = some none)
    (z_isinstance : PySem.W.nsIn K mainGlobals "isinstance" = some none)
    (z_len : PySem.W.nsIn K mainGlobals "len" = some none)
    (z_list : PySem.W.nsIn K mainGlobals "list" = some none)
    (z_max : PySem.W.nsIn K mainGlobals "max" = some none)
    (z_min : PySem.W.nsIn K mainGlobals "min" = some none)
    (z_range : PySem.W.nsIn K mainGlobals "range" = some none)
    (z_reversed : PySem.W.nsIn K mainGlobals "reversed" = some none)
    (z_sorted : PySem.W.nsIn K mainGlobals "sorted" = some none)
    (z_tuple : PySem.W.nsIn K mainGlobals "tuple" = some none)
    (z_zip : PySem.W.nsIn K mainGlobals "zip" = some none)
    : ∃ fd : FuncData,(∀ (s : Shared) (v : Value),BindsTo s fd ⟨[v],[]⟩ [("_law_script",v)]) ∧ ∀ base : Heap,K.In base → base.Ns mainGlobals mg → FnOk l.prog w K mg base CX0 11 fa fd ["_law_script"] (spLaw K) := by
  have e := hfa.symm.trans (PySem.W.mg_of X G a_law)
  cases e
  have F_q18 := fun_mk (st := s_q18) l_q18 c_q18 k_q18
  have b_q18 := F_q18.binds (ps := ["thing"]) fun _ _ _ _ _ _ us hl => us1 (fun _ => rfl) us hl
  have F_q10 := fun_mk (st := s_q10) l_q10 c_q10 k_q10
  have b_q10 := F_q10.binds (ps := ["thing","least","most"]) fun _ _ _ _ _ _ us hl => us3 (fun _ _ _ => rfl) us hl
  have F_q0 := fun_mk (st := s_q0) l_q0 c_q0 k_q0
  have b_q0 := F_q0.binds (ps := ["thing"]) fun _ _ _ _ _ _ us hl => us1 (fun _ => rfl) us hl
  have F_q4 := fun_mk (st := s_q4) l_q4 c_q4 k_q4
  have b_q4 := F_q4.binds (ps := ["thing"]) fun _ _ _ _ _ _ us hl => us1 (fun _ => rfl) us hl
  have F_q17 := fun_mk (st := s_q17) l_q17 c_q17 k_q17
  have b_q17 := F_q17.binds (ps := ["tree","thing"]) fun _ _ _ _ _ _ us hl => us2 (fun _ _ => rfl) us hl
  have F_q31 := fun_mk (st := s_q31) l_q31 c_q31 k_q31
  have b_q31 := F_q31.binds (ps := ["tree","thing"]) fun _ _ _ _ _ _ us hl => us2 (fun _ _ => rfl) us hl
  have F_q16 := fun_mk (st := s_q16) l_q16 c_q16 k_q16
  have b_q16 := F_q16.binds (ps := ["tree","one","other"]) fun _ _ _ _ _ _ us hl => us3 (fun _ _ _ => rfl) us hl
  have F_q30 := fun_mk (st := s_q30) l_q30 c_q30 k_q30
  have b_q30 := F_q30.binds (ps := ["tree","thing"]) fun _ _ _ _ _ _ us hl => us2 (fun _ _ => rfl) us hl
  have F_q2 := fun_mk (st := s_q2) l_q2 c_q2 k_q2
  have b_q2 := F_q2.binds (ps := ["tree","thing"]) fun _ _ _ _ _ _ us hl => us2 (fun _ _ => rfl) us hl
  have F_q3 := fun_mk (st := s_q3) l_q3 c_q3 k_q3
  have b_q3 := F_q3.binds (ps := ["tree","one","other"]) fun _ _ _ _ _ _ us hl => us3 (fun _ _ _ => rfl) us hl
  have F_q38 := fun_mk (st := s_q38) l_q38 c_q38 k_q38
  have b_q38 := F_q38.binds (ps := ["tree","one","other"]) fun _ _ _ _ _ _ us hl => us3 (fun _ _ _ => rfl) us hl
  have F_q7 := fun_mk (st := s_q7) l_q7 c_q7 k_q7
  have b_q7 := F_q7.binds (ps := ["tree","one","other"]) fun _ _ _ _ _ _ us hl => us3 (fun _ _ _ => rfl) us hl
  have F_q37 := fun_mk (st := s_q37) l_q37 c_q37 k_q37
  have b_q37 := F_q37.binds (ps := ["tree","ask"]) fun _ _ _ _ _ _ us hl => us2 (fun _ _ => rfl) us hl
  have F_q9 := fun_mk (st := s_q9) l_q9 c_q9 k_q9
  have b_q9 := F_q9.binds (ps := ["tree","one","other"]) fun _ _ _ _ _ _ us hl => us3 (fun _ _ _ => rfl) us hl
  have F_q12 := fun_mk (st := s_q12) l_q12 c_q12 k_q12
  have b_q12 := F_q12.binds (ps := ["tree","one","other"]) fun _ _ _ _ _ _ us hl => us3 (fun _ _ _ => rfl) us hl
  have F_q23 := fun_mk (st := s_q23) l_q23 c_q23 k_q23
  have b_q23 := F_q23.binds (ps := ["tree","asks","thing"]) fun _ _ _ _ _ _ us hl => us3 (fun _ _ _ => rfl) us hl
  have F_q8 := fun_mk (st := s_q8) l_q8 c_q8 k_q8
  have b_q8 := F_q8.binds (ps := ["tree","asks","one","other","number"]) fun _ _ _ _ _ _ us hl => us5 (fun _ _ _ _ _ => rfl) us hl
  have F_q24 := fun_mk (st := s_q24) l_q24 c_q24 k_q24
  have b_q24 := F_q24.binds (ps := ["tree","asks","thing"]) fun _ _ _ _ _ _ us hl => us3 (fun _ _ _ => rfl) us hl
  have F_q21 := fun_mk (st := s_q21) l_q21 c_q21 k_q21
  have b_q21 := F_q21.binds (ps := ["tree","asks"]) fun _ _ _ _ _ _ us hl => us2 (fun _ _ => rfl) us hl
  have F_q11 := fun_mk (st := s_q11) l_q11 c_q11 k_q11
  have b_q11 := F_q11.binds (ps := ["first","links","came"]) fun _ _ _ _ _ _ us hl => us3 (fun _ _ _ => rfl) us hl
  have F_q14 := fun_mk (st := s_q14) l_q14 c_q14 k_q14
  have b_q14 := F_q14.binds (ps := ["came","tie"]) fun _ _ _ _ _ _ us hl => us2 (fun _ _ => rfl) us hl
  have F_q27 := fun_mk (st := s_q27) l_q27 c_q27 k_q27
  have b_q27 := F_q27.binds (ps := ["tree","came","tie"]) fun _ _ _ _ _ _ us hl => us3 (fun _ _ _ => rfl) us hl
  have F_q5 := fun_mk (st := s_q5) l_q5 c_q5 k_q5
  have b_q5 := F_q5.binds (ps := ["came","one","other","closing"]) fun _ _ _ _ _ _ us hl => us4 (fun _ _ _ _ => rfl) us hl
  have F_q6 := fun_mk (st := s_q6) l_q6 c_q6 k_q6
  have b_q6 := F_q6.binds (ps := ["tree","links","texts"]) fun _ _ _ _ _ _ us hl => us3 (fun _ _ _ => rfl) us hl
  have F_q26 := fun_mk (st := s_q26) l_q26 c_q26 k_q26
  have b_q26 := F_q26.binds (ps := ["tree","asks"]) fun _ _ _ _ _ _ us hl => us2 (fun _ _ => rfl) us hl
  have F_q32 := fun_mk (st := s_q32) l_q32 c_q32 k_q32
  have b_q32 := F_q32.binds (ps := ["_law_script","_law_k"]) fun _ _ _ _ _ _ us hl => us2 (fun _ _ => rfl) us hl
  have F_q20 := fun_mk (st := s_q20) l_q20 c_q20 k_q20
  have b_q20 := F_q20.binds (ps := ["_law_cell_here","_law_k"]) fun _ _ _ _ _ _ us hl => us2 (fun _ _ => rfl) us hl
  have F_q33 := fun_mk (st := s_q33) l_q33 c_q33 k_q33
  have b_q33 := F_q33.binds (ps := ["_law_source_here","_law_many"]) fun _ _ _ _ _ _ us hl => us2 (fun _ _ => rfl) us hl
  have F_q25 := fun_mk (st := s_q25) l_q25 c_q25 k_q25
  have b_q25 := F_q25.binds (ps := ["_law_parents","_law_one","_law_other"]) fun _ _ _ _ _ _ us hl => us3 (fun _ _ _ => rfl) us hl
  have F_q35 := fun_mk (st := s_q35) l_q35 c_q35 k_q35
  have b_q35 := F_q35.binds (ps := ["_law_parents","_law_ask","_law_thing"]) fun _ _ _ _ _ _ us hl => us3 (fun _ _ _ => rfl) us hl
  have F_q1 := fun_mk (st := s_q1) l_q1 c_q1 k_q1
  have b_q1 := F_q1.binds (ps := ["_law_tree","_law_asks","_law_thing"]) fun _ _ _ _ _ _ us hl => us3 (fun _ _ _ => rfl) us hl
  have F_q34 := fun_mk (st := s_q34) l_q34 c_q34 k_q34
  have b_q34 := F_q34.binds (ps := ["_law_source_here"]) fun _ _ _ _ _ _ us hl => us1 (fun _ => rfl) us hl
  have F_q19 := fun_mk (st := s_q19) l_q19 c_q19 k_q19
  have b_q19 := F_q19.binds (ps := ["_law_many","_law_asks"]) fun _ _ _ _ _ _ us hl => us2 (fun _ _ => rfl) us hl
  have F_q36 := fun_mk (st := s_q36) l_q36 c_q36 k_q36
  have b_q36 := F_q36.binds (ps := ["_law_tree","_law_asks","_law_can"]) fun _ _ _ _ _ _ us hl => us3 (fun _ _ _ => rfl) us hl
  have F_law := fun_mk (st := s_law) l_law c_law k_law
  have b_law := F_law.binds (ps := ["_law_script"]) fun _ _ _ _ _ _ us hl => us1 (fun _ => rfl) us hl
  have T : Txt K mg ⟨f_q18,_,f_q10,_,f_q0,_,f_q4,_,f_q17,_,f_q31,_,f_q16,_,f_q30,_,f_q2,_,f_q3,_,f_q38,_,f_q7,_,f_q37,_,f_q9,_,f_q12,_,f_q23,_,f_q8,_,f_q24,_,f_q21,_,f_q11,_,f_q14,_,f_q27,_,f_q5,_,f_q6,_,f_q26,_,f_q32,_,f_q20,_,f_q33,_,f_q25,_,f_q35,_,f_q1,_,f_q34,_,f_q19,_,f_q36,_,fa,_⟩ := ⟨F_q18,b_q18,k_q18,PySem.W.mg_of X G a_q18,F_q10,b_q10,k_q10,PySem.W.mg_of X G a_q10,F_q0,b_q0,k_q0,PySem.W.mg_of X G a_q0,F_q4,b_q4,k_q4,PySem.W.mg_of X G a_q4,F_q17,b_q17,k_q17,PySem.W.mg_of X G a_q17,F_q31,b_q31,k_q31,PySem.W.mg_of X G a_q31,F_q16,b_q16,k_q16,PySem.W.mg_of X G a_q16,F_q30,b_q30,k_q30,PySem.W.mg_of X G a_q30,F_q2,b_q2,k_q2,PySem.W.mg_of X G a_q2,F_q3,b_q3,k_q3,PySem.W.mg_of X G a_q3,F_q38,b_q38,k_q38,PySem.W.mg_of X G a_q38,F_q7,b_q7,k_q7,PySem.W.mg_of X G a_q7,F_q37,b_q37,k_q37,PySem.W.mg_of X G a_q37,F_q9,b_q9,k_q9,PySem.W.mg_of X G a_q9,F_q12,b_q12,k_q12,PySem.W.mg_of X G a_q12,F_q23,b_q23,k_q23,PySem.W.mg_of X G a_q23,F_q8,b_q8,k_q8,PySem.W.mg_of X G a_q8,F_q24,b_q24,k_q24,PySem.W.mg_of X G a_q24,F_q21,b_q21,k_q21,PySem.W.mg_of X G a_q21,F_q11,b_q11,k_q11,PySem.W.mg_of X G a_q11,F_q14,b_q14,k_q14,PySem.W.mg_of X G a_q14,F_q27,b_q27,k_q27,PySem.W.mg_of X G a_q27,F_q5,b_q5,k_q5,PySem.W.mg_of X G a_q5,F_q6,b_q6,k_q6,PySem.W.mg_of X G a_q6,F_q26,b_q26,k_q26,PySem.W.mg_of X G a_q26,F_q32,b_q32,k_q32,PySem.W.mg_of X G a_q32,F_q20,b_q20,k_q20,PySem.W.mg_of X G a_q20,F_q33,b_q33,k_q33,PySem.W.mg_of X G a_q33,F_q25,b_q25,k_q25,PySem.W.mg_of X G a_q25,F_q35,b_q35,k_q35,PySem.W.mg_of X G a_q35,F_q1,b_q1,k_q1,PySem.W.mg_of X G a_q1,F_q34,b_q34,k_q34,PySem.W.mg_of X G a_q34,F_q19,b_q19,k_q19,PySem.W.mg_of X G a_q19,F_q36,b_q36,k_q36,PySem.W.mg_of X G a_q36,F_law,b_law,k_law,PySem.W.mg_of X G a_law,PySem.W.mg_none_of X G z_abs,PySem.W.mg_none_of X G z_all,PySem.W.mg_none_of X G z_bool,PySem.W.mg_none_of X G z_enumerate,PySem.W.mg_none_of X G z_int,PySem.W.mg_none_of X G z_isinstance,PySem.W.mg_none_of X G z_len,PySem.W.mg_none_of X G z_list,PySem.W.mg_none_of X G z_max,PySem.W.mg_none_of X G z_min,PySem.W.mg_none_of X G z_range,PySem.W.mg_none_of X G z_reversed,PySem.W.mg_none_of X G z_sorted,PySem.W.mg_none_of X G z_tuple,PySem.W.mg_none_of X G z_zip,⟨_,PySem.W.mg_of X G c_MOST_TIES⟩,⟨_,PySem.W.mg_of X G c_MOST_ROOM⟩,⟨_,PySem.W.mg_of X G c_MOST_ASKS⟩,⟨_,PySem.W.mg_of X G c_MOST_SIZE⟩,⟨_,PySem.W.mg_of X G c_MOST_WORTH⟩,⟨_,PySem.W.mg_of X G c_LEAST_RING⟩,⟨_,PySem.W.mg_of X G c_MOST_RING⟩⟩
  exact ⟨PySem.W.fnOf "law" "law" (defArgs s_law) (defBody s_law) (defScope s_law) .none kV_law dc_law pm_law an_law cd_law ct_law,fun s v => .of_eq rfl,fun base _ _ => (ok_law T).imp fun _ _ _ _ h => spLaw_of h⟩
theorem walk {l : PySem.W.OpenLaw} {q : Program} {loose : List Str} {XP : (Str → Option Value) → Heap → Prop} {YP : World → Heap → Prop} {d : DefRec} {K : Params → PySem.W.Frag} (hn : l.most = some 63) (hdf : d.params.defaults = [])
    (hY : ∀ (w : World) (h : Heap),YP w h → (K w.params).In h)
    (F : ∀ (w : World) (mg : Str → Option Value) (fa : Addr) (h : Heap),(K w.params).In h → h.Ns mainGlobals mg → mg d.name = some (.ref fa) →
      ∃ fd : FuncData,(∀ (s : Shared) (u : Value),BindsTo s fd ⟨[u],[]⟩ [("_law_script",u)]) ∧ ∀ base : Heap,(K w.params).In base → base.Ns mainGlobals mg → FnOk l.prog w (K w.params) mg base CX0 11 fa fd ["_law_script"] (spLaw (K w.params))) :
    PySem.W.WalkO q loose XP YP l.row.toRowW d [] (fun f vs => PySem.call f vs) :=
  L2.walk_of (n := 63) (k := 11) (x := "_law_script") (CX := fun _ => CX0) (sp := fun w => spLaw (K w.params)) hn (by decide) hdf ⟨rfl,by decide,by decide,rfl⟩ hY F (fun _ _ a ns hl hO hS => ⟨a,ns,rfl,hO,hS,hl,fun _ => rfl⟩) fun _ _ _ _ _ z => z
end K50
open PySem PySem.W PyProof.Rows
set_option maxRecDepth 100000 in
theorem PySem.Challenge.cw_treeasks_k50_whole_lines_and_stars_holds : PySem.Challenge.rw_treeasks_k50_whole_lines_and_stars.Holds := by
  w_on; o_law; k_head; (case hw => w_witness2)
  k_fill
  refine K50.walk (l := PySem.Challenge.rw_treeasks_k50_whole_lines_and_stars) rfl rfl (fun w h Y => PySem.W.kIn_of Y) ?F
  case F =>
    intro w mg fa h KX G hmg
    refine' K50.all_mk KX G hmg ?a_q18 ?l_q18 ?c_q18 ?k_q18 ?a_q10 ?l_q10 ?c_q10 ?k_q10 ?a_q0 ?l_q0 ?c_q0 ?k_q0 ?a_q4 ?l_q4 ?c_q4 ?k_q4 ?a_q17 ?l_q17 ?c_q17 ?k_q17 ?a_q31 ?l_q31 ?c_q31 ?k_q31 ?a_q16 ?l_q16 ?c_q16 ?k_q16 ?a_q30 ?l_q30 ?c_q30 ?k_q30 ?a_q2 ?l_q2 ?c_q2 ?k_q2 ?a_q3 ?l_q3 ?c_q3 ?k_q3 ?a_q38 ?l_q38 ?c_q38 ?k_q38 ?a_q7 ?l_q7 ?c_q7 ?k_q7 ?a_q37 ?l_q37 ?c_q37 ?k_q37 ?a_q9 ?l_q9 ?c_q9 ?k_q9 ?a_q12 ?l_q12 ?c_q12 ?k_q12 ?a_q23 ?l_q23 ?c_q23 ?k_q23 ?a_q8 ?l_q8 ?c_q8 ?k_q8 ?a_q24 ?l_q24 ?c_q24 ?k_q24 ?a_q21 ?l_q21 ?c_q21 ?k_q21 ?a_q11 ?l_q11 ?c_q11 ?k_q11 ?a_q14 ?l_q14 ?c_q14 ?k_q14 ?a_q27 ?l_q27 ?c_q27 ?k_q27 ?a_q5 ?l_q5 ?c_q5 ?k_q5 ?a_q6 ?l_q6 ?c_q6 ?k_q6 ?a_q26 ?l_q26 ?c_q26 ?k_q26 ?a_q32 ?l_q32 ?c_q32 ?k_q32 ?a_q20 ?l_q20 ?c_q20 ?k_q20 ?a_q33 ?l_q33 ?c_q33 ?k_q33 ?a_q25 ?l_q25 ?c_q25 ?k_q25 ?a_q35 ?l_q35 ?c_q35 ?k_q35 ?a_q1 ?l_q1 ?c_q1 ?k_q1 ?a_q34 ?l_q34 ?c_q34 ?k_q34 ?a_q19 ?l_q19 ?c_q19 ?k_q19 ?a_q36 ?l_q36 ?c_q36 ?k_q36 ?a_law ?l_law ?c_law ?k_law ?c_MOST_TIES ?c_MOST_ROOM ?c_MOST_ASKS ?c_MOST_SIZE ?c_MOST_WORTH ?c_LEAST_RING ?c_MOST_RING ?z_abs ?z_all ?z_bool ?z_enumerate ?z_int ?z_isinstance ?z_len ?z_list ?z_max ?z_min ?z_range ?z_reversed ?z_sorted ?z_tuple ?z_zip
    (case a_q18 => k_is)
    (case l_q18 => k_is)
    (case c_q18 => k_is)
    (case k_q18 => k_is)
    (case a_q10 => k_is)
    (case l_q10 => k_is)
    (case c_q10 => k_is)
    (case k_q10 => k_is)
    (case a_q0 => k_is)
    (case l_q0 => k_is)
    (case c_q0 => k_is)
    (case k_q0 => k_is)
    (case a_q4 => k_is)
    (case l_q4 => k_is)
    (case c_q4 => k_is)
    (case k_q4 => k_is)
    (case a_q17 => k_is)
    (case l_q17 => k_is)
    (case c_q17 => k_is)
    (case k_q17 => k_is)
    (case a_q31 => k_is)
    (case l_q31 => k_is)
    (case c_q31 => k_is)
    (case k_q31 => k_is)
    (case a_q16 => k_is)
    (case l_q16 => k_is)
    (case c_q16 => k_is)
    (case k_q16 => k_is)
    (case a_q30 => k_is)
    (case l_q30 => k_is)
    (case c_q30 => k_is)
    (case k_q30 => k_is)
    (case a_q2 => k_is)
    (case l_q2 => k_is)
    (case c_q2 => k_is)
    (case k_q2 => k_is)
    (case a_q3 => k_is)
    (case l_q3 => k_is)
    (case c_q3 => k_is)
    (case k_q3 => k_is)
    (case a_q38 => k_is)
    (case l_q38 => k_is)
    (case c_q38 => k_is)
    (case k_q38 => k_is)
    (case a_q7 => k_is)
    (case l_q7 => k_is)
    (case c_q7 => k_is)
    (case k_q7 => k_is)
    (case a_q37 => k_is)
    (case l_q37 => k_is)
    (case c_q37 => k_is)
    (case k_q37 => k_is)
    (case a_q9 => k_is)
    (case l_q9 => k_is)
    (case c_q9 => k_is)
    (case k_q9 => k_is)
    (case a_q12 => k_is)
    (case l_q12 => k_is)
    (case c_q12 => k_is)
    (case k_q12 => k_is)
    (case a_q23 => k_is)
    (case l_q23 => k_is)
    (case c_q23 => k_is)
    (case k_q23 => k_is)
    (case a_q8 => k_is)
    (case l_q8 => k_is)
    (case c_q8 => k_is)
    (case k_q8 => k_is)
    (case a_q24 => k_is)
    (case l_q24 => k_is)
    (case c_q24 => k_is)
    (case k_q24 => k_is)
    (case a_q21 => k_is)
    (case l_q21 => k_is)
    (case c_q21 => k_is)
    (case k_q21 => k_is)
    (case a_q11 => k_is)
    (case l_q11 => k_is)
    (case c_q11 => k_is)
    (case k_q11 => k_is)
    (case a_q14 => k_is)
    (case l_q14 => k_is)
    (case c_q14 => k_is)
    (case k_q14 => k_is)
    (case a_q27 => k_is)
    (case l_q27 => k_is)
    (case c_q27 => k_is)
    (case k_q27 => k_is)
    (case a_q5 => k_is)
    (case l_q5 => k_is)
    (case c_q5 => k_is)
    (case k_q5 => k_is)
    (case a_q6 => k_is)
    (case l_q6 => k_is)
    (case c_q6 => k_is)
    (case k_q6 => k_is)
    (case a_q26 => k_is)
    (case l_q26 => k_is)
    (case c_q26 => k_is)
    (case k_q26 => k_is)
    (case a_q32 => k_is)
    (case l_q32 => k_is)
    (case c_q32 => k_is)
    (case k_q32 => k_is)
    (case a_q20 => k_is)
    (case l_q20 => k_is)
    (case c_q20 => k_is)
    (case k_q20 => k_is)
    (case a_q33 => k_is)
    (case l_q33 => k_is)
    (case c_q33 => k_is)
    (case k_q33 => k_is)
    (case a_q25 => k_is)
    (case l_q25 => k_is)
    (case c_q25 => k_is)
    (case k_q25 => k_is)
    (case a_q35 => k_is)
    (case l_q35 => k_is)
    (case c_q35 => k_is)
    (case k_q35 => k_is)
    (case a_q1 => k_is)
    (case l_q1 => k_is)
    (case c_q1 => k_is)
    (case k_q1 => k_is)
    (case a_q34 => k_is)
    (case l_q34 => k_is)
    (case c_q34 => k_is)
    (case k_q34 => k_is)
    (case a_q19 => k_is)
    (case l_q19 => k_is)
    (case c_q19 => k_is)
    (case k_q19 => k_is)
    (case a_q36 => k_is)
    (case l_q36 => k_is)
    (case c_q36 => k_is)
    (case k_q36 => k_is)
    (case a_law => k_is)
    (case l_law => k_is)
    (case c_law => k_is)
    (case k_law => k_is)
    (case c_MOST_TIES => k_is)
    (case c_MOST_ROOM => k_is)
    (case c_MOST_ASKS => k_is)
    (case c_MOST_SIZE => k_is)
    (case c_MOST_WORTH => k_is)
    (case c_LEAST_RING => k_is)
    (case c_MOST_RING => k_is)
    (case z_abs => k_is)
    (case z_all => k_is)
    (case z_bool => k_is)
    (case z_enumerate => k_is)
    (case z_int => k_is)
    (case z_isinstance => k_is)
    (case z_len => k_is)
    (case z_list => k_is)
    (case z_max => k_is)
    (case z_min => k_is)
    (case z_range => k_is)
    (case z_reversed => k_is)
    (case z_sorted => k_is)
    (case z_tuple => k_is)
    (case z_zip => k_is)
end
