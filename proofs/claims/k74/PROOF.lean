import PyProof.Rows.All
import Wide.All
import OpenK.AllK
import Wide.FinOn
import Lean
import PyProof.EqAt
import PyProof.EqKinds
import PyProof.TupleCall
import PyProof.Rows.ListRangeD
import KE.LcSums
import KE.KRevSl
import PyProof.Rows.SetFrom
import PyProof.Rows.ListMulArg
import PySem.Challenge.RW_treeasks_k74_carried_over_changes
set_option Elab.async false
set_option linter.all false
set_option maxRecDepth 100000
set_option genSizeOf false
set_option maxHeartbeats 4000000
set_option exponentiation.threshold 9000
noncomputable section
theorem PySem.W.Fast.te4841155359288639268:True:=trivial
def PySem.W.Fast.tw4841155359288639268:Nat:=0
theorem PySem.W.Fast.te3648202866805135914:True:=trivial
def PySem.W.Fast.tw3648202866805135914:Nat:=0
def PySem.W.Fast.tw5353381906900225239:PySem.Program:=PySem.Challenge.pw_treeasks_k74_carried_over_changes
theorem PySem.W.Fast.te5353381906900225239:PySem.Challenge.pw_treeasks_k74_carried_over_changes=PySem.W.Fast.tw5353381906900225239:=rfl
def PySem.W.Fast.tw5371309728566838447:PySem.Program:=({ PySem.Challenge.pw_treeasks_k74_carried_over_changes with main:={ PySem.Challenge.pw_treeasks_k74_carried_over_changes.main with body:=(PySem.Challenge.pw_treeasks_k74_carried_over_changes.main.body.drop 1).take 8++(PySem.Challenge.pw_treeasks_k74_carried_over_changes.main.body.drop 10).take 4++(PySem.Challenge.pw_treeasks_k74_carried_over_changes.main.body.drop 15).take 7++(PySem.Challenge.pw_treeasks_k74_carried_over_changes.main.body.drop 23).take 5++(PySem.Challenge.pw_treeasks_k74_carried_over_changes.main.body.drop 29).take 5++(PySem.Challenge.pw_treeasks_k74_carried_over_changes.main.body.drop 35).take 4++(PySem.Challenge.pw_treeasks_k74_carried_over_changes.main.body.drop 40).take 1++(PySem.Challenge.pw_treeasks_k74_carried_over_changes.main.body.drop 42).take 5++(PySem.Challenge.pw_treeasks_k74_carried_over_changes.main.body.drop 48).take 9++(PySem.Challenge.pw_treeasks_k74_carried_over_changes.main.body.drop 58).take 19 } }:PySem.Program)
theorem PySem.W.Fast.te5371309728566838447:({ PySem.Challenge.pw_treeasks_k74_carried_over_changes with main:={ PySem.Challenge.pw_treeasks_k74_carried_over_changes.main with body:=(PySem.Challenge.pw_treeasks_k74_carried_over_changes.main.body.drop 1).take 8++(PySem.Challenge.pw_treeasks_k74_carried_over_changes.main.body.drop 10).take 4++(PySem.Challenge.pw_treeasks_k74_carried_over_changes.main.body.drop 15).take 7++(PySem.Challenge.pw_treeasks_k74_carried_over_changes.main.body.drop 23).take 5++(PySem.Challenge.pw_treeasks_k74_carried_over_changes.main.body.drop 29).take 5++(PySem.Challenge.pw_treeasks_k74_carried_over_changes.main.body.drop 35).take 4++(PySem.Challenge.pw_treeasks_k74_carried_over_changes.main.body.drop 40).take 1++(PySem.Challenge.pw_treeasks_k74_carried_over_changes.main.body.drop 42).take 5++(PySem.Challenge.pw_treeasks_k74_carried_over_changes.main.body.drop 48).take 9++(PySem.Challenge.pw_treeasks_k74_carried_over_changes.main.body.drop 58).take 19 } }:PySem.Program)=PySem.W.Fast.tw5371309728566838447:=rfl
def PySem.W.Fast.tw11435960877100224231:List PySem.Stmt:=((PySem.Challenge.pw_treeasks_k74_carried_over_changes.main.body.drop 17).take 16)
theorem PySem.W.Fast.te11435960877100224231:((PySem.Challenge.pw_treeasks_k74_carried_over_changes.main.body.drop 17).take 16)=PySem.W.Fast.tw11435960877100224231:=rfl
def PySem.W.Fast.tw6014302874608353555:List PySem.Stmt:=((PySem.Challenge.pw_treeasks_k74_carried_over_changes.main.body.drop 0).take 2)
theorem PySem.W.Fast.te6014302874608353555:((PySem.Challenge.pw_treeasks_k74_carried_over_changes.main.body.drop 0).take 2)=PySem.W.Fast.tw6014302874608353555:=rfl
def PySem.W.Fast.tw17436033897070893799:List PySem.Stmt:=((PySem.Challenge.pw_treeasks_k74_carried_over_changes.main.body.drop 4).take 1)
theorem PySem.W.Fast.te17436033897070893799:((PySem.Challenge.pw_treeasks_k74_carried_over_changes.main.body.drop 4).take 1)=PySem.W.Fast.tw17436033897070893799:=rfl
def PySem.W.Fast.tw11638071347712624746:List PySem.Stmt:=((PySem.Challenge.pw_treeasks_k74_carried_over_changes.main.body.drop 5).take 1)
theorem PySem.W.Fast.te11638071347712624746:((PySem.Challenge.pw_treeasks_k74_carried_over_changes.main.body.drop 5).take 1)=PySem.W.Fast.tw11638071347712624746:=rfl
def PySem.W.Fast.tw33014602758590578:List PySem.Stmt:=((PySem.Challenge.pw_treeasks_k74_carried_over_changes.main.body.drop 6).take 1)
theorem PySem.W.Fast.te33014602758590578:((PySem.Challenge.pw_treeasks_k74_carried_over_changes.main.body.drop 6).take 1)=PySem.W.Fast.tw33014602758590578:=rfl
def PySem.W.Fast.tw17459340576933288316:List PySem.Stmt:=((PySem.Challenge.pw_treeasks_k74_carried_over_changes.main.body.drop 7).take 1)
theorem PySem.W.Fast.te17459340576933288316:((PySem.Challenge.pw_treeasks_k74_carried_over_changes.main.body.drop 7).take 1)=PySem.W.Fast.tw17459340576933288316:=rfl
def PySem.W.Fast.tw719612784595959464:List PySem.Stmt:=((PySem.Challenge.pw_treeasks_k74_carried_over_changes.main.body.drop 59).take 12)
theorem PySem.W.Fast.te719612784595959464:((PySem.Challenge.pw_treeasks_k74_carried_over_changes.main.body.drop 59).take 12)=PySem.W.Fast.tw719612784595959464:=rfl
def PySem.W.Fast.tw6350442976750311083:List PySem.Stmt:=((PySem.Challenge.pw_treeasks_k74_carried_over_changes.main.body.drop 48).take 11)
theorem PySem.W.Fast.te6350442976750311083:((PySem.Challenge.pw_treeasks_k74_carried_over_changes.main.body.drop 48).take 11)=PySem.W.Fast.tw6350442976750311083:=rfl
def PySem.W.Fast.tw6529813866240855258:List PySem.Stmt:=((PySem.Challenge.pw_treeasks_k74_carried_over_changes.main.body.drop 2).take 1)
theorem PySem.W.Fast.te6529813866240855258:((PySem.Challenge.pw_treeasks_k74_carried_over_changes.main.body.drop 2).take 1)=PySem.W.Fast.tw6529813866240855258:=rfl
def PySem.W.Fast.tw17050328013496643482:List PySem.Stmt:=((PySem.Challenge.pw_treeasks_k74_carried_over_changes.main.body.drop 33).take 15)
theorem PySem.W.Fast.te17050328013496643482:((PySem.Challenge.pw_treeasks_k74_carried_over_changes.main.body.drop 33).take 15)=PySem.W.Fast.tw17050328013496643482:=rfl
def PySem.W.Fast.tw17911043099941609262:List PySem.Stmt:=((PySem.Challenge.pw_treeasks_k74_carried_over_changes.main.body.drop 3).take 1)
theorem PySem.W.Fast.te17911043099941609262:((PySem.Challenge.pw_treeasks_k74_carried_over_changes.main.body.drop 3).take 1)=PySem.W.Fast.tw17911043099941609262:=rfl
def PySem.W.Fast.tw4848653137593774585:List PySem.Stmt:=((PySem.Challenge.pw_treeasks_k74_carried_over_changes.main.body.drop 8).take 9)
theorem PySem.W.Fast.te4848653137593774585:((PySem.Challenge.pw_treeasks_k74_carried_over_changes.main.body.drop 8).take 9)=PySem.W.Fast.tw4848653137593774585:=rfl
def PySem.W.Fast.tw35433018883680861:List PySem.Stmt:=((PySem.Challenge.pw_treeasks_k74_carried_over_changes.main.body.drop 71).take 6)
theorem PySem.W.Fast.te35433018883680861:((PySem.Challenge.pw_treeasks_k74_carried_over_changes.main.body.drop 71).take 6)=PySem.W.Fast.tw35433018883680861:=rfl
namespace Ob
noncomputable section
open PySem
open PySem.Str renaming ofString → S
open PySem.Value renaming str → v, ref → r, int → i, none → n
abbrev F := Params → Obj
noncomputable def d (P : Params) (s : Str) (t : Tok) (w : Value) : DictEntry := ⟨PyData.keyHash P s, .str s t, w⟩
noncomputable def g (k : Nat) (q : Str → Str) : FuncData := match PySem.Challenge.pw_treeasks_k74_carried_over_changes.main.body[k]? with
  | some (.FunctionDef a b c _ _ _ s _ _ _) => ⟨a,q a,b,.stmts c,s,0,[],n,n,n,n,none,n,n,0⟩
  | some (.ClassDef _ _ _ (.FunctionDef a b c _ _ _ s _ _ _ :: _) _ _ _ _ _ _ _) => ⟨a,q a,b,.stmts c,s,0,[],n,n,n,n,none,n,n,0⟩
  | _ => default
noncomputable def x (k : Nat) : F := fun _ => ⟨n,none,.func (g k id),#[]⟩
noncomputable def X (k : Nat) (q : Str) : F := fun _ => ⟨n,none,.func (g k fun _ => q),#[]⟩
noncomputable def y (k : Nat) (m c : Value) : F := fun _ => ⟨.type "function",none,.func { g k id with globals := 3, pyModule := m, code := c },#[]⟩
noncomputable def Y (k : Nat) (q : Str) (m c : Value) : F := fun _ => ⟨.type "function",none,.func { g k (fun _ => q) with globals := 3, pyModule := m, code := c },#[]⟩
noncomputable def u (l : List Value) : F := fun _ => ⟨.type "tuple",none,.seq l.toArray 0,#[]⟩
noncomputable def z (l : List Value) : F := fun _ => ⟨n,none,.fields l.toArray,#[]⟩
noncomputable def V (s : String) (t : Tok) : Value := v (S s) t
noncomputable def q (s : String) (t1 t2 t3 : Tok) (l a b c e : Int) (r1 : Addr) (m : Int) (r2 r3 r4 r5 : Addr) (t : Int) (t4 : Tok) : F := fun _ => ⟨.type "code",none,.fields #[v (S s) t1,v (S s) t2,v (S "/claim/cut.py") t3,i l 0,i a 0,i b 0,i c 0,i e 0,r r1,.bool true,i m 0,r r2,n,r r3,r r4,r r5,i t 0,i l 0,v (S "/claim/cut.py") t4],#[]⟩
noncomputable def k (l : List Value) : F := fun _ => ⟨.type "code",none,.fields l.toArray,#[]⟩
noncomputable def w (f : F) (a b : Params → W.BT) : Params → W.BT := fun P => .node (f P) (a P) (b P)
noncomputable def e : Params → W.BT := fun _ => .nil
noncomputable def o (f : F) : Params → W.BT := w f e e
noncomputable def ha(p0:String)(p1:Nat)(p2:String)(p3:String):F:=u [(V p0 p1),(V p2 (p1+1)),(V p3 (p1+2))]
noncomputable def hb(p0:String)(p1:Nat)(p2:String):F:=u [(V p0 p1),(V p2 (p1+1))]
noncomputable def hc(p0:String)(p1:Nat)(p2:Int)(p3:Nat)(p4:Int):F:=k [(V p0 p1),(V p0 (p1+1)),(V "/claim/cut.py" (p1+2)),(i p2 0),(i 0 0),(i 0 0),(i 0 0),(i 0 0),(r p3),(.bool .false),(i 181 0),(r (p3+1)),n,n,n,n,(i p4 0),(i p2 0),(V "/claim/cut.py" (p1+4))]
noncomputable def hd(p0:Nat)(p1:Nat)(p2:String)(p3:Nat):F:=fun P=>⟨(.type "frame"),none,.plain,#[(some (r p0)),(some (r 3)),(some (r p1)),none,(some (V p2 p3)),none,(some (r 0))]⟩
noncomputable def he(p0:Nat):F:=fun P=>⟨(.type "builtin_function_or_method"),none,(.fields #[(.builtin "object.__init_subclass__"),(r p0)]),#[]⟩
noncomputable def hf(p0:Nat):F:=fun P=>⟨(.type "super"),none,(.fields #[(r p0),(r p0),(r p0)]),#[]⟩
noncomputable def hg(p0:String)(p1:Nat)(p2:Nat)(p3:Nat)(p4:Nat):F:=fun P=>⟨(.type "type"),none,(.cls ⟨(S p0),[(r 24)],[(r p1),(r 24),(.type "ValueError"),(.type "Exception"),(.type "BaseException"),(.type "object")],p2,(S p0),.true,[],[],.false,none,.false⟩),#[(some (r p3)),none,(some (V p0 p4)),(some (V p0 (p4+8))),(some (.builtin "ValueError.__new__")),(some (.bool .true))]⟩
noncomputable def hh(p0:String)(p1:Nat)(p2:Int)(p3:Int)(p4:Nat)(p5:Int):F:=k [(V p0 p1),(V p0 (p1+1)),(V "/claim/cut.py" (p1+2)),(i p2 0),(i p3 0),(i 0 0),(i 0 0),(i 3 0),(r p4),(.bool .true),(i 181 0),(r (p4+1)),n,n,n,(r (p4+2)),(i p5 0),(i p2 0),(V "/claim/cut.py" (p1+4))]
noncomputable def hi(p0:Nat)(p1:Int)(p2:String)(p3:Nat)(p4:Nat)(p5:String)(p6:Nat)(p7:Nat)(p8:Nat):F:=fun P=>⟨(.type "dict"),none,(.dict #[(d P (S "__module__") p0 (v (S "treeasks.errors") 187)),(d P (S "__firstlineno__") (p0+4) (i p1 (p0+3))),(d P (S p2) p3 (r p4)),(d P (S p5) p6 (r p7)),(d P (S "__doc__") (p6+1) n)] p8),#[]⟩
noncomputable def hj(p0:String)(p1:Nat)(p2:String)(p3:String)(p4:String)(p5:String)(p6:String):F:=u [(V p0 p1),(V p2 (p1+1)),(V p3 (p1+2)),(V p4 (p1+3)),(V p5 (p1+4)),(V p6 (p1+5))]
noncomputable def hk(p0:String)(p1:Nat)(p2:String)(p3:String)(p4:String):F:=u [(V p0 p1),(V p2 (p1+1)),(V p3 (p1+2)),(V p4 (p1+3))]
noncomputable def hl(p0:Nat)(p1:String)(p2:Int)(p3:Nat):F:=fun P=>⟨(.type "dict"),none,(.dict #[(d P (S "__module__") p0 (v (S "treeasks.errors") 187)),(d P (S "__qualname__") (p0+2) (v (S p1) (p0+1))),(d P (S "__firstlineno__") (p0+4) (i p2 (p0+3))),(d P (S "__static_attributes__") (p0+5) (r p3))] 4),#[]⟩
noncomputable def hm(p0:Nat)(p1:String)(p2:Nat):F:=Y p0 (S p1) (V "treeasks.errors" 187) (r p2)
noncomputable def hn(p0:Int)(p1:Nat):F:=z [(i p0 0),(i 4 0),(r p1)]
noncomputable def ho(p0:Nat)(p1:String)(p2:Int)(p3:Int)(p4:Nat)(p5:Int)(p6:Nat):F:=k [(V "__init__" p0),(V p1 (p0+1)),(V "/claim/cut.py" (p0+2)),(i p2 0),(i p3 0),(i 0 0),(i 0 0),(i 3 0),(r p4),(.bool .true),(i 181 0),(r (p4+1)),n,(r (p4+2)),(r (p4+3)),(r (p4+4)),(i p5 0),(i p2 0),(V "/claim/cut.py" p6)]
noncomputable def hp(p0:Nat)(p1:String)(p2:Int)(p3:Nat)(p4:Nat)(p5:Nat):F:=fun P=>⟨(.type "dict"),none,(.dict #[(d P (S "__module__") p0 (v (S "treeasks.errors") 187)),(d P (S "__qualname__") (p0+2) (v (S p1) (p0+1))),(d P (S "__firstlineno__") (p0+4) (i p2 (p0+3))),(d P (S "__init__") p3 (r p4)),(d P (S "__static_attributes__") p5 (r (p4+1)))] 5),#[]⟩
noncomputable def hq(p0:Nat)(p1:String)(p2:String)(p3:String)(p4:String):F:=u [(V "tree" p0),(V p1 (p0+1)),(V p2 (p0+2)),(V p3 (p0+3)),(V p4 (p0+4))]
noncomputable def hr(p0:Nat)(p1:Int)(p2:Nat):F:=fun P=>⟨(.type "dict"),none,(.dict #[(d P (S "__module__") p0 (v (S "treeasks.errors") 187)),(d P (S "__firstlineno__") (p0+4) (i p1 (p0+3))),(d P (S "__static_attributes__") (p0+5) (r p2)),(d P (S "__doc__") (p0+6) n)] 2),#[]⟩
noncomputable def zl:List (Nat×Nat×Nat)→List Value
  | []=>[]
  | (a,b,c)::t=>i (Int.ofNat a) 0::i (Int.ofNat b) 0::r c::zl t
def zz:List Value:=zl [(2,0,20),(4,0,33),(10,0,52),(15,0,71),(20,0,90),(25,0,109),(27,0,121),(29,0,133),(32,0,145),(34,0,152),(36,0,159),(40,0,166),(50,0,173),(57,0,180),(67,0,187),(69,0,194),(71,0,201),(77,0,208),(82,0,215),(90,0,222),(99,0,229),(101,0,236),(103,0,241),(108,0,248),(111,0,255),(115,0,262),(122,0,269),(126,0,276),(129,0,283),(139,0,290),(141,0,297),(151,0,302),(155,0,307),(159,0,312),(165,0,320),(173,0,327),(181,0,334),(190,0,341),(200,0,348),(202,0,353),(211,0,360),(215,0,367),(220,0,374),(228,0,381),(235,0,388),(244,0,395),(251,0,400),(254,0,407),(257,0,414),(263,0,419),(268,0,426),(274,0,433),(284,0,440),(290,0,447),(304,0,454)]
def A64:F:=fun P=>⟨(.type "dict"),none,(.dict #[(d P (S "__name__") 165 (v (S "treeasks.errors") 187)),(d P (S "__doc__") 166 n),(d P (S "__package__") 167 n),(d P (S "__loader__") 168 (.builtin "__main__.__loader__#opaque")),(d P (S "__spec__") 169 n),(d P (S "__annotations__") 170 (r 6)),(d P (S "__builtins__") 171 (r 4)),(d P (S "__file__") 173 (v (S "/claim/cut.py") 172)),(d P (S "__cached__") 174 n),(d P (S "AskError") 206 (r 24)),(d P (S "NoTree") 233 (r 44))] 11),#[]⟩
def a0k:F:=fun P=>⟨(.type "type"),none,(.cls ⟨(S "AskError"),[(.type "ValueError")],[(r 24),(.type "ValueError"),(.type "Exception"),(.type "BaseException"),(.type "object")],23,(S "AskError"),.true,[],[(r 44)],.false,none,.false⟩),#[(some (r 15)),none,(some (V "AskError" 189)),(some (V "AskError" 197)),(some (.builtin "ValueError.__new__")),(some (.bool .true))]⟩
def a0m:F:=z [(i 2 0),(i 0 0),(r 20),(i 4 0),(i 0 0),(r 33)]
def A86:F:=fun P=>⟨(.type "dict"),none,(.dict #[(d P (S "__name__") 165 (v (S "treeasks.errors") 187)),(d P (S "__doc__") 166 n),(d P (S "__package__") 167 n),(d P (S "__loader__") 168 (.builtin "__main__.__loader__#opaque")),(d P (S "__spec__") 169 n),(d P (S "__annotations__") 170 (r 6)),(d P (S "__builtins__") 171 (r 4)),(d P (S "__file__") 173 (v (S "/claim/cut.py") 172)),(d P (S "__cached__") 174 n),(d P (S "AskError") 206 (r 24)),(d P (S "NoTree") 233 (r 44)),(d P (S "NoAsks") 258 (r 63))] 12),#[]⟩
def a1c:F:=fun P=>⟨(.type "type"),none,(.cls ⟨(S "AskError"),[(.type "ValueError")],[(r 24),(.type "ValueError"),(.type "Exception"),(.type "BaseException"),(.type "object")],23,(S "AskError"),.true,[],[(r 44),(r 63)],.false,none,.false⟩),#[(some (r 15)),none,(some (V "AskError" 189)),(some (V "AskError" 197)),(some (.builtin "ValueError.__new__")),(some (.bool .true))]⟩
def a1e:F:=z [(i 2 0),(i 0 0),(r 20),(i 4 0),(i 0 0),(r 33),(i 10 0),(i 0 0),(r 52)]
def A108:F:=fun P=>⟨(.type "dict"),none,(.dict #[(d P (S "__name__") 165 (v (S "treeasks.errors") 187)),(d P (S "__doc__") 166 n),(d P (S "__package__") 167 n),(d P (S "__loader__") 168 (.builtin "__main__.__loader__#opaque")),(d P (S "__spec__") 169 n),(d P (S "__annotations__") 170 (r 6)),(d P (S "__builtins__") 171 (r 4)),(d P (S "__file__") 173 (v (S "/claim/cut.py") 172)),(d P (S "__cached__") 174 n),(d P (S "AskError") 206 (r 24)),(d P (S "NoTree") 233 (r 44)),(d P (S "NoAsks") 258 (r 63)),(d P (S "NoKeep") 283 (r 82))] 13),#[]⟩
def a1v:F:=fun P=>⟨(.type "type"),none,(.cls ⟨(S "AskError"),[(.type "ValueError")],[(r 24),(.type "ValueError"),(.type "Exception"),(.type "BaseException"),(.type "object")],23,(S "AskError"),.true,[],[(r 44),(r 63),(r 82)],.false,none,.false⟩),#[(some (r 15)),none,(some (V "AskError" 189)),(some (V "AskError" 197)),(some (.builtin "ValueError.__new__")),(some (.bool .true))]⟩
def a1x:F:=z [(i 2 0),(i 0 0),(r 20),(i 4 0),(i 0 0),(r 33),(i 10 0),(i 0 0),(r 52),(i 15 0),(i 0 0),(r 71)]
def A130:F:=fun P=>⟨(.type "dict"),none,(.dict #[(d P (S "__name__") 165 (v (S "treeasks.errors") 187)),(d P (S "__doc__") 166 n),(d P (S "__package__") 167 n),(d P (S "__loader__") 168 (.builtin "__main__.__loader__#opaque")),(d P (S "__spec__") 169 n),(d P (S "__annotations__") 170 (r 6)),(d P (S "__builtins__") 171 (r 4)),(d P (S "__file__") 173 (v (S "/claim/cut.py") 172)),(d P (S "__cached__") 174 n),(d P (S "AskError") 206 (r 24)),(d P (S "NoTree") 233 (r 44)),(d P (S "NoAsks") 258 (r 63)),(d P (S "NoKeep") 283 (r 82)),(d P (S "NoPrices") 308 (r 101))] 14),#[]⟩
def a2h:F:=fun P=>⟨(.type "type"),none,(.cls ⟨(S "AskError"),[(.type "ValueError")],[(r 24),(.type "ValueError"),(.type "Exception"),(.type "BaseException"),(.type "object")],23,(S "AskError"),.true,[],[(r 44),(r 63),(r 82),(r 101)],.false,none,.false⟩),#[(some (r 15)),none,(some (V "AskError" 189)),(some (V "AskError" 197)),(some (.builtin "ValueError.__new__")),(some (.bool .true))]⟩
def a2j:F:=z [(i 2 0),(i 0 0),(r 20),(i 4 0),(i 0 0),(r 33),(i 10 0),(i 0 0),(r 52),(i 15 0),(i 0 0),(r 71),(i 20 0),(i 0 0),(r 90)]
def A152:F:=fun P=>⟨(.type "dict"),none,(.dict #[(d P (S "__name__") 165 (v (S "treeasks.errors") 187)),(d P (S "__doc__") 166 n),(d P (S "__package__") 167 n),(d P (S "__loader__") 168 (.builtin "__main__.__loader__#opaque")),(d P (S "__spec__") 169 n),(d P (S "__annotations__") 170 (r 6)),(d P (S "__builtins__") 171 (r 4)),(d P (S "__file__") 173 (v (S "/claim/cut.py") 172)),(d P (S "__cached__") 174 n),(d P (S "AskError") 206 (r 24)),(d P (S "NoTree") 233 (r 44)),(d P (S "NoAsks") 258 (r 63)),(d P (S "NoKeep") 283 (r 82)),(d P (S "NoPrices") 308 (r 101)),(d P (S "NoNumber") 324 (r 113))] 15),#[]⟩
def a2y:F:=fun P=>⟨(.type "type"),none,(.cls ⟨(S "AskError"),[(.type "ValueError")],[(r 24),(.type "ValueError"),(.type "Exception"),(.type "BaseException"),(.type "object")],23,(S "AskError"),.true,[],[(r 44),(r 63),(r 82),(r 101),(r 113)],.false,none,.false⟩),#[(some (r 15)),none,(some (V "AskError" 189)),(some (V "AskError" 197)),(some (.builtin "ValueError.__new__")),(some (.bool .true))]⟩
def a30:F:=z [(i 2 0),(i 0 0),(r 20),(i 4 0),(i 0 0),(r 33),(i 10 0),(i 0 0),(r 52),(i 15 0),(i 0 0),(r 71),(i 20 0),(i 0 0),(r 90),(i 25 0),(i 0 0),(r 109)]
def A167:F:=fun P=>⟨(.type "dict"),none,(.dict #[(d P (S "__name__") 165 (v (S "treeasks.errors") 187)),(d P (S "__doc__") 166 n),(d P (S "__package__") 167 n),(d P (S "__loader__") 168 (.builtin "__main__.__loader__#opaque")),(d P (S "__spec__") 169 n),(d P (S "__annotations__") 170 (r 6)),(d P (S "__builtins__") 171 (r 4)),(d P (S "__file__") 173 (v (S "/claim/cut.py") 172)),(d P (S "__cached__") 174 n),(d P (S "AskError") 206 (r 24)),(d P (S "NoTree") 233 (r 44)),(d P (S "NoAsks") 258 (r 63)),(d P (S "NoKeep") 283 (r 82)),(d P (S "NoPrices") 308 (r 101)),(d P (S "NoNumber") 324 (r 113)),(d P (S "NoPlace") 340 (r 125))] 16),#[]⟩
def a3b:F:=fun P=>⟨(.type "type"),none,(.cls ⟨(S "AskError"),[(.type "ValueError")],[(r 24),(.type "ValueError"),(.type "Exception"),(.type "BaseException"),(.type "object")],23,(S "AskError"),.true,[],[(r 44),(r 63),(r 82),(r 101),(r 113),(r 125)],.false,none,.false⟩),#[(some (r 15)),none,(some (V "AskError" 189)),(some (V "AskError" 197)),(some (.builtin "ValueError.__new__")),(some (.bool .true))]⟩
def a3d:F:=z [(i 2 0),(i 0 0),(r 20),(i 4 0),(i 0 0),(r 33),(i 10 0),(i 0 0),(r 52),(i 15 0),(i 0 0),(r 71),(i 20 0),(i 0 0),(r 90),(i 25 0),(i 0 0),(r 109),(i 27 0),(i 0 0),(r 121)]
def A182:F:=fun P=>⟨(.type "dict"),none,(.dict #[(d P (S "__name__") 165 (v (S "treeasks.trees") 392)),(d P (S "__doc__") 166 n),(d P (S "__package__") 167 n),(d P (S "__loader__") 168 (.builtin "__main__.__loader__#opaque")),(d P (S "__spec__") 169 n),(d P (S "__annotations__") 170 (r 6)),(d P (S "__builtins__") 171 (r 4)),(d P (S "__file__") 173 (v (S "/claim/cut.py") 172)),(d P (S "__cached__") 174 n),(d P (S "AskError") 206 (r 24)),(d P (S "NoTree") 233 (r 44)),(d P (S "NoAsks") 258 (r 63)),(d P (S "NoKeep") 283 (r 82)),(d P (S "NoPrices") 308 (r 101)),(d P (S "NoNumber") 324 (r 113)),(d P (S "NoPlace") 340 (r 125)),(d P (S "NoChange") 356 (r 137)),(d P (S "is_whole") 365 (r 146)),(d P (S "is_between") 374 (r 153)),(d P (S "greatest_common") 382 (r 160)),(d P (S "is_fraction") 391 (r 167)),(d P (S "MOST_TIES") 395 (i 23 394)),(d P (S "MOST_ROOM") 397 (i 1000000 396))] 23),#[]⟩
def a46:F:=fun P=>⟨(.type "type"),none,(.cls ⟨(S "AskError"),[(.type "ValueError")],[(r 24),(.type "ValueError"),(.type "Exception"),(.type "BaseException"),(.type "object")],23,(S "AskError"),.true,[],[(r 44),(r 63),(r 82),(r 101),(r 113),(r 125),(r 137)],.false,none,.false⟩),#[(some (r 15)),none,(some (V "AskError" 189)),(some (V "AskError" 197)),(some (.builtin "ValueError.__new__")),(some (.bool .true))]⟩
def a49:F:=z (zz.take 36)
def A225:F:=fun P=>⟨(.type "dict"),none,(.dict #[(d P (S "__name__") 165 (v (S "treeasks.fractions") 474)),(d P (S "__doc__") 166 n),(d P (S "__package__") 167 n),(d P (S "__loader__") 168 (.builtin "__main__.__loader__#opaque")),(d P (S "__spec__") 169 n),(d P (S "__annotations__") 170 (r 6)),(d P (S "__builtins__") 171 (r 4)),(d P (S "__file__") 173 (v (S "/claim/cut.py") 172)),(d P (S "__cached__") 174 n),(d P (S "AskError") 206 (r 24)),(d P (S "NoTree") 233 (r 44)),(d P (S "NoAsks") 258 (r 63)),(d P (S "NoKeep") 283 (r 82)),(d P (S "NoPrices") 308 (r 101)),(d P (S "NoNumber") 324 (r 113)),(d P (S "NoPlace") 340 (r 125)),(d P (S "NoChange") 356 (r 137)),(d P (S "is_whole") 365 (r 146)),(d P (S "is_between") 374 (r 153)),(d P (S "greatest_common") 382 (r 160)),(d P (S "is_fraction") 391 (r 167)),(d P (S "MOST_TIES") 395 (i 23 394)),(d P (S "MOST_ROOM") 397 (i 1000000 396)),(d P (S "has_two_lists") 406 (r 174)),(d P (S "look_at_tree") 418 (r 181)),(d P (S "is_place") 426 (r 188)),(d P (S "is_tie") 434 (r 195)),(d P (S "are_ends") 443 (r 202)),(d P (S "MOST_ASKS") 447 (i 30 446)),(d P (S "MOST_SIZE") 449 (i 1000000 448)),(d P (S "MOST_WORTH") 451 (i 1000000000000 450)),(d P (S "is_ask") 463 (r 209)),(d P (S "look_at_asks") 473 (r 216)),(d P (S "fraction") 484 (r 223)),(d P (S "minus") 492 (r 230)),(d P (S "times") 500 (r 237)),(d P (S "sum_of") 506 (r 242))] 37),#[]⟩
def a60:F:=z (zz.take 69)
def A302:F:=fun P=>⟨(.type "dict"),none,(.dict #[(d P (S "__name__") 165 (v (S "treeasks.changes") 608)),(d P (S "__doc__") 166 n),(d P (S "__package__") 167 n),(d P (S "__loader__") 168 (.builtin "__main__.__loader__#opaque")),(d P (S "__spec__") 169 n),(d P (S "__annotations__") 170 (r 6)),(d P (S "__builtins__") 171 (r 4)),(d P (S "__file__") 173 (v (S "/claim/cut.py") 172)),(d P (S "__cached__") 174 n),(d P (S "AskError") 206 (r 24)),(d P (S "NoTree") 233 (r 44)),(d P (S "NoAsks") 258 (r 63)),(d P (S "NoKeep") 283 (r 82)),(d P (S "NoPrices") 308 (r 101)),(d P (S "NoNumber") 324 (r 113)),(d P (S "NoPlace") 340 (r 125)),(d P (S "NoChange") 356 (r 137)),(d P (S "is_whole") 365 (r 146)),(d P (S "is_between") 374 (r 153)),(d P (S "greatest_common") 382 (r 160)),(d P (S "is_fraction") 391 (r 167)),(d P (S "MOST_TIES") 395 (i 23 394)),(d P (S "MOST_ROOM") 397 (i 1000000 396)),(d P (S "has_two_lists") 406 (r 174)),(d P (S "look_at_tree") 418 (r 181)),(d P (S "is_place") 426 (r 188)),(d P (S "is_tie") 434 (r 195)),(d P (S "are_ends") 443 (r 202)),(d P (S "MOST_ASKS") 447 (i 30 446)),(d P (S "MOST_SIZE") 449 (i 1000000 448)),(d P (S "MOST_WORTH") 451 (i 1000000000000 450)),(d P (S "is_ask") 463 (r 209)),(d P (S "look_at_asks") 473 (r 216)),(d P (S "fraction") 484 (r 223)),(d P (S "minus") 492 (r 230)),(d P (S "times") 500 (r 237)),(d P (S "sum_of") 506 (r 242)),(d P (S "under") 514 (r 249)),(d P (S "look_at_ends") 525 (r 256)),(d P (S "climb") 536 (r 263)),(d P (S "way_between") 547 (r 270)),(d P (S "way_of") 555 (r 277)),(d P (S "look_at_keep") 569 (r 284)),(d P (S "is_price") 578 (r 291)),(d P (S "look_at_prices") 589 (r 298)),(d P (S "spare_of") 595 (r 303)),(d P (S "spares") 601 (r 308)),(d P (S "bound_of") 607 (r 313))] 48),#[]⟩
def a82:F:=z (zz.take 102)
def A375:F:=fun P=>⟨(.type "dict"),none,(.dict #[(d P (S "__name__") 165 (v (S "law_treeasks_k74_carried_over_changes") 703)),(d P (S "__doc__") 166 n),(d P (S "__package__") 167 n),(d P (S "__loader__") 168 (.builtin "__main__.__loader__#opaque")),(d P (S "__spec__") 169 n),(d P (S "__annotations__") 170 (r 6)),(d P (S "__builtins__") 171 (r 4)),(d P (S "__file__") 173 (v (S "/claim/cut.py") 172)),(d P (S "__cached__") 174 n),(d P (S "AskError") 206 (r 24)),(d P (S "NoTree") 233 (r 44)),(d P (S "NoAsks") 258 (r 63)),(d P (S "NoKeep") 283 (r 82)),(d P (S "NoPrices") 308 (r 101)),(d P (S "NoNumber") 324 (r 113)),(d P (S "NoPlace") 340 (r 125)),(d P (S "NoChange") 356 (r 137)),(d P (S "is_whole") 365 (r 146)),(d P (S "is_between") 374 (r 153)),(d P (S "greatest_common") 382 (r 160)),(d P (S "is_fraction") 391 (r 167)),(d P (S "MOST_TIES") 395 (i 23 394)),(d P (S "MOST_ROOM") 397 (i 1000000 396)),(d P (S "has_two_lists") 406 (r 174)),(d P (S "look_at_tree") 418 (r 181)),(d P (S "is_place") 426 (r 188)),(d P (S "is_tie") 434 (r 195)),(d P (S "are_ends") 443 (r 202)),(d P (S "MOST_ASKS") 447 (i 30 446)),(d P (S "MOST_SIZE") 449 (i 1000000 448)),(d P (S "MOST_WORTH") 451 (i 1000000000000 450)),(d P (S "is_ask") 463 (r 209)),(d P (S "look_at_asks") 473 (r 216)),(d P (S "fraction") 484 (r 223)),(d P (S "minus") 492 (r 230)),(d P (S "times") 500 (r 237)),(d P (S "sum_of") 506 (r 242)),(d P (S "under") 514 (r 249)),(d P (S "look_at_ends") 525 (r 256)),(d P (S "climb") 536 (r 263)),(d P (S "way_between") 547 (r 270)),(d P (S "way_of") 555 (r 277)),(d P (S "look_at_keep") 569 (r 284)),(d P (S "is_price") 578 (r 291)),(d P (S "look_at_prices") 589 (r 298)),(d P (S "spare_of") 595 (r 303)),(d P (S "spares") 601 (r 308)),(d P (S "bound_of") 607 (r 313)),(d P (S "LENGTHS") 625 (r 314)),(d P (S "is_change") 634 (r 321)),(d P (S "changed_tree") 644 (r 328)),(d P (S "changed_asks") 653 (r 335)),(d P (S "changed") 664 (r 342)),(d P (S "look_at_change") 673 (r 349)),(d P (S "carried_keep") 679 (r 354)),(d P (S "carried_prices") 689 (r 361)),(d P (S "bound_turned") 702 (r 368)),(d P (S "_law_pool") 714 (r 375))] 58),#[]⟩
def a9v:F:=z (zz.take 129)
def A441:F:=fun P=>⟨(.type "dict"),none,(.dict #[(d P (S "__name__") 165 (v (S "law_treeasks_k74_carried_over_changes") 703)),(d P (S "__doc__") 166 n),(d P (S "__package__") 167 n),(d P (S "__loader__") 168 (.builtin "__main__.__loader__#opaque")),(d P (S "__spec__") 169 n),(d P (S "__annotations__") 170 (r 6)),(d P (S "__builtins__") 171 (r 4)),(d P (S "__file__") 173 (v (S "/claim/cut.py") 172)),(d P (S "__cached__") 174 n),(d P (S "AskError") 206 (r 24)),(d P (S "NoTree") 233 (r 44)),(d P (S "NoAsks") 258 (r 63)),(d P (S "NoKeep") 283 (r 82)),(d P (S "NoPrices") 308 (r 101)),(d P (S "NoNumber") 324 (r 113)),(d P (S "NoPlace") 340 (r 125)),(d P (S "NoChange") 356 (r 137)),(d P (S "is_whole") 365 (r 146)),(d P (S "is_between") 374 (r 153)),(d P (S "greatest_common") 382 (r 160)),(d P (S "is_fraction") 391 (r 167)),(d P (S "MOST_TIES") 395 (i 23 394)),(d P (S "MOST_ROOM") 397 (i 1000000 396)),(d P (S "has_two_lists") 406 (r 174)),(d P (S "look_at_tree") 418 (r 181)),(d P (S "is_place") 426 (r 188)),(d P (S "is_tie") 434 (r 195)),(d P (S "are_ends") 443 (r 202)),(d P (S "MOST_ASKS") 447 (i 30 446)),(d P (S "MOST_SIZE") 449 (i 1000000 448)),(d P (S "MOST_WORTH") 451 (i 1000000000000 450)),(d P (S "is_ask") 463 (r 209)),(d P (S "look_at_asks") 473 (r 216)),(d P (S "fraction") 484 (r 223)),(d P (S "minus") 492 (r 230)),(d P (S "times") 500 (r 237)),(d P (S "sum_of") 506 (r 242)),(d P (S "under") 514 (r 249)),(d P (S "look_at_ends") 525 (r 256)),(d P (S "climb") 536 (r 263)),(d P (S "way_between") 547 (r 270)),(d P (S "way_of") 555 (r 277)),(d P (S "look_at_keep") 569 (r 284)),(d P (S "is_price") 578 (r 291)),(d P (S "look_at_prices") 589 (r 298)),(d P (S "spare_of") 595 (r 303)),(d P (S "spares") 601 (r 308)),(d P (S "bound_of") 607 (r 313)),(d P (S "LENGTHS") 625 (r 314)),(d P (S "is_change") 634 (r 321)),(d P (S "changed_tree") 644 (r 328)),(d P (S "changed_asks") 653 (r 335)),(d P (S "changed") 664 (r 342)),(d P (S "look_at_change") 673 (r 349)),(d P (S "carried_keep") 679 (r 354)),(d P (S "carried_prices") 689 (r 361)),(d P (S "bound_turned") 702 (r 368)),(d P (S "_law_pool") 714 (r 375)),(d P (S "_law_take") 723 (r 382)),(d P (S "_law_number") 732 (r 389)),(d P (S "_law_parents") 744 (r 396)),(d P (S "_law_rooms") 750 (r 401)),(d P (S "_law_ends") 759 (r 408)),(d P (S "_law_up") 768 (r 415)),(d P (S "_law_way") 774 (r 420)),(d P (S "_law_low") 784 (r 427)),(d P (S "_law_change") 800 (r 434)),(d P (S "_law_can_be") 809 (r 441)),(d P (S "_law_behind") 821 (r 448)),(d P (S "_law_plus") 829 (r 455))] 70),#[]⟩
def aby:F:=z (zz.take 165)
lay_quick Ob.A64
noncomputable def od : List F → List F
  | a::_::l=>a::od l
  | l=>l
noncomputable def ev : List F → List F
  | _::b::l=>b::ev l
  | _=>[]
noncomputable def bt : Nat → List F → Params → W.BT
  | k+1,f::l=>w f (bt k (od l)) (bt k (ev l))
  | _,_=>e
open W in
def lL (Q P0 P1:F):List F:=[boot_o_0,boot_o_1,boot_o_2,Q,boot_o_4,boot_o_5,boot_o_6,boot_o_7,boot_o_8,boot_o_9,boot_o_10,u [],P0,hc "<module>" 182 1 11 185,hd 13 3 "__main__" 164,u [(.type "ValueError")],(fun P=>⟨(.type "builtin_function_or_method"),none,(.fields #[(.builtin "type.__prepare__"),(.type "type")]),#[]⟩),hl 196 "AskError" 2 22,u [],z [],hc "AskError" 191 2 18 194,hd 20 17 "treeasks.errors" 187,u [],hi 196 2 "__static_attributes__" 201 22 "__weakref__" 203 25 3,P1,(fun P=>⟨(.type "getset_descriptor"),none,(.fields #[(V "__weakref__" 202),(r 24),(.builtin "ExceptionGroup.__weakref__"),n]),#[]⟩),hf 24,he 24,u [(r 24)],(fun P=>⟨(.type "builtin_function_or_method"),none,(.fields #[(.builtin "type.__prepare__"),(.type "type")]),#[]⟩),hp 214 "NoTree" 4 227 41 230,u [],hn 6 40,hc "NoTree" 209 4 31 212,hd 33 30 "treeasks.errors" 187,u [],z [],ha "self" 222 "part" "number",u [],X 2 (S "NoTree.__init__"),ho 219 "NoTree.__init__" 6 3 35 225 226,hm 2 "NoTree.__init__" 40,hb "number" 228 "part",hi 214 4 "__init__" 227 41 "__static_attributes__" 230 42 2,hg "NoTree" 44 43 28 207,hf 44,he 44,u [(r 24)],(fun P=>⟨(.type "builtin_function_or_method"),none,(.fields #[(.builtin "type.__prepare__"),(.type "type")]),#[]⟩),hp 241 "NoAsks" 10 253 60 255,u [],hn 12 59,hc "NoAsks" 236 10 50 239,hd 52 49 "treeasks.errors" 187,u [],z [],hb "self" 249 "number",u [],X 3 (S "NoAsks.__init__"),ho 246 "NoAsks.__init__" 12 2 54 251 252,hm 3 "NoAsks.__init__" 59,u [(V "number" 254)],hi 241 10 "__init__" 253 60 "__static_attributes__" 255 61 2,hg "NoAsks" 63 62 47 234,hf 63,he 63,u [(r 24)],(fun P=>⟨(.type "builtin_function_or_method"),none,(.fields #[(.builtin "type.__prepare__"),(.type "type")]),#[]⟩),hp 266 "NoKeep" 15 278 79 280,u [],hn 17 78,hc "NoKeep" 261 15 69 264,hd 71 68 "treeasks.errors" 187,u [],z [],hb "self" 274 "number",u [],X 4 (S "NoKeep.__init__"),ho 271 "NoKeep.__init__" 17 2 73 276 277,hm 4 "NoKeep.__init__" 78,u [(V "number" 279)],hi 266 15 "__init__" 278 79 "__static_attributes__" 280 80 2,hg "NoKeep" 82 81 66 259,hf 82,he 82,u [(r 24)],(fun P=>⟨(.type "builtin_function_or_method"),none,(.fields #[(.builtin "type.__prepare__"),(.type "type")]),#[]⟩),hp 291 "NoPrices" 20 303 98 305,u [],hn 22 97,hc "NoPrices" 286 20 88 289,hd 90 87 "treeasks.errors" 187,u [],z [],hb "self" 299 "number",u [],X 5 (S "NoPrices.__init__"),ho 296 "NoPrices.__init__" 22 2 92 301 302,hm 5 "NoPrices.__init__" 97,u [(V "number" 304)],hi 291 20 "__init__" 303 98 "__static_attributes__" 305 99 2,hg "NoPrices" 101 100 85 284,hf 101,he 101,u [(r 24)],(fun P=>⟨(.type "builtin_function_or_method"),none,(.fields #[(.builtin "type.__prepare__"),(.type "type")]),#[]⟩),hl 316 "NoNumber" 25 111,u [],z [],hc "NoNumber" 311 25 107 314,hd 109 106 "treeasks.errors" 187,u [],hr 316 25 111,hg "NoNumber" 113 112 104 309,hf 113,he 113,u [(r 24)],(fun P=>⟨(.type "builtin_function_or_method"),none,(.fields #[(.builtin "type.__prepare__"),(.type "type")]),#[]⟩),hl 332 "NoPlace" 27 123,u [],z [],hc "NoPlace" 327 27 119 330,hd 121 118 "treeasks.errors" 187,u [],hr 332 27 123,hg "NoPlace" 125 124 116 325,hf 125,he 125,u [(r 24)],(fun P=>⟨(.type "builtin_function_or_method"),none,(.fields #[(.builtin "type.__prepare__"),(.type "type")]),#[]⟩),hl 348 "NoChange" 29 135,u [],z [],hc "NoChange" 343 29 131 346,hd 133 130 "treeasks.errors" 187,u [],hr 348 29 135,hg "NoChange" 137 136 128 341,hf 137,he 137,u [],z [],u [(V "thing" 362)],u [],x 10,q "is_whole" 359 360 361 32 1 0 0 3 140 181 141 142 143 144 363 364,y 10 (V "treeasks.numbers" 357) (r 145),u [],z [],ha "thing" 369 "least" "most",u [],x 11,q "is_between" 366 367 368 34 3 0 0 3 147 181 148 149 150 151 372 373,y 11 (V "treeasks.numbers" 357) (r 152),u [],z [],hb "number" 378 "bottom",u [],x 12,q "greatest_common" 375 376 377 36 2 0 0 3 154 181 155 156 157 158 380 381,y 12 (V "treeasks.numbers" 357) (r 159),u [],z [],ha "thing" 386 "top" "bottom",u [],x 13,q "is_fraction" 383 384 385 40 1 0 0 3 161 181 162 163 164 165 389 390,y 13 (V "treeasks.numbers" 357) (r 166),u [],z [],ha "thing" 401 "parents" "rooms",u [],x 17,q "has_two_lists" 398 399 400 50 1 0 0 3 168 181 169 170 171 172 404 405,y 17 (V "treeasks.trees" 392) (r 173),u [],z [],hj "thing" 410 "parents" "rooms" "number" "parent" "room",u [],x 18,q "look_at_tree" 407 408 409 57 1 0 0 3 175 181 176 177 178 179 416 417,y 18 (V "treeasks.trees" 392) (r 180),u [],z [],hb "tree" 422 "thing",u [],x 19,q "is_place" 419 420 421 67 2 0 0 3 182 181 183 184 185 186 424 425,y 19 (V "treeasks.trees" 392) (r 187),u [],z [],hb "tree" 430 "thing",u [],x 20,q "is_tie" 427 428 429 69 2 0 0 3 189 181 190 191 192 193 432 433,y 20 (V "treeasks.trees" 392) (r 194),u [],z [],ha "tree" 438 "one" "other",u [],x 21,q "are_ends" 435 436 437 71 3 0 0 3 196 181 197 198 199 200 441 442,y 21 (V "treeasks.trees" 392) (r 201),u [],z [],hj "tree" 455 "thing" "one" "other" "size" "worth",u [],x 26,q "is_ask" 452 453 454 77 2 0 0 3 203 181 204 205 206 207 461 462,y 26 (V "treeasks.asks" 444) (r 208),u [],z [],hk "tree" 467 "thing" "number" "ask",u [],x 27,q "look_at_asks" 464 465 466 82 2 0 0 3 210 181 211 212 213 214 471 472,y 27 (V "treeasks.asks" 444) (r 215),u [],z [],ha "top" 479 "bottom" "common",u [],x 29,q "fraction" 476 477 478 90 2 0 0 3 217 181 218 219 220 221 482 483,y 29 (V "treeasks.fractions" 474) (r 222),u [],z [],hb "one" 488 "other",u [],x 30,q "minus" 485 486 487 99 2 0 0 3 224 181 225 226 227 228 490 491,y 30 (V "treeasks.fractions" 474) (r 229),u [],z [],hb "one" 496 "other",u [],x 31,q "times" 493 494 495 101 2 0 0 3 231 181 232 233 234 235 498 499,y 31 (V "treeasks.fractions" 474) (r 236),u [],z [],x 32,hh "sum_of" 501 103 1 238 504,y 32 (V "treeasks.fractions" 474) (r 241),u [],z [],hb "one" 510 "other",u [],x 33,q "under" 507 508 509 108 2 0 0 3 243 181 244 245 246 247 512 513,y 33 (V "treeasks.fractions" 474) (r 248),u [],z [],ha "tree" 520 "one" "other",u [],x 35,q "look_at_ends" 517 518 519 111 3 0 0 3 250 181 251 252 253 254 523 524,y 35 (V "treeasks.ways" 515) (r 255),u [],z [],hq 529 "one" "other" "way" "low",u [],x 36,q "climb" 526 527 528 115 3 0 0 3 257 181 258 259 260 261 534 535,y 36 (V "treeasks.ways" 515) (r 262),u [],z [],hq 540 "one" "other" "way" "meeting",u [],x 37,q "way_between" 537 538 539 122 3 0 0 3 264 181 265 266 267 268 545 546,y 37 (V "treeasks.ways" 515) (r 269),u [],z [],hb "tree" 551 "ask",u [],x 38,q "way_of" 548 549 550 126 2 0 0 3 271 181 272 273 274 275 553 554,y 38 (V "treeasks.ways" 515) (r 276),u [],z [],hj "tree" 561 "asks" "thing" "least" "place" "number",u [],x 40,q "look_at_keep" 558 559 560 129 3 0 0 3 278 181 279 280 281 282 567 568,y 40 (V "treeasks.keeps" 556) (r 283),u [],z [],u [(V "thing" 575)],u [],x 42,q "is_price" 572 573 574 139 1 0 0 3 285 181 286 287 288 289 576 577,y 42 (V "treeasks.prices" 570) (r 290),u [],z [],hq 582 "thing" "ties" "number" "price",u [],x 43,q "look_at_prices" 579 580 581 141 2 0 0 3 292 181 293 294 295 296 587 588,y 43 (V "treeasks.prices" 570) (r 297),u [],z [],x 44,hh "spare_of" 590 151 4 299 593,y 44 (V "treeasks.prices" 570) (r 302),u [],z [],x 45,hh "spares" 596 155 3 304 599,y 45 (V "treeasks.prices" 570) (r 307),u [],z [],x 46,hh "bound_of" 602 159 3 309 605,y 46 (V "treeasks.prices" 570) (r 312),(fun P=>⟨(.type "dict"),none,(.dict #[(d P (S "room") 610 (i 3 611)),(d P (S "ask") 612 (i 3 613)),(d P (S "more") 614 (i 2 615)),(d P (S "less") 616 (i 2 617)),(d P (S "hang") 618 (i 3 619))] 5),#[]⟩),u [],z [],ha "tree" 629 "asks" "thing",u [],x 49,q "is_change" 626 627 628 165 3 0 0 3 315 181 316 317 318 319 632 633,y 49 (V "treeasks.changes" 608) (r 320),u [],z [],hk "tree" 638 "change" "parents" "rooms",u [],x 50,q "changed_tree" 635 636 637 173 2 0 0 3 322 181 323 324 325 326 642 643,y 50 (V "treeasks.changes" 608) (r 327),u [],z [],ha "asks" 648 "change" "found",u [],x 51,q "changed_asks" 645 646 647 181 2 0 0 3 329 181 330 331 332 333 651 652,y 51 (V "treeasks.changes" 608) (r 334),u [],z [],hq 657 "asks" "change" "there" "wanted",u [],x 52,q "changed" 654 655 656 190 3 0 0 3 336 181 337 338 339 340 662 663,y 52 (V "treeasks.changes" 608) (r 341),u [],z [],ha "tree" 668 "asks" "change",u [],x 53,q "look_at_change" 665 666 667 200 3 0 0 3 343 181 344 345 346 347 671 672,y 53 (V "treeasks.changes" 608) (r 348),u [],z [],x 54,hh "carried_keep" 674 202 4 350 677,y 54 (V "treeasks.changes" 608) (r 353),u [],z [],hk "tree" 683 "asks" "change" "prices",u [],x 55,q "carried_prices" 680 681 682 211 4 0 0 3 355 181 356 357 358 359 687 688,y 55 (V "treeasks.changes" 608) (r 360),u [],z [],u [(V "tree" 693),(V "asks" 694),(V "change" 695),(V "prices" 696),(V "there" 697),(V "wanted" 698),(V "carried" 699)],u [],x 56,q "bound_turned" 690 691 692 215 4 0 0 3 362 181 363 364 365 366 700 701,y 56 (V "treeasks.changes" 608) (r 367),u [],z [],hk "_law_script" 708 "_law_k" "_law_cell" "_law_seed",u [],x 58,q "_law_pool" 705 706 707 220 2 0 0 3 369 181 370 371 372 373 712 713,y 58 (V "law_treeasks_k74_carried_over_changes" 703) (r 374),u [],z [],ha "_law_pool_here" 718 "_law_many" "_law_found",u [],x 59,q "_law_take" 715 716 717 228 2 0 0 3 376 181 377 378 379 380 721 722,y 59 (V "law_treeasks_k74_carried_over_changes" 703) (r 381),u [],z [],ha "_law_pool_here" 727 "_law_most" "_law_way_here",u [],x 60,q "_law_number" 724 725 726 235 2 0 0 3 383 181 384 385 386 387 730 731,y 60 (V "law_treeasks_k74_carried_over_changes" 703) (r 388),u [],z [],hj "_law_pool_here" 736 "_law_most" "_law_shape" "_law_parents_here" "_law_place" "_law_up_here",u [],x 61,q "_law_parents" 733 734 735 244 2 0 0 3 390 181 391 392 393 394 742 743,y 61 (V "law_treeasks_k74_carried_over_changes" 703) (r 395),u [],z [],x 62,hh "_law_rooms" 745 251 3 397 748,y 62 (V "law_treeasks_k74_carried_over_changes" 703) (r 400),u [],z [],ha "_law_pool_here" 754 "_law_many" "_law_one",u [],x 63,q "_law_ends" 751 752 753 254 2 0 0 3 402 181 403 404 405 406 757 758,y 63 (V "law_treeasks_k74_carried_over_changes" 703) (r 407),u [],z [],ha "_law_parents_here" 763 "_law_place" "_law_found",u [],x 64,q "_law_up" 760 761 762 257 2 0 0 3 409 181 410 411 412 413 766 767,y 64 (V "law_treeasks_k74_carried_over_changes" 703) (r 414),u [],z [],x 65,hh "_law_way" 769 263 2 416 772,y 65 (V "law_treeasks_k74_carried_over_changes" 703) (r 419),u [],z [],hk "_law_top" 778 "_law_bottom" "_law_one" "_law_other",u [],x 66,q "_law_low" 775 776 777 268 2 0 0 3 421 181 422 423 424 425 782 783,y 66 (V "law_treeasks_k74_carried_over_changes" 703) (r 426),u [],z [],u [(V "_law_pool_here" 788),(V "_law_tree" 789),(V "_law_asks" 790),(V "_law_many" 791),(V "_law_one" 792),(V "_law_other" 793),(V "_law_ask" 794),(V "_law_number_here" 795),(V "_law_room" 796),(V "_law_some" 797)],u [],x 67,q "_law_change" 785 786 787 274 3 0 0 3 428 181 429 430 431 432 798 799,y 67 (V "law_treeasks_k74_carried_over_changes" 703) (r 433),u [],z [],ha "_law_tree" 804 "_law_asks" "_law_change_here",u [],x 68,q "_law_can_be" 801 802 803 284 3 0 0 3 435 181 436 437 438 439 807 808,y 68 (V "law_treeasks_k74_carried_over_changes" 703) (r 440),u [],z [],hj "_law_tree" 813 "_law_asks" "_law_change_here" "_law_parents_here" "_law_rooms_here" "_law_some",u [],x 69,q "_law_behind" 810 811 812 290 3 0 0 3 442 181 443 444 445 446 819 820,y 69 (V "law_treeasks_k74_carried_over_changes" 703) (r 447),u [],z [],hb "_law_one" 825 "_law_other",u [],x 70,q "_law_plus" 822 823 824 304 2 0 0 3 449 181 450 451 452 453 827 828,y 70 (V "law_treeasks_k74_carried_over_changes" 703) (r 454)]
def Ttree_85 (Q : F) : Params → W.BT := bt 11 ((lL Q a0m a0k).take 47)
def _root_.PySem.W.Fast.tw9254085187607317587 : Params → W.BT := Ttree_85 PySem.W.Fast.tw6963075612888702905
theorem _root_.PySem.W.Fast.te9254085187607317587 : Ttree_85 Ob.A64 = PySem.W.Fast.tw9254085187607317587 := (congrArg Ttree_85 PySem.W.Fast.te6963075612888702905)
lay_quick Ob.A86
def Ttree_107 (Q : F) : Params → W.BT := bt 11 ((lL Q a1e a1c).take 66)
def _root_.PySem.W.Fast.tw2474081593241845933 : Params → W.BT := Ttree_107 PySem.W.Fast.tw11147188043990879120
theorem _root_.PySem.W.Fast.te2474081593241845933 : Ttree_107 Ob.A86 = PySem.W.Fast.tw2474081593241845933 := (congrArg Ttree_107 PySem.W.Fast.te11147188043990879120)
lay_quick Ob.A108
def Ttree_129 (Q : F) : Params → W.BT := bt 11 ((lL Q a1x a1v).take 85)
def _root_.PySem.W.Fast.tw15376584387675742665 : Params → W.BT := Ttree_129 PySem.W.Fast.tw4549916873101738619
theorem _root_.PySem.W.Fast.te15376584387675742665 : Ttree_129 Ob.A108 = PySem.W.Fast.tw15376584387675742665 := (congrArg Ttree_129 PySem.W.Fast.te4549916873101738619)
lay_quick Ob.A130
def Ttree_151 (Q : F) : Params → W.BT := bt 11 ((lL Q a2j a2h).take 104)
def _root_.PySem.W.Fast.tw15660203414288053549 : Params → W.BT := Ttree_151 PySem.W.Fast.tw16405788764653981887
theorem _root_.PySem.W.Fast.te15660203414288053549 : Ttree_151 Ob.A130 = PySem.W.Fast.tw15660203414288053549 := (congrArg Ttree_151 PySem.W.Fast.te16405788764653981887)
lay_quick Ob.A152
def Ttree_166 (Q : F) : Params → W.BT := bt 11 ((lL Q a30 a2y).take 116)
def _root_.PySem.W.Fast.tw9862596098939863282 : Params → W.BT := Ttree_166 PySem.W.Fast.tw6053701103550676820
theorem _root_.PySem.W.Fast.te9862596098939863282 : Ttree_166 Ob.A152 = PySem.W.Fast.tw9862596098939863282 := (congrArg Ttree_166 PySem.W.Fast.te6053701103550676820)
lay_quick Ob.A167
def Ttree_181 (Q : F) : Params → W.BT := bt 11 ((lL Q a3d a3b).take 128)
def _root_.PySem.W.Fast.tw14600998201337195072 : Params → W.BT := Ttree_181 PySem.W.Fast.tw9136528746814694042
theorem _root_.PySem.W.Fast.te14600998201337195072 : Ttree_181 Ob.A167 = PySem.W.Fast.tw14600998201337195072 := (congrArg Ttree_181 PySem.W.Fast.te9136528746814694042)
lay_quick Ob.A182
def Ttree_224 (Q : F) : Params → W.BT := bt 11 ((lL Q a49 a46).take 168)
def _root_.PySem.W.Fast.tw4797264666754798753 : Params → W.BT := Ttree_224 PySem.W.Fast.tw778252170099898122
theorem _root_.PySem.W.Fast.te4797264666754798753 : Ttree_224 Ob.A182 = PySem.W.Fast.tw4797264666754798753 := (congrArg Ttree_224 PySem.W.Fast.te778252170099898122)
lay_quick Ob.A225
def Ttree_301 (Q : F) : Params → W.BT := bt 11 ((lL Q a60 a46).take 243)
def _root_.PySem.W.Fast.tw8552567340743909239 : Params → W.BT := Ttree_301 PySem.W.Fast.tw8632700316444642378
theorem _root_.PySem.W.Fast.te8552567340743909239 : Ttree_301 Ob.A225 = PySem.W.Fast.tw8552567340743909239 := (congrArg Ttree_301 PySem.W.Fast.te8632700316444642378)
lay_quick Ob.A302
def Ttree_374 (Q : F) : Params → W.BT := bt 11 ((lL Q a82 a46).take 314)
def _root_.PySem.W.Fast.tw15034361094989933934 : Params → W.BT := Ttree_374 PySem.W.Fast.tw853180169206537098
theorem _root_.PySem.W.Fast.te15034361094989933934 : Ttree_374 Ob.A302 = PySem.W.Fast.tw15034361094989933934 := (congrArg Ttree_374 PySem.W.Fast.te853180169206537098)
lay_quick Ob.A375
def Ttree_438 (Q : F) : Params → W.BT := bt 11 ((lL Q a9v a46).take 376)
def _root_.PySem.W.Fast.tw3191083303408333302 : Params → W.BT := Ttree_438 PySem.W.Fast.tw174855843450535288
theorem _root_.PySem.W.Fast.te3191083303408333302 : Ttree_438 Ob.A375 = PySem.W.Fast.tw3191083303408333302 := (congrArg Ttree_438 PySem.W.Fast.te174855843450535288)
lay_quick Ob.A441
def Ttree_522 (Q : F) : Params → W.BT := bt 11 ((lL Q aby a46).take 456)
def _root_.PySem.W.Fast.tw13208500266289464874 : Params → W.BT := Ttree_522 PySem.W.Fast.tw12975285521408626009
theorem _root_.PySem.W.Fast.te13208500266289464874 : Ttree_522 Ob.A441 = PySem.W.Fast.tw13208500266289464874 := (congrArg Ttree_522 PySem.W.Fast.te12975285521408626009)
end
end Ob
namespace L2
open PySem PySem.Spec PyProof.Rows
abbrev Key:=Sum Int Str
def rO:Key→Value→Bool
 | .inl k,v=>Value.isInt k v
 | .inr x,v=>Value.isStrOf x v
def keyH (w:World):Key→Int
 | .inl k=>hashInt k
 | .inr x=>hashStr w x
theorem bu:∀ {k:Key} {v:Value},rO k v=true→(∃ i t,k=Sum.inl i∧v=Value.int i t)∨(∃ x t,k=Sum.inr x∧v=Value.str x t)
 | .inl i,v,h=>by
  obtain ⟨t,e⟩:=Value.isInt_shape (k:=i) (v:=v) h
  exact .inl ⟨i,t,rfl,e⟩
 | .inr x,v,h=>by
  obtain ⟨t,e⟩:=Value.isStrOf_shape (x:=x) (v:=v) h
  exact .inr ⟨x,t,rfl,e⟩
theorem u8 (a b:Int):decide ((Sum.inl a:Key)=Sum.inl b)=(a == b):=by
 by_cases e:a=b
 ·subst e; simp
 ·have h : ¬ (Sum.inl a:Key)=Sum.inl b:=fun q=>e (Sum.inl.inj q)
  rw [decide_eq_false h]
  exact (beq_eq_false_iff_ne.mpr e).symm
theorem uM (a b:Str):decide ((Sum.inr a:Key)=Sum.inr b)=decide (a=b):=by
 by_cases e:a=b
 ·subst e; simp
 ·have h : ¬ (Sum.inr a:Key)=Sum.inr b:=fun q=>e (Sum.inr.inj q)
  rw [decide_eq_false h,decide_eq_false e]
theorem sI (a:Int) (b:Str):decide ((Sum.inl a:Key)=Sum.inr b)=false:=decide_eq_false (fun q=>nomatch q)
theorem uB (a:Str) (b:Int):decide ((Sum.inr a:Key)=Sum.inl b)=false:=decide_eq_false (fun q=>nomatch q)
def i9 (prog:Program) (w:World):PySem.KeyKind prog w Key where
 is:=rO
 hash:=keyH w
 inj:=fun v a b ha hb=>by
  rcases bu ha with ⟨i,t,rfl,rfl⟩ | ⟨x,t,rfl,rfl⟩
  ·rcases bu hb with ⟨j,u,rfl,e⟩ | ⟨y,u,rfl,e⟩
   ·injection e with e1 _; rw [e1]
   ·exact nomatch e
  ·rcases bu hb with ⟨j,u,rfl,e⟩ | ⟨y,u,rfl,e⟩
   ·exact nomatch e
   ·injection e with e1 _; rw [e1]
 byValue:=fun k v h=>by
  rcases bu h with ⟨i,t,rfl,rfl⟩ | ⟨x,t,rfl,rfl⟩ <;> rfl
 pyHash:=fun hv h=>by
  rcases bu hv with ⟨i,t,rfl,rfl⟩ | ⟨x,t,rfl,rfl⟩
  ·exact wpAny_pyHash_int h
  ·exact wpAny_pyHash_str h
 eqBool:=fun hu hv h=>by
  rcases bu hu with ⟨i,t,rfl,rfl⟩ | ⟨x,t,rfl,rfl⟩
  ·rcases bu hv with ⟨j,u,rfl,rfl⟩ | ⟨y,u,rfl,rfl⟩
   ·rw [u8] at h; exact wpAny_eqBool_int h
   ·rw [sI] at h; exact SeqAt.EqAt.int_str i t y u _ _ _ _ h
  ·rcases bu hv with ⟨j,u,rfl,rfl⟩ | ⟨y,u,rfl,rfl⟩
   ·rw [uB] at h; exact SeqAt.EqAt.str_int x t j u _ _ _ _ h
   ·rw [uM] at h; exact wpAny_eqBool_str h
 «strs»:=fun k x t v h=>by
  rcases bu h with ⟨i,u,rfl,e⟩ | ⟨y,u,rfl,e⟩
  ·exact nomatch e
  ·injection e with e1 _
   subst e1
   cases v <;> rfl
inductive V where
 | non | bl (b:Bool) | int (i:Int) | str (x:Str) | byt (b:Array UInt8) | flt (b:UInt64) | ref (a:Addr) | ty (n:String)
 deriving DecidableEq
def a9:V→Value→Prop
 | .non,u=>u=Value.none
 | .bl b,u=>u=Value.bool b
 | .int i,u=>∃ t,u=Value.int i t
 | .str x,u=>∃ t,u=Value.str x t
 | .byt b,u=>∃ t,u=Value.bytes b t
 | .flt b,u=>∃ t,u=Value.float b t
 | .ref a,u=>u=Value.ref a
 | .ty n,u=>u=Value.type n
abbrev aS:List V→List Value→Prop:=Paired a9
theorem aS.length {xs:List V} {us:List Value} (r:aS xs us):xs.length=us.length:=Paired.length r
theorem aS.get:∀ {xs:List V} {us:List Value} {i:Nat} {x:V},aS xs us→xs[i]? = some x→∃ u,us[i]? = some u∧a9 x u
 | _,_,_,_,.nil,e=>by simp at e
 | _,_,0,_,.cons r _,e=>by simp at e; subst e; exact ⟨_,rfl,r⟩
 | _,_,i + 1,x,.cons _ t,e=>by
  obtain ⟨u,h1,h2⟩:=aS.get (i:=i) (x:=x) t (by simpa using e)
  exact ⟨u,by simpa using h1,h2⟩
theorem aS.set {x:V} {u:Value} (r:a9 x u):∀ {xs:List V} {us:List Value} (i:Nat),aS xs us→aS (xs.set i x) (us.set i u)
 | _,_,_,.nil=>.nil
 | _,_,0,.cons _ t=>.cons r t
 | _,_,i + 1,.cons q t=>.cons q (aS.set r i t)
theorem aS.append:∀ {xs ys:List V} {us ws:List Value},aS xs us→aS ys ws→aS (xs++ys) (us++ws)
 | _,_,_,_,.nil,s=>s
 | _,_,_,_,.cons r t,s=>.cons r (aS.append t s)
theorem aS.take:∀ {xs:List V} {us:List Value} (n:Nat),aS xs us→aS (xs.take n) (us.take n)
 | _,_,0,_=>.nil
 | _,_,_ + 1,.nil=>.nil
 | _,_,n + 1,.cons r t=>.cons r (aS.take n t)
theorem aS.drop:∀ {xs:List V} {us:List Value} (n:Nat),aS xs us→aS (xs.drop n) (us.drop n)
 | _,_,0,r=>r
 | _,_,_ + 1,.nil=>.nil
 | _,_,n + 1,.cons _ t=>aS.drop n t
def RelO:Option V→Option Value→Prop
 | some v,some u=>a9 v u
 | none,none=>True
 | _,_=>False
def KV {κ:Type}:List (κ×V)→List (κ×Value)→Prop:=Paired fun (p : κ×V) (q : κ×Value)=>p.1=q.1∧a9 p.2 q.2
def kV:Key→V
 | .inl i=>.int i
 | .inr x=>.str x
inductive HO where

 | lst (xs:List V)

 | tup (xs:List V)

 | dK (kvs:List (Key×V)) | dT (kvs:List (List Key×V))

 | set (S:Int→Bool) (n:Nat)

 | ins (C dx:Addr) (fs:List (Str×V))

 | own (x:Addr)

 | xd (fs:List (Str×V))

 | met (f x:Addr)

 | rng (lo hi:Int)

 | frz (o:Obj) (u:HO)

 | tbl (ps:Array Value) (q:Str)

 | ext (φ:Heap→Prop)
abbrev Hp:=Addr→Option HO
def upd (H:Hp) (a:Addr) (o:HO):Hp:=fun b=>if b=a then some o else H b
theorem aU {H:Hp} {a:Addr} {o:HO}:upd H a o a=some o:=by unfold upd; rw [if_pos rfl]
theorem ax {H:Hp} {a b:Addr} {o:HO} (h:b≠a):upd H a o b=H b:=by unfold upd; rw [if_neg h]
theorem aq {H:Hp} {a b:Addr} {o:HO} (h:H a=some o) (h':H b=none):a≠b:=by
 intro e; subst e; rw [h] at h'; cases h'
def TbV (H:Hp) (ps:Array Value) (q:Str):Prop:=TriplesOk ps.toList∧∀ pos cv,codeAmong pos ps.toList=some cv→∃ c o vs t,cv = .ref c∧H c=some (.frz o (.own 0))∧o.data = .fields vs∧vs[1]? = some (.str q t)
theorem TbV.mono {H H':Hp} {ps:Array Value} {q:Str} (h:TbV H ps q) (hf:∀ b o u,H b=some (.frz o u)→H' b=some (.frz o u)):TbV H' ps q:=⟨h.1,fun pos cv e=>let ⟨c,o,vs,t,a,b,r⟩:=h.2 pos cv e; ⟨c,o,vs,t,a,hf _ _ _ b,r⟩⟩
section
variable (P:Program) (w:World)
def bQ (H:Hp) (h:Heap) (a:Addr):HO→Prop
 | .lst xs=>xs.length≤sizeLine∧∃ (its:List Value) (n:Nat),aS xs its∧h.get? a=some { cls:=.type "list",data:=.seq its.toArray n }
 | .tup xs=>xs.length≤sizeLine∧∃ its:List Value,aS xs its∧IsTup h a its.toArray
 | .dK kvs=>kvs.length≤sizeLine∧(a == sysModules)=false∧∃ vs,KV kvs vs∧h.DictOf (i9 P w) a vs
 | .dT kvs=>kvs.length≤sizeLine∧(a == sysModules)=false∧∃ xs:List (List Key×Addr×Value),
  Paired (fun (p:List Key×V) (q:List Key×Addr×Value)=>p.1=q.1∧H q.2.1=some (.tup (p.1.map kV))∧a9 p.2 q.2.2) kvs xs ∧
  ∃ o es ep,h.get? a=some o∧o.ExactDict∧o.data = .dict es ep∧es.toList=xs.map (entryOfKey (tupleKind (i9 P w)))∧(xs.map (·.1)).Nodup
 | .set S n=>h.SetOf (intKind P w) a S n
 | .ins C dx fs=>H dx=some (.own a)∧fs.length≤1000∧dx≠a∧h.get? a=some (PySem.W.instObj C dx) ∧
  ∃ mA,h.Ns1 dx mA∧(∀ f,RelO (fs.lookup f) (mA f))∧PySem.Within mA (fs.map (·.1))
 | .own _=>∃ o,h.get? a=some o
 | .xd fs=>∃ mA,h.Ns1 a mA∧∀ f,RelO (fs.lookup f) (mA f)
 | .rng lo hi=>∃ t u v,h.get? a=some { cls:=.type "range",data:=.fields #[.int lo t,.int hi u,.int 1 v] }
 | .frz o u=>h.get? a=some o∧bQ H h a u
 | .tbl ps q=>h.get? a=some { cls:=.none,data:=.fields ps }∧TbV H ps q
 | .met f x=>h.get? a=some (PySem.W.methodObj (.ref f) (.ref x))
 | .ext φ=>φ h∧(∃ o,h.get? a=some o)∧∀ h1 h2:Heap,φ h1→(∀ o,h1.get? a=some o→h2.get? a=some o)→φ h2
def HOk (H:Hp) (h:Heap):Prop:=∀ a o,H a=some o→bQ P w H h a o
end
section
variable {P:Program} {w:World} {H H':Hp} {h h':Heap} {a:Addr} {o:HO}
theorem bQ.lt (x:bQ P w H h a o):a<h.objs.size:=by
 cases o with
 | lst xs=>obtain ⟨_,_,_,_,e⟩:=x; exact Heap.lt_size e
 | tup xs=>obtain ⟨_,_,_,p⟩:=x; exact p.lt
 | dK kvs=>obtain ⟨_,_,_,_,o,_,_,e,_⟩:=x; exact Heap.lt_size e
 | dT kvs=>obtain ⟨_,_,_,_,o,_,_,e,_⟩:=x; exact Heap.lt_size e
 | set S n=>obtain ⟨o,_,_,_,e,_⟩:=x; exact Heap.lt_size e
 | ins C dx fs=>obtain ⟨_,_,_,e,_⟩:=x; exact Heap.lt_size e
 | own y=>obtain ⟨_,e⟩:=x; exact Heap.lt_size e
 | xd fs=>obtain ⟨_,⟨_,_,_,e,_⟩,_⟩:=x; exact Heap.lt_size e
 | rng lo hi=>obtain ⟨_,_,_,e⟩:=x; exact Heap.lt_size e
 | frz ob u=>obtain ⟨e,_⟩:=x; exact Heap.lt_size e
 | tbl ps q=>obtain ⟨e,_⟩:=x; exact Heap.lt_size e
 | met f y=>exact Heap.lt_size (show h.get? a=some _ from x)
 | ext φ=>obtain ⟨_,⟨_,e⟩,_⟩:=x; exact Heap.lt_size e
theorem Paired.mapP {α β:Type} {F G : α→β→Prop}:∀ {l₁:List α} {l₂:List β},Paired F l₁ l₂→(∀ a b,F a b→G a b)→Paired G l₁ l₂
 | _,_,.nil,_=>.nil
 | _,_,.cons r t,f=>.cons (f _ _ r) (Paired.mapP t f)
theorem bQ.stay (x:bQ P w H h a o) (k:∀ b u,(b=a∨H b=some (.own a))→h.get? b=some u→h'.get? b=some u)
 (ho:∀ b,H b=some (.own a)→H' b=some (.own a)) (ht:∀ b xs,H b=some (.tup xs)→H' b=some (.tup xs)) (hf:∀ b o u,H b=some (.frz o u)→H' b=some (.frz o u)):bQ P w H' h' a o:=by
 induction o with
 | lst xs=>obtain ⟨z,its,n,r,e⟩:=x; exact ⟨z,its,n,r,k _ _ (.inl rfl) e⟩
 | tup xs=>obtain ⟨z,its,r,ob,e,c⟩:=x; exact ⟨z,its,r,ob,k _ _ (.inl rfl) e,c⟩
 | dK kvs=>obtain ⟨z,y,vs,r,ob,es,ep,e,c⟩:=x; exact ⟨z,y,vs,r,ob,es,ep,k _ _ (.inl rfl) e,c⟩
 | dT kvs =>
  obtain ⟨z,y,xs,r,ob,es,ep,e,c⟩:=x
  exact ⟨z,y,xs,Paired.mapP r fun p q z=>⟨z.1,ht _ _ z.2.1,z.2.2⟩,ob,es,ep,k _ _ (.inl rfl) e,c⟩
 | set S n=>obtain ⟨ob,es,ep,t,e,c⟩:=x; exact ⟨ob,es,ep,t,k _ _ (.inl rfl) e,c⟩
 | ins C dx fs =>
  obtain ⟨d,z,ne,e,mA,⟨od,es,ep,e2,c⟩,r⟩:=x
  exact ⟨ho _ d,z,ne,k _ _ (.inl rfl) e,mA,⟨od,es,ep,k _ _ (.inr d) e2,c⟩,r⟩
 | own y=>obtain ⟨ob,e⟩:=x; exact ⟨ob,k _ _ (.inl rfl) e⟩
 | xd fs=>obtain ⟨mA,⟨od,es,ep,e,c⟩,r⟩:=x; exact ⟨mA,⟨od,es,ep,k _ _ (.inl rfl) e,c⟩,r⟩
 | rng lo hi=>obtain ⟨t,u,v,e⟩:=x; exact ⟨t,u,v,k _ _ (.inl rfl) e⟩
 | frz ob u ih=>obtain ⟨e,q⟩:=x; exact ⟨k _ _ (.inl rfl) e,ih q⟩
 | tbl ps q=>obtain ⟨e,v⟩:=x; exact ⟨k a _ (.inl rfl) e,v.mono hf⟩
 | met f y =>
  have e:h.get? a=some (PySem.W.methodObj (.ref f) (.ref y)):=x
  show h'.get? a=some (PySem.W.methodObj (.ref f) (.ref y))
  exact k a _ (.inl rfl) e
 | ext φ=>obtain ⟨p,⟨o,e⟩,st⟩:=x; exact ⟨st _ _ p fun o q=>k _ _ (.inl rfl) q,⟨o,k _ _ (.inl rfl) e⟩,st⟩
theorem HOk.lt (x:HOk P w H h) (e:H a=some o):a<h.objs.size:=(x a o e).lt
theorem HOk.fresh (x:HOk P w H h) (e:h.objs.size≤a):H a=none:=by
 cases q:H a with
 | none=>rfl
 | some u=>exact absurd (Nat.lt_of_lt_of_le (x.lt q) e) (Nat.lt_irrefl _)
theorem HOk.kept (x:HOk P w H h) (k:∀ b u,h.get? b=some u→h'.get? b=some u):HOk P w H h':=fun a o e =>
 (x a o e).stay (fun b u _ q=>k b u q) (fun _ q=>q) (fun _ _ q=>q) fun _ _ _ q=>q
theorem HOk.laid (x:HOk P w H h) (k:∀ b u,h.get? b=some u→h'.get? b=some u) (hp:h.objs.size≤a) (new:bQ P w (upd H a o) h' a o):HOk P w (upd H a o) h':=fun b u e=>by
 have hn:=x.fresh hp
 by_cases hb:b=a
 ·subst hb; rw [aU] at e; cases e; exact new
 ·rw [ax hb] at e
  exact (x b u e).stay (fun c v _ q=>k c v q) (fun c q=>by rw [ax (aq q hn)]; exact q) (fun c xs q=>by rw [ax (aq q hn)]; exact q) fun c ob u q=>by rw [ax (aq q hn)]; exact q
end
def Rd (H:Hp) (a:Addr) (u:HO):Prop:=H a=some u∨∃ o,H a=some (.frz o u)
theorem Rd.ok {P:Program} {w:World} {H:Hp} {h:Heap} {a:Addr} {u:HO} (r:Rd H a u) (x:HOk P w H h):bQ P w H h a u:=by
 rcases r with r | ⟨o,r⟩
 ·exact x a u r
 ·obtain ⟨_,q⟩:=x a _ r
  exact q
def Mut:Option HO→Prop
 | some (.lst _)=>True
 | some (.dK _)=>True
 | some (.dT _)=>True
 | some (.set _ _)=>True
 | some (.ins _ _ _)=>True
 | some (.ext _)=>True
 | _=>False
section
variable {P:Program} {w:World} {H:Hp} {h h':Heap} {x e:Addr} {o':HO}
theorem HOk.write (ok:HOk P w H h) (mu:Mut (H x)) (he:e=x∨H e=some (.own x)) (k:∀ b u,b≠e→h.get? b=some u→h'.get? b=some u) (heo:∃ u,h'.get? e=some u)
 (new:bQ P w (upd H x o') h' x o'):HOk P w (upd H x o') h':=fun b u q=>by
 have nown:∀ c y,H c=some (.own y)→c≠x:=fun c y r z=>by subst z; rw [r] at mu; exact mu
 have ntup:∀ c xs,H c=some (.tup xs)→c≠x:=fun c xs r z=>by subst z; rw [r] at mu; exact mu
 have nfrz:∀ c ob u,H c=some (.frz ob u)→c≠x:=fun c ob u r z=>by subst z; rw [r] at mu; exact mu
 by_cases hb:b=x
 ·subst hb; rw [aU] at q; cases q; exact new
 ·rw [ax hb] at q
  by_cases hbe:b=e
  ·have q':H b=some (.own x):=by
    rcases he with z | z
    ·exact absurd (hbe.trans z) hb
    ·rw [hbe]; exact z
   rw [q] at q'; cases q'
   obtain ⟨v,hv⟩:=heo
   exact ⟨v,by rw [hbe]; exact hv⟩
  ·refine (ok b u q).stay (fun c v hc r=>k c v ?_ r) (fun c r=>by rw [ax (nown c b r)]; exact r) (fun c xs r=>by rw [ax (ntup c xs r)]; exact r) fun c ob u r=>by rw [ax (nfrz c ob u r)]; exact r
   rcases hc with rfl | hc
   ·exact hbe
   ·rintro rfl
    rcases he with z | z
    ·exact nown c b hc z
    ·rw [hc] at z; cases z; exact hb rfl
end
structure Un (fs ex:List Addr) (H H':Hp) (h h':Heap):Prop where
 keep:∀ b o,h.get? b=some o→H b=none→b ∉ fs→b ∉ ex→h'.get? b=some o
 slot:∀ b o,h.get? b=some o→H b=none→b∈fs→b ∉ ex→∃ sl,h'.get? b=some { o with slots:=sl }
 free:∀ b o,h.get? b=some o→H b=none→b ∉ ex→H' b=none
 there:∀ b o,h.get? b=some o→b ∉ ex→∃ o',h'.get? b=some o'
 tups:∀ b xs,H b=some (.tup xs)→H' b=some (.tup xs)
 frzs:∀ b o u,H b=some (.frz o u)→H' b=some (.frz o u)
 tbls:∀ b ps q,H b=some (.tbl ps q)→∃ more,H' b=some (.tbl (ps++more) q)
section
variable {fs fs' ex ex':List Addr} {H H1 H2:Hp} {h h1 h2 h':Heap} {a x e:Addr} {o:HO}
theorem Un.any (u:Un fs ex H H1 h h1) {b:Addr} {ob:Obj} (q:h.get? b=some ob) (n:H b=none) (hx:b ∉ ex):∃ sl,h1.get? b=some { ob with slots:=sl }:=by
 by_cases hb:b∈fs
 ·exact u.slot b ob q n hb hx
 ·exact ⟨ob.slots,u.keep b ob q n hb hx⟩
theorem Un.kept (k:∀ b u,h.get? b=some u→h'.get? b=some u):Un fs ex H H h h' :=
 ⟨fun b ob q _ _ _=>k b ob q,fun b ob q _ _ _=>⟨ob.slots,k b ob q⟩,fun _ _ _ n _=>n,fun b ob q _=>⟨ob,k b ob q⟩,fun _ _ q=>q,fun _ _ _ q=>q,fun _ ps _ q=>⟨#[],by rw [q]; simp⟩⟩
theorem Un.refl:Un fs ex H H h h:=Un.kept fun _ _ q=>q
theorem Un.laid (k:∀ b u,h.get? b=some u→h'.get? b=some u) (hp:h.objs.size≤a) (hn:H a=none):Un fs ex H (upd H a o) h h' where
 keep:=fun b u q _ _ _=>k b u q
 slot:=fun b u q _ _ _=>⟨u.slots,k b u q⟩
 free:=fun b u q n _=>by rw [ax (Nat.ne_of_lt (Nat.lt_of_lt_of_le (Heap.lt_size q) hp))]; exact n
 there:=fun b u q _=>⟨u,k b u q⟩
 tups:=fun b xs q=>by rw [ax (aq q hn)]; exact q
 frzs:=fun b u xs q=>by rw [ax (aq q hn)]; exact q
 tbls:=fun b ps _ q=>⟨#[],by rw [ax (aq q hn),q]; simp⟩
theorem Un.write (mu:Mut (H x)) (he:e=x∨H e=some (.own x)) (k:∀ b u,b≠e→h.get? b=some u→h'.get? b=some u) (heo:∃ u,h'.get? e=some u):Un fs ex H (upd H x o) h h':=by
 have hx:∀ b,H b=none→b≠x:=fun b n z=>by subst z; rw [n] at mu; exact mu
 have hb:∀ b,H b=none→b≠e:=fun b n z=>by
  subst z
  rcases he with r | r
  ·exact hx b n r
  ·rw [n] at r; cases r
 have hm:∀ b u,H b=some u→¬ Mut (some u)→b≠x:=fun b u q nm z=>by subst z; rw [q] at mu; exact nm mu
 refine ⟨fun b u q n _ _=>k b u (hb b n) q,fun b u q n _ _=>⟨u.slots,k b u (hb b n) q⟩,fun b u q n _=>by rw [ax (hx b n)]; exact n,fun b u q _=>?_,
  fun b xs q=>by rw [ax (hm b _ q fun z=>z)]; exact q,fun b u xs q=>by rw [ax (hm b _ q fun z=>z)]; exact q,fun b ps _ q=>⟨#[],by rw [ax (hm b _ q fun z=>z),q]; simp⟩⟩
 by_cases hbe:b=e
 ·subst hbe; exact heo
 ·exact ⟨u,k b u hbe q⟩
end
def mo (v:Value):Obj:=⟨v,none,.freed,#[]⟩
def lD (h:Heap) (H:Hp) (i:Addr):Obj:=match H i with
 | some (.tbl _ q)=>mo (.str q 0)
 | some _=>mo .none
 | none=>match h.get? i with
  | some o=>o
  | none=>mo .none
def eK (h:Heap) (H:Hp):Heap:=⟨Array.ofFn (n:=h.objs.size) fun i=>lD h H i,h.life⟩
theorem fQ (h:Heap) (H:Hp):(eK h H).objs.size=h.objs.size:=by simp [eK]
theorem jt {h:Heap} {H:Hp} {b:Addr} {o:Obj} (e:(eK h H).objs[b]? = some o):b<h.objs.size∧o=lD h H b:=by
 obtain ⟨hb,e⟩:=Array.getElem?_eq_some_iff.mp e
 rw [fQ] at hb
 refine ⟨hb,?_⟩
 rw [← e]; simp [eK]
theorem nofree {h:Heap} {b:Addr} {o:Obj} (e:h.get? b=some o):h.objs[b]? = some o∧o.data≠.freed:=by
 unfold Heap.get? at e
 split at e
 ·cases e
 ·rename_i hn
  refine ⟨e,fun z=>?_⟩
  obtain ⟨c,d,da,sl⟩:=o
  have z:da = .freed:=z
  subst z
  exact hn c d sl e
theorem qR {h:Heap} {b:Addr} {o:Obj} (e:h.objs[b]? = some o) (n:o.data≠.freed):h.get? b=some o:=by
 unfold Heap.get?
 split
 ·rename_i c d sl e'
  rw [e] at e'; cases e'
  exact absurd rfl n
 ·exact e
theorem na {h:Heap} {H:Hp} {b:Addr} {o:Obj} (e:h.get? b=some o) (n:H b=none):(eK h H).get? b=some o:=by
 have hb:b<(eK h H).objs.size:=by rw [fQ]; exact Heap.lt_size e
 refine qR ?_ (nofree e).2
 rw [Array.getElem?_eq_getElem hb]
 have:(eK h H).objs[b]=lD h H b:=by simp [eK]
 rw [this]; unfold lD; rw [n,e]
theorem rA {h:Heap} {H:Hp} {b:Addr} {o:Obj} (e:(eK h H).get? b=some o):h.get? b=some o∧H b=none:=by
 obtain ⟨e1,nf⟩:=nofree e
 obtain ⟨_,e2⟩:=jt e1
 unfold lD at e2
 split at e2
 ·rw [e2] at nf; exact absurd rfl nf
 ·rw [e2] at nf; exact absurd rfl nf
 ·rename_i hn
  split at e2
  ·rename_i o' e3
   exact ⟨e3.trans (by rw [e2]),hn⟩
  ·rw [e2] at nf; exact absurd rfl nf
def TMk (base:Heap) (P:Addr) (q:Str):Prop:=base.objs[P]? = some (mo (.str q 0))
def TbM (base:Heap) (H:Hp):Prop:=∀ P q,TMk base P q→∃ ps,H P=some (.tbl ps q)
theorem TbM.un {base h h':Heap} {H H':Hp} {fs ex:List Addr} (x:TbM base H) (u:Un fs ex H H' h h'):TbM base H':=fun P q m=>let ⟨ps,z⟩:=x P q m; let ⟨more,y⟩:=u.tbls P ps q z; ⟨_,y⟩
theorem TbM.hid {h:Heap} {H:Hp}:TbM (eK h H) H:=fun P q m=>by
 obtain ⟨_,e⟩:=jt m
 unfold lD at e
 split at e
 ·rename_i ps q' hq
  have e:mo (.str q 0)=mo (.str q' 0):=e
  cases e; exact ⟨ps,hq⟩
 ·cases e
 ·split at e
  ·rename_i o e3
   have:=(nofree e3).2
   rw [← e] at this; exact absurd rfl this
  ·cases e
structure Mod (K:PySem.W.Frag) (mg:Str→Option Value) (base:Heap):Prop where
 kin:K.In base
 glob:base.Ns mainGlobals mg
 blt:∃ mb,base.Ns builtinsNs mb∧∀ x:Str,x ≠ "__name__" → mb x=bootBuiltins x
 nolimit:base.NoLimit
structure Cx where
 prog:Program
 w:World
 K:PySem.W.Frag
 mg:Str→Option Value
 base:Heap
 A:Around
 N:List Str
 s₀:Shared
 H₀:Hp
 env:Env
 outer:List Env
 stack:List Env
 ex:List Addr
 fn:Str→Bool
 calm:Bool
 pn:List (Addr×Obj)
 xe:Value→Shared→Prop
def frs (l:List Env):List Addr:=l.filterMap (·.frame)
abbrev Cx.fs (X:Cx):List Addr:=frs X.outer
def Vis (sc:Scope) (x:Str):Prop:=sc.names.lookup x=some .local∨sc.names.lookup x=some .cell∨sc.names.lookup x=some .free
def Loc (sc:Scope) (x:Str):Prop:=sc.names.lookup x=some .local∨sc.names.lookup x=some .cell
def Look (env:Env) (h:Heap) (m:Str→Option Value) (x:Str) (u:Value):Prop :=
 (env.kindOf x=some .local∧m x=some u)∨((env.kindOf x=some .cell∨env.kindOf x=some .free)∧∃ c,env.cells.lookup x=some c∧h.IsCell c (some u))
structure Cx.Ok (X:Cx):Prop where
 mod:Mod X.K X.mg X.base
 kind:X.env.scope.kind = .function
 glob:X.env.globals=mainGlobals
 blt:X.env.builtins=builtinsNs
 above:X.s₀.heap.objs.size≤X.env.locals
 inj:∀ x y c,X.env.cells.lookup x=some c→X.env.cells.lookup y=some c→x=y
 has:∀ x,(X.env.kindOf x=some .cell∨X.env.kindOf x=some .free)→∃ c,X.env.cells.lookup x=some c
 cab:∀ x c,X.fn x=true→X.env.cells.lookup x=some c→X.s₀.heap.objs.size≤c
 hd:X.calm=true→X.A.handled=none
 frames:X.A.frames=some X.stack
 stk:X.stack=X.outer∨(X.stack=X.env :: X.outer∧X.env.frame=some X.env.locals)
 exf:∀ b∈X.ex,b≠X.env.locals∧∀ x c,X.env.cells.lookup x=some c→c≠b
 bs:∀ b o,X.base.get? b=some o→X.s₀.heap.get? b=some o∧X.H₀ b=none
 bsz:X.base.objs.size≤X.s₀.heap.objs.size
 noex:∀ b o,X.base.get? b=some o→b ∉ X.ex
 exfs:∀ b∈X.ex,b ∉ X.fs
 funs:X.s₀.heap.FunFrames X.base X.outer
 frf:∀ b∈X.fs,X.H₀ b=none
 tb:TbM X.base X.H₀
structure Inv (X:Cx) (pins:List (Addr×Obj)) (σ:List (Option V)) (H:Hp) (s:Shared):Prop where
 ok:X.Ok
 os:s.os=X.s₀.os
 bare:AllBare s.gens
 base:Un X.fs X.ex X.H₀ H X.s₀.heap s.heap
 loc:∃ m,s.heap.Ns X.env.locals m∧∀ (i:Nat) (x:Str) (v:V),X.N[i]? = some x→σ[i]? = some (some v)→Vis X.env.scope x→∃ u,a9 v u∧Look X.env s.heap m x u
 cell:∀ x c,X.env.cells.lookup x=some c→∃ v,s.heap.IsCell c v
 free:H X.env.locals=none
 freeC:∀ x c,X.env.cells.lookup x=some c→H c=none
 pin:∀ p∈X.pn++pins,s.heap.get? p.1=some p.2∧H p.1=none∧p.1≠X.env.locals∧p.1 ∉ X.fs∧∀ v,p.2.data≠.cell v
 hok:HOk X.prog X.w H s.heap
 len : σ.length=X.N.length
section
variable {X:Cx} {pins:List (Addr×Obj)} {σ:List (Option V)} {H H':Hp} {s:Shared} {h':Heap}
theorem Cx.Ok.nofr (ok:X.Ok) {b:Addr} {o:Obj} (e:X.base.get? b=some o):b ∉ X.fs:=fun hb=>by
 have:=(ok.funs.mem hb).1
 rw [e] at this; cases this
theorem Inv.bs (I:Inv X pins σ H s):∀ b o,X.base.get? b=some o→s.heap.get? b=some o∧H b=none:=fun b o e =>
 ⟨I.base.keep b o (I.ok.bs b o e).1 (I.ok.bs b o e).2 (I.ok.nofr e) (I.ok.noex b o e),I.base.free b o (I.ok.bs b o e).1 (I.ok.bs b o e).2 (I.ok.noex b o e)⟩
theorem Inv.bk (I:Inv X pins σ H s):∀ b o,X.base.get? b=some o→s.heap.get? b=some o:=fun b o e=>(I.bs b o e).1
theorem Inv.mod (I:Inv X pins σ H s):Mod X.K X.mg X.base:=I.ok.mod
theorem Inv.kIn (I:Inv X pins σ H s):X.K.In s.heap:=I.ok.mod.kin.keeps I.bk
theorem Inv.fr (I:Inv X pins σ H s):∃ m,Fr X.base X.env.locals s.heap m :=
 let ⟨m,hn,_⟩:=I.loc
 ⟨m,hn,I.bk,Nat.le_trans I.ok.bsz I.ok.above⟩
theorem Inv.lt (I:Inv X pins σ H s):X.env.locals<s.heap.objs.size:=let ⟨_,hn,_⟩:=I.loc; hn.lt
theorem Inv.sz (I:Inv X pins σ H s):X.s₀.heap.objs.size≤s.heap.objs.size:=Nat.le_trans I.ok.above (Nat.le_of_lt I.lt)
theorem Inv.nofs (I:Inv X pins σ H s) {a:Addr} (h:s.heap.objs.size≤a):a ∉ X.fs:=fun hb=>by
 obtain ⟨_,o,ho,_⟩:=I.ok.funs.mem hb
 exact absurd (Nat.lt_of_lt_of_le (Heap.lt_size ho) (Nat.le_trans I.sz h)) (Nat.lt_irrefl _)
theorem Inv.cne (I:Inv X pins σ H s):∀ x c,X.env.cells.lookup x=some c→c≠X.env.locals:=fun x c e z=>by
 obtain ⟨v,o,ho,hd⟩:=I.cell x c e
 obtain ⟨m,⟨o',es,ep,ho',hd',_⟩,_⟩:=I.loc
 rw [z,ho'] at ho; cases ho; rw [hd'] at hd; cases hd
theorem Inv.funs (I:Inv X pins σ H s):s.heap.FunFrames X.base X.outer:=by
 have all:∀ (l:List Env),(∀ b∈frs l,b∈X.fs)→X.s₀.heap.FunFrames X.base l→s.heap.FunFrames X.base l:=by
  intro l
  induction l with
  | nil=>intro _ _; trivial
  | cons env r ih =>
   intro hs hl
   obtain ⟨hk,⟨L,o,hf,hn,ho,hd⟩,hr⟩:=hl
   have hL:L∈X.fs:=hs L (by unfold frs; rw [List.filterMap_cons,hf]; exact List.mem_cons_self)
   obtain ⟨sl,e⟩:=I.base.slot L o ho (I.ok.frf L hL) hL fun z=>I.ok.exfs L z hL
   exact ⟨hk,⟨L,_,hf,hn,e,hd⟩,ih (fun b hb=>hs b (by unfold frs; rw [List.filterMap_cons,hf]; exact List.mem_cons_of_mem _ hb)) hr⟩
 exact all X.outer (fun _ hb=>hb) I.ok.funs
theorem Inv.stack (I:Inv X pins σ H s):s.heap.FunFrames X.base X.stack:=by
 rcases I.ok.stk with e | ⟨e,hf⟩
 ·rw [e]; exact I.funs
 ·rw [e]
  obtain ⟨m,hn,_⟩:=I.loc
  refine .cons (by rw [I.ok.kind]; decide) hf hn ?_ I.funs
  exact Heap.get?_none_of_le (Nat.le_trans I.ok.bsz I.ok.above)
theorem Inv.stkSub (I:Inv X pins σ H s):∀ b∈frs X.stack,b∈X.env.locals :: X.fs:=fun b hb=>by
 rcases I.ok.stk with e | ⟨e,hf⟩
 ·rw [e] at hb; exact List.mem_cons_of_mem _ hb
 ·rw [e] at hb
  unfold frs at hb
  rw [List.filterMap_cons,hf] at hb
  exact hb
theorem Inv.stkFree (I:Inv X pins σ H s):∀ b∈frs X.stack,H b=none:=fun b hb=>by
 rcases List.mem_cons.mp (I.stkSub b hb) with e | hb
 ·rw [e]; exact I.free
 ·obtain ⟨_,o,ho,_⟩:=I.ok.funs.mem hb
  exact I.base.free b o ho (I.ok.frf b hb) fun z=>I.ok.exfs b z hb
theorem Inv.step {g':Array GenState} {t':Nat} {d':Drawn} {ch:List Addr} (I:Inv X pins σ H s)
 (hch:∀ b∈ch,(b∈X.ex∨X.s₀.heap.objs.size≤b)∧b≠X.env.locals∧(∀ x c,X.env.cells.lookup x=some c→c≠b)∧∀ p∈X.pn++pins,p.1≠b)
 (keep:∀ b o,b≠X.env.locals→b ∉ X.fs→b ∉ ch→s.heap.get? b=some o→H b=none→h'.get? b=some o)
 (slot:∀ b o,b≠X.env.locals→b∈X.fs→b ∉ ch→s.heap.get? b=some o→H b=none→∃ sl,h'.get? b=some { o with slots:=sl }) (free:∀ b o,b ∉ ch→s.heap.get? b=some o→H b=none→H' b=none)
 (there:∀ b o,b ∉ ch→s.heap.get? b=some o→∃ o',h'.get? b=some o')
 (tups:∀ b xs,H b=some (.tup xs)→H' b=some (.tup xs)) (frzs:∀ b o u,H b=some (.frz o u)→H' b=some (.frz o u)) (tbls:∀ b ps q,H b=some (.tbl ps q)→∃ more,H' b=some (.tbl (ps++more) q))
 (ns:∀ m,s.heap.Ns X.env.locals m→h'.Ns X.env.locals m) (hok:HOk X.prog X.w H' h') (hg:AllBare g') :
 Inv X pins σ H' { s with heap:=h',gens:=g',drawn:=d',toks:=t' }:=by
 have neL:∀ b o,X.s₀.heap.get? b=some o→b≠X.env.locals:=fun b o e=>Nat.ne_of_lt (Nat.lt_of_lt_of_le (Heap.lt_size e) I.ok.above)
 have neC:∀ b o,X.s₀.heap.get? b=some o→b ∉ X.ex→b ∉ ch:=fun b o e hx hb=>by
  rcases (hch b hb).1 with z | z
  ·exact hx z
  ·exact absurd (Nat.lt_of_lt_of_le (Heap.lt_size e) z) (Nat.lt_irrefl _)
 have cellK:∀ x c,X.env.cells.lookup x=some c→∀ v,s.heap.IsCell c v→h'.IsCell c v:=fun x c e v ⟨o,ho,hd⟩=>by
  have nch:c ∉ ch:=fun z=>(hch c z).2.2.1 x c e rfl
  by_cases hc:c∈X.fs
  ·obtain ⟨sl,q⟩:=slot c o (I.cne x c e) hc nch ho (I.freeC x c e)
   exact ⟨_,q,hd⟩
  ·exact ⟨o,keep c o (I.cne x c e) hc nch ho (I.freeC x c e),hd⟩
 refine ⟨I.ok,I.os,hg,⟨fun b o e n hb hx=>?_,fun b o e n hb hx=>?_,fun b o e n hx=>?_,fun b o e hx=>?_,fun b xs e=>tups b xs (I.base.tups b xs e),fun b o xs e=>frzs b o xs (I.base.frzs b o xs e),fun b ps q e=>?_⟩,?_,fun x c e=>?_,?_,fun x c e=>?_,fun p hp=>?_,hok,I.len⟩
 ·exact keep b o (neL b o e) hb (neC b o e hx) (I.base.keep b o e n hb hx) (I.base.free b o e n hx)
 ·obtain ⟨sl,e1⟩:=I.base.slot b o e n hb hx
  obtain ⟨sl',e2⟩:=slot b _ (neL b o e) hb (neC b o e hx) e1 (I.base.free b o e n hx)
  exact ⟨sl',e2⟩
 ·obtain ⟨o',e1⟩:=I.base.there b o e hx
  exact free b o' (neC b o e hx) e1 (I.base.free b o e n hx)
 ·obtain ⟨o',e1⟩:=I.base.there b o e hx
  exact there b o' (neC b o e hx) e1
 ·obtain ⟨m1,e1⟩:=I.base.tbls b ps q e
  obtain ⟨m2,e2⟩:=tbls b _ q e1
  exact ⟨m1++m2,by rw [e2,Array.append_assoc]⟩
 ·obtain ⟨m,hn,hl⟩:=I.loc
  refine ⟨m,ns m hn,fun i x v e1 e2 e3=>?_⟩
  obtain ⟨u,r,l⟩:=hl i x v e1 e2 e3
  refine ⟨u,r,?_⟩
  rcases l with l | ⟨k,c,e,z⟩
  ·exact .inl l
  ·exact .inr ⟨k,c,e,cellK x c e _ z⟩
 ·obtain ⟨v,z⟩:=I.cell x c e
  exact ⟨v,cellK x c e v z⟩
 ·obtain ⟨m,⟨o,_,_,ho,_⟩,_⟩:=I.loc
  exact free _ o (fun z=>(hch _ z).2.1 rfl) ho I.free
 ·obtain ⟨v,o,ho,hd⟩:=I.cell x c e
  exact free c o (fun z=>(hch c z).2.2.1 x c e rfl) ho (I.freeC x c e)
 ·obtain ⟨e,n,ne,nf,d⟩:=I.pin p hp
  have nch:p.1 ∉ ch:=fun z=>(hch p.1 z).2.2.2 p hp rfl
  exact ⟨keep p.1 p.2 ne nf nch e n,free p.1 p.2 nch e n,ne,nf,d⟩
theorem Inv.un {t':Nat} (I:Inv X pins σ H s) (u:Un X.fs [] H H' s.heap h') (hok:HOk X.prog X.w H' h'):Inv X pins σ H' { s with heap:=h',toks:=t' }:=by
 obtain ⟨m,⟨o,es,ep,ho,r⟩,_⟩:=id I.loc
 obtain ⟨sl,hL⟩:=u.any ho I.free (by simp)
 exact I.step (g':=s.gens) (d':=s.drawn) (ch:=[]) (fun _ z=>nomatch z) (fun b o _ hb _ e n=>u.keep b o e n hb (by simp)) (fun b o _ hb _ e n=>u.slot b o e n hb (by simp)) (fun b o _ e n=>u.free b o e n (by simp)) (fun b o _ e=>u.there b o e (by simp)) u.tups u.frzs u.tbls (fun m' hm=>by
  obtain ⟨o',es',ep',ho',r'⟩:=hm
  rw [ho] at ho'; cases ho'
  exact ⟨_,es',ep',hL,r'⟩) hok I.bare
theorem Inv.call {g':Array GenState} {t':Nat} {d':Drawn} {ch:List Addr} (I:Inv X pins σ H s) (u:Un (frs X.stack) ch H H' s.heap h') (hok:HOk X.prog X.w H' h') (hg:AllBare g')
 (hch:∀ b∈ch,(b∈X.ex∨X.s₀.heap.objs.size≤b)∧b≠X.env.locals∧(∀ x c,X.env.cells.lookup x=some c→c≠b)∧∀ p∈X.pn++pins,p.1≠b) :
 Inv X pins σ H' { s with heap:=h',gens:=g',drawn:=d',toks:=t' }:=by
 obtain ⟨m,⟨o,es,ep,ho,r⟩,_⟩:=id I.loc
 obtain ⟨sl,hL⟩:=u.any ho I.free fun z=>(hch _ z).2.1 rfl
 exact I.step (ch:=ch) hch (fun b o hL hb hc e n=>u.keep b o e n (fun z=>(List.mem_cons.mp (I.stkSub b z)).elim hL hb) hc) (fun b o _ _ hc e n=>u.any e n hc) (fun b o hc e n=>u.free b o e n hc) (fun b o hc e=>u.there b o e hc) u.tups u.frzs u.tbls (fun m' hm=>by
  obtain ⟨o',es',ep',ho',r'⟩:=hm
  rw [ho] at ho'; cases ho'
  exact ⟨_,es',ep',hL,r'⟩) hok hg
theorem Inv.turned {t':Nat} {it:Addr} (I:Inv X pins σ H s) (k:∀ b o,b≠it→s.heap.get? b=some o→h'.get? b=some o) (hn:H it=none) (hL:it≠X.env.locals)
 (h1:it∈X.ex∨X.s₀.heap.objs.size≤it) (h2:∀ x c,X.env.cells.lookup x=some c→c≠it) (h3:∀ p∈X.pn++pins,p.1≠it):Inv X pins σ H { s with heap:=h',toks:=t' }:=by
 have nit:∀ b u,H b=some u→b≠it:=fun b u e z=>by rw [z,hn] at e; cases e
 refine I.step (g':=s.gens) (d':=s.drawn) (ch:=[it]) (fun b hb=>?_) (fun b o _ _ hc e _=>k b o (fun z=>hc (by simp [z])) e) (fun b o _ _ hc e _=>⟨o.slots,k b o (fun z=>hc (by simp [z])) e⟩) (fun _ _ _ _ n=>n)
  (fun b o hc e=>⟨o,k b o (fun z=>hc (by simp [z])) e⟩) (fun _ _ e=>e) (fun _ _ _ e=>e) (fun b ps _ e=>⟨#[],by rw [e]; simp⟩) (fun m hm=>?_) (fun b u e=>?_) I.bare
 ·have e:b=it:=by simpa using hb
  subst e
  exact ⟨h1,hL,h2,h3⟩
 ·obtain ⟨o,es,ep,ho,r⟩:=hm
  exact ⟨o,es,ep,k _ o (Ne.symm hL) ho,r⟩
 ·refine (I.hok b u e).stay (fun c v hc q=>k c v ?_ q) (fun _ q=>q) (fun _ _ q=>q) fun _ _ _ q=>q
  rcases hc with z | z
  ·rw [z]; exact nit b u e
  ·exact nit c _ z
theorem Inv.tok (I:Inv X pins σ H s) (t:Nat):Inv X pins σ H { s with toks:=t }:=I.un (h':=s.heap) (t':=t) Un.refl I.hok
theorem Inv.kept {t':Nat} (I:Inv X pins σ H s) (k:∀ b u,s.heap.get? b=some u→h'.get? b=some u):Inv X pins σ H { s with heap:=h',toks:=t' }:=I.un (Un.kept k) (I.hok.kept k)
theorem Inv.laid {a:Addr} {o:HO} {t':Nat} (I:Inv X pins σ H s) (k:∀ b u,s.heap.get? b=some u→h'.get? b=some u) (hp:s.heap.objs.size≤a) (new:bQ X.prog X.w (upd H a o) h' a o) :
 Inv X pins σ (upd H a o) { s with heap:=h',toks:=t' }:=I.un (Un.laid k hp (I.hok.fresh hp)) (I.hok.laid k hp new)
theorem Inv.write {x e:Addr} {o:HO} {t':Nat} (I:Inv X pins σ H s) (mu:Mut (H x)) (he:e=x∨H e=some (.own x)) (k:∀ b u,b≠e→s.heap.get? b=some u→h'.get? b=some u) (heo:∃ u,h'.get? e=some u)
 (new:bQ X.prog X.w (upd H x o) h' x o):Inv X pins σ (upd H x o) { s with heap:=h',toks:=t' }:=I.un (Un.write mu he k heo) (I.hok.write mu he k heo new)
theorem Inv.weak {σ':List (Option V)} (I:Inv X pins σ H s) (hl : σ'.length=σ.length) (w:∀ (i:Nat) v,σ'[i]? = some (some v)→σ[i]? = some (some v)):Inv X pins σ' H s :=
 ⟨I.ok,I.os,I.bare,I.base,let ⟨m,hn,hl'⟩:=I.loc; ⟨m,hn,fun i x v e1 e2 e3=>hl' i x v e1 (w i v e2) e3⟩,I.cell,I.free,I.freeC,I.pin,I.hok,hl.trans I.len⟩
theorem Inv.pins_of {pins':List (Addr×Obj)} (I:Inv X pins σ H s) (h:∀ p∈pins',s.heap.get? p.1=some p.2∧H p.1=none∧p.1≠X.env.locals∧p.1 ∉ X.fs∧∀ v,p.2.data≠.cell v):Inv X pins' σ H s :=
 ⟨I.ok,I.os,I.bare,I.base,I.loc,I.cell,I.free,I.freeC,fun p hp=>(List.mem_append.mp hp).elim (fun z=>I.pin p (List.mem_append_left _ z)) (h p),I.hok,I.len⟩
theorem jK {N:List Str} (hN:N.Nodup) {i j:Nat} {x:Str} (a:N[i]? = some x) (b:N[j]? = some x):i=j:=by
 obtain ⟨h1,e1⟩:=List.getElem?_eq_some_iff.mp a
 obtain ⟨h2,e2⟩:=List.getElem?_eq_some_iff.mp b
 exact (List.getElem_inj hN).mp (e1.trans e2.symm)
theorem ii {M:Model} {A:Around} {E:Value→Shared→Prop} {i:Nat} {x:Str} {v:V} {u:Value} {Q:Unit→Shared→Prop} (I:Inv X pins σ H s) (hN:X.N.Nodup) (hi:X.N[i]? = some x) (hx:Loc X.env.scope x) (r:a9 v u)
 (h:∀ s',Inv X pins (σ.set i (some v)) H s'→(∃ a,Heap.SameBut a s.heap s'.heap∧(a=X.env.locals∨X.env.cells.lookup x=some a))→Q () s') (hf:X.fn x=true∨X.env.scope.names.lookup x=some .local:=by first | exact .inl rfl | exact .inr rfl | assumption):wpAny M A (storeName X.env x u) Q E s:=by
 obtain ⟨m,hn,hl⟩:=id I.loc
 have hcls:(X.env.scope.kind == .class||(X.env.scope.kind == .module&&X.env.locals != X.env.globals))=false:=by rw [I.ok.kind]; rfl
 have hiσ:i<σ.length:=by rw [I.len]; exact (List.getElem?_eq_some_iff.mp hi).1
 have cne:=I.cne
 have tracked:∀ {a:Addr} {h':Heap},(∃ o,s.heap.get? a=some o∧H a=none)→Heap.SameBut a s.heap h'→HOk X.prog X.w H h':=fun {a h'} ha hs b ob e=>by
  obtain ⟨_,_,hfree⟩:=ha
  refine (I.hok b ob e).stay (fun c w' hc q=>(hs.2 c ?_).trans q) (fun _ q=>q) (fun _ _ q=>q) fun _ _ _ q=>q
  rintro rfl
  rcases hc with rfl | hc
  ·rw [hfree] at e; cases e
  ·rw [hfree] at hc; cases hc
 rcases hx with hk | hk
 ·refine wpAny_storeName_local hk hn (fun h' hn' hs=>?_) hcls
  obtain ⟨oL,_,_,hoL,_⟩:=id hn
  refine h _ ⟨I.ok,I.os,I.bare,⟨fun b o e n hb hx=>?_,fun b o e n hb hx=>?_,I.base.free,fun b o e hx=>?_,I.base.tups,I.base.frzs,I.base.tbls⟩,⟨_,hn',fun j y v' e1 e2 e3=>?_⟩,fun y c e=>?_,I.free,I.freeC,fun p hp=>?_,tracked ⟨oL,hoL,I.free⟩ hs,by simpa using I.len⟩ ⟨_,hs,.inl rfl⟩
  ·exact (hs.2 b (Nat.ne_of_lt (Nat.lt_of_lt_of_le (Heap.lt_size e) I.ok.above))).trans (I.base.keep b o e n hb hx)
  ·obtain ⟨sl,e1⟩:=I.base.slot b o e n hb hx
   exact ⟨sl,(hs.2 b (Nat.ne_of_lt (Nat.lt_of_lt_of_le (Heap.lt_size e) I.ok.above))).trans e1⟩
  ·obtain ⟨o',e1⟩:=I.base.there b o e hx
   exact ⟨o',(hs.2 b (Nat.ne_of_lt (Nat.lt_of_lt_of_le (Heap.lt_size e) I.ok.above))).trans e1⟩
  ·by_cases hj:j=i
   ·subst hj
    rw [hi] at e1; cases e1
    rw [List.getElem?_set_self hiσ] at e2
    cases e2
    exact ⟨u,r,.inl ⟨hk,by simp⟩⟩
   ·rw [List.getElem?_set_ne (Ne.symm hj)] at e2
    obtain ⟨u',r',q⟩:=hl j y v' e1 e2 e3
    refine ⟨u',r',?_⟩
    rcases q with ⟨k,e⟩ | ⟨k,c,e,z⟩
    ·refine .inl ⟨k,?_⟩
     have:y≠x:=fun e=>hj (jK hN e1 (e ▸ hi))
     simp [this,e]
    ·exact .inr ⟨k,c,e,z.sameBut hs (cne y c e)⟩
  ·obtain ⟨w',z⟩:=I.cell y c e
   exact ⟨w',z.sameBut hs (cne y c e)⟩
  ·obtain ⟨e,n,ne,nf,d⟩:=I.pin p hp
   exact ⟨(hs.2 p.1 ne).trans e,n,ne,nf,d⟩
 ·have hfn:X.fn x=true:=by
   rcases hf with z | z
   ·exact z
   ·rw [z] at hk; cases hk
  obtain ⟨c,hc⟩:=I.ok.has x (.inl hk)
  obtain ⟨w',z⟩:=I.cell x c hc
  refine wpAny_storeName_cell I.ok.kind hk hc z (fun h' hc' hs=>?_)
  obtain ⟨oc,hoc,hocd⟩:=id z
  refine h { s with heap:=h' } ⟨I.ok,I.os,I.bare,⟨fun b o e n hb hx=>?_,fun b o e n hb hx=>?_,I.base.free,fun b o e hx=>?_,I.base.tups,I.base.frzs,I.base.tbls⟩,⟨m,hn.sameBut hs (Ne.symm (cne x c hc)),fun j y v' e1 e2 e3=>?_⟩,fun y c' e=>?_,I.free,I.freeC,fun p hp=>?_,tracked ⟨oc,hoc,I.freeC x c hc⟩ hs,by simpa using I.len⟩ ⟨c,hs,.inr hc⟩
  ·exact (hs.2 b (Nat.ne_of_lt (Nat.lt_of_lt_of_le (Heap.lt_size e) (I.ok.cab x c hfn hc)))).trans (I.base.keep b o e n hb hx)
  ·obtain ⟨sl,e1⟩:=I.base.slot b o e n hb hx
   exact ⟨sl,(hs.2 b (Nat.ne_of_lt (Nat.lt_of_lt_of_le (Heap.lt_size e) (I.ok.cab x c hfn hc)))).trans e1⟩
  ·obtain ⟨o',e1⟩:=I.base.there b o e hx
   exact ⟨o',(hs.2 b (Nat.ne_of_lt (Nat.lt_of_lt_of_le (Heap.lt_size e) (I.ok.cab x c hfn hc)))).trans e1⟩
  ·by_cases hj:j=i
   ·subst hj
    rw [hi] at e1; cases e1
    rw [List.getElem?_set_self hiσ] at e2
    cases e2
    exact ⟨u,r,.inr ⟨.inl hk,c,hc,hc'⟩⟩
   ·rw [List.getElem?_set_ne (Ne.symm hj)] at e2
    obtain ⟨u',r',q⟩:=hl j y v' e1 e2 e3
    refine ⟨u',r',?_⟩
    rcases q with q | ⟨k,c',e,z'⟩
    ·exact .inl q
    ·refine .inr ⟨k,c',e,z'.sameBut hs ?_⟩
     rintro rfl
     exact hj (jK hN e1 (I.ok.inj _ _ _ e hc ▸ hi))
  ·by_cases hcc:c'=c
   ·subst hcc; exact ⟨_,hc'⟩
   ·obtain ⟨w2,z2⟩:=I.cell y c' e
    exact ⟨w2,z2.sameBut hs hcc⟩
  ·obtain ⟨e,n,ne,nf,d⟩:=I.pin p hp
   refine ⟨(hs.2 p.1 ?_).trans e,n,ne,nf,d⟩
   intro q
   rw [q,hoc] at e
   have q':oc=p.2:=Option.some.inj e
   exact d w' (by rw [← q']; exact hocd)
theorem cM {M:Model} {A:Around} {E:Value→Shared→Prop} {i:Nat} {x:Str} {v:V} {u:Value} {Q:Unit→Shared→Prop} (I:Inv X pins σ H s) (hN:X.N.Nodup) (hi:X.N[i]? = some x) (hx:Loc X.env.scope x) (r:a9 v u)
 (h:∀ s',Inv X pins (σ.set i (some v)) H s'→Q () s') (hf:X.fn x=true∨X.env.scope.names.lookup x=some .local:=by first | exact .inl rfl | exact .inr rfl | assumption):wpAny M A (storeName X.env x u) Q E s :=
 ii I hN hi hx r (fun s' I' _=>h s' I') hf
theorem Inv.call' {s':Shared} {ch:List Addr} (I:Inv X pins σ H s) (ho:s'.os=s.os) (u:Un (frs X.stack) ch H H' s.heap s'.heap) (hok:HOk X.prog X.w H' s'.heap) (hg:AllBare s'.gens)
 (hch:∀ b∈ch,(b∈X.ex∨X.s₀.heap.objs.size≤b)∧b≠X.env.locals∧(∀ x c,X.env.cells.lookup x=some c→c≠b)∧∀ p∈X.pn++pins,p.1≠b):Inv X pins σ H' s':=by
 obtain ⟨h',g',d',t',o'⟩:=s'
 have e:o'=s.os:=ho
 subst e
 exact I.call (g':=g') (t':=t') (d':=d') u hok hg hch
end
abbrev XK:=Value→Option Addr→Hp→Prop
abbrev St:=List (Option V)
abbrev VK:=V→Hp→Prop
abbrev TE:=St→Hp→VK→Prop
abbrev TT:=St→Hp→(Bool→Hp→Prop)→Prop
abbrev TA:=St→Hp→(List V→Hp→Prop)→Prop
structure Ends where
 nx:St→Hp→Prop
 rt:VK
 bk:St→Hp→Prop:=fun _ _=>False
 ct:St→Hp→Prop:=fun _ _=>False
abbrev TS:=Ends→St→Hp→Prop
def EP (X:Cx) (pins:List (Addr×Obj)) (σ:St) (Q:VK) (u:Value) (s':Shared):Prop:=∃ v H',Inv X pins σ H' s'∧a9 v u∧Q v H'
def TP (X:Cx) (pins:List (Addr×Obj)) (σ:St) (Q:Bool→Hp→Prop) (b:Bool) (s':Shared):Prop:=∃ H',Inv X pins σ H' s'∧Q b H'
def AP (X:Cx) (pins:List (Addr×Obj)) (σ:St) (Q:List V→Hp→Prop) (us:List Value) (s':Shared):Prop:=∃ vs H',Inv X pins σ H' s'∧aS vs us∧Q vs H'
def SP (X:Cx) (pins:List (Addr×Obj)) (D:Ends) (f:Flow) (s':Shared):Prop :=
 match f with
 | .next=>∃ σ' H',Inv X pins σ' H' s'∧D.nx σ' H'
 | .brk=>∃ σ' H',Inv X pins σ' H' s'∧D.bk σ' H'
 | .cont=>∃ σ' H',Inv X pins σ' H' s'∧D.ct σ' H'
 | .ret u=>∃ v σ' H',Inv X pins σ' H' s'∧a9 v u∧D.rt v H'
structure PE (X:Cx) (e:Expr) (t:TE):Prop where
 go:∀ (pins:List (Addr×Obj)) (s:Shared) (σ:St) (H:Hp) (Q:VK),Inv X pins σ H s→t σ H Q→wpAny (model X.prog X.w) X.A (eval e X.env) (EP X pins σ Q) X.xe s
instance {X:Cx} {e:Expr} {t:TE}:CoeFun (PE X e t) fun _=>∀ (pins:List (Addr×Obj)) (s:Shared) (σ:St) (H:Hp) (Q:VK),Inv X pins σ H s→t σ H Q→wpAny (model X.prog X.w) X.A (eval e X.env) (EP X pins σ Q) X.xe s:=⟨fun h=>h.go⟩
structure PT (X:Cx) (e:Expr) (t:TT):Prop where
 go:∀ (pins:List (Addr×Obj)) (s:Shared) (σ:St) (H:Hp) (Q:Bool→Hp→Prop),Inv X pins σ H s→t σ H Q→wpAny (model X.prog X.w) X.A (isTrue e X.env (eval e X.env)) (TP X pins σ Q) X.xe s
instance {X:Cx} {e:Expr} {t:TT}:CoeFun (PT X e t) fun _=>∀ (pins:List (Addr×Obj)) (s:Shared) (σ:St) (H:Hp) (Q:Bool→Hp→Prop),Inv X pins σ H s→t σ H Q→wpAny (model X.prog X.w) X.A (isTrue e X.env (eval e X.env)) (TP X pins σ Q) X.xe s:=⟨fun h=>h.go⟩
structure PW (X:Cx) (e:Expr) (t:TT):Prop where
 go:∀ (whole:Sem Value) (pins:List (Addr×Obj)) (s:Shared) (σ:St) (H:Hp) (Q:Bool→Hp→Prop),Inv X pins σ H s→t σ H Q→wpAny (model X.prog X.w) X.A (isTrue e X.env whole) (TP X pins σ Q) X.xe s
instance {X:Cx} {e:Expr} {t:TT}:CoeFun (PW X e t) fun _=>∀ (whole:Sem Value) (pins:List (Addr×Obj)) (s:Shared) (σ:St) (H:Hp) (Q:Bool→Hp→Prop),Inv X pins σ H s→t σ H Q→wpAny (model X.prog X.w) X.A (isTrue e X.env whole) (TP X pins σ Q) X.xe s:=⟨fun h=>h.go⟩
theorem PW.pt {X:Cx} {e:Expr} {t:TT} (h:PW X e t):PT X e t:=⟨h.go _⟩
structure PA (X:Cx) (es:List Expr) (t:TA):Prop where
 go:∀ (pos:Pos) (pins:List (Addr×Obj)) (s:Shared) (σ:St) (H:Hp) (Q:List V→Hp→Prop),Inv X pins σ H s→t σ H Q→wpAny (model X.prog X.w) X.A (spliced (backTo pos (starEach es X.env))) (AP X pins σ Q) X.xe s
instance {X:Cx} {es:List Expr} {t:TA}:CoeFun (PA X es t) fun _=>∀ (pos:Pos) (pins:List (Addr×Obj)) (s:Shared) (σ:St) (H:Hp) (Q:List V→Hp→Prop),Inv X pins σ H s→t σ H Q→wpAny (model X.prog X.w) X.A (spliced (backTo pos (starEach es X.env))) (AP X pins σ Q) X.xe s:=⟨fun h=>h.go⟩
structure PS (X:Cx) (st:Stmt) (t:TS):Prop where
 go:∀ (pins:List (Addr×Obj)) (s:Shared) (σ:St) (H:Hp) (D:Ends),Inv X pins σ H s→t D σ H→wpAny (model X.prog X.w) X.A (exec st X.env) (SP X pins D) X.xe s
instance {X:Cx} {st:Stmt} {t:TS}:CoeFun (PS X st t) fun _=>∀ (pins:List (Addr×Obj)) (s:Shared) (σ:St) (H:Hp) (D:Ends),Inv X pins σ H s→t D σ H→wpAny (model X.prog X.w) X.A (exec st X.env) (SP X pins D) X.xe s:=⟨fun h=>h.go⟩
structure PSs (X:Cx) (st:List Stmt) (t:TS):Prop where
 go:∀ (pins:List (Addr×Obj)) (s:Shared) (σ:St) (H:Hp) (D:Ends),Inv X pins σ H s→t D σ H→wpAny (model X.prog X.w) X.A (execs st X.env) (SP X pins D) X.xe s
instance {X:Cx} {st:List Stmt} {t:TS}:CoeFun (PSs X st t) fun _=>∀ (pins:List (Addr×Obj)) (s:Shared) (σ:St) (H:Hp) (D:Ends),Inv X pins σ H s→t D σ H→wpAny (model X.prog X.w) X.A (execs st X.env) (SP X pins D) X.xe s:=⟨fun h=>h.go⟩
theorem thn {α:Type} {t:Sem α} {Q Q' : α→Shared→Prop} {M:Model} {A:Around} {E:Value→Shared→Prop} {s:Shared} (h:wpAny M A t Q E s) (hQ:∀ a s,Q a s→Q' a s):wpAny M A t Q' E s:=wpAny_mono h hQ fun _ _ x=>x
section
variable {X:Cx}
theorem bin {a b:Expr} {ta tb:TE} (ha:PE X a ta) (hb:PE X b tb) {pins:List (Addr×Obj)} {s:Shared} {σ:St} {H:Hp} {R:V→V→Hp→Prop} (I:Inv X pins σ H s) (h:ta σ H fun x H1=>tb σ H1 fun y H2=>R x y H2)
 {α:Type} {Q : α→Shared→Prop} {f:Value→Value→Sem α}
 (hf:∀ v u s2 x y H2,Inv X pins σ H2 s2→a9 x v→a9 y u→R x y H2→wpAny (model X.prog X.w) X.A (f v u) Q X.xe s2) :
 wpAny (model X.prog X.w) X.A (eval a X.env) (fun v s₁=>wpAny (model X.prog X.w) X.A (eval b X.env) (fun u s₂=>wpAny (model X.prog X.w) X.A (f v u) Q X.xe s₂) X.xe s₁) X.xe s:=by
 refine thn (ha pins s σ H _ I h) fun v s1 ⟨x,H1,I1,r1,q1⟩=>?_
 refine thn (hb pins s1 σ H1 _ I1 q1) fun u s2 ⟨y,H2,I2,r2,q2⟩=>?_
 exact hf v u s2 x y H2 I2 r1 r2 q2
def tVar (i:Nat):TE:=fun σ H Q=>∃ v,σ[i]? = some (some v)∧Q v H
def tC (v:V):TE:=fun _ H Q=>Q v H
theorem eE {i:Nat} {x:Str} {pos:Pos} (hN:X.N[i]? = some x) (hv:Vis X.env.scope x) (hd:(x == ("__debug__":Str))=false:=by decide) (hcd:(x == ("__classdict__":Str))=false:=by decide):PE X (.Name x pos) (tVar i):=by
 (try refine ⟨?_⟩); intro pins s σ H Q I h
 obtain ⟨v,e,h⟩:=h
 obtain ⟨m,hn,hl⟩:=I.loc
 obtain ⟨u,r,l⟩:=hl i x v hN e hv
 have fin:EP X pins σ Q u s:=⟨v,H,I,r,h⟩
 rcases l with ⟨hk,hm⟩ | ⟨hk,c,hc,hcell⟩
 ·exact wpAny_Name (wpAny_loadName_local I.ok.kind hk hn hm fin) hd
 ·rcases hk with hk | hk
  ·exact wpAny_Name (wpAny_loadName_cell I.ok.kind hk hc hcell fin) hd
  ·exact wpAny_Name (wpAny_loadName_free I.ok.kind hk hc hcell fin hcd) hd
theorem sH {i j pos}:PE X (.Constant (.int i) j pos) (tC (.int i)):=⟨fun _ _ _ H _ I h=>wpAny_Constant_int ⟨.int i,H,I.tok _,⟨_,rfl⟩,h⟩⟩
theorem pe_bl {b j pos}:PE X (.Constant (.bool b) j pos) (tC (.bl b)):=⟨fun _ _ _ H _ I h=>Constant_bool ⟨.bl b,H,I,rfl,h⟩⟩
theorem tP {j pos}:PE X (.Constant .none j pos) (tC .non):=⟨fun _ _ _ H _ I h=>Constant_none ⟨.non,H,I,rfl,h⟩⟩
theorem tE {x j pos}:PE X (.Constant (.str x) j pos) (tC (.str x)):=⟨fun _ _ _ H _ I h=>Calls.Constant_str ⟨.str x,H,I.tok _,⟨_,rfl⟩,h⟩⟩
def Gl (X:Cx) (x:Str):Prop:=X.env.kindOf x=some .globalImplicit
theorem kW {E:Value→Shared→Prop} {pins:List (Addr×Obj)} {s:Shared} {σ:St} {H:Hp} {x:Str} {u:Value} {pos:Pos} {Q:Value→Shared→Prop} (I:Inv X pins σ H s) (hg:Gl X x) (hm:X.mg x=some u) (h:Q u s)
 (hd:(x == ("__debug__":Str))=false:=by decide):wpAny (model X.prog X.w) X.A (eval (.Name x pos) X.env) Q E s :=
 Calls.Name_function_global I.ok.kind hg (Calls.loadGlobal_global (by rw [I.ok.glob]; exact I.mod.glob.keeps I.bk) hm h) hd
theorem eI {E:Value→Shared→Prop} {pins:List (Addr×Obj)} {s:Shared} {σ:St} {H:Hp} {x:Str} {u:Value} {pos:Pos} {Q:Value→Shared→Prop} (I:Inv X pins σ H s) (hg:Gl X x) (hm:X.mg x=none) (hv:bootBuiltins x=some u) (h:Q u s)
 (hn:x ≠ "__name__":=by decide) (hd:(x == ("__debug__":Str))=false:=by decide):wpAny (model X.prog X.w) X.A (eval (.Name x pos) X.env) Q E s:=by
 obtain ⟨mb,h1,h2⟩:=I.mod.blt
 exact Calls.Name_function_global I.ok.kind hg (Calls.loadGlobal_builtin (by rw [I.ok.glob]; exact I.mod.glob.keeps I.bk) hm (by rw [I.ok.blt]; exact h1.keeps I.bk) ((h2 x hn).trans hv) h) hd
theorem lc {x:Str} {v:V} {u:Value} {pos:Pos} (hg:Gl X x) (hm:X.mg x=some u) (r:a9 v u) (hd:(x == ("__debug__":Str))=false:=by decide):PE X (.Name x pos) (tC v):=⟨fun _ _ _ H _ I h=>kW I hg hm ⟨v,H,I,r,h⟩ hd⟩
theorem bE {x:Str} {v:V} {u:Value} {pos:Pos} (hg:Gl X x) (hm:X.mg x=none) (hv:bootBuiltins x=some u) (r:a9 v u) (hn:x ≠ "__name__":=by decide) (hd:(x == ("__debug__":Str))=false:=by decide):PE X (.Name x pos) (tC v):=⟨fun _ _ _ H _ I h=>eI I hg hm hv ⟨v,H,I,r,h⟩ hn hd⟩
variable {a b:Expr} {ta tb:TE} {pos:Pos}
def tB (t:TE):TT:=fun σ H Q=>t σ H fun x H1=>∃ c,x = .bl c∧Q c H1
theorem vo {e:Expr} {t:TE} (h:PE X e t) (he:∀ whole,isTrue e X.env whole=(do let v ← whole; standAt e.pos; holding [v] (truthy v)):=by intro _; rfl):PT X e (tB t):=by
 (try refine ⟨?_⟩); intro pins s σ H Q I hw
 refine isTrue_plain (thn (h pins s σ H _ I hw) fun v s1 ⟨x,H1,I1,r1,q1⟩=>?_) (he _)
 obtain ⟨d,rfl,q⟩:=q1
 cases r1
 exact wpAny_truthy_bool ⟨H1,I1,q⟩
variable {tA tB':TT} {rest:List Expr}
def tAnd (t u:TT):TT:=fun σ H Q=>t σ H fun c H1=>if c=true then u σ H1 Q else Q false H1
def tOr (t u:TT):TT:=fun σ H Q=>t σ H fun c H1=>if c=true then Q true H1 else u σ H1 Q
def tNot (t:TT):TT:=fun σ H Q=>t σ H fun c H1=>Q (!c) H1
theorem qx (ha:PT X a tA):PW X (.BoolOp .And [a] pos) tA:=by
 (try refine ⟨?_⟩); intro wh pins s σ H Q I h
 refine isTrue_and (thn (ha pins s σ H Q I h) fun c s1 e=>?_)
 cases c with
 | true=>exact isTrue_and_nil e
 | false=>exact e
theorem t5 (ha:PT X a tA):PW X (.BoolOp .Or [a] pos) tA:=by
 (try refine ⟨?_⟩); intro wh pins s σ H Q I h
 refine isTrue_or (thn (ha pins s σ H Q I h) fun c s1 e=>?_)
 cases c with
 | false=>exact isTrue_or_nil e
 | true=>exact e
theorem uv (ha:PT X a tA) (hb:PW X (.BoolOp .And (b :: rest) pos) tB'):PW X (.BoolOp .And (a :: b :: rest) pos) (tAnd tA tB'):=by
 (try refine ⟨?_⟩); intro wh pins s σ H Q I h
 refine isTrue_and (thn (ha pins s σ H _ I h) fun c s1 ⟨H1,I1,q1⟩=>?_)
 cases c with
 | true=>exact hb wh pins s1 σ H1 Q I1 q1
 | false=>exact ⟨H1,I1,q1⟩
theorem pw_or (ha:PT X a tA) (hb:PW X (.BoolOp .Or (b :: rest) pos) tB'):PW X (.BoolOp .Or (a :: b :: rest) pos) (tOr tA tB'):=by
 (try refine ⟨?_⟩); intro wh pins s σ H Q I h
 refine isTrue_or (thn (ha pins s σ H _ I h) fun c s1 ⟨H1,I1,q1⟩=>?_)
 cases c with
 | true=>exact ⟨H1,I1,q1⟩
 | false=>exact hb wh pins s1 σ H1 Q I1 q1
theorem sX (ha:PT X a tA):PT X (.UnaryOp .Not a pos) (tNot tA):=by
 (try refine ⟨?_⟩); intro pins s σ H Q I h
 exact isTrue_not (ha pins s σ H (fun c H1=>Q (!c) H1) I h)
def tAndV (ta tb:TE):TE:=fun σ H Q=>ta σ H fun x H1=>∃ c,x = .bl c∧if c=true then tb σ H1 Q else Q (.bl false) H1
def tOrV (ta tb:TE):TE:=fun σ H Q=>ta σ H fun x H1=>∃ c,x = .bl c∧if c=true then Q (.bl true) H1 else tb σ H1 Q
def tNotV (ta:TE):TE:=fun σ H Q=>ta σ H fun x H1=>∃ c,x = .bl c∧Q (.bl (!c)) H1
theorem uP {op} {t:TE} (h:PE X a t):PE X (.BoolOp op [a] pos) t:=⟨fun pins s σ H Q I hw=>BoolOp_one (h pins s σ H Q I hw)⟩
theorem sm (ha:PE X a ta) (hb:PE X (.BoolOp .And (b :: rest) pos) tb):PE X (.BoolOp .And (a :: b :: rest) pos) (tAndV ta tb):=by
 (try refine ⟨?_⟩); intro pins s σ H Q I h
 refine BoolOp_and (thn (ha pins s σ H _ I h) fun v s1 ⟨x,H1,I1,r1,q1⟩=>?_)
 obtain ⟨c,rfl,q1⟩:=q1
 cases r1
 refine wpAny_truthy_bool ?_
 cases c with
 | true=>exact hb pins s1 σ H1 Q I1 q1
 | false=>exact ⟨.bl false,H1,I1,rfl,q1⟩
theorem pe_or (ha:PE X a ta) (hb:PE X (.BoolOp .Or (b :: rest) pos) tb):PE X (.BoolOp .Or (a :: b :: rest) pos) (tOrV ta tb):=by
 (try refine ⟨?_⟩); intro pins s σ H Q I h
 refine BoolOp_or (thn (ha pins s σ H _ I h) fun v s1 ⟨x,H1,I1,r1,q1⟩=>?_)
 obtain ⟨c,rfl,q1⟩:=q1
 cases r1
 refine wpAny_truthy_bool ?_
 cases c with
 | false=>exact hb pins s1 σ H1 Q I1 q1
 | true=>exact ⟨.bl true,H1,I1,rfl,q1⟩
theorem vn (ha:PE X a ta):PE X (.UnaryOp .Not a pos) (tNotV ta):=by
 (try refine ⟨?_⟩); intro pins s σ H Q I h
 refine UnaryOp_ (thn (ha pins s σ H _ I h) fun v s1 ⟨x,H1,I1,r1,q1⟩=>?_)
 obtain ⟨c,rfl,q1⟩:=q1
 cases r1
 exact not_of (wpAny_truthy_bool ⟨.bl (!c),H1,I1,rfl,q1⟩)
def tIf (t:TT) (ta tb:TE):TE:=fun σ H Q=>t σ H fun c H1=>if c=true then ta σ H1 Q else tb σ H1 Q
theorem jx {c:Expr} (hc:PT X c tA) (ha:PE X a ta) (hb:PE X b tb):PE X (.IfExp c a b pos) (tIf tA ta tb):=by
 (try refine ⟨?_⟩); intro pins s σ H Q I h
 refine wpAny_IfExp (thn (hc pins s σ H _ I h) fun d s1 ⟨H1,I1,q1⟩=>?_)
 cases d with
 | true=>exact ha pins s1 σ H1 Q I1 q1
 | false=>exact hb pins s1 σ H1 Q I1 q1
end
def SqL (K:PySem.W.Frag) (H:Hp) (a:Addr) (xs:List V):Prop :=
 Rd H a (.lst xs) ∨
  ∃ (o:Obj) (its:Array Value) (n:Nat),K.lookup a=some o∧o.cls = .type "list" ∧ o.dict=none∧o.data = .seq its n∧its.size≤sizeLine∧aS xs its.toList
def SqT (K:PySem.W.Frag) (H:Hp) (a:Addr) (xs:List V):Prop :=
 Rd H a (.tup xs) ∨
  ∃ (o:Obj) (its:Array Value) (n:Nat),K.lookup a=some o∧o.cls = .type "tuple" ∧ o.data = .seq its n∧its.size≤sizeLine∧aS xs its.toList
def absV:Value→Option V
 | .none=>some .non
 | .bool b=>some (.bl b)
 | .int i _=>some (.int i)
 | .str x _=>some (.str x)
 | .bytes b _=>some (.byt b)
 | .float b _=>some (.flt b)
 | .ref a=>some (.ref a)
 | .type n=>some (.ty n)
 | _=>none
theorem a9.abs {x:V} {u:Value} (r:a9 x u):absV u=some x:=by
 cases x with
 | non=>cases r; rfl
 | bl _=>cases r; rfl
 | int _=>obtain ⟨t,rfl⟩:=r; rfl
 | str _=>obtain ⟨t,rfl⟩:=r; rfl
 | byt _=>obtain ⟨t,rfl⟩:=r; rfl
 | flt _=>obtain ⟨t,rfl⟩:=r; rfl
 | ref _=>cases r; rfl
 | ty _=>cases r; rfl
theorem a9.inj {x y:V} {u:Value} (r:a9 x u) (q:a9 y u):x=y:=Option.some.inj (r.abs.symm.trans q.abs)
theorem aS.inj:∀ {xs ys:List V} {us:List Value},aS xs us→aS ys us→xs=ys
 | _,_,_,.nil,.nil=>rfl
 | _,_,_,.cons r t,.cons r' t'=>by rw [r.inj r',aS.inj t t']
section
variable {X:Cx} {pins:List (Addr×Obj)} {σ:St} {H:Hp} {s:Shared} {a:Addr} {xs ys:List V}
theorem SqL.of {K:PySem.W.Frag} (h:H a=some (.lst xs)):SqL K H a xs:=.inl (.inl h)
theorem SqT.of {K:PySem.W.Frag} (h:H a=some (.tup xs)):SqT K H a xs:=.inl (.inl h)
theorem Inv.list (I:Inv X pins σ H s) (h:SqL X.K H a xs):∃ its:List Value,aS xs its∧PlainL s.heap a its.toArray∧xs.length≤sizeLine:=by
 rcases h with h | ⟨o,its,n,hk,hc,hd,hs,hz,r⟩
 ·obtain ⟨z,its,n,r,e⟩:=h.ok I.hok
  exact ⟨its,r,⟨_,n,e,rfl,rfl,rfl⟩,z⟩
 ·refine ⟨its.toList,r,⟨o,n,I.kIn a o hk,hc,hd,by simpa using hs⟩,?_⟩
  have e:=r.length
  simp only [Array.length_toList] at e
  omega
theorem Inv.tuple (I:Inv X pins σ H s) (h:SqT X.K H a xs):∃ its:List Value,aS xs its∧IsTup s.heap a its.toArray∧xs.length≤sizeLine:=by
 rcases h with h | ⟨o,its,n,hk,hc,hs,hz,r⟩
 ·obtain ⟨z,its,r,p⟩:=h.ok I.hok
  exact ⟨its,r,p,z⟩
 ·refine ⟨its.toList,r,⟨o,I.kIn a o hk,hc,n,by simpa using hs⟩,?_⟩
  have e:=r.length
  simp only [Array.length_toList] at e
  omega
theorem Inv.list_inj (I:Inv X pins σ H s) (h:SqL X.K H a xs) (h':SqL X.K H a ys):xs=ys:=by
 obtain ⟨its,r,⟨o,n,e,_,_,d⟩,_⟩:=I.list h
 obtain ⟨its',r',⟨o',n',e',_,_,d'⟩,_⟩:=I.list h'
 rw [e] at e'; cases e'
 rw [d] at d'
 injection d' with d1 _
 have:its=its':=by simpa using congrArg Array.toList d1
 subst this
 exact r.inj r'
end
abbrev Cx.wish (X:Cx) (E:Value→Shared→Prop):Cx:={ X with xe:=E }
abbrev Cx.nox (X:Cx):Cx:=X.wish fun _ _=>False
theorem Cx.Ok.wish {X:Cx} (ok:X.Ok) (E:Value→Shared→Prop):(X.wish E).Ok :=
 ⟨ok.mod,ok.kind,ok.glob,ok.blt,ok.above,ok.inj,ok.has,ok.cab,ok.hd,ok.frames,ok.stk,ok.exf,ok.bs,ok.bsz,ok.noex,ok.exfs,ok.funs,ok.frf,ok.tb⟩
theorem Cx.Ok.unwish {X:Cx} {E:Value→Shared→Prop} (ok:(X.wish E).Ok):X.Ok :=
 ⟨ok.mod,ok.kind,ok.glob,ok.blt,ok.above,ok.inj,ok.has,ok.cab,ok.hd,ok.frames,ok.stk,ok.exf,ok.bs,ok.bsz,ok.noex,ok.exfs,ok.funs,ok.frf,ok.tb⟩
section
variable {X:Cx} {pins:List (Addr×Obj)} {σ:St} {H:Hp} {s:Shared} {E:Value→Shared→Prop}
theorem Inv.wish (I:Inv X pins σ H s) (E:Value→Shared→Prop):Inv (X.wish E) pins σ H s:=⟨I.ok.wish E,I.os,I.bare,I.base,I.loc,I.cell,I.free,I.freeC,I.pin,I.hok,I.len⟩
theorem Inv.unwish (I:Inv (X.wish E) pins σ H s):Inv X pins σ H s:=⟨I.ok.unwish,I.os,I.bare,I.base,I.loc,I.cell,I.free,I.freeC,I.pin,I.hok,I.len⟩
theorem SP.unwish {D:Ends} {f:Flow} {s':Shared} (h:SP (X.wish E) pins D f s'):SP X pins D f s':=by
 cases f with
 | next=>obtain ⟨σ',H',I,q⟩:=h; exact ⟨σ',H',I.unwish,q⟩
 | brk=>obtain ⟨σ',H',I,q⟩:=h; exact ⟨σ',H',I.unwish,q⟩
 | cont=>obtain ⟨σ',H',I,q⟩:=h; exact ⟨σ',H',I.unwish,q⟩
 | ret u=>obtain ⟨v,σ',H',I,r,q⟩:=h; exact ⟨v,σ',H',I.unwish,r,q⟩
theorem PSs.nox {st:List Stmt} {t:TS} (h:PSs X.nox st t):PSs X st t:=⟨fun pins s σ H D I hw =>
 wpAny_mono (h pins s σ H D (I.wish _) hw) (fun _ _ q=>q.unwish) fun _ _ z=>False.elim z⟩
end
section
variable {X:Cx} {st:Stmt} {rest:List Stmt} {t u:TS} {e:Expr} {te:TE} {pos:Pos}
def tNext:TS:=fun D σ H=>D.nx σ H
def tSeq (t u:TS):TS:=fun D σ H=>t { D with nx:=u D } σ H
theorem p_:PSs X [] tNext:=⟨fun _ _ σ H _ I h=>wpAny_execs_nil ⟨σ,H,I,h⟩⟩
theorem nz (h1:PS X st t) (h2:PSs X rest u):PSs X (st :: rest) (tSeq t u):=by
 (try refine ⟨?_⟩); intro pins s σ H D I h
 refine wpAny_execs_cons (thn (h1 pins s σ H { D with nx:=u D } I h) fun f s1 q=>?_)
 cases f with
 | next =>
  obtain ⟨σ',H',I',q⟩:=q
  exact h2 pins s1 σ' H' D I' q
 | ret v=>exact q
 | brk=>exact q
 | cont=>exact q
theorem qC (h1:PS X st t):PSs X [st] t:=by
 (try refine ⟨?_⟩); intro pins s σ H D I h
 refine wpAny_execs_cons (thn (h1 pins s σ H D I h) fun f s1 q=>?_)
 cases f with
 | next=>exact wpAny_execs_nil q
 | ret v=>exact q
 | brk=>exact q
 | cont=>exact q
theorem Inv.quiet {pins:List (Addr×Obj)} {σ:St} {H:Hp} {s:Shared} (I:Inv X pins σ H s):interactive X.env=false:=by simp [interactive,I.ok.kind]
def tDrop (te:TE):TS:=fun D σ H=>te σ H fun _ H1=>D.nx σ H1
theorem iB (he:PE X e te) (hs:swapsWith e none pos.line X.env=pure false:=by rfl):PS X (.Expr e pos) (tDrop te):=by
 (try refine ⟨?_⟩); intro pins s σ H D I h
 exact wpAny_Expr_any (thn (he pins s σ H _ I h) fun v s1 ⟨x,H1,I1,r1,q1⟩=>⟨σ,H1,I1,q1⟩) I.quiet hs
def tRet (te:TE):TS:=fun D σ H=>te σ H D.rt
theorem kc (he:PE X e te):PS X (.Return (some e) pos) (tRet te):=by
 (try refine ⟨?_⟩); intro pins s σ H D I h
 exact wpAny_Return_some (thn (he pins s σ H _ I h) fun v s1 ⟨x,H1,I1,r1,q1⟩=>⟨x,σ,H1,I1,r1,q1⟩)
def tIfS (c:TT) (t u:TS):TS:=fun D σ H=>c σ H fun b H1=>if b=true then t D σ H1 else u D σ H1
theorem ps_if {c:Expr} {a b:List Stmt} {tc:TT} (hc:PT X c tc) (ha:PSs X a t) (hb:PSs X b u):PS X (.If c a b pos) (tIfS tc t u):=by
 (try refine ⟨?_⟩); intro pins s σ H D I h
 refine wpAny_If (thn (hc pins s σ H _ I h) fun d s1 ⟨H1,I1,q1⟩=>?_)
 cases d with
 | true=>exact ha pins s1 σ H1 D I1 q1
 | false=>exact hb pins s1 σ H1 D I1 q1
def t7:TS:=fun _ _ _=>False
theorem nC:PS X st t7:=⟨fun _ _ _ _ _ _ h=>h.elim⟩
end
abbrev TG:=V→St→Hp→(St→Hp→Prop)→Prop
abbrev TGs:=List V→St→Hp→(St→Hp→Prop)→Prop
structure PG (X:Cx) (target:Expr) (t:TG):Prop where
 go:∀ (pins:List (Addr×Obj)) (s:Shared) (σ:St) (H:Hp) (v:V) (u:Value) (Q:St→Hp→Prop),Inv X pins σ H s→a9 v u→t v σ H Q →
  wpAny (model X.prog X.w) X.A (assign target X.env u) (fun _ s'=>∃ σ' H',Inv X pins σ' H' s'∧Q σ' H') X.xe s
instance {X:Cx} {target:Expr} {t:TG}:CoeFun (PG X target t) fun _=>∀ (pins:List (Addr×Obj)) (s:Shared) (σ:St) (H:Hp) (v:V) (u:Value) (Q:St→Hp→Prop),Inv X pins σ H s→a9 v u→t v σ H Q →
 wpAny (model X.prog X.w) X.A (assign target X.env u) (fun _ s'=>∃ σ' H',Inv X pins σ' H' s'∧Q σ' H') X.xe s:=⟨fun h=>h.go⟩
structure PGs (X:Cx) (ts:List Expr) (t:TGs):Prop where
 go:∀ (pins:List (Addr×Obj)) (s:Shared) (σ:St) (H:Hp) (vs:List V) (us:List Value) (Q:St→Hp→Prop),Inv X pins σ H s→aS vs us→t vs σ H Q →
  wpAny (model X.prog X.w) X.A (assignInOrder ((assignEach ts X.env).map (·.2)) us) (fun _ s'=>∃ σ' H',Inv X pins σ' H' s'∧Q σ' H') X.xe s
instance {X:Cx} {ts:List Expr} {t:TGs}:CoeFun (PGs X ts t) fun _=>∀ (pins:List (Addr×Obj)) (s:Shared) (σ:St) (H:Hp) (vs:List V) (us:List Value) (Q:St→Hp→Prop),Inv X pins σ H s→aS vs us→t vs σ H Q →
 wpAny (model X.prog X.w) X.A (assignInOrder ((assignEach ts X.env).map (·.2)) us) (fun _ s'=>∃ σ' H',Inv X pins σ' H' s'∧Q σ' H') X.xe s:=⟨fun h=>h.go⟩
abbrev TSet:=V→V→V→Hp→(Hp→Prop)→Prop
def PSet (X:Cx) (t:TSet):Prop :=
 ∀ (pins:List (Addr×Obj)) (s:Shared) (σ:St) (H:Hp) (o i v:V) (ov iv u:Value) (Q:Hp→Prop),Inv X pins σ H s→a9 o ov→a9 i iv→a9 v u→t o i v H Q →
  wpAny (model X.prog X.w) X.A (setItem ov iv u) (fun _ s'=>∃ H',Inv X pins σ H' s'∧Q H') X.xe s
section
variable {X:Cx} {pos:Pos}
def gG (i:Nat):TG:=fun v σ H Q=>Q (σ.set i (some v)) H
theorem bH {i:Nat} {x:Str} (hN:X.N.Nodup) (hi:X.N[i]? = some x) (hx:Loc X.env.scope x) (hf:X.fn x=true∨X.env.scope.names.lookup x=some .local:=by first | exact .inl rfl | exact .inr rfl | assumption):PG X (.Name x pos) (gG i):=by
 (try refine ⟨?_⟩); intro pins s σ H v u Q I r h
 exact wpAny_assign_Name (cM I hN hi hx r (fun s' I'=>⟨_,H,I',h⟩) hf)
def gNil:TGs:=fun vs σ H Q=>vs=[]∧Q σ H
def rR (t:TG) (u:TGs):TGs:=fun vs σ H Q=>∃ v r,vs=v :: r∧t v σ H fun σ' H'=>u r σ' H' Q
theorem iD:PGs X [] gNil:=by
 (try refine ⟨?_⟩); intro pins s σ H vs us Q I r h
 obtain ⟨e,h⟩:=h
 subst e
 cases r
 exact assignInOrder_nil ⟨σ,H,I,h⟩
theorem dG {e:Expr} {es:List Expr} {t:TG} {u:TGs} (h1:PG X e t) (h2:PGs X es u)
 (hs:(assignEach (e :: es) X.env).map (·.2)=assign e X.env :: (assignEach es X.env).map (·.2):=by rfl):PGs X (e :: es) (rR t u):=by
 (try refine ⟨?_⟩); intro pins s σ H vs us Q I r h
 obtain ⟨v,vr,e1,h⟩:=h
 subst e1
 cases r with
 | cons r rr =>
  rw [hs]
  refine assignInOrder_cons (thn (h1 pins s σ H _ _ _ I r h) fun _ s1 ⟨σ1,H1,I1,q1⟩=>?_)
  exact h2 pins s1 σ1 H1 _ _ Q I1 rr q1
def gTup (K:PySem.W.Frag) (n:Nat) (t:TGs):TG:=fun v σ H Q=>∃ a xs,v = .ref a∧SqT K H a xs∧xs.length=n∧t xs σ H Q
theorem kw {es:List Expr} {k:Nat} {t:TGs} {n:Nat} (hc:X.calm=true) (h:PGs X es t)
 (hn:(assignEach es X.env).length=n:=by rfl) (hst:(assignEach es X.env).findIdx? (·.1)=none:=by rfl):PG X (.Tuple es k pos) (gTup X.K n t):=by
 (try refine ⟨?_⟩); intro pins s σ H v u Q I r hw
 obtain ⟨a,xs,e1,hq,hl,hw⟩:=hw
 subst e1
 cases r
 obtain ⟨its,rv,ht,hz⟩:=I.tuple hq
 refine assign_Tuple_tuple (I.ok.hd hc) ht (by simp [hn,← hl,rv.length]) hst fun h' hx=>?_
 have I1:Inv X pins σ H { s with heap:=h' }:=I.kept (t':=s.toks) fun b o e=>hx b o (Nat.ne_of_lt (Heap.lt_size e)) e
 exact h pins _ σ H xs _ Q I1 (by simpa using rv) hw
def gSub (to ti:TE) (t:TSet):TG:=fun v σ H Q=>to σ H fun o H1=>ti σ H1 fun i H2=>t o i v H2 fun H3=>Q σ H3
theorem sR {o i:Expr} {to ti:TE} {t:TSet} (ho:PE X o to) (hi:PE X i ti) (hs:PSet X t)
 (ha:∀ v,assign (.Subscript o i pos) X.env v=(do
  let ov ← holding [v] (eval o X.env)
  let iv ← holding [v,ov] (eval i X.env)
  standAt pos
  holding [v,ov,iv] (setItem ov iv v)
  release [v,ov,iv] []):=by intro _; rfl):PG X (.Subscript o i pos) (gSub to ti t):=by
 (try refine ⟨?_⟩); intro pins s σ H v u Q I r h
 rw [ha]
 refine wpAny_bind (wpAny_holding (thn (ho pins s σ H _ I h) fun ov s1 ⟨x,H1,I1,r1,q1⟩=>?_))
 refine wpAny_bind (wpAny_holding (thn (hi pins s1 σ H1 _ I1 q1) fun iv s2 ⟨y,H2,I2,r2,q2⟩=>?_))
 refine wpAny_bind (wpAny_standAt (wpAny_bind (wpAny_holding (thn (hs pins s2 σ H2 x y v ov iv u _ I2 r1 r2 r q2) fun _ s3 ⟨H3,I3,q3⟩=>?_))))
 exact wpAny_release ⟨σ,H3,I3,q3⟩
def pN (te:TE) (g:TG):TS:=fun D σ H=>te σ H fun x H1=>g x σ H1 D.nx
theorem kf {tg e:Expr} {te:TE} {g:TG} (he:PE X e te) (hg:PG X tg g) (hs:swapsWithSole [tg] e pos.line X.env=pure false:=by rfl) (hw:swappedStores [tg] e X.env=pure none:=by rfl)
 (h1:(assignEach [tg] X.env).map (·.2)=[assign tg X.env]:=by rfl):PS X (.Assign [tg] e pos) (pN te g):=by
 (try refine ⟨?_⟩); intro pins s σ H D I h
 refine wpAny_Assign_stores (thn (he pins s σ H _ I h) fun v s1 ⟨x,H1,I1,r1,q1⟩=>?_) hs hw
 rw [h1]
 exact thn (hg pins s1 σ H1 x v _ I1 r1 q1) fun _ s2 q=>q
theorem nA {i:Nat} {x:Str} {e:Expr} {te:TE} {pos':Pos} (hN:X.N.Nodup) (hi:X.N[i]? = some x) (hx:Loc X.env.scope x) (he:PE X e te) (hs:swapsWith e (some (.Name x pos')) pos.line X.env=pure false:=by rfl) (hf:X.fn x=true∨X.env.scope.names.lookup x=some .local:=by first | exact .inl rfl | exact .inr rfl | assumption) :
 PS X (.Assign [.Name x pos'] e pos) (pN te (gG i)):=by
 (try refine ⟨?_⟩); intro pins s σ H D I h
 refine wpAny_Assign_Name (thn (he pins s σ H _ I h) fun v s1 ⟨y,H1,I1,r1,q1⟩=>?_) hs
 exact cM I1 hN hi hx r1 (fun s2 I2=>⟨_,H1,I2,q1⟩) hf
def tPar (i j:Nat) (ta:TA):TS:=fun D σ H=>ta σ H fun vs H1=>∃ v w,vs=[v,w]∧D.nx ((σ.set i (some v)).set j (some w)) H1
theorem ng {i j:Nat} {x y:Str} {a b:Expr} {ta:TA} {px py pt:Pos} {kt k2 pt2} (hc:X.calm=true) (hN:X.N.Nodup) (hi:X.N[i]? = some x) (hj:X.N[j]? = some y) (hij:i≠j)
 (hx:X.env.scope.names.lookup x=some .local) (hy:X.env.scope.names.lookup y=some .local) (ha:PA X [a,b] ta)
 (hw:swappedStores [.Tuple [.Name x px,.Name y py] kt pt] (.Tuple [a,b] k2 pt2) X.env=pure (some [x,y]))
 (hs:swapsWithSole [.Tuple [.Name x px,.Name y py] kt pt] (.Tuple [a,b] k2 pt2) pos.line X.env=pure false:=by rfl) :
 PS X (.Assign [.Tuple [.Name x px,.Name y py] kt pt] (.Tuple [a,b] k2 pt2) pos) (tPar i j ta):=by
 (try refine ⟨?_⟩); intro pins s σ H D I h
 rw [exec_Assign_arm]
 refine wpAny_bind (wpAny_standAt ?_)
 rw [hs]
 refine wpAny_bind (wpAny_pure ?_)
 rw [if_neg (by decide)]
 refine wpAny_bind (Tuple_ (thn (ha _ pins s σ H _ I h) fun us s1 ⟨vs,H1,I1,r1,q1⟩=>?_))
 obtain ⟨v,w,e1,q1⟩:=q1
 subst e1
 obtain ⟨u1,u2,rfl,rv,rw'⟩:∃ u1 u2,us=[u1,u2]∧a9 v u1∧a9 w u2:=by
  cases r1 with
  | cons p q =>
   cases q with
   | cons p' q' =>
    cases q'
    exact ⟨_,_,rfl,p,p'⟩
 refine wpAny_newObj_type ?_ (by show 2≤sizeLine; decide)
 have I2:Inv X pins σ H1 { s1 with heap:=s1.heap.push { cls:=.type "tuple",data:=.seq [u1,u2].toArray } }:=I1.kept (t':=s1.toks) fun b o e=>Heap.get?_push_of_some _ e
 rw [hw]
 refine wpAny_bind (wpAny_pure ?_)
 show wpAny (model X.prog X.w) X.A (do rule "assign.swapped-stores"; let items ← unpackItems (.ref s1.heap.objs.size) 2 none; assignInOrder [fun v=>bindName X.env y v,fun v=>bindName X.env x v] items.reverse; pure Flow.next) _ _ _
 refine wpAny_bind (wpAny_rule (wpAny_bind (unpackItems_tuple (items:=#[u1,u2]) (I.ok.hd hc) (IsTup.new s1.heap _) fun h' hx'=>?_)))
 have I3:=I2.kept (h':=h') (t':=s1.toks) fun b o e=>hx' b o (Nat.ne_of_lt (Heap.lt_size e)) e
 show wpAny _ _ (assignInOrder [fun v=>bindName X.env y v,fun v=>bindName X.env x v] [u2,u1] >>= fun _=>pure Flow.next) _ _ _
 refine wpAny_bind (assignInOrder_cons (wpAny_bindName (cM I3 hN hj (.inl hy) rw' (fun s2 I4=>?_) (.inr hy))))
 refine assignInOrder_cons (wpAny_bindName (cM I4 hN hi (.inl hx) rv (fun s3 I5=>assignInOrder_nil (wpAny_pure ?_)) (.inr hx)))
 rw [List.set_comm _ _ (Ne.symm hij)] at I5
 exact ⟨_,H1,I5,q1⟩
end
section
variable {X:Cx} {pos:Pos}
def uh (c:TT) (tb:TS):TS:=fun D σ H=>∃ W:Nat→St→Hp→Prop,(∃ m,W m σ H)∧∀ m σ H,W m σ H →
 c σ H fun b H1=>if b=true then ∃ N:St→Hp→Prop,(∀ σ' H',N σ' H'→∃ m',m'<m∧W m' σ' H')∧tb { D with nx:=N,ct:=N,bk:=D.nx } σ H1 else D.nx σ H1
theorem nu {c:Expr} {body:List Stmt} {tc:TT} {tb:TS} (hp:PassesOwn (model X.prog X.w) X.A X.env X.xe) (hc:PT X c tc) (hb:PSs X body tb):PS X (.While c body [] pos) (uh tc tb):=by
 (try refine ⟨?_⟩); intro pins s σ H D I h
 obtain ⟨W,⟨m0,w0⟩,turn⟩:=h
 refine wpAny_While (codeAny_whileLoop (fun n s'=>∃ σ' H',Inv X pins σ' H' s'∧W n σ' H') ?_ m0 ⟨σ,H,I,w0⟩)
 rintro n s1 ⟨σ1,H1,I1,w1⟩
 refine wpAny_passesOwn hp (thn (hc pins s1 σ1 H1 _ I1 (turn n σ1 H1 w1)) fun b s2 ⟨H2,I2,q2⟩=>?_)
 cases b with
 | true =>
  obtain ⟨N,hN,q2⟩:=q2
  rw [if_pos rfl]
  refine wpAny_passesOwn hp (thn (hb pins s2 σ1 H2 _ I2 q2) fun f s3 q3=>?_)
  cases f with
  | next =>
   obtain ⟨σ3,H3,I3,n3⟩:=q3
   obtain ⟨m',hm,w3⟩:=hN σ3 H3 n3
   exact ⟨m',hm,σ3,H3,I3,w3⟩
  | cont =>
   obtain ⟨σ3,H3,I3,n3⟩:=q3
   obtain ⟨m',hm,w3⟩:=hN σ3 H3 n3
   exact ⟨m',hm,σ3,H3,I3,w3⟩
  | brk=>exact q3
  | ret v=>exact q3
 | false =>
  rw [if_neg Bool.false_ne_true]
  exact wpAny_execs_nil ⟨σ1,H2,I2,q2⟩
end
structure It where
 go:Nat→Hp→Prop
 yld:Nat→Hp→V→Hp→Prop
 stop:Nat→Hp→Prop
def iZ (X:Cx) (pins:List (Addr×Obj)) (H:Hp) (b:Addr):Prop :=
 H b=none∧b≠X.env.locals∧b ∉ X.fs∧(b∈X.ex∨X.s₀.heap.objs.size≤b)∧(∀ x c,X.env.cells.lookup x=some c→c≠b)∧∀ p∈X.pn++pins,p.1≠b
theorem Inv.fpOk {X:Cx} {pins:List (Addr×Obj)} {σ:St} {H H':Hp} {s:Shared} {b:Addr} (I:Inv X pins σ H s) (hb:s.heap.objs.size≤b) (hn:H' b=none):iZ X pins H' b:=by
 refine ⟨hn,Nat.ne_of_gt (Nat.lt_of_lt_of_le I.lt hb),I.nofs hb,.inr (Nat.le_trans I.sz hb),fun x c e z=>?_,fun p hp z=>?_⟩
 ·obtain ⟨v,q⟩:=I.cell x c e
  exact absurd (Nat.lt_of_lt_of_le q.lt (by rw [z]; exact hb)) (Nat.lt_irrefl _)
 ·exact absurd (Nat.lt_of_lt_of_le (Heap.lt_size (I.pin p hp).1) (by rw [z]; exact hb)) (Nat.lt_irrefl _)
structure Turn (P:Program) (w:World) (K:PySem.W.Frag) (tg:Expr) (J:It) (fp:List Addr) (it:Addr) (tn:Nat→Heap→Prop):Prop where
 mem:it∈fp
 obj:∀ i h,tn i h→∀ b∈fp,∃ o,h.get? b=some o∧∀ v,o.data≠.cell v
 keep:∀ i h h',tn i h→(∀ b∈fp,∀ o,h.get? b=some o→h'.get? b=some o)→tn i h'
 item:∀ (X:Cx),X.prog=P→X.w=w→X.K=K→X.calm=true→∀ (i:Nat) (pins:List (Addr×Obj)) (s:Shared) (σ:St) (H:Hp) (E:Value→Shared→Prop),Inv X pins σ H s→(∀ b∈fp,iZ X pins H b)→tn i s.heap→J.go i H →
  wpAny (model P w) X.A (pyNext (.ref it)) (fun r s1=>∃ u,r=some u ∧
   wpAny (model P w) X.A (letOwnedTupleGo tg (.ref it) u) (fun _ s2=>∃ x H',Inv X pins σ H' s2∧a9 x u∧J.yld i H x H'∧tn (i + 1) s2.heap∧∀ b∈fp,H' b=none) E s1) E s
 done:∀ (X:Cx),X.prog=P→X.w=w→X.K=K→X.calm=true→∀ (i:Nat) (pins:List (Addr×Obj)) (s:Shared) (σ:St) (H:Hp) (E:Value→Shared→Prop),Inv X pins σ H s→(∀ b∈fp,iZ X pins H b)→tn i s.heap→J.stop i H →
  wpAny (model P w) X.A (pyNext (.ref it)) (fun r s1=>r=none∧Inv X pins σ H s1) E s
 self:∀ (A:Around) (i:Nat) (s:Shared) (Q:Value→Shared→Prop) (E:Value→Shared→Prop),tn i s.heap→Q (.ref it) s→wpAny (model P w) A (pyIter (.ref it)) Q E s
abbrev TI:=St→Hp→(It→Hp→Prop)→Prop
def PIE (X:Cx) (pins:List (Addr×Obj)) (σ:St) (tg:Expr) (R:It→Hp→Prop) (itv:Value) (s2:Shared):Prop :=
 ∃ (it:Addr) (fp:List Addr) (tn:Nat→Heap→Prop) (J:It) (H':Hp),itv = .ref it∧Inv X pins σ H' s2∧Turn X.prog X.w X.K tg J fp it tn∧tn 0 s2.heap∧(∀ b∈fp,iZ X pins H' b)∧R J H'
structure PI (X:Cx) (tg iter:Expr) (wi:TI):Prop where
 go:∀ (pins:List (Addr×Obj)) (s:Shared) (σ:St) (H:Hp) (R:It→Hp→Prop),Inv X pins σ H s→wi σ H R →
  wpAny (model X.prog X.w) X.A (eval iter X.env) (fun v s1=>wpAny (model X.prog X.w) X.A (pyIter v) (PIE X pins σ tg R) X.xe s1) X.xe s
instance {X:Cx} {tg iter:Expr} {wi:TI}:CoeFun (PI X tg iter wi) fun _=>∀ (pins:List (Addr×Obj)) (s:Shared) (σ:St) (H:Hp) (R:It→Hp→Prop),Inv X pins σ H s→wi σ H R →
 wpAny (model X.prog X.w) X.A (eval iter X.env) (fun v s1=>wpAny (model X.prog X.w) X.A (pyIter v) (PIE X pins σ tg R) X.xe s1) X.xe s:=⟨fun h=>h.go⟩
theorem rP {M:Model} {A:Around} {E:Value→Shared→Prop} {s:Shared} {tg:Expr} {it:Addr} {u:Value} {o:Obj} {n:String} {vs:Array Value} {Q:Unit→Shared→Prop} (ho:s.heap.get? it=some o) (hc:o.cls = .type n) (hd:o.data = .fields vs)
 (hn : ["enumerate","zip","dict_itemiterator","dict_reverseitemiterator","odict_iterator","itertools.zip_longest","itertools.pairwise"].contains n=false) (hQ:Q () s):wpAny M A (letOwnedTupleGo tg (.ref it) u) Q E s:=by
 unfold letOwnedTupleGo
 cases tg <;> first
  | exact wpAny_pure hQ
  | (cases u <;> first
   | exact wpAny_pure hQ
   | (refine wpAny_bind (wpAny_load ho ?_)
      rw [hc,hd]
      show wpAny M A (if (["enumerate","zip","dict_itemiterator","dict_reverseitemiterator","odict_iterator","itertools.zip_longest","itertools.pairwise"].contains n&&vs[0]? == some (rawInt _))=true then _ else _) Q E s
      rw [if_neg (by intro h; rw [hn,Bool.false_and] at h; cases h)]
      exact wpAny_pure hQ))
def Itl (K:PySem.W.Frag) (a:Addr):It :=
 ⟨fun i H=>∃ xs x,SqL K H a xs∧xs[i]? = some x,fun i H x H'=>H'=H∧∀ xs,SqL K H a xs→xs[i]? = some x,fun i H=>∃ xs,SqL K H a xs∧xs.length≤i⟩
def Itr (lo:Int) (n:Nat):It:=⟨fun i _=>i<n,fun i H x H'=>H'=H∧x = .int (lo + i),fun i _=>n≤i⟩
theorem my {P:Program} {w:World} {K:PySem.W.Frag} {tg:Expr} (a it:Addr):Turn P w K tg (Itl K a) [it] it (fun i h=>h.IsListIter it a i) where
 mem:=by simp
 obj:=fun i h st b hb=>by
  have e:b=it:=by simpa using hb
  subst e
  obtain ⟨o,e,c,d⟩:=st
  exact ⟨o,e,fun v z=>by rw [d] at z; cases z⟩
 keep:=fun i h h' st k=>st.at fun o e=>k it (by simp) o e
 item:=by
  intro X hP hw hK hc i pins s σ H E I hf st hg
  subst hP hw hK
  obtain ⟨xs,x,hq,hx⟩:=hg
  obtain ⟨its,rv,p,hz⟩:=I.list hq
  obtain ⟨u,hu,ru⟩:=rv.get hx
  obtain ⟨f0,f1,f2,f3,f4,f5⟩:=hf it (by simp)
  refine wpAny_pyNext_list_item st p.isList (x:=u) (by simpa using hu) fun h' st' sb=>?_
  have I1:Inv X pins σ H { s with heap:=h' }:=I.turned (t':=s.toks) (fun b o hb e=>(sb.2 b hb).trans e) f0 f1 f3 f4 f5
  obtain ⟨o,e,c,d⟩:=id st'
  exact ⟨u,rfl,rP (s:={ s with heap:=h' }) e c d (by decide) ⟨x,H,I1,ru,⟨rfl,fun ys hy=>by rw [I.list_inj hy hq]; exact hx⟩,st',fun b hb=>(hf b hb).1⟩⟩
 done:=by
  intro X hP hw hK hc i pins s σ H E I hf st hg
  subst hP hw hK
  obtain ⟨xs,hq,hx⟩:=hg
  obtain ⟨its,rv,p,hz⟩:=I.list hq
  obtain ⟨f0,f1,f2,f3,f4,f5⟩:=hf it (by simp)
  have hl:=rv.length
  exact wpAny_pyNext_list_end (I.ok.hd hc) st p.isList (by simp; omega) fun h' eb=>⟨rfl,I.turned (t':=s.toks) (fun b o hb e=>eb b o hb e) f0 f1 f3 f4 f5⟩
 self:=fun _ _ _ _ _ st h=>wpAny_pyIter_listiter st h
theorem kh {P:Program} {w:World} {K:PySem.W.Frag} {tg:Expr} (it:Addr) (lo:Int) (n:Nat):Turn P w K tg (Itr lo n) [it] it (fun i h=>IsRangeIter h it (lo + (i:Nat) * 1) ((n:Int) - (i:Nat)) 1) where
 mem:=by simp
 obj:=fun i h st b hb=>by
  have e:b=it:=by simpa using hb
  subst e
  exact ⟨_,st,fun v z=>by
   have z':Data.fields _=Data.cell v:=z
   cases z'⟩
 keep:=fun i h h' st k=>k it (by simp) _ st
 item:=by
  intro X hP hw hK hc i pins s σ H E I hf st hg
  subst hP hw hK
  obtain ⟨f0,f1,f2,f3,f4,f5⟩:=hf it (by simp)
  have W:=Walks.range (prog:=X.prog) (w:=X.w) (I.ok.hd hc) it lo 1 n
  refine W.item i s _ _ hg st fun v h' tk hv st' kk=>?_
  obtain ⟨t,rfl⟩:=hv
  have I1:Inv X pins σ H { s with heap:=h',toks:=tk }:=I.turned (fun b o hb e=>kk b o (by simpa using hb) e) f0 f1 f3 f4 f5
  refine ⟨_,rfl,rP (s:={ s with heap:=h',toks:=tk }) (n:="range_iterator") st' rfl rfl (by decide) ⟨.int (lo + i),H,I1,⟨t,?_⟩,⟨rfl,rfl⟩,st',fun b hb=>(hf b hb).1⟩⟩
  rw [Int.mul_one]
 done:=by
  intro X hP hw hK hc i pins s σ H E I hf st hg
  subst hP hw hK
  obtain ⟨f0,f1,f2,f3,f4,f5⟩:=hf it (by simp)
  exact wpAny_pyNext_range_end (I.ok.hd hc) st (by have:n≤i:=hg; omega) fun h' eb=>⟨rfl,I.turned (t':=s.toks) (fun b o hb e=>eb b o hb e) f0 f1 f3 f4 f5⟩
 self:=fun _ _ _ _ _ st h=>wpAny_pyIter_rangeiter st h
section
variable {X:Cx} {tg:Expr}
def iList (K:PySem.W.Frag) (tl:TE):TI:=fun σ H R=>tl σ H fun x H1=>∃ a,x = .ref a∧(∃ xs,SqL K H1 a xs)∧R (Itl K a) H1
theorem qu {l:Expr} {tl:TE} (hl:PE X l tl):PI X tg l (iList X.K tl):=by
 (try refine ⟨?_⟩); intro pins s σ H R I h
 refine thn (hl pins s σ H _ I h) fun v s1 ⟨x,H1,I1,r1,q1⟩=>?_
 obtain ⟨a,e,⟨xs,hq⟩,q⟩:=q1
 subst e
 cases r1
 obtain ⟨its,rv,p,hz⟩:=I1.list hq
 refine wpAny_pyIter_list p.isList ?_
 refine ⟨s1.heap.objs.size,[s1.heap.objs.size],_,_,H1,rfl,I1.kept (t':=s1.toks) fun b o e=>Heap.get?_push_of_some _ e,my a _,⟨_,Heap.get?_push_size _ rfl,rfl,rfl⟩,fun b hb=>?_,q⟩
 have e:b=s1.heap.objs.size:=by simpa using hb
 subst e
 exact I1.fpOk (Nat.le_refl _) (I1.hok.fresh (Nat.le_refl _))
theorem jL {pins:List (Addr×Obj)} {σ:St} {H:Hp} {s:Shared} {R:It→Hp→Prop} {E:Value→Shared→Prop} {lo hi:Int} {t u v:Tok} {tk:Nat} (I:Inv X pins σ H s) (h1 : -(2 ^ 62)≤lo) (h2:lo<2 ^ 62) (h3 : -(2 ^ 62)≤hi) (h4:hi<2 ^ 62)
 (q:R (Itr lo (hi - lo).toNat) H):wpAny (model X.prog X.w) X.A (pyIter (.ref s.heap.objs.size)) (PIE X pins σ tg R) E { s with heap:=s.heap.push { cls:=.type "range",data:=.fields #[.int lo t,.int hi u,.int 1 v] },toks:=tk }:=by
 refine wpAny_pyIter_range (IsRange.new ..) (small_one h1 h2 h3 h4) ?_
 have I1:Inv X pins σ H { s with heap:=s.heap.push { cls:=.type "range",data:=.fields #[.int lo t,.int hi u,.int 1 v] },toks:=tk }:=I.kept fun b o e=>Heap.get?_push_of_some _ e
 refine ⟨(s.heap.push { cls:=.type "range",data:=.fields #[.int lo t,.int hi u,.int 1 v] }).objs.size,[(s.heap.push { cls:=.type "range",data:=.fields #[.int lo t,.int hi u,.int 1 v] }).objs.size],_,_,H,rfl,
  I1.kept (t':=tk) fun b o e=>Heap.get?_push_of_some _ e,kh _ lo (hi - lo).toNat,?_,fun b hb=>?_,q⟩
 ·have e1:lo + ((0:Nat):Int) * 1=lo:=by simp
  have e2:(((hi - lo).toNat:Nat):Int) - ((0:Nat):Int)=Builtin.Range.rangeSize lo hi 1:=by rw [rangeSize_one]; split <;> omega
  show IsRangeIter _ _ (lo + ((0:Nat):Int) * 1) ((((hi - lo).toNat:Nat):Int) - ((0:Nat):Int)) 1
  rw [e1,e2]
  exact Heap.get?_push_size _ rfl
 ·have e:b=(s.heap.push { cls:=.type "range",data:=.fields #[.int lo t,.int hi u,.int 1 v] }).objs.size:=by simpa using hb
  subst e
  exact I1.fpOk (Nat.le_refl _) (I1.hok.fresh (Nat.le_refl _))
def iRng1 (ta:TA):TI:=fun σ H R=>ta σ H fun vs H1=>∃ j:Int,vs=[.int j]∧-(2 ^ 62)≤j∧j<2 ^ 62∧R (Itr 0 j.toNat) H1
def iRng2 (ta:TA):TI:=fun σ H R=>ta σ H fun vs H1=>∃ i j:Int,vs=[.int i,.int j]∧(-(2 ^ 62)≤i∧i<2 ^ 62∧-(2 ^ 62)≤j∧j<2 ^ 62)∧R (Itr i (j - i).toNat) H1
theorem l6 {a:Expr} {ta:TA} {p pos:Pos} (hg:Gl X "range") (hm:X.mg "range" = none) (ha:PA X [a] ta) (hs:starEach [a] X.env=[(false,eval a X.env)]:=by rfl):PI X tg (.Call (.Name "range" p) [a] [] pos) (iRng1 ta):=by
 (try refine ⟨?_⟩); intro pins s σ H R I h
 refine Call_ (eI I hg hm boot_range (PyProof.Rows.callWith_type1 (thn (ha pos pins s σ H _ I h) fun us s1 ⟨vs,H1,I1,r1,q1⟩=>?_) hs rfl))
 obtain ⟨j,e,q1,q2,q⟩:=q1
 subst e
 cases r1 with
 | cons r rr =>
  cases rr
  obtain ⟨t,rfl⟩:=r
  exact call_range_1 (jL I1 (by omega) (by omega) q1 q2 (by simpa using q))
theorem lP {a b:Expr} {ta:TA} {p pos:Pos} (hg:Gl X "range") (hm:X.mg "range" = none) (ha:PA X [a,b] ta) (hs:starEach [a,b] X.env=[(false,eval a X.env),(false,eval b X.env)]:=by rfl) (hs2:starEach [b] X.env=[(false,eval b X.env)]:=by rfl) :
 PI X tg (.Call (.Name "range" p) [a,b] [] pos) (iRng2 ta):=by
 (try refine ⟨?_⟩); intro pins s σ H R I h
 refine Call_ (eI I hg hm boot_range (PyProof.Rows.callWith_type1 (thn (ha pos pins s σ H _ I h) fun us s1 ⟨vs,H1,I1,r1,q1⟩=>?_) (by rw [hs,hs2]) (by rw [hs2]; rfl)))
 obtain ⟨i,j,e,⟨q1,q2,q3,q4⟩,q⟩:=q1
 subst e
 cases r1 with
 | cons r rr =>
  cases rr with
  | cons r' rr =>
   cases rr
   obtain ⟨t,rfl⟩:=r
   obtain ⟨t',rfl⟩:=r'
   exact call_range_2 (jL I1 q1 q2 q3 q4 q)
def tFor (wi:TI) (g:TG) (tb:TS):TS:=fun D σ H=>wi σ H fun J H1=>∃ W:Nat→Nat→St→Hp→Prop,(∃ m,W 0 m σ H1)∧∀ i m σ H,W i m σ H →
 (J.stop i H∧D.nx σ H)∨(J.go i H∧∃ N:St→Hp→Prop,(∀ σ' H',N σ' H'→∃ m',m'<m∧W (i + 1) m' σ' H')∧∀ x H',J.yld i H x H'→g x σ H' fun σ2 H2=>tb { D with nx:=N,ct:=N,bk:=D.nx } σ2 H2)
def gJ (fp:List Addr) (h:Heap):List (Addr×Obj):=fp.filterMap fun b=>(h.get? b).map fun o=>(b,o)
theorem cj {fp:List Addr} {h:Heap} {b:Addr} {o:Obj} (hb:b∈fp) (e:h.get? b=some o):(b,o)∈gJ fp h:=List.mem_filterMap.mpr ⟨b,hb,by rw [e]; rfl⟩
theorem ij {fp:List Addr} {h:Heap} {p:Addr×Obj} (hp:p∈gJ fp h):p.1∈fp∧h.get? p.1=some p.2:=by
 obtain ⟨b,hb,e⟩:=List.mem_filterMap.mp hp
 cases q:h.get? b with
 | none=>rw [q] at e; cases e
 | some o =>
  rw [q] at e
  have e':(b,o)=p:=Option.some.inj e
  subst e'
  exact ⟨hb,q⟩
theorem Inv.pinned {pins:List (Addr×Obj)} {σ:St} {H:Hp} {s:Shared} {fp:List Addr} (I:Inv X pins σ H s) (hf:∀ b∈fp,iZ X pins H b) (ho:∀ b∈fp,∃ o,s.heap.get? b=some o∧∀ v,o.data≠.cell v):Inv X (pins++gJ fp s.heap) σ H s :=
 I.pins_of fun p hp=>(List.mem_append.mp hp).elim (fun z=>I.pin p (List.mem_append_right _ z)) fun z=>by
  obtain ⟨hb,e⟩:=ij z
  obtain ⟨f0,f1,f2,_⟩:=hf p.1 hb
  obtain ⟨o,e',d⟩:=ho p.1 hb
  rw [e] at e'; cases e'
  exact ⟨e,f0,f1,f2,d⟩
theorem Inv.unpinned {pins pl:List (Addr×Obj)} {σ:St} {H:Hp} {s:Shared} (I:Inv X (pins++pl) σ H s):Inv X pins σ H s:=I.pins_of fun p hp=>I.pin p (List.mem_append_right _ (List.mem_append_left _ hp))
theorem t9 {iter:Expr} {body:List Stmt} {wi:TI} {g:TG} {tb:TS} {pos:Pos} (hp:PassesOwn (model X.prog X.w) X.A X.env X.xe) (hc:X.calm=true) (hi:PI X tg iter wi) (hg:PG X tg g) (hb:PSs X body tb)
 (hs:∀ x,foldedSetIterable iter X.env x=pure x:=by intro _; rfl):PS X (.For tg iter body [] pos) (tFor wi g tb):=by
 (try refine ⟨?_⟩); intro pins s σ H D I h
 refine wpAny_For (thn (hi pins s σ H _ I h) fun v s1 h1=>thn h1 fun itv s2 h2=>?_) hs
 obtain ⟨it,fp,tn,J,H2,e,I2,T,st2,f2,W,⟨m0,w0⟩,turn⟩:=h2
 subst e
 -- what stays true of the iterator's objects through the loop
 have stat:∀ {H':Hp},(∀ b∈fp,H' b=none)→∀ b∈fp,iZ X pins H' b:=fun hn b hb=>⟨hn b hb,(f2 b hb).2⟩
 refine codeAny_forLoop_any (fun n s'=>∃ i σ' H',Inv X pins σ' H' s'∧tn i s'.heap∧(∀ b∈fp,H' b=none)∧W i n σ' H') ?_ m0 ⟨0,σ,H2,I2,st2,fun b hb=>(f2 b hb).1,w0⟩
 rintro n s3 ⟨i,σ3,H3,I3,st3,fr3,w3⟩
 rcases turn i n σ3 H3 w3 with ⟨stop,qn⟩ | ⟨go,N,hN,step⟩
 ·refine wpAny_passesOwn hp (thn (T.done X rfl rfl rfl hc i pins s3 σ3 H3 X.xe I3 (stat fr3) st3 stop) fun r s4 ⟨hr,I4⟩=>?_)
  subst hr
  exact wpAny_execs_nil ⟨σ3,H3,I4,qn⟩
 ·refine wpAny_passesOwn hp (thn (T.item X rfl rfl rfl hc i pins s3 σ3 H3 X.xe I3 (stat fr3) st3 go) fun r s4 ⟨u,hr,h4⟩=>?_)
  subst hr
  refine wpAny_passesOwn hp (thn h4 fun _ s5 ⟨x,H5,I5,r5,y5,st5,fr5⟩=>?_)
  have I5':=I5.pinned (stat fr5) (T.obj _ _ st5)
  refine wpAny_passesOwn hp (thn (hg _ s5 σ3 H5 x u _ I5' r5 (step x H5 y5)) fun _ s6 ⟨σ6,H6,I6,q6⟩=>?_)
  refine wpAny_passesOwn hp (thn (hb _ s6 σ6 H6 _ I6 q6) fun f s7 q7=>?_)
  have again:∀ {σ7:St} {H7:Hp},Inv X (pins++gJ fp s5.heap) σ7 H7 s7→N σ7 H7→∃ m,m<n∧∃ i σ' H',Inv X pins σ' H' s7∧tn i s7.heap∧(∀ b∈fp,H' b=none)∧W i m σ' H':=fun {σ7 H7} I7 n7=>by
   obtain ⟨m',hm,w7⟩:=hN σ7 H7 n7
   refine ⟨m',hm,i + 1,σ7,H7,I7.unpinned,T.keep _ _ _ st5 fun b hb o e=>(I7.pin (b,o) (List.mem_append_right _ (List.mem_append_right _ (cj hb e)))).1,fun b hb=>?_,w7⟩
   obtain ⟨o,e,d⟩:=T.obj _ _ st5 b hb
   exact (I7.pin (b,o) (List.mem_append_right _ (List.mem_append_right _ (cj hb e)))).2.1
  cases f with
  | next=>obtain ⟨σ7,H7,I7,n7⟩:=q7; exact again I7 n7
  | cont=>obtain ⟨σ7,H7,I7,n7⟩:=q7; exact again I7 n7
  | brk=>obtain ⟨σ7,H7,I7,q7⟩:=q7; exact ⟨σ7,H7,I7.unpinned,q7⟩
  | ret v=>obtain ⟨x7,σ7,H7,I7,r7,q7⟩:=q7; exact ⟨x7,σ7,H7,I7.unpinned,r7,q7⟩
end
abbrev R2:=V→V→Hp→VK→Prop
def OpR (X:Cx) (f:Value→Value→Sem Value) (r:R2):Prop :=
 ∀ (pins:List (Addr×Obj)) (s:Shared) (σ:St) (H:Hp) (x y:V) (v u:Value) (Q:VK),Inv X pins σ H s→a9 x v→a9 y u→r x y H Q →
  wpAny (model X.prog X.w) X.A (f v u) (EP X pins σ Q) X.xe s
def UnR (X:Cx) (f:Value→Sem Value) (r:V→Hp→VK→Prop):Prop :=
 ∀ (pins:List (Addr×Obj)) (s:Shared) (σ:St) (H:Hp) (x:V) (v:Value) (Q:VK),Inv X pins σ H s→a9 x v→r x H Q →
  wpAny (model X.prog X.w) X.A (f v) (EP X pins σ Q) X.xe s
def cE (X:Cx) (f:Value) (r:List V→Hp→VK→Prop):Prop :=
 ∀ (pins:List (Addr×Obj)) (s:Shared) (σ:St) (H:Hp) (xs:List V) (us:List Value) (Q:VK),Inv X pins σ H s→aS xs us→r xs H Q →
  wpAny (model X.prog X.w) X.A (call f us) (EP X pins σ Q) X.xe s
def TruR (X:Cx) (r:V→Hp→(Bool→Hp→Prop)→Prop):Prop :=
 ∀ (pins:List (Addr×Obj)) (s:Shared) (σ:St) (H:Hp) (x:V) (v:Value) (Q:Bool→Hp→Prop),Inv X pins σ H s→a9 x v→r x H Q →
  wpAny (model X.prog X.w) X.A (truthy v) (TP X pins σ Q) X.xe s
def tOp (r:R2) (ta tb:TE):TE:=fun σ H Q=>ta σ H fun x H1=>tb σ H1 fun y H2=>r x y H2 Q
def tUn (r:V→Hp→VK→Prop) (ta:TE):TE:=fun σ H Q=>ta σ H fun x H1=>r x H1 Q
def rI (C:Int→Int→Prop) (g:Int→Int→V):R2:=fun x y H Q=>∃ i j,x = .int i∧y = .int j∧C i j∧Q (g i j) H
def rI0 (g:Int→Int→V):R2:=fun x y H Q=>∃ i j,x = .int i∧y = .int j∧Q (g i j) H
def rU (g:Int→V):V→Hp→VK→Prop:=fun x H Q=>∃ i,x = .int i∧Q (g i) H
section
variable {X:Cx} {a b c:Expr} {ta tb tc:TE} {pos:Pos}
theorem binT (ha:PE X a ta) (hb:PE X b tb) {pins:List (Addr×Obj)} {s:Shared} {σ:St} {H:Hp} {R:V→V→Hp→Prop} (I:Inv X pins σ H s)
 (h:ta σ H fun x H1=>tb σ H1 fun y H2=>R x y H2) {Q:Value→Shared→Prop} {f:Value→Value→Sem Value}
 (hf:∀ v u s2 x y H2,Inv X pins σ H2 s2→a9 x v→a9 y u→R x y H2→wpAny (model X.prog X.w) X.A (f v u) Q X.xe s2) :
 wpAny (model X.prog X.w) X.A (eval a X.env) (fun v s₁=>wpAny (model X.prog X.w) X.A (eval b X.env) (fun u s₂=>wpAny (model X.prog X.w) X.A (f v u) Q X.xe s₂) X.xe s₁) X.xe s:=by
 refine thn (ha pins s σ H _ I h) fun v s1 ⟨x,H1,I1,r1,q1⟩=>?_
 refine thn (hb pins s1 σ H1 _ I1 q1) fun u s2 ⟨y,H2,I2,r2,q2⟩=>?_
 exact hf v u s2 x y H2 I2 r1 r2 q2
theorem o8 {op:Operator} {r:R2} (ho:OpR X (binaryOp op) r) (ha:PE X a ta) (hb:PE X b tb):PE X (.BinOp a op b pos) (tOp r ta tb):=by
 (try refine ⟨?_⟩); intro pins s σ H Q I h
 exact wpAny_BinOp (binT ha hb I h fun v u s2 x y H2 I2 rx ry q=>ho pins s2 σ H2 x y v u Q I2 rx ry q)
theorem pe_un {op:UnaryOp} {r:V→Hp→VK→Prop} (ho:UnR X (unaryOp op) r) (ha:PE X a ta):PE X (.UnaryOp op a pos) (tUn r ta):=by
 (try refine ⟨?_⟩); intro pins s σ H Q I h
 exact UnaryOp_ (thn (ha pins s σ H _ I h) fun v s1 ⟨x,H1,I1,r1,q1⟩=>ho pins s1 σ H1 x v Q I1 r1 q1)
theorem opI {f:Value→Value→Sem Value} {C:Int→Int→Prop} {g:Int→Int→Int}
 (rule:∀ (i j:Int) (t u:Tok) (s:Shared) (Q:Value→Shared→Prop) (E:Value→Shared→Prop),C i j→Q (.int (g i j) s.toks) { s with toks:=s.toks + 1 }→wpAny (model X.prog X.w) X.A (f (.int i t) (.int j u)) Q E s) :
 OpR X f (rI C fun i j=>.int (g i j)):=by
 (try refine ⟨?_⟩); intro pins s σ H x y v u Q I rx ry h
 obtain ⟨i,j,rfl,rfl,hc,q⟩:=h
 obtain ⟨t,rfl⟩:=rx
 obtain ⟨t',rfl⟩:=ry
 exact rule i j t t' s _ _ hc ⟨.int (g i j),H,I.tok _,⟨_,rfl⟩,q⟩
theorem opI0 {f:Value→Value→Sem Value} {g:Int→Int→Int}
 (rule:∀ (i j:Int) (t u:Tok) (s:Shared) (Q:Value→Shared→Prop) (E:Value→Shared→Prop),Q (.int (g i j) s.toks) { s with toks:=s.toks + 1 }→wpAny (model X.prog X.w) X.A (f (.int i t) (.int j u)) Q E s) :
 OpR X f (rI0 fun i j=>.int (g i j)):=by
 (try refine ⟨?_⟩); intro pins s σ H x y v u Q I rx ry h
 obtain ⟨i,j,rfl,rfl,q⟩:=h
 obtain ⟨t,rfl⟩:=rx
 obtain ⟨t',rfl⟩:=ry
 exact rule i j t t' s _ _ ⟨.int (g i j),H,I.tok _,⟨_,rfl⟩,q⟩
theorem opB0 {f:Value→Value→Sem Value} {g:Int→Int→Bool}
 (rule:∀ (i j:Int) (t u:Tok) (s:Shared) (Q:Value→Shared→Prop) (E:Value→Shared→Prop),Q (.bool (g i j)) s→wpAny (model X.prog X.w) X.A (f (.int i t) (.int j u)) Q E s) :
 OpR X f (rI0 fun i j=>.bl (g i j)):=by
 (try refine ⟨?_⟩); intro pins s σ H x y v u Q I rx ry h
 obtain ⟨i,j,rfl,rfl,q⟩:=h
 obtain ⟨t,rfl⟩:=rx
 obtain ⟨t',rfl⟩:=ry
 exact rule i j t t' s _ _ ⟨.bl (g i j),H,I,rfl,q⟩
def CDiv (i j:Int):Prop:=0<j∧j<1073741824
def CPow (i j:Int):Prop:=0≤j∧j≤1000000∧i.natAbs<2 ^ 64
def CMul (i j:Int):Prop:=(-(2 ^ 64)<i∧i<2 ^ 64)∨(-(2 ^ 64)<j∧j<2 ^ 64)
theorem CMul.ok {i j:Int} (h:CMul i j):IntMulOk i j:=by
 rcases h with ⟨h1,h2⟩ | ⟨h1,h2⟩
 ·exact .of_left (intBits_le_64 h1 h2)
 ·exact .of_right (intBits_le_64 h1 h2)
theorem bC:OpR X (binaryOp .Add) (rI0 fun i j=>.int (i + j)):=opI0 fun _ _ _ _ _ _ _ q=>add_int q
theorem bF:OpR X (binaryOp .Sub) (rI0 fun i j=>.int (i - j)):=opI0 fun _ _ _ _ _ _ _ q=>sub_int q
theorem fw:OpR X (binaryOp .Mult) (rI CMul fun i j=>.int (i * j)):=opI fun _ _ _ _ _ _ _ hc q=>mul_int q hc.ok
theorem qp:OpR X (binaryOp .FloorDiv) (rI CDiv fun i j=>.int (i / j)):=opI fun i j _ _ _ _ _ hc q=>by
 have h1:(0:Int)<j:=hc.1
 have h2:j<1073741824:=hc.2
 exact floordiv_int (by omega) (by rw [Int.fdiv_eq_ediv_of_nonneg i (by omega)]; exact q) (.inl (PyProof.noPylong_small (by omega)))
theorem cx:OpR X (binaryOp .Mod) (rI (fun _ j=>0<j) fun i j=>.int (i % j)):=opI fun i j _ _ _ _ _ hc q=>by
 have h1:(0:Int)<j:=hc
 exact mod_int' (by omega) (by rw [Int.fmod_eq_emod_of_nonneg i (by omega)]; exact q)
theorem dN:OpR X (binaryOp .Pow) (rI CPow fun i j=>.int (i ^ j.toNat)):=opI fun _ _ _ _ _ _ _ hc q=>pow_int_small hc.1 hc.2.1 hc.2.2 q
theorem unI {f:Value→Sem Value} {g:Int→Int}
 (rule:∀ (i:Int) (t:Tok) (s:Shared) (Q:Value→Shared→Prop) (E:Value→Shared→Prop),Q (.int (g i) s.toks) { s with toks:=s.toks + 1 }→wpAny (model X.prog X.w) X.A (f (.int i t)) Q E s) :
 UnR X f (rU fun i=>.int (g i)):=by
 (try refine ⟨?_⟩); intro pins s σ H x v Q I rx h
 obtain ⟨i,rfl,q⟩:=h
 obtain ⟨t,rfl⟩:=rx
 exact rule i t s _ _ ⟨.int (g i),H,I.tok _,⟨_,rfl⟩,q⟩
theorem t6:UnR X (unaryOp .USub) (rU fun i=>.int (-i)):=unI fun _ _ _ _ _ q=>neg_int q
end
def scal:V→V→Bool
 | .non,.non=>true | .non,.int _=>true | .int _,.non=>true | .non,.bl _=>true | .bl _,.non=>true | .non,.str _=>true | .str _,.non=>true
 | .int _,.int _=>true | .bl _,.bl _=>true | .str _,.str _=>true | .byt _,.byt _=>true
 | .int _,.str _=>true | .str _,.int _=>true | .bl _,.str _=>true | .str _,.bl _=>true
 | _,_=>false
def rNe:R2:=fun x y H Q=>scal x y=true∧Q (.bl (!decide (x=y))) H
theorem p9 {i j:Int}:decide (V.int i=V.int j)=(i == j):=by
 rw [Bool.eq_iff_iff]
 simp
theorem ud {i j:Bool}:decide (V.bl i=V.bl j)=(i == j):=by
 rw [Bool.eq_iff_iff]
 simp
theorem qY {i j:Str}:decide (V.str i=V.str j)=(i == j):=by
 rw [Bool.eq_iff_iff]
 simp
theorem rz {i j:Array UInt8}:decide (V.byt i=V.byt j)=(i.toList == j.toList):=by
 rw [Bool.eq_iff_iff]
 cases i
 cases j
 simp
section
variable {X:Cx} {a b c:Expr} {ta tb tc:TE} {pos:Pos}
theorem bW {pins:List (Addr×Obj)} {σ:St} {H:Hp} {s:Shared} {Q:VK} {k k':Bool} (I:Inv X pins σ H s) (q:Q (.bl k) H) (e:k=k'):EP X pins σ Q (.bool k') s:=by
 subst e
 exact ⟨.bl k,H,I,rfl,q⟩
theorem op_ne:OpR X (compareOp .NotEq) rNe:=by
 (try refine ⟨?_⟩); intro pins s σ H x y v u Q I rx ry h
 obtain ⟨hs,q⟩:=h
 cases x with
 | non =>
  cases rx
  cases y with
  | non=>cases ry; exact PySem.EqNone.ne_none_none (bW I q (by simp))
  | bl j=>cases ry; exact PySem.EqNone.ne_none_bool (bW I q (by simp))
  | int j=>obtain ⟨t',rfl⟩:=ry; exact PySem.EqNone.ne_none_int (bW I q (by simp))
  | str j=>obtain ⟨t',rfl⟩:=ry; exact PySem.EqNone.ne_none_str (bW I q (by simp))
  | _=>exact absurd (show false=true from hs) Bool.false_ne_true
 | bl i =>
  cases rx
  cases y with
  | non=>cases ry; exact PySem.EqNone.ne_bool_none (bW I q (by simp))
  | bl j=>cases ry; exact ne_bool (bW I q (congrArg not ud))
  | str j=>obtain ⟨t',rfl⟩:=ry; exact PySem.EqMixed.ne_bool_str (bW I q (by simp))
  | _=>exact absurd (show false=true from hs) Bool.false_ne_true
 | int i =>
  obtain ⟨t,rfl⟩:=rx
  cases y with
  | non=>cases ry; exact PySem.EqNone.ne_int_none (bW I q (by simp))
  | int j=>obtain ⟨t',rfl⟩:=ry; exact ne_int (bW I q (congrArg not p9))
  | str j=>obtain ⟨t',rfl⟩:=ry; exact PySem.EqMixed.ne_int_str (bW I q (by simp))
  | _=>exact absurd (show false=true from hs) Bool.false_ne_true
 | str i =>
  obtain ⟨t,rfl⟩:=rx
  cases y with
  | non=>cases ry; exact PySem.EqNone.ne_str_none (bW I q (by simp))
  | bl j=>cases ry; exact PySem.EqMixed.ne_str_bool (bW I q (by simp))
  | int j=>obtain ⟨t',rfl⟩:=ry; exact PySem.EqMixed.ne_str_int (bW I q (by simp))
  | str j=>obtain ⟨t',rfl⟩:=ry; exact ne_str (bW I q (congrArg not qY))
  | _=>exact absurd (show false=true from hs) Bool.false_ne_true
 | byt i =>
  obtain ⟨t,rfl⟩:=rx
  cases y with
  | byt j=>obtain ⟨t',rfl⟩:=ry; exact PySem.W.ne_bytes (bW I q (congrArg not rz))
  | _=>exact absurd (show false=true from hs) Bool.false_ne_true
 | _=>cases y <;> exact absurd (show false=true from hs) Bool.false_ne_true
theorem fj:OpR X (compareOp .Lt) (rI0 fun i j=>.bl (decide (i<j))):=opB0 fun _ _ _ _ _ _ _ q=>lt_int q
theorem lA:OpR X (compareOp .LtE) (rI0 fun i j=>.bl (decide (i≤j))):=opB0 fun _ _ _ _ _ _ _ q=>le_int q
theorem gS:OpR X (compareOp .Gt) (rI0 fun i j=>.bl (decide (j<i))):=opB0 fun _ _ _ _ _ _ _ q=>gt_int q
theorem rL:OpR X (compareOp .GtE) (rI0 fun i j=>.bl (decide (j≤i))):=opB0 fun _ _ _ _ _ _ _ q=>ge_int q
theorem s9:OpR X (compareOp .Is) (fun x y H Q=>y = .non∧Q (.bl (decide (x = .non))) H):=by
 (try refine ⟨?_⟩); intro pins s σ H x y v u Q I rx ry h
 obtain ⟨rfl,q⟩:=h
 cases ry
 refine is_none_gen (bW I q ?_)
 cases x <;> first
  | (cases rx; rfl)
  | (obtain ⟨t,rfl⟩:=rx; rfl)
theorem av (b:Expr) {op:CmpOp} (h:op≠.In:=by decide) (h2:op≠.NotIn:=by decide):behindInMarks op b=false:=by
 have e1:(op == CmpOp.In)=false:=by cases op <;> first | rfl | exact absurd rfl h
 have e2:(op == CmpOp.NotIn)=false:=by cases op <;> first | rfl | exact absurd rfl h2
 cases b <;> simp [behindInMarks,e1,e2]
theorem qg {op:CmpOp} {r:R2} (ho:OpR X (compareOp op) r) (ha:PE X a ta) (hb:PE X b tb) (hm:behindInMarks op b=false):PE X (.Compare a [op] [b] pos) (tOp r ta tb):=by
 (try refine ⟨?_⟩); intro pins s σ H Q I h
 exact wpAny_Compare1 (binT ha hb I h fun v u s2 x y H2 I2 rx ry q=>ho pins s2 σ H2 x y v u Q I2 rx ry q) hm
def rD (t:TE):TT:=fun σ H Q=>t σ H fun x H'=>∃ k,x = .bl k∧Q k H'
theorem qQ {op:CmpOp} {r:R2} (ho:OpR X (compareOp op) r) (ha:PE X a ta) (hb:PE X b tb) (hm:behindInMarks op b=false):PT X (.Compare a [op] [b] pos) (rD (tOp r ta tb)):=by
 (try refine ⟨?_⟩); intro pins s σ H Q I h
 refine wpAny_isTrue_Compare1 (thn (ha pins s σ H _ I h) fun v s1 ⟨x,H1,I1,r1,q1⟩=>thn (hb pins s1 σ H1 _ I1 q1) fun u s2 ⟨y,H2,I2,r2,q2⟩ =>
  thn (ho pins s2 σ H2 x y v u _ I2 r1 r2 q2) fun c s3 ⟨z,H3,I3,r3,k,e,q3⟩=>?_) hm
 subst e
 cases r3
 exact wpAny_truthy_bool ⟨H3,I3,q3⟩
def nT (r r':R2) (ta tb tc:TE):TE:=fun σ H Q=>ta σ H fun x H1=>tb σ H1 fun y H2=>r x y H2 fun z H3=>∃ k,z = .bl k ∧
 (if k=true then tc σ H3 fun w' H4=>r' y w' H4 Q else Q (.bl false) H3)
theorem nY {op op':CmpOp} {r r':R2} (ho:OpR X (compareOp op) r) (ho':OpR X (compareOp op') r') (ha:PE X a ta) (hb:PE X b tb) (hc:PE X c tc)
 (hm:lastMarks [op,op'] [b,c]=false:=by with_unfolding_all rfl):PE X (.Compare a [op,op'] [b,c] pos) (nT r r' ta tb tc):=by
 (try refine ⟨?_⟩); intro pins s σ H Q I h
 refine Compare_chain (thn (ha pins s σ H _ I h) fun v s1 ⟨x,H1,I1,r1,q1⟩=>chain_link (thn (hb pins s1 σ H1 _ I1 q1) fun u s2 ⟨y,H2,I2,r2,q2⟩ =>
  thn (ho pins s2 σ H2 x y v u _ I2 r1 r2 q2) fun d s3 ⟨z,H3,I3,r3,k,e,q3⟩=>?_)) hm
 subst e
 cases r3
 refine wpAny_truthy_bool ?_
 cases k with
 | false=>exact ite_ff ⟨.bl false,H3,I3,rfl,q3⟩
 | true=>exact ite_tt (chain_last (thn (hc pins s3 σ H3 _ I3 q3) fun w' s4 ⟨z',H4,I4,r4,q4⟩=>ho' pins s4 σ H4 y z' u w' Q I4 r2 r4 q4))
def TruV (K:PySem.W.Frag) (x:V) (H:Hp) (k:Bool):Prop :=
 match x with
 | .non=>k=false
 | .bl b=>k=b
 | .int i=>k=(i != 0)
 | .str y=>y.length≤sizeLine∧k=((y.length:Int) != 0)
 | .byt y=>y.size≤sizeLine∧k=((y.size:Int) != 0)
 | .ref p=>(∃ xs,SqL K H p xs∧k = !xs.isEmpty)∨(∃ xs,SqT K H p xs∧k = !xs.isEmpty)∨∃ kvs,H p=some (.dK kvs)∧k = !kvs.isEmpty
 | _=>False
theorem jZ {κ:Type} {kvs:List (κ×V)} {vs:List (κ×Value)} (r:KV kvs vs):(!vs.isEmpty) = !kvs.isEmpty:=by
 cases r <;> rfl
theorem gx {xs:List V} {its:List Value} (r:aS xs its):(!its.toArray.isEmpty) = !xs.isEmpty:=by
 cases r <;> simp
theorem fE:(sizeLine:Nat)<2 ^ 63:=by rw [sizeLine_eq]; decide
theorem tD:TruR X (fun x H Q=>∃ k,TruV X.K x H k∧Q k H):=by
 (try refine ⟨?_⟩); intro pins s σ H x v Q I rx h
 obtain ⟨k,e,q⟩:=h
 have hl:=fE
 have hs:sizeLine=16777216:=sizeLine_eq
 cases x with
 | non =>
  cases rx
  have e':k=false:=e
  subst e'
  exact truthy_none ⟨H,I,q⟩
 | bl b =>
  cases rx
  have e':k=b:=e
  subst e'
  exact wpAny_truthy_bool ⟨H,I,q⟩
 | int i =>
  obtain ⟨t,rfl⟩:=rx
  have e':k=(i != 0):=e
  subst e'
  exact PySem.P.truthy_int ⟨H,I,q⟩
 | str y =>
  obtain ⟨t,rfl⟩:=rx
  obtain ⟨hy,e'⟩:y.length≤sizeLine∧k=((y.length:Int) != 0):=e
  subst e'
  exact PySem.P.truthy_str (by omega) ⟨H,I.tok _,q⟩
 | byt y =>
  obtain ⟨t,rfl⟩:=rx
  obtain ⟨hy,e'⟩:y.size≤sizeLine∧k=((y.size:Int) != 0):=e
  subst e'
  exact PySem.W.truthy_bytes (by omega) ⟨H,I.tok _,q⟩
 | ref p =>
  cases rx
  have e':(∃ xs,SqL X.K H p xs∧k = !xs.isEmpty)∨(∃ xs,SqT X.K H p xs∧k = !xs.isEmpty)∨∃ kvs,H p=some (.dK kvs)∧k = !kvs.isEmpty:=e
  rcases e' with ⟨xs,hx,e'⟩ | ⟨xs,hx,e'⟩ | ⟨kvs,hx,e'⟩
  ·subst e'
   obtain ⟨its,r,pl,hz⟩:=I.list hx
   have hlen:=r.length
   exact wpAny_truthy_list pl.isList (by simp only [List.size_toArray]; omega) ⟨H,I.tok _,by rw [gx r]; exact q⟩
  ·subst e'
   obtain ⟨its,r,pl,hz⟩:=I.tuple hx
   have hlen:=r.length
   exact truthy_tuple pl (by simp only [List.size_toArray]; omega) ⟨H,I.tok _,by rw [gx r]; exact q⟩
  ·subst e'
   obtain ⟨hz,hS,vs,r,m⟩:kvs.length≤sizeLine∧(p == sysModules)=false∧∃ vs,KV kvs vs∧s.heap.DictOf (i9 X.prog X.w) p vs:=I.hok p _ hx
   have hlen:kvs.length=vs.length:=Paired.length r
   exact wpAny_truthy_dict hS m (by omega) ⟨H,I.tok _,by rw [jZ r]; exact q⟩
 | _=>exact (show False from e).elim
theorem oh (ha:PE X a ta) (he:∀ whole,isTrue a X.env whole=(do let v ← whole; standAt a.pos; holding [v] (truthy v))) :
 PT X a (fun σ H Q=>ta σ H fun x H'=>∃ k,TruV X.K x H' k∧Q k H'):=by
 (try refine ⟨?_⟩); intro pins s σ H Q I h
 exact isTrue_plain (thn (ha pins s σ H _ I h) fun v s1 ⟨x,H1,I1,r1,q1⟩=>tD pins s1 σ H1 x v Q I1 r1 q1) (he _)
theorem fS {x:V} {us:List Value} (r:aS [x] us):∃ u,us=[u]∧a9 x u:=by
 cases r with
 | cons r1 r2=>cases r2; exact ⟨_,rfl,r1⟩
theorem kS {x y:V} {us:List Value} (r:aS [x,y] us):∃ u w',us=[u,w']∧a9 x u∧a9 y w':=by
 cases r with
 | cons r1 r2 =>
  cases r2 with
  | cons r3 r4=>cases r4; exact ⟨_,_,rfl,r1,r3⟩
theorem d9 (hc:X.calm=true):cE X (.builtin "max") (fun xs H Q=>∃ i j,xs=[.int i,.int j]∧Q (.int (if j > i then j else i)) H):=by
 (try refine ⟨?_⟩); intro pins s σ H xs us Q I r h
 obtain ⟨i,j,rfl,q⟩:=h
 obtain ⟨u,w',rfl,⟨t,rfl⟩,⟨t',rfl⟩⟩:=kS r
 refine max_two_ints (I.ok.hd hc) fun h' tk k=>⟨_,H,I.kept k,?_,q⟩
 by_cases hj:j > i
 ·rw [if_pos hj,if_pos hj]; exact ⟨_,rfl⟩
 ·rw [if_neg hj,if_neg hj]; exact ⟨_,rfl⟩
theorem dc (hc:X.calm=true):cE X (.builtin "min") (fun xs H Q=>∃ i j,xs=[.int i,.int j]∧Q (.int (if j<i then j else i)) H):=by
 (try refine ⟨?_⟩); intro pins s σ H xs us Q I r h
 obtain ⟨i,j,rfl,q⟩:=h
 obtain ⟨u,w',rfl,⟨t,rfl⟩,⟨t',rfl⟩⟩:=kS r
 refine min_two_ints (I.ok.hd hc) fun h' tk k=>⟨_,H,I.kept k,?_,q⟩
 by_cases hj:j<i
 ·rw [if_pos hj,if_pos hj]; exact ⟨_,rfl⟩
 ·rw [if_neg hj,if_neg hj]; exact ⟨_,rfl⟩
theorem hU:cE X (.type "int") (fun xs H Q=>(∃ i,xs=[.int i]∧Q (.int i) H)∨∃ k,xs=[.bl k]∧Q (.int (if k then 1 else 0)) H):=by
 (try refine ⟨?_⟩); intro pins s σ H xs us Q I r h
 rcases h with ⟨i,rfl,q⟩ | ⟨k,rfl,q⟩
 ·obtain ⟨u,rfl,t,rfl⟩:=fS r
  exact call_int_int ⟨.int i,H,I,⟨_,rfl⟩,q⟩
 ·obtain ⟨u,rfl,r1⟩:=fS r
  cases r1
  exact call_int_bool ⟨.int (if k then 1 else 0),H,I.tok _,⟨_,rfl⟩,q⟩
end
structure ObjM (h:Heap) (x dx C:Addr) (mA:Str→Option Value):Prop where
 obj:h.get? x=some (PySem.W.instObj C dx)
 ns:h.Ns1 dx mA
 ne:dx≠x
theorem lC {h:Heap} {dx:Addr} {mA:Str→Option Value} (n:h.Ns1 dx mA):∃ od,h.get? dx=some od∧∀ name,PySem.W.lookIn name od=some (mA name):=by
 obtain ⟨o,es,ep,ho,hd,hk,_,hm⟩:=n
 refine ⟨o,ho,fun name=>?_⟩
 have e:=hm name
 unfold nsFind findBy at e
 rw [← Array.find?_toList] at e
 unfold PySem.W.lookIn
 rw [hd]
 dsimp only
 split
 ·rename_i y q
  rw [q] at e
  exact congrArg some e
 ·rename_i q
  rw [q] at e
  have a:es.toList.any (·.refKey)=false:=by
   rw [List.any_eq_false]
   intro y hy
   obtain ⟨z,t,hkey⟩:=hk y (Array.mem_toList_iff.mp hy)
   simp [DictEntry.refKey,hkey]
  have a' : ¬ es.toList.any (·.refKey)=true:=by rw [a]; exact Bool.false_ne_true
  rw [if_neg a']
  exact congrArg some e
theorem ObjM.look {h:Heap} {x dx C:Addr} {mA:Str→Option Value} (I:ObjM h x dx C mA):∃ od,PySem.W.InstAt h x (PySem.W.instObj C dx) C (some od)∧∀ name,PySem.W.lookIn name od=some (mA name) :=
 let ⟨od,ho,hl⟩:=lC I.ns
 ⟨od,⟨I.obj,rfl,rfl,ho⟩,hl⟩
section
variable {prog:Program} {w:World} {A:Around} {E:Value→Shared→Prop} {s:Shared} {K:PySem.W.Frag} {x dx C f:Addr} {mA:Str→Option Value} {name:Str} {v:Value}
end
section
variable {P:Program} {w:World} {H H':Hp} {h h':Heap} {a C dx:Addr} {fs fs':List (Str×V)}
theorem p8 (hok:HOk P w H h) (e:H a=some (.ins C dx fs)):∃ mA,ObjM h a dx C mA∧(∀ f,RelO (fs.lookup f) (mA f))∧PySem.Within mA (fs.map (·.1))∧fs.length≤1000∧H dx=some (.own a):=by
 obtain ⟨d,z,ne,ob,mA,n,r,q⟩:=(show bQ P w H h a (.ins C dx fs) from hok a _ e)
 exact ⟨mA,⟨ob,n,ne⟩,r,q,z,d⟩
end
structure Cls (K:PySem.W.Frag) (C:Addr):Prop where
 pg:PySem.W.plainGet K C Str.empty=true
 hd:PySem.W.hasDictIn K C=true
 po:PySem.W.plainOver K C=true
 sa:PySem.W.findIn K (.ref C) "__setattr__" = some (some (.builtin "object.__setattr__"))
theorem Cls.get {K:PySem.W.Frag} {C:Addr} (c:Cls K C) (f:Str):PySem.W.plainGet K C f=true:=c.pg
section
variable {X:Cx} {pins:List (Addr×Obj)} {σ:St} {H:Hp} {s:Shared} {a C dx:Addr} {fs:List (Str×V)} {f:Str} {v:V} {A:Around} {E:Value→Shared→Prop}
end
section
variable {X:Cx} {o e value:Expr} {f:Str} {pos pos' tpos:Pos} {ta tv:TE}
end
section
variable {X:Cx} {pins:List (Addr×Obj)} {σ:St} {H:Hp} {s:Shared} {A:Around} {E:Value→Shared→Prop} {Q:Value→Shared→Prop} {c:Value} {b:Bool}
inductive TyOf (K:PySem.W.Frag) (H:Hp):V→Value→Prop where
 | non:TyOf K H .non (.type "NoneType")
 | bl (x:Bool):TyOf K H (.bl x) (.type "bool")
 | int (i:Int):TyOf K H (.int i) (.type "int")
 | str (x:Str):TyOf K H (.str x) (.type "str")
 | flt (x:UInt64):TyOf K H (.flt x) (.type "float")
 | lst {a:Addr} {xs:List V} (e:H a=some (.lst xs)):TyOf K H (.ref a) (.type "list")
 | frz {a:Addr} {o:Obj} {xs:List V} (e:H a=some (.frz o (.lst xs))):TyOf K H (.ref a) (.type "list")
 | tup {a:Addr} {xs:List V} (e:H a=some (.tup xs)):TyOf K H (.ref a) (.type "tuple")
 | dK {a:Addr} {kvs:List (Key×V)} (e:H a=some (.dK kvs)):TyOf K H (.ref a) (.type "dict")
 | dT {a:Addr} {kvs:List (List Key×V)} (e:H a=some (.dT kvs)):TyOf K H (.ref a) (.type "dict")
 | ins {a C dx:Addr} {fs:List (Str×V)} (e:H a=some (.ins C dx fs)) (cl:Cls K C) (ha:PySem.W.findIn K (.ref C) "__class__" = some (some (.builtin "object.__class__")))
  (hn:PySem.W.specialIn K (.builtin "object.__class__") "__get__" = some (some (.builtin "getset_descriptor.__get__"))) (htk:PySem.W.takesIn K (.builtin "object.__class__")=some true)
  (hm:PySem.W.mroIn K C (.type "object")=some true):TyOf K H (.ref a) (.ref C)
theorem l9 {x:V} {u t:Value} (I:Inv X pins σ H s) (rx:a9 x u) (ty:TyOf X.K H x t) (e:PySem.W.kitOne X.K t c=some b) (h:∀ tk,Q (.bool b) { s with toks:=tk }) :
 wpAny (model X.prog X.w) A (call (.builtin "isinstance") [u,c]) Q E s:=by
 cases ty with
 | non=>cases (show u=Value.none from rx); exact PySem.W.kia_one PySem.W.kitx_none I.kIn True.intro e (fun z=>nomatch z) h
 | bl y=>cases (show u=Value.bool y from rx); exact PySem.W.kia_one PySem.W.kitx_bool I.kIn True.intro e (fun z=>nomatch z) h
 | int i=>obtain ⟨t,q⟩:=(show ∃ t,u=Value.int i t from rx); cases q; exact PySem.W.kia_one PySem.W.kitx_int I.kIn True.intro e (fun z=>nomatch z) h
 | str y=>obtain ⟨t,q⟩:=(show ∃ t,u=Value.str y t from rx); cases q; exact PySem.W.kia_one PySem.W.kitx_str I.kIn True.intro e (fun z=>nomatch z) h
 | flt y=>obtain ⟨t,q⟩:=(show ∃ t,u=Value.float y t from rx); cases q; exact PySem.W.kia_one PySem.W.kitx_float I.kIn True.intro e (fun z=>nomatch z) h
 | @lst a xs ea =>
  cases (show u=Value.ref a from rx)
  obtain ⟨_,_,n,_,h1⟩:=(show bQ X.prog X.w H s.heap a (.lst xs) from I.hok a _ ea)
  exact PySem.W.kia_one PySem.W.kitx_list I.kIn ⟨_,h1,rfl⟩ e (fun z=>nomatch z) h
 | @frz a ob xs ea =>
  cases (show u=Value.ref a from rx)
  obtain ⟨_,_,_,n,_,h1⟩:=(show bQ X.prog X.w H s.heap a (.frz ob (.lst xs)) from I.hok a _ ea)
  exact PySem.W.kia_one PySem.W.kitx_list I.kIn ⟨_,h1,rfl⟩ e (fun z=>nomatch z) h
 | @tup a xs ea =>
  cases (show u=Value.ref a from rx)
  obtain ⟨_,_,_,p⟩:=(show bQ X.prog X.w H s.heap a (.tup xs) from I.hok a _ ea)
  obtain ⟨o,h1,h2,_⟩:=p
  exact PySem.W.kia_one PySem.W.kitx_tuple I.kIn ⟨o,h1,h2⟩ e (fun z=>nomatch z) h
 | @dK a kvs ea =>
  cases (show u=Value.ref a from rx)
  obtain ⟨_,_,vs,_,p⟩:=(show bQ X.prog X.w H s.heap a (.dK kvs) from I.hok a _ ea)
  obtain ⟨o,es,ep,h1,h2,_⟩:=p
  exact PySem.W.kia_one PySem.W.kitx_dict I.kIn ⟨o,h1,h2.1⟩ e (fun z=>nomatch z) h
 | @dT a kvs ea =>
  cases (show u=Value.ref a from rx)
  obtain ⟨_,_,xs,_,o,es,ep,h1,h2,_⟩:=(show bQ X.prog X.w H s.heap a (.dT kvs) from I.hok a _ ea)
  exact PySem.W.kia_one PySem.W.kitx_dict I.kIn ⟨o,h1,h2.1⟩ e (fun z=>nomatch z) h
 | @ins a C dx fs ea cl ha hn htk hm =>
  cases (show u=Value.ref a from rx)
  obtain ⟨mA,O,_⟩:=p8 I.hok ea
  obtain ⟨od,J,_⟩:=O.look
  exact PySem.W.kia_one (PySem.W.kitx_own (cl.get _) cl.hd ha hn htk hm) I.kIn J e (fun z=>nomatch z) h
end
structure Room (k:Nat) (A:Around):Prop where
 hd:A.handled=none
 dp:A.depth + 3 * k + 5<recursionLimit
 un:A.units + 16 * k + 200<cLine
 gd:A.guards=some []
theorem Room.mono {j k:Nat} {A:Around} (r:Room k A) (h:j≤k):Room j A:=⟨r.hd,by have:=r.dp; omega,by have:=r.un; omega,r.gd⟩
theorem Room.deeper {k:Nat} {A:Around} (r:Room (k + 1) A) (env:Env):Room k (A.deeper env) :=
 ⟨r.hd,by have:=r.dp; show A.depth + 1 + 3 * k + 5<_; omega,by have:=r.un; show A.units + 3 + 16 * k + 200<_; omega,r.gd⟩
theorem Room.depth {k:Nat} {A:Around} (r:Room k A):A.depth<recursionLimit:=by have:=r.dp; omega
theorem Room.units {k:Nat} {A:Around} (r:Room k A):A.units + 64<cLine:=by have:=r.un; omega
def tNil:TA:=fun _ H Q=>Q [] H
def tCons (ta:TE) (tr:TA):TA:=fun σ H Q=>ta σ H fun x H1=>tr σ H1 fun xs H2=>Q (x :: xs) H2
section
variable {X:Cx} {e:Expr} {es:List Expr} {te:TE} {t:TA} {pos:Pos}
theorem dn:PA X [] tNil:=⟨fun _ _ _ _ H Q I h=>Calls.spliced_nil ⟨[],H,I,.nil,h⟩⟩
theorem bB (ha:PE X e te) (hr:PA X es t) (hs:starEach (e :: es) X.env=(false,eval e X.env) :: starEach es X.env:=by rfl):PA X (e :: es) (tCons te t):=by
 (try refine ⟨?_⟩); intro pos pins s σ H Q I h
 rw [hs]
 show wpAny _ _ (spliced ((false,eval e X.env) :: backTo pos (starEach es X.env))) _ _ s
 refine Calls.spliced_cons (thn (ha pins s σ H _ I h) fun u s1 ⟨x,H1,I1,r1,q1⟩=>?_)
 exact thn (hr pos pins s1 σ H1 _ I1 q1) fun us s2 ⟨xs,H2,I2,r2,q2⟩=>⟨x :: xs,H2,I2,.cons r1 r2,q2⟩
def tTup (t:TA):TE:=fun σ H Q=>t σ H fun xs H1=>xs.length≤sizeLine∧∀ p,H1 p=none→Q (.ref p) (upd H1 p (.tup xs))
def tLst (t:TA):TE:=fun σ H Q=>t σ H fun xs H1=>xs.length≤sizeLine∧∀ p,H1 p=none→Q (.ref p) (upd H1 p (.lst xs))
theorem nB {x1} (h:PA X es t):PE X (.Tuple es x1 pos) (tTup t):=by
 (try refine ⟨?_⟩); intro pins s σ H Q I hq
 refine wpAny_Tuple_spliced (thn (h pos pins s σ H _ I hq) fun us s1 ⟨xs,H1,I1,r,z,q⟩=>⟨by rw [← r.length]; exact z,?_⟩)
 have hf:H1 s1.heap.objs.size=none:=I1.hok.fresh (Nat.le_refl _)
 refine ⟨.ref s1.heap.objs.size,upd H1 s1.heap.objs.size (.tup xs),I1.laid (t':=s1.toks) (fun b u e=>Heap.get?_push_of_some _ e) (Nat.le_refl _) ?_,rfl,q _ hf⟩
 exact ⟨z,us,r,⟨_,Heap.get?_push_size _ rfl,rfl,_,rfl⟩⟩
theorem nJ (h:PA X es t):PE X (.List es pos) (tLst t):=by
 (try refine ⟨?_⟩); intro pins s σ H Q I hq
 refine wpAny_List_spliced (thn (h pos pins s σ H _ I hq) fun us s1 ⟨xs,H1,I1,r,z,q⟩=>⟨by rw [← r.length]; exact z,?_⟩)
 have hf:H1 s1.heap.objs.size=none:=I1.hok.fresh (Nat.le_refl _)
 refine ⟨.ref s1.heap.objs.size,upd H1 s1.heap.objs.size (.lst xs),I1.laid (t':=s1.toks) (fun b u e=>Heap.get?_push_of_some _ e) (Nat.le_refl _) ?_,rfl,q _ hf⟩
 exact ⟨z,us,0,r,Heap.get?_push_size _ rfl⟩
end
abbrev Sp:=List V→Hp→VK→XK→Prop
abbrev CXT:=List Env→Hp→Shared→XK→Value→Shared→Prop
structure Env0 (P:Program) (w:World) (K:PySem.W.Frag) (mg:Str→Option Value) (base:Heap) (A:Around) (outer:List Env) (s:Shared) (H:Hp):Prop where
 frames:A.frames=some outer
 mod:Mod K mg base
 bs:∀ b o,base.get? b=some o→s.heap.get? b=some o∧H b=none
 bsz:base.objs.size≤s.heap.objs.size
 funs:s.heap.FunFrames base outer
 frf:∀ b∈frs outer,H b=none
 hok:HOk P w H s.heap
 bare:AllBare s.gens
 tb:TbM base H
def CE (outer:List Env) (P:Program) (w:World) (H:Hp) (s:Shared) (Q:VK) (u:Value) (s':Shared):Prop :=
 ∃ v H',s'.os=s.os∧AllBare s'.gens∧Un (frs outer) [] H H' s.heap s'.heap∧HOk P w H' s'.heap∧a9 v u∧Q v H'
def CR (CX:CXT) (outer:List Env) (P:Program) (w:World) (H:Hp) (s:Shared) (Q:VK) (E:XK) (r:Result) (s':Shared):Prop :=
 match r with
 | .ok (.ret u)=>CE outer P w H s Q u s'
 | .ok _=>False
 | .error e=>CX outer H s E e s'
structure FnOk (P:Program) (w:World) (K:PySem.W.Frag) (mg:Str→Option Value) (base:Heap) (CX:CXT) (k:Nat) (f:Addr) (fd:FuncData) (ps:List Str) (sp:Sp):Prop where
 len:∀ vs H Q E,sp vs H Q E→vs.length=ps.length
 run:∀ (A:Around) (outer:List Env) (s:Shared) (H:Hp) (args:Args) (us:List Value) (vs:List V) (Q:VK) (E:XK),Room k A→Env0 P w K mg base A outer s H→BindsTo s fd args (ps.zip us)→aS vs us→sp vs H Q E →
  codeAny (model P w) A (.call (.ref f) args) (CR CX outer P w H s Q E) s
theorem FnOk.imp {P:Program} {w:World} {K:PySem.W.Frag} {mg:Str→Option Value} {base:Heap} {CX:CXT} {k:Nat} {f:Addr} {fd:FuncData} {ps:List Str} {sp sp':Sp} (F:FnOk P w K mg base CX k f fd ps sp)
 (h:∀ vs H Q E,sp' vs H Q E→sp vs H Q E):FnOk P w K mg base CX k f fd ps sp' :=
 ⟨fun vs H Q E q=>F.len vs H Q E (h _ _ _ _ q),fun A outer s H args us vs Q E hr he hb hv hs=>F.run A outer s H args us vs Q E hr he hb hv (h _ _ _ _ hs)⟩
section
variable {X:Cx} {pins:List (Addr×Obj)} {σ:St} {H:Hp} {s s':Shared}
theorem Inv.env0 (I:Inv X pins σ H s):Env0 X.prog X.w X.K X.mg X.base X.A X.stack s H :=
 ⟨I.ok.frames,I.ok.mod,I.bs,Nat.le_trans I.ok.bsz I.sz,I.stack,I.stkFree,I.hok,I.bare,I.ok.tb.un I.base⟩
theorem Inv.after {Q:VK} {u:Value} (I:Inv X pins σ H s) (h:CE X.stack X.prog X.w H s Q u s'):EP X pins σ Q u s':=by
 obtain ⟨v,H',os,bare,un,hok,r,q⟩:=h
 obtain ⟨hh,g,d,t,os'⟩:=s'
 obtain rfl:os'=s.os:=os
 exact ⟨v,H',I.call (h':=hh) (g':=g) (d':=d) (t':=t) (ch:=[]) un hok bare (fun b z=>absurd z (by simp)),r,q⟩
end
def tCall (sp:Sp) (dvs:List V) (E:XK) (t:TA):TE:=fun σ H Q=>t σ H fun vs H1=>sp (vs++dvs) H1 Q E
def fT (K:PySem.W.Frag) (fd:FuncData) (ps:List Str) (ds:List Value):Prop :=
 ∀ (s:Shared) (us:List Value),K.In s.heap→(us++ds).length=ps.length→BindsTo s fd ⟨us,[]⟩ (ps.zip (us++ds))
theorem fT.all {K:PySem.W.Frag} {fd:FuncData} {ps:List Str} (h:∀ us:List Value,us.length=ps.length→bindArgs fd ⟨us,[]⟩=pure (ps.zip us)):fT K fd ps []:=fun s us _ hl=>by
 rw [List.append_nil] at hl ⊢
 exact .of_eq (h us hl)
def ky (CX:CXT) (X:Cx) (E:XK):Prop:=∀ (pins:List (Addr×Obj)) (σ:St) (H:Hp) (s:Shared) (e:Value) (s':Shared),Inv X pins σ H s→CX X.stack H s E e s'→X.xe e s'
section
variable {X:Cx} {CX:CXT} {k:Nat} {f C:Addr} {fd:FuncData} {ps:List Str} {sp:Sp} {dvs:List V} {ds:List Value} {E:XK} {x m:Str} {p pos apos:Pos} {e o:Expr} {es:List Expr} {ta:TE} {t:TA}
theorem su {pins:List (Addr×Obj)} {σ:St} {H:Hp} {s:Shared} {Q:VK} {us:List Value} {vs:List V} (F:FnOk X.prog X.w X.K X.mg X.base CX k f fd ps sp) (hr:Room k X.A) (hb:fT X.K fd ps ds) (hd:aS dvs ds) (hx:ky CX X E)
 (I:Inv X pins σ H s) (r:aS vs us) (h:sp (vs++dvs) H Q E):wpAny (model X.prog X.w) X.A (call (.ref f) us) (EP X pins σ Q) X.xe s:=by
 have r2:aS (vs++dvs) (us++ds):=r.append hd
 have hl:(us++ds).length=ps.length:=by rw [← r2.length]; exact F.len _ _ _ _ h
 refine wpAny_call (codeAny_mono (F.run X.A X.stack s H ⟨us,[]⟩ (us++ds) (vs++dvs) Q E hr I.env0 (hb s us I.kIn hl) r2 h) fun r s' hq=>?_)
 cases r with
 | error e=>exact hx pins σ H s e s' I hq
 | ok fl =>
  cases fl with
  | ret u=>exact I.after hq
  | next=>exact False.elim hq
  | brk=>exact False.elim hq
  | cont=>exact False.elim hq
theorem lu (F:FnOk X.prog X.w X.K X.mg X.base CX k f fd ps sp) (hr:Room k X.A) (hg:Gl X x) (hm:X.mg x=some (.ref f)) (hk:PySem.W.keepIn X.K (.ref f)=true) (hb:fT X.K fd ps ds) (hd:aS dvs ds) (hx:ky CX X E)
 (ha:PA X (e :: es) t) (hdb:(x == ("__debug__":Str))=false:=by decide) (he:starEach (e :: es) X.env=(false,eval e X.env) :: starEach es X.env:=by rfl) (hpl:(backTo pos (starEach es X.env)).any (·.1)=false:=by rfl) :
 PE X (.Call (.Name x p) (e :: es) [] pos) (tCall sp dvs E t):=by
 (try refine ⟨?_⟩); intro pins s σ H Q I h
 refine wpAny_Call_Name_kw (kW I hg hm ?_ hdb)
 refine PySem.W.callWith_K (h₀:=X.base) I.ok.mod.kin hk (thn (ha pos pins s σ H _ I h) fun us s1 ⟨vs,H1,I1,r,q⟩=>⟨I1.kIn,?_⟩) he hpl
 exact su F hr hb hd hx I1 r q
end
section
variable {X:Cx} {CX:CXT} {k:Nat} {f C:Addr} {fd:FuncData} {ps ks:List Str} {sp:Sp} {E:XK} {x m:Str} {p pos apos kpos:Pos} {e o:Expr} {es:List Expr} {kws:List Keyword} {te ta:TE} {t tk:TA} {nm:Option Str}
variable {g:List Value→List Value→List Value} {gV:List V→List V→List V}
end
structure FnScope (N P:List Str) (sc:Scope):Prop where
 kind:sc.kind = .function
 co:sc.isCoroutine=false
 gen:sc.isGenerator=false
 nd:N.Nodup
 pre:N.take P.length=P
 par:∀ x∈P,sc.names.lookup x=some .local∨sc.names.lookup x=some .cell
 nofree:∀ y∈sc.names,y.2≠.free
theorem ie {kindOf:Str→Option NameKind} {x:Str}:∀ {binds:List (Str×Value)} {m:Str→Option Value},(∀ v,(x,v) ∉ binds)→bindL kindOf binds m x=m x
 | [],_,_=>rfl
 | (n,v) :: r,m,h=>by
  unfold bindL
  rw [ie fun w hw=>h w (List.mem_cons_of_mem _ hw)]
  split
  ·have:x≠n:=by rintro rfl; exact h v List.mem_cons_self
   simp [this]
  ·rfl
theorem iz {kindOf:Str→Option NameKind} {x:Str}:∀ {binds:List (Str×Value)} {m:Str→Option Value},(∀ v,(x,v) ∉ binds)→bindC kindOf binds m x=m x
 | [],_,_=>rfl
 | (n,v) :: r,m,h=>by
  unfold bindC
  rw [iz fun w hw=>h w (List.mem_cons_of_mem _ hw)]
  split
  ·rfl
  ·have:x≠n:=by rintro rfl; exact h v List.mem_cons_self
   simp [this]
theorem g8 {kindOf:Str→Option NameKind} {x:Str} {v:Value}:∀ {P:List Str} {vs:List Value} {i:Nat} {m:Str→Option Value},P.Nodup→P[i]? = some x→vs[i]? = some v→kindOf x=some .local →
 bindL kindOf (P.zip vs) m x=some v
 | [],_,_,_,_,h,_,_=>by simp at h
 | _ :: _,[],_,_,_,_,h,_=>by simp at h
 | p :: P,w :: vs,0,m,nd,h1,h2,hk=>by
  simp at h1 h2; subst h1; subst h2
  show bindL kindOf ((p,w) :: P.zip vs) m p=_
  unfold bindL
  rw [ie fun v hv=>(List.nodup_cons.mp nd).1 (List.of_mem_zip hv).1,if_pos hk]
  simp
 | p :: P,w :: vs,i + 1,m,nd,h1,h2,hk=>by
  show bindL kindOf ((p,w) :: P.zip vs) m x=_
  unfold bindL
  exact g8 (i:=i) (List.nodup_cons.mp nd).2 (by simpa using h1) (by simpa using h2) hk
theorem iy {kindOf:Str→Option NameKind} {x:Str} {v:Value}:∀ {P:List Str} {vs:List Value} {i:Nat} {m:Str→Option Value},P.Nodup→P[i]? = some x→vs[i]? = some v→kindOf x≠some .local →
 bindC kindOf (P.zip vs) m x=some v
 | [],_,_,_,_,h,_,_=>by simp at h
 | _ :: _,[],_,_,_,_,h,_=>by simp at h
 | p :: P,w :: vs,0,m,nd,h1,h2,hk=>by
  simp at h1 h2; subst h1; subst h2
  show bindC kindOf ((p,w) :: P.zip vs) m p=_
  unfold bindC
  rw [iz fun v hv=>(List.nodup_cons.mp nd).1 (List.of_mem_zip hv).1,if_neg hk]
  simp
 | p :: P,w :: vs,i + 1,m,nd,h1,h2,hk=>by
  show bindC kindOf ((p,w) :: P.zip vs) m x=_
  unfold bindC
  exact iy (i:=i) (List.nodup_cons.mp nd).2 (by simpa using h1) (by simpa using h2) hk
def dD (N:List Str) (vs:List V):St:=vs.map some++List.replicate (N.length - vs.length) none
def kr (CX:CXT) (P:Program) (w:World) (K:PySem.W.Frag) (mg:Str→Option Value) (base:Heap) (N:List Str) (qual:Str) (scope:Scope) (f:Addr) (cd:Value) (A:Around) (outer:List Env) (s:Shared) (H:Hp) (E:XK):Cx where
 prog:=P
 w:=w
 K:=K
 mg:=mg
 base:=base
 A:=A.deeper (envOfC qual scope s.heap.objs.size f cd)
 N:=N
 s₀:=s
 H₀:=H
 env:=envOfC qual scope s.heap.objs.size f cd
 outer:=outer
 stack:=envOfC qual scope s.heap.objs.size f cd :: outer
 ex:=[]
 calm:=true
 fn:=fun _=>true
 pn:=[]
 xe:=fun e s'=>wpAny (model P w) (A.deeper (envOfC qual scope s.heap.objs.size f cd)) (leaving (envOfC qual scope s.heap.objs.size f cd) e) (fun _ s''=>CX outer H s E e s'') (fun e' s''=>CX outer H s E e' s'') s'
theorem jO {sc:Scope} {n:Nat} {x:Str} (h:sc.names.lookup x=some .cell):∃ c,(cellsFrom n sc.names []).lookup x=some c:=by
 have q:=PySem.W.cellsFrom_some sc.names n [] (.inl h)
 exact Option.isSome_iff_exists.mp q
theorem lM {CX:CXT} {P:Program} {w:World} {K:PySem.W.Frag} {mg:Str→Option Value} {base:Heap} {N ps:List Str} {qual:Str} {scope:Scope} {f:Addr} {cd:Value} {A:Around} {outer:List Env} {s s1:Shared} {H:Hp} {E:XK} {us:List Value} {vs:List V}
 (S:FnScope N ps scope) (hd:A.handled=none) (e0:Env0 P w K mg base A outer s H) (hl:vs.length=ps.length) (r:aS vs us)
 (x:InCallC s s.heap.objs.size (bindL (envOfC qual scope s.heap.objs.size f cd).kindOf (ps.zip us) fun _=>none) (cellsFrom (s.heap.objs.size + 1) scope.names []) (bindC (envOfC qual scope s.heap.objs.size f cd).kindOf (ps.zip us) fun _=>none) s1) :
 Inv (kr CX P w K mg base N qual scope f cd A outer s H E) [] (dD N vs) H s1:=by
 have hpl:ps.length≤N.length:=by have:=congrArg List.length S.pre; rw [List.length_take] at this; omega
 obtain ⟨h1,tk,rfl,hk⟩:=x.done
 have noA:∀ b:Addr,b ∉ (kr CX P w K mg base N qual scope f cd A outer s H E).ex:=fun b z=>absurd (show b∈([]:List Addr) from z) (by simp)
 refine ⟨⟨e0.mod,S.kind,rfl,rfl,Nat.le_refl _,fun y z c h1 h2=>?_,fun y hy=>?_,fun y c _ h=>?_,fun _=>hd,Around.frames_deeper e0.frames,.inr ⟨rfl,rfl⟩,fun b z=>absurd z (noA b),e0.bs,e0.bsz,fun b _ _=>noA b,fun b z=>absurd z (noA b),e0.funs,e0.frf,e0.tb⟩,
  rfl,e0.bare,Un.kept hk,⟨_,x.toInCall.ns,fun i y v h1 h2 h3=>?_⟩,fun y c h=>⟨_,x.cell y c h⟩,e0.hok.fresh (Nat.le_refl _),fun y c h=>?_,fun p hp=>absurd (show p∈([]:List (Addr×Obj)) from hp) (by simp),e0.hok.kept hk,?_⟩
 ·exact name_of_addr x.apart (PySem.mem_of_lookup h1) (PySem.mem_of_lookup h2)
 ·have hy:scope.names.lookup y=some .cell∨scope.names.lookup y=some .free:=hy
  rcases hy with hy | hy
  ·exact jO hy
  ·exact absurd rfl (S.nofree _ (PySem.mem_of_lookup hy))
 ·exact Nat.le_of_lt (x.above y c (PySem.mem_of_lookup h))
 ·have hi:i<vs.length:=by
   unfold dD at h2
   by_cases hi:i<vs.length
   ·exact hi
   ·rw [List.getElem?_append_right (by simpa using hi)] at h2
    rw [List.getElem?_replicate] at h2
    split at h2 <;> cases h2
  have ha:vs[i]? = some v:=by
   unfold dD at h2
   rw [List.getElem?_append_left (by simpa using hi),List.getElem?_map] at h2
   cases e:vs[i]? with
   | none=>rw [e] at h2; cases h2
   | some a=>rw [e] at h2; cases h2; rfl
  obtain ⟨u,hu,rv⟩:=r.get ha
  have hp:ps[i]? = some y:=by
   rw [← S.pre,List.getElem?_take_of_lt (by omega)]; exact h1
  have ndP:ps.Nodup:=by rw [← S.pre]; exact S.nd.sublist (List.take_sublist _ _)
  refine ⟨u,rv,?_⟩
  rcases S.par y (List.mem_of_getElem? hp) with k | k
  ·exact .inl ⟨k,g8 ndP hp hu k⟩
  ·obtain ⟨c,e⟩:=jO (n:=s.heap.objs.size + 1) k
   refine .inr ⟨.inl k,c,e,?_⟩
   have q:=x.cell y c e
   rw [iy ndP hp hu (by show scope.names.lookup y≠_; rw [k]; decide)] at q
   exact q
 ·exact e0.hok.fresh (Nat.le_of_lt (x.above y c (PySem.mem_of_lookup h)))
 ·unfold dD
  show _=N.length
  rw [List.length_append,List.length_map,List.length_replicate]
  omega
theorem fn_of {CX:CXT} {P:Program} {w:World} {K:PySem.W.Frag} {mg:Str→Option Value} {base:Heap} {k:Nat} {f:Addr} {name qual:Str} {params:Arguments} {body:List Stmt} {scope:Scope} {dV kV doc pm cdv ct oc:Value} {an od:Option Addr}
 {osl:Array (Option Value)} {N ps:List Str} {sp:Sp} (lk:K.lookup f=some ⟨oc,od,.func (PySem.W.fnOf name qual params body scope dV kV doc pm an cdv ct),osl⟩) (hcd:PySem.W.codeIn K cdv qual=true) (S:FnScope N ps scope)
 (len:∀ vs H Q E,sp vs H Q E→vs.length=ps.length)
 (hbody:∀ (A:Around) (outer:List Env) (s:Shared) (H:Hp) (vs:List V) (Q:VK) (E:XK),Room k (A.deeper (envOfC qual scope s.heap.objs.size f cdv))→sp vs H Q E →
  ∃ t,PSs (kr CX P w K mg base N qual scope f cdv A outer s H E) body t∧t { nx:=fun _ H'=>Q .non H',rt:=Q } (dD N vs) H) :
 FnOk P w K mg base CX (k + 1) f (PySem.W.fnOf name qual params body scope dV kV doc pm an cdv ct) ps sp:=by
 refine ⟨len,fun A outer s H args us vs Q E hr e0 hb r hsp=>?_⟩
 have hl:=len _ _ _ _ hsp
 have KX:K.In s.heap:=e0.mod.kin.keeps fun b o e=>(e0.bs b o e).1
 have lim:s.heap.NoLimit:=e0.mod.nolimit.keeps fun b o e=>(e0.bs b o e).1
 have hkind:∀ y∈ps.zip us,scope.names.lookup y.1=some .local∨(scope.names.lookup y.1=some .cell∧((cellsFrom (s.heap.objs.size + 1) scope.names []).lookup y.1).isSome=true):=fun ⟨n,v⟩ hy=>by
  rcases S.par n (List.of_mem_zip hy).1 with q | q
  ·exact .inl q
  ·exact .inr ⟨q,PySem.W.cellsFrom_some _ _ _ (.inl q)⟩
 refine codeAny_call_function hr.depth (KX _ _ lk) rfl S.co S.gen rfl (PySem.W.codeRec_of KX hcd) (hb _ _ _ _ ?_)
 refine wpAny_newFunctionEnv_cells S.kind hkind fun env he s1 x=>?_
 subst he
 refine ⟨lim.keeps x.toInCall.keep,codeAny_func ?_⟩
 obtain ⟨t,ht,hq⟩:=hbody A outer s H vs Q E (hr.deeper _) hsp
 have I:Inv (kr CX P w K mg base N qual scope f cdv A outer s H E) [] (dD N vs) H s1:=lM S hr.hd e0 hl r x
 refine wpAny_mono (ht [] s1 (dD N vs) H _ I hq) (fun fl s' hs=>?_) fun e s' hs=>hs
 have fin:∀ {σ':St} {H':Hp} {v:V} {u:Value},Inv (kr CX P w K mg base N qual scope f cdv A outer s H E) [] σ' H' s'→a9 v u→Q v H'→CE outer P w H s Q u s' :=
  fun {σ' H' v u} J rv q=>⟨v,H',J.os,J.bare,J.base,J.hok,rv,q⟩
 cases fl with
 | ret u =>
  obtain ⟨v,σ',H',J,rv,q⟩:=hs
  exact fin J rv q
 | next =>
  obtain ⟨σ',H',J,q⟩:=hs
  exact fin (v:=V.non) (u:=Value.none) J rfl q
 | brk =>
  obtain ⟨_,_,_,q⟩:=hs
  exact False.elim q
 | cont =>
  obtain ⟨_,_,_,q⟩:=hs
  exact False.elim q
section
variable {X:Cx} {x:Str} {p pos:Pos} {e:Expr} {es:List Expr} {t:TA} {id T:String} {r:List V→Hp→VK→Prop}
def tCB (r:List V→Hp→VK→Prop) (t:TA):TE:=fun σ H Q=>t σ H fun vs H1=>r vs H1 Q
theorem gz (hc:cE X (.builtin id) r) (hg:Gl X x) (hm:X.mg x=none) (hv:bootBuiltins x=some (.builtin id)) (ha:PA X (e :: es) t) (hn:x ≠ "__name__":=by decide) (hdb:(x == ("__debug__":Str))=false:=by decide)
 (he:starEach (e :: es) X.env=(false,eval e X.env) :: starEach es X.env:=by rfl) (hpl:(backTo pos (starEach es X.env)).any (·.1)=false:=by rfl):PE X (.Call (.Name x p) (e :: es) [] pos) (tCB r t):=by
 (try refine ⟨?_⟩); intro pins s σ H Q I h
 refine wpAny_Call_Name_kw (eI I hg hm hv ?_ hn hdb)
 exact PyProof.Rows.callWith_builtin1 (thn (ha pos pins s σ H _ I h) fun us s1 ⟨vs,H1,I1,r1,q1⟩=>hc pins s1 σ H1 vs us Q I1 r1 q1) he hpl
theorem fN (hc:cE X (.type T) r) (hg:Gl X x) (hm:X.mg x=none) (hv:bootBuiltins x=some (.type T)) (ha:PA X (e :: es) t) (hn:x ≠ "__name__":=by decide) (hdb:(x == ("__debug__":Str))=false:=by decide)
 (he:starEach (e :: es) X.env=(false,eval e X.env) :: starEach es X.env:=by rfl) (hpl:(backTo pos (starEach es X.env)).any (·.1)=false:=by rfl):PE X (.Call (.Name x p) (e :: es) [] pos) (tCB r t):=by
 (try refine ⟨?_⟩); intro pins s σ H Q I h
 refine wpAny_Call_Name_kw (eI I hg hm hv ?_ hn hdb)
 exact PyProof.Rows.callWith_type1 (thn (ha pos pins s σ H _ I h) fun us s1 ⟨vs,H1,I1,r1,q1⟩=>hc pins s1 σ H1 vs us Q I1 r1 q1) he hpl
end
end L2
namespace HT
open PySem PyProof.Rows
section
open PySem.SeqAt
open PySem.AutoSeq1 (wpAny_loadPart')
open PySem.MeetsSeq PySem.MeetsSeq2 PySem.MeetsSeq3
end
section
variable {prog:Program} {w:World} {A:Around} {E:Value→Shared→Prop} {s:Shared}
def sIx (n d:Nat):Option Int→Nat
 | none=>d
 | some v=>if v<0 then (v + (n:Int)).toNat else min v.toNat n
theorem sIx_none (n d:Nat):sIx n d none=d:=rfl
theorem sIx_nat (n d k:Nat):sIx n d (some (k:Int))=min k n:=by
 show (if (k:Int)<0 then ((k:Int) + (n:Int)).toNat else min (k:Int).toNat n)=min k n
 rw [if_neg (by omega),Int.toNat_natCast]
end
end HT
namespace L2
open PySem PySem.Spec PyProof.Rows
abbrev TO:=St→Hp→(Option Int→Hp→Prop)→Prop
structure PO (X:Cx) (e:Option Expr) (t:TO):Prop where
 go:∀ (pins:List (Addr×Obj)) (s:Shared) (σ:St) (H:Hp) (Q:Option Int→Hp→Prop),Inv X pins σ H s→t σ H Q →
  wpAny (model X.prog X.w) X.A (evalPart e X.env) (fun u s'=>∃ o H',Inv X pins σ H' s'∧IsPart u o∧Q o H') X.xe s
instance {X:Cx} {e:Option Expr} {t:TO}:CoeFun (PO X e t) fun _=>∀ (pins:List (Addr×Obj)) (s:Shared) (σ:St) (H:Hp) (Q:Option Int→Hp→Prop),Inv X pins σ H s→t σ H Q →
 wpAny (model X.prog X.w) X.A (evalPart e X.env) (fun u s'=>∃ o H',Inv X pins σ H' s'∧IsPart u o∧Q o H') X.xe s:=⟨fun h=>h.go⟩
def qo:TO:=fun _ H Q=>Q none H
def tPart (t:TE):TO:=fun σ H Q=>t σ H fun x H1=>∃ i,x = .int i∧Q (some i) H1
theorem gr {ns:List Int}:∀ {us:List Value},aS (ns.map V.int) us→IntsAre us ns:=by
 induction ns with
 | nil=>intro us r; rw [List.map_nil] at r; cases r; exact .nil
 | cons n ns ih =>
  intro us r
  rw [List.map_cons] at r
  cases r with
  | cons r1 r2 =>
   obtain ⟨t,e⟩:=r1
   subst e
   exact .cons n t (ih r2)
section
variable {X:Cx} {e:Expr} {te:TE} {lo hi:Option Expr} {tl th:TO} {pos p2:Pos}
theorem qW:PO X none qo:=by
 (try refine ⟨?_⟩); intro pins s σ H Q I h
 rw [evalPart_none]
 exact wpAny_pure ⟨none,H,I,.none,h⟩
theorem qI (h:PE X e te):PO X (some e) (tPart te):=by
 (try refine ⟨?_⟩); intro pins s σ H Q I hw
 rw [evalPart_some]
 refine thn (h pins s σ H _ I hw) fun u s1 ⟨x,H1,I1,r1,q1⟩=>?_
 obtain ⟨i,rfl,q⟩:=q1
 obtain ⟨t,rfl⟩:=r1
 exact ⟨some i,H1,I1,.int i t,q⟩
def SlR (X:Cx) (r:V→Option Int→Option Int→Hp→VK→Prop):Prop :=
 ∀ (pins:List (Addr×Obj)) (s:Shared) (σ:St) (H:Hp) (x:V) (v vl vu:Value) (lo hi:Option Int) (sl:Addr) (Q:VK),Inv X pins σ H s→a9 x v→s.heap.IsSliceOf sl vl vu .none→IsPart vl lo→IsPart vu hi→r x lo hi H Q →
  ∃ T id,typeLookup (.type T) "__getitem__" = pure (some (.builtin id))∧s.TypeIs v T∧wpAny (model X.prog X.w) X.A (getItem v (.ref sl)) (EP X pins σ Q) X.xe s
def tSl (r:V→Option Int→Option Int→Hp→VK→Prop) (te:TE) (tl th:TO):TE:=fun σ H Q=>te σ H fun x H1=>tl σ H1 fun l H2=>th σ H2 fun u H3=>r x l u H3 Q
theorem ol {r:V→Option Int→Option Int→Hp→VK→Prop} (hr:SlR X r) (he:PE X e te) (hl:PO X lo tl) (hu:PO X hi th):PE X (.Subscript e (.Slice lo hi none p2) pos) (tSl r te tl th):=by
 (try refine ⟨?_⟩); intro pins s σ H Q I h
 refine Subscript_ (thn (he pins s σ H _ I h) fun v s1 ⟨x,H1,I1,r1,q1⟩=>?_)
 refine wpAny_Slice (thn (hl pins s1 σ H1 _ I1 q1) fun vl s2 ⟨l,H2,I2,pl,q2⟩=>thn (hu pins s2 σ H2 _ I2 q2) fun vu s3 ⟨u,H3,I3,pu,q3⟩=>?_)
 rw [evalPart_none]
 refine wpAny_pure ?_
 have I4:Inv X pins σ H3 { s3 with heap:=s3.heap.push { cls:=.type "slice",data:=.fields #[vl,vu,.none] } }:=I3.kept (t':=s3.toks) fun b ob q=>Heap.get?_push_of_some _ q
 obtain ⟨T,id,hT,ht,hg⟩:=hr pins { s3 with heap:=s3.heap.push { cls:=.type "slice",data:=.fields #[vl,vu,.none] } } σ H3 x v vl vu l u s3.heap.objs.size Q I4 r1 (Heap.IsSliceOf.new ..) pl pu q3
 show wpAny (model X.prog X.w) X.A (subscriptTail e (.Slice lo hi none p2) v (.ref s3.heap.objs.size)) (EP X pins σ Q) X.xe { s3 with heap:=s3.heap.push { cls:=.type "slice",data:=.fields #[vl,vu,.none] } }
 exact tail_any (ops:=[.ref s3.heap.objs.size,v]) ht hT hg (by with_unfolding_all rfl)
def jS (xs:List V) (lo hi:Option Int):List V:=(xs.drop (HT.sIx xs.length 0 lo)).take (HT.sIx xs.length xs.length hi - HT.sIx xs.length 0 lo)
theorem jP (xs:List V) (lo hi:Option Int):(jS xs lo hi).length≤xs.length:=by
 unfold jS
 rw [List.length_take,List.length_drop]
 omega
end
def ixN (n:Nat) (i:Int):Option Nat:=if 0≤i then (if i<n then some i.toNat else none) else if -(n:Int)≤i then some (i + n).toNat else none
def atI {α:Type} (xs:List α) (i:Int):Option α:=(ixN xs.length i).bind fun j=>xs[j]?
theorem lz {n:Nat} {i:Int} {j:Nat} (h:ixN n i=some j):seqIndex? i n=some j∧j<n∧-(n:Int)≤i∧i<n:=by
 unfold ixN at h
 by_cases h0 : 0≤i
 ·rw [if_pos h0] at h
  by_cases h1:i<n
  ·rw [if_pos h1] at h
   have e:i.toNat=j:=Option.some.inj h
   exact ⟨by rw [seqIndex_of h0 h1,e],by omega,by omega,h1⟩
  ·rw [if_neg h1] at h; cases h
 ·rw [if_neg h0] at h
  by_cases h1 : -(n:Int)≤i
  ·rw [if_pos h1] at h
   have e:(i + n).toNat=j:=Option.some.inj h
   exact ⟨by rw [seqIndex_neg (by omega) h1,e],by omega,h1,by omega⟩
  ·rw [if_neg h1] at h; cases h
theorem iK {α:Type} {xs:List α} {i:Int} {v : α} (h:atI xs i=some v):∃ j,seqIndex? i xs.length=some j∧xs[j]? = some v∧j<xs.length∧-(xs.length:Int)≤i∧i<xs.length:=by
 unfold atI at h
 cases e:ixN xs.length i with
 | none=>rw [e] at h; cases h
 | some j =>
  rw [e] at h
  obtain ⟨h1,h2,h3,h4⟩:=lz e
  exact ⟨j,h1,h,h2,h3,h4⟩
theorem ge {α:Type} {xs:List α} {j:Nat} {v : α} (h:xs[j]? = some v):atI xs (j:Int)=some v:=by
 have hj:j<xs.length:=(List.getElem?_eq_some_iff.mp h).1
 have e:ixN xs.length (j:Int)=some j:=by
  unfold ixN
  rw [if_pos (by omega),if_pos (by omega)]; simp
 unfold atI; rw [e]; exact h
def ld (b:Expr):Prop:=∀ o i,subscripted b false o i=operate [o,i] (getItem o i)
def IxR (X:Cx) (r:R2):Prop :=
 ∀ (value slice:Expr) (pins:List (Addr×Obj)) (s:Shared) (σ:St) (H:Hp) (x y:V) (v u:Value) (Q:VK),Inv X pins σ H s→a9 x v→a9 y u→r x y H Q →
  subscripted slice false v u=operate [v,u] (getItem v u)→wpAny (model X.prog X.w) X.A (subscriptTail value slice v u) (EP X pins σ Q) X.xe s
def MtR (X:Cx) (id:String) (r:V→List V→Hp→VK→Prop):Prop :=
 ∀ (pins:List (Addr×Obj)) (s:Shared) (σ:St) (H:Hp) (x:V) (xs:List V) (v:Value) (us:List Value) (Q:VK),Inv X pins σ H s→a9 x v→aS xs us→r x xs H Q →
  wpAny (model X.prog X.w) X.A (call (.builtin id) (v :: us)) (EP X pins σ Q) X.xe s
section
variable {X:Cx} {a b:Expr} {ta tb:TE} {pos:Pos}
theorem IxR.or {r r':R2} (h:IxR X r) (h':IxR X r'):IxR X (fun x y H Q=>r x y H Q∨r' x y H Q):=by
 intro value slice pins s σ H x y v u Q I rx ry q hs
 rcases q with q | q
 ·exact h value slice pins s σ H x y v u Q I rx ry q hs
 ·exact h' value slice pins s σ H x y v u Q I rx ry q hs
theorem pe_ix {r:R2} (hr:IxR X r) (ha:PE X a ta) (hb:PE X b tb) (hs:ld b):PE X (.Subscript a b pos) (tOp r ta tb):=by
 (try refine ⟨?_⟩); intro pins s σ H Q I h
 exact Subscript_ (binT ha hb I h fun v u s2 x y H2 I2 rx ry q=>hr a b pins s2 σ H2 x y v u Q I2 rx ry q (hs _ _))
def rIxL (K:PySem.W.Frag):R2:=fun x y H Q=>∃ p xs i v,x = .ref p∧y = .int i∧SqL K H p xs∧atI xs i=some v∧Q v H
def rIxT (K:PySem.W.Frag):R2:=fun x y H Q=>∃ p xs i v,x = .ref p∧y = .int i∧SqT K H p xs∧atI xs i=some v∧Q v H
def rIxS:R2:=fun x y H Q=>∃ z i c,x = .str z∧y = .int i∧z.length≤sizeLine∧atI z.cps.toList i=some c∧Q (.str ⟨#[c]⟩) H
theorem qU:IxR X (rIxL X.K):=by
 intro value slice pins s σ H x y v u Q I rx ry h hs
 obtain ⟨p,xs,i,z,rfl,rfl,hq,he,q⟩:=h
 cases rx
 obtain ⟨t,rfl⟩:=ry
 obtain ⟨its,r,pl,hz⟩:=I.list hq
 obtain ⟨j,h1,h2,h3,h4,h5⟩:=iK he
 obtain ⟨w,ew,rw'⟩:=r.get h2
 have hl:=r.length
 have hn:=fE
 have fin:EP X pins σ Q w s:=⟨z,H,I,rw',q⟩
 by_cases h0 : 0≤i
 ·have hj:i.toNat=j:=by
   rw [seqIndex_of h0 h5] at h1
   exact Option.some.inj h1
  exact item_listR pl.isList h0 (by omega) (by rw [hj]; simpa using ew) fin hs
 ·have hj:(i + (its.toArray.size:Int)).toNat=j:=by
   rw [seqIndex_neg (by omega) h4] at h1
   rw [List.size_toArray,← hl]
   exact Option.some.inj h1
  exact subscriptTail_builtinR (x:=w) pl.isList.typeIs slot_list_getitem.lookup
   (wpAny_getItem_list_neg (Q:=fun r s'=>r=w∧EP X pins σ Q r s') pl.isList (by omega) (by rw [List.size_toArray] <;> omega) (by omega) (by rw [hj]; simpa using ew) ⟨rfl,fin⟩) hs
theorem uI:IxR X (rIxT X.K):=by
 intro value slice pins s σ H x y v u Q I rx ry h hs
 obtain ⟨p,xs,i,z,rfl,rfl,hq,he,q⟩:=h
 cases rx
 obtain ⟨t,rfl⟩:=ry
 obtain ⟨its,r,pl,hz⟩:=I.tuple hq
 obtain ⟨j,h1,h2,h3,h4,h5⟩:=iK he
 obtain ⟨w,ew,rw'⟩:=r.get h2
 have hl:=r.length
 have hn:=fE
 have fin:EP X pins σ Q w s:=⟨z,H,I,rw',q⟩
 exact subscriptTail_builtinR (x:=w) pl.typeIs slot_tuple_getitem.lookup
  (getItem_tuple (j:=j) (Q:=fun r s'=>r=w∧EP X pins σ Q r s') pl (by omega) (by omega) (by rw [List.size_toArray,← hl]; exact h1) (by simpa using ew) ⟨rfl,fin⟩) hs
theorem ux:IxR X rIxS:=by
 intro value slice pins s σ H x y v u Q I rx ry h hs
 obtain ⟨z,i,c,rfl,rfl,hz,he,q⟩:=h
 obtain ⟨t,rfl⟩:=rx
 obtain ⟨t',rfl⟩:=ry
 obtain ⟨j,h1,h2,h3,h4,h5⟩:=iK he
 have hl:z.cps.toList.length=z.length:=by simp [Str.length]
 rw [hl] at h1 h4 h5
 have hn:=fE
 exact tail_any (typeIs_str s z t) slot_str_getitem.lookup (getItem_str (c:=c) (by
  have e1:decide (i < -(2 ^ 63:Int))=false:=decide_eq_false (by omega)
  have e2:decide (i ≥ 2 ^ 63)=false:=decide_eq_false (by omega)
  rw [e1,e2,Bool.or_false]) (by rw [h1]; simpa using h2) ⟨.str ⟨#[c]⟩,H,I.tok _,⟨_,rfl⟩,q⟩) hs
def rIx (K:PySem.W.Frag):R2:=fun x y H Q=>rIxL K x y H Q∨rIxT K x y H Q∨rIxS x y H Q
theorem ai:IxR X (rIx X.K):=qU.or (uI.or ux)
theorem kJ (its:List Value) (n j:Nat) (u:Value):Obj.mapSeq (·.setIfInBounds j u) { cls:=.type "list",data:=.seq its.toArray n } = { cls:=.type "list",data:=.seq (its.set j u).toArray n }:=by
 simp [Obj.mapSeq]
theorem Inv.lst {pins:List (Addr×Obj)} {σ:St} {H:Hp} {s:Shared} {p:Addr} {xs:List V} (I:Inv X pins σ H s) (h:H p=some (.lst xs)) :
 ∃ (its:List Value) (n:Nat),aS xs its∧s.heap.get? p=some { cls:=.type "list",data:=.seq its.toArray n }∧xs.length≤sizeLine:=by
 obtain ⟨z,its,n,r,e⟩:=I.hok p _ h
 exact ⟨its,n,r,e,z⟩
theorem Inv.lstUpd {pins:List (Addr×Obj)} {σ:St} {H:Hp} {s:Shared} {p:Addr} {xs ys:List V} {its its':List Value} {n n':Nat} {f:Obj→Obj} (I:Inv X pins σ H s) (h:H p=some (.lst xs))
 (ho:s.heap.get? p=some { cls:=.type "list",data:=.seq its.toArray n }) (hf:f { cls:=.type "list",data:=.seq its.toArray n } = { cls:=.type "list",data:=.seq its'.toArray n' }) (r:aS ys its') (hz:ys.length≤sizeLine) (t:Nat) :
 Inv X pins σ (upd H p (.lst ys)) { s with heap:=s.heap.update p f,toks:=t }:=by
 have e:(s.heap.update p f).get? p=some { cls:=.type "list",data:=.seq its'.toArray n' }:=by
  rw [Heap.get?_update_self f ho (by rw [hf] <;> rfl),hf]
 refine I.write (x:=p) (e:=p) (by rw [h]; trivial) (.inl rfl) (fun b u hb q=>(Heap.get?_update_other _ _ (Ne.symm hb)).trans q) ⟨_,e⟩ ?_
 exact ⟨hz,its',n',r,e⟩
def rSetL:V→V→V→Hp→(Hp→Prop)→Prop:=fun o i v H Q=>∃ p xs k j,o = .ref p∧i = .int k∧H p=some (.lst xs)∧ixN xs.length k=some j∧Q (upd H p (.lst (xs.set j v)))
theorem o9:PSet X rSetL:=by
 (try refine ⟨?_⟩); intro pins s σ H o i v ov iv u Q I ro ri rv h
 obtain ⟨p,xs,k,j,rfl,rfl,hp,hj,q⟩:=h
 cases ro
 obtain ⟨t,rfl⟩:=ri
 obtain ⟨its,n,r,ho,hz⟩:=I.lst hp
 obtain ⟨h1,h2,h3,h4⟩:=lz hj
 have hl:=r.length
 have hn:=fE
 have I':Inv X pins σ (upd H p (.lst (xs.set j v))) { s with heap:=s.heap.update p (Obj.mapSeq (·.setIfInBounds j u)) } :=
  I.lstUpd hp ho (kJ its n j u) (r.set rv j) (by rw [List.length_set]; exact hz) s.toks
 by_cases h0 : 0≤k
 ·have hk:k.toNat=j:=by
   rw [seqIndex_of h0 h4] at h1
   exact Option.some.inj h1
  exact PySem.W.ki_setAt ho h0 (by omega) (by rw [List.size_toArray,← hl]; exact h4) (by rw [hk]; exact ⟨_,I',q⟩)
 ·have hk:(k + (its.toArray.size:Int)).toNat=j:=by
   rw [seqIndex_neg (by omega) h3] at h1
   rw [List.size_toArray,← hl]
   exact Option.some.inj h1
  exact PySem.W.ki_setBack ho (by omega) (by rw [List.size_toArray,← hl]; exact h3) (by omega) (by rw [hk]; exact ⟨_,I',q⟩)
theorem iJ (lo hi:Option Int) (n:Nat):(sliceBounds lo hi none n).1=((HT.sIx n 0 lo:Nat):Int)∧(sliceBounds lo hi none n).2.1=((HT.sIx n n hi:Nat):Int)∧(sliceBounds lo hi none n).2.2=1:=by
 refine ⟨?_,?_,rfl⟩
 ·cases lo with
  | none=>simp [sliceBounds,HT.sIx]
  | some i =>
   simp only [sliceBounds,HT.sIx,Option.getD_none,show (1:Int) > 0 by decide,if_true]
   by_cases h:i<0
   ·simp only [h,if_true] <;> omega
   ·simp only [h,if_false] <;> omega
 ·cases hi with
  | none=>simp [sliceBounds,HT.sIx]
  | some i =>
   simp only [sliceBounds,HT.sIx,Option.getD_none,show (1:Int) > 0 by decide,if_true]
   by_cases h:i<0
   ·simp only [h,if_true] <;> omega
   ·simp only [h,if_false] <;> omega
theorem gZ (its:List Value) (lo hi:Option Int):slicePick its.toArray lo hi none=((its.drop (HT.sIx its.length 0 lo)).take (HT.sIx its.length its.length hi - HT.sIx its.length 0 lo)).toArray:=by
 obtain ⟨h1,h2,h3⟩:=iJ lo hi its.toArray.size
 unfold slicePick
 rw [h1,h2,h3]
 simp only [sliceRange_one,pick_run,List.size_toArray] <;> rfl
def rSlL (K:PySem.W.Frag):V→Option Int→Option Int→Hp→VK→Prop:=fun x lo hi H Q=>∃ a xs,x = .ref a∧SqL K H a xs∧∀ p,H p=none→Q (.ref p) (upd H p (.lst (jS xs lo hi)))
theorem rq:SlR X (rSlL X.K):=by
 (try refine ⟨?_⟩); intro pins s σ H x v vl vu lo hi sl Q I rx hs pl pu h
 obtain ⟨a,xs,rfl,hx,q⟩:=h
 cases rx
 obtain ⟨its,r,ht,hz⟩:=I.list hx
 have hlen:=r.length
 refine ⟨"list",_,slot_list_getitem.lookup,ht.isList.typeIs,?_⟩
 refine wpAny_getItem_list_slice ht.isList hs pl pu .none (by simp) ?_ (by rw [List.size_toArray] <;> omega)
 rw [gZ,← hlen]
 refine ⟨.ref s.heap.objs.size,_,I.laid (t':=s.toks) (o:=.lst (jS xs lo hi)) (fun b ob q=>Heap.get?_push_of_some _ q) (Nat.le_refl _) ?_,rfl,q _ (I.hok.fresh (Nat.le_refl _))⟩
 exact ⟨Nat.le_trans (jP xs lo hi) hz,_,0,(r.drop (HT.sIx xs.length 0 lo)).take (HT.sIx xs.length xs.length hi - HT.sIx xs.length 0 lo),Heap.get?_push_size _ rfl⟩
def ev:V→Bool
 | .non=>true
 | .bl _=>true
 | .int _=>true
 | .str _=>true
 | _=>false
def eqV:V→V→Bool
 | .non,.non=>true
 | .bl a,.bl b=>a == b
 | .bl a,.int b=>(if a then 1 else 0) == b
 | .int a,.bl b=>a == (if b then 1 else 0)
 | .int a,.int b=>a == b
 | .str a,.str b=>a == b
 | _,_=>false
theorem tX {A:Around} {s:Shared} {y x:V} {u v:Value} (ry:a9 y u) (rx:a9 x v) (fy:ev y=true) (fx:ev x=true):SeqAt.EqAt A s u v (eqV y x):=by
 cases y with
 | non =>
  cases ry
  cases x with
  | non=>cases rx; exact SeqAt.EqAt.same _
  | bl b=>cases rx; exact SeqAt.EqAt.none_bool b
  | int b=>obtain ⟨t,rfl⟩:=rx; exact SeqAt.EqAt.none_int b t
  | str b=>obtain ⟨t,rfl⟩:=rx; exact SeqAt.EqAt.none_str b t
  | _=>exact absurd (show false=true from fx) Bool.false_ne_true
 | bl a =>
  cases ry
  cases x with
  | non=>cases rx; exact SeqAt.EqAt.bool_none a
  | bl b=>cases rx; exact SeqAt.EqAt.bool_bool a b
  | int b=>obtain ⟨t,rfl⟩:=rx; exact SeqAt.EqAt.bool_int a b t
  | str b=>obtain ⟨t,rfl⟩:=rx; exact SeqAt.EqAt.bool_str a b t
  | _=>exact absurd (show false=true from fx) Bool.false_ne_true
 | int a =>
  obtain ⟨t',rfl⟩:=ry
  cases x with
  | non=>cases rx; exact SeqAt.EqAt.int_none a t'
  | bl b=>cases rx; exact SeqAt.EqAt.int_bool a t' b
  | int b=>obtain ⟨t,rfl⟩:=rx; exact SeqAt.EqAt.int_int a t' b t
  | str b=>obtain ⟨t,rfl⟩:=rx; exact SeqAt.EqAt.int_str a t' b t
  | _=>exact absurd (show false=true from fx) Bool.false_ne_true
 | str a =>
  obtain ⟨t',rfl⟩:=ry
  cases x with
  | non=>cases rx; exact SeqAt.EqAt.str_none a t'
  | bl b=>cases rx; exact SeqAt.EqAt.str_bool a t' b
  | int b=>obtain ⟨t,rfl⟩:=rx; exact SeqAt.EqAt.str_int a t' b t
  | str b=>obtain ⟨t,rfl⟩:=rx; exact SeqAt.EqAt.str_str a t' b t
  | _=>exact absurd (show false=true from fx) Bool.false_ne_true
 | _=>exact absurd (show false=true from fy) Bool.false_ne_true
def eqU (x:V) (u:Value):Bool:=match u with
 | .none=>eqV .non x
 | .bool b=>eqV (.bl b) x
 | .int i _=>eqV (.int i) x
 | .str z _=>eqV (.str z) x
 | _=>false
theorem o7 {x y:V} {u:Value} (r:a9 y u) (f:ev y=true):eqU x u=eqV y x:=by
 cases y with
 | non=>cases r; rfl
 | bl b=>cases r; rfl
 | int i=>obtain ⟨t,rfl⟩:=r; rfl
 | str z=>obtain ⟨t,rfl⟩:=r; rfl
 | _=>exact absurd (show false=true from f) Bool.false_ne_true
theorem e_ {x:V}:∀ {xs:List V} {us:List Value},aS xs us→xs.all ev=true→us.any (eqU x)=xs.any fun y=>eqV y x
 | _,_,.nil,_=>rfl
 | y :: xs,u :: us,.cons r t,f=>by
  rw [List.all_cons,Bool.and_eq_true] at f
  rw [List.any_cons,List.any_cons,o7 r f.1,e_ t f.2]
theorem dL {A:Around} {s:Shared} {x:V} {v:Value} (rx:a9 x v) (fx:ev x=true):∀ {xs:List V} {us:List Value},aS xs us→xs.all ev=true→∀ u∈us,SeqAt.EqAt A s u v (eqU x u)
 | _,_,.nil,_=>fun u hu=>by cases hu
 | y :: xs,u :: us,.cons r t,f=>fun u' hu=>by
  rw [List.all_cons,Bool.and_eq_true] at f
  rcases List.mem_cons.mp hu with rfl | hu
  ·rw [o7 r f.1]; exact tX r rx f.1 fx
  ·exact dL rx fx t f.2 u' hu
def inV (x:V) (xs:List V):Bool:=xs.any fun y=>eqV y x
def rIn (K:PySem.W.Frag) (neg:Bool):R2:=fun x y H Q=>∃ p xs,y = .ref p∧(SqL K H p xs∨SqT K H p xs)∧ev x=true∧xs.all ev=true∧Q (.bl (if neg then !inV x xs else inV x xs)) H
theorem h_:OpR X (compareOp .In) (rIn X.K false):=by
 (try refine ⟨?_⟩); intro pins s σ H x y v u Q I rx ry h
 obtain ⟨p,xs,rfl,hq,fx,fs,q⟩:=h
 cases ry
 rcases hq with hq | hq
 ·obtain ⟨its,r,pl,hz⟩:=I.list hq
  refine SeqAt.in_listAt (eqU x) pl.isList (fun w hw=>dL rx fx r fs w (by simpa using hw)) ⟨.bl _,H,I,rfl,?_⟩
  rw [show its.toArray.any (eqU x)=its.any (eqU x) by simp,e_ r fs]
  exact q
 ·obtain ⟨its,r,pl,hz⟩:=I.tuple hq
  refine SeqAt.in_tupleAt (eqU x) pl (fun w hw=>dL rx fx r fs w (by simpa using hw)) ⟨.bl _,H,I,rfl,?_⟩
  rw [show its.toArray.any (eqU x)=its.any (eqU x) by simp,e_ r fs]
  exact q
theorem cK:OpR X (compareOp .NotIn) (rIn X.K true):=by
 (try refine ⟨?_⟩); intro pins s σ H x y v u Q I rx ry h
 obtain ⟨p,xs,rfl,hq,fx,fs,q⟩:=h
 cases ry
 rcases hq with hq | hq
 ·obtain ⟨its,r,pl,hz⟩:=I.list hq
  refine SeqAt.notIn_listAt (eqU x) pl.isList (fun w hw=>dL rx fx r fs w (by simpa using hw)) ⟨.bl _,H,I,rfl,?_⟩
  rw [show its.toArray.any (eqU x)=its.any (eqU x) by simp,e_ r fs]
  exact q
 ·obtain ⟨its,r,pl,hz⟩:=I.tuple hq
  refine SeqAt.notIn_tupleAt (eqU x) pl (fun w hw=>dL rx fx r fs w (by simpa using hw)) ⟨.bl _,H,I,rfl,?_⟩
  rw [show its.toArray.any (eqU x)=its.any (eqU x) by simp,e_ r fs]
  exact q
theorem au:cE X (.builtin "len") (fun xs H Q=>∃ p ys,xs=[.ref p]∧(SqL X.K H p ys∨SqT X.K H p ys)∧Q (.int ys.length) H):=by
 (try refine ⟨?_⟩); intro pins s σ H xs us Q I r h
 obtain ⟨p,ys,rfl,hq,q⟩:=h
 obtain ⟨u,rfl,rx⟩:=fS r
 cases rx
 have hn:=fE
 rcases hq with hq | hq
 ·obtain ⟨its,r',pl,hz⟩:=I.list hq
  have hlen:=r'.length
  exact Calls.call_len_list pl.isList (by simp only [List.size_toArray] <;> omega) ⟨.int ys.length,H,I.tok _,⟨s.toks + 1,by rw [List.size_toArray,hlen]⟩,q⟩
 ·obtain ⟨its,r',pl,hz⟩:=I.tuple hq
  have hlen:=r'.length
  exact len_tuple pl (by simp only [List.size_toArray] <;> omega) ⟨.int ys.length,H,I.tok _,⟨s.toks + 1,by rw [List.size_toArray,hlen]⟩,q⟩
theorem aX:cE X (.type "list") (fun xs H Q=>∃ p ys,xs=[.ref p]∧(SqL X.K H p ys∨SqT X.K H p ys)∧∀ l,H l=none→Q (.ref l) (upd H l (.lst ys))):=by
 (try refine ⟨?_⟩); intro pins s σ H xs us Q I r h
 obtain ⟨p,ys,rfl,hq,q⟩:=h
 obtain ⟨u,rfl,rx⟩:=fS r
 cases rx
 have fin:∀ (its:List Value),aS ys its→ys.length≤sizeLine→∀ (h':Heap) (c':Nat),(∀ b o',s.heap.get? b=some o'→h'.get? b=some o') →
  h'.get? s.heap.objs.size=some { cls:=.type "list",dict:=none,data:=.seq its.toArray c',slots:=#[] }→EP X pins σ Q (.ref s.heap.objs.size) { s with heap:=h' }:=fun its r' hz h' c' kp e =>
  ⟨.ref s.heap.objs.size,_,I.laid (t':=s.toks) kp (Nat.le_refl _) (show bQ X.prog X.w _ h' _ (.lst ys) from ⟨hz,its,c',r',e⟩),rfl,q _ (I.hok.fresh (Nat.le_refl _))⟩
 rcases hq with hq | hq
 ·obtain ⟨its,r',pl,hz⟩:=I.list hq
  have hlen:=r'.length
  obtain ⟨o,ho,hc,n,hd⟩:=pl.isList
  exact call_list_seq p (.inl rfl) ho hc hd (fun h' c' kp e=>fin its r' hz h' c' kp e) (by simp only [List.size_toArray] <;> omega)
 ·obtain ⟨its,r',pl,hz⟩:=I.tuple hq
  have hlen:=r'.length
  obtain ⟨o,ho,hc,n,hd⟩:=pl
  exact call_list_seq p (.inr rfl) ho hc hd (fun h' c' kp e=>fin its r' hz h' c' kp e) (by simp only [List.size_toArray] <;> omega)
def tyV (K:PySem.W.Frag) (T:String) (x:V) (H:Hp):Prop:=match x with
 | .str _=>T = "str"
 | .int _=>T = "int"
 | .ref p=>(T = "list" ∧ ∃ xs,SqL K H p xs)∨(T = "tuple" ∧ ∃ o,K.lookup p=some o∧o.cls = .type "tuple" ∧ o.dict=none) ∨
  (T = "dict" ∧ ((∃ kvs,H p=some (.dK kvs))∨∃ kvs,H p=some (.dT kvs)))∨(T = "set" ∧ ∃ S n,H p=some (.set S n))
 | _=>False
theorem om {pins:List (Addr×Obj)} {σ:St} {H:Hp} {s:Shared} {T:String} {x:V} {v:Value} (I:Inv X pins σ H s) (r:a9 x v) (ty:tyV X.K T x H) :
 s.TypeIs v T∧∀ a,v = .ref a→∃ ob,s.heap.get? a=some ob∧ob.dict=none:=by
 cases x with
 | str z =>
  obtain ⟨t,rfl⟩:=r
  cases (show T = "str" from ty)
  exact ⟨typeIs_str s z t,fun _ e=>nomatch e⟩
 | int i =>
  obtain ⟨t,rfl⟩:=r
  cases (show T = "int" from ty)
  exact ⟨typeIs_int s i t,fun _ e=>nomatch e⟩
 | ref p =>
  cases r
  rcases ty with ⟨rfl,xs,hq⟩ | ⟨rfl,o,hk,hc,hd⟩ | ⟨rfl,hk⟩ | ⟨rfl,S,n,hk⟩
  ·obtain ⟨its,_,pl,_⟩:=I.list hq
   refine ⟨pl.isList.typeIs,fun a e=>?_⟩
   cases e
   obtain ⟨o,n,e,c,hd,_⟩:=pl
   exact ⟨o,e,hd⟩
  ·refine ⟨⟨o,I.kIn p o hk,hc⟩,fun a e=>?_⟩
   cases e
   exact ⟨o,I.kIn _ o hk,hd⟩
  ·have z:∃ o,s.heap.get? p=some o∧o.ExactDict:=by
    rcases hk with ⟨kvs,hk⟩ | ⟨kvs,hk⟩
    ·obtain ⟨_,_,_,_,o,_,_,e,ex,_⟩:=I.hok p _ hk
     exact ⟨o,e,ex⟩
    ·obtain ⟨_,_,_,_,o,_,_,e,ex,_⟩:=I.hok p _ hk
     exact ⟨o,e,ex⟩
   obtain ⟨o,e,ex⟩:=z
   refine ⟨⟨o,e,ex.1⟩,fun a e2=>?_⟩
   cases e2
   exact ⟨o,e,ex.2.1⟩
  ·obtain ⟨o,_,_,_,e,ex,_⟩:=I.hok p _ hk
   refine ⟨⟨o,e,ex.1⟩,fun a e2=>?_⟩
   cases e2
   exact ⟨o,e,ex.2.1⟩
 | _=>exact False.elim ty
def tBM0 (K:PySem.W.Frag) (T:String) (r:V→List V→Hp→VK→Prop) (to:TE):TE:=fun σ H Q=>to σ H fun x H1=>tyV K T x H1∧r x [] H1 Q
def tBM (K:PySem.W.Frag) (T:String) (r:V→List V→Hp→VK→Prop) (to:TE) (t:TA):TE:=fun σ H Q=>to σ H fun x H1=>tyV K T x H1∧t σ H1 fun xs H2=>r x xs H2 Q
variable {o e:Expr} {es:List Expr} {to:TE} {t:TA} {name:Str} {apos cpos:Pos} {T id:String} {r:V→List V→Hp→VK→Prop}
theorem tF (pa:PlainAttrs T) (slot:Slot T name id) (hty:typeOf (.builtin id)=pure (.type "method_descriptor")) (hm:MtR X id r) (ho:PE X o to)
 (hbase:attributeBase o name X.env (eval o X.env)=eval o X.env:=by rfl) (hline:(apos.endLine == cpos.line)=true:=by rfl):PE X (.Call (.Attribute o name apos) [] [] cpos) (tBM0 X.K T r to):=by
 (try refine ⟨?_⟩); intro pins s σ H Q I h
 refine wpAny_Call_method0_late hbase hline (thn (ho pins s σ H _ I h) fun v s1 ⟨x,H1,I1,r1,ty,q1⟩=>?_)
 obtain ⟨h1,h2⟩:=om I1 r1 ty
 exact ⟨T,id,pa,slot,hty,h1,h2,Calls.callWith_builtin rfl (PySem.evalArgs_none (hm pins s1 σ H1 x [] v [] Q I1 r1 .nil q1))⟩
theorem rS (pa:PlainAttrs T) (slot:Slot T name id) (hty:typeOf (.builtin id)=pure (.type "method_descriptor")) (hm:MtR X id r) (ho:PE X o to) (ha:PA X (e :: es) t)
 (hbase:attributeBase o name X.env (eval o X.env)=eval o X.env:=by rfl)
 (hfew:((backTo cpos (starEach (e :: es) X.env)).all (fun x=>!x.1)&&(backToKw cpos (keywordEach [] X.env)).all (fun x=>x.1.isSome)
  && decide ((e :: es).length + ([]:List Keyword).length + (if ([]:List Keyword).isEmpty then 0 else 1)<30))=true:=by rfl)
 (hline:(apos.endLine == cpos.line)=true:=by rfl) (hs:starEach (e :: es) X.env=(false,eval e X.env) :: starEach es X.env:=by rfl) (hplain:(backTo cpos (starEach es X.env)).any (·.1)=false:=by rfl) :
 PE X (.Call (.Attribute o name apos) (e :: es) [] cpos) (tBM X.K T r to t):=by
 (try refine ⟨?_⟩); intro pins s σ H Q I h
 refine wpAny_Call_method_late hbase hfew hline rfl (thn (ho pins s σ H _ I h) fun v s1 ⟨x,H1,I1,r1,ty,q1⟩=>?_)
 obtain ⟨h1,h2⟩:=om I1 r1 ty
 refine ⟨T,id,pa,slot,hty,h1,h2,?_⟩
 have hA:=ha cpos pins s1 σ H1 _ I1 q1
 rw [hs] at hA ⊢
 refine Calls.callWith_builtin (by show (false||(backTo cpos (starEach es X.env)).any (·.1))=false; rw [hplain] <;> rfl) (Calls.evalArgs_plain ?_)
 exact thn hA fun us s2 ⟨vs,H2,I2,r2,q2⟩=>hm pins s2 σ H2 x vs v us Q I2 r1 r2 q2
/- xs.append(e),list.index on a module's tuple .. are MtR facts of 06m -/
end
def MtM (X:Cx) (id:String) (r:V→List V→Hp→VK→Prop):Prop :=
 ∀ (pins:List (Addr×Obj)) (s:Shared) (σ:St) (H:Hp) (x:V) (xs:List V) (v:Value) (us:List Value) (Q:VK),Inv X pins σ H s→a9 x v→aS xs us→r x xs H Q →
  wpAny (model X.prog X.w) X.A (call (.builtin id) (v :: us)) (EP X pins σ Q) X.xe s
theorem aS.one:∀ {x:V} {us:List Value},aS [x] us→∃ u,us=[u]∧a9 x u:=fun h=>by
 cases h with
 | cons r q=>cases q; exact ⟨_,rfl,r⟩
theorem aS.zero:∀ {us:List Value},aS [] us→us=[]
 | _,.nil=>rfl
theorem aS.dropLast {xs:List V} {us:List Value} (h:aS xs us):aS xs.dropLast us.dropLast:=by
 induction h with
 | nil=>exact .nil
 | cons r t ih =>
  cases t with
  | nil=>exact .nil
  | cons q t'=>exact .cons r ih
theorem aS.eraseIdx:∀ {xs:List V} {us:List Value} (i:Nat),aS xs us→aS (xs.eraseIdx i) (us.eraseIdx i)
 | _,_,_,.nil=>.nil
 | _,_,0,.cons _ t=>t
 | _,_,i + 1,.cons r t=>.cons r (aS.eraseIdx i t)
theorem aS.rep {xs:List V} {us:List Value} (h:aS xs us):∀ k:Nat,aS (List.replicate k xs).flatten (List.replicate k us).flatten
 | 0=>.nil
 | k + 1=>by
  rw [List.replicate_succ,List.replicate_succ,List.flatten_cons,List.flatten_cons]
  exact aS.append h (aS.rep h k)
theorem jX {α:Type} (l:List α):l.eraseIdx (l.length - 1)=l.dropLast:=by
 induction l with
 | nil=>rfl
 | cons a r ih =>
  cases r with
  | nil=>rfl
  | cons b r =>
   have e:(a :: b :: r).length - 1=((b :: r).length - 1) + 1:=by
    have h1:(a :: b :: r).length=r.length + 2:=rfl
    have h2:(b :: r).length=r.length + 1:=rfl
    omega
   rw [e,List.eraseIdx_cons_succ,ih]
   all_goals rfl
theorem iu (its:List Value):∀ (k:Nat) (acc:List Value),
 List.foldl (fun x1 x2=>x1++x2) acc.toArray (List.replicate k its.toArray)=(acc++(List.replicate k its).flatten).toArray
 | 0,acc=>by simp
 | k + 1,acc=>by
  have e:acc.toArray++its.toArray=(acc++its).toArray:=by simp
  have e2:(acc++its)++(List.replicate k its).flatten=acc++(List.replicate (k + 1) its).flatten:=by
   rw [List.replicate_succ,List.flatten_cons,List.append_assoc]
  rw [← e2,← iu its k (acc++its),← e,List.replicate_succ,List.foldl_cons]
section
variable {X:Cx} {pins:List (Addr×Obj)} {σ:St} {H:Hp} {s:Shared} {l b:Addr} {xs ys zs:List V}
theorem Inv.lset {its its':List Value} {n:Nat} {f:Array Value→Array Value} {t':Nat} (I:Inv X pins σ H s) (hH:H l=some (.lst xs))
 (e:s.heap.get? l=some { cls:=.type "list",data:=.seq its.toArray n }) (hf:f its.toArray=its'.toArray) (hv:aS ys its') (hz:ys.length≤sizeLine) :
 Inv X pins σ (upd H l (.lst ys)) { s with heap:=s.heap.update l (Obj.mapSeq f),toks:=t' }:=by
 have q:=PySem.IsL.update e f
 rw [hf] at q
 refine I.write (x:=l) (e:=l) (by rw [hH]; exact trivial) (.inl rfl) (fun b' u hb hu=>(Heap.get?_update_other s.heap (Obj.mapSeq f) (Ne.symm hb)).trans hu) ⟨_,q⟩ ?_
 exact ⟨hz,its',_,hv,q⟩
theorem Inv.lnew {its:List Value} {t':Nat} (I:Inv X pins σ H s) (hv:aS ys its) (hz:ys.length≤sizeLine) :
 Inv X pins σ (upd H s.heap.objs.size (.lst ys)) { s with heap:=s.heap.push { cls:=.type "list",data:=.seq its.toArray },toks:=t' } :=
 I.laid (fun _ _ q=>Heap.get?_push_of_some _ q) (Nat.le_refl _) ⟨hz,its,0,hv,Heap.get?_push_size _ rfl⟩
theorem Inv.fresh (I:Inv X pins σ H s):H s.heap.objs.size=none:=I.hok.fresh (Nat.le_refl _)
theorem Inv.lstM (I:Inv X pins σ H s) (hH:H l=some (.lst xs)):xs.length≤sizeLine∧∃ (its:List Value) (n:Nat),aS xs its∧xs.length=its.length∧s.heap.get? l=some { cls:=.type "list",data:=.seq its.toArray n }:=by
 obtain ⟨z,its,n,r,e⟩:=I.hok l _ hH
 exact ⟨z,its,n,r,r.length,e⟩
theorem jN {n:Nat} (h:n≤sizeLine):Builtin.List.listTooLong n=false:=by
 unfold Builtin.List.listTooLong
 exact decide_eq_false (by omega)
end
section
variable {X:Cx}
def re:V→List V→Hp→VK→Prop:=fun x vs H Q=>∃ l xs y,x = .ref l∧vs=[y]∧H l=some (.lst xs)∧xs.length<sizeLine∧Q .non (upd H l (.lst (xs++[y])))
theorem lG:MtM X "list.append" re:=by
 (try refine ⟨?_⟩); intro pins s σ H x vs v us Q I rx rv h
 obtain ⟨l,xs,y,rfl,rfl,hH,hz,q⟩:=h
 cases rx
 obtain ⟨u,rfl,ru⟩:=rv.one
 obtain ⟨z,its,n,r,hl,e⟩:=I.lstM hH
 refine call_meets F.slot_list_append ⟨_,e,rfl⟩ F.entry_list_append (F.args_list_append_2 _ _) (PySem.list_append l its.toArray n u (by rw [List.size_toArray]; omega)) ⟨e,?_⟩
 refine ⟨.non,_,I.lset (its':=its++[u]) hH e (by simp) (r.append (.cons ru .nil)) ?_,rfl,q⟩
 rw [List.length_append,List.length_singleton]
 omega
def rl:V→List V→Hp→VK→Prop:=fun x vs H Q=>∃ l b xs zs,x = .ref l∧vs=[.ref b]∧H l=some (.lst xs)∧H b=some (.lst zs)∧xs.length + zs.length≤sizeLine∧Q .non (upd H l (.lst (xs++zs)))
theorem vp:MtM X "list.extend" rl:=by
 (try refine ⟨?_⟩); intro pins s σ H x vs v us Q I rx rv h
 obtain ⟨l,b,xs,zs,rfl,rfl,hH,hB,hz,q⟩:=h
 cases rx
 obtain ⟨u,rfl,ru⟩:=rv.one
 cases ru
 obtain ⟨z,its,n,r,hl,e⟩:=I.lstM hH
 obtain ⟨z2,its2,n2,r2,hl2,e2⟩:=I.lstM hB
 have hsz:its.toArray.size + its2.toArray.size≤sizeLine:=by rw [List.size_toArray,List.size_toArray]; omega
 have hlong : ¬ (!its.toArray.isEmpty&&Builtin.List.listTooLong (its.toArray.size + its2.toArray.size))=true:=by
  rw [jN hsz,Bool.and_false]
  exact Bool.false_ne_true
 refine call_meets F.slot_list_extend ⟨_,e,rfl⟩ F.entry_list_extend (F.args_list_extend_2 _ _)
  (AutoSeq1.list_extend_list_list_0 l its.toArray n b its2.toArray n2 hlong (by rw [List.size_toArray]; omega) (by omega)) ⟨e,e2,?_⟩
 refine ⟨.non,_,I.lset (its':=its++its2) hH e (by simp) (r.append r2) ?_,rfl,q⟩
 rw [List.length_append]
 omega
def rPop:V→List V→Hp→VK→Prop:=fun x vs H Q=>∃ l xs y,x = .ref l∧vs=[]∧H l=some (.lst xs)∧xs[xs.length - 1]? = some y∧Q y (upd H l (.lst xs.dropLast))
theorem mt_pop:MtM X "list.pop" rPop:=by
 (try refine ⟨?_⟩); intro pins s σ H x vs v us Q I rx rv h
 obtain ⟨l,xs,y,rfl,rfl,hH,hy,q⟩:=h
 cases rx
 have hus:=rv.zero
 subst hus
 obtain ⟨z,its,n,r,hl,e⟩:=I.lstM hH
 obtain ⟨u,hu,ru⟩:=r.get hy
 have hy':its.toArray[its.toArray.size - 1]? = some u:=by
  show its.toArray[its.length - 1]? = some u
  rw [← Array.getElem?_toList,← hl]
  exact hu
 refine call_meets F.slot_list_pop ⟨_,e,rfl⟩ F.entry_list_pop (F.args_list_pop_1 _) (MeetsSeq.list_pop_last l its.toArray n u hy' (by rw [List.size_toArray]; omega)) ⟨e,?_⟩
 refine ⟨y,_,I.lset (its':=its.dropLast) hH e ?_ r.dropLast ?_,ru,q⟩
 ·show its.toArray.eraseIdxIfInBounds (its.toArray.size - 1)=its.dropLast.toArray
  rw [List.size_toArray,List.eraseIdxIfInBounds_toArray,jX]
 ·rw [List.length_dropLast]
  omega
def tK:V→List V→Hp→VK→Prop:=fun x vs H Q=>∃ l xs,x = .ref l∧vs=[]∧H l=some (.lst xs)∧Q .non (upd H l (.lst []))
theorem ni:MtM X "list.clear" tK:=by
 (try refine ⟨?_⟩); intro pins s σ H x vs v us Q I rx rv h
 obtain ⟨l,xs,rfl,rfl,hH,q⟩:=h
 cases rx
 have hus:=rv.zero
 subst hus
 obtain ⟨z,its,n,r,hl,e⟩:=I.lstM hH
 refine call_meets F.slot_list_clear ⟨_,e,rfl⟩ F.entry_list_clear (F.args_list_clear_1 _) (AutoSeq1.list_clear_list_0 l its.toArray n (by rw [List.size_toArray]; omega)) ⟨e,?_⟩
 exact ⟨.non,_,I.lset (its':=[]) (ys:=[]) hH e rfl .nil (Nat.zero_le _),rfl,q⟩
def rCat:R2:=fun x y H Q=>∃ l b xs zs,x = .ref l∧y = .ref b∧H l=some (.lst xs)∧H b=some (.lst zs)∧xs.length + zs.length≤sizeLine∧∀ p,H p=none→Q (.ref p) (upd H p (.lst (xs++zs)))
theorem fD:OpR X (binaryOp .Add) rCat:=by
 (try refine ⟨?_⟩); intro pins s σ H x y v u Q I rx ry h
 obtain ⟨l,b,xs,zs,rfl,rfl,hH,hB,hz,q⟩:=h
 cases rx
 cases ry
 obtain ⟨z,its,n,r,hl,e⟩:=I.lstM hH
 obtain ⟨z2,its2,n2,r2,hl2,e2⟩:=I.lstM hB
 refine PySem.P.add_list e e2 ?_ (by rw [List.size_toArray,List.size_toArray]; omega)
 have ea:its.toArray++its2.toArray=(its++its2).toArray:=by simp
 rw [ea]
 exact ⟨.ref _,_,I.lnew (t':=s.toks) (r.append r2) (by rw [List.length_append]; omega),rfl,q _ I.fresh⟩
def rRep:R2:=fun x y H Q=>∃ l k xs,x = .ref l∧y = .int k∧H l=some (.lst xs)∧-(2 ^ 63)≤k∧k<2 ^ 63∧xs.length * k.toNat≤sizeLine ∧
 ∀ p,H p=none→Q (.ref p) (upd H p (.lst (List.replicate k.toNat xs).flatten))
theorem qX {α:Type} (xs:List α) (k:Nat):(List.replicate k xs).flatten.length=k * xs.length:=by
 induction k with
 | zero=>simp
 | succ k ih=>rw [List.replicate_succ,List.flatten_cons,List.length_append,ih,Nat.succ_mul,Nat.add_comm]
theorem pP:OpR X (binaryOp .Mult) rRep:=by
 (try refine ⟨?_⟩); intro pins s σ H x y v u Q I rx ry h
 obtain ⟨l,k,xs,rfl,rfl,hH,h1,h2,hz,q⟩:=h
 cases rx
 obtain ⟨t,rfl⟩:=ry
 obtain ⟨z,its,n,r,hl,e⟩:=I.lstM hH
 have hlen:its.toArray.size * k.toNat≤sizeLine:=by rw [List.size_toArray,← hl]; exact hz
 have hcap : ¬ its.toArray.size * k.toNat > (2 ^ 63 - 1) / 8:=by
  have:(sizeLine:Nat)≤(2 ^ 63 - 1) / 8:=by decide
  omega
 have hfit : ¬ (!Builtin.List.listFitsIndex k)=true:=by
  rw [fitsIndex_both h1 h2]
  exact Bool.false_ne_true
 have hlong : ¬ Builtin.List.listTooLong (its.toArray.size * k.toNat)=true:=by
  rw [jN hlen]
  exact Bool.false_ne_true
 have hnew:List.foldl (fun x1 x2=>x1++x2) #[] (List.replicate (if its.toArray.isEmpty=true then 0 else k.toNat) its.toArray)=(List.replicate k.toNat its).flatten.toArray:=by
  have f0:∀ m:Nat,List.foldl (fun x1 x2=>x1++x2) #[] (List.replicate m its.toArray)=(List.replicate m its).flatten.toArray:=fun m=>by
   have:=iu its m []
   rw [List.nil_append] at this
   exact this
  rw [f0]
  cases its with
  | nil=>simp
  | cons a r'=>rw [if_neg (by simp)]
 refine wpAny_binaryOp_repeat_ref (T:="list") (U:="int") (by decide) ⟨_,e,rfl⟩ (fun s'=>typeIs_int s' k t) noFill_list_mul F.fills_int_mul F.slot_int_rmul repeat_list F.slot_int_index.lookup
  (call_meets F.slot_int_rmul (typeIs_int s k t) F.entry_int_rmul (F.args_int_rmul_2 _ _) (int___rmul___int_list k t l its.toArray n)
   ⟨e,rfl,⟨_,e,rfl⟩,call_meets F.slot_list_mul ⟨_,e,rfl⟩ F.entry_list_mul (F.args_list_mul_2 _ _) (AutoListH.list___mul___list_int_3 l its.toArray n k t hfit hcap hlong) ⟨e,?_⟩⟩)
 rw [hnew]
 exact ⟨.ref _,_,I.lnew (t':=s.toks) (r.rep k.toNat) (by rw [qX,Nat.mul_comm]; exact hz),rfl,q _ I.fresh⟩
end
section
variable {prog:Program} {w:World} {A:Around} {E:Value→Shared→Prop} {s:Shared}
end
section
variable {X:Cx}
end
end L2
namespace Att
open PySem PySem.W PySem.Calls PyProof.Rows
theorem fV {P:Params} {h:Heap}:∀ (ns:List Int) (vs:List Value),WellAll P h vs (ns.map WData.int)→IntsAre vs ns:=by
 intro ns
 induction ns with
 | nil =>
  intro vs w
  rw [List.map_nil] at w
  cases w
  exact .nil
 | cons n ns ih =>
  intro vs w
  rw [List.map_cons] at w
  cases w with
  | cons a b =>
   cases a
   exact .cons _ _ (ih _ b)
theorem mj {l:OpenLaw} {n:Nat} (hn:l.most=some n) {P:Params} {h:Heap} {args:List WData} {vals:List Value}
 (hpre:l.row.toRowW.claim.pre args=true) (hwl:WellAll P h vals args) :
 ∃ a vs ns,vals=[Value.ref a]∧args=[WData.list (ns.map WData.int)]∧h.get? a=some { cls:=.type "list",data:=.seq vs.toArray }∧IntsAre vs ns∧ns.length≤n:=by
 have hsh:WShape.hasAll [] args [.list .int]=true:=(pre_splitW hpre).1
 have hc:l.pre.holds [] { args:=args } = true:=(pre_splitW hpre).2
 obtain ⟨d,r,rfl,h1,h2⟩:=hasAllW_cons hsh
 obtain rfl:=hasAllW_nil h2
 obtain ⟨xs,rfl,h3⟩:=hasW_list h1
 obtain ⟨ns,rfl⟩:=items_int h3
 have hlen:ns.length≤n:=by
  unfold OpenLaw.pre at hc
  have h4:(WTm.not (.lt (.lit (.int (n:Int))) (.len (.arg 0)))).holds [] { args:=[.list (ns.map .int)] } = true:=by
   have h4:=(holds_andW hc).1
   rw [hn] at h4
   exact h4
  have h5:=condW_of h4 (w_not (w_lt w_lit (w_len_list (w_arg rfl))))
  rw [List.length_map] at h5
  refine Nat.le_of_not_lt fun q=>?_
  have q':(n:Int)<((ns.length:Nat):Int):=by omega
  first
   | (rw [decide_eq_true q'] at h5; exact absurd h5 (by decide))
   | (simp at h5; omega)
 cases hwl with
 | cons w1 w2 =>
  cases w2
  cases w1 with
  | list ho hall=>exact ⟨_,_,ns,rfl,rfl,ho,fV ns _ hall,hlen⟩
theorem lJ (l:OpenLaw) (args:List WData):l.row.toRowW.claim.post args (.bool true) args=true :=
 postW_of (r:=l.row.toRowW) (X:=(true == true))
  (show WShape.has [] (.bool true) .bool=true by first | rfl | decide | simp [WShape.has,WShape.arms,WShape.armsAll])
  (show (WTm.eq .res (.lit (.bool true))).value [] { args:=args,res:=some (.bool true),after:=args } = some (.bool (true == true)) from w_eq_bool (w_res rfl) w_lit) rfl
theorem attach_call {l:OpenLaw} {n:Nat} {q:Program} {loose:List Str} {XP:(Str→Option Value)→Heap→Prop} {YP:World→Heap→Prop} {d:DefRec}
 (hn:l.most=some n) (hdf:d.params.defaults=[])
 (call:∀ (w:World) (s₀ s₁:Shared) (mg mb:Str→Option Value) (fa:Addr) (o:Obj) (pm cd doc:Value) (a:Addr) (vs:List Value) (ns:List Int),
  Ground q loose [] XP w s₀ mg mb s₁.heap→YP w s₁.heap →
  s₁.heap.get? fa=some o→o.data = .func (docDef d.name d.params d.body d.scope pm cd doc)→s₁.heap.CodeRec cd d.name→mg d.name=some (.ref fa) →
  s₁.heap.get? a=some { cls:=.type "list",data:=.seq vs.toArray }→IntsAre vs ns→ns.length≤n→s₁.gens = #[] →
  codeAny (model l.prog w) callerA (.call (.ref fa) ⟨[.ref a],[]⟩) (fun r s'=>r = .ok (.ret (.bool true))∧OldK s₁.heap s'.heap∧s'.os=s₁.os∧AllBare s'.gens) s₁) :
 WalkO q loose XP YP l.row.toRowW d [] (fun f vs=>PySem.call f vs):=by
 intro w s₀ s₁ mg mb G Y fa o pm cd doc dV kV ho hd hcd hD hmg hg args vals as hpre hlay hrd hwl hlo
 obtain rfl:dV = .none:=Dflts.none hD hdf
 obtain rfl:kV = .none:=Dflts.noKw hD
 obtain ⟨a,vs,ns,rfl,rfl,hobj,hints,hlen⟩:=mj hn hpre hwl
 refine enter_call (codeAny_mono (call w s₀ s₁ mg mb fa o pm cd doc a vs ns G Y ho (fd_plain hd) hcd hmg hobj hints hlen hg) fun r s' hq=>?_)
 obtain ⟨rfl,h2,h3,h4⟩:=hq
 exact ⟨.inl ⟨.bool true,.bool true,[],rfl,fun _=>rfl,.bool true,lJ l _,fun _=>⟨List.Pairwise.nil,fun _ hm=>(nomatch hm)⟩⟩,h2,h3,h4⟩
section
variable {prog:Program} {w:World} {A:Around} {E:Value→Shared→Prop} {s:Shared} {K:Frag}
end
end Att
namespace L2
open PySem PySem.Spec PyProof.Rows
theorem fH:∀ {vs:List Value} {ns:List Int},IntsAre vs ns→aS (ns.map V.int) vs
 | _,_,.nil=>.nil
 | _,_,.cons n t h=>.cons ⟨t,rfl⟩ (fH h)
def Only (H:Hp):Prop:=∀ b,H b=none∨∃ o xs,H b=some (.frz o (.lst xs))
theorem oK {P:Program} {w:World} {K:PySem.W.Frag} {mg mb:Str→Option Value} {CX:CXT} {k:Nat} {fa a:Addr} {fd:FuncData} {x:Str} {sp:Sp} {s₁:Shared} {vs:List Value} {ns:List Int}
 (KX:K.In s₁.heap) (hns:s₁.heap.Ns mainGlobals mg) (hb:s₁.heap.Ns builtinsNs mb) (hbb:∀ x:Str,x ≠ "__name__" → mb x=bootBuiltins x) (hlim:s₁.heap.NoLimit) (hg:s₁.gens = #[])
 (ha:s₁.heap.get? a=some { cls:=.type "list",data:=.seq vs.toArray }) (hi:IntsAre vs ns) (hl:ns.length≤sizeLine) (hr:Room k callerA)
 (F:∀ base:Heap,K.In base→base.Ns mainGlobals mg→FnOk P w K mg base CX k fa fd [x] sp) (hbind:∀ (s:Shared) (u:Value),BindsTo s fd ⟨[u],[]⟩ [(x,u)])
 (hsp:∀ H:Hp,Only H→SqL K H a (ns.map V.int)→sp [.ref a] H (fun v _=>v = .bl true) fun _ _ _=>False)
 (hCX:∀ H e s',CX [] H s₁ (fun _ _ _=>False) e s'→False) :
 codeAny (model P w) callerA (.call (.ref fa) ⟨[.ref a],[]⟩) (fun r s'=>r = .ok (.ret (.bool true))∧OldK s₁.heap s'.heap∧s'.os=s₁.os∧AllBare s'.gens) s₁:=by
 have rv:=fH hi
 have lenV:=hi.length
 -- from an abstract heap in which nothing but the script may be tracked
 have core:∀ H:Hp,Only H→SqL K H a (ns.map V.int)→HOk P w H s₁.heap→(∀ b,H b≠none→b=a)→(H a≠none→K.lookup a=none) →
  codeAny (model P w) callerA (.call (.ref fa) ⟨[.ref a],[]⟩) (fun r s'=>r = .ok (.ret (.bool true))∧OldK s₁.heap s'.heap∧s'.os=s₁.os∧AllBare s'.gens) s₁:=by
  intro H hO hS hok hA hK
  have base_of:∀ {b:Addr} {o:Obj},s₁.heap.get? b=some o→H b=none→(eK s₁.heap H).get? b=some o:=fun e n=>na e n
  have noA:∀ {b:Addr} {o:Obj} {es:Array DictEntry} {ep:Nat},s₁.heap.get? b=some o→o.data = .dict es ep→H b=none:=fun {b o es ep} e d=>by
   cases q:H b with
   | none=>rfl
   | some u =>
    have e':b=a:=hA b (by rw [q]; simp)
    subst e'
    rw [ha] at e; cases e
    have d':Data.seq vs.toArray _=Data.dict es ep:=d
    cases d'
  have nsK:∀ {b:Addr} {m:Str→Option Value},s₁.heap.Ns b m→(eK s₁.heap H).Ns b m:=fun {b m} ⟨o,es,ep,e,d,r⟩=>⟨o,es,ep,base_of e (noA e d),d,r⟩
  have hKb:K.In (eK s₁.heap H):=fun b o e=>base_of (KX b o e) (by
   cases q:H b with
   | none=>rfl
   | some u =>
    have e':b=a:=hA b (by rw [q]; simp)
    subst e'
    rw [hK (by rw [q]; simp)] at e; cases e)
  have hM:Mod K mg (eK s₁.heap H):=⟨hKb,nsK hns,⟨mb,nsK hb,hbb⟩,let ⟨mc,h1,h2⟩:=hlim; ⟨mc,nsK h1,h2⟩⟩
  have e0:Env0 P w K mg (eK s₁.heap H) callerA [] s₁ H:=⟨rfl,hM,fun b o e=>rA e,Nat.le_of_eq (fQ _ _),trivial,fun b hb=>absurd (show b∈([]:List Addr) from hb) (by simp),hok,.of_eq hg,TbM.hid⟩
  refine codeAny_mono ((F _ hKb (nsK hns)).run callerA [] s₁ H ⟨[.ref a],[]⟩ [.ref a] [.ref a] _ _ hr e0 (hbind s₁ (.ref a)) (.cons rfl .nil) (hsp H hO hS)) fun r s' h=>?_
  cases r with
  | error e=>exact (hCX H e s' h).elim
  | ok fl =>
   cases fl with
   | next=>exact False.elim h
   | brk=>exact False.elim h
   | cont=>exact False.elim h
   | ret u =>
    obtain ⟨v,H',os,bare,un,hok',r',q⟩:=h
    have q':v = .bl true:=q
    subst q'
    obtain rfl:u=Value.bool true:=r'
    refine ⟨rfl,OldK.of_keep fun b o e=>?_,os,bare⟩
    cases q:H b with
    | none=>exact un.keep b o e q (by intro z; exact absurd (show b∈([]:List Addr) from z) (by simp)) (by simp)
    | some u =>
     rcases hO b with z | ⟨ob,xs,z⟩
     ·rw [q] at z; cases z
     ·have z2:=un.frzs b ob _ z
      obtain ⟨e1,_⟩:=hok b _ z
      obtain ⟨e2,_⟩:=hok' b _ z2
      rw [e] at e1; cases e1
      exact e2
 cases hk:K.lookup a with
 | some o =>
  -- the script is one of the module's own objects
  have e:=KX a o hk
  rw [ha] at e
  cases e
  refine core (fun _=>none) (fun _=>.inl rfl) (.inr ⟨_,vs.toArray,_,hk,rfl,rfl,rfl,by rw [List.size_toArray,lenV]; exact hl,by simpa using rv⟩) (fun b u z=>by have z':(none:Option HO)=some u:=z; cases z') (fun b z=>absurd rfl z) fun z=>absurd rfl z
 | none =>
  refine core (fun b=>if b=a then some (.frz { cls:=.type "list",data:=.seq vs.toArray } (.lst (ns.map V.int))) else none) (fun b=>?_) (.inl (.inr ⟨{ cls:=.type "list",data:=.seq vs.toArray },if_pos rfl⟩)) (fun b u z=>?_) (fun b z=>?_) fun _=>hk
  ·by_cases hb:b=a
   ·exact .inr ⟨_,_,if_pos hb⟩
   ·exact .inl (if_neg hb)
  ·by_cases hb:b=a
   ·have z':=(if_pos hb).symm.trans z
    cases z'
    subst hb
    exact ⟨ha,by rw [List.length_map]; exact hl,vs,_,rv,ha⟩
   ·have z':=(if_neg hb).symm.trans z
    cases z'
  ·by_cases hb:b=a
   ·exact hb
   ·exact absurd (if_neg hb) z
theorem p6 {l:PySem.W.OpenLaw} {n k:Nat} {q:Program} {loose:List Str} {XP:(Str→Option Value)→Heap→Prop} {YP:World→Heap→Prop} {d:DefRec} {K:Params→PySem.W.Frag} {CX:World→CXT} {sp:World→Sp} {x:Str}
 (hn:l.most=some n) (hn2:n≤sizeLine) (hdf:d.params.defaults=[]) (hr:Room k callerA)
 (hY:∀ (w:World) (h:Heap),YP w h→(K w.params).In h)
 (F:∀ (w:World) (mg:Str→Option Value) (fa:Addr) (h:Heap),(K w.params).In h→h.Ns mainGlobals mg→mg d.name=some (.ref fa) →
  ∃ fd:FuncData,(∀ (s:Shared) (u:Value),BindsTo s fd ⟨[u],[]⟩ [(x,u)]) ∧
   ∀ base:Heap,(K w.params).In base→base.Ns mainGlobals mg→FnOk l.prog w (K w.params) mg base (CX w) k fa fd [x] (sp w))
 (hsp:∀ (w:World) (H:Hp) (a:Addr) (ns:List Int),ns.length≤n→Only H→SqL (K w.params) H a (ns.map V.int)→sp w [.ref a] H (fun v _=>v = .bl true) fun _ _ _=>False)
 (hCX:∀ (w:World) (H:Hp) (s:Shared) (e:Value) (s':Shared),CX w [] H s (fun _ _ _=>False) e s'→False) :
 PySem.W.WalkO q loose XP YP l.row.toRowW d [] (fun f vs=>PySem.call f vs):=by
 refine Att.attach_call hn hdf fun w s₀ s₁ mg mb fa o pm cd doc a vs ns G Y ho hd hcd hmg hobj hints hlen hg=>?_
 have KX:=hY w _ Y
 obtain ⟨fd,hb,hF⟩:=F w mg fa _ KX G.T.g hmg
 exact oK KX G.T.g G.T.b G.T.builtins G.T.nolimit hg hobj hints (Nat.le_trans hlen hn2) hr hF hb (fun H hO hS=>hsp w H a ns hlen hO hS) fun H e s'=>hCX w H s₁ e s'
end L2
/- THE LAST THEOREM (shape; LID,My.* are yours):
   My.Adr: a structure of the addresses that your layer names (classes,functions); My.Txt K t: a structure (Prop) of the equations over K;
   My.txt_mk : {K} {implicit addresses ..} (e1:nsIn K mainGlobals "law" = some (some (.ref f))) (e2:K.lookup f=some ⟨oc,od,.func (fnOf "law" "law" params body scope dV kV doc pm an cdv ct),sl⟩) (e3:codeIn K cdv "law" = true) ..:∃ t,My.Txt K t
(the tactic k_is has no namespace: write k_is) -/
namespace L2
open PySem PySem.Spec PyProof.Rows
def dt (s:Stmt):Arguments:=match s with
 | .FunctionDef _ a _ _ _ _ _ _ _ _=>a
 | _=>{ posonlyargs:=[],args:=[],vararg:=none,kwonlyargs:=[],kw_defaults:=[],kwarg:=none,defaults:=[] }
def cH (s:Stmt):List Stmt:=match s with
 | .FunctionDef _ _ b _ _ _ _ _ _ _=>b
 | _=>[]
def am (s:Stmt):Scope:=match s with
 | .FunctionDef _ _ _ _ _ _ sc _ _ _=>sc
 | _=>{ kind:=.function,names:=[],isGenerator:=false,isCoroutine:=false }
abbrev CX0:CXT:=fun _ _ _ _ _ _=>False
abbrev E0:XK:=fun _ _ _=>False
theorem rG {X:Cx}:ky CX0 X E0:=fun _ _ _ _ _ _ _ h=>h.elim
structure Fun (K:PySem.W.Frag) (x qual:Str) (st:Stmt) (f:Addr) (fd:FuncData):Prop where
 ex:∃ (oc:Value) (od:Option Addr) (kV doc pm:Value) (an:Option Addr) (cdv ct:Value) (osl:Array (Option Value)),
  fd=PySem.W.fnOf x qual (dt st) (cH st) (am st) .none kV doc pm an cdv ct∧K.lookup f=some ⟨oc,od,.func fd,osl⟩∧PySem.W.codeIn K cdv qual=true
 kp:PySem.W.keepIn K (.ref f)=true
section
variable {P:Program} {w:World} {K:PySem.W.Frag} {mg:Str→Option Value} {base:Heap}
theorem Fun.ok {x qual:Str} {st:Stmt} {f:Addr} {fd:FuncData} {N ps:List Str} {k:Nat} {sp:Sp} (F:Fun K x qual st f fd) (S:FnScope N ps (am st)) (len:∀ vs H Q E,sp vs H Q E→vs.length=ps.length)
 (hbody:∀ (cdv:Value) (A:Around) (outer:List Env) (s:Shared) (H:Hp) (vs:List V) (Q:VK) (E:XK),Room k (A.deeper (envOfC qual (am st) s.heap.objs.size f cdv))→sp vs H Q E →
  ∃ t,PSs (kr CX0 P w K mg base N qual (am st) f cdv A outer s H E).nox (cH st) t∧t { nx:=fun _ H'=>Q .non H',rt:=Q } (dD N vs) H):FnOk P w K mg base CX0 (k + 1) f fd ps sp:=by
 obtain ⟨oc,od,kV,doc,pm,an,cdv,ct,osl,rfl,lk,hcd⟩:=F.ex
 refine fn_of lk hcd S len fun A outer s H vs Q E hr hsp=>?_
 obtain ⟨t,h,q⟩:=hbody cdv A outer s H vs Q E hr hsp
 exact ⟨t,h.nox,q⟩
theorem Fun.binds {x qual:Str} {st:Stmt} {f:Addr} {fd:FuncData} {ps:List Str} (F:Fun K x qual st f fd)
 (h:∀ (kV doc pm:Value) (an:Option Addr) (cdv ct:Value) (us:List Value),us.length=ps.length→bindArgs (PySem.W.fnOf x qual (dt st) (cH st) (am st) .none kV doc pm an cdv ct) ⟨us,[]⟩=pure (ps.zip us)):fT K fd ps []:=by
 obtain ⟨oc,od,kV,doc,pm,an,cdv,ct,osl,rfl,lk,hcd⟩:=F.ex
 exact .all (h kV doc pm an cdv ct)
theorem tQ {x qual:Str} {st:Stmt} {f:Addr} {oc:Value} {od an:Option Addr} {osl:Array (Option Value)} {kV doc pm cdv ct:Value} (l:K.lookup f=some ⟨oc,od,.func (PySem.W.fnOf x qual (dt st) (cH st) (am st) .none kV doc pm an cdv ct),osl⟩)
 (c:PySem.W.codeIn K cdv qual=true) (k:PySem.W.keepIn K (.ref f)=true):Fun K x qual st f (PySem.W.fnOf x qual (dt st) (cH st) (am st) .none kV doc pm an cdv ct):=⟨⟨oc,od,kV,doc,pm,an,cdv,ct,osl,rfl,l,c⟩,k⟩
end
theorem db {n:Nat} (h:n≤1000):n<sizeLine:=Nat.lt_of_le_of_lt h (by decide)
section
variable {X:Cx}
end
theorem b7 {c A B:Prop} [Decidable c] (h1:c→A) (h2 : ¬ c→B):if c then A else B:=by
 by_cases h:c
 ·rw [if_pos h]
  exact h1 h
 ·rw [if_neg h]
  exact h2 h
def aO (H H':Hp):Prop:=∀ b o,H b=some o→H' b=some o
theorem aO.refl (H:Hp):aO H H:=fun _ _ h=>h
theorem aO.trans {H H1 H2:Hp} (a:aO H H1) (b:aO H1 H2):aO H H2:=fun c o h=>b c o (a c o h)
inductive D where
 | non | bl (b:Bool) | int (i:Int) | str (x:Str) | tup (ds:List D) | lst (ds:List D) | dct | dic (ks:List Key) (ds:List D) | scr (φ:Addr→Prop) (ns:List Int) | ext (φ:Hp→Addr→Prop)
mutual
def Rep (H:Hp):D→V→Prop
 | .non,v=>v = .non
 | .bl b,v=>v = .bl b
 | .int i,v=>v = .int i
 | .str x,v=>v = .str x
 | .tup ds,v=>∃ a xs,v = .ref a∧H a=some (.tup xs)∧Reps H ds xs
 | .lst ds,v=>∃ a xs,v = .ref a∧H a=some (.lst xs)∧Reps H ds xs
 | .dct,v=>∃ a kvs,v = .ref a∧H a=some (.dK kvs)
 | .dic ks ds,v=>∃ a xs,v = .ref a∧H a=some (.dK (ks.zip xs))∧ks.length=ds.length∧Reps H ds xs
 | .scr φ ns,v=>∃ a,v = .ref a∧((∃ o,H a=some (.frz o (.lst (ns.map V.int))))∨φ a)
 | .ext φ,v=>∃ a H0,v = .ref a∧aO H0 H∧φ H0 a
def Reps (H:Hp):List D→List V→Prop
 | [],xs=>xs=[]
 | d :: ds,xs=>∃ v vs,xs=v :: vs∧Rep H d v∧Reps H ds vs
end
theorem Reps.length {H:Hp}:∀ {ds:List D} {xs:List V},Reps H ds xs→xs.length=ds.length
 | [],xs,h=>by rw [Reps] at h; subst h; rfl
 | d :: ds,xs,h=>by
  rw [Reps] at h
  obtain ⟨v,vs,rfl,_,h2⟩:=h
  have:=Reps.length h2
  simp [this]
mutual
theorem Rep.mono {H H':Hp} (e:aO H H'):∀ (d:D) (v:V),Rep H d v→Rep H' d v
 | .non,v,h=>by rw [Rep] at *; exact h
 | .bl b,v,h=>by rw [Rep] at *; exact h
 | .int i,v,h=>by rw [Rep] at *; exact h
 | .str x,v,h=>by rw [Rep] at *; exact h
 | .tup ds,v,h=>by
  rw [Rep] at *
  obtain ⟨a,xs,h1,h2,h3⟩:=h
  exact ⟨a,xs,h1,e _ _ h2,Reps.mono e ds xs h3⟩
 | .lst ds,v,h=>by
  rw [Rep] at *
  obtain ⟨a,xs,h1,h2,h3⟩:=h
  exact ⟨a,xs,h1,e _ _ h2,Reps.mono e ds xs h3⟩
 | .dct,v,h=>by
  rw [Rep] at *
  obtain ⟨a,kvs,h1,h2⟩:=h
  exact ⟨a,kvs,h1,e _ _ h2⟩
 | .dic ks ds,v,h=>by
  rw [Rep] at *
  obtain ⟨a,xs,h1,h2,h3,h4⟩:=h
  exact ⟨a,xs,h1,e _ _ h2,h3,Reps.mono e ds xs h4⟩
 | .scr φ ns,v,h=>by
  rw [Rep] at *
  obtain ⟨a,h1,h2⟩:=h
  refine ⟨a,h1,?_⟩
  rcases h2 with ⟨o,h2⟩ | h2
  ·exact .inl ⟨o,e _ _ h2⟩
  ·exact .inr h2
 | .ext φ,v,h=>by
  rw [Rep] at *
  obtain ⟨a,H0,h1,h2,h3⟩:=h
  exact ⟨a,H0,h1,fun b o q=>e _ _ (h2 b o q),h3⟩
theorem Reps.mono {H H':Hp} (e:aO H H'):∀ (ds:List D) (xs:List V),Reps H ds xs→Reps H' ds xs
 | [],xs,h=>by rw [Reps] at *; exact h
 | d :: ds,xs,h=>by
  rw [Reps] at *
  obtain ⟨v,vs,h1,h2,h3⟩:=h
  exact ⟨v,vs,h1,Rep.mono e d v h2,Reps.mono e ds vs h3⟩
end
def D.ty:D→String
 | .non => "NoneType" | .bl _ => "bool" | .int _ => "int" | .str _ => "str" | .tup _ => "tuple" | .lst _ => "list" | .dct => "dict" | .dic _ _ => "dict" | .scr _ _ => "list" | .ext _ => "object"
def D.isS:D→Bool
 | .scr _ _=>true
 | .ext _=>true
 | _=>false
theorem Rep.ty {K:PySem.W.Frag} {H:Hp} {d:D} {v:V} (h:Rep H d v) (hs:d.isS=false):TyOf K H v (.type d.ty):=by
 cases d with
 | non=>rw [Rep] at h; subst h; exact .non
 | bl b=>rw [Rep] at h; subst h; exact .bl b
 | int i=>rw [Rep] at h; subst h; exact .int i
 | str x=>rw [Rep] at h; subst h; exact .str x
 | tup ds=>rw [Rep] at h; obtain ⟨a,xs,rfl,h2,_⟩:=h; exact .tup h2
 | lst ds=>rw [Rep] at h; obtain ⟨a,xs,rfl,h2,_⟩:=h; exact .lst h2
 | dct=>rw [Rep] at h; obtain ⟨a,kvs,rfl,h2⟩:=h; exact .dK h2
 | dic ks ds=>rw [Rep] at h; obtain ⟨a,xs,rfl,h2,_⟩:=h; exact .dK h2
 | scr φ ns=>cases hs
 | ext φ=>cases hs
theorem iE {H:Hp} {a:Addr} {xs:List V} {ds:List D} (h:H a=some (.tup xs)) (r:Reps H ds xs):Rep H (.tup ds) (.ref a):=by rw [Rep]; exact ⟨a,xs,rfl,h,r⟩
theorem fX {H:Hp} {a:Addr} {xs:List V} {ds:List D} (h:H a=some (.lst xs)) (r:Reps H ds xs):Rep H (.lst ds) (.ref a):=by rw [Rep]; exact ⟨a,xs,rfl,h,r⟩
theorem bv {H:Hp}:Reps H [] []:=by rw [Reps]
theorem bo {H:Hp} {d:D} {v:V} {ds:List D} {vs:List V} (h:Rep H d v) (r:Reps H ds vs):Reps H (d :: ds) (v :: vs):=by rw [Reps]; exact ⟨v,vs,rfl,h,r⟩
theorem br {H:Hp} (i:Int):Rep H (.int i) (.int i):=by rw [Rep]
theorem ci {H:Hp} (i:Bool):Rep H (.bl i) (.bl i):=by rw [Rep]
theorem iY {H:Hp} (i:Str):Rep H (.str i) (.str i):=by rw [Rep]
theorem iI {H:Hp}:Rep H .non .non:=by rw [Rep]
theorem ny {H:Hp} {p:Addr} (h:H p=none) (o:HO):aO H (upd H p o):=fun b u q=>by rw [ax (aq q h)]; exact q
section
variable {X:Cx}
def lY (d:D) (T:String):Option Bool:=if d.isS=true then none else if (Value.type d.ty == Value.type T)=true then some true else if PySem.W.kitMeta T=true then (fastBuiltinMro d.ty).map (·.contains (.type T)) else none
theorem n_ (K:PySem.W.Frag) (d:D) (T:String) (hs:d.isS=false):PySem.W.kitOne K (.type d.ty) (.type T)=lY d T:=by
 unfold lY; rw [hs,if_neg (by decide)]; rfl
def rIsI:List V→Hp→VK→Prop:=fun xs H Q=>∃ x T d b,xs=[x,.ty T]∧Rep H d x∧lY d T=some b∧Q (.bl b) H
theorem jh:cE X (.builtin "isinstance") rIsI:=by
 intro pins s σ H xs us Q I r h
 obtain ⟨x,T,d,b,rfl,hd,e,q⟩:=h
 obtain ⟨u,w',rfl,ru,rw'⟩:=kS r
 cases (show w'=Value.type T from rw')
 have hs:d.isS=false:=by
  cases z:d.isS with
  | false=>rfl
  | true=>unfold lY at e; rw [z,if_pos rfl] at e; cases e
 rw [← n_ X.K d T hs] at e
 exact l9 I ru (hd.ty hs) e fun tk=>⟨.bl b,H,I.tok tk,rfl,q⟩
def Sm (i:Int):Prop:=i.natAbs<2 ^ 8000
theorem Sm.log {i:Int} (h:Sm i):i.natAbs.log2<8000:=by
 by_cases h0:i.natAbs=0
 ·rw [h0]; decide
 ·exact (Nat.log2_lt h0).mpr h
theorem Sm.bits {i:Int} (h:Sm i):Builtin.Int.intBits i≤8000:=by
 unfold Builtin.Int.intBits
 split
 ·exact Nat.zero_le _
 ·have:=h.log; omega
theorem Sm.mul {i j:Int} (h:Sm i) (h':Sm j):IntMulOk i j:=by
 have a:=h.bits
 have b:=h'.bits
 unfold IntMulOk Builtin.Int.intTooBig
 have e : ¬ ((Builtin.Int.intBits i:Int) + (Builtin.Int.intBits j:Int) > (bitsLine:Int)):=by
  have:bitsLine=134217728:=by decide
  omega
 rw [decide_eq_false e]
 simp
def CMulB (i j:Int):Prop:=Sm i∧Sm j
def CDivB (i j:Int):Prop:=0<j∧Sm j
theorem bI:OpR X (binaryOp .Mult) (rI CMulB fun i j=>.int (i * j)):=opI fun _ _ _ _ _ _ _ hc q=>mul_int q (hc.1.mul hc.2)
theorem cR:OpR X (binaryOp .FloorDiv) (rI CDivB fun i j=>.int (i / j)):=opI fun i j _ _ _ _ _ hc q=>by
 refine floordiv_int (Int.ne_of_gt hc.1) ?_ (.inl (PyProof.noPylong_of_log2 (Nat.lt_of_lt_of_le hc.2.log (by decide))))
 rw [Int.fdiv_eq_ediv_of_nonneg _ (Int.le_of_lt hc.1)]
 exact q
end
theorem bi:bootBuiltins "len" = some (.builtin "len"):=by decide +kernel
theorem iH:bootBuiltins "max" = some (.builtin "max"):=by decide +kernel
theorem gq:bootBuiltins "min" = some (.builtin "min"):=by decide +kernel
theorem aK:bootBuiltins "isinstance" = some (.builtin "isinstance"):=by decide +kernel
theorem ve:bootBuiltins "sum" = some (.builtin "sum"):=by decide +kernel
theorem h9:bootBuiltins "sorted" = some (.builtin "sorted"):=by decide +kernel
theorem ll:bootBuiltins "repr" = some (.builtin "repr"):=by decide +kernel
theorem jR:bootBuiltins "int" = some (.type "int"):=by decide +kernel
theorem qV:bootBuiltins "bool" = some (.type "bool"):=by decide +kernel
theorem d4:bootBuiltins "tuple" = some (.type "tuple"):=by decide +kernel
theorem bj:bootBuiltins "list" = some (.type "list"):=by decide +kernel
theorem sA:bootBuiltins "str" = some (.type "str"):=by decide +kernel
theorem i4:bootBuiltins "enumerate" = some (.type "enumerate"):=by decide +kernel
theorem sL:bootBuiltins "zip" = some (.type "zip"):=by decide +kernel
def bX (n b:Int):Int:=if b=0 then n else (Int.gcd n b:Int)
theorem ig {n b:Int} (h : 0<b):bX b (n % b)=bX n b:=by
 unfold bX
 have e:Int.gcd n b=Int.gcd b (n % b):=by
  rw [Int.emod_def,Int.gcd_sub_mul_left_right,Int.gcd_comm]
 rw [if_neg (show ¬ b=0 by omega)]
 split
 ·rename_i h0
  rw [e,h0,Int.gcd_zero_right]
  omega
 ·rw [e]
theorem dW {n b:Int} (h : 0<b) : 0<bX n b:=by
 unfold bX
 rw [if_neg (by omega)]
 have : 0<Int.gcd n b:=Int.gcd_pos_of_ne_zero_right _ (by omega)
 omega
theorem iU {n b:Int} (h : 0<b):bX n b≤b:=by
 unfold bX
 rw [if_neg (by omega)]
 exact Int.le_of_dvd h (Int.gcd_dvd_right ..)
theorem ra {n b:Int} (h : 0<b):bX n b∣n:=by
 unfold bX
 rw [if_neg (by omega)]
 exact Int.gcd_dvd_left ..
theorem qP {n b:Int} (h : 0<b):bX n b∣b:=by
 unfold bX
 rw [if_neg (by omega)]
 exact Int.gcd_dvd_right ..
section
variable {X:Cx} {pins:List (Addr×Obj)} {σ:St} {H:Hp} {s:Shared} {pos:Pos}
end
end L2
namespace L2
open PySem
theorem bM {i:Int} {n:Nat} (h:i.natAbs≤n) (hn:n<2 ^ 8000):Sm i:=Nat.lt_of_le_of_lt h hn
end L2
namespace L2
open PySem PySem.Spec PyProof.Rows
def CL (env:Env):List (Str×Addr)→Prop
 | []=>True
 | p :: r=>env.cells.lookup p.1=some p.2∧CL env r
theorem CL.get {env:Env}:∀ {cl:List (Str×Addr)},CL env cl→∀ {x:Str} {c:Addr},cl.lookup x=some c→env.cells.lookup x=some c
 | [],_,x,c,h=>by simp at h
 | (y,d) :: r,h,x,c,e=>by
  rw [List.lookup_cons] at e
  cases hx:x == y with
  | true =>
   rw [hx] at e
   have e1:x=y:=by simpa using hx
   have e2:d=c:=Option.some.inj e
   subst e1 e2
   exact h.1
  | false =>
   rw [hx] at e
   exact CL.get h.2 e
theorem d3 {env:Env}:∀ {names:List (Str×NameKind)} {x:Str} {k:NameKind},
 (names.map fun (n,k)=>if (k == NameKind.free&&env.scope.kind == .function&&env.kindOf n == some .cell) then (n,NameKind.cell) else (n,k)).lookup x=some k →
 ∃ k',names.lookup x=some k'∧(k'=k∨(k' = .free∧k = .cell))
 | [],x,k,h=>by simp at h
 | (n,kn) :: r,x,k,h=>by
  have ih:=@d3 env r x k
  by_cases hc:(kn == NameKind.free&&env.scope.kind == .function&&env.kindOf n == some .cell)=true
  ·have h':List.lookup x ((n,NameKind.cell) :: (r.map fun (n,k)=>if (k == NameKind.free&&env.scope.kind == .function&&env.kindOf n == some .cell) then (n,NameKind.cell) else (n,k)))=some k:=by
    rw [List.map_cons] at h
    simp only [hc,if_true] at h
    exact h
   rw [List.lookup_cons] at h' ⊢
   cases hx:x == n with
   | true =>
    rw [hx] at h'
    have:kn = .free:=by
     simp only [Bool.and_eq_true,beq_iff_eq] at hc
     exact hc.1.1
    exact ⟨kn,rfl,.inr ⟨this,(Option.some.inj h').symm⟩⟩
   | false=>rw [hx] at h'; exact ih h'
  ·have h':List.lookup x ((n,kn) :: (r.map fun (n,k)=>if (k == NameKind.free&&env.scope.kind == .function&&env.kindOf n == some .cell) then (n,NameKind.cell) else (n,k)))=some k:=by
    rw [List.map_cons] at h
    simp only [hc] at h
    exact h
   rw [List.lookup_cons] at h' ⊢
   cases hx:x == n with
   | true=>rw [hx] at h'; exact ⟨kn,rfl,.inl (Option.some.inj h')⟩
   | false=>rw [hx] at h'; exact ih h'
def bA (X:Cx) (scope:Scope) (cl:List (Str×Addr)) (N:List Str) (C:Addr) (s₀:Shared) (H₀:Hp) (ex:List Addr):Cx where
 prog:=X.prog
 w:=X.w
 K:=X.K
 mg:=X.mg
 base:=X.base
 A:=X.A
 N:=N
 s₀:=s₀
 H₀:=H₀
 env:=compEnvC scope cl C X.env
 outer:=X.stack
 stack:=X.stack
 ex:=ex
 fn:=fun _=>false
 calm:=X.calm
 pn:=[]
 xe:=fun _ _=>False
def okJ (X:Cx) (scope:Scope) (j:Nat):Bool:=match X.N[j]? with
 | some x=>(match X.env.scope.names.lookup x with | some .cell=>true | _=>false)&&(match scope.names.lookup x with | some .free=>true | _=>false)
 | none=>false
def bS (own:List Str) (js:List Nat) (σ:St):St:=own.map (fun _=>none)++js.map fun j=>(σ[j]?).getD none
def cz (X:Cx) (own:List Str) (js:List Nat):List Str:=own++js.map fun j=>(X.N[j]?).getD (Str.ofString "")
structure CompOk (X:Cx) (scope:Scope) (cl:List (Str×Addr)) (own:List Str) (js:List Nat):Prop where
 clos:closureFor scope X.env=pure cl
 kind:scope.kind = .function
 names:∀ x∈scope.names,x.2 = .local→scope.names.lookup x.1=some .local
 ncell:(scope.names.all fun y=>match y.2 with | .cell=>false | _=>true)=true
 has:(scope.names.all fun y=>match y.2 with | .free=>(cl.lookup y.1).isSome | _=>true)=true
 cells:CL X.env cl
 js:js.all (okJ X scope)=true
theorem CompOk.nc {X:Cx} {scope:Scope} {cl:List (Str×Addr)} {own:List Str} {js:List Nat} (c:CompOk X scope cl own js):∀ y∈scope.names,y.2≠.cell:=fun y hy e=>by
 have:=List.all_eq_true.mp c.ncell y hy
 rw [e] at this
 cases this
theorem CompOk.fr {X:Cx} {scope:Scope} {cl:List (Str×Addr)} {own:List Str} {js:List Nat} (c:CompOk X scope cl own js) {x:Str} (h:scope.names.lookup x=some .free):∃ d,cl.lookup x=some d:=by
 have:=List.all_eq_true.mp c.has (x,.free) (PySem.mem_of_lookup h)
 exact Option.isSome_iff_exists.mp this
section
variable {X:Cx} {pins:List (Addr×Obj)} {σ:St} {H:Hp} {s:Shared} {scope:Scope} {cl:List (Str×Addr)} {own:List Str} {js:List Nat}
theorem kb {h1:Heap} {C:Addr} {fp:List Addr} {t':Nat} (c:CompOk X scope cl own js) (I:Inv X pins σ H s) (hf:∀ b∈fp,iZ X pins H b) (hlt:∀ b∈fp,b<s.heap.objs.size)
 (hC:s.heap.objs.size≤C) (hk:∀ b o,s.heap.get? b=some o→h1.get? b=some o) (hn:h1.Ns C fun _=>none) :
 Inv (bA X scope cl (cz X own js) C s H fp) [] (bS own js σ) H { s with heap:=h1,toks:=t' }:=by
 have kindOfY:∀ x k,(bA X scope cl (cz X own js) C s H fp).env.kindOf x=some k→∃ k',scope.names.lookup x=some k'∧(k'=k∨(k' = .free∧k = .cell)):=fun x k e=>d3 (env:=X.env) (names:=scope.names) e
 refine ⟨⟨I.ok.mod,c.kind,I.ok.glob,I.ok.blt,hC,fun x y d h1 h2=>I.ok.inj x y d (c.cells.get h1) (c.cells.get h2),fun x hx=>?_,fun x d h=>(by cases h),I.ok.hd,I.ok.frames,.inl rfl,fun b hb=>⟨?_,fun x d e=>(hf b hb).2.2.2.2.1 x d (c.cells.get e)⟩,
  fun b o e=>I.bs b o e,Nat.le_trans I.ok.bsz I.sz,fun b o e hb=>?_,fun b hb z=>?_,I.stack,I.stkFree,I.ok.tb.un I.base⟩,rfl,I.bare,Un.kept hk,⟨_,hn,fun i x v e1 e2 e3=>?_⟩,fun x d e=>?_,I.hok.fresh hC,fun x d e=>I.freeC x d (c.cells.get e),fun p hp=>(by cases hp),I.hok.kept hk,?_⟩
 ·rcases hx with hx | hx
  ·obtain ⟨k',e1,e2⟩:=kindOfY x _ hx
   rcases e2 with e2 | ⟨e2,_⟩
   ·exact absurd e2 (c.nc _ (PySem.mem_of_lookup e1))
   ·subst e2; exact c.fr e1
  ·obtain ⟨k',e1,e2⟩:=kindOfY x _ hx
   rcases e2 with e2 | ⟨_,e2⟩
   ·subst e2; exact c.fr e1
   ·cases e2
 ·exact Nat.ne_of_lt (Nat.lt_of_lt_of_le (hlt b hb) hC)
 ·rcases (hf b hb).2.2.2.1 with z | z
  ·exact I.ok.noex b o e z
  ·exact absurd (Nat.lt_of_lt_of_le (Heap.lt_size e) (Nat.le_trans I.ok.bsz z)) (Nat.lt_irrefl _)
 ·rcases List.mem_cons.mp (I.stkSub b z) with q | q
  ·exact (hf b hb).2.1 q
  ·exact (hf b hb).2.2.1 q
 ·-- a name taken from the frame
  have e1:(cz X own js)[i]? = some x:=e1
  unfold cz at e1
  unfold bS at e2
  by_cases hi:i<own.length
  ·rw [List.getElem?_append_left (by simpa using hi),List.getElem?_map,List.getElem?_eq_getElem hi] at e2
   cases e2
  ·rw [List.getElem?_append_right (by simpa using Nat.not_lt.mp hi),List.getElem?_map,List.length_map] at e2
   rw [List.getElem?_append_right (Nat.not_lt.mp hi),List.getElem?_map] at e1
   cases ej:js[i - own.length]? with
   | none=>rw [ej] at e2; cases e2
   | some j =>
    rw [ej] at e1 e2
    have hj:=List.all_eq_true.mp c.js j (List.mem_of_getElem? ej)
    unfold okJ at hj
    have e1':(X.N[j]?).getD (Str.ofString "")=x:=Option.some.inj e1
    have e2':(σ[j]?).getD none=some v:=Option.some.inj e2
    cases en:X.N[j]? with
    | none=>rw [en] at hj; cases hj
    | some y =>
     rw [en] at hj e1'
     have e1'':y=x:=e1'
     subst e1''
     have hv : σ[j]? = some (some v):=by
      cases es : σ[j]? with
      | none=>rw [es] at e2'; cases e2'
      | some ov=>rw [es] at e2'; rw [show ov=some v from e2']
     dsimp only at hj
     rw [Bool.and_eq_true] at hj
     have k1:X.env.scope.names.lookup y=some .cell:=by
      have:=hj.1
      split at this
      ·assumption
      ·cases this
     have k2:scope.names.lookup y=some .free:=by
      have:=hj.2
      split at this
      ·assumption
      ·cases this
     obtain ⟨m,_,hl⟩:=I.loc
     obtain ⟨u,ru,l⟩:=hl j y v en hv (.inr (.inl k1))
     refine ⟨u,ru,?_⟩
     rcases l with ⟨l,_⟩ | ⟨_,d,ed,z⟩
     ·rw [show X.env.kindOf y=some .cell from k1] at l; cases l
     ·obtain ⟨d',ed'⟩:=c.fr k2
      have:=c.cells.get ed'
      rw [ed] at this
      cases this
      obtain ⟨o,ho,hd⟩:=z
      refine .inr ⟨?_,d,ed',⟨o,hk _ _ ho,hd⟩⟩
      have e3:(bA X scope cl (cz X own js) C s H fp).env.scope.names.lookup y=some .local∨(bA X scope cl (cz X own js) C s H fp).env.scope.names.lookup y=some .cell∨(bA X scope cl (cz X own js) C s H fp).env.scope.names.lookup y=some .free:=e3
      rcases e3 with e3 | e3 | e3
      ·obtain ⟨k',q1,q2⟩:=kindOfY y _ e3
       rw [k2] at q1
       cases q1
       rcases q2 with q2 | ⟨_,q2⟩ <;> cases q2
      ·exact .inl e3
      ·exact .inr e3
 ·obtain ⟨v,o,ho,hd⟩:=I.cell x d (c.cells.get e)
  exact ⟨v,o,hk _ _ ho,hd⟩
 ·show (bS own js σ).length=(cz X own js).length
  unfold bS cz
  simp
structure PIf (X:Cx) (ifs:List Expr) (t:TT):Prop where
 go:∀ (pins:List (Addr×Obj)) (s:Shared) (σ:St) (H:Hp) (Q:Bool→Hp→Prop),Inv X pins σ H s→t σ H Q →
  wpAny (model X.prog X.w) X.A (forIn ifs true fun c r=>if r=true then do let ok ← isTrue c X.env (eval c X.env); pure (ForInStep.yield ok) else pure (ForInStep.yield r)) (TP X pins σ Q) X.xe s
def tYes:TT:=fun _ H Q=>Q true H
theorem qM:PIf X [] tYes:=⟨fun pins s σ H Q I h=>wpAny_tests_nil ⟨H,I,h⟩⟩
theorem qH {c:Expr} {t:TT} (h:PT X c t):PIf X [c] t:=⟨fun pins s σ H Q I q=>wpAny_tests_one (h.go pins s σ H Q I q)⟩
theorem eu {prog:Program} {w:World} {A:Around} {R:Result→Shared→Prop} {s:Shared} {elt target iter:Expr} {ifs:List Expr} {scope:Scope} {pos:Pos} {it acc:Value} {env:Env} (I:Nat→Shared→Prop)
 (turn:∀ n s,I n s→wpAny (model prog w) A (pyNext it) (fun r s₁=>match r with
  | none=>R (.ok .next) s₁
  | some v=>wpAny (model prog w) A (letOwnedTupleGo target it v) (fun _ s₁=>wpAny (model prog w) A (assign target env v) (fun _ s₂ =>
   wpAny (model prog w) A (forIn ifs true fun c r=>if r=true then do let ok ← isTrue c env (eval c env); pure (ForInStep.yield ok) else pure (ForInStep.yield r)) (fun ok s₃ =>
    if ok=true then wpAny (model prog w) A (eval elt env) (fun x s₄ =>
     wpAny (model prog w) A (call (.builtin "list.append") [acc,x]) (fun _ s₅=>∃ m,m<n∧I m s₅) (fun _ _=>False) s₄) (fun _ _=>False) s₃
    else ∃ m,m<n∧I m s₃) (fun _ _=>False) s₂) (fun _ _=>False) s₁) (fun _ _=>False) s₁) (fun _ _=>False) s)
 (n:Nat) (h:I n s) :
 codeAny (model prog w) A (.compLoop (.ListComp elt [⟨target,iter,ifs,0⟩] scope pos) 0 it acc env) R s:=by
 refine codeAny_loop rfl I (fun n s hI=>?_) n h
 show wpAny _ A ((compTurn (.ListComp elt [⟨target,iter,ifs,0⟩] scope pos) 0 it acc env).onRaise (fun x=>do noteFrame x env; theTreesLotGoes x)) _ _ s
 refine wpAny_noted ?_
 rw [compTurn_list]
 refine wpAny_bind (wpAny_standAt (wpAny_bind (wpAny_mono (turn n s hI) (fun r s₁ h₁=>?_) fun _ _ h'=>h'.elim)))
 cases r with
 | none=>exact wpAny_pure h₁
 | some v =>
  refine wpAny_bind (wpAny_mono h₁ (fun _ s₁ h₁=>?_) fun _ _ h'=>h'.elim)
  refine wpAny_bind (wpAny_mono h₁ (fun _ s₂ h₂=>wpAny_bind (wpAny_mono h₂ (fun ok s₃ h₃=>?_) fun _ _ h'=>h'.elim)) fun _ _ h'=>h'.elim)
  cases ok with
  | false=>exact wpAny_pure ⟨rfl,h₃⟩
  | true =>
   exact wpAny_bind (wpAny_bind (wpAny_mono h₃ (fun x s₄ h₄=>wpAny_bind (wpAny_mono h₄ (fun _ s₅ h₅=>wpAny_pure (wpAny_pure ⟨rfl,h₅⟩)) fun _ _ h'=>h'.elim)) fun _ _ h'=>h'.elim))
def kept:St→St→Prop
 | [],[]=>True
 | none :: r,_ :: r'=>kept r r'
 | some v :: r,y :: r'=>y=some v∧kept r r'
 | [],_ :: _=>False
 | _ :: _,[]=>False
theorem e9:∀ {a b:St},kept a b→a.length=b.length
 | [],[],_=>rfl
 | none :: r,_ :: r',h=>congrArg (· + 1) (e9 (a:=r) (b:=r') h)
 | some v :: r,y :: r',h=>congrArg (· + 1) (e9 (a:=r) (b:=r') h.2)
 | [],_ :: _,h=>False.elim h
 | none :: _,[],h=>False.elim h
 | some _ :: _,[],h=>False.elim h
theorem dY:∀ {a b:St},kept a b→∀ (i:Nat) (v:V),a[i]? = some (some v)→b[i]? = some (some v)
 | [],[],_,i,v,e=>by simp at e
 | none :: r,_ :: r',h,0,v,e=>by simp at e
 | none :: r,_ :: r',h,i + 1,v,e=>by simpa using dY (a:=r) (b:=r') h i v (by simpa using e)
 | some w :: r,y :: r',h,0,v,e=>by simp at e; subst e; simp [h.1]
 | some w :: r,y :: r',h,i + 1,v,e=>by simpa using dY (a:=r) (b:=r') h.2 i v (by simpa using e)
 | [],_ :: _,h,_,_,_=>False.elim h
 | none :: _,[],h,_,_,_=>False.elim h
 | some _ :: _,[],h,_,_,_=>False.elim h
def ly (J:It) (g:TG) (tt:TT) (te:TE) (σ0:St) (H:Hp) (Z:List V→Hp→Prop):Prop :=
 ∃ W:Nat→Nat→List V→Hp→Prop,(∃ m,W 0 m [] H)∧∀ i m acc H,W i m acc H →
  (J.stop i H∧acc.length≤sizeLine∧Z acc H)∨(J.go i H∧acc.length<sizeLine∧∃ N:List V→Hp→Prop,(∀ acc' H',N acc' H'→∃ m',m'<m∧W (i + 1) m' acc' H') ∧
   ∀ x H',J.yld i H x H'→g x σ0 H' fun σ2 H2=>kept σ0 σ2∧tt σ2 H2 fun b H3=>if b=true then te σ2 H3 fun v H4=>N (acc++[v]) H4 else N acc H3)
theorem HOk.adopt {P:Program} {w:World} {H:Hp} {h:Heap} {a:Addr} {o:HO} (x:HOk P w H h) (hn:H a=none) (new:bQ P w (upd H a o) h a o):HOk P w (upd H a o) h:=fun b u e=>by
 by_cases hb:b=a
 ·subst hb; rw [aU] at e; cases e; exact new
 ·rw [ax hb] at e
  exact (x b u e).stay (fun c v _ q=>q) (fun c q=>by rw [ax (aq q hn)]; exact q) (fun c xs q=>by rw [ax (aq q hn)]; exact q) fun c ob u q=>by rw [ax (aq q hn)]; exact q
theorem iw {elt tg iter:Expr} {ifs:List Expr} {pos:Pos} {J:It} {fp:List Addr} {it:Addr} {tn:Nat→Heap→Prop} {g:TG} {tt:TT} {te:TE} {Z:List V→Hp→Prop} {E:Value→Shared→Prop}
 {RR:Value→Addr→Result→Shared→Prop} (c:CompOk X scope cl own js) (hc:X.calm=true) (I:Inv X pins σ H s) (T:Turn X.prog X.w X.K tg J fp it tn) (t0:tn 0 s.heap) (hf:∀ b∈fp,iZ X pins H b)
 (inner:∀ (C:Addr) (s₀:Shared) (H₀:Hp) (ex:List Addr),PG (bA X scope cl (cz X own js) C s₀ H₀ ex) tg g∧PIf (bA X scope cl (cz X own js) C s₀ H₀ ex) ifs tt∧PE (bA X scope cl (cz X own js) C s₀ H₀ ex) elt te)
 (hW:ly J g tt te (bS own js σ) H Z)
 (hRR:∀ (D C:Addr) (s':Shared) (acc:List V) (H':Hp),(∃ m,s'.heap.Ns C m)→H' D=none→Z acc H'→s.heap.objs.size≤C→C≠X.env.locals→(upd H' D (.lst acc)) C=none→(∀ h',Heap.SameBut C s'.heap h'→Inv X pins σ (upd H' D (.lst acc)) { s' with heap:=h' })→RR (.ref D) C (.ok .next) s') :
 wpAny (model X.prog X.w) X.A (newList []) (fun acc s₃=>wpAny (model X.prog X.w) X.A (newFunctionEnv scope X.env.globals cl [] X.env.qual none .none (some X.env)) (fun cenv s₄ =>
  codeAny (model X.prog X.w) X.A (.compStart (.ListComp elt [⟨tg,iter,ifs,0⟩] scope pos) 0 (.ref it) acc { cenv with scope:=relabel scope X.env }) (RR acc cenv.locals) s₄) E s₃) E s:=by
 refine wpAny_newObj_type (wpAny_newFunctionEnv c.nc (by intro y hy; simp at hy) (fun h₁ hns₁ hsb₁=>?_) c.kind)
 dsimp only at hns₁ hsb₁ ⊢
 generalize hH2:s.heap.push { cls:=.type "list",dict:=none,data:=.seq ([]:List Value).toArray } = H2 at hns₁ hsb₁ ⊢
 have hCs:H2.objs.size=s.heap.objs.size + 1:=by rw [← hH2,Heap.size_push]
 have hns₁:h₁.Ns H2.objs.size (fun _=>none):=hns₁
 have hCle:s.heap.objs.size≤H2.objs.size:=by rw [hCs]; exact Nat.le_succ _
 have hDC:s.heap.objs.size≠H2.objs.size:=by rw [hCs]; exact Nat.ne_of_lt (Nat.lt_succ_self _)
 have below:∀ b,b<s.heap.objs.size→b≠H2.objs.size∧b≠s.heap.objs.size:=fun b hb=>⟨by rw [hCs]; exact Nat.ne_of_lt (Nat.lt_succ_of_lt hb),Nat.ne_of_lt hb⟩
 have old:∀ b o,s.heap.get? b=some o→h₁.get? b=some o:=fun b o e=>hsb₁.extBut b o (below b (Heap.lt_size e)).1 (Heap.get?_push_of_some _ (hH2 ▸ Heap.get?_push_of_some _ e))
 have hD1:h₁.get? s.heap.objs.size=some { cls:=.type "list",data:=.seq ([]:List Value).toArray }:=hsb₁.extBut _ _ hDC (Heap.get?_push_of_some _ (hH2 ▸ Heap.get?_push_size _ rfl))
 have hlt:∀ b∈fp,b<s.heap.objs.size:=fun b hb=>by
  obtain ⟨o,e,_⟩:=T.obj 0 _ t0 b hb
  exact Heap.lt_size e
 have hCL:H2.objs.size≠X.env.locals:=fun z=>absurd (Nat.lt_of_lt_of_le I.lt (by rw [← z]; exact hCle)) (Nat.lt_irrefl _)
 have hDfs:s.heap.objs.size ∉ frs X.stack:=fun z=>by
  rcases List.mem_cons.mp (I.stkSub _ z) with q | q
  ·exact absurd I.lt (by rw [← q]; exact Nat.lt_irrefl _)
  ·exact I.nofs (Nat.le_refl _) q
 have hfs:∀ b∈fp,b ∉ frs X.stack:=fun b hb z=>by
  rcases List.mem_cons.mp (I.stkSub b z) with q | q
  ·exact (hf b hb).2.1 q
  ·exact (hf b hb).2.2.1 q
 have hDcell:∀ x d,cl.lookup x=some d→d≠s.heap.objs.size:=fun x d e=>by
  obtain ⟨v,q⟩:=I.cell x d (c.cells.get e)
  exact Nat.ne_of_lt q.lt
 have fresh:H s.heap.objs.size=none:=I.hok.fresh (Nat.le_refl _)
 obtain ⟨W,⟨m0,w0⟩,turn⟩:=hW
 have loop:∀ s₃:Shared,s₃ = { s with heap:=h₁,toks:=s.toks + ([]:List (Str×Value)).length } →
  codeAny (model X.prog X.w) X.A (.compLoop (.ListComp elt [⟨tg,iter,ifs,0⟩] scope pos) 0 (.ref it) (.ref s.heap.objs.size) (compEnvC scope cl H2.objs.size X.env)) (RR (.ref s.heap.objs.size) H2.objs.size) s₃:=by
  rintro s₃ rfl
  have I0:=kb (t':=s.toks + ([]:List (Str×Value)).length) c I hf hlt hCle old hns₁
  obtain ⟨hg,hi,he⟩:=inner H2.objs.size s H fp
  generalize hY:bA X scope cl (cz X own js) H2.objs.size s H fp=Y at I0 hg hi he
  have Yp:Y.prog=X.prog:=by rw [← hY]; rfl
  have Yw:Y.w=X.w:=by rw [← hY]; rfl
  have YK:Y.K=X.K:=by rw [← hY]; rfl
  have YA:Y.A=X.A:=by rw [← hY]; rfl
  have Ye:Y.env=compEnvC scope cl H2.objs.size X.env:=by rw [← hY]; rfl
  have Yl:Y.env.locals=H2.objs.size:=by rw [← hY]; rfl
  have Yc:Y.env.cells=cl:=by rw [← hY]; rfl
  have Yf:Y.fs=frs X.stack:=by rw [← hY]; rfl
  have Yx:Y.ex=fp:=by rw [← hY]; rfl
  have Ys:Y.s₀=s:=by rw [← hY]; rfl
  have YH:Y.H₀=H:=by rw [← hY]; rfl
  have Yn:Y.pn=[]:=by rw [← hY]; rfl
  have Yo:Y.calm=true:=by rw [← hY]; exact hc
  have YE:Y.xe=fun _ _=>False:=by rw [← hY]; rfl
  have fpY:∀ {H':Hp} (pn:List (Addr×Obj)),(∀ b∈fp,H' b=none)→(∀ b∈fp,∀ p∈pn,p.1≠b)→∀ b∈fp,iZ Y pn H' b:=fun pn hn hp b hb =>
   ⟨hn b hb,by rw [Yl]; exact (below b (hlt b hb)).1,by rw [Yf]; exact hfs b hb,.inl (by rw [Yx]; exact hb),fun x d e=>(hf b hb).2.2.2.2.1 x d (c.cells.get (by rw [← Yc]; exact e)),fun p hp'=>hp b hb p (by rw [Yn] at hp'; exact hp')⟩
  refine eu (fun n s'=>∃ i acc its k H',Inv Y [] (bS own js σ) H' s'∧tn i s'.heap∧(∀ b∈fp,H' b=none)∧W i n acc H'∧H' s.heap.objs.size=none∧s'.heap.get? s.heap.objs.size=some { cls:=.type "list",data:=.seq (its:List Value).toArray k }∧aS acc its) ?_ m0
   ⟨0,[],[],0,H,I0,T.keep 0 _ _ t0 (fun b hb o e=>old b o e),fun b hb=>(hf b hb).1,w0,fresh,hD1,.nil⟩
  rintro n s' ⟨i,acc,its,k,H',I',tn',fr',w',hD',oD',hv'⟩
  have hpinD:∀ b∈fp,∀ p∈[(s.heap.objs.size,({ cls:=.type "list",data:=.seq its.toArray k }:Obj))],p.1≠b:=fun b hb p hp=>by
   rw [List.mem_singleton] at hp
   subst hp
   exact fun z=>(below b (hlt b hb)).2 z.symm
  have ID:Inv Y [(s.heap.objs.size,({ cls:=.type "list",data:=.seq its.toArray k }:Obj))] (bS own js σ) H' s':=I'.pins_of fun p hp=>by
   rw [List.mem_singleton] at hp
   subst hp
   exact ⟨oD',hD',by rw [Yl]; exact hDC,by rw [Yf]; exact hDfs,fun v z=>by cases z⟩
  rcases turn i n acc H' w' with ⟨stop,hlen,hz⟩ | ⟨go,hlen,N,hN,step⟩
  ·have hd:=T.done Y Yp Yw YK Yo i _ s' (bS own js σ) H' (fun _ _=>False) ID (fpY _ fr' hpinD) tn' stop
   rw [YA] at hd
   refine thn hd fun r s1 ⟨hr,I1⟩=>?_
   subst hr
   obtain ⟨oD1,_⟩:=I1.pin _ (List.mem_append_right _ (List.mem_singleton.mpr rfl))
   have hC0:H' H2.objs.size=none:=by have:=I1.free; rw [Yl] at this; exact this
   have B1:Un (frs X.stack) fp H H' s.heap s1.heap:=by have:=I1.base; rw [Yf,Yx,YH,Ys] at this; exact this
   refine hRR s.heap.objs.size H2.objs.size s1 acc H' (by obtain ⟨m,hn,_⟩:=I1.loc; rw [Yl] at hn; exact ⟨m,hn⟩) hD' hz hCle hCL (by rw [ax (Ne.symm hDC)]; exact hC0) fun h' hsb=>?_
   have at':∀ b o,b≠H2.objs.size→s1.heap.get? b=some o→h'.get? b=some o:=fun b o hb e=>by rw [hsb.2 b hb]; exact e
   refine I.call' (s':={ s1 with heap:=h' }) (ch:=fp) (by have:=I1.os; rw [Ys] at this; exact this) ⟨fun b o q nn hb hx=>?_,fun b o q nn hb hx=>?_,fun b o q nn hx=>?_,fun b o q hx=>?_,fun b xs q=>?_,fun b o u q=>?_,fun b ps q0 q=>?_⟩ ?_ I1.bare fun b hb=>⟨(hf b hb).2.2.2.1,(hf b hb).2.1,(hf b hb).2.2.2.2.1,(hf b hb).2.2.2.2.2⟩
   ·exact at' b o (below b (Heap.lt_size q)).1 (B1.keep b o q nn hb hx)
   ·obtain ⟨sl,e⟩:=B1.slot b o q nn hb hx
    exact ⟨sl,at' b _ (below b (Heap.lt_size q)).1 e⟩
   ·rw [ax (below b (Heap.lt_size q)).2]; exact B1.free b o q nn hx
   ·obtain ⟨o',e⟩:=B1.there b o q hx
    exact ⟨o',at' b _ (below b (Heap.lt_size q)).1 e⟩
   ·have q':=B1.tups b xs q
    rw [ax (aq q' hD')]; exact q'
   ·have q':=B1.frzs b o u q
    rw [ax (aq q' hD')]; exact q'
   ·obtain ⟨more,q'⟩:=B1.tbls b ps _ q
    exact ⟨more,by rw [ax (aq q' hD')]; exact q'⟩
   ·have hok1:HOk X.prog X.w H' h':=fun a o e=>by
     have hok:=I1.hok
     rw [Yp,Yw] at hok
     refine (hok a o e).stay (fun b u hb q=>at' b u ?_ q) (fun _ q=>q) (fun _ _ q=>q) fun _ _ _ q=>q
     rcases hb with rfl | hb
     ·exact aq e hC0
     ·exact aq hb hC0
    exact hok1.adopt hD' ⟨hlen,its,k,hv',at' _ _ hDC oD1⟩
  ·have hd:=T.item Y Yp Yw YK Yo i _ s' (bS own js σ) H' (fun _ _=>False) ID (fpY _ fr' hpinD) tn' go
   rw [YA] at hd
   refine thn hd fun r s1 ⟨u,hr,h4⟩=>?_
   subst hr
   have h4:=h4
   refine thn h4 fun _ s2 ⟨x,H5,I5,r5,y5,tn5,fr5⟩=>?_
   have I5':=I5.pinned (fpY _ fr5 hpinD) (T.obj _ _ tn5)
   have hg':=hg.go _ s2 _ H5 x u _ I5' r5 (step x H5 y5)
   rw [Yp,Yw,YA,Ye,YE] at hg'
   refine thn hg' fun _ s3 ⟨σ6,H6,I6,kp6,q6⟩=>?_
   have hi':=hi.go _ s3 σ6 H6 _ I6 q6
   rw [Yp,Yw,YA,Ye,YE] at hi'
   refine thn hi' fun ok s4 ⟨H7,I7,q7⟩=>?_
   cases ok with
   | false =>
    rw [if_neg Bool.false_ne_true] at q7 ⊢
    obtain ⟨m',hm,w7⟩:=hN _ _ q7
    obtain ⟨oD7,hD7,_⟩:=I7.pin _ (List.mem_append_right _ (List.mem_append_left _ (List.mem_singleton.mpr rfl)))
    refine ⟨m',hm,i + 1,acc,its,k,H7,(I7.pins_of (pins':=[]) fun p hp=>(by cases hp)).weak (e9 kp6) (dY kp6),T.keep _ _ _ tn5 fun b hb o e=>(I7.pin (b,o) (List.mem_append_right _ (List.mem_append_right _ (cj hb e)))).1,fun b hb=>?_,w7,hD7,oD7,hv'⟩
    obtain ⟨o,e,_⟩:=T.obj _ _ tn5 b hb
    exact (I7.pin (b,o) (List.mem_append_right _ (List.mem_append_right _ (cj hb e)))).2.1
   | true =>
    rw [if_pos rfl] at q7 ⊢
    have he':=he.go _ s4 σ6 H7 _ I7 q7
    rw [Yp,Yw,YA,Ye,YE] at he'
    refine thn he' fun v s5 ⟨xv,H8,I8,r8,n8⟩=>?_
    obtain ⟨m',hm,w8⟩:=hN _ _ n8
    obtain ⟨oD8,hD8,_⟩:=I8.pin _ (List.mem_append_right _ (List.mem_append_left _ (List.mem_singleton.mpr rfl)))
    have hsz:its.toArray.size<sizeLine:=by rw [List.size_toArray,← hv'.length]; exact hlen
    refine call_meets F.slot_list_append ⟨_,oD8,rfl⟩ F.entry_list_append (F.args_list_append_2 _ _) (PySem.list_append s.heap.objs.size its.toArray k v (Nat.le_of_lt hsz)) ⟨oD8,?_⟩
    have q:=PySem.IsL.update oD8 (fun a=>a.push v)
    have J8:Inv Y (gJ fp s2.heap) σ6 H8 s5:=I8.pins_of fun p hp=>I8.pin p (List.mem_append_right _ (List.mem_append_right _ hp))
    have ne8:∀ b,b∈fp→b≠s.heap.objs.size:=fun b hb=>(below b (hlt b hb)).2
    have J9:=J8.turned (t':=s5.toks) (h':=s5.heap.update s.heap.objs.size (Obj.mapSeq fun a=>a.push v)) (it:=s.heap.objs.size) (fun b o hb e=>(Heap.get?_update_other s5.heap _ (Ne.symm hb)).trans e) hD8 (by rw [Yl]; exact hDC) (.inr (by rw [Ys]; exact Nat.le_refl _)) (fun x d e=>hDcell x d (by rw [← Yc]; exact e))
     (fun p hp=>by
      rw [Yn,List.nil_append] at hp
      obtain ⟨hb,_⟩:=ij hp
      exact ne8 _ hb)
    have keep9:∀ b o,b∈fp→s2.heap.get? b=some o→(s5.heap.update s.heap.objs.size (Obj.mapSeq fun a=>a.push v)).get? b=some o:=fun b o hb e=>(J9.pin (b,o) (List.mem_append_right _ (cj hb e))).1
    refine ⟨m',hm,i + 1,acc++[xv],its++[v],(if ((its++[v]).toArray.size == its.toArray.size)=true then k else k + 1),H8,(J9.pins_of (pins':=[]) fun p hp=>(by cases hp)).weak (e9 kp6) (dY kp6),T.keep _ _ _ tn5 fun b hb o e=>keep9 b o hb e,fun b hb=>?_,w8,hD8,?_,hv'.append (.cons r8 .nil)⟩
    ·obtain ⟨o,e,_⟩:=T.obj _ _ tn5 b hb
     exact (J9.pin (b,o) (List.mem_append_right _ (cj hb e))).2.1
    ·have q':=q
     simp only [List.push_toArray] at q'
     exact q'
 exact codeAny_compStart_list (loop _ rfl) (T.self _ 0 _ _ _ (T.keep 0 _ _ t0 (fun b hb o e=>old b o e)) (loop _ rfl))
def jQ (wi:TI) (g:TG) (tt:TT) (te:TE) (own:List Str) (js:List Nat):TE:=fun σ H Q=>wi σ H fun J H1=>ly J g tt te (bS own js σ) H1 fun acc H2=>∀ p,H2 p=none→Q (.ref p) (upd H2 p (.lst acc))
theorem iO {elt tg iter:Expr} {ifs:List Expr} {pos:Pos} {wi:TI} {g:TG} {tt:TT} {te:TE} (own:List Str) (js:List Nat) (c:CompOk X scope cl own js) (hc:X.calm=true) (hi:PI X tg iter wi)
 (inner:∀ (C:Addr) (s₀:Shared) (H₀:Hp) (ex:List Addr),PG (bA X scope cl (cz X own js) C s₀ H₀ ex) tg g∧PIf (bA X scope cl (cz X own js) C s₀ H₀ ex) ifs tt∧PE (bA X scope cl (cz X own js) C s₀ H₀ ex) elt te)
 (hs:∀ x,foldedSetIterable iter X.env x=pure x:=by intro _; rfl):PE X (.ListComp elt [⟨tg,iter,ifs,0⟩] scope pos) (jQ wi g tt te own js):=by
 refine ⟨fun pins s σ H Q I h=>?_⟩
 rw [eval_ListComp]
 refine wpAny_comprehension_free (use:=none) rfl hs c.clos c.kind c.names (thn (hi.go pins s σ H _ I h) fun v s1 h1=>thn h1 fun itv s2 h2=>?_)
 obtain ⟨it,fp,tn,J,H2,e,I2,T,st2,f2,hW⟩:=h2
 subst e
 refine iw (RR:=fun acc C=>compPost (model X.prog X.w) X.A X.xe none (EP X pins σ Q) acc C) c hc I2 T st2 f2 inner hW ?_
 intro D C s' acc H' hn hD hz hDC hCL hUC hI
 exact ⟨hn.choose,hn.choose_spec,fun h' hsb=>⟨.ref D,_,hI h' hsb,rfl,hz D hD⟩⟩
theorem eB {elt tg iter:Expr} {ifs:List Expr} {pos spos py:Pos} {wi:TI} {g:TG} {tt:TT} {te:TE} {i:Nat} {y:Str} (own:List Str) (js:List Nat) (c:CompOk X scope cl own js) (hc:X.calm=true) (hN:X.N.Nodup) (hy:X.N[i]? = some y) (hx:Loc X.env.scope y) (hi:PI X tg iter wi)
 (inner:∀ (C:Addr) (s₀:Shared) (H₀:Hp) (ex:List Addr),PG (bA X scope cl (cz X own js) C s₀ H₀ ex) tg g∧PIf (bA X scope cl (cz X own js) C s₀ H₀ ex) ifs tt∧PE (bA X scope cl (cz X own js) C s₀ H₀ ex) elt te)
 (hsw:swapsWith (.ListComp elt [⟨tg,iter,ifs,0⟩] scope pos) (some (.Name y py)) spos.line X.env=pure true:=by rfl)
 (hs:∀ x,foldedSetIterable iter X.env x=pure x:=by intro _; rfl) (hf:X.fn y=true∨X.env.scope.names.lookup y=some .local:=by first | exact .inl rfl | exact .inr rfl | assumption) :
 PS X (.Assign [.Name y py] (.ListComp elt [⟨tg,iter,ifs,0⟩] scope pos) spos) (pN (jQ wi g tt te own js) (gG i)):=by
 refine ⟨fun pins s σ H D I h=>?_⟩
 rw [exec_Assign_Name_used _ _ _ _ hsw]
 refine wpAny_bind (wpAny_standAt (wpAny_bind ?_))
 show wpAny _ X.A (do let _ ← comprehension (.ListComp elt [⟨tg,iter,ifs,0⟩] scope pos) scope X.env _ (newList []) false (eval iter X.env) (some (assign (.Name y py) X.env))) _ _ s
 refine wpAny_bind (wpAny_mono (wpAny_comprehension_free (use:=some (assign (.Name y py) X.env)) (Q:=fun _ s'=>SP X pins D .next s') rfl hs c.clos c.kind c.names
  (thn (hi.go pins s σ H _ I h) fun v s1 h1=>thn h1 fun itv s2 h2=>?_)) (fun _ s' hq=>wpAny_pure (wpAny_pure hq)) fun _ _ e=>e)
 obtain ⟨it,fp,tn,J,H2,e,I2,T,st2,f2,hW⟩:=h2
 subst e
 refine iw (RR:=fun acc C=>compPost (model X.prog X.w) X.A X.xe (some (assign (.Name y py) X.env)) (fun _ s'=>SP X pins D .next s') acc C) c hc I2 T st2 f2 inner hW ?_
 intro D' C s' acc H' hn hD hz hDC hCL hUC hI
 show wpAny _ X.A (assign (.Name y py) X.env (.ref D')) _ _ _
 have I9:=hI s'.heap (Heap.SameBut.refl _ _)
 obtain ⟨m,hm⟩:=hn
 refine wpAny_assign_Name (ii (v:=.ref D') I9 hN hy hx rfl (fun s'' I'' ⟨a,sb,ha⟩=>?_) hf)
 have aC:C≠a:=by
  rcases ha with ha | ha
  ·rw [ha]; exact hCL
  ·intro z
   subst z
   obtain ⟨v,q⟩:=I2.cell y C ha
   exact absurd (Nat.lt_of_lt_of_le q.lt hDC) (Nat.lt_irrefl _)
 refine ⟨m,hm.sameBut sb aC,fun h' hsb=>?_⟩
 refine ⟨σ.set i (some (.ref D')),upd H' D' (.lst acc),I''.turned (t':=s''.toks) (it:=C) (fun b o hb e=>by rw [hsb.2 b hb]; exact e) ?_ hCL (.inr (Nat.le_trans I2.sz hDC)) (fun x d e z=>?_) (fun p hp z=>?_),hz D' hD⟩
 ·exact hUC
 ·obtain ⟨v,q⟩:=I2.cell x d e
  rw [z] at q
  exact absurd (Nat.lt_of_lt_of_le q.lt hDC) (Nat.lt_irrefl _)
 ·have q:=Heap.lt_size (I2.pin p hp).1
  rw [z] at q
  exact absurd (Nat.lt_of_lt_of_le q hDC) (Nat.lt_irrefl _)
end
def Ite (a:Addr):It :=
 ⟨fun i H=>∃ xs x,H a=some (.lst xs)∧xs[i]? = some x,fun i H v H'=>∃ p x,H p=none∧v = .ref p∧H'=upd H p (.tup [.int i,x])∧∀ xs,H a=some (.lst xs)→xs[i]? = some x,fun i H=>∃ xs,H a=some (.lst xs)∧xs.length≤i⟩
theorem mq {P:Program} {w:World} {K:PySem.W.Frag} {es:List Expr} {k:Nat} {pos:Pos} (a e it:Addr) (hne:e≠it) :
 Turn P w K (.Tuple es k pos) (Ite a) [e,it] e (fun i h=>(∃ old,IsEnum h e it i old)∧h.IsListIter it a i) where
 mem:=by simp
 obj:=fun i h st b hb=>by
  rw [List.mem_cons,List.mem_singleton] at hb
  rcases hb with rfl | rfl
  ·obtain ⟨⟨old,q⟩,_⟩:=st
   exact ⟨_,q,fun v z=>by cases z⟩
  ·obtain ⟨_,o,q,c,d⟩:=st
   exact ⟨o,q,fun v z=>by rw [d] at z; cases z⟩
 keep:=fun i h h' st kp=>⟨by obtain ⟨old,q⟩:=st.1; exact ⟨old,kp e (by simp) _ q⟩,st.2.at fun o q=>kp it (by simp) o q⟩
 item:=by
  intro X hP hw hK hc i pins s σ H E I hf st hg
  subst hP hw hK
  obtain ⟨xs,x,hq,hx⟩:=hg
  obtain ⟨⟨old,he⟩,hit⟩:=st
  obtain ⟨its,rv,p,hz⟩:=I.list (SqL.of hq)
  obtain ⟨u,hu,ru⟩:=rv.get hx
  obtain ⟨f0,f1,f2,f3,f4,f5⟩:=hf e (by simp)
  obtain ⟨g0,g1,g2,g3,g4,g5⟩:=hf it (by simp)
  refine wpAny_pyNext_enum_item he hit p.isList (x:=u) (by simpa using hu) hne fun h' eo it' ht hsz hk=>?_
  refine ⟨.ref s.heap.objs.size,rfl,?_⟩
  refine wpAny_letOwnedTupleGo_enum eo fun h2 he2 hs2=>?_
  have fr:H s.heap.objs.size=none:=I.hok.fresh (Nat.le_refl _)
  have ne2:∀ b,b<s.heap.objs.size→b≠s.heap.objs.size:=fun b hb=>Nat.ne_of_lt hb
  have ee:e<s.heap.objs.size:=Heap.lt_size he
  have k2:∀ b o,b≠e→b≠it→s.heap.get? b=some o→h2.get? b=some o:=fun b o h1 h2' q=>(hs2.2 b h1).trans (hk b o h1 h2' q)
  have ht2:h2.get? s.heap.objs.size=some { cls:=.type "tuple",data:=.seq #[.int i s.toks,u] }:=(hs2.2 _ (Nat.ne_of_gt ee)).trans ht
  have trk:∀ b v,H b=some v→b≠e∧b≠it:=fun b v q=>⟨aq q f0,aq q g0⟩
  have hok0:HOk X.prog X.w H h2:=fun b o q=>(I.hok b o q).stay (fun c v hc q'=>by
   rcases hc with rfl | hc
   ·exact k2 c v (trk c _ q).1 (trk c _ q).2 q'
   ·exact k2 c v (trk c _ hc).1 (trk c _ hc).2 q') (fun _ z=>z) (fun _ _ z=>z) fun _ _ _ z=>z
  have I1:Inv X pins σ (upd H s.heap.objs.size (.tup [.int i,x])) { s with heap:=h2,toks:=s.toks + 1 }:=by
   refine I.step (g':=s.gens) (d':=s.drawn) (ch:=[e,it]) (fun b hb=>?_) (fun b o _ _ hc q _=>k2 b o (fun z=>hc (by simp [z])) (fun z=>hc (by simp [z])) q) (fun b o _ _ hc q _=>⟨o.slots,k2 b o (fun z=>hc (by simp [z])) (fun z=>hc (by simp [z])) q⟩)
    (fun b o _ q n=>by rw [ax (ne2 b (Heap.lt_size q))]; exact n) (fun b o hc q=>⟨o,k2 b o (fun z=>hc (by simp [z])) (fun z=>hc (by simp [z])) q⟩) (fun b ys q=>by rw [ax (aq q fr)]; exact q) (fun b o v q=>by rw [ax (aq q fr)]; exact q)
    (fun b ps _ q=>⟨#[],by rw [ax (aq q fr),q]; simp⟩) (fun m hm=>?_) ?_ I.bare
   ·rw [List.mem_cons,List.mem_singleton] at hb
    rcases hb with rfl | rfl
    ·exact ⟨f3,f1,f4,f5⟩
    ·exact ⟨g3,g1,g4,g5⟩
   ·obtain ⟨o,es',ep,ho,r⟩:=hm
    exact ⟨o,es',ep,k2 _ o (Ne.symm f1) (Ne.symm g1) ho,r⟩
   ·exact hok0.adopt fr ⟨by show 2≤sizeLine; decide,[.int i s.toks,u],.cons ⟨_,rfl⟩ (.cons ru .nil),⟨_,ht2,rfl,_,rfl⟩⟩
  refine ⟨.ref s.heap.objs.size,_,I1,rfl,⟨_,x,fr,rfl,rfl,fun ys hy=>by rw [hq] at hy; cases hy; exact hx⟩,⟨⟨_,by simpa using he2⟩,it'.extBut hs2.extBut (Ne.symm hne)⟩,fun b hb=>?_⟩
  have:H b=none:=(hf b hb).1
  have hb':b<s.heap.objs.size:=by
   rw [List.mem_cons,List.mem_singleton] at hb
   rcases hb with rfl | rfl
   ·exact ee
   ·obtain ⟨o,q,_⟩:=hit; exact Heap.lt_size q
  rw [ax (ne2 b hb')]
  exact this
 done:=by
  intro X hP hw hK hc i pins s σ H E I hf st hg
  subst hP hw hK
  obtain ⟨xs,hq,hx⟩:=hg
  obtain ⟨⟨old,he⟩,hit⟩:=st
  obtain ⟨its,rv,p,hz⟩:=I.list (SqL.of hq)
  obtain ⟨g0,g1,g2,g3,g4,g5⟩:=hf it (by simp)
  have hl:=rv.length
  exact wpAny_pyNext_enum_end (I.ok.hd hc) he hit p.isList (by simp; omega) fun h' eb=>⟨rfl,I.turned (t':=s.toks) (fun b o hb e=>eb b o hb e) g0 g1 g3 g4 g5⟩
 self:=fun _ _ _ _ _ st h=>by
  obtain ⟨⟨old,he⟩,_⟩:=st
  exact wpAny_pyIter_enum he h
section
variable {X:Cx} {es:List Expr} {k:Nat} {tpos:Pos}
def iEnum (ta:TA):TI:=fun σ H R=>ta σ H fun vs H1=>∃ a,vs=[.ref a]∧(∃ xs,H1 a=some (.lst xs))∧R (Ite a) H1
theorem qw {l:Expr} {ta:TA} {p pos:Pos} (hg:Gl X "enumerate") (hm:X.mg "enumerate" = none) (ha:PA X [l] ta) (hs:starEach [l] X.env=[(false,eval l X.env)]:=by rfl):PI X (.Tuple es k tpos) (.Call (.Name "enumerate" p) [l] [] pos) (iEnum ta):=by
 refine ⟨fun pins s σ H R I h=>?_⟩
 refine wpAny_Call_Name_kw (eI I hg hm i4 ?_)
 refine PyProof.Rows.callWith_type1 (thn (ha pos pins s σ H _ I h) fun us s1 ⟨vs,H1,I1,r1,a,e,⟨xs,hx⟩,q⟩=>?_) hs rfl
 subst e
 obtain ⟨u,rfl,ru⟩:=fS r1
 cases ru
 obtain ⟨_,its,n,rv,ho⟩:=(show bQ X.prog X.w H1 s1.heap a (.lst xs) from I1.hok a _ hx)
 refine call_enumerate_1 ho fun h' he hit hsz hk=>?_
 have I2:Inv X pins σ H1 { s1 with heap:=h' }:=I1.kept (t':=s1.toks) hk
 refine wpAny_pyIter_enum he ⟨s1.heap.objs.size + 1,[s1.heap.objs.size + 1,s1.heap.objs.size],_,Ite a,H1,rfl,I2,mq a (s1.heap.objs.size + 1) s1.heap.objs.size (Nat.succ_ne_self _),⟨⟨_,he⟩,hit⟩,fun b hb=>?_,q⟩
 have hb':s1.heap.objs.size≤b:=by
  rw [List.mem_cons,List.mem_singleton] at hb
  rcases hb with rfl | rfl <;> omega
 have z:=I1.fpOk (H':=H1) hb' (I1.hok.fresh hb')
 exact z
end
mutual
def toP:D→PyData
 | .non=>.none
 | .bl b=>.bool b
 | .int i=>.int i
 | .str x=>.str x
 | .tup ds=>.tuple (toPs ds)
 | .lst ds=>.list (toPs ds)
 | .dct=>.dict []
 | .dic _ _=>.dict []
 | .scr _ _=>.dict []
 | .ext _=>.dict []
def toPs:List D→List PyData
 | []=>[]
 | d :: ds=>toP d :: toPs ds
end
mutual
theorem cL {X:Cx} {pins:List (Addr×Obj)} {σ:St} {H:Hp} {s:Shared} (I:Inv X pins σ H s):∀ (d:D) (v:V) (u:Value),Rep H d v→a9 v u→(toP d).canLay0=true→∃ as,Reads s.heap u (toP d) as
 | .non,v,u,h,r,_=>by rw [Rep] at h; subst h; cases r; rw [toP]; exact ⟨_,.none⟩
 | .bl b,v,u,h,r,_=>by rw [Rep] at h; subst h; cases r; rw [toP]; exact ⟨_,.bool b⟩
 | .int i,v,u,h,r,_=>by rw [Rep] at h; subst h; obtain ⟨t,rfl⟩:=r; rw [toP]; exact ⟨_,.int i t⟩
 | .str x,v,u,h,r,_=>by rw [Rep] at h; subst h; obtain ⟨t,rfl⟩:=r; rw [toP]; exact ⟨_,.str x t⟩
 | .tup ds,v,u,h,r,c=>by
  rw [Rep] at h
  obtain ⟨a,xs,rfl,ha,hx⟩:=h
  cases r
  rw [toP] at c ⊢
  obtain ⟨_,its,rv,o,e1,e2,n,e3⟩:=(show bQ X.prog X.w H s.heap a (.tup xs) from I.hok a _ ha)
  obtain ⟨as,q⟩:=reps_reads I ds xs its hx rv (by rw [PyData.canLay0] at c; exact c)
  exact ⟨_,reads_tuple_at e1 e2 e3 (by simpa using q)⟩
 | .lst ds,v,u,h,r,c=>by
  rw [Rep] at h
  obtain ⟨a,xs,rfl,ha,hx⟩:=h
  cases r
  rw [toP] at c ⊢
  obtain ⟨_,its,n,rv,e1⟩:=(show bQ X.prog X.w H s.heap a (.lst xs) from I.hok a _ ha)
  obtain ⟨as,q⟩:=reps_reads I ds xs its hx rv (by rw [PyData.canLay0] at c; exact c)
  exact ⟨_,reads_list_at e1 rfl rfl (by simpa using q)⟩
 | .dct,v,u,h,r,c=>by rw [toP,PyData.canLay0] at c; cases c
 | .dic _ _,v,u,h,r,c=>by rw [toP,PyData.canLay0] at c; cases c
 | .scr _ _,v,u,h,r,c=>by rw [toP,PyData.canLay0] at c; cases c
 | .ext _,v,u,h,r,c=>by rw [toP,PyData.canLay0] at c; cases c
theorem reps_reads {X:Cx} {pins:List (Addr×Obj)} {σ:St} {H:Hp} {s:Shared} (I:Inv X pins σ H s):∀ (ds:List D) (vs:List V) (us:List Value),Reps H ds vs→aS vs us→PyData.canLayAll0 (toPs ds)=true→∃ as,ReadsAll s.heap us (toPs ds) as
 | [],vs,us,h,r,_=>by rw [Reps] at h; subst h; cases r; rw [toPs]; exact ⟨_,.nil⟩
 | d :: ds,vs,us,h,r,c=>by
  rw [Reps] at h
  obtain ⟨v,vs',rfl,h1,h2⟩:=h
  rw [toPs] at c ⊢
  rw [PyData.canLayAll0,Bool.and_eq_true] at c
  cases r with
  | cons r1 r2 =>
   obtain ⟨as,q1⟩:=cL I d v _ h1 r1 c.1
   obtain ⟨bs,q2⟩:=reps_reads I ds vs' _ h2 r2 c.2
   exact ⟨_,.cons q1 q2⟩
end
section
variable {X:Cx}
def rEqD:R2:=fun x y H Q=>∃ d e,Rep H d x∧Rep H e y∧SeqAt.shaped (toP d)=true∧SeqAt.shaped (toP e)=true∧Q (.bl (PyData.eqv (toP d) (toP e))) H
def rNeD:R2:=fun x y H Q=>∃ d e,Rep H d x∧Rep H e y∧SeqAt.shaped (toP d)=true∧SeqAt.shaped (toP e)=true∧Q (.bl (!PyData.eqv (toP d) (toP e))) H
theorem bb (hu:X.A.units + 64<cLine):OpR X (compareOp .Eq) rEqD:=by
 intro pins s σ H x y v u Q I rx ry h
 obtain ⟨d,e,h1,h2,c1,c2,q⟩:=h
 obtain ⟨as,r1⟩:=cL I d x v h1 rx (SeqAt.canLay_of_shaped c1)
 obtain ⟨bs,r2⟩:=cL I e y u h2 ry (SeqAt.canLay_of_shaped c2)
 exact eq_dataH r1 r2 c1 c2 hu ⟨.bl _,H,I,rfl,q⟩
theorem bO (hu:X.A.units + 64<cLine):OpR X (compareOp .NotEq) rNeD:=by
 intro pins s σ H x y v u Q I rx ry h
 obtain ⟨d,e,h1,h2,c1,c2,q⟩:=h
 obtain ⟨as,r1⟩:=cL I d x v h1 rx (SeqAt.canLay_of_shaped c1)
 obtain ⟨bs,r2⟩:=cL I e y u h2 ry (SeqAt.canLay_of_shaped c2)
 exact ne_dataH r1 r2 c1 c2 hu ⟨.bl _,H,I,rfl,q⟩
end
def az (ns:List Int):D:=.lst (ns.map .int)
theorem lO (ns:List Int):toPs (ns.map .int)=ns.map .int:=by
 induction ns with
 | nil=>rw [List.map_nil,toPs]; rfl
 | cons n r ih=>rw [List.map_cons,toPs,ih,toP]; rfl
theorem nk (ns:List Int):PyData.canLayAll0 (ns.map .int)=true∧PyData.depthAll (ns.map .int)≤1:=by
 induction ns with
 | nil=>simp [PyData.canLayAll0,PyData.depthAll]
 | cons n r ih=>simp only [List.map_cons,PyData.canLayAll0,PyData.canLay0,PyData.depthAll,PyData.depth,ih.1,Bool.and_self,true_and]; have:=ih.2; omega
theorem jy (ns:List Int):SeqAt.shaped (toP (az ns))=true:=by
 have h:=nk ns
 unfold SeqAt.shaped az
 rw [toP,lO,PyData.canLay0,PyData.depth,h.1,Bool.true_and]
 exact decide_eq_true (by have:=h.2; omega)
theorem ia {H:Hp}:∀ ns:List Int,Reps H (ns.map .int) (ns.map V.int)
 | []=>bv
 | n :: r=>bo (br n) (ia r)
def aH (ns ms:List Int):D:=.tup [az ns,az ms]
section
variable {X:Cx}
end
abbrev DSt:=List (Option D)
abbrev Own:=Addr→Option (Nat×List Nat)
mutual
def Sep (G H:Hp) (O:Own) (i:Nat):D→List Nat→V→Prop
 | .non,_,v=>v = .non
 | .bl b,_,v=>v = .bl b
 | .int n,_,v=>v = .int n
 | .str x,_,v=>v = .str x
 | .tup ds,π,v=>∃ a xs,v = .ref a∧G a=some (.tup xs)∧Seps G H O i ds 0 π xs
 | .lst ds,π,v=>∃ a xs,v = .ref a∧O a=some (i,π)∧H a=some (.lst xs)∧Seps G H O i ds 0 π xs
 | .dct,_,_=>False
 | .dic ks ds,π,v=>∃ a xs,v = .ref a∧O a=some (i,π)∧H a=some (.dK (ks.zip xs))∧ks.length=ds.length∧Seps G H O i ds 0 π xs
 | .scr _ _,_,_=>False
 | .ext _,_,_=>False
def Seps (G H:Hp) (O:Own) (i:Nat):List D→Nat→List Nat→List V→Prop
 | [],_,_,xs=>xs=[]
 | d :: ds,k,π,xs=>∃ v vs,xs=v :: vs∧Sep G H O i d (k :: π) v∧Seps G H O i ds (k + 1) π vs
end
def cC (G G':Hp):Prop:=∀ a xs,G a=some (.tup xs)→G' a=some (.tup xs)
theorem aO.ts {G G':Hp} (h:aO G G'):cC G G':=fun a xs e=>h a _ e
mutual
theorem Sep.map {G H G' H':Hp} {O O':Own} {i i':Nat} {f:List Nat→List Nat} (hG:cC G G') (hf:∀ k π,f (k :: π)=k :: f π) :
 ∀ (d:D) (π:List Nat) (v:V),(∀ a τ,O a=some (i,τ++π)→O' a=some (i',f (τ++π))∧H' a=H a)→Sep G H O i d π v→Sep G' H' O' i' d (f π) v
 | .non,_,_,_,h=>by rw [Sep] at *; exact h
 | .bl b,_,_,_,h=>by rw [Sep] at *; exact h
 | .int n,_,_,_,h=>by rw [Sep] at *; exact h
 | .str x,_,_,_,h=>by rw [Sep] at *; exact h
 | .tup ds,π,v,hO,h=>by
  rw [Sep] at *
  obtain ⟨a,xs,h1,h2,h3⟩:=h
  exact ⟨a,xs,h1,hG _ _ h2,Seps.map hG hf ds 0 π xs (fun a τ _=>hO a τ) h3⟩
 | .lst ds,π,v,hO,h=>by
  rw [Sep] at *
  obtain ⟨a,xs,h1,h2,h3,h4⟩:=h
  have q:=hO a [] h2
  exact ⟨a,xs,h1,q.1,q.2.trans h3,Seps.map hG hf ds 0 π xs (fun a τ _=>hO a τ) h4⟩
 | .dic ks ds,π,v,hO,h=>by
  rw [Sep] at *
  obtain ⟨a,xs,h1,h2,h3,h5,h4⟩:=h
  have q:=hO a [] h2
  exact ⟨a,xs,h1,q.1,q.2.trans h3,h5,Seps.map hG hf ds 0 π xs (fun a τ _=>hO a τ) h4⟩
 | .dct,_,_,_,h=>by rw [Sep] at h; exact h.elim
 | .scr _ _,_,_,_,h=>by rw [Sep] at h; exact h.elim
 | .ext _,_,_,_,h=>by rw [Sep] at h; exact h.elim
theorem Seps.map {G H G' H':Hp} {O O':Own} {i i':Nat} {f:List Nat→List Nat} (hG:cC G G') (hf:∀ k π,f (k :: π)=k :: f π) :
 ∀ (ds:List D) (k:Nat) (π:List Nat) (xs:List V),(∀ a τ,τ≠[]→O a=some (i,τ++π)→O' a=some (i',f (τ++π))∧H' a=H a)→Seps G H O i ds k π xs→Seps G' H' O' i' ds k (f π) xs
 | [],_,_,_,_,h=>by rw [Seps] at *; exact h
 | d :: ds,k,π,xs,hO,h=>by
  rw [Seps] at *
  obtain ⟨v,vs,h1,h2,h3⟩:=h
  refine ⟨v,vs,h1,?_,Seps.map hG hf ds (k + 1) π vs hO h3⟩
  rw [← hf]
  refine Sep.map hG hf d (k :: π) v (fun a τ e=>?_) h2
  have e' : τ++k :: π=(τ++[k])++π:=by simp
  rw [e'] at e ⊢
  exact hO a (τ++[k]) (by simp) e
end
theorem Sep.keep {G H G' H':Hp} {O O':Own} {i i':Nat} {d:D} {π:List Nat} {v:V} (hG:cC G G') (hO:∀ a τ,O a=some (i,τ++π)→O' a=some (i',τ++π)∧H' a=H a) (h:Sep G H O i d π v):Sep G' H' O' i' d π v :=
 Sep.map (f:=id) hG (fun _ _=>rfl) d π v hO h
theorem Seps.keep {G H G' H':Hp} {O O':Own} {i i':Nat} {ds:List D} {k:Nat} {π:List Nat} {xs:List V} (hG:cC G G') (hO:∀ a τ,τ≠[]→O a=some (i,τ++π)→O' a=some (i',τ++π)∧H' a=H a) (h:Seps G H O i ds k π xs):Seps G' H' O' i' ds k π xs :=
 Seps.map (f:=id) hG (fun _ _=>rfl) ds k π xs hO h
mutual
theorem Sep.rep {G H G':Hp} {O:Own} {i:Nat} (hG:cC G G'):∀ (d:D) (π:List Nat) (v:V),(∀ a τ (o:HO),O a=some (i,τ++π)→H a=some o→G' a=some o)→Sep G H O i d π v→Rep G' d v
 | .non,_,_,_,h=>by rw [Sep] at h; rw [Rep]; exact h
 | .bl b,_,_,_,h=>by rw [Sep] at h; rw [Rep]; exact h
 | .int n,_,_,_,h=>by rw [Sep] at h; rw [Rep]; exact h
 | .str x,_,_,_,h=>by rw [Sep] at h; rw [Rep]; exact h
 | .tup ds,π,v,hO,h=>by
  rw [Sep] at h; rw [Rep]
  obtain ⟨a,xs,h1,h2,h3⟩:=h
  exact ⟨a,xs,h1,hG _ _ h2,Seps.rep hG ds 0 π xs (fun a τ ys _=>hO a τ ys) h3⟩
 | .lst ds,π,v,hO,h=>by
  rw [Sep] at h; rw [Rep]
  obtain ⟨a,xs,h1,h2,h3,h4⟩:=h
  exact ⟨a,xs,h1,hO a [] _ h2 h3,Seps.rep hG ds 0 π xs (fun a τ ys _=>hO a τ ys) h4⟩
 | .dic ks ds,π,v,hO,h=>by
  rw [Sep] at h; rw [Rep]
  obtain ⟨a,xs,h1,h2,h3,h5,h4⟩:=h
  exact ⟨a,xs,h1,hO a [] _ h2 h3,h5,Seps.rep hG ds 0 π xs (fun a τ ys _=>hO a τ ys) h4⟩
 | .dct,_,_,_,h=>by rw [Sep] at h; exact h.elim
 | .scr _ _,_,_,_,h=>by rw [Sep] at h; exact h.elim
 | .ext _,_,_,_,h=>by rw [Sep] at h; exact h.elim
theorem Seps.rep {G H G':Hp} {O:Own} {i:Nat} (hG:cC G G'):∀ (ds:List D) (k:Nat) (π:List Nat) (xs:List V),(∀ a τ (o:HO),τ≠[]→O a=some (i,τ++π)→H a=some o→G' a=some o)→Seps G H O i ds k π xs→Reps G' ds xs
 | [],_,_,_,_,h=>by rw [Seps] at h; rw [Reps]; exact h
 | d :: ds,k,π,xs,hO,h=>by
  rw [Seps] at h; rw [Reps]
  obtain ⟨v,vs,h1,h2,h3⟩:=h
  refine ⟨v,vs,h1,Sep.rep hG d (k :: π) v (fun a τ ys e q=>?_) h2,Seps.rep hG ds (k + 1) π vs hO h3⟩
  have e' : τ++k :: π=(τ++[k])++π:=by simp
  rw [e'] at e
  exact hO a (τ++[k]) ys (by simp) e q
end
mutual
def imm:D→Bool
 | .tup ds=>imms ds
 | .lst _=>false
 | .dct=>false
 | .dic _ _=>false
 | .scr _ _=>false
 | .ext _=>false
 | _=>true
def imms:List D→Bool
 | []=>true
 | d :: ds=>imm d&&imms ds
end
mutual
theorem Rep.sep {G H:Hp} {O:Own} {i:Nat}:∀ (d:D) (π:List Nat) (v:V),imm d=true→Rep G d v→Sep G H O i d π v
 | .non,_,_,_,h=>by rw [Rep] at h; rw [Sep]; exact h
 | .bl b,_,_,_,h=>by rw [Rep] at h; rw [Sep]; exact h
 | .int n,_,_,_,h=>by rw [Rep] at h; rw [Sep]; exact h
 | .str x,_,_,_,h=>by rw [Rep] at h; rw [Sep]; exact h
 | .tup ds,π,v,hi,h=>by
  rw [Rep] at h; rw [Sep]
  obtain ⟨a,xs,h1,h2,h3⟩:=h
  exact ⟨a,xs,h1,h2,Reps.sep ds 0 π xs (by rw [imm] at hi; exact hi) h3⟩
 | .lst ds,_,_,hi,_=>by rw [imm] at hi; cases hi
 | .dct,_,_,hi,_=>by rw [imm] at hi; cases hi
 | .dic _ _,_,_,hi,_=>by rw [imm] at hi; cases hi
 | .scr _ _,_,_,hi,_=>by rw [imm] at hi; cases hi
 | .ext _,_,_,hi,_=>by rw [imm] at hi; cases hi
theorem Reps.sep {G H:Hp} {O:Own} {i:Nat}:∀ (ds:List D) (k:Nat) (π:List Nat) (xs:List V),imms ds=true→Reps G ds xs→Seps G H O i ds k π xs
 | [],_,_,_,_,h=>by rw [Reps] at h; rw [Seps]; exact h
 | d :: ds,k,π,xs,hi,h=>by
  rw [Reps] at h; rw [Seps]
  rw [imms,Bool.and_eq_true] at hi
  obtain ⟨v,vs,h1,h2,h3⟩:=h
  exact ⟨v,vs,h1,Rep.sep d (k :: π) v hi.1 h2,Reps.sep ds (k + 1) π vs hi.2 h3⟩
end
mutual
theorem Sep.imm {G H:Hp} {O:Own} {i:Nat}:∀ (d:D) (π:List Nat) (v:V),L2.imm d=true→Sep G H O i d π v→Rep G d v
 | .non,_,_,_,h=>by rw [Sep] at h; rw [Rep]; exact h
 | .bl b,_,_,_,h=>by rw [Sep] at h; rw [Rep]; exact h
 | .int n,_,_,_,h=>by rw [Sep] at h; rw [Rep]; exact h
 | .str x,_,_,_,h=>by rw [Sep] at h; rw [Rep]; exact h
 | .tup ds,π,v,hi,h=>by
  rw [Sep] at h; rw [Rep]
  obtain ⟨a,xs,h1,h2,h3⟩:=h
  exact ⟨a,xs,h1,h2,Seps.imm ds 0 π xs (by rw [L2.imm] at hi; exact hi) h3⟩
 | .lst ds,_,_,hi,_=>by rw [L2.imm] at hi; cases hi
 | .dct,_,_,hi,_=>by rw [L2.imm] at hi; cases hi
 | .dic _ _,_,_,hi,_=>by rw [L2.imm] at hi; cases hi
 | .scr _ _,_,_,hi,_=>by rw [L2.imm] at hi; cases hi
 | .ext _,_,_,hi,_=>by rw [L2.imm] at hi; cases hi
theorem Seps.imm {G H:Hp} {O:Own} {i:Nat}:∀ (ds:List D) (k:Nat) (π:List Nat) (xs:List V),imms ds=true→Seps G H O i ds k π xs→Reps G ds xs
 | [],_,_,_,_,h=>by rw [Seps] at h; rw [Reps]; exact h
 | d :: ds,k,π,xs,hi,h=>by
  rw [Seps] at h; rw [Reps]
  rw [imms,Bool.and_eq_true] at hi
  obtain ⟨v,vs,h1,h2,h3⟩:=h
  exact ⟨v,vs,h1,Sep.imm d (k :: π) v hi.1 h2,Seps.imm ds (k + 1) π vs hi.2 h3⟩
end
mutual
theorem Rep.imms {G G':Hp} (hG:cC G G'):∀ (d:D) (v:V),L2.imm d=true→Rep G d v→Rep G' d v
 | .non,_,_,h=>by rw [Rep] at *; exact h
 | .bl b,_,_,h=>by rw [Rep] at *; exact h
 | .int n,_,_,h=>by rw [Rep] at *; exact h
 | .str x,_,_,h=>by rw [Rep] at *; exact h
 | .tup ds,v,hi,h=>by
  rw [Rep] at *
  obtain ⟨a,xs,h1,h2,h3⟩:=h
  exact ⟨a,xs,h1,hG _ _ h2,Reps.imms hG ds xs (by rw [L2.imm] at hi; exact hi) h3⟩
 | .lst ds,_,hi,_=>by rw [L2.imm] at hi; cases hi
 | .dct,_,hi,_=>by rw [L2.imm] at hi; cases hi
 | .dic _ _,_,hi,_=>by rw [L2.imm] at hi; cases hi
 | .scr _ _,_,hi,_=>by rw [L2.imm] at hi; cases hi
 | .ext _,_,hi,_=>by rw [L2.imm] at hi; cases hi
theorem Reps.imms {G G':Hp} (hG:cC G G'):∀ (ds:List D) (xs:List V),L2.imms ds=true→Reps G ds xs→Reps G' ds xs
 | [],_,_,h=>by rw [Reps] at *; exact h
 | d :: ds,xs,hi,h=>by
  rw [Reps] at *
  rw [L2.imms,Bool.and_eq_true] at hi
  obtain ⟨v,vs,h1,h2,h3⟩:=h
  exact ⟨v,vs,h1,Rep.imms hG d v hi.1 h2,Reps.imms hG ds vs hi.2 h3⟩
end
theorem Seps.length {G H:Hp} {O:Own} {i:Nat}:∀ {ds:List D} {k:Nat} {π:List Nat} {xs:List V},Seps G H O i ds k π xs→xs.length=ds.length
 | [],_,_,_,h=>by rw [Seps] at h; subst h; rfl
 | d :: ds,k,π,xs,h=>by
  rw [Seps] at h
  obtain ⟨v,vs,rfl,_,h3⟩:=h
  simp [Seps.length h3]
abbrev WrO:=List V ⊕ List (Key×V)
def WrO.ho:WrO→HO
 | .inl xs=>.lst xs
 | .inr kvs=>.dK kvs
theorem WrO.ne {m:WrO} {xs:List V} (h:m.ho = .tup xs):False:=by cases m <;> cases h
structure Ctx where
 G:Hp
 H:Hp
 O:Own
 mu:List (Option V)
 np:Nat
def cb (G H:Hp) (O:Own):List (D×V)→Prop
 | []=>True
 | (d,v) :: r=>Sep G H O (2 * r.length + 1) d [] v∧cb G H O r
def Nw (C:Ctx) (a:Addr) (l:Nat):Prop:=C.H a=none∨∃ π,C.O a=some (l,π)
def NT (o:HO):Prop:=∀ ps q,o≠.tbl ps q
theorem WrO.nt (x:WrO):NT x.ho:=by cases x <;> (intro _ _ z; cases z)
structure RO (C:Ctx) (ow:List Bool) (G:Hp) (ρ:DSt) (σ:St) (H:Hp) (pd:List (D×V)) (O:Own):Prop where
 len : ρ.length=σ.length
 gh:aO G H
 g0:aO C.G G
 gn:∀ a o,G a=some o→C.G a=some o∨C.H a=none
 og:∀ a l,O a=some l→G a=none∧(∃ xs:WrO,H a=some xs.ho)∧Nw C a l.1
 cok:∀ a l π,C.O a=some (l,π)→(∃ (i:Nat) (v:V),l=2 * i∧C.mu[i]? = some (some v))∨∃ j,l=2 * j + 1∧j<C.np
 fr:∀ a o,C.H a=some o→C.O a=none→NT o→H a=some o
 ft:∀ a ps q,H a=some (.tbl ps q)→G a=none
 al:∀ a,H a=none→C.H a=none
 mp:∀ (i:Nat) v,C.mu[i]? = some (some v)→σ[i]? = some (some v)
 sl:∀ (i:Nat) d,ρ[i]? = some (some d)→∃ v,σ[i]? = some (some v)∧if ow[i]? = some true then Sep G H O (2 * i) d [] v else Rep G d v
 pn:cb G H O pd
 np:C.np≤pd.length
def R (C:Ctx) (ow:List Bool) (G:Hp) (ρ:DSt) (σ:St) (H:Hp) (pd:List (D×V)):Prop:=∃ O,RO C ow G ρ σ H pd O
theorem cb.keep {G H G' H':Hp} {O O':Own} (hG:cC G G'):∀ {pd:List (D×V)},(∀ a j π,j<pd.length→O a=some (2 * j + 1,π)→O' a=some (2 * j + 1,π)∧H' a=H a)→cb G H O pd→cb G' H' O' pd
 | [],_,_=>trivial
 | (d,v) :: r,hO,⟨h1,h2⟩=>⟨h1.keep hG fun a τ e=>hO a r.length _ (by simp) e,cb.keep hG (fun a j π hj=>hO a j π (by simp; omega)) h2⟩
section
variable {C:Ctx} {ow:List Bool} {G:Hp} {ρ:DSt} {σ:St} {H:Hp} {pd:List (D×V)} {O:Own}
theorem RO.new (h:RO C ow G ρ σ H pd O) {p:Addr} (hp:H p=none) (o:HO) (nt:NT o:=by intro _ _ z; cases z):RO C ow (upd G p o) ρ σ (upd H p o) pd O∧aO G (upd G p o):=by
 have gp:G p=none:=by
  cases e:G p with
  | none=>rfl
  | some z=>rw [h.gh _ _ e] at hp; cases hp
 have sG:=ny gp o
 have ne:∀ a l,O a=some l→a≠p:=fun a l e z=>by
  obtain ⟨_,⟨xs,q⟩,_⟩:=h.og a l e
  rw [z,hp] at q; cases q
 refine ⟨⟨h.len,?_,fun a u e=>sG _ _ (h.g0 a u e),?_,?_,h.cok,?_,?_,?_,h.mp,?_,?_,h.np⟩,sG⟩
 ·intro a u e
  by_cases z:a=p
  ·subst z; rw [aU] at e ⊢; exact e
  ·rw [ax z] at e ⊢; exact h.gh _ _ e
 ·intro a u e
  by_cases z:a=p
  ·subst z; exact .inr (h.al _ hp)
  ·rw [ax z] at e; exact h.gn a u e
 ·intro a l e
  have z:=ne a l e
  rw [ax z,ax z]
  exact h.og a l e
 ·intro a u e n t
  rw [ax (aq (h.fr a u e n t) hp)]
  exact h.fr a u e n t
 ·intro a ps q e
  by_cases z:a=p
  ·subst z; rw [aU] at e; cases e; exact absurd rfl (nt ps q)
  ·rw [ax z] at e ⊢; exact h.ft a ps q e
 ·intro a e
  by_cases z:a=p
  ·subst z; rw [aU] at e; cases e
  ·rw [ax z] at e; exact h.al a e
 ·intro i d e
  obtain ⟨v,h1,h2⟩:=h.sl i d e
  refine ⟨v,h1,?_⟩
  split at h2
  ·rename_i c; rw [if_pos c]; exact h2.keep sG.ts fun a τ q=>⟨q,ax (ne a _ q)⟩
  ·rename_i c; rw [if_neg c]; exact h2.mono sG
 ·exact cb.keep sG.ts (fun a j π _ q=>⟨q,ax (ne a _ q)⟩) h.pn
theorem RO.newL (h:RO C ow G ρ σ H pd O) {p:Addr} (hp:H p=none) {xs:List V} {ds:List D} (hi:imms ds=true) (hr:Reps G ds xs) :
 R C ow G ρ σ (upd H p (.lst xs)) ((.lst ds,.ref p) :: pd):=by
 have gp:G p=none:=by
  cases e:G p with
  | none=>rfl
  | some z=>rw [h.gh _ _ e] at hp; cases hp
 have ne:∀ a l,O a=some l→a≠p:=fun a l e z=>by
  obtain ⟨_,⟨xs,q⟩,_⟩:=h.og a l e
  rw [z,hp] at q; cases q
 let O':Own:=fun a=>if a=p then some (2 * pd.length + 1,[]) else O a
 have old:∀ a l,O a=some l→O' a=some l:=fun a l e=>by
  show (if a=p then _ else _)=_
  rw [if_neg (ne a _ e),e]
 refine ⟨O',h.len,?_,h.g0,h.gn,?_,h.cok,?_,?_,?_,h.mp,?_,⟨?_,?_⟩,Nat.le_succ_of_le h.np⟩
 ·intro a u e
  rw [ax (fun z=>by rw [z,gp] at e; cases e)]
  exact h.gh _ _ e
 ·intro a l e
  by_cases z:a=p
  ·subst z; exact ⟨gp,⟨.inl xs,aU⟩,.inl (h.al _ hp)⟩
  ·rw [ax z]
   change (if a=p then _ else _)=_ at e
   rw [if_neg z] at e
   exact h.og a _ e
 ·intro a u e n t
  rw [ax (aq (h.fr a u e n t) hp)]
  exact h.fr a u e n t
 ·intro a ps q e
  by_cases z:a=p
  ·subst z; rw [aU] at e; cases e
  ·rw [ax z] at e; exact h.ft a ps q e
 ·intro a e
  by_cases z:a=p
  ·subst z; rw [aU] at e; cases e
  ·rw [ax z] at e; exact h.al a e
 ·intro i d e
  obtain ⟨v,h1,h2⟩:=h.sl i d e
  refine ⟨v,h1,?_⟩
  split at h2
  ·rename_i c; rw [if_pos c]; exact h2.keep (fun _ _ z=>z) fun a τ q=>⟨old a _ q,ax (ne a _ q)⟩
  ·rename_i c; rw [if_neg c]; exact h2
 ·rw [Sep]
  exact ⟨p,xs,rfl,by show (if p=p then _ else _)=_; rw [if_pos rfl],aU,hr.sep ds 0 [] xs hi⟩
 ·exact cb.keep (fun _ _ z=>z) (fun a j π hj q=>⟨old a _ q,ax (ne a _ q)⟩) h.pn
end
theorem Seps.snoc {G H:Hp} {O:Own} {i:Nat} {d:D} {v:V}:∀ {ds:List D} {k:Nat} {π:List Nat} {xs:List V},Seps G H O i ds k π xs→Sep G H O i d ((k + ds.length) :: π) v→Seps G H O i (ds++[d]) k π (xs++[v])
 | [],k,π,xs,h,hd=>by rw [Seps] at h; subst h; show Seps _ _ _ _ [d] _ _ [v]; rw [Seps]; exact ⟨v,[],rfl,by simpa using hd,by rw [Seps]⟩
 | e :: ds,k,π,xs,h,hd=>by
  rw [Seps] at h
  obtain ⟨u,us,rfl,h2,h3⟩:=h
  show Seps _ _ _ _ (e :: (ds++[d])) _ _ (u :: (us++[v]))
  rw [Seps]
  refine ⟨u,us++[v],rfl,h2,Seps.snoc h3 ?_⟩
  have:k + 1 + ds.length=k + (e :: ds).length:=by simp; omega
  rw [this]; exact hd
theorem Seps.set {G H:Hp} {O:Own} {i:Nat} {d:D} {v:V}:∀ {ds:List D} {k:Nat} {π:List Nat} {xs:List V} {j:Nat},Seps G H O i ds k π xs→Sep G H O i d ((k + j) :: π) v→Seps G H O i (ds.set j d) k π (xs.set j v)
 | [],k,π,xs,j,h,hd=>by rw [Seps] at h; subst h; simp; rw [Seps]
 | e :: ds,k,π,xs,0,h,hd=>by
  rw [Seps] at h
  obtain ⟨u,us,rfl,h2,h3⟩:=h
  simp only [List.set_cons_zero]; rw [Seps]
  exact ⟨v,us,rfl,by simpa using hd,h3⟩
 | e :: ds,k,π,xs,j + 1,h,hd=>by
  rw [Seps] at h
  obtain ⟨u,us,rfl,h2,h3⟩:=h
  simp only [List.set_cons_succ]; rw [Seps]
  refine ⟨u,_,rfl,h2,Seps.set h3 ?_⟩
  have:k + 1 + j=k + (j + 1):=by omega
  rw [this]; exact hd
section
variable {C:Ctx} {ow:List Bool} {G:Hp} {ρ:DSt} {σ:St} {H:Hp} {pd:List (D×V)} {O:Own}
theorem dX {α:Type} {l:List (Option α)} {i j:Nat} {x:Option α} {d : α} (h:(l.set i x)[j]? = some (some d)):(j=i∧x=some d)∨(j≠i∧l[j]? = some (some d)):=by
 rw [List.getElem?_set] at h
 by_cases e:i=j
 ·rw [if_pos e] at h
  split at h
  ·exact .inl ⟨e.symm,Option.some.inj h⟩
  ·cases h
 ·rw [if_neg e] at h; exact .inr ⟨fun z=>e z.symm,h⟩
theorem dj {α:Type} {l:List (Option α)} {i:Nat} {x:Option α} (h:l[i]? = some x):i<l.length:=(List.getElem?_eq_some_iff.mp h).1
theorem RO.setS (h:RO C ow G ρ σ H pd O) {i:Nat} {d:D} {v:V} (hi:ow[i]?≠some true) (hm:∀ v,C.mu[i]?≠some (some v)) (r:Rep G d v):RO C ow G (ρ.set i (some d)) (σ.set i (some v)) H pd O:=by
 refine ⟨by simp [h.len],h.gh,h.g0,h.gn,h.og,h.cok,h.fr,h.ft,h.al,?_,?_,h.pn,h.np⟩
 ·intro j u e
  have:i≠j:=fun z=>hm u (z ▸ e)
  rw [List.getElem?_set_ne this]
  exact h.mp j u e
 ·intro j e q
  rcases dX q with ⟨rfl,z⟩ | ⟨z,q'⟩
  ·cases z
   have hl:j<σ.length:=by have:=dj q; rw [List.length_set,h.len] at this; exact this
   exact ⟨v,by rw [List.getElem?_set_self hl],by rw [if_neg hi]; exact r⟩
  ·obtain ⟨u,h1,h2⟩:=h.sl j e q'
   exact ⟨u,by rw [List.getElem?_set_ne (Ne.symm z)]; exact h1,h2⟩
def lab (f:Nat→List Nat→Nat×List Nat) (O:Own):Own:=fun a=>(O a).map fun l=>f l.1 l.2
theorem bV {f:Nat→List Nat→Nat×List Nat} {a:Addr} {l:Nat} {π:List Nat} (h:O a=some (l,π)):lab f O a=some (f l π):=by unfold lab; rw [h]; rfl
theorem gT {f:Nat→List Nat→Nat×List Nat} {a:Addr} {m:Nat×List Nat} (h:lab f O a=some m):∃ l π,O a=some (l,π)∧m=f l π:=by
 unfold lab at h
 cases e:O a with
 | none=>rw [e] at h; cases h
 | some l=>rw [e] at h; exact ⟨l.1,l.2,rfl,(Option.some.inj h).symm⟩
theorem cI {i j:Nat} : 2 * i≠2 * j + 1:=by omega
theorem RO.setO {d:D} {v:V} (h:RO C ow G ρ σ H ((d,v) :: pd) O) {i:Nat} (hi:ow[i]? = some true) (hm:∀ v,C.mu[i]?≠some (some v)) (hn:C.np≤pd.length) :
 R C ow G (ρ.set i (some d)) (σ.set i (some v)) H pd:=by
 refine ⟨lab (fun l π=>if l=2 * pd.length + 1 then (2 * i,π) else (l,π)) O,by simp [h.len],h.gh,h.g0,h.gn,?_,h.cok,h.fr,h.ft,h.al,?_,?_,?_,hn⟩
 ·intro a m e
  obtain ⟨l,π,e1,rfl⟩:=gT e
  obtain ⟨q1,q2,q3⟩:=h.og a _ e1
  refine ⟨q1,q2,?_⟩
  try dsimp only
  split
  ·rename_i z
   rcases q3 with q3 | ⟨_,q3⟩
   ·exact .inl q3
   ·rcases h.cok _ _ _ q3 with ⟨k,_,q4,_⟩ | ⟨k,q4,q5⟩
    ·exact absurd (q4.symm.trans z) cI
    ·omega
  ·exact q3
 ·intro j u e
  have:i≠j:=fun z=>hm u (z ▸ e)
  rw [List.getElem?_set_ne this]
  exact h.mp j u e
 ·intro j e q
  rcases dX q with ⟨rfl,z⟩ | ⟨z,q'⟩
  ·cases z
   have hl:j<σ.length:=by have:=dj q; rw [List.length_set,h.len] at this; exact this
   refine ⟨v,by rw [List.getElem?_set_self hl],?_⟩
   rw [if_pos hi]
   exact h.pn.1.keep (fun _ _ z=>z) fun a τ q=>⟨by rw [bV q,if_pos rfl],rfl⟩
  ·obtain ⟨u,h1,h2⟩:=h.sl j e q'
   refine ⟨u,by rw [List.getElem?_set_ne (Ne.symm z)]; exact h1,?_⟩
   split at h2
   ·rename_i c; rw [if_pos c]; exact h2.keep (fun _ _ z=>z) fun a τ q=>⟨by rw [bV q,if_neg cI],rfl⟩
   ·rename_i c; rw [if_neg c]; exact h2
 ·exact cb.keep (fun _ _ z=>z) (fun a j π hj q=>⟨by rw [bV q,if_neg (by omega)],rfl⟩) h.pn.2
theorem RO.move (h:RO C ow G ρ σ H pd O) {i:Nat} {d:D} (e : ρ[i]? = some (some d)) (hi:ow[i]? = some true) (hm:∀ v,C.mu[i]?≠some (some v)) :
 ∃ v,σ[i]? = some (some v)∧R C ow G (ρ.set i none) σ H ((d,v) :: pd):=by
 obtain ⟨v,hv,s⟩:=h.sl i d e
 rw [if_pos hi] at s
 refine ⟨v,hv,lab (fun l π=>if l=2 * i then (2 * pd.length + 1,π) else (l,π)) O,by simp [h.len],h.gh,h.g0,h.gn,?_,h.cok,h.fr,h.ft,h.al,h.mp,?_,⟨?_,?_⟩,Nat.le_succ_of_le h.np⟩
 ·intro a m e
  obtain ⟨l,π,e1,rfl⟩:=gT e
  obtain ⟨q1,q2,q3⟩:=h.og a _ e1
  refine ⟨q1,q2,?_⟩
  try dsimp only
  split
  ·rename_i z
   rcases q3 with q3 | ⟨_,q3⟩
   ·exact .inl q3
   ·rcases h.cok _ _ _ q3 with ⟨k,u,q4,q5⟩ | ⟨k,q4,_⟩
    ·have:k=i:=by have:=q4.symm.trans z; omega
     exact absurd (this ▸ q5) (hm u)
    ·omega
  ·exact q3
 ·intro j e q
  rcases dX q with ⟨rfl,z⟩ | ⟨z,q'⟩
  ·cases z
  ·obtain ⟨u,h1,h2⟩:=h.sl j e q'
   refine ⟨u,h1,?_⟩
   split at h2
   ·rename_i c; rw [if_pos c]; exact h2.keep (fun _ _ z=>z) fun a τ q=>⟨by rw [bV q,if_neg (by omega)],rfl⟩
   ·rename_i c; rw [if_neg c]; exact h2
 ·exact s.keep (fun _ _ z=>z) fun a τ q=>⟨by rw [bV q,if_pos rfl],rfl⟩
 ·exact cb.keep (fun _ _ z=>z) (fun a j π hj q=>⟨by rw [bV q,if_neg (fun z=>cI z.symm)],rfl⟩) h.pn
def hasL (O:Own) (l:Nat) (a:Addr):Bool:=match O a with
 | some m=>m.1 == l
 | none=>false
theorem d5 {l:Nat} {a:Addr}:hasL O l a=true↔∃ π,O a=some (l,π):=by
 unfold hasL
 cases e:O a with
 | none=>simp
 | some m=>obtain ⟨m1,m2⟩:=m; simp
theorem RO.share {d:D} {v:V} (h:RO C ow G ρ σ H ((d,v) :: pd) O) (hn:C.np≤pd.length):∃ G',aO G G'∧R C ow G' ρ σ H pd∧Rep G' d v:=by
 let l₀:=2 * pd.length + 1
 let G':Hp:=fun a=>if hasL O l₀ a=true then H a else G a
 have sG:aO G G':=fun a o e=>by
  show (if _ then _ else _)=_
  split
  ·exact h.gh _ _ e
  ·exact e
 have inH:∀ a τ (o:HO),O a=some (l₀,τ)→H a=some o→G' a=some o:=fun a τ xs q e=>by
  show (if _ then _ else _)=_
  rw [if_pos (d5.mpr ⟨_,q⟩)]; exact e
 refine ⟨G',sG,⟨fun a=>if hasL O l₀ a=true then none else O a,h.len,?_,fun a o e=>sG _ _ (h.g0 _ _ e),?_,?_,h.cok,h.fr,(fun a ps q e=>by
  show (if _ then _ else _)=_
  split
  ·rename_i c
   obtain ⟨τ,c⟩:=d5.mp c
   obtain ⟨_,⟨xs,z⟩,_⟩:=h.og a _ c
   rw [z] at e; exact absurd (Option.some.inj e) (WrO.nt xs _ _)
  ·exact h.ft a ps q e),h.al,h.mp,?_,?_,hn⟩,h.pn.1.rep sG.ts d [] v (fun a τ xs q e=>inH a _ xs q e)⟩
 ·intro a o e
  change (if _ then _ else _)=_ at e
  split at e
  ·exact e
  ·exact h.gh _ _ e
 ·intro a o e
  change (if _ then _ else _)=_ at e
  split at e
  ·rename_i c
   obtain ⟨π,q⟩:=d5.mp c
   obtain ⟨_,_,q3⟩:=h.og a _ q
   rcases q3 with q3 | ⟨_,q3⟩
   ·exact .inr q3
   ·rcases h.cok _ _ _ q3 with ⟨k,_,q4,_⟩ | ⟨k,q4,q5⟩
    ·exact absurd q4.symm cI
    ·have q4' : 2 * pd.length + 1=2 * k + 1:=q4
     omega
  ·exact h.gn a o e
 ·intro a l e
  try dsimp only at e
  split at e
  ·cases e
  ·rename_i c
   obtain ⟨q1,q2,q3⟩:=h.og a l e
   exact ⟨by show (if _ then _ else _)=_; rw [if_neg c]; exact q1,q2,q3⟩
 ·intro j e q
  obtain ⟨u,h1,h2⟩:=h.sl j e q
  refine ⟨u,h1,?_⟩
  split at h2
  ·rename_i c; rw [if_pos c]
   refine h2.keep sG.ts fun a τ q=>⟨?_,rfl⟩
   rw [if_neg,q]
   intro z
   obtain ⟨π,z⟩:=d5.mp z
   rw [q] at z
   have:=(Prod.mk.inj (Option.some.inj z)).1
   omega
  ·rename_i c; rw [if_neg c]; exact h2.mono sG
 ·refine cb.keep sG.ts (fun a j π hj q=>⟨?_,rfl⟩) h.pn.2
  rw [if_neg,q]
  intro z
  obtain ⟨π,z⟩:=d5.mp z
  rw [q] at z
  have:=(Prod.mk.inj (Option.some.inj z)).1
  omega
theorem RO.write (h:RO C ow G ρ σ H pd O) {i:Nat} {ds:List D} (e : ρ[i]? = some (some (.lst ds))) (hi:ow[i]? = some true) :
 ∃ a xs,σ[i]? = some (some (.ref a))∧H a=some (.lst xs)∧Seps G H O (2 * i) ds 0 [] xs ∧
  ∀ ds' xs',Seps G H O (2 * i) ds' 0 [] xs'→RO C ow G (ρ.set i (some (.lst ds'))) σ (upd H a (.lst xs')) pd O:=by
 obtain ⟨v,hv,s⟩:=h.sl i _ e
 rw [if_pos hi,Sep] at s
 obtain ⟨a,xs,rfl,hO,hH,hs⟩:=s
 refine ⟨a,xs,hv,hH,hs,fun ds' xs' hs'=>?_⟩
 obtain ⟨g0,_,nw⟩:=h.og a _ hO
 have ne:∀ b l π,O b=some (l,π)→(l≠2 * i∨π≠[])→b≠a:=fun b l π q n z=>by
  subst z
  rw [hO] at q
  obtain ⟨q1,q2⟩:=Prod.mk.inj (Option.some.inj q)
  rcases n with n | n
  ·exact n q1.symm
  ·exact n q2.symm
 refine ⟨by simp [h.len],?_,h.g0,h.gn,?_,h.cok,?_,?_,?_,h.mp,?_,?_,h.np⟩
 ·intro b o q
  rw [ax (fun z=>by rw [z,g0] at q; cases q)]; exact h.gh _ _ q
 ·intro b l q
  obtain ⟨q1,⟨ys,q2⟩,q3⟩:=h.og b l q
  refine ⟨q1,?_,q3⟩
  by_cases z:b=a
  ·subst z; exact ⟨.inl _,aU⟩
  ·rw [ax z]; exact ⟨ys,q2⟩
 ·intro b o q n t
  by_cases z:b=a
  ·subst z
   rcases nw with nw | ⟨_,nw⟩
   ·rw [nw] at q; cases q
   ·rw [nw] at n; cases n
  ·rw [ax z]; exact h.fr b o q n t
 ·intro b ps q e
  by_cases z:b=a
  ·subst z; rw [aU] at e; cases e
  ·rw [ax z] at e; exact h.ft b ps q e
 ·intro b q
  by_cases z:b=a
  ·subst z; rw [aU] at q; cases q
  ·rw [ax z] at q; exact h.al b q
 ·intro j u q
  rcases dX q with ⟨rfl,z⟩ | ⟨z,q'⟩
  ·cases z
   refine ⟨_,hv,?_⟩
   rw [if_pos hi,Sep]
   exact ⟨a,xs',rfl,hO,aU,hs'.keep (fun _ _ z=>z) fun b τ hτ q=>⟨q,ax (ne b _ _ q (.inr (by simpa using hτ)))⟩⟩
  ·obtain ⟨w,h1,h2⟩:=h.sl j u q'
   refine ⟨w,h1,?_⟩
   split at h2
   ·rename_i c; rw [if_pos c]; exact h2.keep (fun _ _ z=>z) fun b τ q=>⟨q,ax (ne b _ _ q (.inl (by omega)))⟩
   ·rename_i c; rw [if_neg c]; exact h2
 ·exact cb.keep (fun _ _ z=>z) (fun b j π hj q=>⟨q,ax (ne b _ _ q (.inl (fun z=>cI z.symm)))⟩) h.pn
theorem RO.join {d:D} {v:V} (h:RO C ow G ρ σ H ((d,v) :: pd) O) (i n:Nat) (hn:C.np≤pd.length) :
 ∃ O',RO C ow G ρ σ H pd O'∧Sep G H O' (2 * i) d [n] v∧∀ (l:Nat) ds k π xs,l≠2 * pd.length + 1→Seps G H O l ds k π xs→Seps G H O' l ds k π xs:=by
 refine ⟨lab (fun l π=>if l=2 * pd.length + 1 then (2 * i,π++[n]) else (l,π)) O,⟨h.len,h.gh,h.g0,h.gn,?_,h.cok,h.fr,h.ft,h.al,h.mp,?_,?_,hn⟩,?_,?_⟩
 ·intro a m e
  obtain ⟨l,π,e1,rfl⟩:=gT e
  obtain ⟨q1,q2,q3⟩:=h.og a _ e1
  refine ⟨q1,q2,?_⟩
  try dsimp only
  split
  ·rename_i z
   rcases q3 with q3 | ⟨_,q3⟩
   ·exact .inl q3
   ·rcases h.cok _ _ _ q3 with ⟨k,_,q4,_⟩ | ⟨k,q4,q5⟩
    ·exact absurd (q4.symm.trans z) cI
    ·omega
  ·exact q3
 ·intro j e q
  obtain ⟨u,h1,h2⟩:=h.sl j e q
  refine ⟨u,h1,?_⟩
  split at h2
  ·rename_i c; rw [if_pos c]; exact h2.keep (fun _ _ z=>z) fun a τ q=>⟨by rw [bV q,if_neg cI],rfl⟩
  ·rename_i c; rw [if_neg c]; exact h2
 ·exact cb.keep (fun _ _ z=>z) (fun a j π hj q=>⟨by rw [bV q,if_neg (by omega)],rfl⟩) h.pn.2
 ·exact Sep.map (f:=fun π=>π++[n]) (fun _ _ z=>z) (fun _ _=>rfl) d [] v (fun a τ q=>⟨by rw [bV q,if_pos rfl],rfl⟩) h.pn.1
 ·intro l ds k π xs hl hs
  exact hs.keep (fun _ _ z=>z) fun a τ _ q=>⟨by rw [bV q,if_neg hl],rfl⟩
end
def bor (js:List Nat) (ow:List Bool):List Bool:=ow.mapIdx fun j b=>b && !js.contains j
theorem ei {js:List Nat} {ow:List Bool} {j:Nat}:(bor js ow)[j]? = some true↔ow[j]? = some true∧js.contains j=false:=by
 unfold bor
 rw [List.getElem?_mapIdx]
 cases e:ow[j]? with
 | none=>simp
 | some b=>cases b <;> simp
def kC (ρ:DSt) (js:List Nat) (n l:Nat):Bool:=if l % 2=0 then (match ρ[l / 2]? with | some (some _)=>!js.contains (l / 2) | _=>false) else decide (l / 2<n)
def gY (js:List Nat) (l:Nat):Bool:=decide (l % 2=0)&&js.contains (l / 2)
def cN (f:Nat→Bool) (O:Own):Own:=fun a=>match O a with
 | some m=>if f m.1=true then some m else none
 | none=>none
theorem eU {f:Nat→Bool} {O:Own} {a:Addr} {m:Nat×List Nat} (h:O a=some m) (hf:f m.1=true):cN f O a=some m:=by unfold cN; rw [h]; show (if _ then _ else _)=_; rw [if_pos hf]
theorem cO {f:Nat→Bool} {O:Own} {a:Addr} {m:Nat×List Nat} (h:cN f O a=some m):O a=some m∧f m.1=true:=by
 unfold cN at h
 cases e:O a with
 | none=>rw [e] at h; cases h
 | some n =>
  rw [e] at h
  change (if _ then _ else _)=_ at h
  split at h
  ·rename_i c; cases h; exact ⟨rfl,c⟩
  ·cases h
def isSm {α:Type}:Option α→Bool
 | some _=>true
 | none=>false
section
variable {C:Ctx} {ow:List Bool} {G:Hp} {ρ:DSt} {σ:St} {H:Hp} {pd:List (D×V)} {O:Own}
def gBor (js:List Nat) (G H:Hp) (O:Own):Hp:=fun a=>if isSm (cN (gY js) O a)=true then H a else G a
def cBor (js:List Nat) (G H:Hp) (O:Own) (ρ:DSt) (σ:St) (n:Nat):Ctx:=⟨gBor js G H O,H,cN (kC ρ js n) O,σ,n⟩
theorem g6 (h:RO C ow G ρ σ H pd O) (js:List Nat):aO G (gBor js G H O):=fun a o e=>by
 show (if _ then _ else _)=_
 split
 ·exact h.gh _ _ e
 ·exact e
theorem gf {α:Type} {o:Option α} (h:isSm o=true):∃ x,o=some x:=by cases o with | none=>cases h | some x=>exact ⟨x,rfl⟩
theorem RO.enter (h:RO C ow G ρ σ H pd O) (js:List Nat):RO (cBor js G H O ρ σ pd.length) (bor js ow) (gBor js G H O) ρ σ H pd (cN (kC ρ js pd.length) O):=by
 have sG:=g6 h js
 refine ⟨h.len,?_,fun _ _ e=>e,fun _ _ e=>.inl e,?_,?_,fun _ _ e _ _=>e,(fun a ps q e=>by
  show (if _ then _ else _)=_
  split
  ·rename_i c
   obtain ⟨m,c⟩:=gf c
   obtain ⟨_,⟨xs,z⟩,_⟩:=h.og a m (cO c).1
   rw [z] at e; exact absurd (Option.some.inj e) (WrO.nt xs _ _)
  ·exact h.ft a ps q e),fun _ e=>e,fun _ _ e=>e,?_,?_,Nat.le_refl _⟩
 ·intro a o e
  change (if _ then _ else _)=_ at e
  split at e
  ·exact e
  ·exact h.gh _ _ e
 ·intro a l e
  obtain ⟨e1,e2⟩:=cO e
  obtain ⟨q1,q2,q3⟩:=h.og a l e1
  refine ⟨?_,q2,.inr ⟨l.2,e⟩⟩
  ·show (if _ then _ else _)=_
   rw [if_neg]; exact q1
   intro z
   obtain ⟨m,z⟩:=gf z
   obtain ⟨z1,z2⟩:=cO z
   rw [e1] at z1; cases z1
   unfold gY at z2; unfold kC at e2
   simp only [Bool.and_eq_true,decide_eq_true_eq] at z2
   rw [if_pos z2.1] at e2
   split at e2
   ·rw [z2.2] at e2; cases e2
   ·cases e2
 ·intro a l π e
  obtain ⟨e1,e2⟩:=cO e
  unfold kC at e2
  split at e2
  ·rename_i c
   split at e2
   ·rename_i d hd
    obtain ⟨v,hv,_⟩:=h.sl _ _ hd
    exact .inl ⟨l / 2,v,by omega,hv⟩
   ·cases e2
  ·exact .inr ⟨l / 2,by omega,of_decide_eq_true e2⟩
 ·intro j d e
  obtain ⟨v,h1,h2⟩:=h.sl j d e
  refine ⟨v,h1,?_⟩
  by_cases c:ow[j]? = some true
  ·rw [if_pos c] at h2
   by_cases c2:js.contains j=true
   ·rw [if_neg (fun z=>by rw [ei] at z; rw [c2] at z; exact absurd z.2 (by decide))]
    refine h2.rep sG.ts d [] v fun a τ xs q e=>?_
    show (if _ then _ else _)=_
    rw [if_pos]; exact e
    rw [eU q]; rfl
    unfold gY
    simp only [Bool.and_eq_true,decide_eq_true_eq]
    exact ⟨by omega,by rw [show 2 * j / 2=j by omega]; exact c2⟩
   ·rw [if_pos (ei.mpr ⟨c,by simpa using c2⟩)]
    refine h2.keep sG.ts fun a τ q=>⟨eU q ?_,rfl⟩
    unfold kC
    show (if 2 * j % 2=0 then _ else _)=_
    rw [if_pos (by omega),show 2 * j / 2=j by omega,e]
    simp at c2 ⊢; exact c2
  ·rw [if_neg c] at h2
   rw [if_neg (fun z=>c (ei.mp z).1)]
   exact h2.mono sG
 ·refine cb.keep sG.ts (fun a j π hj q=>⟨eU q ?_,rfl⟩) h.pn
  unfold kC
  show (if (2 * j + 1) % 2=0 then _ else _)=_
  rw [if_neg (by omega),show (2 * j + 1) / 2=j by omega]
  simpa using hj
def Kp (ow:List Bool) (ρ ρ':DSt):Prop:=∀ (j:Nat),ow[j]?≠some true→ρ'[j]? = ρ[j]?
def jH (js:List Nat) (O:Own) (G2:Hp):Hp:=fun a=>if isSm (cN (gY js) O a)=true then none else G2 a
def r_ (js:List Nat) (O O2:Own):Own:=fun a=>match O2 a with
 | some l=>some l
 | none=>cN (gY js) O a
theorem RO.leave (h:RO C ow G ρ σ H pd O) {js:List Nat} {G2:Hp} {ρ2:DSt} {H2:Hp} {pd2:List (D×V)} {O2:Own}
 (h2:RO (cBor js G H O ρ σ pd.length) (bor js ow) G2 ρ2 σ H2 pd2 O2) (kp:Kp (bor js ow) ρ ρ2) :
 RO C ow (jH js O G2) ρ2 σ H2 pd2 (r_ js O O2)∧aO G (jH js O G2)∧cC G2 (jH js O G2):=by
 have sG:=g6 h js
 have dm:∀ a m,cN (gY js) O a=some m→O a=some m∧G a=none∧∃ xs:WrO,H a=some xs.ho∧G2 a=some xs.ho:=fun a m e=>by
  obtain ⟨e1,e2⟩:=cO e
  obtain ⟨q1,⟨xs,q2⟩,q3⟩:=h.og a m e1
  refine ⟨e1,q1,xs,q2,h2.g0 a _ ?_⟩
  show (if _ then _ else _)=_
  rw [if_pos (by rw [e]; rfl)]; exact q2
 have nd:∀ a,G a≠none→¬ isSm (cN (gY js) O a)=true:=fun a g z=>by
  obtain ⟨m,z⟩:=gf z
  exact g (dm a m z).2.1
 have sG3:aO G (jH js O G2):=fun a o e=>by
  show (if _ then _ else _)=_
  rw [if_neg (nd a (by rw [e]; simp))]
  exact h2.g0 a o (sG a o e)
 have ts:cC G2 (jH js O G2):=fun a xs e=>by
  show (if _ then _ else _)=_
  rw [if_neg]; exact e
  intro z
  obtain ⟨m,z⟩:=gf z
  obtain ⟨_,_,ys,_,q⟩:=dm a m z
  rw [e] at q; exact (WrO.ne (Option.some.inj q).symm).elim
 have o2:∀ a l,O2 a=some l→r_ js O O2 a=some l:=fun a l e=>by show (match O2 a with | some l=>some l | none=>_)=_; rw [e]
 refine ⟨⟨h2.len,?_,fun a o e=>sG3 _ _ (h.g0 _ _ e),?_,?_,h.cok,?_,(fun a ps q e=>by show (if _ then _ else _)=_; split <;> first | rfl | exact h2.ft a ps q e),fun a e=>h.al a (h2.al a e),h.mp,?_,?_,Nat.le_trans h.np h2.np⟩,sG3,ts⟩
 ·intro a o e
  change (if _ then _ else _)=_ at e
  split at e
  ·cases e
  ·exact h2.gh _ _ e
 ·intro a o e
  change (if _ then _ else _)=_ at e
  split at e
  ·cases e
  ·rename_i c
   rcases h2.gn a o e with q | q
   ·change (if _ then _ else _)=_ at q
    rw [if_neg c] at q
    exact h.gn a o q
   ·exact .inr (h.al a q)
 ·intro a l e
  change (match O2 a with | some l=>some l | none=>_)=_ at e
  cases q:O2 a with
  | some l' =>
   rw [q] at e; cases e
   obtain ⟨q1,q2,q3⟩:=h2.og a l q
   refine ⟨by show (if _ then _ else _)=_; split <;> first | rfl | exact q1,q2,?_⟩
   rcases q3 with q3 | ⟨q3,q4⟩
   ·exact .inl (h.al a q3)
   ·exact (h.og a _ (cO q4).1).2.2
  | none =>
   rw [q] at e
   change cN (gY js) O a=some l at e
   obtain ⟨e1,q1,xs,q2,q3⟩:=dm a l e
   refine ⟨by show (if _ then _ else _)=_; rw [if_pos (by rw [e]; rfl)],⟨xs,h2.gh _ _ q3⟩,(h.og a l e1).2.2⟩
 ·intro a o e n t
  have q:=h.fr a o e n t
  refine h2.fr a o q ?_ t
  show cN _ O a=none
  cases z:cN (kC ρ js pd.length) O a with
  | none=>rfl
  | some m =>
   obtain ⟨z1,_⟩:=cO z
   obtain ⟨_,_,z3⟩:=h.og a m z1
   rcases z3 with z3 | ⟨_,z3⟩
   ·rw [z3] at e; cases e
   ·rw [z3] at n; cases n
 ·intro j d e
  by_cases c:(bor js ow)[j]? = some true
  ·obtain ⟨v,q1,q2⟩:=h2.sl j d e
   rw [if_pos c] at q2
   refine ⟨v,q1,?_⟩
   rw [if_pos (ei.mp c).1]
   exact q2.keep ts fun a τ q=>⟨o2 _ _ q,rfl⟩
  ·rw [kp j c] at e
   obtain ⟨v,q1,q2⟩:=h.sl j d e
   refine ⟨v,q1,?_⟩
   by_cases c2:ow[j]? = some true
   ·rw [if_pos c2] at q2 ⊢
    have hj:js.contains j=true:=by
     cases z:js.contains j with
     | true=>rfl
     | false=>exact absurd (ei.mpr ⟨c2,z⟩) c
    refine q2.keep sG3.ts fun a τ q=>?_
    have dd:cN (gY js) O a=some (2 * j,τ++[]):=eU q (by
     unfold gY
     simp only [Bool.and_eq_true,decide_eq_true_eq]
     exact ⟨by omega,by rw [show 2 * j / 2=j by omega]; exact hj⟩)
    obtain ⟨_,_,xs,q4,q5⟩:=dm a _ dd
    refine ⟨?_,by rw [q4]; exact h2.gh _ _ q5⟩
    show (match O2 a with | some l=>some l | none=>_)=_
    cases z:O2 a with
    | some l=>have:=(h2.og a l z).1; rw [q5] at this; cases this
    | none=>exact dd
   ·rw [if_neg c2] at q2 ⊢
    exact q2.mono sG3
 ·exact cb.keep ts (fun a j π hj q=>⟨o2 _ _ q,rfl⟩) h2.pn
end
abbrev ME:=DSt→(D→DSt→Prop)→Prop
abbrev MT:=DSt→(Bool→DSt→Prop)→Prop
abbrev MA:=DSt→(List D→DSt→Prop)→Prop
def SE (ow:List Bool) (t:TE) (m:ME):Prop:=∀ (C:Ctx) (G:Hp) (ρ:DSt) (σ:St) (H:Hp) (pd:List (D×V)) (q:D→DSt→Prop) (Q:VK),R C ow G ρ σ H pd→m ρ q →
 (∀ d ρ' v G' H',q d ρ'→aO G G'→Kp ow ρ ρ'→R C ow G' ρ' σ H' pd→Rep G' d v→Q v H')→t σ H Q
def SF (ow:List Bool) (t:TE) (m:ME):Prop:=∀ (C:Ctx) (G:Hp) (ρ:DSt) (σ:St) (H:Hp) (pd:List (D×V)) (q:D→DSt→Prop) (Q:VK),R C ow G ρ σ H pd→m ρ q →
 (∀ d ρ' v G' H',q d ρ'→aO G G'→Kp ow ρ ρ'→R C ow G' ρ' σ H' ((d,v) :: pd)→Q v H')→t σ H Q
def STe (ow:List Bool) (t:TT) (m:MT):Prop:=∀ (C:Ctx) (G:Hp) (ρ:DSt) (σ:St) (H:Hp) (pd:List (D×V)) (q:Bool→DSt→Prop) (Q:Bool→Hp→Prop),R C ow G ρ σ H pd→m ρ q →
 (∀ b ρ' G' H',q b ρ'→aO G G'→Kp ow ρ ρ'→R C ow G' ρ' σ H' pd→Q b H')→t σ H Q
def SA (ow:List Bool) (n:Nat) (t:TA) (m:MA):Prop:=∀ (C:Ctx) (G:Hp) (ρ:DSt) (σ:St) (H:Hp) (pd:List (D×V)) (q:List D→DSt→Prop) (Q:List V→Hp→Prop),R C ow G ρ σ H pd→m ρ q →
 (∀ ds ρ' vs G' H',q ds ρ'→aO G G'→Kp ow ρ ρ'→R C ow G' ρ' σ H' pd→Reps G' ds vs→vs.length=n→Q vs H')→t σ H Q
structure QE (X:Cx) (ow:List Bool) (e:Expr) (m:ME):Prop where
 ex:∃ t,PE X e t∧SE ow t m
structure QF (X:Cx) (ow:List Bool) (e:Expr) (m:ME):Prop where
 ex:∃ t,PE X e t∧SF ow t m
structure QT (X:Cx) (ow:List Bool) (e:Expr) (m:MT):Prop where
 ex:∃ t,PT X e t∧STe ow t m
structure QW (X:Cx) (ow:List Bool) (e:Expr) (m:MT):Prop where
 ex:∃ t,PW X e t∧STe ow t m
structure QA (X:Cx) (ow:List Bool) (es:List Expr) (m:MA):Prop where
 ex:∃ t,PA X es t∧SA ow es.length t m
theorem Kp.refl {ow:List Bool} {ρ:DSt}:Kp ow ρ ρ:=fun _ _=>rfl
theorem Kp.trans {ow:List Bool} {ρ ρ1 ρ2:DSt} (a:Kp ow ρ ρ1) (b:Kp ow ρ1 ρ2):Kp ow ρ ρ2:=fun j h=>(b j h).trans (a j h)
theorem R.gh {C:Ctx} {ow:List Bool} {G:Hp} {ρ:DSt} {σ:St} {H:Hp} {pd:List (D×V)} (h:R C ow G ρ σ H pd):aO G H:=let ⟨_,h⟩:=h; h.gh
theorem R.np {C:Ctx} {ow:List Bool} {G:Hp} {ρ:DSt} {σ:St} {H:Hp} {pd:List (D×V)} (h:R C ow G ρ σ H pd):C.np≤pd.length:=let ⟨_,h⟩:=h; h.np
section
variable {X:Cx} {ow:List Bool} {a b c e:Expr} {ma mb mc:ME} {pos:Pos}
def mVar (i:Nat):ME:=fun ρ q=>match ρ[i]? with
 | some (some d)=>q d ρ
 | _=>False
theorem aa (i:Nat) {x:Str} (hs:ow[i]?≠some true:=by decide) (hN:X.N[i]? = some x:=by rfl) (hv:Vis X.env.scope x:=by first | exact Or.inl rfl | exact Or.inr (Or.inl rfl) | exact Or.inr (Or.inr rfl)) (hd:(x == ("__debug__":Str))=false:=by decide)
 (hcd:(x == ("__classdict__":Str))=false:=by decide):QE X ow (.Name x pos) (mVar i):=⟨_,eE hN hv hd hcd,fun C G ρ σ H pd q Q r h k=>by
 unfold mVar at h
 split at h
 ·rename_i d e
  obtain ⟨O,ro⟩:=r
  obtain ⟨v,h1,h2⟩:=ro.sl i d e
  rw [if_neg hs] at h2
  exact ⟨v,h1,k d ρ v G H h (aO.refl _) Kp.refl ⟨O,ro⟩ h2⟩
 ·exact h.elim⟩
def mC (d:D):ME:=fun ρ q=>q d ρ
theorem nZ {v:V} {d:D} (h:PE X e (tC v)) (hr:∀ G,Rep G d v):QE X ow e (mC d):=⟨_,h,fun C G ρ σ H pd q Q r h k=>k d ρ v G H h (aO.refl _) Kp.refl r (hr G)⟩
theorem ac {i j}:QE X ow (.Constant (.int i) j pos) (mC (.int i)):=nZ sH fun _=>br _
theorem dE {i j}:QE X ow (.Constant (.bool i) j pos) (mC (.bl i)):=nZ pe_bl fun _=>ci _
theorem gH {j}:QE X ow (.Constant .none j pos) (mC .non):=nZ tP fun _=>iI
theorem aV {i j}:QE X ow (.Constant (.str i) j pos) (mC (.str i)):=nZ tE fun _=>iY _
theorem dJ {x:Str} {i:Int} (hg:Gl X x) (hm:∃ t,X.mg x=some (.int i t)) (hd:(x == ("__debug__":Str))=false:=by decide):QE X ow (.Name x pos) (mC (.int i)):=by
 obtain ⟨t,hm⟩:=hm
 exact nZ (lc (v:=.int i) hg hm ⟨t,rfl⟩ hd) fun _=>br _
theorem jc {ta tb:TE} (ha:SE ow ta ma) (hb:SE ow tb mb) {C:Ctx} {G:Hp} {ρ:DSt} {σ:St} {H:Hp} {pd:List (D×V)} {f:D→D→DSt→Prop} {Q:V→V→Hp→Prop}
 (r:R C ow G ρ σ H pd) (h:ma ρ fun x ρ1=>mb ρ1 fun y ρ2=>f x y ρ2)
 (k:∀ dx dy ρ' x y G' H',f dx dy ρ'→aO G G'→Kp ow ρ ρ'→R C ow G' ρ' σ H' pd→Rep G' dx x→Rep G' dy y→Q x y H'):ta σ H fun x H1=>tb σ H1 fun y H2=>Q x y H2:=by
 refine ha C G ρ σ H pd _ _ r h fun dx ρ1 x G1 H1 h1 s1 k1 r1 p1=>?_
 refine hb C G1 ρ1 σ H1 pd _ _ r1 h1 fun dy ρ2 y G2 H2 h2 s2 k2 r2 p2=>?_
 exact k dx dy ρ2 x y G2 H2 h2 (s1.trans s2) (k1.trans k2) r2 (Rep.mono s2 _ _ p1) p2
def DOp (r:R2) (f:D→D→(D→Prop)→Prop):Prop:=∀ (G H:Hp) (x y:V) (dx dy:D) (q:D→Prop) (Q:VK),aO G H→Rep G dx x→Rep G dy y→f dx dy q→(∀ d v,q d→Rep G d v→Q v H)→r x y H Q
def mOp (f:D→D→(D→Prop)→Prop) (ma mb:ME):ME:=fun ρ q=>ma ρ fun x ρ1=>mb ρ1 fun y ρ2=>f x y fun d=>q d ρ2
theorem k7 {r:R2} {f:D→D→(D→Prop)→Prop} {ta tb:TE} (hd:DOp r f) (ha:SE ow ta ma) (hb:SE ow tb mb):SE ow (tOp r ta tb) (mOp f ma mb):=fun C G ρ σ H pd q Q hr h k=>by
 refine jc ha hb hr h fun dx dy ρ' x y G' H' hf s kp r' p1 p2=>?_
 exact hd G' H' x y dx dy _ _ r'.gh p1 p2 hf fun d v hq p=>k d ρ' v G' H' hq s kp r' p
theorem ar {op:Operator} {r:R2} {f:D→D→(D→Prop)→Prop} (ho:OpR X (binaryOp op) r) (hd:DOp r f) (ha:QE X ow a ma) (hb:QE X ow b mb):QE X ow (.BinOp a op b pos) (mOp f ma mb):=by
 obtain ⟨ta,pa,sa⟩:=ha; obtain ⟨tb,pb,sb⟩:=hb
 exact ⟨_,o8 ho pa pb,k7 hd sa sb⟩
theorem bN {op:CmpOp} {r:R2} {f:D→D→(D→Prop)→Prop} (ho:OpR X (compareOp op) r) (hd:DOp r f) (ha:QE X ow a ma) (hb:QE X ow b mb) (hm:behindInMarks op b=false):QE X ow (.Compare a [op] [b] pos) (mOp f ma mb):=by
 obtain ⟨ta,pa,sa⟩:=ha; obtain ⟨tb,pb,sb⟩:=hb
 exact ⟨_,qg ho pa pb hm,k7 hd sa sb⟩
theorem ao {r:R2} {f:D→D→(D→Prop)→Prop} (ho:IxR X r) (hd:DOp r f) (ha:QE X ow a ma) (hb:QE X ow b mb) (hs:ld b):QE X ow (.Subscript a b pos) (mOp f ma mb):=by
 obtain ⟨ta,pa,sa⟩:=ha; obtain ⟨tb,pb,sb⟩:=hb
 exact ⟨_,pe_ix ho pa pb hs,k7 hd sa sb⟩
def mB (m:ME):MT:=fun ρ q=>m ρ fun d ρ'=>match d with
 | .bl b=>q b ρ'
 | _=>False
theorem b9 {G:Hp} {b:Bool} {v:V} (h:Rep G (.bl b) v):v = .bl b:=by rw [Rep] at h; exact h
theorem aG {G:Hp} {b:Int} {v:V} (h:Rep G (.int b) v):v = .int b:=by rw [Rep] at h; exact h
theorem rV {t:TE} {m:ME} (h:SE ow t m):STe ow (rD t) (mB m):=fun C G ρ σ H pd q Q r hm k=>by
 refine h C G ρ σ H pd _ _ r hm fun d ρ' v G' H' hq s kp r' p=>?_
 cases d with
 | bl b=>exact ⟨b,b9 p,k b ρ' G' H' hq s kp r'⟩
 | _=>exact hq.elim
theorem aB {op:CmpOp} {r:R2} {f:D→D→(D→Prop)→Prop} (ho:OpR X (compareOp op) r) (hd:DOp r f) (ha:QE X ow a ma) (hb:QE X ow b mb) (hm:behindInMarks op b=false):QT X ow (.Compare a [op] [b] pos) (mB (mOp f ma mb)):=by
 obtain ⟨ta,pa,sa⟩:=ha; obtain ⟨tb,pb,sb⟩:=hb
 exact ⟨_,qQ ho pa pb hm,rV (k7 hd sa sb)⟩
theorem a7 (h:QE X ow e ma) (he:∀ whole,isTrue e X.env whole=(do let v ← whole; standAt e.pos; holding [v] (truthy v)):=by intro _; rfl):QT X ow e (mB ma):=by
 obtain ⟨ta,pa,sa⟩:=h
 exact ⟨_,vo pa he,rV sa⟩
def mTru (m:ME):MT:=fun ρ q=>m ρ fun d ρ'=>match d with
 | .bl b=>q b ρ'
 | .lst ds=>q (!ds.isEmpty) ρ'
 | .tup ds=>q (!ds.isEmpty) ρ'
 | .int i=>q (i != 0) ρ'
 | .non=>q false ρ'
 | _=>False
theorem oI {α β:Type} {xs:List α} {ds:List β} (h:xs.length=ds.length):(!xs.isEmpty) = !ds.isEmpty:=by
 cases xs <;> cases ds <;> simp_all
theorem oJ (h:QE X ow e ma) (he:∀ whole,isTrue e X.env whole=(do let v ← whole; standAt e.pos; holding [v] (truthy v)):=by intro _; rfl):QT X ow e (mTru ma):=by
 obtain ⟨ta,pa,sa⟩:=h
 refine ⟨_,oh pa he,fun C G ρ σ H pd q Q r hm k=>?_⟩
 refine sa C G ρ σ H pd _ _ r hm fun d ρ' v G' H' hq s kp r' p=>?_
 cases d with
 | bl b=>exact ⟨b,by rw [b9 p]; rfl,k b ρ' G' H' hq s kp r'⟩
 | int i=>exact ⟨_,by rw [aG p]; rfl,k _ ρ' G' H' hq s kp r'⟩
 | non=>exact ⟨_,by rw [Rep] at p; rw [p]; rfl,k _ ρ' G' H' hq s kp r'⟩
 | lst ds=>rw [Rep] at p; obtain ⟨a,xs,rfl,h1,h2⟩:=p; exact ⟨_,.inl ⟨xs,SqL.of (r'.gh _ _ h1),(oI h2.length).symm⟩,k _ ρ' G' H' hq s kp r'⟩
 | tup ds=>rw [Rep] at p; obtain ⟨a,xs,rfl,h1,h2⟩:=p; exact ⟨_,.inr (.inl ⟨xs,SqT.of (r'.gh _ _ h1),(oI h2.length).symm⟩),k _ ρ' G' H' hq s kp r'⟩
 | _=>exact hq.elim
def mIf {α:Type} (m:MT) (x y:DSt→(α→DSt→Prop)→Prop):DSt→(α→DSt→Prop)→Prop:=fun ρ q=>m ρ fun b ρ1=>if b=true then x ρ1 q else y ρ1 q
def oW (b:Bool):MT:=fun ρ q=>q b ρ
theorem sf {t t1 t2:TT} {m m1 m2:MT} (h:STe ow t m) (h1:STe ow t1 m1) (h2:STe ow t2 m2):STe ow (fun σ H Q=>t σ H fun c H1=>if c=true then t1 σ H1 Q else t2 σ H1 Q) (mIf m m1 m2):=fun C G ρ σ H pd q Q r hm k=>by
 refine h C G ρ σ H pd _ _ r hm fun b ρ' G' H' hq s kp r'=>?_
 cases b with
 | true=>rw [if_pos rfl] at hq ⊢; exact h1 C G' ρ' σ H' pd _ _ r' hq fun b ρ2 G2 H2 hq2 s2 kp2 r2=>k b ρ2 G2 H2 hq2 (s.trans s2) (kp.trans kp2) r2
 | false=>rw [if_neg (by decide)] at hq ⊢; exact h2 C G' ρ' σ H' pd _ _ r' hq fun b ρ2 G2 H2 hq2 s2 kp2 r2=>k b ρ2 G2 H2 hq2 (s.trans s2) (kp.trans kp2) r2
theorem kK (b:Bool):STe ow (fun _ H Q=>Q b H) (oW b):=fun C G ρ σ H pd q Q r hm k=>k b ρ G H hm (aO.refl _) Kp.refl r
variable {mt mu mv:MT} {rest:List Expr}
theorem kO (h:QT X ow a mt):QW X ow (.BoolOp .And [a] pos) mt:=by obtain ⟨t,p,s⟩:=h; exact ⟨_,qx p,s⟩
theorem cy (h:QT X ow a mt):QW X ow (.BoolOp .Or [a] pos) mt:=by obtain ⟨t,p,s⟩:=h; exact ⟨_,t5 p,s⟩
theorem pv (h:QT X ow a mt) (h2:QW X ow (.BoolOp .And (b :: rest) pos) mu):QW X ow (.BoolOp .And (a :: b :: rest) pos) (mIf mt mu (oW false)):=by
 obtain ⟨t,p,s⟩:=h; obtain ⟨t2,p2,s2⟩:=h2; exact ⟨_,uv p p2,sf s s2 (kK false)⟩
theorem cW (h:QT X ow a mt) (h2:QW X ow (.BoolOp .Or (b :: rest) pos) mu):QW X ow (.BoolOp .Or (a :: b :: rest) pos) (mIf mt (oW true) mu):=by
 obtain ⟨t,p,s⟩:=h; obtain ⟨t2,p2,s2⟩:=h2; exact ⟨_,pw_or p p2,sf s (kK true) s2⟩
theorem QW.qt (h:QW X ow e mt):QT X ow e mt:=by obtain ⟨t,p,s⟩:=h; exact ⟨_,p.pt,s⟩
def mNot (m:MT):MT:=fun ρ q=>m ρ fun b ρ'=>q (!b) ρ'
theorem a_ (h:QT X ow a mt):QT X ow (.UnaryOp .Not a pos) (mNot mt):=by
 obtain ⟨t,p,s⟩:=h
 exact ⟨_,sX p,fun C G ρ σ H pd q Q r hm k=>s C G ρ σ H pd _ _ r hm fun b ρ' G' H' hq s kp r'=>k _ ρ' G' H' hq s kp r'⟩
def mV (m:MT):ME:=fun ρ q=>m ρ fun b ρ'=>q (.bl b) ρ'
theorem cP {op} (h:QE X ow a ma):QE X ow (.BoolOp op [a] pos) ma:=by obtain ⟨t,p,s⟩:=h; exact ⟨_,uP p,s⟩
theorem uD (h:QE X ow a ma):QE X ow (.UnaryOp .Not a pos) (mV (mNot (mB ma))):=by
 obtain ⟨t,p,s⟩:=h
 refine ⟨_,vn p,fun C G ρ σ H pd q Q r hm k=>?_⟩
 refine s C G ρ σ H pd _ _ r hm fun d ρ' v G' H' hq s kp r' p=>?_
 cases d with
 | bl b=>exact ⟨b,b9 p,k _ ρ' _ G' H' hq s kp r' (ci _)⟩
 | _=>exact hq.elim
theorem cT (h:QE X ow a ma) (h2:QE X ow (.BoolOp .And (b :: rest) pos) mb):QE X ow (.BoolOp .And (a :: b :: rest) pos) (mIf (mB ma) mb (mC (.bl false))):=by
 obtain ⟨t,p,s⟩:=h; obtain ⟨t2,p2,s2⟩:=h2
 refine ⟨_,sm p p2,fun C G ρ σ H pd q Q r hm k=>?_⟩
 refine s C G ρ σ H pd _ _ r hm fun d ρ' v G' H' hq s kp r' p=>?_
 cases d with
 | bl b =>
  refine ⟨b,b9 p,?_⟩
  change (if b=true then _ else _) at hq
  cases b with
  | true=>rw [if_pos rfl] at hq ⊢; exact s2 C G' ρ' σ H' pd _ _ r' hq fun d ρ2 v G2 H2 hq2 z2 kp2 r2 p2=>k d ρ2 v G2 H2 hq2 (s.trans z2) (kp.trans kp2) r2 p2
  | false=>rw [if_neg (by decide)] at hq ⊢; exact k _ ρ' _ G' H' hq s kp r' (ci _)
 | _=>exact hq.elim
theorem o4 (h:QE X ow a ma) (h2:QE X ow (.BoolOp .Or (b :: rest) pos) mb):QE X ow (.BoolOp .Or (a :: b :: rest) pos) (mIf (mB ma) (mC (.bl true)) mb):=by
 obtain ⟨t,p,s⟩:=h; obtain ⟨t2,p2,s2⟩:=h2
 refine ⟨_,pe_or p p2,fun C G ρ σ H pd q Q r hm k=>?_⟩
 refine s C G ρ σ H pd _ _ r hm fun d ρ' v G' H' hq s kp r' p=>?_
 cases d with
 | bl b =>
  refine ⟨b,b9 p,?_⟩
  change (if b=true then _ else _) at hq
  cases b with
  | false=>rw [if_neg (by decide)] at hq ⊢; exact s2 C G' ρ' σ H' pd _ _ r' hq fun d ρ2 v G2 H2 hq2 z2 kp2 r2 p2=>k d ρ2 v G2 H2 hq2 (s.trans z2) (kp.trans kp2) r2 p2
  | true=>rw [if_pos rfl] at hq ⊢; exact k _ ρ' _ G' H' hq s kp r' (ci _)
 | _=>exact hq.elim
theorem jE (h:QT X ow c mt) (ha:QE X ow a ma) (hb:QE X ow b mb):QE X ow (.IfExp c a b pos) (mIf mt ma mb):=by
 obtain ⟨t,p,s⟩:=h; obtain ⟨t1,p1,s1⟩:=ha; obtain ⟨t2,p2,s2⟩:=hb
 refine ⟨_,jx p p1 p2,fun C G ρ σ H pd q Q r hm k=>?_⟩
 refine s C G ρ σ H pd _ _ r hm fun d ρ' G' H' hq s kp r'=>?_
 cases d with
 | true=>rw [if_pos rfl] at hq ⊢; exact s1 C G' ρ' σ H' pd _ _ r' hq fun d ρ2 v G2 H2 hq2 z2 kp2 r2 p2=>k d ρ2 v G2 H2 hq2 (s.trans z2) (kp.trans kp2) r2 p2
 | false=>rw [if_neg (by decide)] at hq ⊢; exact s2 C G' ρ' σ H' pd _ _ r' hq fun d ρ2 v G2 H2 hq2 z2 kp2 r2 p2=>k d ρ2 v G2 H2 hq2 (s.trans z2) (kp.trans kp2) r2 p2
theorem pF (h:QT X ow c mt) (ha:QF X ow a ma) (hb:QF X ow b mb):QF X ow (.IfExp c a b pos) (mIf mt ma mb):=by
 obtain ⟨t,p,s⟩:=h; obtain ⟨t1,p1,s1⟩:=ha; obtain ⟨t2,p2,s2⟩:=hb
 refine ⟨_,jx p p1 p2,fun C G ρ σ H pd q Q r hm k=>?_⟩
 refine s C G ρ σ H pd _ _ r hm fun d ρ' G' H' hq s kp r'=>?_
 cases d with
 | true=>rw [if_pos rfl] at hq ⊢; exact s1 C G' ρ' σ H' pd _ _ r' hq fun d ρ2 v G2 H2 hq2 z2 kp2 r2=>k d ρ2 v G2 H2 hq2 (s.trans z2) (kp.trans kp2) r2
 | false=>rw [if_neg (by decide)] at hq ⊢; exact s2 C G' ρ' σ H' pd _ _ r' hq fun d ρ2 v G2 H2 hq2 z2 kp2 r2=>k d ρ2 v G2 H2 hq2 (s.trans z2) (kp.trans kp2) r2
theorem QF.qe (h:QF X ow e ma):QE X ow e ma:=by
 obtain ⟨t,p,s⟩:=h
 refine ⟨_,p,fun C G ρ σ H pd q Q r hm k=>s C G ρ σ H pd _ _ r hm fun d ρ' v G' H' hq s kp r'=>?_⟩
 obtain ⟨O,r'⟩:=r'
 obtain ⟨G2,s2,r2,p2⟩:=r'.share r.np
 exact k d ρ' v G2 H' hq (s.trans s2) kp r2 p2
def mImm (m:ME):ME:=fun ρ q=>m ρ fun d ρ'=>imm d=true∧q d ρ'
theorem QE.qf (h:QE X ow e ma):QF X ow e (mImm ma):=by
 obtain ⟨t,p,s⟩:=h
 refine ⟨_,p,fun C G ρ σ H pd q Q r hm k=>s C G ρ σ H pd _ _ r hm fun d ρ' v G' H' hq s kp r' p=>?_⟩
 obtain ⟨O,r'⟩:=r'
 exact k d ρ' v G' H' hq.2 s kp ⟨O,r'.len,r'.gh,r'.g0,r'.gn,r'.og,r'.cok,r'.fr,r'.ft,r'.al,r'.mp,r'.sl,⟨p.sep d [] v hq.1,r'.pn⟩,Nat.le_succ_of_le r'.np⟩
theorem kq {js:List Nat} {ρ ρ':DSt} (h:Kp (bor js ow) ρ ρ'):Kp ow ρ ρ':=fun j n=>h j fun z=>n (ei.mp z).1
theorem QE.bor (js:List Nat) (h:QE X (bor js ow) e ma):QE X ow e (mImm ma):=by
 obtain ⟨t,p,s⟩:=h
 refine ⟨_,p,fun C G ρ σ H pd q Q r hm k=>?_⟩
 obtain ⟨O,r⟩:=r
 refine s _ _ ρ σ H pd _ _ ⟨_,r.enter js⟩ hm fun d ρ' v G' H' hq s kp r' p=>?_
 obtain ⟨O',r'⟩:=r'
 obtain ⟨r2,s2,ts⟩:=r.leave r' kp
 exact k d ρ' v _ H' hq.2 s2 (kq kp) ⟨_,r2⟩ (p.imms ts d v hq.1)
theorem QF.bor (js:List Nat) (h:QF X (bor js ow) e ma):QF X ow e ma:=by
 obtain ⟨t,p,s⟩:=h
 refine ⟨_,p,fun C G ρ σ H pd q Q r hm k=>?_⟩
 obtain ⟨O,r⟩:=r
 refine s _ _ ρ σ H pd _ _ ⟨_,r.enter js⟩ hm fun d ρ' v G' H' hq s kp r'=>?_
 obtain ⟨O',r'⟩:=r'
 obtain ⟨r2,s2,ts⟩:=r.leave r' kp
 exact k d ρ' v _ H' hq s2 (kq kp) ⟨_,r2⟩
theorem QT.bor (js:List Nat) (h:QT X (bor js ow) e mt):QT X ow e mt:=by
 obtain ⟨t,p,s⟩:=h
 refine ⟨_,p,fun C G ρ σ H pd q Q r hm k=>?_⟩
 obtain ⟨O,r⟩:=r
 refine s _ _ ρ σ H pd _ _ ⟨_,r.enter js⟩ hm fun d ρ' G' H' hq s kp r'=>?_
 obtain ⟨O',r'⟩:=r'
 obtain ⟨r2,s2,ts⟩:=r.leave r' kp
 exact k d ρ' _ H' hq s2 (kq kp) ⟨_,r2⟩
def lN:MA:=fun ρ q=>q [] ρ
def eA (m:ME) (r:MA):MA:=fun ρ q=>m ρ fun d ρ1=>r ρ1 fun ds ρ2=>q (d :: ds) ρ2
variable {mr:MA} {es:List Expr}
theorem ak:QA X ow [] lN:=⟨_,dn,fun C G ρ σ H pd q Q r h k=>k [] ρ [] G H h (aO.refl _) Kp.refl r bv rfl⟩
theorem ae (ha:QE X ow e ma) (hr:QA X ow es mr) (hs:starEach (e :: es) X.env=(false,eval e X.env) :: starEach es X.env:=by rfl):QA X ow (e :: es) (eA ma mr):=by
 obtain ⟨t,p,s⟩:=ha; obtain ⟨t2,p2,s2⟩:=hr
 refine ⟨_,bB p p2 hs,fun C G ρ σ H pd q Q r hm k=>?_⟩
 refine s C G ρ σ H pd _ _ r hm fun d ρ' v G' H' hq z kp r' p=>?_
 refine s2 C G' ρ' σ H' pd _ _ r' hq fun ds ρ2 vs G2 H2 hq2 z2 kp2 r2 p2 hl=>?_
 exact k (d :: ds) ρ2 (v :: vs) G2 H2 hq2 (z.trans z2) (kp.trans kp2) r2 (bo (Rep.mono z2 _ _ p) p2) (by simp [hl])
def mTup (m:MA):ME:=fun ρ q=>m ρ fun ds ρ'=>q (.tup ds) ρ'
def mLst (m:MA):ME:=fun ρ q=>m ρ fun ds ρ'=>q (.lst ds) ρ'
def mLstI (m:MA):ME:=fun ρ q=>m ρ fun ds ρ'=>imms ds=true∧q (.lst ds) ρ'
theorem cS {n:Nat} (h:n≤1000):n≤sizeLine:=Nat.le_of_lt (db h)
theorem aZ {x1} (h:QA X ow es mr) (hl:es.length≤1000:=by decide):QE X ow (.Tuple es x1 pos) (mTup mr):=by
 obtain ⟨t,p,s⟩:=h
 refine ⟨_,nB p,fun C G ρ σ H pd q Q r hm k=>s C G ρ σ H pd _ _ r hm fun ds ρ' vs G' H' hq z kp r' p hn=>⟨cS (by omega),fun a ha=>?_⟩⟩
 obtain ⟨O,r'⟩:=r'
 obtain ⟨r2,s2⟩:=r'.new ha (.tup vs)
 exact k _ ρ' _ _ _ hq (z.trans s2) kp ⟨O,r2⟩ (iE aU (Reps.mono s2 _ _ p))
theorem dZ (h:QA X ow es mr) (hl:es.length≤1000:=by decide):QE X ow (.List es pos) (mLst mr):=by
 obtain ⟨t,p,s⟩:=h
 refine ⟨_,nJ p,fun C G ρ σ H pd q Q r hm k=>s C G ρ σ H pd _ _ r hm fun ds ρ' vs G' H' hq z kp r' p hn=>⟨cS (by omega),fun a ha=>?_⟩⟩
 obtain ⟨O,r'⟩:=r'
 obtain ⟨r2,s2⟩:=r'.new ha (.lst vs)
 exact k _ ρ' _ _ _ hq (z.trans s2) kp ⟨O,r2⟩ (fX aU (Reps.mono s2 _ _ p))
theorem fA (h:QA X ow es mr) (hl:es.length≤1000:=by decide):QF X ow (.List es pos) (mLstI mr):=by
 obtain ⟨t,p,s⟩:=h
 refine ⟨_,nJ p,fun C G ρ σ H pd q Q r hm k=>s C G ρ σ H pd _ _ r hm fun ds ρ' vs G' H' hq z kp r' p hn=>⟨cS (by omega),fun a ha=>?_⟩⟩
 obtain ⟨O,r'⟩:=r'
 exact k _ ρ' _ _ _ hq.2 z kp (r'.newL ha hq.1 p)
def fm (r:List V→Hp→VK→Prop) (f:List D→(D→Prop)→Prop):Prop:=∀ (G H:Hp) (xs:List V) (ds:List D) (q:D→Prop) (Q:VK),aO G H→Reps G ds xs→f ds q→(∀ d v,q d→Rep G d v→Q v H)→r xs H Q
def mCB (f:List D→(D→Prop)→Prop) (m:MA):ME:=fun ρ q=>m ρ fun ds ρ'=>f ds fun d=>q d ρ'
theorem rC {r:List V→Hp→VK→Prop} {f:List D→(D→Prop)→Prop} {t:TA} {n:Nat} (hd:fm r f) (s:SA ow n t mr):SE ow (tCB r t) (mCB f mr):=fun C G ρ σ H pd q Q hr hm k =>
 s C G ρ σ H pd _ _ hr hm fun ds ρ' vs G' H' hq z kp r' p hn=>hd G' H' vs ds _ _ r'.gh p hq fun d v hq p=>k d ρ' v G' H' hq z kp r' p
variable {x:Str} {p':Pos}
theorem aA {id:String} {r:List V→Hp→VK→Prop} {f:List D→(D→Prop)→Prop} (hc:cE X (.builtin id) r) (hd:fm r f) (hg:Gl X x) (hm:X.mg x=none) (hv:bootBuiltins x=some (.builtin id)) (ha:QA X ow (e :: es) mr) (hn:x ≠ "__name__":=by decide) (hdb:(x == ("__debug__":Str))=false:=by decide)
 (he:starEach (e :: es) X.env=(false,eval e X.env) :: starEach es X.env:=by rfl) (hpl:(backTo pos (starEach es X.env)).any (·.1)=false:=by rfl):QE X ow (.Call (.Name x p') (e :: es) [] pos) (mCB f mr):=by
 obtain ⟨t,p,s⟩:=ha
 exact ⟨_,gz hc hg hm hv p hn hdb he hpl,rC hd s⟩
theorem g7 {id:String} {r:List V→Hp→VK→Prop} {f:List D→(D→Prop)→Prop} (hc:cE X (.type id) r) (hd:fm r f) (hg:Gl X x) (hm:X.mg x=none) (hv:bootBuiltins x=some (.type id)) (ha:QA X ow (e :: es) mr) (hn:x ≠ "__name__":=by decide) (hdb:(x == ("__debug__":Str))=false:=by decide)
 (he:starEach (e :: es) X.env=(false,eval e X.env) :: starEach es X.env:=by rfl) (hpl:(backTo pos (starEach es X.env)).any (·.1)=false:=by rfl):QE X ow (.Call (.Name x p') (e :: es) [] pos) (mCB f mr):=by
 obtain ⟨t,p,s⟩:=ha
 exact ⟨_,fN hc hg hm hv p hn hdb he hpl,rC hd s⟩
end
def fI (g:Int→Int→Int):D→D→(D→Prop)→Prop:=fun a b q=>match a,b with
 | .int i,.int j=>q (.int (g i j))
 | _,_=>False
def fIC (C:Int→Int→Prop) (g:Int→Int→Int):D→D→(D→Prop)→Prop:=fun a b q=>match a,b with
 | .int i,.int j=>C i j∧q (.int (g i j))
 | _,_=>False
def fB (g:Int→Int→Bool):D→D→(D→Prop)→Prop:=fun a b q=>match a,b with
 | .int i,.int j=>q (.bl (g i j))
 | _,_=>False
theorem dI {g:Int→Int→Int}:DOp (rI0 fun i j=>.int (g i j)) (fI g):=fun G H x y dx dy q Q s p1 p2 hf k=>by
 unfold fI at hf
 split at hf
 ·exact ⟨_,_,aG p1,aG p2,k _ _ hf (br _)⟩
 ·exact hf.elim
theorem dIC {C:Int→Int→Prop} {g:Int→Int→Int}:DOp (rI C fun i j=>.int (g i j)) (fIC C g):=fun G H x y dx dy q Q s p1 p2 hf k=>by
 unfold fIC at hf
 split at hf
 ·exact ⟨_,_,aG p1,aG p2,hf.1,k _ _ hf.2 (br _)⟩
 ·exact hf.elim
theorem dB {g:Int→Int→Bool}:DOp (rI0 fun i j=>.bl (g i j)) (fB g):=fun G H x y dx dy q Q s p1 p2 hf k=>by
 unfold fB at hf
 split at hf
 ·exact ⟨_,_,aG p1,aG p2,k _ _ hf (ci _)⟩
 ·exact hf.elim
def eqD (a b:D):Bool:=PyData.eqv (toP a) (toP b)
def okD (a:D):Bool:=SeqAt.shaped (toP a)
def fEq:D→D→(D→Prop)→Prop:=fun a b q=>match a,b with
 | .int i,.int j=>q (.bl (decide (i=j)))
 | a,b=>okD a=true∧okD b=true∧q (.bl (eqD a b))
def fNe:D→D→(D→Prop)→Prop:=fun a b q=>match a,b with
 | .int i,.int j=>q (.bl (!decide (i=j)))
 | a,b=>okD a=true∧okD b=true∧q (.bl (!eqD a b))
theorem lv (i j:Int):eqD (.int i) (.int j)=decide (i=j):=by
 unfold eqD; rw [toP,toP,PyData.eqv]; first | rfl | (rw [Bool.beq_eq_decide_eq])
theorem fZ (i:Int):okD (.int i)=true:=by unfold okD; rw [toP]; rfl
theorem dEq:DOp rEqD fEq:=fun G H x y dx dy q Q s p1 p2 hf k=>by
 have main:okD dx=true∧okD dy=true∧q (.bl (eqD dx dy)):=by
  unfold fEq at hf
  split at hf
  ·exact ⟨fZ _,fZ _,by rw [lv]; exact hf⟩
  ·exact hf
 exact ⟨dx,dy,Rep.mono s _ _ p1,Rep.mono s _ _ p2,main.1,main.2.1,k _ _ main.2.2 (ci _)⟩
theorem dNe:DOp rNeD fNe:=fun G H x y dx dy q Q s p1 p2 hf k=>by
 have main:okD dx=true∧okD dy=true∧q (.bl (!eqD dx dy)):=by
  unfold fNe at hf
  split at hf
  ·exact ⟨fZ _,fZ _,by rw [lv]; exact hf⟩
  ·exact hf
 exact ⟨dx,dy,Rep.mono s _ _ p1,Rep.mono s _ _ p2,main.1,main.2.1,k _ _ main.2.2 (ci _)⟩
def rK:D→Bool
 | .non=>true
 | _=>false
theorem jm {G:Hp} {d:D} {v:V} (h:Rep G d v):decide (v = .non)=rK d:=by
 cases d <;> rw [Rep] at h
 case non=>subst h; rfl
 case tup=>obtain ⟨a,xs,rfl,_⟩:=h; rfl
 case lst=>obtain ⟨a,xs,rfl,_⟩:=h; rfl
 case dct=>obtain ⟨a,xs,rfl,_⟩:=h; rfl
 case dic=>obtain ⟨a,xs,rfl,_⟩:=h; rfl
 case scr=>obtain ⟨a,rfl,_⟩:=h; rfl
 case ext=>obtain ⟨a,H0,rfl,_⟩:=h; rfl
 all_goals subst h; rfl
def fIsN:D→D→(D→Prop)→Prop:=fun a b q=>match b with
 | .non=>q (.bl (rK a))
 | _=>False
theorem dIsN:DOp (fun x y H Q=>y = .non∧Q (.bl (decide (x = .non))) H) fIsN:=fun G H x y dx dy q Q s p1 p2 hf k=>by
 unfold fIsN at hf
 split at hf
 ·rw [Rep] at p2; exact ⟨p2,by rw [jm p1]; exact k _ _ hf (ci _)⟩
 ·exact hf.elim
def fIsB:D→D→(D→Prop)→Prop:=fun a b q=>match a,b with
 | .bl x,.bl y=>q (.bl (x == y))
 | _,_=>False
def c_:D→Bool
 | .non=>true
 | .bl _=>true
 | .int _=>true
 | .str _=>true
 | _=>false
def eqF:D→D→Bool
 | .non,.non=>true
 | .bl a,.bl b=>a == b
 | .bl a,.int b=>(if a then 1 else 0) == b
 | .int a,.bl b=>a == (if b then 1 else 0)
 | .int a,.int b=>a == b
 | .str a,.str b=>a == b
 | _,_=>false
def toV:D→V
 | .non=>.non
 | .bl b=>.bl b
 | .int i=>.int i
 | .str x=>.str x
 | _=>.non
theorem dU {G:Hp} {d:D} {v:V} (h:Rep G d v) (f:c_ d=true):v=toV d:=by
 cases d <;> first | (rw [Rep] at h; exact h) | cases f
theorem rk:∀ {a b:D},c_ a=true→c_ b=true→eqV (toV a) (toV b)=eqF a b:=by
 intro a b f g
 cases a <;> cases b <;> first | rfl | exact absurd f Bool.false_ne_true | exact absurd g Bool.false_ne_true
theorem fL {d:D} (f:c_ d=true):ev (toV d)=true:=by
 cases d <;> first | rfl | cases f
theorem cU {G:Hp}:∀ {ds:List D} {xs:List V},Reps G ds xs→ds.all c_=true→xs=ds.map toV
 | [],xs,h,_=>by rw [Reps] at h; subst h; rfl
 | d :: ds,xs,h,f=>by
  rw [Reps] at h
  obtain ⟨v,vs,rfl,h1,h2⟩:=h
  rw [List.all_cons,Bool.and_eq_true] at f
  rw [dU h1 f.1,cU h2 f.2]; rfl
def inD (a:D) (ds:List D):Bool:=ds.any fun y=>eqF y a
theorem iR {a:D} (f:c_ a=true):∀ {ds:List D},ds.all c_=true→inV (toV a) (ds.map toV)=inD a ds
 | [],_=>rfl
 | d :: ds,g=>by
  rw [List.all_cons,Bool.and_eq_true] at g
  have:=iR f g.2
  unfold inV inD at *
  rw [List.map_cons,List.any_cons,List.any_cons,rk g.1 f,this]
theorem gB:∀ {ds:List D},ds.all c_=true→(ds.map toV).all ev=true
 | [],_=>rfl
 | d :: ds,g=>by
  rw [List.all_cons,Bool.and_eq_true] at g
  rw [List.map_cons,List.all_cons,fL g.1,gB g.2]; rfl
def fIn (neg:Bool):D→D→(D→Prop)→Prop:=fun a b q=>match b with
 | .lst ds=>c_ a=true∧ds.all c_=true∧q (.bl (if neg then !inD a ds else inD a ds))
 | .tup ds=>c_ a=true∧ds.all c_=true∧q (.bl (if neg then !inD a ds else inD a ds))
 | _=>False
theorem dIn {K:PySem.W.Frag} {neg:Bool}:DOp (rIn K neg) (fIn neg):=fun G H x y dx dy q Q s p1 p2 hf k=>by
 unfold fIn at hf
 split at hf
 ·rw [Rep] at p2
  obtain ⟨a,xs,rfl,h1,h2⟩:=p2
  obtain ⟨f1,f2,hq⟩:=hf
  refine ⟨a,xs,rfl,.inl (SqL.of (s _ _ h1)),?_,?_,?_⟩
  ·rw [dU p1 f1]; exact fL f1
  ·rw [cU h2 f2]; exact gB f2
  ·rw [dU p1 f1,cU h2 f2,iR f1 f2]; exact k _ _ hq (ci _)
 ·rw [Rep] at p2
  obtain ⟨a,xs,rfl,h1,h2⟩:=p2
  obtain ⟨f1,f2,hq⟩:=hf
  refine ⟨a,xs,rfl,.inr (SqT.of (s _ _ h1)),?_,?_,?_⟩
  ·rw [dU p1 f1]; exact fL f1
  ·rw [cU h2 f2]; exact gB f2
  ·rw [dU p1 f1,cU h2 f2,iR f1 f2]; exact k _ _ hq (ci _)
 ·exact hf.elim
def atD (ds:List D) (i:Int) (q:D→Prop):Prop:=match atI ds i with
 | some d=>q d
 | none=>False
def fIx (K:PySem.W.Frag):D→D→(D→Prop)→Prop:=fun a b q=>match a,b with
 | .lst ds,.int i=>atD ds i q
 | .tup ds,.int i=>atD ds i q
 | .scr φ ns,.int i=>(∀ a H,φ a→SqL K H a (ns.map V.int))∧match atI ns i with
  | some n=>q (.int n)
  | none=>False
 | _,_=>False
theorem cX {G:Hp}:∀ {ds:List D} {xs:List V} {j:Nat} {d:D},Reps G ds xs→ds[j]? = some d→∃ v,xs[j]? = some v∧Rep G d v
 | [],_,_,_,_,e=>by simp at e
 | d :: ds,xs,0,e,h,q=>by rw [Reps] at h; obtain ⟨v,vs,rfl,h1,_⟩:=h; simp at q; subst q; exact ⟨v,rfl,h1⟩
 | d :: ds,xs,j + 1,e,h,q=>by
  rw [Reps] at h
  obtain ⟨v,vs,rfl,_,h2⟩:=h
  obtain ⟨u,e1,e2⟩:=cX (j:=j) h2 (by simpa using q)
  exact ⟨u,by simpa using e1,e2⟩
theorem jM {G:Hp} {ds:List D} {xs:List V} {i:Int} {d:D} (h:Reps G ds xs) (e:atI ds i=some d):∃ v,atI xs i=some v∧Rep G d v:=by
 unfold atI at *
 rw [h.length]
 cases q:ixN ds.length i with
 | none=>rw [q] at e; cases e
 | some j=>rw [q] at e; exact cX h e
theorem k_ {α β:Type} {f : α→β} {xs:List α} {i:Int} {x : α} (h:atI xs i=some x):atI (xs.map f) i=some (f x):=by
 unfold atI at *
 rw [List.length_map]
 cases q:ixN xs.length i with
 | none=>rw [q] at h; cases h
 | some j=>rw [q] at h; rw [show (Option.some j).bind _=(xs.map f)[j]? from rfl,List.getElem?_map,show xs[j]? = some x from h]; rfl
theorem dIx {K:PySem.W.Frag}:DOp (rIx K) (fIx K):=fun G H x y dx dy q Q s p1 p2 hf k=>by
 unfold fIx at hf
 split at hf
 ·rw [Rep] at p1
  obtain ⟨a,xs,rfl,h1,h2⟩:=p1
  unfold atD at hf
  split at hf
  ·rename_i e
   obtain ⟨v,e1,e2⟩:=jM h2 e
   exact .inl ⟨a,xs,_,v,rfl,aG p2,SqL.of (s _ _ h1),e1,k _ _ hf e2⟩
  ·exact hf.elim
 ·rw [Rep] at p1
  obtain ⟨a,xs,rfl,h1,h2⟩:=p1
  unfold atD at hf
  split at hf
  ·rename_i e
   obtain ⟨v,e1,e2⟩:=jM h2 e
   exact .inr (.inl ⟨a,xs,_,v,rfl,aG p2,SqT.of (s _ _ h1),e1,k _ _ hf e2⟩)
  ·exact hf.elim
 ·rw [Rep] at p1
  obtain ⟨a,rfl,h1⟩:=p1
  obtain ⟨hk,hf⟩:=hf
  split at hf
  ·rename_i e
   refine .inl ⟨a,_,_,_,rfl,aG p2,?_,k_ e,k _ _ hf (br _)⟩
   rcases h1 with ⟨o,h1⟩ | h1
   ·exact .inl (.inr ⟨o,s _ _ h1⟩)
   ·exact hk a H h1
  ·exact hf.elim
 ·exact hf.elim
def fLen (K:PySem.W.Frag):List D→(D→Prop)→Prop:=fun ds q=>match ds with
 | [.lst ds]=>q (.int ds.length)
 | [.tup ds]=>q (.int ds.length)
 | [.scr φ ns]=>(∀ a H,φ a→SqL K H a (ns.map V.int))∧q (.int ns.length)
 | _=>False
theorem bp {G:Hp} {ds:List D} {v:V} (h:Rep G (.lst ds) v):∃ a xs,v = .ref a∧G a=some (.lst xs)∧Reps G ds xs:=by rw [Rep] at h; exact h
theorem di {G:Hp} {ds:List D} {v:V} (h:Rep G (.tup ds) v):∃ a xs,v = .ref a∧G a=some (.tup xs)∧Reps G ds xs:=by rw [Rep] at h; exact h
theorem kz {G:Hp} {φ:Addr→Prop} {ns:List Int} {v:V} (h:Rep G (.scr φ ns) v):∃ a,v = .ref a∧((∃ o,G a=some (.frz o (.lst (ns.map V.int))))∨φ a):=by rw [Rep] at h; exact h
theorem bD {G:Hp} {d:D} {xs:List V} (h:Reps G [d] xs):∃ v,xs=[v]∧Rep G d v:=by
 rw [Reps] at h; obtain ⟨v,vs,rfl,h1,h2⟩:=h; rw [Reps] at h2; subst h2; exact ⟨v,rfl,h1⟩
theorem c0 {G:Hp} {d e:D} {xs:List V} (h:Reps G [d,e] xs):∃ v u,xs=[v,u]∧Rep G d v∧Rep G e u:=by
 rw [Reps] at h; obtain ⟨v,vs,rfl,h1,h2⟩:=h; obtain ⟨u,rfl,h3⟩:=bD h2; exact ⟨v,u,rfl,h1,h3⟩
theorem cw {K:PySem.W.Frag}:fm (fun xs H Q=>∃ p ys,xs=[.ref p]∧(SqL K H p ys∨SqT K H p ys)∧Q (.int ys.length) H) (fLen K):=fun G H xs ds q Q s p hf k=>by
 unfold fLen at hf
 split at hf
 ·obtain ⟨v,rfl,p1⟩:=bD p
  obtain ⟨a,xs,rfl,h1,h2⟩:=bp p1
  exact ⟨a,xs,rfl,.inl (SqL.of (s _ _ h1)),by rw [h2.length]; exact k _ _ hf (br _)⟩
 ·obtain ⟨v,rfl,p1⟩:=bD p
  obtain ⟨a,xs,rfl,h1,h2⟩:=di p1
  exact ⟨a,xs,rfl,.inr (SqT.of (s _ _ h1)),by rw [h2.length]; exact k _ _ hf (br _)⟩
 ·obtain ⟨v,rfl,p1⟩:=bD p
  obtain ⟨a,rfl,h1⟩:=kz p1
  rename_i φ ns
  have hS:SqL K H a (ns.map V.int):=by
   rcases h1 with ⟨o,h1⟩ | h1
   ·exact .inl (.inr ⟨o,s _ _ h1⟩)
   ·exact hf.1 a H h1
  exact ⟨a,_,rfl,.inl hS,by rw [List.length_map]; exact k _ _ hf.2 (br _)⟩
 ·exact hf.elim
def fMax:List D→(D→Prop)→Prop:=fun ds q=>match ds with
 | [.int i,.int j]=>q (.int (if j > i then j else i))
 | _=>False
def fMin:List D→(D→Prop)→Prop:=fun ds q=>match ds with
 | [.int i,.int j]=>q (.int (if j<i then j else i))
 | _=>False
theorem dMax:fm (fun xs H Q=>∃ i j,xs=[.int i,.int j]∧Q (.int (if j > i then j else i)) H) fMax:=fun G H xs ds q Q s p hf k=>by
 unfold fMax at hf
 split at hf
 ·obtain ⟨v,u,rfl,p1,p2⟩:=c0 p
  rw [aG p1,aG p2]
  exact ⟨_,_,rfl,k _ _ hf (br _)⟩
 ·exact hf.elim
theorem mI:fm (fun xs H Q=>∃ i j,xs=[.int i,.int j]∧Q (.int (if j<i then j else i)) H) fMin:=fun G H xs ds q Q s p hf k=>by
 unfold fMin at hf
 split at hf
 ·obtain ⟨v,u,rfl,p1,p2⟩:=c0 p
  rw [aG p1,aG p2]
  exact ⟨_,_,rfl,k _ _ hf (br _)⟩
 ·exact hf.elim
def rM:List D→(D→Prop)→Prop:=fun ds q=>match ds with
 | [.int i]=>q (.int i)
 | [.bl k]=>q (.int (if k then 1 else 0))
 | _=>False
theorem rZ:fm (fun xs H Q=>(∃ i,xs=[.int i]∧Q (.int i) H)∨∃ k,xs=[.bl k]∧Q (.int (if k then 1 else 0)) H) rM:=fun G H xs ds q Q s p hf k=>by
 unfold rM at hf
 split at hf
 ·obtain ⟨v,rfl,p1⟩:=bD p
  rw [aG p1]
  exact .inl ⟨_,rfl,k _ _ hf (br _)⟩
 ·obtain ⟨v,rfl,p1⟩:=bD p
  rw [b9 p1]
  exact .inr ⟨_,rfl,k _ _ hf (br _)⟩
 ·exact hf.elim
section
variable {X:Cx} {ow:List Bool} {a b c e:Expr} {ma mb mc:ME} {pos:Pos} {mr:MA} {es:List Expr}
def mNeg (m:ME):ME:=fun ρ q=>m ρ fun d ρ'=>match d with
 | .int i=>q (.int (-i)) ρ'
 | _=>False
theorem pI (h:QE X ow a ma):QE X ow (.UnaryOp .USub a pos) (mNeg ma):=by
 obtain ⟨t,p,s⟩:=h
 refine ⟨_,pe_un t6 p,fun C G ρ σ H pd q Q r hm k=>s C G ρ σ H pd _ _ r hm fun d ρ' v G' H' hq s kp r' p=>?_⟩
 cases d with
 | int i=>exact ⟨i,aG p,k _ ρ' _ G' H' hq s kp r' (br _)⟩
 | _=>exact hq.elim
def mIsT (T:String) (m:ME):ME:=fun ρ q=>m ρ fun d ρ'=>match lY d T with
 | some b=>q (.bl b) ρ'
 | none=>False
theorem b8 {T:String} {x y:Str} {p1 p2:Pos} (hg:Gl X x) (hm:X.mg x=none) (hv:bootBuiltins x=some (.builtin "isinstance")) (ha:QE X ow a ma) (ht:PE X (.Name y p2) (tC (.ty T)))
 (hn:x ≠ "__name__":=by decide) (hdb:(x == ("__debug__":Str))=false:=by decide)
 (hs:starEach [.Name y p2] X.env=[(false,eval (.Name y p2) X.env)]:=by rfl)
 (he:starEach [a,.Name y p2] X.env=(false,eval a X.env) :: starEach [.Name y p2] X.env:=by rfl) (hpl:(backTo pos (starEach [.Name y p2] X.env)).any (·.1)=false:=by rfl) :
 QE X ow (.Call (.Name x p1) [a,.Name y p2] [] pos) (mIsT T ma):=by
 obtain ⟨t,p,s⟩:=ha
 refine ⟨_,gz jh hg hm hv (bB p (bB ht dn hs) he) hn hdb he hpl,fun C G ρ σ H pd q Q r hm k=>s C G ρ σ H pd _ _ r hm fun d ρ' v G' H' hq s kp r' p=>?_⟩
 cases e:lY d T with
 | none=>rw [e] at hq; exact hq.elim
 | some b=>rw [e] at hq; exact ⟨v,T,d,b,rfl,Rep.mono r'.gh _ _ p,e,k _ ρ' _ G' H' hq s kp r' (ci _)⟩
def pS (f g:D→D→(D→Prop)→Prop) (ma mb mc:ME):ME:=fun ρ q=>ma ρ fun x ρ1=>mb ρ1 fun y ρ2=>f x y fun z=>match z with
 | .bl k=>if k=true then mc ρ2 fun w ρ3=>g y w fun d=>q d ρ3 else q (.bl false) ρ2
 | _=>False
theorem nq {r r':R2} {f g:D→D→(D→Prop)→Prop} {ta tb tc:TE} (hf:DOp r f) (hg:DOp r' g) (ha:SE ow ta ma) (hb:SE ow tb mb) (hc:SE ow tc mc):SE ow (nT r r' ta tb tc) (pS f g ma mb mc):=fun C G ρ σ H pd q Q hr h k=>by
 refine jc (Q:=fun x y H2=>r x y H2 _) ha hb hr h fun dx dy ρ' x y G' H' h1 s kp r1 p1 p2=>?_
 refine hf G' H' x y dx dy _ _ r1.gh p1 p2 h1 fun d v hq p=>?_
 cases d with
 | bl b =>
  refine ⟨b,b9 p,?_⟩
  change (if b=true then _ else _) at hq
  cases b with
  | true =>
   rw [if_pos rfl] at hq ⊢
   refine hc C G' ρ' σ H' pd _ _ r1 hq fun dw ρ3 w G3 H3 h3 s3 kp3 r3 p3=>?_
   exact hg G3 H3 y w dy dw _ _ r3.gh (Rep.mono s3 _ _ p2) p3 h3 fun d v hq p=>k d ρ3 v G3 H3 hq (s.trans s3) (kp.trans kp3) r3 p
  | false=>rw [if_neg (by decide)] at hq ⊢; exact k _ ρ' _ G' H' hq s kp r1 (ci _)
 | _=>exact hq.elim
theorem jB {op op':CmpOp} {r r':R2} {f g:D→D→(D→Prop)→Prop} (ho:OpR X (compareOp op) r) (ho':OpR X (compareOp op') r') (hf:DOp r f) (hg:DOp r' g) (ha:QE X ow a ma) (hb:QE X ow b mb) (hc:QE X ow c mc)
 (hm:lastMarks [op,op'] [b,c]=false:=by with_unfolding_all rfl):QE X ow (.Compare a [op,op'] [b,c] pos) (pS f g ma mb mc):=by
 obtain ⟨ta,pa,sa⟩:=ha; obtain ⟨tb,pb,sb⟩:=hb; obtain ⟨tc,pc,sc⟩:=hc
 exact ⟨_,nY ho ho' pa pb pc hm,nq hf hg sa sb sc⟩
def fk (r:List V→Hp→VK→Prop) (f:List D→(List D→Prop)→Prop):Prop:=∀ (G H:Hp) (xs:List V) (ds:List D) (q:List D→Prop) (Q:VK),aO G H→Reps G ds xs→f ds q →
 (∀ es ys p,q es→Reps G es ys→H p=none→Q (.ref p) (upd H p (.lst ys)))→r xs H Q
def mNew (f:List D→(List D→Prop)→Prop) (m:MA):ME:=fun ρ q=>m ρ fun ds ρ'=>f ds fun es=>imms es=true∧q (.lst es) ρ'
def oF (f:List D→(List D→Prop)→Prop) (m:MA):ME:=fun ρ q=>m ρ fun ds ρ'=>f ds fun es=>q (.lst es) ρ'
theorem ko {r:List V→Hp→VK→Prop} {f:List D→(List D→Prop)→Prop} {t:TA} {n:Nat} (hd:fk r f) (s:SA ow n t mr):SF ow (fun σ H Q=>t σ H fun xs H1=>r xs H1 Q) (mNew f mr):=fun C G ρ σ H pd q Q hr hm k =>
 s C G ρ σ H pd _ _ hr hm fun ds ρ' vs G' H' hq z kp r' p hn=>hd G' H' vs ds _ _ r'.gh p hq fun es ys a hq p ha=>by
  obtain ⟨O,r'⟩:=r'
  exact k _ ρ' _ _ _ hq.2 z kp (r'.newL ha hq.1 p)
theorem mL {r:List V→Hp→VK→Prop} {f:List D→(List D→Prop)→Prop} {t:TA} {n:Nat} (hd:fk r f) (s:SA ow n t mr):SE ow (fun σ H Q=>t σ H fun xs H1=>r xs H1 Q) (oF f mr):=fun C G ρ σ H pd q Q hr hm k =>
 s C G ρ σ H pd _ _ hr hm fun ds ρ' vs G' H' hq z kp r' p hn=>hd G' H' vs ds _ _ r'.gh p hq fun es ys a hq p ha=>by
  obtain ⟨O,r'⟩:=r'
  obtain ⟨r2,s2⟩:=r'.new ha (.lst ys)
  exact k _ ρ' _ _ _ hq (z.trans s2) kp ⟨O,r2⟩ (fX aU (Reps.mono s2 _ _ p))
theorem ot {ta tb:TE} (ha:SE ow ta ma) (hb:SE ow tb mb):SA ow 2 (fun σ H Q=>ta σ H fun x H1=>tb σ H1 fun y H2=>Q [x,y] H2) (eA ma (eA mb lN)):=fun C G ρ σ H pd q Q hr hm k =>
 jc (Q:=fun x y H2=>Q [x,y] H2) ha hb hr hm fun dx dy ρ' x y G' H' h1 s kp r1 p1 p2=>k [dx,dy] ρ' [x,y] G' H' h1 s kp r1 (bo p1 (bo p2 bv)) rfl
theorem dR {G:Hp}:∀ {ds es:List D} {xs ys:List V},Reps G ds xs→Reps G es ys→Reps G (ds++es) (xs++ys)
 | [],es,xs,ys,h,h2=>by rw [Reps] at h; subst h; exact h2
 | d :: ds,es,xs,ys,h,h2=>by rw [Reps] at h; obtain ⟨v,vs,rfl,h1,h3⟩:=h; exact bo h1 (dR h3 h2)
theorem hZ {G:Hp}:∀ {ds:List D} {xs:List V} (n:Nat),Reps G ds xs→Reps G (ds.drop n) (xs.drop n)
 | [],xs,n,h=>by rw [Reps] at h; subst h; simp; exact bv
 | d :: ds,xs,0,h=>h
 | d :: ds,xs,n + 1,h=>by rw [Reps] at h; obtain ⟨v,vs,rfl,h1,h3⟩:=h; exact hZ n h3
theorem ib {G:Hp}:∀ {ds:List D} {xs:List V} (n:Nat),Reps G ds xs→Reps G (ds.take n) (xs.take n)
 | [],xs,n,h=>by rw [Reps] at h; subst h; simp; exact bv
 | d :: ds,xs,0,h=>by simp; exact bv
 | d :: ds,xs,n + 1,h=>by rw [Reps] at h; obtain ⟨v,vs,rfl,h1,h3⟩:=h; exact bo h1 (ib n h3)
theorem jj {G:Hp} {ds:List D} {xs:List V} (h:Reps G ds xs):∀ n:Nat,Reps G (List.replicate n ds).flatten (List.replicate n xs).flatten
 | 0=>by simp; exact bv
 | n + 1=>by simp [List.replicate_succ]; exact dR h (jj h n)
def fCat:List D→(List D→Prop)→Prop:=fun ds q=>match ds with
 | [.lst xs,.lst ys]=>xs.length + ys.length≤1000∧q (xs++ys)
 | _=>False
theorem lR:fk (fun xs H Q=>∃ x y,xs=[x,y]∧rCat x y H Q) fCat:=fun G H xs ds q Q s p hf k=>by
 unfold fCat at hf
 split at hf
 ·obtain ⟨v,u,rfl,p1,p2⟩:=c0 p
  rw [Rep] at p1 p2
  obtain ⟨a1,xs,rfl,h1,h2⟩:=p1
  obtain ⟨a2,ys,rfl,h3,h4⟩:=p2
  exact ⟨_,_,rfl,a1,a2,xs,ys,rfl,rfl,s _ _ h1,s _ _ h3,cS (by rw [h2.length,h4.length]; exact hf.1),fun p hp=>k _ _ p hf.2 (dR h2 h4) hp⟩
 ·exact hf.elim
def fRep:List D→(List D→Prop)→Prop:=fun ds q=>match ds with
 | [.lst xs,.int n]=>(-(2 ^ 63)≤n∧n<2 ^ 63∧xs.length * n.toNat≤1000)∧q (List.replicate n.toNat xs).flatten
 | _=>False
theorem dRep:fk (fun xs H Q=>∃ x y,xs=[x,y]∧rRep x y H Q) fRep:=fun G H xs ds q Q s p hf k=>by
 unfold fRep at hf
 split at hf
 ·obtain ⟨v,u,rfl,p1,p2⟩:=c0 p
  obtain ⟨a1,xs,rfl,h1,h2⟩:=bp p1
  rw [aG p2]
  exact ⟨_,_,rfl,a1,_,xs,rfl,rfl,s _ _ h1,hf.1.1,hf.1.2.1,cS (by rw [h2.length]; exact hf.1.2.2),fun p hp=>k _ _ p hf.2 (jj h2 _) hp⟩
 ·exact hf.elim
def mMk (f:List D→(List D→Prop)→Prop) (ma mb:ME):ME:=mNew f (eA ma (eA mb lN))
def mMkS (f:List D→(List D→Prop)→Prop) (ma mb:ME):ME:=oF f (eA ma (eA mb lN))
def R2ok (r:R2):List V→Hp→VK→Prop:=fun xs H Q=>match xs with
 | [x,y]=>r x y H Q
 | _=>False
theorem fk.r2 {r:R2} {f:List D→(List D→Prop)→Prop} (h:fk (fun xs H Q=>∃ x y,xs=[x,y]∧r x y H Q) f):fk (R2ok r) f:=fun G H xs ds q Q s p hf k=>by
 obtain ⟨x,y,rfl,z⟩:=h G H xs ds q Q s p hf k
 exact z
theorem rQ {op:Operator} {r:R2} {f:List D→(List D→Prop)→Prop} (ho:OpR X (binaryOp op) r) (hd:fk (fun xs H Q=>∃ x y,xs=[x,y]∧r x y H Q) f) (ha:QE X ow a ma) (hb:QE X ow b mb):QF X ow (.BinOp a op b pos) (mMk f ma mb):=by
 obtain ⟨ta,pa,sa⟩:=ha; obtain ⟨tb,pb,sb⟩:=hb
 exact ⟨tOp r ta tb,o8 ho pa pb,ko (r:=R2ok r) hd.r2 (ot sa sb)⟩
theorem ik {op:Operator} {r:R2} {f:List D→(List D→Prop)→Prop} (ho:OpR X (binaryOp op) r) (hd:fk (fun xs H Q=>∃ x y,xs=[x,y]∧r x y H Q) f) (ha:QE X ow a ma) (hb:QE X ow b mb):QE X ow (.BinOp a op b pos) (mMkS f ma mb):=by
 obtain ⟨ta,pa,sa⟩:=ha; obtain ⟨tb,pb,sb⟩:=hb
 exact ⟨tOp r ta tb,o8 ho pa pb,mL (r:=R2ok r) hd.r2 (ot sa sb)⟩
def rY:List D→(List D→Prop)→Prop:=fun ds q=>match ds with
 | [.lst xs]=>q xs
 | [.tup xs]=>q xs
 | _=>False
theorem dC {K:PySem.W.Frag}:fk (fun xs H Q=>∃ p ys,xs=[.ref p]∧(SqL K H p ys∨SqT K H p ys)∧∀ l,H l=none→Q (.ref l) (upd H l (.lst ys))) rY:=fun G H xs ds q Q s p hf k=>by
 unfold rY at hf
 split at hf
 ·obtain ⟨v,rfl,p1⟩:=bD p
  obtain ⟨a,xs,rfl,h1,h2⟩:=bp p1
  exact ⟨a,xs,rfl,.inl (SqL.of (s _ _ h1)),fun l hl=>k _ _ l hf h2 hl⟩
 ·obtain ⟨v,rfl,p1⟩:=bD p
  obtain ⟨a,xs,rfl,h1,h2⟩:=di p1
  exact ⟨a,xs,rfl,.inr (SqT.of (s _ _ h1)),fun l hl=>k _ _ l hf h2 hl⟩
 ·exact hf.elim
variable {x:Str} {p':Pos}
theorem bT {id:String} {r:List V→Hp→VK→Prop} {f:List D→(List D→Prop)→Prop} (hc:cE X (.type id) r) (hd:fk r f) (hg:Gl X x) (hm:X.mg x=none) (hv:bootBuiltins x=some (.type id)) (ha:QA X ow (e :: es) mr) (hn:x ≠ "__name__":=by decide) (hdb:(x == ("__debug__":Str))=false:=by decide)
 (he:starEach (e :: es) X.env=(false,eval e X.env) :: starEach es X.env:=by rfl) (hpl:(backTo pos (starEach es X.env)).any (·.1)=false:=by rfl):QF X ow (.Call (.Name x p') (e :: es) [] pos) (mNew f mr):=by
 obtain ⟨t,p,s⟩:=ha
 exact ⟨_,fN hc hg hm hv p hn hdb he hpl,ko hd s⟩
theorem eD {id:String} {r:List V→Hp→VK→Prop} {f:List D→(List D→Prop)→Prop} (hc:cE X (.type id) r) (hd:fk r f) (hg:Gl X x) (hm:X.mg x=none) (hv:bootBuiltins x=some (.type id)) (ha:QA X ow (e :: es) mr) (hn:x ≠ "__name__":=by decide) (hdb:(x == ("__debug__":Str))=false:=by decide)
 (he:starEach (e :: es) X.env=(false,eval e X.env) :: starEach es X.env:=by rfl) (hpl:(backTo pos (starEach es X.env)).any (·.1)=false:=by rfl):QE X ow (.Call (.Name x p') (e :: es) [] pos) (oF f mr):=by
 obtain ⟨t,p,s⟩:=ha
 exact ⟨_,fN hc hg hm hv p hn hdb he hpl,mL hd s⟩
theorem jr {id:String} {r:List V→Hp→VK→Prop} {f:List D→(List D→Prop)→Prop} (hc:cE X (.builtin id) r) (hd:fk r f) (hg:Gl X x) (hm:X.mg x=none) (hv:bootBuiltins x=some (.builtin id)) (ha:QA X ow (e :: es) mr) (hn:x ≠ "__name__":=by decide) (hdb:(x == ("__debug__":Str))=false:=by decide)
 (he:starEach (e :: es) X.env=(false,eval e X.env) :: starEach es X.env:=by rfl) (hpl:(backTo pos (starEach es X.env)).any (·.1)=false:=by rfl):QF X ow (.Call (.Name x p') (e :: es) [] pos) (mNew f mr):=by
 obtain ⟨t,p,s⟩:=ha
 exact ⟨_,gz hc hg hm hv p hn hdb he hpl,ko hd s⟩
def dO (xs:List D) (lo hi:Option Int):List D:=(xs.drop (HT.sIx xs.length 0 lo)).take (HT.sIx xs.length xs.length hi - HT.sIx xs.length 0 lo)
theorem oD {G:Hp} {ds:List D} {xs:List V} (h:Reps G ds xs) (lo hi:Option Int):Reps G (dO ds lo hi) (jS xs lo hi):=by
 unfold dO jS
 rw [h.length]
 exact ib _ (hZ _ h)
abbrev MO:=DSt→(Option Int→DSt→Prop)→Prop
def SO (ow:List Bool) (t:TO) (m:MO):Prop:=∀ (C:Ctx) (G:Hp) (ρ:DSt) (σ:St) (H:Hp) (pd:List (D×V)) (q:Option Int→DSt→Prop) (Q:Option Int→Hp→Prop),R C ow G ρ σ H pd→m ρ q →
 (∀ b ρ' G' H',q b ρ'→aO G G'→Kp ow ρ ρ'→R C ow G' ρ' σ H' pd→Q b H')→t σ H Q
structure QO (X:Cx) (ow:List Bool) (e:Option Expr) (m:MO):Prop where
 ex:∃ t,PO X e t∧SO ow t m
def qF:MO:=fun ρ q=>q none ρ
def mPart (m:ME):MO:=fun ρ q=>m ρ fun d ρ'=>match d with
 | .int i=>q (some i) ρ'
 | _=>False
theorem iF:QO X ow none qF:=⟨_,qW,fun C G ρ σ H pd q Q r h k=>k none ρ G H h (aO.refl _) Kp.refl r⟩
theorem jb (h:QE X ow e ma):QO X ow (some e) (mPart ma):=by
 obtain ⟨t,p,s⟩:=h
 refine ⟨_,qI p,fun C G ρ σ H pd q Q r hm k=>s C G ρ σ H pd _ _ r hm fun d ρ' v G' H' hq s kp r' p=>?_⟩
 cases d with
 | int i=>exact ⟨i,aG p,k _ ρ' G' H' hq s kp r'⟩
 | _=>exact hq.elim
def mSl (m:ME) (ml mh:MO):ME:=fun ρ q=>m ρ fun d ρ1=>ml ρ1 fun lo ρ2=>mh ρ2 fun hi ρ3=>match d with
 | .lst ds=>imms (dO ds lo hi)=true∧q (.lst (dO ds lo hi)) ρ3
 | _=>False
def mSlS (m:ME) (ml mh:MO):ME:=fun ρ q=>m ρ fun d ρ1=>ml ρ1 fun lo ρ2=>mh ρ2 fun hi ρ3=>match d with
 | .lst ds=>q (.lst (dO ds lo hi)) ρ3
 | _=>False
variable {lo hi:Option Expr} {ml mh:MO} {p2:Pos}
theorem gE (h:QE X ow e ma) (hl:QO X ow lo ml) (hh:QO X ow hi mh):QE X ow (.Subscript e (.Slice lo hi none p2) pos) (mSlS ma ml mh):=by
 obtain ⟨t,p,s⟩:=h; obtain ⟨t1,p1,s1⟩:=hl; obtain ⟨t2,p2,s2⟩:=hh
 refine ⟨_,ol rq p p1 p2,fun C G ρ σ H pd q Q r hm k=>s C G ρ σ H pd _ _ r hm fun d ρ' v G' H' hq z kp r' p=>?_⟩
 refine s1 C G' ρ' σ H' pd _ _ r' hq fun l ρ1 G1 H1 hq1 z1 kp1 r1=>s2 C G1 ρ1 σ H1 pd _ _ r1 hq1 fun u ρ2 G2 H2 hq2 z2 kp2 r2=>?_
 cases d with
 | lst ds =>
  obtain ⟨a,xs,rfl,h1,h2⟩:=bp (Rep.mono (z1.trans z2) _ _ p)
  refine ⟨a,xs,rfl,SqL.of (r2.gh _ _ h1),fun b hb=>?_⟩
  obtain ⟨O,r2⟩:=r2
  obtain ⟨r3,z3⟩:=r2.new hb (.lst (jS xs l u))
  exact k _ ρ2 _ _ _ hq2 (z.trans (z1.trans (z2.trans z3))) (kp.trans (kp1.trans kp2)) ⟨O,r3⟩ (fX aU (Reps.mono z3 _ _ (oD h2 _ _)))
 | _=>exact hq2.elim
end
def ck (f:Nat→Option Nat) (O:Own):Own:=fun a=>match O a with
 | some m=>(f m.1).map fun l=>(l,m.2)
 | none=>none
theorem lj {f:Nat→Option Nat} {O:Own} {a:Addr} {l l':Nat} {π:List Nat} (h:O a=some (l,π)) (hf:f l=some l'):ck f O a=some (l',π):=by unfold ck; rw [h]; show (f l).map _=_; rw [hf]; rfl
theorem d_ {f:Nat→Option Nat} {O:Own} {a:Addr} {l':Nat} {π:List Nat} (h:ck f O a=some (l',π)):∃ l,O a=some (l,π)∧f l=some l':=by
 unfold ck at h
 cases e:O a with
 | none=>rw [e] at h; cases h
 | some m =>
  rw [e] at h
  change (f m.1).map _=_ at h
  cases e2:f m.1 with
  | none=>rw [e2] at h; cases h
  | some l=>rw [e2] at h; cases h; exact ⟨m.1,rfl,e2⟩
theorem l_ {f:Nat→Option Nat} {O:Own} {a:Addr} {l:Nat} {π:List Nat} (h:O a=some (l,π)) (hf:f l=none):ck f O a=none:=by unfold ck; rw [h]; show (f l).map _=_; rw [hf]; rfl
def msV:List Bool→List V→List (Option V)
 | b :: bs,v :: vs=>(if b=true then some v else none) :: msV bs vs
 | _,_=>[]
theorem jW:∀ {mu:List Bool} {vs:List V} {k:Nat} {v:V},(msV mu vs)[k]? = some (some v)→mu[k]? = some true∧vs[k]? = some v
 | [],vs,k,v,h=>by simp [msV] at h
 | b :: bs,[],k,v,h=>by simp [msV] at h
 | b :: bs,u :: vs,0,v,h=>by
  simp only [msV,List.getElem?_cons_zero,Option.some.injEq] at h
  split at h
  ·rename_i c; cases h; subst c; exact ⟨rfl,rfl⟩
  ·cases h
 | b :: bs,u :: vs,k + 1,v,h=>by
  simp only [msV,List.getElem?_cons_succ] at h
  simpa using jW h
theorem j9:∀ {mu:List Bool} {vs:List V} {k:Nat} {v:V},mu[k]? = some true→vs[k]? = some v→(msV mu vs)[k]? = some (some v)
 | [],vs,k,v,h,_=>by simp at h
 | b :: bs,[],k,v,_,h=>by simp at h
 | b :: bs,u :: vs,0,v,h,h2=>by simp at h h2; subst h; subst h2; simp [msV]
 | b :: bs,u :: vs,k + 1,v,h,h2=>by simp only [msV,List.getElem?_cons_succ]; exact j9 (by simpa using h) (by simpa using h2)
section
variable {C:Ctx} {ow mu:List Bool} {G:Hp} {ρ:DSt} {σ:St} {H:Hp} {pd:List (D×V)} {O:Own} {fin fbk:Nat→Option Nat}
theorem RO.into (ro:RO C ow G ρ σ H pd O) {ds:List D} {vs:List V} (hl:ds.length=vs.length)
 (hs:∀ (k:Nat) d,ds[k]? = some d→∃ v,vs[k]? = some v∧if mu[k]? = some true then ∃ l,Sep G H O l d [] v∧fin l=some (2 * k) else Rep G d v)
 (hc:∀ l l',fin l=some l'→∃ k,l'=2 * k∧mu[k]? = some true∧k<vs.length) :
 RO ⟨G,H,ck fin O,msV mu vs,0⟩ mu G (ds.map some) (vs.map some) H [] (ck fin O):=by
 refine ⟨by simp [hl],ro.gh,fun _ _ e=>e,fun _ _ e=>.inl e,?_,?_,fun _ _ e _ _=>e,ro.ft,fun _ e=>e,?_,?_,trivial,Nat.le_refl _⟩
 ·intro a m e
  obtain ⟨l',π⟩:=m
  obtain ⟨l,e1,e2⟩:=d_ e
  obtain ⟨q1,q2,_⟩:=ro.og a _ e1
  exact ⟨q1,q2,.inr ⟨π,e⟩⟩
 ·intro a l' π e
  obtain ⟨l,e1,e2⟩:=d_ e
  obtain ⟨k,rfl,h2,h3⟩:=hc _ _ e2
  exact .inl ⟨k,vs[k],rfl,j9 h2 (List.getElem?_eq_getElem h3)⟩
 ·intro k v e
  rw [List.getElem?_map,(jW e).2]; rfl
 ·intro k d e
  rw [List.getElem?_map] at e
  cases e1:ds[k]? with
  | none=>rw [e1] at e; cases e
  | some d' =>
   rw [e1] at e
   cases e
   obtain ⟨v,h1,h2⟩:=hs k d e1
   refine ⟨v,by rw [List.getElem?_map,h1]; rfl,?_⟩
   split at h2
   ·rename_i c
    rw [if_pos c]
    obtain ⟨l,h3,h4⟩:=h2
    exact h3.keep (fun _ _ z=>z) fun a τ q=>⟨lj q h4,rfl⟩
   ·rename_i c; rw [if_neg c]; exact h2
def lE (fin fbk:Nat→Option Nat) (O O2:Own):Own:=fun a=>match O2 a with
 | some m=>(fbk m.1).map fun l=>(l,m.2)
 | none=>match ck fin O a with
  | some _=>none
  | none=>O a
theorem RO.out (ro:RO C ow G ρ σ H pd O) {vs:List V} {G2:Hp} {ρ2:DSt} {σ2:St} {H2:Hp} {pd2 pd3:List (D×V)} {O2:Own} {ρ3:DSt} {ow2:List Bool} {np:Nat} {mv:List (Option V)}
 (ri:RO ⟨G,H,ck fin O,mv,np⟩ ow2 G2 ρ2 σ2 H2 pd2 O2) (hib:∀ l0 l' l,fin l0=some l'→fbk l'=some l→l=l0)
 (hlen : ρ3.length=σ.length) (hnp:C.np≤pd3.length)
 (hS:∀ (i:Nat) d,ow[i]?≠some true→ρ3[i]? = some (some d)→ρ[i]? = some (some d))
 (hO:∀ (i:Nat) d,ow[i]? = some true→ρ3[i]? = some (some d)→(fin (2 * i)=none∧ρ[i]? = some (some d))∨∃ (k:Nat) (v:V),fbk (2 * k)=some (2 * i)∧ow2[k]? = some true∧ρ2[k]? = some (some d)∧σ[i]? = some (some v)∧σ2[k]? = some (some v))
 (hP:∀ (O3:Own),(∀ a l π,O a=some (l,π)→fin l=none→O3 a=some (l,π)∧H2 a=H a)→(∀ a l l' π,O2 a=some (l',π)→fbk l'=some l→O3 a=some (l,π))→cC G G2→cb G2 H2 O3 pd3) :
 RO C ow G2 ρ3 σ H2 pd3 (lE fin fbk O O2):=by
 have keep:∀ a l π,O a=some (l,π)→fin l=none→lE fin fbk O O2 a=some (l,π)∧H2 a=H a:=fun a l π e hn=>by
  have e1:=l_ (f:=fin) e hn
  obtain ⟨g,⟨xs,hx⟩,_⟩:=ro.og a _ e
  have e2:O2 a=none:=by
   cases q:O2 a with
   | none=>rfl
   | some m =>
    obtain ⟨_,_,q3⟩:=ri.og a m q
    rcases q3 with q3 | ⟨π',q3⟩
    ·change H a=none at q3; rw [hx] at q3; cases q3
    ·change ck fin O a=_ at q3; rw [e1] at q3; cases q3
  constructor
  ·show (match O2 a with | some m=>_ | none=>_)=_
   rw [e2]
   show (match ck fin O a with | some _=>none | none=>O a)=_
   rw [e1]; exact e
  ·rw [ri.fr a _ hx e1 (WrO.nt xs),hx]
 have come:∀ a l l' π,O2 a=some (l',π)→fbk l'=some l→lE fin fbk O O2 a=some (l,π):=fun a l l' π e hb=>by
  show (match O2 a with | some m=>_ | none=>_)=_
  rw [e]
  show (fbk l').map _=_
  rw [hb]; rfl
 have ts:cC G G2:=(aO.ts ri.g0)
 refine ⟨hlen,ri.gh,fun a o e=>ri.g0 a o (ro.g0 a o e),?_,?_,ro.cok,?_,ri.ft,fun a e=>ro.al a (ri.al a e),ro.mp,?_,hP _ keep come ts,hnp⟩
 ·intro a o e
  rcases ri.gn a o e with q | q
  ·exact ro.gn a o q
  ·exact .inr (ro.al a q)
 ·intro a m e
  change (match O2 a with | some m=>_ | none=>_)=_ at e
  cases q:O2 a with
  | some m' =>
   rw [q] at e
   change (fbk m'.1).map _=_ at e
   cases q2:fbk m'.1 with
   | none=>rw [q2] at e; cases e
   | some l =>
    rw [q2] at e; cases e
    obtain ⟨g1,g2,g3⟩:=ri.og a m' q
    refine ⟨g1,g2,?_⟩
    rcases g3 with g3 | ⟨π',g3⟩
    ·exact .inl (ro.al a g3)
    ·obtain ⟨l0,g4,g5⟩:=d_ g3
     have:=hib _ _ _ g5 q2
     subst this
     exact (ro.og a _ g4).2.2
  | none =>
   rw [q] at e
   change (match ck fin O a with | some _=>none | none=>O a)=_ at e
   cases q2:ck fin O a with
   | some _=>rw [q2] at e; cases e
   | none =>
    rw [q2] at e
    change O a=some m at e
    obtain ⟨g1,⟨xs,g2⟩,g3⟩:=ro.og a m e
    refine ⟨?_,⟨xs,ri.fr a _ g2 q2 (WrO.nt xs)⟩,g3⟩
    cases z:G2 a with
    | none=>rfl
    | some o =>
     rcases ri.gn a o z with z | z
     ·change G a=_ at z; rw [g1] at z; cases z
     ·change H a=_ at z; rw [g2] at z; cases z
 ·intro a o e n t
  have q:=ro.fr a o e n t
  refine ri.fr a o q ?_ t
  show ck fin O a=none
  cases z:ck fin O a with
  | none=>rfl
  | some m =>
   obtain ⟨l',π⟩:=m
   obtain ⟨l,z1,_⟩:=d_ z
   obtain ⟨_,_,z3⟩:=ro.og a _ z1
   rcases z3 with z3 | ⟨_,z3⟩
   ·rw [z3] at e; cases e
   ·rw [z3] at n; cases n
 ·intro i d e
  by_cases c:ow[i]? = some true
  ·rcases hO i d c e with ⟨h1,h2⟩ | ⟨k,v,h1,h2,h3,h4,h5⟩
   ·obtain ⟨v,q1,q2⟩:=ro.sl i d h2
    rw [if_pos c] at q2
    exact ⟨v,q1,by rw [if_pos c]; exact q2.keep ts fun a τ q=>keep a _ _ q h1⟩
   ·obtain ⟨v',q1,q2⟩:=ri.sl k d h3
    rw [if_pos h2] at q2
    rw [h5] at q1; cases q1
    exact ⟨v,h4,by rw [if_pos c]; exact q2.keep (fun _ _ z=>z) fun a τ q=>⟨come _ _ _ _ q h1,rfl⟩⟩
  ·obtain ⟨v,q1,q2⟩:=ro.sl i d (hS i d c e)
   rw [if_neg c] at q2
   exact ⟨v,q1,by rw [if_neg c]; exact q2.mono ri.g0⟩
end
def Ret (fr:Bool) (C:Ctx) (ow:List Bool) (G:Hp) (ρ:DSt) (σ:St) (H:Hp) (d:D) (v:V):Prop:=if fr=true then R C ow G ρ σ H [(d,v)] else R C ow G ρ σ H []∧Rep G d v
def mus:List Bool→DSt→DSt
 | true :: bs,x :: ρ=>x :: mus bs ρ
 | false :: bs,_ :: ρ=>mus bs ρ
 | true :: bs,[]=>none :: mus bs []
 | false :: bs,[]=>mus bs []
 | [],_=>[]
def cr {α:Type}:Nat→List (Option α)→List (Option α)
 | 0,_=>[]
 | n + 1,x :: ρ=>x :: cr n ρ
 | n + 1,[]=>none :: cr n []
theorem cZ {α:Type}:∀ (n:Nat) (ρ:List (Option α)),(cr n ρ).length=n
 | 0,_=>rfl
 | n + 1,x :: ρ=>by simp [cr,cZ n ρ]
 | n + 1,[]=>by simp [cr,cZ n []]
theorem dg:∀ (mu:List Bool) (ρ:DSt),mus mu (cr mu.length ρ)=mus mu ρ
 | [],_=>by simp [mus]
 | true :: bs,x :: ρ=>by simp [cr,mus,dg bs ρ]
 | false :: bs,x :: ρ=>by simp [cr,mus,dg bs ρ]
 | true :: bs,[]=>by simp [cr,mus,dg bs []]
 | false :: bs,[]=>by simp [cr,mus,dg bs []]
theorem iN {α:Type}:∀ {n:Nat} {ρ:List (Option α)} {i:Nat} {d : α},(cr n ρ)[i]? = some (some d)→i<n∧ρ[i]? = some (some d)
 | 0,_,_,_,h=>by simp [cr] at h
 | n + 1,x :: ρ,0,d,h=>by simp [cr] at h; exact ⟨by omega,by simp [h]⟩
 | n + 1,x :: ρ,i + 1,d,h=>by simp only [cr,List.getElem?_cons_succ] at h; obtain ⟨a,b⟩:=iN h; exact ⟨by omega,by simpa using b⟩
 | n + 1,[],0,d,h=>by simp [cr] at h
 | n + 1,[],i + 1,d,h=>by simp only [cr,List.getElem?_cons_succ] at h; obtain ⟨a,b⟩:=iN h; simp at b
theorem iP {α:Type}:∀ {n:Nat} {ρ:List (Option α)} {i:Nat} {d : α},i<n→ρ[i]? = some (some d)→(cr n ρ)[i]? = some (some d)
 | 0,_,_,_,h,_=>by omega
 | n + 1,x :: ρ,0,d,h,e=>by simp at e; simp [cr,e]
 | n + 1,x :: ρ,i + 1,d,h,e=>by simp only [cr,List.getElem?_cons_succ]; exact iP (by omega) (by simpa using e)
 | n + 1,[],i,d,h,e=>by simp at e
abbrev SpD:=List D→(D→DSt→Prop)→Prop
def aY (mu:List Bool) (fr:Bool) (sd:SpD):Sp:=fun vs H Q _=>∃ (C:Ctx) (G:Hp) (ds:List D) (q:D→DSt→Prop),C.np=0∧C.mu=msV mu vs∧R C mu G (ds.map some) (vs.map some) H []∧sd ds q∧mu.length=ds.length ∧
 ∀ d ρ' σ' v G' H',q d (mus mu ρ')→aO G G'→ρ'.length=mu.length→Ret fr C mu G' ρ' σ' H' d v→Q v H'
structure EndsD where
 nx:DSt→Prop
 rt:D→DSt→Prop
 bk:DSt→Prop:=fun _=>False
 ct:DSt→Prop:=fun _=>False
abbrev MS:=EndsD→DSt→Prop
structure Ks (C:Ctx) (ow:List Bool) (fr:Bool) (G:Hp) (n:EndsD) (D:Ends):Prop where
 nx:∀ ρ σ G' H,n.nx ρ→aO G G'→R C ow G' ρ σ H []→D.nx σ H
 bk:∀ ρ σ G' H,n.bk ρ→aO G G'→R C ow G' ρ σ H []→D.bk σ H
 ct:∀ ρ σ G' H,n.ct ρ→aO G G'→R C ow G' ρ σ H []→D.ct σ H
 rt:∀ d ρ σ v G' H,n.rt d ρ→aO G G'→Ret fr C ow G' ρ σ H d v→D.rt v H
theorem Ks.mono {C:Ctx} {ow:List Bool} {fr:Bool} {G G1:Hp} {n:EndsD} {D:Ends} (h:Ks C ow fr G n D) (s:aO G G1):Ks C ow fr G1 n D :=
 ⟨fun ρ σ G' H a b c=>h.nx ρ σ G' H a (s.trans b) c,fun ρ σ G' H a b c=>h.bk ρ σ G' H a (s.trans b) c,fun ρ σ G' H a b c=>h.ct ρ σ G' H a (s.trans b) c,fun d ρ σ v G' H a b c=>h.rt d ρ σ v G' H a (s.trans b) c⟩
def gu (C:Ctx) (mu:List Bool):Prop:=∀ (i:Nat) v,C.mu[i]? = some (some v)→mu[i]? = some true
theorem gu.no {C:Ctx} {mu:List Bool} (h:gu C mu) {i:Nat} (hi:mu[i]?≠some true):∀ v,C.mu[i]?≠some (some v):=fun v e=>hi (h i v e)
structure Md where
 mu:List Bool
 ow:List Bool
 fr:Bool
def SS (M:Md) (t:TS) (m:MS):Prop:=∀ (C:Ctx) (G:Hp) (ρ:DSt) (σ:St) (H:Hp) (n:EndsD) (D:Ends),gu C M.mu→C.np=0→R C M.ow G ρ σ H []→m n ρ→Ks C M.ow M.fr G n D→t D σ H
structure QS (X:Cx) (M:Md) (st:Stmt) (m:MS):Prop where
 ex:∃ t,PS X st t∧SS M t m
structure QSs (X:Cx) (M:Md) (st:List Stmt) (m:MS):Prop where
 ex:∃ t,PSs X st t∧SS M t m
section
variable {X:Cx} {M:Md} {a b c e:Expr} {ma mb mc:ME} {mt:MT} {pos pos':Pos} {st:Stmt} {rest:List Stmt} {m m1 m2:MS}
def mSeq (m1 m2:MS):MS:=fun n ρ=>m1 { n with nx:=fun ρ'=>m2 n ρ' } ρ
def mNext:MS:=fun n ρ=>n.nx ρ
theorem aw:QSs X M [] mNext:=⟨_,p_,fun C G ρ σ H n D hm hn r h k=>k.nx ρ σ G H h (aO.refl _) r⟩
theorem af (h:QS X M st m):QSs X M [st] m:=by obtain ⟨t,p,s⟩:=h; exact ⟨_,qC p,s⟩
theorem ad (h:QS X M st m1) (h2:QSs X M rest m2):QSs X M (st :: rest) (mSeq m1 m2):=by
 obtain ⟨t,p,s⟩:=h; obtain ⟨t2,p2,s2⟩:=h2
 refine ⟨_,nz p p2,fun C G ρ σ H n D hm hn r h k=>s C G ρ σ H _ _ hm hn r h ?_⟩
 exact ⟨fun ρ' σ' G' H' h' z r'=>s2 C G' ρ' σ' H' n D hm hn r' h' (k.mono z),k.bk,k.ct,k.rt⟩
def u9:MS:=fun _ _=>False
theorem bx:QS X M st u9:=⟨_,nC,fun C G ρ σ H n D hm hn r h k=>h.elim⟩
def mIfS (mt:MT) (m1 m2:MS):MS:=fun n ρ=>mt ρ fun b ρ1=>if b=true then m1 n ρ1 else m2 n ρ1
theorem aM {s1 s2:List Stmt} (h:QT X M.ow c mt) (h1:QSs X M s1 m1) (h2:QSs X M s2 m2):QS X M (.If c s1 s2 pos) (mIfS mt m1 m2):=by
 obtain ⟨t,p,s⟩:=h; obtain ⟨t1,p1,s1⟩:=h1; obtain ⟨t2,p2,s2⟩:=h2
 refine ⟨_,ps_if p p1 p2,fun C G ρ σ H n D hm hn r h k=>s C G ρ σ H [] _ _ r h fun b ρ' G' H' hq z kp r'=>?_⟩
 cases b with
 | true=>rw [if_pos rfl] at hq ⊢; exact s1 C G' ρ' σ H' n D hm hn r' hq (k.mono z)
 | false=>rw [if_neg (by decide)] at hq ⊢; exact s2 C G' ρ' σ H' n D hm hn r' hq (k.mono z)
def mRet (m:ME):MS:=fun n ρ=>m ρ n.rt
theorem aF (h:QE X M.ow e ma) (hf:M.fr=false:=by rfl):QS X M (.Return (some e) pos) (mRet ma):=by
 obtain ⟨t,p,s⟩:=h
 refine ⟨_,kc p,fun C G ρ σ H n D hm hn r h k=>s C G ρ σ H [] _ _ r h fun d ρ' v G' H' hq z kp r' p=>k.rt d ρ' σ v G' H' hq z (by unfold Ret; rw [if_neg (by rw [hf]; decide)]; exact ⟨r',p⟩)⟩
theorem R.non {C:Ctx} {ow:List Bool} {fr:Bool} {G:Hp} {ρ:DSt} {σ:St} {H:Hp} (r:R C ow G ρ σ H []):Ret fr C ow G ρ σ H .non .non:=by
 unfold Ret
 split
 ·obtain ⟨O,r⟩:=r
  exact ⟨O,r.len,r.gh,r.g0,r.gn,r.og,r.cok,r.fr,r.ft,r.al,r.mp,r.sl,⟨by rw [Sep],trivial⟩,Nat.le_succ_of_le r.np⟩
 ·exact ⟨r,iI⟩
def ki (i:Nat) (m:ME):MS:=fun n ρ=>m ρ fun d ρ1=>n.nx (ρ1.set i (some d))
theorem kN {t:TE} {i:Nat} (s:SE M.ow t ma) (ho:M.ow[i]?≠some true) (hu:M.mu[i]?≠some true):SS M (pN t (gG i)) (ki i ma):=fun C G ρ σ H n D hm hn r h k =>
 s C G ρ σ H [] _ _ r h fun d ρ' v G' H' hq z kp r' p=>by
  obtain ⟨O,r'⟩:=r'
  exact k.nx _ _ G' H' hq z ⟨O,r'.setS ho (hm.no hu) p⟩
theorem ln {t:TE} {i:Nat} (s:SF M.ow t ma) (ho:M.ow[i]? = some true) (hu:M.mu[i]?≠some true):SS M (pN t (gG i)) (ki i ma):=fun C G ρ σ H n D hm hn r h k =>
 s C G ρ σ H [] _ _ r h fun d ρ' v G' H' hq z kp r'=>by
  obtain ⟨O,r'⟩:=r'
  exact k.nx _ _ G' H' hq z (r'.setO ho (hm.no hu) (by rw [hn]; exact Nat.zero_le _))
theorem aE {i:Nat} {x:Str} (hN:X.N.Nodup) (hi:X.N[i]? = some x) (hx:Loc X.env.scope x) (he:QE X M.ow e ma) (ho:M.ow[i]?≠some true:=by decide) (hu:M.mu[i]?≠some true:=by decide) (hs:swapsWith e (some (.Name x pos')) pos.line X.env=pure false:=by rfl) (hf:X.fn x=true∨X.env.scope.names.lookup x=some .local:=by first | exact .inl rfl | exact .inr rfl | assumption) :
 QS X M (.Assign [.Name x pos'] e pos) (ki i ma):=by
 obtain ⟨t,p,s⟩:=he
 exact ⟨_,nA hN hi hx p hs hf,kN s ho hu⟩
theorem b4 {i:Nat} {x:Str} (hN:X.N.Nodup) (hi:X.N[i]? = some x) (hx:Loc X.env.scope x) (he:QF X M.ow e ma) (ho:M.ow[i]? = some true:=by decide) (hu:M.mu[i]?≠some true:=by decide) (hs:swapsWith e (some (.Name x pos')) pos.line X.env=pure false:=by rfl) (hf:X.fn x=true∨X.env.scope.names.lookup x=some .local:=by first | exact .inl rfl | exact .inr rfl | assumption) :
 QS X M (.Assign [.Name x pos'] e pos) (ki i ma):=by
 obtain ⟨t,p,s⟩:=he
 exact ⟨_,nA hN hi hx p hs hf,ln s ho hu⟩
def mPar (i j:Nat) (ma mb:ME):MS:=fun n ρ=>ma ρ fun x ρ1=>mb ρ1 fun y ρ2=>n.nx ((ρ2.set i (some x)).set j (some y))
theorem gC {i j:Nat} {x y:Str} {px py pt:Pos} {kt k2 pt2} (hc:X.calm=true) (hN:X.N.Nodup) (hi:X.N[i]? = some x) (hj:X.N[j]? = some y) (hij:i≠j)
 (hx:X.env.scope.names.lookup x=some .local) (hy:X.env.scope.names.lookup y=some .local) (ha:QE X M.ow a ma) (hb:QE X M.ow b mb)
 (hw:swappedStores [.Tuple [.Name x px,.Name y py] kt pt] (.Tuple [a,b] k2 pt2) X.env=pure (some [x,y]))
 (oi:M.ow[i]?≠some true:=by decide) (oj:M.ow[j]?≠some true:=by decide) (ui:M.mu[i]?≠some true:=by decide) (uj:M.mu[j]?≠some true:=by decide)
 (hs1:starEach [a,b] X.env=(false,eval a X.env) :: starEach [b] X.env:=by rfl) (hs2:starEach [b] X.env=[(false,eval b X.env)]:=by rfl)
 (hs:swapsWithSole [.Tuple [.Name x px,.Name y py] kt pt] (.Tuple [a,b] k2 pt2) pos.line X.env=pure false:=by rfl) :
 QS X M (.Assign [.Tuple [.Name x px,.Name y py] kt pt] (.Tuple [a,b] k2 pt2) pos) (mPar i j ma mb):=by
 obtain ⟨ta,pa,sa⟩:=ha; obtain ⟨tb,pb,sb⟩:=hb
 refine ⟨_,ng hc hN hi hj hij hx hy (bB pa (bB pb dn hs2) hs1) hw hs,fun C G ρ σ H n D hm hn r h k=>?_⟩
 refine jc (Q:=fun u w H2=>∃ v w',[u,w]=[v,w']∧D.nx ((σ.set i (some v)).set j (some w')) H2) sa sb r h fun dx dy ρ' u w G' H' hq z kp r' p1 p2=>⟨u,w,rfl,?_⟩
 obtain ⟨O,r'⟩:=r'
 exact k.nx _ _ G' H' hq z ⟨O,(r'.setS oi (hm.no ui) p1).setS oj (hm.no uj) p2⟩
abbrev MG:=D→DSt→(DSt→Prop)→Prop
abbrev MGs:=List D→DSt→(DSt→Prop)→Prop
def SG (M:Md) (g:TG) (m:MG):Prop:=∀ (C:Ctx) (G:Hp) (ρ:DSt) (σ:St) (H:Hp) (pd:List (D×V)) (d:D) (v:V) (k:DSt→Prop) (K:St→Hp→Prop),gu C M.mu→R C M.ow G ρ σ H pd→Rep G d v→m d ρ k →
 (∀ ρ' σ',k ρ'→R C M.ow G ρ' σ' H pd→K σ' H)→g v σ H K
def SGs (M:Md) (g:TGs) (m:MGs):Prop:=∀ (C:Ctx) (G:Hp) (ρ:DSt) (σ:St) (H:Hp) (pd:List (D×V)) (d:List D) (v:List V) (k:DSt→Prop) (K:St→Hp→Prop),gu C M.mu→R C M.ow G ρ σ H pd→Reps G d v→m d ρ k →
 (∀ ρ' σ',k ρ'→R C M.ow G ρ' σ' H pd→K σ' H)→g v σ H K
structure QG (X:Cx) (M:Md) (e:Expr) (m:MG):Prop where
 ex:∃ t,PG X e t∧SG M t m
structure QGs (X:Cx) (M:Md) (e:List Expr) (m:MGs):Prop where
 ex:∃ t,PGs X e t∧SGs M t m
def fG (i:Nat):MG:=fun d ρ k=>k (ρ.set i (some d))
theorem aJ {i:Nat} {x:Str} (hN:X.N.Nodup) (hi:X.N[i]? = some x) (hx:Loc X.env.scope x) (ho:M.ow[i]?≠some true:=by decide) (hu:M.mu[i]?≠some true:=by decide) (hf:X.fn x=true∨X.env.scope.names.lookup x=some .local:=by first | exact .inl rfl | exact .inr rfl | assumption):QG X M (.Name x pos) (fG i) :=
 ⟨_,bH hN hi hx hf,fun C G ρ σ H pd d v k K hm r p h kk=>by obtain ⟨O,r⟩:=r; exact kk _ _ h ⟨O,r.setS ho (hm.no hu) p⟩⟩
def lm:MGs:=fun ds ρ k=>match ds with
 | []=>k ρ
 | _=>False
def gM (t:MG) (u:MGs):MGs:=fun ds ρ k=>match ds with
 | d :: ds=>t d ρ fun ρ1=>u ds ρ1 k
 | []=>False
def oU (t:MGs):MG:=fun d ρ k=>match d with
 | .tup ds=>t ds ρ k
 | _=>False
variable {mg:MG} {mgs:MGs} {es:List Expr}
theorem bL:QGs X M [] lm:=⟨_,iD,fun C G ρ σ H pd d v k K hm r p h kk=>by
 cases d with
 | nil=>rw [Reps] at p; exact ⟨p,kk _ _ h r⟩
 | cons _ _=>exact h.elim⟩
theorem aI (h1:QG X M e mg) (h2:QGs X M es mgs) (hs:(assignEach (e :: es) X.env).map (·.2)=assign e X.env :: (assignEach es X.env).map (·.2):=by rfl):QGs X M (e :: es) (gM mg mgs):=by
 obtain ⟨t,p,s⟩:=h1; obtain ⟨t2,p2,s2⟩:=h2
 refine ⟨_,dG p p2 hs,fun C G ρ σ H pd d v k K hm r p h kk=>?_⟩
 cases d with
 | nil=>exact h.elim
 | cons d ds =>
  rw [Reps] at p
  obtain ⟨v,vs,rfl,p1,p3⟩:=p
  exact ⟨v,vs,rfl,s C G ρ σ H pd d v _ _ hm r p1 h fun ρ' σ' h' r'=>s2 C G ρ' σ' H pd ds vs k K hm r' p3 h' kk⟩
def io (n:Nat) (m:MGs):Prop:=∀ ds ρ k,m ds ρ k→ds.length=n
theorem a6:io 0 lm:=fun ds ρ k h=>by cases ds with | nil=>rfl | cons _ _=>exact h.elim
theorem ap {n:Nat} {i:Nat} (h:io n mgs):io (n + 1) (gM (fG i) mgs):=fun ds ρ k q=>by
 cases ds with
 | nil=>exact q.elim
 | cons d ds=>simp [h ds _ _ q]
theorem ca {kk:Nat} {n:Nat} (hc:X.calm=true) (h:QGs X M es mgs) (ht:io n mgs)
 (hn:(assignEach es X.env).length=n:=by rfl) (hst:(assignEach es X.env).findIdx? (·.1)=none:=by rfl):QG X M (.Tuple es kk pos) (oU mgs):=by
 obtain ⟨t,p,s⟩:=h
 refine ⟨_,kw hc p hn hst,fun C G ρ σ H pd d v k K hm r p h kk=>?_⟩
 cases d with
 | tup ds =>
  obtain ⟨a,xs,rfl,h1,h2⟩:=di p
  exact ⟨a,xs,rfl,SqT.of (r.gh _ _ h1),by rw [h2.length]; exact ht _ _ _ h,s C G ρ σ H pd ds xs k K hm r h2 h kk⟩
 | _=>exact h.elim
def mAsg (m:ME) (g:MG):MS:=fun n ρ=>m ρ fun d ρ1=>g d ρ1 n.nx
theorem dM {tg:Expr} (he:QE X M.ow e ma) (hg:QG X M tg mg) (hs:swapsWithSole [tg] e pos.line X.env=pure false:=by rfl) (hw:swappedStores [tg] e X.env=pure none:=by rfl)
 (h1:(assignEach [tg] X.env).map (·.2)=[assign tg X.env]:=by rfl):QS X M (.Assign [tg] e pos) (mAsg ma mg):=by
 obtain ⟨t,p,s⟩:=he; obtain ⟨t2,p2,s2⟩:=hg
 refine ⟨_,kf p p2 hs hw h1,fun C G ρ σ H n D hm hn r h k=>s C G ρ σ H [] _ _ r h fun d ρ' v G' H' hq z kp r' p=>?_⟩
 exact s2 C G' ρ' σ H' [] d v _ _ hm r' p hq fun ρ2 σ2 h2 r2=>k.nx ρ2 σ2 G' H' h2 z r2
def mDrop (m:ME):MS:=fun n ρ=>m ρ fun _ ρ1=>n.nx ρ1
theorem bJ (he:QE X M.ow e ma) (hs:swapsWith e none pos.line X.env=pure false:=by rfl):QS X M (.Expr e pos) (mDrop ma):=by
 obtain ⟨t,p,s⟩:=he
 exact ⟨_,iB p hs,fun C G ρ σ H n D hm hn r h k=>s C G ρ σ H [] _ _ r h fun d ρ' v G' H' hq z kp r' p=>k.nx ρ' σ G' H' hq z r'⟩
def kQ (i:Nat) (m:ME):MS:=fun n ρ=>match ρ[i]? with
 | some (some (.lst _))=>m ρ fun d ρ1=>match ρ1[i]? with
  | some (some (.lst ds))=>ds.length<1000∧n.nx (ρ1.set i (some (.lst (ds++[d]))))
  | _=>False
 | _=>False
theorem bf {i:Nat} {x:Str} {apos cpos npos:Pos} (hN:X.N[i]? = some x) (he:QF X M.ow e ma) (ho:M.ow[i]? = some true:=by decide)
 (hv:Vis X.env.scope x:=by first | exact Or.inl rfl | exact Or.inr (Or.inl rfl) | exact Or.inr (Or.inr rfl)) (hd:(x == ("__debug__":Str))=false:=by decide) (hcd:(x == ("__classdict__":Str))=false:=by decide)
 (hbase:attributeBase (.Name x npos) "append" X.env (eval (.Name x npos) X.env)=eval (.Name x npos) X.env:=by rfl)
 (hfew:((backTo cpos (starEach [e] X.env)).all (fun x=>!x.1)&&(backToKw cpos (keywordEach [] X.env)).all (fun x=>x.1.isSome)
  && decide ([e].length + ([]:List Keyword).length + (if ([]:List Keyword).isEmpty then 0 else 1)<30))=true:=by rfl)
 (hline:(apos.endLine == cpos.line)=true:=by rfl) (hst:starEach [e] X.env=[(false,eval e X.env)]:=by rfl)
 (hs:swapsWith (.Call (.Attribute (.Name x npos) "append" apos) [e] [] cpos) none pos.line X.env=pure false:=by rfl) :
 QS X M (.Expr (.Call (.Attribute (.Name x npos) "append" apos) [e] [] cpos) pos) (kQ i ma):=by
 obtain ⟨t,p,s⟩:=he
 refine ⟨_,iB (rS PySem.F.plainAttrs_list PySem.F.slot_list_append PySem.F.type_list_append lG (eE hN hv hd hcd) (bB p dn hst) hbase hfew hline hst (by rfl)) hs,fun C G ρ σ H n D hm hn r h k=>?_⟩
 unfold kQ at h
 split at h
 ·rename_i ds e1
  obtain ⟨O,ro⟩:=r
  obtain ⟨a,xs,h1,h2,_,_⟩:=ro.write e1 ho
  refine ⟨.ref a,h1,.inl ⟨rfl,xs,SqL.of h2⟩,?_⟩
  refine s C G ρ σ H [] _ _ ⟨O,ro⟩ h fun d ρ' v G' H' hq z kp r'=>?_
  split at hq
  ·rename_i ds' e2
   obtain ⟨O',r'⟩:=r'
   obtain ⟨O2,r2,s2,s3⟩:=r'.join i ds'.length (by rw [hn]; exact Nat.zero_le _)
   obtain ⟨a',xs',g1,g2,g3,g4⟩:=r2.write e2 ho
   rw [h1] at g1; cases g1
   have hl:=g3.length
   refine ⟨a,xs',v,rfl,rfl,g2,by rw [hl]; exact db (Nat.le_of_lt hq.1),?_⟩
   exact k.nx _ _ G' _ hq.2 z ⟨O2,g4 _ _ (g3.snoc (by simpa using s2))⟩
  ·exact hq.elim
 ·exact h.elim
def mSetI (i:Nat) (mk m:ME):MS:=fun n ρ=>m ρ fun d ρ1=>match ρ1[i]? with
 | some (some (.lst _))=>mk ρ1 fun k ρ2=>match ρ2[i]? with
  | some (some (.lst ds))=>match k with
   | .int j=>match ixN ds.length j with
    | some p=>n.nx (ρ2.set i (some (.lst (ds.set p d))))
    | none=>False
   | _=>False
  | _=>False
 | _=>False
theorem er {i:Nat} {x:Str} {npos spos:Pos} (hN:X.N[i]? = some x) (he:QF X M.ow e ma) (hk:QE X M.ow b mb) (ho:M.ow[i]? = some true:=by decide)
 (hv:Vis X.env.scope x:=by first | exact Or.inl rfl | exact Or.inr (Or.inl rfl) | exact Or.inr (Or.inr rfl)) (hd:(x == ("__debug__":Str))=false:=by decide) (hcd:(x == ("__classdict__":Str))=false:=by decide)
 (ha:∀ v,assign (.Subscript (.Name x npos) b spos) X.env v=(do
  let ov ← holding [v] (eval (.Name x npos) X.env)
  let iv ← holding [v,ov] (eval b X.env)
  standAt spos
  holding [v,ov,iv] (setItem ov iv v)
  release [v,ov,iv] []):=by intro _; rfl)
 (hs:swapsWithSole [.Subscript (.Name x npos) b spos] e pos.line X.env=pure false:=by rfl) (hw:swappedStores [.Subscript (.Name x npos) b spos] e X.env=pure none:=by rfl)
 (h1:(assignEach [.Subscript (.Name x npos) b spos] X.env).map (·.2)=[assign (.Subscript (.Name x npos) b spos) X.env]:=by rfl) :
 QS X M (.Assign [.Subscript (.Name x npos) b spos] e pos) (mSetI i mb ma):=by
 obtain ⟨t,p,s⟩:=he; obtain ⟨t2,p2,s2⟩:=hk
 refine ⟨_,kf p (sR (eE hN hv hd hcd) p2 o9 ha) hs hw h1,fun C G ρ σ H n D hm hn r h k=>s C G ρ σ H [] _ _ r h fun d ρ' v G' H' hq z kp r'=>?_⟩
 split at hq
 ·rename_i ds0 e0
  obtain ⟨O0,ro⟩:=r'
  obtain ⟨a,xs,hu,_,_,_⟩:=ro.write e0 ho
  refine ⟨.ref a,hu,?_⟩
  refine s2 C G' ρ' σ H' _ _ _ ⟨O0,ro⟩ hq fun dk ρ2 jv G2 H2 hq2 z2 kp2 r2 pj=>?_
  split at hq2
  ·rename_i ds e2
   cases dk with
   | int j =>
    dsimp only at hq2
    split at hq2
    ·rename_i pl e3
     obtain ⟨O',r2⟩:=r2
     obtain ⟨O2,r3,w2,w3⟩:=r2.join i pl (by rw [hn]; exact Nat.zero_le _)
     obtain ⟨a',xs',g1,g2,g3,g4⟩:=r3.write e2 ho
     rw [hu] at g1; cases g1
     refine ⟨a,xs',j,pl,rfl,aG pj,g2,by rw [g3.length]; exact e3,?_⟩
     exact k.nx _ _ G2 _ hq2 (z.trans z2) ⟨O2,g4 _ _ (g3.set (by simpa using w2))⟩
    ·exact hq2.elim
   | _=>exact hq2.elim
  ·exact hq2.elim
 ·exact hq.elim
def ug (mt:MT) (mb:MS):MS:=fun n ρ=>∃ W:Nat→DSt→Prop,(∃ k,W k ρ)∧∀ k ρ,W k ρ→mt ρ fun b ρ1 =>
 if b=true then mb { n with nx:=fun ρ'=>∃ k',k'<k∧W k' ρ',ct:=fun ρ'=>∃ k',k'<k∧W k' ρ',bk:=n.nx } ρ1 else n.nx ρ1
theorem eM {body:List Stmt} (hp:PassesOwn (model X.prog X.w) X.A X.env X.xe) (hc:QT X M.ow c mt) (hb:QSs X M body m):QS X M (.While c body [] pos) (ug mt m):=by
 obtain ⟨t,p,s⟩:=hc; obtain ⟨t2,p2,s2⟩:=hb
 refine ⟨_,nu hp p p2,fun C G ρ σ H n D hm hn r h k=>?_⟩
 obtain ⟨W,⟨k0,w0⟩,turn⟩:=h
 refine ⟨fun j σ' H'=>∃ G' ρ',aO G G'∧R C M.ow G' ρ' σ' H' []∧W j ρ',⟨k0,G,ρ,aO.refl _,r,w0⟩,?_⟩
 rintro j σ' H' ⟨G',ρ',z,r',w⟩
 refine s C G' ρ' σ' H' [] _ _ r' (turn j ρ' w) fun b ρ1 G1 H1 hq z1 kp r1=>?_
 cases b with
 | true =>
  rw [if_pos rfl] at hq ⊢
  refine ⟨fun σ2 H2=>∃ j',j'<j∧∃ G2 ρ2,aO G G2∧R C M.ow G2 ρ2 σ2 H2 []∧W j' ρ2,fun σ2 H2 h=>h,?_⟩
  refine s2 C G1 ρ1 σ' H1 _ _ hm hn r1 hq ⟨?_,?_,?_,?_⟩
  ·rintro ρ2 σ2 G2 H2 ⟨j',hj,w'⟩ z2 r2; exact ⟨j',hj,G2,ρ2,z.trans (z1.trans z2),r2,w'⟩
  ·intro ρ2 σ2 G2 H2 h z2 r2; exact k.nx ρ2 σ2 G2 H2 h (z.trans (z1.trans z2)) r2
  ·rintro ρ2 σ2 G2 H2 ⟨j',hj,w'⟩ z2 r2; exact ⟨j',hj,G2,ρ2,z.trans (z1.trans z2),r2,w'⟩
  ·intro d ρ2 σ2 v G2 H2 h z2 r2; exact k.rt d ρ2 σ2 v G2 H2 h (z.trans (z1.trans z2)) r2
 | false=>rw [if_neg (by decide)] at hq ⊢; exact k.nx ρ1 σ' G1 H1 hq (z.trans z1) r1
def ke (J:It) (G:Hp) (ds:List D):Prop:=∀ (C:Ctx) (ow:List Bool) (G':Hp) (ρ:DSt) (σ:St) (H:Hp) (pd:List (D×V)) (i:Nat),aO G G'→R C ow G' ρ σ H pd →
 (ds.length≤i→J.stop i H)∧∀ d,ds[i]? = some d→J.go i H∧∀ x H',J.yld i H x H'→∃ G2,aO G' G2∧R C ow G2 ρ σ H' pd∧Rep G2 d x
def SI (ow:List Bool) (wi:TI) (mi:MA):Prop:=∀ (C:Ctx) (G:Hp) (ρ:DSt) (σ:St) (H:Hp) (pd:List (D×V)) (q:List D→DSt→Prop) (Q:It→Hp→Prop),R C ow G ρ σ H pd→mi ρ q →
 (∀ ds ρ' G' H' J,q ds ρ'→aO G G'→Kp ow ρ ρ'→R C ow G' ρ' σ H' pd→ke J G' ds→Q J H')→wi σ H Q
structure QI (X:Cx) (ow:List Bool) (tg iter:Expr) (mi:MA):Prop where
 ex:∃ t,PI X tg iter t∧SI ow t mi
def forD (g:MG) (mb:MS) (n:EndsD) (ds:List D) (ρ:DSt):Prop:=∃ I:Nat→DSt→Prop,I 0 ρ ∧
 (∀ i d ρ,ds[i]? = some d→I i ρ→g d ρ fun ρ1=>mb { n with nx:=I (i + 1),ct:=I (i + 1),bk:=n.nx } ρ1)∧∀ ρ,I ds.length ρ→n.nx ρ
def mFor (mi:MA) (g:MG) (mb:MS):MS:=fun n ρ=>mi ρ fun ds ρ1=>forD g mb n ds ρ1
theorem cB {mi:MA} {tg iter:Expr} {body:List Stmt} (hp:PassesOwn (model X.prog X.w) X.A X.env X.xe) (hc:X.calm=true) (hi:QI X M.ow tg iter mi) (hg:QG X M tg mg) (hb:QSs X M body m)
 (hs:∀ x,foldedSetIterable iter X.env x=pure x:=by intro _; rfl):QS X M (.For tg iter body [] pos) (mFor mi mg m):=by
 obtain ⟨ti,pi,si⟩:=hi; obtain ⟨tg',pg,sg⟩:=hg; obtain ⟨tb,pb,sb⟩:=hb
 refine ⟨_,t9 hp hc pi pg pb hs,fun C G ρ σ H n D hm hn r h k=>si C G ρ σ H [] _ _ r h fun ds ρ0 G0 H0 J hq z0 kp r0 jo=>?_⟩
 obtain ⟨I,i0,turn,fin⟩:=hq
 refine ⟨fun i j σ' H'=>j=ds.length - i∧i≤ds.length∧∃ G' ρ',aO G0 G'∧R C M.ow G' ρ' σ' H' []∧I i ρ',⟨_,rfl,Nat.zero_le _,G0,ρ0,aO.refl _,r0,i0⟩,?_⟩
 rintro i j σ' H' ⟨rfl,hi,G',ρ',z,r',w⟩
 obtain ⟨st,go⟩:=jo C M.ow G' ρ' σ' H' [] i z r'
 by_cases hlt:i<ds.length
 ·obtain ⟨g1,g2⟩:=go ds[i] (List.getElem?_eq_getElem hlt)
  refine .inr ⟨g1,fun σ2 H2=>∃ G2 ρ2,aO G0 G2∧R C M.ow G2 ρ2 σ2 H2 []∧I (i + 1) ρ2,fun σ2 H2 h=>⟨ds.length - (i + 1),by omega,rfl,hlt,h⟩,fun x H1 hy=>?_⟩
  obtain ⟨G1,z1,r1,p1⟩:=g2 x H1 hy
  refine sg C G1 ρ' σ' H1 [] ds[i] x _ _ hm r1 p1 (turn i ds[i] ρ' (List.getElem?_eq_getElem hlt) w) fun ρ2 σ2 h2 r2=>?_
  refine sb C G1 ρ2 σ2 H1 _ _ hm hn r2 h2 ⟨?_,?_,?_,?_⟩
  ·intro ρ3 σ3 G3 H3 h3 z3 r3; exact ⟨G3,ρ3,z.trans (z1.trans z3),r3,h3⟩
  ·intro ρ3 σ3 G3 H3 h3 z3 r3; exact k.nx ρ3 σ3 G3 H3 h3 (z0.trans (z.trans (z1.trans z3))) r3
  ·intro ρ3 σ3 G3 H3 h3 z3 r3; exact ⟨G3,ρ3,z.trans (z1.trans z3),r3,h3⟩
  ·intro d ρ3 σ3 v G3 H3 h3 z3 r3; exact k.rt d ρ3 σ3 v G3 H3 h3 (z0.trans (z.trans (z1.trans z3))) r3
 ·have e:i=ds.length:=by omega
  subst e
  exact .inl ⟨st (Nat.le_refl _),k.nx ρ' σ' G' H' (fin ρ' w) (z0.trans z) r'⟩
end
section
variable {X:Cx} {ow:List Bool} {a b c e tg:Expr} {ma mb mc:ME} {pos:Pos} {mr:MA} {es:List Expr}
theorem uO {K:PySem.W.Frag} {G:Hp} {p:Addr} {xs:List V} {ds:List D} (h1:G p=some (.lst xs)) (h2:Reps G ds xs):ke (Itl K p) G ds:=fun C ow G' ρ σ H pd i z r=>by
 have hp:=r.gh _ _ (z _ _ h1)
 refine ⟨fun hl=>⟨xs,SqL.of hp,by rw [h2.length]; exact hl⟩,fun d e=>?_⟩
 obtain ⟨v,e1,e2⟩:=cX h2 e
 refine ⟨⟨xs,v,SqL.of hp,e1⟩,fun x H' hy=>?_⟩
 obtain ⟨rfl,hy⟩:=hy
 have:=hy xs (SqL.of hp)
 rw [e1] at this; cases this
 exact ⟨G',aO.refl _,r,Rep.mono z _ _ e2⟩
def miLst (m:ME):MA:=fun ρ q=>m ρ fun d ρ'=>match d with
 | .lst ds=>q ds ρ'
 | _=>False
theorem b5 (h:QE X ow e ma):QI X ow tg e (miLst ma):=by
 obtain ⟨t,p,s⟩:=h
 refine ⟨_,qu p,fun C G ρ σ H pd q Q r hm k=>s C G ρ σ H pd _ _ r hm fun d ρ' v G' H' hq z kp r' p=>?_⟩
 cases d with
 | lst ds=>obtain ⟨a,xs,rfl,h1,h2⟩:=bp p; exact ⟨a,rfl,⟨xs,SqL.of (r'.gh _ _ h1)⟩,k ds ρ' G' H' _ hq z kp r' (uO h1 h2)⟩
 | _=>exact hq.elim
def kE (lo:Int) (n:Nat):List D:=(List.range n).map fun (i:Nat)=>.int (lo + i)
theorem f8 {lo:Int} {n i:Nat} {d:D} (h:(kE lo n)[i]? = some d):i<n∧d = .int (lo + i):=by
 unfold kE at h
 rw [List.getElem?_map] at h
 by_cases c:i<n
 ·rw [List.getElem?_range c] at h; exact ⟨c,(Option.some.inj h).symm⟩
 ·rw [List.getElem?_eq_none (by simp; omega)] at h; cases h
theorem de (lo:Int) (n:Nat):(kE lo n).length=n:=by unfold kE; simp
theorem nL {G:Hp} {lo:Int} {n:Nat}:ke (Itr lo n) G (kE lo n):=fun C ow G' ρ σ H pd i z r=>by
 refine ⟨fun hl=>by rw [de] at hl; exact hl,fun d e=>?_⟩
 obtain ⟨h1,rfl⟩:=f8 e
 refine ⟨h1,fun x H' hy=>?_⟩
 obtain ⟨rfl,rfl⟩:=hy
 exact ⟨G',aO.refl _,r,br _⟩
def miR1 (m:MA):MA:=fun ρ q=>m ρ fun ds ρ'=>match ds with
 | [.int j]=>(-(2 ^ 62)≤j∧j<2 ^ 62)∧q (kE 0 j.toNat) ρ'
 | _=>False
def miR2 (m:MA):MA:=fun ρ q=>m ρ fun ds ρ'=>match ds with
 | [.int i,.int j]=>(-(2 ^ 62)≤i∧i<2 ^ 62∧-(2 ^ 62)≤j∧j<2 ^ 62)∧q (kE i (j - i).toNat) ρ'
 | _=>False
theorem g_ {p:Pos} (hg:Gl X "range") (hm:X.mg "range" = none) (ha:QA X ow [a] mr) (hs:starEach [a] X.env=[(false,eval a X.env)]:=by rfl):QI X ow tg (.Call (.Name "range" p) [a] [] pos) (miR1 mr):=by
 obtain ⟨t,p,s⟩:=ha
 refine ⟨_,l6 hg hm p hs,fun C G ρ σ H pd q Q r hm k=>s C G ρ σ H pd _ _ r hm fun ds ρ' vs G' H' hq z kp r' p hn=>?_⟩
 split at hq
 ·obtain ⟨v,rfl,p1⟩:=bD p
  rw [aG p1]
  exact ⟨_,rfl,hq.1.1,hq.1.2,k _ ρ' G' H' _ hq.2 z kp r' nL⟩
 ·exact hq.elim
theorem iq {p:Pos} (hg:Gl X "range") (hm:X.mg "range" = none) (ha:QA X ow [a,b] mr) (hs:starEach [a,b] X.env=[(false,eval a X.env),(false,eval b X.env)]:=by rfl) (hs2:starEach [b] X.env=[(false,eval b X.env)]:=by rfl):QI X ow tg (.Call (.Name "range" p) [a,b] [] pos) (miR2 mr):=by
 obtain ⟨t,p,s⟩:=ha
 refine ⟨_,lP hg hm p hs hs2,fun C G ρ σ H pd q Q r hm k=>s C G ρ σ H pd _ _ r hm fun ds ρ' vs G' H' hq z kp r' p hn=>?_⟩
 split at hq
 ·obtain ⟨v,u,rfl,p1,p2⟩:=c0 p
  rw [aG p1,aG p2]
  exact ⟨_,_,rfl,hq.1,k _ ρ' G' H' _ hq.2 z kp r' nL⟩
 ·exact hq.elim
def kd (ds:List D):List D:=ds.mapIdx fun i d=>.tup [.int i,d]
theorem pQ (ds:List D):(kd ds).length=ds.length:=by unfold kd; simp
theorem eh {ds:List D} {i:Nat} {d:D} (h:(kd ds)[i]? = some d):∃ d',ds[i]? = some d'∧d = .tup [.int i,d']:=by
 unfold kd at h
 rw [List.getElem?_mapIdx] at h
 cases e:ds[i]? with
 | none=>rw [e] at h; cases h
 | some d'=>rw [e] at h; exact ⟨d',rfl,(Option.some.inj h).symm⟩
theorem t_ {G:Hp} {p:Addr} {xs:List V} {ds:List D} (h1:G p=some (.lst xs)) (h2:Reps G ds xs):ke (Ite p) G (kd ds):=fun C ow G' ρ σ H pd i z r=>by
 have hp:=r.gh _ _ (z _ _ h1)
 refine ⟨fun hl=>⟨xs,hp,by rw [h2.length]; rw [pQ] at hl; exact hl⟩,fun d e=>?_⟩
 obtain ⟨d',e0,rfl⟩:=eh e
 obtain ⟨v,e1,e2⟩:=cX h2 e0
 refine ⟨⟨xs,v,hp,e1⟩,fun x H' hy=>?_⟩
 obtain ⟨a,x',ha,rfl,rfl,hy⟩:=hy
 have:=hy xs hp
 rw [e1] at this; cases this
 obtain ⟨O,r⟩:=r
 obtain ⟨r2,s2⟩:=r.new ha (.tup [.int i,v])
 exact ⟨_,s2,⟨O,r2⟩,iE aU (bo (br _) (bo (Rep.mono (z.trans s2) _ _ e2) bv))⟩
def miEnu (m:MA):MA:=fun ρ q=>m ρ fun ds ρ'=>match ds with
 | [.lst ds]=>q (kd ds) ρ'
 | _=>False
theorem fc {k:Nat} {tpos p:Pos} (hg:Gl X "enumerate") (hm:X.mg "enumerate" = none) (ha:QA X ow [a] mr) (hs:starEach [a] X.env=[(false,eval a X.env)]:=by rfl):QI X ow (.Tuple es k tpos) (.Call (.Name "enumerate" p) [a] [] pos) (miEnu mr):=by
 obtain ⟨t,p,s⟩:=ha
 refine ⟨_,qw hg hm p hs,fun C G ρ σ H pd q Q r hm k=>s C G ρ σ H pd _ _ r hm fun ds ρ' vs G' H' hq z kp r' p hn=>?_⟩
 split at hq
 ·obtain ⟨v,rfl,p1⟩:=bD p
  obtain ⟨a,xs,rfl,h1,h2⟩:=bp p1
  exact ⟨a,rfl,⟨xs,r'.gh _ _ h1⟩,k _ ρ' G' H' _ hq z kp r' (t_ h1 h2)⟩
 ·exact hq.elim
def rT (i:Nat):ME:=fun ρ q=>match ρ[i]? with
 | some (some d)=>q d (ρ.set i none)
 | _=>False
end
inductive AK where
 | s | m (i:Nat) | t
def AK.isM:AK→Bool
 | .s=>false
 | _=>true
def gF (G:Hp) (σ:St):List AK→List D→List V→List (D×V)→Prop
 | [],[],[],[]=>True
 | .s :: ks,d :: ds,v :: vs,T=>Rep G d v∧gF G σ ks ds vs T
 | .m i :: ks,_ :: ds,v :: vs,T=>σ[i]? = some (some v)∧gF G σ ks ds vs T
 | .t :: ks,d :: ds,v :: vs,x :: T=>x=(d,v)∧gF G σ ks ds vs T
 | _,_,_,_=>False
def SAk (ow:List Bool) (ks:List AK) (t:TA) (m:MA):Prop:=∀ (C:Ctx) (G:Hp) (ρ:DSt) (σ:St) (H:Hp) (pd:List (D×V)) (q:List D→DSt→Prop) (Q:List V→Hp→Prop),R C ow G ρ σ H pd→m ρ q →
 (∀ ds ρ' vs T G' H',q ds ρ'→aO G G'→Kp ow ρ ρ'→R C ow G' ρ' σ H' (T.reverse++pd)→gF G' σ ks ds vs T→Q vs H')→t σ H Q
structure QAk (X:Cx) (ow:List Bool) (ks:List AK) (es:List Expr) (m:MA):Prop where
 ex:∃ t,PA X es t∧SAk ow ks t m
section
variable {X:Cx} {ow:List Bool} {a b c e tg:Expr} {ma mb mc:ME} {pos:Pos} {mr:MA} {es:List Expr} {ks:List AK}
theorem aj:QAk X ow [] [] lN:=⟨_,dn,fun C G ρ σ H pd q Q r h k=>k [] ρ [] [] G H h (aO.refl _) Kp.refl r trivial⟩
theorem ah (ha:QE X ow e ma) (hr:QAk X ow ks es mr) (hs:starEach (e :: es) X.env=(false,eval e X.env) :: starEach es X.env:=by rfl):QAk X ow (.s :: ks) (e :: es) (eA ma mr):=by
 obtain ⟨t,p,s⟩:=ha; obtain ⟨t2,p2,s2⟩:=hr
 refine ⟨_,bB p p2 hs,fun C G ρ σ H pd q Q r hm k=>s C G ρ σ H pd _ _ r hm fun d ρ' v G' H' hq z kp r' p=>?_⟩
 exact s2 C G' ρ' σ H' pd _ _ r' hq fun ds ρ2 vs T G2 H2 hq2 z2 kp2 r2 p2=>k (d :: ds) ρ2 (v :: vs) T G2 H2 hq2 (z.trans z2) (kp.trans kp2) r2 ⟨Rep.mono z2 _ _ p,p2⟩
theorem qk_t (ha:QF X ow e ma) (hr:QAk X ow ks es mr) (hs:starEach (e :: es) X.env=(false,eval e X.env) :: starEach es X.env:=by rfl):QAk X ow (.t :: ks) (e :: es) (eA ma mr):=by
 obtain ⟨t,p,s⟩:=ha; obtain ⟨t2,p2,s2⟩:=hr
 refine ⟨_,bB p p2 hs,fun C G ρ σ H pd q Q r hm k=>s C G ρ σ H pd _ _ r hm fun d ρ' v G' H' hq z kp r'=>?_⟩
 exact s2 C G' ρ' σ H' _ _ _ r' hq fun ds ρ2 vs T G2 H2 hq2 z2 kp2 r2 p2=>k (d :: ds) ρ2 (v :: vs) ((d,v) :: T) G2 H2 hq2 (z.trans z2) (kp.trans kp2) (by simpa using r2) ⟨rfl,p2⟩
def oP (i:Nat) (r:MA):MA:=fun ρ q=>match ρ[i]? with
 | some (some _)=>r ρ fun ds ρ2=>q (.non :: ds) ρ2
 | _=>False
theorem cA (i:Nat) {x:Str} (hr:QAk X ow ks es mr) (hN:X.N[i]? = some x:=by rfl) (hv:Vis X.env.scope x:=by first | exact Or.inl rfl | exact Or.inr (Or.inl rfl) | exact Or.inr (Or.inr rfl)) (hd:(x == ("__debug__":Str))=false:=by decide)
 (hcd:(x == ("__classdict__":Str))=false:=by decide) (hs:starEach (.Name x pos :: es) X.env=(false,eval (.Name x pos) X.env) :: starEach es X.env:=by rfl):QAk X ow (.m i :: ks) (.Name x pos :: es) (oP i mr):=by
 obtain ⟨t2,p2,s2⟩:=hr
 refine ⟨_,bB (eE hN hv hd hcd) p2 hs,fun C G ρ σ H pd q Q r hm k=>?_⟩
 unfold oP at hm
 split at hm
 ·rename_i d e
  obtain ⟨O,ro⟩:=r
  obtain ⟨v,h1,_⟩:=ro.sl i d e
  exact ⟨v,h1,s2 C G ρ σ H pd _ _ ⟨O,ro⟩ hm fun ds ρ2 vs T G2 H2 hq2 z2 kp2 r2 p2=>k (.non :: ds) ρ2 (v :: vs) T G2 H2 hq2 z2 kp2 r2 ⟨h1,p2⟩⟩
 ·exact hm.elim
def cV:List AK→List D→DSt→Option (List D)
 | [],[],_=>some []
 | .s :: ks,d :: ds,ρ=>(cV ks ds ρ).map (d :: ·)
 | .t :: ks,d :: ds,ρ=>(cV ks ds ρ).map (d :: ·)
 | .m i :: ks,_ :: ds,ρ=>match ρ[i]? with
  | some (some d)=>(cV ks ds ρ).map (d :: ·)
  | _=>none
 | _,_,_=>none
def lbs:List AK→Nat→List (Option Nat)
 | [],_=>[]
 | .s :: ks,r=>none :: lbs ks r
 | .m i :: ks,r=>some (2 * i) :: lbs ks r
 | .t :: ks,r=>some (2 * r + 1) :: lbs ks (r + 1)
def aD:List AK→List Nat
 | []=>[]
 | .m i :: ks=>i :: aD ks
 | _ :: ks=>aD ks
def fnd (l:Nat):List (Option Nat)→Nat→Option Nat
 | [],_=>none
 | x :: xs,k=>if x=some l then some k else fnd l xs (k + 1)
theorem pE {l:Nat}:∀ {xs:List (Option Nat)} {k j:Nat},fnd l xs k=some j→∃ i,j=k + i∧xs[i]? = some (some l)
 | [],_,_,h=>by cases h
 | x :: xs,k,j,h=>by
  unfold fnd at h
  split at h
  ·rename_i c; cases h; exact ⟨0,rfl,by simp [c]⟩
  ·obtain ⟨i,rfl,e⟩:=pE h; exact ⟨i + 1,by omega,by simpa using e⟩
theorem jF {l:Nat}:∀ {xs:List (Option Nat)} {k:Nat},(∀ i:Nat,xs[i]?≠some (some l))→fnd l xs k=none
 | [],_,_=>rfl
 | x :: xs,k,h=>by
  unfold fnd
  rw [if_neg (fun c=>h 0 (by simp [c]))]
  exact jF fun i=>by simpa using h (i + 1)
theorem pW {l:Nat}:∀ {xs:List (Option Nat)} {k i:Nat},(∀ (i j:Nat) (l:Nat),xs[i]? = some (some l)→xs[j]? = some (some l)→i=j)→xs[i]? = some (some l)→fnd l xs k=some (k + i)
 | [],_,_,_,h=>by simp at h
 | x :: xs,k,i,u,h=>by
  unfold fnd
  by_cases c:x=some l
  ·rw [if_pos c]
   have:=u 0 i l (by simp [c]) h
   subst this; rfl
  ·rw [if_neg c]
   cases i with
   | zero=>simp at h; exact absurd h c
   | succ i =>
    have:=pW (k:=k + 1) (i:=i) (fun i j l a b=>by have:=u (i + 1) (j + 1) l (by simpa using a) (by simpa using b); omega) (by simpa using h)
    rw [this]; congr 1; omega
theorem cJ:∀ {ks:List AK} {r:Nat} {i l:Nat},(lbs ks r)[i]? = some (some l)→(∃ j∈aD ks,l=2 * j)∨∃ j,r≤j∧l=2 * j + 1
 | [],_,_,_,h=>by simp [lbs] at h
 | .s :: ks,r,0,l,h=>by simp [lbs] at h
 | .s :: ks,r,i + 1,l,h=>by simp only [lbs,List.getElem?_cons_succ] at h; have:=cJ (ks:=ks) h; simpa [aD] using this
 | .m j :: ks,r,0,l,h=>by simp [lbs] at h; exact .inl ⟨j,by simp [aD],h.symm⟩
 | .m j :: ks,r,i + 1,l,h=>by
  simp only [lbs,List.getElem?_cons_succ] at h
  rcases cJ h with ⟨z,h1,h2⟩ | h
  ·exact .inl ⟨z,by simp [aD,h1],h2⟩
  ·exact .inr h
 | .t :: ks,r,0,l,h=>by simp [lbs] at h; exact .inr ⟨r,Nat.le_refl _,h.symm⟩
 | .t :: ks,r,i + 1,l,h=>by
  simp only [lbs,List.getElem?_cons_succ] at h
  rcases cJ h with ⟨z,h1,h2⟩ | ⟨j,h1,h2⟩
  ·exact .inl ⟨z,by simpa [aD] using h1,h2⟩
  ·exact .inr ⟨j,by omega,h2⟩
theorem eQ:∀ {ks:List AK} {r:Nat},(aD ks).Nodup→∀ (i j l:Nat),(lbs ks r)[i]? = some (some l)→(lbs ks r)[j]? = some (some l)→i=j
 | [],_,_,i,j,l,h,_=>by simp [lbs] at h
 | .s :: ks,r,nd,0,j,l,h,_=>by simp [lbs] at h
 | .s :: ks,r,nd,i + 1,0,l,_,h=>by simp [lbs] at h
 | .s :: ks,r,nd,i + 1,j + 1,l,h,h2=>by simp only [lbs,List.getElem?_cons_succ] at h h2; rw [eQ (ks:=ks) (by simpa [aD] using nd) i j l h h2]
 | .m a :: ks,r,nd,0,0,l,_,_=>rfl
 | .m a :: ks,r,nd,0,j + 1,l,h,h2=>by
  simp only [lbs,List.getElem?_cons_succ] at h2; simp [lbs] at h
  simp only [aD,List.nodup_cons] at nd
  rcases cJ h2 with ⟨z,h3,h4⟩ | ⟨z,h3,h4⟩
  ·exact absurd h3 (by rw [show z=a by omega]; exact nd.1)
  ·omega
 | .m a :: ks,r,nd,i + 1,0,l,h2,h=>by
  simp only [lbs,List.getElem?_cons_succ] at h2; simp [lbs] at h
  simp only [aD,List.nodup_cons] at nd
  rcases cJ h2 with ⟨z,h3,h4⟩ | ⟨z,h3,h4⟩
  ·exact absurd h3 (by rw [show z=a by omega]; exact nd.1)
  ·omega
 | .m a :: ks,r,nd,i + 1,j + 1,l,h,h2=>by
  simp only [aD,List.nodup_cons] at nd
  simp only [lbs,List.getElem?_cons_succ] at h h2; rw [eQ (ks:=ks) nd.2 i j l h h2]
 | .t :: ks,r,nd,0,0,l,_,_=>rfl
 | .t :: ks,r,nd,0,j + 1,l,h,h2=>by
  simp only [lbs,List.getElem?_cons_succ] at h2; simp [lbs] at h
  rcases cJ h2 with ⟨z,h3,h4⟩ | ⟨z,h3,h4⟩ <;> omega
 | .t :: ks,r,nd,i + 1,0,l,h2,h=>by
  simp only [lbs,List.getElem?_cons_succ] at h2; simp [lbs] at h
  rcases cJ h2 with ⟨z,h3,h4⟩ | ⟨z,h3,h4⟩ <;> omega
 | .t :: ks,r,nd,i + 1,j + 1,l,h,h2=>by simp only [lbs,List.getElem?_cons_succ] at h h2; rw [eQ (ks:=ks) (by simpa [aD] using nd) i j l h h2]
end
theorem d6 {G H:Hp} {O:Own}:∀ {T pd:List (D×V)},cb G H O (T++pd)→cb G H O pd
 | [],_,h=>h
 | _ :: T,_,h=>d6 (T:=T) h.2
theorem iW {G H:Hp} {O:Own}:∀ {T pd:List (D×V)} {j:Nat} {x:D×V},cb G H O (T.reverse++pd)→T[j]? = some x→Sep G H O (2 * (pd.length + j) + 1) x.1 [] x.2
 | [],_,_,_,_,e=>by simp at e
 | y :: T,pd,j,x,h,e=>by
  have h':cb G H O (T.reverse++(y :: pd)):=by simpa using h
  cases j with
  | zero=>simp at e; subst e; exact (d6 h').1
  | succ j =>
   have:=iW (j:=j) h' (by simpa using e)
   rw [show pd.length + (j + 1)=(y :: pd).length + j by simp; omega]
   exact this
theorem f7 {G H:Hp} {O:Own} {σ:St} {ρ:DSt}:∀ {ks:List AK} {ds ds':List D} {vs:List V} {T:List (D×V)} {r:Nat},gF G σ ks ds vs T→cV ks ds ρ=some ds' →
 (∀ (j:Nat) x,T[j]? = some x→Sep G H O (2 * (r + j) + 1) x.1 [] x.2)→(∀ i∈aD ks,∀ d,ρ[i]? = some (some d)→∃ v,σ[i]? = some (some v)∧Sep G H O (2 * i) d [] v) →
 ds'.length=vs.length∧vs.length=ks.length∧∀ (k:Nat) d,ds'[k]? = some d→∃ v,vs[k]? = some v∧((∃ l,(lbs ks r)[k]? = some (some l)∧(ks.map AK.isM)[k]? = some true∧Sep G H O l d [] v)∨((ks.map AK.isM)[k]? = some false∧Rep G d v))
 | [],[],ds',[],[],r,_,hf,_,_=>by simp [cV] at hf; subst hf; exact ⟨rfl,rfl,fun k d e=>by simp at e⟩
 | .s :: ks,d :: ds,ds',v :: vs,T,r,h,hf,hT,hS=>by
  rw [cV] at hf
  cases e:cV ks ds ρ with
  | none=>rw [e] at hf; cases hf
  | some es =>
   rw [e] at hf; cases hf
   obtain ⟨l1,l2,ih⟩:=f7 (ks:=ks) h.2 e hT (fun i hi=>hS i (by simpa [aD] using hi))
   refine ⟨by simp [l1],by simp [l2],fun k d' e'=>?_⟩
   cases k with
   | zero=>simp at e'; subst e'; exact ⟨v,rfl,.inr ⟨rfl,h.1⟩⟩
   | succ k=>obtain ⟨u,g1,g2⟩:=ih k d' (by simpa using e'); exact ⟨u,by simpa using g1,by simpa [lbs] using g2⟩
 | .m i :: ks,d :: ds,ds',v :: vs,T,r,h,hf,hT,hS=>by
  rw [cV] at hf
  cases e0 : ρ[i]? with
  | none=>rw [e0] at hf; cases hf
  | some o =>
   cases o with
   | none=>rw [e0] at hf; cases hf
   | some d0 =>
    rw [e0] at hf
    dsimp only at hf
    cases e:cV ks ds ρ with
    | none=>rw [e] at hf; cases hf
    | some es =>
     rw [e] at hf; cases hf
     obtain ⟨l1,l2,ih⟩:=f7 (ks:=ks) h.2 e hT (fun i hi=>hS i (by simp [aD,hi]))
     refine ⟨by simp [l1],by simp [l2],fun k d' e'=>?_⟩
     cases k with
     | zero =>
      simp at e'; subst e'
      obtain ⟨u,g1,g2⟩:=hS i (by simp [aD]) d0 e0
      rw [h.1] at g1; cases g1
      exact ⟨v,rfl,.inl ⟨2 * i,by simp [lbs],rfl,g2⟩⟩
     | succ k=>obtain ⟨u,g1,g2⟩:=ih k d' (by simpa using e'); exact ⟨u,by simpa using g1,by simpa [lbs] using g2⟩
 | .t :: ks,d :: ds,ds',v :: vs,x :: T,r,h,hf,hT,hS=>by
  rw [cV] at hf
  cases e:cV ks ds ρ with
  | none=>rw [e] at hf; cases hf
  | some es =>
   rw [e] at hf; cases hf
   obtain ⟨l1,l2,ih⟩:=f7 (ks:=ks) (r:=r + 1) h.2 e (fun j x e=>by rw [show r + 1 + j=r + (j + 1) by omega]; exact hT (j + 1) x (by simpa using e)) (fun i hi=>hS i (by simpa [aD] using hi))
   refine ⟨by simp [l1],by simp [l2],fun k d' e'=>?_⟩
   cases k with
   | zero =>
    simp at e'; subst e'
    have:=hT 0 x rfl
    rw [h.1] at this
    exact ⟨v,rfl,.inl ⟨2 * r + 1,by simp [lbs],rfl,this⟩⟩
   | succ k=>obtain ⟨u,g1,g2⟩:=ih k d' (by simpa using e'); exact ⟨u,by simpa using g1,by simpa [lbs] using g2⟩
 | [],_ :: _,_,_,_,_,h,_,_,_=>h.elim
 | [],[],_,_ :: _,_,_,h,_,_,_=>h.elim
 | [],[],_,[],_ :: _,_,h,_,_,_=>h.elim
 | .s :: _,[],_,_,_,_,h,_,_,_=>h.elim
 | .s :: _,_ :: _,_,[],_,_,h,_,_,_=>h.elim
 | .m _ :: _,[],_,_,_,_,h,_,_,_=>h.elim
 | .m _ :: _,_ :: _,_,[],_,_,h,_,_,_=>h.elim
 | .t :: _,[],_,_,_,_,h,_,_,_=>h.elim
 | .t :: _,_ :: _,_,[],_,_,h,_,_,_=>h.elim
 | .t :: _,_ :: _,_,_ :: _,[],_,h,_,_,_=>h.elim
theorem em {G:Hp} {σ:St}:∀ {ks:List AK} {ds:List D} {vs:List V} {T:List (D×V)} {k i:Nat},gF G σ ks ds vs T→ks[k]? = some (.m i)→∃ v,vs[k]? = some v∧σ[i]? = some (some v)
 | [],_,_,_,k,i,_,e=>by simp at e
 | .s :: ks,d :: ds,v :: vs,T,0,i,h,e=>by simp at e
 | .s :: ks,d :: ds,v :: vs,T,k + 1,i,h,e=>by obtain ⟨u,g1,g2⟩:=em (k:=k) h.2 (by simpa using e); exact ⟨u,by simpa using g1,g2⟩
 | .m j :: ks,d :: ds,v :: vs,T,0,i,h,e=>by simp at e; subst e; exact ⟨v,rfl,h.1⟩
 | .m j :: ks,d :: ds,v :: vs,T,k + 1,i,h,e=>by obtain ⟨u,g1,g2⟩:=em (k:=k) h.2 (by simpa using e); exact ⟨u,by simpa using g1,g2⟩
 | .t :: ks,d :: ds,v :: vs,x :: T,0,i,h,e=>by simp at e
 | .t :: ks,d :: ds,v :: vs,x :: T,k + 1,i,h,e=>by obtain ⟨u,g1,g2⟩:=em (k:=k) h.2 (by simpa using e); exact ⟨u,by simpa using g1,g2⟩
 | .s :: _,[],_,_,_,_,h,_=>h.elim
 | .s :: _,_ :: _,[],_,_,_,h,_=>h.elim
 | .m _ :: _,[],_,_,_,_,h,_=>h.elim
 | .m _ :: _,_ :: _,[],_,_,_,h,_=>h.elim
 | .t :: _,[],_,_,_,_,h,_=>h.elim
 | .t :: _,_ :: _,[],_,_,_,h,_=>h.elim
 | .t :: _,_ :: _,_ :: _,[],_,_,h,_=>h.elim
def b_:List AK→DSt→DSt→DSt
 | .m i :: ks,x :: ρ2,ρ=>b_ ks ρ2 (ρ.set i x)
 | _ :: ks,_ :: ρ2,ρ=>b_ ks ρ2 ρ
 | _,_,ρ=>ρ
def gX:List AK→DSt→DSt→DSt
 | .s :: ks,os,ρ=>gX ks os ρ
 | .m i :: ks,o :: os,ρ=>gX ks os (ρ.set i o)
 | .t :: ks,_ :: os,ρ=>gX ks os ρ
 | _,_,ρ=>ρ
theorem f6:∀ {ks:List AK} {ρ2 ρ:DSt},ρ2.length=ks.length→gX ks (mus (ks.map AK.isM) ρ2) ρ=b_ ks ρ2 ρ
 | [],[],ρ,_=>rfl
 | .s :: ks,x :: ρ2,ρ,h=>by simp only [List.map,AK.isM,mus,gX,b_]; exact f6 (by simpa using h)
 | .m i :: ks,x :: ρ2,ρ,h=>by simp only [List.map,AK.isM,mus,gX,b_]; exact f6 (by simpa using h)
 | .t :: ks,x :: ρ2,ρ,h=>by simp only [List.map,AK.isM,mus,gX,b_]; exact f6 (by simpa using h)
theorem eX:∀ {ks:List AK} {ρ2 ρ:DSt},(b_ ks ρ2 ρ).length=ρ.length
 | [],_,_=>by simp [b_]
 | .s :: ks,[],_=>by simp [b_]
 | .m i :: ks,[],_=>by simp [b_]
 | .t :: ks,[],_=>by simp [b_]
 | .s :: ks,x :: ρ2,ρ=>by simp only [b_]; exact eX
 | .m i :: ks,x :: ρ2,ρ=>by simp only [b_]; rw [eX]; simp
 | .t :: ks,x :: ρ2,ρ=>by simp only [b_]; exact eX
theorem eO:∀ {ks:List AK} {ρ2 ρ:DSt} {i:Nat},i ∉ aD ks→(b_ ks ρ2 ρ)[i]? = ρ[i]?
 | [],_,_,_,_=>by simp [b_]
 | .s :: ks,[],_,_,_=>by simp [b_]
 | .m i :: ks,[],_,_,_=>by simp [b_]
 | .t :: ks,[],_,_,_=>by simp [b_]
 | .s :: ks,x :: ρ2,ρ,i,h=>by simp only [b_]; exact eO (by simpa [aD] using h)
 | .t :: ks,x :: ρ2,ρ,i,h=>by simp only [b_]; exact eO (by simpa [aD] using h)
 | .m j :: ks,x :: ρ2,ρ,i,h=>by
  simp only [b_]
  simp only [aD,List.mem_cons,not_or] at h
  rw [eO h.2,List.getElem?_set_ne (Ne.symm h.1)]
theorem eR:∀ {ks:List AK} {ρ2 ρ:DSt} {i:Nat} {d:D},(b_ ks ρ2 ρ)[i]? = some (some d)→ρ2.length=ks.length→(i ∉ aD ks∧ρ[i]? = some (some d))∨∃ k:Nat,ks[k]? = some (.m i)∧ρ2[k]? = some (some d)
 | [],[],ρ,i,d,h,_=>.inl ⟨by simp [aD],by simpa [b_] using h⟩
 | .s :: ks,x :: ρ2,ρ,i,d,h,hl=>by
  simp only [b_] at h
  rcases eR h (by simpa using hl) with ⟨h1,h2⟩ | ⟨k,h1,h2⟩
  ·exact .inl ⟨by simpa [aD] using h1,h2⟩
  ·exact .inr ⟨k + 1,by simpa using h1,by simpa using h2⟩
 | .t :: ks,x :: ρ2,ρ,i,d,h,hl=>by
  simp only [b_] at h
  rcases eR h (by simpa using hl) with ⟨h1,h2⟩ | ⟨k,h1,h2⟩
  ·exact .inl ⟨by simpa [aD] using h1,h2⟩
  ·exact .inr ⟨k + 1,by simpa using h1,by simpa using h2⟩
 | .m j :: ks,x :: ρ2,ρ,i,d,h,hl=>by
  simp only [b_] at h
  rcases eR h (by simpa using hl) with ⟨h1,h2⟩ | ⟨k,h1,h2⟩
  ·rcases dX h2 with ⟨rfl,rfl⟩ | ⟨h3,h4⟩
   ·exact .inr ⟨0,rfl,rfl⟩
   ·exact .inl ⟨by simp [aD,h1,h3],h4⟩
  ·exact .inr ⟨k + 1,by simpa using h1,by simpa using h2⟩
theorem kX:∀ {ks:List AK} {r k i:Nat},ks[k]? = some (.m i)→(lbs ks r)[k]? = some (some (2 * i))
 | [],_,_,_,e=>by simp at e
 | .s :: ks,r,0,i,e=>by simp at e
 | .s :: ks,r,k + 1,i,e=>by simp only [lbs,List.getElem?_cons_succ]; exact kX (by simpa using e)
 | .m j :: ks,r,0,i,e=>by simp at e; subst e; simp [lbs]
 | .m j :: ks,r,k + 1,i,e=>by simp only [lbs,List.getElem?_cons_succ]; exact kX (by simpa using e)
 | .t :: ks,r,0,i,e=>by simp at e
 | .t :: ks,r,k + 1,i,e=>by simp only [lbs,List.getElem?_cons_succ]; exact kX (by simpa using e)
theorem eT:∀ {ks:List AK} {r k l:Nat},(lbs ks r)[k]? = some (some l)→(ks.map AK.isM)[k]? = some true
 | [],_,_,_,e=>by simp [lbs] at e
 | .s :: ks,r,0,i,e=>by simp [lbs] at e
 | .s :: ks,r,k + 1,i,e=>by simp only [lbs,List.getElem?_cons_succ] at e; simp only [List.map,List.getElem?_cons_succ]; exact eT e
 | .m j :: ks,r,0,i,e=>rfl
 | .m j :: ks,r,k + 1,i,e=>by simp only [lbs,List.getElem?_cons_succ] at e; simp only [List.map,List.getElem?_cons_succ]; exact eT e
 | .t :: ks,r,0,i,e=>rfl
 | .t :: ks,r,k + 1,i,e=>by simp only [lbs,List.getElem?_cons_succ] at e; simp only [List.map,List.getElem?_cons_succ]; exact eT e
theorem ql {ks:List AK} {k i:Nat} (h:ks[k]? = some (.m i)):i∈aD ks:=by
 induction ks generalizing k with
 | nil=>simp at h
 | cons x ks ih =>
  cases k with
  | zero=>simp at h; subst h; simp [aD]
  | succ k=>have:=ih (by simpa using h); cases x <;> simp [aD,this]
theorem jq {C:Ctx} {ow:List Bool} {G:Hp} {ρ:DSt} {σ:St} {H:Hp} {pd T:List (D×V)} {ks:List AK} {ds ds':List D} {vs:List V} {fr:Bool} {sd:SpD} {q:D→DSt→Prop} {Q:VK} {E:XK}
 (hn:C.np≤pd.length) (r:R C ow G ρ σ H (T.reverse++pd)) (ha:gF G σ ks ds vs T) (hf:cV ks ds ρ=some ds') (nd:(aD ks).Nodup) (hw:∀ i∈aD ks,ow[i]? = some true)
 (h:sd ds' fun d os=>q d (gX ks os ρ))
 (k:∀ d ρ' v G' H',q d ρ'→aO G G'→Kp ow ρ ρ'→(if fr=true then R C ow G' ρ' σ H' ((d,v) :: pd) else R C ow G' ρ' σ H' pd∧Rep G' d v)→Q v H'):aY (ks.map AK.isM) fr sd vs H Q E:=by
 obtain ⟨O,ro⟩:=r
 have pn:=ro.pn
 obtain ⟨l1,l2,hat⟩:=f7 (O:=O) (H:=H) (r:=pd.length) ha hf (fun j x e=>iW pn e) (fun i hi d e=>by
  obtain ⟨v,h1,h2⟩:=ro.sl i d e; rw [if_pos (hw i hi)] at h2; exact ⟨v,h1,h2⟩)
 let lb:=lbs ks pd.length
 let fin:Nat→Option Nat:=fun l=>(fnd l lb 0).map (2 * ·)
 let fbk:Nat→Option Nat:=fun l=>if l=1 then some (2 * pd.length + 1) else if l % 2=0 then (match lb[l / 2]? with | some o=>o | none=>none) else none
 have uq:=eQ (ks:=ks) (r:=pd.length) nd
 have fin_at:∀ (i l:Nat),lb[i]? = some (some l)→fin l=some (2 * i):=fun i l e=>by
  show (fnd l lb 0).map _=_
  rw [pW uq e]; simp
 have fin_of:∀ l l',fin l=some l'→∃ i,l'=2 * i∧lb[i]? = some (some l):=fun l l' e=>by
  change (fnd l lb 0).map _=_ at e
  cases z:fnd l lb 0 with
  | none=>rw [z] at e; cases e
  | some j=>rw [z] at e; cases e; obtain ⟨i,rfl,e2⟩:=pE z; exact ⟨i,by show 2 * (0 + i)=2 * i; omega,e2⟩
 have fin_none:∀ l,(∀ i:Nat,lb[i]?≠some (some l))→fin l=none:=fun l e=>by
  show (fnd l lb 0).map _=_
  rw [jF e]; rfl
 have ri:=ro.into (mu:=ks.map AK.isM) (fin:=fin) (ds:=ds') (vs:=vs) l1 (fun j d e=>by
  obtain ⟨v,h1,h2⟩:=hat j d e
  refine ⟨v,h1,?_⟩
  rcases h2 with ⟨l,h2,h3,h4⟩ | ⟨h2,h3⟩
  ·rw [if_pos h3]; exact ⟨l,h4,fin_at j l h2⟩
  ·rw [if_neg (by rw [h2]; decide)]; exact h3) (fun l l' e=>by
  obtain ⟨i,rfl,e2⟩:=fin_of l l' e
  exact ⟨i,rfl,eT e2,by have:=(List.getElem?_eq_some_iff.mp (eT e2)).1; rw [List.length_map] at this; omega⟩)
 refine ⟨_,G,ds',fun d os=>q d (gX ks os ρ),rfl,rfl,⟨_,ri⟩,h,by rw [List.length_map,l1,l2],?_⟩
 intro d ρ2 σ2 v G2 H2 hq z hl hr
 rw [List.length_map] at hl
 rw [f6 hl] at hq
 have out:∀ (pd2 pd3:List (D×V)) (O2:Own),RO ⟨G,H,ck fin O,msV (ks.map AK.isM) vs,0⟩ (ks.map AK.isM) G2 ρ2 σ2 H2 pd2 O2→C.np≤pd3.length →
  (∀ (O3:Own),(∀ a l π,O a=some (l,π)→fin l=none→O3 a=some (l,π)∧H2 a=H a)→(∀ a l l' π,O2 a=some (l',π)→fbk l'=some l→O3 a=some (l,π))→cC G G2→cb G2 H2 O3 pd3) →
  RO C ow G2 (b_ ks ρ2 ρ) σ H2 pd3 (lE fin fbk O O2):=fun pd2 pd3 O2 r2 hn3 hP=>by
  refine ro.out (vs:=vs) r2 ?_ (by rw [eX]; exact ro.len) hn3 ?_ ?_ hP
  ·intro l0 l' l e1 e2
   obtain ⟨i,rfl,e3⟩:=fin_of l0 l' e1
   change (if 2 * i=1 then _ else if 2 * i % 2=0 then _ else _)=_ at e2
   rw [if_neg (by omega),if_pos (by omega),show 2 * i / 2=i by omega,e3] at e2
   exact (Option.some.inj e2).symm
  ·intro i d c e
   rcases eR e hl with ⟨_,h2⟩ | ⟨k,h1,_⟩
   ·exact h2
   ·exact absurd (hw i (ql h1)) c
  ·intro i d c e
   rcases eR e hl with ⟨h1,h2⟩ | ⟨j,h1,h2⟩
   ·refine .inl ⟨fin_none _ fun j e=>?_,h2⟩
    rcases cJ e with ⟨z,h3,h4⟩ | ⟨z,h3,h4⟩
    ·exact h1 (by rw [show i=z by omega]; exact h3)
    ·omega
   ·obtain ⟨u,g1,g2⟩:=em ha h1
    have im:(ks.map AK.isM)[j]? = some true:=by rw [List.getElem?_map,h1]; rfl
    refine .inr ⟨j,u,?_,im,h2,g2,r2.mp j u (j9 im g1)⟩
    show (if 2 * j=1 then _ else if 2 * j % 2=0 then _ else _)=_
    rw [if_neg (by omega),if_pos (by omega),show 2 * j / 2=j by omega,kX h1]
 have pdk:∀ (O3:Own),(∀ a l π,O a=some (l,π)→fin l=none→O3 a=some (l,π)∧H2 a=H a)→cC G G2→cb G2 H2 O3 pd:=fun O3 h1 ts =>
  cb.keep ts (fun a j π hj e=>h1 a _ _ e (fin_none _ fun i e=>by
   rcases cJ e with ⟨z,h3,h4⟩ | ⟨z,h3,h4⟩ <;> omega)) (d6 (T:=T.reverse) pn)
 have kp:Kp ow ρ (b_ ks ρ2 ρ):=fun j hj=>eO fun hs=>hj (hw j hs)
 refine k d (b_ ks ρ2 ρ) v G2 H2 hq z kp ?_
 unfold Ret at hr
 split at hr
 ·rename_i c
  rw [if_pos c]
  obtain ⟨O2,r2⟩:=hr
  refine ⟨_,out _ ((d,v) :: pd) O2 r2 (Nat.le_succ_of_le hn) fun O3 h1 h2 ts=>⟨?_,pdk O3 h1 ts⟩⟩
  exact r2.pn.1.keep (fun _ _ z=>z) fun a τ e=>⟨h2 a _ _ _ e (by show (if 2 * 0 + 1=1 then _ else _)=_; rw [if_pos rfl]),rfl⟩
 ·rename_i c
  rw [if_neg c]
  obtain ⟨⟨O2,r2⟩,p⟩:=hr
  exact ⟨⟨_,out _ pd O2 r2 hn fun O3 h1 h2 ts=>pdk O3 h1 ts⟩,p⟩
section
variable {X:Cx} {ow:List Bool} {a b c e tg:Expr} {ma mb mc:ME} {pos p':Pos} {mr:MA} {es:List Expr} {ks:List AK} {x:Str}
def lf (ks:List AK) (sd:SpD) (m:MA):ME:=fun ρ q=>m ρ fun ds ρ1=>match cV ks ds ρ1 with
 | some ds'=>sd ds' fun d os=>q d (gX ks os ρ1)
 | none=>False
theorem qa {k:Nat} {f:Addr} {fd:FuncData} {ps:List Str} {mu:List Bool} {sd:SpD} (F:FnOk X.prog X.w X.K X.mg X.base CX0 k f fd ps (aY mu false sd)) (hr:Room k X.A) (hg:Gl X x) (hm:X.mg x=some (.ref f)) (hk:PySem.W.keepIn X.K (.ref f)=true) (hb:fT X.K fd ps [])
 (ha:QAk X ow ks (e :: es) mr) (hmu:mu=ks.map AK.isM:=by rfl) (nd:(aD ks).Nodup:=by decide) (hw:∀ i∈aD ks,ow[i]? = some true:=by decide) (hdb:(x == ("__debug__":Str))=false:=by decide)
 (he:starEach (e :: es) X.env=(false,eval e X.env) :: starEach es X.env:=by rfl) (hpl:(backTo pos (starEach es X.env)).any (·.1)=false:=by rfl):QE X ow (.Call (.Name x p') (e :: es) [] pos) (lf ks sd mr):=by
 obtain ⟨t,p,s⟩:=ha
 subst hmu
 refine ⟨_,lu F hr hg hm hk hb .nil rG p hdb he hpl,fun C G ρ σ H pd q Q r hm k=>s C G ρ σ H pd _ _ r hm fun ds ρ' vs T G' H' hq z kp r' p=>?_⟩
 rw [List.append_nil]
 split at hq
 ·rename_i ds' ef
  exact jq (fr:=false) r.np r' p ef nd hw hq fun d ρ2 v G2 H2 hq2 z2 kp2 h2=>by
   rw [if_neg (by decide)] at h2
   exact k d ρ2 v G2 H2 hq2 (z.trans z2) (kp.trans kp2) h2.1 h2.2
 ·exact hq.elim
theorem qB {k:Nat} {f:Addr} {fd:FuncData} {ps:List Str} {mu:List Bool} {sd:SpD} (F:FnOk X.prog X.w X.K X.mg X.base CX0 k f fd ps (aY mu true sd)) (hr:Room k X.A) (hg:Gl X x) (hm:X.mg x=some (.ref f)) (hk:PySem.W.keepIn X.K (.ref f)=true) (hb:fT X.K fd ps [])
 (ha:QAk X ow ks (e :: es) mr) (hmu:mu=ks.map AK.isM:=by rfl) (nd:(aD ks).Nodup:=by decide) (hw:∀ i∈aD ks,ow[i]? = some true:=by decide) (hdb:(x == ("__debug__":Str))=false:=by decide)
 (he:starEach (e :: es) X.env=(false,eval e X.env) :: starEach es X.env:=by rfl) (hpl:(backTo pos (starEach es X.env)).any (·.1)=false:=by rfl):QF X ow (.Call (.Name x p') (e :: es) [] pos) (lf ks sd mr):=by
 obtain ⟨t,p,s⟩:=ha
 subst hmu
 refine ⟨_,lu F hr hg hm hk hb .nil rG p hdb he hpl,fun C G ρ σ H pd q Q r hm k=>s C G ρ σ H pd _ _ r hm fun ds ρ' vs T G' H' hq z kp r' p=>?_⟩
 rw [List.append_nil]
 split at hq
 ·rename_i ds' ef
  exact jq (fr:=true) r.np r' p ef nd hw hq fun d ρ2 v G2 H2 hq2 z2 kp2 h2=>by
   rw [if_pos rfl] at h2
   exact k d ρ2 v G2 H2 hq2 (z.trans z2) (kp.trans kp2) h2
 ·exact hq.elim
end
theorem RO.grow {C:Ctx} {mu ow:List Bool} {G:Hp} {ds:List D} {vs:List V} {H:Hp} {O:Own} (n:Nat) (h:RO C mu G (ds.map some) (vs.map some) H [] O) (ho:∀ i:Nat,i<ds.length→ow[i]? = mu[i]?) :
 RO C ow G (ds.map some++List.replicate n none) (vs.map some++List.replicate n none) H [] O:=by
 have hl:ds.length=vs.length:=by simpa using h.len
 have up:∀ {α:Type} {l:List α} {i:Nat} {d : α},(l.map some++List.replicate n none)[i]? = some (some d)→i<l.length∧(l.map some)[i]? = some (some d):=fun {α l i d} e=>by
  by_cases c:i<l.length
  ·rw [List.getElem?_append_left (by simpa using c)] at e; exact ⟨c,e⟩
  ·rw [List.getElem?_append_right (by simpa using c)] at e
   rw [List.getElem?_replicate] at e
   split at e <;> cases e
 refine ⟨by simp [hl],h.gh,h.g0,h.gn,h.og,h.cok,h.fr,h.ft,h.al,?_,?_,h.pn,h.np⟩
 ·intro i v e
  have:=h.mp i v e
  rw [List.getElem?_append_left (dj this)]; exact this
 ·intro i d e
  obtain ⟨c,e1⟩:=up e
  obtain ⟨v,h1,h2⟩:=h.sl i d e1
  exact ⟨v,by rw [List.getElem?_append_left (dj h1)]; exact h1,by rw [ho i c]; exact h2⟩
theorem RO.trim {C:Ctx} {mu ow:List Bool} {G:Hp} {ρ:DSt} {σ:St} {H:Hp} {pd:List (D×V)} {O:Own} (h:RO C ow G ρ σ H pd O) (hm:gu C mu) (ho:∀ i:Nat,i<mu.length→ow[i]? = mu[i]?) :
 RO C mu G (cr mu.length ρ) (cr mu.length σ) H pd O:=by
 refine ⟨by rw [cZ,cZ],h.gh,h.g0,h.gn,h.og,h.cok,h.fr,h.ft,h.al,?_,?_,h.pn,h.np⟩
 ·intro i v e
  exact iP (lt_of_slot' (hm i v e)) (h.mp i v e)
 ·intro i d e
  obtain ⟨c,e1⟩:=iN e
  obtain ⟨v,h1,h2⟩:=h.sl i d e1
  exact ⟨v,iP c h1,by rw [← ho i c]; exact h2⟩
where
 lt_of_slot' {l:List Bool} {i:Nat} {x:Bool} (h:l[i]? = some x):i<l.length:=(List.getElem?_eq_some_iff.mp h).1
def nj (mu:List Bool) (q:D→DSt→Prop):EndsD:=⟨fun ρ=>q .non (mus mu ρ),fun d ρ=>q d (mus mu ρ),fun _=>False,fun _=>False⟩
theorem fnD {P:Program} {w:World} {K:PySem.W.Frag} {mg:Str→Option Value} {base:Heap} {x qual:Str} {st:Stmt} {f:Addr} {fd:FuncData} {N ps:List Str} {k:Nat} (F:Fun K x qual st f fd) (S:FnScope N ps (am st)) (M:Md) (sd:SpD)
 (hl:∀ ds q,sd ds q→ds.length=ps.length) (ho:M.ow.take ps.length=M.mu) (hml:M.mu.length=ps.length)
 (hbody:∀ (cdv:Value) (A:Around) (outer:List Env) (s:Shared) (H:Hp) (E:XK),Room k (A.deeper (envOfC qual (am st) s.heap.objs.size f cdv)) →
  ∃ m,QSs (kr CX0 P w K mg base N qual (am st) f cdv A outer s H E).nox M (cH st) m∧∀ ds q,sd ds q→m (nj M.mu q) (ds.map some++List.replicate (N.length - ps.length) none)) :
 FnOk P w K mg base CX0 (k + 1) f fd ps (aY M.mu M.fr sd):=by
 have hov:∀ i:Nat,i<M.mu.length→M.ow[i]? = M.mu[i]?:=fun i hi=>by rw [← ho,List.getElem?_take_of_lt (by omega)]
 have hlen:∀ vs H Q E,aY M.mu M.fr sd vs H Q E→vs.length=ps.length:=fun vs H Q E ⟨C,G,ds,q,_,_,⟨O,ro⟩,h1,_,_⟩=>by
  have:=ro.len; simp at this; rw [← this]; exact hl ds q h1
 refine F.ok S hlen fun cdv A outer s H vs Q E hr hsp=>?_
 obtain ⟨m,⟨t,p,ss⟩,hm⟩:=hbody cdv A outer s H E hr
 have hvl:=hlen vs H Q E hsp
 obtain ⟨C,G,ds,q,hnp,hmu,⟨O,ro⟩,hsd,hml2,kk⟩:=hsp
 refine ⟨t,p,?_⟩
 have hmo:gu C M.mu:=fun i v e=>by rw [hmu] at e; exact (jW e).1
 have r0:R C M.ow G (ds.map some++List.replicate (N.length - ps.length) none) (dD N vs) H []:=by
  unfold dD; rw [hvl]
  exact ⟨O,ro.grow _ fun i hi=>hov i (by omega)⟩
 refine ss C G _ _ H (nj M.mu q) _ hmo hnp r0 (hm ds q hsd) ⟨?_,fun _ _ _ _ h=>h.elim,fun _ _ _ _ h=>h.elim,?_⟩
 ·intro ρ σ G' H' h z ⟨O',r'⟩
  refine kk .non (cr M.mu.length ρ) (cr M.mu.length σ) .non G' H' (by rw [dg]; exact h) z (cZ _ _) (R.non ⟨O',r'.trim hmo hov⟩)
 ·intro d ρ σ v G' H' h z hr'
  refine kk d (cr M.mu.length ρ) (cr M.mu.length σ) v G' H' (by rw [dg]; exact h) z (cZ _ _) ?_
  unfold Ret at hr' ⊢
  split at hr'
  ·rename_i c; rw [if_pos c]; obtain ⟨O',r'⟩:=hr'; exact ⟨O',r'.trim hmo hov⟩
  ·rename_i c; rw [if_neg c]; obtain ⟨⟨O',r'⟩,p⟩:=hr'; exact ⟨⟨O',r'.trim hmo hov⟩,p⟩
theorem Seps.mk {G H:Hp} {O:Own} {i:Nat}:∀ {T:List (D×V)} {k:Nat} {π:List Nat},(∀ (j:Nat) x,T[j]? = some x→Sep G H O i x.1 ((k + j) :: π) x.2)→Seps G H O i (T.map (·.1)) k π (T.map (·.2))
 | [],_,_,_=>by simp; rw [Seps]
 | x :: T,k,π,h=>by
  simp only [List.map]; rw [Seps]
  exact ⟨x.2,_,rfl,by simpa using h 0 x rfl,Seps.mk fun j y e=>by rw [show k + 1 + j=k + (j + 1) by omega]; exact h (j + 1) y (by simpa using e)⟩
section
variable {C:Ctx} {ow:List Bool} {G:Hp} {ρ:DSt} {σ:St} {H:Hp} {pd T:List (D×V)} {O:Own}
theorem RO.gather (h:RO C ow G ρ σ H (T.reverse++pd) O) (hn:C.np≤pd.length):∃ O',RO C ow G ρ σ H pd O'∧Seps G H O' (2 * pd.length + 1) (T.map (·.1)) 0 [] (T.map (·.2)):=by
 refine ⟨lab (fun l π=>if l % 2=1∧pd.length≤l / 2 then (2 * pd.length + 1,π++[l / 2 - pd.length]) else (l,π)) O,⟨h.len,h.gh,h.g0,h.gn,?_,h.cok,h.fr,h.ft,h.al,h.mp,?_,?_,hn⟩,?_⟩
 ·intro a m e
  obtain ⟨l,π,e1,rfl⟩:=gT e
  obtain ⟨q1,q2,q3⟩:=h.og a _ e1
  refine ⟨q1,q2,?_⟩
  split
  ·rename_i z
   rcases q3 with q3 | ⟨_,q3⟩
   ·exact .inl q3
   ·rcases h.cok _ _ _ q3 with ⟨k,_,q4,_⟩ | ⟨k,q4,q5⟩
    ·omega
    ·omega
  ·exact q3
 ·intro j e q
  obtain ⟨u,h1,h2⟩:=h.sl j e q
  refine ⟨u,h1,?_⟩
  split at h2
  ·rename_i c; rw [if_pos c]; exact h2.keep (fun _ _ z=>z) fun a τ q=>⟨by rw [bV q,if_neg (by omega)],rfl⟩
  ·rename_i c; rw [if_neg c]; exact h2
 ·exact cb.keep (fun _ _ z=>z) (fun a j π hj q=>⟨by rw [bV q,if_neg (by omega)],rfl⟩) (d6 (T:=T.reverse) h.pn)
 ·refine Seps.mk fun j x e=>?_
  have:=iW h.pn e
  refine Sep.map (f:=fun π=>π++[0 + j]) (fun _ _ z=>z) (fun _ _=>rfl) x.1 [] x.2 (fun a τ q=>⟨?_,rfl⟩) this
  rw [bV q,if_pos (by omega)]
  rw [show (2 * (pd.length + j) + 1) / 2 - pd.length=0 + j by omega]
theorem RO.newT (h:RO C ow G ρ σ H pd O) {p:Addr} (hp:H p=none) {ds:List D} {vs:List V} (hs:Seps G H O (2 * pd.length + 1) ds 0 [] vs):R C ow (upd G p (.tup vs)) ρ σ (upd H p (.tup vs)) ((.tup ds,.ref p) :: pd)∧aO G (upd G p (.tup vs)):=by
 obtain ⟨r,z⟩:=h.new hp (.tup vs)
 refine ⟨⟨O,r.len,r.gh,r.g0,r.gn,r.og,r.cok,r.fr,r.ft,r.al,r.mp,r.sl,⟨?_,r.pn⟩,Nat.le_succ_of_le r.np⟩,z⟩
 rw [Sep]
 exact ⟨p,vs,rfl,aU,hs.keep z.ts fun a τ _ q=>⟨q,ax (fun e=>by obtain ⟨_,⟨xs,w⟩,_⟩:=h.og a _ q; rw [e,hp] at w; cases w)⟩⟩
end
def SFm (M:Md) (t:TE) (m:ME):Prop:=∀ (C:Ctx) (G:Hp) (ρ:DSt) (σ:St) (H:Hp) (pd:List (D×V)) (q:D→DSt→Prop) (Q:VK),gu C M.mu→R C M.ow G ρ σ H pd→m ρ q →
 (∀ d ρ' v G' H',q d ρ'→aO G G'→R C M.ow G' ρ' σ H' ((d,v) :: pd)→Q v H')→t σ H Q
structure QM (X:Cx) (M:Md) (e:Expr) (m:ME):Prop where
 ex:∃ t,PE X e t∧SFm M t m
def SAm (M:Md) (n:Nat) (t:TA) (m:MA):Prop:=∀ (C:Ctx) (G:Hp) (ρ:DSt) (σ:St) (H:Hp) (pd:List (D×V)) (q:List D→DSt→Prop) (Q:List V→Hp→Prop),gu C M.mu→R C M.ow G ρ σ H pd→m ρ q →
 (∀ (T:List (D×V)) ρ' G' H',q (T.map (·.1)) ρ'→aO G G'→R C M.ow G' ρ' σ H' (T.reverse++pd)→T.length=n→Q (T.map (·.2)) H')→t σ H Q
structure QMs (X:Cx) (M:Md) (es:List Expr) (m:MA):Prop where
 ex:∃ t,PA X es t∧SAm M es.length t m
section
variable {X:Cx} {M:Md} {a b c e:Expr} {ma mb mc:ME} {pos pos':Pos} {mr:MA} {es:List Expr}
theorem QF.qm (h:QF X M.ow e ma):QM X M e ma:=by
 obtain ⟨t,p,s⟩:=h
 exact ⟨_,p,fun C G ρ σ H pd q Q hm r h k=>s C G ρ σ H pd q Q r h fun d ρ' v G' H' hq z kp r'=>k d ρ' v G' H' hq z r'⟩
theorem b6 (i:Nat) {x:Str} (ho:M.ow[i]? = some true:=by decide) (hu:M.mu[i]?≠some true:=by decide) (hN:X.N[i]? = some x:=by rfl) (hv:Vis X.env.scope x:=by first | exact Or.inl rfl | exact Or.inr (Or.inl rfl) | exact Or.inr (Or.inr rfl)) (hd:(x == ("__debug__":Str))=false:=by decide)
 (hcd:(x == ("__classdict__":Str))=false:=by decide):QM X M (.Name x pos) (rT i):=⟨_,eE hN hv hd hcd,fun C G ρ σ H pd q Q hm r h k=>by
 unfold rT at h
 split at h
 ·rename_i d e
  obtain ⟨O,ro⟩:=r
  obtain ⟨v,h1,h2⟩:=ro.move e ho (hm.no hu)
  exact ⟨v,h1,k d _ v G H h (aO.refl _) h2⟩
 ·exact h.elim⟩
theorem gg:QMs X M [] lN:=⟨_,dn,fun C G ρ σ H pd q Q hm r h k=>k [] ρ G H h (aO.refl _) r rfl⟩
theorem cn (ha:QM X M e ma) (hr:QMs X M es mr) (hs:starEach (e :: es) X.env=(false,eval e X.env) :: starEach es X.env:=by rfl):QMs X M (e :: es) (eA ma mr):=by
 obtain ⟨t,p,s⟩:=ha; obtain ⟨t2,p2,s2⟩:=hr
 refine ⟨_,bB p p2 hs,fun C G ρ σ H pd q Q hm r h k=>s C G ρ σ H pd _ _ hm r h fun d ρ' v G' H' hq z r'=>?_⟩
 exact s2 C G' ρ' σ H' _ _ _ hm r' hq fun T ρ2 G2 H2 hq2 z2 r2 hn=>k ((d,v) :: T) ρ2 G2 H2 hq2 (z.trans z2) (by simpa using r2) (by simp [hn])
theorem iV {x1} (h:QMs X M es mr) (hl:es.length≤1000:=by decide):QM X M (.Tuple es x1 pos) (mTup mr):=by
 obtain ⟨t,p,s⟩:=h
 refine ⟨_,nB p,fun C G ρ σ H pd q Q hm r h k=>s C G ρ σ H pd _ _ hm r h fun T ρ' G' H' hq z r' hn=>⟨cS (by simp; omega),fun a ha=>?_⟩⟩
 obtain ⟨O,r'⟩:=r'
 obtain ⟨O2,r2,s2⟩:=r'.gather r.np
 obtain ⟨r3,z3⟩:=r2.newT ha s2
 exact k _ ρ' _ _ _ hq (z.trans z3) r3
theorem bg (h:QM X M e ma) (hf:M.fr=true:=by rfl):QS X M (.Return (some e) pos) (mRet ma):=by
 obtain ⟨t,p,s⟩:=h
 refine ⟨_,kc p,fun C G ρ σ H n D hm hn r h k=>s C G ρ σ H [] _ _ hm r h fun d ρ' v G' H' hq z r'=>k.rt d ρ' σ v G' H' hq z (by unfold Ret; rw [if_pos hf]; exact r')⟩
end
def jg (g:MG) (mt:MT) (me:ME) (ρ0:DSt) (ds:List D) (K:List D→Prop):Prop:=∃ I:Nat→List D→Prop,I 0 [] ∧
 (∀ i d es,ds[i]? = some d→I i es→g d ρ0 fun ρ2=>mt ρ2 fun b ρ3=>if b=true then me ρ3 fun x _=>I (i + 1) (es++[x]) else I (i + 1) es)∧∀ es,I ds.length es→K es
def dF (k:Nat) (js:List Nat) (ρ:DSt):DSt:=List.replicate k none++js.map fun j=>(ρ[j]?).getD none
def pB (mi:MA) (g:MG) (mt:MT) (me:ME) (k:Nat) (js:List Nat):ME:=fun ρ q=>mi ρ fun ds ρ1=>ds.length≤1000∧jg g mt me (dF k js ρ1) ds fun es=>imms es=true∧q (.lst es) ρ1
def kI (mi:MA) (g:MG) (mt:MT) (me:ME) (k:Nat) (js:List Nat):ME:=fun ρ q=>mi ρ fun ds ρ1=>ds.length≤1000∧jg g mt me (dF k js ρ1) ds fun es=>q (.lst es) ρ1
structure QIf (X:Cx) (ow:List Bool) (ifs:List Expr) (m:MT):Prop where
 ex:∃ t,PIf X ifs t∧STe ow t m
theorem dq {X:Cx} {ow:List Bool}:QIf X ow [] (oW true):=⟨_,qM,kK true⟩
theorem gc {X:Cx} {ow:List Bool} {c:Expr} {mt:MT} (h:QT X ow c mt):QIf X ow [c] mt:=by obtain ⟨t,p,s⟩:=h; exact ⟨_,qH p,s⟩
section
variable {C:Ctx} {ow:List Bool} {G:Hp} {ρ:DSt} {σ:St} {H:Hp} {pd:List (D×V)} {O:Own}
theorem RO.inner (h:RO C ow G ρ σ H pd O) (own:List Str) (js:List Nat) (hj:∀ j∈js,ow[j]?≠some true) :
 RO ⟨G,H,ck (fun _=>none) O,[],0⟩ [] G (dF own.length js ρ) (bS own js σ) H [] (ck (fun _=>none) O):=by
 have no:∀ a,ck (fun _=>none) O a=none:=fun a=>by unfold ck; cases O a <;> rfl
 refine ⟨by simp [dF,bS],h.gh,fun _ _ e=>e,fun _ _ e=>.inl e,fun a l e=>?_,fun a l π e=>?_,fun _ _ e _ _=>e,h.ft,fun _ e=>e,fun i v e=>by simp at e,?_,trivial,Nat.le_refl _⟩
 ·rw [no] at e; cases e
 ·exact absurd (e.symm.trans (no a)) (by simp)
 ·intro i d e
  unfold dF at e
  by_cases c:i<own.length
  ·rw [List.getElem?_append_left (by simpa using c),List.getElem?_replicate] at e
   split at e <;> cases e
  ·rw [List.getElem?_append_right (by simpa using c),List.getElem?_map] at e
   simp only [List.length_replicate] at e
   cases z:js[i - own.length]? with
   | none=>rw [z] at e; cases e
   | some j =>
    rw [z] at e
    have e':(ρ[j]?).getD none=some d:=Option.some.inj e
    have e2 : ρ[j]? = some (some d):=by
     cases w : ρ[j]? with
     | none=>rw [w] at e'; cases e'
     | some o=>rw [w] at e'; exact congrArg some e'
    obtain ⟨v,h1,h2⟩:=h.sl j d e2
    rw [if_neg (hj j (List.mem_of_getElem? z))] at h2
    refine ⟨v,?_,by simpa using h2⟩
    unfold bS
    rw [List.getElem?_append_right (by simpa using c),List.getElem?_map]
    simp only [List.length_map]
    rw [z,show (some j).map _=some ((σ[j]?).getD none) from rfl,h1]; rfl
end
theorem RO.back {C:Ctx} {ow:List Bool} {G G':Hp} {ρ0 ρ2:DSt} {σ0 σ2:St} {H H':Hp} {pd:List (D×V)} {O O':Own} (h0:RO C ow G ρ0 σ0 H pd O) (hn:∀ i:Nat,ow[i]?≠some true) (h:RO C ow G' ρ2 σ2 H' pd O') (z:aO G G'):RO C ow G' ρ0 σ0 H' pd O' :=
 ⟨h0.len,h.gh,h.g0,h.gn,h.og,h.cok,h.fr,h.ft,h.al,h0.mp,fun i d e=>by
  obtain ⟨v,h1,h2⟩:=h0.sl i d e
  rw [if_neg (hn i)] at h2
  exact ⟨v,h1,by rw [if_neg (hn i)]; exact h2.mono z⟩,h.pn,h.np⟩
theorem gW {ow:List Bool} {J:It} {g:TG} {mg:MG} {tt:TT} {mt:MT} {te:TE} {me:ME} {C:Ctx} {G:Hp} {ρ:DSt} {σ:St} {H:Hp} {pd:List (D×V)} {ds:List D} {own:List Str} {js:List Nat} {K:List D→Prop} {Z:List V→Hp→Prop}
 (r:R C ow G ρ σ H pd) (hj:∀ j∈js,ow[j]?≠some true) (jo:ke J G ds) (sg:SG ⟨[],[],false⟩ g mg) (st:STe [] tt mt) (se:SE [] te me) (hk:∀ x H k,g x (bS own js σ) H k→g x (bS own js σ) H fun σ2 H2=>kept (bS own js σ) σ2∧k σ2 H2)
 (hl:ds.length≤1000) (h:jg mg mt me (dF own.length js ρ) ds K)
 (k:∀ es vs G' H',K es→aO G G'→R C ow G' ρ σ H' pd→Reps G' es vs→vs.length≤1000→Z vs H'):ly J g tt te (bS own js σ) H Z:=by
 obtain ⟨O,ro⟩:=r
 have ri:=ro.inner own js hj
 obtain ⟨I,i0,turn,fin⟩:=h
 have nt:∀ i:Nat,([]:List Bool)[i]?≠some true:=fun i=>by simp
 let C1:Ctx:=⟨G,H,ck (fun _=>none) O,[],0⟩
 have fnone:ck (fun _=>none) O=fun _=>none:=by funext a; unfold ck; cases O a <;> rfl
 refine ⟨fun i m acc H'=>m=ds.length - i∧i≤ds.length∧acc.length≤i∧∃ G' es,aO G G'∧R C1 [] G' (dF own.length js ρ) (bS own js σ) H' []∧Reps G' es acc∧I i es,⟨_,rfl,Nat.zero_le _,Nat.le_refl _,G,[],aO.refl _,⟨_,ri⟩,bv,i0⟩,?_⟩
 rintro i m acc H' ⟨rfl,hi,ha,G',es,z,r',pa,w⟩
 obtain ⟨sp,go⟩:=jo C1 [] G' _ _ H' [] i z r'
 by_cases hlt:i<ds.length
 ·obtain ⟨g1,g2⟩:=go ds[i] (List.getElem?_eq_getElem hlt)
  refine .inr ⟨g1,db (by omega),fun acc' H2=>acc'.length≤i + 1∧∃ G2 es2,aO G G2∧R C1 [] G2 (dF own.length js ρ) (bS own js σ) H2 []∧Reps G2 es2 acc'∧I (i + 1) es2,fun acc' H2 h=>⟨ds.length - (i + 1),by omega,rfl,hlt,h.1,h.2⟩,fun x H1 hy=>hk _ _ _ ?_⟩
  obtain ⟨G1,z1,r1,p1⟩:=g2 x H1 hy
  refine sg C1 G1 _ _ H1 [] ds[i] x _ _ (fun i v e=>by simp [C1] at e) r1 p1 (turn i ds[i] es (List.getElem?_eq_getElem hlt) w) fun ρ2 σ2 h2 r2=>?_
  refine st C1 G1 ρ2 σ2 H1 [] _ _ r2 h2 fun b ρ3 G3 H3 h3 z3 kp3 r3=>?_
  have bk:∀ {G4:Hp} {ρ4:DSt} {H4:Hp},aO G3 G4→R C1 [] G4 ρ4 σ2 H4 []→R C1 [] G4 (dF own.length js ρ) (bS own js σ) H4 []:=fun z4 ⟨O4,r4⟩=>by
   obtain ⟨O1,r1'⟩:=r1
   exact ⟨_,r1'.back nt r4 (z3.trans z4)⟩
  cases b with
  | true =>
   rw [if_pos rfl] at h3 ⊢
   refine se C1 G3 ρ3 σ2 H3 [] _ _ r3 h3 fun d ρ4 v G4 H4 h4 z4 kp4 r4 p4=>?_
   exact ⟨by simp; omega,G4,es++[d],z.trans (z1.trans (z3.trans z4)),bk z4 r4,dR (Reps.mono (z1.trans (z3.trans z4)) _ _ pa) (bo p4 bv),h4⟩
  | false =>
   rw [if_neg (by decide)] at h3 ⊢
   exact ⟨by omega,G3,es,z.trans (z1.trans z3),bk (aO.refl _) r3,Reps.mono (z1.trans z3) _ _ pa,h3⟩
 ·have e:i=ds.length:=by omega
  subst e
  refine .inl ⟨sp (Nat.le_refl _),cS (by omega),?_⟩
  obtain ⟨O2,r2⟩:=r'
  refine k es acc G' H' (fin es w) z ⟨lE (fun _=>none) (fun _=>none) O O2,?_⟩ pa (by omega)
  refine ro.out (vs:=[]) r2 (fun _ _ _ e=>by cases e) ro.len ro.np (fun i d _ e=>e) (fun i d _ e=>.inl ⟨rfl,e⟩) fun O3 h1 h2 ts=>?_
  exact cb.keep ts (fun a j π hj e=>h1 a _ _ e rfl) ro.pn
section
variable {X:Cx} {ow:List Bool} {elt tg iter:Expr} {ifs:List Expr} {pos:Pos} {mi:MA} {mg:MG} {mt:MT} {me:ME} {scope:Scope} {cl:List (Str×Addr)}
def rN (n:Nat) (g:TG):Prop:=∀ (σ0:St),(∀ i,i<n→σ0[i]? = some none)→∀ σ x H k,kept σ0 σ→g x σ H k→g x σ H fun σ2 H2=>kept σ0 σ2∧k σ2 H2
def uu (n:Nat) (g:TGs):Prop:=∀ (σ0:St),(∀ i,i<n→σ0[i]? = some none)→∀ σ x H k,kept σ0 σ→g x σ H k→g x σ H fun σ2 H2=>kept σ0 σ2∧k σ2 H2
theorem eZ:∀ {a b:St} {i:Nat} {v:V},kept a b→a[i]? = some none→kept a (b.set i (some v))
 | [],[],i,v,h,e=>by simp at e
 | none :: r,y :: r',0,v,h,e=>h
 | none :: r,y :: r',i + 1,v,h,e=>by simp only [List.set_cons_succ]; exact eZ (a:=r) (b:=r') h (by simpa using e)
 | some w :: r,y :: r',0,v,h,e=>by simp at e
 | some w :: r,y :: r',i + 1,v,h,e=>by simp only [List.set_cons_succ]; exact ⟨h.1,eZ (a:=r) (b:=r') h.2 (by simpa using e)⟩
 | [],_ :: _,_,_,h,_=>h.elim
 | none :: _,[],_,_,h,_=>h.elim
 | some _ :: _,[],_,_,h,_=>h.elim
theorem c9:∀ (a:St),kept a a
 | []=>trivial
 | none :: r=>c9 r
 | some v :: r=>⟨rfl,c9 r⟩
def MonG (g:TG):Prop:=∀ x σ H (k k':St→Hp→Prop),(∀ σ2 H2,k σ2 H2→k' σ2 H2)→g x σ H k→g x σ H k'
def MonGs (g:TGs):Prop:=∀ x σ H (k k':St→Hp→Prop),(∀ σ2 H2,k σ2 H2→k' σ2 H2)→g x σ H k→g x σ H k'
structure CG (n:Nat) (g:TG) (m:MG):Prop where
 sg:SG ⟨[],[],false⟩ g m
 kp:rN n g
 mn:MonG g
structure CGs (n:Nat) (g:TGs) (m:MGs):Prop where
 sg:SGs ⟨[],[],false⟩ g m
 kp:uu n g
 mn:MonGs g
theorem cG {n:Nat} (i:Nat) (h:i<n:=by decide):CG n (gG i) (fG i) :=
 ⟨fun C G ρ σ H pd d v k K hm r p h kk=>by obtain ⟨O,r⟩:=r; exact kk _ _ h ⟨O,r.setS (by simp) (fun v e=>by have:=hm i v e; simp at this) p⟩,
  fun σ0 h0 σ x H k hk hg=>⟨eZ hk (h0 i h),hg⟩,fun x σ H k k' hk h=>hk _ _ h⟩
theorem qK {n:Nat}:CGs n gNil lm :=
 ⟨fun C G ρ σ H pd d v k K hm r p h kk=>by
  cases d with
  | nil=>rw [Reps] at p; exact ⟨p,kk _ _ h r⟩
  | cons _ _=>exact h.elim,fun σ0 h0 σ x H k hk hg=>⟨hg.1,hk,hg.2⟩,fun x σ H k k' hk h=>⟨h.1,hk _ _ h.2⟩⟩
theorem jJ {n:Nat} {g:TG} {gs:TGs} {mg:MG} {mgs:MGs} (h1:CG n g mg) (h2:CGs n gs mgs):CGs n (rR g gs) (gM mg mgs) :=
 ⟨fun C G ρ σ H pd d v k K hm r p h kk=>by
  cases d with
  | nil=>exact h.elim
  | cons d ds =>
   rw [Reps] at p
   obtain ⟨v,vs,rfl,p1,p3⟩:=p
   exact ⟨v,vs,rfl,h1.sg C G ρ σ H pd d v _ _ hm r p1 h fun ρ' σ' h' r'=>h2.sg C G ρ' σ' H pd ds vs k K hm r' p3 h' kk⟩,
  fun σ0 h0 σ x H k hk hg=>by
   obtain ⟨v,r,e,q⟩:=hg
   exact ⟨v,r,e,h1.mn _ _ _ _ _ (fun σ2 H2 z=>h2.kp σ0 h0 σ2 r H2 k z.1 z.2) (h1.kp σ0 h0 σ v H _ hk q)⟩,
  fun x σ H k k' hk h=>by
   obtain ⟨v,r,e,q⟩:=h
   exact ⟨v,r,e,h1.mn _ _ _ _ _ (fun σ2 H2 z=>h2.mn _ _ _ _ _ hk z) q⟩⟩
theorem tq {n j:Nat} {K:PySem.W.Frag} {gs:TGs} {mgs:MGs} (h:CGs n gs mgs) (ht:io j mgs):CG n (gTup K j gs) (oU mgs) :=
 ⟨fun C G ρ σ H pd d v k K hm r p h' kk=>by
  cases d with
  | tup ds =>
   obtain ⟨a,xs,rfl,h1,h2⟩:=di p
   exact ⟨a,xs,rfl,SqT.of (r.gh _ _ h1),by rw [h2.length]; exact ht _ _ _ h',h.sg C G ρ σ H pd ds xs k K hm r h2 h' kk⟩
  | _=>exact h'.elim,
  fun σ0 h0 σ x H k hk hg=>by obtain ⟨a,xs,e,e1,e2,q⟩:=hg; exact ⟨a,xs,e,e1,e2,h.kp σ0 h0 σ xs H k hk q⟩,
  fun x σ H k k' hk hg=>by obtain ⟨a,xs,e,e1,e2,q⟩:=hg; exact ⟨a,xs,e,e1,e2,h.mn _ _ _ _ _ hk q⟩⟩
def o3 (ow:List Bool) (m:ME):TE:=fun σ H Q=>∃ (C:Ctx) (G:Hp) (ρ:DSt) (pd:List (D×V)) (q:D→DSt→Prop),R C ow G ρ σ H pd∧m ρ q∧∀ d ρ' v G' H',q d ρ'→aO G G'→Kp ow ρ ρ'→R C ow G' ρ' σ H' pd→Rep G' d v→Q v H'
def oG (ow:List Bool) (m:MT):TT:=fun σ H Q=>∃ (C:Ctx) (G:Hp) (ρ:DSt) (pd:List (D×V)) (q:Bool→DSt→Prop),R C ow G ρ σ H pd∧m ρ q∧∀ d ρ' G' H',q d ρ'→aO G G'→Kp ow ρ ρ'→R C ow G' ρ' σ H' pd→Q d H'
theorem jT {ow:List Bool} {m:ME}:SE ow (o3 ow m) m:=fun C G ρ σ H pd q Q r h k=>⟨C,G,ρ,pd,q,r,h,k⟩
theorem j5 {ow:List Bool} {m:MT}:STe ow (oG ow m) m:=fun C G ρ σ H pd q Q r h k=>⟨C,G,ρ,pd,q,r,h,k⟩
theorem QE.can {X:Cx} {ow:List Bool} {e:Expr} {m:ME} (h:QE X ow e m):PE X e (o3 ow m):=by
 obtain ⟨t,p,s⟩:=h
 exact ⟨fun pins s' σ H Q I ⟨C,G,ρ,pd,q,r,h,k⟩=>p.go pins s' σ H Q I (s C G ρ σ H pd q Q r h k)⟩
theorem QIf.can {X:Cx} {ow:List Bool} {e:List Expr} {m:MT} (h:QIf X ow e m):PIf X e (oG ow m):=by
 obtain ⟨t,p,s⟩:=h
 exact ⟨fun pins s' σ H Q I ⟨C,G,ρ,pd,q,r,h,k⟩=>p.go pins s' σ H Q I (s C G ρ σ H pd q Q r h k)⟩
theorem fM {own:List Str} {js:List Nat} {σ:St}:∀ i,i<own.length→(bS own js σ)[i]? = some none:=fun i h=>by
 unfold bS
 rw [List.getElem?_append_left (by simpa using h),List.getElem?_map,List.getElem?_eq_getElem h]; rfl
theorem kP {ow:List Bool} {wi:TI} {g:TG} {own:List Str} {js:List Nat} (si:SI ow wi mi) (cg:CG own.length g mg) (hj:∀ j∈js,ow[j]?≠some true):SF ow (jQ wi g (oG [] mt) (o3 [] me) own js) (pB mi mg mt me own.length js):=fun C G ρ σ H pd q Q r h k =>
 si C G ρ σ H pd _ _ r h fun ds ρ' G' H' J hq z kp r' jo=>by
  refine gW r' hj jo cg.sg j5 jT (fun x H k hg=>cg.kp _ fM _ x H k (c9 _) hg) hq.1 hq.2 fun es vs G2 H2 hK z2 r2 p2 hl p hp=>?_
  obtain ⟨O2,r2⟩:=r2
  exact k _ ρ' _ _ _ hK.2 (z.trans z2) kp (r2.newL hp hK.1 p2)
theorem lh {ow:List Bool} {wi:TI} {g:TG} {own:List Str} {js:List Nat} (si:SI ow wi mi) (cg:CG own.length g mg) (hj:∀ j∈js,ow[j]?≠some true):SE ow (jQ wi g (oG [] mt) (o3 [] me) own js) (kI mi mg mt me own.length js):=fun C G ρ σ H pd q Q r h k =>
 si C G ρ σ H pd _ _ r h fun ds ρ' G' H' J hq z kp r' jo=>by
  refine gW r' hj jo cg.sg j5 jT (fun x H k hg=>cg.kp _ fM _ x H k (c9 _) hg) hq.1 hq.2 fun es vs G2 H2 hK z2 r2 p2 hl p hp=>?_
  obtain ⟨O2,r2⟩:=r2
  obtain ⟨r3,z3⟩:=r2.new hp (.lst vs)
  exact k _ ρ' _ _ _ hK (z.trans (z2.trans z3)) kp ⟨O2,r3⟩ (fX aU (Reps.mono z3 _ _ p2))
structure CInn (X:Cx) (tg:Expr) (ifs:List Expr) (elt:Expr) (g:TG) (mt:MT) (me:ME):Prop where
 pg:PG X tg g
 qi:QIf X [] ifs mt
 qe:QE X [] elt me
theorem lq {g:TG} (own:List Str) (js:List Nat) (c:CompOk X scope cl own js) (hc:X.calm=true) (hi:QI X ow tg iter mi) (cg:CG own.length g mg)
 (inner:∀ (C:Addr) (s₀:Shared) (H₀:Hp) (ex:List Addr),CInn (bA X scope cl (cz X own js) C s₀ H₀ ex) tg ifs elt g mt me) (hj:∀ j∈js,ow[j]?≠some true:=by decide)
 (hs:∀ x,foldedSetIterable iter X.env x=pure x:=by intro _; rfl):QF X ow (.ListComp elt [⟨tg,iter,ifs,0⟩] scope pos) (pB mi mg mt me own.length js):=by
 obtain ⟨wi,pi,si⟩:=hi
 exact ⟨_,iO own js c hc pi (fun C s₀ H₀ ex=>⟨(inner C s₀ H₀ ex).pg,(inner C s₀ H₀ ex).qi.can,(inner C s₀ H₀ ex).qe.can⟩) hs,kP si cg hj⟩
theorem je {g:TG} (own:List Str) (js:List Nat) (c:CompOk X scope cl own js) (hc:X.calm=true) (hi:QI X ow tg iter mi) (cg:CG own.length g mg)
 (inner:∀ (C:Addr) (s₀:Shared) (H₀:Hp) (ex:List Addr),CInn (bA X scope cl (cz X own js) C s₀ H₀ ex) tg ifs elt g mt me) (hj:∀ j∈js,ow[j]?≠some true:=by decide)
 (hs:∀ x,foldedSetIterable iter X.env x=pure x:=by intro _; rfl):QE X ow (.ListComp elt [⟨tg,iter,ifs,0⟩] scope pos) (kI mi mg mt me own.length js):=by
 obtain ⟨wi,pi,si⟩:=hi
 exact ⟨_,iO own js c hc pi (fun C s₀ H₀ ex=>⟨(inner C s₀ H₀ ex).pg,(inner C s₀ H₀ ex).qi.can,(inner C s₀ H₀ ex).qe.can⟩) hs,lh si cg hj⟩
theorem gP {M:Md} {g:TG} {i:Nat} {y:Str} {spos py:Pos} (own:List Str) (js:List Nat) (c:CompOk X scope cl own js) (hc:X.calm=true) (hN:X.N.Nodup) (hy:X.N[i]? = some y) (hx:Loc X.env.scope y) (hi:QI X M.ow tg iter mi) (cg:CG own.length g mg)
 (inner:∀ (C:Addr) (s₀:Shared) (H₀:Hp) (ex:List Addr),CInn (bA X scope cl (cz X own js) C s₀ H₀ ex) tg ifs elt g mt me) (hj:∀ j∈js,M.ow[j]?≠some true:=by decide) (ho:M.ow[i]?≠some true:=by decide) (hu:M.mu[i]?≠some true:=by decide)
 (hsw:swapsWith (.ListComp elt [⟨tg,iter,ifs,0⟩] scope pos) (some (.Name y py)) spos.line X.env=pure true:=by rfl)
 (hs:∀ x,foldedSetIterable iter X.env x=pure x:=by intro _; rfl) (hf:X.fn y=true∨X.env.scope.names.lookup y=some .local:=by first | exact .inl rfl | exact .inr rfl | assumption) :
 QS X M (.Assign [.Name y py] (.ListComp elt [⟨tg,iter,ifs,0⟩] scope pos) spos) (ki i (kI mi mg mt me own.length js)):=by
 obtain ⟨wi,pi,si⟩:=hi
 exact ⟨_,eB own js c hc hN hy hx pi (fun C s₀ H₀ ex=>⟨(inner C s₀ H₀ ex).pg,(inner C s₀ H₀ ex).qi.can,(inner C s₀ H₀ ex).qe.can⟩) hsw hs hf,kN (lh si cg hj) ho hu⟩
theorem ji {M:Md} {g:TG} {i:Nat} {y:Str} {spos py:Pos} (own:List Str) (js:List Nat) (c:CompOk X scope cl own js) (hc:X.calm=true) (hN:X.N.Nodup) (hy:X.N[i]? = some y) (hx:Loc X.env.scope y) (hi:QI X M.ow tg iter mi) (cg:CG own.length g mg)
 (inner:∀ (C:Addr) (s₀:Shared) (H₀:Hp) (ex:List Addr),CInn (bA X scope cl (cz X own js) C s₀ H₀ ex) tg ifs elt g mt me) (hj:∀ j∈js,M.ow[j]?≠some true:=by decide) (ho:M.ow[i]? = some true:=by decide) (hu:M.mu[i]?≠some true:=by decide)
 (hsw:swapsWith (.ListComp elt [⟨tg,iter,ifs,0⟩] scope pos) (some (.Name y py)) spos.line X.env=pure true:=by rfl)
 (hs:∀ x,foldedSetIterable iter X.env x=pure x:=by intro _; rfl) (hf:X.fn y=true∨X.env.scope.names.lookup y=some .local:=by first | exact .inl rfl | exact .inr rfl | assumption) :
 QS X M (.Assign [.Name y py] (.ListComp elt [⟨tg,iter,ifs,0⟩] scope pos) spos) (ki i (pB mi mg mt me own.length js)):=by
 obtain ⟨wi,pi,si⟩:=hi
 exact ⟨_,eB own js c hc hN hy hx pi (fun C s₀ H₀ ex=>⟨(inner C s₀ H₀ ex).pg,(inner C s₀ H₀ ex).qi.can,(inner C s₀ H₀ ex).qe.can⟩) hsw hs hf,ln (kP si cg hj) ho hu⟩
end
theorem ff {g:MG} {mt:MT} {me:ME} {ρ0:DSt} {ds:List D} {K:List D→Prop} (f:D→Option D)
 (step:∀ (d:D),d∈ds→∀ k:Option D→Prop,k (f d)→g d ρ0 fun ρ2=>mt ρ2 fun b ρ3=>if b=true then me ρ3 fun x _=>k (some x) else k none) (h:K (ds.filterMap f)):jg g mt me ρ0 ds K:=by
 refine ⟨fun i es=>es=(ds.take i).filterMap f,rfl,?_,fun es e=>by rw [e,List.take_length]; exact h⟩
 rintro i d es hd rfl
 have:=step d (List.mem_of_getElem? hd) (fun o=>match o with | some x=>(ds.take i).filterMap f++[x]=(ds.take (i + 1)).filterMap f | none=>(ds.take i).filterMap f=(ds.take (i + 1)).filterMap f) (by
  rw [List.take_add_one,hd]
  simp only [Option.toList,List.filterMap_append]
  cases e:f d with
  | none=>simp [e]
  | some x=>simp [e])
 exact this
theorem dh {g:MG} {me:ME} {ρ0:DSt} {ds:List D} {K:List D→Prop} (f:D→D)
 (step:∀ (d:D),d∈ds→∀ k:D→Prop,k (f d)→g d ρ0 fun ρ2=>me ρ2 fun x _=>k x) (h:K (ds.map f)):jg g (oW true) me ρ0 ds K:=by
 refine ⟨fun i es=>es=(ds.take i).map f,rfl,?_,fun es e=>by rw [e,List.take_length]; exact h⟩
 rintro i d es hd rfl
 have:=step d (List.mem_of_getElem? hd) (fun x=>(ds.take i).map f++[x]=(ds.take (i + 1)).map f) (by
  rw [List.take_add_one,hd]; simp)
 exact this
def j6 (x:Int):List Int→List Int
 | []=>[x]
 | y :: r=>if x≤y then x :: y :: r else y :: j6 x r
def cD:List Int→List Int
 | []=>[]
 | x :: r=>j6 x (cD r)
theorem fJ (x:Int):∀ l:List Int,(j6 x l).Perm (x :: l)
 | []=>List.Perm.refl _
 | y :: r=>by
  unfold j6
  split
  ·exact List.Perm.refl _
  ·exact ((fJ x r).cons y).trans (List.Perm.swap x y r)
theorem cf:∀ l:List Int,(cD l).Perm l
 | []=>List.Perm.refl _
 | x :: r=>(fJ x (cD r)).trans ((cf r).cons x)
theorem fU (x:Int):∀ {l:List Int},l.Pairwise (·≤·)→(j6 x l).Pairwise (·≤·)
 | [],_=>by simp [j6]
 | y :: r,h=>by
  unfold j6
  rw [List.pairwise_cons] at h
  split
  ·rename_i c
   refine List.pairwise_cons.mpr ⟨fun z hz=>?_,List.pairwise_cons.mpr h⟩
   rcases List.mem_cons.mp hz with rfl | hz
   ·exact c
   ·exact Int.le_trans c (h.1 z hz)
  ·rename_i c
   refine List.pairwise_cons.mpr ⟨fun z hz=>?_,fU x h.2⟩
   rcases List.mem_cons.mp ((fJ x r).mem_iff.mp hz) with rfl | hz
   ·omega
   ·exact h.1 z hz
theorem dA:∀ l:List Int,(cD l).Pairwise (·≤·)
 | []=>List.Pairwise.nil
 | x :: r=>fU x (dA r)
theorem gU:∀ {a b:List Int},a.Perm b→a.Pairwise (·≤·)→b.Pairwise (·≤·)→a=b
 | [],b,p,_,_=>(List.Perm.nil_eq p)
 | x :: a,[],p,_,_=>by have:=p.length_eq; simp at this
 | x :: a,y :: b,p,ha,hb=>by
  have hx:x=y:=by
   rw [List.pairwise_cons] at ha hb
   have h1:x∈y :: b:=p.mem_iff.mp (.head _)
   have h2:y∈x :: a:=p.mem_iff.mpr (.head _)
   rcases List.mem_cons.mp h1 with rfl | h1
   ·rfl
   rcases List.mem_cons.mp h2 with h2 | h2
   ·exact h2.symm
   have:=ha.1 y h2
   have:=hb.1 x h1
   omega
  subst hx
  rw [gU ((List.perm_cons x).mp p) (List.pairwise_cons.mp ha).2 (List.pairwise_cons.mp hb).2]
theorem jn {a b:List Int} (p:a.Perm b) (h:a.Pairwise (·≤·)):a=cD b:=gU (p.trans (cf b).symm) h (dA b)
theorem lU (l:List Int):(cD l).length=l.length:=(cf l).length_eq
section
variable {X:Cx}
def oo (K:PySem.W.Frag):List V→Hp→VK→Prop:=fun xs H Q=>∃ (p:Addr) (ns:List Int),xs=[.ref p]∧SqL K H p (ns.map V.int)∧ns.length<64∧∀ l,H l=none→Q (.ref l) (upd H l (.lst ((cD ns).map V.int)))
theorem fq:cE X (.builtin "sorted") (oo X.K):=by
 intro pins s σ H xs us Q I r h
 obtain ⟨p,ns,rfl,hS,h64,q⟩:=h
 obtain ⟨u,rfl,ru⟩:=fS r
 cases ru
 obtain ⟨its,rv,pl,_⟩:=I.list hS
 have hI:IntsAre its ns:=gr rv
 have hlen:its.length=ns.length:=by have:=rv.length; simp at this; exact this.symm
 refine sorted_ints (l:=p) (vs:=its) (ns:=ns) (isList_of pl) hI (by omega) fun out ns' a1 a2 a3=>?_
 obtain ⟨e,he⟩:=sortedAll_at s.heap its out
 have hl:ns'=cD ns:=jn a2 a3
 subst hl
 refine ⟨.ref (s.heap.objs.size + 1),_,I.laid (a:=s.heap.objs.size + 1) (o:=.lst ((cD ns).map V.int)) (t':=s.toks) (fun _ _ q=>sortedAll_old q) (Nat.le_succ _) ?_,rfl,q _ (I.hok.fresh (Nat.le_succ _))⟩
 refine ⟨Nat.le_of_lt (db (by rw [List.length_map,lU]; omega)),out.toList,e,fH a1,?_⟩
 simpa [seqObj] using he
where
 isList_of {h:Heap} {a:Addr} {its:List Value} (pl:PlainL h a its.toArray):h.IsList a its.toArray:=by
  first | exact pl.isList | exact pl.1 | exact pl
theorem kx {pins:List (Addr×Obj)} {σ:St} {H:Hp} {s:Shared} {p:Addr} {xs:List V} (I:Inv X pins σ H s) (h:SqL X.K H p xs):∃ its:List Value,aS xs its∧s.heap.IsList p its.toArray:=by
 obtain ⟨its,rv,⟨o,n,h1,h2,h3,h4⟩,_⟩:=I.list h
 exact ⟨its,rv,o,h1,h2,n,h4⟩
theorem lK (hc:X.calm=true):cE X (.builtin "sum") (fun xs H Q=>∃ (p:Addr) (ns:List Int),xs=[.ref p]∧SqL X.K H p (ns.map V.int)∧Q (.int ns.sum) H):=by
 intro pins s σ H xs us Q I r h
 obtain ⟨p,ns,rfl,hS,q⟩:=h
 obtain ⟨u,rfl,ru⟩:=fS r
 cases ru
 obtain ⟨its,rv,hl⟩:=kx I hS
 have hI₂:IntsAre its ns:=gr rv
 obtain ⟨ys,hys⟩:=hI₂.allInts.items
 have hlY:s.heap.IsList p (intItems ys):=hys ▸ hl
 refine sum_intListG (I.ok.hd hc) hlY fun hp tk₁ tk₂ kept=>?_
 have eY:ns=ys.toList.map (·.1):=by
  rw [← nums_intItems,← hys]; exact Eq.symm (show numsOf its.toArray.toList=ns from hI₂.numsOf)
 have eS:preSum (numAt ys) ys.size=ns.sum:=by rw [preSum_eq,List.take_of_length_le (by simp),eY]
 rw [eS]
 exact ⟨.int ns.sum,H,I.kept kept,⟨tk₂,rfl⟩,q⟩
end
theorem du {G:Hp}:∀ {ns:List Int} {xs:List V},Reps G (ns.map D.int) xs→xs=ns.map V.int
 | [],xs,h=>by rw [List.map_nil,Reps] at h; subst h; rfl
 | n :: r,xs,h=>by rw [List.map_cons,Reps] at h; obtain ⟨v,vs,rfl,h1,h2⟩:=h; rw [aG h1,du h2]; rfl
def mW:List D→(List D→Prop)→Prop:=fun ds q=>match ds with
 | [.lst xs]=>∃ ns:List Int,xs=ns.map D.int∧ns.length<64∧q ((cD ns).map D.int)
 | _=>False
theorem m_ {K:PySem.W.Frag}:fk (oo K) mW:=fun G H xs ds q Q s p hf k=>by
 unfold mW at hf
 split at hf
 ·obtain ⟨v,rfl,p1⟩:=bD p
  obtain ⟨a,xs,rfl,h1,h2⟩:=bp p1
  obtain ⟨ns,rfl,hl,hq⟩:=hf
  rw [du h2] at h1
  exact ⟨a,ns,rfl,SqL.of (s _ _ h1),hl,fun l hl=>k _ _ l hq (ia _) hl⟩
 ·exact hf.elim
def fSum:List D→(D→Prop)→Prop:=fun ds q=>match ds with
 | [.lst xs]=>∃ ns:List Int,xs=ns.map D.int∧q (.int ns.sum)
 | _=>False
theorem dSum {K:PySem.W.Frag}:fm (fun xs H Q=>∃ (p:Addr) (ns:List Int),xs=[.ref p]∧SqL K H p (ns.map V.int)∧Q (.int ns.sum) H) fSum:=fun G H xs ds q Q s p hf k=>by
 unfold fSum at hf
 split at hf
 ·obtain ⟨v,rfl,p1⟩:=bD p
  obtain ⟨a,xs,rfl,h1,h2⟩:=bp p1
  obtain ⟨ns,rfl,hq⟩:=hf
  rw [du h2] at h1
  exact ⟨a,ns,rfl,SqL.of (s _ _ h1),k _ _ hq (br _)⟩
 ·exact hf.elim
section
variable {C:Ctx} {ow:List Bool} {G:Hp} {ρ:DSt} {σ:St} {H:Hp} {pd:List (D×V)} {O:Own}
end
section
variable {ow:List Bool} {t:TE} {m:ME}
theorem SF.se (s:SF ow t m):SE ow t m:=fun C G ρ σ H pd q Q r hm k=>s C G ρ σ H pd _ _ r hm fun d ρ' v G' H' hq s kp r'=>by
 obtain ⟨O,r'⟩:=r'
 obtain ⟨G2,s2,r2,p2⟩:=r'.share r.np
 exact k d ρ' v G2 H' hq (s.trans s2) kp r2 p2
end
section
variable {X:Cx} {M:Md} {a b c e:Expr} {ma mb mc:ME} {pos pos':Pos} {mr:MA} {es:List Expr}
def mSetN (i c:Nat) (mk m:ME):MS:=fun n ρ=>m ρ fun d ρ1=>imm d=true∧match ρ1[i]? with
 | some (some (.tup es))=>match es[c]? with
  | some (.lst _)=>mk ρ1 fun k ρ2=>match ρ2[i]? with
   | some (some (.tup es))=>match es[c]? with
    | some (.lst ds)=>match k with
     | .int j=>match ixN ds.length j with
      | some p=>n.nx (ρ2.set i (some (.tup (es.set c (.lst (ds.set p d))))))
      | none=>False
     | _=>False
    | _=>False
   | _=>False
  | _=>False
 | _=>False
def mPop (i:Nat):ME:=fun ρ q=>match ρ[i]? with
 | some (some (.lst ds))=>match ds[ds.length - 1]? with
  | some d=>imm d=true∧q d (ρ.set i (some (.lst ds.dropLast)))
  | none=>False
 | _=>False
def mF (i:Nat):MS:=fun n ρ=>match ρ[i]? with
 | some (some (.lst _))=>n.nx (ρ.set i (some (.lst [])))
 | _=>False
theorem pq {i:Nat} {x:Str} {apos cpos npos:Pos} (hN:X.N[i]? = some x) (ho:M.ow[i]? = some true:=by decide)
 (hv:Vis X.env.scope x:=by first | exact Or.inl rfl | exact Or.inr (Or.inl rfl) | exact Or.inr (Or.inr rfl)) (hd:(x == ("__debug__":Str))=false:=by decide) (hcd:(x == ("__classdict__":Str))=false:=by decide)
 (hbase:attributeBase (.Name x npos) "clear" X.env (eval (.Name x npos) X.env)=eval (.Name x npos) X.env:=by rfl) (hline:(apos.endLine == cpos.line)=true:=by rfl)
 (hs:swapsWith (.Call (.Attribute (.Name x npos) "clear" apos) [] [] cpos) none pos.line X.env=pure false:=by rfl) :
 QS X M (.Expr (.Call (.Attribute (.Name x npos) "clear" apos) [] [] cpos) pos) (mF i):=by
 refine ⟨_,iB (tF PySem.F.plainAttrs_list PySem.F.slot_list_clear PySem.F.type_list_clear ni (eE hN hv hd hcd) hbase hline) hs,fun C G ρ σ H n D hm hn r h k=>?_⟩
 unfold mF at h
 split at h
 ·rename_i ds e1
  obtain ⟨O,ro⟩:=r
  obtain ⟨a,xs,h1,h2,h3,h4⟩:=ro.write e1 ho
  exact ⟨.ref a,h1,.inl ⟨rfl,xs,SqL.of h2⟩,a,xs,rfl,rfl,h2,k.nx _ _ G _ h (aO.refl _) ⟨O,h4 [] [] (by rw [Seps])⟩⟩
 ·exact h.elim
theorem aL (ns:List Int):imms (ns.map D.int)=true:=by
 induction ns with
 | nil=>rfl
 | cons n r ih=>simp only [List.map,imms,imm,ih]; rfl
end
def mCut (m:MS):MS:=fun n ρ=>∃ I:DSt→Prop,m { n with nx:=I } ρ∧∀ ρ',I ρ'→n.nx ρ'
theorem dH {X:Cx} {M:Md} {st:Stmt} {m:MS} (h:QS X M st m):QS X M st (mCut m):=by
 obtain ⟨t,p,s⟩:=h
 refine ⟨_,p,fun C G ρ σ H n D hm hn r h k=>?_⟩
 obtain ⟨I,h1,h2⟩:=h
 exact s C G ρ σ H _ D hm hn r h1 ⟨fun ρ' σ' G' H' hi=>k.nx ρ' σ' G' H' (h2 ρ' hi),k.bk,k.ct,k.rt⟩
mutual
theorem Sep.strip {G H:Hp} {O O':Own} {i i':Nat} {sfx:List Nat} :
 ∀ (d:D) (π:List Nat) (v:V),(∀ a τ,O a=some (i,(τ++π)++sfx)→O' a=some (i',τ++π))→Sep G H O i d (π++sfx) v→Sep G H O' i' d π v
 | .non,_,_,_,h=>by rw [Sep] at *; exact h
 | .bl b,_,_,_,h=>by rw [Sep] at *; exact h
 | .int n,_,_,_,h=>by rw [Sep] at *; exact h
 | .str x,_,_,_,h=>by rw [Sep] at *; exact h
 | .tup ds,π,v,hO,h=>by
  rw [Sep] at *
  obtain ⟨a,xs,h1,h2,h3⟩:=h
  exact ⟨a,xs,h1,h2,Seps.strip ds 0 π xs (fun a τ=>hO a τ) h3⟩
 | .lst ds,π,v,hO,h=>by
  rw [Sep] at *
  obtain ⟨a,xs,h1,h2,h3,h4⟩:=h
  exact ⟨a,xs,h1,hO a [] h2,h3,Seps.strip ds 0 π xs (fun a τ=>hO a τ) h4⟩
 | .dic ks ds,π,v,hO,h=>by
  rw [Sep] at *
  obtain ⟨a,xs,h1,h2,h3,h5,h4⟩:=h
  exact ⟨a,xs,h1,hO a [] h2,h3,h5,Seps.strip ds 0 π xs (fun a τ=>hO a τ) h4⟩
 | .dct,_,_,_,h=>by rw [Sep] at h; exact h.elim
 | .scr _ _,_,_,_,h=>by rw [Sep] at h; exact h.elim
 | .ext _,_,_,_,h=>by rw [Sep] at h; exact h.elim
theorem Seps.strip {G H:Hp} {O O':Own} {i i':Nat} {sfx:List Nat} :
 ∀ (ds:List D) (k:Nat) (π:List Nat) (xs:List V),(∀ a τ,O a=some (i,(τ++π)++sfx)→O' a=some (i',τ++π))→Seps G H O i ds k (π++sfx) xs→Seps G H O' i' ds k π xs
 | [],_,_,_,_,h=>by rw [Seps] at *; exact h
 | d :: ds,k,π,xs,hO,h=>by
  rw [Seps] at *
  obtain ⟨v,vs,h1,h2,h3⟩:=h
  refine ⟨v,vs,h1,Sep.strip d (k :: π) v (fun a τ e=>?_) h2,Seps.strip ds (k + 1) π vs hO h3⟩
  have e' : τ++k :: π=(τ++[k])++π:=by simp
  rw [e'] at e ⊢
  exact hO a (τ++[k]) e
end
section
variable {C:Ctx} {ow:List Bool} {G:Hp} {ρ:DSt} {σ:St} {H:Hp} {pd:List (D×V)} {O:Own}
theorem RO.split {ds:List D} {v:V} (h:RO C ow G ρ σ H ((.tup ds,v) :: pd) O) (hn:C.np≤pd.length):∃ a xs,v = .ref a∧G a=some (.tup xs)∧xs.length=ds.length∧R C ow G ρ σ H (ds.zip xs++pd):=by
 obtain ⟨s,pn⟩:=h.pn
 rw [Sep] at s
 obtain ⟨a,xs,rfl,hG,hs⟩:=s
 have hl:=hs.length
 refine ⟨a,xs,rfl,hG,hl,lab (fun l π=>if l=2 * pd.length + 1 then (2 * (pd.length + (ds.length - 1 - π.getLastD 0)) + 1,π.dropLast) else (l,π)) O,h.len,h.gh,h.g0,h.gn,?_,h.cok,h.fr,h.ft,h.al,h.mp,?_,?_,by simp; omega⟩
 ·intro b m e
  obtain ⟨l,π,e1,rfl⟩:=gT e
  obtain ⟨q1,q2,q3⟩:=h.og b _ e1
  refine ⟨q1,q2,?_⟩
  split
  ·rename_i z
   rcases q3 with q3 | ⟨_,q3⟩
   ·exact .inl q3
   ·rcases h.cok _ _ _ q3 with ⟨k,_,q4,_⟩ | ⟨k,q4,q5⟩
    ·exact absurd (q4.symm.trans z) cI
    ·omega
  ·exact q3
 ·intro j e q
  obtain ⟨u,h1,h2⟩:=h.sl j e q
  refine ⟨u,h1,?_⟩
  split at h2
  ·rename_i c; rw [if_pos c]; exact h2.keep (fun _ _ z=>z) fun a τ q=>⟨by rw [bV q,if_neg cI],rfl⟩
  ·rename_i c; rw [if_neg c]; exact h2
 ·have old:∀ (O':Own),(∀ b j π,j<pd.length→O b=some (2 * j + 1,π)→O' b=some (2 * j + 1,π))→cb G H O' pd:=fun O' hO=>cb.keep (fun _ _ z=>z) (fun b j π hj q=>⟨hO b j π hj q,rfl⟩) pn
  have key:∀ (ds0:List D) (k:Nat) (xs0:List V) (O':Own),k + ds0.length=ds.length→Seps G H O (2 * pd.length + 1) ds0 k [] xs0 →
   (∀ b j π,j<pd.length→O b=some (2 * j + 1,π)→O' b=some (2 * j + 1,π))→(∀ b τ k',O b=some (2 * pd.length + 1,τ++[k'])→O' b=some (2 * (pd.length + (ds.length - 1 - k')) + 1,τ))→cb G H O' (ds0.zip xs0++pd):=by
   intro ds0
   induction ds0 with
   | nil=>intro k xs0 O' _ _ ho _; exact old O' ho
   | cons d0 r ih =>
    intro k xs0 O' hk hh ho hnw
    rw [Seps] at hh
    obtain ⟨w,ws,rfl,w1,w2⟩:=hh
    have hwl:=w2.length
    refine ⟨?_,ih (k + 1) ws O' (by simp at hk; omega) w2 ho hnw⟩
    have e:(List.zip r ws++pd).length=pd.length + (ds.length - 1 - k):=by simp at hk ⊢; omega
    show Sep G H O' (2 * (List.zip r ws++pd).length + 1) d0 [] w
    rw [e]
    exact Sep.strip (sfx:=[k]) d0 [] w (fun b τ q=>by simpa using hnw b τ k (by simpa using q)) w1
  refine key ds 0 xs _ (by omega) hs (fun b j π hj q=>by rw [bV q,if_neg (by omega)]) (fun b τ k' q=>?_)
  rw [bV q,if_pos rfl]
  simp
end
def SGF (M:Md) (g:TGs) (m:MGs):Prop:=∀ (C:Ctx) (G:Hp) (ρ:DSt) (σ:St) (H:Hp) (T pd:List (D×V)) (k:DSt→Prop) (K:St→Hp→Prop),gu C M.mu→C.np≤pd.length→R C M.ow G ρ σ H (T++pd)→m (T.map (·.1)) ρ k →
 (∀ ρ' σ' G',k ρ'→aO G G'→R C M.ow G' ρ' σ' H pd→K σ' H)→g (T.map (·.2)) σ H K
structure QGF (X:Cx) (M:Md) (e:List Expr) (m:MGs):Prop where
 ex:∃ t,PGs X e t∧SGF M t m
section
variable {X:Cx} {M:Md} {a b c e:Expr} {ma mb mc:ME} {pos pos':Pos} {mr:MA} {es:List Expr} {mgs:MGs}
theorem qd:QGF X M [] lm:=⟨_,iD,fun C G ρ σ H T pd k K hm hn r h kk=>by
 cases T with
 | nil=>exact ⟨rfl,kk _ _ G h (aO.refl _) r⟩
 | cons _ _=>exact h.elim⟩
theorem qL {i:Nat} {x:Str} (hN:X.N.Nodup) (hi:X.N[i]? = some x) (hx:Loc X.env.scope x) (h2:QGF X M es mgs) (ho:M.ow[i]? = some true:=by decide) (hu:M.mu[i]?≠some true:=by decide) (hf:X.fn x=true∨X.env.scope.names.lookup x=some .local:=by first | exact .inl rfl | exact .inr rfl | assumption)
 (hs:(assignEach (.Name x pos :: es) X.env).map (·.2)=assign (.Name x pos) X.env :: (assignEach es X.env).map (·.2):=by rfl):QGF X M (.Name x pos :: es) (gM (fG i) mgs):=by
 obtain ⟨t2,p2,s2⟩:=h2
 refine ⟨_,dG (bH hN hi hx hf) p2 hs,fun C G ρ σ H T pd k K hm hn r h kk=>?_⟩
 cases T with
 | nil=>exact h.elim
 | cons x T =>
  obtain ⟨O,r⟩:=r
  exact ⟨_,_,rfl,s2 C G _ _ H T pd k K hm hn (r.setO ho (hm.no hu) (by simp; omega)) h kk⟩
theorem ut {i:Nat} {x:Str} (hN:X.N.Nodup) (hi:X.N[i]? = some x) (hx:Loc X.env.scope x) (h2:QGF X M es mgs) (ho:M.ow[i]?≠some true:=by decide) (hu:M.mu[i]?≠some true:=by decide) (hf:X.fn x=true∨X.env.scope.names.lookup x=some .local:=by first | exact .inl rfl | exact .inr rfl | assumption)
 (hs:(assignEach (.Name x pos :: es) X.env).map (·.2)=assign (.Name x pos) X.env :: (assignEach es X.env).map (·.2):=by rfl):QGF X M (.Name x pos :: es) (gM (fG i) mgs):=by
 obtain ⟨t2,p2,s2⟩:=h2
 refine ⟨_,dG (bH hN hi hx hf) p2 hs,fun C G ρ σ H T pd k K hm hn r h kk=>?_⟩
 cases T with
 | nil=>exact h.elim
 | cons x T =>
  obtain ⟨O,r⟩:=r
  obtain ⟨G2,z2,⟨O2,r2⟩,p⟩:=r.share (by simp; omega)
  exact ⟨_,_,rfl,s2 C G2 _ _ H T pd k K hm hn ⟨O2,r2.setS ho (hm.no hu) p⟩ h fun ρ' σ' G' hk z r'=>kk ρ' σ' G' hk (z2.trans z) r'⟩
theorem qN {kk:Nat} {n:Nat} {tpos:Pos} (hc:X.calm=true) (he:QM X M e ma) (hg:QGF X M es mgs) (ht:io n mgs)
 (hn:(assignEach es X.env).length=n:=by rfl) (hst:(assignEach es X.env).findIdx? (·.1)=none:=by rfl)
 (hs:swapsWithSole [.Tuple es kk tpos] e pos.line X.env=pure false:=by rfl) (hw:swappedStores [.Tuple es kk tpos] e X.env=pure none:=by rfl)
 (h1:(assignEach [.Tuple es kk tpos] X.env).map (·.2)=[assign (.Tuple es kk tpos) X.env]:=by rfl):QS X M (.Assign [.Tuple es kk tpos] e pos) (mAsg ma (oU mgs)):=by
 obtain ⟨t,p,s⟩:=he; obtain ⟨t2,p2,s2⟩:=hg
 refine ⟨_,kf p (kw hc p2 hn hst) hs hw h1,fun C G ρ σ H n D hm hn r h k=>s C G ρ σ H [] _ _ hm r h fun d ρ' v G' H' hq z r'=>?_⟩
 cases d with
 | tup ds =>
  obtain ⟨O,r'⟩:=r'
  obtain ⟨a,xs,rfl,h1,h2,r2⟩:=r'.split (by rw [hn]; exact Nat.zero_le _)
  have hl:=ht _ _ _ hq
  have e1:(ds.zip xs).map (·.1)=ds:=List.map_fst_zip (by omega)
  have e2:(ds.zip xs).map (·.2)=xs:=List.map_snd_zip (by omega)
  refine ⟨a,xs,rfl,SqT.of (r2.gh _ _ h1),by omega,?_⟩
  have:=s2 C G' ρ' σ H' (ds.zip xs) [] n.nx D.nx hm (by rw [hn]; exact Nat.zero_le _) r2 (by rw [e1]; exact hq) fun ρ3 σ3 G3 h3 z3 r3=>k.nx ρ3 σ3 G3 H' h3 (z.trans z3) r3
  rw [e2] at this
  exact this
 | _=>exact hq.elim
end
section
variable {X:Cx} {M:Md} {a b c e:Expr} {ma mb mc:ME} {pos pos':Pos}
def mAugI (i:Nat) (mk m:ME):MS:=fun n ρ=>match ρ[i]? with
 | some (some (.lst _))=>mk ρ fun k ρ1=>match k with
  | .int j=>match ρ1[i]? with
   | some (some (.lst ds))=>0≤j∧match atI ds j with
    | some (.int x)=>m ρ1 fun d ρ2=>match d with
     | .int y=>match ρ2[i]? with
      | some (some (.lst ds2))=>match ixN ds2.length j with
       | some p=>n.nx (ρ2.set i (some (.lst (ds2.set p (.int (x + y))))))
       | none=>False
      | _=>False
     | _=>False
    | _=>False
   | _=>False
  | _=>False
 | _=>False
end
def rW (g:MG) (mt:MT) (me:ME) (ρ0:DSt) (k0:Nat) (ds:List D) (d0:D) (K:List D→D→Prop):Prop:=∃ I:Nat→List D→D→Prop,I 0 [] d0 ∧
 (∀ i x es d,ds[i]? = some x→I i es d→g x (ρ0.set k0 (some d)) fun ρ2=>mt ρ2 fun b ρ3=>if b=true then me ρ3 fun y ρ4=>(match ρ4[k0]? with | some (some d')=>I (i + 1) (es++[y]) d' | _=>False) else match ρ3[k0]? with | some (some d')=>I (i + 1) es d' | _=>False) ∧
 ∀ es d,I ds.length es d→K es d
def kg (mi:MA) (g:MG) (mt:MT) (me:ME) (k:Nat) (js:List Nat) (j0 k0:Nat):ME:=fun ρ q=>mi ρ fun ds ρ1=>ds.length≤1000∧match ρ1[j0]? with
 | some (some d0)=>rW g mt me (dF k js ρ1) k0 ds d0 fun es d=>imms es=true∧q (.lst es) (ρ1.set j0 (some d))
 | _=>False
def owM (k0:Nat):List Bool:=List.replicate k0 false++[true]
theorem d7 {k0 i:Nat}:(owM k0)[i]? = some true↔i=k0:=by
 unfold owM
 by_cases h:i<k0
 ·rw [List.getElem?_append_left (by simpa using h),List.getElem?_replicate,if_pos h]
  constructor
  ·intro z; cases z
  ·intro z; omega
 ·rw [List.getElem?_append_right (by simpa using h),List.length_replicate]
  cases e:i - k0 with
  | zero=>simp; omega
  | succ m=>simp; omega
def muM (k0:Nat) (v:V):List (Option V):=List.replicate k0 none++[some v]
theorem kU {k0 i:Nat} {v w:V} (h:(muM k0 v)[i]? = some (some w)):i=k0∧w=v:=by
 unfold muM at h
 by_cases c:i<k0
 ·rw [List.getElem?_append_left (by simpa using c),List.getElem?_replicate,if_pos c] at h; cases h
 ·rw [List.getElem?_append_right (by simpa using c),List.length_replicate] at h
  cases e:i - k0 with
  | zero=>rw [e] at h; simp at h; exact ⟨by omega,h.symm⟩
  | succ m=>rw [e] at h; simp at h
theorem uZ (k0:Nat) (v:V):(muM k0 v)[k0]? = some (some v):=by unfold muM; rw [List.getElem?_append_right (by simp)]; simp
theorem q8 {k:Nat} {js:List Nat} {ρ:DSt} {i:Nat} {d:D} (e:(dF k js ρ)[i]? = some (some d)):k≤i∧∃ j,js[i - k]? = some j∧ρ[j]? = some (some d):=by
 unfold dF at e
 by_cases c:i<k
 ·rw [List.getElem?_append_left (by simpa using c),List.getElem?_replicate] at e
  split at e <;> cases e
 ·rw [List.getElem?_append_right (by simpa using c),List.getElem?_map] at e
  simp only [List.length_replicate] at e
  refine ⟨by omega,?_⟩
  cases z:js[i - k]? with
  | none=>rw [z] at e; cases e
  | some j =>
   rw [z] at e
   have e':(ρ[j]?).getD none=some d:=Option.some.inj e
   refine ⟨j,rfl,?_⟩
   cases w : ρ[j]? with
   | none=>rw [w] at e'; cases e'
   | some o=>rw [w] at e'; exact congrArg some e'
theorem lg {own:List Str} {js:List Nat} {σ:St} {i j:Nat} {v:V} (hi:own.length≤i) (hj:js[i - own.length]? = some j) (hv : σ[j]? = some (some v)):(bS own js σ)[i]? = some (some v):=by
 unfold bS
 rw [List.getElem?_append_right (by simpa using hi),List.getElem?_map]
 simp only [List.length_map]
 rw [hj,show (some j).map _=some ((σ[j]?).getD none) from rfl,hv]; rfl
structure CGM (k0 n:Nat) (g:TG) (m:MG):Prop where
 sg:SG ⟨owM k0,owM k0,false⟩ g m
 kp:rN n g
 mn:MonG g
theorem gD {k0 n:Nat} (i:Nat) (h:i<n:=by decide) (hk:n≤k0:=by decide):CGM k0 n (gG i) (fG i) :=
 ⟨fun C G ρ σ H pd d v k K hm r p hh kk=>by
  have hn:(owM k0)[i]?≠some true:=fun z=>by have:=d7.mp z; omega
  obtain ⟨O,r⟩:=r; exact kk _ _ hh ⟨O,r.setS hn (hm.no hn) p⟩,
  fun σ0 h0 σ x H k hk hg=>⟨eZ hk (h0 i h),hg⟩,fun x σ H k k' hk h=>hk _ _ h⟩
theorem jf {ow:List Bool} {J:It} {g:TG} {mg:MG} {tt:TT} {mt:MT} {te:TE} {me:ME} {C:Ctx} {G:Hp} {ρ:DSt} {σ:St} {H:Hp} {pd:List (D×V)} {ds:List D} {own:List Str} {js:List Nat} {j0 k0:Nat} {d0:D} {K:List D→D→Prop} {Z:List V→Hp→Prop}
 (r:R C ow G ρ σ H pd) (ho:ow[j0]? = some true) (hk0:own.length≤k0) (hjk:js[k0 - own.length]? = some j0) (hj:∀ (i j:Nat),js[i]? = some j→i≠k0 - own.length→ow[j]?≠some true) (he : ρ[j0]? = some (some d0)) (jo:ke J G ds) (cg:CGM k0 own.length g mg) (st:STe (owM k0) tt mt) (se:SE (owM k0) te me)
 (hl:ds.length≤1000) (h:rW mg mt me (dF own.length js ρ) k0 ds d0 K)
 (k:∀ es d vs G' H',K es d→aO G G'→R C ow G' (ρ.set j0 (some d)) σ H' pd→Reps G' es vs→vs.length≤1000→Z vs H'):ly J g tt te (bS own js σ) H Z:=by
 obtain ⟨O,ro⟩:=r
 obtain ⟨v0,hv0,sv0⟩:=ro.sl j0 d0 he
 rw [if_pos ho] at sv0
 let fin:Nat→Option Nat:=fun l=>if l=2 * j0 then some (2 * k0) else none
 let fbk:Nat→Option Nat:=fun l=>if l=2 * k0 then some (2 * j0) else none
 let C1:Ctx:=⟨G,H,ck fin O,muM k0 v0,0⟩
 let ρ0:=dF own.length js ρ
 have s0k:(bS own js σ)[k0]? = some (some v0):=lg hk0 hjk hv0
 have r0l:k0<ρ0.length:=by
  have:k0 - own.length<js.length:=(List.getElem?_eq_some_iff.mp hjk).1
  show k0<(dF own.length js ρ).length
  unfold dF; simp; omega
 have fino:∀ l l',fin l=some l'→l=2 * j0∧l'=2 * k0:=fun l l' e=>by
  change (if l=2 * j0 then _ else _)=_ at e
  split at e
  ·rename_i c; exact ⟨c,(Option.some.inj e).symm⟩
  ·cases e
 have finj:fin (2 * j0)=some (2 * k0):=by show (if _ then _ else _)=_; rw [if_pos rfl]
 -- the inner state,by the owned slot's value
 have inner:∀ {G':Hp} {H':Hp} {O':Own} {d:D},aO G G'→aO G' H'→(∀ a o,G' a=some o→G a=some o∨H a=none)→(∀ a l,O' a=some l→G' a=none∧(∃ xs:WrO,H' a=some xs.ho)∧Nw C1 a l.1) →
  (∀ a o,H a=some o→ck fin O a=none→NT o→H' a=some o)→(∀ a ps q,H' a=some (.tbl ps q)→G' a=none)→(∀ a,H' a=none→H a=none)→Sep G' H' O' (2 * k0) d [] v0→RO C1 (owM k0) G' (ρ0.set k0 (some d)) (bS own js σ) H' [] O':=by
  intro G' H' O' d z gh gn og fr ft al sp
  refine ⟨by rw [List.length_set]; show (dF own.length js ρ).length=_; unfold dF bS; simp,gh,z,gn,og,?_,fr,ft,al,?_,?_,trivial,Nat.le_refl _⟩
  ·intro a l π e
   obtain ⟨l0,e1,e2⟩:=d_ e
   obtain ⟨_,rfl⟩:=fino _ _ e2
   exact .inl ⟨k0,v0,rfl,uZ k0 v0⟩
  ·intro i w e
   obtain ⟨rfl,rfl⟩:=kU e
   exact s0k
  ·intro i d' e
   rcases dX e with ⟨rfl,e'⟩ | ⟨hne,e'⟩
   ·cases e'
    exact ⟨v0,s0k,by rw [if_pos (d7.mpr rfl)]; exact sp⟩
   ·obtain ⟨hi,j,h1,h2⟩:=q8 e'
    obtain ⟨v,g1,g2⟩:=ro.sl j d' h2
    rw [if_neg (hj _ j h1 (by omega))] at g2
    exact ⟨v,lg hi h1 g1,by rw [if_neg (fun zz=>hne (d7.mp zz))]; exact g2.mono z⟩
 have og1:∀ a l,ck fin O a=some l→G a=none∧(∃ xs:WrO,H a=some xs.ho)∧Nw C1 a l.1:=fun a l e=>by
  obtain ⟨l',π⟩:=l
  obtain ⟨l0,e1,e2⟩:=d_ e
  obtain ⟨q1,q2,_⟩:=ro.og a _ e1
  exact ⟨q1,q2,.inr ⟨π,e⟩⟩
 have dD:R C1 (owM k0) G (ρ0.set k0 (some d0)) (bS own js σ) H []:=⟨_,inner (aO.refl _) ro.gh (fun _ _ e=>.inl e) og1 (fun _ _ e _ _=>e) ro.ft (fun _ e=>e) (sv0.keep (fun _ _ z=>z) fun a τ q=>⟨lj q finj,rfl⟩)⟩
 obtain ⟨I,i0,turn,fini⟩:=h
 have hmu:gu C1 (owM k0):=fun i v e=>by obtain ⟨rfl,_⟩:=kU e; exact d7.mpr rfl
 refine ⟨fun i m acc H'=>m=ds.length - i∧i≤ds.length∧acc.length≤i∧∃ G' es d,aO G G'∧R C1 (owM k0) G' (ρ0.set k0 (some d)) (bS own js σ) H' []∧Reps G' es acc∧I i es d,⟨_,rfl,Nat.zero_le _,Nat.le_refl _,G,[],d0,aO.refl _,dD,bv,i0⟩,?_⟩
 rintro i m acc H' ⟨rfl,hi,ha,G',es,d,z,r',pa,w⟩
 obtain ⟨sp,go⟩:=jo C1 (owM k0) G' _ _ H' [] i z r'
 by_cases hlt:i<ds.length
 ·obtain ⟨g1,g2⟩:=go ds[i] (List.getElem?_eq_getElem hlt)
  refine .inr ⟨g1,db (by omega),fun acc' H2=>acc'.length≤i + 1∧∃ G2 es2 d2,aO G G2∧R C1 (owM k0) G2 (ρ0.set k0 (some d2)) (bS own js σ) H2 []∧Reps G2 es2 acc'∧I (i + 1) es2 d2,fun acc' H2 h=>⟨ds.length - (i + 1),by omega,rfl,hlt,h.1,h.2⟩,fun x H1 hy=>?_⟩
  obtain ⟨G1,z1,r1,p1⟩:=g2 x H1 hy
  have step1:=cg.sg C1 G1 _ _ H1 [] ds[i] x _ (fun σ2 H2=>∃ ρ2,(mt ρ2 fun b ρ3=>if b=true then me ρ3 fun y ρ4=>(match ρ4[k0]? with | some (some d')=>I (i + 1) (es++[y]) d' | _=>False) else match ρ3[k0]? with | some (some d')=>I (i + 1) es d' | _=>False)∧R C1 (owM k0) G1 ρ2 σ2 H2 []) hmu r1 p1 (turn i ds[i] es d (List.getElem?_eq_getElem hlt) w) (fun ρ2 σ2 h2 r2=>⟨ρ2,h2,r2⟩)
  refine cg.mn _ _ _ _ _ ?_ (cg.kp (bS own js σ) fM (bS own js σ) x H1 _ (c9 _) step1)
  rintro σ2 H2 ⟨hkp,ρ2,h2,r2⟩
  refine ⟨hkp,st C1 G1 ρ2 σ2 H2 [] _ _ r2 h2 fun b ρ3 G3 H3 h3 z3 kp3 r3=>?_⟩
  have bk:∀ {G4:Hp} {ρ4:DSt} {H4:Hp} {d':D},ρ4[k0]? = some (some d')→R C1 (owM k0) G4 ρ4 σ2 H4 []→R C1 (owM k0) G4 (ρ0.set k0 (some d')) (bS own js σ) H4 []:=fun e4 ⟨O4,r4⟩=>by
   obtain ⟨v,q1,q2⟩:=r4.sl k0 _ e4
   rw [if_pos (d7.mpr rfl)] at q2
   rw [dY hkp k0 v0 s0k] at q1
   cases q1
   exact ⟨O4,inner r4.g0 r4.gh r4.gn r4.og r4.fr r4.ft r4.al q2⟩
  cases b with
  | true =>
   rw [if_pos rfl] at h3 ⊢
   refine se C1 G3 ρ3 σ2 H3 [] _ _ r3 h3 fun y ρ4 v G4 H4 h4 z4 kp4 r4 p4=>?_
   split at h4
   ·rename_i d' e4
    exact ⟨by simp; omega,G4,es++[y],d',z.trans (z1.trans (z3.trans z4)),bk e4 r4,dR (Reps.mono (z1.trans (z3.trans z4)) _ _ pa) (bo p4 bv),h4⟩
   ·exact h4.elim
  | false =>
   rw [if_neg (by decide)] at h3 ⊢
   split at h3
   ·rename_i d' e4
    exact ⟨by omega,G3,es,d',z.trans (z1.trans z3),bk e4 r3,Reps.mono (z1.trans z3) _ _ pa,h3⟩
   ·exact h3.elim
 ·have e:i=ds.length:=by omega
  subst e
  refine .inl ⟨sp (Nat.le_refl _),cS (by omega),?_⟩
  obtain ⟨O2,r2⟩:=r'
  refine k es d acc G' H' (fini es d w) z ⟨lE fin fbk O O2,?_⟩ pa (by omega)
  refine ro.out (vs:=[]) r2 ?_ (by rw [List.length_set]; exact ro.len) ro.np ?_ ?_ fun O3 h1 h2 ts=>?_
  ·intro l0 l' l e1 e2
   obtain ⟨rfl,rfl⟩:=fino _ _ e1
   change (if 2 * k0=2 * k0 then _ else _)=_ at e2
   rw [if_pos rfl] at e2
   exact (Option.some.inj e2).symm
  ·intro i d' c e
   rcases dX e with ⟨rfl,_⟩ | ⟨_,e'⟩
   ·exact absurd ho c
   ·exact e'
  ·intro i d' c e
   rcases dX e with ⟨rfl,e'⟩ | ⟨hne,e'⟩
   ·cases e'
    exact .inr ⟨k0,v0,by show (if _ then _ else _)=_; rw [if_pos rfl],d7.mpr rfl,by rw [List.getElem?_set_self r0l],hv0,s0k⟩
   ·exact .inl ⟨by show (if _ then _ else _)=_; rw [if_neg (by omega)],e'⟩
  ·exact cb.keep ts (fun a j π hj e=>h1 a _ _ e (by show (if _ then _ else _)=_; rw [if_neg (by omega)])) ro.pn
section
variable {X:Cx} {ow:List Bool} {elt tg iter:Expr} {ifs:List Expr} {pos:Pos} {mi:MA} {mg:MG} {mt:MT} {me:ME} {scope:Scope} {cl:List (Str×Addr)}
theorem jp {wi:TI} {g:TG} {own:List Str} {js:List Nat} {j0 k0:Nat} (si:SI ow wi mi) (cg:CGM k0 own.length g mg) (ho:ow[j0]? = some true) (hk0:own.length≤k0) (hjk:js[k0 - own.length]? = some j0) (hj:∀ (i j:Nat),js[i]? = some j→i≠k0 - own.length→ow[j]?≠some true) :
 SF ow (jQ wi g (oG (owM k0) mt) (o3 (owM k0) me) own js) (kg mi mg mt me own.length js j0 k0):=fun C G ρ σ H pd q Q r h k =>
 si C G ρ σ H pd _ _ r h fun ds ρ' G' H' J hq z kp r' jo=>by
  obtain ⟨hl,hq⟩:=hq
  split at hq
  ·rename_i d0 e0
   refine jf r' ho hk0 hjk hj e0 jo cg j5 jT hl hq fun es d vs G2 H2 hK z2 r2 p2 hl p hp=>?_
   obtain ⟨O2,r2⟩:=r2
   exact k _ _ _ _ _ hK.2 (z.trans z2) (kp.trans fun j hj=>List.getElem?_set_ne (fun (zz:j0=j)=>hj (zz ▸ ho))) (r2.newL hp hK.1 p2)
  ·exact hq.elim
structure CInnM (X:Cx) (k0:Nat) (tg:Expr) (ifs:List Expr) (elt:Expr) (g:TG) (mt:MT) (me:ME):Prop where
 pg:PG X tg g
 qi:QIf X (owM k0) ifs mt
 qe:QE X (owM k0) elt me
theorem mY {g:TG} (own:List Str) (js:List Nat) (j0 k0:Nat) (c:CompOk X scope cl own js) (hc:X.calm=true) (hi:QI X ow tg iter mi) (cg:CGM k0 own.length g mg)
 (inner:∀ (C:Addr) (s₀:Shared) (H₀:Hp) (ex:List Addr),CInnM (bA X scope cl (cz X own js) C s₀ H₀ ex) k0 tg ifs elt g mt me) (ho:ow[j0]? = some true:=by decide) (hk0:own.length≤k0:=by decide) (hjk:js[k0 - own.length]? = some j0:=by rfl)
 (hj:(js.mapIdx fun i j=>decide (i=k0 - own.length) || !decide (ow[j]? = some true)).all id=true:=by decide)
 (hs:∀ x,foldedSetIterable iter X.env x=pure x:=by intro _; rfl):QF X ow (.ListComp elt [⟨tg,iter,ifs,0⟩] scope pos) (kg mi mg mt me own.length js j0 k0):=by
 obtain ⟨wi,pi,si⟩:=hi
 have hj':∀ (i j:Nat),js[i]? = some j→i≠k0 - own.length→ow[j]?≠some true:=fun i j e hne z=>by
  rw [List.all_eq_true] at hj
  have:=hj (decide (i=k0 - own.length) || !decide (ow[j]? = some true)) (List.mem_of_getElem? (i:=i) (by rw [List.getElem?_mapIdx,e]; rfl))
  simp [hne,z] at this
 exact ⟨_,iO own js c hc pi (fun C s₀ H₀ ex=>⟨(inner C s₀ H₀ ex).pg,(inner C s₀ H₀ ex).qi.can,(inner C s₀ H₀ ex).qe.can⟩) hs,jp si cg ho hk0 hjk hj'⟩
end
section
variable {X:Cx} {M:Md} {a b c e:Expr} {ma mb mc:ME} {pos pos' p1 p2 p3:Pos} {te:TE} {j1:Nat} {ow:List Bool}
theorem jC:∀ {a b:List D},imms a=true→imms b=true→imms (a++b)=true
 | [],b,_,h=>h
 | d :: a,b,h,h2=>by rw [imms,Bool.and_eq_true] at h; rw [List.cons_append,imms,h.1,jC h.2 h2]; rfl
theorem fR {g:TG} {mg:MG} {mt:MT} {me:ME} {mi:MA} {tg iter elt:Expr} {ifs:List Expr} {scope:Scope} {cl:List (Str×Addr)} {i:Nat} {y:Str} {spos py:Pos} (own:List Str) (js:List Nat) (j0 k0:Nat) (c:CompOk X scope cl own js) (hc:X.calm=true) (hN:X.N.Nodup) (hy:X.N[i]? = some y) (hx:Loc X.env.scope y) (hi:QI X M.ow tg iter mi) (cg:CGM k0 own.length g mg)
 (inner:∀ (C:Addr) (s₀:Shared) (H₀:Hp) (ex:List Addr),CInnM (bA X scope cl (cz X own js) C s₀ H₀ ex) k0 tg ifs elt g mt me) (hoj:M.ow[j0]? = some true:=by decide) (hk0:own.length≤k0:=by decide) (hjk:js[k0 - own.length]? = some j0:=by rfl)
 (hj:(js.mapIdx fun i j=>decide (i=k0 - own.length) || !decide (M.ow[j]? = some true)).all id=true:=by decide) (ho:M.ow[i]?≠some true:=by decide) (hu:M.mu[i]?≠some true:=by decide)
 (hsw:swapsWith (.ListComp elt [⟨tg,iter,ifs,0⟩] scope pos) (some (.Name y py)) spos.line X.env=pure true:=by rfl)
 (hs:∀ x,foldedSetIterable iter X.env x=pure x:=by intro _; rfl) (hf:X.fn y=true∨X.env.scope.names.lookup y=some .local:=by first | exact .inl rfl | exact .inr rfl | assumption) :
 QS X M (.Assign [.Name y py] (.ListComp elt [⟨tg,iter,ifs,0⟩] scope pos) spos) (ki i (kg mi mg mt me own.length js j0 k0)):=by
 obtain ⟨wi,pi,si⟩:=hi
 have hj':∀ (i j:Nat),js[i]? = some j→i≠k0 - own.length→M.ow[j]?≠some true:=fun i j e hne z=>by
  rw [List.all_eq_true] at hj
  have:=hj (decide (i=k0 - own.length) || !decide (M.ow[j]? = some true)) (List.mem_of_getElem? (i:=i) (by rw [List.getElem?_mapIdx,e]; rfl))
  simp [hne,z] at this
 exact ⟨_,eB own js c hc hN hy hx pi (fun C s₀ H₀ ex=>⟨(inner C s₀ H₀ ex).pg,(inner C s₀ H₀ ex).qi.can,(inner C s₀ H₀ ex).qe.can⟩) hsw hs hf,kN (jp si cg hoj hk0 hjk hj').se ho hu⟩
end
def isW:D→Bool
 | .int _=>true
 | _=>false
def btw (lo hi:Int):D→Bool
 | .int i=>decide (lo≤i)&&decide (i≤hi)
 | _=>false
structure Tree (ps rs:List Int):Prop where
 len:ps.length=rs.length
 lo : 1≤ps.length
 hi:ps.length≤23
 par:∀ (i:Nat) (x:Int),ps[i]? = some x→0≤x∧x≤i
 room:∀ (i:Nat) (x:Int),rs[i]? = some x→1≤x∧x≤1000000
def rb:SpD:=fun ds q=>∃ d,ds=[d]∧d.isS=false∧q (.bl (isW d)) []
def lF:SpD:=fun ds q=>∃ d lo hi,ds=[d,.int lo,.int hi]∧d.isS=false∧q (.bl (btw lo hi d)) []
def tH:SpD:=fun ds q=>∃ ps rs,ds=[aH ps rs]∧Tree ps rs∧q (.bl true) []
def uQ:SpD:=fun ds q=>∃ ps rs,ds=[aH ps rs]∧Tree ps rs∧q .non []
def pL (K:PySem.W.Frag) (φ:Addr→Prop) (ns:List Int):Prop:=∀ a H,φ a→SqL K H a (ns.map V.int)
def sC (K:PySem.W.Frag):SpD:=fun ds q=>∃ φ ns k,ds=[.scr φ ns,.int k]∧pL K φ ns∧0≤k∧k≤1000∧∀ c m,0≤c→q (az [c,m]) []
def sV:SpD:=fun ds q=>∃ c m many,ds=[az [c,m],.int many]∧0≤c∧0<many∧Sm many∧∀ r c' m',0≤r→r<many→0≤c'→q (.int r) [some (az [c',m'])]
def oC (K:PySem.W.Frag):SpD:=fun ds q=>∃ φ ns,ds=[.scr φ ns]∧pL K φ ns∧ns.length≤63∧q (.bl true) []
def li (K:PySem.W.Frag):Sp:=fun vs H Q _=>∃ (a:Addr) (ns:List Int),vs=[.ref a]∧Only H∧SqL K H a (ns.map V.int)∧ns.length≤63∧∀ H',Q (.bl true) H'
theorem oR {K:PySem.W.Frag} {vs:List V} {H:Hp} {Q:VK} {E:XK} (h:li K vs H Q E):aY [false] false (oC K) vs H Q E:=by
 obtain ⟨a,ns,rfl,hO,hS,hl,hq⟩:=h
 have main:∀ φ:Addr→Prop,pL K φ ns→Rep H (.scr φ ns) (.ref a)→aY [false] false (oC K) [.ref a] H Q E:=fun φ hφ r=>by
  refine ⟨⟨H,H,fun _=>none,[none],0⟩,H,[.scr φ ns],fun d _=>d = .bl true,rfl,rfl,⟨fun _=>none,rfl,aO.refl _,aO.refl _,fun _ _ e=>.inl e,fun a l e=>by (first | cases e),fun a l π e=>by (first | cases e),fun _ _ e _ _=>e,(fun a ps q e=>by rcases hO a with z | ⟨o,xs,z⟩ <;> (rw [e] at z; cases z)),fun _ e=>e,fun i v e=>?_,?_,trivial,Nat.le_refl _⟩,⟨φ,ns,rfl,hφ,hl,rfl⟩,rfl,?_⟩
  ·cases i with
   | zero=>simp at e
   | succ i=>simp at e
  ·intro i d e
   cases i with
   | zero=>simp at e; subst e; exact ⟨_,rfl,by simpa using r⟩
   | succ i=>simp at e
  ·intro d ρ' σ' v G' H' hd _ _ hr
   subst hd
   unfold Ret at hr
   rw [if_neg (by decide)] at hr
   rw [b9 hr.2]
   exact hq H'
 rcases hS with (h1 | ⟨o,h1⟩) | h1
 ·rcases hO a with z | ⟨o,xs,z⟩
  ·rw [h1] at z; cases z
  ·rw [h1] at z; cases z
 ·exact main (fun _=>False) (fun _ _ z=>z.elim) (by rw [Rep]; exact ⟨a,rfl,.inl ⟨o,h1⟩⟩)
 ·exact main (fun b=>b=a) (fun b H' z=>by subst z; exact .inr h1) (by rw [Rep]; exact ⟨a,rfl,.inr rfl⟩)
theorem jk {ns:List Int} {k:Int} (h0 : 0≤k) (h1:k<ns.length):atI (ns.map D.int) k=some (.int (ns.getD k.toNat 0)):=by
 have ek:k=((k.toNat:Nat):Int):=by omega
 have hl:k.toNat<ns.length:=by omega
 have:atI (ns.map D.int) ((k.toNat:Nat):Int)=some (.int (ns.getD k.toNat 0)):=ge (by rw [List.getElem?_map,List.getD_eq_getElem?_getD,List.getElem?_eq_getElem hl]; rfl)
 rw [← ek] at this
 exact this
theorem tI {ns:List Int} {k:Int} (h0 : 0≤k) (h1:k<ns.length):atI ns k=some (ns.getD k.toNat 0):=by
 have ek:k=((k.toNat:Nat):Int):=by omega
 have hl:k.toNat<ns.length:=by omega
 have:atI ns ((k.toNat:Nat):Int)=some (ns.getD k.toNat 0):=ge (by rw [List.getD_eq_getElem?_getD,List.getElem?_eq_getElem hl]; rfl)
 rw [← ek] at this
 exact this
theorem dr {ds:List D} {k:Int} {d:D} {q:D→Prop} (h:atI ds k=some d) (hq:q d):atD ds k q:=by unfold atD; rw [h]; exact hq
theorem eJ {ns:List Int} {i:Nat} {d:D} (h:(ns.map D.int)[i]? = some d):∃ z,ns[i]? = some z∧d = .int z:=by
 rw [List.getElem?_map] at h
 cases e:ns[i]? with
 | none=>rw [e] at h; cases h
 | some z=>rw [e] at h; exact ⟨z,rfl,(Option.some.inj h).symm⟩
theorem cm {lo hi z:Int} (h1:lo≤z) (h2:z≤hi):btw lo hi (.int z)=true:=by show (decide (lo≤z)&&decide (z≤hi))=true; rw [decide_eq_true h1,decide_eq_true h2]; rfl
abbrev dl (ps:List Int) (k:Int):Int:=ps.getD (k - 1).toNat 0
theorem Tree.up {ps rs:List Int} (hT:Tree ps rs) {k:Int} (h0 : 0<k) (h1:k≤ps.length) : 0≤dl ps k∧dl ps k<k:=by
 have hl:(k - 1).toNat<ps.length:=by omega
 have e:ps[(k - 1).toNat]? = some (dl ps k):=by unfold dl; rw [List.getD_eq_getElem?_getD,List.getElem?_eq_getElem hl]; rfl
 have:=hT.par _ _ e
 omega
inductive Up (ps:List Int):Int→List Int→Prop
 | zero:Up ps 0 [0]
 | step {k:Int} {u:List Int} (h : 0<k):Up ps (dl ps k) u→Up ps k (k :: u)
theorem Up.det {ps:List Int} {k:Int} {u:List Int} (h:Up ps k u):∀ {v:List Int},Up ps k v→u=v:=by
 induction h with
 | zero=>intro v h; cases h with | zero=>rfl | step h0 _=>omega
 | step h0 _ ih=>intro v h; cases h with | zero=>omega | step _ h=>rw [ih h]
theorem Up.all {ps rs:List Int} (hT:Tree ps rs):∀ (n:Nat) (k:Int),k.toNat=n→0≤k→k≤ps.length→∃ u,Up ps k u
 | n,k,hn,h0,h1=>by
  by_cases hk:k=0
  ·subst hk; exact ⟨_,.zero⟩
  ·have hp:=hT.up (k:=k) (by omega) h1
   obtain ⟨u,hu⟩:=Up.all hT (dl ps k).toNat (dl ps k) rfl hp.1 (by omega)
   exact ⟨_,.step (by omega) hu⟩
termination_by n k hn=>n
decreasing_by omega
theorem Up.le {ps rs:List Int} (hT:Tree ps rs) {k:Int} {u:List Int} (h:Up ps k u):k≤ps.length→∀ x∈u,0≤x∧x≤k:=by
 induction h with
 | zero=>intro _ x hx; simp at hx; omega
 | step h0 _ ih =>
  intro h1 x hx
  have hp:=hT.up h0 h1
  rcases List.mem_cons.mp hx with rfl | hx
  ·omega
  ·have:=ih (by omega) x hx; omega
theorem Up.dec {ps rs:List Int} (hT:Tree ps rs) {k:Int} {u:List Int} (h:Up ps k u):k≤ps.length→u.Pairwise (· > ·):=by
 induction h with
 | zero=>intro _; simp
 | step h0 hu ih =>
  intro h1
  have hp:=hT.up h0 h1
  refine List.pairwise_cons.mpr ⟨fun x hx=>?_,ih (by omega)⟩
  have:=hu.le hT (by omega) x hx
  omega
theorem Up.len {ps rs:List Int} (hT:Tree ps rs) {k:Int} {u:List Int} (h:Up ps k u):k≤ps.length→(u.length:Int)≤k + 1:=by
 induction h with
 | zero=>intro _; simp
 | step h0 hu ih=>intro h1; have hp:=hT.up h0 h1; have:=ih (by omega); simp; omega
theorem Up.head {ps:List Int} {k:Int} {u:List Int} (h:Up ps k u):k∈u:=by cases h <;> simp
inductive Climb (ps:List Int):Int→Int→List Int→Int→Prop
 | same (a:Int):Climb ps a a [] a
 | left {a b:Int} {w:List Int} {m:Int} (h:b<a):Climb ps b (dl ps a) w m→Climb ps a b (a :: w) m
 | right {a b:Int} {w:List Int} {m:Int} (h:a<b):Climb ps a (dl ps b) w m→Climb ps a b (b :: w) m
theorem Climb.meet {ps rs:List Int} (hT:Tree ps rs) {a b m:Int} {w:List Int} (h:Climb ps a b w m) : 0≤a→0≤b→a≤ps.length→b≤ps.length→∀ {ua ub:List Int},Up ps a ua→Up ps b ub→m∈ua∧m∈ub∧∀ x∈ua,x∈ub→x≤m:=by
 induction h with
 | same a=>intro a0 _ a1 _ ua ub ha hb; have:=ha.det hb; subst this; exact ⟨ha.head,ha.head,fun x hx _=>(ha.le hT a1 x hx).2⟩
 | left hlt hc ih =>
  intro a0 b0 a1 b1 ua ub ha hb
  cases ha with
  | zero=>omega
  | step h0 hu =>
   have hp:=hT.up h0 a1
   obtain ⟨m1,m2,m3⟩:=ih b0 hp.1 b1 (by omega) hb hu
   refine ⟨List.mem_cons_of_mem _ m2,m1,fun x hx hxb=>?_⟩
   rcases List.mem_cons.mp hx with rfl | hx
   ·have:=(hb.le hT b1 _ hxb).2; omega
   ·exact m3 x hxb hx
 | right hlt hc ih =>
  intro a0 b0 a1 b1 ua ub ha hb
  cases hb with
  | zero=>omega
  | step h0 hu =>
   have hp:=hT.up h0 b1
   obtain ⟨m1,m2,m3⟩:=ih a0 hp.1 a1 (by omega) ha hu
   refine ⟨m1,List.mem_cons_of_mem _ m2,fun x hx hxb=>?_⟩
   rcases List.mem_cons.mp hxb with rfl | hxb
   ·have:=(ha.le hT a1 _ hx).2; omega
   ·exact m3 x hx hxb
theorem Climb.low {ps rs:List Int} (hT:Tree ps rs) {a b m:Int} {w:List Int} (h:Climb ps a b w m) : 0≤a→0≤b→a≤ps.length→b≤ps.length→0≤m∧m≤a∧m≤b:=by
 induction h with
 | same a=>intro a0 _ _ _; omega
 | left hlt hc ih=>intro a0 b0 a1 b1; have hp:=hT.up (show 0<_ by omega) a1; have:=ih b0 hp.1 b1 (by omega); omega
 | right hlt hc ih=>intro a0 b0 a1 b1; have hp:=hT.up (show 0<_ by omega) b1; have:=ih a0 hp.1 a1 (by omega); omega
theorem Climb.perm {ps rs:List Int} (hT:Tree ps rs) {a b m:Int} {w:List Int} (h:Climb ps a b w m) : 0≤a→0≤b→a≤ps.length→b≤ps.length→∀ {ua ub um:List Int},Up ps a ua→Up ps b ub→Up ps m um→w.Perm ((ua++ub).filter fun x=>!um.contains x):=by
 induction h with
 | same a =>
  intro a0 _ a1 _ ua ub um ha hb hm
  have:=ha.det hb; subst this
  have:=ha.det hm; subst this
  have:(ua++ua).filter (fun x=>!ua.contains x)=[]:=by
   rw [List.filter_eq_nil_iff]; intro x hx; simp at hx; simp [hx]
  rw [this]
 | @left a b w m hlt hc ih =>
  intro a0 b0 a1 b1 ua ub um ha hb hm
  cases ha with
  | zero=>omega
  | step h0 hu =>
   have hp:=hT.up h0 a1
   have hl:=hc.low hT b0 hp.1 b1 (by omega)
   have ih':=ih b0 hp.1 b1 (by omega) hb hu hm
   have hn : ¬ um.contains a=true:=fun z=>by
    have:=(hm.le hT (by omega) _ (List.contains_iff_mem.mp z)).2
    omega
   rw [List.cons_append,List.filter_cons_of_pos (by simpa using hn)]
   refine List.Perm.cons _ (ih'.trans ?_)
   exact List.Perm.filter _ List.perm_append_comm
 | @right a b w m hlt hc ih =>
  intro a0 b0 a1 b1 ua ub um ha hb hm
  cases hb with
  | zero=>omega
  | step h0 hu =>
   have hp:=hT.up h0 b1
   have hl:=hc.low hT a0 hp.1 a1 (by omega)
   have ih':=ih a0 hp.1 a1 (by omega) ha hu hm
   have hn : ¬ um.contains b=true:=fun z=>by
    have:=(hm.le hT (by omega) _ (List.contains_iff_mem.mp z)).2
    omega
   refine (List.Perm.cons _ ih').trans ?_
   refine List.Perm.trans ?_ (List.Perm.filter _ (List.perm_middle (l₁:=_)).symm)
   rw [List.filter_cons_of_pos (by simpa using hn)]
theorem Climb.mem {ps rs:List Int} (hT:Tree ps rs) {a b m:Int} {w:List Int} (h:Climb ps a b w m) : 0≤a→0≤b→a≤ps.length→b≤ps.length→∀ x∈w,0<x∧x≤ps.length:=by
 induction h with
 | same a=>intro _ _ _ _ x hx; cases hx
 | left hlt hc ih =>
  intro a0 b0 a1 b1 x hx
  have hp:=hT.up (show 0<_ by omega) a1
  rcases List.mem_cons.mp hx with rfl | hx
  ·omega
  ·exact ih b0 hp.1 b1 (by omega) x hx
 | right hlt hc ih =>
  intro a0 b0 a1 b1 x hx
  have hp:=hT.up (show 0<_ by omega) b1
  rcases List.mem_cons.mp hx with rfl | hx
  ·omega
  ·exact ih a0 hp.1 a1 (by omega) x hx
theorem Climb.len {ps rs:List Int} (hT:Tree ps rs) {a b m:Int} {w:List Int} (h:Climb ps a b w m) : 0≤a→0≤b→a≤ps.length→b≤ps.length→(w.length:Int)≤a + b:=by
 induction h with
 | same a=>intro _ _ _ _; simp; omega
 | left hlt hc ih=>intro a0 b0 a1 b1; have hp:=hT.up (show 0<_ by omega) a1; have:=ih b0 hp.1 b1 (by omega); simp; omega
 | right hlt hc ih=>intro a0 b0 a1 b1; have hp:=hT.up (show 0<_ by omega) b1; have:=ih a0 hp.1 a1 (by omega); simp; omega
theorem Climb.det {ps:List Int} {a b m:Int} {w:List Int} (h:Climb ps a b w m):∀ {m':Int} {w':List Int},Climb ps a b w' m'→w=w'∧m=m':=by
 induction h with
 | same a=>intro m' w' h; cases h with | same=>exact ⟨rfl,rfl⟩ | left h _=>omega | right h _=>omega
 | left hlt hc ih=>intro m' w' h; cases h with | same=>omega | left _ h=>have:=ih h; exact ⟨by rw [this.1],this.2⟩ | right h _=>omega
 | right hlt hc ih=>intro m' w' h; cases h with | same=>omega | right _ h=>have:=ih h; exact ⟨by rw [this.1],this.2⟩ | left h _=>omega
structure Ends2 (ps:List Int) (a b:Int):Prop where
 a0 : 0≤a
 a1:a≤ps.length
 b0 : 0≤b
 b1:b≤ps.length
 ne:a≠b
def qq:SpD:=fun ds q=>∃ ps rs d,ds=[aH ps rs,d]∧d.isS=false∧q (.bl (btw 0 ps.length d)) []
def sJ:SpD:=fun ds q=>∃ ps rs a b,ds=[aH ps rs,.int a,.int b]∧Ends2 ps a b∧q (.bl true) []
def kD:SpD:=fun ds q=>∃ ps rs a b,ds=[aH ps rs,.int a,.int b]∧Tree ps rs∧Ends2 ps a b∧q .non []
def rf:SpD:=fun ds q=>∃ ps rs a b,ds=[aH ps rs,.int a,.int b]∧Tree ps rs∧0≤a∧a≤ps.length∧0≤b∧b≤ps.length∧∀ w m,Climb ps a b w m→q (.tup [az (cD w),.int m]) []
def sdWay:SpD:=fun ds q=>∃ ps rs a b,ds=[aH ps rs,.int a,.int b]∧Tree ps rs∧Ends2 ps a b∧∀ w m,Climb ps a b w m→q (az (cD w)) []
theorem hE (ps:List Int) (y:Int):D.lst (ps.map D.int++[D.int y])=az (ps++[y]):=by unfold az; rw [List.map_append]; rfl
theorem ay (ps:List Int):(ps.map D.int).length=ps.length:=List.length_map _
theorem fY {P:Nat→Int→Prop} {ps:List Int} {y:Int} (h:∀ (j:Nat) (x:Int),ps[j]? = some x→P j x) (hy:P ps.length y):∀ (j:Nat) (x:Int),(ps++[y])[j]? = some x→P j x:=by
 intro j x hj
 by_cases hjl:j<ps.length
 ·rw [List.getElem?_append_left hjl] at hj; exact h j x hj
 ·rw [List.getElem?_append_right (by omega)] at hj
  cases e:j - ps.length with
  | zero => rw [e] at hj; have : y = x := by simpa using hj
            subst this; rw [show j=ps.length by omega]; exact hy
  | succ q=>rw [e] at hj; simp at hj
def filD (p:Int→Bool):D→Option D
 | .int x=>if p x=true then some (.int x) else none
 | _=>none
theorem fP {p:Int→Bool}:∀ (ns:List Int),(ns.map D.int).filterMap (filD p)=(ns.filter p).map D.int
 | []=>rfl
 | n :: r=>by
  have ih:=fP (p:=p) r
  have e0:filD p (.int n)=if p n=true then some (.int n) else none:=rfl
  cases e:p n with
  | true=>rw [e,if_pos rfl] at e0; rw [List.map_cons,List.filterMap_cons,e0,List.filter_cons_of_pos e,List.map_cons,← ih]
  | false=>rw [e,if_neg (by decide)] at e0; rw [List.map_cons,List.filterMap_cons,e0,List.filter_cons_of_neg (by rw [e]; decide),← ih]
theorem ic (ns:List Int):(ns.map D.int).all c_=true:=by
 induction ns with
 | nil=>rfl
 | cons n r ih=>rw [List.map_cons,List.all_cons,ih]; rfl
theorem ju (x:Int) (ns:List Int):inD (.int x) (ns.map D.int)=ns.contains x:=by
 unfold inD
 induction ns with
 | nil=>rfl
 | cons n r ih =>
  rw [List.map_cons,List.any_cons,ih,List.contains_cons]
  show ((n == x)||_)=_
  rw [Bool.beq_comm]
theorem cQ {ns:List Int} {d:D} (h:d∈ns.map D.int):∃ x∈ns,d = .int x:=by
 obtain ⟨x,h1,h2⟩:=List.mem_map.mp h
 exact ⟨x,h1,h2.symm⟩
theorem fi (ns:List Int):okD (az ns)=true:=jy ns
def sdTie:SpD:=fun ds q=>∃ ps rs d,ds=[aH ps rs,d]∧d.isS=false∧q (.bl (btw 1 ps.length d)) []
def lay:Nat→D→Bool
 | _,.int _=>true
 | _,.bl _=>true
 | _,.non=>true
 | n + 1,.tup ds=>ds.all (lay n)
 | n + 1,.lst ds=>ds.all (lay n)
 | _,_=>false
theorem iG {n:Nat} (ih:∀ d,lay n d=true→(toP d).canLay0=true∧(toP d).depth≤n + 1):∀ ds:List D,ds.all (lay n)=true→PyData.canLayAll0 (toPs ds)=true∧PyData.depthAll (toPs ds)≤n + 1
 | [],_=>by rw [toPs]; simp [PyData.canLayAll0,PyData.depthAll]
 | d :: ds,h=>by
  rw [List.all_cons,Bool.and_eq_true] at h
  have h1:=ih d h.1
  have h2:=iG ih ds h.2
  rw [toPs]
  simp only [PyData.canLayAll0,PyData.depthAll,h1.1,h2.1,Bool.and_self,true_and]
  omega
theorem kF:∀ (n:Nat) (d:D),lay n d=true→(toP d).canLay0=true∧(toP d).depth≤n + 1
 | n,.int _,_=>by rw [toP]; simp [PyData.canLay0,PyData.depth]
 | n,.bl _,_=>by rw [toP]; simp [PyData.canLay0,PyData.depth]
 | n,.non,_=>by rw [toP]; simp [PyData.canLay0,PyData.depth]
 | n + 1,.tup ds,h=>by
  have:=iG (kF n) ds (by simpa [lay] using h)
  rw [toP]; simp only [PyData.canLay0,PyData.depth,this.1,true_and]; omega
 | n + 1,.lst ds,h=>by
  have:=iG (kF n) ds (by simpa [lay] using h)
  rw [toP]; simp only [PyData.canLay0,PyData.depth,this.1,true_and]; omega
 | 0,.tup _,h=>by simp [lay] at h
 | 0,.lst _,h=>by simp [lay] at h
 | n,.str _,h=>by cases n <;> simp [lay] at h
 | n,.dct,h=>by cases n <;> simp [lay] at h
 | n,.dic _ _,h=>by cases n <;> simp [lay] at h
 | n,.scr _ _,h=>by cases n <;> simp [lay] at h
 | n,.ext _,h=>by cases n <;> simp [lay] at h
theorem ga {n:Nat} {d:D} (h:lay n d=true) (hn:n≤60):okD d=true:=by
 have:=kF n d h
 unfold okD SeqAt.shaped
 rw [this.1,Bool.true_and]
 exact decide_eq_true (by omega)
theorem iM {n:Nat} (ih:∀ d,lay n d=true→PyData.eqv (toP d) (toP d)=true):∀ ds:List D,ds.all (lay n)=true→PyData.eqvAll (toPs ds) (toPs ds)=true
 | [],_=>by rw [toPs]; simp [PyData.eqvAll]
 | d :: ds,h=>by
  rw [List.all_cons,Bool.and_eq_true] at h
  rw [toPs,PyData.eqvAll,ih d h.1,iM ih ds h.2]; rfl
theorem df:∀ (n:Nat) (d:D),lay n d=true→eqD d d=true
 | n,.int _,_=>by unfold eqD; rw [toP,PyData.eqv]; simp
 | n,.bl _,_=>by unfold eqD; rw [toP,PyData.eqv]; simp
 | n,.non,_=>by unfold eqD; rw [toP,PyData.eqv]
 | n + 1,.tup ds,h=>by unfold eqD; rw [toP,PyData.eqv]; exact iM (df n) ds (by simpa [lay] using h)
 | n + 1,.lst ds,h=>by unfold eqD; rw [toP,PyData.eqv]; exact iM (df n) ds (by simpa [lay] using h)
 | 0,.tup _,h=>by simp [lay] at h
 | 0,.lst _,h=>by simp [lay] at h
 | n,.str _,h=>by cases n <;> simp [lay] at h
 | n,.dct,h=>by cases n <;> simp [lay] at h
 | n,.dic _ _,h=>by cases n <;> simp [lay] at h
 | n,.scr _ _,h=>by cases n <;> simp [lay] at h
 | n,.ext _,h=>by cases n <;> simp [lay] at h
theorem hX (n:Nat) (ns:List Int):(ns.map D.int).all (lay n)=true:=by
 rw [List.all_eq_true]; intro d hd; obtain ⟨x,_,rfl⟩:=cQ hd; cases n <;> rfl
theorem fK (n:Nat) (ns:List Int):lay (n + 1) (az ns)=true:=by unfold az; rw [lay]; exact hX n ns
theorem lH (n:Nat) (ns ms:List Int):lay (n + 2) (aH ns ms)=true:=by unfold aH; rw [lay,List.all_cons,List.all_cons,fK,fK]; rfl
structure Ask where
 one:Int
 other:Int
 size:Int
 worth:Int
def bc (a:Ask):D:=.tup [.int a.one,.int a.other,.int a.size,.int a.worth]
def aT (as:List Ask):D:=.lst (as.map bc)
structure AskOk (ps:List Int) (a:Ask):Prop where
 ends:Ends2 ps a.one a.other
 s0 : 1≤a.size
 s1:a.size≤1000000
 w0 : 1≤a.worth
 w1:a.worth≤1000000000000
structure AsksOk (ps:List Int) (as:List Ask):Prop where
 len:as.length≤30
 ok:∀ a∈as,AskOk ps a
theorem fF (as:List Ask):imms (as.map bc)=true:=by
 induction as with
 | nil=>rfl
 | cons a r ih=>rw [List.map_cons,imms,ih]; rfl
theorem lV (n:Nat) (as:List Ask):lay (n + 2) (aT as)=true:=by
 unfold aT; rw [lay,List.all_eq_true]; intro d hd
 obtain ⟨a,_,rfl⟩:=List.mem_map.mp hd
 rw [bc,lay]
 exact hX n [a.one,a.other,a.size,a.worth]
theorem k8 {as:List Ask} {i:Nat} {d:D} (h:(as.map bc)[i]? = some d):∃ a,as[i]? = some a∧d=bc a:=by
 rw [List.getElem?_map] at h
 cases e:as[i]? with
 | none=>rw [e] at h; cases h
 | some z=>rw [e] at h; exact ⟨z,rfl,(Option.some.inj h).symm⟩
theorem bR (as:List Ask):(as.map bc).length=as.length:=List.length_map _
def qO:SpD:=fun ds q=>∃ ps rs a,ds=[aH ps rs,bc a]∧AskOk ps a∧q (.bl true) []
def jV:SpD:=fun ds q=>∃ ps rs as,ds=[aH ps rs,aT as]∧Tree ps rs∧AsksOk ps as∧q .non []
def gj (ps:List Int):Nat→Int→Int→List Int
 | 0,_,_=>[]
 | f + 1,a,b=>if b<a then a :: gj ps f b (dl ps a) else if a<b then b :: gj ps f a (dl ps b) else []
def gk (ps:List Int):Nat→Int→Int→Int
 | 0,a,_=>a
 | f + 1,a,b=>if b<a then gk ps f b (dl ps a) else if a<b then gk ps f a (dl ps b) else a
theorem fb {ps rs:List Int} (hT:Tree ps rs):∀ (f:Nat) (a b:Int),(a + b).toNat≤f→0≤a→0≤b→a≤ps.length→b≤ps.length→Climb ps a b (gj ps f a b) (gk ps f a b)
 | 0,a,b,hf,a0,b0,_,_=>by
  have:a=b:=by omega
  subst this
  exact .same a
 | f + 1,a,b,hf,a0,b0,a1,b1=>by
  unfold gj gk
  by_cases h1:b<a
  ·rw [if_pos h1,if_pos h1]
   have hp:=hT.up (show 0<a by omega) a1
   exact .left h1 (fb hT f b _ (by omega) b0 hp.1 b1 (by omega))
  ·rw [if_neg h1,if_neg h1]
   by_cases h2:a<b
   ·rw [if_pos h2,if_pos h2]
    have hp:=hT.up (show 0<b by omega) b1
    exact .right h2 (fb hT f a _ (by omega) a0 hp.1 a1 (by omega))
   ·rw [if_neg h2,if_neg h2]
    have:a=b:=by omega
    subst this
    exact .same a
def jz (ps:List Int) (a b:Int):List Int:=cD (gj ps 100 a b)
def gQ (ps:List Int) (a b:Int):Int:=gk ps 100 a b
theorem Climb.way {ps rs:List Int} (hT:Tree ps rs) {a b m:Int} {w:List Int} (h:Climb ps a b w m) (a0 : 0≤a) (b0 : 0≤b) (a1:a≤ps.length) (b1:b≤ps.length):cD w=jz ps a b∧m=gQ ps a b:=by
 have hi:=hT.hi
 have:=h.det (fb hT 100 a b (by omega) a0 b0 a1 b1)
 exact ⟨by rw [this.1]; rfl,this.2⟩
theorem i6 {ps rs:List Int} (hT:Tree ps rs) {a b:Int} (a0 : 0≤a) (b0 : 0≤b) (a1:a≤ps.length) (b1:b≤ps.length):∃ w,Climb ps a b w (gQ ps a b)∧jz ps a b=cD w:=by
 have hi:=hT.hi
 exact ⟨_,fb hT 100 a b (by omega) a0 b0 a1 b1,rfl⟩
theorem f_ {ps rs:List Int} (hT:Tree ps rs) {a b:Int} (he:Ends2 ps a b) {x:Int} (hx:x∈jz ps a b) : 0<x∧x≤ps.length:=by
 obtain ⟨w,hw,e⟩:=i6 hT he.a0 he.b0 he.a1 he.b1
 rw [e] at hx
 exact hw.mem hT he.a0 he.b0 he.a1 he.b1 x ((cf w).mem_iff.mp hx)
def bK (ps:List Int) (a:Ask):List Int:=jz ps a.one a.other
def qc:SpD:=fun ds q=>∃ ps rs a,ds=[aH ps rs,bc a]∧Tree ps rs∧Ends2 ps a.one a.other∧q (az (bK ps a)) []
structure KeepOk (n:Nat) (ks:List Int):Prop where
 up:ks.Pairwise (· < ·)
 lo:∀ k∈ks,0≤k∧k<n
theorem KeepOk.len {n:Nat} {ks:List Int} (h:KeepOk n ks):ks.length≤n:=by
 have:∀ (l:List Int) (a:Int),l.Pairwise (· < ·)→(∀ k∈l,a≤k∧k<n)→0≤a→(l.length:Int)≤max 0 (n - a):=by
  intro l
  induction l with
  | nil=>intro a _ _ _; simp; omega
  | cons x r ih =>
   intro a hp hb ha
   rw [List.pairwise_cons] at hp
   have hx:=hb x (.head _)
   have:=ih (x + 1) hp.2 (fun k hk=>by have h1:=hp.1 k hk; have h2:=hb k (List.mem_cons_of_mem _ hk); omega) (by omega)
   simp; omega
 have:=this ks 0 h.up (fun k hk=>h.lo k hk) (Int.le_refl 0)
 omega
def j7:SpD:=fun ds q=>∃ ps rs as ks,ds=[aH ps rs,aT as,az ks]∧Tree ps rs∧AsksOk ps as∧KeepOk as.length ks∧q .non []
theorem gb {n:Nat} {k:Int} (h0 : 0≤k) (h1:k<n):ixN n k=some k.toNat:=by unfold ixN; rw [if_pos h0,if_pos h1]
theorem j8 {ps:List Int} {a r:Int} (a0 : 0≤a) (a1:a<1 + (ps.length:Int)) (r0 : 0≤r) (r1:r<ps.length):Ends2 ps a ((a + 1 + r) % (1 + (ps.length:Int))):=by
 refine ⟨a0,by omega,Int.emod_nonneg _ (by omega),?_,?_⟩
 ·have:=Int.emod_lt_of_pos (a + 1 + r) (show 0<1 + (ps.length:Int) by omega); omega
 ·intro he
  by_cases hlt:a + 1 + r<1 + (ps.length:Int)
  ·rw [Int.emod_eq_of_lt (by omega) hlt] at he; omega
  ·have e:(a + 1 + r) % (1 + (ps.length:Int))=a + 1 + r - (1 + (ps.length:Int)):=by
    rw [← Int.sub_emod_right,Int.emod_eq_of_lt (by omega) (by omega)]
   omega
section
variable {X:Cx}
end
section
variable {X:Cx} {M:Md} {e:Expr} {ma:ME} {pos:Pos}
end
section
variable {X:Cx}
variable {ow:List Bool} {e:Expr} {ma:ME}
end
section
variable {X:Cx}
variable {ow:List Bool} {e:Expr} {ma:ME} {pos p1 p2 p3:Pos}
end
end L2
namespace L2
open PySem
theorem Up.chain {ps rs:List Int} (hT:Tree ps rs) {b:Int} {u:List Int} (h:Up ps b u):b≤ps.length→∀ {x y:Int},x∈u→y∈u→x≤y→∃ uy,Up ps y uy∧x∈uy∧∀ z∈uy,z∈u:=by
 induction h with
 | zero =>
  intro _ x y hx hy _
  have e:y=0:=by simpa using hy
  subst e
  exact ⟨[0],.zero,hx,fun z hz=>hz⟩
 | @step k u h0 hu ih =>
  intro h1 x y hx hy hxy
  have hp:=hT.up h0 h1
  have hle:=hu.le hT (by omega)
  rcases List.mem_cons.mp hy with hy' | hy'
  ·subst hy'; exact ⟨_,.step h0 hu,hx,fun z hz=>hz⟩
  ·rcases List.mem_cons.mp hx with hx' | hx'
   ·have:=(hle y hy').2; omega
   ·obtain ⟨uy,g1,g2,g3⟩:=ih (by omega) hx' hy' hxy
    exact ⟨uy,g1,g2,fun z hz=>.tail _ (g3 z hz)⟩
end L2
namespace L2
open PySem PySem.Spec PyProof.Rows
section
variable {prog:Program} {w:World} {A:Around} {E:Value→Shared→Prop} {s:Shared}
end
section
variable {X:Cx} {M:Md} {e:Expr} {es:List Expr} {mgs:MGs} {pos:Pos}
end
section
variable {X:Cx} {M:Md} {pos:Pos}
end
def Itz (a b:Addr):It :=
 ⟨fun i H=>∃ xs ys x y,H a = some (.lst xs)∧H b = some (.lst ys)∧xs[i]? = some x∧ys[i]? = some y,
  fun i H v H'=>∃ p x y,H p=none∧v = .ref p∧H'=upd H p (.tup [x,y])∧(∀ xs,H a=some (.lst xs)→xs[i]? = some x)∧∀ ys,H b=some (.lst ys)→ys[i]? = some y,
  fun i H=>∃ xs ys,H a=some (.lst xs)∧H b=some (.lst ys)∧(xs.length≤i∨ys.length≤i)⟩
theorem mem5 {c a1 a2 a3 a4 a5:Addr} (h:c∈[a1,a2,a3,a4,a5]):c=a1∨c=a2∨c=a3∨c=a4∨c=a5:=by simpa using h
theorem mem4 {c a1 a2 a3 a4:Addr} (h:c∈[a1,a2,a3,a4]):c=a1∨c=a2∨c=a3∨c=a4:=by simpa using h
theorem iA {c a1 a2 a3 a4:Addr} (h:c ∉ [a1,a2,a3,a4]):c≠a1∧c≠a2∧c≠a3∧c≠a4:=by simpa using h
theorem nd5 {z TI TO i1 i2:Addr} (h : [z,TI,TO,i1,i2].Nodup):(z≠TI∧z≠TO∧z≠i1∧z≠i2)∧(TI≠TO∧TI≠i1∧TI≠i2)∧(TO≠i1∧TO≠i2)∧i1≠i2:=by simpa using h
theorem f9 {z TI TO i1 i2:Addr}:z∈[z,TI,TO,i1,i2]∧TI∈[z,TI,TO,i1,i2]∧TO∈[z,TI,TO,i1,i2]∧i1∈[z,TI,TO,i1,i2]∧i2∈[z,TI,TO,i1,i2]:=by simp
structure ZipSt (z TI TO i1 i2 a b:Addr) (i:Nat) (h:Heap):Prop where
 hz:IsZip h z TI TO .none
 ti:IsPair h TI (.ref i1) (.ref i2)
 to:∃ x y,IsPair h TO x y
 t1:h.IsListIter i1 a i
 t2:h.IsListIter i2 b i
theorem nN {P:Program} {w:World} {K:PySem.W.Frag} {es:List Expr} {k:Nat} {pos:Pos} (a b z TI TO i1 i2:Addr) (nd : [z,TI,TO,i1,i2].Nodup) :
 Turn P w K (.Tuple es k pos) (Itz a b) [z,TI,TO,i1,i2] z (ZipSt z TI TO i1 i2 a b) where
 mem:=f9.1
 obj:=fun i h st c hc=>by
  obtain ⟨hz,ti,⟨x,y,to⟩,⟨o1,e1,c1,d1⟩,⟨o2,e2,c2,d2⟩⟩:=st
  rcases mem5 hc with rfl | rfl | rfl | rfl | rfl
  ·exact ⟨_,hz,fun v q=>by cases q⟩
  ·exact ⟨_,ti,fun v q=>by cases q⟩
  ·exact ⟨_,to,fun v q=>by cases q⟩
  ·exact ⟨o1,e1,fun v q=>by rw [d1] at q; cases q⟩
  ·exact ⟨o2,e2,fun v q=>by rw [d2] at q; cases q⟩
 keep:=fun i h h' st kp=>by
  obtain ⟨m1,m2,m3,m4,m5⟩:=f9 (z:=z) (TI:=TI) (TO:=TO) (i1:=i1) (i2:=i2)
  obtain ⟨x,y,q⟩:=st.to
  exact ⟨kp z m1 _ st.hz,kp TI m2 _ st.ti,⟨x,y,kp TO m3 _ q⟩,st.t1.at fun o q=>kp i1 m4 o q,st.t2.at fun o q=>kp i2 m5 o q⟩
 item:=by
  intro X hP hw hK hc i pins s σ H E I hf st hg
  subst hP hw hK
  obtain ⟨xs,ys,x,y,hq1,hq2,hx,hy⟩:=hg
  obtain ⟨hz,ti,⟨ox,oy,to⟩,t1,t2⟩:=st
  obtain ⟨its1,rv1,p1,hz1⟩:=I.list (SqL.of hq1)
  obtain ⟨its2,rv2,p2,hz2⟩:=I.list (SqL.of hq2)
  obtain ⟨u,hu,ru⟩:=rv1.get hx
  obtain ⟨v,hv,rv⟩:=rv2.get hy
  obtain ⟨m1,m2,m3,m4,m5⟩:=f9 (z:=z) (TI:=TI) (TO:=TO) (i1:=i1) (i2:=i2)
  have fz:=hf z m1; have fO:=hf TO m3; have f1:=hf i1 m4; have f2:=hf i2 m5
  obtain ⟨⟨n1,n2,n3,n4⟩,⟨n5,n6,n7⟩,⟨n8,n9⟩,n10⟩:=nd5 nd
  have la:∀ {c:Addr},H c=none→a≠c:=fun h=>aq hq1 h
  have lb:∀ {c:Addr},H c=none→b≠c:=fun h=>aq hq2 h
  have AP:ZipApart z TI TO i1 i2 a b:=⟨Ne.symm n1,Ne.symm n2,Ne.symm n3,Ne.symm n4,n5,n6,n7,n8,n9,n10,la fz.1,la fO.1,la f1.1,la f2.1,lb fz.1,lb fO.1,lb f1.1,lb f2.1⟩
  refine wpAny_pyNext_zip_item AP hz ti to t1 t2 p1.isList p2.isList (x:=u) (y:=v) (by simpa using hu) (by simpa using hv) fun h' zo to' t1' t2' ht hsz hk=>?_
  refine ⟨.ref s.heap.objs.size,rfl,?_⟩
  refine wpAny_letOwnedTupleGo_zip zo fun h2 he2 hs2=>?_
  have fr:H s.heap.objs.size=none:=I.hok.fresh (Nat.le_refl _)
  have ne2:∀ b,b<s.heap.objs.size→b≠s.heap.objs.size:=fun b hb=>Nat.ne_of_lt hb
  have ee:z<s.heap.objs.size:=Heap.lt_size hz
  have k2:∀ c o,c≠z→c≠TO→c≠i1→c≠i2→s.heap.get? c=some o→h2.get? c=some o:=fun c o c1 c2 c3 c4 q=>(hs2.2 c c1).trans (hk c o c1 c2 c3 c4 q)
  have ht2:h2.get? s.heap.objs.size=some { cls:=.type "tuple",data:=.seq #[u,v] }:=(hs2.2 _ (Nat.ne_of_gt ee)).trans ht
  have trk:∀ c o,H c=some o→c≠z∧c≠TO∧c≠i1∧c≠i2:=fun c o q=>⟨aq q fz.1,aq q fO.1,aq q f1.1,aq q f2.1⟩
  have hok0:HOk X.prog X.w H h2:=fun c o q=>(I.hok c o q).stay (fun d v' hc q'=>by
   rcases hc with rfl | hc
   ·obtain ⟨z1,z2,z3,z4⟩:=trk d _ q; exact k2 d v' z1 z2 z3 z4 q'
   ·obtain ⟨z1,z2,z3,z4⟩:=trk d _ hc; exact k2 d v' z1 z2 z3 z4 q') (fun _ z=>z) (fun _ _ z=>z) fun _ _ _ z=>z
  have I1:Inv X pins σ (upd H s.heap.objs.size (.tup [x,y])) { s with heap:=h2,toks:=s.toks }:=by
   refine I.step (g':=s.gens) (d':=s.drawn) (ch:=[z,TO,i1,i2]) (fun c hc=>?_) (fun c o _ _ hc q _=>by obtain ⟨z1,z2,z3,z4⟩:=iA hc; exact k2 c o z1 z2 z3 z4 q) (fun c o _ _ hc q _=>by obtain ⟨z1,z2,z3,z4⟩:=iA hc; exact ⟨o.slots,k2 c o z1 z2 z3 z4 q⟩)
    (fun c o _ q n=>by rw [ax (ne2 c (Heap.lt_size q))]; exact n) (fun c o hc q=>by obtain ⟨z1,z2,z3,z4⟩:=iA hc; exact ⟨o,k2 c o z1 z2 z3 z4 q⟩) (fun c ys q=>by rw [ax (aq q fr)]; exact q) (fun c o v q=>by rw [ax (aq q fr)]; exact q)
    (fun c ps _ q=>⟨#[],by rw [ax (aq q fr),q]; simp⟩) (fun m hm=>?_) ?_ I.bare
   ·rcases mem4 hc with rfl | rfl | rfl | rfl
    ·exact ⟨fz.2.2.2.1,fz.2.1,fz.2.2.2.2.1,fz.2.2.2.2.2⟩
    ·exact ⟨fO.2.2.2.1,fO.2.1,fO.2.2.2.2.1,fO.2.2.2.2.2⟩
    ·exact ⟨f1.2.2.2.1,f1.2.1,f1.2.2.2.2.1,f1.2.2.2.2.2⟩
    ·exact ⟨f2.2.2.2.1,f2.2.1,f2.2.2.2.2.1,f2.2.2.2.2.2⟩
   ·obtain ⟨o,es',ep,ho,r⟩:=hm
    exact ⟨o,es',ep,k2 _ o (Ne.symm fz.2.1) (Ne.symm fO.2.1) (Ne.symm f1.2.1) (Ne.symm f2.2.1) ho,r⟩
   ·exact hok0.adopt fr ⟨by show 2≤sizeLine; decide,[u,v],.cons ru (.cons rv .nil),⟨_,ht2,rfl,_,rfl⟩⟩
  have lt:∀ c∈[z,TI,TO,i1,i2],c<s.heap.objs.size:=fun c hc=>by
   rcases mem5 hc with rfl | rfl | rfl | rfl | rfl
   ·exact ee
   ·exact Heap.lt_size ti
   ·exact Heap.lt_size to
   ·obtain ⟨o,q,_⟩:=t1; exact Heap.lt_size q
   ·obtain ⟨o,q,_⟩:=t2; exact Heap.lt_size q
  refine ⟨.ref s.heap.objs.size,_,I1,rfl,⟨_,x,y,fr,rfl,rfl,fun ws hw=>by rw [hq1] at hw; cases hw; exact hx,fun ws hw=>by rw [hq2] at hw; cases hw; exact hy⟩,⟨he2,(hs2.2 _ (Ne.symm n1)).trans (hk TI _ (Ne.symm n1) n5 n6 n7 ti),⟨_,_,(hs2.2 _ (Ne.symm n2)).trans to'⟩,t1'.extBut hs2.extBut (Ne.symm n3),t2'.extBut hs2.extBut (Ne.symm n4)⟩,fun c hc=>?_⟩
  rw [ax (ne2 c (lt c hc))]
  exact (hf c hc).1
 done:=by
  intro X hP hw hK hc i pins s σ H E I hf st hg
  subst hP hw hK
  obtain ⟨xs,ys,hq1,hq2,hend⟩:=hg
  obtain ⟨hz,ti,⟨ox,oy,to⟩,t1,t2⟩:=st
  obtain ⟨its1,rv1,p1,hz1⟩:=I.list (SqL.of hq1)
  obtain ⟨its2,rv2,p2,hz2⟩:=I.list (SqL.of hq2)
  obtain ⟨m1,m2,m3,m4,m5⟩:=f9 (z:=z) (TI:=TI) (TO:=TO) (i1:=i1) (i2:=i2)
  have fz:=hf z m1; have fO:=hf TO m3; have f1:=hf i1 m4; have f2:=hf i2 m5
  obtain ⟨⟨n1,n2,n3,n4⟩,⟨n5,n6,n7⟩,⟨n8,n9⟩,n10⟩:=nd5 nd
  have la:∀ {c:Addr},H c=none→a≠c:=fun h=>aq hq1 h
  have lb:∀ {c:Addr},H c=none→b≠c:=fun h=>aq hq2 h
  have AP:ZipApart z TI TO i1 i2 a b:=⟨Ne.symm n1,Ne.symm n2,Ne.symm n3,Ne.symm n4,n5,n6,n7,n8,n9,n10,la fz.1,la fO.1,la f1.1,la f2.1,lb fz.1,lb fO.1,lb f1.1,lb f2.1⟩
  have l1:=rv1.length
  have l2:=rv2.length
  refine wpAny_pyNext_zip_end (I.ok.hd hc) AP hz ti to t1 t2 p1.isList p2.isList (by rcases hend with h | h; exact .inl (by simp; omega); exact .inr (by simp; omega)) fun h' hk=>⟨rfl,?_⟩
  have trk:∀ c o,H c=some o→c≠z∧c≠TO∧c≠i1∧c≠i2:=fun c o q=>⟨aq q fz.1,aq q fO.1,aq q f1.1,aq q f2.1⟩
  refine I.step (g':=s.gens) (d':=s.drawn) (t':=s.toks) (ch:=[z,TO,i1,i2]) (fun c hc=>?_) (fun c o _ _ hc q _=>by obtain ⟨z1,z2,z3,z4⟩:=iA hc; exact hk c o z1 z2 z3 z4 q) (fun c o _ _ hc q _=>by obtain ⟨z1,z2,z3,z4⟩:=iA hc; exact ⟨o.slots,hk c o z1 z2 z3 z4 q⟩)
   (fun _ _ _ _ n=>n) (fun c o hc q=>by obtain ⟨z1,z2,z3,z4⟩:=iA hc; exact ⟨o,hk c o z1 z2 z3 z4 q⟩) (fun _ _ e=>e) (fun _ _ _ e=>e) (fun c ps _ e=>⟨#[],by rw [e]; simp⟩) (fun m hm=>?_) (fun c o q=>?_) I.bare
  ·rcases mem4 hc with rfl | rfl | rfl | rfl
   ·exact ⟨fz.2.2.2.1,fz.2.1,fz.2.2.2.2.1,fz.2.2.2.2.2⟩
   ·exact ⟨fO.2.2.2.1,fO.2.1,fO.2.2.2.2.1,fO.2.2.2.2.2⟩
   ·exact ⟨f1.2.2.2.1,f1.2.1,f1.2.2.2.2.1,f1.2.2.2.2.2⟩
   ·exact ⟨f2.2.2.2.1,f2.2.1,f2.2.2.2.2.1,f2.2.2.2.2.2⟩
  ·obtain ⟨o,es',ep,ho,r⟩:=hm
   exact ⟨o,es',ep,hk _ o (Ne.symm fz.2.1) (Ne.symm fO.2.1) (Ne.symm f1.2.1) (Ne.symm f2.2.1) ho,r⟩
  ·refine (I.hok c o q).stay (fun d v' hc q'=>?_) (fun _ z=>z) (fun _ _ z=>z) fun _ _ _ z=>z
   rcases hc with rfl | hc
   ·obtain ⟨z1,z2,z3,z4⟩:=trk d _ q; exact hk d v' z1 z2 z3 z4 q'
   ·obtain ⟨z1,z2,z3,z4⟩:=trk d _ hc; exact hk d v' z1 z2 z3 z4 q'
 self:=fun _ _ _ _ _ st h=>wpAny_pyIter_zip st.hz h
section
variable {X:Cx} {es:List Expr} {k:Nat} {tpos:Pos}
def iZip (ta:TA):TI:=fun σ H R=>ta σ H fun vs H1=>∃ a b,vs=[.ref a,.ref b]∧(∃ xs,H1 a=some (.lst xs))∧(∃ ys,H1 b=some (.lst ys))∧R (Itz a b) H1
theorem uR {l m:Expr} {ta:TA} {p pos:Pos} (hg:Gl X "zip") (hm:X.mg "zip" = none) (ha:PA X [l,m] ta) (hs:starEach [l,m] X.env=[(false,eval l X.env),(false,eval m X.env)]:=by rfl) (hs2:(backTo pos (starEach [m] X.env)).any (·.1)=false:=by rfl) (hs3:starEach [l,m] X.env=(false,eval l X.env) :: starEach [m] X.env:=by rfl):PI X (.Tuple es k tpos) (.Call (.Name "zip" p) [l,m] [] pos) (iZip ta):=by
 refine ⟨fun pins s σ H R I h=>?_⟩
 refine wpAny_Call_Name_kw (eI I hg hm sL ?_)
 refine PyProof.Rows.callWith_type1 (thn (ha pos pins s σ H _ I h) fun us s1 ⟨vs,H1,I1,r1,a,b,e,⟨xs,hx⟩,⟨ys,hy⟩,q⟩=>?_) hs3 hs2
 subst e
 obtain ⟨u,v,rfl,ru,rv⟩:=kS r1
 cases ru; cases rv
 obtain ⟨its1,rv1,p1,_⟩:=I1.list (SqL.of hx)
 obtain ⟨its2,rv2,p2,_⟩:=I1.list (SqL.of hy)
 refine call_zip_2 p1.isList p2.isList fun h' hz ti to t1 t2 hsz hk=>?_
 have I2:Inv X pins σ H1 { s1 with heap:=h' }:=I1.kept (t':=s1.toks) hk
 have nd : [s1.heap.objs.size + 4,s1.heap.objs.size + 2,s1.heap.objs.size + 3,s1.heap.objs.size,s1.heap.objs.size + 1].Nodup:=by
  simp only [List.nodup_cons,List.mem_cons,List.not_mem_nil,or_false,not_or,not_false_eq_true,List.nodup_nil,and_true]
  refine ⟨⟨?_,?_,?_,?_⟩,⟨?_,?_,?_⟩,⟨?_,?_⟩,?_⟩ <;> omega
 refine wpAny_pyIter_zip hz ⟨s1.heap.objs.size + 4,_,_,Itz a b,H1,rfl,I2,nN a b _ _ _ _ _ nd,⟨hz,ti,⟨_,_,to⟩,t1,t2⟩,fun c hc=>?_,q⟩
 have hc':s1.heap.objs.size≤c:=by
  rcases mem5 hc with rfl | rfl | rfl | rfl | rfl
  ·exact Nat.le_add_right _ 4
  ·exact Nat.le_add_right _ 2
  ·exact Nat.le_add_right _ 3
  ·exact Nat.le_refl _
  ·exact Nat.le_add_right _ 1
 exact I1.fpOk (H':=H1) hc' (I1.hok.fresh hc')
variable {ow:List Bool} {a b:Expr} {mr:MA} {pos:Pos}
def gv (ds es:List D):List D:=List.zipWith (fun a b=>.tup [a,b]) ds es
theorem iC {ds es:List D} {i:Nat} {d:D} (h:(gv ds es)[i]? = some d):∃ x y,ds[i]? = some x∧es[i]? = some y∧d = .tup [x,y]:=by
 unfold gv at h
 rw [List.getElem?_zipWith] at h
 cases e1:ds[i]? with
 | none=>rw [e1] at h; cases h
 | some x =>
  cases e2:es[i]? with
  | none=>rw [e1,e2] at h; cases h
  | some y=>rw [e1,e2] at h; exact ⟨x,y,rfl,rfl,(Option.some.inj h).symm⟩
theorem u6 {G:Hp} {p q:Addr} {xs ys:List V} {ds es:List D} (h1:G p=some (.lst xs)) (h2:Reps G ds xs) (h3:G q=some (.lst ys)) (h4:Reps G es ys):ke (Itz p q) G (gv ds es):=fun C ow G' ρ σ H pd i z r=>by
 have hp:=r.gh _ _ (z _ _ h1)
 have hq:=r.gh _ _ (z _ _ h3)
 refine ⟨fun hl=>⟨xs,ys,hp,hq,?_⟩,fun d e=>?_⟩
 ·rw [h2.length,h4.length]
  unfold gv at hl
  rw [List.length_zipWith] at hl
  omega
 ·obtain ⟨x,y,e1,e2,rfl⟩:=iC e
  obtain ⟨v,g1,g2⟩:=cX h2 e1
  obtain ⟨u,g3,g4⟩:=cX h4 e2
  refine ⟨⟨xs,ys,v,u,hp,hq,g1,g3⟩,fun w H' hy=>?_⟩
  obtain ⟨t,x',y',ht,rfl,rfl,hy1,hy2⟩:=hy
  have z1:=hy1 xs hp
  rw [g1] at z1; cases z1
  have z2:=hy2 ys hq
  rw [g3] at z2; cases z2
  obtain ⟨O,r⟩:=r
  obtain ⟨r2,s2⟩:=r.new ht (.tup [v,u])
  exact ⟨_,s2,⟨O,r2⟩,iE aU (bo (Rep.mono (z.trans s2) _ _ g2) (bo (Rep.mono (z.trans s2) _ _ g4) bv))⟩
def miZip (m:MA):MA:=fun ρ q=>m ρ fun ds ρ'=>match ds with
 | [.lst ds,.lst es]=>q (gv ds es) ρ'
 | _=>False
theorem oe {p:Pos} (hg:Gl X "zip") (hm:X.mg "zip" = none) (ha:QA X ow [a,b] mr) (hs:starEach [a,b] X.env=[(false,eval a X.env),(false,eval b X.env)]:=by rfl) (hs2:(backTo pos (starEach [b] X.env)).any (·.1)=false:=by rfl) (hs3:starEach [a,b] X.env=(false,eval a X.env) :: starEach [b] X.env:=by rfl):QI X ow (.Tuple es k tpos) (.Call (.Name "zip" p) [a,b] [] pos) (miZip mr):=by
 obtain ⟨t,p,s⟩:=ha
 refine ⟨_,uR hg hm p hs hs2 hs3,fun C G ρ σ H pd q Q r hm k=>s C G ρ σ H pd _ _ r hm fun ds ρ' vs G' H' hq z kp r' p hn=>?_⟩
 split at hq
 ·obtain ⟨v,u,rfl,p1,p2⟩:=c0 p
  obtain ⟨a1,xs,rfl,h1,h2⟩:=bp p1
  obtain ⟨a2,ys,rfl,h3,h4⟩:=bp p2
  exact ⟨a1,a2,rfl,⟨xs,r'.gh _ _ h1⟩,⟨ys,r'.gh _ _ h3⟩,k _ ρ' G' H' _ hq z kp r' (u6 h1 h2 h3 h4)⟩
 ·exact hq.elim
end
end L2
namespace L2
open PySem
def dQ (r:Rat):D:=.tup [.int r.num,.int r.den]
def dQs (rs:List Rat):D:=.lst (rs.map dQ)
theorem i_ {t b:Int} (hb : 0<b):bX t b=(b.gcd t:Int):=by
 unfold bX; rw [if_neg (by omega),Int.gcd_comm]
theorem i8 {t b:Int} (hb : 0<b):t / bX t b=(Rat.divInt t b).num:=by
 rw [Rat.num_divInt,Int.sign_eq_one_of_pos hb,Int.one_mul,i_ hb]
theorem i3 {t b:Int} (hb : 0<b):b / bX t b=((Rat.divInt t b).den:Int):=by
 rw [Rat.den_divInt,if_neg (by omega),i_ hb]
 have:(b.natAbs:Int)=b:=by omega
 rw [Int.natCast_ediv,this]
theorem a8 (r:Rat):(0:Int)<r.den:=by have:=r.den_pos; omega
theorem ce (r:Rat):Rat.divInt r.num r.den=r:=Rat.num_divInt_den r
structure Bt (r:Rat) (n:Nat):Prop where
 num:r.num.natAbs<2 ^ n
 den:r.den<2 ^ n
theorem bY {m n:Nat} (h:m≤n):(2:Nat) ^ m≤2 ^ n:=Nat.pow_le_pow_right (by decide) h
theorem Bt.mono {r:Rat} {m n:Nat} (h:Bt r m) (hm:m≤n):Bt r n:=⟨Nat.lt_of_lt_of_le h.num (bY hm),Nat.lt_of_lt_of_le h.den (bY hm)⟩
theorem Bt.smN {r:Rat} {m:Nat} (h:Bt r m) (hm:m≤8000):Sm r.num:=Nat.lt_of_lt_of_le h.num (bY hm)
theorem Bt.smD {r:Rat} {m:Nat} (h:Bt r m) (hm:m≤8000):Sm (r.den:Int):=by
 show ((r.den:Int)).natAbs<_
 rw [Int.natAbs_natCast]; exact Nat.lt_of_lt_of_le h.den (bY hm)
theorem fg {a b:Int} (hb : 0<b):(a / b).natAbs≤a.natAbs:=by
 have h1:=Int.ediv_mul_le a (show b≠0 by omega)
 have h2:=Int.lt_ediv_add_one_mul_self a hb
 rcases Int.lt_or_le a 0 with h | h
 ·have h3:a≤a / b:=by
   rcases Int.lt_or_le (a / b) a with z | z
   ·exfalso
    have:(a / b + 1) * b≤(a / b + 1) * 1:=Int.mul_le_mul_of_nonpos_left (by omega) (by omega)
    omega
   ·exact z
  have h4:a / b<0:=Int.ediv_neg_of_neg_of_pos h hb
  omega
 ·have:=Int.ediv_nonneg h (show 0≤b by omega)
  have:=Int.ediv_le_self b h
  omega
theorem ix {t b:Int} (hb : 0<b):(Rat.divInt t b).num.natAbs≤t.natAbs∧(Rat.divInt t b).den≤b.natAbs:=by
 have g:=dW (n:=t) hb
 constructor
 ·rw [← i8 hb]; exact fg g
 ·have e:=i3 (t:=t) hb
  have:=fg (a:=b) g
  omega
theorem Bt.divInt {t b:Int} {n:Nat} (hb : 0<b) (h1:t.natAbs<2 ^ n) (h2:b.natAbs<2 ^ n):Bt (Rat.divInt t b) n:=by
 have:=ix (t:=t) hb
 exact ⟨by omega,by omega⟩
theorem t8 (r s:Rat):r + s=Rat.divInt (r.num * s.den + s.num * r.den) (r.den * s.den):=by
 have h:=Rat.divInt_add_divInt r.num s.num (d₁:=r.den) (d₂:=s.den) (by have:=a8 r; omega) (by have:=a8 s; omega)
 rw [ce,ce] at h; exact h
theorem mE (r s:Rat):r - s=Rat.divInt (r.num * s.den - s.num * r.den) (r.den * s.den):=by
 have h:=Rat.divInt_sub_divInt r.num s.num (d₁:=r.den) (d₂:=s.den) (by have:=a8 r; omega) (by have:=a8 s; omega)
 rw [ce,ce] at h; exact h
theorem nU (r s:Rat):r * s=Rat.divInt (r.num * s.num) (r.den * s.den):=by
 have h:=Rat.divInt_mul_divInt r.num s.num (d₁:=r.den) (d₂:=s.den)
 rw [ce,ce] at h; exact h
theorem b3 (a b:Int):(a * b).natAbs=a.natAbs * b.natAbs:=Int.natAbs_mul a b
theorem bh {a b m n:Nat} (h1:a<2 ^ m) (h2:b<2 ^ n):a * b<2 ^ (m + n):=by
 rw [Nat.pow_add]
 exact Nat.mul_lt_mul_of_lt_of_le h1 (Nat.le_of_lt h2) (Nat.pow_pos (by decide))
theorem cq (r s:Rat):(0:Int)<r.den * s.den:=Int.mul_pos (a8 r) (a8 s)
theorem Bt.add {r s:Rat} {m n:Nat} (h1:Bt r m) (h2:Bt s n):Bt (r + s) (m + n + 1):=by
 rw [t8]
 have e1:(r.num * s.den).natAbs<2 ^ (m + n):=by rw [b3,Int.natAbs_natCast]; exact bh h1.num h2.den
 have e2:(s.num * r.den).natAbs<2 ^ (m + n):=by rw [b3,Int.natAbs_natCast,Nat.mul_comm]; exact bh h1.den h2.num
 have e3:((r.den:Int) * s.den).natAbs<2 ^ (m + n):=by rw [b3,Int.natAbs_natCast,Int.natAbs_natCast]; exact bh h1.den h2.den
 have e4:(2:Nat) ^ (m + n + 1)=2 ^ (m + n) + 2 ^ (m + n):=by rw [Nat.pow_succ]; omega
 exact Bt.divInt (cq r s) (Nat.lt_of_le_of_lt (Int.natAbs_add_le _ _) (by rw [e4]; exact Nat.add_lt_add e1 e2)) (Nat.lt_of_lt_of_le e3 (by rw [e4]; exact Nat.le_add_left _ _))
theorem Bt.sub {r s:Rat} {m n:Nat} (h1:Bt r m) (h2:Bt s n):Bt (r - s) (m + n + 1):=by
 rw [mE]
 have e1:(r.num * s.den).natAbs<2 ^ (m + n):=by rw [b3,Int.natAbs_natCast]; exact bh h1.num h2.den
 have e2:(s.num * r.den).natAbs<2 ^ (m + n):=by rw [b3,Int.natAbs_natCast,Nat.mul_comm]; exact bh h1.den h2.num
 have e3:((r.den:Int) * s.den).natAbs<2 ^ (m + n):=by rw [b3,Int.natAbs_natCast,Int.natAbs_natCast]; exact bh h1.den h2.den
 have e4:(2:Nat) ^ (m + n + 1)=2 ^ (m + n) + 2 ^ (m + n):=by rw [Nat.pow_succ]; omega
 exact Bt.divInt (cq r s) (Nat.lt_of_le_of_lt (Int.natAbs_sub_le _ _) (by rw [e4]; exact Nat.add_lt_add e1 e2)) (Nat.lt_of_lt_of_le e3 (by rw [e4]; exact Nat.le_add_left _ _))
theorem Bt.mul {r s:Rat} {m n:Nat} (h1:Bt r m) (h2:Bt s n):Bt (r * s) (m + n):=by
 rw [nU]
 exact Bt.divInt (cq r s) (by rw [b3]; exact bh h1.num h2.num) (by rw [b3,Int.natAbs_natCast,Int.natAbs_natCast]; exact bh h1.den h2.den)
theorem bt0 {n:Nat} (h : 0<n):Bt 0 n:=⟨by show 0<2 ^ n; exact Nat.pow_pos (by decide),by show 1<2 ^ n; exact Nat.one_lt_two_pow (by omega)⟩
theorem btI {i:Int} {n:Nat} (h:i.natAbs<2 ^ n) (hn : 0<n):Bt (i:Rat) n:=⟨by rw [Rat.num_intCast]; exact h,by rw [Rat.den_intCast]; exact Nat.one_lt_two_pow (by omega)⟩
theorem kj (i:Int):D.tup [.int i,.int 1]=dQ (i:Rat):=by unfold dQ; rw [Rat.num_intCast,Rat.den_intCast]; rfl
theorem Sm.of {i:Int} {n:Nat} (h:i.natAbs<2 ^ n) (hn:n≤8000):Sm i:=Nat.lt_of_lt_of_le h (bY hn)
def sdGcd:SpD:=fun ds q=>∃ n b,ds=[.int n,.int b]∧0≤b∧q (.int (bX n b)) []
def tU:SpD:=fun ds q=>∃ t b,ds=[.int t,.int b]∧b≠0∧Sm b∧q (dQ (Rat.divInt t b)) []
def qE:SpD:=fun ds q=>∃ r s,ds=[dQ r,dQ s]∧Bt r 3950∧Bt s 3950∧q (dQ (r - s)) []
def qj:SpD:=fun ds q=>∃ r s,ds=[dQ r,dQ s]∧Bt r 3950∧Bt s 3950∧q (dQ (r * s)) []
def p5:SpD:=fun ds q=>∃ r s,ds=[dQ r,dQ s]∧Bt r 3950∧Bt s 3950∧q (.bl (decide (r<s))) []
def gR (rs:List Rat):Nat:=(rs.map (·.den)).foldr (· * ·) 1
def sT:SpD:=fun ds q=>∃ (rs:List Rat) (M:Nat),ds=[dQs rs]∧rs.length≤200∧(∀ r∈rs,r.num.natAbs<2 ^ 3900∧r.den∣M)∧0<M∧M<2 ^ 3900∧q (dQ rs.sum) []
theorem l7:gR []=1:=rfl
theorem eF (r:Rat) (rs:List Rat):gR (r :: rs)=r.den * gR rs:=rfl
theorem lQ (rs:List Rat) : 0<gR rs:=by
 induction rs with
 | nil=>decide
 | cons r rs ih=>rw [eF]; exact Nat.mul_pos r.den_pos ih
theorem lI {rs:List Rat} {r:Rat} (h:r∈rs):r.den∣gR rs:=by
 induction rs with
 | nil=>cases h
 | cons x rs ih =>
  rw [eF]
  rcases List.mem_cons.mp h with rfl | h
  ·exact Nat.dvd_mul_right _ _
  ·exact Nat.dvd_trans (ih h) (Nat.dvd_mul_left _ _)
structure Com (rs:List Rat) (M:Nat) (B:Int):Prop where
 pos : 0<B
 dv:∀ r∈rs,(r.den:Int)∣B
 dm:B∣(M:Int)
theorem Com.le {rs:List Rat} {M:Nat} {B:Int} (h:Com rs M B) (hM : 0<M):B≤M:=Int.le_of_dvd (by omega) h.dm
theorem qh (M:Nat):Com [] M 1:=⟨by decide,(fun r h=>by cases h),⟨M,by simp⟩⟩
theorem mZ {rs:List Rat} {M:Nat} {B:Int} {r:Rat} (h:Com rs M B) (hr:r.den∣M):Com (rs++[r]) M (B / bX B r.den * r.den):=by
 have hd:=a8 r
 have g:=dW (n:=B) hd
 have g1:=ra (n:=B) hd
 have g2:=qP (n:=B) hd
 obtain ⟨n,rfl⟩:∃ n:Nat,B=n:=⟨B.toNat,by have:=h.pos; omega⟩
 have eg:bX (n:Int) r.den=(Nat.gcd n r.den:Int):=by
  unfold bX; rw [if_neg (by omega)]
  show ((Int.gcd (n:Int) r.den:Nat):Int)=_
  unfold Int.gcd; rw [Int.natAbs_natCast,Int.natAbs_natCast]
 have el:(n:Int) / bX n r.den * r.den=((Nat.lcm n r.den:Nat):Int):=by
  rw [eg,← Int.natCast_ediv,← Int.natCast_mul]
  congr 1
  unfold Nat.lcm
  exact Nat.div_mul_right_comm (Nat.gcd_dvd_left n r.den) r.den
 rw [el]
 have hn : 0<n:=by have:=h.pos; omega
 refine ⟨by have:=Nat.lcm_pos hn r.den_pos; omega,fun x hx=>?_,?_⟩
 ·rcases List.mem_append.mp hx with hx | hx
  ·exact Int.dvd_trans (h.dv x hx) (Int.natCast_dvd_natCast.mpr (Nat.dvd_lcm_left n r.den))
  ·have:x=r:=by simpa using hx
   subst this; exact Int.natCast_dvd_natCast.mpr (Nat.dvd_lcm_right n x.den)
 ·exact Int.natCast_dvd_natCast.mpr (Nat.lcm_dvd (Int.natCast_dvd_natCast.mp h.dm) hr)
def sumF (B:Int):D→D
 | .tup [.int n,.int d]=>.int (n * (B / d))
 | d=>d
theorem oH (B:Int) (rs:List Rat):(rs.map dQ).map (sumF B)=(rs.map fun r=>r.num * (B / r.den)).map D.int:=by
 rw [List.map_map,List.map_map]; rfl
theorem jI {B:Int} (hB : 0<B):∀ {rs:List Rat},(∀ r∈rs,(r.den:Int)∣B)→Rat.divInt (rs.map fun r=>r.num * (B / r.den)).sum B=rs.sum
 | [],_=>by rw [List.map_nil,List.sum_nil,List.sum_nil,Rat.zero_divInt]
 | r :: rs,h=>by
  have ih:=jI hB (rs:=rs) fun x hx=>h x (.tail _ hx)
  rw [List.map_cons,List.sum_cons,List.sum_cons,← ih]
  obtain ⟨c,hc⟩:=h r (.head _)
  have hd:=a8 r
  have e1:B / r.den=c:=by rw [hc]; exact Int.mul_ediv_cancel_left c (by omega)
  have cp:c≠0:=fun z=>by rw [z,Int.mul_zero] at hc; omega
  have e2:r=Rat.divInt (r.num * c) B:=by rw [hc,Rat.divInt_mul_right cp,ce]
  rw [e1]
  conv=>rhs; rw [e2]
  rw [Rat.divInt_add_divInt _ _ (by omega) (by omega)]
  have e3:r.num * c * B + (rs.map fun r=>r.num * (B / r.den)).sum * B=(r.num * c + (rs.map fun r=>r.num * (B / r.den)).sum) * B:=by rw [Int.add_mul]
  rw [e3,Rat.divInt_mul_right (by omega)]
theorem ka (r:Rat):lay 1 (dQ r)=true:=rfl
theorem oV (r:Rat):okD (dQ r)=true:=ga (ka r) (by decide)
theorem kT (rs:List Rat):lay 2 (dQs rs)=true:=by
 show (rs.map dQ).all (lay 1)=true
 rw [List.all_map]; exact List.all_eq_true.mpr fun r _=>ka r
theorem fW (rs:List Rat):okD (dQs rs)=true:=ga (kT rs) (by decide)
theorem jD {n:Nat}:∀ {rs:List Rat},(∀ r∈rs,r.den≤n)→gR rs≤n ^ rs.length
 | [],_=>by rw [l7]; exact Nat.le_refl _
 | r :: rs,h=>by
  rw [eF,List.length_cons,Nat.pow_succ,Nat.mul_comm]
  exact Nat.mul_le_mul (jD fun x hx=>h x (.tail _ hx)) (h r (.head _))
theorem mO {rs:List Rat} {i:Int} (h0 : 0≤i) (h1:i<rs.length):atI (rs.map dQ) i=some (dQ (rs.getD i.toNat 0)):=by
 refine k_ ?_
 unfold atI ixN
 rw [if_pos h0,if_pos h1]
 show rs[i.toNat]? = _
 rw [List.getD_eq_getElem?_getD,List.getElem?_eq_getElem (by omega)]; rfl
def bn (ps:List Int) (a:Ask) (prs:List Rat):Rat:=((bK ps a).map fun t=>prs.getD (t - 1).toNat 0).sum
def gL (r:Rat):Rat:=if 0<r then r else 0
def bq (ps:List Int) (a:Ask) (w:Int) (prs:List Rat):Rat:=gL ((a.worth:Rat) - (w:Rat) * bn ps a prs)
def uw:SpD:=fun ds q=>∃ r,ds=[dQ r]∧q (.bl true) []
def sj:SpD:=fun ds q=>∃ r,ds=[dQ r]∧0≤r∧q (.bl true) []
theorem rp (r:Rat):bX r.num r.den=1:=by
 rw [i_ (a8 r)]
 have:=r.reduced
 unfold Nat.Coprime at this
 rw [Int.gcd_comm]
 have e:Int.gcd r.num r.den=Nat.gcd r.num.natAbs r.den:=by unfold Int.gcd; rw [Int.natAbs_natCast]
 rw [e,this]; rfl
theorem nr {r:Rat} (h : 0≤r) : 0≤r.num:=Rat.num_nonneg.mpr h
def nE (prs:List Rat):D→D
 | .int t=>dQ (prs.getD (t - 1).toNat 0)
 | d=>d
theorem j_ (prs:List Rat) (w:List Int):(w.map D.int).map (nE prs)=(w.map fun t=>prs.getD (t - 1).toNat 0).map dQ:=by
 rw [List.map_map,List.map_map]; rfl
theorem fu {rs:List Rat} {k:Nat} (h:k<rs.length):rs.getD k 0∈rs:=by
 rw [List.getD_eq_getElem?_getD,List.getElem?_eq_getElem h]; exact List.getElem_mem h
theorem fC {ps rs:List Int} (hT:Tree ps rs) {a b:Int} (he:Ends2 ps a b):(jz ps a b).length≤46:=by
 obtain ⟨w,hw,e⟩:=i6 hT he.a0 he.b0 he.a1 he.b1
 have h1:=hw.len hT he.a0 he.b0 he.a1 he.b1
 have h2:=hT.hi
 have h3:=he.a1; have h4:=he.b1
 rw [e]
 have:=(cf w).length_eq
 omega
theorem pf {i:Int} {n:Nat} (m:Nat) (h:i.natAbs≤m) (hm:m<2 ^ n) (hn : 0<n):Bt (i:Rat) n:=btI (by omega) hn
def nD (ps:List Int) (prs:List Rat):D→D
 | .tup [.int o,.int p,.int s,.int w]=>dQ (bq ps ⟨o,p,s,w⟩ s prs)
 | d=>d
theorem kG (ps:List Int) (prs:List Rat) (as:List Ask):(as.map bc).map (nD ps prs)=(as.map fun a=>bq ps a a.size prs).map dQ:=by
 rw [List.map_map,List.map_map]; rfl
theorem bP:∀ rs:List Rat,imms (rs.map dQ)=true
 | []=>rfl
 | r :: rs=>by rw [List.map_cons,imms,bP rs]; rfl
theorem lX {xs:List D} {n:Nat} (h:n=xs.length):dO xs none (some (n:Int))=xs:=by
 subst h
 unfold dO
 simp [HT.sIx]
 rw [if_neg (by omega),List.take_length]
theorem l8 {t b:Int} (ht : 0≤t) (hb : 0<b) : 0≤Rat.divInt t b:=(Rat.divInt_nonneg_iff_of_pos_right hb).mpr ht
theorem kB {t b:Int} (hb : 0<b) : 0<Rat.divInt t b↔0<t:=by
 have h1:=Rat.divInt_nonneg_iff_of_pos_right (a:=t) hb
 have h2:Rat.divInt t b=0↔t=0:=by
  constructor
  ·intro h
   have:=(Rat.divInt_eq_divInt_iff (n₁:=t) (n₂:=0) (d₁:=b) (d₂:=b) (by omega) (by omega)).mp (by rw [h,Rat.zero_divInt])
   rw [Int.zero_mul] at this
   rcases Int.mul_eq_zero.mp this with z | z
   ·exact z
   ·omega
  ·intro h; rw [h,Rat.zero_divInt]
 constructor
 ·intro h
  have a1 : 0≤t:=h1.mp (by grind)
  have a2:t≠0:=fun z=>by rw [h2.mpr z] at h; grind
  omega
 ·intro h
  have a1:=h1.mpr (by omega)
  have a2:Rat.divInt t b≠0:=fun z=>by have:=h2.mp z; omega
  grind
def aN (rs:List Int) (prs:List Rat):List Rat:=List.zipWith (fun (x:Int) (p:Rat)=>(x:Rat) * p) rs prs
def eC (ps rs:List Int) (as:List Ask) (prs:List Rat):Rat:=(aN rs prs).sum + (as.map fun a=>bq ps a a.size prs).sum
def gI:D→D
 | .tup [.int x,.tup [.int n,.int d]]=>dQ ((x:Rat) * Rat.divInt n d)
 | d=>d
theorem hV (x:Int) (p:Rat):gI (.tup [.int x,dQ p])=dQ ((x:Rat) * p):=by
 show dQ ((x:Rat) * Rat.divInt p.num p.den)=_
 rw [ce]
theorem gA:∀ (rs:List Int) (prs:List Rat),(gv (rs.map D.int) (prs.map dQ)).map gI=(aN rs prs).map dQ
 | [],prs=>by cases prs <;> rfl
 | x :: rs,[]=>rfl
 | x :: rs,p :: prs=>by
  show gI (.tup [.int x,dQ p]) :: (gv (rs.map D.int) (prs.map dQ)).map gI=dQ ((x:Rat) * p) :: (aN rs prs).map dQ
  rw [hV,gA rs prs]
theorem jw {α β γ:Type} {f : α→β→γ}:∀ {xs:List α} {ys:List β} {z : γ},z∈List.zipWith f xs ys→∃ x∈xs,∃ y∈ys,z=f x y
 | [],_,_,h=>by simp at h
 | _ :: _,[],_,h=>by simp at h
 | x :: xs,y :: ys,z,h=>by
  rw [List.zipWith_cons_cons] at h
  rcases List.mem_cons.mp h with rfl | h
  ·exact ⟨x,.head _,y,.head _,rfl⟩
  ·obtain ⟨a,ha,b,hb,e⟩:=jw h
   exact ⟨a,.tail _ ha,b,.tail _ hb,e⟩
theorem qk {ps rs:List Int} (hT:Tree ps rs) {x:Int} (hx:x∈rs):Bt (x:Rat) 20:=by
 obtain ⟨i,hi⟩:=List.getElem?_of_mem hx
 have:=hT.room i x hi
 exact pf 1000000 (by omega) (by decide) (by decide)
theorem mw (rs:List Int) (prs:List Rat):(aN rs prs).length=min rs.length prs.length:=by unfold aN; rw [List.length_zipWith]
theorem gt (x t B:Int):Rat.divInt (x * t) B=(x:Rat) * Rat.divInt t B:=by
 rw [Rat.divInt_eq_div,Rat.divInt_eq_div,Rat.intCast_mul]
 grind
end L2
namespace L2
open PySem PySem.Spec PyProof.Rows
section
variable {M:Model} {A:Around} {E:Value→Shared→Prop} {s:Shared}
end
section
variable {X:Cx} {pins:List (Addr×Obj)} {σ:St} {H H':Hp} {s s':Shared} {e:Addr} {cls:Value} {dx:Option Addr} {T:Option Addr}
end
section
variable {X:Cx} {x:Str} {p pos:Pos} {e:Expr} {es:List Expr} {t:TA} {k:Nat} {f:Addr} {fd:FuncData} {ps:List Str} {sp:Sp} {xk:XS}
end
section
variable {X:Cx} {pins:List (Addr×Obj)} {σ:St} {H:Hp} {s:Shared} {xk:XS}
variable {x:Str} {C:Addr} {bm:List Value} {e:Expr} {args:List Expr} {np cpos pos:Pos} {t:TA}
end
section
variable {X:Cx} {pins p:List (Addr×Obj)} {σ:St} {H:Hp} {s:Shared} {E:Value→Shared→Prop} {v:Value}
variable {e:Addr} {cls:Value} {dx T:Option Addr}
variable {x n:Str} {i:Nat} {C D0:Addr} {bm bmD:List Value} {ini iniD:Option Value} {b0:Stmt} {suite:List Stmt} {np npos:Pos} {ts:TS} {D:Ends} {t:Addr}
end
section
variable {X:Cx} {E:Value→Shared→Prop} {p:List (Addr×Obj)}
end
section
variable {X:Cx} {M:Md} {a b c e:Expr} {mt:MT} {pos pos':Pos} {st:Stmt} {rest:List Stmt} {m:MS} {m1 m2:MSX} {mex:MEX}
variable {mg:MG}
variable {es:List Expr} {ks:List AK} {mr:MA} {x:Str} {p':Pos} {ow:List Bool}
end
section
variable {X:Cx} {M:Md} {e:Expr} {es:List Expr} {ks:List AK} {mr:MA} {x:Str} {pos p':Pos} {ow:List Bool} {mu:List Bool} {k:Nat} {f:Addr} {fd:FuncData} {ps:List Str} {sd:SpX}
end
end L2
namespace L2
open PySem PySem.Spec PyProof.Rows PySem.W Builtin.ObjectAttr
section
variable {prog:Program} {w:World} {A:Around} {E:Value→Shared→Prop} {s:Shared} {K:PySem.W.Frag} {x D:Addr} {ox:Obj} {od:Option Obj} {name:Str} {bm:List Value} {ini:Option Value} {tk:Tok}
end
end L2
namespace L2
open PySem PySem.Spec PyProof.Rows
section
variable {X:Cx}
variable {ow:List Bool} {a:Expr} {ma:ME} {pos:Pos}
end
section
variable {K:PySem.W.Frag} {C a N:Addr} {dd nd:Option Addr} {nm qn:Str} {bs bm sub:List Value} {hd ab:Bool} {sn:List Str} {col:Option Bool} {k0 k1 k2 k3 k5 ini:Option Value} {no:Value} {es:Array DictEntry} {np:Nat} {nl:Array (Option Value)} {sl:Array (Option Value)} {oc:Value} {cd:ClassData}
end
section
variable {X:Cx}
variable {ow:List Bool} {a:Expr} {ma:ME} {pos:Pos}
end
section
variable {K:PySem.W.Frag} {t c:Value} {cs:List Value} {b:Bool}
end
section
variable {prog:Program} {w:World} {A:Around} {E:Value→Shared→Prop} {h:Heap} {g:Array GenState} {d:Drawn} {t:Nat} {os:OsState}
variable {nm q:Str} {C N:Addr} {bs bm:List Value} {hdct:Bool} {sn:List Str} {sub:List Value} {ab:Bool} {col:Option Bool} {dd:Option Addr} {k0 k1 k2 k3 k5:Option Value}
end
section
variable {prog:Program} {w:World} {A:Around} {E:Value→Shared→Prop} {h:Heap} {g:Array GenState} {d:Drawn} {t:Nat} {os:OsState}
variable {nm q:Str} {C N:Addr} {bs bm:List Value} {hdct:Bool} {sn:List Str} {sub:List Value} {ab:Bool} {col:Option Bool} {dd:Option Addr} {k0 k1 k2 k3 k5:Option Value}
end
end L2
namespace L2
open PySem PySem.Spec PyProof.Rows PySem.W Builtin.ObjectAttr Builtin
section
variable {prog:Program} {w:World} {A:Around} {E:Value→Shared→Prop} {s:Shared} {K:PySem.W.Frag} {x C:Addr} {ox:Obj} {od:Option Obj} {name:Str} {bm:List Value} {ini:Option Value} {v:Value}
end
end L2
namespace L2
open PySem PySem.Spec PyProof.Rows
section
variable {X:Cx} {pins:List (Addr×Obj)} {σ:St} {H:Hp} {s:Shared} {e C fI:Addr} {bm:List Value}
end
section
variable {prog:Program} {w:World} {A:Around} {E:Value→Shared→Prop} {s:Shared} {env:Env}
end
section
variable {X:Cx} {xk:XS} {x:Str} {C fI:Addr} {bm:List Value} {e:Expr} {args:List Expr} {np cpos pos:Pos} {t:TA} {k:Nat} {fd:FuncData} {ps ns:List Str}
end
section
variable {X:Cx} {M:Md} {e:Expr} {es:List Expr} {mr:MA} {x:Str} {pos:Pos} {k:Nat} {fd:FuncData} {ps ns:List Str}
end
section
variable {X:Cx} {es:List Expr} {c:St→Prop}
end
section
variable {X:Cx} {C B:Addr} {bm:List Value} {ini:Option Value} {x:Str} {a b:Expr} {np apos pos pos':Pos} {t:TA}
end
section
variable {X:Cx} {pins:List (Addr×Obj)} {σ:St} {H:Hp} {s:Shared} {h':Heap} {a:Addr} {oa od:HO}
end
section
variable {X:Cx} {C:Addr} {bm:List Value} {ini:Option Value} {f:Str} {o value:Expr} {pos pos':Pos} {ta tv:TE}
end
section
variable {X:Cx} {ow:List Bool} {a:Expr} {ma:ME} {pos:Pos} {f:Str}
end
section
variable {X:Cx}
variable {ow:List Bool} {e:Expr} {ma:ME}
end
section
variable {X:Cx} {M:Md} {ow:List Bool} {a e:Expr} {es:List Expr} {pos:Pos} {mex:MEX} {m1:MSX} {mg:MG}
variable {x:Str} {p':Pos} {ma:ME}
end
section
variable {C:Ctx} {ow:List Bool} {G:Hp} {ρ:DSt} {σ:St} {H:Hp} {pd:List (D×V)} {O:Own} {p:Addr} {xs:List V}
end
section
variable {X:Cx} {ow:List Bool} {a b e:Expr} {es:List Expr} {ma mb:ME} {mr:MA} {pos:Pos} {x:Str} {p':Pos}
end
section
variable {X:Cx} {M:Md} {i:Nat} {st:Stmt} {rest:List Stmt} {m1 m2:MFl} {me:MFe} {ms:MS} {pos pos':Pos}
variable {e b c:Expr} {ma mb:ME} {mt:MT}
end
section
variable {C:Ctx} {ow:List Bool} {i:Nat} {G:Hp} {ρ:DSt} {σ:St} {H:Hp} {p:Addr} {ds:List D}
end
section
variable {X:Cx} {M:Md} {i:Nat} {pos pos':Pos} {e c:Expr} {ma:ME} {mt:MT} {m1 m2:MFl}
end
section
variable {X:Cx} {M:Md} {a b e:Expr} {ma mb:ME} {pos:Pos}
theorem jG (h:QM X M e ma) (hf:M.fr=false:=by rfl):QS X M (.Return (some e) pos) (mRet ma):=by
 obtain ⟨t,p,s⟩:=h
 refine ⟨_,kc p,fun C G ρ σ H n D hm hn r h k=>s C G ρ σ H [] _ _ hm r h fun d ρ' v G' H' hq z r'=>?_⟩
 obtain ⟨O,r'⟩:=r'
 obtain ⟨G2,s2,r2,p2⟩:=r'.share (by rw [hn]; exact Nat.zero_le _)
 exact k.rt d ρ' σ v G2 H' hq (z.trans s2) (by unfold Ret; rw [if_neg (by rw [hf]; decide)]; exact ⟨r2,p2⟩)
theorem qb {i j:Nat} {x y:Str} {px py pt:Pos} {kt k2 pt2} (hc:X.calm=true) (hN:X.N.Nodup) (hi:X.N[i]? = some x) (hj:X.N[j]? = some y) (hij:i≠j)
 (hx:X.env.scope.names.lookup x=some .local) (hy:X.env.scope.names.lookup y=some .local) (ha:QF X M.ow a ma) (hb:QF X M.ow b mb)
 (hw:swappedStores [.Tuple [.Name x px,.Name y py] kt pt] (.Tuple [a,b] k2 pt2) X.env=pure (some [x,y]))
 (oi:M.ow[i]? = some true:=by decide) (oj:M.ow[j]? = some true:=by decide) (ui:M.mu[i]?≠some true:=by decide) (uj:M.mu[j]?≠some true:=by decide)
 (hs1:starEach [a,b] X.env=(false,eval a X.env) :: starEach [b] X.env:=by rfl) (hs2:starEach [b] X.env=[(false,eval b X.env)]:=by rfl)
 (hs:swapsWithSole [.Tuple [.Name x px,.Name y py] kt pt] (.Tuple [a,b] k2 pt2) pos.line X.env=pure false:=by rfl) :
 QS X M (.Assign [.Tuple [.Name x px,.Name y py] kt pt] (.Tuple [a,b] k2 pt2) pos) (mPar i j ma mb):=by
 obtain ⟨ta,pa,sa⟩:=ha; obtain ⟨tb,pb,sb⟩:=hb
 refine ⟨_,ng hc hN hi hj hij hx hy (bB pa (bB pb dn hs2) hs1) hw hs,fun C G ρ σ H n D hm hn r h k=>?_⟩
 refine sa C G ρ σ H [] _ _ r h fun dx ρ1 u G1 H1 h1 z1 kp1 r1=>?_
 refine sb C G1 ρ1 σ H1 [(dx,u)] _ _ r1 h1 fun dy ρ2 w G2 H2 h2 z2 kp2 r2=>⟨u,w,rfl,?_⟩
 obtain ⟨O,r2⟩:=r2
 obtain ⟨O2,r3⟩:=r2.setO oj (hm.no uj) (by rw [hn]; exact Nat.zero_le _)
 have r4:=r3.setO oi (hm.no ui) (by rw [hn]; exact Nat.zero_le _)
 rw [List.set_comm _ _ (Ne.symm hij),List.set_comm (l:=σ) _ _ (Ne.symm hij)] at r4
 exact k.nx _ _ G2 H2 h2 (z1.trans z2) r4
end
section
variable {X:Cx} {M:Md} {a b:Expr} {ma mb:ME} {pos:Pos}
end
section
variable {X:Cx} {pos p1 p2 q1 q2:Pos} {n1 n2:Nat} {k1 k2 x y:Str} {i j:Nat} {ow:List Bool}
end
section
variable {X:Cx} {ow:List Bool} {a b e:Expr} {ma mb:ME} {pos p2:Pos} {lo hi:Option Expr} {ml mh:MO}
end
section
variable {X:Cx} {M:Md} {i:Nat} {st:Stmt} {m:MFl}
end
def cY:Nat→D→Bool
 | _,.int _=>true
 | _,.bl _=>true
 | _,.non=>true
 | _,.str x=>(PyData.str x).canLay0
 | n + 1,.tup ds=>ds.all (cY n)
 | n + 1,.lst ds=>ds.all (cY n)
 | _,_=>false
theorem gy {n:Nat} (ih:∀ d,cY n d=true→(toP d).canLay0=true∧(toP d).depth≤n + 1):∀ ds:List D,ds.all (cY n)=true→PyData.canLayAll0 (toPs ds)=true∧PyData.depthAll (toPs ds)≤n + 1
 | [],_=>by rw [toPs]; simp [PyData.canLayAll0,PyData.depthAll]
 | d :: ds,h=>by
  rw [List.all_cons,Bool.and_eq_true] at h
  have h1:=ih d h.1
  have h2:=gy ih ds h.2
  rw [toPs]
  simp only [PyData.canLayAll0,PyData.depthAll,h1.1,h2.1,Bool.and_self,true_and]
  omega
theorem i5:∀ (n:Nat) (d:D),cY n d=true→(toP d).canLay0=true∧(toP d).depth≤n + 1
 | n,.int _,_=>by rw [toP]; simp [PyData.canLay0,PyData.depth]
 | n,.bl _,_=>by rw [toP]; simp [PyData.canLay0,PyData.depth]
 | n,.non,_=>by rw [toP]; simp [PyData.canLay0,PyData.depth]
 | n,.str x,h=>by rw [toP]; exact ⟨by cases n <;> exact h,by simp [PyData.depth]⟩
 | n + 1,.tup ds,h=>by
  have:=gy (i5 n) ds (by simpa [cY] using h)
  rw [toP]; simp only [PyData.canLay0,PyData.depth,this.1,true_and]; omega
 | n + 1,.lst ds,h=>by
  have:=gy (i5 n) ds (by simpa [cY] using h)
  rw [toP]; simp only [PyData.canLay0,PyData.depth,this.1,true_and]; omega
 | 0,.tup _,h=>by simp [cY] at h
 | 0,.lst _,h=>by simp [cY] at h
 | n,.dct,h=>by cases n <;> simp [cY] at h
 | n,.dic _ _,h=>by cases n <;> simp [cY] at h
 | n,.scr _ _,h=>by cases n <;> simp [cY] at h
 | n,.ext _,h=>by cases n <;> simp [cY] at h
theorem nX {n:Nat} {d:D} (h:cY n d=true) (hn:n≤60):okD d=true:=by
 have:=i5 n d h
 unfold okD SeqAt.shaped
 rw [this.1,Bool.true_and]
 exact decide_eq_true (by omega)
theorem l3 {xs:List D} {k:Int} (h0 : 0≤k):dO xs none (some k)=xs.take k.toNat:=by
 have ek:k=((k.toNat:Nat):Int):=by omega
 unfold dO
 rw [HT.sIx_none,ek,HT.sIx_nat,List.drop_zero,Nat.sub_zero,Int.toNat_natCast]
 by_cases h:k.toNat≤xs.length
 ·rw [show min k.toNat xs.length=k.toNat by omega]
 ·rw [show min k.toNat xs.length=xs.length by omega,List.take_length,List.take_of_length_le (by omega)]
theorem lT {xs:List D} {k:Int} (h0 : 0≤k):dO xs (some k) none=xs.drop k.toNat:=by
 have ek:k=((k.toNat:Nat):Int):=by omega
 unfold dO
 rw [HT.sIx_none,ek,HT.sIx_nat,Int.toNat_natCast]
 by_cases h:k.toNat≤xs.length
 ·rw [show min k.toNat xs.length=k.toNat by omega,List.take_of_length_le (by simp)]
 ·rw [show min k.toNat xs.length=xs.length by omega,List.drop_length,List.drop_of_length_le (by omega)]; simp
section
variable {X:Cx}
end
end L2
namespace L2
open PySem
end L2
namespace L2
open PySem PySem.Spec PyProof.Rows
section
variable {X:Cx}
end
section
variable {X:Cx} {M:Md} {e:Expr} {ma:ME} {pos:Pos}
end
section
variable {X:Cx} {M:Md} {i:Nat} {st:Stmt} {rest:List Stmt} {m1 m2:MFl} {me:MFe} {pos pos':Pos} {e:Expr} {ma:ME}
end
section
variable {X:Cx} {M:Md} {elt tg iter:Expr} {ifs:List Expr} {pos:Pos} {mi:MA} {mg:MG} {mt:MT} {me:ME} {scope:Scope} {cl:List (Str×Addr)} {rest:List Stmt} {mf:MFe}
end
section
variable {X:Cx} {ow:List Bool} {e:Expr} {ma:ME} {pos p2:Pos} {lo hi:Option Expr} {ml mh:MO}
end
end L2
namespace L2
open PySem
end L2
namespace L2
open PySem PySem.Spec PyProof.Rows
section
variable {X:Cx} {pins p:List (Addr×Obj)} {σ:St} {H:Hp} {s:Shared} {E:Value→Shared→Prop} {v:Value} {e:Addr} {cls:Value} {dx T:Option Addr}
variable {x:Str} {C D0:Addr} {bm bmD:List Value} {ini iniD:Option Value} {b0:Stmt} {suite:List Stmt} {np npos:Pos} {ts:TS} {D:Ends} {t:Addr}
end
section
variable {X:Cx} {ow:List Bool} {a b:Expr} {mex:MEX} {mb:ME} {pos:Pos}
end
end L2
namespace L2
open PySem
end L2
namespace L2
open PySem PySem.Spec PyProof.Rows
section
variable {X:Cx} {pos p1 q1:Pos} {n1:Nat} {k1:Int} {x:Str} {i:Nat} {ow:List Bool}
end
section
variable {X:Cx} {ow:List Bool} {es:List Expr} {mr:MA} {pos:Pos}
end
end L2
namespace L2
open PySem
end L2
namespace L2
open PySem PySem.Spec PyProof.Rows
section
variable {X:Cx}
end
section
variable {X:Cx} {M:Md} {e e':Expr} {mr:MA} {pos:Pos}
end
end L2
namespace L2
open PySem
def nV:SpD:=fun ds q=>∃ c m most,ds=[az [c,m],.int most]∧0≤c∧1≤most∧most≤1000000000000∧∀ n c' m',1≤n→n≤most→0≤c'→q (.int n) [some (az [c',m'])]
structure ParOk (ps:List Int):Prop where
 lo : 1≤ps.length
 hi:ps.length≤23
 par:∀ (i:Nat) (x:Int),ps[i]? = some x→0≤x∧x≤i
structure RoomOk (n:Nat) (least:Int) (rs:List Int):Prop where
 len:rs.length=n
 room:∀ (i:Nat) (x:Int),rs[i]? = some x→least≤x∧x≤1000000
theorem ParOk.tree {ps rs:List Int} {least:Int} (h:ParOk ps) (r:RoomOk ps.length least rs) (hl : 1≤least):Tree ps rs:=⟨r.len.symm,h.lo,h.hi,h.par,fun i x e=>by have:=r.room i x e; omega⟩
def mm:SpD:=fun ds q=>∃ c m most,ds=[az [c,m],.int most]∧0≤c∧1≤most∧most≤23∧∀ ps c' m',ParOk ps→(ps.length:Int)≤most→0≤c'→q (az ps) [some (az [c',m'])]
def qS:SpD:=fun ds q=>∃ c m n least,ds=[az [c,m],.int ((n:Nat):Int),.int least]∧0≤c∧1≤n∧n≤23∧1≤least∧least≤2∧∀ rs c' m',RoomOk n least rs→0≤c'→q (az rs) [some (az [c',m'])]
def qy:SpD:=fun ds q=>∃ c m n,ds=[az [c,m],.int ((n:Nat):Int)]∧0≤c∧1≤n∧n≤23∧∀ a b c' m',0≤a→a≤(n:Int)→0≤b→b≤(n:Int)→a≠b→0≤c'→q (.tup [.int a,.int b]) [some (az [c',m'])]
def sdUpP:SpD:=fun ds q=>∃ ps rs k,ds=[az ps,.int k]∧Tree ps rs∧0≤k∧k≤ps.length∧∀ v,Up ps k (v++[0])→q (az v) []
def uA:SpD:=fun ds q=>∃ ps rs a b rest,ds=[az ps,.tup (.int a :: .int b :: rest)]∧Tree ps rs∧0≤a∧a≤ps.length∧0≤b∧b≤ps.length∧q (az (jz ps a b)) []
theorem Up.split {ps:List Int} {k:Int} {u:List Int} (h:Up ps k u):∃ v,u=v++[0]:=by
 induction h with
 | zero=>exact ⟨[],rfl⟩
 | step hk h ih=>obtain ⟨v,e⟩:=ih; exact ⟨_ :: v,by rw [e]; rfl⟩
theorem Up.pos {ps rs:List Int} (hT:Tree ps rs) {k:Int} {v:List Int} (h:Up ps k (v++[0])) (hk:k≤ps.length):∀ x∈v,0<x:=by
 intro x hx
 have:=(List.pairwise_append.mp (h.dec hT hk)).2.2 x hx 0 (.head _)
 exact this
theorem gm {p q:Int→Bool}:∀ {l:List Int},(∀ x∈l,p x=q x)→l.filter p=l.filter q:=fun h=>List.filter_congr h
theorem qG {ps rs:List Int} (hT:Tree ps rs) {a b:Int} (a0 : 0≤a) (b0 : 0≤b) (a1:a≤ps.length) (b1:b≤ps.length) {va vb:List Int} (hua:Up ps a (va++[0])) (hub:Up ps b (vb++[0])) :
 jz ps a b=cD (va.filter (fun x=>!vb.contains x)++vb.filter (fun x=>!va.contains x)):=by
 obtain ⟨w,hw,e⟩:=i6 hT a0 b0 a1 b1
 have hm:=hw.low hT a0 b0 a1 b1
 obtain ⟨um,hum⟩:=Up.all hT _ (gQ ps a b) rfl hm.1 (by omega)
 have hp:=hw.perm hT a0 b0 a1 b1 hua hub hum
 obtain ⟨ma,mb,mx⟩:=hw.meet hT a0 b0 a1 b1 hua hub
 obtain ⟨va',hsp⟩:=hum.split
 have h0:(0:Int)∈um:=by rw [hsp]; simp
 have pa:=Up.pos hT hua a1
 have pb:=Up.pos hT hub b1
 have inA:∀ x,x∈um→x∈va++[0]:=fun x hx=>by
  obtain ⟨uy,h1,_,h3⟩:=hua.chain hT a1 (x:=gQ ps a b) (y:=gQ ps a b) ma ma (Int.le_refl _)
  rw [← hum.det h1] at h3; exact h3 x hx
 have inB:∀ x,x∈um→x∈vb++[0]:=fun x hx=>by
  obtain ⟨uy,h1,_,h3⟩:=hub.chain hT b1 (x:=gQ ps a b) (y:=gQ ps a b) mb mb (Int.le_refl _)
  rw [← hum.det h1] at h3; exact h3 x hx
 have both:∀ x,x∈va++[0]→x∈vb++[0]→x∈um:=fun x h1 h2=>by
  obtain ⟨uy,h3,h4,_⟩:=hua.chain hT a1 h1 ma (mx x h1 h2)
  rw [hum.det h3]; exact h4
 have ea:va.filter (fun x=>!um.contains x)=va.filter (fun x=>!vb.contains x):=gm fun x hx=>by
  have hx0:=pa x hx
  have:(x∈um)↔(x∈vb):=⟨fun h=>by rcases List.mem_append.mp (inB x h) with h | h; exact h; have:=List.mem_singleton.mp h; omega,fun h=>both x (List.mem_append.mpr (.inl hx)) (List.mem_append.mpr (.inl h))⟩
  have e2:um.contains x=vb.contains x:=by rw [Bool.eq_iff_iff,List.contains_iff_mem,List.contains_iff_mem]; exact this
  show (!um.contains x)=(!vb.contains x)
  rw [e2]
 have eb:vb.filter (fun x=>!um.contains x)=vb.filter (fun x=>!va.contains x):=gm fun x hx=>by
  have hx0:=pb x hx
  have:(x∈um)↔(x∈va):=⟨fun h=>by rcases List.mem_append.mp (inA x h) with h | h; exact h; have:=List.mem_singleton.mp h; omega,fun h=>both x (List.mem_append.mpr (.inl h)) (List.mem_append.mpr (.inl hx))⟩
  have e2:um.contains x=va.contains x:=by rw [Bool.eq_iff_iff,List.contains_iff_mem,List.contains_iff_mem]; exact this
  show (!um.contains x)=(!va.contains x)
  rw [e2]
 have e0:([(0:Int)].filter fun x=>!um.contains x)=[]:=by
  rw [List.filter_cons_of_neg]; rfl
  rw [List.contains_iff_mem.mpr h0]; decide
 rw [List.filter_append,List.filter_append,List.filter_append,e0,List.append_nil,List.append_nil,ea,eb] at hp
 rw [e]
 exact jn ((cf w).trans hp) (dA w)
end L2
namespace L2
open PySem PySem.Spec PyProof.Rows
section
variable {X:Cx}
end
end L2
namespace L2
open PySem
end L2
namespace L2
open PySem PySem.Spec PyProof.Rows
section
variable {X:Cx}
variable {ow:List Bool} {e e2:Expr} {ma mb:ME}
end
end L2
namespace L2
open PySem
end L2
namespace L2
open PySem PySem.Spec PyProof.Rows
structure RprOk (d:D):Prop where
 lay:(toP d).canLay0=true
 dep:(toP d).depth≤40
 shw:(toP d).showable=true
 len:(toP d).shown.length≤sizeLine
section
variable {X:Cx}
theorem il (hu:X.A.units + 64<cLine) (hg:X.A.guards=some []):cE X (.builtin "repr") (fun xs H Q=>∃ (a:Addr) (d:D),xs=[.ref a]∧Rep H d (.ref a)∧RprOk d∧Q (.str (toP d).shown) H):=by
 intro pins s σ H xs us Q I r h
 obtain ⟨a,d,rfl,hR,ok,q⟩:=h
 obtain ⟨u,rfl,ru⟩:=fS r
 cases ru
 obtain ⟨as,hr⟩:=cL I d (.ref a) (.ref a) hR rfl ok.lay
 have hd:=ok.dep
 exact repr_of_reads' hr ok.shw (PyData.noDict_hsm (PyData.hasDict_of_canLay _ ok.lay)) hg (by omega) (fun _ _ e=>e) (fun h' u tk hk=>⟨.str _,H,I.kept hk,⟨u,rfl⟩,q⟩) ok.len
end
def isSeq:D→Bool
 | .lst _=>true
 | .tup _=>true
 | _=>false
def r9:List D→(D→Prop)→Prop:=fun ds q=>match ds with
 | [d]=>isSeq d=true∧RprOk d∧q (.str (toP d).shown)
 | _=>False
theorem rH:fm (fun xs H Q=>∃ (a:Addr) (d:D),xs=[.ref a]∧Rep H d (.ref a)∧RprOk d∧Q (.str (toP d).shown) H) r9:=fun G H xs ds q Q s p hf k=>by
 unfold r9 at hf
 split at hf
 ·rename_i d
  obtain ⟨hd,ok,hq⟩:=hf
  obtain ⟨v,rfl,p1⟩:=bD p
  cases d with
  | lst ds =>
   obtain ⟨a,xs,rfl,h1,h2⟩:=bp p1
   exact ⟨a,_,rfl,Rep.mono s _ _ p1,ok,k _ _ hq (iY _)⟩
  | tup ds =>
   have p2:=p1
   rw [Rep] at p1
   obtain ⟨a,xs,rfl,h1,h2⟩:=p1
   exact ⟨a,_,rfl,Rep.mono s _ _ p2,ok,k _ _ hq (iY _)⟩
  | _=>cases hd
 ·exact hf.elim
def fNeS:D→D→(D→Prop)→Prop:=fun a b q=>match a,b with
 | .str x,.str y=>q (.bl (!decide (x=y)))
 | _,_=>False
theorem dNeS:DOp rNe fNeS:=fun G H x y dx dy q Q s p1 p2 hf k=>by
 unfold fNeS at hf
 split at hf
 ·rename_i x' y'
  have e1:x = .str x':=by rw [Rep] at p1; exact p1
  have e2:y = .str y':=by rw [Rep] at p2; exact p2
  subst e1; subst e2
  refine ⟨rfl,k _ _ ?_ (ci _)⟩
  have e:decide (V.str x'=V.str y')=decide (x'=y'):=by
   rw [Bool.eq_iff_iff,decide_eq_true_iff,decide_eq_true_iff]; exact ⟨fun h=>by injection h,fun h=>by rw [h]⟩
  rw [e]; exact hf
 ·exact hf.elim
end L2
namespace L2
open PySem
structure Sml (n W:Nat) (d:D):Prop where
 lay:(toP d).canLay0=true
 dep:(toP d).depth≤n
 shw:(toP d).showable=true
 sho:(toP d).intsShort 20=true
 wt:(toP d).weight≤W
theorem Sml.mono {n W n' W':Nat} {d:D} (h:Sml n W d) (h1:n≤n') (h2:W≤W'):Sml n' W' d:=⟨h.lay,Nat.le_trans h.dep h1,h.shw,h.sho,Nat.le_trans h.wt h2⟩
theorem bU {i:Int} (h:i.natAbs≤1000000000000):Sml 0 41 (.int i):=by
 have hl:i.natAbs.log2<40:=by
  by_cases h0:i.natAbs=0
  ·rw [h0]; decide
  ·exact (Nat.log2_lt h0).mpr (by omega)
 refine ⟨rfl,Nat.le_refl _,?_,?_,?_⟩
 ·show decide (i.natAbs.log2<1920)=true
  exact decide_eq_true (by omega)
 ·show decide ((Str.ofString (toString i)).length≤20)=true
  have h1:=int_text_length_le10 (a:=i) (k:=13) (by decide) (by omega)
  refine decide_eq_true ?_
  rw [ofString_length]; omega
 ·show (if i == 0 then 0 else i.natAbs.log2 + 1)≤41
  split <;> omega
theorem iQ {n W:Nat}:∀ {ds:List D},(∀ d∈ds,Sml n W d)→PyData.canLayAll0 (toPs ds)=true∧PyData.depthAll (toPs ds)≤n∧PyData.showableAll (toPs ds)=true∧PyData.intsShortAll 20 (toPs ds)=true∧PyData.weightAll (toPs ds)≤ds.length * (W + 1)
 | [],_=>⟨rfl,Nat.zero_le _,rfl,rfl,by show 0≤_; omega⟩
 | d :: ds,h=>by
  obtain ⟨a1,a2,a3,a4,a5⟩:=iQ fun x hx=>h x (.tail _ hx)
  have b:=h d (.head _)
  refine ⟨?_,?_,?_,?_,?_⟩
  ·rw [toPs,PyData.canLayAll0,b.lay,a1]; rfl
  ·rw [toPs,PyData.depthAll]; have:=b.dep; omega
  ·rw [toPs,PyData.showableAll,b.shw,a3]; rfl
  ·rw [toPs,PyData.intsShortAll,b.sho,a4]; rfl
  ·rw [toPs,PyData.weightAll,List.length_cons,Nat.succ_mul]; have:=b.wt; omega
theorem eN {n W N:Nat} {ds:List D} (h:∀ d∈ds,Sml n W d) (hl:ds.length≤N):Sml (n + 1) (N * (W + 1)) (.lst ds):=by
 obtain ⟨a1,a2,a3,a4,a5⟩:=iQ h
 have hm:=Nat.mul_le_mul_right (W + 1) hl
 refine ⟨?_,?_,?_,?_,?_⟩ <;> rw [toP]
 ·rw [PyData.canLay0]; exact a1
 ·rw [PyData.depth]; omega
 ·rw [PyData.showable]; exact a3
 ·rw [PyData.intsShort]; exact a4
 ·rw [PyData.weight]; omega
theorem fo {n W N:Nat} {ds:List D} (h:∀ d∈ds,Sml n W d) (hl:ds.length≤N):Sml (n + 1) (N * (W + 1)) (.tup ds):=by
 obtain ⟨a1,a2,a3,a4,a5⟩:=iQ h
 have hm:=Nat.mul_le_mul_right (W + 1) hl
 refine ⟨?_,?_,?_,?_,?_⟩ <;> rw [toP]
 ·rw [PyData.canLay0]; exact a1
 ·rw [PyData.depth]; omega
 ·rw [PyData.showable]; exact a3
 ·rw [PyData.intsShort]; exact a4
 ·rw [PyData.weight]; omega
theorem Sml.rpr {n W:Nat} {d:D} (h:Sml n W d) (hn:n≤40) (hW:W≤700000):RprOk d:=by
 have h1:=h.dep; have h2:=h.wt
 refine ⟨h.lay,by omega,h.shw,?_⟩
 have h3:=PyData.shown_le 20 (by decide) (toP d) (PyData.leavesShort_of_canLay0 20 _ h.lay h.sho)
 refine Nat.le_trans h3 ?_
 show (20 + 2) * (toP d).weight + 20≤2 ^ 24
 have:(22:Nat) * (toP d).weight≤22 * 700000:=Nat.mul_le_mul_left 22 (Nat.le_trans h2 hW)
 omega
theorem mR {ps rs:List Int} (hT:Tree ps rs):Sml 2 5000 (aH ps rs):=by
 have h1:=hT.hi; have h2:=hT.len
 have a:∀ l:List Int,l.length≤23→(∀ z∈l,z.natAbs≤1000000000000)→Sml 1 (23 * 42) (az l):=fun l hl hz=>eN (fun d hd=>by obtain ⟨z,hm,rfl⟩:=List.mem_map.mp hd; exact bU (hz z hm)) (by rw [List.length_map]; exact hl)
 have hp:=a ps h1 fun z hz=>by obtain ⟨i,hi⟩:=List.getElem?_of_mem hz; have:=hT.par i z hi; have:=(List.getElem?_eq_some_iff.mp hi).1; omega
 have hr:=a rs (by omega) fun z hz=>by obtain ⟨i,hi⟩:=List.getElem?_of_mem hz; have:=hT.room i z hi; omega
 exact (fo (N:=2) (ds:=[az ps,az rs]) (fun d hd=>by
  rcases List.mem_cons.mp hd with rfl | hd
  ·exact hp
  ·rw [List.mem_singleton.mp hd]; exact hr) (Nat.le_refl _)).mono (by decide) (by decide)
theorem mK {ps:List Int} {as:List Ask} (hp:ps.length≤23) (ha:AsksOk ps as):Sml 2 6000 (aT as):=by
 refine (eN (n:=1) (W:=4 * 42) (N:=30) (fun d hd=>?_) (by rw [List.length_map]; exact ha.len)).mono (by decide) (by decide)
 obtain ⟨a,hm,rfl⟩:=List.mem_map.mp hd
 have hok:=ha.ok a hm
 have e:=hok.ends
 have e1:=e.a0; have e2:=e.a1; have e3:=e.b0; have e4:=e.b1; have e5:=hok.s0; have e6:=hok.s1; have e7:=hok.w0; have e8:=hok.w1
 refine fo (N:=4) (fun d hd=>?_) (Nat.le_refl _)
 simp only [List.mem_cons,List.not_mem_nil,or_false] at hd
 rcases hd with rfl | rfl | rfl | rfl
 ·exact bU (by omega)
 ·exact bU (by omega)
 ·exact bU (by omega)
 ·exact bU (by omega)
theorem pJ {l:List Int} {N:Nat} (h:∀ z∈l,z.natAbs≤1000000000000) (hl:l.length≤N):Sml 1 (N * 42) (az l):=eN (fun d hd=>by obtain ⟨z,hm,rfl⟩:=List.mem_map.mp hd; exact bU (h z hm)) (by rw [List.length_map]; exact hl)
end L2
namespace L2
open PySem PySem.Spec PyProof.Rows
section
variable {κ:Type} [DecidableEq κ]
end
section
variable {P:Program} {w:World} {H:Hp} {h:Heap} {a:Addr}
end
section
variable {X:Cx} {pins:List (Addr×Obj)} {σ:St} {H:Hp} {s:Shared} {a:Addr} {y v:V} {u r:Value} {o:Option V} {A:Around} {E:Value→Shared→Prop}
end
section
variable {X:Cx} {pins:List (Addr×Obj)} {σ:St} {H:Hp} {s:Shared} {a:Addr} {kvs:List (Key×V)} {k:Key} {u:Value} {A:Around} {E:Value→Shared→Prop}
end
section
variable {X:Cx} {o i e value:Expr} {pos pos' tpos:Pos} {td ty tv:TE}
end
section
variable {X:Cx} {pos:Pos}
end
structure M1 (X:Cx) (o:Expr) (m:Str) (apos:Pos) (e:Expr) (cpos:Pos):Prop where
 base:attributeBase o m X.env (eval o X.env)=eval o X.env
 few:((backTo cpos (starEach [e] X.env)).all (fun x=>!x.1)&&(backToKw cpos (keywordEach [] X.env)).all (fun x=>x.1.isSome)
  && decide (([e]:List Expr).length + ([]:List Keyword).length + (if ([]:List Keyword).isEmpty then 0 else 1)<30))=true
 line:(apos.endLine == cpos.line)=true
 trees:backTo cpos (starEach [e] X.env)=[(false,eval e X.env)]
section
variable {X:Cx} {pins:List (Addr×Obj)} {σ:St} {H:Hp} {s:Shared} {a:Addr} {y d:V} {u r:Value} {o:Option V} {A:Around} {E:Value→Shared→Prop}
end
section
variable {X:Cx} {o e f:Expr} {apos cpos:Pos} {td ty tx:TE}
end
section
variable {X:Cx} {pins:List (Addr×Obj)} {σ:St} {H:Hp} {s:Shared} {a:Addr} {kvs:List (Key×V)} {A:Around} {E:Value→Shared→Prop}
end
section
variable {X:Cx} {pins:List (Addr×Obj)} {σ:St} {H:Hp} {s:Shared} {a:Addr} {y:V} {u:Value} {A:Around} {E:Value→Shared→Prop}
end
section
variable {C:Ctx} {ow:List Bool} {G:Hp} {ρ:DSt} {σ:St} {H:Hp} {pd:List (D×V)} {O:Own}
end
section
variable {X:Cx} {M:Md} {ow:List Bool} {a b c e:Expr} {ma mb mc:ME} {pos:Pos}
end
section
variable {C:Ctx} {ow:List Bool} {G:Hp} {ρ:DSt} {σ:St} {H:Hp} {pd:List (D×V)} {O:Own}
end
section
variable {X:Cx} {ow:List Bool} {a b e:Expr} {pos:Pos} {ma mb:MN0}
end
section
variable {X:Cx} {M:Md} {ow:List Bool} {i:Nat} {a b e:Expr} {pos:Pos} {mp:MPt} {mz:MN0} {ma:ME}
end
section
variable {X:Cx} {M:Md} {i:Nat} {pos:Pos} {mg:MG} {m:MS}
end
end L2
namespace L2
open PySem
end L2
namespace L2
open PySem PySem.Spec PyProof.Rows
section
variable {X:Cx}
end
section
variable {X:Cx} {pins:List (Addr×Obj)} {σ:St} {H:Hp} {s:Shared}
end
section
variable {X:Cx} {ow:List Bool} {pos:Pos}
end
section
open AutoSeq1 (wpAny_loadPart')
open MeetsSeq MeetsSeq2 MeetsSeq3
end
section
variable {prog:Program} {w:World} {A:Around} {E:Value→Shared→Prop} {s:Shared}
end
section
variable {X:Cx}
end
section
variable {X:Cx} {ow:List Bool} {pos p1 p2 p3 p4:Pos} {j1 j2 j3 j4:Nat}
end
end L2
namespace L2
open PySem
end L2
namespace L2
open PySem PySem.Spec PyProof.Rows
section
variable {X:Cx} {ow:List Bool} {a b:Expr} {ma mb:DSt→(Int→Prop)→Prop} {pos:Pos}
end
section
variable {C:Ctx} {ow:List Bool} {G G':Hp} {ρ:DSt} {σ:St} {H H':Hp} {pd:List (D×V)} {O O':Own}
end
section
variable {X:Cx} {ow:List Bool} {tg iter:Expr} {ifs:List Expr} {pos pos':Pos} {mi:MA} {mg:MG} {scope:Scope} {cl:List (Str×Addr)}
end
section
variable {X:Cx}
variable {a b:Expr} {mr:MA} {pos:Pos}
end
section
variable {X:Cx} {tg:Expr}
variable {ow:List Bool} {a:Expr} {mr:MA} {pos:Pos}
end
section
variable {X:Cx}
open PySem.Builtin.Str (partsBetween occurrences)
variable {ow:List Bool} {e a b:Expr} {ma mb:ME}
end
section
variable {X:Cx} {tg:Expr}
variable {ow:List Bool} {e:Expr} {ma:ME}
end
end L2
namespace L2
open PySem PySem.Spec PyProof.Rows
section
variable {X:Cx}
end
end L2
namespace L2
open PySem
end L2
namespace L2
open PySem PySem.Spec PyProof.Rows
section
variable {prog:Program} {w:World} {A:Around} {E:Value→Shared→Prop} {s:Shared}
end
section
variable {X:Cx}
end
end L2
namespace L2
open PySem
end L2
namespace L2
open PySem PySem.Spec PyProof.Rows
section
variable {X:Cx} {ow:List Bool} {a b:Expr} {mex:MEX} {mb:ME} {pos:Pos}
end
section
variable {X:Cx} {pos p1 q1:Pos} {n1 n2:Nat} {k1 z:Int} {ow:List Bool}
end
section
variable {X:Cx} {ow:List Bool} {a b:Expr} {ma mb:ME} {pos:Pos}
end
section
variable {K:PySem.W.Frag} {mg:Str→Option Value} {n:Str} {st:Stmt} {ps:List Str} {f:Addr} {d:FuncData}
structure FT (K:PySem.W.Frag) (mg:Str→Option Value) (n:Str) (st:Stmt) (ps:List Str) (f:Addr) (d:FuncData):Prop where
 F:Fun K n n st f d
 b:fT K d ps []
 m:mg n=some (.ref f)
structure FH (K:PySem.W.Frag) (n:Str) (st:Stmt) (f:Addr) (d:FuncData):Prop where
 a:PySem.W.nsIn K mainGlobals n=some (some (.ref f))
 F:Fun K n n st f d
theorem aQ {oc:Value} {od an:Option Addr} {osl:Array (Option Value)} {kV doc pm cdv ct:Value} (a:PySem.W.nsIn K mainGlobals n=some (some (.ref f))) (l:K.lookup f=some ⟨oc,od,.func (PySem.W.fnOf n n (dt st) (cH st) (am st) .none kV doc pm an cdv ct),osl⟩)
 (c:PySem.W.codeIn K cdv n=true) (k:PySem.W.keepIn K (.ref f)=true):FH K n st f (PySem.W.fnOf n n (dt st) (cH st) (am st) .none kV doc pm an cdv ct):=⟨a,tQ l c k⟩
theorem FH.ft {h:Heap} (z:FH K n st f d) (X:K.In h) (G:h.Ns mainGlobals mg)
 (hb:∀ (kV doc pm:Value) (an:Option Addr) (cdv ct:Value) (us:List Value),us.length=ps.length→bindArgs (PySem.W.fnOf n n (dt st) (cH st) (am st) .none kV doc pm an cdv ct) ⟨us,[]⟩=pure (ps.zip us)):FT K mg n st ps f d:=⟨z.F,z.F.binds hb,PySem.W.mg_of X G z.a⟩
theorem aP {N P:List Str} {sc:Scope} (a:sc.kind = .function:=by rfl) (b:sc.isCoroutine=false:=by rfl) (c:sc.isGenerator=false:=by rfl) (d:N.Nodup:=by decide +kernel) (e:N.take P.length=P:=by rfl)
 (g:∀ x∈P,sc.names.lookup x=some .local∨sc.names.lookup x=some .cell:=by decide +kernel) (h:∀ y∈sc.names,y.2≠.free:=by decide +kernel):FnScope N P sc:=⟨a,b,c,d,e,g,h⟩
end
section
variable {X:Cx} {ow:List Bool} {k j:Nat} {f:Addr} {fd:FuncData} {ps:List Str} {mu:List Bool} {sd:SpD} {sx:SpX} {x:Str} {st:Stmt} {ks:List AK} {e:Expr} {es:List Expr} {mr:MA} {pos p':Pos}
theorem ag (F:FnOk X.prog X.w X.K X.mg X.base CX0 k f fd ps (aY mu false sd)) (hr:Room j X.A) (t:FT X.K X.mg x st ps f fd) (ha:QAk X ow ks (e :: es) mr) (hj:k≤j:=by decide) (hg:Gl X x:=by rfl) (hmu:mu=ks.map AK.isM:=by rfl) (nd:(aD ks).Nodup:=by decide) (hw:∀ i∈aD ks,ow[i]? = some true:=by decide) (hdb:(x == ("__debug__":Str))=false:=by decide)
 (he:starEach (e :: es) X.env=(false,eval e X.env) :: starEach es X.env:=by rfl) (hpl:(backTo pos (starEach es X.env)).any (·.1)=false:=by rfl):QE X ow (.Call (.Name x p') (e :: es) [] pos) (lf ks sd mr):=qa F (hr.mono hj) hg t.m t.F.kp t.b ha hmu nd hw hdb he hpl
theorem aW (F:FnOk X.prog X.w X.K X.mg X.base CX0 k f fd ps (aY mu true sd)) (hr:Room j X.A) (t:FT X.K X.mg x st ps f fd) (ha:QAk X ow ks (e :: es) mr) (hj:k≤j:=by decide) (hg:Gl X x:=by rfl) (hmu:mu=ks.map AK.isM:=by rfl) (nd:(aD ks).Nodup:=by decide) (hw:∀ i∈aD ks,ow[i]? = some true:=by decide) (hdb:(x == ("__debug__":Str))=false:=by decide)
 (he:starEach (e :: es) X.env=(false,eval e X.env) :: starEach es X.env:=by rfl) (hpl:(backTo pos (starEach es X.env)).any (·.1)=false:=by rfl):QF X ow (.Call (.Name x p') (e :: es) [] pos) (lf ks sd mr):=qB F (hr.mono hj) hg t.m t.F.kp t.b ha hmu nd hw hdb he hpl
end
section
variable {K:PySem.W.Frag} {C a N:Addr} {dd nd:Option Addr} {nm qn x:Str} {bs bm sub:List Value} {hd ab:Bool} {sn:List Str} {col:Option Bool} {k0 k1 k2 k3 k5 ini:Option Value} {no:Value} {es:Array DictEntry} {np:Nat} {nl:Array (Option Value)}
end
end L2
namespace L2
open PySem PySem.Spec PyProof.Rows PySem.W Att
section
variable {prog:Program} {w:World} {A:Around} {E:Value→Shared→Prop} {s:Shared}
variable {h₀:Heap} {L:Addr} {m:Str→Option Value} {news:List (Addr×Obj)}
end
section
variable {X:Cx} {pins:List (Addr×Obj)} {σ:St} {H:Hp} {s:Shared} {args:Arguments} {body:Expr} {scope:Scope} {pos:Pos} {c P:Addr} {clos:List (Str×Addr)}
end
section
variable {prog:Program} {w:World} {A:Around} {s:Shared} {X:Cx} {args:Arguments} {scope:Scope} {clos:List (Str×Addr)} {cv ctv:Value} {f cc p:Addr} {x y:Str} {p1 p2 p3 p4:Pos}
end
section
variable {X:Cx} {pins:List (Addr×Obj)} {σ:St} {H:Hp} {s:Shared} {args:Arguments} {scope:Scope} {clos:List (Str×Addr)} {cv ctv:Value} {f cc p r:Addr} {x y:Str} {p1 p2 p3 p4:Pos} {n:Nat} {ns:List Int} {t u v:Tok} {Q:Value→Shared→Prop}
end
section
variable {X:Cx} {e:Expr} {te:TE} {x y:Str} {j:Nat} {c P:Addr} {args:Arguments} {scope:Scope} {p1 p2 p3 p4 q1 q2 q3 lp kp pos:Pos}
end
end L2
namespace L2
open PySem PySem.Spec PyProof.Rows PySem.W
section
variable {C:Ctx} {ow:List Bool} {G:Hp} {ρ:DSt} {σ:St} {H H2:Hp} {pd:List (D×V)} {O:Own}
end
section
variable {X:Cx} {ow:List Bool} {e:Expr} {me:ME} {x y:Str} {j:Nat} {c P:Addr} {args:Arguments} {scope:Scope} {p1 p2 p3 p4 q1 q2 q3 lp kp pos:Pos} {k:Nat}
end
end L2
namespace L2
open PySem
def DvM (r:Rat) (M:Nat):Prop:=∃ k:Int,r * ((M:Int):Rat)=(k:Rat)
theorem DvM.add {r s:Rat} {M:Nat}:DvM r M→DvM s M→DvM (r + s) M
 | ⟨k,h⟩,⟨l,g⟩=>⟨k + l,by rw [Rat.add_mul,h,g,Rat.intCast_add]⟩
theorem DvM.sub {r s:Rat} {M:Nat}:DvM r M→DvM s M→DvM (r - s) M
 | ⟨k,h⟩,⟨l,g⟩=>⟨k - l,by rw [Rat.sub_eq_add_neg,Rat.add_mul,Rat.neg_mul,h,g,Rat.intCast_sub,Rat.sub_eq_add_neg]⟩
theorem DvM.mulI {r:Rat} {M:Nat} (i:Int):DvM r M→DvM ((i:Rat) * r) M
 | ⟨k,h⟩=>⟨i * k,by rw [Rat.mul_assoc,h,Rat.intCast_mul]⟩
theorem DvM.int (i:Int) (M:Nat):DvM (i:Rat) M:=⟨i * M,by rw [Rat.intCast_mul]⟩
theorem DvM.zero (M:Nat):DvM 0 M:=⟨0,by rw [Rat.zero_mul]; rfl⟩
theorem DvM.div {r:Rat} {M n:Nat} (hn : 0<n):DvM r M→DvM (r / ((n:Int):Rat)) (M * n)
 | ⟨k,h⟩=>⟨k,by
  have hz:((n:Int):Rat)≠0:=fun z=>by have:=Rat.intCast_eq_zero_iff.mp z; omega
  rw [Int.natCast_mul,Rat.intCast_mul,← h]
  generalize ((n:Int):Rat)=x at hz
  grind⟩
theorem DvM.sum {M:Nat}:∀ {rs:List Rat},(∀ r∈rs,DvM r M)→DvM rs.sum M
 | [],_=>DvM.zero M
 | r :: rs,h=>by rw [List.sum_cons]; exact (h r (.head _)).add (DvM.sum fun x hx=>h x (.tail _ hx))
theorem DvM.den {r:Rat} {M:Nat} (M0 : 0<M):DvM r M→r.den∣M
 | ⟨k,h⟩=>by
  have hz:((M:Int):Rat)≠0:=fun z=>by have:=Rat.intCast_eq_zero_iff.mp z; omega
  have e:r=Rat.divInt k M:=by
   rw [Rat.divInt_eq_div,← h]
   generalize ((M:Int):Rat)=x at hz
   grind
  rw [e,Rat.den_divInt,if_neg (by omega),Int.natAbs_natCast]
  refine Nat.div_dvd_of_dvd ?_
  have:=Int.gcd_dvd_left (M:Int) k
  exact Int.natCast_dvd_natCast.mp this
theorem fe {r:Rat} {M b m x:Nat} (h0 : 0≤r) (h1:r≤((b:Int):Rat)) (h:DvM r M) (M0 : 0<M) (hM:M<2 ^ m) (hb:b≤2 ^ x):Bt r (m + x):=by
 have hd:=Nat.le_of_dvd M0 (h.den M0)
 have hn:=nr h0
 have h2:=(Rat.le_iff r ((b:Int):Rat)).mp h1
 rw [Rat.num_intCast,Rat.den_intCast] at h2
 have h3:r.num.natAbs≤b * r.den:=by
  have:r.num≤((b * r.den:Nat):Int):=by rw [Int.natCast_mul]; omega
  omega
 have hx : 0<2 ^ x:=Nat.pow_pos (by decide)
 refine ⟨?_,?_⟩
 ·have h4:b * r.den≤2 ^ x * r.den:=Nat.mul_le_mul_right _ hb
  have h5 : 2 ^ x * r.den<2 ^ x * 2 ^ m:=Nat.mul_lt_mul_of_pos_left (by omega) hx
  rw [Nat.pow_add,Nat.mul_comm (2 ^ m)]
  omega
 ·rw [Nat.pow_add]
  have : 2 ^ m≤2 ^ m * 2 ^ x:=Nat.le_mul_of_pos_right _ hx
  omega
structure PrM (ps:List Int) (prs:List Rat) (M b:Nat):Prop where
 len:prs.length=ps.length
 ok:∀ r∈prs,0≤r∧r≤((b:Int):Rat)∧DvM r M
theorem PrM.zero (ps:List Int) (M b:Nat):PrM ps (List.replicate ps.length 0) M b:=⟨List.length_replicate,fun r hr=>by
 rw [List.eq_of_mem_replicate hr]
 exact ⟨by decide,Rat.intCast_nonneg.mpr (by omega),DvM.zero M⟩⟩
theorem gN {b:Rat} (hb : 0≤b):∀ {rs:List Rat},(∀ r∈rs,0≤r∧r≤b)→0≤rs.sum∧rs.sum≤(rs.length:Rat) * b
 | [],_=>by rw [List.sum_nil,List.length_nil]; exact ⟨by decide,by rw [show ((0:Nat):Rat)=0 from rfl,Rat.zero_mul]; decide⟩
 | r :: rs,h=>by
  have ih:=gN hb (rs:=rs) fun x hx=>h x (.tail _ hx)
  have h0:=h r (.head _)
  rw [List.sum_cons,List.length_cons]
  have e:((rs.length + 1:Nat):Rat)=(rs.length:Rat) + 1:=by rw [Rat.natCast_add]; rfl
  rw [e,Rat.add_mul,Rat.one_mul]
  constructor <;> grind
theorem mN {ps rs:List Int} {prs:List Rat} {a:Ask} {M b:Nat} (hT:Tree ps rs) (he:Ends2 ps a.one a.other) (hp:PrM ps prs M b):(∀ r∈(bK ps a).map (fun t=>prs.getD (t - 1).toNat 0),r∈prs)∧0≤bn ps a prs∧bn ps a prs≤(((46 * b:Nat):Int):Rat)∧DvM (bn ps a prs) M:=by
 have hm:∀ r∈(bK ps a).map (fun t=>prs.getD (t - 1).toNat 0),r∈prs:=fun r hr=>by
  obtain ⟨t,ht,rfl⟩:=List.mem_map.mp hr
  have:=f_ hT he ht
  exact fu (by rw [hp.len]; omega)
 have hb:(0:Rat)≤((b:Int):Rat):=Rat.intCast_nonneg.mpr (by omega)
 have h1:=gN hb fun r hr=>⟨(hp.ok r (hm r hr)).1,(hp.ok r (hm r hr)).2.1⟩
 refine ⟨hm,h1.1,?_,DvM.sum fun r hr=>(hp.ok r (hm r hr)).2.2⟩
 refine Rat.le_trans h1.2 ?_
 have hl:(bK ps a).length≤46:=fC hT he
 rw [List.length_map,Int.natCast_mul,Rat.intCast_mul]
 have hl':((bK ps a).length:Rat)≤((46:Nat):Rat):=Rat.natCast_le_natCast.mpr hl
 exact Rat.mul_le_mul_of_nonneg_right hl' hb
theorem qr {r s:Rat} (h:r≤s) (hs : 0≤s) : 0≤gL r∧gL r≤s:=by
 unfold gL; split
 ·exact ⟨Rat.le_of_lt (by assumption),h⟩
 ·exact ⟨by decide,hs⟩
theorem k9 {ps rs:List Int} {prs:List Rat} {a:Ask} {w:Int} {M b:Nat} (hT:Tree ps rs) (ha:AskOk ps a) (hw : 0≤w) (hp:PrM ps prs M b) : 0≤bq ps a w prs∧bq ps a w prs≤(((1000000000000:Nat):Int):Rat)∧DvM (bq ps a w prs) M:=by
 obtain ⟨_,h0,h1,h2⟩:=mN hT ha.ends hp
 have hw':(0:Rat)≤(w:Rat):=Rat.intCast_nonneg.mpr hw
 have hwp:(0:Rat)≤(w:Rat) * bn ps a prs:=Rat.mul_nonneg hw' h0
 have hwo:(a.worth:Rat)≤(((1000000000000:Nat):Int):Rat):=Rat.intCast_le_intCast.mpr (by have:=ha.w1; omega)
 have hb:=qr (r:=(a.worth:Rat) - (w:Rat) * bn ps a prs) (s:=(((1000000000000:Nat):Int):Rat)) (by grind) (by decide)
 refine ⟨hb.1,hb.2,?_⟩
 show DvM (gL _) M
 unfold gL
 split
 ·exact (DvM.int a.worth M).sub (h2.mulI w)
 ·exact DvM.zero M
def oN:SpD:=fun ds q=>∃ ps rs a w prs,∃ M b:Nat,ds=[aH ps rs,bc a,.int w,dQs prs]∧Tree ps rs∧AskOk ps a∧0≤w∧w≤1000000∧PrM ps prs M b∧0<M∧M<2 ^ 400∧b≤2 ^ 60∧q (dQ (bq ps a w prs)) []
theorem vg {r:Rat} {b:Rat} {p:Int} (h0 : 0≤r) (h1:r≤b) (hp : 1≤p) : 0≤r / (p:Rat)∧r / (p:Rat)≤b:=by
 have hq:(1:Rat)≤(p:Rat):=Rat.intCast_le_intCast.mpr hp
 have hq0:(0:Rat)<(p:Rat):=by grind
 have e:=Rat.div_mul_cancel (a:=r) (b:=(p:Rat)) (by grind)
 constructor
 ·exact Rat.le_of_mul_le_mul_right (c:=(p:Rat)) (by rw [e,Rat.zero_mul]; exact h0) hq0
 ·refine Rat.le_of_mul_le_mul_right (c:=(p:Rat)) ?_ hq0
  rw [e]
  have:b * 1≤b * (p:Rat):=Rat.mul_le_mul_of_nonneg_left hq (Rat.le_trans h0 h1)
  grind
end L2
namespace L2
open PySem PySem.Spec PyProof.Rows PySem.W
end L2
namespace L2
open PySem
structure PrK (ps:List Int) (prs:List Rat):Prop where
 ex:∃ M b:Nat,PrM ps prs M b∧0<M∧M<2 ^ 400∧b≤2 ^ 60
theorem PrK.len {ps:List Int} {prs:List Rat}:PrK ps prs→prs.length=ps.length
 | ⟨_,_,h,_⟩=>h.len
theorem PrK.nn {ps:List Int} {prs:List Rat}:PrK ps prs→∀ r∈prs,0≤r
 | ⟨_,_,h,_⟩=>fun r hr=>(h.ok r hr).1
def lZ:SpD:=fun ds q=>∃ ps rs as prs,ds=[aH ps rs,aT as,dQs prs]∧Tree ps rs∧AsksOk ps as∧PrK ps prs∧q (dQs (as.map fun a=>bq ps a a.size prs)) []
def jA:SpD:=fun ds q=>∃ ps rs as prs,ds=[aH ps rs,aT as,dQs prs]∧Tree ps rs∧AsksOk ps as∧PrK ps prs∧q (dQ (eC ps rs as prs)) []
theorem kY {ps rs:List Int} {prs:List Rat} {M b:Nat} (hT:Tree ps rs) (hp:PrM ps prs M b):∀ r∈aN rs prs,0≤r∧r≤(((1000000 * b:Nat):Int):Rat)∧DvM r M:=fun r hr=>by
 obtain ⟨x,hx,y,hy,rfl⟩:=jw hr
 obtain ⟨h0,h1,h2⟩:=hp.ok y hy
 obtain ⟨j,hj⟩:=List.getElem?_of_mem hx
 have hx:=hT.room j x hj
 have x0:(0:Rat)≤(x:Rat):=Rat.intCast_nonneg.mpr (by omega)
 have x1:(x:Rat)≤((1000000:Int):Rat):=Rat.intCast_le_intCast.mpr (by omega)
 refine ⟨Rat.mul_nonneg x0 h0,?_,h2.mulI x⟩
 rw [Int.natCast_mul,Rat.intCast_mul]
 exact Rat.le_trans (Rat.mul_le_mul_of_nonneg_right x1 h0) (Rat.mul_le_mul_of_nonneg_left h1 (by decide))
theorem iX {ps rs:List Int} {as:List Ask} {prs:List Rat} {M b:Nat} (hT:Tree ps rs) (ha:AsksOk ps as) (hp:PrM ps prs M b) (M0 : 0<M) (hM:M<2 ^ 400) (hb:b≤2 ^ 60) {l1 l2:List Rat} (h1:l1.Sublist (aN rs prs)) (h2:l2.Sublist (as.map fun a=>bq ps a a.size prs)):Bt (l1.sum + l2.sum) 500∧DvM (l1.sum + l2.sum) M:=by
 have q1:∀ r∈l1,0≤r∧r≤(((1000000 * b:Nat):Int):Rat)∧DvM r M:=fun r hr=>kY hT hp r (h1.subset hr)
 have q2:∀ r∈l2,0≤r∧r≤(((1000000000000:Nat):Int):Rat)∧DvM r M:=fun r hr=>by
  obtain ⟨a,hm,rfl⟩:=List.mem_map.mp (h2.subset hr)
  have ok:=ha.ok a hm
  exact k9 hT ok (by have:=ok.s0; omega) hp
 have s1:=gN (b:=(((1000000 * b:Nat):Int):Rat)) (Rat.intCast_nonneg.mpr (by omega)) fun r hr=>⟨(q1 r hr).1,(q1 r hr).2.1⟩
 have s2:=gN (b:=(((1000000000000:Nat):Int):Rat)) (by decide) fun r hr=>⟨(q2 r hr).1,(q2 r hr).2.1⟩
 have hd:DvM (l1.sum + l2.sum) M:=(DvM.sum fun r hr=>(q1 r hr).2.2).add (DvM.sum fun r hr=>(q2 r hr).2.2)
 have n1:l1.length≤23:=by
  have:=h1.length_le
  have e:(aN rs prs).length≤rs.length:=by unfold aN; rw [List.length_zipWith]; omega
  have:=hT.len; have:=hT.hi
  omega
 have n2:l2.length≤30:=by
  have:=h2.length_le
  rw [List.length_map] at this
  have:=ha.len
  omega
 refine ⟨?_,hd⟩
 refine (fe (b:=23 * (1000000 * b) + 30 * 1000000000000) (x:=100) (Rat.add_nonneg s1.1 s2.1) ?_ hd M0 hM ?_).mono (by decide)
 ·rw [Int.natCast_add,Rat.intCast_add,Int.natCast_mul,Rat.intCast_mul,Int.natCast_mul 30,Rat.intCast_mul]
  have m1:(l1.length:Rat) * (((1000000 * b:Nat):Int):Rat)≤(((23:Nat):Int):Rat) * (((1000000 * b:Nat):Int):Rat):=Rat.mul_le_mul_of_nonneg_right (Rat.natCast_le_natCast.mpr n1) (Rat.intCast_nonneg.mpr (by omega))
  have m2:(l2.length:Rat) * (((1000000000000:Nat):Int):Rat)≤(((30:Nat):Int):Rat) * (((1000000000000:Nat):Int):Rat):=Rat.mul_le_mul_of_nonneg_right (Rat.natCast_le_natCast.mpr n2) (by decide)
  grind
 ·have : 23 * (1000000 * b)≤23 * (1000000 * 2 ^ 60):=Nat.mul_le_mul_left _ (Nat.mul_le_mul_left _ hb)
  exact Nat.le_trans (Nat.add_le_add_right this _) (by decide)
theorem d8 {ps rs:List Int} {as:List Ask} {prs:List Rat} (hT:Tree ps rs) (ha:AsksOk ps as):PrK ps prs→Bt (eC ps rs as prs) 500
 | ⟨_,_,h1,h2,h3,h4⟩=>(iX hT ha h1 h2 h3 h4 (List.Sublist.refl _) (List.Sublist.refl _)).1
theorem ku {rs:List Int} {prs:List Rat} {i:Nat} (h1:i<rs.length) (h2:i<prs.length):aN (rs.take (i + 1)) (prs.take (i + 1))=aN (rs.take i) (prs.take i)++[((rs.getD i 0:Int):Rat) * prs.getD i 0]:=by
 unfold aN
 rw [← List.take_zipWith,← List.take_zipWith,List.take_add_one,List.getElem?_zipWith,List.getElem?_eq_getElem h1,List.getElem?_eq_getElem h2,List.getD_eq_getElem?_getD,List.getD_eq_getElem?_getD,List.getElem?_eq_getElem h1,List.getElem?_eq_getElem h2]; rfl
theorem l5 (rs:List Int) (prs:List Rat) (i:Nat):(aN (rs.take i) (prs.take i)).Sublist (aN rs prs):=by
 unfold aN; rw [← List.take_zipWith]; exact List.take_sublist _ _
end L2
namespace L2
open PySem PySem.Spec PyProof.Rows
section
variable {X:Cx} {M:Md} {a b c e:Expr} {ma mb mc:ME} {pos pos':Pos}
end
end L2
namespace L2
open PySem
end L2
namespace L2
open PySem PySem.Spec PyProof.Rows
section
variable {X:Cx}
end
structure ModD (K:PySem.W.Frag) (a:Addr) (kv:List (Str×Int)):Prop where
 ns:(a == sysModules)=false
 ex:∃ (o:Obj) (es:Array DictEntry) (n:Nat),K.lookup a=some o∧o.ExactDict∧o.data = .dict es n∧KTD.Rows (fun (d:Int) (v:Value)=>∃ t,v = .int d t) es.toList kv
def gO (kv:List (Str×Int)) (k:Str):Option Int:=KTD.datumAt k kv
def datK (kv:List (Str×Int)):List (Str×KTD.Dat):=kv.map fun p=>(p.1,.flat (.int p.2))
theorem dS (k:Str):∀ kv:List (Str×Int),KTD.datumAt k (datK kv)=(gO kv k).map fun n=>.flat (.int n)
 | []=>rfl
 | (x,n) :: kv=>by
  show (if decide (k=x)=true then some _ else KTD.datumAt k (datK kv))=((if decide (k=x)=true then some n else gO kv k)).map _
  by_cases h:decide (k=x)=true
  ·rw [if_pos h,if_pos h]; rfl
  ·rw [if_neg h,if_neg h]; exact dS k kv
section
variable {X:Cx} {o e:Expr} {apos cpos:Pos} {te:TE} {a:Addr} {kv:List (Str×Int)}
theorem ModD.here (m:ModD X.K a kv) {pins:List (Addr×Obj)} {σ:St} {H:Hp} {s:Shared} (I:Inv X pins σ H s):KTD.Here s.heap s.heap a (datK kv):=by
 obtain ⟨ns,o,es,n,h1,h2,h3,h4⟩:=m
 refine ⟨⟨ns,o,es,n,I.kIn a o h1,h2,h3,?_⟩,fun _ _ h=>h⟩
 exact h4.mono (f:=fun d=>KTD.Dat.flat (.int d)) fun d v ⟨t,hv⟩=>by subst hv; exact .int d t
def tMGet (kv:List (Str×Int)) (te:TE):TE:=fun σ H Q=>te σ H fun y H2=>∃ k,y = .str k∧Q (match gO kv k with | some n=>.int n | none=>.non) H2
theorem q_ (md:ModD X.K a kv) (ho:PE X o (tC (.ref a))) (he:PE X e te) (m:M1 X o "get" apos e cpos):PE X (.Call (.Attribute o "get" apos) [e] [] cpos) (tMGet kv te):=by
 (try refine ⟨?_⟩); intro pins s σ H Q I h
 refine wpAny_Call_method m.base m.few m.line PySem.F.plainAttrs_dict PySem.F.slot_dict_get PySem.F.type_dict_get (thn (ho pins s σ H (fun x H1=>x = .ref a∧H1=H) I ⟨rfl,rfl⟩) fun u s1 ⟨x,H1,I1,rx,ex,eH⟩=>?_)
 subst ex eH
 obtain rfl:u=Value.ref a:=rx
 have T1:=md.here I1
 refine ⟨T1.typeIs,T1.noDict,?_⟩
 rw [m.trees]
 refine Calls.callWith_builtin rfl (Calls.evalArgs_plain (Calls.spliced_cons (thn (he pins s1 σ H1 _ I1 h) fun iv s2 ⟨y,H2,I2,ry,k,ey,q2⟩=>Calls.spliced_nil ?_)))
 subst ey
 obtain ⟨tk,rfl⟩:=ry
 have T2:=md.here I2
 refine call_meetsIn PySem.F.slot_dict_get T2.typeIs PySem.F.entry_dict_get (PySem.F.args_dict_get_2 _ _) (KTD.meets_get1 (h₀:=s2.heap) (D:=datK kv)) ⟨T2,fun d v hd hv=>?_,fun hd=>?_⟩
 ·rw [dS] at hd
  cases hl:gO kv k with
  | none=>rw [hl] at hd; cases hd
  | some n =>
   rw [hl] at hd q2
   cases hd
   obtain ⟨t,rfl⟩:=PyProof.V.Flat.int_inv hv
   exact ⟨.int n,H2,I2.tok _,⟨_,rfl⟩,q2⟩
 ·rw [dS] at hd
  cases hl:gO kv k with
  | none=>rw [hl] at q2; exact ⟨.non,H2,I2.tok _,rfl,q2⟩
  | some n=>rw [hl] at hd; cases hd
end
section
variable {X:Cx} {ow:List Bool} {b:Expr} {mb:ME} {pos apos cpos:Pos}
def mMGet (kv:List (Str×Int)) (mb:ME):ME:=fun ρ q=>mb ρ fun y ρ'=>match y with
 | .str k=>q (match gO kv k with | some n=>.int n | none=>.non) ρ'
 | _=>False
theorem rB {x:Str} {a:Addr} {kv:List (Str×Int)} (hg:Gl X x) (hm:X.mg x=some (.ref a)) (md:ModD X.K a kv) (hb:QE X ow b mb) (hd:(x == ("__debug__":Str))=false:=by decide) (m:M1 X (.Name x pos) "get" apos b cpos:=by exact ⟨rfl,rfl,rfl,rfl⟩) :
 QE X ow (.Call (.Attribute (.Name x pos) "get" apos) [b] [] cpos) (mMGet kv mb):=by
 obtain ⟨tb,pb,sb⟩:=hb
 refine ⟨_,q_ md (lc (v:=.ref a) hg hm rfl hd) pb m,fun C G ρ σ H pd q Q hr h k=>?_⟩
 refine sb C G ρ σ H pd _ _ hr h fun d ρ1 v G1 H1 h1 z1 kp1 r1 p1=>?_
 cases d with
 | str y =>
  rw [Rep] at p1
  refine ⟨y,p1,k _ ρ1 _ G1 H1 h1 z1 kp1 r1 ?_⟩
  cases gO kv y with
  | none=>exact iI
  | some n=>exact br n
 | _=>exact h1.elim
end
theorem g9 {G:Hp}:∀ {ds:List D} {xs:List V} {k:Nat} {d:D},Reps G ds xs→ds[k]? = some d→∃ v,xs[k]? = some v∧Rep G d v
 | [],_,_,_,_,h=>by cases h
 | d :: ds,xs,k,d',h,e=>by
  rw [Reps] at h
  obtain ⟨v,vs,rfl,h1,h2⟩:=h
  cases k with
  | zero=>cases e; exact ⟨v,rfl,h1⟩
  | succ k =>
   obtain ⟨v',q1,q2⟩:=g9 (k:=k) (d:=d') h2 (by simpa using e)
   exact ⟨v',by simpa using q1,q2⟩
theorem gw {G:Hp}:∀ {ds:List D} {xs:List V},Reps G ds xs→∀ k:Nat,Reps G (ds.eraseIdx k) (xs.eraseIdx k)
 | [],xs,h,k=>by rw [Reps] at h; subst h; rw [List.eraseIdx_nil,List.eraseIdx_nil]; exact bv
 | d :: ds,xs,h,k=>by
  rw [Reps] at h
  obtain ⟨v,vs,rfl,h1,h2⟩:=h
  cases k with
  | zero=>exact h2
  | succ k=>exact bo h1 (gw h2 k)
theorem gK:∀ {ds:List D},imms ds=true→∀ k:Nat,imms (ds.eraseIdx k)=true
 | [],h,k=>by rw [List.eraseIdx_nil]; exact h
 | d :: ds,h,k=>by
  rw [imms,Bool.and_eq_true] at h
  cases k with
  | zero=>exact h.2
  | succ k=>show imms (d :: ds.eraseIdx k)=true; rw [imms,h.1,gK h.2 k]; rfl
section
variable {X:Cx}
def rPopD:V→List V→Hp→VK→Prop:=fun x vs H Q=>∃ (l:Addr) (xs:List V) (k:Int) (v:V),x = .ref l∧vs=[.int k]∧H l=some (.lst xs)∧0≤k∧xs[k.toNat]? = some v∧Q v (upd H l (.lst (xs.eraseIdx k.toNat)))
theorem qZ:MtM X "list.pop" rPopD:=by
 (try refine ⟨?_⟩); intro pins s σ H x vs v us Q I rx rv h
 obtain ⟨l,xs,k,vv,rfl,rfl,hH,k0,hv,q⟩:=h
 cases rx
 obtain ⟨u,rfl,ru⟩:=rv.one
 obtain ⟨t,rfl⟩:=ru
 obtain ⟨z,its,n,r,hl,e⟩:=I.lstM hH
 obtain ⟨w',hw,rw'⟩:=r.get hv
 have hk:k.toNat<its.length:=(List.getElem?_eq_some_iff.mp hw).1
 have hz:its.length≤sizeLine:=by
  have:=r.length
  rw [← this]; exact z
 refine call_meets F.slot_list_pop ⟨_,e,rfl⟩ F.entry_list_pop (F.args_list_pop_2 _ _)
  (MeetsSeq.list_pop_at l its.toArray n k t k.toNat w' ?_ ?_ ?_ (by rw [List.size_toArray]; exact hz)) ⟨e,?_⟩
 ·have hz2:its.length≤2 ^ 24:=hz
  unfold Builtin.List.listFitsIndex
  simp
  omega
 ·unfold seqIndex?
  simp [show ¬ k<0 by omega]
  omega
 ·rw [List.getElem?_toArray]; exact hw
 ·refine ⟨vv,_,I.lset (its':=its.eraseIdx k.toNat) hH e ?_ ?_ ?_,rw',q⟩
  ·rw [List.eraseIdxIfInBounds_toArray]
  ·exact r.eraseIdx _
  ·have:=List.length_eraseIdx_le (l:=xs) (i:=k.toNat)
   omega
end
section
variable {X:Cx} {M:Md} {e:Expr} {ma:ME} {pos:Pos}
def rE (i:Nat) (m:ME):ME:=fun ρ q=>match ρ[i]? with
 | some (some (.lst _))=>m ρ fun d ρ1=>match ρ1[i]? with
  | some (some (.lst ds))=>∃ (dv:D) (k:Int),d = .int k∧imms ds=true∧0≤k∧ds[k.toNat]? = some dv∧q dv (ρ1.set i (some (.lst (ds.eraseIdx k.toNat))))
  | _=>False
 | _=>False
theorem rj {ow:List Bool} {i:Nat} {x:Str} {apos cpos npos:Pos} (hN:X.N[i]? = some x) (he:QE X ow e ma) (ho:ow[i]? = some true:=by decide)
 (hv:Vis X.env.scope x:=by first | exact Or.inl rfl | exact Or.inr (Or.inl rfl) | exact Or.inr (Or.inr rfl)) (hd:(x == ("__debug__":Str))=false:=by decide) (hcd:(x == ("__classdict__":Str))=false:=by decide)
 (hbase:attributeBase (.Name x npos) "pop" X.env (eval (.Name x npos) X.env)=eval (.Name x npos) X.env:=by rfl)
 (hfew:((backTo cpos (starEach [e] X.env)).all (fun x=>!x.1)&&(backToKw cpos (keywordEach [] X.env)).all (fun x=>x.1.isSome)
  && decide ([e].length + ([]:List Keyword).length + (if ([]:List Keyword).isEmpty then 0 else 1)<30))=true:=by rfl)
 (hline:(apos.endLine == cpos.line)=true:=by rfl) (hst:starEach [e] X.env=[(false,eval e X.env)]:=by rfl) :
 QE X ow (.Call (.Attribute (.Name x npos) "pop" apos) [e] [] cpos) (rE i ma):=by
 obtain ⟨t,p,s⟩:=he
 refine ⟨_,rS PySem.F.plainAttrs_list PySem.F.slot_list_pop PySem.F.type_list_pop qZ (eE hN hv hd hcd) (bB p dn hst) hbase hfew hline hst (by rfl),fun C G ρ σ H pd q Q r h k=>?_⟩
 unfold rE at h
 split at h
 ·rename_i ds e1
  obtain ⟨O,ro⟩:=r
  obtain ⟨a,xs,h1,h2,_,_⟩:=ro.write e1 ho
  refine ⟨.ref a,h1,.inl ⟨rfl,xs,SqL.of h2⟩,?_⟩
  refine s C G ρ σ H pd _ _ ⟨O,ro⟩ h fun d ρ' v G' H' hq z kp r' pd'=>?_
  split at hq
  ·rename_i ds' e2
   obtain ⟨dv,kk,rfl,him,k0,hdv,hq⟩:=hq
   obtain ⟨O',r'⟩:=r'
   obtain ⟨a',xs',g1,g2,g3,g4⟩:=r'.write e2 ho
   rw [h1] at g1; cases g1
   have hr:=Seps.imm _ _ _ _ him g3
   obtain ⟨vv,hv1,hv2⟩:=g9 hr hdv
   refine ⟨a,xs',kk,vv,rfl,by rw [aG pd'],g2,k0,hv1,?_⟩
   exact k _ _ _ G' _ hq z (fun j hj=>(List.getElem?_set_ne (fun (z:i=j)=>hj (z ▸ ho))).trans (kp j hj)) ⟨O',g4 _ _ (Reps.sep _ _ _ _ (gK him _) (gw hr _))⟩ hv2
  ·exact hq.elim
 ·exact h.elim
end
section
variable {X:Cx}
theorem p7 {body:List Stmt} {h0:ExceptHandler} {hs:List ExceptHandler} {pos:Pos} {t:TS} (hx:∀ e s,X.xe e s→False) (hb:PSs X body t) :
 PS X (.Try body (h0 :: hs) [] [] pos) t:=by
 refine ⟨fun pins s σ H D I h=>?_⟩
 refine wpAny_Try_except ?_
 refine wpAny_mono (hb pins s σ H D I h) (fun f s' q=>?_) fun e s' q=>(hx e s' q).elim
 cases f with
 | next=>exact wpAny_execs_nil q
 | ret v=>exact q
 | brk=>exact q
 | cont=>exact q
theorem qA {M:Md} {body:List Stmt} {h0:ExceptHandler} {hs:List ExceptHandler} {pos:Pos} {m:MS} (hx:∀ e s,X.xe e s→False) (hb:QSs X M body m) :
 QS X M (.Try body (h0 :: hs) [] [] pos) m:=by
 obtain ⟨t,p,s⟩:=hb
 exact ⟨t,p7 hx p,s⟩
end
section
variable {X:Cx} {pos:Pos}
def tPar3 (i j k:Nat) (ta:TA):TS:=fun D σ H=>ta σ H fun vs H1=>∃ u v w,vs=[u,v,w]∧D.nx (((σ.set k (some w)).set j (some v)).set i (some u)) H1
theorem rm {i j k:Nat} {x y z:Str} {a b c:Expr} {ta:TA} {px py pz pt:Pos} {kt k2 pt2} (hc:X.calm=true) (hN:X.N.Nodup) (hi:X.N[i]? = some x) (hj:X.N[j]? = some y) (hk:X.N[k]? = some z)
 (hx:X.env.scope.names.lookup x=some .local) (hy:X.env.scope.names.lookup y=some .local) (hz:X.env.scope.names.lookup z=some .local) (ha:PA X [a,b,c] ta)
 (hw:swappedStores [.Tuple [.Name x px,.Name y py,.Name z pz] kt pt] (.Tuple [a,b,c] k2 pt2) X.env=pure (some [x,y,z]))
 (hs:swapsWithSole [.Tuple [.Name x px,.Name y py,.Name z pz] kt pt] (.Tuple [a,b,c] k2 pt2) pos.line X.env=pure false:=by rfl) :
 PS X (.Assign [.Tuple [.Name x px,.Name y py,.Name z pz] kt pt] (.Tuple [a,b,c] k2 pt2) pos) (tPar3 i j k ta):=by
 (try refine ⟨?_⟩); intro pins s σ H D I h
 rw [exec_Assign_arm]
 refine wpAny_bind (wpAny_standAt ?_)
 rw [hs]
 refine wpAny_bind (wpAny_pure ?_)
 rw [if_neg (by decide)]
 refine wpAny_bind (Tuple_ (thn (ha _ pins s σ H _ I h) fun us s1 ⟨vs,H1,I1,r1,q1⟩=>?_))
 obtain ⟨u,v,w,e1,q1⟩:=q1
 subst e1
 obtain ⟨u1,u2,u3,rfl,ru,rv,rw'⟩:∃ u1 u2 u3,us=[u1,u2,u3]∧a9 u u1∧a9 v u2∧a9 w u3:=by
  cases r1 with
  | cons p q =>
   cases q with
   | cons p' q' =>
    cases q' with
    | cons p2 q2 =>
     cases q2
     exact ⟨_,_,_,rfl,p,p',p2⟩
 refine wpAny_newObj_type ?_ (by show 3≤sizeLine; decide)
 have I2:Inv X pins σ H1 { s1 with heap:=s1.heap.push { cls:=.type "tuple",data:=.seq [u1,u2,u3].toArray } }:=I1.kept (t':=s1.toks) fun b o e=>Heap.get?_push_of_some _ e
 rw [hw]
 refine wpAny_bind (wpAny_pure ?_)
 show wpAny (model X.prog X.w) X.A (do rule "assign.swapped-stores"; let items ← unpackItems (.ref s1.heap.objs.size) 3 none; assignInOrder [fun v=>bindName X.env z v,fun v=>bindName X.env y v,fun v=>bindName X.env x v] items.reverse; pure Flow.next) _ _ _
 refine wpAny_bind (wpAny_rule (wpAny_bind (unpackItems_tuple (items:=#[u1,u2,u3]) (I.ok.hd hc) (IsTup.new s1.heap _) fun h' hx'=>?_)))
 have I3:=I2.kept (h':=h') (t':=s1.toks) fun b o e=>hx' b o (Nat.ne_of_lt (Heap.lt_size e)) e
 show wpAny _ _ (assignInOrder [fun v=>bindName X.env z v,fun v=>bindName X.env y v,fun v=>bindName X.env x v] [u3,u2,u1] >>= fun _=>pure Flow.next) _ _ _
 refine wpAny_bind (assignInOrder_cons (wpAny_bindName (cM I3 hN hk (.inl hz) rw' (fun s2 I4=>?_) (.inr hz))))
 refine assignInOrder_cons (wpAny_bindName (cM I4 hN hj (.inl hy) rv (fun s3 I5=>?_) (.inr hy)))
 refine assignInOrder_cons (wpAny_bindName (cM I5 hN hi (.inl hx) ru (fun s4 I6=>assignInOrder_nil (wpAny_pure ?_)) (.inr hx)))
 exact ⟨_,H1,I6,q1⟩
end
section
variable {X:Cx} {M:Md} {a b c:Expr} {ma mb mc:ME} {pos:Pos}
def mPar3 (i j k:Nat) (ma mb mc:ME):MS:=fun D ρ=>ma ρ fun x ρ1=>mb ρ1 fun y ρ2=>mc ρ2 fun z ρ3=>D.nx (((ρ3.set k (some z)).set j (some y)).set i (some x))
theorem nW {i j k:Nat} {x y z:Str} {px py pz pt:Pos} {kt k2 pt2} (hc:X.calm=true) (hN:X.N.Nodup) (hi:X.N[i]? = some x) (hj:X.N[j]? = some y) (hk:X.N[k]? = some z)
 (hx:X.env.scope.names.lookup x=some .local) (hy:X.env.scope.names.lookup y=some .local) (hz:X.env.scope.names.lookup z=some .local) (ha:QF X M.ow a ma) (hb:QF X M.ow b mb) (hcc:QF X M.ow c mc)
 (hw:swappedStores [.Tuple [.Name x px,.Name y py,.Name z pz] kt pt] (.Tuple [a,b,c] k2 pt2) X.env=pure (some [x,y,z]))
 (oi:M.ow[i]? = some true:=by decide) (oj:M.ow[j]? = some true:=by decide) (ok:M.ow[k]? = some true:=by decide) (ui:M.mu[i]?≠some true:=by decide) (uj:M.mu[j]?≠some true:=by decide) (uk:M.mu[k]?≠some true:=by decide)
 (hs1:starEach [a,b,c] X.env=(false,eval a X.env) :: starEach [b,c] X.env:=by rfl) (hs2:starEach [b,c] X.env=(false,eval b X.env) :: starEach [c] X.env:=by rfl) (hs3:starEach [c] X.env=[(false,eval c X.env)]:=by rfl)
 (hs:swapsWithSole [.Tuple [.Name x px,.Name y py,.Name z pz] kt pt] (.Tuple [a,b,c] k2 pt2) pos.line X.env=pure false:=by rfl) :
 QS X M (.Assign [.Tuple [.Name x px,.Name y py,.Name z pz] kt pt] (.Tuple [a,b,c] k2 pt2) pos) (mPar3 i j k ma mb mc):=by
 obtain ⟨ta,pa,sa⟩:=ha; obtain ⟨tb,pb,sb⟩:=hb; obtain ⟨tc,pc,sc⟩:=hcc
 refine ⟨_,rm hc hN hi hj hk hx hy hz (bB pa (bB pb (bB pc dn hs3) hs2) hs1) hw hs,fun C G ρ σ H n D hm hn r h kk=>?_⟩
 refine sa C G ρ σ H [] _ _ r h fun dx ρ1 u G1 H1 h1 z1 kp1 r1=>?_
 refine sb C G1 ρ1 σ H1 [(dx,u)] _ _ r1 h1 fun dy ρ2 v G2 H2 h2 z2 kp2 r2=>?_
 refine sc C G2 ρ2 σ H2 [(dy,v),(dx,u)] _ _ r2 h2 fun dz ρ3 w G3 H3 h3 z3 kp3 r3=>⟨u,v,w,rfl,?_⟩
 obtain ⟨O,r3⟩:=r3
 obtain ⟨O2,r4⟩:=r3.setO ok (hm.no uk) (by rw [hn]; exact Nat.zero_le _)
 obtain ⟨O3,r5⟩:=r4.setO oj (hm.no uj) (by rw [hn]; exact Nat.zero_le _)
 have r6:=r5.setO oi (hm.no ui) (by rw [hn]; exact Nat.zero_le _)
 exact kk.nx _ _ G3 H3 h3 ((z1.trans z2).trans z3) r6
end
end L2
namespace K74
open PySem L2
def top (i:Nat):Stmt:=PySem.Challenge.pw_treeasks_k74_carried_over_changes.main.body.getD i (.Pass ⟨0,0,0,0⟩)
abbrev oY:Stmt:=top 10
abbrev mQ:Stmt:=top 11
abbrev s_q0:Stmt:=top 12
abbrev pX:Stmt:=top 13
abbrev s_q5:Stmt:=top 17
abbrev nP:Stmt:=top 18
abbrev mJ:Stmt:=top 19
abbrev nO:Stmt:=top 20
abbrev pC:Stmt:=top 21
abbrev oZ:Stmt:=top 26
abbrev m9:Stmt:=top 27
abbrev pO:Stmt:=top 29
abbrev oS:Stmt:=top 30
abbrev nh:Stmt:=top 31
abbrev nb:Stmt:=top 32
abbrev pU:Stmt:=top 33
abbrev oE:Stmt:=top 35
abbrev oT:Stmt:=top 36
abbrev pM:Stmt:=top 37
abbrev pK:Stmt:=top 38
abbrev pk:Stmt:=top 40
abbrev pr:Stmt:=top 42
abbrev s_q4:Stmt:=top 43
abbrev nF:Stmt:=top 44
abbrev nR:Stmt:=top 45
abbrev nM:Stmt:=top 46
abbrev nH:Stmt:=top 49
abbrev s_q9:Stmt:=top 50
abbrev s_q8:Stmt:=top 51
abbrev pZ:Stmt:=top 52
abbrev s_q3:Stmt:=top 53
abbrev s_q7:Stmt:=top 54
abbrev s_q1:Stmt:=top 55
abbrev s_q6:Stmt:=top 56
abbrev pR:Stmt:=top 58
abbrev mM:Stmt:=top 59
abbrev oB:Stmt:=top 60
abbrev nI:Stmt:=top 61
abbrev nG:Stmt:=top 62
abbrev mS:Stmt:=top 63
abbrev o6:Stmt:=top 64
abbrev mG:Stmt:=top 65
abbrev nQ:Stmt:=top 66
abbrev oM:Stmt:=top 67
abbrev pD:Stmt:=top 68
abbrev nS:Stmt:=top 69
abbrev oX:Stmt:=top 70
abbrev o0:Stmt:=top 71
abbrev nK:Stmt:=top 72
abbrev pG:Stmt:=top 73
abbrev oA:Stmt:=top 74
abbrev s_q2:Stmt:=top 75
abbrev o_:Stmt:=top 76
set_option genInjectivity false in
structure Adr where
 f_q30:Addr
 d_q30:FuncData
 f_q16:Addr
 d_q16:FuncData
 f_q0:Addr
 d_q0:FuncData
 f_q14:Addr
 d_q14:FuncData
 f_q5:Addr
 d_q5:FuncData
 f_q13:Addr
 d_q13:FuncData
 f_q28:Addr
 d_q28:FuncData
 f_q44:Addr
 d_q44:FuncData
 f_q25:Addr
 d_q25:FuncData
 f_q43:Addr
 d_q43:FuncData
 f_q10:Addr
 d_q10:FuncData
 f_q27:Addr
 d_q27:FuncData
 f_q56:Addr
 d_q56:FuncData
 f_q57:Addr
 d_q57:FuncData
 f_q50:Addr
 d_q50:FuncData
 f_q58:Addr
 d_q58:FuncData
 f_q11:Addr
 d_q11:FuncData
 f_q52:Addr
 d_q52:FuncData
 f_q15:Addr
 d_q15:FuncData
 f_q51:Addr
 d_q51:FuncData
 f_q12:Addr
 d_q12:FuncData
 f_q29:Addr
 d_q29:FuncData
 f_q4:Addr
 d_q4:FuncData
 f_q35:Addr
 d_q35:FuncData
 f_q49:Addr
 d_q49:FuncData
 f_q26:Addr
 d_q26:FuncData
 f_q17:Addr
 d_q17:FuncData
 f_q9:Addr
 d_q9:FuncData
 f_q8:Addr
 d_q8:FuncData
 f_q37:Addr
 d_q37:FuncData
 f_q3:Addr
 d_q3:FuncData
 f_q7:Addr
 d_q7:FuncData
 f_q1:Addr
 d_q1:FuncData
 f_q6:Addr
 d_q6:FuncData
 f_q47:Addr
 d_q47:FuncData
 f_q48:Addr
 d_q48:FuncData
 f_q34:Addr
 d_q34:FuncData
 f_q20:Addr
 d_q20:FuncData
 f_q39:Addr
 d_q39:FuncData
 f_q45:Addr
 d_q45:FuncData
 f_q59:Addr
 d_q59:FuncData
 f_q55:Addr
 d_q55:FuncData
 f_q54:Addr
 d_q54:FuncData
 f_q33:Addr
 d_q33:FuncData
 f_q32:Addr
 d_q32:FuncData
 f_q31:Addr
 d_q31:FuncData
 f_q46:Addr
 d_q46:FuncData
 f_q38:Addr
 d_q38:FuncData
 f_q19:Addr
 d_q19:FuncData
 f_q53:Addr
 d_q53:FuncData
 f_q18:Addr
 d_q18:FuncData
 f_q2:Addr
 d_q2:FuncData
 f_law:Addr
 d_law:FuncData
 g_LENGTHS:Addr
set_option genInjectivity false in
structure Txt (K:PySem.W.Frag) (mg:Str→Option Value) (A:Adr):Prop where
 t_q30:FT K mg "is_whole" oY ["thing"] A.f_q30 A.d_q30
 t_q16:FT K mg "is_between" mQ ["thing","least","most"] A.f_q16 A.d_q16
 t_q0:FT K mg "greatest_common" s_q0 ["number","bottom"] A.f_q0 A.d_q0
 t_q14:FT K mg "is_fraction" pX ["thing"] A.f_q14 A.d_q14
 t_q5:FT K mg "has_two_lists" s_q5 ["thing"] A.f_q5 A.d_q5
 t_q13:FT K mg "look_at_tree" nP ["thing"] A.f_q13 A.d_q13
 t_q28:FT K mg "is_place" mJ ["tree","thing"] A.f_q28 A.d_q28
 t_q44:FT K mg "is_tie" nO ["tree","thing"] A.f_q44 A.d_q44
 t_q25:FT K mg "are_ends" pC ["tree","one","other"] A.f_q25 A.d_q25
 t_q43:FT K mg "is_ask" oZ ["tree","thing"] A.f_q43 A.d_q43
 t_q10:FT K mg "look_at_asks" m9 ["tree","thing"] A.f_q10 A.d_q10
 t_q27:FT K mg "fraction" pO ["top","bottom"] A.f_q27 A.d_q27
 t_q56:FT K mg "minus" oS ["one","other"] A.f_q56 A.d_q56
 t_q57:FT K mg "times" nh ["one","other"] A.f_q57 A.d_q57
 t_q50:FT K mg "sum_of" nb ["some"] A.f_q50 A.d_q50
 t_q58:FT K mg "under" pU ["one","other"] A.f_q58 A.d_q58
 t_q11:FT K mg "look_at_ends" oE ["tree","one","other"] A.f_q11 A.d_q11
 t_q52:FT K mg "climb" oT ["tree","one","other"] A.f_q52 A.d_q52
 t_q15:FT K mg "way_between" pM ["tree","one","other"] A.f_q15 A.d_q15
 t_q51:FT K mg "way_of" pK ["tree","ask"] A.f_q51 A.d_q51
 t_q12:FT K mg "look_at_keep" pk ["tree","asks","thing"] A.f_q12 A.d_q12
 t_q29:FT K mg "is_price" pr ["thing"] A.f_q29 A.d_q29
 t_q4:FT K mg "look_at_prices" s_q4 ["tree","thing"] A.f_q4 A.d_q4
 t_q35:FT K mg "spare_of" nF ["tree","ask","weight","prices"] A.f_q35 A.d_q35
 t_q49:FT K mg "spares" nR ["tree","asks","prices"] A.f_q49 A.d_q49
 t_q26:FT K mg "bound_of" nM ["tree","asks","prices"] A.f_q26 A.d_q26
 t_q17:FT K mg "is_change" nH ["tree","asks","thing"] A.f_q17 A.d_q17
 t_q9:FT K mg "changed_tree" s_q9 ["tree","change"] A.f_q9 A.d_q9
 t_q8:FT K mg "changed_asks" s_q8 ["asks","change"] A.f_q8 A.d_q8
 t_q37:FT K mg "changed" pZ ["tree","asks","change"] A.f_q37 A.d_q37
 t_q3:FT K mg "look_at_change" s_q3 ["tree","asks","change"] A.f_q3 A.d_q3
 t_q7:FT K mg "carried_keep" s_q7 ["tree","asks","change","keep"] A.f_q7 A.d_q7
 t_q1:FT K mg "carried_prices" s_q1 ["tree","asks","change","prices"] A.f_q1 A.d_q1
 t_q6:FT K mg "bound_turned" s_q6 ["tree","asks","change","prices"] A.f_q6 A.d_q6
 t_q47:FT K mg "_law_pool" pR ["_law_script","_law_k"] A.f_q47 A.d_q47
 t_q48:FT K mg "_law_take" mM ["_law_pool_here","_law_many"] A.f_q48 A.d_q48
 t_q34:FT K mg "_law_number" oB ["_law_pool_here","_law_most"] A.f_q34 A.d_q34
 t_q20:FT K mg "_law_parents" nI ["_law_pool_here","_law_most"] A.f_q20 A.d_q20
 t_q39:FT K mg "_law_rooms" nG ["_law_pool_here","_law_many","_law_least"] A.f_q39 A.d_q39
 t_q45:FT K mg "_law_ends" mS ["_law_pool_here","_law_many"] A.f_q45 A.d_q45
 t_q59:FT K mg "_law_up" o6 ["_law_parents_here","_law_place"] A.f_q59 A.d_q59
 t_q55:FT K mg "_law_way" mG ["_law_parents_here","_law_ask"] A.f_q55 A.d_q55
 t_q54:FT K mg "_law_low" nQ ["_law_top","_law_bottom"] A.f_q54 A.d_q54
 t_q33:FT K mg "_law_change" oM ["_law_pool_here","_law_tree","_law_asks"] A.f_q33 A.d_q33
 t_q32:FT K mg "_law_can_be" pD ["_law_tree","_law_asks","_law_change_here"] A.f_q32 A.d_q32
 t_q31:FT K mg "_law_behind" nS ["_law_tree","_law_asks","_law_change_here"] A.f_q31 A.d_q31
 t_q46:FT K mg "_law_plus" oX ["_law_one","_law_other"] A.f_q46 A.d_q46
 t_q38:FT K mg "_law_bound" o0 ["_law_tree","_law_asks","_law_prices"] A.f_q38 A.d_q38
 t_q19:FT K mg "_law_kept_on" nK ["_law_keep","_law_change_here"] A.f_q19 A.d_q19
 t_q53:FT K mg "_law_let" pG ["_law_change_here","_law_tree","_law_asks"] A.f_q53 A.d_q53
 t_q18:FT K mg "_law_carried" oA ["_law_tree","_law_asks","_law_change_here","_law_keep","_law_prices"] A.f_q18 A.d_q18
 t_q2:FT K mg "_law_turned_right" s_q2 ["_law_tree","_law_asks","_law_change_here","_law_prices"] A.f_q2 A.d_q2
 t_law:FT K mg "law" o_ ["_law_script"] A.f_law A.d_law
 z_bool:mg "bool" = none
 z_enumerate:mg "enumerate" = none
 z_int:mg "int" = none
 z_isinstance:mg "isinstance" = none
 z_len:mg "len" = none
 z_list:mg "list" = none
 z_max:mg "max" = none
 z_min:mg "min" = none
 z_range:mg "range" = none
 z_repr:mg "repr" = none
 z_sorted:mg "sorted" = none
 z_str:mg "str" = none
 z_sum:mg "sum" = none
 z_tuple:mg "tuple" = none
 z_zip:mg "zip" = none
 c_MOST_TIES:∃ t,mg "MOST_TIES" = some (.int 23 t)
 c_MOST_ROOM:∃ t,mg "MOST_ROOM" = some (.int 1000000 t)
 c_MOST_ASKS:∃ t,mg "MOST_ASKS" = some (.int 30 t)
 c_MOST_SIZE:∃ t,mg "MOST_SIZE" = some (.int 1000000 t)
 c_MOST_WORTH:∃ t,mg "MOST_WORTH" = some (.int 1000000000000 t)
 m_LENGTHS:mg "LENGTHS" = some (.ref A.g_LENGTHS)
 t_LENGTHS:ModD K A.g_LENGTHS [("room",3),("ask",3),("more",2),("less",2),("hang",3)]
theorem uX:FnScope ["thing"] ["thing"] (am oY):=aP
theorem sD:FnScope ["thing","least","most"] ["thing","least","most"] (am mQ):=aP
theorem sc_q0:FnScope ["number","bottom"] ["number","bottom"] (am s_q0):=aP
theorem uY:FnScope ["thing","top","bottom"] ["thing"] (am pX):=aP
theorem sc_q5:FnScope ["thing","parents","rooms"] ["thing"] (am s_q5):=aP
theorem tf:FnScope ["thing","parents","rooms","number","parent","room"] ["thing"] (am nP):=aP
theorem tW:FnScope ["tree","thing"] ["tree","thing"] (am mJ):=aP
theorem sF:FnScope ["tree","thing"] ["tree","thing"] (am nO):=aP
theorem sB:FnScope ["tree","one","other"] ["tree","one","other"] (am pC):=aP
theorem uS:FnScope ["tree","thing","one","other","size","worth"] ["tree","thing"] (am oZ):=aP
theorem tj:FnScope ["tree","thing","number","ask"] ["tree","thing"] (am m9):=aP
theorem u_:FnScope ["top","bottom","common"] ["top","bottom"] (am pO):=aP
theorem uV:FnScope ["one","other"] ["one","other"] (am oS):=aP
theorem uU:FnScope ["one","other"] ["one","other"] (am nh):=aP
theorem uH:FnScope ["some","bottom","one"] ["some"] (am nb):=aP
theorem sW:FnScope ["one","other"] ["one","other"] (am pU):=aP
theorem ur:FnScope ["tree","one","other"] ["tree","one","other"] (am oE):=aP
theorem tm:FnScope ["tree","one","other","way","low"] ["tree","one","other"] (am oT):=aP
theorem vk:FnScope ["tree","one","other","way","meeting"] ["tree","one","other"] (am pM):=aP
theorem sU:FnScope ["tree","ask"] ["tree","ask"] (am pK):=aP
theorem s_:FnScope ["tree","asks","thing","least","place","number"] ["tree","asks","thing"] (am pk):=aP
theorem uT:FnScope ["thing"] ["thing"] (am pr):=aP
theorem sc_q4:FnScope ["tree","thing","ties","number","price"] ["tree","thing"] (am s_q4):=aP
theorem tS:FnScope ["tree","ask","weight","prices","paid","spare"] ["tree","ask","weight","prices"] (am nF):=aP
theorem sq:FnScope ["tree","asks","prices"] ["tree","asks","prices"] (am nR):=aP
theorem uK:FnScope ["tree","asks","prices","spared","paid"] ["tree","asks","prices"] (am nM):=aP
theorem sN:FnScope ["tree","asks","thing"] ["tree","asks","thing"] (am nH):=aP
theorem sc_q9:FnScope ["tree","change","parents","rooms"] ["tree","change"] (am s_q9):=aP
theorem sc_q8:FnScope ["asks","change","found"] ["asks","change"] (am s_q8):=aP
theorem sy:FnScope ["tree","asks","change","there","wanted"] ["tree","asks","change"] (am pZ):=aP
theorem sc_q3:FnScope ["tree","asks","change"] ["tree","asks","change"] (am s_q3):=aP
theorem sc_q7:FnScope ["tree","asks","change","keep","left"] ["tree","asks","change","keep"] (am s_q7):=aP
theorem sc_q1:FnScope ["tree","asks","change","prices"] ["tree","asks","change","prices"] (am s_q1):=aP
theorem sc_q6:FnScope ["tree","asks","change","prices","there","wanted","carried"] ["tree","asks","change","prices"] (am s_q6):=aP
theorem tT:FnScope ["_law_script","_law_k","_law_cell","_law_seed"] ["_law_script","_law_k"] (am pR):=aP
theorem tO:FnScope ["_law_pool_here","_law_many","_law_found"] ["_law_pool_here","_law_many"] (am mM):=aP
theorem tL:FnScope ["_law_pool_here","_law_most","_law_way_here"] ["_law_pool_here","_law_most"] (am oB):=aP
theorem sK:FnScope ["_law_pool_here","_law_most","_law_shape","_law_parents_here","_law_place","_law_up_here"] ["_law_pool_here","_law_most"] (am nI):=aP
theorem uF:FnScope ["_law_pool_here","_law_many","_law_least","_law_most"] ["_law_pool_here","_law_many","_law_least"] (am nG):=aP
theorem vc:FnScope ["_law_pool_here","_law_many","_law_one"] ["_law_pool_here","_law_many"] (am mS):=aP
theorem uC:FnScope ["_law_parents_here","_law_place","_law_found"] ["_law_parents_here","_law_place"] (am o6):=aP
theorem so:FnScope ["_law_parents_here","_law_ask","_law_one","_law_other","_law_found"] ["_law_parents_here","_law_ask"] (am mG):=aP
theorem tV:FnScope ["_law_top","_law_bottom","_law_one","_law_other"] ["_law_top","_law_bottom"] (am nQ):=aP
theorem tM:FnScope ["_law_pool_here","_law_tree","_law_asks","_law_many","_law_one","_law_other","_law_ask","_law_number_here","_law_room","_law_some"] ["_law_pool_here","_law_tree","_law_asks"] (am oM):=aP
theorem sY:FnScope ["_law_tree","_law_asks","_law_change_here"] ["_law_tree","_law_asks","_law_change_here"] (am pD):=aP
theorem uf:FnScope ["_law_tree","_law_asks","_law_change_here","_law_parents_here","_law_rooms_here","_law_some"] ["_law_tree","_law_asks","_law_change_here"] (am nS):=aP
theorem ul:FnScope ["_law_one","_law_other"] ["_law_one","_law_other"] (am oX):=aP
theorem uE:FnScope ["_law_tree","_law_asks","_law_prices","_law_total","_law_room","_law_price","_law_ask","_law_paid","_law_tie","_law_left"] ["_law_tree","_law_asks","_law_prices"] (am o0):=aP
theorem sQ:FnScope ["_law_keep","_law_change_here","_law_found","_law_number_here"] ["_law_keep","_law_change_here"] (am nK):=aP
theorem tw:FnScope ["_law_change_here","_law_tree","_law_asks"] ["_law_change_here","_law_tree","_law_asks"] (am pG):=aP
theorem t4:FnScope ["_law_tree","_law_asks","_law_change_here","_law_keep","_law_prices","_law_due","_law_found","_law_told_prices","_law_due_prices","_law_kept"] ["_law_tree","_law_asks","_law_change_here","_law_keep","_law_prices"] (am oA):=aP
theorem sc_q2:FnScope ["_law_tree","_law_asks","_law_change_here","_law_prices","_law_new_tree","_law_new_asks","_law_there","_law_one","_law_due","_law_found"] ["_law_tree","_law_asks","_law_change_here","_law_prices"] (am s_q2):=aP
theorem vm:FnScope ["_law_script","_law_parents_here","_law_tree","_law_pool_here","_law_prices","_law_asks","_law_k","_law_change_here","_law_keep","_law_kept","_law_there","_law_due"] ["_law_script"] (am o_):=aP
section
variable {P:Program} {w:World} {K:PySem.W.Frag} {mg:Str→Option Value} {base:Heap} {A:Adr}
theorem gi (T:Txt K mg A):FnOk P w K mg base CX0 1 A.f_q30 A.d_q30 ["thing"] (aY [false] false (rb)):=by
 have S:=uX
 refine fnD T.t_q30.F S ⟨[false],[false],false⟩ _ ?hl rfl rfl fun cdv Ar outer s H E hr=>⟨_,(af (aF (cT (b8 rfl T.z_isinstance aK (aa 0) (bE (v:=.ty "int") rfl T.z_int jR rfl)) (cP (uD (b8 rfl T.z_isinstance aK (aa 0) (bE (v:=.ty "bool") rfl T.z_bool qV rfl))))))),fun ds q h=>?_⟩
 case hl=>intro ds q h; obtain ⟨d,rfl,_⟩:=h; rfl
 obtain ⟨d,rfl,hs,q0⟩:=h
 cases d <;> first | exact q0 | cases hs
theorem dP (T:Txt K mg A):FnOk P w K mg base CX0 2 A.f_q16 A.d_q16 ["thing","least","most"] (aY [false,false,false] false (lF)):=by
 have S:=sD
 refine fnD T.t_q16.F S ⟨[false,false,false],[false,false,false],false⟩ _ ?hl rfl rfl fun cdv Ar outer s H E hr=>⟨_,(af (aF (cT (ag (gi T) hr T.t_q30 (ah (aa 0) aj)) (cP (jB lA lA dB dB (aa 1) (aa 0) (aa 2)))))),fun ds q h=>?_⟩
 case hl=>intro ds q h; obtain ⟨d,lo,hi,rfl,_⟩:=h; rfl
 obtain ⟨d,lo,hi,rfl,hs,q0⟩:=h
 refine ⟨d,rfl,hs,?_⟩
 cases d
 case int i =>
  refine (b7 (c:=decide (lo≤i)=true) (fun c=>?_) (fun c=>?_))
  ·have:btw lo hi (.int i)=decide (i≤hi):=by show (decide (lo≤i)&&decide (i≤hi))=_; rw [c,Bool.true_and]
   rw [this] at q0; exact q0
  ·have:btw lo hi (.int i)=false:=by show (decide (lo≤i)&&decide (i≤hi))=_; rw [Bool.eq_false_iff.mpr c,Bool.false_and]
   rw [this] at q0; exact q0
 all_goals first | exact q0 | cases hs
theorem ok_q5 (T:Txt K mg A):FnOk P w K mg base CX0 1 A.f_q5 A.d_q5 ["thing"] (aY [false] false (tH)):=by
 have S:=sc_q5
 refine fnD T.t_q5.F S ⟨[false],[false,false,false],false⟩ _ ?hl rfl rfl fun cdv Ar outer s H E hr=>⟨_,(ad (aM (QW.qt (cW (a_ (a7 (b8 rfl T.z_isinstance aK (aa 0) (bE (v:=.ty "tuple") rfl T.z_tuple d4 rfl)))) (cy (aB (bO hr.units) dNe (aA au cw rfl T.z_len bi (ae (aa 0) ak)) ac (av _))))) (af (aF dE)) aw)
  (ad (dM (aa 0) (ca rfl (aI (aJ (i:=1) S.nd rfl (Or.inl rfl)) (aI (aJ (i:=2) S.nd rfl (Or.inl rfl)) bL)) (ap (ap a6))))
  (ad (aM (QW.qt (cW (a_ (a7 (b8 rfl T.z_isinstance aK (aa 1) (bE (v:=.ty "list") rfl T.z_list bj rfl)))) (cy (a_ (a7 (b8 rfl T.z_isinstance aK (aa 2) (bE (v:=.ty "list") rfl T.z_list bj rfl))))))) (af (aF dE)) aw)
  (af (aF (cT (bN (bb hr.units) dEq (aA au cw rfl T.z_len bi (ae (aa 1) ak)) (aA au cw rfl T.z_len bi (ae (aa 2) ak)) (av _)) (cP (jB lA lA dB dB ac (aA au cw rfl T.z_len bi (ae (aa 1) ak)) (dJ (i:=23) rfl T.c_MOST_TIES))))))))),fun ds q h=>?_⟩
 case hl=>intro ds q h; obtain ⟨ps,rs,rfl,_⟩:=h; rfl
 obtain ⟨ps,rs,rfl,hT,q0⟩:=h
 have l1:((ps.map D.int).length:Int)=ps.length:=by rw [List.length_map]
 have l2:((rs.map D.int).length:Int)=rs.length:=by rw [List.length_map]
 have h1:=hT.len
 have h2:=hT.lo
 have h3:=hT.hi
 refine (b7 (c:=decide (((ps.map D.int).length:Int)=((rs.map D.int).length:Int))=true) (fun c=>?_) (fun c=>?_))
 ·refine (b7 (c:=decide ((1:Int)≤((ps.map D.int).length:Int))=true) (fun c=>?_) (fun c=>?_))
  ·show q (.bl (decide (((ps.map D.int).length:Int)≤23))) []
   rw [decide_eq_true (by omega)]; exact q0
  ·exact absurd (decide_eq_true (by omega)) c
 ·exact absurd (decide_eq_true (by omega)) c
theorem km (T:Txt K mg A):FnOk P w K mg base CX0 3 A.f_q13 A.d_q13 ["thing"] (aY [false] false (uQ)):=by
 have S:=tf
 refine fnD T.t_q13.F S ⟨[false],[false,false,false,false,false,false],false⟩ _ ?hl rfl rfl fun cdv Ar outer s H E hr=>⟨_,(ad (aM (a_ (a7 (ag (ok_q5 T) hr T.t_q5 (ah (aa 0) aj)))) (af bx) aw)
  (ad (dM (aa 0) (ca rfl (aI (aJ (i:=1) S.nd rfl (Or.inl rfl)) (aI (aJ (i:=2) S.nd rfl (Or.inl rfl)) bL)) (ap (ap a6))))
  (ad (cB PassesOwn.never rfl (fc rfl T.z_enumerate (ae (aa 1) ak)) (ca rfl (aI (aJ (i:=3) S.nd rfl (Or.inl rfl)) (aI (aJ (i:=4) S.nd rfl (Or.inl rfl)) bL)) (ap (ap a6))) (af (aM (a_ (a7 (ag (dP T) hr T.t_q16 (ah (aa 4) (ah ac (ah (aa 3) aj)))))) (af bx) aw)))
  (af (cB PassesOwn.never rfl (fc rfl T.z_enumerate (ae (aa 2) ak)) (ca rfl (aI (aJ (i:=3) S.nd rfl (Or.inl rfl)) (aI (aJ (i:=5) S.nd rfl (Or.inl rfl)) bL)) (ap (ap a6))) (af (aM (a_ (a7 (ag (dP T) hr T.t_q16 (ah (aa 5) (ah ac (ah (dJ (i:=1000000) rfl T.c_MOST_ROOM) aj)))))) (af bx) aw))))))),fun ds q h=>?_⟩
 case hl=>intro ds q h; obtain ⟨ps,rs,rfl,_⟩:=h; rfl
 obtain ⟨ps,rs,rfl,hT,q0⟩:=h
 refine ⟨ps,rs,rfl,hT,?_⟩
 refine ⟨fun _ ρ=>∃ v1 v2 v3,ρ=[some (aH ps rs),some (az ps),some (az rs),v1,v2,v3],⟨_,_,_,rfl⟩,?_,?_⟩
 ·rintro i d ρ hd ⟨v1,v2,v3,rfl⟩
  obtain ⟨d',h1,rfl⟩:=eh hd
  obtain ⟨z,hz,rfl⟩:=eJ h1
  have hb:=hT.par i z hz
  refine ⟨.int z,0,(i:Int),rfl,rfl,?_⟩
  rw [cm hb.1 hb.2]
  exact ⟨_,_,_,rfl⟩
 ·rintro ρ ⟨v1,v2,v3,rfl⟩
  refine ⟨fun _ ρ=>∃ v1 v2 v3,ρ=[some (aH ps rs),some (az ps),some (az rs),v1,v2,v3],⟨_,_,_,rfl⟩,?_,?_⟩
  ·rintro i d ρ hd ⟨v1,v2,v3,rfl⟩
   obtain ⟨d',h1,rfl⟩:=eh hd
   obtain ⟨z,hz,rfl⟩:=eJ h1
   have hb:=hT.room i z hz
   refine ⟨.int z,1,1000000,rfl,rfl,?_⟩
   rw [cm hb.1 hb.2]
   exact ⟨_,_,_,rfl⟩
  ·rintro ρ ⟨v1,v2,v3,rfl⟩
   exact q0
theorem ph (T:Txt K mg A):FnOk P w K mg base CX0 3 A.f_q28 A.d_q28 ["tree","thing"] (aY [false,false] false (qq)):=by
 have S:=tW
 refine fnD T.t_q28.F S ⟨[false,false],[false,false],false⟩ _ ?hl rfl rfl fun cdv Ar outer s H E hr=>⟨_,(af (aF (ag (dP T) hr T.t_q16 (ah (aa 1) (ah ac (ah (aA au cw rfl T.z_len bi (ae (ao ai dIx (aa 0) ac (fun _ _=>rfl)) ak)) aj)))))),fun ds q h=>?_⟩
 case hl=>intro ds q h; obtain ⟨ps,rs,d,rfl,_⟩:=h; rfl
 obtain ⟨ps,rs,d,rfl,hs,q0⟩:=h
 refine ⟨d,0,((ps.map D.int).length:Int),rfl,hs,?_⟩
 rw [List.length_map]; exact q0
theorem mX (T:Txt K mg A):FnOk P w K mg base CX0 4 A.f_q25 A.d_q25 ["tree","one","other"] (aY [false,false,false] false (sJ)):=by
 have S:=sB
 refine fnD T.t_q25.F S ⟨[false,false,false],[false,false,false],false⟩ _ ?hl rfl rfl fun cdv Ar outer s H E hr=>⟨_,(af (aF (cT (ag (ph T) hr T.t_q28 (ah (aa 0) (ah (aa 1) aj))) (cT (ag (ph T) hr T.t_q28 (ah (aa 0) (ah (aa 2) aj))) (cP (bN (bO hr.units) dNe (aa 1) (aa 2) (av _))))))),fun ds q h=>?_⟩
 case hl=>intro ds q h; obtain ⟨ps,rs,a,b,rfl,_⟩:=h; rfl
 obtain ⟨ps,rs,a,b,rfl,he,q0⟩:=h
 refine ⟨ps,rs,.int a,rfl,rfl,?_⟩
 rw [cm he.a0 he.a1]
 refine ⟨ps,rs,.int b,rfl,rfl,?_⟩
 rw [cm he.b0 he.b1]
 have:(!decide (a=b))=true:=by simp [he.ne]
 show q (.bl (!decide (a=b))) []
 rw [this]; exact q0
theorem t3 (T:Txt K mg A):FnOk P w K mg base CX0 5 A.f_q11 A.d_q11 ["tree","one","other"] (aY [false,false,false] false (kD)):=by
 have S:=ur
 refine fnD T.t_q11.F S ⟨[false,false,false],[false,false,false],false⟩ _ ?hl rfl rfl fun cdv Ar outer s H E hr=>⟨_,(ad (bJ (ag (km T) hr T.t_q13 (ah (aa 0) aj)))
  (af (aM (a_ (a7 (ag (mX T) hr T.t_q25 (ah (aa 0) (ah (aa 1) (ah (aa 2) aj)))))) (af bx) aw))),fun ds q h=>?_⟩
 case hl=>intro ds q h; obtain ⟨ps,rs,a,b,rfl,_⟩:=h; rfl
 obtain ⟨ps,rs,a,b,rfl,hT,he,q0⟩:=h
 refine ⟨ps,rs,rfl,hT,?_⟩
 exact ⟨ps,rs,a,b,rfl,he,q0⟩
theorem uG (T:Txt K mg A):FnOk P w K mg base CX0 1 A.f_q52 A.d_q52 ["tree","one","other"] (aY [false,false,false] true (rf)):=by
 have S:=tm
 refine fnD T.t_q52.F S ⟨[false,false,false],[false,false,false,true,false],true⟩ _ ?hl rfl rfl fun cdv Ar outer s H E hr=>⟨_,(ad (b4 (i:=3) S.nd rfl (Or.inl rfl) (fA ak))
  (ad (eM PassesOwn.never (aB (bO hr.units) dNe (aa 1) (aa 2) (av _)) (ad (aE (i:=4) S.nd rfl (Or.inl rfl) (aA (d9 rfl) dMax rfl T.z_max iH (ae (aa 1) (ae (aa 2) ak))))
  (ad (bf (i:=3) rfl (QE.qf (aa 4)))
  (af (gC (i:=1) (j:=2) rfl S.nd rfl rfl (by decide) rfl rfl (aA (dc rfl) mI rfl T.z_min gq (ae (aa 1) (ae (aa 2) ak))) (ao ai dIx (ao ai dIx (aa 0) ac (fun _ _=>rfl)) (ar bF dI (aa 4) ac) (fun _ _=>rfl)) rfl)))))
  (af (bg (iV (cn (QF.qm (QF.bor [3] (jr fq m_ rfl T.z_sorted h9 (ae (aa 3) ak)))) (cn (QF.qm (QE.qf (aa 1))) gg))))))),fun ds q h=>?_⟩
 case hl=>intro ds q h; obtain ⟨ps,rs,a,b,rfl,_⟩:=h; rfl
 obtain ⟨ps,rs,a,b,rfl,hT,a0,a1,b0,b1,q0⟩:=h
 refine ⟨rfl,?_⟩
 refine ⟨fun k ρ=>∃ a' b' acc v,ρ=[some (aH ps rs),some (.int a'),some (.int b'),some (az acc),v]∧0≤a'∧a'≤ps.length∧0≤b'∧b'≤ps.length∧k=(a' + b').toNat∧acc.length + (a' + b').toNat≤46∧(∀ w m,Climb ps a' b' w m→Climb ps a b (acc++w) m),⟨_,a,b,[],_,rfl,a0,a1,b0,b1,rfl,by have:=hT.hi; simp; omega,fun w m h=>h⟩,?_⟩
 rintro k ρ ⟨a',b',acc,v,rfl,a0',a1',b0',b1',rfl,hl,hc⟩
 have hi:=hT.hi
 refine (b7 (c:=(!decide (a'=b'))=true) (fun c=>?_) (fun c=>?_))
 ·have hne:a'≠b':=by simpa using c
  have key:∀ (low hig:Int),low=(if b' > a' then b' else a')→hig=(if b'<a' then b' else a')→0<low∧low≤ps.length∧0≤hig∧hig≤ps.length∧low + hig=a' + b'∧(∀ w m,Climb ps hig (dl ps low) w m→Climb ps a' b' (low :: w) m):=by
   intro low hig e1 e2
   by_cases hlt:b'<a'
   ·rw [if_neg (by omega)] at e1; rw [if_pos hlt] at e2; subst e1; subst e2
    exact ⟨by omega,a1',b0',b1',by omega,fun w m h=>.left hlt h⟩
   ·rw [if_pos (by omega)] at e1; rw [if_neg hlt] at e2; subst e1; subst e2
    exact ⟨by omega,b1',a0',a1',by omega,fun w m h=>.right (by omega) h⟩
  obtain ⟨L,hL⟩:∃ L,L=(if b' > a' then b' else a'):=⟨_,rfl⟩
  obtain ⟨J,hJ⟩:∃ J,J=(if b'<a' then b' else a'):=⟨_,rfl⟩
  obtain ⟨k1,k2,k3,k4,k5,k6⟩:=key L J hL hJ
  have hp:=hT.up k1 k2
  refine ⟨rfl,?_⟩
  refine ⟨by show (acc.map D.int).length<1000; rw [List.length_map]; omega,?_⟩
  refine dr (jk (by rw [← hL]; omega) (by rw [← hL]; omega)) ?_
  refine ⟨(J + dl ps L).toNat,by omega,J,dl ps L,acc++[L],some (.int L),?_,k3,k4,hp.1,by omega,rfl,by rw [List.length_append]; show acc.length + 1 + _≤46; omega,fun w m h=>by rw [List.append_assoc]; exact hc _ _ (k6 _ _ h)⟩
  show [some (aH ps rs),some (.int (if b'<a' then b' else a')),some (.int (dl ps (if b' > a' then b' else a'))),some (D.lst (acc.map D.int++[D.int (if b' > a' then b' else a')])),some (.int (if b' > a' then b' else a'))]=_
  rw [← hL,← hJ,az,List.map_append]; rfl
 ·have:a'=b':=by simpa using c
  subst this
  have hw:=hc [] a' (.same a')
  rw [List.append_nil] at hw
  have hln:=hw.len hT a0 b0 a1 b1
  refine ⟨acc,rfl,by omega,aL _,rfl,?_⟩
  exact q0 acc a' hw
theorem vd (T:Txt K mg A):FnOk P w K mg base CX0 6 A.f_q15 A.d_q15 ["tree","one","other"] (aY [false,false,false] true (sdWay)):=by
 have S:=vk
 refine fnD T.t_q15.F S ⟨[false,false,false],[false,false,false,true,false],true⟩ _ ?hl rfl rfl fun cdv Ar outer s H E hr=>⟨_,(ad (bJ (ag (t3 T) hr T.t_q11 (ah (aa 0) (ah (aa 1) (ah (aa 2) aj)))))
  (ad (qN rfl (QF.qm (aW (uG T) hr T.t_q52 (ah (aa 0) (ah (aa 1) (ah (aa 2) aj))))) (qL (i:=3) S.nd rfl (Or.inl rfl) (ut (i:=4) S.nd rfl (Or.inl rfl) qd)) (ap (ap a6)))
  (af (bg (b6 3))))),fun ds q h=>?_⟩
 case hl=>intro ds q h; obtain ⟨ps,rs,a,b,rfl,_⟩:=h; rfl
 obtain ⟨ps,rs,a,b,rfl,hT,he,q0⟩:=h
 refine ⟨ps,rs,a,b,rfl,hT,he,?_⟩
 refine ⟨ps,rs,a,b,rfl,hT,he.a0,he.a1,he.b0,he.b1,fun w m hw=>?_⟩
 exact q0 w m hw
theorem tz (T:Txt K mg A):FnOk P w K mg base CX0 7 A.f_q51 A.d_q51 ["tree","ask"] (aY [false,false] true (qc)):=by
 have S:=sU
 refine fnD T.t_q51.F S ⟨[false,false],[false,false],true⟩ _ ?hl rfl rfl fun cdv Ar outer s H E hr=>⟨_,(af (bg (QF.qm (aW (vd T) hr T.t_q15 (ah (aa 0) (ah (ao ai dIx (aa 1) ac (fun _ _=>rfl)) (ah (ao ai dIx (aa 1) ac (fun _ _=>rfl)) aj))))))),fun ds q h=>?_⟩
 case hl=>intro ds q h; obtain ⟨ps,rs,a,rfl,_⟩:=h; rfl
 obtain ⟨ps,rs,a,rfl,hT,he,q0⟩:=h
 refine ⟨ps,rs,a.one,a.other,rfl,hT,he,fun w m hw=>?_⟩
 rw [(hw.way hT he.a0 he.b0 he.a1 he.b1).1]
 exact q0
theorem sE (T:Txt K mg A):FnOk P w K mg base CX0 5 A.f_q43 A.d_q43 ["tree","thing"] (aY [false,false] false (qO)):=by
 have S:=uS
 refine fnD T.t_q43.F S ⟨[false,false],[false,false,false,false,false,false],false⟩ _ ?hl rfl rfl fun cdv Ar outer s H E hr=>⟨_,(ad (aM (QW.qt (cW (a_ (a7 (b8 rfl T.z_isinstance aK (aa 1) (bE (v:=.ty "tuple") rfl T.z_tuple d4 rfl)))) (cy (aB (bO hr.units) dNe (aA au cw rfl T.z_len bi (ae (aa 1) ak)) ac (av _))))) (af (aF dE)) aw)
  (ad (dM (aa 1) (ca rfl (aI (aJ (i:=2) S.nd rfl (Or.inl rfl)) (aI (aJ (i:=3) S.nd rfl (Or.inl rfl)) (aI (aJ (i:=4) S.nd rfl (Or.inl rfl)) (aI (aJ (i:=5) S.nd rfl (Or.inl rfl)) bL)))) (ap (ap (ap (ap a6))))))
  (af (aF (cT (ag (mX T) hr T.t_q25 (ah (aa 0) (ah (aa 2) (ah (aa 3) aj)))) (cT (ag (dP T) hr T.t_q16 (ah (aa 4) (ah ac (ah (dJ (i:=1000000) rfl T.c_MOST_SIZE) aj)))) (cP (ag (dP T) hr T.t_q16 (ah (aa 5) (ah ac (ah (dJ (i:=1000000000000) rfl T.c_MOST_WORTH) aj))))))))))),fun ds q h=>?_⟩
 case hl=>intro ds q h; obtain ⟨ps,rs,a,rfl,_⟩:=h; rfl
 obtain ⟨ps,rs,a,rfl,ha,q0⟩:=h
 refine ⟨ps,rs,a.one,a.other,rfl,ha.ends,?_⟩
 refine ⟨.int a.size,1,1000000,rfl,rfl,?_⟩
 rw [cm ha.s0 ha.s1]
 refine ⟨.int a.worth,1,1000000000000,rfl,rfl,?_⟩
 rw [cm ha.w0 ha.w1]
 exact q0
theorem iS (T:Txt K mg A):FnOk P w K mg base CX0 6 A.f_q10 A.d_q10 ["tree","thing"] (aY [false,false] false (jV)):=by
 have S:=tj
 refine fnD T.t_q10.F S ⟨[false,false],[false,false,false,false],false⟩ _ ?hl rfl rfl fun cdv Ar outer s H E hr=>⟨_,(ad (bJ (ag (km T) hr T.t_q13 (ah (aa 0) aj)))
  (ad (aM (QW.qt (cW (a_ (a7 (b8 rfl T.z_isinstance aK (aa 1) (bE (v:=.ty "list") rfl T.z_list bj rfl)))) (cy (aB gS dB (aA au cw rfl T.z_len bi (ae (aa 1) ak)) (dJ (i:=30) rfl T.c_MOST_ASKS) (av _))))) (af bx) aw)
  (af (cB PassesOwn.never rfl (fc rfl T.z_enumerate (ae (aa 1) ak)) (ca rfl (aI (aJ (i:=2) S.nd rfl (Or.inl rfl)) (aI (aJ (i:=3) S.nd rfl (Or.inl rfl)) bL)) (ap (ap a6))) (af (aM (a_ (a7 (ag (sE T) hr T.t_q43 (ah (aa 0) (ah (aa 3) aj))))) (af bx) aw)))))),fun ds q h=>?_⟩
 case hl=>intro ds q h; obtain ⟨ps,rs,as,rfl,_⟩:=h; rfl
 obtain ⟨ps,rs,as,rfl,hT,ha,q0⟩:=h
 refine ⟨ps,rs,rfl,hT,?_⟩
 refine (b7 (c:=decide ((30:Int)<((as.map bc).length:Int))=true) (fun c=>?_) (fun c=>?_))
 ·have:=ha.len; rw [bR] at c; simp at c; omega
 refine ⟨fun _ ρ=>∃ v1 v2,ρ=[some (aH ps rs),some (aT as),v1,v2],⟨_,_,rfl⟩,?_,?_⟩
 ·rintro i d ρ hd ⟨v1,v2,rfl⟩
  obtain ⟨d',h1,rfl⟩:=eh hd
  obtain ⟨z,hz,rfl⟩:=k8 h1
  refine ⟨ps,rs,z,rfl,ha.ok z (List.mem_of_getElem? hz),?_⟩
  exact ⟨_,_,rfl⟩
 ·rintro ρ ⟨v1,v2,rfl⟩
  exact q0
theorem s8 (T:Txt K mg A):FnOk P w K mg base CX0 7 A.f_q12 A.d_q12 ["tree","asks","thing"] (aY [false,false,false] false (j7)):=by
 have S:=s_
 refine fnD T.t_q12.F S ⟨[false,false,false],[false,false,false,false,false,false],false⟩ _ ?hl rfl rfl fun cdv Ar outer s H E hr=>⟨_,(ad (bJ (ag (iS T) hr T.t_q10 (ah (aa 0) (ah (aa 1) aj))))
  (ad (aM (a_ (a7 (b8 rfl T.z_isinstance aK (aa 2) (bE (v:=.ty "list") rfl T.z_list bj rfl)))) (af bx) aw)
  (ad (aE (i:=3) S.nd rfl (Or.inl rfl) ac)
  (af (cB PassesOwn.never rfl (fc rfl T.z_enumerate (ae (aa 2) ak)) (ca rfl (aI (aJ (i:=4) S.nd rfl (Or.inl rfl)) (aI (aJ (i:=5) S.nd rfl (Or.inl rfl)) bL)) (ap (ap a6))) (ad (aM (a_ (a7 (ag (dP T) hr T.t_q16 (ah (aa 5) (ah (aa 3) (ah (ar bF dI (aA au cw rfl T.z_len bi (ae (aa 1) ak)) ac) aj)))))) (af bx) aw)
  (af (aE (i:=3) S.nd rfl (Or.inl rfl) (ar bC dI (aa 5) ac))))))))),fun ds q h=>?_⟩
 case hl=>intro ds q h; obtain ⟨ps,rs,as,ks,rfl,_⟩:=h; rfl
 obtain ⟨ps,rs,as,ks,rfl,hT,ha,hk,q0⟩:=h
 refine ⟨ps,rs,as,rfl,hT,ha,?_⟩
 refine ⟨fun i ρ=>∃ (l:Int) (v1 v2:Option D),ρ=[some (aH ps rs),some (aT as),some (az ks),some (.int l),v1,v2]∧0≤l∧∀ (j:Nat) (x:Int),i≤j→ks[j]? = some x→l≤x,⟨0,_,_,rfl,Int.le_refl 0,fun j x _ e=>(hk.lo x (List.mem_of_getElem? e)).1⟩,?_,?_⟩
 ·rintro i d ρ hd ⟨l,v1,v2,rfl,l0,hl⟩
  obtain ⟨d',h1,rfl⟩:=eh hd
  obtain ⟨z,hz,rfl⟩:=eJ h1
  have hz1:=hk.lo z (List.mem_of_getElem? hz)
  refine ⟨.int z,l,((as.map bc).length:Int) - 1,rfl,rfl,?_⟩
  rw [cm (hl i z (Nat.le_refl _) hz) (by rw [bR]; omega)]
  refine ⟨z + 1,_,_,rfl,by omega,fun j x hj e=>?_⟩
  have hlt:=List.getElem?_eq_some_iff.mp hz
  have hlt2:=List.getElem?_eq_some_iff.mp e
  have:=List.pairwise_iff_getElem.mp hk.up i j hlt.1 hlt2.1 (by omega)
  rw [hlt.2,hlt2.2] at this
  omega
 ·rintro ρ ⟨l,v1,v2,rfl,_,_⟩
  exact q0
end
end K74
namespace K74
open PySem L2
section
variable {P:Program} {w:World} {K:PySem.W.Frag} {mg:Str→Option Value} {base:Heap} {A:Adr}
theorem pw (T:Txt K mg A):FnOk P w K mg base CX0 1 A.f_q0 A.d_q0 ["number","bottom"] (aY [false,false] false (sdGcd)):=by
 have S:=sc_q0
 refine fnD T.t_q0.F S ⟨[false,false],[false,false],false⟩ _ ?hl rfl rfl fun cdv Ar outer s H E hr=>⟨_,(ad (eM PassesOwn.never (aB (bO hr.units) dNe (aa 1) ac (av _)) (af (gC (i:=0) (j:=1) rfl S.nd rfl rfl (by decide) rfl rfl (aa 1) (ar cx dIC (aa 0) (aa 1)) rfl)))
  (af (aF (aa 0)))),fun ds q h=>?_⟩
 case hl=>intro ds q h; obtain ⟨n,b,rfl,_⟩:=h; rfl
 obtain ⟨n,b,rfl,hb,q0⟩:=h
 refine ⟨fun k ρ=>∃ n' b':Int,ρ=[some (.int n'),some (.int b')]∧0≤b'∧b'.toNat=k∧bX n' b'=bX n b,⟨_,n,b,rfl,hb,rfl,rfl⟩,?_⟩
 rintro k ρ ⟨n',b',rfl,hb',hk,hg⟩
 refine (b7 (c:=(!decide (b'=0))=true) (fun c=>?_) (fun c=>?_))
 ·have c':b'≠0:=by simpa using c
  have hp : 0<b':=by omega
  refine ⟨hp,?_⟩
  have:=Int.emod_lt_of_pos n' hp
  have:=Int.emod_nonneg n' (show b'≠0 by omega)
  exact ⟨_,by omega,b',n' % b',rfl,by omega,rfl,by rw [ig hp]; exact hg⟩
 ·have c':b'=0:=by simpa using c
  subst c'
  have e:bX n b=n':=by rw [← hg]; unfold bX; rw [if_pos rfl]
  rw [e] at q0; exact q0
theorem jU (T:Txt K mg A):FnOk P w K mg base CX0 2 A.f_q27 A.d_q27 ["top","bottom"] (aY [false,false] false (tU)):=by
 have S:=u_
 refine fnD T.t_q27.F S ⟨[false,false],[false,false,false],false⟩ _ ?hl rfl rfl fun cdv Ar outer s H E hr=>⟨_,(ad (aM (QW.qt (cW (a_ (a7 (ag (gi T) hr T.t_q30 (ah (aa 0) aj)))) (cy (a_ (a7 (ag (gi T) hr T.t_q30 (ah (aa 1) aj))))))) (af bx) aw)
  (ad (aM (aB (bb hr.units) dEq (aa 1) ac (av _)) (af bx) aw)
  (ad (dH (aM (aB fj dB (aa 1) ac (av _)) (af (gC (i:=0) (j:=1) rfl S.nd rfl rfl (by decide) rfl rfl (pI (aa 0)) (pI (aa 1)) rfl)) aw))
  (ad (aE (i:=2) S.nd rfl (Or.inl rfl) (ag (pw T) hr T.t_q0 (ah (aa 0) (ah (aa 1) aj))))
  (af (aF (aZ (ae (ar cR dIC (aa 0) (aa 2)) (ae (ar cR dIC (aa 1) (aa 2)) ak))))))))),fun ds q h=>?_⟩
 case hl=>intro ds q h; obtain ⟨t,b,rfl,_⟩:=h; rfl
 obtain ⟨t,b,rfl,hb,hs,q0⟩:=h
 refine ⟨.int t,rfl,rfl,?_⟩
 refine ⟨.int b,rfl,rfl,?_⟩
 refine (b7 (c:=decide (b=0)=true) (fun c=>absurd (of_decide_eq_true c) hb) (fun _=>?_))
 refine ⟨fun ρ=>∃ t' b':Int,ρ=[some (.int t'),some (.int b'),none]∧0<b'∧Sm b'∧Rat.divInt t' b'=Rat.divInt t b,?_,?_⟩
 ·refine (b7 (c:=decide (b<0)=true) (fun c=>?_) (fun c=>?_))
  ·have c':b<0:=by simpa using c
   exact ⟨-t,-b,rfl,by omega,by show (-b).natAbs<_; rw [Int.natAbs_neg]; exact hs,Rat.neg_divInt_neg t b⟩
  ·have c' : ¬ b<0:=by simpa using c
   exact ⟨t,b,rfl,by omega,hs,rfl⟩
 ·rintro ρ ⟨t',b',rfl,hp,hs',he⟩
  refine ⟨t',b',rfl,Int.le_of_lt hp,?_⟩
  have g:=dW (n:=t') hp
  have gl:=iU (n:=t') hp
  have gs:Sm (bX t' b'):=by show (bX t' b').natAbs<_; exact Nat.lt_of_le_of_lt (by omega) hs'
  refine ⟨⟨g,gs⟩,⟨g,gs⟩,?_⟩
  rw [i8 hp,i3 hp,he]
  exact q0
theorem pT (T:Txt K mg A):FnOk P w K mg base CX0 3 A.f_q56 A.d_q56 ["one","other"] (aY [false,false] false (qE)):=by
 have S:=uV
 refine fnD T.t_q56.F S ⟨[false,false],[false,false],false⟩ _ ?hl rfl rfl fun cdv Ar outer s H E hr=>⟨_,(af (aF (ag (jU T) hr T.t_q27 (ah (ar bF dI (ar bI dIC (ao ai dIx (aa 0) ac (fun _ _=>rfl)) (ao ai dIx (aa 1) ac (fun _ _=>rfl))) (ar bI dIC (ao ai dIx (aa 1) ac (fun _ _=>rfl)) (ao ai dIx (aa 0) ac (fun _ _=>rfl)))) (ah (ar bI dIC (ao ai dIx (aa 0) ac (fun _ _=>rfl)) (ao ai dIx (aa 1) ac (fun _ _=>rfl))) aj))))),fun ds q h=>?_⟩
 case hl=>intro ds q h; obtain ⟨r,s,rfl,_⟩:=h; rfl
 obtain ⟨r,s,rfl,hr,hs,q0⟩:=h
 refine ⟨⟨hr.smN (by decide),hs.smD (by decide)⟩,⟨hs.smN (by decide),hr.smD (by decide)⟩,⟨hr.smD (by decide),hs.smD (by decide)⟩,?_⟩
 refine ⟨_,_,rfl,Int.ne_of_gt (cq r s),Sm.of (n:=7900) (by rw [b3,Int.natAbs_natCast,Int.natAbs_natCast]; exact bh (m:=3950) (n:=3950) hr.den hs.den) (by decide),?_⟩
 rw [← mE]; exact q0
theorem pA (T:Txt K mg A):FnOk P w K mg base CX0 3 A.f_q57 A.d_q57 ["one","other"] (aY [false,false] false (qj)):=by
 have S:=uU
 refine fnD T.t_q57.F S ⟨[false,false],[false,false],false⟩ _ ?hl rfl rfl fun cdv Ar outer s H E hr=>⟨_,(af (aF (ag (jU T) hr T.t_q27 (ah (ar bI dIC (ao ai dIx (aa 0) ac (fun _ _=>rfl)) (ao ai dIx (aa 1) ac (fun _ _=>rfl))) (ah (ar bI dIC (ao ai dIx (aa 0) ac (fun _ _=>rfl)) (ao ai dIx (aa 1) ac (fun _ _=>rfl))) aj))))),fun ds q h=>?_⟩
 case hl=>intro ds q h; obtain ⟨r,s,rfl,_⟩:=h; rfl
 obtain ⟨r,s,rfl,hr,hs,q0⟩:=h
 refine ⟨⟨hr.smN (by decide),hs.smN (by decide)⟩,⟨hr.smD (by decide),hs.smD (by decide)⟩,?_⟩
 refine ⟨_,_,rfl,Int.ne_of_gt (cq r s),Sm.of (n:=7900) (by rw [b3,Int.natAbs_natCast,Int.natAbs_natCast]; exact bh (m:=3950) (n:=3950) hr.den hs.den) (by decide),?_⟩
 rw [← nU]; exact q0
theorem oz (T:Txt K mg A):FnOk P w K mg base CX0 3 A.f_q50 A.d_q50 ["some"] (aY [false] false (sT)):=by
 have S:=uH
 refine fnD T.t_q50.F S ⟨[false],[false,false,false],false⟩ _ ?hl rfl rfl fun cdv Ar outer s H E hr=>⟨_,(ad (aE (i:=1) S.nd rfl (Or.inr rfl) ac)
  (ad (cB PassesOwn.never rfl (b5 (aa 0)) (aJ (i:=2) S.nd rfl (Or.inl rfl)) (af (aE (i:=1) S.nd rfl (Or.inr rfl) (ar bI dIC (ar cR dIC (aa 1) (ag (pw T) hr T.t_q0 (ah (aa 1) (ah (ao ai dIx (aa 2) ac (fun _ _=>rfl)) aj)))) (ao ai dIx (aa 2) ac (fun _ _=>rfl))))))
  (af (aF (ag (jU T) hr T.t_q27 (ah (aA (lK rfl) dSum rfl T.z_sum ve (ae (je ["one"] [1] ⟨rfl,rfl,by decide +kernel,rfl,rfl,(by first | exact trivial | exact ⟨rfl,trivial⟩ | exact ⟨rfl,rfl,trivial⟩ | exact ⟨rfl,rfl,rfl,trivial⟩ | exact ⟨rfl,rfl,rfl,rfl,trivial⟩),rfl⟩ rfl (b5 (aa 0)) (cG 0) (fun _ _ _ _=>⟨(bH (i:=0) (show List.Nodup (["one","bottom"]:List Str) by decide +kernel) rfl (Or.inl rfl)),dq,(ar bI dIC (ao ai dIx (aa 0) ac (fun _ _=>rfl)) (ar cR dIC (aa 1) (ao ai dIx (aa 0) ac (fun _ _=>rfl))))⟩)) ak)) (ah (aa 1) aj))))))),fun ds q h=>?_⟩
 case hl=>intro ds q h; obtain ⟨rs,M,rfl,_⟩:=h; rfl
 obtain ⟨rs,M,rfl,hl,hn,hM,hp,q0⟩:=h
 refine ⟨fun i ρ=>∃ (B:Int) (v:Option D),ρ=[some (dQs rs),some (.int B),v]∧Com (rs.take i) M B,⟨1,_,rfl,qh M⟩,?_,?_⟩
 ·rintro i d ρ hd ⟨B,v,rfl,hB⟩
  obtain ⟨r,hr,rfl⟩:∃ r,rs[i]? = some r∧dQ r=d:=by rw [List.getElem?_map,Option.map_eq_some_iff] at hd; exact hd
  have hd:=a8 r
  have hmem:=List.mem_of_getElem? hr
  have hdp:=Nat.le_of_dvd hM (hn r hmem).2
  have hle:=hB.le hM
  have hB0:=hB.pos
  have g:=dW (n:=B) hd
  have gl:=iU (n:=B) hd
  refine ⟨B,r.den,rfl,Int.le_of_lt hd,?_⟩
  refine ⟨⟨g,Sm.of (n:=3900) (by omega) (by decide)⟩,⟨Sm.of (n:=3900) (Nat.lt_of_le_of_lt (fg g) (by omega)) (by decide),Sm.of (n:=3900) (by omega) (by decide)⟩,?_⟩
  refine ⟨_,_,rfl,?_⟩
  rw [List.take_add_one,hr]
  exact mZ hB (hn r hmem).2
 ·rintro ρ ⟨B,v,rfl,hB⟩
  have el:(rs.map dQ).length=rs.length:=List.length_map _
  rw [el,List.take_length] at hB
  have hle:=hB.le hM
  have hB0:=hB.pos
  refine ⟨by rw [el]; omega,?_⟩
  refine dh (sumF B) ?_ ?_
  ·intro d hd k hk
   obtain ⟨r,hr,rfl⟩:=List.mem_map.mp hd
   have hd:=a8 r
   have hdp:=Nat.le_of_dvd hM (hn r hr).2
   refine ⟨⟨hd,Sm.of (n:=3900) (by omega) (by decide)⟩,⟨Sm.of (hn r hr).1 (by decide),Sm.of (n:=3900) (Nat.lt_of_le_of_lt (fg hd) (by omega)) (by decide)⟩,?_⟩
   exact hk
  ·rw [oH]
   refine ⟨_,rfl,?_⟩
   refine ⟨_,B,rfl,by omega,Sm.of (n:=3900) (by omega) (by decide),?_⟩
   rw [jI hB0 hB.dv]
   exact q0
theorem vi (T:Txt K mg A):FnOk P w K mg base CX0 1 A.f_q58 A.d_q58 ["one","other"] (aY [false,false] false (p5)):=by
 have S:=sW
 refine fnD T.t_q58.F S ⟨[false,false],[false,false],false⟩ _ ?hl rfl rfl fun cdv Ar outer s H E hr=>⟨_,(af (aF (bN fj dB (ar bI dIC (ao ai dIx (aa 0) ac (fun _ _=>rfl)) (ao ai dIx (aa 1) ac (fun _ _=>rfl))) (ar bI dIC (ao ai dIx (aa 1) ac (fun _ _=>rfl)) (ao ai dIx (aa 0) ac (fun _ _=>rfl))) (av _)))),fun ds q h=>?_⟩
 case hl=>intro ds q h; obtain ⟨r,s,rfl,_⟩:=h; rfl
 obtain ⟨r,s,rfl,hr,hs,q0⟩:=h
 refine ⟨⟨hr.smN (by decide),hs.smD (by decide)⟩,⟨hs.smN (by decide),hr.smD (by decide)⟩,?_⟩
 have e:decide (r<s)=decide (r.num * (s.den:Int)<s.num * (r.den:Int)):=decide_eq_decide.mpr (Rat.lt_iff r s)
 rw [e] at q0; exact q0
def l4:SpD:=fun ds q=>∃ (ps rs:List Int) (prs:List Rat),ds=[aH ps rs,dQs prs]∧Tree ps rs∧prs.length=ps.length∧(∀ r∈prs,0≤r)∧q .non []
theorem tG (T:Txt K mg A):FnOk P w K mg base CX0 2 A.f_q14 A.d_q14 ["thing"] (aY [false] false (uw)):=by
 have S:=uY
 refine fnD T.t_q14.F S ⟨[false],[false,false,false],false⟩ _ ?hl rfl rfl fun cdv Ar outer s H E hr=>⟨_,(ad (aM (QW.qt (cW (a_ (a7 (b8 rfl T.z_isinstance aK (aa 0) (bE (v:=.ty "tuple") rfl T.z_tuple d4 rfl)))) (cy (aB (bO hr.units) dNe (aA au cw rfl T.z_len bi (ae (aa 0) ak)) ac (av _))))) (af (aF dE)) aw)
  (ad (dM (aa 0) (ca rfl (aI (aJ (i:=1) S.nd rfl (Or.inl rfl)) (aI (aJ (i:=2) S.nd rfl (Or.inl rfl)) bL)) (ap (ap a6))))
  (ad (aM (QW.qt (cW (a_ (a7 (ag (gi T) hr T.t_q30 (ah (aa 1) aj)))) (cy (a_ (a7 (ag (gi T) hr T.t_q30 (ah (aa 2) aj))))))) (af (aF dE)) aw)
  (af (aF (cT (bN rL dB (aa 2) ac (av _)) (cP (bN (bb hr.units) dEq (ag (pw T) hr T.t_q0 (ah (aa 1) (ah (aa 2) aj))) ac (av _))))))))),fun ds q h=>?_⟩
 case hl=>intro ds q h; obtain ⟨r,rfl,_⟩:=h; rfl
 obtain ⟨r,rfl,q0⟩:=h
 refine ⟨.int r.num,rfl,rfl,?_⟩
 refine ⟨.int r.den,rfl,rfl,?_⟩
 have hd:=a8 r
 refine (b7 (c:=decide ((1:Int)≤(r.den:Int))=true) (fun _=>?_) (fun c=>absurd (decide_eq_true (by omega)) c))
 refine ⟨r.num,r.den,rfl,Int.le_of_lt hd,?_⟩
 rw [rp r]
 exact q0
theorem sM (T:Txt K mg A):FnOk P w K mg base CX0 3 A.f_q29 A.d_q29 ["thing"] (aY [false] false (sj)):=by
 have S:=uT
 refine fnD T.t_q29.F S ⟨[false],[false],false⟩ _ ?hl rfl rfl fun cdv Ar outer s H E hr=>⟨_,(af (aF (cT (ag (tG T) hr T.t_q14 (ah (aa 0) aj)) (cP (bN rL dB (ao ai dIx (aa 0) ac (fun _ _=>rfl)) ac (av _)))))),fun ds q h=>?_⟩
 case hl=>intro ds q h; obtain ⟨r,rfl,_⟩:=h; rfl
 obtain ⟨r,rfl,hr,q0⟩:=h
 refine ⟨r,rfl,?_⟩
 show q (.bl (decide ((0:Int)≤r.num))) []
 rw [decide_eq_true (nr hr)]; exact q0
theorem rF (T:Txt K mg A):FnOk P w K mg base CX0 4 A.f_q4 A.d_q4 ["tree","thing"] (aY [false,false] false (l4)):=by
 have S:=sc_q4
 refine fnD T.t_q4.F S ⟨[false,false],[false,false,false,false,false],false⟩ _ ?hl rfl rfl fun cdv Ar outer s H E hr=>⟨_,(ad (bJ (ag (km T) hr T.t_q13 (ah (aa 0) aj)))
  (ad (aM (a_ (a7 (b8 rfl T.z_isinstance aK (aa 1) (bE (v:=.ty "list") rfl T.z_list bj rfl)))) (af bx) aw)
  (ad (dH (aE (i:=2) S.nd rfl (Or.inl rfl) (aA au cw rfl T.z_len bi (ae (ao ai dIx (aa 0) ac (fun _ _=>rfl)) ak))))
  (ad (cB PassesOwn.never rfl (fc rfl T.z_enumerate (ae (gE (aa 1) iF (jb (aa 2))) ak)) (ca rfl (aI (aJ (i:=3) S.nd rfl (Or.inl rfl)) (aI (aJ (i:=4) S.nd rfl (Or.inl rfl)) bL)) (ap (ap a6))) (af (aM (a_ (a7 (ag (sM T) hr T.t_q29 (ah (aa 4) aj)))) (af bx) aw)))
  (af (aM (aB (bO hr.units) dNe (aA au cw rfl T.z_len bi (ae (aa 1) ak)) (aa 2) (av _)) (af bx) aw)))))),fun ds q h=>?_⟩
 case hl=>intro ds q h; obtain ⟨ps,rs,prs,rfl,_⟩:=h; rfl
 obtain ⟨ps,rs,prs,rfl,hT,hl,hp,q0⟩:=h
 have hi:=hT.hi
 refine ⟨ps,rs,rfl,hT,?_⟩
 refine ⟨fun ρ=>∃ n:Int,n=ps.length∧ρ=[some (aH ps rs),some (dQs prs),some (.int n),none,none],⟨_,by rw [ay],rfl⟩,?_⟩
 rintro ρ ⟨n,rfl,rfl⟩
 have ec:dO (prs.map dQ) none (some ((ps.length:Nat):Int))=prs.map dQ:=lX (by rw [List.length_map]; omega)
 refine ⟨fun i ρ=>∃ v1 v2,ρ=[some (aH ps rs),some (dQs prs),some (.int (ps.length:Int)),v1,v2],⟨_,_,rfl⟩,?_,?_⟩
 ·rintro i d ρ hd ⟨v1,v2,rfl⟩
  have hd:(kd (dO (prs.map dQ) none (some ((ps.length:Nat):Int))))[i]? = some d:=hd
  rw [ec] at hd
  obtain ⟨d',h1,rfl⟩:=eh hd
  obtain ⟨r,hr,rfl⟩:∃ r,prs[i]? = some r∧dQ r=d':=by rw [List.getElem?_map,Option.map_eq_some_iff] at h1; exact h1
  refine ⟨r,rfl,hp r (List.mem_of_getElem? hr),?_⟩
  exact ⟨_,_,rfl⟩
 ·rintro ρ ⟨v1,v2,rfl⟩
  refine (b7 (c:=(!decide ((((prs.map dQ).length:Nat):Int)=(ps.length:Int)))=true) (fun c=>absurd c ?_) (fun _=>q0))
  rw [List.length_map,decide_eq_true (by omega)]; decide
theorem tu (T:Txt K mg A):FnOk P w K mg base CX0 8 A.f_q35 A.d_q35 ["tree","ask","weight","prices"] (aY [false,false,false,false] false (oN)):=by
 have S:=tS
 refine fnD T.t_q35.F S ⟨[false,false,false,false],[false,false,false,false,false,false],false⟩ _ ?hl rfl rfl fun cdv Ar outer s H E hr=>⟨_,(ad (aE (i:=4) S.nd rfl (Or.inl rfl) (ag (oz T) hr T.t_q50 (ah (je ["tie"] [3] ⟨rfl,rfl,by decide +kernel,rfl,rfl,(by first | exact trivial | exact ⟨rfl,trivial⟩ | exact ⟨rfl,rfl,trivial⟩ | exact ⟨rfl,rfl,rfl,trivial⟩ | exact ⟨rfl,rfl,rfl,rfl,trivial⟩),rfl⟩ rfl (b5 (QF.qe (aW (tz T) hr T.t_q51 (ah (aa 0) (ah (aa 1) aj))))) (cG 0) (fun _ _ _ _=>⟨(bH (i:=0) (show List.Nodup (["tie","prices"]:List Str) by decide +kernel) rfl (Or.inl rfl)),dq,(ao ai dIx (aa 1) (ar bF dI (aa 0) ac) (fun _ _=>rfl))⟩)) aj)))
  (ad (aE (i:=5) S.nd rfl (Or.inl rfl) (ag (pT T) hr T.t_q56 (ah (aZ (ae (ao ai dIx (aa 1) ac (fun _ _=>rfl)) (ae ac ak))) (ah (ag (pA T) hr T.t_q57 (ah (aZ (ae (aa 2) (ae ac ak))) (ah (aa 4) aj))) aj))))
  (af (aF (jE (a7 (ag (vi T) hr T.t_q58 (ah (aZ (ae ac (ae ac ak))) (ah (aa 5) aj)))) (aa 5) (aZ (ae ac (ae ac ak)))))))),fun ds q h=>?_⟩
 case hl=>intro ds q h; obtain ⟨ps,rs,a,w,prs,M,b,rfl,_⟩:=h; rfl
 obtain ⟨ps,rs,a,w,prs,M,b,rfl,hT,ha,hw0,hw1,hp,M0,hM,hb,q0⟩:=h
 have hwl:=fC hT ha.ends
 have hpl:=hp.len
 obtain ⟨hpa,p0,p1,pd⟩:=mN hT ha.ends hp
 have hpb:Bt (bn ps a prs) (400 + 66):=fe p0 p1 pd M0 hM (Nat.le_trans (Nat.mul_le_mul_left _ hb) (by decide))
 refine ⟨ps,rs,a,rfl,hT,ha.ends,?_⟩
 refine ⟨by rw [ay]; exact Nat.le_trans hwl (by decide),?_⟩
 refine dh (nE prs) ?_ ?_
 ·intro d hd k hk
  obtain ⟨t,ht,rfl⟩:=cQ hd
  have hm:=f_ hT ha.ends ht
  refine dr (mO (by omega) (by omega)) ?_
  exact hk
 ·rw [j_]
  refine ⟨_,M,rfl,by rw [List.length_map]; exact Nat.le_trans hwl (by decide),fun r hr=>?_,M0,Nat.lt_of_lt_of_le hM (bY (by decide)),?_⟩
  ·obtain ⟨r0,r1,r2⟩:=hp.ok r (hpa r hr)
   exact ⟨(Bt.mono (fe r0 r1 r2 M0 hM hb) (by decide)).num,r2.den M0⟩
  have e1:D.tup [.int w,.int 1]=dQ (w:Rat):=kj w
  have e2:D.tup [.int a.worth,.int 1]=dQ (a.worth:Rat):=kj a.worth
  have bw:Bt (w:Rat) 20:=pf 1000000 (by omega) (by decide) (by decide)
  have ba:Bt (a.worth:Rat) 40:=pf 1000000000000 (by have:=ha.w0; have:=ha.w1; omega) (by decide) (by decide)
  have bt:Bt ((w:Rat) * bn ps a prs) 500:=(bw.mul hpb).mono (by decide)
  have bm:Bt ((a.worth:Rat) - (w:Rat) * bn ps a prs) 600:=(ba.sub bt).mono (by decide)
  refine ⟨(w:Rat),bn ps a prs,by rw [← e1]; rfl,bw.mono (by decide),hpb.mono (by decide),?_⟩
  refine ⟨(a.worth:Rat),(w:Rat) * bn ps a prs,by rw [← e2],ba.mono (by decide),bt.mono (by decide),?_⟩
  refine ⟨0,(a.worth:Rat) - (w:Rat) * bn ps a prs,rfl,bt0 (by decide),bm.mono (by decide),?_⟩
  have eq:bq ps a w prs=gL ((a.worth:Rat) - (w:Rat) * bn ps a prs):=rfl
  rw [eq] at q0
  unfold gL at q0
  refine (b7 (c:=decide ((0:Rat)<(a.worth:Rat) - (w:Rat) * bn ps a prs)=true) (fun c=>?_) (fun c=>?_))
  ·rw [if_pos (of_decide_eq_true c)] at q0; exact q0
  ·rw [if_neg (fun z=>c (decide_eq_true z))] at q0; exact q0
theorem vf (T:Txt K mg A):FnOk P w K mg base CX0 9 A.f_q49 A.d_q49 ["tree","asks","prices"] (aY [false,false,false] true (lZ)):=by
 have S:=sq
 refine fnD T.t_q49.F S ⟨[false,false,false],[false,false,false],true⟩ _ ?hl rfl rfl fun cdv Ar outer s H E hr=>⟨_,(ad (bJ (ag (iS T) hr T.t_q10 (ah (aa 0) (ah (aa 1) aj))))
  (ad (bJ (ag (rF T) hr T.t_q4 (ah (aa 0) (ah (aa 2) aj))))
  (af (bg (QF.qm (lq ["ask"] [0,2] ⟨rfl,rfl,by decide +kernel,rfl,rfl,(by first | exact trivial | exact ⟨rfl,trivial⟩ | exact ⟨rfl,rfl,trivial⟩ | exact ⟨rfl,rfl,rfl,trivial⟩ | exact ⟨rfl,rfl,rfl,rfl,trivial⟩),rfl⟩ rfl (b5 (aa 1)) (cG 0) (fun _ _ _ _=>⟨(bH (i:=0) (show List.Nodup (["ask","tree","prices"]:List Str) by decide +kernel) rfl (Or.inl rfl)),dq,(ag (tu T) hr T.t_q35 (ah (aa 1) (ah (aa 0) (ah (ao ai dIx (aa 0) ac (fun _ _=>rfl)) (ah (aa 2) aj)))))⟩))))))),fun ds q h=>?_⟩
 case hl=>intro ds q h; obtain ⟨ps,rs,as,prs,rfl,_⟩:=h; rfl
 obtain ⟨ps,rs,as,prs,rfl,hT,ha,hp,q0⟩:=h
 have hal:=ha.len
 refine ⟨ps,rs,as,rfl,hT,ha,?_⟩
 refine ⟨ps,rs,prs,rfl,hT,hp.len,hp.nn,?_⟩
 obtain ⟨M,b,p1,p2,p3,p4⟩:=hp
 refine ⟨by rw [List.length_map]; omega,?_⟩
 refine dh (nD ps prs) ?_ ?_
 ·intro d hd k hk
  obtain ⟨a,hm,rfl⟩:=List.mem_map.mp hd
  have hok:=ha.ok a hm
  have s0:=hok.s0
  refine ⟨ps,rs,a,a.size,prs,M,b,rfl,hT,hok,by omega,hok.s1,p1,p2,p3,p4,?_⟩
  exact hk
 ·rw [kG]
  first | exact q0 | exact ⟨bP _,q0⟩
theorem o5 (T:Txt K mg A):FnOk P w K mg base CX0 10 A.f_q26 A.d_q26 ["tree","asks","prices"] (aY [false,false,false] false (jA)):=by
 have S:=uK
 refine fnD T.t_q26.F S ⟨[false,false,false],[false,false,false,false,false],false⟩ _ ?hl rfl rfl fun cdv Ar outer s H E hr=>⟨_,(ad (aE (i:=3) S.nd rfl (Or.inl rfl) (QF.qe (aW (vf T) hr T.t_q49 (ah (aa 0) (ah (aa 1) (ah (aa 2) aj))))))
  (ad (gP (i:=4) ["room","price"] [] ⟨rfl,rfl,by decide +kernel,rfl,rfl,(by first | exact trivial | exact ⟨rfl,trivial⟩ | exact ⟨rfl,rfl,trivial⟩ | exact ⟨rfl,rfl,rfl,trivial⟩ | exact ⟨rfl,rfl,rfl,rfl,trivial⟩),rfl⟩ rfl S.nd rfl (Or.inl rfl) (oe rfl T.z_zip (ae (ao ai dIx (aa 0) ac (fun _ _=>rfl)) (ae (aa 2) ak))) (tq (jJ (cG 0) (jJ (cG 1) qK)) (ap (ap a6))) (fun _ _ _ _=>⟨(kw rfl (dG (bH (i:=0) (show List.Nodup (["room","price"]:List Str) by decide +kernel) rfl (Or.inl rfl)) (dG (bH (i:=1) (show List.Nodup (["room","price"]:List Str) by decide +kernel) rfl (Or.inl rfl)) iD))),dq,(ag (pA T) hr T.t_q57 (ah (aZ (ae (aa 0) (ae ac ak))) (ah (aa 1) aj)))⟩))
  (af (aF (ag (oz T) hr T.t_q50 (ah (ik fD lR (aa 4) (aa 3)) aj)))))),fun ds q h=>?_⟩
 case hl=>intro ds q h; obtain ⟨ps,rs,as,prs,rfl,_⟩:=h; rfl
 obtain ⟨ps,rs,as,prs,rfl,hT,ha,hp,q0⟩:=h
 have hal:=ha.len
 have hpl:=hp.len
 have hi:=hT.hi
 have hlr:=hT.len
 refine ⟨ps,rs,as,prs,rfl,hT,ha,hp,?_⟩
 obtain ⟨M,b,p1,p2,p3,p4⟩:=hp
 have hzl:(gv (rs.map D.int) (prs.map dQ)).length=ps.length:=by unfold gv; rw [List.length_zipWith,List.length_map,List.length_map]; omega
 refine ⟨by rw [hzl]; omega,?_⟩
 refine dh gI ?_ ?_
 ·intro d hd k hk
  obtain ⟨j,hj⟩:=List.getElem?_of_mem hd
  obtain ⟨x,y,e1,e2,rfl⟩:=iC hj
  obtain ⟨z,hz,rfl⟩:=eJ e1
  obtain ⟨p,hpm,rfl⟩:∃ r,prs[j]? = some r∧dQ r=y:=by rw [List.getElem?_map,Option.map_eq_some_iff] at e2; exact e2
  have bz:=qk hT (List.mem_of_getElem? hz)
  obtain ⟨r0,r1,r2⟩:=p1.ok p (List.mem_of_getElem? hpm)
  refine ⟨(z:Rat),p,by rw [← kj],bz.mono (by decide),(fe r0 r1 r2 p2 p3 p4).mono (by decide),?_⟩
  rw [hV] at hk
  exact hk
 ·rw [gA]
  have hpal:=mw rs prs
  have emap:(aN rs prs).map dQ++(as.map fun a=>bq ps a a.size prs).map dQ=(aN rs prs++as.map fun a=>bq ps a a.size prs).map dQ:=by rw [List.map_append]
  refine ⟨by rw [List.length_map,List.length_map,List.length_map]; omega,?_⟩
  refine ⟨aN rs prs++as.map fun a=>bq ps a a.size prs,M,by rw [emap]; rfl,by rw [List.length_append,List.length_map]; omega,fun r hr=>?_,p2,Nat.lt_of_lt_of_le p3 (bY (by decide)),?_⟩
  ·rcases List.mem_append.mp hr with hr | hr
   ·obtain ⟨r0,r1,r2⟩:=kY hT p1 r hr
    exact ⟨Nat.lt_of_lt_of_le (fe (x:=80) r0 r1 r2 p2 p3 (Nat.le_trans (Nat.mul_le_mul_left _ p4) (by decide))).num (bY (by decide)),r2.den p2⟩
   ·obtain ⟨a,hm,rfl⟩:=List.mem_map.mp hr
    have ok:=ha.ok a hm
    obtain ⟨r0,r1,r2⟩:=k9 (w:=a.size) hT ok (by have:=ok.s0; omega) p1
    exact ⟨Nat.lt_of_lt_of_le (fe (x:=60) r0 r1 r2 p2 p3 (by decide)).num (bY (by decide)),r2.den p2⟩
  ·rw [List.sum_append]
   exact q0
end
end K74
namespace K74
open PySem L2
section
variable {P:Program} {w:World} {K:PySem.W.Frag} {mg:Str→Option Value} {base:Heap} {A:Adr}
theorem vj (T:Txt K mg A):FnOk P w K mg base CX0 3 A.f_q44 A.d_q44 ["tree","thing"] (aY [false,false] false (sdTie)):=by
 have S:=sF
 refine fnD T.t_q44.F S ⟨[false,false],[false,false],false⟩ _ ?hl rfl rfl fun cdv Ar outer s H E hr=>⟨_,(af (aF (ag (dP T) hr T.t_q16 (ah (aa 1) (ah ac (ah (aA au cw rfl T.z_len bi (ae (ao ai dIx (aa 0) ac (fun _ _=>rfl)) ak)) aj)))))),fun ds q h=>?_⟩
 case hl=>intro ds q h; obtain ⟨ps,rs,d,rfl,_⟩:=h; rfl
 obtain ⟨ps,rs,d,rfl,hs,q0⟩:=h
 refine ⟨d,1,((ps.map D.int).length:Int),rfl,hs,?_⟩
 rw [List.length_map]; exact q0
inductive Chg
 | room (t r:Int)
 | hang (p r:Int)
 | ask (k:Int) (a:Ask)
 | more (a:Ask)
 | less (k:Int)
def bZ:Chg→D
 | .room t r=>.tup [.str "room",.int t,.int r]
 | .hang p r=>.tup [.str "hang",.int p,.int r]
 | .ask k a=>.tup [.str "ask",.int k,bc a]
 | .more a=>.tup [.str "more",bc a]
 | .less k=>.tup [.str "less",.int k]
def cF (ps:List Int) (as:List Ask):Chg→Prop
 | .room t r=>1≤t∧t≤(ps.length:Int)∧1≤r∧r≤1000000
 | .hang p r=>0≤p∧p≤(ps.length:Int)∧1≤r∧r≤1000000∧ps.length<23
 | .ask k a=>0≤k∧k<(as.length:Int)∧AskOk ps a
 | .more a=>as.length<30∧AskOk ps a
 | .less k=>0≤k∧k<(as.length:Int)
def chP (ps:List Int):Chg→List Int
 | .hang p _=>ps++[p]
 | _=>ps
def chR (rs:List Int):Chg→List Int
 | .room t r=>rs.set (t - 1).toNat r
 | .hang _ r=>rs++[r]
 | _=>rs
def chA (as:List Ask):Chg→List Ask
 | .ask k a=>as.set k.toNat a
 | .more a=>as++[a]
 | .less k=>as.eraseIdx k.toNat
 | _=>as
theorem eV {ps rs:List Int} {as:List Ask} {c:Chg} (hT:Tree ps rs) (h:cF ps as c):Tree (chP ps c) (chR rs c):=by
 cases c with
 | room t r =>
  obtain ⟨t0,t1,r0,r1⟩:=h
  refine ⟨by show ps.length=(rs.set _ r).length; rw [List.length_set]; exact hT.len,hT.lo,hT.hi,hT.par,fun j x hx=>?_⟩
  rcases List.mem_or_eq_of_mem_set (List.mem_of_getElem? hx) with q | q
  ·obtain ⟨i,hi⟩:=List.getElem?_of_mem q
   exact hT.room i x hi
  ·rw [q]; exact ⟨r0,r1⟩
 | hang p r =>
  obtain ⟨p0,p1,r0,r1,hn⟩:=h
  refine ⟨by show (ps++[p]).length=(rs++[r]).length; rw [List.length_append,List.length_append,hT.len]; rfl,by show 1≤(ps++[p]).length; rw [List.length_append]; show 1≤ps.length + 1; omega,by show (ps++[p]).length≤23; rw [List.length_append]; show ps.length + 1≤23; omega,fY hT.par ⟨p0,p1⟩,fY hT.room ⟨r0,r1⟩⟩
 | ask _ _=>exact hT
 | more _=>exact hT
 | less _=>exact hT
theorem pY {ps qs:List Int} {a:Ask} (hl:ps.length≤qs.length) (h:AskOk ps a):AskOk qs a:=⟨⟨h.ends.a0,by have:=h.ends.a1; omega,h.ends.b0,by have:=h.ends.b1; omega,h.ends.ne⟩,h.s0,h.s1,h.w0,h.w1⟩
theorem eP {ps:List Int} {as:List Ask} {c:Chg} (ha:AsksOk ps as) (h:cF ps as c):AsksOk (chP ps c) (chA as c):=by
 cases c with
 | room t r=>exact ha
 | hang p r=>exact ⟨ha.len,fun a hm=>pY (by show ps.length≤(ps++[p]).length; rw [List.length_append]; omega) (ha.ok a hm)⟩
 | ask k a =>
  refine ⟨by show (as.set _ a).length≤30; rw [List.length_set]; exact ha.len,fun b hm=>?_⟩
  rcases List.mem_or_eq_of_mem_set hm with q | q
  ·exact ha.ok b q
  ·rw [q]; exact h.2.2
 | more a =>
  refine ⟨by show (as++[a]).length≤30; rw [List.length_append]; show as.length + 1≤30; have:=h.1; omega,fun b hm=>?_⟩
  rcases List.mem_append.mp hm with q | q
  ·exact ha.ok b q
  ·rw [List.mem_singleton.mp q]; exact h.2
 | less k =>
  exact ⟨Nat.le_trans (List.length_eraseIdx_le ..) ha.len,fun b hm=>ha.ok b (List.mem_of_mem_eraseIdx hm)⟩
theorem lS (s:Str) (h:cY 0 (.str s)=true):okD (.str s)=true:=nX h (by decide)
theorem kR:cY 0 (.str "room")=true:=by decide +kernel
theorem kH:cY 0 (.str "hang")=true:=by decide +kernel
theorem kA:cY 0 (.str "ask")=true:=by decide +kernel
theorem kM:cY 0 (.str "more")=true:=by decide +kernel
theorem kL:cY 0 (.str "less")=true:=by decide +kernel
theorem aR (a b:Str):eqD (.str a) (.str b)=decide (a=b):=by
 unfold eqD; rw [toP,toP,PyData.eqv]
 by_cases h:a=b <;> simp [h]
theorem u5:inD (.str "hang") [.str "more",.str "hang"]=true:=by decide +kernel
theorem sO:inD (.str "more") [.str "more",.str "hang"]=true:=by decide +kernel
theorem inAsk:inD (.str "ask") [.str "more",.str "hang"]=false:=by decide +kernel
theorem uL:inD (.str "less") [.str "more",.str "hang"]=false:=by decide +kernel
def qz:SpD:=fun ds q=>∃ ps rs as c,ds=[aH ps rs,aT as,bZ c]∧Tree ps rs∧cF ps as c∧q (.bl true) []
theorem tJ (T:Txt K mg A):FnOk P w K mg base CX0 4 A.f_q17 A.d_q17 ["tree","asks","thing"] (aY [false,false,false] false (qz)):=by
 have S:=sN
 refine fnD T.t_q17.F S ⟨[false,false,false],[false,false,false],false⟩ _ ?hl rfl rfl fun cdv Ar outer s H E hr=>⟨_,(ad (aM (QW.qt (cW (a_ (a7 (b8 rfl T.z_isinstance aK (aa 2) (bE (v:=.ty "tuple") rfl T.z_tuple d4 rfl)))) (cW (a_ (oJ (aa 2))) (cy (a_ (a7 (b8 rfl T.z_isinstance aK (ao ai dIx (aa 2) ac (fun _ _=>rfl)) (bE (v:=.ty "str") rfl T.z_str sA rfl)))))))) (af (aF dE)) aw)
  (ad (aM (aB (bO hr.units) dNe (rB rfl T.m_LENGTHS T.t_LENGTHS (ao ai dIx (aa 2) ac (fun _ _=>rfl))) (aA au cw rfl T.z_len bi (ae (aa 2) ak)) (av _)) (af (aF dE)) aw)
  (ad (aM (aB (bb hr.units) dEq (ao ai dIx (aa 2) ac (fun _ _=>rfl)) aV (av _)) (af (aF (ag (vj T) hr T.t_q44 (ah (aa 0) (ah (ao ai dIx (aa 2) ac (fun _ _=>rfl)) aj))))) aw)
  (af (aF (o4 (bN h_ dIn (ao ai dIx (aa 2) ac (fun _ _=>rfl)) (aZ (ae aV (ae aV ak))) rfl) (cP (ag (dP T) hr T.t_q16 (ah (ao ai dIx (aa 2) ac (fun _ _=>rfl)) (ah ac (ah (ar bF dI (aA au cw rfl T.z_len bi (ae (aa 1) ak)) ac) aj))))))))))),fun ds q h=>?_⟩
 case hl=>intro ds q h; obtain ⟨ps,rs,as,c,rfl,_⟩:=h; rfl
 obtain ⟨ps,rs,as,c,rfl,hT,hc,q0⟩:=h
 cases c with
 | room t r =>
  refine ⟨lS _ kR,lS _ kR,?_⟩
  rw [aR,decide_eq_true rfl]
  refine ⟨ps,rs,.int t,rfl,rfl,?_⟩
  rw [cm hc.1 hc.2.1]; exact q0
 | hang p r =>
  refine ⟨lS _ kH,lS _ kR,?_⟩
  rw [aR,decide_eq_false (by decide +kernel)]
  refine ⟨rfl,rfl,?_⟩
  rw [if_neg (show ¬ (false=true) by decide),u5]; exact q0
 | ask k a =>
  refine ⟨lS _ kA,lS _ kR,?_⟩
  rw [aR,decide_eq_false (by decide +kernel)]
  refine ⟨rfl,rfl,?_⟩
  rw [if_neg (show ¬ (false=true) by decide),inAsk]
  refine ⟨.int k,0,((as.map bc).length:Int) - 1,rfl,rfl,?_⟩
  rw [cm hc.1 (by rw [List.length_map]; have:=hc.2.1; omega)]; exact q0
 | more a =>
  refine ⟨lS _ kM,lS _ kR,?_⟩
  rw [aR,decide_eq_false (by decide +kernel)]
  refine ⟨rfl,rfl,?_⟩
  rw [if_neg (show ¬ (false=true) by decide),sO]; exact q0
 | less k =>
  refine ⟨lS _ kL,lS _ kR,?_⟩
  rw [aR,decide_eq_false (by decide +kernel)]
  refine ⟨rfl,rfl,?_⟩
  rw [if_neg (show ¬ (false=true) by decide),uL]
  refine ⟨.int k,0,((as.map bc).length:Int) - 1,rfl,rfl,?_⟩
  rw [cm hc.1 (by rw [List.length_map]; have:=hc.2; omega)]; exact q0
end
end K74
namespace K74
open PySem L2
section
variable {P:Program} {w:World} {K:PySem.W.Frag} {mg:Str→Option Value} {base:Heap} {A:Adr}
def sdChT:SpD:=fun ds q=>∃ ps rs as c,ds=[aH ps rs,bZ c]∧Tree ps rs∧cF ps as c∧q (aH (chP ps c) (chR rs c)) []
theorem ok_q9 (T:Txt K mg A):FnOk P w K mg base CX0 1 A.f_q9 A.d_q9 ["tree","change"] (aY [false,false] false (sdChT)):=by
 have S:=sc_q9
 refine fnD T.t_q9.F S ⟨[false,false],[false,false,true,true],false⟩ _ ?hl rfl rfl fun cdv Ar outer s H E hr=>⟨_,(ad (qb (i:=2) (j:=3) rfl S.nd rfl rfl (by decide) rfl rfl (bT aX dC rfl T.z_list bj (ae (ao ai dIx (aa 0) ac (fun _ _=>rfl)) ak)) (bT aX dC rfl T.z_list bj (ae (ao ai dIx (aa 0) ac (fun _ _=>rfl)) ak)) rfl)
  (ad (aM (aB (bb hr.units) dEq (ao ai dIx (aa 1) ac (fun _ _=>rfl)) aV (av _)) (af (er (i:=3) rfl (QE.qf (ao ai dIx (aa 1) ac (fun _ _=>rfl))) (ar bF dI (ao ai dIx (aa 1) ac (fun _ _=>rfl)) ac))) aw)
  (ad (aM (aB (bb hr.units) dEq (ao ai dIx (aa 1) ac (fun _ _=>rfl)) aV (av _)) (ad (bf (i:=2) rfl (QE.qf (ao ai dIx (aa 1) ac (fun _ _=>rfl))))
  (af (bf (i:=3) rfl (QE.qf (ao ai dIx (aa 1) ac (fun _ _=>rfl)))))) aw)
  (af (jG (iV (cn (b6 2) (cn (b6 3) gg)))))))),fun ds q h=>?_⟩
 case hl=>intro ds q h; obtain ⟨ps,rs,as,c,rfl,_⟩:=h; rfl
 obtain ⟨ps,rs,as,c,rfl,hT,hc,q0⟩:=h
 cases c with
 | room t r =>
  refine ⟨aL ps,aL rs,lS _ kR,lS _ kR,?_⟩
  rw [aR,decide_eq_true rfl]
  have hL:=hT.len
  obtain ⟨t0,t1,-,-⟩:=hc
  refine ⟨rfl,?_⟩
  show (match ixN (rs.map D.int).length (t - 1) with | some _=>_ | none=>False)
  rw [ay,gb (by omega) (by omega)]
  refine ⟨lS _ kR,lS _ kH,?_⟩
  rw [aR,decide_eq_false (by decide +kernel)]
  have e:aH (chP ps (Chg.room t r)) (chR rs (Chg.room t r)) = .tup [.lst (ps.map D.int),.lst ((rs.map D.int).set (t - 1).toNat (.int r))]:=by
   show D.tup [.lst (ps.map D.int),.lst ((rs.set (t - 1).toNat r).map D.int)]=_
   rw [List.map_set]
  rw [e] at q0; exact q0
 | hang p r =>
  refine ⟨aL ps,aL rs,lS _ kH,lS _ kR,?_⟩
  rw [aR,decide_eq_false (by decide +kernel)]
  refine ⟨lS _ kH,lS _ kH,?_⟩
  rw [aR,decide_eq_true rfl]
  have hL:=hT.len
  obtain ⟨-,-,-,-,hn⟩:=hc
  refine ⟨rfl,by rw [ay]; omega,rfl,by rw [ay]; omega,?_⟩
  have e:aH (chP ps (Chg.hang p r)) (chR rs (Chg.hang p r)) = .tup [.lst (ps.map D.int++[.int p]),.lst (rs.map D.int++[.int r])]:=by
   show D.tup [.lst ((ps++[p]).map D.int),.lst ((rs++[r]).map D.int)]=_
   rw [List.map_append,List.map_append]; rfl
  rw [e] at q0; exact q0
 | ask k a =>
  refine ⟨aL ps,aL rs,lS _ kA,lS _ kR,?_⟩
  rw [aR,decide_eq_false (by decide +kernel)]
  refine ⟨lS _ kA,lS _ kH,?_⟩
  rw [aR,decide_eq_false (by decide +kernel)]
  exact q0
 | more a =>
  refine ⟨aL ps,aL rs,lS _ kM,lS _ kR,?_⟩
  rw [aR,decide_eq_false (by decide +kernel)]
  refine ⟨lS _ kM,lS _ kH,?_⟩
  rw [aR,decide_eq_false (by decide +kernel)]
  exact q0
 | less k =>
  refine ⟨aL ps,aL rs,lS _ kL,lS _ kR,?_⟩
  rw [aR,decide_eq_false (by decide +kernel)]
  refine ⟨lS _ kL,lS _ kH,?_⟩
  rw [aR,decide_eq_false (by decide +kernel)]
  exact q0
theorem fv {α β:Type} (f : α→β):∀ (l:List α) (k:Nat),(l.eraseIdx k).map f=(l.map f).eraseIdx k
 | [],_=>rfl
 | _ :: _,0=>rfl
 | a :: l,k + 1=>by show f a :: (l.eraseIdx k).map f=_; rw [fv f l k]; rfl
def sdChA:SpD:=fun ds q=>∃ ps as c,ds=[aT as,bZ c]∧cF ps as c∧q (aT (chA as c)) []
theorem ok_q8 (T:Txt K mg A):FnOk P w K mg base CX0 1 A.f_q8 A.d_q8 ["asks","change"] (aY [false,false] true (sdChA)):=by
 have S:=sc_q8
 refine fnD T.t_q8.F S ⟨[false,false],[false,false,true],true⟩ _ ?hl rfl rfl fun cdv Ar outer s H E hr=>⟨_,(ad (b4 (i:=2) S.nd rfl (Or.inl rfl) (bT aX dC rfl T.z_list bj (ae (aa 0) ak)))
  (ad (aM (aB (bb hr.units) dEq (ao ai dIx (aa 1) ac (fun _ _=>rfl)) aV (av _)) (af (er (i:=2) rfl (QE.qf (ao ai dIx (aa 1) ac (fun _ _=>rfl))) (ao ai dIx (aa 1) ac (fun _ _=>rfl)))) aw)
  (ad (aM (aB (bb hr.units) dEq (ao ai dIx (aa 1) ac (fun _ _=>rfl)) aV (av _)) (af (bf (i:=2) rfl (QE.qf (ao ai dIx (aa 1) ac (fun _ _=>rfl))))) aw)
  (ad (aM (aB (bb hr.units) dEq (ao ai dIx (aa 1) ac (fun _ _=>rfl)) aV (av _)) (af (bJ (rj (i:=2) rfl (ao ai dIx (aa 1) ac (fun _ _=>rfl))))) aw)
  (af (bg (b6 2))))))),fun ds q h=>?_⟩
 case hl=>intro ds q h; obtain ⟨ps,as,c,rfl,_⟩:=h; rfl
 obtain ⟨ps,as,c,rfl,hc,q0⟩:=h
 have hi:=fF as
 cases c with
 | room t r =>
  refine ⟨hi,lS _ kR,lS _ kA,?_⟩
  rw [aR,decide_eq_false (by decide +kernel)]
  refine ⟨lS _ kR,lS _ kM,?_⟩
  rw [aR,decide_eq_false (by decide +kernel)]
  refine ⟨lS _ kR,lS _ kL,?_⟩
  rw [aR,decide_eq_false (by decide +kernel)]
  exact q0
 | hang p r =>
  refine ⟨hi,lS _ kH,lS _ kA,?_⟩
  rw [aR,decide_eq_false (by decide +kernel)]
  refine ⟨lS _ kH,lS _ kM,?_⟩
  rw [aR,decide_eq_false (by decide +kernel)]
  refine ⟨lS _ kH,lS _ kL,?_⟩
  rw [aR,decide_eq_false (by decide +kernel)]
  exact q0
 | ask k a =>
  refine ⟨hi,lS _ kA,lS _ kA,?_⟩
  rw [aR,decide_eq_true rfl]
  obtain ⟨k0,k1,-⟩:=hc
  refine ⟨rfl,?_⟩
  show (match ixN (as.map bc).length k with | some _=>_ | none=>False)
  rw [List.length_map,gb k0 (by omega)]
  refine ⟨lS _ kA,lS _ kM,?_⟩
  rw [aR,decide_eq_false (by decide +kernel)]
  refine ⟨lS _ kA,lS _ kL,?_⟩
  rw [aR,decide_eq_false (by decide +kernel)]
  have e:aT (chA as (Chg.ask k a)) = .lst ((as.map bc).set k.toNat (bc a)):=by
   show D.lst ((as.set k.toNat a).map bc)=_
   rw [List.map_set]
  rw [e] at q0; exact q0
 | more a =>
  refine ⟨hi,lS _ kM,lS _ kA,?_⟩
  rw [aR,decide_eq_false (by decide +kernel)]
  refine ⟨lS _ kM,lS _ kM,?_⟩
  rw [aR,decide_eq_true rfl]
  have hn:=hc.1
  refine ⟨rfl,by rw [List.length_map]; omega,lS _ kM,lS _ kL,?_⟩
  rw [aR,decide_eq_false (by decide +kernel)]
  have e:aT (chA as (Chg.more a)) = .lst (as.map bc++[bc a]):=by
   show D.lst ((as++[a]).map bc)=_
   rw [List.map_append]; rfl
  rw [e] at q0; exact q0
 | less k =>
  refine ⟨hi,lS _ kL,lS _ kA,?_⟩
  rw [aR,decide_eq_false (by decide +kernel)]
  refine ⟨lS _ kL,lS _ kM,?_⟩
  rw [aR,decide_eq_false (by decide +kernel)]
  refine ⟨lS _ kL,lS _ kL,?_⟩
  rw [aR,decide_eq_true rfl]
  obtain ⟨k0,k1⟩:=hc
  have hk:k.toNat<as.length:=by omega
  refine ⟨bc as[k.toNat],k,rfl,hi,k0,by rw [List.getElem?_map,List.getElem?_eq_getElem hk]; rfl,?_⟩
  have e:aT (chA as (Chg.less k)) = .lst ((as.map bc).eraseIdx k.toNat):=by
   show D.lst ((as.eraseIdx k.toNat).map bc)=_
   rw [fv]
  rw [e] at q0; exact q0
end
end K74
namespace K74
open PySem L2
section
variable {P:Program} {w:World} {K:PySem.W.Frag} {mg:Str→Option Value} {base:Heap} {A:Adr}
def sdChd:SpD:=fun ds q=>∃ ps rs as c,ds=[aH ps rs,aT as,bZ c]∧Tree ps rs∧AsksOk ps as∧cF ps as c∧q (.tup [aH (chP ps c) (chR rs c),aT (chA as c)]) []
def qT:SpD:=fun ds q=>∃ ps rs as c,ds=[aH ps rs,aT as,bZ c]∧Tree ps rs∧AsksOk ps as∧cF ps as c∧q .non []
theorem jY (T:Txt K mg A):FnOk P w K mg base CX0 7 A.f_q37 A.d_q37 ["tree","asks","change"] (aY [false,false,false] false (sdChd)):=by
 have S:=sy
 refine fnD T.t_q37.F S ⟨[false,false,false],[false,false,false,false,false],false⟩ _ ?hl rfl rfl fun cdv Ar outer s H E hr=>⟨_,(ad (bJ (ag (iS T) hr T.t_q10 (ah (aa 0) (ah (aa 1) aj))))
  (ad (aM (a_ (a7 (ag (tJ T) hr T.t_q17 (ah (aa 0) (ah (aa 1) (ah (aa 2) aj)))))) (af bx) aw)
  (ad (gC (i:=3) (j:=4) rfl S.nd rfl rfl (by decide) rfl rfl (ag (ok_q9 T) hr T.t_q9 (ah (aa 0) (ah (aa 2) aj))) (QF.qe (aW (ok_q8 T) hr T.t_q8 (ah (aa 1) (ah (aa 2) aj)))) rfl)
  (ad (qA (fun _ _ h=>h) (af (bJ (ag (iS T) hr T.t_q10 (ah (aa 3) (ah (aa 4) aj))))))
  (af (aF (aZ (ae (aa 3) (ae (aa 4) ak))))))))),fun ds q h=>?_⟩
 case hl=>intro ds q h; obtain ⟨ps,rs,as,c,rfl,_⟩:=h; rfl
 obtain ⟨ps,rs,as,c,rfl,hT,ha,hc,q0⟩:=h
 refine ⟨ps,rs,as,rfl,hT,ha,?_⟩
 refine ⟨ps,rs,as,c,rfl,hT,hc,?_⟩
 refine ⟨ps,rs,as,c,rfl,hT,hc,?_⟩
 refine ⟨ps,as,c,rfl,hc,?_⟩
 refine ⟨chP ps c,chR rs c,chA as c,rfl,eV hT hc,eP ha hc,?_⟩
 exact q0
theorem rX (T:Txt K mg A):FnOk P w K mg base CX0 8 A.f_q3 A.d_q3 ["tree","asks","change"] (aY [false,false,false] false (qT)):=by
 have S:=sc_q3
 refine fnD T.t_q3.F S ⟨[false,false,false],[false,false,false],false⟩ _ ?hl rfl rfl fun cdv Ar outer s H E hr=>⟨_,(af (bJ (ag (jY T) hr T.t_q37 (ah (aa 0) (ah (aa 1) (ah (aa 2) aj)))))),fun ds q h=>?_⟩
 case hl=>intro ds q h; obtain ⟨ps,rs,as,c,rfl,_⟩:=h; rfl
 obtain ⟨ps,rs,as,c,rfl,hT,ha,hc,q0⟩:=h
 refine ⟨ps,rs,as,c,rfl,hT,ha,hc,?_⟩
 exact q0
end
end K74
namespace K74
open PySem L2
section
variable {P:Program} {w:World} {K:PySem.W.Frag} {mg:Str→Option Value} {base:Heap} {A:Adr}
def chK (ks:List Int):Chg→List Int
 | .ask k _=>ks.filter fun x=>!decide (x=k)
 | .less k=>(ks.filter fun x=>!decide (x=k)).map fun x=>if k<x then x - 1 else x
 | _=>ks
theorem pp:inD (.str "room") [.str "ask",.str "less"]=false:=by decide +kernel
theorem mD:inD (.str "hang") [.str "ask",.str "less"]=false:=by decide +kernel
theorem pe:inD (.str "more") [.str "ask",.str "less"]=false:=by decide +kernel
theorem rJ:inD (.str "ask") [.str "ask",.str "less"]=true:=by decide +kernel
theorem mU:inD (.str "less") [.str "ask",.str "less"]=true:=by decide +kernel
def neF (t:Int):D→Option D
 | .int x=>if (!decide (x=t))=true then some (.int x) else none
 | _=>none
theorem i7 (t:Int):∀ l:List Int,(l.map D.int).filterMap (neF t)=(l.filter fun x=>!decide (x=t)).map D.int
 | []=>rfl
 | x :: l=>by
  have ih:=i7 t l
  rw [List.map_cons,List.filterMap_cons,List.filter_cons]
  have e:neF t (.int x)=if (!decide (x=t))=true then some (.int x) else none:=rfl
  rw [e]
  by_cases h:(!decide (x=t))=true
  ·rw [if_pos h,if_pos h]; simp only [List.map_cons]; rw [ih]
  ·rw [if_neg h,if_neg h]; simp only; rw [ih]
def dnF (k:Int):D→D
 | .int x=>.int (if k<x then x - 1 else x)
 | d=>d
def qD:SpD:=fun ds q=>∃ ps rs as c ks,ds=[aH ps rs,aT as,bZ c,az ks]∧Tree ps rs∧AsksOk ps as∧cF ps as c∧KeepOk as.length ks∧q (az (chK ks c)) []
theorem sh (T:Txt K mg A):FnOk P w K mg base CX0 9 A.f_q7 A.d_q7 ["tree","asks","change","keep"] (aY [false,false,false,false] true (qD)):=by
 have S:=sc_q7
 refine fnD T.t_q7.F S ⟨[false,false,false,false],[false,false,false,false,true],true⟩ _ ?hl rfl rfl fun cdv Ar outer s H E hr=>⟨_,(ad (bJ (ag (rX T) hr T.t_q3 (ah (aa 0) (ah (aa 1) (ah (aa 2) aj)))))
  (ad (bJ (ag (s8 T) hr T.t_q12 (ah (aa 0) (ah (aa 1) (ah (aa 3) aj)))))
  (ad (aM (aB cK dIn (ao ai dIx (aa 2) ac (fun _ _=>rfl)) (aZ (ae aV (ae aV ak))) rfl) (af (bg (QF.qm (bT aX dC rfl T.z_list bj (ae (aa 3) ak))))) aw)
  (ad (ji (i:=4) ["number"] [2] ⟨rfl,rfl,by decide +kernel,rfl,rfl,(by first | exact trivial | exact ⟨rfl,trivial⟩ | exact ⟨rfl,rfl,trivial⟩ | exact ⟨rfl,rfl,rfl,trivial⟩ | exact ⟨rfl,rfl,rfl,rfl,trivial⟩),rfl⟩ rfl S.nd rfl (Or.inl rfl) (b5 (aa 3)) (cG 0) (fun _ _ _ _=>⟨(bH (i:=0) (show List.Nodup (["number","change"]:List Str) by decide +kernel) rfl (Or.inl rfl)),(gc (aB (bO hr.units) dNe (aa 0) (ao ai dIx (aa 1) ac (fun _ _=>rfl)) (av _))),(aa 0)⟩))
  (ad (aM (aB (bb hr.units) dEq (ao ai dIx (aa 2) ac (fun _ _=>rfl)) aV (av _)) (af (bg (b6 4))) aw)
  (af (bg (QF.qm (QF.bor [4] (lq ["number"] [2] ⟨rfl,rfl,by decide +kernel,rfl,rfl,(by first | exact trivial | exact ⟨rfl,trivial⟩ | exact ⟨rfl,rfl,trivial⟩ | exact ⟨rfl,rfl,rfl,trivial⟩ | exact ⟨rfl,rfl,rfl,rfl,trivial⟩),rfl⟩ rfl (b5 (aa 4)) (cG 0) (fun _ _ _ _=>⟨(bH (i:=0) (show List.Nodup (["number","change"]:List Str) by decide +kernel) rfl (Or.inl rfl)),dq,(jE (aB gS dB (aa 0) (ao ai dIx (aa 1) ac (fun _ _=>rfl)) (av _)) (ar bF dI (aa 0) ac) (aa 0))⟩))))))))))),fun ds q h=>?_⟩
 case hl=>intro ds q h; obtain ⟨ps,rs,as,c,ks,rfl,_⟩:=h; rfl
 obtain ⟨ps,rs,as,c,ks,rfl,hT,ha,hc,hk,q0⟩:=h
 refine ⟨ps,rs,as,c,rfl,hT,ha,hc,?_⟩
 refine ⟨ps,rs,as,ks,rfl,hT,ha,hk,?_⟩
 have hkl:=hk.len
 have hal:=ha.len
 cases c with
 | room t r =>
  refine ⟨rfl,rfl,?_⟩
  rw [if_pos rfl,pp]
  exact ⟨aL ks,q0⟩
 | hang p r =>
  refine ⟨rfl,rfl,?_⟩
  rw [if_pos rfl,mD]
  exact ⟨aL ks,q0⟩
 | ask k a =>
  refine ⟨rfl,rfl,?_⟩
  rw [if_pos rfl,rJ]
  refine ⟨by rw [ay]; omega,?_⟩
  refine ff (neF k) ?_ ?_
  ·intro d hd kk hkk
   obtain ⟨x,hx,rfl⟩:=cQ hd
   have e:neF k (.int x)=if (!decide (x=k))=true then some (.int x) else none:=rfl
   rw [e] at hkk
   refine (b7 (c:=(!decide (x=k))=true) (fun c=>?_) (fun c=>?_))
   ·rw [if_pos c] at hkk; exact hkk
   ·rw [if_neg c] at hkk; exact hkk
  rw [i7]
  refine ⟨aL _,lS _ kA,lS _ kA,?_⟩
  rw [aR,decide_eq_true rfl]
  first | exact q0 | exact ⟨aL _,q0⟩
 | more a =>
  refine ⟨rfl,rfl,?_⟩
  rw [if_pos rfl,pe]
  exact ⟨aL ks,q0⟩
 | less k =>
  refine ⟨rfl,rfl,?_⟩
  rw [if_pos rfl,mU]
  refine ⟨by rw [ay]; omega,?_⟩
  refine ff (neF k) ?_ ?_
  ·intro d hd kk hkk
   obtain ⟨x,hx,rfl⟩:=cQ hd
   have e:neF k (.int x)=if (!decide (x=k))=true then some (.int x) else none:=rfl
   rw [e] at hkk
   refine (b7 (c:=(!decide (x=k))=true) (fun c=>?_) (fun c=>?_))
   ·rw [if_pos c] at hkk; exact hkk
   ·rw [if_neg c] at hkk; exact hkk
  rw [i7]
  have hfl:=List.length_filter_le (fun x=>!decide (x=k)) ks
  refine ⟨aL _,lS _ kL,lS _ kA,?_⟩
  rw [aR,decide_eq_false (by decide +kernel)]
  refine ⟨by rw [ay]; omega,?_⟩
  refine dh (dnF k) ?_ ?_
  ·intro d hd kk hkk
   obtain ⟨x,hx,rfl⟩:=cQ hd
   have e:dnF k (.int x) = .int (if k<x then x - 1 else x):=rfl
   rw [e] at hkk
   refine (b7 (c:=decide (k<x)=true) (fun c=>?_) (fun c=>?_))
   ·rw [if_pos (of_decide_eq_true c)] at hkk; exact hkk
   ·rw [if_neg (of_decide_eq_false (Bool.eq_false_iff.mpr c))] at hkk; exact hkk
  have e:((ks.filter fun x=>!decide (x=k)).map D.int).map (dnF k)=(chK ks (Chg.less k)).map D.int:=by
   show _=((ks.filter fun x=>!decide (x=k)).map fun x=>if k<x then x - 1 else x).map D.int
   rw [List.map_map,List.map_map]; rfl
  rw [e]
  first | exact q0 | exact ⟨aL _,q0⟩
def chQ (prs:List Rat):Chg→List Rat
 | .hang _ _=>prs++[0]
 | _=>prs
def sdCPr:SpD:=fun ds q=>∃ ps rs as c prs,ds=[aH ps rs,aT as,bZ c,dQs prs]∧Tree ps rs∧AsksOk ps as∧cF ps as c∧PrK ps prs∧q (dQs (chQ prs c)) []
theorem oQ (T:Txt K mg A):FnOk P w K mg base CX0 9 A.f_q1 A.d_q1 ["tree","asks","change","prices"] (aY [false,false,false,false] true (sdCPr)):=by
 have S:=sc_q1
 refine fnD T.t_q1.F S ⟨[false,false,false,false],[false,false,false,false],true⟩ _ ?hl rfl rfl fun cdv Ar outer s H E hr=>⟨_,(ad (bJ (ag (rX T) hr T.t_q3 (ah (aa 0) (ah (aa 1) (ah (aa 2) aj)))))
  (ad (bJ (ag (rF T) hr T.t_q4 (ah (aa 0) (ah (aa 3) aj))))
  (af (bg (QF.qm (pF (aB (bb hr.units) dEq (ao ai dIx (aa 2) ac (fun _ _=>rfl)) aV (av _)) (rQ fD lR (aa 3) (dZ (ae (aZ (ae ac (ae ac ak))) ak))) (bT aX dC rfl T.z_list bj (ae (aa 3) ak)))))))),fun ds q h=>?_⟩
 case hl=>intro ds q h; obtain ⟨ps,rs,as,c,prs,rfl,_⟩:=h; rfl
 obtain ⟨ps,rs,as,c,prs,rfl,hT,ha,hc,hp,q0⟩:=h
 refine ⟨ps,rs,as,c,rfl,hT,ha,hc,?_⟩
 refine ⟨ps,rs,prs,rfl,hT,hp.len,hp.nn,?_⟩
 cases c with
 | hang p r =>
  refine ⟨lS _ kH,lS _ kH,?_⟩
  rw [aR,decide_eq_true rfl]
  have e:dQs (chQ prs (Chg.hang p r)) = .lst (prs.map dQ++[.tup [.int 0,.int 1]]):=by
   show D.lst ((prs++[(0:Rat)]).map dQ)=_
   rw [List.map_append]; rfl
  rw [e] at q0
  have h1:=hp.len
  have h2:=hc.2.2.2.2
  refine ⟨by rw [List.length_map]; show prs.length + 1≤1000; omega,?_⟩
  first | exact q0 | exact ⟨jC (bP prs) rfl,q0⟩ | exact ⟨bP prs,rfl,q0⟩
 | room t r =>
  refine ⟨lS _ kR,lS _ kH,?_⟩
  rw [aR,decide_eq_false (by decide +kernel)]
  exact ⟨bP _,q0⟩
 | ask t r =>
  refine ⟨lS _ kA,lS _ kH,?_⟩
  rw [aR,decide_eq_false (by decide +kernel)]
  exact ⟨bP _,q0⟩
 | more a =>
  refine ⟨lS _ kM,lS _ kH,?_⟩
  rw [aR,decide_eq_false (by decide +kernel)]
  exact ⟨bP _,q0⟩
 | less k =>
  refine ⟨lS _ kL,lS _ kH,?_⟩
  rw [aR,decide_eq_false (by decide +kernel)]
  exact ⟨bP _,q0⟩
theorem kl {ps:List Int} {prs:List Rat} {c:Chg} (h:PrK ps prs):PrK (chP ps c) (chQ prs c):=by
 cases c with
 | hang p r =>
  obtain ⟨M,b,hp,h1⟩:=h
  refine ⟨M,b,⟨?_,fun x hx=>?_⟩,h1⟩
  ·show (prs++[0]).length=(ps++[p]).length
   rw [List.length_append,List.length_append,hp.len]; rfl
  ·rcases List.mem_append.mp hx with q | q
   ·exact hp.ok x q
   ·rw [List.mem_singleton.mp q]
    exact ⟨by decide,Rat.intCast_nonneg.mpr (by omega),DvM.zero M⟩
 | room _ _=>exact h
 | ask _ _=>exact h
 | more _=>exact h
 | less _=>exact h
def ue:SpD:=fun ds q=>∃ ps rs as c prs,ds=[aH ps rs,aT as,bZ c,dQs prs]∧Tree ps rs∧AsksOk ps as∧cF ps as c∧PrK ps prs∧q (dQ (eC (chP ps c) (chR rs c) (chA as c) (chQ prs c) - eC ps rs as prs)) []
theorem ok_q6 (T:Txt K mg A):FnOk P w K mg base CX0 11 A.f_q6 A.d_q6 ["tree","asks","change","prices"] (aY [false,false,false,false] false (ue)):=by
 have S:=sc_q6
 refine fnD T.t_q6.F S ⟨[false,false,false,false],[false,false,false,false,false,false,false],false⟩ _ ?hl rfl rfl fun cdv Ar outer s H E hr=>⟨_,(ad (dM (ag (jY T) hr T.t_q37 (ah (aa 0) (ah (aa 1) (ah (aa 2) aj)))) (ca rfl (aI (aJ (i:=4) S.nd rfl (Or.inl rfl)) (aI (aJ (i:=5) S.nd rfl (Or.inl rfl)) bL)) (ap (ap a6))))
  (ad (aE (i:=6) S.nd rfl (Or.inl rfl) (QF.qe (aW (oQ T) hr T.t_q1 (ah (aa 0) (ah (aa 1) (ah (aa 2) (ah (aa 3) aj)))))))
  (af (aF (ag (pT T) hr T.t_q56 (ah (ag (o5 T) hr T.t_q26 (ah (aa 4) (ah (aa 5) (ah (aa 6) aj)))) (ah (ag (o5 T) hr T.t_q26 (ah (aa 0) (ah (aa 1) (ah (aa 3) aj)))) aj))))))),fun ds q h=>?_⟩
 case hl=>intro ds q h; obtain ⟨ps,rs,as,c,prs,rfl,_⟩:=h; rfl
 obtain ⟨ps,rs,as,c,prs,rfl,hT,ha,hc,hp,q0⟩:=h
 refine ⟨ps,rs,as,c,rfl,hT,ha,hc,?_⟩
 refine ⟨ps,rs,as,c,prs,rfl,hT,ha,hc,hp,?_⟩
 refine ⟨_,_,_,_,rfl,eV hT hc,eP ha hc,kl hp,?_⟩
 refine ⟨ps,rs,as,prs,rfl,hT,ha,hp,?_⟩
 refine ⟨_,_,rfl,(d8 (eV hT hc) (eP ha hc) (kl hp)).mono (by omega),(d8 hT ha hp).mono (by omega),?_⟩
 exact q0
end
end K74
namespace K74
open PySem L2
section
variable {P:Program} {w:World} {K:PySem.W.Frag} {mg:Str→Option Value} {base:Heap} {A:Adr}
theorem iL (T:Txt K mg A):FnOk P w K mg base CX0 1 A.f_q47 A.d_q47 ["_law_script","_law_k"] (aY [false,false] true (sC K)):=by
 have S:=tT
 refine fnD T.t_q47.F S ⟨[false,false],[false,false,false,false],true⟩ _ ?hl rfl rfl fun cdv Ar outer s H E hr=>⟨_,(ad (aE (i:=2) S.nd rfl (Or.inl rfl) ac)
  (ad (dH (aM (aB fj dB (aa 1) (aA au cw rfl T.z_len bi (ae (aa 0) ak)) (av _)) (af (aE (i:=2) S.nd rfl (Or.inl rfl) (ao ai dIx (aa 0) (aa 1) (fun _ _=>rfl)))) aw))
  (ad (aE (i:=3) S.nd rfl (Or.inl rfl) (ar cx dIC (ar fw dIC (ar bC dI (ar bC dI (ar cx dIC (aa 2) ac) (ar fw dIC (ar fw dIC ac (aa 1)) (aa 1))) ac) ac) ac))
  (ad (aM (aB fj dB (aa 2) (ar dN dIC ac ac) (av _)) (af (aE (i:=2) S.nd rfl (Or.inl rfl) ac)) aw)
  (af (bg (QF.qm (fA (ae (aa 2) (ae (aa 3) ak)))))))))),fun ds q h=>?_⟩
 case hl=>intro ds q h; obtain ⟨φ,ns,k,rfl,_⟩:=h; rfl
 obtain ⟨φ,ns,k,rfl,hφ,h0,h1,q0⟩:=h
 refine ⟨fun ρ=>∃ z:Int,ρ=[some (.scr φ ns),some (.int k),some (.int z),none],?_,?_⟩
 ·refine ⟨hφ,?_⟩
  refine (b7 (c:=decide (k<(ns.length:Int))=true) (fun c=>?_) (fun c=>⟨0,rfl⟩))
  have c':k<ns.length:=by simpa using c
  refine ⟨hφ,?_⟩
  show (match atI ns k with | some n=>_ | none=>False)
  rw [tI h0 c']; exact ⟨_,rfl⟩
 rintro ρ ⟨z,rfl⟩
 refine ⟨(show (0:Int)<1000000007 by decide),Or.inl ⟨by decide,by decide⟩,Or.inr ⟨by omega,by omega⟩,Or.inr ⟨by decide,by decide⟩,(show (0:Int)<2147483647 by decide),?_⟩
 refine ⟨⟨by decide,by decide,by decide⟩,?_⟩
 refine (b7 (c:=decide (z<10 ^ 18)=true) (fun c=>?_) (fun c=>?_))
 ·exact ⟨rfl,q0 _ _ (Int.le_refl 0)⟩
 ·have c':(10:Int) ^ 18≤z:=by simpa using c
  exact ⟨rfl,q0 _ _ (by omega)⟩
theorem bG (T:Txt K mg A):FnOk P w K mg base CX0 1 A.f_q48 A.d_q48 ["_law_pool_here","_law_many"] (aY [true,false] false (sV)):=by
 have S:=tO
 refine fnD T.t_q48.F S ⟨[true,false],[true,false,false],false⟩ _ ?hl rfl rfl fun cdv Ar outer s H E hr=>⟨_,(ad (aM (QT.bor [0] (aB gS dB (ao ai dIx (aa 0) ac (fun _ _=>rfl)) ac (av _))) (ad (aE (i:=2) S.nd rfl (Or.inl rfl) (QE.bor [0] (ar cx dIC (ao ai dIx (aa 0) ac (fun _ _=>rfl)) (aa 1))))
  (ad (er (i:=0) rfl (QF.bor [0] (QE.qf (ar cR dIC (ao ai dIx (aa 0) ac (fun _ _=>rfl)) (aa 1)))) ac)
  (af (aF (aa 2))))) aw)
  (ad (er (i:=0) rfl (QF.bor [0] (QE.qf (ar cx dIC (ar bC dI (ar fw dIC (ao ai dIx (aa 0) ac (fun _ _=>rfl)) ac) ac) ac))) ac)
  (af (aF (QE.bor [0] (ar cx dIC (ar qp dIC (ar cx dIC (ar fw dIC (ao ai dIx (aa 0) ac (fun _ _=>rfl)) (ao ai dIx (aa 0) ac (fun _ _=>rfl))) ac) ac) (aa 1))))))),fun ds q h=>?_⟩
 case hl=>intro ds q h; obtain ⟨c,m,many,rfl,_⟩:=h; rfl
 obtain ⟨c,m,many,rfl,h0,hm,hs,q0⟩:=h
 refine (b7 (c:=decide (0<c)=true) (fun c1=>?_) (fun c1=>?_))
 ·refine ⟨hm,rfl,?_⟩
  refine ⟨⟨hm,hs⟩,rfl,?_⟩
  exact q0 _ (c / many) m (Int.emod_nonneg _ (Int.ne_of_gt hm)) (Int.emod_lt_of_pos _ hm) (Int.ediv_nonneg h0 (Int.le_of_lt hm))
 ·refine ⟨Or.inr ⟨by decide,by decide⟩,(show (0:Int)<2147483647 by decide),rfl,?_⟩
  have a1:=Int.emod_nonneg (m * 48271 + 11) (show (2147483647:Int)≠0 by decide)
  have a2:=Int.emod_lt_of_pos (m * 48271 + 11) (show (0:Int)<2147483647 by decide)
  refine ⟨Or.inl ⟨by omega,by omega⟩,(show (0:Int)<2147483629 by decide),⟨by decide,by decide⟩,hm,?_⟩
  exact ⟨rfl,q0 _ c _ (Int.emod_nonneg _ (Int.ne_of_gt hm)) (Int.emod_lt_of_pos _ hm) h0⟩
theorem ja (T:Txt K mg A):FnOk P w K mg base CX0 2 A.f_q34 A.d_q34 ["_law_pool_here","_law_most"] (aY [true,false] false (nV)):=by
 have S:=tL
 refine fnD T.t_q34.F S ⟨[true,false],[true,false,false],false⟩ _ ?hl rfl rfl fun cdv Ar outer s H E hr=>⟨_,(ad (aE (i:=2) S.nd rfl (Or.inl rfl) (ag (bG T) hr T.t_q48 (cA 0 (ah ac aj))))
  (ad (aM (aB (bb hr.units) dEq (aa 2) ac (av _)) (af (aF (ar bC dI ac (ag (bG T) hr T.t_q48 (cA 0 (ah (aA (dc rfl) mI rfl T.z_min gq (ae (aa 1) (ae ac ak))) aj)))))) aw)
  (ad (aM (aB (bb hr.units) dEq (aa 2) ac (av _)) (af (aF (ar bC dI ac (ag (bG T) hr T.t_q48 (cA 0 (ah (aA (dc rfl) mI rfl T.z_min gq (ae (aa 1) (ae ac ak))) aj)))))) aw)
  (ad (aM (aB (bb hr.units) dEq (aa 2) ac (av _)) (af (aF (ar bF dI (aa 1) (ag (bG T) hr T.t_q48 (cA 0 (ah (aA (dc rfl) mI rfl T.z_min gq (ae (aa 1) (ae ac ak))) aj)))))) aw)
  (af (aF (ar bC dI ac (ar cx dIC (ar bC dI (ar fw dIC (ag (bG T) hr T.t_q48 (cA 0 (ah (ar dN dIC ac ac) aj))) (ar dN dIC ac ac)) (ag (bG T) hr T.t_q48 (cA 0 (ah (ar dN dIC ac ac) aj)))) (aa 1))))))))),fun ds q h=>?_⟩
 case hl=>intro ds q h; obtain ⟨c,m,most,rfl,_⟩:=h; rfl
 obtain ⟨c,m,most,rfl,h0,hm0,hm1,q0⟩:=h
 refine ⟨c,m,4,rfl,h0,by decide,bM (n:=4) (by decide) (by decide +kernel),fun w0 c1 m1 w00 w01 h1=>?_⟩
 have hmin:∀ j:Int,1≤j→∃ z:Int,(if j<most then j else most)=z∧1≤z∧z≤most:=fun j hj=>by
  by_cases h:j<most
  ·exact ⟨j,by rw [if_pos h],hj,by omega⟩
  ·exact ⟨most,by rw [if_neg h],hm0,Int.le_refl _⟩
 refine (b7 (c:=decide (w0=0)=true) (fun c=>?_) (fun c=>?_))
 ·obtain ⟨z,ez,z0,z1⟩:=hmin 3 (by decide)
  refine ⟨c1,m1,z,by rw [← ez],h1,by omega,bM (n:=1000000000000) (by omega) (by decide +kernel),fun u c2 m2 u0 u1 h2=>?_⟩
  exact q0 _ c2 m2 (by omega) (by omega) h2
 refine (b7 (c:=decide (w0=1)=true) (fun c=>?_) (fun c=>?_))
 ·obtain ⟨z,ez,z0,z1⟩:=hmin 12 (by decide)
  refine ⟨c1,m1,z,by rw [← ez],h1,by omega,bM (n:=1000000000000) (by omega) (by decide +kernel),fun u c2 m2 u0 u1 h2=>?_⟩
  exact q0 _ c2 m2 (by omega) (by omega) h2
 refine (b7 (c:=decide (w0=2)=true) (fun c=>?_) (fun c=>?_))
 ·obtain ⟨z,ez,z0,z1⟩:=hmin 3 (by decide)
  refine ⟨c1,m1,z,by rw [← ez],h1,by omega,bM (n:=1000000000000) (by omega) (by decide +kernel),fun u c2 m2 u0 u1 h2=>?_⟩
  exact q0 _ c2 m2 (by omega) (by omega) h2
 refine ⟨⟨by decide,by decide,by decide⟩,?_⟩
 refine ⟨c1,m1,1000000,rfl,h1,by decide,bM (n:=1000000) (by decide) (by decide +kernel),fun u c2 m2 u0 u1 h2=>?_⟩
 refine ⟨⟨by decide,by decide,by decide⟩,Or.inr ⟨by decide,by decide⟩,?_⟩
 refine ⟨⟨by decide,by decide,by decide⟩,?_⟩
 refine ⟨c2,m2,1000000,rfl,h2,by decide,bM (n:=1000000) (by decide) (by decide +kernel),fun u' c3 m3 u0' u1' h3=>?_⟩
 refine ⟨(show (0:Int)<most by omega),?_⟩
 have e1:∀ z:Int,1≤1 + z % most:=fun z=>by have:=Int.emod_nonneg z (show most≠0 by omega); omega
 have e2:∀ z:Int,1 + z % most≤most:=fun z=>by have:=Int.emod_lt_of_pos z (show 0<most by omega); omega
 exact q0 _ c3 m3 (e1 _) (e2 _) h3
theorem u7 (T:Txt K mg A):FnOk P w K mg base CX0 2 A.f_q20 A.d_q20 ["_law_pool_here","_law_most"] (aY [true,false] true (mm)):=by
 have S:=sK
 refine fnD T.t_q20.F S ⟨[true,false],[true,false,false,true,false,false],true⟩ _ ?hl rfl rfl fun cdv Ar outer s H E hr=>⟨_,(ad (aE (i:=2) S.nd rfl (Or.inl rfl) (ag (bG T) hr T.t_q48 (cA 0 (ah ac aj))))
  (ad (b4 (i:=3) S.nd rfl (Or.inl rfl) (fA ak))
  (ad (cB PassesOwn.never rfl (iq rfl T.z_range (ae ac (ae (ar bC dI ac (ag (bG T) hr T.t_q48 (cA 0 (ah (aa 1) aj)))) ak))) (aJ (i:=4) S.nd rfl (Or.inl rfl)) (ad (aE (i:=5) S.nd rfl (Or.inl rfl) (ag (bG T) hr T.t_q48 (cA 0 (ah (aa 4) aj))))
  (af (bf (i:=3) rfl (QE.qf (ao ai dIx (dZ (ae (aa 5) (ae (ar bF dI (aa 4) ac) (ae ac (ae (aA (d9 rfl) dMax rfl T.z_max iH (ae ac (ae (ar bF dI (ar bF dI (aa 4) ac) (ar cx dIC (aa 5) ac)) ak))) ak))))) (aa 2) (fun _ _=>rfl)))))))
  (af (bg (b6 3)))))),fun ds q h=>?_⟩
 case hl=>intro ds q h; obtain ⟨c,m,most,rfl,_⟩:=h; rfl
 obtain ⟨c,m,most,rfl,h0,hm0,hm1,q0⟩:=h
 refine ⟨c,m,4,rfl,h0,by decide,bM (n:=4) (by decide) (by decide +kernel),fun w0 c1 m1 w00 w01 h1=>?_⟩
 refine ⟨rfl,?_⟩
 refine ⟨c1,m1,most,rfl,h1,by omega,bM (n:=23) (by omega) (by decide +kernel),fun n c2 m2 n0 n1 h2=>?_⟩
 refine ⟨⟨by omega,by omega,by omega⟩,?_⟩
 refine ⟨fun i ρ=>∃ (ps:List Int) (c m:Int) (v4 v5:Option D),ρ=[some (az [c,m]),some (.int most),some (.int w0),some (az ps),v4,v5]∧0≤c∧ps.length=i∧(∀ (j:Nat) (x:Int),ps[j]? = some x→0≤x∧x≤j),⟨[],c2,m2,_,_,rfl,h2,rfl,(fun j x h=>by simp at h)⟩,?_,?_⟩
 ·rintro i d ρ hd ⟨ps,c3,m3,v4,v5,rfl,h3,lp,hpar⟩
  obtain ⟨hi,rfl⟩:=f8 hd
  have hi2:i<23:=by omega
  refine ⟨c3,m3,1 + (i:Int),rfl,h3,by omega,bM (n:=23) (by omega) (by decide +kernel),fun r c4 m4 r0 r1 h4=>?_⟩
  refine ⟨(show (0:Int)<3 by decide),?_⟩
  have e1:=Int.emod_nonneg r (show (3:Int)≠0 by decide)
  obtain ⟨y,hy,y1,y2⟩:∃ y:Int,atI [D.int r,D.int (1 + (i:Int) - 1),D.int 0,D.int (if (0:Int)<1 + (i:Int) - 1 - r % 3 then 1 + (i:Int) - 1 - r % 3 else 0)] w0=some (.int y)∧0≤y∧y≤i:=by
   have:w0=0∨w0=1∨w0=2∨w0=3:=by omega
   rcases this with rfl | rfl | rfl | rfl
   ·exact ⟨_,rfl,by omega,by omega⟩
   ·exact ⟨_,rfl,by omega,by omega⟩
   ·exact ⟨_,rfl,by omega,by omega⟩
   ·exact ⟨_,rfl,by split <;> omega,by split <;> omega⟩
  refine dr hy ?_
  refine ⟨rfl,by rw [ay]; omega,?_⟩
  refine ⟨ps++[y],c4,m4,some (.int (1 + (i:Int))),some (.int r),?_,h4,by rw [List.length_append,lp]; rfl,fY hpar ⟨y1,by omega⟩⟩
  rw [← hE]; rfl
 ·rintro ρ ⟨ps,c3,m3,v4,v5,rfl,h3,lp,hpar⟩
  rw [de] at lp
  exact q0 ps c3 m3 ⟨by omega,by omega,hpar⟩ (by omega) h3
theorem sw (T:Txt K mg A):FnOk P w K mg base CX0 3 A.f_q39 A.d_q39 ["_law_pool_here","_law_many","_law_least"] (aY [true,false,false] true (qS)):=by
 have S:=uF
 refine fnD T.t_q39.F S ⟨[true,false,false],[true,false,false,false],true⟩ _ ?hl rfl rfl fun cdv Ar outer s H E hr=>⟨_,(ad (aE (i:=3) S.nd rfl (Or.inr rfl) (ao ai dIx (dZ (ae ac (ae ac (ae (ar dN dIC ac ac) ak)))) (ag (bG T) hr T.t_q48 (cA 0 (ah ac aj))) (fun _ _=>rfl)))
  (af (bg (QF.qm (mY ["_law_k"] [2,0,3] 0 2 ⟨rfl,rfl,by decide +kernel,rfl,rfl,(by first | exact trivial | exact ⟨rfl,trivial⟩ | exact ⟨rfl,rfl,trivial⟩ | exact ⟨rfl,rfl,rfl,trivial⟩ | exact ⟨rfl,rfl,rfl,rfl,trivial⟩),rfl⟩ rfl (g_ rfl T.z_range (ae (aa 1) ak)) (gD 0) (fun _ _ _ _=>⟨(bH (i:=0) (show List.Nodup (["_law_k","_law_least","_law_pool_here","_law_most"]:List Str) by decide +kernel) rfl (Or.inl rfl)),dq,(ar bC dI (ar bF dI (aa 1) ac) (ag (ja T) hr T.t_q34 (cA 2 (ah (ar bC dI (ar bF dI (aa 3) (aa 1)) ac) aj))))⟩)))))),fun ds q h=>?_⟩
 case hl=>intro ds q h; obtain ⟨c,m,n,least,rfl,_⟩:=h; rfl
 obtain ⟨c,m,n,least,rfl,h0,n0,n1,l0,l1,q0⟩:=h
 refine ⟨⟨by decide,by decide,by decide⟩,?_⟩
 refine ⟨c,m,3,rfl,h0,by decide,bM (n:=3) (by decide) (by decide +kernel),fun r c1 m1 r0 r1 h1=>?_⟩
 obtain ⟨z,hz,z1,z2⟩:∃ z:Int,atI [D.int 3,D.int 60,D.int (10 ^ Int.toNat 6)] r=some (.int z)∧3≤z∧z≤1000000:=by
  have:r=0∨r=1∨r=2:=by omega
  rcases this with rfl | rfl | rfl
  all_goals exact ⟨_,rfl,by decide,by decide⟩
 refine dr hz ?_
 refine ⟨⟨by omega,by omega⟩,?_⟩
 refine ⟨by rw [de]; omega,?_⟩
 refine ⟨fun i es d=>∃ (rs:List Int) (c m:Int),es=rs.map D.int∧d=az [c,m]∧0≤c∧rs.length=i∧(∀ (j:Nat) (x:Int),rs[j]? = some x→least≤x∧x≤1000000),⟨[],c1,m1,rfl,rfl,h1,rfl,(fun j x h=>by simp at h)⟩,?_,?_⟩
 ·rintro j x es d hx ⟨rs,c5,m5,rfl,rfl,h5,lr,hroom⟩
  refine ⟨c5,m5,z - least + 1,rfl,h5,by omega,by omega,fun u c6 m6 u0 u1 h6=>?_⟩
  exact ⟨rs++[least - 1 + u],c6,m6,(List.map_append (l₂:=[least - 1 + u])).symm,rfl,h6,by rw [List.length_append,lr]; rfl,fY hroom ⟨by omega,by omega⟩⟩
 ·rintro es d ⟨rs,c5,m5,rfl,rfl,h5,lr,hroom⟩
  rw [de] at lr
  refine ⟨aL _,?_⟩
  exact q0 rs c5 m5 ⟨by omega,hroom⟩ h5
theorem sr (T:Txt K mg A):FnOk P w K mg base CX0 2 A.f_q45 A.d_q45 ["_law_pool_here","_law_many"] (aY [true,false] false (qy)):=by
 have S:=vc
 refine fnD T.t_q45.F S ⟨[true,false],[true,false,false],false⟩ _ ?hl rfl rfl fun cdv Ar outer s H E hr=>⟨_,(ad (aE (i:=2) S.nd rfl (Or.inl rfl) (ag (bG T) hr T.t_q48 (cA 0 (ah (ar bC dI (aa 1) ac) aj))))
  (af (aF (aZ (ae (aa 2) (ae (ar cx dIC (ar bC dI (ar bC dI (aa 2) ac) (ag (bG T) hr T.t_q48 (cA 0 (ah (aa 1) aj)))) (ar bC dI (aa 1) ac)) ak)))))),fun ds q h=>?_⟩
 case hl=>intro ds q h; obtain ⟨c,m,n,rfl,_⟩:=h; rfl
 obtain ⟨c,m,n,rfl,h0,n0,n1,q0⟩:=h
 refine ⟨c,m,(n:Int) + 1,rfl,h0,by omega,bM (n:=24) (by omega) (by decide +kernel),fun a c1 m1 a0 a1 h1=>?_⟩
 refine ⟨c1,m1,(n:Int),rfl,h1,by omega,bM (n:=24) (by omega) (by decide +kernel),fun r c2 m2 r0 r1 h2=>?_⟩
 refine ⟨(show (0:Int)<(n:Int) + 1 by omega),?_⟩
 have he:=j8 (ps:=List.replicate n 0) (a:=a) (r:=r) a0 (by rw [List.length_replicate]; omega) r0 (by rw [List.length_replicate]; omega)
 rw [List.length_replicate,show 1 + (n:Int)=(n:Int) + 1 by omega] at he
 have hb1:=he.b1
 rw [List.length_replicate] at hb1
 exact q0 _ _ c2 m2 he.a0 (by omega) he.b0 hb1 he.ne h2
theorem nv (T:Txt K mg A):FnOk P w K mg base CX0 1 A.f_q59 A.d_q59 ["_law_parents_here","_law_place"] (aY [false,false] true (sdUpP)):=by
 have S:=uC
 refine fnD T.t_q59.F S ⟨[false,false],[false,false,true],true⟩ _ ?hl rfl rfl fun cdv Ar outer s H E hr=>⟨_,(ad (b4 (i:=2) S.nd rfl (Or.inl rfl) (fA ak))
  (ad (eM PassesOwn.never (aB gS dB (aa 1) ac (av _)) (ad (bf (i:=2) rfl (QE.qf (aa 1)))
  (af (aE (i:=1) S.nd rfl (Or.inl rfl) (ao ai dIx (aa 0) (ar bF dI (aa 1) ac) (fun _ _=>rfl))))))
  (af (bg (b6 2))))),fun ds q h=>?_⟩
 case hl=>intro ds q h; obtain ⟨ps,rs,k,rfl,_⟩:=h; rfl
 obtain ⟨ps,rs,k,rfl,hT,h0,h1,q0⟩:=h
 have hi:=hT.hi
 refine ⟨rfl,?_⟩
 refine ⟨fun j ρ=>∃ (k':Int) (acc:List Int),ρ=[some (az ps),some (.int k'),some (az acc)]∧0≤k'∧k'≤ps.length∧j=k'.toNat∧acc.length + k'.toNat≤24∧(∀ u,Up ps k' u→Up ps k (acc++u)),⟨_,k,[],rfl,h0,h1,rfl,by show 0 + k.toNat≤24; omega,fun u h=>h⟩,?_⟩
 rintro j ρ ⟨k',acc,rfl,h0',h1',rfl,hl,hu⟩
 refine (b7 (c:=decide (0<k')=true) (fun c=>?_) (fun c=>?_))
 ·have hk : 0<k':=by simpa using c
  have hp:=hT.up hk h1'
  refine ⟨rfl,by rw [ay]; omega,?_⟩
  refine dr (jk (by omega) (by omega)) ?_
  refine ⟨(dl ps k').toNat,by omega,dl ps k',acc++[k'],?_,hp.1,by omega,rfl,by rw [List.length_append]; show acc.length + 1 + _≤24; omega,fun u h=>by rw [List.append_assoc]; exact hu _ (.step hk h)⟩
  rw [← hE]; rfl
 ·have hk:k'=0:=by simp at c; omega
  subst hk
  exact q0 acc (hu [0] .zero)
theorem vh (T:Txt K mg A):FnOk P w K mg base CX0 2 A.f_q55 A.d_q55 ["_law_parents_here","_law_ask"] (aY [false,false] true (uA)):=by
 have S:=so
 refine fnD T.t_q55.F S ⟨[false,false],[false,false,false,false,false],true⟩ _ ?hl rfl rfl fun cdv Ar outer s H E hr=>⟨_,(ad (aE (i:=2) S.nd rfl (Or.inr rfl) (QF.qe (aW (nv T) hr T.t_q59 (ah (aa 0) (ah (ao ai dIx (aa 1) ac (fun _ _=>rfl)) aj)))))
  (ad (aE (i:=3) S.nd rfl (Or.inr rfl) (QF.qe (aW (nv T) hr T.t_q59 (ah (aa 0) (ah (ao ai dIx (aa 1) ac (fun _ _=>rfl)) aj)))))
  (ad (gP (i:=4) ["_law_tie"] [3] ⟨rfl,rfl,by decide +kernel,rfl,rfl,(by first | exact trivial | exact ⟨rfl,trivial⟩ | exact ⟨rfl,rfl,trivial⟩ | exact ⟨rfl,rfl,rfl,trivial⟩ | exact ⟨rfl,rfl,rfl,rfl,trivial⟩),rfl⟩ rfl S.nd rfl (Or.inl rfl) (b5 (aa 2)) (cG 0) (fun _ _ _ _=>⟨(bH (i:=0) (show List.Nodup (["_law_tie","_law_other"]:List Str) by decide +kernel) rfl (Or.inl rfl)),(gc (aB cK dIn (aa 0) (aa 1) rfl)),(aa 0)⟩))
  (af (bg (QF.qm (jr fq m_ rfl T.z_sorted h9 (ae (ik fD lR (aa 4) (je ["_law_tie"] [2] ⟨rfl,rfl,by decide +kernel,rfl,rfl,(by first | exact trivial | exact ⟨rfl,trivial⟩ | exact ⟨rfl,rfl,trivial⟩ | exact ⟨rfl,rfl,rfl,trivial⟩ | exact ⟨rfl,rfl,rfl,rfl,trivial⟩),rfl⟩ rfl (b5 (aa 3)) (cG 0) (fun _ _ _ _=>⟨(bH (i:=0) (show List.Nodup (["_law_tie","_law_one"]:List Str) by decide +kernel) rfl (Or.inl rfl)),(gc (aB cK dIn (aa 0) (aa 1) rfl)),(aa 0)⟩))) ak)))))))),fun ds q h=>?_⟩
 case hl=>intro ds q h; obtain ⟨ps,rs,a,b,rest,rfl,_⟩:=h; rfl
 obtain ⟨ps,rs,a,b,rest,rfl,hT,a0,a1,b0,b1,q0⟩:=h
 have hi:=hT.hi
 have i0:atI (D.int a :: D.int b :: rest) 0=some (.int a):=ge (j:=0) rfl
 have i1:atI (D.int a :: D.int b :: rest) 1=some (.int b):=ge (j:=1) rfl
 refine dr i0 ?_
 refine ⟨ps,rs,a,rfl,hT,a0,a1,fun va hua=>?_⟩
 refine dr i1 ?_
 refine ⟨ps,rs,b,rfl,hT,b0,b1,fun vb hub=>?_⟩
 have hl:=hua.len hT a1
 have hl2:=hub.len hT b1
 rw [List.length_append] at hl hl2
 refine ⟨by rw [ay]; simp at hl; omega,?_⟩
 refine ff (filD fun x=>!vb.contains x) ?_ ?_
 ·intro d hd k hk
  obtain ⟨x,hx,rfl⟩:=cQ hd
  refine ⟨rfl,ic vb,?_⟩
  change k (if (!vb.contains x)=true then some (.int x) else none) at hk
  show if (!inD (.int x) (vb.map D.int))=true then k (some (.int x)) else k none
  rw [ju]
  cases e:vb.contains x with
  | true=>rw [e] at hk; exact hk
  | false=>rw [e] at hk; exact hk
 rw [fP]
 have hf1:=List.length_filter_le (fun x=>!vb.contains x) va
 have hf2:=List.length_filter_le (fun x=>!va.contains x) vb
 simp at hl hl2
 refine ⟨by rw [ay]; omega,?_⟩
 refine ff (filD fun x=>!va.contains x) ?_ ?_
 ·intro d hd k hk
  obtain ⟨x,hx,rfl⟩:=cQ hd
  refine ⟨rfl,ic va,?_⟩
  change k (if (!va.contains x)=true then some (.int x) else none) at hk
  show if (!inD (.int x) (va.map D.int))=true then k (some (.int x)) else k none
  rw [ju]
  cases e:va.contains x with
  | true=>rw [e] at hk; exact hk
  | false=>rw [e] at hk; exact hk
 rw [fP]
 refine ⟨by rw [ay,ay]; omega,?_⟩
 rw [← List.map_append]
 refine ⟨_,rfl,by rw [List.length_append]; omega,aL _,?_⟩
 rw [← qG hT a0 b0 a1 b1 hua hub]
 exact q0
def uW:SpD:=fun ds q=>∃ t b,ds=[.int t,.int b]∧0<b∧Sm b∧q (dQ (Rat.divInt t b)) []
theorem mH (T:Txt K mg A):FnOk P w K mg base CX0 1 A.f_q54 A.d_q54 ["_law_top","_law_bottom"] (aY [false,false] false (uW)):=by
 have S:=tV
 refine fnD T.t_q54.F S ⟨[false,false],[false,false,false,false],false⟩ _ ?hl rfl rfl fun cdv Ar outer s H E hr=>⟨_,(ad (aE (i:=2) S.nd rfl (Or.inl rfl) (aa 0))
  (ad (aE (i:=3) S.nd rfl (Or.inl rfl) (aa 1))
  (ad (eM PassesOwn.never (aB (bO hr.units) dNe (aa 3) ac (av _)) (af (gC (i:=2) (j:=3) rfl S.nd rfl rfl (by decide) rfl rfl (aa 3) (ar cx dIC (aa 2) (aa 3)) rfl)))
  (af (aF (aZ (ae (ar cR dIC (aa 0) (aa 2)) (ae (ar cR dIC (aa 1) (aa 2)) ak)))))))),fun ds q h=>?_⟩
 case hl=>intro ds q h; obtain ⟨t,b,rfl,_⟩:=h; rfl
 obtain ⟨t,b,rfl,hb,hs,q0⟩:=h
 refine ⟨fun k ρ=>∃ n' b':Int,ρ=[some (.int t),some (.int b),some (.int n'),some (.int b')]∧0≤b'∧b'.toNat=k∧bX n' b'=bX t b,⟨_,t,b,rfl,Int.le_of_lt hb,rfl,rfl⟩,?_⟩
 rintro k ρ ⟨n',b',rfl,hb',hk,hg⟩
 refine (b7 (c:=(!decide (b'=0))=true) (fun c=>?_) (fun c=>?_))
 ·have c':b'≠0:=by simpa using c
  have hp : 0<b':=by omega
  refine ⟨hp,?_⟩
  have:=Int.emod_lt_of_pos n' hp
  have:=Int.emod_nonneg n' (show b'≠0 by omega)
  exact ⟨_,by omega,b',n' % b',rfl,by omega,rfl,by rw [ig hp]; exact hg⟩
 ·have c':b'=0:=by simpa using c
  subst c'
  have e:n'=bX t b:=by rw [← hg]; unfold bX; rw [if_pos rfl]
  subst e
  have g:=dW (n:=t) hb
  have gl:=iU (n:=t) hb
  have gs:Sm (bX t b):=by show (bX t b).natAbs<_; exact Nat.lt_of_le_of_lt (by omega) hs
  refine ⟨⟨g,gs⟩,⟨g,gs⟩,?_⟩
  rw [i8 hb,i3 hb]
  exact q0
theorem qv {r:Rat} {t b:Int} (hb : 0<b):Rat.divInt (r.num * b + t * (r.den:Int)) ((r.den:Int) * b)=r + Rat.divInt t b:=by
 have hd:((r.den:Int):Rat)≠0:=fun z=>by have:=Rat.intCast_eq_zero_iff.mp z; have:=r.den_pos; omega
 have hq:((b:Int):Rat)≠0:=fun z=>by have:=Rat.intCast_eq_zero_iff.mp z; omega
 have e:=ce r
 rw [Rat.divInt_eq_div] at e
 rw [Rat.divInt_eq_div,Rat.divInt_eq_div,Rat.intCast_add,Rat.intCast_mul,Rat.intCast_mul,Rat.intCast_mul]
 generalize ((r.den:Int):Rat)=x at hd e
 generalize ((r.num:Int):Rat)=y at e
 generalize ((b:Int):Rat)=z at hq
 generalize ((t:Int):Rat)=u
 rw [← e]
 grind
structure LeN (t:Int) (n:Nat):Prop where
 h:t.natAbs<2 ^ n
def rg:SpD:=fun ds q=>∃ (r:Rat) (t b:Int),ds=[dQ r,.tup [.int t,.int b]]∧0<b∧Bt r 3000∧LeN t 3000∧LeN b 3000∧q (dQ (r + Rat.divInt t b)) []
theorem iT (T:Txt K mg A):FnOk P w K mg base CX0 2 A.f_q46 A.d_q46 ["_law_one","_law_other"] (aY [false,false] false (rg)):=by
 have S:=ul
 refine fnD T.t_q46.F S ⟨[false,false],[false,false],false⟩ _ ?hl rfl rfl fun cdv Ar outer s H E hr=>⟨_,(af (aF (ag (mH T) hr T.t_q54 (ah (ar bC dI (ar bI dIC (ao ai dIx (aa 0) ac (fun _ _=>rfl)) (ao ai dIx (aa 1) ac (fun _ _=>rfl))) (ar bI dIC (ao ai dIx (aa 1) ac (fun _ _=>rfl)) (ao ai dIx (aa 0) ac (fun _ _=>rfl)))) (ah (ar bI dIC (ao ai dIx (aa 0) ac (fun _ _=>rfl)) (ao ai dIx (aa 1) ac (fun _ _=>rfl))) aj))))),fun ds q h=>?_⟩
 case hl=>intro ds q h; obtain ⟨r,t,b,rfl,_⟩:=h; rfl
 obtain ⟨r,t,b,rfl,hb,hr,ht,hb2,q0⟩:=h
 have sb:Sm b:=Nat.lt_of_lt_of_le hb2.h (bY (by decide))
 refine ⟨⟨hr.smN (by decide),sb⟩,⟨Nat.lt_of_lt_of_le ht.h (bY (by decide)),hr.smD (by decide)⟩,⟨hr.smD (by decide),sb⟩,?_⟩
 have hd:=a8 r
 refine ⟨r.num * b + t * (r.den:Int),(r.den:Int) * b,rfl,Int.mul_pos hd hb,?_,?_⟩
 ·show ((r.den:Int) * b).natAbs<_
  rw [Int.natAbs_mul,Int.natAbs_natCast]
  exact Nat.lt_of_lt_of_le (bh (m:=3000) (n:=3000) hr.den hb2.h) (bY (by decide))
 ·rw [qv hb]; exact q0
end
end K74
namespace K74
open PySem L2
section
variable {P:Program} {w:World} {K:PySem.W.Frag} {mg:Str→Option Value} {base:Heap} {A:Adr}
def oq (ps:List Int):Chg→Prop
 | .room t r=>1≤t∧t≤(ps.length:Int)∧1≤r∧r≤1000000
 | .hang p r=>0≤p∧p≤(ps.length:Int)∧1≤r∧r≤1000000
 | .ask k a=>0≤k∧AskOk ps a
 | .more a=>AskOk ps a
 | .less k=>0≤k
theorem rh (c:Chg):imm (bZ c)=true:=by cases c <;> rfl
def rd:SpD:=fun ds q=>∃ c m ps rs as,ds=[az [c,m],aH ps rs,aT as]∧0≤c∧Tree ps rs∧AsksOk ps as∧∀ ch c' m',oq ps ch→0≤c'→q (bZ ch) [some (az [c',m'])]
theorem tR (T:Txt K mg A):FnOk P w K mg base CX0 3 A.f_q33 A.d_q33 ["_law_pool_here","_law_tree","_law_asks"] (aY [true,false,false] false (rd)):=by
 have S:=tM
 refine fnD T.t_q33.F S ⟨[true,false,false],[true,false,false,false,false,false,false,false,false,true],false⟩ _ ?hl rfl rfl fun cdv Ar outer s H E hr=>⟨_,(ad (aE (i:=3) S.nd rfl (Or.inl rfl) (aA au cw rfl T.z_len bi (ae (ao ai dIx (aa 1) ac (fun _ _=>rfl)) ak)))
  (ad (dM (ag (sr T) hr T.t_q45 (cA 0 (ah (aa 3) aj))) (ca rfl (aI (aJ (i:=4) S.nd rfl (Or.inl rfl)) (aI (aJ (i:=5) S.nd rfl (Or.inl rfl)) bL)) (ap (ap a6))))
  (ad (aE (i:=6) S.nd rfl (Or.inl rfl) (aZ (ae (aa 4) (ae (aa 5) (ae (ag (ja T) hr T.t_q34 (cA 0 (ah (ar dN dIC ac ac) aj))) (ae (ag (ja T) hr T.t_q34 (cA 0 (ah (ar dN dIC ac ac) aj))) ak))))))
  (ad (aE (i:=7) S.nd rfl (Or.inl rfl) (ag (bG T) hr T.t_q48 (cA 0 (ah (aA (d9 rfl) dMax rfl T.z_max iH (ae ac (ae (aA au cw rfl T.z_len bi (ae (aa 2) ak)) ak))) aj))))
  (ad (dH (aE (i:=8) S.nd rfl (Or.inl rfl) (ag (ja T) hr T.t_q34 (cA 0 (ah (ar dN dIC ac ac) aj)))))
  (ad (b4 (i:=9) S.nd rfl (Or.inl rfl) (fA (ae (aZ (ae aV (ae (aa 6) ak))) (ae (aZ (ae aV (ae (aa 6) ak))) (ae (aZ (ae aV (ae (aa 7) (ae (aa 6) ak)))) (ae (aZ (ae aV (ae (aa 7) ak))) ak))))))
  (ad (bf (i:=9) rfl (QE.qf (aZ (ae aV (ae (ar bC dI ac (ag (bG T) hr T.t_q48 (cA 0 (ah (aa 3) aj)))) (ae (aa 8) ak))))))
  (ad (bf (i:=9) rfl (QE.qf (aZ (ae aV (ae (ag (bG T) hr T.t_q48 (cA 0 (ah (ar bC dI (aa 3) ac) aj))) (ae (aa 8) ak))))))
  (af (aF (QE.bor [9] (ao ai dIx (aa 9) (ag (bG T) hr T.t_q48 (cA 0 (ah ac aj))) (fun _ _=>rfl))))))))))))),fun ds q h=>?_⟩
 case hl=>intro ds q h; obtain ⟨c,m,ps,rs,as,rfl,_⟩:=h; rfl
 obtain ⟨c,m,ps,rs,as,rfl,h0,hT,ha,q0⟩:=h
 have hi:=hT.hi
 have hlo:=hT.lo
 have hal:=ha.len
 refine ⟨c,m,ps.length,by rw [ay],h0,hlo,hi,fun a b c1 m1 a0 a1 b0 b1 hab h1=>?_⟩
 have he:Ends2 ps a b:=⟨a0,a1,b0,b1,hab⟩
 refine ⟨⟨by decide,by decide,by decide⟩,?_⟩
 refine ⟨c1,m1,1000000,rfl,h1,by decide,by decide,fun size c2 m2 s0 s1 h2=>?_⟩
 refine ⟨⟨by decide,by decide,by decide⟩,?_⟩
 refine ⟨c2,m2,1000000000000,rfl,h2,by decide,by decide,fun worth c3 m3 w0 w1 h3=>?_⟩
 have ok:AskOk ps ⟨a,b,size,worth⟩:=⟨he,s0,s1,w0,w1⟩
 have hmx : 0<(if (1:Int)<((as.map bc).length:Int) then ((as.map bc).length:Int) else 1)∧(if (1:Int)<((as.map bc).length:Int) then ((as.map bc).length:Int) else 1)≤30:=by
  rw [bR]; split <;> omega
 refine ⟨c3,m3,_,rfl,h3,hmx.1,bM (n:=30) (by have:=hmx.1; have:=hmx.2; omega) (by decide +kernel),fun k c4 m4 k0 k1 h4=>?_⟩
 refine ⟨fun ρ=>∃ (r c m:Int),ρ=[some (az [c,m]),some (aH ps rs),some (aT as),some (.int ((ps.map D.int).length:Int)),some (.int a),some (.int b),some (bc ⟨a,b,size,worth⟩),some (.int k),some (.int r),none]∧0≤c∧1≤r∧r≤1000000,?_,?_⟩
 ·refine ⟨⟨by decide,by decide,by decide⟩,?_⟩
  refine ⟨c4,m4,1000000,rfl,h4,by decide,by decide,fun r c5 m5 r0 r1 h5=>?_⟩
  exact ⟨r,c5,m5,rfl,h5,r0,r1⟩
 rintro ρ ⟨r,c5,m5,rfl,h5,r0,r1⟩
 refine ⟨rfl,c5,m5,((ps.map D.int).length:Int),rfl,h5,by rw [ay]; omega,bM (n:=23) (by rw [ay]; omega) (by decide +kernel),fun t c6 m6 t0 t1 h6=>?_⟩
 rw [ay] at t1
 refine ⟨rfl,(show 4<1000 by omega),?_⟩
 refine ⟨c6,m6,((ps.map D.int).length:Int) + 1,rfl,h6,by rw [ay]; omega,bM (n:=24) (by rw [ay]; omega) (by decide +kernel),fun p c7 m7 p0 p1 h7=>?_⟩
 rw [ay] at p1
 refine ⟨rfl,(show 5<1000 by omega),?_⟩
 refine ⟨c7,m7,6,rfl,h7,by decide,bM (n:=6) (by decide) (by decide +kernel),fun z c8 m8 z0 z1 h8=>?_⟩
 obtain ⟨ch,hy,hd⟩:∃ ch,atI [bZ (.more ⟨a,b,size,worth⟩),bZ (.more ⟨a,b,size,worth⟩),bZ (.ask k ⟨a,b,size,worth⟩),bZ (.less k),bZ (.room (1 + t) r),bZ (.hang p r)] z=some (bZ ch)∧oq ps ch:=by
  have:z=0∨z=1∨z=2∨z=3∨z=4∨z=5:=by omega
  rcases this with rfl | rfl | rfl | rfl | rfl | rfl
  ·exact ⟨_,rfl,ok⟩
  ·exact ⟨_,rfl,ok⟩
  ·exact ⟨_,rfl,k0,ok⟩
  ·exact ⟨_,rfl,k0⟩
  ·exact ⟨_,rfl,by omega,by omega,r0,r1⟩
  ·exact ⟨_,rfl,p0,by omega,r0,r1⟩
 refine dr hy ?_
 exact ⟨rh ch,q0 ch c8 m8 hd h8⟩
def jd (ps:List Int) (as:List Ask):Chg→Bool
 | .room _ _=>true
 | .hang _ _=>decide ((ps.length:Int)<23)
 | .ask k _=>decide (k<(as.length:Int))
 | .more _=>decide ((as.length:Int)<30)
 | .less k=>decide (k<(as.length:Int))
def sv:SpD:=fun ds q=>∃ ps rs as c,ds=[aH ps rs,aT as,bZ c]∧q (.bl (jd ps as c)) []
theorem uN (T:Txt K mg A):FnOk P w K mg base CX0 1 A.f_q32 A.d_q32 ["_law_tree","_law_asks","_law_change_here"] (aY [false,false,false] false (sv)):=by
 have S:=sY
 refine fnD T.t_q32.F S ⟨[false,false,false],[false,false,false],false⟩ _ ?hl rfl rfl fun cdv Ar outer s H E hr=>⟨_,(ad (aM (aB h_ dIn (ao ai dIx (aa 2) ac (fun _ _=>rfl)) (aZ (ae aV (ae aV ak))) rfl) (af (aF (bN fj dB (ao ai dIx (aa 2) ac (fun _ _=>rfl)) (aA au cw rfl T.z_len bi (ae (aa 1) ak)) (av _)))) aw)
  (ad (aM (aB (bb hr.units) dEq (ao ai dIx (aa 2) ac (fun _ _=>rfl)) aV (av _)) (af (aF (bN fj dB (aA au cw rfl T.z_len bi (ae (aa 1) ak)) ac (av _)))) aw)
  (af (aF (o4 (bN (bb hr.units) dEq (ao ai dIx (aa 2) ac (fun _ _=>rfl)) aV (av _)) (cP (bN fj dB (aA au cw rfl T.z_len bi (ae (ao ai dIx (aa 0) ac (fun _ _=>rfl)) ak)) ac (av _)))))))),fun ds q h=>?_⟩
 case hl=>intro ds q h; obtain ⟨ps,rs,as,c,rfl,_⟩:=h; rfl
 obtain ⟨ps,rs,as,c,rfl,q0⟩:=h
 cases c with
 | room t r =>
  refine ⟨rfl,rfl,?_⟩
  rw [if_neg (show ¬ (false=true) by decide),pp]
  refine ⟨lS _ kR,lS _ kM,?_⟩
  rw [aR,decide_eq_false (by decide +kernel)]
  refine ⟨lS _ kR,lS _ kR,?_⟩
  rw [aR,decide_eq_true rfl]
  exact q0
 | hang p r =>
  refine ⟨rfl,rfl,?_⟩
  rw [if_neg (show ¬ (false=true) by decide),mD]
  refine ⟨lS _ kH,lS _ kM,?_⟩
  rw [aR,decide_eq_false (by decide +kernel)]
  refine ⟨lS _ kH,lS _ kR,?_⟩
  rw [aR,decide_eq_false (by decide +kernel)]
  have e:jd ps as (Chg.hang p r)=decide (((ps.map D.int).length:Int)<23):=by rw [ay]; rfl
  rw [e] at q0; exact q0
 | ask k a =>
  refine ⟨rfl,rfl,?_⟩
  rw [if_neg (show ¬ (false=true) by decide),rJ]
  have e:jd ps as (Chg.ask k a)=decide (k<((as.map bc).length:Int)):=by rw [bR]; rfl
  rw [e] at q0; exact q0
 | more a =>
  refine ⟨rfl,rfl,?_⟩
  rw [if_neg (show ¬ (false=true) by decide),pe]
  refine ⟨lS _ kM,lS _ kM,?_⟩
  rw [aR,decide_eq_true rfl]
  have e:jd ps as (Chg.more a)=decide (((as.map bc).length:Int)<30):=by rw [bR]; rfl
  rw [e] at q0; exact q0
 | less k =>
  refine ⟨rfl,rfl,?_⟩
  rw [if_neg (show ¬ (false=true) by decide),mU]
  have e:jd ps as (Chg.less k)=decide (k<((as.map bc).length:Int)):=by rw [bR]; rfl
  rw [e] at q0; exact q0
end
end K74
namespace K74
open PySem L2
section
variable {P:Program} {w:World} {K:PySem.W.Frag} {mg:Str→Option Value} {base:Heap} {A:Adr}
def ou:SpD:=fun ds q=>∃ ps rs as c,ds=[aH ps rs,aT as,bZ c]∧Tree ps rs∧AsksOk ps as∧cF ps as c∧q (.tup [aH (chP ps c) (chR rs c),aT (chA as c)]) []
theorem mT (T:Txt K mg A):FnOk P w K mg base CX0 1 A.f_q31 A.d_q31 ["_law_tree","_law_asks","_law_change_here"] (aY [false,false,false] false (ou)):=by
 have S:=uf
 refine fnD T.t_q31.F S ⟨[false,false,false],[false,false,false,true,true,true],false⟩ _ ?hl rfl rfl fun cdv Ar outer s H E hr=>⟨_,(ad (nW (i:=3) (j:=4) (k:=5) rfl S.nd rfl rfl rfl rfl rfl rfl (bT aX dC rfl T.z_list bj (ae (ao ai dIx (aa 0) ac (fun _ _=>rfl)) ak)) (bT aX dC rfl T.z_list bj (ae (ao ai dIx (aa 0) ac (fun _ _=>rfl)) ak)) (bT aX dC rfl T.z_list bj (ae (aa 1) ak)) rfl)
  (ad (aM (aB (bb hr.units) dEq (ao ai dIx (aa 2) ac (fun _ _=>rfl)) aV (av _)) (af (er (i:=4) rfl (QE.qf (ao ai dIx (aa 2) ac (fun _ _=>rfl))) (ar bF dI (ao ai dIx (aa 2) ac (fun _ _=>rfl)) ac))) (af (aM (aB (bb hr.units) dEq (ao ai dIx (aa 2) ac (fun _ _=>rfl)) aV (av _)) (ad (bf (i:=3) rfl (QE.qf (ao ai dIx (aa 2) ac (fun _ _=>rfl))))
  (af (bf (i:=4) rfl (QE.qf (ao ai dIx (aa 2) ac (fun _ _=>rfl)))))) (af (aM (aB (bb hr.units) dEq (ao ai dIx (aa 2) ac (fun _ _=>rfl)) aV (av _)) (af (bf (i:=5) rfl (QE.qf (ao ai dIx (aa 2) ac (fun _ _=>rfl))))) (af (aM (aB (bb hr.units) dEq (ao ai dIx (aa 2) ac (fun _ _=>rfl)) aV (av _)) (af (b4 (i:=5) S.nd rfl (Or.inl rfl) (QF.bor [5] (rQ fD lR (gE (aa 5) iF (jb (ao ai dIx (aa 2) ac (fun _ _=>rfl)))) (gE (aa 5) (jb (ar bC dI (ao ai dIx (aa 2) ac (fun _ _=>rfl)) ac)) iF))))) (af (er (i:=5) rfl (QE.qf (ao ai dIx (aa 2) ac (fun _ _=>rfl))) (ao ai dIx (aa 2) ac (fun _ _=>rfl)))))))))))
  (af (jG (iV (cn (iV (cn (b6 3) (cn (b6 4) gg))) (cn (b6 5) gg))))))),fun ds q h=>?_⟩
 case hl=>intro ds q h; obtain ⟨ps,rs,as,c,rfl,_⟩:=h; rfl
 obtain ⟨ps,rs,as,c,rfl,hT,ha,hc,q0⟩:=h
 have hi:=fF as
 have hL:=hT.len
 have ip:=aL ps
 have ir:=aL rs
 cases c with
 | room t r =>
  obtain ⟨t0,t1,-,-⟩:=hc
  refine ⟨ip,ir,hi,lS _ kR,lS _ kR,?_⟩
  rw [aR,decide_eq_true rfl]
  refine ⟨rfl,?_⟩
  show (match ixN (rs.map D.int).length (t - 1) with | some _=>_ | none=>False)
  rw [ay,gb (by omega) (by omega)]
  have e:aH (chP ps (Chg.room t r)) (chR rs (Chg.room t r)) = .tup [.lst (ps.map D.int),.lst ((rs.map D.int).set (t - 1).toNat (.int r))]:=by
   show D.tup [.lst (ps.map D.int),.lst ((rs.set (t - 1).toNat r).map D.int)]=_
   rw [List.map_set]
  rw [e] at q0; exact q0
 | hang p r =>
  obtain ⟨-,-,-,-,hn⟩:=hc
  refine ⟨ip,ir,hi,lS _ kH,lS _ kR,?_⟩
  rw [aR,decide_eq_false (by decide +kernel)]
  refine ⟨lS _ kH,lS _ kH,?_⟩
  rw [aR,decide_eq_true rfl]
  refine ⟨rfl,by rw [ay]; omega,rfl,by rw [ay]; omega,?_⟩
  have e:aH (chP ps (Chg.hang p r)) (chR rs (Chg.hang p r)) = .tup [.lst (ps.map D.int++[.int p]),.lst (rs.map D.int++[.int r])]:=by
   show D.tup [.lst ((ps++[p]).map D.int),.lst ((rs++[r]).map D.int)]=_
   rw [List.map_append,List.map_append]; rfl
  rw [e] at q0; exact q0
 | more a =>
  have hn:=hc.1
  refine ⟨ip,ir,hi,lS _ kM,lS _ kR,?_⟩
  rw [aR,decide_eq_false (by decide +kernel)]
  refine ⟨lS _ kM,lS _ kH,?_⟩
  rw [aR,decide_eq_false (by decide +kernel)]
  refine ⟨lS _ kM,lS _ kM,?_⟩
  rw [aR,decide_eq_true rfl]
  refine ⟨rfl,by rw [List.length_map]; omega,?_⟩
  have e:aT (chA as (Chg.more a)) = .lst (as.map bc++[bc a]):=by
   show D.lst ((as++[a]).map bc)=_
   rw [List.map_append]; rfl
  rw [e] at q0; exact q0
 | less k =>
  obtain ⟨k0,k1⟩:=hc
  refine ⟨ip,ir,hi,lS _ kL,lS _ kR,?_⟩
  rw [aR,decide_eq_false (by decide +kernel)]
  refine ⟨lS _ kL,lS _ kH,?_⟩
  rw [aR,decide_eq_false (by decide +kernel)]
  refine ⟨lS _ kL,lS _ kM,?_⟩
  rw [aR,decide_eq_false (by decide +kernel)]
  refine ⟨lS _ kL,lS _ kL,?_⟩
  rw [aR,decide_eq_true rfl]
  have e1:dO (as.map bc) none (some k)=(as.map bc).take k.toNat:=l3 k0
  have e2:dO (as.map bc) (some (k + 1)) none=(as.map bc).drop (k.toNat + 1):=by
   rw [show k.toNat + 1=(k + 1).toNat by omega]; exact lT (by omega)
  have hal:=ha.len
  have e3:(as.map bc).take k.toNat++(as.map bc).drop (k.toNat + 1)=(as.eraseIdx k.toNat).map bc:=by
   rw [fv,List.eraseIdx_eq_take_drop_succ]
  show (dO (as.map bc) none (some k)).length + (dO (as.map bc) (some (k + 1)) none).length≤1000∧_
  refine ⟨by rw [e1,e2,List.length_take,List.length_drop,List.length_map]; omega,?_⟩
  rw [e1,e2,e3]
  first | exact q0 | exact ⟨fF _,q0⟩
 | ask k a =>
  obtain ⟨k0,k1,-⟩:=hc
  refine ⟨ip,ir,hi,lS _ kA,lS _ kR,?_⟩
  rw [aR,decide_eq_false (by decide +kernel)]
  refine ⟨lS _ kA,lS _ kH,?_⟩
  rw [aR,decide_eq_false (by decide +kernel)]
  refine ⟨lS _ kA,lS _ kM,?_⟩
  rw [aR,decide_eq_false (by decide +kernel)]
  refine ⟨lS _ kA,lS _ kL,?_⟩
  rw [aR,decide_eq_false (by decide +kernel)]
  refine ⟨rfl,?_⟩
  show (match ixN (as.map bc).length k with | some _=>_ | none=>False)
  rw [List.length_map,gb k0 (by omega)]
  have e:aT (chA as (Chg.ask k a)) = .lst ((as.map bc).set k.toNat (bc a)):=by
   show D.lst ((as.set k.toNat a).map bc)=_
   rw [List.map_set]
  rw [e] at q0; exact q0
def fh (ps:List Int) (as:List Ask) (c:Chg):Bool:=jd ps as c&&(match c with | .more _=>decide ((as.length:Int)<8) | .hang _ _=>decide ((ps.length:Int)<10) | _=>true)
def sdLet:SpD:=fun ds q=>∃ ps rs as c,ds=[bZ c,aH ps rs,aT as]∧q (.bl (fh ps as c)) []
theorem tN (T:Txt K mg A):FnOk P w K mg base CX0 2 A.f_q53 A.d_q53 ["_law_change_here","_law_tree","_law_asks"] (aY [false,false,false] false (sdLet)):=by
 have S:=tw
 refine fnD T.t_q53.F S ⟨[false,false,false],[false,false,false],false⟩ _ ?hl rfl rfl fun cdv Ar outer s H E hr=>⟨_,(ad (aM (a_ (a7 (ag (uN T) hr T.t_q32 (ah (aa 1) (ah (aa 2) (ah (aa 0) aj)))))) (af (aF dE)) aw)
  (ad (aM (aB (bb hr.units) dEq (ao ai dIx (aa 0) ac (fun _ _=>rfl)) aV (av _)) (af (aF (bN fj dB (aA au cw rfl T.z_len bi (ae (aa 2) ak)) ac (av _)))) aw)
  (af (aF (o4 (bN (bO hr.units) dNe (ao ai dIx (aa 0) ac (fun _ _=>rfl)) aV (av _)) (cP (bN fj dB (aA au cw rfl T.z_len bi (ae (ao ai dIx (aa 1) ac (fun _ _=>rfl)) ak)) ac (av _)))))))),fun ds q h=>?_⟩
 case hl=>intro ds q h; obtain ⟨ps,rs,as,c,rfl,_⟩:=h; rfl
 obtain ⟨ps,rs,as,c,rfl,q0⟩:=h
 refine ⟨ps,rs,as,c,rfl,?_⟩
 refine (b7 (c:=(!jd ps as c)=true) (fun k=>?_) (fun k=>?_))
 ·have e:fh ps as c=false:=by unfold fh; rw [show jd ps as c=false by simpa using k]; rfl
  rw [e] at q0; exact q0
 have e0:jd ps as c=true:=by simpa using k
 cases c with
 | more a =>
  refine ⟨lS _ kM,lS _ kM,?_⟩
  rw [aR,decide_eq_true rfl]
  have e:fh ps as (Chg.more a)=decide (((as.map bc).length:Int)<8):=by unfold fh; rw [e0,bR]; rfl
  rw [e] at q0; exact q0
 | hang p r =>
  refine ⟨lS _ kH,lS _ kM,?_⟩
  rw [aR,decide_eq_false (by decide +kernel)]
  refine ⟨lS _ kH,lS _ kH,?_⟩
  rw [aR,decide_eq_true rfl]
  have e:fh ps as (Chg.hang p r)=decide (((ps.map D.int).length:Int)<10):=by unfold fh; rw [e0,ay]; rfl
  rw [e] at q0; exact q0
 | room t r =>
  refine ⟨lS _ kR,lS _ kM,?_⟩
  rw [aR,decide_eq_false (by decide +kernel)]
  refine ⟨lS _ kR,lS _ kH,?_⟩
  rw [aR,decide_eq_false (by decide +kernel)]
  exact q0
 | ask t r =>
  refine ⟨lS _ kA,lS _ kM,?_⟩
  rw [aR,decide_eq_false (by decide +kernel)]
  refine ⟨lS _ kA,lS _ kH,?_⟩
  rw [aR,decide_eq_false (by decide +kernel)]
  have e:fh ps as (Chg.ask t r)=true:=by unfold fh; rw [e0]; rfl
  rw [e] at q0; exact q0
 | less t =>
  refine ⟨lS _ kL,lS _ kM,?_⟩
  rw [aR,decide_eq_false (by decide +kernel)]
  refine ⟨lS _ kL,lS _ kH,?_⟩
  rw [aR,decide_eq_false (by decide +kernel)]
  have e:fh ps as (Chg.less t)=true:=by unfold fh; rw [e0]; rfl
  rw [e] at q0; exact q0
end
end K74
namespace K74
open PySem L2
section
variable {P:Program} {w:World} {K:PySem.W.Frag} {mg:Str→Option Value} {base:Heap} {A:Adr}
theorem uz:inD (.str "room") [.str "less",.str "ask"]=false:=by decide +kernel
theorem sP:inD (.str "hang") [.str "less",.str "ask"]=false:=by decide +kernel
theorem uJ:inD (.str "more") [.str "less",.str "ask"]=false:=by decide +kernel
theorem nlAsk:inD (.str "ask") [.str "less",.str "ask"]=true:=by decide +kernel
theorem uo:inD (.str "less") [.str "less",.str "ask"]=true:=by decide +kernel
theorem rn (l m:List Int) (c:Chg):chK (l++m) c=chK l c++chK m c:=by
 cases c <;> simp [chK]
theorem kZ (l:List Int) (c:Chg):(chK l c).length≤l.length:=by
 cases c <;> simp [chK,List.length_filter_le]
def pV:SpD:=fun ds q=>∃ ks c,ds=[az ks,bZ c]∧ks.length≤30∧q (az (chK ks c)) []
theorem sk (T:Txt K mg A):FnOk P w K mg base CX0 1 A.f_q19 A.d_q19 ["_law_keep","_law_change_here"] (aY [false,false] true (pV)):=by
 have S:=sQ
 refine fnD T.t_q19.F S ⟨[false,false],[false,false,true,false],true⟩ _ ?hl rfl rfl fun cdv Ar outer s H E hr=>⟨_,(ad (b4 (i:=2) S.nd rfl (Or.inl rfl) (fA ak))
  (ad (cB PassesOwn.never rfl (b5 (aa 0)) (aJ (i:=3) S.nd rfl (Or.inl rfl)) (af (aM (QW.qt (pv (aB (bb hr.units) dEq (ao ai dIx (aa 1) ac (fun _ _=>rfl)) aV (av _)) (kO (aB gS dB (aa 3) (ao ai dIx (aa 1) ac (fun _ _=>rfl)) (av _))))) (af (bf (i:=2) rfl (QE.qf (ar bF dI (aa 3) ac)))) (af (aM (QW.qt (cW (aB cK dIn (ao ai dIx (aa 1) ac (fun _ _=>rfl)) (aZ (ae aV (ae aV ak))) rfl) (cy (aB (bO hr.units) dNe (aa 3) (ao ai dIx (aa 1) ac (fun _ _=>rfl)) (av _))))) (af (bf (i:=2) rfl (QE.qf (aa 3)))) aw)))))
  (af (bg (b6 2))))),fun ds q h=>?_⟩
 case hl=>intro ds q h; obtain ⟨ks,c,rfl,_⟩:=h; rfl
 obtain ⟨ks,c,rfl,hl,q0⟩:=h
 refine ⟨rfl,fun i ρ=>∃ v3,ρ=[some (az ks),some (bZ c),some (az (chK (ks.take i) c)),v3],⟨_,by cases c <;> rfl⟩,?_,?_⟩
 rotate_left
 ·rintro ρ ⟨v3,rfl⟩
  rw [List.take_of_length_le (by rw [ay]; omega)]
  first | exact q0 | exact ⟨aL _,q0⟩
 rintro i d ρ hd ⟨v3,rfl⟩
 obtain ⟨x,hx,rfl⟩:=eJ hd
 have et:chK (ks.take (i + 1)) c=chK (ks.take i) c++chK [x] c:=by rw [List.take_add_one,hx,rn]; rfl
 have hcl:=kZ (ks.take i) c
 rw [List.length_take] at hcl
 generalize chK (ks.take i) c=cu at hcl et ⊢
 have eS:∀ y:Int,az (cu++[y]) = .lst (cu.map D.int++[.int y]):=fun y=>by show D.lst _=_; rw [List.map_append]; rfl
 cases c with
 | room t r =>
  refine ⟨lS _ kR,lS _ kL,?_⟩
  rw [aR,decide_eq_false (by decide +kernel)]
  refine ⟨rfl,rfl,?_⟩
  rw [if_pos rfl,uz]
  refine ⟨rfl,by rw [ay]; omega,some (.int x),?_⟩
  rw [et]
  show _=[_,_,some (az (cu++[x])),_]
  rw [eS]; rfl
 | hang t r =>
  refine ⟨lS _ kH,lS _ kL,?_⟩
  rw [aR,decide_eq_false (by decide +kernel)]
  refine ⟨rfl,rfl,?_⟩
  rw [if_pos rfl,sP]
  refine ⟨rfl,by rw [ay]; omega,some (.int x),?_⟩
  rw [et]
  show _=[_,_,some (az (cu++[x])),_]
  rw [eS]; rfl
 | more a =>
  refine ⟨lS _ kM,lS _ kL,?_⟩
  rw [aR,decide_eq_false (by decide +kernel)]
  refine ⟨rfl,rfl,?_⟩
  rw [if_pos rfl,uJ]
  refine ⟨rfl,by rw [ay]; omega,some (.int x),?_⟩
  rw [et]
  show _=[_,_,some (az (cu++[x])),_]
  rw [eS]; rfl
 | ask k a =>
  refine ⟨lS _ kA,lS _ kL,?_⟩
  rw [aR,decide_eq_false (by decide +kernel)]
  refine ⟨rfl,rfl,?_⟩
  rw [if_pos rfl,nlAsk]
  refine (b7 (c:=(!decide (x=k))=true) (fun c=>?_) (fun c=>?_))
  ·refine ⟨rfl,by rw [ay]; omega,some (.int x),?_⟩
   rw [et,show chK [x] (Chg.ask k a)=[x] by show [x].filter (fun x=>!decide (x=k))=_; rw [List.filter_cons,if_pos c]; rfl,eS]; rfl
  ·refine ⟨some (.int x),?_⟩
   rw [et,show chK [x] (Chg.ask k a)=[] by show [x].filter (fun x=>!decide (x=k))=_; rw [List.filter_cons,if_neg c]; rfl,List.append_nil]; rfl
 | less k =>
  refine ⟨lS _ kL,lS _ kL,?_⟩
  rw [aR,decide_eq_true rfl]
  refine (b7 (c:=decide (k<x)=true) (fun c=>?_) (fun c=>?_))
  ·have c':k<x:=of_decide_eq_true c
   refine ⟨rfl,by rw [ay]; omega,some (.int x),?_⟩
   rw [et,show chK [x] (Chg.less k)=[x - 1] by
    show ([x].filter _).map _=_
    rw [List.filter_cons,if_pos (by simp; omega)]
    show [if k<x then x - 1 else x]=_
    rw [if_pos c'],eS]; rfl
  ·have c' : ¬ k<x:=of_decide_eq_false (Bool.eq_false_iff.mpr c)
   refine ⟨rfl,rfl,?_⟩
   rw [if_pos rfl,uo]
   refine (b7 (c:=(!decide (x=k))=true) (fun c2=>?_) (fun c2=>?_))
   ·refine ⟨rfl,by rw [ay]; omega,some (.int x),?_⟩
    rw [et,show chK [x] (Chg.less k)=[x] by
     show ([x].filter _).map _=_
     rw [List.filter_cons,if_pos c2]
     show [if k<x then x - 1 else x]=_
     rw [if_neg c'],eS]; rfl
   ·refine ⟨some (.int x),?_⟩
    rw [et,show chK [x] (Chg.less k)=[] by show ([x].filter _).map _=_; rw [List.filter_cons,if_neg c2]; rfl,List.append_nil]; rfl
end
end K74
namespace K74
open PySem L2
section
variable {P:Program} {w:World} {K:PySem.W.Frag} {mg:Str→Option Value} {base:Heap} {A:Adr}
theorem jl (x:Int) (p:Rat):Rat.divInt (x * p.num) p.den=(x:Rat) * p:=by
 rw [gt,ce]
theorem LeN.mul {x y:Int} {m n k:Nat} (hx:LeN x m) (hy:LeN y n) (h:m + n≤k):LeN (x * y) k:=⟨by rw [Int.natAbs_mul]; exact Nat.lt_of_lt_of_le (bh hx.h hy.h) (bY h)⟩
theorem LeN.of {x:Int} (m:Nat) {n:Nat} (h:x.natAbs≤m) (hm:m<2 ^ n):LeN x n:=⟨Nat.lt_of_le_of_lt h hm⟩
theorem LeN.num {r:Rat} {m n:Nat} (h:Bt r m) (hm:m≤n):LeN r.num n:=⟨Nat.lt_of_lt_of_le h.num (bY hm)⟩
theorem LeN.den {r:Rat} {m n:Nat} (h:Bt r m) (hm:m≤n):LeN (r.den:Int) n:=⟨by rw [Int.natAbs_natCast]; exact Nat.lt_of_lt_of_le h.den (bY hm)⟩
theorem LeN.mono {x:Int} {m n:Nat} (h:LeN x m) (hm:m≤n):LeN x n:=⟨Nat.lt_of_lt_of_le h.h (bY hm)⟩
theorem LeN.neg {x:Int} {n:Nat} (h:LeN x n):LeN (0 - x) n:=⟨by have:=h.h; rw [Int.zero_sub,Int.natAbs_neg]; exact this⟩
theorem LeN.sub {x y:Int} {n:Nat} (h:LeN x n) (h2:LeN y n):LeN (x - y) (n + 1):=⟨Nat.lt_of_le_of_lt (Int.natAbs_sub_le x y) (by have:=h.h; have:=h2.h; rw [Nat.pow_succ]; omega)⟩
theorem mP {ps rs:List Int} {prs:List Rat} {a:Ask} {M b:Nat} (hT:Tree ps rs) (ha:AskOk ps a) (hp:PrM ps prs M b) (M0 : 0<M) (hM:M<2 ^ 400) (hb:b≤2 ^ 60) (n:Nat):Bt (((bK ps a).take n).map fun t=>prs.getD (t - 1).toNat 0).sum 466:=by
 have hmem:∀ r∈((bK ps a).take n).map (fun t=>prs.getD (t - 1).toNat 0),r∈prs:=fun r hr=>by
  obtain ⟨t,ht,rfl⟩:=List.mem_map.mp hr
  have:=f_ hT ha.ends (List.mem_of_mem_take ht)
  exact fu (by rw [hp.len]; omega)
 have s:=gN (b:=((b:Int):Rat)) (Rat.intCast_nonneg.mpr (by omega)) fun r hr=>⟨(hp.ok r (hmem r hr)).1,(hp.ok r (hmem r hr)).2.1⟩
 have hl:(((bK ps a).take n).map fun t=>prs.getD (t - 1).toNat 0).length≤46:=by
  rw [List.length_map,List.length_take]
  have:(bK ps a).length≤46:=fC hT ha.ends
  omega
 have h1:(((bK ps a).take n).map fun t=>prs.getD (t - 1).toNat 0).sum≤(((46 * b:Nat):Int):Rat):=by
  rw [Int.natCast_mul,Rat.intCast_mul]
  exact Rat.le_trans s.2 (Rat.mul_le_mul_of_nonneg_right (Rat.natCast_le_natCast.mpr hl) (Rat.intCast_nonneg.mpr (by omega)))
 exact fe (x:=66) s.1 h1 (DvM.sum fun r hr=>(hp.ok r (hmem r hr)).2.2) M0 hM (Nat.le_trans (Nat.mul_le_mul_left _ hb) (by decide))
theorem lW (w s:Int) (p:Rat):Rat.divInt (w * (p.den:Int) - s * p.num) (p.den:Int)=(w:Rat) - (s:Rat) * p:=by
 have hd:((p.den:Int):Rat)≠0:=fun z=>by have:=Rat.intCast_eq_zero_iff.mp z; have:=p.den_pos; omega
 have e:=ce p
 rw [Rat.divInt_eq_div] at e
 rw [Rat.divInt_eq_div,Rat.intCast_sub,Rat.intCast_mul,Rat.intCast_mul]
 generalize ((p.den:Int):Rat)=x at hd e
 generalize ((p.num:Int):Rat)=y at e
 generalize (w:Rat)=u
 generalize (s:Rat)=v
 rw [← e]
 grind
theorem oO (T:Txt K mg A):FnOk P w K mg base CX0 3 A.f_q38 A.d_q38 ["_law_tree","_law_asks","_law_prices"] (aY [false,false,false] false (jA)):=by
 have S:=uE
 refine fnD T.t_q38.F S ⟨[false,false,false],[false,false,false,false,false,false,false,false,false,false],false⟩ _ ?hl rfl rfl fun cdv Ar outer s H E hr=>⟨_,(ad (aE (i:=3) S.nd rfl (Or.inl rfl) (aZ (ae ac (ae ac ak))))
  (ad (cB PassesOwn.never rfl (oe rfl T.z_zip (ae (ao ai dIx (aa 0) ac (fun _ _=>rfl)) (ae (aa 2) ak))) (ca rfl (aI (aJ (i:=4) S.nd rfl (Or.inl rfl)) (aI (aJ (i:=5) S.nd rfl (Or.inl rfl)) bL)) (ap (ap a6))) (af (aE (i:=3) S.nd rfl (Or.inl rfl) (ag (iT T) hr T.t_q46 (ah (aa 3) (ah (aZ (ae (ar bI dIC (aa 4) (ao ai dIx (aa 5) ac (fun _ _=>rfl))) (ae (ao ai dIx (aa 5) ac (fun _ _=>rfl)) ak))) aj))))))
  (ad (cB PassesOwn.never rfl (b5 (aa 1)) (aJ (i:=6) S.nd rfl (Or.inl rfl)) (ad (aE (i:=7) S.nd rfl (Or.inl rfl) (aZ (ae ac (ae ac ak))))
  (ad (cB PassesOwn.never rfl (b5 (QF.qe (aW (vh T) hr T.t_q55 (ah (ao ai dIx (aa 0) ac (fun _ _=>rfl)) (ah (aa 6) aj))))) (aJ (i:=8) S.nd rfl (Or.inl rfl)) (af (aE (i:=7) S.nd rfl (Or.inl rfl) (ag (iT T) hr T.t_q46 (ah (aa 7) (ah (ao ai dIx (aa 2) (ar bF dI (aa 8) ac) (fun _ _=>rfl)) aj))))))
  (ad (aE (i:=9) S.nd rfl (Or.inl rfl) (ar bF dI (ar bI dIC (ao ai dIx (aa 6) ac (fun _ _=>rfl)) (ao ai dIx (aa 7) ac (fun _ _=>rfl))) (ar bI dIC (ao ai dIx (aa 6) ac (fun _ _=>rfl)) (ao ai dIx (aa 7) ac (fun _ _=>rfl)))))
  (af (aM (aB gS dB (aa 9) ac (av _)) (af (aE (i:=3) S.nd rfl (Or.inl rfl) (ag (iT T) hr T.t_q46 (ah (aa 3) (ah (aZ (ae (aa 9) (ae (ao ai dIx (aa 7) ac (fun _ _=>rfl)) ak))) aj))))) aw))))))
  (af (aF (aa 3)))))),fun ds q h=>?_⟩
 case hl=>intro ds q h; obtain ⟨ps,rs,as,prs,rfl,_⟩:=h; rfl
 obtain ⟨ps,rs,as,prs,rfl,hT,ha,hp,q0⟩:=h
 have hpl:=hp.len
 have hi:=hT.hi
 have hlr:=hT.len
 have hal:=ha.len
 obtain ⟨M,b,p1,p2,p3,p4⟩:=hp
 refine ⟨fun i ρ=>∃ v4 v5,ρ=[some (aH ps rs),some (aT as),some (dQs prs),some (dQ (aN (rs.take i) (prs.take i)).sum),v4,v5,none,none,none,none],⟨_,_,rfl⟩,?_,?_⟩
 ·rintro i d ρ hd ⟨v4,v5,rfl⟩
  obtain ⟨x,y,e1,e2,rfl⟩:=iC hd
  obtain ⟨z,hz,rfl⟩:=eJ e1
  obtain ⟨p,hpm,rfl⟩:∃ r,prs[i]? = some r∧dQ r=y:=by rw [List.getElem?_map,Option.map_eq_some_iff] at e2; exact e2
  have hxr:=hT.room i z hz
  obtain ⟨y0,y1,y2⟩:=p1.ok p (List.mem_of_getElem? hpm)
  have by':Bt p 460:=fe y0 y1 y2 p2 p3 p4
  have lx:LeN z 20:=LeN.of 1000000 (by omega) (by decide)
  refine ⟨⟨bM (n:=1000000) (by omega) (by decide +kernel),by'.smN (by decide)⟩,?_⟩
  have hbt:=(iX hT ha p1 p2 p3 p4 (l5 rs prs i) (List.nil_sublist _)).1
  rw [List.sum_nil,Rat.add_zero] at hbt
  refine ⟨(aN (rs.take i) (prs.take i)).sum,_,_,rfl,a8 _,hbt.mono (by decide),lx.mul (LeN.num by' (Nat.le_refl _)) (by decide),LeN.den by' (by decide),?_⟩
  rw [jl]
  refine ⟨some (.int z),some (dQ p),?_⟩
  have ez:rs.getD i 0=z:=by rw [List.getD_eq_getElem?_getD,hz]; rfl
  have ep:prs.getD i 0=p:=by rw [List.getD_eq_getElem?_getD,hpm]; rfl
  have hil:i<rs.length:=(List.getElem?_eq_some_iff.mp hz).1
  rw [ku (by omega) (by omega),List.sum_append,List.sum_cons,List.sum_nil,Rat.add_zero,ez,ep]; rfl
 rintro ρ ⟨v4,v5,rfl⟩
 have hzl:(gv (rs.map D.int) (prs.map dQ)).length=ps.length:=by unfold gv; rw [List.length_zipWith,List.length_map,List.length_map]; omega
 rw [hzl,List.take_of_length_le (show rs.length≤ps.length by omega),List.take_of_length_le (show prs.length≤ps.length by omega)]
 refine ⟨fun i ρ=>∃ v4 v5 v6 v7 v8 v9,ρ=[some (aH ps rs),some (aT as),some (dQs prs),some (dQ ((aN rs prs).sum + ((as.take i).map fun a=>bq ps a a.size prs).sum)),v4,v5,v6,v7,v8,v9],⟨_,_,_,_,_,_,by rw [List.take_zero,List.map_nil,List.sum_nil,Rat.add_zero]⟩,?_,?_⟩
 rotate_left
 ·rintro ρ ⟨v4,v5,v6,v7,v8,v9,rfl⟩
  rw [List.take_of_length_le (by rw [bR]; omega)]
  exact q0
 rintro i d ρ hd ⟨v4,v5,v6,v7,v8,v9,rfl⟩
 obtain ⟨a,hr,rfl⟩:=k8 hd
 have ok:=ha.ok a (List.mem_of_getElem? hr)
 have he:=ok.ends
 have s0:=ok.s0
 have s1:=ok.s1
 have w0:=ok.w0
 have w1:=ok.w1
 refine ⟨ps,rs,a.one,a.other,_,rfl,hT,he.a0,he.a1,he.b0,he.b1,?_⟩
 refine ⟨fun n ρ=>∃ v8,ρ=[some (aH ps rs),some (aT as),some (dQs prs),some (dQ ((aN rs prs).sum + ((as.take i).map fun a=>bq ps a a.size prs).sum)),v4,v5,some (bc a),some (dQ (((bK ps a).take n).map fun t=>prs.getD (t - 1).toNat 0).sum),v8,v9],⟨_,by
  rw [List.take_zero,List.map_nil,List.sum_nil]; rfl⟩,?_,?_⟩
 ·rintro n d ρ hd ⟨v8,rfl⟩
  have hd:((bK ps a).map D.int)[n]? = some d:=hd
  obtain ⟨z,hz,rfl⟩:=eJ hd
  have hm:=f_ hT he (List.mem_of_getElem? hz)
  have haq:=mO (rs:=prs) (i:=z - 1) (by omega) (by omega)
  refine dr haq ?_
  obtain ⟨y0,y1,y2⟩:=p1.ok (prs.getD (z - 1).toNat 0) (fu (by omega))
  have by':Bt (prs.getD (z - 1).toNat 0) 460:=fe y0 y1 y2 p2 p3 p4
  refine ⟨_,(prs.getD (z - 1).toNat 0).num,((prs.getD (z - 1).toNat 0).den:Int),rfl,a8 _,(mP hT ok p1 p2 p3 p4 n).mono (by decide),LeN.num by' (by decide),LeN.den by' (by decide),?_⟩
  rw [ce]
  refine ⟨some (.int z),?_⟩
  have hz':(bK ps a)[n]? = some z:=hz
  rw [List.take_add_one,hz']
  show _=[_,_,_,_,_,_,_,some (dQ (((bK ps a).take n++[z]).map _).sum),_,_]
  rw [List.map_append,List.sum_append,List.map_cons,List.map_nil,List.sum_cons,List.sum_nil,Rat.add_zero]; rfl
 ·rintro ρ ⟨v8,rfl⟩
  have eW:((bK ps a).take ((jz ps a.one a.other).map D.int).length)=bK ps a:=List.take_of_length_le (by rw [ay]; exact Nat.le_refl _)
  rw [eW]
  have hbs:=mP hT ok p1 p2 p3 p4 (bK ps a).length
  rw [List.take_length] at hbs
  change Bt (bn ps a prs) 466 at hbs
  have lw:LeN a.worth 40:=LeN.of 1000000000000 (by omega) (by decide)
  have ls:LeN a.size 20:=LeN.of 1000000 (by omega) (by decide)
  have l1:LeN (a.worth * ((bn ps a prs).den:Int)) 506:=lw.mul (LeN.den hbs (Nat.le_refl _)) (by decide)
  have l2:LeN (a.size * (bn ps a prs).num) 506:=ls.mul (LeN.num hbs (Nat.le_refl _)) (by decide)
  have lL:LeN (a.worth * ((bn ps a prs).den:Int) - a.size * (bn ps a prs).num) 507:=l1.sub l2
  have eL:=lW a.worth a.size (bn ps a prs)
  have hpos:=kB (t:=a.worth * ((bn ps a prs).den:Int) - a.size * (bn ps a prs).num) (a8 (bn ps a prs))
  rw [eL] at hpos
  have et:((as.take (i + 1)).map fun a=>bq ps a a.size prs).sum=((as.take i).map fun a=>bq ps a a.size prs).sum + gL ((a.worth:Rat) - (a.size:Rat) * bn ps a prs):=by
   rw [List.take_add_one,hr]
   show ((as.take i++[a]).map _).sum=_
   rw [List.map_append,List.sum_append,List.map_cons,List.map_nil,List.sum_cons,List.sum_nil,Rat.add_zero]; rfl
  refine ⟨⟨bM (n:=1000000000000) (by omega) (by decide +kernel),hbs.smD (by decide)⟩,⟨bM (n:=1000000) (by omega) (by decide +kernel),hbs.smN (by decide)⟩,?_⟩
  refine (b7 (c:=decide (0<a.worth * ((bn ps a prs).den:Int) - a.size * (bn ps a prs).num)=true) (fun c=>?_) (fun c=>?_))
  ·have c' : 0<(a.worth:Rat) - (a.size:Rat) * bn ps a prs:=hpos.mpr (of_decide_eq_true c)
   have hbt:=(iX hT ha p1 p2 p3 p4 (List.Sublist.refl _) ((List.take_sublist i as).map fun a=>bq ps a a.size prs)).1
   refine ⟨(aN rs prs).sum + ((as.take i).map fun a=>bq ps a a.size prs).sum,a.worth * ((bn ps a prs).den:Int) - a.size * (bn ps a prs).num,((bn ps a prs).den:Int),rfl,a8 _,hbt.mono (by decide),lL.mono (by decide),LeN.den hbs (by decide),?_⟩
   rw [eL,Rat.add_assoc,show ((as.take i).map fun a=>bq ps a a.size prs).sum + ((a.worth:Rat) - (a.size:Rat) * bn ps a prs)=((as.take (i + 1)).map fun a=>bq ps a a.size prs).sum by rw [et]; unfold gL; rw [if_pos c']]
   exact ⟨_,_,_,_,_,_,rfl⟩
  ·have c' : ¬ 0<(a.worth:Rat) - (a.size:Rat) * bn ps a prs:=fun z=>c (decide_eq_true (hpos.mp z))
   rw [show ((as.take i).map fun a=>bq ps a a.size prs).sum=((as.take (i + 1)).map fun a=>bq ps a a.size prs).sum by rw [et]; unfold gL; rw [if_neg c',Rat.add_zero]]
   exact ⟨_,_,_,_,_,_,rfl⟩
end
end K74
namespace K74
open PySem L2
section
variable {P:Program} {w:World} {K:PySem.W.Frag} {mg:Str→Option Value} {base:Heap} {A:Adr}
def tZ:SpD:=fun ds q=>∃ ps rs as c ks prs,ds=[aH ps rs,aT as,bZ c,az ks,dQs prs]∧Tree ps rs∧AsksOk ps as∧cF ps as c∧KeepOk as.length ks∧PrK ps prs∧q (dQs (chQ prs c)) []
theorem uc (T:Txt K mg A):FnOk P w K mg base CX0 10 A.f_q18 A.d_q18 ["_law_tree","_law_asks","_law_change_here","_law_keep","_law_prices"] (aY [false,false,false,false,false] true (tZ)):=by
 have S:=t4
 refine fnD T.t_q18.F S ⟨[false,false,false,false,false],[false,false,false,false,false,false,true,true,false,true],true⟩ _ ?hl rfl rfl fun cdv Ar outer s H E hr=>⟨_,(ad (aE (i:=5) S.nd rfl (Or.inl rfl) (QF.qe (aW (sk T) hr T.t_q19 (ah (aa 3) (ah (aa 2) aj)))))
  (ad (b4 (i:=6) S.nd rfl (Or.inl rfl) (aW (sh T) hr T.t_q7 (ah (aa 0) (ah (aa 1) (ah (aa 2) (ah (aa 3) aj))))))
  (ad (aM (QT.bor [6] (QW.qt (cW (a_ (a7 (b8 rfl T.z_isinstance aK (aa 6) (bE (v:=.ty "list") rfl T.z_list bj rfl)))) (cy (aB (bO hr.units) dNe (aa 6) (aa 5) (av _)))))) (af (bg (QF.qm (QE.qf gH)))) aw)
  (ad (bf (i:=6) rfl (QE.qf ac))
  (ad (b4 (i:=7) S.nd rfl (Or.inl rfl) (aW (oQ T) hr T.t_q1 (ah (aa 0) (ah (aa 1) (ah (aa 2) (ah (aa 4) aj))))))
  (ad (dH (aE (i:=8) S.nd rfl (Or.inl rfl) (ik fD lR (aa 4) (ik pP dRep (dZ (ae (aZ (ae ac (ae ac ak))) ak)) (g7 hU rZ rfl T.z_int jR (ae (bN (bb hr.units) dEq (ao ai dIx (aa 2) ac (fun _ _=>rfl)) aV (av _)) ak))))))
  (ad (aM (QT.bor [7] (QW.qt (cW (a_ (a7 (b8 rfl T.z_isinstance aK (aa 7) (bE (v:=.ty "list") rfl T.z_list bj rfl)))) (cy (aB (bO hr.units) dNe (aa 7) (aa 8) (av _)))))) (af (bg (QF.qm (QE.qf gH)))) aw)
  (ad (b4 (i:=9) S.nd rfl (Or.inl rfl) (QF.bor [7] (bT aX dC rfl T.z_list bj (ae (aa 7) ak))))
  (ad (pq (i:=7) rfl)
  (ad (aM (aB (bO hr.units) dNe (QF.qe (aW (sh T) hr T.t_q7 (ah (aa 0) (ah (aa 1) (ah (aa 2) (ah (aa 3) aj)))))) (aa 5) (av _)) (af (bg (QF.qm (QE.qf gH)))) aw)
  (ad (aM (QT.bor [9] (aB (bO hr.units) dNe (QF.qe (aW (oQ T) hr T.t_q1 (ah (aa 0) (ah (aa 1) (ah (aa 2) (ah (aa 4) aj)))))) (aa 9) (av _))) (af (bg (QF.qm (QE.qf gH)))) aw)
  (af (bg (b6 9)))))))))))))),fun ds q h=>?_⟩
 case hl=>intro ds q h; obtain ⟨ps,rs,as,c,ks,prs,rfl,_⟩:=h; rfl
 obtain ⟨ps,rs,as,c,ks,prs,rfl,hT,ha,hc,hk,hp,q0⟩:=h
 have hkl:=hk.len
 have hal:=ha.len
 have hcl:=kZ ks c
 have e1:eqD (az (chK ks c)) (az (chK ks c))=true:=df 1 _ (fK 0 _)
 refine ⟨ks,c,rfl,by omega,?_⟩
 refine ⟨ps,rs,as,c,ks,rfl,hT,ha,hc,hk,?_⟩
 refine ⟨fi _,fi _,?_⟩
 rw [e1]
 refine ⟨rfl,by rw [ay]; omega,?_⟩
 refine ⟨ps,rs,as,c,prs,rfl,hT,ha,hc,hp,?_⟩
 have e2:eqD (dQs (chQ prs c)) (dQs (chQ prs c))=true:=df 2 _ (kT _)
 have hpl:=hp.len
 have hTi:=hT.hi
 refine ⟨fun ρ=>ρ=[some (aH ps rs),some (aT as),some (bZ c),some (az ks),some (dQs prs),some (az (chK ks c)),some (.lst ((chK ks c).map D.int++[.int 99])),some (dQs (chQ prs c)),some (dQs (chQ prs c)),none],?_,?_⟩
 ·cases c with
  | hang p r =>
   refine ⟨lS _ kH,lS _ kH,?_⟩
   rw [aR,decide_eq_true rfl]
   refine ⟨⟨by decide,by decide,by decide⟩,?_⟩
   refine ⟨by rw [List.length_map]; show prs.length + 1≤1000; omega,?_⟩
   show [_,_,_,_,_,_,_,_,some (D.lst (prs.map dQ++[.tup [.int 0,.int 1]])),_]=[_,_,_,_,_,_,_,_,some (D.lst ((prs++[(0:Rat)]).map dQ)),_]
   rw [List.map_append]; rfl
  | room t r =>
   refine ⟨lS _ kR,lS _ kH,?_⟩
   rw [aR,decide_eq_false (by decide +kernel)]
   refine ⟨⟨by decide,by decide,by decide⟩,?_⟩
   refine ⟨by rw [List.length_map]; show prs.length + 0≤1000; omega,?_⟩
   show [_,_,_,_,_,_,_,_,some (D.lst (prs.map dQ++[])),_]=[_,_,_,_,_,_,_,_,some (D.lst (prs.map dQ)),_]
   rw [List.append_nil]
  | ask k a =>
   refine ⟨lS _ kA,lS _ kH,?_⟩
   rw [aR,decide_eq_false (by decide +kernel)]
   refine ⟨⟨by decide,by decide,by decide⟩,?_⟩
   refine ⟨by rw [List.length_map]; show prs.length + 0≤1000; omega,?_⟩
   show [_,_,_,_,_,_,_,_,some (D.lst (prs.map dQ++[])),_]=[_,_,_,_,_,_,_,_,some (D.lst (prs.map dQ)),_]
   rw [List.append_nil]
  | more a =>
   refine ⟨lS _ kM,lS _ kH,?_⟩
   rw [aR,decide_eq_false (by decide +kernel)]
   refine ⟨⟨by decide,by decide,by decide⟩,?_⟩
   refine ⟨by rw [List.length_map]; show prs.length + 0≤1000; omega,?_⟩
   show [_,_,_,_,_,_,_,_,some (D.lst (prs.map dQ++[])),_]=[_,_,_,_,_,_,_,_,some (D.lst (prs.map dQ)),_]
   rw [List.append_nil]
  | less k =>
   refine ⟨lS _ kL,lS _ kH,?_⟩
   rw [aR,decide_eq_false (by decide +kernel)]
   refine ⟨⟨by decide,by decide,by decide⟩,?_⟩
   refine ⟨by rw [List.length_map]; show prs.length + 0≤1000; omega,?_⟩
   show [_,_,_,_,_,_,_,_,some (D.lst (prs.map dQ++[])),_]=[_,_,_,_,_,_,_,_,some (D.lst (prs.map dQ)),_]
   rw [List.append_nil]
 rintro ρ rfl
 refine ⟨fW _,fW _,?_⟩
 rw [e2]
 refine ⟨bP _,?_⟩
 refine ⟨ps,rs,as,c,ks,rfl,hT,ha,hc,hk,?_⟩
 refine ⟨fi _,fi _,?_⟩
 rw [e1]
 refine ⟨ps,rs,as,c,prs,rfl,hT,ha,hc,hp,?_⟩
 refine ⟨fW _,fW _,?_⟩
 show _
 have e3:eqD (dQs (chQ prs c)) (.lst ((chQ prs c).map dQ))=true:=e2
 rw [e3]
 first | exact q0 | exact ⟨bP _,q0⟩
end
end K74
namespace K74
open PySem L2
section
variable {P:Program} {w:World} {K:PySem.W.Frag} {mg:Str→Option Value} {base:Heap} {A:Adr}
theorem pH (p:Rat):Rat.divInt (0 - p.num) (p.den:Int) = -p:=by
 have e:(0:Int) - p.num=(-1) * p.num:=by omega
 rw [e,jl]
 show ((-1:Int):Rat) * p = -p
 have e1:((-1:Int):Rat) = -1:=rfl
 rw [e1]; grind
def qJ:SpD:=fun ds q=>∃ ps rs as c prs,ds=[aH ps rs,aT as,bZ c,dQs prs]∧Tree ps rs∧AsksOk ps as∧cF ps as c∧PrK ps prs∧q (.bl true) []
theorem ok_q2 (T:Txt K mg A):FnOk P w K mg base CX0 12 A.f_q2 A.d_q2 ["_law_tree","_law_asks","_law_change_here","_law_prices"] (aY [false,false,false,false] false (qJ)):=by
 have S:=sc_q2
 refine fnD T.t_q2.F S ⟨[false,false,false,false],[false,false,false,false,false,false,false,false,false,false],false⟩ _ ?hl rfl rfl fun cdv Ar outer s H E hr=>⟨_,(ad (dM (ag (mT T) hr T.t_q31 (ah (aa 0) (ah (aa 1) (ah (aa 2) aj)))) (ca rfl (aI (aJ (i:=4) S.nd rfl (Or.inl rfl)) (aI (aJ (i:=5) S.nd rfl (Or.inl rfl)) bL)) (ap (ap a6))))
  (ad (dH (aE (i:=6) S.nd rfl (Or.inl rfl) (ik fD lR (aa 3) (ik pP dRep (dZ (ae (aZ (ae ac (ae ac ak))) ak)) (g7 hU rZ rfl T.z_int jR (ae (bN (bb hr.units) dEq (ao ai dIx (aa 2) ac (fun _ _=>rfl)) aV (av _)) ak))))))
  (ad (aE (i:=7) S.nd rfl (Or.inl rfl) (ag (oO T) hr T.t_q38 (ah (aa 0) (ah (aa 1) (ah (aa 3) aj)))))
  (ad (aE (i:=8) S.nd rfl (Or.inl rfl) (ag (iT T) hr T.t_q46 (ah (ag (oO T) hr T.t_q38 (ah (aa 4) (ah (aa 5) (ah (aa 6) aj)))) (ah (aZ (ae (ar bF dI ac (ao ai dIx (aa 7) ac (fun _ _=>rfl))) (ae (ao ai dIx (aa 7) ac (fun _ _=>rfl)) ak))) aj))))
  (ad (aE (i:=9) S.nd rfl (Or.inl rfl) (ag (ok_q6 T) hr T.t_q6 (ah (aa 0) (ah (aa 1) (ah (aa 2) (ah (aa 3) aj))))))
  (af (aF (cT (b8 rfl T.z_isinstance aK (aa 9) (bE (v:=.ty "tuple") rfl T.z_tuple d4 rfl)) (cP (bN (bb hr.units) dEq (aa 9) (aa 8) (av _))))))))))),fun ds q h=>?_⟩
 case hl=>intro ds q h; obtain ⟨ps,rs,as,c,prs,rfl,_⟩:=h; rfl
 obtain ⟨ps,rs,as,c,prs,rfl,hT,ha,hc,hp,q0⟩:=h
 have hpl:=hp.len
 have hTi:=hT.hi
 refine ⟨ps,rs,as,c,rfl,hT,ha,hc,?_⟩
 refine ⟨fun ρ=>ρ=[some (aH ps rs),some (aT as),some (bZ c),some (dQs prs),some (aH (chP ps c) (chR rs c)),some (aT (chA as c)),some (dQs (chQ prs c)),none,none,none],?_,?_⟩
 ·cases c with
  | hang p r =>
   refine ⟨lS _ kH,lS _ kH,?_⟩
   rw [aR,decide_eq_true rfl]
   refine ⟨⟨by decide,by decide,by decide⟩,?_⟩
   refine ⟨by rw [List.length_map]; show prs.length + 1≤1000; omega,?_⟩
   show [_,_,_,_,_,_,some (D.lst (prs.map dQ++[.tup [.int 0,.int 1]])),_,_,_]=[_,_,_,_,_,_,some (D.lst ((prs++[(0:Rat)]).map dQ)),_,_,_]
   rw [List.map_append]; rfl
  | room t r =>
   refine ⟨lS _ kR,lS _ kH,?_⟩
   rw [aR,decide_eq_false (by decide +kernel)]
   refine ⟨⟨by decide,by decide,by decide⟩,?_⟩
   refine ⟨by rw [List.length_map]; show prs.length + 0≤1000; omega,?_⟩
   show [_,_,_,_,_,_,some (D.lst (prs.map dQ++[])),_,_,_]=[_,_,_,_,_,_,some (D.lst (prs.map dQ)),_,_,_]
   rw [List.append_nil]
  | ask k a =>
   refine ⟨lS _ kA,lS _ kH,?_⟩
   rw [aR,decide_eq_false (by decide +kernel)]
   refine ⟨⟨by decide,by decide,by decide⟩,?_⟩
   refine ⟨by rw [List.length_map]; show prs.length + 0≤1000; omega,?_⟩
   show [_,_,_,_,_,_,some (D.lst (prs.map dQ++[])),_,_,_]=[_,_,_,_,_,_,some (D.lst (prs.map dQ)),_,_,_]
   rw [List.append_nil]
  | more a =>
   refine ⟨lS _ kM,lS _ kH,?_⟩
   rw [aR,decide_eq_false (by decide +kernel)]
   refine ⟨⟨by decide,by decide,by decide⟩,?_⟩
   refine ⟨by rw [List.length_map]; show prs.length + 0≤1000; omega,?_⟩
   show [_,_,_,_,_,_,some (D.lst (prs.map dQ++[])),_,_,_]=[_,_,_,_,_,_,some (D.lst (prs.map dQ)),_,_,_]
   rw [List.append_nil]
  | less k =>
   refine ⟨lS _ kL,lS _ kH,?_⟩
   rw [aR,decide_eq_false (by decide +kernel)]
   refine ⟨⟨by decide,by decide,by decide⟩,?_⟩
   refine ⟨by rw [List.length_map]; show prs.length + 0≤1000; omega,?_⟩
   show [_,_,_,_,_,_,some (D.lst (prs.map dQ++[])),_,_,_]=[_,_,_,_,_,_,some (D.lst (prs.map dQ)),_,_,_]
   rw [List.append_nil]
 rintro ρ rfl
 have hT2:=eV hT hc
 have ha2:=eP ha hc
 have hp2:PrK (chP ps c) (chQ prs c):=kl hp
 refine ⟨ps,rs,as,prs,rfl,hT,ha,hp,?_⟩
 refine ⟨chP ps c,chR rs c,chA as c,chQ prs c,rfl,hT2,ha2,hp2,?_⟩
 have b1:=d8 hT ha hp
 have b2:=d8 hT2 ha2 hp2
 refine ⟨eC (chP ps c) (chR rs c) (chA as c) (chQ prs c),0 - (eC ps rs as prs).num,((eC ps rs as prs).den:Int),rfl,a8 _,b2.mono (by decide),(LeN.num b1 (show 500≤3000 by decide)).neg,LeN.den b1 (by decide),?_⟩
 rw [pH,← Rat.sub_eq_add_neg]
 refine ⟨ps,rs,as,c,prs,rfl,hT,ha,hc,hp,?_⟩
 refine ⟨oV _,oV _,?_⟩
 rw [df 1 _ (ka _)]
 exact q0
end
end K74
namespace K74
open PySem L2
section
variable {P:Program} {w:World} {K:PySem.W.Frag} {mg:Str→Option Value} {base:Heap} {A:Adr}
theorem DvM.of {r:Rat} {M:Nat} (h:r.den∣M):DvM r M:=by
 obtain ⟨c,rfl⟩:=h
 refine ⟨r.num * c,?_⟩
 have hd:((r.den:Int):Rat)≠0:=fun z=>by have:=Rat.intCast_eq_zero_iff.mp z; have:=r.den_pos; omega
 have e:r * ((r.den:Int):Rat)=(r.num:Rat):=by
  have:=ce r
  rw [Rat.divInt_eq_div] at this
  generalize ((r.den:Int):Rat)=x at hd this
  grind
 rw [Int.natCast_mul,Rat.intCast_mul,← Rat.mul_assoc,e,Rat.intCast_mul]
structure PrS (ps:List Int) (prs:List Rat):Prop where
 len:prs.length=ps.length
 ok:∀ r∈prs,0≤r.num∧r.num≤12∧r.den≤12
theorem PrS.k {ps:List Int} {prs:List Rat} (h:PrS ps prs) (h23:ps.length≤23):PrK ps prs:=by
 have hp:=jD (n:=12) (rs:=prs) fun r hr=>(h.ok r hr).2.2
 have hl:=h.len
 refine ⟨gR prs,12,⟨h.len,fun r hr=>?_⟩,lQ prs,Nat.lt_of_le_of_lt hp (Nat.lt_of_le_of_lt (Nat.pow_le_pow_right (n:=12) (by decide) (show prs.length≤23 by omega)) (by decide)),by decide⟩
 obtain ⟨h0,h1,h2⟩:=h.ok r hr
 have e:=ce r
 rw [Rat.divInt_eq_div] at e
 have:=vg (r:=(r.num:Rat)) (b:=(((12:Nat):Int):Rat)) (p:=(r.den:Int)) (Rat.intCast_nonneg.mpr h0) (Rat.intCast_le_intCast.mpr h1) (by have:=r.den_pos; omega)
 rw [e] at this
 exact ⟨this.1,this.2,DvM.of (lI hr)⟩
theorem PrS.ch {ps:List Int} {prs:List Rat} {c:Chg} (h:PrS ps prs):PrS (chP ps c) (chQ prs c):=by
 cases c with
 | hang p r =>
  refine ⟨?_,fun x hx=>?_⟩
  ·show (prs++[0]).length=(ps++[p]).length
   rw [List.length_append,List.length_append,h.len]; rfl
  ·rcases List.mem_append.mp hx with q | q
   ·exact h.ok x q
   ·rw [List.mem_singleton.mp q]; decide
 | room _ _=>exact h
 | ask _ _=>exact h
 | more _=>exact h
 | less _=>exact h
theorem tp {ps:List Int} {as:List Ask} {c:Chg} (hd:oq ps c) (h:fh ps as c=true):cF ps as c∧(ps.length≤10→(chP ps c).length≤10)∧(as.length≤8→(chA as c).length≤8):=by
 unfold fh at h
 rw [Bool.and_eq_true] at h
 obtain ⟨h1,h2⟩:=h
 cases c with
 | room t r=>exact ⟨hd,id,id⟩
 | hang p r =>
  have e1:(ps.length:Int)<23:=of_decide_eq_true h1
  have e2:(ps.length:Int)<10:=of_decide_eq_true h2
  obtain ⟨a1,a2,a3,a4⟩:=hd
  exact ⟨⟨a1,a2,a3,a4,by omega⟩,fun _=>by show (ps++[p]).length≤10; rw [List.length_append]; show ps.length + 1≤10; omega,id⟩
 | ask k a =>
  have e1:k<(as.length:Int):=of_decide_eq_true h1
  exact ⟨⟨hd.1,e1,hd.2⟩,id,fun g=>by show (as.set k.toNat a).length≤8; rw [List.length_set]; exact g⟩
 | more a =>
  have e1:(as.length:Int)<30:=of_decide_eq_true h1
  have e2:(as.length:Int)<8:=of_decide_eq_true h2
  exact ⟨⟨by omega,hd⟩,id,fun _=>by show (as++[a]).length≤8; rw [List.length_append]; show as.length + 1≤8; omega⟩
 | less k =>
  have e1:k<(as.length:Int):=of_decide_eq_true h1
  exact ⟨⟨hd,e1⟩,id,fun g=>Nat.le_trans (List.length_eraseIdx_le ..) g⟩
theorem sml_q {r:Rat} (h : 0≤r.num∧r.num≤12∧r.den≤12):Sml 1 84 (dQ r):=fo (N:=2) (W:=41) (fun d hd=>by
 rcases List.mem_cons.mp hd with rfl | hd
 ·exact bU (by omega)
 ·rw [List.mem_singleton.mp hd]; exact bU (by omega)) (Nat.le_refl _)
theorem lB {ps:List Int} {a:Ask} (hp:ps.length≤23) (ok:AskOk ps a):Sml 1 200 (bc a):=by
 have h1:=ok.ends.a0; have h2:=ok.ends.a1; have h3:=ok.ends.b0; have h4:=ok.ends.b1; have h5:=ok.s0; have h6:=ok.s1; have h7:=ok.w0; have h8:=ok.w1
 refine (fo (N:=4) (W:=41) (fun d hd=>?_) (Nat.le_refl _)).mono (Nat.le_refl _) (by decide)
 rcases List.mem_cons.mp hd with rfl | hd
 ·exact bU (by omega)
 rcases List.mem_cons.mp hd with rfl | hd
 ·exact bU (by omega)
 rcases List.mem_cons.mp hd with rfl | hd
 ·exact bU (by omega)
 rw [List.mem_singleton.mp hd]
 exact bU (by omega)
theorem sS (s:Str) (h:(PyData.str s).canLay0=true) (h2:(PyData.str s).weight≤41):Sml 1 200 (.str s):=(show Sml 0 41 (.str s) from ⟨h,Nat.le_refl _,rfl,rfl,h2⟩).mono (by decide) (by decide)
theorem sZ {i:Int} (h:i.natAbs≤1000000000000):Sml 1 200 (.int i):=(bU h).mono (by decide) (by decide)
theorem q9 {ps:List Int} {as:List Ask} {c:Chg} (hp:ps.length≤23) (ha:as.length≤30) (h:cF ps as c):Sml 3 20000 (bZ c):=by
 have mk:∀ ds:List D,ds.length≤3→(∀ d∈ds,Sml 1 200 d)→Sml 3 20000 (.tup ds):=fun ds hl h=>(fo (N:=3) h hl).mono (by decide) (by decide)
 cases c with
 | room t r =>
  obtain ⟨h1,h2,h3,h4⟩:=h
  exact mk _ (Nat.le_refl _) fun d hd=>by
   rcases List.mem_cons.mp hd with rfl | hd
   ·exact sS _ (by decide +kernel) (by decide +kernel)
   rcases List.mem_cons.mp hd with rfl | hd
   ·exact sZ (by omega)
   rw [List.mem_singleton.mp hd]; exact sZ (by omega)
 | hang t r =>
  obtain ⟨h1,h2,h3,h4,h5⟩:=h
  exact mk _ (Nat.le_refl _) fun d hd=>by
   rcases List.mem_cons.mp hd with rfl | hd
   ·exact sS _ (by decide +kernel) (by decide +kernel)
   rcases List.mem_cons.mp hd with rfl | hd
   ·exact sZ (by omega)
   rw [List.mem_singleton.mp hd]; exact sZ (by omega)
 | ask k a =>
  obtain ⟨h1,h2,h3⟩:=h
  exact mk _ (Nat.le_refl _) fun d hd=>by
   rcases List.mem_cons.mp hd with rfl | hd
   ·exact sS _ (by decide +kernel) (by decide +kernel)
   rcases List.mem_cons.mp hd with rfl | hd
   ·exact sZ (by omega)
   rw [List.mem_singleton.mp hd]; exact lB hp h3
 | more a =>
  obtain ⟨h1,h3⟩:=h
  exact mk _ (by show 2≤3; decide) fun d hd=>by
   rcases List.mem_cons.mp hd with rfl | hd
   ·exact sS _ (by decide +kernel) (by decide +kernel)
   rw [List.mem_singleton.mp hd]; exact lB hp h3
 | less k =>
  obtain ⟨h1,h2⟩:=h
  exact mk _ (by show 2≤3; decide) fun d hd=>by
   rcases List.mem_cons.mp hd with rfl | hd
   ·exact sS _ (by decide +kernel) (by decide +kernel)
   rw [List.mem_singleton.mp hd]; exact sZ (by omega)
theorem rpr5 {ps rs:List Int} {as:List Ask} {c:Chg} {ks:List Int} {prs:List Rat} (hT:L2.Tree ps rs) (ha:AsksOk ps as) (hc:cF ps as c) (hk:KeepOk as.length ks) (hp:PrS ps prs):RprOk (.lst [aH ps rs,aT as,bZ c,az ks,dQs prs]):=by
 have hal:=ha.len
 have hi:=hT.hi
 have hpl:=hp.len
 have hkl:=hk.len
 have h:=eN (n:=3) (W:=20000) (N:=5) (ds:=[aH ps rs,aT as,bZ c,az ks,dQs prs]) (fun d hd=>by
  rcases List.mem_cons.mp hd with rfl | hd
  ·exact (mR hT).mono (by decide) (by decide)
  rcases List.mem_cons.mp hd with rfl | hd
  ·exact (mK hT.hi ha).mono (by decide) (by decide)
  rcases List.mem_cons.mp hd with rfl | hd
  ·exact q9 hi hal hc
  rcases List.mem_cons.mp hd with rfl | hd
  ·exact (pJ (N:=30) (fun z hz=>by have:=hk.lo z hz; omega) (by omega)).mono (by decide) (by decide)
  ·rw [List.mem_singleton.mp hd]
   exact (eN (N:=23) (W:=84) (fun d hd=>by obtain ⟨r,hr,rfl⟩:=List.mem_map.mp hd; exact sml_q (hp.ok r hr)) (by rw [List.length_map]; omega)).mono (by decide) (by decide)) (Nat.le_refl _)
 exact h.rpr (by decide) (by decide)
end
end K74
namespace K74
open PySem L2
section
variable {P:Program} {w:World} {K:PySem.W.Frag} {mg:Str→Option Value} {base:Heap} {A:Adr}
theorem rc (ps rs:List Int) (as:List Ask):lay 3 (.tup [aH ps rs,aT as])=true:=by
 rw [lay,List.all_cons,List.all_cons,lH 0,lV 0]; rfl
theorem tY (T:Txt K mg A):FnOk P w K mg base CX0 13 A.f_law A.d_law ["_law_script"] (aY [false] false (oC K)):=by
 have S:=vm
 refine fnD T.t_law.F S ⟨[false],[false,false,false,true,false,false,false,false,false,false,false,false],false⟩ _ ?hl rfl rfl fun cdv Ar outer s H E hr=>⟨_,(ad (aE (i:=1) S.nd rfl (Or.inl rfl) (QF.qe (aW (u7 T) hr T.t_q20 (qk_t (aW (iL T) hr T.t_q47 (ah (aa 0) (ah ac aj))) (ah ac aj)))))
  (ad (aE (i:=2) S.nd rfl (Or.inl rfl) (aZ (ae (aa 1) (ae (QF.qe (aW (sw T) hr T.t_q39 (qk_t (aW (iL T) hr T.t_q47 (ah (aa 0) (ah ac aj))) (ah (aA au cw rfl T.z_len bi (ae (aa 1) ak)) (ah ac aj))))) ak))))
  (ad (b4 (i:=3) S.nd rfl (Or.inr rfl) (aW (iL T) hr T.t_q47 (ah (aa 0) (ah ac aj))))
  (ad (fR (i:=4) ["_law_tie"] [3] 3 1 ⟨rfl,rfl,by decide +kernel,rfl,rfl,(by first | exact trivial | exact ⟨rfl,trivial⟩ | exact ⟨rfl,rfl,trivial⟩ | exact ⟨rfl,rfl,rfl,trivial⟩ | exact ⟨rfl,rfl,rfl,rfl,trivial⟩),rfl⟩ rfl S.nd rfl (Or.inl rfl) (b5 (aa 1)) (gD 0) (fun _ _ _ _=>⟨(bH (i:=0) (show List.Nodup (["_law_tie","_law_pool_here"]:List Str) by decide +kernel) rfl (Or.inl rfl)),dq,(ag (mH T) hr T.t_q54 (ah (ag (bG T) hr T.t_q48 (cA 1 (ah ac aj))) (ah (ar bC dI ac (ag (bG T) hr T.t_q48 (cA 1 (ah ac aj)))) aj)))⟩))
  (ad (aE (i:=5) S.nd rfl (Or.inl rfl) (dZ ak))
  (ad (cB PassesOwn.never rfl (iq rfl T.z_range (ae ac (ae (aA (d9 rfl) dMax rfl T.z_max iH (ae ac (ae (aA (dc rfl) mI rfl T.z_min gq (ae (aA au cw rfl T.z_len bi (ae (aa 0) ak)) (ae ac ak))) ak))) ak))) (aJ (i:=6) S.nd rfl (Or.inl rfl)) (ad (b4 (i:=3) S.nd rfl (Or.inr rfl) (aW (iL T) hr T.t_q47 (ah (aa 0) (ah (aa 6) aj))))
  (ad (aE (i:=7) S.nd rfl (Or.inl rfl) (ag (tR T) hr T.t_q33 (cA 3 (ah (aa 2) (ah (aa 5) aj)))))
  (af (dH (aM (a7 (ag (tN T) hr T.t_q53 (ah (aa 7) (ah (aa 2) (ah (aa 5) aj))))) (ad (fR (i:=8) ["_law_number_here"] [3] 3 1 ⟨rfl,rfl,by decide +kernel,rfl,rfl,(by first | exact trivial | exact ⟨rfl,trivial⟩ | exact ⟨rfl,rfl,trivial⟩ | exact ⟨rfl,rfl,rfl,trivial⟩ | exact ⟨rfl,rfl,rfl,rfl,trivial⟩),rfl⟩ rfl S.nd rfl (Or.inl rfl) (g_ rfl T.z_range (ae (aA au cw rfl T.z_len bi (ae (aa 5) ak)) ak)) (gD 0) (fun _ _ _ _=>⟨(bH (i:=0) (show List.Nodup (["_law_number_here","_law_pool_here"]:List Str) by decide +kernel) rfl (Or.inl rfl)),(gc (aB gS dB (ag (bG T) hr T.t_q48 (cA 1 (ah ac aj))) ac (av _))),(aa 0)⟩))
  (ad (aE (i:=9) S.nd rfl (Or.inl rfl) (aA (il hr.units hr.gd) rH rfl T.z_repr ll (ae (dZ (ae (aa 2) (ae (aa 5) (ae (aa 7) (ae (aa 8) (ae (aa 4) ak)))))) ak)))
  (ad (aE (i:=10) S.nd rfl (Or.inl rfl) (QF.qe (aW (uc T) hr T.t_q18 (ah (aa 2) (ah (aa 5) (ah (aa 7) (ah (aa 8) (ah (aa 4) aj))))))))
  (ad (dH (aM (QW.qt (cW (aB s9 dIsN (aa 10) gH (av _)) (cy (QW.qt (pv (aB (bb hr.units) dEq (ar cx dIC (aa 6) ac) ac (av _)) (kO (a_ (a7 (ag (ok_q2 T) hr T.t_q2 (ah (aa 2) (ah (aa 5) (ah (aa 7) (ah (aa 4) aj))))))))))))) (af (aF dE)) aw))
  (ad (aM (aB op_ne dNeS (aA (il hr.units hr.gd) rH rfl T.z_repr ll (ae (dZ (ae (aa 2) (ae (aa 5) (ae (aa 7) (ae (aa 8) (ae (aa 4) ak)))))) ak)) (aa 9) (av _)) (af (aF dE)) aw)
  (ad (aE (i:=11) S.nd rfl (Or.inl rfl) (ag (mT T) hr T.t_q31 (ah (aa 2) (ah (aa 5) (ah (aa 7) aj)))))
  (ad (aM (aB (bO hr.units) dNe (ag (jY T) hr T.t_q37 (ah (aZ (ae (eD aX dC rfl T.z_list bj (ae (ao ai dIx (aa 2) ac (fun _ _=>rfl)) ak)) (ae (eD aX dC rfl T.z_list bj (ae (ao ai dIx (aa 2) ac (fun _ _=>rfl)) ak)) ak))) (ah (eD aX dC rfl T.z_list bj (ae (aa 5) ak)) (ah (aa 7) aj)))) (aa 11) (av _)) (af (aF dE)) aw)
  (ad (dM (aa 11) (ca rfl (aI (aJ (i:=2) S.nd rfl (Or.inl rfl)) (aI (aJ (i:=5) S.nd rfl (Or.inl rfl)) bL)) (ap (ap a6))))
  (af (aE (i:=4) S.nd rfl (Or.inl rfl) (aa 10))))))))))) aw))))))
  (af (aF dE)))))))),fun ds q h=>?_⟩
 case hl=>intro ds q h; obtain ⟨φ,ns,rfl,_⟩:=h; rfl
 obtain ⟨φ,ns,rfl,hφ,hl,q0⟩:=h
 refine ⟨φ,ns,0,rfl,hφ,by decide,by decide,fun c m h0=>?_⟩
 refine ⟨c,m,8,rfl,h0,by decide,by decide,fun ps c1 m1 hP hle h1=>?_⟩
 have hi:=hP.hi
 refine ⟨φ,ns,1,rfl,hφ,by decide,by decide,fun c2 m2 h2=>?_⟩
 refine ⟨c2,m2,ps.length,1,by rw [ay],h2,hP.lo,hP.hi,by decide,by decide,fun rs c3 m3 hR h3=>?_⟩
 have hT:=hP.tree hR (by decide)
 refine ⟨φ,ns,62,rfl,hφ,by decide,by decide,fun c4 m4 h4=>?_⟩
 refine ⟨by rw [ay]; omega,?_⟩
 refine ⟨fun i es d=>∃ (prs:List Rat) (c m:Int),es=prs.map dQ∧d=az [c,m]∧0≤c∧prs.length=i∧(∀ r∈prs,0≤r.num∧r.num≤12∧r.den≤12),⟨[],c4,m4,rfl,rfl,h4,rfl,(fun r h=>by cases h)⟩,?_,?_⟩
 ·rintro j x es d hx ⟨prs,c5,m5,rfl,rfl,h5,lr,hpr⟩
  refine ⟨c5,m5,13,rfl,h5,by decide,bM (n:=13) (by decide) (by decide +kernel),fun t c6 m6 t0 t1 h6=>?_⟩
  refine ⟨c6,m6,12,rfl,h6,by decide,bM (n:=12) (by decide) (by decide +kernel),fun b c7 m7 b0 b1 h7=>?_⟩
  refine ⟨t,1 + b,rfl,by omega,bM (n:=12) (by omega) (by decide +kernel),?_⟩
  have bd:=ix (t:=t) (b:=1 + b) (by omega)
  have nn : 0≤(Rat.divInt t (1 + b)).num:=Rat.num_nonneg.mpr (l8 t0 (by omega))
  exact ⟨prs++[Rat.divInt t (1 + b)],c7,m7,(List.map_append (l₂:=[Rat.divInt t (1 + b)])).symm,rfl,h7,by rw [List.length_append,lr]; rfl,fun r hr=>by
   rcases List.mem_append.mp hr with hr | hr
   ·exact hpr r hr
   ·rw [List.mem_singleton.mp hr]; exact ⟨nn,by omega,by omega⟩⟩
 rintro es d ⟨prs,c5,m5,rfl,rfl,h5,lr,hpr⟩
 rw [ay] at lr
 have hS:PrS ps prs:=⟨lr,hpr⟩
 refine ⟨bP prs,?_⟩
 refine ⟨hφ,?_⟩
 refine ⟨⟨by decide,by decide,by split <;> split <;> omega,by split <;> split <;> omega⟩,?_⟩
 refine ⟨fun i ρ=>∃ ps' rs' prs' as' v3 v6 v7 v8 v9 v10 v11,ρ=[some (.scr φ ns),some (az ps),some (aH ps' rs'),v3,some (dQs prs'),some (aT as'),v6,v7,v8,v9,v10,v11]∧L2.Tree ps' rs'∧ps'.length≤10∧AsksOk ps' as'∧as'.length≤8∧PrS ps' prs',⟨ps,rs,prs,[],_,_,_,_,_,_,_,rfl,hT,by omega,⟨by decide,fun a h=>by cases h⟩,by decide,hS⟩,?_,?_⟩
 rotate_left
 ·rintro ρ ⟨ps',rs',prs',as',v3,v6,v7,v8,v9,v10,v11,rfl,-⟩
  exact q0
 rintro i d ρ hd ⟨ps',rs',prs',as',v3,v6,v7,v8,v9,v10,v11,rfl,hT',hl10,ha',hl8,hS'⟩
 obtain ⟨hi,rfl⟩:=f8 hd
 have hi2:i<60:=by revert hi; split <;> split <;> omega
 refine ⟨φ,ns,2 + (i:Int),rfl,hφ,by omega,by omega,fun c m h0=>?_⟩
 refine ⟨c,m,ps',rs',as',rfl,h0,hT',ha',fun ch c' m' hdr h1=>?_⟩
 refine ⟨fun ρ=>∃ ps' rs' prs' as' v3 v6 v7 v8 v9 v10 v11,ρ=[some (.scr φ ns),some (az ps),some (aH ps' rs'),v3,some (dQs prs'),some (aT as'),v6,v7,v8,v9,v10,v11]∧L2.Tree ps' rs'∧ps'.length≤10∧AsksOk ps' as'∧as'.length≤8∧PrS ps' prs',?_,?_⟩
 rotate_left
 ·rintro ρ ⟨ps',rs',prs',as',v3,v6,v7,v8,v9,v10,v11,rfl,hT',hl10,ha',hl8,hS'⟩
  exact ⟨ps',rs',prs',as',v3,v6,v7,v8,v9,v10,v11,rfl,hT',hl10,ha',hl8,hS'⟩
 refine ⟨ps',rs',as',ch,rfl,?_⟩
 refine (b7 (c:=fh ps' as' ch=true) (fun hlet=>?_) (fun _=>⟨ps',rs',prs',as',_,_,_,_,_,_,_,rfl,hT',hl10,ha',hl8,hS'⟩))
 obtain ⟨hc,k1,k2⟩:=tp hdr hlet
 have hal':=ha'.len
 have hti':=hT'.hi
 refine ⟨⟨by rw [bR]; omega,by rw [bR]; omega⟩,?_⟩
 rw [bR,Int.toNat_natCast]
 refine ⟨by rw [de]; omega,?_⟩
 refine ⟨fun i es d=>∃ (ks:List Int) (c m:Int),es=ks.map D.int∧d=az [c,m]∧0≤c∧KeepOk i ks,⟨[],c',m',rfl,rfl,h1,⟨.nil,fun k h=>by cases h⟩⟩,?_,?_⟩
 ·rintro j x es d hx ⟨ks,c5,m5,rfl,rfl,h5,hk⟩
  obtain ⟨hj,rfl⟩:=f8 hx
  refine ⟨c5,m5,3,rfl,h5,by decide,bM (n:=3) (by decide) (by decide +kernel),fun t c6 m6 t0 t1 h6=>?_⟩
  refine (b7 (c:=decide (0<t)=true) (fun _=>?_) (fun _=>?_))
  ·refine ⟨ks++[0 + (j:Int)],c6,m6,(List.map_append (l₂:=[0 + (j:Int)])).symm,rfl,h6,⟨?_,fun k hk'=>?_⟩⟩
   ·refine List.pairwise_append.mpr ⟨hk.up,List.pairwise_singleton _ _,fun a ha b hb=>?_⟩
    rw [List.mem_singleton.mp hb]
    have:=hk.lo a ha
    omega
   ·rcases List.mem_append.mp hk' with h | h
    ·have:=hk.lo k h; omega
    ·rw [List.mem_singleton.mp h]; omega
  ·exact ⟨ks,c6,m6,rfl,rfl,h6,⟨hk.up,fun k h=>by have:=hk.lo k h; omega⟩⟩
 rintro es d ⟨ks,c5,m5,rfl,rfl,h5,hk⟩
 rw [de] at hk
 refine ⟨aL _,?_⟩
 have hRp:=rpr5 hT' ha' hc hk hS'
 have hK:=hS'.k hti'
 refine ⟨rfl,hRp,?_⟩
 refine ⟨ps',rs',as',ch,ks,prs',rfl,hT',ha',hc,hk,hK,?_⟩
 refine ⟨fun ρ=>ρ=[some (.scr φ ns),some (az ps),some (aH ps' rs'),some (az [c5,m5]),some (dQs prs'),some (aT as'),some (.int (2 + (i:Int))),some (bZ ch),some (az ks),some (.str (toP (.lst [aH ps' rs',aT as',bZ ch,az ks,dQs prs'])).shown),some (dQs (chQ prs' ch)),v11],?_,?_⟩
 ·refine ⟨(show (0:Int)<5 by decide),?_⟩
  refine (b7 (c:=decide ((2 + (i:Int)) % 5=2)=true) (fun c=>?_) (fun c=>rfl))
  refine ⟨ps',rs',as',ch,prs',rfl,hT',ha',hc,hK,?_⟩
  rfl
 rintro ρ rfl
 refine ⟨rfl,hRp,?_⟩
 refine (b7 (c:=(!decide ((toP (.lst [aH ps' rs',aT as',bZ ch,az ks,dQs prs'])).shown=(toP (.lst [aH ps' rs',aT as',bZ ch,az ks,dQs prs'])).shown))=true) (fun c=>?_) (fun c=>?_))
 ·rw [decide_eq_true rfl] at c; cases c
 refine ⟨ps',rs',as',ch,rfl,hT',ha',hc,?_⟩
 refine ⟨ps',rs',as',ch,rfl,hT',ha',hc,?_⟩
 have hly:=rc (chP ps' ch) (chR rs' ch) (chA as' ch)
 refine ⟨ga hly (by decide),ga hly (by decide),?_⟩
 rw [df 3 _ hly]
 exact ⟨chP ps' ch,chR rs' ch,chQ prs' ch,chA as' ch,_,_,_,_,_,_,_,rfl,eV hT' hc,k1 hl10,eP ha' hc,k2 hl8,hS'.ch⟩
end
end K74
namespace K74
open PySem L2
theorem eG {us:List Value} {n:Nat} (h:us.length=n + 1):∃ a r,us=a :: r∧r.length=n:=by
 cases us with
 | nil=>cases h
 | cons a r=>exact ⟨a,r,rfl,Nat.succ.inj h⟩
theorem us1 {fd:FuncData} {ps:List Str} (h:∀ a0,bindArgs fd ⟨[a0],[]⟩=pure (ps.zip [a0])):∀ us:List Value,us.length=1→bindArgs fd ⟨us,[]⟩=pure (ps.zip us):=fun us hl=>by
 obtain ⟨a0,u0,rfl,h0⟩:=eG hl
 cases List.eq_nil_of_length_eq_zero h0
 exact h a0
theorem us2 {fd:FuncData} {ps:List Str} (h:∀ a0 a1,bindArgs fd ⟨[a0,a1],[]⟩=pure (ps.zip [a0,a1])):∀ us:List Value,us.length=2→bindArgs fd ⟨us,[]⟩=pure (ps.zip us):=fun us hl=>by
 obtain ⟨a0,u0,rfl,h0⟩:=eG hl
 obtain ⟨a1,u1,rfl,h1⟩:=eG h0
 cases List.eq_nil_of_length_eq_zero h1
 exact h a0 a1
theorem us3 {fd:FuncData} {ps:List Str} (h:∀ a0 a1 a2,bindArgs fd ⟨[a0,a1,a2],[]⟩=pure (ps.zip [a0,a1,a2])):∀ us:List Value,us.length=3→bindArgs fd ⟨us,[]⟩=pure (ps.zip us):=fun us hl=>by
 obtain ⟨a0,u0,rfl,h0⟩:=eG hl
 obtain ⟨a1,u1,rfl,h1⟩:=eG h0
 obtain ⟨a2,u2,rfl,h2⟩:=eG h1
 cases List.eq_nil_of_length_eq_zero h2
 exact h a0 a1 a2
theorem us4 {fd:FuncData} {ps:List Str} (h:∀ a0 a1 a2 a3,bindArgs fd ⟨[a0,a1,a2,a3],[]⟩=pure (ps.zip [a0,a1,a2,a3])):∀ us:List Value,us.length=4→bindArgs fd ⟨us,[]⟩=pure (ps.zip us):=fun us hl=>by
 obtain ⟨a0,u0,rfl,h0⟩:=eG hl
 obtain ⟨a1,u1,rfl,h1⟩:=eG h0
 obtain ⟨a2,u2,rfl,h2⟩:=eG h1
 obtain ⟨a3,u3,rfl,h3⟩:=eG h2
 cases List.eq_nil_of_length_eq_zero h3
 exact h a0 a1 a2 a3
theorem us5 {fd:FuncData} {ps:List Str} (h:∀ a0 a1 a2 a3 a4,bindArgs fd ⟨[a0,a1,a2,a3,a4],[]⟩=pure (ps.zip [a0,a1,a2,a3,a4])):∀ us:List Value,us.length=5→bindArgs fd ⟨us,[]⟩=pure (ps.zip us):=fun us hl=>by
 obtain ⟨a0,u0,rfl,h0⟩:=eG hl
 obtain ⟨a1,u1,rfl,h1⟩:=eG h0
 obtain ⟨a2,u2,rfl,h2⟩:=eG h1
 obtain ⟨a3,u3,rfl,h3⟩:=eG h2
 obtain ⟨a4,u4,rfl,h4⟩:=eG h3
 cases List.eq_nil_of_length_eq_zero h4
 exact h a0 a1 a2 a3 a4
theorem all_mk {l:PySem.W.OpenLaw} {w:World} {K:PySem.W.Frag} {h:Heap} {mg:Str→Option Value} {fa:Addr} (X:K.In h) (G:h.Ns mainGlobals mg) (hfa:mg "law" = some (.ref fa))
 {f_q30:Addr} {d_q30:FuncData} (h_q30:FH K "is_whole" oY f_q30 d_q30)
 {f_q16:Addr} {d_q16:FuncData} (h_q16:FH K "is_between" mQ f_q16 d_q16)
 {f_q0:Addr} {d_q0:FuncData} (h_q0:FH K "greatest_common" s_q0 f_q0 d_q0)
 {f_q14:Addr} {d_q14:FuncData} (h_q14:FH K "is_fraction" pX f_q14 d_q14)
 {f_q5:Addr} {d_q5:FuncData} (h_q5:FH K "has_two_lists" s_q5 f_q5 d_q5)
 {f_q13:Addr} {d_q13:FuncData} (h_q13:FH K "look_at_tree" nP f_q13 d_q13)
 {f_q28:Addr} {d_q28:FuncData} (h_q28:FH K "is_place" mJ f_q28 d_q28)
 {f_q44:Addr} {d_q44:FuncData} (h_q44:FH K "is_tie" nO f_q44 d_q44)
 {f_q25:Addr} {d_q25:FuncData} (h_q25:FH K "are_ends" pC f_q25 d_q25)
 {f_q43:Addr} {d_q43:FuncData} (h_q43:FH K "is_ask" oZ f_q43 d_q43)
 {f_q10:Addr} {d_q10:FuncData} (h_q10:FH K "look_at_asks" m9 f_q10 d_q10)
 {f_q27:Addr} {d_q27:FuncData} (h_q27:FH K "fraction" pO f_q27 d_q27)
 {f_q56:Addr} {d_q56:FuncData} (h_q56:FH K "minus" oS f_q56 d_q56)
 {f_q57:Addr} {d_q57:FuncData} (h_q57:FH K "times" nh f_q57 d_q57)
 {f_q50:Addr} {d_q50:FuncData} (h_q50:FH K "sum_of" nb f_q50 d_q50)
 {f_q58:Addr} {d_q58:FuncData} (h_q58:FH K "under" pU f_q58 d_q58)
 {f_q11:Addr} {d_q11:FuncData} (h_q11:FH K "look_at_ends" oE f_q11 d_q11)
 {f_q52:Addr} {d_q52:FuncData} (h_q52:FH K "climb" oT f_q52 d_q52)
 {f_q15:Addr} {d_q15:FuncData} (h_q15:FH K "way_between" pM f_q15 d_q15)
 {f_q51:Addr} {d_q51:FuncData} (h_q51:FH K "way_of" pK f_q51 d_q51)
 {f_q12:Addr} {d_q12:FuncData} (h_q12:FH K "look_at_keep" pk f_q12 d_q12)
 {f_q29:Addr} {d_q29:FuncData} (h_q29:FH K "is_price" pr f_q29 d_q29)
 {f_q4:Addr} {d_q4:FuncData} (h_q4:FH K "look_at_prices" s_q4 f_q4 d_q4)
 {f_q35:Addr} {d_q35:FuncData} (h_q35:FH K "spare_of" nF f_q35 d_q35)
 {f_q49:Addr} {d_q49:FuncData} (h_q49:FH K "spares" nR f_q49 d_q49)
 {f_q26:Addr} {d_q26:FuncData} (h_q26:FH K "bound_of" nM f_q26 d_q26)
 {f_q17:Addr} {d_q17:FuncData} (h_q17:FH K "is_change" nH f_q17 d_q17)
 {f_q9:Addr} {d_q9:FuncData} (h_q9:FH K "changed_tree" s_q9 f_q9 d_q9)
 {f_q8:Addr} {d_q8:FuncData} (h_q8:FH K "changed_asks" s_q8 f_q8 d_q8)
 {f_q37:Addr} {d_q37:FuncData} (h_q37:FH K "changed" pZ f_q37 d_q37)
 {f_q3:Addr} {d_q3:FuncData} (h_q3:FH K "look_at_change" s_q3 f_q3 d_q3)
 {f_q7:Addr} {d_q7:FuncData} (h_q7:FH K "carried_keep" s_q7 f_q7 d_q7)
 {f_q1:Addr} {d_q1:FuncData} (h_q1:FH K "carried_prices" s_q1 f_q1 d_q1)
 {f_q6:Addr} {d_q6:FuncData} (h_q6:FH K "bound_turned" s_q6 f_q6 d_q6)
 {f_q47:Addr} {d_q47:FuncData} (h_q47:FH K "_law_pool" pR f_q47 d_q47)
 {f_q48:Addr} {d_q48:FuncData} (h_q48:FH K "_law_take" mM f_q48 d_q48)
 {f_q34:Addr} {d_q34:FuncData} (h_q34:FH K "_law_number" oB f_q34 d_q34)
 {f_q20:Addr} {d_q20:FuncData} (h_q20:FH K "_law_parents" nI f_q20 d_q20)
 {f_q39:Addr} {d_q39:FuncData} (h_q39:FH K "_law_rooms" nG f_q39 d_q39)
 {f_q45:Addr} {d_q45:FuncData} (h_q45:FH K "_law_ends" mS f_q45 d_q45)
 {f_q59:Addr} {d_q59:FuncData} (h_q59:FH K "_law_up" o6 f_q59 d_q59)
 {f_q55:Addr} {d_q55:FuncData} (h_q55:FH K "_law_way" mG f_q55 d_q55)
 {f_q54:Addr} {d_q54:FuncData} (h_q54:FH K "_law_low" nQ f_q54 d_q54)
 {f_q33:Addr} {d_q33:FuncData} (h_q33:FH K "_law_change" oM f_q33 d_q33)
 {f_q32:Addr} {d_q32:FuncData} (h_q32:FH K "_law_can_be" pD f_q32 d_q32)
 {f_q31:Addr} {d_q31:FuncData} (h_q31:FH K "_law_behind" nS f_q31 d_q31)
 {f_q46:Addr} {d_q46:FuncData} (h_q46:FH K "_law_plus" oX f_q46 d_q46)
 {f_q38:Addr} {d_q38:FuncData} (h_q38:FH K "_law_bound" o0 f_q38 d_q38)
 {f_q19:Addr} {d_q19:FuncData} (h_q19:FH K "_law_kept_on" nK f_q19 d_q19)
 {f_q53:Addr} {d_q53:FuncData} (h_q53:FH K "_law_let" pG f_q53 d_q53)
 {f_q18:Addr} {d_q18:FuncData} (h_q18:FH K "_law_carried" oA f_q18 d_q18)
 {f_q2:Addr} {d_q2:FuncData} (h_q2:FH K "_law_turned_right" s_q2 f_q2 d_q2)
 {f_law:Addr} {d_law:FuncData} (h_law:FH K "law" o_ f_law d_law)
 {t_MOST_TIES:Tok} (c_MOST_TIES:PySem.W.nsIn K mainGlobals "MOST_TIES" = some (some (.int 23 t_MOST_TIES)))
 {t_MOST_ROOM:Tok} (c_MOST_ROOM:PySem.W.nsIn K mainGlobals "MOST_ROOM" = some (some (.int 1000000 t_MOST_ROOM)))
 {t_MOST_ASKS:Tok} (c_MOST_ASKS:PySem.W.nsIn K mainGlobals "MOST_ASKS" = some (some (.int 30 t_MOST_ASKS)))
 {t_MOST_SIZE:Tok} (c_MOST_SIZE:PySem.W.nsIn K mainGlobals "MOST_SIZE" = some (some (.int 1000000 t_MOST_SIZE)))
 {t_MOST_WORTH:Tok} (c_MOST_WORTH:PySem.W.nsIn K mainGlobals "MOST_WORTH" = some (some (.int 1000000000000 t_MOST_WORTH)))
 {g_LENGTHS:Addr} {gn_LENGTHS:Nat} {gh_LENGTHS_0 gh_LENGTHS_1 gh_LENGTHS_2 gh_LENGTHS_3 gh_LENGTHS_4:Int} {gt_LENGTHS_0 gu_LENGTHS_0 gt_LENGTHS_1 gu_LENGTHS_1 gt_LENGTHS_2 gu_LENGTHS_2 gt_LENGTHS_3 gu_LENGTHS_3 gt_LENGTHS_4 gu_LENGTHS_4:Tok} (a_LENGTHS:PySem.W.nsIn K mainGlobals "LENGTHS" = some (some (.ref g_LENGTHS))) (l_LENGTHS:K.lookup g_LENGTHS=some ⟨.type "dict",none,.dict #[⟨gh_LENGTHS_0,.str "room" gt_LENGTHS_0,.int 3 gu_LENGTHS_0⟩,⟨gh_LENGTHS_1,.str "ask" gt_LENGTHS_1,.int 3 gu_LENGTHS_1⟩,⟨gh_LENGTHS_2,.str "more" gt_LENGTHS_2,.int 2 gu_LENGTHS_2⟩,⟨gh_LENGTHS_3,.str "less" gt_LENGTHS_3,.int 2 gu_LENGTHS_3⟩,⟨gh_LENGTHS_4,.str "hang" gt_LENGTHS_4,.int 3 gu_LENGTHS_4⟩] gn_LENGTHS,#[]⟩) (n_LENGTHS:(g_LENGTHS == sysModules)=false)
 (z_bool:PySem.W.nsIn K mainGlobals "bool" = some none)
 (z_enumerate:PySem.W.nsIn K mainGlobals "enumerate" = some none)
 (z_int:PySem.W.nsIn K mainGlobals "int" = some none)
 (z_isinstance:PySem.W.nsIn K mainGlobals "isinstance" = some none)
 (z_len:PySem.W.nsIn K mainGlobals "len" = some none)
 (z_list:PySem.W.nsIn K mainGlobals "list" = some none)
 (z_max:PySem.W.nsIn K mainGlobals "max" = some none)
 (z_min:PySem.W.nsIn K mainGlobals "min" = some none)
 (z_range:PySem.W.nsIn K mainGlobals "range" = some none)
 (z_repr:PySem.W.nsIn K mainGlobals "repr" = some none)
 (z_sorted:PySem.W.nsIn K mainGlobals "sorted" = some none)
 (z_str:PySem.W.nsIn K mainGlobals "str" = some none)
 (z_sum:PySem.W.nsIn K mainGlobals "sum" = some none)
 (z_tuple:PySem.W.nsIn K mainGlobals "tuple" = some none)
 (z_zip:PySem.W.nsIn K mainGlobals "zip" = some none)
   :∃ fd:FuncData,(∀ (s:Shared) (v:Value),BindsTo s fd ⟨[v],[]⟩ [("_law_script",v)])∧∀ base:Heap,K.In base→base.Ns mainGlobals mg→FnOk l.prog w K mg base CX0 13 fa fd ["_law_script"] (li K):=by
 have e:=hfa.symm.trans (PySem.W.mg_of X G h_law.a)
 cases e
 have T:Txt K mg ⟨f_q30,_,f_q16,_,f_q0,_,f_q14,_,f_q5,_,f_q13,_,f_q28,_,f_q44,_,f_q25,_,f_q43,_,f_q10,_,f_q27,_,f_q56,_,f_q57,_,f_q50,_,f_q58,_,f_q11,_,f_q52,_,f_q15,_,f_q51,_,f_q12,_,f_q29,_,f_q4,_,f_q35,_,f_q49,_,f_q26,_,f_q17,_,f_q9,_,f_q8,_,f_q37,_,f_q3,_,f_q7,_,f_q1,_,f_q6,_,f_q47,_,f_q48,_,f_q34,_,f_q20,_,f_q39,_,f_q45,_,f_q59,_,f_q55,_,f_q54,_,f_q33,_,f_q32,_,f_q31,_,f_q46,_,f_q38,_,f_q19,_,f_q53,_,f_q18,_,f_q2,_,fa,_,g_LENGTHS⟩:=⟨h_q30.ft X G fun _ _ _ _ _ _=>us1 fun _=>rfl,h_q16.ft X G fun _ _ _ _ _ _=>us3 fun _ _ _=>rfl,h_q0.ft X G fun _ _ _ _ _ _=>us2 fun _ _=>rfl,h_q14.ft X G fun _ _ _ _ _ _=>us1 fun _=>rfl,h_q5.ft X G fun _ _ _ _ _ _=>us1 fun _=>rfl,h_q13.ft X G fun _ _ _ _ _ _=>us1 fun _=>rfl,h_q28.ft X G fun _ _ _ _ _ _=>us2 fun _ _=>rfl,h_q44.ft X G fun _ _ _ _ _ _=>us2 fun _ _=>rfl,h_q25.ft X G fun _ _ _ _ _ _=>us3 fun _ _ _=>rfl,h_q43.ft X G fun _ _ _ _ _ _=>us2 fun _ _=>rfl,h_q10.ft X G fun _ _ _ _ _ _=>us2 fun _ _=>rfl,h_q27.ft X G fun _ _ _ _ _ _=>us2 fun _ _=>rfl,h_q56.ft X G fun _ _ _ _ _ _=>us2 fun _ _=>rfl,h_q57.ft X G fun _ _ _ _ _ _=>us2 fun _ _=>rfl,h_q50.ft X G fun _ _ _ _ _ _=>us1 fun _=>rfl,h_q58.ft X G fun _ _ _ _ _ _=>us2 fun _ _=>rfl,h_q11.ft X G fun _ _ _ _ _ _=>us3 fun _ _ _=>rfl,h_q52.ft X G fun _ _ _ _ _ _=>us3 fun _ _ _=>rfl,h_q15.ft X G fun _ _ _ _ _ _=>us3 fun _ _ _=>rfl,h_q51.ft X G fun _ _ _ _ _ _=>us2 fun _ _=>rfl,h_q12.ft X G fun _ _ _ _ _ _=>us3 fun _ _ _=>rfl,h_q29.ft X G fun _ _ _ _ _ _=>us1 fun _=>rfl,h_q4.ft X G fun _ _ _ _ _ _=>us2 fun _ _=>rfl,h_q35.ft X G fun _ _ _ _ _ _=>us4 fun _ _ _ _=>rfl,h_q49.ft X G fun _ _ _ _ _ _=>us3 fun _ _ _=>rfl,h_q26.ft X G fun _ _ _ _ _ _=>us3 fun _ _ _=>rfl,h_q17.ft X G fun _ _ _ _ _ _=>us3 fun _ _ _=>rfl,h_q9.ft X G fun _ _ _ _ _ _=>us2 fun _ _=>rfl,h_q8.ft X G fun _ _ _ _ _ _=>us2 fun _ _=>rfl,h_q37.ft X G fun _ _ _ _ _ _=>us3 fun _ _ _=>rfl,h_q3.ft X G fun _ _ _ _ _ _=>us3 fun _ _ _=>rfl,h_q7.ft X G fun _ _ _ _ _ _=>us4 fun _ _ _ _=>rfl,h_q1.ft X G fun _ _ _ _ _ _=>us4 fun _ _ _ _=>rfl,h_q6.ft X G fun _ _ _ _ _ _=>us4 fun _ _ _ _=>rfl,h_q47.ft X G fun _ _ _ _ _ _=>us2 fun _ _=>rfl,h_q48.ft X G fun _ _ _ _ _ _=>us2 fun _ _=>rfl,h_q34.ft X G fun _ _ _ _ _ _=>us2 fun _ _=>rfl,h_q20.ft X G fun _ _ _ _ _ _=>us2 fun _ _=>rfl,h_q39.ft X G fun _ _ _ _ _ _=>us3 fun _ _ _=>rfl,h_q45.ft X G fun _ _ _ _ _ _=>us2 fun _ _=>rfl,h_q59.ft X G fun _ _ _ _ _ _=>us2 fun _ _=>rfl,h_q55.ft X G fun _ _ _ _ _ _=>us2 fun _ _=>rfl,h_q54.ft X G fun _ _ _ _ _ _=>us2 fun _ _=>rfl,h_q33.ft X G fun _ _ _ _ _ _=>us3 fun _ _ _=>rfl,h_q32.ft X G fun _ _ _ _ _ _=>us3 fun _ _ _=>rfl,h_q31.ft X G fun _ _ _ _ _ _=>us3 fun _ _ _=>rfl,h_q46.ft X G fun _ _ _ _ _ _=>us2 fun _ _=>rfl,h_q38.ft X G fun _ _ _ _ _ _=>us3 fun _ _ _=>rfl,h_q19.ft X G fun _ _ _ _ _ _=>us2 fun _ _=>rfl,h_q53.ft X G fun _ _ _ _ _ _=>us3 fun _ _ _=>rfl,h_q18.ft X G fun _ _ _ _ _ _=>us5 fun _ _ _ _ _=>rfl,h_q2.ft X G fun _ _ _ _ _ _=>us4 fun _ _ _ _=>rfl,h_law.ft X G fun _ _ _ _ _ _=>us1 fun _=>rfl,PySem.W.mg_none_of X G z_bool,PySem.W.mg_none_of X G z_enumerate,PySem.W.mg_none_of X G z_int,PySem.W.mg_none_of X G z_isinstance,PySem.W.mg_none_of X G z_len,PySem.W.mg_none_of X G z_list,PySem.W.mg_none_of X G z_max,PySem.W.mg_none_of X G z_min,PySem.W.mg_none_of X G z_range,PySem.W.mg_none_of X G z_repr,PySem.W.mg_none_of X G z_sorted,PySem.W.mg_none_of X G z_str,PySem.W.mg_none_of X G z_sum,PySem.W.mg_none_of X G z_tuple,PySem.W.mg_none_of X G z_zip,⟨_,PySem.W.mg_of X G c_MOST_TIES⟩,⟨_,PySem.W.mg_of X G c_MOST_ROOM⟩,⟨_,PySem.W.mg_of X G c_MOST_ASKS⟩,⟨_,PySem.W.mg_of X G c_MOST_SIZE⟩,⟨_,PySem.W.mg_of X G c_MOST_WORTH⟩,PySem.W.mg_of X G a_LENGTHS,⟨n_LENGTHS,_,_,_,l_LENGTHS,⟨rfl,rfl,rfl⟩,rfl,.cons rfl ⟨_,rfl⟩ (.cons rfl ⟨_,rfl⟩ (.cons rfl ⟨_,rfl⟩ (.cons rfl ⟨_,rfl⟩ (.cons rfl ⟨_,rfl⟩ (.nil)))))⟩⟩
 obtain ⟨_,_,_,_,_,_,_,_,_,rfl,_,_⟩:=h_law.F.ex
 exact ⟨_,fun s v=>.of_eq rfl,fun base _ _=>(tY T).imp fun _ _ _ _ h=>oR h⟩
theorem walk {l:PySem.W.OpenLaw} {q:Program} {loose:List Str} {XP:(Str→Option Value)→Heap→Prop} {YP:World→Heap→Prop} {d:DefRec} {K:Params→PySem.W.Frag} (hn:l.most=some 63) (hdf:d.params.defaults=[])
 (hY:∀ (w:World) (h:Heap),YP w h→(K w.params).In h)
 (F:∀ (w:World) (mg:Str→Option Value) (fa:Addr) (h:Heap),(K w.params).In h→h.Ns mainGlobals mg→mg d.name=some (.ref fa) →
  ∃ fd:FuncData,(∀ (s:Shared) (u:Value),BindsTo s fd ⟨[u],[]⟩ [("_law_script",u)])∧∀ base:Heap,(K w.params).In base→base.Ns mainGlobals mg→FnOk l.prog w (K w.params) mg base CX0 13 fa fd ["_law_script"] (li (K w.params))) :
 PySem.W.WalkO q loose XP YP l.row.toRowW d [] (fun f vs=>PySem.call f vs) :=
 L2.p6 (n:=63) (k:=13) (x:="_law_script") (CX:=fun _=>CX0) (sp:=fun w=>li (K w.params)) hn (by decide) hdf ⟨rfl,by decide,by decide,rfl⟩ hY F (fun _ _ a ns hl hO hS=>⟨a,ns,rfl,hO,hS,hl,fun _=>rfl⟩) fun _ _ _ _ _ z=>z
end K74
open PySem PySem.W PyProof.Rows
set_option maxRecDepth 100000 in
theorem PySem.Challenge.cw_treeasks_k74_carried_over_changes_holds : PySem.Challenge.rw_treeasks_k74_carried_over_changes.Holds := by
 w_on; o_law; k_head; (case hw=>w_witness2)
 k_fill
 refine K74.walk (l:=PySem.Challenge.rw_treeasks_k74_carried_over_changes) rfl rfl (fun w h Y=>PySem.W.kIn_of Y) ?F
 case F =>
  intro w mg fa h KX G hmg
  refine' K74.all_mk KX G hmg (L2.aQ ?_ ?_ ?_ ?_) (L2.aQ ?_ ?_ ?_ ?_) (L2.aQ ?_ ?_ ?_ ?_) (L2.aQ ?_ ?_ ?_ ?_) (L2.aQ ?_ ?_ ?_ ?_) (L2.aQ ?_ ?_ ?_ ?_) (L2.aQ ?_ ?_ ?_ ?_) (L2.aQ ?_ ?_ ?_ ?_) (L2.aQ ?_ ?_ ?_ ?_) (L2.aQ ?_ ?_ ?_ ?_) (L2.aQ ?_ ?_ ?_ ?_) (L2.aQ ?_ ?_ ?_ ?_) (L2.aQ ?_ ?_ ?_ ?_) (L2.aQ ?_ ?_ ?_ ?_) (L2.aQ ?_ ?_ ?_ ?_) (L2.aQ ?_ ?_ ?_ ?_) (L2.aQ ?_ ?_ ?_ ?_) (L2.aQ ?_ ?_ ?_ ?_) (L2.aQ ?_ ?_ ?_ ?_) (L2.aQ ?_ ?_ ?_ ?_) (L2.aQ ?_ ?_ ?_ ?_) (L2.aQ ?_ ?_ ?_ ?_) (L2.aQ ?_ ?_ ?_ ?_) (L2.aQ ?_ ?_ ?_ ?_) (L2.aQ ?_ ?_ ?_ ?_) (L2.aQ ?_ ?_ ?_ ?_) (L2.aQ ?_ ?_ ?_ ?_) (L2.aQ ?_ ?_ ?_ ?_) (L2.aQ ?_ ?_ ?_ ?_) (L2.aQ ?_ ?_ ?_ ?_) (L2.aQ ?_ ?_ ?_ ?_) (L2.aQ ?_ ?_ ?_ ?_) (L2.aQ ?_ ?_ ?_ ?_) (L2.aQ ?_ ?_ ?_ ?_) (L2.aQ ?_ ?_ ?_ ?_) (L2.aQ ?_ ?_ ?_ ?_) (L2.aQ ?_ ?_ ?_ ?_) (L2.aQ ?_ ?_ ?_ ?_) (L2.aQ ?_ ?_ ?_ ?_) (L2.aQ ?_ ?_ ?_ ?_) (L2.aQ ?_ ?_ ?_ ?_) (L2.aQ ?_ ?_ ?_ ?_) (L2.aQ ?_ ?_ ?_ ?_) (L2.aQ ?_ ?_ ?_ ?_) (L2.aQ ?_ ?_ ?_ ?_) (L2.aQ ?_ ?_ ?_ ?_) (L2.aQ ?_ ?_ ?_ ?_) (L2.aQ ?_ ?_ ?_ ?_) (L2.aQ ?_ ?_ ?_ ?_) (L2.aQ ?_ ?_ ?_ ?_) (L2.aQ ?_ ?_ ?_ ?_) (L2.aQ ?_ ?_ ?_ ?_) (L2.aQ ?_ ?_ ?_ ?_) ?_ ?_ ?_ ?_ ?_ ?_ ?_ ?_ ?_ ?_ ?_ ?_ ?_ ?_ ?_ ?_ ?_ ?_ ?_ ?_ ?_ ?_ ?_
  all_goals try k_is
  all_goals first | rfl | (rw [← Array.all_toList]; rfl)
end
