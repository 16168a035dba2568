import PyProof.Rows.All
import Wide.All
import OpenK.AllK
import Wide.FinOn
import Lean
import PyProof.EqAt
import PyProof.EqKinds
import PyProof.TupleCall
import PyProof.Rows.ListRangeD
import KE.LcSums
import KE.KRevSl
import PyProof.Rows.SetFrom
import PyProof.Rows.ListMulArg
import KE.KSortKey
import PySem.Challenge.RW_treeasks_k31_keep_by_depth_told
set_option Elab.async false
set_option linter.all false
set_option maxRecDepth 100000
set_option genSizeOf false
set_option maxHeartbeats 4000000
set_option exponentiation.threshold 9000
noncomputable section
theorem PySem.W.Fast.te9777699058523956849:True:=trivial
def PySem.W.Fast.tw9777699058523956849:Nat:=0
theorem PySem.W.Fast.te4681726129742617175:True:=trivial
def PySem.W.Fast.tw4681726129742617175:Nat:=0
def PySem.W.Fast.tw3729239543333029637:PySem.Program:=PySem.Challenge.pw_treeasks_k31_keep_by_depth_told
theorem PySem.W.Fast.te3729239543333029637:PySem.Challenge.pw_treeasks_k31_keep_by_depth_told=PySem.W.Fast.tw3729239543333029637:=rfl
def PySem.W.Fast.tw18183016839575401637:List PySem.Stmt:=((PySem.Challenge.pw_treeasks_k31_keep_by_depth_told.main.body.drop 15).take 16)
theorem PySem.W.Fast.te18183016839575401637:((PySem.Challenge.pw_treeasks_k31_keep_by_depth_told.main.body.drop 15).take 16)=PySem.W.Fast.tw18183016839575401637:=rfl
def PySem.W.Fast.tw12334312470135451090:PySem.Program:=({ PySem.Challenge.pw_treeasks_k31_keep_by_depth_told with main:={ PySem.Challenge.pw_treeasks_k31_keep_by_depth_told.main with body:=(PySem.Challenge.pw_treeasks_k31_keep_by_depth_told.main.body.drop 1).take 6++(PySem.Challenge.pw_treeasks_k31_keep_by_depth_told.main.body.drop 8).take 3++(PySem.Challenge.pw_treeasks_k31_keep_by_depth_told.main.body.drop 12).take 7++(PySem.Challenge.pw_treeasks_k31_keep_by_depth_told.main.body.drop 20).take 5++(PySem.Challenge.pw_treeasks_k31_keep_by_depth_told.main.body.drop 26).take 7++(PySem.Challenge.pw_treeasks_k31_keep_by_depth_told.main.body.drop 34).take 6++(PySem.Challenge.pw_treeasks_k31_keep_by_depth_told.main.body.drop 41).take 4++(PySem.Challenge.pw_treeasks_k31_keep_by_depth_told.main.body.drop 46).take 1++(PySem.Challenge.pw_treeasks_k31_keep_by_depth_told.main.body.drop 48).take 7++(PySem.Challenge.pw_treeasks_k31_keep_by_depth_told.main.body.drop 56).take 1++(PySem.Challenge.pw_treeasks_k31_keep_by_depth_told.main.body.drop 58).take 19 } }:PySem.Program)
theorem PySem.W.Fast.te12334312470135451090:({ PySem.Challenge.pw_treeasks_k31_keep_by_depth_told with main:={ PySem.Challenge.pw_treeasks_k31_keep_by_depth_told.main with body:=(PySem.Challenge.pw_treeasks_k31_keep_by_depth_told.main.body.drop 1).take 6++(PySem.Challenge.pw_treeasks_k31_keep_by_depth_told.main.body.drop 8).take 3++(PySem.Challenge.pw_treeasks_k31_keep_by_depth_told.main.body.drop 12).take 7++(PySem.Challenge.pw_treeasks_k31_keep_by_depth_told.main.body.drop 20).take 5++(PySem.Challenge.pw_treeasks_k31_keep_by_depth_told.main.body.drop 26).take 7++(PySem.Challenge.pw_treeasks_k31_keep_by_depth_told.main.body.drop 34).take 6++(PySem.Challenge.pw_treeasks_k31_keep_by_depth_told.main.body.drop 41).take 4++(PySem.Challenge.pw_treeasks_k31_keep_by_depth_told.main.body.drop 46).take 1++(PySem.Challenge.pw_treeasks_k31_keep_by_depth_told.main.body.drop 48).take 7++(PySem.Challenge.pw_treeasks_k31_keep_by_depth_told.main.body.drop 56).take 1++(PySem.Challenge.pw_treeasks_k31_keep_by_depth_told.main.body.drop 58).take 19 } }:PySem.Program)=PySem.W.Fast.tw12334312470135451090:=rfl
def PySem.W.Fast.tw10356674827942889679:List PySem.Stmt:=((PySem.Challenge.pw_treeasks_k31_keep_by_depth_told.main.body.drop 31).take 15)
theorem PySem.W.Fast.te10356674827942889679:((PySem.Challenge.pw_treeasks_k31_keep_by_depth_told.main.body.drop 31).take 15)=PySem.W.Fast.tw10356674827942889679:=rfl
def PySem.W.Fast.tw4886348099393853307:List PySem.Stmt:=((PySem.Challenge.pw_treeasks_k31_keep_by_depth_told.main.body.drop 3).take 1)
theorem PySem.W.Fast.te4886348099393853307:((PySem.Challenge.pw_treeasks_k31_keep_by_depth_told.main.body.drop 3).take 1)=PySem.W.Fast.tw4886348099393853307:=rfl
def PySem.W.Fast.tw15863666011375468054:List PySem.Stmt:=((PySem.Challenge.pw_treeasks_k31_keep_by_depth_told.main.body.drop 0).take 2)
theorem PySem.W.Fast.te15863666011375468054:((PySem.Challenge.pw_treeasks_k31_keep_by_depth_told.main.body.drop 0).take 2)=PySem.W.Fast.tw15863666011375468054:=rfl
def PySem.W.Fast.tw10033774005117906776:List PySem.Stmt:=((PySem.Challenge.pw_treeasks_k31_keep_by_depth_told.main.body.drop 74).take 3)
theorem PySem.W.Fast.te10033774005117906776:((PySem.Challenge.pw_treeasks_k31_keep_by_depth_told.main.body.drop 74).take 3)=PySem.W.Fast.tw10033774005117906776:=rfl
def PySem.W.Fast.tw16656158104131487015:List PySem.Stmt:=((PySem.Challenge.pw_treeasks_k31_keep_by_depth_told.main.body.drop 2).take 1)
theorem PySem.W.Fast.te16656158104131487015:((PySem.Challenge.pw_treeasks_k31_keep_by_depth_told.main.body.drop 2).take 1)=PySem.W.Fast.tw16656158104131487015:=rfl
def PySem.W.Fast.tw10455027996055773916:List PySem.Stmt:=((PySem.Challenge.pw_treeasks_k31_keep_by_depth_told.main.body.drop 46).take 15)
theorem PySem.W.Fast.te10455027996055773916:((PySem.Challenge.pw_treeasks_k31_keep_by_depth_told.main.body.drop 46).take 15)=PySem.W.Fast.tw10455027996055773916:=rfl
def PySem.W.Fast.tw9424791214258793955:List PySem.Stmt:=((PySem.Challenge.pw_treeasks_k31_keep_by_depth_told.main.body.drop 61).take 13)
theorem PySem.W.Fast.te9424791214258793955:((PySem.Challenge.pw_treeasks_k31_keep_by_depth_told.main.body.drop 61).take 13)=PySem.W.Fast.tw9424791214258793955:=rfl
def PySem.W.Fast.tw15380213084569652375:List PySem.Stmt:=((PySem.Challenge.pw_treeasks_k31_keep_by_depth_told.main.body.drop 5).take 1)
theorem PySem.W.Fast.te15380213084569652375:((PySem.Challenge.pw_treeasks_k31_keep_by_depth_told.main.body.drop 5).take 1)=PySem.W.Fast.tw15380213084569652375:=rfl
def PySem.W.Fast.tw9209813383476506266:List PySem.Stmt:=((PySem.Challenge.pw_treeasks_k31_keep_by_depth_told.main.body.drop 4).take 1)
theorem PySem.W.Fast.te9209813383476506266:((PySem.Challenge.pw_treeasks_k31_keep_by_depth_told.main.body.drop 4).take 1)=PySem.W.Fast.tw9209813383476506266:=rfl
def PySem.W.Fast.tw9649518896844266909:List PySem.Stmt:=((PySem.Challenge.pw_treeasks_k31_keep_by_depth_told.main.body.drop 6).take 9)
theorem PySem.W.Fast.te9649518896844266909:((PySem.Challenge.pw_treeasks_k31_keep_by_depth_told.main.body.drop 6).take 9)=PySem.W.Fast.tw9649518896844266909:=rfl
namespace Ob
noncomputable section
open PySem
open PySem.Str renaming ofString → S
open PySem.Value renaming str → v, ref → r, int → i, none → n
abbrev F := Params → Obj
noncomputable def d (P : Params) (s : Str) (t : Tok) (w : Value) : DictEntry := ⟨PyData.keyHash P s, .str s t, w⟩
noncomputable def g (k : Nat) (q : Str → Str) : FuncData := match PySem.Challenge.pw_treeasks_k31_keep_by_depth_told.main.body[k % 1000]? with
  | some (.FunctionDef a b c _ _ _ s _ _ _) => ⟨a,q a,b,.stmts c,s,0,[],n,n,n,n,none,n,n,0⟩
  | some (.ClassDef _ _ _ l _ _ _ _ _ _ _) => (match l[k / 1000]? with
    | some (.FunctionDef a b c _ _ _ s _ _ _) => ⟨a,q a,b,.stmts c,s,0,[],n,n,n,n,none,n,n,0⟩
    | _ => default)
  | _ => default
noncomputable def x (k : Nat) : F := fun _ => ⟨n,none,.func (g k id),#[]⟩
noncomputable def X (k : Nat) (q : Str) : F := fun _ => ⟨n,none,.func (g k fun _ => q),#[]⟩
noncomputable def y (k : Nat) (m c : Value) : F := fun _ => ⟨.type "function",none,.func { g k id with globals := 3, pyModule := m, code := c },#[]⟩
noncomputable def Y (k : Nat) (q : Str) (m c : Value) : F := fun _ => ⟨.type "function",none,.func { g k (fun _ => q) with globals := 3, pyModule := m, code := c },#[]⟩
noncomputable def u (l : List Value) : F := fun _ => ⟨.type "tuple",none,.seq l.toArray 0,#[]⟩
noncomputable def z (l : List Value) : F := fun _ => ⟨n,none,.fields l.toArray,#[]⟩
noncomputable def V (s : String) (t : Tok) : Value := v (S s) t
noncomputable def q (s : String) (t1 t2 t3 : Tok) (l a b c e : Int) (r1 : Addr) (m : Int) (r2 r3 r4 r5 : Addr) (t : Int) (t4 : Tok) : F := fun _ => ⟨.type "code",none,.fields #[v (S s) t1,v (S s) t2,v (S "/claim/cut.py") t3,i l 0,i a 0,i b 0,i c 0,i e 0,r r1,.bool true,i m 0,r r2,n,r r3,r r4,r r5,i t 0,i l 0,v (S "/claim/cut.py") t4],#[]⟩
noncomputable def k (l : List Value) : F := fun _ => ⟨.type "code",none,.fields l.toArray,#[]⟩
noncomputable def w (f : F) (a b : Params → W.BT) : Params → W.BT := fun P => .node (f P) (a P) (b P)
noncomputable def e : Params → W.BT := fun _ => .nil
noncomputable def o (f : F) : Params → W.BT := w f e e
noncomputable def ha(p0:String)(p1:Nat)(p2:String):F:=u [(V p0 p1),(V p2 (p1+1))]
noncomputable def hb(p0:String)(p1:Nat)(p2:String)(p3:String):F:=u [(V p0 p1),(V p2 (p1+1)),(V p3 (p1+2))]
noncomputable def hc(p0:String)(p1:Nat)(p2:Int)(p3:Int)(p4:Nat)(p5:Int):F:=k [(V p0 p1),(V p0 (p1+1)),(V "/claim/cut.py" (p1+2)),(i p2 0),(i p3 0),(i 0 0),(i 0 0),(i 3 0),(r p4),(.bool .true),(i 181 0),(r (p4+1)),n,n,n,(r (p4+2)),(i p5 0),(i p2 0),(V "/claim/cut.py" (p1+4))]
noncomputable def hd(p0:String)(p1:Nat)(p2:Int)(p3:Nat)(p4:Int):F:=k [(V p0 p1),(V p0 (p1+1)),(V "/claim/cut.py" (p1+2)),(i p2 0),(i 0 0),(i 0 0),(i 0 0),(i 0 0),(r p3),(.bool .false),(i 181 0),(r (p3+1)),n,n,n,n,(i p4 0),(i p2 0),(V "/claim/cut.py" (p1+4))]
noncomputable def he(p0:Nat)(p1:Nat)(p2:String)(p3:Nat):F:=fun P=>⟨(.type "frame"),none,.plain,#[(some (r p0)),(some (r 3)),(some (r p1)),none,(some (V p2 p3)),none,(some (r 0))]⟩
noncomputable def hf(p0:Nat):F:=fun P=>⟨(.type "builtin_function_or_method"),none,(.fields #[(.builtin "object.__init_subclass__"),(r p0)]),#[]⟩
noncomputable def hg(p0:Nat):F:=fun P=>⟨(.type "super"),none,(.fields #[(r p0),(r p0),(r p0)]),#[]⟩
noncomputable def hh(p0:String)(p1:Nat)(p2:String)(p3:String)(p4:String)(p5:String):F:=u [(V p0 p1),(V p2 (p1+1)),(V p3 (p1+2)),(V p4 (p1+3)),(V p5 (p1+4))]
noncomputable def hi(p0:String)(p1:Nat)(p2:Nat)(p3:Nat)(p4:Nat):F:=fun P=>⟨(.type "type"),none,(.cls ⟨(S p0),[(r 24)],[(r p1),(r 24),(.type "ValueError"),(.type "Exception"),(.type "BaseException"),(.type "object")],p2,(S p0),.true,[],[],.false,none,.false⟩),#[(some (r p3)),none,(some (V p0 p4)),(some (V p0 (p4+8))),(some (.builtin "ValueError.__new__")),(some (.bool .true))]⟩
noncomputable def hj(p0:Nat)(p1:Int)(p2:String)(p3:Nat)(p4:Nat)(p5:String)(p6:Nat)(p7:Nat)(p8:Nat):F:=fun P=>⟨(.type "dict"),none,(.dict #[(d P (S "__module__") p0 (v (S "treeasks.errors") 187)),(d P (S "__firstlineno__") (p0+4) (i p1 (p0+3))),(d P (S p2) p3 (r p4)),(d P (S p5) p6 (r p7)),(d P (S "__doc__") (p6+1) n)] p8),#[]⟩
noncomputable def hk(p0:Nat)(p1:String)(p2:Int)(p3:Nat):F:=fun P=>⟨(.type "dict"),none,(.dict #[(d P (S "__module__") p0 (v (S "treeasks.errors") 187)),(d P (S "__qualname__") (p0+2) (v (S p1) (p0+1))),(d P (S "__firstlineno__") (p0+4) (i p2 (p0+3))),(d P (S "__static_attributes__") (p0+5) (r p3))] 4),#[]⟩
noncomputable def hl(p0:Nat)(p1:String)(p2:Nat):F:=Y p0 (S p1) (V "treeasks.errors" 187) (r p2)
noncomputable def hm(p0:Nat)(p1:String)(p2:Int)(p3:Int)(p4:Nat)(p5:Int)(p6:Nat):F:=k [(V "__init__" p0),(V p1 (p0+1)),(V "/claim/cut.py" (p0+2)),(i p2 0),(i p3 0),(i 0 0),(i 0 0),(i 3 0),(r p4),(.bool .true),(i 181 0),(r (p4+1)),n,(r (p4+2)),(r (p4+3)),(r (p4+4)),(i p5 0),(i p2 0),(V "/claim/cut.py" p6)]
noncomputable def hn(p0:Nat)(p1:String)(p2:Int)(p3:Nat)(p4:Nat)(p5:Nat):F:=fun P=>⟨(.type "dict"),none,(.dict #[(d P (S "__module__") p0 (v (S "treeasks.errors") 187)),(d P (S "__qualname__") (p0+2) (v (S p1) (p0+1))),(d P (S "__firstlineno__") (p0+4) (i p2 (p0+3))),(d P (S "__init__") p3 (r p4)),(d P (S "__static_attributes__") p5 (r (p4+1)))] 5),#[]⟩
noncomputable def ho(p0:Nat)(p1:Int)(p2:Nat):F:=fun P=>⟨(.type "dict"),none,(.dict #[(d P (S "__module__") p0 (v (S "treeasks.errors") 187)),(d P (S "__firstlineno__") (p0+4) (i p1 (p0+3))),(d P (S "__static_attributes__") (p0+5) (r p2)),(d P (S "__doc__") (p0+6) n)] 2),#[]⟩
noncomputable def zl:List (Nat×Nat×Nat)→List Value
  | []=>[]
  | (a,b,c)::t=>i (Int.ofNat a) 0::i (Int.ofNat b) 0::r c::zl t
def zz:List Value:=zl [(2,0,20),(4,0,33),(10,0,52),(15,0,71),(20,0,90),(22,0,102),(25,0,114),(27,0,121),(29,0,128),(36,0,135),(43,0,142),(53,0,149),(59,0,156),(61,0,163),(67,0,170),(72,0,177),(80,0,184),(89,0,191),(91,0,198),(93,0,205),(95,0,212),(97,0,217),(102,0,224),(105,0,231),(109,0,238),(116,0,245),(120,0,252),(122,0,259),(126,0,264),(131,0,271),(134,0,278),(138,0,283),(140,0,290),(143,0,295),(149,0,302),(154,0,309),(158,0,314),(162,0,321),(165,0,328),(177,0,335),(186,0,342),(193,0,349),(197,0,356),(203,0,363),(213,0,370),(219,0,377),(229,0,384),(235,0,389),(238,0,394),(242,0,401),(246,0,408),(249,0,415),(251,0,422),(253,0,427),(259,0,432),(262,0,437),(272,0,442)]
def A64:F:=fun P=>⟨(.type "dict"),none,(.dict #[(d P (S "__name__") 165 (v (S "treeasks.errors") 187)),(d P (S "__doc__") 166 n),(d P (S "__package__") 167 n),(d P (S "__loader__") 168 (.builtin "__main__.__loader__#opaque")),(d P (S "__spec__") 169 n),(d P (S "__annotations__") 170 (r 6)),(d P (S "__builtins__") 171 (r 4)),(d P (S "__file__") 173 (v (S "/claim/cut.py") 172)),(d P (S "__cached__") 174 n),(d P (S "AskError") 206 (r 24)),(d P (S "NoTree") 233 (r 44))] 11),#[]⟩
def a0k:F:=fun P=>⟨(.type "type"),none,(.cls ⟨(S "AskError"),[(.type "ValueError")],[(r 24),(.type "ValueError"),(.type "Exception"),(.type "BaseException"),(.type "object")],23,(S "AskError"),.true,[],[(r 44)],.false,none,.false⟩),#[(some (r 15)),none,(some (V "AskError" 189)),(some (V "AskError" 197)),(some (.builtin "ValueError.__new__")),(some (.bool .true))]⟩
def a0m:F:=z [(i 2 0),(i 0 0),(r 20),(i 4 0),(i 0 0),(r 33)]
def A86:F:=fun P=>⟨(.type "dict"),none,(.dict #[(d P (S "__name__") 165 (v (S "treeasks.errors") 187)),(d P (S "__doc__") 166 n),(d P (S "__package__") 167 n),(d P (S "__loader__") 168 (.builtin "__main__.__loader__#opaque")),(d P (S "__spec__") 169 n),(d P (S "__annotations__") 170 (r 6)),(d P (S "__builtins__") 171 (r 4)),(d P (S "__file__") 173 (v (S "/claim/cut.py") 172)),(d P (S "__cached__") 174 n),(d P (S "AskError") 206 (r 24)),(d P (S "NoTree") 233 (r 44)),(d P (S "NoAsks") 258 (r 63))] 12),#[]⟩
def a1c:F:=fun P=>⟨(.type "type"),none,(.cls ⟨(S "AskError"),[(.type "ValueError")],[(r 24),(.type "ValueError"),(.type "Exception"),(.type "BaseException"),(.type "object")],23,(S "AskError"),.true,[],[(r 44),(r 63)],.false,none,.false⟩),#[(some (r 15)),none,(some (V "AskError" 189)),(some (V "AskError" 197)),(some (.builtin "ValueError.__new__")),(some (.bool .true))]⟩
def a1e:F:=z [(i 2 0),(i 0 0),(r 20),(i 4 0),(i 0 0),(r 33),(i 10 0),(i 0 0),(r 52)]
def A108:F:=fun P=>⟨(.type "dict"),none,(.dict #[(d P (S "__name__") 165 (v (S "treeasks.errors") 187)),(d P (S "__doc__") 166 n),(d P (S "__package__") 167 n),(d P (S "__loader__") 168 (.builtin "__main__.__loader__#opaque")),(d P (S "__spec__") 169 n),(d P (S "__annotations__") 170 (r 6)),(d P (S "__builtins__") 171 (r 4)),(d P (S "__file__") 173 (v (S "/claim/cut.py") 172)),(d P (S "__cached__") 174 n),(d P (S "AskError") 206 (r 24)),(d P (S "NoTree") 233 (r 44)),(d P (S "NoAsks") 258 (r 63)),(d P (S "NoShare") 283 (r 82))] 13),#[]⟩
def a1v:F:=fun P=>⟨(.type "type"),none,(.cls ⟨(S "AskError"),[(.type "ValueError")],[(r 24),(.type "ValueError"),(.type "Exception"),(.type "BaseException"),(.type "object")],23,(S "AskError"),.true,[],[(r 44),(r 63),(r 82)],.false,none,.false⟩),#[(some (r 15)),none,(some (V "AskError" 189)),(some (V "AskError" 197)),(some (.builtin "ValueError.__new__")),(some (.bool .true))]⟩
def a1x:F:=z [(i 2 0),(i 0 0),(r 20),(i 4 0),(i 0 0),(r 33),(i 10 0),(i 0 0),(r 52),(i 15 0),(i 0 0),(r 71)]
def A130:F:=fun P=>⟨(.type "dict"),none,(.dict #[(d P (S "__name__") 165 (v (S "treeasks.errors") 187)),(d P (S "__doc__") 166 n),(d P (S "__package__") 167 n),(d P (S "__loader__") 168 (.builtin "__main__.__loader__#opaque")),(d P (S "__spec__") 169 n),(d P (S "__annotations__") 170 (r 6)),(d P (S "__builtins__") 171 (r 4)),(d P (S "__file__") 173 (v (S "/claim/cut.py") 172)),(d P (S "__cached__") 174 n),(d P (S "AskError") 206 (r 24)),(d P (S "NoTree") 233 (r 44)),(d P (S "NoAsks") 258 (r 63)),(d P (S "NoShare") 283 (r 82)),(d P (S "NoNumber") 299 (r 94))] 14),#[]⟩
def a2d:F:=fun P=>⟨(.type "type"),none,(.cls ⟨(S "AskError"),[(.type "ValueError")],[(r 24),(.type "ValueError"),(.type "Exception"),(.type "BaseException"),(.type "object")],23,(S "AskError"),.true,[],[(r 44),(r 63),(r 82),(r 94)],.false,none,.false⟩),#[(some (r 15)),none,(some (V "AskError" 189)),(some (V "AskError" 197)),(some (.builtin "ValueError.__new__")),(some (.bool .true))]⟩
def a2f:F:=z [(i 2 0),(i 0 0),(r 20),(i 4 0),(i 0 0),(r 33),(i 10 0),(i 0 0),(r 52),(i 15 0),(i 0 0),(r 71),(i 20 0),(i 0 0),(r 90)]
def A145:F:=fun P=>⟨(.type "dict"),none,(.dict #[(d P (S "__name__") 165 (v (S "treeasks.trees") 342)),(d P (S "__doc__") 166 n),(d P (S "__package__") 167 n),(d P (S "__loader__") 168 (.builtin "__main__.__loader__#opaque")),(d P (S "__spec__") 169 n),(d P (S "__annotations__") 170 (r 6)),(d P (S "__builtins__") 171 (r 4)),(d P (S "__file__") 173 (v (S "/claim/cut.py") 172)),(d P (S "__cached__") 174 n),(d P (S "AskError") 206 (r 24)),(d P (S "NoTree") 233 (r 44)),(d P (S "NoAsks") 258 (r 63)),(d P (S "NoShare") 283 (r 82)),(d P (S "NoNumber") 299 (r 94)),(d P (S "NoPlace") 315 (r 106)),(d P (S "is_whole") 324 (r 115)),(d P (S "is_between") 333 (r 122)),(d P (S "greatest_common") 341 (r 129)),(d P (S "MOST_TIES") 345 (i 23 344)),(d P (S "MOST_ROOM") 347 (i 1000000 346)),(d P (S "has_two_lists") 356 (r 136))] 21),#[]⟩
def a36:F:=fun P=>⟨(.type "type"),none,(.cls ⟨(S "AskError"),[(.type "ValueError")],[(r 24),(.type "ValueError"),(.type "Exception"),(.type "BaseException"),(.type "object")],23,(S "AskError"),.true,[],[(r 44),(r 63),(r 82),(r 94),(r 106)],.false,none,.false⟩),#[(some (r 15)),none,(some (V "AskError" 189)),(some (V "AskError" 197)),(some (.builtin "ValueError.__new__")),(some (.bool .true))]⟩
def a3a:F:=z [(i 2 0),(i 0 0),(r 20),(i 4 0),(i 0 0),(r 33),(i 10 0),(i 0 0),(r 52),(i 15 0),(i 0 0),(r 71),(i 20 0),(i 0 0),(r 90),(i 22 0),(i 0 0),(r 102),(i 25 0),(i 0 0),(r 114),(i 27 0),(i 0 0),(r 121),(i 29 0),(i 0 0),(r 128),(i 36 0),(i 0 0),(r 135)]
def A188:F:=fun P=>⟨(.type "dict"),none,(.dict #[(d P (S "__name__") 165 (v (S "treeasks.fractions") 425)),(d P (S "__doc__") 166 n),(d P (S "__package__") 167 n),(d P (S "__loader__") 168 (.builtin "__main__.__loader__#opaque")),(d P (S "__spec__") 169 n),(d P (S "__annotations__") 170 (r 6)),(d P (S "__builtins__") 171 (r 4)),(d P (S "__file__") 173 (v (S "/claim/cut.py") 172)),(d P (S "__cached__") 174 n),(d P (S "AskError") 206 (r 24)),(d P (S "NoTree") 233 (r 44)),(d P (S "NoAsks") 258 (r 63)),(d P (S "NoShare") 283 (r 82)),(d P (S "NoNumber") 299 (r 94)),(d P (S "NoPlace") 315 (r 106)),(d P (S "is_whole") 324 (r 115)),(d P (S "is_between") 333 (r 122)),(d P (S "greatest_common") 341 (r 129)),(d P (S "MOST_TIES") 345 (i 23 344)),(d P (S "MOST_ROOM") 347 (i 1000000 346)),(d P (S "has_two_lists") 356 (r 136)),(d P (S "look_at_tree") 368 (r 143)),(d P (S "depths") 377 (r 150)),(d P (S "is_place") 385 (r 157)),(d P (S "are_ends") 394 (r 164)),(d P (S "MOST_ASKS") 398 (i 30 397)),(d P (S "MOST_SIZE") 400 (i 1000000 399)),(d P (S "MOST_WORTH") 402 (i 1000000000000 401)),(d P (S "is_ask") 414 (r 171)),(d P (S "look_at_asks") 424 (r 178)),(d P (S "fraction") 435 (r 185)),(d P (S "plus") 443 (r 192)),(d P (S "minus") 451 (r 199)),(d P (S "times") 459 (r 206)),(d P (S "parted") 467 (r 213))] 35),#[]⟩
def a52:F:=z (zz.take 63)
def A267:F:=fun P=>⟨(.type "dict"),none,(.dict #[(d P (S "__name__") 165 (v (S "treeasks.prices") 577)),(d P (S "__doc__") 166 n),(d P (S "__package__") 167 n),(d P (S "__loader__") 168 (.builtin "__main__.__loader__#opaque")),(d P (S "__spec__") 169 n),(d P (S "__annotations__") 170 (r 6)),(d P (S "__builtins__") 171 (r 4)),(d P (S "__file__") 173 (v (S "/claim/cut.py") 172)),(d P (S "__cached__") 174 n),(d P (S "AskError") 206 (r 24)),(d P (S "NoTree") 233 (r 44)),(d P (S "NoAsks") 258 (r 63)),(d P (S "NoShare") 283 (r 82)),(d P (S "NoNumber") 299 (r 94)),(d P (S "NoPlace") 315 (r 106)),(d P (S "is_whole") 324 (r 115)),(d P (S "is_between") 333 (r 122)),(d P (S "greatest_common") 341 (r 129)),(d P (S "MOST_TIES") 345 (i 23 344)),(d P (S "MOST_ROOM") 347 (i 1000000 346)),(d P (S "has_two_lists") 356 (r 136)),(d P (S "look_at_tree") 368 (r 143)),(d P (S "depths") 377 (r 150)),(d P (S "is_place") 385 (r 157)),(d P (S "are_ends") 394 (r 164)),(d P (S "MOST_ASKS") 398 (i 30 397)),(d P (S "MOST_SIZE") 400 (i 1000000 399)),(d P (S "MOST_WORTH") 402 (i 1000000000000 401)),(d P (S "is_ask") 414 (r 171)),(d P (S "look_at_asks") 424 (r 178)),(d P (S "fraction") 435 (r 185)),(d P (S "plus") 443 (r 192)),(d P (S "minus") 451 (r 199)),(d P (S "times") 459 (r 206)),(d P (S "parted") 467 (r 213)),(d P (S "sum_of") 473 (r 218)),(d P (S "under") 481 (r 225)),(d P (S "look_at_ends") 492 (r 232)),(d P (S "climb") 503 (r 239)),(d P (S "way_between") 514 (r 246)),(d P (S "way_of") 522 (r 253)),(d P (S "meeting_of") 533 (r 260)),(d P (S "tops_between") 539 (r 265)),(d P (S "lay_on") 551 (r 272)),(d P (S "load_with") 561 (r 279)),(d P (S "over_on") 567 (r 284)),(d P (S "over_with") 576 (r 291))] 47),#[]⟩
def a79:F:=z (zz.take 99)
def A347:F:=fun P=>⟨(.type "dict"),none,(.dict #[(d P (S "__name__") 165 (v (S "law_treeasks_k31_keep_by_depth_told") 664)),(d P (S "__doc__") 166 n),(d P (S "__package__") 167 n),(d P (S "__loader__") 168 (.builtin "__main__.__loader__#opaque")),(d P (S "__spec__") 169 n),(d P (S "__annotations__") 170 (r 6)),(d P (S "__builtins__") 171 (r 4)),(d P (S "__file__") 173 (v (S "/claim/cut.py") 172)),(d P (S "__cached__") 174 n),(d P (S "AskError") 206 (r 24)),(d P (S "NoTree") 233 (r 44)),(d P (S "NoAsks") 258 (r 63)),(d P (S "NoShare") 283 (r 82)),(d P (S "NoNumber") 299 (r 94)),(d P (S "NoPlace") 315 (r 106)),(d P (S "is_whole") 324 (r 115)),(d P (S "is_between") 333 (r 122)),(d P (S "greatest_common") 341 (r 129)),(d P (S "MOST_TIES") 345 (i 23 344)),(d P (S "MOST_ROOM") 347 (i 1000000 346)),(d P (S "has_two_lists") 356 (r 136)),(d P (S "look_at_tree") 368 (r 143)),(d P (S "depths") 377 (r 150)),(d P (S "is_place") 385 (r 157)),(d P (S "are_ends") 394 (r 164)),(d P (S "MOST_ASKS") 398 (i 30 397)),(d P (S "MOST_SIZE") 400 (i 1000000 399)),(d P (S "MOST_WORTH") 402 (i 1000000000000 401)),(d P (S "is_ask") 414 (r 171)),(d P (S "look_at_asks") 424 (r 178)),(d P (S "fraction") 435 (r 185)),(d P (S "plus") 443 (r 192)),(d P (S "minus") 451 (r 199)),(d P (S "times") 459 (r 206)),(d P (S "parted") 467 (r 213)),(d P (S "sum_of") 473 (r 218)),(d P (S "under") 481 (r 225)),(d P (S "look_at_ends") 492 (r 232)),(d P (S "climb") 503 (r 239)),(d P (S "way_between") 514 (r 246)),(d P (S "way_of") 522 (r 253)),(d P (S "meeting_of") 533 (r 260)),(d P (S "tops_between") 539 (r 265)),(d P (S "lay_on") 551 (r 272)),(d P (S "load_with") 561 (r 279)),(d P (S "over_on") 567 (r 284)),(d P (S "over_with") 576 (r 291)),(d P (S "spare_of") 584 (r 296)),(d P (S "MOST_COMMON_ROOM") 588 (i 60 587)),(d P (S "common_room") 596 (r 303)),(d P (S "look_at_ones") 605 (r 310)),(d P (S "deepest_first") 611 (r 315)),(d P (S "raise_tops") 622 (r 322)),(d P (S "pile_up") 637 (r 329)),(d P (S "keep_from_last") 649 (r 336)),(d P (S "keep_alike") 663 (r 343)),(d P (S "_law_cell_at") 673 (r 350)),(d P (S "_law_pool") 683 (r 357)),(d P (S "_law_take") 694 (r 364))] 59),#[]⟩
def a9c:F:=z (zz.take 132)
def A422:F:=fun P=>⟨(.type "dict"),none,(.dict #[(d P (S "__name__") 165 (v (S "law_treeasks_k31_keep_by_depth_told") 664)),(d P (S "__doc__") 166 n),(d P (S "__package__") 167 n),(d P (S "__loader__") 168 (.builtin "__main__.__loader__#opaque")),(d P (S "__spec__") 169 n),(d P (S "__annotations__") 170 (r 6)),(d P (S "__builtins__") 171 (r 4)),(d P (S "__file__") 173 (v (S "/claim/cut.py") 172)),(d P (S "__cached__") 174 n),(d P (S "AskError") 206 (r 24)),(d P (S "NoTree") 233 (r 44)),(d P (S "NoAsks") 258 (r 63)),(d P (S "NoShare") 283 (r 82)),(d P (S "NoNumber") 299 (r 94)),(d P (S "NoPlace") 315 (r 106)),(d P (S "is_whole") 324 (r 115)),(d P (S "is_between") 333 (r 122)),(d P (S "greatest_common") 341 (r 129)),(d P (S "MOST_TIES") 345 (i 23 344)),(d P (S "MOST_ROOM") 347 (i 1000000 346)),(d P (S "has_two_lists") 356 (r 136)),(d P (S "look_at_tree") 368 (r 143)),(d P (S "depths") 377 (r 150)),(d P (S "is_place") 385 (r 157)),(d P (S "are_ends") 394 (r 164)),(d P (S "MOST_ASKS") 398 (i 30 397)),(d P (S "MOST_SIZE") 400 (i 1000000 399)),(d P (S "MOST_WORTH") 402 (i 1000000000000 401)),(d P (S "is_ask") 414 (r 171)),(d P (S "look_at_asks") 424 (r 178)),(d P (S "fraction") 435 (r 185)),(d P (S "plus") 443 (r 192)),(d P (S "minus") 451 (r 199)),(d P (S "times") 459 (r 206)),(d P (S "parted") 467 (r 213)),(d P (S "sum_of") 473 (r 218)),(d P (S "under") 481 (r 225)),(d P (S "look_at_ends") 492 (r 232)),(d P (S "climb") 503 (r 239)),(d P (S "way_between") 514 (r 246)),(d P (S "way_of") 522 (r 253)),(d P (S "meeting_of") 533 (r 260)),(d P (S "tops_between") 539 (r 265)),(d P (S "lay_on") 551 (r 272)),(d P (S "load_with") 561 (r 279)),(d P (S "over_on") 567 (r 284)),(d P (S "over_with") 576 (r 291)),(d P (S "spare_of") 584 (r 296)),(d P (S "MOST_COMMON_ROOM") 588 (i 60 587)),(d P (S "common_room") 596 (r 303)),(d P (S "look_at_ones") 605 (r 310)),(d P (S "deepest_first") 611 (r 315)),(d P (S "raise_tops") 622 (r 322)),(d P (S "pile_up") 637 (r 329)),(d P (S "keep_from_last") 649 (r 336)),(d P (S "keep_alike") 663 (r 343)),(d P (S "_law_cell_at") 673 (r 350)),(d P (S "_law_pool") 683 (r 357)),(d P (S "_law_take") 694 (r 364)),(d P (S "_law_alike") 705 (r 371)),(d P (S "_law_asks") 723 (r 378)),(d P (S "_law_up") 732 (r 385)),(d P (S "_law_meeting") 738 (r 390)),(d P (S "_law_way") 744 (r 395)),(d P (S "_law_divisor") 752 (r 402)),(d P (S "_law_low") 761 (r 409)),(d P (S "_law_plus") 769 (r 416)),(d P (S "_law_under") 777 (r 423)),(d P (S "_law_deepest") 783 (r 428)),(d P (S "_law_tops") 789 (r 433)),(d P (S "_law_kept") 795 (r 438)),(d P (S "_law_laid") 801 (r 443))] 72),#[]⟩
def abj:F:=z (zz.take 171)
lay_quick Ob.A64
noncomputable def od : List F → List F
  | a::_::l=>a::od l
  | l=>l
noncomputable def ev : List F → List F
  | _::b::l=>b::ev l
  | _=>[]
noncomputable def bt : Nat → List F → Params → W.BT
  | k+1,f::l=>w f (bt k (od l)) (bt k (ev l))
  | _,_=>e
open W in
def lL (Q P0 P1:F):List F:=[boot_o_0,boot_o_1,boot_o_2,Q,boot_o_4,boot_o_5,boot_o_6,boot_o_7,boot_o_8,boot_o_9,boot_o_10,u [],P0,hd "<module>" 182 1 11 185,he 13 3 "__main__" 164,u [(.type "ValueError")],(fun P=>⟨(.type "builtin_function_or_method"),none,(.fields #[(.builtin "type.__prepare__"),(.type "type")]),#[]⟩),hk 196 "AskError" 2 22,u [],z [],hd "AskError" 191 2 18 194,he 20 17 "treeasks.errors" 187,u [],hj 196 2 "__static_attributes__" 201 22 "__weakref__" 203 25 3,P1,(fun P=>⟨(.type "getset_descriptor"),none,(.fields #[(V "__weakref__" 202),(r 24),(.builtin "ExceptionGroup.__weakref__"),n]),#[]⟩),hg 24,hf 24,u [(r 24)],(fun P=>⟨(.type "builtin_function_or_method"),none,(.fields #[(.builtin "type.__prepare__"),(.type "type")]),#[]⟩),hn 214 "NoTree" 4 227 41 230,u [],z [(i 6 0),(i 4 0),(r 40)],hd "NoTree" 209 4 31 212,he 33 30 "treeasks.errors" 187,u [],z [],hb "self" 222 "part" "number",u [],X 2 (S "NoTree.__init__"),hm 219 "NoTree.__init__" 6 3 35 225 226,hl 2 "NoTree.__init__" 40,ha "number" 228 "part",hj 214 4 "__init__" 227 41 "__static_attributes__" 230 42 2,hi "NoTree" 44 43 28 207,hg 44,hf 44,u [(r 24)],(fun P=>⟨(.type "builtin_function_or_method"),none,(.fields #[(.builtin "type.__prepare__"),(.type "type")]),#[]⟩),hn 241 "NoAsks" 10 253 60 255,u [],z [(i 12 0),(i 4 0),(r 59)],hd "NoAsks" 236 10 50 239,he 52 49 "treeasks.errors" 187,u [],z [],ha "self" 249 "number",u [],X 3 (S "NoAsks.__init__"),hm 246 "NoAsks.__init__" 12 2 54 251 252,hl 3 "NoAsks.__init__" 59,u [(V "number" 254)],hj 241 10 "__init__" 253 60 "__static_attributes__" 255 61 2,hi "NoAsks" 63 62 47 234,hg 63,hf 63,u [(r 24)],(fun P=>⟨(.type "builtin_function_or_method"),none,(.fields #[(.builtin "type.__prepare__"),(.type "type")]),#[]⟩),hn 266 "NoShare" 15 278 79 280,u [],z [(i 17 0),(i 4 0),(r 78)],hd "NoShare" 261 15 69 264,he 71 68 "treeasks.errors" 187,u [],z [],ha "self" 274 "number",u [],X 4 (S "NoShare.__init__"),hm 271 "NoShare.__init__" 17 2 73 276 277,hl 4 "NoShare.__init__" 78,u [(V "number" 279)],hj 266 15 "__init__" 278 79 "__static_attributes__" 280 80 2,hi "NoShare" 82 81 66 259,hg 82,hf 82,u [(r 24)],(fun P=>⟨(.type "builtin_function_or_method"),none,(.fields #[(.builtin "type.__prepare__"),(.type "type")]),#[]⟩),hk 291 "NoNumber" 20 92,u [],z [],hd "NoNumber" 286 20 88 289,he 90 87 "treeasks.errors" 187,u [],ho 291 20 92,hi "NoNumber" 94 93 85 284,hg 94,hf 94,u [(r 24)],(fun P=>⟨(.type "builtin_function_or_method"),none,(.fields #[(.builtin "type.__prepare__"),(.type "type")]),#[]⟩),hk 307 "NoPlace" 22 104,u [],z [],hd "NoPlace" 302 22 100 305,he 102 99 "treeasks.errors" 187,u [],ho 307 22 104,hi "NoPlace" 106 105 97 300,hg 106,hf 106,u [],z [],u [(V "thing" 321)],u [],x 8,q "is_whole" 318 319 320 25 1 0 0 3 109 181 110 111 112 113 322 323,y 8 (V "treeasks.numbers" 316) (r 114),u [],z [],hb "thing" 328 "least" "most",u [],x 9,q "is_between" 325 326 327 27 3 0 0 3 116 181 117 118 119 120 331 332,y 9 (V "treeasks.numbers" 316) (r 121),u [],z [],ha "number" 337 "bottom",u [],x 10,q "greatest_common" 334 335 336 29 2 0 0 3 123 181 124 125 126 127 339 340,y 10 (V "treeasks.numbers" 316) (r 128),u [],z [],hb "thing" 351 "parents" "rooms",u [],x 14,q "has_two_lists" 348 349 350 36 1 0 0 3 130 181 131 132 133 134 354 355,y 14 (V "treeasks.trees" 342) (r 135),u [],z [],u [(V "thing" 360),(V "parents" 361),(V "rooms" 362),(V "number" 363),(V "parent" 364),(V "room" 365)],u [],x 15,q "look_at_tree" 357 358 359 43 1 0 0 3 137 181 138 139 140 141 366 367,y 15 (V "treeasks.trees" 342) (r 142),u [],z [],hb "tree" 372 "found" "parent",u [],x 16,q "depths" 369 370 371 53 1 0 0 3 144 181 145 146 147 148 375 376,y 16 (V "treeasks.trees" 342) (r 149),u [],z [],ha "tree" 381 "thing",u [],x 17,q "is_place" 378 379 380 59 2 0 0 3 151 181 152 153 154 155 383 384,y 17 (V "treeasks.trees" 342) (r 156),u [],z [],hb "tree" 389 "one" "other",u [],x 18,q "are_ends" 386 387 388 61 3 0 0 3 158 181 159 160 161 162 392 393,y 18 (V "treeasks.trees" 342) (r 163),u [],z [],u [(V "tree" 406),(V "thing" 407),(V "one" 408),(V "other" 409),(V "size" 410),(V "worth" 411)],u [],x 23,q "is_ask" 403 404 405 67 2 0 0 3 165 181 166 167 168 169 412 413,y 23 (V "treeasks.asks" 395) (r 170),u [],z [],u [(V "tree" 418),(V "thing" 419),(V "number" 420),(V "ask" 421)],u [],x 24,q "look_at_asks" 415 416 417 72 2 0 0 3 172 181 173 174 175 176 422 423,y 24 (V "treeasks.asks" 395) (r 177),u [],z [],hb "top" 430 "bottom" "common",u [],x 26,q "fraction" 427 428 429 80 2 0 0 3 179 181 180 181 182 183 433 434,y 26 (V "treeasks.fractions" 425) (r 184),u [],z [],ha "one" 439 "other",u [],x 27,q "plus" 436 437 438 89 2 0 0 3 186 181 187 188 189 190 441 442,y 27 (V "treeasks.fractions" 425) (r 191),u [],z [],ha "one" 447 "other",u [],x 28,q "minus" 444 445 446 91 2 0 0 3 193 181 194 195 196 197 449 450,y 28 (V "treeasks.fractions" 425) (r 198),u [],z [],ha "one" 455 "other",u [],x 29,q "times" 452 453 454 93 2 0 0 3 200 181 201 202 203 204 457 458,y 29 (V "treeasks.fractions" 425) (r 205),u [],z [],ha "one" 463 "other",u [],x 30,q "parted" 460 461 462 95 2 0 0 3 207 181 208 209 210 211 465 466,y 30 (V "treeasks.fractions" 425) (r 212),u [],z [],x 31,hc "sum_of" 468 97 1 214 471,y 31 (V "treeasks.fractions" 425) (r 217),u [],z [],ha "one" 477 "other",u [],x 32,q "under" 474 475 476 102 2 0 0 3 219 181 220 221 222 223 479 480,y 32 (V "treeasks.fractions" 425) (r 224),u [],z [],hb "tree" 487 "one" "other",u [],x 34,q "look_at_ends" 484 485 486 105 3 0 0 3 226 181 227 228 229 230 490 491,y 34 (V "treeasks.ways" 482) (r 231),u [],z [],hh "tree" 496 "one" "other" "way" "low",u [],x 35,q "climb" 493 494 495 109 3 0 0 3 233 181 234 235 236 237 501 502,y 35 (V "treeasks.ways" 482) (r 238),u [],z [],hh "tree" 507 "one" "other" "way" "meeting",u [],x 36,q "way_between" 504 505 506 116 3 0 0 3 240 181 241 242 243 244 512 513,y 36 (V "treeasks.ways" 482) (r 245),u [],z [],ha "tree" 518 "ask",u [],x 37,q "way_of" 515 516 517 120 2 0 0 3 247 181 248 249 250 251 520 521,y 37 (V "treeasks.ways" 482) (r 252),u [],z [],hh "tree" 526 "one" "other" "way" "meeting",u [],x 38,q "meeting_of" 523 524 525 122 3 0 0 3 254 181 255 256 257 258 531 532,y 38 (V "treeasks.ways" 482) (r 259),u [],z [],x 39,hc "tops_between" 534 126 3 261 537,y 39 (V "treeasks.ways" 482) (r 264),u [],z [],u [(V "ask" 545),(V "way" 546),(V "load" 547),(V "tie" 548)],u [],x 41,q "lay_on" 542 543 544 131 3 0 0 3 266 181 267 268 269 270 549 550,y 41 (V "treeasks.keeps" 540) (r 271),u [],z [],u [(V "tree" 555),(V "ask" 556),(V "load" 557),(V "found" 558)],u [],x 42,q "load_with" 552 553 554 134 3 0 0 3 273 181 274 275 276 277 559 560,y 42 (V "treeasks.keeps" 540) (r 278),u [],z [],x 43,hc "over_on" 562 138 4 280 565,y 43 (V "treeasks.keeps" 540) (r 283),u [],z [],hb "tree" 571 "ask" "load",u [],x 44,q "over_with" 568 569 570 140 3 0 0 3 285 181 286 287 288 289 574 575,y 44 (V "treeasks.keeps" 540) (r 290),u [],z [],x 46,hc "spare_of" 579 143 4 292 582,y 46 (V "treeasks.prices" 577) (r 295),u [],z [],ha "tree" 592 "room",u [],x 49,q "common_room" 589 590 591 149 1 0 0 3 297 181 298 299 300 301 594 595,y 49 (V "treeasks.rules" 585) (r 302),u [],z [],hb "asks" 600 "number" "ask",u [],x 50,q "look_at_ones" 597 598 599 154 1 0 0 3 304 181 305 306 307 308 603 604,y 50 (V "treeasks.rules" 585) (r 309),u [],z [],x 51,hc "deepest_first" 606 158 2 311 609,y 51 (V "treeasks.rules" 585) (r 314),u [],z [],hh "tree" 615 "ask" "prices" "step" "tie",u [],x 52,q "raise_tops" 612 613 614 162 4 0 0 3 316 181 317 318 319 320 620 621,y 52 (V "treeasks.rules" 585) (r 321),u [],z [],u [(V "tree" 626),(V "asks" 627),(V "terms" 628),(V "prices" 629),(V "rests" 630),(V "pile" 631),(V "number" 632),(V "weight" 633),(V "part" 634)],u [],x 53,q "pile_up" 623 624 625 165 3 0 0 3 323 181 324 325 326 327 635 636,y 53 (V "treeasks.rules" 585) (r 328),u [],z [],u [(V "tree" 641),(V "asks" 642),(V "pile" 643),(V "load" 644),(V "keep" 645),(V "number" 646)],u [],x 54,q "keep_from_last" 638 639 640 177 3 0 0 3 330 181 331 332 333 334 647 648,y 54 (V "treeasks.rules" 585) (r 335),u [],z [],u [(V "tree" 655),(V "asks" 656),(V "room" 657),(V "pile" 658),(V "prices" 659),(V "rests" 660)],u [],x 56,q "keep_alike" 652 653 654 186 2 0 0 3 337 181 338 339 340 341 661 662,y 56 (V "treeasks.alike" 650) (r 342),u [],z [],ha "_law_script" 669 "_law_k",u [],x 58,q "_law_cell_at" 666 667 668 193 2 0 0 3 344 181 345 346 347 348 671 672,y 58 (V "law_treeasks_k31_keep_by_depth_told" 664) (r 349),u [],z [],u [(V "_law_script" 677),(V "_law_k" 678),(V "_law_cell" 679),(V "_law_mixed" 680)],u [],x 59,q "_law_pool" 674 675 676 197 2 0 0 3 351 181 352 353 354 355 681 682,y 59 (V "law_treeasks_k31_keep_by_depth_told" 664) (r 356),u [],z [],hh "_law_pool_here" 687 "_law_many" "_law_found" "_law_made" "_law_turn",u [],x 60,q "_law_take" 684 685 686 203 2 0 0 3 358 181 359 360 361 362 692 693,y 60 (V "law_treeasks_k31_keep_by_depth_told" 664) (r 363),u [],z [],hh "_law_pool_here" 698 "_law_most" "_law_way_here" "_law_parents" "_law_k",u [],x 61,q "_law_alike" 695 696 697 213 2 0 0 3 365 181 366 367 368 369 703 704,y 61 (V "law_treeasks_k31_keep_by_depth_told" 664) (r 370),u [],z [],u [(V "_law_pool_here" 709),(V "_law_tree" 710),(V "_law_least" 711),(V "_law_most" 712),(V "_law_sizes" 713),(V "_law_places" 714),(V "_law_asks_here" 715),(V "_law_k" 716),(V "_law_one" 717),(V "_law_other" 718),(V "_law_size" 719),(V "_law_worth" 720)],u [],x 62,q "_law_asks" 706 707 708 219 5 0 0 3 372 181 373 374 375 376 721 722,y 62 (V "law_treeasks_k31_keep_by_depth_told" 664) (r 377),u [],z [],hb "_law_tree" 727 "_law_place" "_law_found",u [],x 63,q "_law_up" 724 725 726 229 2 0 0 3 379 181 380 381 382 383 730 731,y 63 (V "law_treeasks_k31_keep_by_depth_told" 664) (r 384),u [],z [],x 64,hc "_law_meeting" 733 235 3 386 736,y 64 (V "law_treeasks_k31_keep_by_depth_told" 664) (r 389),u [],z [],x 65,hc "_law_way" 739 238 3 391 742,y 65 (V "law_treeasks_k31_keep_by_depth_told" 664) (r 394),u [],z [],ha "_law_one" 748 "_law_other",u [],x 66,q "_law_divisor" 745 746 747 242 2 0 0 3 396 181 397 398 399 400 750 751,y 66 (V "law_treeasks_k31_keep_by_depth_told" 664) (r 401),u [],z [],hb "_law_top" 756 "_law_bottom" "_law_share",u [],x 67,q "_law_low" 753 754 755 246 2 0 0 3 403 181 404 405 406 407 759 760,y 67 (V "law_treeasks_k31_keep_by_depth_told" 664) (r 408),u [],z [],ha "_law_one" 765 "_law_other",u [],x 68,q "_law_plus" 762 763 764 249 2 0 0 3 410 181 411 412 413 414 767 768,y 68 (V "law_treeasks_k31_keep_by_depth_told" 664) (r 415),u [],z [],ha "_law_one" 773 "_law_other",u [],x 69,q "_law_under" 770 771 772 251 2 0 0 3 417 181 418 419 420 421 775 776,y 69 (V "law_treeasks_k31_keep_by_depth_told" 664) (r 422),u [],z [],x 70,hc "_law_deepest" 778 253 2 424 781,y 70 (V "law_treeasks_k31_keep_by_depth_told" 664) (r 427),u [],z [],x 71,hc "_law_tops" 784 259 2 429 787,y 71 (V "law_treeasks_k31_keep_by_depth_told" 664) (r 432),u [],z [],x 72,hc "_law_kept" 790 262 3 434 793,y 72 (V "law_treeasks_k31_keep_by_depth_told" 664) (r 437),u [],z [],x 73,hc "_law_laid" 796 272 5 439 799,y 73 (V "law_treeasks_k31_keep_by_depth_told" 664) (r 442)]
def Ttree_85 (Q : F) : Params → W.BT := bt 11 ((lL Q a0m a0k).take 47)
def _root_.PySem.W.Fast.tw16651982675274775894 : Params → W.BT := Ttree_85 PySem.W.Fast.tw6963075612888702905
theorem _root_.PySem.W.Fast.te16651982675274775894 : Ttree_85 Ob.A64 = PySem.W.Fast.tw16651982675274775894 := (congrArg Ttree_85 PySem.W.Fast.te6963075612888702905)
lay_quick Ob.A86
def Ttree_107 (Q : F) : Params → W.BT := bt 11 ((lL Q a1e a1c).take 66)
def _root_.PySem.W.Fast.tw8511230149516238976 : Params → W.BT := Ttree_107 PySem.W.Fast.tw11147188043990879120
theorem _root_.PySem.W.Fast.te8511230149516238976 : Ttree_107 Ob.A86 = PySem.W.Fast.tw8511230149516238976 := (congrArg Ttree_107 PySem.W.Fast.te11147188043990879120)
lay_quick Ob.A108
def Ttree_129 (Q : F) : Params → W.BT := bt 11 ((lL Q a1x a1v).take 85)
def _root_.PySem.W.Fast.tw13508109058455280012 : Params → W.BT := Ttree_129 PySem.W.Fast.tw4549916873101738619
theorem _root_.PySem.W.Fast.te13508109058455280012 : Ttree_129 Ob.A108 = PySem.W.Fast.tw13508109058455280012 := (congrArg Ttree_129 PySem.W.Fast.te4549916873101738619)
lay_quick Ob.A130
def Ttree_144 (Q : F) : Params → W.BT := bt 11 ((lL Q a2f a2d).take 97)
def _root_.PySem.W.Fast.tw14195245354164185748 : Params → W.BT := Ttree_144 PySem.W.Fast.tw16405788764653981887
theorem _root_.PySem.W.Fast.te14195245354164185748 : Ttree_144 Ob.A130 = PySem.W.Fast.tw14195245354164185748 := (congrArg Ttree_144 PySem.W.Fast.te16405788764653981887)
lay_quick Ob.A145
def Ttree_187 (Q : F) : Params → W.BT := bt 11 ((lL Q a3a a36).take 137)
def _root_.PySem.W.Fast.tw7139261843960721603 : Params → W.BT := Ttree_187 PySem.W.Fast.tw4484758158052258272
theorem _root_.PySem.W.Fast.te7139261843960721603 : Ttree_187 Ob.A145 = PySem.W.Fast.tw7139261843960721603 := (congrArg Ttree_187 PySem.W.Fast.te4484758158052258272)
lay_quick Ob.A188
def Ttree_266 (Q : F) : Params → W.BT := bt 11 ((lL Q a52 a36).take 214)
def _root_.PySem.W.Fast.tw2346857623145569200 : Params → W.BT := Ttree_266 PySem.W.Fast.tw676003285107646470
theorem _root_.PySem.W.Fast.te2346857623145569200 : Ttree_266 Ob.A188 = PySem.W.Fast.tw2346857623145569200 := (congrArg Ttree_266 PySem.W.Fast.te676003285107646470)
lay_quick Ob.A267
def Ttree_346 (Q : F) : Params → W.BT := bt 11 ((lL Q a79 a36).take 292)
def _root_.PySem.W.Fast.tw5540153456462996173 : Params → W.BT := Ttree_346 PySem.W.Fast.tw12489865822397897849
theorem _root_.PySem.W.Fast.te5540153456462996173 : Ttree_346 Ob.A267 = PySem.W.Fast.tw5540153456462996173 := (congrArg Ttree_346 PySem.W.Fast.te12489865822397897849)
lay_quick Ob.A347
def Ttree_421 (Q : F) : Params → W.BT := bt 11 ((lL Q a9c a36).take 365)
def _root_.PySem.W.Fast.tw7203440220686453602 : Params → W.BT := Ttree_421 PySem.W.Fast.tw2539845495870175975
theorem _root_.PySem.W.Fast.te7203440220686453602 : Ttree_421 Ob.A347 = PySem.W.Fast.tw7203440220686453602 := (congrArg Ttree_421 PySem.W.Fast.te2539845495870175975)
lay_quick Ob.A422
def Ttree_502 (Q : F) : Params → W.BT := bt 11 ((lL Q abj a36).take 444)
def _root_.PySem.W.Fast.tw16158675631950214413 : Params → W.BT := Ttree_502 PySem.W.Fast.tw1075716133900066875
theorem _root_.PySem.W.Fast.te16158675631950214413 : Ttree_502 Ob.A422 = PySem.W.Fast.tw16158675631950214413 := (congrArg Ttree_502 PySem.W.Fast.te1075716133900066875)
end
end Ob
namespace L2
open PySem PySem.Spec PyProof.Rows
abbrev Key:=Sum Int Str
def tK:Key→Value→Bool
 | .inl k,v=>Value.isInt k v
 | .inr x,v=>Value.isStrOf x v
def keyH (w:World):Key→Int
 | .inl k=>hashInt k
 | .inr x=>hashStr w x
theorem bz:∀ {k:Key} {v:Value},tK k v=true→(∃ i t,k=Sum.inl i∧v=Value.int i t)∨(∃ x t,k=Sum.inr x∧v=Value.str x t)
 | .inl i,v,h=>by
  obtain ⟨t,e⟩:=Value.isInt_shape (k:=i) (v:=v) h
  exact .inl ⟨i,t,rfl,e⟩
 | .inr x,v,h=>by
  obtain ⟨t,e⟩:=Value.isStrOf_shape (x:=x) (v:=v) h
  exact .inr ⟨x,t,rfl,e⟩
theorem vf (a b:Int):decide ((Sum.inl a:Key)=Sum.inl b)=(a == b):=by
 by_cases e:a=b
 ·subst e; simp
 ·have h : ¬ (Sum.inl a:Key)=Sum.inl b:=fun q=>e (Sum.inl.inj q)
  rw [decide_eq_false h]
  exact (beq_eq_false_iff_ne.mpr e).symm
theorem wl (a b:Str):decide ((Sum.inr a:Key)=Sum.inr b)=decide (a=b):=by
 by_cases e:a=b
 ·subst e; simp
 ·have h : ¬ (Sum.inr a:Key)=Sum.inr b:=fun q=>e (Sum.inr.inj q)
  rw [decide_eq_false h,decide_eq_false e]
theorem wy (a:Int) (b:Str):decide ((Sum.inl a:Key)=Sum.inr b)=false:=decide_eq_false (fun q=>nomatch q)
theorem t4 (a:Str) (b:Int):decide ((Sum.inr a:Key)=Sum.inl b)=false:=decide_eq_false (fun q=>nomatch q)
def jg (prog:Program) (w:World):PySem.KeyKind prog w Key where
 is:=tK
 hash:=keyH w
 inj:=fun v a b ha hb=>by
  rcases bz ha with ⟨i,t,rfl,rfl⟩ | ⟨x,t,rfl,rfl⟩
  ·rcases bz hb with ⟨j,u,rfl,e⟩ | ⟨y,u,rfl,e⟩
   ·injection e with e1 _; rw [e1]
   ·exact nomatch e
  ·rcases bz hb with ⟨j,u,rfl,e⟩ | ⟨y,u,rfl,e⟩
   ·exact nomatch e
   ·injection e with e1 _; rw [e1]
 byValue:=fun k v h=>by
  rcases bz h with ⟨i,t,rfl,rfl⟩ | ⟨x,t,rfl,rfl⟩ <;> rfl
 pyHash:=fun hv h=>by
  rcases bz hv with ⟨i,t,rfl,rfl⟩ | ⟨x,t,rfl,rfl⟩
  ·exact wpAny_pyHash_int h
  ·exact wpAny_pyHash_str h
 eqBool:=fun hu hv h=>by
  rcases bz hu with ⟨i,t,rfl,rfl⟩ | ⟨x,t,rfl,rfl⟩
  ·rcases bz hv with ⟨j,u,rfl,rfl⟩ | ⟨y,u,rfl,rfl⟩
   ·rw [vf] at h; exact wpAny_eqBool_int h
   ·rw [wy] at h; exact SeqAt.EqAt.int_str i t y u _ _ _ _ h
  ·rcases bz hv with ⟨j,u,rfl,rfl⟩ | ⟨y,u,rfl,rfl⟩
   ·rw [t4] at h; exact SeqAt.EqAt.str_int x t j u _ _ _ _ h
   ·rw [wl] at h; exact wpAny_eqBool_str h
 «strs»:=fun k x t v h=>by
  rcases bz h with ⟨i,u,rfl,e⟩ | ⟨y,u,rfl,e⟩
  ·exact nomatch e
  ·injection e with e1 _
   subst e1
   cases v <;> rfl
inductive V where
 | non | bl (b:Bool) | int (i:Int) | str (x:Str) | byt (b:Array UInt8) | flt (b:UInt64) | ref (a:Addr) | ty (n:String)
 deriving DecidableEq
def a8:V→Value→Prop
 | .non,u=>u=Value.none
 | .bl b,u=>u=Value.bool b
 | .int i,u=>∃ t,u=Value.int i t
 | .str x,u=>∃ t,u=Value.str x t
 | .byt b,u=>∃ t,u=Value.bytes b t
 | .flt b,u=>∃ t,u=Value.float b t
 | .ref a,u=>u=Value.ref a
 | .ty n,u=>u=Value.type n
abbrev aQ:List V→List Value→Prop:=Paired a8
theorem aQ.length {xs:List V} {us:List Value} (r:aQ xs us):xs.length=us.length:=Paired.length r
theorem aQ.get:∀ {xs:List V} {us:List Value} {i:Nat} {x:V},aQ xs us→xs[i]? = some x→∃ u,us[i]? = some u∧a8 x u
 | _,_,_,_,.nil,e=>by simp at e
 | _,_,0,_,.cons r _,e=>by simp at e; subst e; exact ⟨_,rfl,r⟩
 | _,_,i + 1,x,.cons _ t,e=>by
  obtain ⟨u,h1,h2⟩:=aQ.get (i:=i) (x:=x) t (by simpa using e)
  exact ⟨u,by simpa using h1,h2⟩
theorem aQ.set {x:V} {u:Value} (r:a8 x u):∀ {xs:List V} {us:List Value} (i:Nat),aQ xs us→aQ (xs.set i x) (us.set i u)
 | _,_,_,.nil=>.nil
 | _,_,0,.cons _ t=>.cons r t
 | _,_,i + 1,.cons q t=>.cons q (aQ.set r i t)
theorem aQ.append:∀ {xs ys:List V} {us ws:List Value},aQ xs us→aQ ys ws→aQ (xs++ys) (us++ws)
 | _,_,_,_,.nil,s=>s
 | _,_,_,_,.cons r t,s=>.cons r (aQ.append t s)
theorem aQ.take:∀ {xs:List V} {us:List Value} (n:Nat),aQ xs us→aQ (xs.take n) (us.take n)
 | _,_,0,_=>.nil
 | _,_,_ + 1,.nil=>.nil
 | _,_,n + 1,.cons r t=>.cons r (aQ.take n t)
theorem aQ.drop:∀ {xs:List V} {us:List Value} (n:Nat),aQ xs us→aQ (xs.drop n) (us.drop n)
 | _,_,0,r=>r
 | _,_,_ + 1,.nil=>.nil
 | _,_,n + 1,.cons _ t=>aQ.drop n t
def RelO:Option V→Option Value→Prop
 | some v,some u=>a8 v u
 | none,none=>True
 | _,_=>False
def KV {κ:Type}:List (κ×V)→List (κ×Value)→Prop:=Paired fun (p : κ×V) (q : κ×Value)=>p.1=q.1∧a8 p.2 q.2
def kV:Key→V
 | .inl i=>.int i
 | .inr x=>.str x
inductive HO where

 | lst (xs:List V)

 | tup (xs:List V)

 | dK (kvs:List (Key×V)) | dT (kvs:List (List Key×V))

 | set (S:Int→Bool) (n:Nat)

 | ins (C dx:Addr) (fs:List (Str×V))

 | own (x:Addr)

 | xd (fs:List (Str×V))

 | met (f x:Addr)

 | rng (lo hi:Int)

 | frz (o:Obj) (u:HO)

 | tbl (ps:Array Value) (q:Str)

 | ext (φ:Heap→Prop)
abbrev Hp:=Addr→Option HO
def upd (H:Hp) (a:Addr) (o:HO):Hp:=fun b=>if b=a then some o else H b
theorem aE {H:Hp} {a:Addr} {o:HO}:upd H a o a=some o:=by unfold upd; rw [if_pos rfl]
theorem av {H:Hp} {a b:Addr} {o:HO} (h:b≠a):upd H a o b=H b:=by unfold upd; rw [if_neg h]
theorem aF {H:Hp} {a b:Addr} {o:HO} (h:H a=some o) (h':H b=none):a≠b:=by
 intro e; subst e; rw [h] at h'; cases h'
def TbV (H:Hp) (ps:Array Value) (q:Str):Prop:=TriplesOk ps.toList∧∀ pos cv,codeAmong pos ps.toList=some cv→∃ c o vs t,cv = .ref c∧H c=some (.frz o (.own 0))∧o.data = .fields vs∧vs[1]? = some (.str q t)
theorem TbV.mono {H H':Hp} {ps:Array Value} {q:Str} (h:TbV H ps q) (hf:∀ b o u,H b=some (.frz o u)→H' b=some (.frz o u)):TbV H' ps q:=⟨h.1,fun pos cv e=>let ⟨c,o,vs,t,a,b,r⟩:=h.2 pos cv e; ⟨c,o,vs,t,a,hf _ _ _ b,r⟩⟩
section
variable (P:Program) (w:World)
def bS (H:Hp) (h:Heap) (a:Addr):HO→Prop
 | .lst xs=>xs.length≤sizeLine∧∃ (its:List Value) (n:Nat),aQ xs its∧h.get? a=some { cls:=.type "list",data:=.seq its.toArray n }
 | .tup xs=>xs.length≤sizeLine∧∃ its:List Value,aQ xs its∧IsTup h a its.toArray
 | .dK kvs=>kvs.length≤sizeLine∧(a == sysModules)=false∧∃ vs,KV kvs vs∧h.DictOf (jg P w) a vs
 | .dT kvs=>kvs.length≤sizeLine∧(a == sysModules)=false∧∃ xs:List (List Key×Addr×Value),
  Paired (fun (p:List Key×V) (q:List Key×Addr×Value)=>p.1=q.1∧H q.2.1=some (.tup (p.1.map kV))∧a8 p.2 q.2.2) kvs xs ∧
  ∃ o es ep,h.get? a=some o∧o.ExactDict∧o.data = .dict es ep∧es.toList=xs.map (entryOfKey (tupleKind (jg P w)))∧(xs.map (·.1)).Nodup
 | .set S n=>h.SetOf (intKind P w) a S n
 | .ins C dx fs=>H dx=some (.own a)∧fs.length≤1000∧dx≠a∧h.get? a=some (PySem.W.instObj C dx) ∧
  ∃ mA,h.Ns1 dx mA∧(∀ f,RelO (fs.lookup f) (mA f))∧PySem.Within mA (fs.map (·.1))
 | .own _=>∃ o,h.get? a=some o
 | .xd fs=>∃ mA,h.Ns1 a mA∧∀ f,RelO (fs.lookup f) (mA f)
 | .rng lo hi=>∃ t u v,h.get? a=some { cls:=.type "range",data:=.fields #[.int lo t,.int hi u,.int 1 v] }
 | .frz o u=>h.get? a=some o∧bS H h a u
 | .tbl ps q=>h.get? a=some { cls:=.none,data:=.fields ps }∧TbV H ps q
 | .met f x=>h.get? a=some (PySem.W.methodObj (.ref f) (.ref x))
 | .ext φ=>φ h∧(∃ o,h.get? a=some o)∧∀ h1 h2:Heap,φ h1→(∀ o,h1.get? a=some o→h2.get? a=some o)→φ h2
def HOk (H:Hp) (h:Heap):Prop:=∀ a o,H a=some o→bS P w H h a o
end
section
variable {P:Program} {w:World} {H H':Hp} {h h':Heap} {a:Addr} {o:HO}
theorem bS.lt (x:bS P w H h a o):a<h.objs.size:=by
 cases o with
 | lst xs=>obtain ⟨_,_,_,_,e⟩:=x; exact Heap.lt_size e
 | tup xs=>obtain ⟨_,_,_,p⟩:=x; exact p.lt
 | dK kvs=>obtain ⟨_,_,_,_,o,_,_,e,_⟩:=x; exact Heap.lt_size e
 | dT kvs=>obtain ⟨_,_,_,_,o,_,_,e,_⟩:=x; exact Heap.lt_size e
 | set S n=>obtain ⟨o,_,_,_,e,_⟩:=x; exact Heap.lt_size e
 | ins C dx fs=>obtain ⟨_,_,_,e,_⟩:=x; exact Heap.lt_size e
 | own y=>obtain ⟨_,e⟩:=x; exact Heap.lt_size e
 | xd fs=>obtain ⟨_,⟨_,_,_,e,_⟩,_⟩:=x; exact Heap.lt_size e
 | rng lo hi=>obtain ⟨_,_,_,e⟩:=x; exact Heap.lt_size e
 | frz ob u=>obtain ⟨e,_⟩:=x; exact Heap.lt_size e
 | tbl ps q=>obtain ⟨e,_⟩:=x; exact Heap.lt_size e
 | met f y=>exact Heap.lt_size (show h.get? a=some _ from x)
 | ext φ=>obtain ⟨_,⟨_,e⟩,_⟩:=x; exact Heap.lt_size e
theorem Paired.mapP {α β:Type} {F G : α→β→Prop}:∀ {l₁:List α} {l₂:List β},Paired F l₁ l₂→(∀ a b,F a b→G a b)→Paired G l₁ l₂
 | _,_,.nil,_=>.nil
 | _,_,.cons r t,f=>.cons (f _ _ r) (Paired.mapP t f)
theorem bS.stay (x:bS P w H h a o) (k:∀ b u,(b=a∨H b=some (.own a))→h.get? b=some u→h'.get? b=some u)
 (ho:∀ b,H b=some (.own a)→H' b=some (.own a)) (ht:∀ b xs,H b=some (.tup xs)→H' b=some (.tup xs)) (hf:∀ b o u,H b=some (.frz o u)→H' b=some (.frz o u)):bS P w H' h' a o:=by
 induction o with
 | lst xs=>obtain ⟨z,its,n,r,e⟩:=x; exact ⟨z,its,n,r,k _ _ (.inl rfl) e⟩
 | tup xs=>obtain ⟨z,its,r,ob,e,c⟩:=x; exact ⟨z,its,r,ob,k _ _ (.inl rfl) e,c⟩
 | dK kvs=>obtain ⟨z,y,vs,r,ob,es,ep,e,c⟩:=x; exact ⟨z,y,vs,r,ob,es,ep,k _ _ (.inl rfl) e,c⟩
 | dT kvs =>
  obtain ⟨z,y,xs,r,ob,es,ep,e,c⟩:=x
  exact ⟨z,y,xs,Paired.mapP r fun p q z=>⟨z.1,ht _ _ z.2.1,z.2.2⟩,ob,es,ep,k _ _ (.inl rfl) e,c⟩
 | set S n=>obtain ⟨ob,es,ep,t,e,c⟩:=x; exact ⟨ob,es,ep,t,k _ _ (.inl rfl) e,c⟩
 | ins C dx fs =>
  obtain ⟨d,z,ne,e,mA,⟨od,es,ep,e2,c⟩,r⟩:=x
  exact ⟨ho _ d,z,ne,k _ _ (.inl rfl) e,mA,⟨od,es,ep,k _ _ (.inr d) e2,c⟩,r⟩
 | own y=>obtain ⟨ob,e⟩:=x; exact ⟨ob,k _ _ (.inl rfl) e⟩
 | xd fs=>obtain ⟨mA,⟨od,es,ep,e,c⟩,r⟩:=x; exact ⟨mA,⟨od,es,ep,k _ _ (.inl rfl) e,c⟩,r⟩
 | rng lo hi=>obtain ⟨t,u,v,e⟩:=x; exact ⟨t,u,v,k _ _ (.inl rfl) e⟩
 | frz ob u ih=>obtain ⟨e,q⟩:=x; exact ⟨k _ _ (.inl rfl) e,ih q⟩
 | tbl ps q=>obtain ⟨e,v⟩:=x; exact ⟨k a _ (.inl rfl) e,v.mono hf⟩
 | met f y =>
  have e:h.get? a=some (PySem.W.methodObj (.ref f) (.ref y)):=x
  show h'.get? a=some (PySem.W.methodObj (.ref f) (.ref y))
  exact k a _ (.inl rfl) e
 | ext φ=>obtain ⟨p,⟨o,e⟩,st⟩:=x; exact ⟨st _ _ p fun o q=>k _ _ (.inl rfl) q,⟨o,k _ _ (.inl rfl) e⟩,st⟩
theorem HOk.lt (x:HOk P w H h) (e:H a=some o):a<h.objs.size:=(x a o e).lt
theorem HOk.fresh (x:HOk P w H h) (e:h.objs.size≤a):H a=none:=by
 cases q:H a with
 | none=>rfl
 | some u=>exact absurd (Nat.lt_of_lt_of_le (x.lt q) e) (Nat.lt_irrefl _)
theorem HOk.kept (x:HOk P w H h) (k:∀ b u,h.get? b=some u→h'.get? b=some u):HOk P w H h':=fun a o e =>
 (x a o e).stay (fun b u _ q=>k b u q) (fun _ q=>q) (fun _ _ q=>q) fun _ _ _ q=>q
theorem HOk.laid (x:HOk P w H h) (k:∀ b u,h.get? b=some u→h'.get? b=some u) (hp:h.objs.size≤a) (new:bS P w (upd H a o) h' a o):HOk P w (upd H a o) h':=fun b u e=>by
 have hn:=x.fresh hp
 by_cases hb:b=a
 ·subst hb; rw [aE] at e; cases e; exact new
 ·rw [av hb] at e
  exact (x b u e).stay (fun c v _ q=>k c v q) (fun c q=>by rw [av (aF q hn)]; exact q) (fun c xs q=>by rw [av (aF q hn)]; exact q) fun c ob u q=>by rw [av (aF q hn)]; exact q
end
def Rd (H:Hp) (a:Addr) (u:HO):Prop:=H a=some u∨∃ o,H a=some (.frz o u)
theorem Rd.ok {P:Program} {w:World} {H:Hp} {h:Heap} {a:Addr} {u:HO} (r:Rd H a u) (x:HOk P w H h):bS P w H h a u:=by
 rcases r with r | ⟨o,r⟩
 ·exact x a u r
 ·obtain ⟨_,q⟩:=x a _ r
  exact q
def Mut:Option HO→Prop
 | some (.lst _)=>True
 | some (.dK _)=>True
 | some (.dT _)=>True
 | some (.set _ _)=>True
 | some (.ins _ _ _)=>True
 | some (.ext _)=>True
 | _=>False
section
variable {P:Program} {w:World} {H:Hp} {h h':Heap} {x e:Addr} {o':HO}
theorem HOk.write (ok:HOk P w H h) (mu:Mut (H x)) (he:e=x∨H e=some (.own x)) (k:∀ b u,b≠e→h.get? b=some u→h'.get? b=some u) (heo:∃ u,h'.get? e=some u)
 (new:bS P w (upd H x o') h' x o'):HOk P w (upd H x o') h':=fun b u q=>by
 have nown:∀ c y,H c=some (.own y)→c≠x:=fun c y r z=>by subst z; rw [r] at mu; exact mu
 have ntup:∀ c xs,H c=some (.tup xs)→c≠x:=fun c xs r z=>by subst z; rw [r] at mu; exact mu
 have nfrz:∀ c ob u,H c=some (.frz ob u)→c≠x:=fun c ob u r z=>by subst z; rw [r] at mu; exact mu
 by_cases hb:b=x
 ·subst hb; rw [aE] at q; cases q; exact new
 ·rw [av hb] at q
  by_cases hbe:b=e
  ·have q':H b=some (.own x):=by
    rcases he with z | z
    ·exact absurd (hbe.trans z) hb
    ·rw [hbe]; exact z
   rw [q] at q'; cases q'
   obtain ⟨v,hv⟩:=heo
   exact ⟨v,by rw [hbe]; exact hv⟩
  ·refine (ok b u q).stay (fun c v hc r=>k c v ?_ r) (fun c r=>by rw [av (nown c b r)]; exact r) (fun c xs r=>by rw [av (ntup c xs r)]; exact r) fun c ob u r=>by rw [av (nfrz c ob u r)]; exact r
   rcases hc with rfl | hc
   ·exact hbe
   ·rintro rfl
    rcases he with z | z
    ·exact nown c b hc z
    ·rw [hc] at z; cases z; exact hb rfl
end
structure Un (fs ex:List Addr) (H H':Hp) (h h':Heap):Prop where
 keep:∀ b o,h.get? b=some o→H b=none→b ∉ fs→b ∉ ex→h'.get? b=some o
 slot:∀ b o,h.get? b=some o→H b=none→b∈fs→b ∉ ex→∃ sl,h'.get? b=some { o with slots:=sl }
 free:∀ b o,h.get? b=some o→H b=none→b ∉ ex→H' b=none
 there:∀ b o,h.get? b=some o→b ∉ ex→∃ o',h'.get? b=some o'
 tups:∀ b xs,H b=some (.tup xs)→H' b=some (.tup xs)
 frzs:∀ b o u,H b=some (.frz o u)→H' b=some (.frz o u)
 tbls:∀ b ps q,H b=some (.tbl ps q)→∃ more,H' b=some (.tbl (ps++more) q)
section
variable {fs fs' ex ex':List Addr} {H H1 H2:Hp} {h h1 h2 h':Heap} {a x e:Addr} {o:HO}
theorem Un.any (u:Un fs ex H H1 h h1) {b:Addr} {ob:Obj} (q:h.get? b=some ob) (n:H b=none) (hx:b ∉ ex):∃ sl,h1.get? b=some { ob with slots:=sl }:=by
 by_cases hb:b∈fs
 ·exact u.slot b ob q n hb hx
 ·exact ⟨ob.slots,u.keep b ob q n hb hx⟩
theorem Un.kept (k:∀ b u,h.get? b=some u→h'.get? b=some u):Un fs ex H H h h' :=
 ⟨fun b ob q _ _ _=>k b ob q,fun b ob q _ _ _=>⟨ob.slots,k b ob q⟩,fun _ _ _ n _=>n,fun b ob q _=>⟨ob,k b ob q⟩,fun _ _ q=>q,fun _ _ _ q=>q,fun _ ps _ q=>⟨#[],by rw [q]; simp⟩⟩
theorem Un.refl:Un fs ex H H h h:=Un.kept fun _ _ q=>q
theorem Un.laid (k:∀ b u,h.get? b=some u→h'.get? b=some u) (hp:h.objs.size≤a) (hn:H a=none):Un fs ex H (upd H a o) h h' where
 keep:=fun b u q _ _ _=>k b u q
 slot:=fun b u q _ _ _=>⟨u.slots,k b u q⟩
 free:=fun b u q n _=>by rw [av (Nat.ne_of_lt (Nat.lt_of_lt_of_le (Heap.lt_size q) hp))]; exact n
 there:=fun b u q _=>⟨u,k b u q⟩
 tups:=fun b xs q=>by rw [av (aF q hn)]; exact q
 frzs:=fun b u xs q=>by rw [av (aF q hn)]; exact q
 tbls:=fun b ps _ q=>⟨#[],by rw [av (aF q hn),q]; simp⟩
theorem Un.write (mu:Mut (H x)) (he:e=x∨H e=some (.own x)) (k:∀ b u,b≠e→h.get? b=some u→h'.get? b=some u) (heo:∃ u,h'.get? e=some u):Un fs ex H (upd H x o) h h':=by
 have hx:∀ b,H b=none→b≠x:=fun b n z=>by subst z; rw [n] at mu; exact mu
 have hb:∀ b,H b=none→b≠e:=fun b n z=>by
  subst z
  rcases he with r | r
  ·exact hx b n r
  ·rw [n] at r; cases r
 have hm:∀ b u,H b=some u→¬ Mut (some u)→b≠x:=fun b u q nm z=>by subst z; rw [q] at mu; exact nm mu
 refine ⟨fun b u q n _ _=>k b u (hb b n) q,fun b u q n _ _=>⟨u.slots,k b u (hb b n) q⟩,fun b u q n _=>by rw [av (hx b n)]; exact n,fun b u q _=>?_,
  fun b xs q=>by rw [av (hm b _ q fun z=>z)]; exact q,fun b u xs q=>by rw [av (hm b _ q fun z=>z)]; exact q,fun b ps _ q=>⟨#[],by rw [av (hm b _ q fun z=>z),q]; simp⟩⟩
 by_cases hbe:b=e
 ·subst hbe; exact heo
 ·exact ⟨u,k b u hbe q⟩
end
def nQ (v:Value):Obj:=⟨v,none,.freed,#[]⟩
def kL (h:Heap) (H:Hp) (i:Addr):Obj:=match H i with
 | some (.tbl _ q)=>nQ (.str q 0)
 | some _=>nQ .none
 | none=>match h.get? i with
  | some o=>o
  | none=>nQ .none
def dW (h:Heap) (H:Hp):Heap:=⟨Array.ofFn (n:=h.objs.size) fun i=>kL h H i,h.life⟩
theorem e8 (h:Heap) (H:Hp):(dW h H).objs.size=h.objs.size:=by simp [dW]
theorem km {h:Heap} {H:Hp} {b:Addr} {o:Obj} (e:(dW h H).objs[b]? = some o):b<h.objs.size∧o=kL h H b:=by
 obtain ⟨hb,e⟩:=Array.getElem?_eq_some_iff.mp e
 rw [e8] at hb
 refine ⟨hb,?_⟩
 rw [← e]; simp [dW]
theorem nofree {h:Heap} {b:Addr} {o:Obj} (e:h.get? b=some o):h.objs[b]? = some o∧o.data≠.freed:=by
 unfold Heap.get? at e
 split at e
 ·cases e
 ·rename_i hn
  refine ⟨e,fun z=>?_⟩
  obtain ⟨c,d,da,sl⟩:=o
  have z:da = .freed:=z
  subst z
  exact hn c d sl e
theorem rR {h:Heap} {b:Addr} {o:Obj} (e:h.objs[b]? = some o) (n:o.data≠.freed):h.get? b=some o:=by
 unfold Heap.get?
 split
 ·rename_i c d sl e'
  rw [e] at e'; cases e'
  exact absurd rfl n
 ·exact e
theorem p6 {h:Heap} {H:Hp} {b:Addr} {o:Obj} (e:h.get? b=some o) (n:H b=none):(dW h H).get? b=some o:=by
 have hb:b<(dW h H).objs.size:=by rw [e8]; exact Heap.lt_size e
 refine rR ?_ (nofree e).2
 rw [Array.getElem?_eq_getElem hb]
 have:(dW h H).objs[b]=kL h H b:=by simp [dW]
 rw [this]; unfold kL; rw [n,e]
theorem sB {h:Heap} {H:Hp} {b:Addr} {o:Obj} (e:(dW h H).get? b=some o):h.get? b=some o∧H b=none:=by
 obtain ⟨e1,nf⟩:=nofree e
 obtain ⟨_,e2⟩:=km e1
 unfold kL at e2
 split at e2
 ·rw [e2] at nf; exact absurd rfl nf
 ·rw [e2] at nf; exact absurd rfl nf
 ·rename_i hn
  split at e2
  ·rename_i o' e3
   exact ⟨e3.trans (by rw [e2]),hn⟩
  ·rw [e2] at nf; exact absurd rfl nf
def TMk (base:Heap) (P:Addr) (q:Str):Prop:=base.objs[P]? = some (nQ (.str q 0))
def TbM (base:Heap) (H:Hp):Prop:=∀ P q,TMk base P q→∃ ps,H P=some (.tbl ps q)
theorem TbM.un {base h h':Heap} {H H':Hp} {fs ex:List Addr} (x:TbM base H) (u:Un fs ex H H' h h'):TbM base H':=fun P q m=>let ⟨ps,z⟩:=x P q m; let ⟨more,y⟩:=u.tbls P ps q z; ⟨_,y⟩
theorem TbM.hid {h:Heap} {H:Hp}:TbM (dW h H) H:=fun P q m=>by
 obtain ⟨_,e⟩:=km m
 unfold kL at e
 split at e
 ·rename_i ps q' hq
  have e:nQ (.str q 0)=nQ (.str q' 0):=e
  cases e; exact ⟨ps,hq⟩
 ·cases e
 ·split at e
  ·rename_i o e3
   have:=(nofree e3).2
   rw [← e] at this; exact absurd rfl this
  ·cases e
theorem TMk.hid {h:Heap} {H:Hp} {P:Addr} {ps:Array Value} {q:Str} (hP:P<h.objs.size) (e:H P=some (.tbl ps q)):TMk (dW h H) P q:=by
 have hb:P<(dW h H).objs.size:=by rw [e8]; exact hP
 unfold TMk
 rw [Array.getElem?_eq_getElem hb]
 have:(dW h H).objs[P]=kL h H P:=by simp [dW]
 rw [this]; unfold kL; rw [e]
structure Mod (K:PySem.W.Frag) (mg:Str→Option Value) (base:Heap):Prop where
 kin:K.In base
 glob:base.Ns mainGlobals mg
 blt:∃ mb,base.Ns builtinsNs mb∧∀ x:Str,x ≠ "__name__" → mb x=bootBuiltins x
 nolimit:base.NoLimit
structure Cx where
 prog:Program
 w:World
 K:PySem.W.Frag
 mg:Str→Option Value
 base:Heap
 A:Around
 N:List Str
 s₀:Shared
 H₀:Hp
 env:Env
 outer:List Env
 stack:List Env
 ex:List Addr
 fn:Str→Bool
 calm:Bool
 pn:List (Addr×Obj)
 xe:Value→Shared→Prop
def frs (l:List Env):List Addr:=l.filterMap (·.frame)
abbrev Cx.fs (X:Cx):List Addr:=frs X.outer
def Vis (sc:Scope) (x:Str):Prop:=sc.names.lookup x=some .local∨sc.names.lookup x=some .cell∨sc.names.lookup x=some .free
def Loc (sc:Scope) (x:Str):Prop:=sc.names.lookup x=some .local∨sc.names.lookup x=some .cell
def Look (env:Env) (h:Heap) (m:Str→Option Value) (x:Str) (u:Value):Prop :=
 (env.kindOf x=some .local∧m x=some u)∨((env.kindOf x=some .cell∨env.kindOf x=some .free)∧∃ c,env.cells.lookup x=some c∧h.IsCell c (some u))
structure Cx.Ok (X:Cx):Prop where
 mod:Mod X.K X.mg X.base
 kind:X.env.scope.kind = .function
 glob:X.env.globals=mainGlobals
 blt:X.env.builtins=builtinsNs
 above:X.s₀.heap.objs.size≤X.env.locals
 inj:∀ x y c,X.env.cells.lookup x=some c→X.env.cells.lookup y=some c→x=y
 has:∀ x,(X.env.kindOf x=some .cell∨X.env.kindOf x=some .free)→∃ c,X.env.cells.lookup x=some c
 cab:∀ x c,X.fn x=true→X.env.cells.lookup x=some c→X.s₀.heap.objs.size≤c
 hd:X.calm=true→X.A.handled=none
 frames:X.A.frames=some X.stack
 stk:X.stack=X.outer∨(X.stack=X.env :: X.outer∧X.env.frame=some X.env.locals)
 exf:∀ b∈X.ex,b≠X.env.locals∧∀ x c,X.env.cells.lookup x=some c→c≠b
 bs:∀ b o,X.base.get? b=some o→X.s₀.heap.get? b=some o∧X.H₀ b=none
 bsz:X.base.objs.size≤X.s₀.heap.objs.size
 noex:∀ b o,X.base.get? b=some o→b ∉ X.ex
 exfs:∀ b∈X.ex,b ∉ X.fs
 funs:X.s₀.heap.FunFrames X.base X.outer
 frf:∀ b∈X.fs,X.H₀ b=none
 tb:TbM X.base X.H₀
structure Inv (X:Cx) (pins:List (Addr×Obj)) (σ:List (Option V)) (H:Hp) (s:Shared):Prop where
 ok:X.Ok
 os:s.os=X.s₀.os
 bare:AllBare s.gens
 base:Un X.fs X.ex X.H₀ H X.s₀.heap s.heap
 loc:∃ m,s.heap.Ns X.env.locals m∧∀ (i:Nat) (x:Str) (v:V),X.N[i]? = some x→σ[i]? = some (some v)→Vis X.env.scope x→∃ u,a8 v u∧Look X.env s.heap m x u
 cell:∀ x c,X.env.cells.lookup x=some c→∃ v,s.heap.IsCell c v
 free:H X.env.locals=none
 freeC:∀ x c,X.env.cells.lookup x=some c→H c=none
 pin:∀ p∈X.pn++pins,s.heap.get? p.1=some p.2∧H p.1=none∧p.1≠X.env.locals∧p.1 ∉ X.fs∧∀ v,p.2.data≠.cell v
 hok:HOk X.prog X.w H s.heap
 len : σ.length=X.N.length
section
variable {X:Cx} {pins:List (Addr×Obj)} {σ:List (Option V)} {H H':Hp} {s:Shared} {h':Heap}
theorem Cx.Ok.nofr (ok:X.Ok) {b:Addr} {o:Obj} (e:X.base.get? b=some o):b ∉ X.fs:=fun hb=>by
 have:=(ok.funs.mem hb).1
 rw [e] at this; cases this
theorem Inv.bs (I:Inv X pins σ H s):∀ b o,X.base.get? b=some o→s.heap.get? b=some o∧H b=none:=fun b o e =>
 ⟨I.base.keep b o (I.ok.bs b o e).1 (I.ok.bs b o e).2 (I.ok.nofr e) (I.ok.noex b o e),I.base.free b o (I.ok.bs b o e).1 (I.ok.bs b o e).2 (I.ok.noex b o e)⟩
theorem Inv.bk (I:Inv X pins σ H s):∀ b o,X.base.get? b=some o→s.heap.get? b=some o:=fun b o e=>(I.bs b o e).1
theorem Inv.mod (I:Inv X pins σ H s):Mod X.K X.mg X.base:=I.ok.mod
theorem Inv.kIn (I:Inv X pins σ H s):X.K.In s.heap:=I.ok.mod.kin.keeps I.bk
theorem Inv.fr (I:Inv X pins σ H s):∃ m,Fr X.base X.env.locals s.heap m :=
 let ⟨m,hn,_⟩:=I.loc
 ⟨m,hn,I.bk,Nat.le_trans I.ok.bsz I.ok.above⟩
theorem Inv.lt (I:Inv X pins σ H s):X.env.locals<s.heap.objs.size:=let ⟨_,hn,_⟩:=I.loc; hn.lt
theorem Inv.sz (I:Inv X pins σ H s):X.s₀.heap.objs.size≤s.heap.objs.size:=Nat.le_trans I.ok.above (Nat.le_of_lt I.lt)
theorem Inv.nofs (I:Inv X pins σ H s) {a:Addr} (h:s.heap.objs.size≤a):a ∉ X.fs:=fun hb=>by
 obtain ⟨_,o,ho,_⟩:=I.ok.funs.mem hb
 exact absurd (Nat.lt_of_lt_of_le (Heap.lt_size ho) (Nat.le_trans I.sz h)) (Nat.lt_irrefl _)
theorem Inv.cne (I:Inv X pins σ H s):∀ x c,X.env.cells.lookup x=some c→c≠X.env.locals:=fun x c e z=>by
 obtain ⟨v,o,ho,hd⟩:=I.cell x c e
 obtain ⟨m,⟨o',es,ep,ho',hd',_⟩,_⟩:=I.loc
 rw [z,ho'] at ho; cases ho; rw [hd'] at hd; cases hd
theorem Inv.funs (I:Inv X pins σ H s):s.heap.FunFrames X.base X.outer:=by
 have all:∀ (l:List Env),(∀ b∈frs l,b∈X.fs)→X.s₀.heap.FunFrames X.base l→s.heap.FunFrames X.base l:=by
  intro l
  induction l with
  | nil=>intro _ _; trivial
  | cons env r ih =>
   intro hs hl
   obtain ⟨hk,⟨L,o,hf,hn,ho,hd⟩,hr⟩:=hl
   have hL:L∈X.fs:=hs L (by unfold frs; rw [List.filterMap_cons,hf]; exact List.mem_cons_self)
   obtain ⟨sl,e⟩:=I.base.slot L o ho (I.ok.frf L hL) hL fun z=>I.ok.exfs L z hL
   exact ⟨hk,⟨L,_,hf,hn,e,hd⟩,ih (fun b hb=>hs b (by unfold frs; rw [List.filterMap_cons,hf]; exact List.mem_cons_of_mem _ hb)) hr⟩
 exact all X.outer (fun _ hb=>hb) I.ok.funs
theorem Inv.stack (I:Inv X pins σ H s):s.heap.FunFrames X.base X.stack:=by
 rcases I.ok.stk with e | ⟨e,hf⟩
 ·rw [e]; exact I.funs
 ·rw [e]
  obtain ⟨m,hn,_⟩:=I.loc
  refine .cons (by rw [I.ok.kind]; decide) hf hn ?_ I.funs
  exact Heap.get?_none_of_le (Nat.le_trans I.ok.bsz I.ok.above)
theorem Inv.stkSub (I:Inv X pins σ H s):∀ b∈frs X.stack,b∈X.env.locals :: X.fs:=fun b hb=>by
 rcases I.ok.stk with e | ⟨e,hf⟩
 ·rw [e] at hb; exact List.mem_cons_of_mem _ hb
 ·rw [e] at hb
  unfold frs at hb
  rw [List.filterMap_cons,hf] at hb
  exact hb
theorem Inv.stkFree (I:Inv X pins σ H s):∀ b∈frs X.stack,H b=none:=fun b hb=>by
 rcases List.mem_cons.mp (I.stkSub b hb) with e | hb
 ·rw [e]; exact I.free
 ·obtain ⟨_,o,ho,_⟩:=I.ok.funs.mem hb
  exact I.base.free b o ho (I.ok.frf b hb) fun z=>I.ok.exfs b z hb
theorem Inv.step {g':Array GenState} {t':Nat} {d':Drawn} {ch:List Addr} (I:Inv X pins σ H s)
 (hch:∀ b∈ch,(b∈X.ex∨X.s₀.heap.objs.size≤b)∧b≠X.env.locals∧(∀ x c,X.env.cells.lookup x=some c→c≠b)∧∀ p∈X.pn++pins,p.1≠b)
 (keep:∀ b o,b≠X.env.locals→b ∉ X.fs→b ∉ ch→s.heap.get? b=some o→H b=none→h'.get? b=some o)
 (slot:∀ b o,b≠X.env.locals→b∈X.fs→b ∉ ch→s.heap.get? b=some o→H b=none→∃ sl,h'.get? b=some { o with slots:=sl }) (free:∀ b o,b ∉ ch→s.heap.get? b=some o→H b=none→H' b=none)
 (there:∀ b o,b ∉ ch→s.heap.get? b=some o→∃ o',h'.get? b=some o')
 (tups:∀ b xs,H b=some (.tup xs)→H' b=some (.tup xs)) (frzs:∀ b o u,H b=some (.frz o u)→H' b=some (.frz o u)) (tbls:∀ b ps q,H b=some (.tbl ps q)→∃ more,H' b=some (.tbl (ps++more) q))
 (ns:∀ m,s.heap.Ns X.env.locals m→h'.Ns X.env.locals m) (hok:HOk X.prog X.w H' h') (hg:AllBare g') :
 Inv X pins σ H' { s with heap:=h',gens:=g',drawn:=d',toks:=t' }:=by
 have neL:∀ b o,X.s₀.heap.get? b=some o→b≠X.env.locals:=fun b o e=>Nat.ne_of_lt (Nat.lt_of_lt_of_le (Heap.lt_size e) I.ok.above)
 have neC:∀ b o,X.s₀.heap.get? b=some o→b ∉ X.ex→b ∉ ch:=fun b o e hx hb=>by
  rcases (hch b hb).1 with z | z
  ·exact hx z
  ·exact absurd (Nat.lt_of_lt_of_le (Heap.lt_size e) z) (Nat.lt_irrefl _)
 have cellK:∀ x c,X.env.cells.lookup x=some c→∀ v,s.heap.IsCell c v→h'.IsCell c v:=fun x c e v ⟨o,ho,hd⟩=>by
  have nch:c ∉ ch:=fun z=>(hch c z).2.2.1 x c e rfl
  by_cases hc:c∈X.fs
  ·obtain ⟨sl,q⟩:=slot c o (I.cne x c e) hc nch ho (I.freeC x c e)
   exact ⟨_,q,hd⟩
  ·exact ⟨o,keep c o (I.cne x c e) hc nch ho (I.freeC x c e),hd⟩
 refine ⟨I.ok,I.os,hg,⟨fun b o e n hb hx=>?_,fun b o e n hb hx=>?_,fun b o e n hx=>?_,fun b o e hx=>?_,fun b xs e=>tups b xs (I.base.tups b xs e),fun b o xs e=>frzs b o xs (I.base.frzs b o xs e),fun b ps q e=>?_⟩,?_,fun x c e=>?_,?_,fun x c e=>?_,fun p hp=>?_,hok,I.len⟩
 ·exact keep b o (neL b o e) hb (neC b o e hx) (I.base.keep b o e n hb hx) (I.base.free b o e n hx)
 ·obtain ⟨sl,e1⟩:=I.base.slot b o e n hb hx
  obtain ⟨sl',e2⟩:=slot b _ (neL b o e) hb (neC b o e hx) e1 (I.base.free b o e n hx)
  exact ⟨sl',e2⟩
 ·obtain ⟨o',e1⟩:=I.base.there b o e hx
  exact free b o' (neC b o e hx) e1 (I.base.free b o e n hx)
 ·obtain ⟨o',e1⟩:=I.base.there b o e hx
  exact there b o' (neC b o e hx) e1
 ·obtain ⟨m1,e1⟩:=I.base.tbls b ps q e
  obtain ⟨m2,e2⟩:=tbls b _ q e1
  exact ⟨m1++m2,by rw [e2,Array.append_assoc]⟩
 ·obtain ⟨m,hn,hl⟩:=I.loc
  refine ⟨m,ns m hn,fun i x v e1 e2 e3=>?_⟩
  obtain ⟨u,r,l⟩:=hl i x v e1 e2 e3
  refine ⟨u,r,?_⟩
  rcases l with l | ⟨k,c,e,z⟩
  ·exact .inl l
  ·exact .inr ⟨k,c,e,cellK x c e _ z⟩
 ·obtain ⟨v,z⟩:=I.cell x c e
  exact ⟨v,cellK x c e v z⟩
 ·obtain ⟨m,⟨o,_,_,ho,_⟩,_⟩:=I.loc
  exact free _ o (fun z=>(hch _ z).2.1 rfl) ho I.free
 ·obtain ⟨v,o,ho,hd⟩:=I.cell x c e
  exact free c o (fun z=>(hch c z).2.2.1 x c e rfl) ho (I.freeC x c e)
 ·obtain ⟨e,n,ne,nf,d⟩:=I.pin p hp
  have nch:p.1 ∉ ch:=fun z=>(hch p.1 z).2.2.2 p hp rfl
  exact ⟨keep p.1 p.2 ne nf nch e n,free p.1 p.2 nch e n,ne,nf,d⟩
theorem Inv.un {t':Nat} (I:Inv X pins σ H s) (u:Un X.fs [] H H' s.heap h') (hok:HOk X.prog X.w H' h'):Inv X pins σ H' { s with heap:=h',toks:=t' }:=by
 obtain ⟨m,⟨o,es,ep,ho,r⟩,_⟩:=id I.loc
 obtain ⟨sl,hL⟩:=u.any ho I.free (by simp)
 exact I.step (g':=s.gens) (d':=s.drawn) (ch:=[]) (fun _ z=>nomatch z) (fun b o _ hb _ e n=>u.keep b o e n hb (by simp)) (fun b o _ hb _ e n=>u.slot b o e n hb (by simp)) (fun b o _ e n=>u.free b o e n (by simp)) (fun b o _ e=>u.there b o e (by simp)) u.tups u.frzs u.tbls (fun m' hm=>by
  obtain ⟨o',es',ep',ho',r'⟩:=hm
  rw [ho] at ho'; cases ho'
  exact ⟨_,es',ep',hL,r'⟩) hok I.bare
theorem Inv.call {g':Array GenState} {t':Nat} {d':Drawn} {ch:List Addr} (I:Inv X pins σ H s) (u:Un (frs X.stack) ch H H' s.heap h') (hok:HOk X.prog X.w H' h') (hg:AllBare g')
 (hch:∀ b∈ch,(b∈X.ex∨X.s₀.heap.objs.size≤b)∧b≠X.env.locals∧(∀ x c,X.env.cells.lookup x=some c→c≠b)∧∀ p∈X.pn++pins,p.1≠b) :
 Inv X pins σ H' { s with heap:=h',gens:=g',drawn:=d',toks:=t' }:=by
 obtain ⟨m,⟨o,es,ep,ho,r⟩,_⟩:=id I.loc
 obtain ⟨sl,hL⟩:=u.any ho I.free fun z=>(hch _ z).2.1 rfl
 exact I.step (ch:=ch) hch (fun b o hL hb hc e n=>u.keep b o e n (fun z=>(List.mem_cons.mp (I.stkSub b z)).elim hL hb) hc) (fun b o _ _ hc e n=>u.any e n hc) (fun b o hc e n=>u.free b o e n hc) (fun b o hc e=>u.there b o e hc) u.tups u.frzs u.tbls (fun m' hm=>by
  obtain ⟨o',es',ep',ho',r'⟩:=hm
  rw [ho] at ho'; cases ho'
  exact ⟨_,es',ep',hL,r'⟩) hok hg
theorem Inv.turned {t':Nat} {it:Addr} (I:Inv X pins σ H s) (k:∀ b o,b≠it→s.heap.get? b=some o→h'.get? b=some o) (hn:H it=none) (hL:it≠X.env.locals)
 (h1:it∈X.ex∨X.s₀.heap.objs.size≤it) (h2:∀ x c,X.env.cells.lookup x=some c→c≠it) (h3:∀ p∈X.pn++pins,p.1≠it):Inv X pins σ H { s with heap:=h',toks:=t' }:=by
 have nit:∀ b u,H b=some u→b≠it:=fun b u e z=>by rw [z,hn] at e; cases e
 refine I.step (g':=s.gens) (d':=s.drawn) (ch:=[it]) (fun b hb=>?_) (fun b o _ _ hc e _=>k b o (fun z=>hc (by simp [z])) e) (fun b o _ _ hc e _=>⟨o.slots,k b o (fun z=>hc (by simp [z])) e⟩) (fun _ _ _ _ n=>n)
  (fun b o hc e=>⟨o,k b o (fun z=>hc (by simp [z])) e⟩) (fun _ _ e=>e) (fun _ _ _ e=>e) (fun b ps _ e=>⟨#[],by rw [e]; simp⟩) (fun m hm=>?_) (fun b u e=>?_) I.bare
 ·have e:b=it:=by simpa using hb
  subst e
  exact ⟨h1,hL,h2,h3⟩
 ·obtain ⟨o,es,ep,ho,r⟩:=hm
  exact ⟨o,es,ep,k _ o (Ne.symm hL) ho,r⟩
 ·refine (I.hok b u e).stay (fun c v hc q=>k c v ?_ q) (fun _ q=>q) (fun _ _ q=>q) fun _ _ _ q=>q
  rcases hc with z | z
  ·rw [z]; exact nit b u e
  ·exact nit c _ z
theorem Inv.tok (I:Inv X pins σ H s) (t:Nat):Inv X pins σ H { s with toks:=t }:=I.un (h':=s.heap) (t':=t) Un.refl I.hok
theorem Inv.kept {t':Nat} (I:Inv X pins σ H s) (k:∀ b u,s.heap.get? b=some u→h'.get? b=some u):Inv X pins σ H { s with heap:=h',toks:=t' }:=I.un (Un.kept k) (I.hok.kept k)
theorem Inv.laid {a:Addr} {o:HO} {t':Nat} (I:Inv X pins σ H s) (k:∀ b u,s.heap.get? b=some u→h'.get? b=some u) (hp:s.heap.objs.size≤a) (new:bS X.prog X.w (upd H a o) h' a o) :
 Inv X pins σ (upd H a o) { s with heap:=h',toks:=t' }:=I.un (Un.laid k hp (I.hok.fresh hp)) (I.hok.laid k hp new)
theorem Inv.write {x e:Addr} {o:HO} {t':Nat} (I:Inv X pins σ H s) (mu:Mut (H x)) (he:e=x∨H e=some (.own x)) (k:∀ b u,b≠e→s.heap.get? b=some u→h'.get? b=some u) (heo:∃ u,h'.get? e=some u)
 (new:bS X.prog X.w (upd H x o) h' x o):Inv X pins σ (upd H x o) { s with heap:=h',toks:=t' }:=I.un (Un.write mu he k heo) (I.hok.write mu he k heo new)
theorem Inv.weak {σ':List (Option V)} (I:Inv X pins σ H s) (hl : σ'.length=σ.length) (w:∀ (i:Nat) v,σ'[i]? = some (some v)→σ[i]? = some (some v)):Inv X pins σ' H s :=
 ⟨I.ok,I.os,I.bare,I.base,let ⟨m,hn,hl'⟩:=I.loc; ⟨m,hn,fun i x v e1 e2 e3=>hl' i x v e1 (w i v e2) e3⟩,I.cell,I.free,I.freeC,I.pin,I.hok,hl.trans I.len⟩
theorem Inv.pins_of {pins':List (Addr×Obj)} (I:Inv X pins σ H s) (h:∀ p∈pins',s.heap.get? p.1=some p.2∧H p.1=none∧p.1≠X.env.locals∧p.1 ∉ X.fs∧∀ v,p.2.data≠.cell v):Inv X pins' σ H s :=
 ⟨I.ok,I.os,I.bare,I.base,I.loc,I.cell,I.free,I.freeC,fun p hp=>(List.mem_append.mp hp).elim (fun z=>I.pin p (List.mem_append_left _ z)) (h p),I.hok,I.len⟩
theorem kg {N:List Str} (hN:N.Nodup) {i j:Nat} {x:Str} (a:N[i]? = some x) (b:N[j]? = some x):i=j:=by
 obtain ⟨h1,e1⟩:=List.getElem?_eq_some_iff.mp a
 obtain ⟨h2,e2⟩:=List.getElem?_eq_some_iff.mp b
 exact (List.getElem_inj hN).mp (e1.trans e2.symm)
theorem iG {M:Model} {A:Around} {E:Value→Shared→Prop} {i:Nat} {x:Str} {v:V} {u:Value} {Q:Unit→Shared→Prop} (I:Inv X pins σ H s) (hN:X.N.Nodup) (hi:X.N[i]? = some x) (hx:Loc X.env.scope x) (r:a8 v u)
 (h:∀ s',Inv X pins (σ.set i (some v)) H s'→(∃ a,Heap.SameBut a s.heap s'.heap∧(a=X.env.locals∨X.env.cells.lookup x=some a))→Q () s') (hf:X.fn x=true∨X.env.scope.names.lookup x=some .local:=by first | exact .inl rfl | exact .inr rfl | assumption):wpAny M A (storeName X.env x u) Q E s:=by
 obtain ⟨m,hn,hl⟩:=id I.loc
 have hcls:(X.env.scope.kind == .class||(X.env.scope.kind == .module&&X.env.locals != X.env.globals))=false:=by rw [I.ok.kind]; rfl
 have hiσ:i<σ.length:=by rw [I.len]; exact (List.getElem?_eq_some_iff.mp hi).1
 have cne:=I.cne
 have tracked:∀ {a:Addr} {h':Heap},(∃ o,s.heap.get? a=some o∧H a=none)→Heap.SameBut a s.heap h'→HOk X.prog X.w H h':=fun {a h'} ha hs b ob e=>by
  obtain ⟨_,_,hfree⟩:=ha
  refine (I.hok b ob e).stay (fun c w' hc q=>(hs.2 c ?_).trans q) (fun _ q=>q) (fun _ _ q=>q) fun _ _ _ q=>q
  rintro rfl
  rcases hc with rfl | hc
  ·rw [hfree] at e; cases e
  ·rw [hfree] at hc; cases hc
 rcases hx with hk | hk
 ·refine wpAny_storeName_local hk hn (fun h' hn' hs=>?_) hcls
  obtain ⟨oL,_,_,hoL,_⟩:=id hn
  refine h _ ⟨I.ok,I.os,I.bare,⟨fun b o e n hb hx=>?_,fun b o e n hb hx=>?_,I.base.free,fun b o e hx=>?_,I.base.tups,I.base.frzs,I.base.tbls⟩,⟨_,hn',fun j y v' e1 e2 e3=>?_⟩,fun y c e=>?_,I.free,I.freeC,fun p hp=>?_,tracked ⟨oL,hoL,I.free⟩ hs,by simpa using I.len⟩ ⟨_,hs,.inl rfl⟩
  ·exact (hs.2 b (Nat.ne_of_lt (Nat.lt_of_lt_of_le (Heap.lt_size e) I.ok.above))).trans (I.base.keep b o e n hb hx)
  ·obtain ⟨sl,e1⟩:=I.base.slot b o e n hb hx
   exact ⟨sl,(hs.2 b (Nat.ne_of_lt (Nat.lt_of_lt_of_le (Heap.lt_size e) I.ok.above))).trans e1⟩
  ·obtain ⟨o',e1⟩:=I.base.there b o e hx
   exact ⟨o',(hs.2 b (Nat.ne_of_lt (Nat.lt_of_lt_of_le (Heap.lt_size e) I.ok.above))).trans e1⟩
  ·by_cases hj:j=i
   ·subst hj
    rw [hi] at e1; cases e1
    rw [List.getElem?_set_self hiσ] at e2
    cases e2
    exact ⟨u,r,.inl ⟨hk,by simp⟩⟩
   ·rw [List.getElem?_set_ne (Ne.symm hj)] at e2
    obtain ⟨u',r',q⟩:=hl j y v' e1 e2 e3
    refine ⟨u',r',?_⟩
    rcases q with ⟨k,e⟩ | ⟨k,c,e,z⟩
    ·refine .inl ⟨k,?_⟩
     have:y≠x:=fun e=>hj (kg hN e1 (e ▸ hi))
     simp [this,e]
    ·exact .inr ⟨k,c,e,z.sameBut hs (cne y c e)⟩
  ·obtain ⟨w',z⟩:=I.cell y c e
   exact ⟨w',z.sameBut hs (cne y c e)⟩
  ·obtain ⟨e,n,ne,nf,d⟩:=I.pin p hp
   exact ⟨(hs.2 p.1 ne).trans e,n,ne,nf,d⟩
 ·have hfn:X.fn x=true:=by
   rcases hf with z | z
   ·exact z
   ·rw [z] at hk; cases hk
  obtain ⟨c,hc⟩:=I.ok.has x (.inl hk)
  obtain ⟨w',z⟩:=I.cell x c hc
  refine wpAny_storeName_cell I.ok.kind hk hc z (fun h' hc' hs=>?_)
  obtain ⟨oc,hoc,hocd⟩:=id z
  refine h { s with heap:=h' } ⟨I.ok,I.os,I.bare,⟨fun b o e n hb hx=>?_,fun b o e n hb hx=>?_,I.base.free,fun b o e hx=>?_,I.base.tups,I.base.frzs,I.base.tbls⟩,⟨m,hn.sameBut hs (Ne.symm (cne x c hc)),fun j y v' e1 e2 e3=>?_⟩,fun y c' e=>?_,I.free,I.freeC,fun p hp=>?_,tracked ⟨oc,hoc,I.freeC x c hc⟩ hs,by simpa using I.len⟩ ⟨c,hs,.inr hc⟩
  ·exact (hs.2 b (Nat.ne_of_lt (Nat.lt_of_lt_of_le (Heap.lt_size e) (I.ok.cab x c hfn hc)))).trans (I.base.keep b o e n hb hx)
  ·obtain ⟨sl,e1⟩:=I.base.slot b o e n hb hx
   exact ⟨sl,(hs.2 b (Nat.ne_of_lt (Nat.lt_of_lt_of_le (Heap.lt_size e) (I.ok.cab x c hfn hc)))).trans e1⟩
  ·obtain ⟨o',e1⟩:=I.base.there b o e hx
   exact ⟨o',(hs.2 b (Nat.ne_of_lt (Nat.lt_of_lt_of_le (Heap.lt_size e) (I.ok.cab x c hfn hc)))).trans e1⟩
  ·by_cases hj:j=i
   ·subst hj
    rw [hi] at e1; cases e1
    rw [List.getElem?_set_self hiσ] at e2
    cases e2
    exact ⟨u,r,.inr ⟨.inl hk,c,hc,hc'⟩⟩
   ·rw [List.getElem?_set_ne (Ne.symm hj)] at e2
    obtain ⟨u',r',q⟩:=hl j y v' e1 e2 e3
    refine ⟨u',r',?_⟩
    rcases q with q | ⟨k,c',e,z'⟩
    ·exact .inl q
    ·refine .inr ⟨k,c',e,z'.sameBut hs ?_⟩
     rintro rfl
     exact hj (kg hN e1 (I.ok.inj _ _ _ e hc ▸ hi))
  ·by_cases hcc:c'=c
   ·subst hcc; exact ⟨_,hc'⟩
   ·obtain ⟨w2,z2⟩:=I.cell y c' e
    exact ⟨w2,z2.sameBut hs hcc⟩
  ·obtain ⟨e,n,ne,nf,d⟩:=I.pin p hp
   refine ⟨(hs.2 p.1 ?_).trans e,n,ne,nf,d⟩
   intro q
   rw [q,hoc] at e
   have q':oc=p.2:=Option.some.inj e
   exact d w' (by rw [← q']; exact hocd)
theorem fJ {M:Model} {A:Around} {E:Value→Shared→Prop} {i:Nat} {x:Str} {v:V} {u:Value} {Q:Unit→Shared→Prop} (I:Inv X pins σ H s) (hN:X.N.Nodup) (hi:X.N[i]? = some x) (hx:Loc X.env.scope x) (r:a8 v u)
 (h:∀ s',Inv X pins (σ.set i (some v)) H s'→Q () s') (hf:X.fn x=true∨X.env.scope.names.lookup x=some .local:=by first | exact .inl rfl | exact .inr rfl | assumption):wpAny M A (storeName X.env x u) Q E s :=
 iG I hN hi hx r (fun s' I' _=>h s' I') hf
theorem Inv.call' {s':Shared} {ch:List Addr} (I:Inv X pins σ H s) (ho:s'.os=s.os) (u:Un (frs X.stack) ch H H' s.heap s'.heap) (hok:HOk X.prog X.w H' s'.heap) (hg:AllBare s'.gens)
 (hch:∀ b∈ch,(b∈X.ex∨X.s₀.heap.objs.size≤b)∧b≠X.env.locals∧(∀ x c,X.env.cells.lookup x=some c→c≠b)∧∀ p∈X.pn++pins,p.1≠b):Inv X pins σ H' s':=by
 obtain ⟨h',g',d',t',o'⟩:=s'
 have e:o'=s.os:=ho
 subst e
 exact I.call (g':=g') (t':=t') (d':=d') u hok hg hch
end
abbrev XK:=Value→Option Addr→Hp→Prop
abbrev St:=List (Option V)
abbrev VK:=V→Hp→Prop
abbrev TE:=St→Hp→VK→Prop
abbrev TT:=St→Hp→(Bool→Hp→Prop)→Prop
abbrev TA:=St→Hp→(List V→Hp→Prop)→Prop
structure Ends where
 nx:St→Hp→Prop
 rt:VK
 bk:St→Hp→Prop:=fun _ _=>False
 ct:St→Hp→Prop:=fun _ _=>False
abbrev TS:=Ends→St→Hp→Prop
def EP (X:Cx) (pins:List (Addr×Obj)) (σ:St) (Q:VK) (u:Value) (s':Shared):Prop:=∃ v H',Inv X pins σ H' s'∧a8 v u∧Q v H'
def TP (X:Cx) (pins:List (Addr×Obj)) (σ:St) (Q:Bool→Hp→Prop) (b:Bool) (s':Shared):Prop:=∃ H',Inv X pins σ H' s'∧Q b H'
def AP (X:Cx) (pins:List (Addr×Obj)) (σ:St) (Q:List V→Hp→Prop) (us:List Value) (s':Shared):Prop:=∃ vs H',Inv X pins σ H' s'∧aQ vs us∧Q vs H'
def SP (X:Cx) (pins:List (Addr×Obj)) (D:Ends) (f:Flow) (s':Shared):Prop :=
 match f with
 | .next=>∃ σ' H',Inv X pins σ' H' s'∧D.nx σ' H'
 | .brk=>∃ σ' H',Inv X pins σ' H' s'∧D.bk σ' H'
 | .cont=>∃ σ' H',Inv X pins σ' H' s'∧D.ct σ' H'
 | .ret u=>∃ v σ' H',Inv X pins σ' H' s'∧a8 v u∧D.rt v H'
structure PE (X:Cx) (e:Expr) (t:TE):Prop where
 go:∀ (pins:List (Addr×Obj)) (s:Shared) (σ:St) (H:Hp) (Q:VK),Inv X pins σ H s→t σ H Q→wpAny (model X.prog X.w) X.A (eval e X.env) (EP X pins σ Q) X.xe s
instance {X:Cx} {e:Expr} {t:TE}:CoeFun (PE X e t) fun _=>∀ (pins:List (Addr×Obj)) (s:Shared) (σ:St) (H:Hp) (Q:VK),Inv X pins σ H s→t σ H Q→wpAny (model X.prog X.w) X.A (eval e X.env) (EP X pins σ Q) X.xe s:=⟨fun h=>h.go⟩
structure PT (X:Cx) (e:Expr) (t:TT):Prop where
 go:∀ (pins:List (Addr×Obj)) (s:Shared) (σ:St) (H:Hp) (Q:Bool→Hp→Prop),Inv X pins σ H s→t σ H Q→wpAny (model X.prog X.w) X.A (isTrue e X.env (eval e X.env)) (TP X pins σ Q) X.xe s
instance {X:Cx} {e:Expr} {t:TT}:CoeFun (PT X e t) fun _=>∀ (pins:List (Addr×Obj)) (s:Shared) (σ:St) (H:Hp) (Q:Bool→Hp→Prop),Inv X pins σ H s→t σ H Q→wpAny (model X.prog X.w) X.A (isTrue e X.env (eval e X.env)) (TP X pins σ Q) X.xe s:=⟨fun h=>h.go⟩
structure PW (X:Cx) (e:Expr) (t:TT):Prop where
 go:∀ (whole:Sem Value) (pins:List (Addr×Obj)) (s:Shared) (σ:St) (H:Hp) (Q:Bool→Hp→Prop),Inv X pins σ H s→t σ H Q→wpAny (model X.prog X.w) X.A (isTrue e X.env whole) (TP X pins σ Q) X.xe s
instance {X:Cx} {e:Expr} {t:TT}:CoeFun (PW X e t) fun _=>∀ (whole:Sem Value) (pins:List (Addr×Obj)) (s:Shared) (σ:St) (H:Hp) (Q:Bool→Hp→Prop),Inv X pins σ H s→t σ H Q→wpAny (model X.prog X.w) X.A (isTrue e X.env whole) (TP X pins σ Q) X.xe s:=⟨fun h=>h.go⟩
theorem PW.pt {X:Cx} {e:Expr} {t:TT} (h:PW X e t):PT X e t:=⟨h.go _⟩
structure PA (X:Cx) (es:List Expr) (t:TA):Prop where
 go:∀ (pos:Pos) (pins:List (Addr×Obj)) (s:Shared) (σ:St) (H:Hp) (Q:List V→Hp→Prop),Inv X pins σ H s→t σ H Q→wpAny (model X.prog X.w) X.A (spliced (backTo pos (starEach es X.env))) (AP X pins σ Q) X.xe s
instance {X:Cx} {es:List Expr} {t:TA}:CoeFun (PA X es t) fun _=>∀ (pos:Pos) (pins:List (Addr×Obj)) (s:Shared) (σ:St) (H:Hp) (Q:List V→Hp→Prop),Inv X pins σ H s→t σ H Q→wpAny (model X.prog X.w) X.A (spliced (backTo pos (starEach es X.env))) (AP X pins σ Q) X.xe s:=⟨fun h=>h.go⟩
structure PS (X:Cx) (st:Stmt) (t:TS):Prop where
 go:∀ (pins:List (Addr×Obj)) (s:Shared) (σ:St) (H:Hp) (D:Ends),Inv X pins σ H s→t D σ H→wpAny (model X.prog X.w) X.A (exec st X.env) (SP X pins D) X.xe s
instance {X:Cx} {st:Stmt} {t:TS}:CoeFun (PS X st t) fun _=>∀ (pins:List (Addr×Obj)) (s:Shared) (σ:St) (H:Hp) (D:Ends),Inv X pins σ H s→t D σ H→wpAny (model X.prog X.w) X.A (exec st X.env) (SP X pins D) X.xe s:=⟨fun h=>h.go⟩
structure PSs (X:Cx) (st:List Stmt) (t:TS):Prop where
 go:∀ (pins:List (Addr×Obj)) (s:Shared) (σ:St) (H:Hp) (D:Ends),Inv X pins σ H s→t D σ H→wpAny (model X.prog X.w) X.A (execs st X.env) (SP X pins D) X.xe s
instance {X:Cx} {st:List Stmt} {t:TS}:CoeFun (PSs X st t) fun _=>∀ (pins:List (Addr×Obj)) (s:Shared) (σ:St) (H:Hp) (D:Ends),Inv X pins σ H s→t D σ H→wpAny (model X.prog X.w) X.A (execs st X.env) (SP X pins D) X.xe s:=⟨fun h=>h.go⟩
theorem thn {α:Type} {t:Sem α} {Q Q' : α→Shared→Prop} {M:Model} {A:Around} {E:Value→Shared→Prop} {s:Shared} (h:wpAny M A t Q E s) (hQ:∀ a s,Q a s→Q' a s):wpAny M A t Q' E s:=wpAny_mono h hQ fun _ _ x=>x
section
variable {X:Cx}
theorem bin {a b:Expr} {ta tb:TE} (ha:PE X a ta) (hb:PE X b tb) {pins:List (Addr×Obj)} {s:Shared} {σ:St} {H:Hp} {R:V→V→Hp→Prop} (I:Inv X pins σ H s) (h:ta σ H fun x H1=>tb σ H1 fun y H2=>R x y H2)
 {α:Type} {Q : α→Shared→Prop} {f:Value→Value→Sem α}
 (hf:∀ v u s2 x y H2,Inv X pins σ H2 s2→a8 x v→a8 y u→R x y H2→wpAny (model X.prog X.w) X.A (f v u) Q X.xe s2) :
 wpAny (model X.prog X.w) X.A (eval a X.env) (fun v s₁=>wpAny (model X.prog X.w) X.A (eval b X.env) (fun u s₂=>wpAny (model X.prog X.w) X.A (f v u) Q X.xe s₂) X.xe s₁) X.xe s:=by
 refine thn (ha pins s σ H _ I h) fun v s1 ⟨x,H1,I1,r1,q1⟩=>?_
 refine thn (hb pins s1 σ H1 _ I1 q1) fun u s2 ⟨y,H2,I2,r2,q2⟩=>?_
 exact hf v u s2 x y H2 I2 r1 r2 q2
def tVar (i:Nat):TE:=fun σ H Q=>∃ v,σ[i]? = some (some v)∧Q v H
def tC (v:V):TE:=fun _ H Q=>Q v H
theorem d5 {i:Nat} {x:Str} {pos:Pos} (hN:X.N[i]? = some x) (hv:Vis X.env.scope x) (hd:(x == ("__debug__":Str))=false:=by decide) (hcd:(x == ("__classdict__":Str))=false:=by decide):PE X (.Name x pos) (tVar i):=by
 (try refine ⟨?_⟩); intro pins s σ H Q I h
 obtain ⟨v,e,h⟩:=h
 obtain ⟨m,hn,hl⟩:=I.loc
 obtain ⟨u,r,l⟩:=hl i x v hN e hv
 have fin:EP X pins σ Q u s:=⟨v,H,I,r,h⟩
 rcases l with ⟨hk,hm⟩ | ⟨hk,c,hc,hcell⟩
 ·exact wpAny_Name (wpAny_loadName_local I.ok.kind hk hn hm fin) hd
 ·rcases hk with hk | hk
  ·exact wpAny_Name (wpAny_loadName_cell I.ok.kind hk hc hcell fin) hd
  ·exact wpAny_Name (wpAny_loadName_free I.ok.kind hk hc hcell fin hcd) hd
theorem lV {i j pos}:PE X (.Constant (.int i) j pos) (tC (.int i)):=⟨fun _ _ _ H _ I h=>wpAny_Constant_int ⟨.int i,H,I.tok _,⟨_,rfl⟩,h⟩⟩
theorem pe_bl {b j pos}:PE X (.Constant (.bool b) j pos) (tC (.bl b)):=⟨fun _ _ _ H _ I h=>Constant_bool ⟨.bl b,H,I,rfl,h⟩⟩
theorem vv {j pos}:PE X (.Constant .none j pos) (tC .non):=⟨fun _ _ _ H _ I h=>Constant_none ⟨.non,H,I,rfl,h⟩⟩
def Gl (X:Cx) (x:Str):Prop:=X.env.kindOf x=some .globalImplicit
theorem mL {E:Value→Shared→Prop} {pins:List (Addr×Obj)} {s:Shared} {σ:St} {H:Hp} {x:Str} {u:Value} {pos:Pos} {Q:Value→Shared→Prop} (I:Inv X pins σ H s) (hg:Gl X x) (hm:X.mg x=some u) (h:Q u s)
 (hd:(x == ("__debug__":Str))=false:=by decide):wpAny (model X.prog X.w) X.A (eval (.Name x pos) X.env) Q E s :=
 Calls.Name_function_global I.ok.kind hg (Calls.loadGlobal_global (by rw [I.ok.glob]; exact I.mod.glob.keeps I.bk) hm h) hd
theorem d9 {E:Value→Shared→Prop} {pins:List (Addr×Obj)} {s:Shared} {σ:St} {H:Hp} {x:Str} {u:Value} {pos:Pos} {Q:Value→Shared→Prop} (I:Inv X pins σ H s) (hg:Gl X x) (hm:X.mg x=none) (hv:bootBuiltins x=some u) (h:Q u s)
 (hn:x ≠ "__name__":=by decide) (hd:(x == ("__debug__":Str))=false:=by decide):wpAny (model X.prog X.w) X.A (eval (.Name x pos) X.env) Q E s:=by
 obtain ⟨mb,h1,h2⟩:=I.mod.blt
 exact Calls.Name_function_global I.ok.kind hg (Calls.loadGlobal_builtin (by rw [I.ok.glob]; exact I.mod.glob.keeps I.bk) hm (by rw [I.ok.blt]; exact h1.keeps I.bk) ((h2 x hn).trans hv) h) hd
theorem rP {x:Str} {v:V} {u:Value} {pos:Pos} (hg:Gl X x) (hm:X.mg x=some u) (r:a8 v u) (hd:(x == ("__debug__":Str))=false:=by decide):PE X (.Name x pos) (tC v):=⟨fun _ _ _ H _ I h=>mL I hg hm ⟨v,H,I,r,h⟩ hd⟩
theorem ce {x:Str} {v:V} {u:Value} {pos:Pos} (hg:Gl X x) (hm:X.mg x=none) (hv:bootBuiltins x=some u) (r:a8 v u) (hn:x ≠ "__name__":=by decide) (hd:(x == ("__debug__":Str))=false:=by decide):PE X (.Name x pos) (tC v):=⟨fun _ _ _ H _ I h=>d9 I hg hm hv ⟨v,H,I,r,h⟩ hn hd⟩
variable {a b:Expr} {ta tb:TE} {pos:Pos}
def tB (t:TE):TT:=fun σ H Q=>t σ H fun x H1=>∃ c,x = .bl c∧Q c H1
theorem uP {e:Expr} {t:TE} (h:PE X e t) (he:∀ whole,isTrue e X.env whole=(do let v ← whole; standAt e.pos; holding [v] (truthy v)):=by intro _; rfl):PT X e (tB t):=by
 (try refine ⟨?_⟩); intro pins s σ H Q I hw
 refine isTrue_plain (thn (h pins s σ H _ I hw) fun v s1 ⟨x,H1,I1,r1,q1⟩=>?_) (he _)
 obtain ⟨d,rfl,q⟩:=q1
 cases r1
 exact wpAny_truthy_bool ⟨H1,I1,q⟩
variable {tA tB':TT} {rest:List Expr}
def tOr (t u:TT):TT:=fun σ H Q=>t σ H fun c H1=>if c=true then Q true H1 else u σ H1 Q
def tNot (t:TT):TT:=fun σ H Q=>t σ H fun c H1=>Q (!c) H1
theorem t_ (ha:PT X a tA):PW X (.BoolOp .Or [a] pos) tA:=by
 (try refine ⟨?_⟩); intro wh pins s σ H Q I h
 refine isTrue_or (thn (ha pins s σ H Q I h) fun c s1 e=>?_)
 cases c with
 | false=>exact isTrue_or_nil e
 | true=>exact e
theorem pw_or (ha:PT X a tA) (hb:PW X (.BoolOp .Or (b :: rest) pos) tB'):PW X (.BoolOp .Or (a :: b :: rest) pos) (tOr tA tB'):=by
 (try refine ⟨?_⟩); intro wh pins s σ H Q I h
 refine isTrue_or (thn (ha pins s σ H _ I h) fun c s1 ⟨H1,I1,q1⟩=>?_)
 cases c with
 | true=>exact ⟨H1,I1,q1⟩
 | false=>exact hb wh pins s1 σ H1 Q I1 q1
theorem vC (ha:PT X a tA):PT X (.UnaryOp .Not a pos) (tNot tA):=by
 (try refine ⟨?_⟩); intro pins s σ H Q I h
 exact isTrue_not (ha pins s σ H (fun c H1=>Q (!c) H1) I h)
def tAndV (ta tb:TE):TE:=fun σ H Q=>ta σ H fun x H1=>∃ c,x = .bl c∧if c=true then tb σ H1 Q else Q (.bl false) H1
def tNotV (ta:TE):TE:=fun σ H Q=>ta σ H fun x H1=>∃ c,x = .bl c∧Q (.bl (!c)) H1
theorem uK {op} {t:TE} (h:PE X a t):PE X (.BoolOp op [a] pos) t:=⟨fun pins s σ H Q I hw=>BoolOp_one (h pins s σ H Q I hw)⟩
theorem uk (ha:PE X a ta) (hb:PE X (.BoolOp .And (b :: rest) pos) tb):PE X (.BoolOp .And (a :: b :: rest) pos) (tAndV ta tb):=by
 (try refine ⟨?_⟩); intro pins s σ H Q I h
 refine BoolOp_and (thn (ha pins s σ H _ I h) fun v s1 ⟨x,H1,I1,r1,q1⟩=>?_)
 obtain ⟨c,rfl,q1⟩:=q1
 cases r1
 refine wpAny_truthy_bool ?_
 cases c with
 | true=>exact hb pins s1 σ H1 Q I1 q1
 | false=>exact ⟨.bl false,H1,I1,rfl,q1⟩
theorem vx (ha:PE X a ta):PE X (.UnaryOp .Not a pos) (tNotV ta):=by
 (try refine ⟨?_⟩); intro pins s σ H Q I h
 refine UnaryOp_ (thn (ha pins s σ H _ I h) fun v s1 ⟨x,H1,I1,r1,q1⟩=>?_)
 obtain ⟨c,rfl,q1⟩:=q1
 cases r1
 exact not_of (wpAny_truthy_bool ⟨.bl (!c),H1,I1,rfl,q1⟩)
def tIf (t:TT) (ta tb:TE):TE:=fun σ H Q=>t σ H fun c H1=>if c=true then ta σ H1 Q else tb σ H1 Q
theorem oE {c:Expr} (hc:PT X c tA) (ha:PE X a ta) (hb:PE X b tb):PE X (.IfExp c a b pos) (tIf tA ta tb):=by
 (try refine ⟨?_⟩); intro pins s σ H Q I h
 refine wpAny_IfExp (thn (hc pins s σ H _ I h) fun d s1 ⟨H1,I1,q1⟩=>?_)
 cases d with
 | true=>exact ha pins s1 σ H1 Q I1 q1
 | false=>exact hb pins s1 σ H1 Q I1 q1
end
def SqL (K:PySem.W.Frag) (H:Hp) (a:Addr) (xs:List V):Prop :=
 Rd H a (.lst xs) ∨
  ∃ (o:Obj) (its:Array Value) (n:Nat),K.lookup a=some o∧o.cls = .type "list" ∧ o.dict=none∧o.data = .seq its n∧its.size≤sizeLine∧aQ xs its.toList
def SqT (K:PySem.W.Frag) (H:Hp) (a:Addr) (xs:List V):Prop :=
 Rd H a (.tup xs) ∨
  ∃ (o:Obj) (its:Array Value) (n:Nat),K.lookup a=some o∧o.cls = .type "tuple" ∧ o.data = .seq its n∧its.size≤sizeLine∧aQ xs its.toList
def absV:Value→Option V
 | .none=>some .non
 | .bool b=>some (.bl b)
 | .int i _=>some (.int i)
 | .str x _=>some (.str x)
 | .bytes b _=>some (.byt b)
 | .float b _=>some (.flt b)
 | .ref a=>some (.ref a)
 | .type n=>some (.ty n)
 | _=>none
theorem a8.abs {x:V} {u:Value} (r:a8 x u):absV u=some x:=by
 cases x with
 | non=>cases r; rfl
 | bl _=>cases r; rfl
 | int _=>obtain ⟨t,rfl⟩:=r; rfl
 | str _=>obtain ⟨t,rfl⟩:=r; rfl
 | byt _=>obtain ⟨t,rfl⟩:=r; rfl
 | flt _=>obtain ⟨t,rfl⟩:=r; rfl
 | ref _=>cases r; rfl
 | ty _=>cases r; rfl
theorem a8.inj {x y:V} {u:Value} (r:a8 x u) (q:a8 y u):x=y:=Option.some.inj (r.abs.symm.trans q.abs)
theorem aQ.inj:∀ {xs ys:List V} {us:List Value},aQ xs us→aQ ys us→xs=ys
 | _,_,_,.nil,.nil=>rfl
 | _,_,_,.cons r t,.cons r' t'=>by rw [r.inj r',aQ.inj t t']
section
variable {X:Cx} {pins:List (Addr×Obj)} {σ:St} {H:Hp} {s:Shared} {a:Addr} {xs ys:List V}
theorem SqL.of {K:PySem.W.Frag} (h:H a=some (.lst xs)):SqL K H a xs:=.inl (.inl h)
theorem SqT.of {K:PySem.W.Frag} (h:H a=some (.tup xs)):SqT K H a xs:=.inl (.inl h)
theorem Inv.list (I:Inv X pins σ H s) (h:SqL X.K H a xs):∃ its:List Value,aQ xs its∧PlainL s.heap a its.toArray∧xs.length≤sizeLine:=by
 rcases h with h | ⟨o,its,n,hk,hc,hd,hs,hz,r⟩
 ·obtain ⟨z,its,n,r,e⟩:=h.ok I.hok
  exact ⟨its,r,⟨_,n,e,rfl,rfl,rfl⟩,z⟩
 ·refine ⟨its.toList,r,⟨o,n,I.kIn a o hk,hc,hd,by simpa using hs⟩,?_⟩
  have e:=r.length
  simp only [Array.length_toList] at e
  omega
theorem Inv.tuple (I:Inv X pins σ H s) (h:SqT X.K H a xs):∃ its:List Value,aQ xs its∧IsTup s.heap a its.toArray∧xs.length≤sizeLine:=by
 rcases h with h | ⟨o,its,n,hk,hc,hs,hz,r⟩
 ·obtain ⟨z,its,r,p⟩:=h.ok I.hok
  exact ⟨its,r,p,z⟩
 ·refine ⟨its.toList,r,⟨o,I.kIn a o hk,hc,n,by simpa using hs⟩,?_⟩
  have e:=r.length
  simp only [Array.length_toList] at e
  omega
theorem Inv.list_inj (I:Inv X pins σ H s) (h:SqL X.K H a xs) (h':SqL X.K H a ys):xs=ys:=by
 obtain ⟨its,r,⟨o,n,e,_,_,d⟩,_⟩:=I.list h
 obtain ⟨its',r',⟨o',n',e',_,_,d'⟩,_⟩:=I.list h'
 rw [e] at e'; cases e'
 rw [d] at d'
 injection d' with d1 _
 have:its=its':=by simpa using congrArg Array.toList d1
 subst this
 exact r.inj r'
theorem Inv.tuple_inj (I:Inv X pins σ H s) (h:SqT X.K H a xs) (h':SqT X.K H a ys):xs=ys:=by
 obtain ⟨its,r,⟨o,e,_,n,d⟩,_⟩:=I.tuple h
 obtain ⟨its',r',⟨o',e',_,n',d'⟩,_⟩:=I.tuple h'
 rw [e] at e'; cases e'
 rw [d] at d'
 injection d' with d1 _
 have:its=its':=by simpa using congrArg Array.toList d1
 subst this
 exact r.inj r'
end
abbrev Cx.wish (X:Cx) (E:Value→Shared→Prop):Cx:={ X with xe:=E }
abbrev Cx.nox (X:Cx):Cx:=X.wish fun _ _=>False
theorem Cx.Ok.wish {X:Cx} (ok:X.Ok) (E:Value→Shared→Prop):(X.wish E).Ok :=
 ⟨ok.mod,ok.kind,ok.glob,ok.blt,ok.above,ok.inj,ok.has,ok.cab,ok.hd,ok.frames,ok.stk,ok.exf,ok.bs,ok.bsz,ok.noex,ok.exfs,ok.funs,ok.frf,ok.tb⟩
theorem Cx.Ok.unwish {X:Cx} {E:Value→Shared→Prop} (ok:(X.wish E).Ok):X.Ok :=
 ⟨ok.mod,ok.kind,ok.glob,ok.blt,ok.above,ok.inj,ok.has,ok.cab,ok.hd,ok.frames,ok.stk,ok.exf,ok.bs,ok.bsz,ok.noex,ok.exfs,ok.funs,ok.frf,ok.tb⟩
section
variable {X:Cx} {pins:List (Addr×Obj)} {σ:St} {H:Hp} {s:Shared} {E:Value→Shared→Prop}
theorem Inv.wish (I:Inv X pins σ H s) (E:Value→Shared→Prop):Inv (X.wish E) pins σ H s:=⟨I.ok.wish E,I.os,I.bare,I.base,I.loc,I.cell,I.free,I.freeC,I.pin,I.hok,I.len⟩
theorem Inv.unwish (I:Inv (X.wish E) pins σ H s):Inv X pins σ H s:=⟨I.ok.unwish,I.os,I.bare,I.base,I.loc,I.cell,I.free,I.freeC,I.pin,I.hok,I.len⟩
theorem SP.unwish {D:Ends} {f:Flow} {s':Shared} (h:SP (X.wish E) pins D f s'):SP X pins D f s':=by
 cases f with
 | next=>obtain ⟨σ',H',I,q⟩:=h; exact ⟨σ',H',I.unwish,q⟩
 | brk=>obtain ⟨σ',H',I,q⟩:=h; exact ⟨σ',H',I.unwish,q⟩
 | cont=>obtain ⟨σ',H',I,q⟩:=h; exact ⟨σ',H',I.unwish,q⟩
 | ret u=>obtain ⟨v,σ',H',I,r,q⟩:=h; exact ⟨v,σ',H',I.unwish,r,q⟩
theorem PSs.nox {st:List Stmt} {t:TS} (h:PSs X.nox st t):PSs X st t:=⟨fun pins s σ H D I hw =>
 wpAny_mono (h pins s σ H D (I.wish _) hw) (fun _ _ q=>q.unwish) fun _ _ z=>False.elim z⟩
end
section
variable {X:Cx} {st:Stmt} {rest:List Stmt} {t u:TS} {e:Expr} {te:TE} {pos:Pos}
def tNext:TS:=fun D σ H=>D.nx σ H
def tSeq (t u:TS):TS:=fun D σ H=>t { D with nx:=u D } σ H
theorem sK:PSs X [] tNext:=⟨fun _ _ σ H _ I h=>wpAny_execs_nil ⟨σ,H,I,h⟩⟩
theorem qr (h1:PS X st t) (h2:PSs X rest u):PSs X (st :: rest) (tSeq t u):=by
 (try refine ⟨?_⟩); intro pins s σ H D I h
 refine wpAny_execs_cons (thn (h1 pins s σ H { D with nx:=u D } I h) fun f s1 q=>?_)
 cases f with
 | next =>
  obtain ⟨σ',H',I',q⟩:=q
  exact h2 pins s1 σ' H' D I' q
 | ret v=>exact q
 | brk=>exact q
 | cont=>exact q
theorem rV (h1:PS X st t):PSs X [st] t:=by
 (try refine ⟨?_⟩); intro pins s σ H D I h
 refine wpAny_execs_cons (thn (h1 pins s σ H D I h) fun f s1 q=>?_)
 cases f with
 | next=>exact wpAny_execs_nil q
 | ret v=>exact q
 | brk=>exact q
 | cont=>exact q
theorem Inv.quiet {pins:List (Addr×Obj)} {σ:St} {H:Hp} {s:Shared} (I:Inv X pins σ H s):interactive X.env=false:=by simp [interactive,I.ok.kind]
def tDrop (te:TE):TS:=fun D σ H=>te σ H fun _ H1=>D.nx σ H1
theorem jL (he:PE X e te) (hs:swapsWith e none pos.line X.env=pure false:=by rfl):PS X (.Expr e pos) (tDrop te):=by
 (try refine ⟨?_⟩); intro pins s σ H D I h
 exact wpAny_Expr_any (thn (he pins s σ H _ I h) fun v s1 ⟨x,H1,I1,r1,q1⟩=>⟨σ,H1,I1,q1⟩) I.quiet hs
def tRet (te:TE):TS:=fun D σ H=>te σ H D.rt
theorem qP (he:PE X e te):PS X (.Return (some e) pos) (tRet te):=by
 (try refine ⟨?_⟩); intro pins s σ H D I h
 exact wpAny_Return_some (thn (he pins s σ H _ I h) fun v s1 ⟨x,H1,I1,r1,q1⟩=>⟨x,σ,H1,I1,r1,q1⟩)
def tIfS (c:TT) (t u:TS):TS:=fun D σ H=>c σ H fun b H1=>if b=true then t D σ H1 else u D σ H1
theorem ps_if {c:Expr} {a b:List Stmt} {tc:TT} (hc:PT X c tc) (ha:PSs X a t) (hb:PSs X b u):PS X (.If c a b pos) (tIfS tc t u):=by
 (try refine ⟨?_⟩); intro pins s σ H D I h
 refine wpAny_If (thn (hc pins s σ H _ I h) fun d s1 ⟨H1,I1,q1⟩=>?_)
 cases d with
 | true=>exact ha pins s1 σ H1 D I1 q1
 | false=>exact hb pins s1 σ H1 D I1 q1
def we:TS:=fun _ _ _=>False
theorem oC:PS X st we:=⟨fun _ _ _ _ _ _ h=>h.elim⟩
end
abbrev TG:=V→St→Hp→(St→Hp→Prop)→Prop
abbrev TGs:=List V→St→Hp→(St→Hp→Prop)→Prop
structure PG (X:Cx) (target:Expr) (t:TG):Prop where
 go:∀ (pins:List (Addr×Obj)) (s:Shared) (σ:St) (H:Hp) (v:V) (u:Value) (Q:St→Hp→Prop),Inv X pins σ H s→a8 v u→t v σ H Q →
  wpAny (model X.prog X.w) X.A (assign target X.env u) (fun _ s'=>∃ σ' H',Inv X pins σ' H' s'∧Q σ' H') X.xe s
instance {X:Cx} {target:Expr} {t:TG}:CoeFun (PG X target t) fun _=>∀ (pins:List (Addr×Obj)) (s:Shared) (σ:St) (H:Hp) (v:V) (u:Value) (Q:St→Hp→Prop),Inv X pins σ H s→a8 v u→t v σ H Q →
 wpAny (model X.prog X.w) X.A (assign target X.env u) (fun _ s'=>∃ σ' H',Inv X pins σ' H' s'∧Q σ' H') X.xe s:=⟨fun h=>h.go⟩
structure PGs (X:Cx) (ts:List Expr) (t:TGs):Prop where
 go:∀ (pins:List (Addr×Obj)) (s:Shared) (σ:St) (H:Hp) (vs:List V) (us:List Value) (Q:St→Hp→Prop),Inv X pins σ H s→aQ vs us→t vs σ H Q →
  wpAny (model X.prog X.w) X.A (assignInOrder ((assignEach ts X.env).map (·.2)) us) (fun _ s'=>∃ σ' H',Inv X pins σ' H' s'∧Q σ' H') X.xe s
instance {X:Cx} {ts:List Expr} {t:TGs}:CoeFun (PGs X ts t) fun _=>∀ (pins:List (Addr×Obj)) (s:Shared) (σ:St) (H:Hp) (vs:List V) (us:List Value) (Q:St→Hp→Prop),Inv X pins σ H s→aQ vs us→t vs σ H Q →
 wpAny (model X.prog X.w) X.A (assignInOrder ((assignEach ts X.env).map (·.2)) us) (fun _ s'=>∃ σ' H',Inv X pins σ' H' s'∧Q σ' H') X.xe s:=⟨fun h=>h.go⟩
abbrev ql:=V→V→V→Hp→(Hp→Prop)→Prop
def PSet (X:Cx) (t:ql):Prop :=
 ∀ (pins:List (Addr×Obj)) (s:Shared) (σ:St) (H:Hp) (o i v:V) (ov iv u:Value) (Q:Hp→Prop),Inv X pins σ H s→a8 o ov→a8 i iv→a8 v u→t o i v H Q →
  wpAny (model X.prog X.w) X.A (setItem ov iv u) (fun _ s'=>∃ H',Inv X pins σ H' s'∧Q H') X.xe s
abbrev TIp:=V→V→Hp→VK→Prop
def PIp (X:Cx) (op:Operator) (t:TIp):Prop :=
 ∀ (pins:List (Addr×Obj)) (s:Shared) (σ:St) (H:Hp) (x y:V) (v u:Value) (Q:VK),Inv X pins σ H s→a8 x v→a8 y u→t x y H Q →
  wpAny (model X.prog X.w) X.A (inplaceOp op v u) (EP X pins σ Q) X.xe s
section
variable {X:Cx} {pos:Pos}
def i3 (i:Nat):TG:=fun v σ H Q=>Q (σ.set i (some v)) H
theorem bc {i:Nat} {x:Str} (hN:X.N.Nodup) (hi:X.N[i]? = some x) (hx:Loc X.env.scope x) (hf:X.fn x=true∨X.env.scope.names.lookup x=some .local:=by first | exact .inl rfl | exact .inr rfl | assumption):PG X (.Name x pos) (i3 i):=by
 (try refine ⟨?_⟩); intro pins s σ H v u Q I r h
 exact wpAny_assign_Name (fJ I hN hi hx r (fun s' I'=>⟨_,H,I',h⟩) hf)
def gNil:TGs:=fun vs σ H Q=>vs=[]∧Q σ H
def tX (t:TG) (u:TGs):TGs:=fun vs σ H Q=>∃ v r,vs=v :: r∧t v σ H fun σ' H'=>u r σ' H' Q
theorem jy:PGs X [] gNil:=by
 (try refine ⟨?_⟩); intro pins s σ H vs us Q I r h
 obtain ⟨e,h⟩:=h
 subst e
 cases r
 exact assignInOrder_nil ⟨σ,H,I,h⟩
theorem eI {e:Expr} {es:List Expr} {t:TG} {u:TGs} (h1:PG X e t) (h2:PGs X es u)
 (hs:(assignEach (e :: es) X.env).map (·.2)=assign e X.env :: (assignEach es X.env).map (·.2):=by rfl):PGs X (e :: es) (tX t u):=by
 (try refine ⟨?_⟩); intro pins s σ H vs us Q I r h
 obtain ⟨v,vr,e1,h⟩:=h
 subst e1
 cases r with
 | cons r rr =>
  rw [hs]
  refine assignInOrder_cons (thn (h1 pins s σ H _ _ _ I r h) fun _ s1 ⟨σ1,H1,I1,q1⟩=>?_)
  exact h2 pins s1 σ1 H1 _ _ Q I1 rr q1
def gTup (K:PySem.W.Frag) (n:Nat) (t:TGs):TG:=fun v σ H Q=>∃ a xs,v = .ref a∧SqT K H a xs∧xs.length=n∧t xs σ H Q
theorem lJ {es:List Expr} {k:Nat} {t:TGs} {n:Nat} (hc:X.calm=true) (h:PGs X es t)
 (hn:(assignEach es X.env).length=n:=by rfl) (hst:(assignEach es X.env).findIdx? (·.1)=none:=by rfl):PG X (.Tuple es k pos) (gTup X.K n t):=by
 (try refine ⟨?_⟩); intro pins s σ H v u Q I r hw
 obtain ⟨a,xs,e1,hq,hl,hw⟩:=hw
 subst e1
 cases r
 obtain ⟨its,rv,ht,hz⟩:=I.tuple hq
 refine assign_Tuple_tuple (I.ok.hd hc) ht (by simp [hn,← hl,rv.length]) hst fun h' hx=>?_
 have I1:Inv X pins σ H { s with heap:=h' }:=I.kept (t':=s.toks) fun b o e=>hx b o (Nat.ne_of_lt (Heap.lt_size e)) e
 exact h pins _ σ H xs _ Q I1 (by simpa using rv) hw
def gSub (to ti:TE) (t:ql):TG:=fun v σ H Q=>to σ H fun o H1=>ti σ H1 fun i H2=>t o i v H2 fun H3=>Q σ H3
theorem wI {o i:Expr} {to ti:TE} {t:ql} (ho:PE X o to) (hi:PE X i ti) (hs:PSet X t)
 (ha:∀ v,assign (.Subscript o i pos) X.env v=(do
  let ov ← holding [v] (eval o X.env)
  let iv ← holding [v,ov] (eval i X.env)
  standAt pos
  holding [v,ov,iv] (setItem ov iv v)
  release [v,ov,iv] []):=by intro _; rfl):PG X (.Subscript o i pos) (gSub to ti t):=by
 (try refine ⟨?_⟩); intro pins s σ H v u Q I r h
 rw [ha]
 refine wpAny_bind (wpAny_holding (thn (ho pins s σ H _ I h) fun ov s1 ⟨x,H1,I1,r1,q1⟩=>?_))
 refine wpAny_bind (wpAny_holding (thn (hi pins s1 σ H1 _ I1 q1) fun iv s2 ⟨y,H2,I2,r2,q2⟩=>?_))
 refine wpAny_bind (wpAny_standAt (wpAny_bind (wpAny_holding (thn (hs pins s2 σ H2 x y v ov iv u _ I2 r1 r2 r q2) fun _ s3 ⟨H3,I3,q3⟩=>?_))))
 exact wpAny_release ⟨σ,H3,I3,q3⟩
def q9 (te:TE) (g:TG):TS:=fun D σ H=>te σ H fun x H1=>g x σ H1 D.nx
theorem lz {tg e:Expr} {te:TE} {g:TG} (he:PE X e te) (hg:PG X tg g) (hs:swapsWithSole [tg] e pos.line X.env=pure false:=by rfl) (hw:swappedStores [tg] e X.env=pure none:=by rfl)
 (h1:(assignEach [tg] X.env).map (·.2)=[assign tg X.env]:=by rfl):PS X (.Assign [tg] e pos) (q9 te g):=by
 (try refine ⟨?_⟩); intro pins s σ H D I h
 refine wpAny_Assign_stores (thn (he pins s σ H _ I h) fun v s1 ⟨x,H1,I1,r1,q1⟩=>?_) hs hw
 rw [h1]
 exact thn (hg pins s1 σ H1 x v _ I1 r1 q1) fun _ s2 q=>q
theorem lR {i:Nat} {x:Str} {e:Expr} {te:TE} {pos':Pos} (hN:X.N.Nodup) (hi:X.N[i]? = some x) (hx:Loc X.env.scope x) (he:PE X e te) (hs:swapsWith e (some (.Name x pos')) pos.line X.env=pure false:=by rfl) (hf:X.fn x=true∨X.env.scope.names.lookup x=some .local:=by first | exact .inl rfl | exact .inr rfl | assumption) :
 PS X (.Assign [.Name x pos'] e pos) (q9 te (i3 i)):=by
 (try refine ⟨?_⟩); intro pins s σ H D I h
 refine wpAny_Assign_Name (thn (he pins s σ H _ I h) fun v s1 ⟨y,H1,I1,r1,q1⟩=>?_) hs
 exact fJ I1 hN hi hx r1 (fun s2 I2=>⟨_,H1,I2,q1⟩) hf
def tPar (i j:Nat) (ta:TA):TS:=fun D σ H=>ta σ H fun vs H1=>∃ v w,vs=[v,w]∧D.nx ((σ.set i (some v)).set j (some w)) H1
theorem vM {i j:Nat} {x y:Str} {a b:Expr} {ta:TA} {px py pt:Pos} {kt k2 pt2} (hc:X.calm=true) (hN:X.N.Nodup) (hi:X.N[i]? = some x) (hj:X.N[j]? = some y) (hij:i≠j)
 (hx:X.env.scope.names.lookup x=some .local) (hy:X.env.scope.names.lookup y=some .local) (ha:PA X [a,b] ta)
 (hw:swappedStores [.Tuple [.Name x px,.Name y py] kt pt] (.Tuple [a,b] k2 pt2) X.env=pure (some [x,y]))
 (hs:swapsWithSole [.Tuple [.Name x px,.Name y py] kt pt] (.Tuple [a,b] k2 pt2) pos.line X.env=pure false:=by rfl) :
 PS X (.Assign [.Tuple [.Name x px,.Name y py] kt pt] (.Tuple [a,b] k2 pt2) pos) (tPar i j ta):=by
 (try refine ⟨?_⟩); intro pins s σ H D I h
 rw [exec_Assign_arm]
 refine wpAny_bind (wpAny_standAt ?_)
 rw [hs]
 refine wpAny_bind (wpAny_pure ?_)
 rw [if_neg (by decide)]
 refine wpAny_bind (Tuple_ (thn (ha _ pins s σ H _ I h) fun us s1 ⟨vs,H1,I1,r1,q1⟩=>?_))
 obtain ⟨v,w,e1,q1⟩:=q1
 subst e1
 obtain ⟨u1,u2,rfl,rv,rw'⟩:∃ u1 u2,us=[u1,u2]∧a8 v u1∧a8 w u2:=by
  cases r1 with
  | cons p q =>
   cases q with
   | cons p' q' =>
    cases q'
    exact ⟨_,_,rfl,p,p'⟩
 refine wpAny_newObj_type ?_ (by show 2≤sizeLine; decide)
 have I2:Inv X pins σ H1 { s1 with heap:=s1.heap.push { cls:=.type "tuple",data:=.seq [u1,u2].toArray } }:=I1.kept (t':=s1.toks) fun b o e=>Heap.get?_push_of_some _ e
 rw [hw]
 refine wpAny_bind (wpAny_pure ?_)
 show wpAny (model X.prog X.w) X.A (do rule "assign.swapped-stores"; let items ← unpackItems (.ref s1.heap.objs.size) 2 none; assignInOrder [fun v=>bindName X.env y v,fun v=>bindName X.env x v] items.reverse; pure Flow.next) _ _ _
 refine wpAny_bind (wpAny_rule (wpAny_bind (unpackItems_tuple (items:=#[u1,u2]) (I.ok.hd hc) (IsTup.new s1.heap _) fun h' hx'=>?_)))
 have I3:=I2.kept (h':=h') (t':=s1.toks) fun b o e=>hx' b o (Nat.ne_of_lt (Heap.lt_size e)) e
 show wpAny _ _ (assignInOrder [fun v=>bindName X.env y v,fun v=>bindName X.env x v] [u2,u1] >>= fun _=>pure Flow.next) _ _ _
 refine wpAny_bind (assignInOrder_cons (wpAny_bindName (fJ I3 hN hj (.inl hy) rw' (fun s2 I4=>?_) (.inr hy))))
 refine assignInOrder_cons (wpAny_bindName (fJ I4 hN hi (.inl hx) rv (fun s3 I5=>assignInOrder_nil (wpAny_pure ?_)) (.inr hx)))
 rw [List.set_comm _ _ (Ne.symm hij)] at I5
 exact ⟨_,H1,I5,q1⟩
def tAugS (to ti te:TE) (tget:V→V→Hp→VK→Prop) (tip:TIp) (tset:ql):TS:=fun D σ H=>to σ H fun o H1=>ti σ H1 fun i H2=>tget o i H2 fun x H3=>te σ H3 fun y H4=>tip x y H4 fun z H5=>tset o i z H5 fun H6=>D.nx σ H6
def PGet (X:Cx) (t:V→V→Hp→VK→Prop):Prop :=
 ∀ (pins:List (Addr×Obj)) (s:Shared) (σ:St) (H:Hp) (o i:V) (ov iv:Value) (Q:VK),Inv X pins σ H s→a8 o ov→a8 i iv→t o i H Q →
  wpAny (model X.prog X.w) X.A (getItem ov iv) (EP X pins σ Q) X.xe s
theorem so {o i e:Expr} {to ti te:TE} {tget:V→V→Hp→VK→Prop} {tip:TIp} {tset:ql} {op:Operator} {tpos:Pos} (ho:PE X o to) (hi:PE X i ti) (hg:PGet X tget) (he:PE X e te) (hp:PIp X op tip) (hs:PSet X tset)
 (ha:∀ ov iv new,augStore i ov iv new=(do holding [new,ov,iv] (setItem ov iv new); release [new,ov,iv] []; pure .next):=by intros; rfl):PS X (.AugAssign (.Subscript o i tpos) op e pos) (tAugS to ti te tget tip tset):=by
 (try refine ⟨?_⟩); intro pins s σ H D I h
 refine wpAny_AugAssign_SubscriptAny (thn (ho pins s σ H _ I h) fun ov s1 ⟨x1,H1,I1,r1,q1⟩=>?_) ha
 refine thn (hi pins s1 σ H1 _ I1 q1) fun iv s2 ⟨x2,H2,I2,r2,q2⟩=>?_
 refine thn (hg pins s2 σ H2 x1 x2 ov iv _ I2 r1 r2 q2) fun old s3 ⟨x3,H3,I3,r3,q3⟩=>?_
 refine thn (he pins s3 σ H3 _ I3 q3) fun v s4 ⟨x4,H4,I4,r4,q4⟩=>?_
 refine thn (hp pins s4 σ H4 x3 x4 old v _ I4 r3 r4 q4) fun new s5 ⟨x5,H5,I5,r5,q5⟩=>?_
 exact thn (hs pins s5 σ H5 x1 x2 x5 ov iv new _ I5 r1 r2 r5 q5) fun _ s6 ⟨H6,I6,q6⟩=>⟨σ,H6,I6,q6⟩
def ipI (f:Int→Int→Int):TIp:=fun x y H Q=>∃ i j,x = .int i∧y = .int j∧Q (.int (f i j)) H
theorem ww:PIp X .Add (ipI fun i j=>i + j):=by
 (try refine ⟨?_⟩); intro pins s σ H x y v u Q I r1 r2 h
 obtain ⟨i,j,e1,e2,q⟩:=h
 subst e1; subst e2
 obtain ⟨t,rfl⟩:=r1
 obtain ⟨t',rfl⟩:=r2
 exact iadd_int ⟨.int _,H,I.tok _,⟨_,rfl⟩,q⟩
end
section
variable {X:Cx} {pos:Pos}
def uF (c:TT) (tb:TS):TS:=fun D σ H=>∃ W:Nat→St→Hp→Prop,(∃ m,W m σ H)∧∀ m σ H,W m σ H →
 c σ H fun b H1=>if b=true then ∃ N:St→Hp→Prop,(∀ σ' H',N σ' H'→∃ m',m'<m∧W m' σ' H')∧tb { D with nx:=N,ct:=N,bk:=D.nx } σ H1 else D.nx σ H1
theorem qA {c:Expr} {body:List Stmt} {tc:TT} {tb:TS} (hp:PassesOwn (model X.prog X.w) X.A X.env X.xe) (hc:PT X c tc) (hb:PSs X body tb):PS X (.While c body [] pos) (uF tc tb):=by
 (try refine ⟨?_⟩); intro pins s σ H D I h
 obtain ⟨W,⟨m0,w0⟩,turn⟩:=h
 refine wpAny_While (codeAny_whileLoop (fun n s'=>∃ σ' H',Inv X pins σ' H' s'∧W n σ' H') ?_ m0 ⟨σ,H,I,w0⟩)
 rintro n s1 ⟨σ1,H1,I1,w1⟩
 refine wpAny_passesOwn hp (thn (hc pins s1 σ1 H1 _ I1 (turn n σ1 H1 w1)) fun b s2 ⟨H2,I2,q2⟩=>?_)
 cases b with
 | true =>
  obtain ⟨N,hN,q2⟩:=q2
  rw [if_pos rfl]
  refine wpAny_passesOwn hp (thn (hb pins s2 σ1 H2 _ I2 q2) fun f s3 q3=>?_)
  cases f with
  | next =>
   obtain ⟨σ3,H3,I3,n3⟩:=q3
   obtain ⟨m',hm,w3⟩:=hN σ3 H3 n3
   exact ⟨m',hm,σ3,H3,I3,w3⟩
  | cont =>
   obtain ⟨σ3,H3,I3,n3⟩:=q3
   obtain ⟨m',hm,w3⟩:=hN σ3 H3 n3
   exact ⟨m',hm,σ3,H3,I3,w3⟩
  | brk=>exact q3
  | ret v=>exact q3
 | false =>
  rw [if_neg Bool.false_ne_true]
  exact wpAny_execs_nil ⟨σ1,H2,I2,q2⟩
end
structure It where
 go:Nat→Hp→Prop
 yld:Nat→Hp→V→Hp→Prop
 stop:Nat→Hp→Prop
def jP (X:Cx) (pins:List (Addr×Obj)) (H:Hp) (b:Addr):Prop :=
 H b=none∧b≠X.env.locals∧b ∉ X.fs∧(b∈X.ex∨X.s₀.heap.objs.size≤b)∧(∀ x c,X.env.cells.lookup x=some c→c≠b)∧∀ p∈X.pn++pins,p.1≠b
theorem Inv.fpOk {X:Cx} {pins:List (Addr×Obj)} {σ:St} {H H':Hp} {s:Shared} {b:Addr} (I:Inv X pins σ H s) (hb:s.heap.objs.size≤b) (hn:H' b=none):jP X pins H' b:=by
 refine ⟨hn,Nat.ne_of_gt (Nat.lt_of_lt_of_le I.lt hb),I.nofs hb,.inr (Nat.le_trans I.sz hb),fun x c e z=>?_,fun p hp z=>?_⟩
 ·obtain ⟨v,q⟩:=I.cell x c e
  exact absurd (Nat.lt_of_lt_of_le q.lt (by rw [z]; exact hb)) (Nat.lt_irrefl _)
 ·exact absurd (Nat.lt_of_lt_of_le (Heap.lt_size (I.pin p hp).1) (by rw [z]; exact hb)) (Nat.lt_irrefl _)
structure Turn (P:Program) (w:World) (K:PySem.W.Frag) (tg:Expr) (J:It) (fp:List Addr) (it:Addr) (tn:Nat→Heap→Prop):Prop where
 mem:it∈fp
 obj:∀ i h,tn i h→∀ b∈fp,∃ o,h.get? b=some o∧∀ v,o.data≠.cell v
 keep:∀ i h h',tn i h→(∀ b∈fp,∀ o,h.get? b=some o→h'.get? b=some o)→tn i h'
 item:∀ (X:Cx),X.prog=P→X.w=w→X.K=K→X.calm=true→∀ (i:Nat) (pins:List (Addr×Obj)) (s:Shared) (σ:St) (H:Hp) (E:Value→Shared→Prop),Inv X pins σ H s→(∀ b∈fp,jP X pins H b)→tn i s.heap→J.go i H →
  wpAny (model P w) X.A (pyNext (.ref it)) (fun r s1=>∃ u,r=some u ∧
   wpAny (model P w) X.A (letOwnedTupleGo tg (.ref it) u) (fun _ s2=>∃ x H',Inv X pins σ H' s2∧a8 x u∧J.yld i H x H'∧tn (i + 1) s2.heap∧∀ b∈fp,H' b=none) E s1) E s
 done:∀ (X:Cx),X.prog=P→X.w=w→X.K=K→X.calm=true→∀ (i:Nat) (pins:List (Addr×Obj)) (s:Shared) (σ:St) (H:Hp) (E:Value→Shared→Prop),Inv X pins σ H s→(∀ b∈fp,jP X pins H b)→tn i s.heap→J.stop i H →
  wpAny (model P w) X.A (pyNext (.ref it)) (fun r s1=>r=none∧Inv X pins σ H s1) E s
 self:∀ (A:Around) (i:Nat) (s:Shared) (Q:Value→Shared→Prop) (E:Value→Shared→Prop),tn i s.heap→Q (.ref it) s→wpAny (model P w) A (pyIter (.ref it)) Q E s
abbrev TI:=St→Hp→(It→Hp→Prop)→Prop
def PIE (X:Cx) (pins:List (Addr×Obj)) (σ:St) (tg:Expr) (R:It→Hp→Prop) (itv:Value) (s2:Shared):Prop :=
 ∃ (it:Addr) (fp:List Addr) (tn:Nat→Heap→Prop) (J:It) (H':Hp),itv = .ref it∧Inv X pins σ H' s2∧Turn X.prog X.w X.K tg J fp it tn∧tn 0 s2.heap∧(∀ b∈fp,jP X pins H' b)∧R J H'
structure PI (X:Cx) (tg iter:Expr) (wi:TI):Prop where
 go:∀ (pins:List (Addr×Obj)) (s:Shared) (σ:St) (H:Hp) (R:It→Hp→Prop),Inv X pins σ H s→wi σ H R →
  wpAny (model X.prog X.w) X.A (eval iter X.env) (fun v s1=>wpAny (model X.prog X.w) X.A (pyIter v) (PIE X pins σ tg R) X.xe s1) X.xe s
instance {X:Cx} {tg iter:Expr} {wi:TI}:CoeFun (PI X tg iter wi) fun _=>∀ (pins:List (Addr×Obj)) (s:Shared) (σ:St) (H:Hp) (R:It→Hp→Prop),Inv X pins σ H s→wi σ H R →
 wpAny (model X.prog X.w) X.A (eval iter X.env) (fun v s1=>wpAny (model X.prog X.w) X.A (pyIter v) (PIE X pins σ tg R) X.xe s1) X.xe s:=⟨fun h=>h.go⟩
theorem my {M:Model} {A:Around} {E:Value→Shared→Prop} {s:Shared} {tg:Expr} {it:Addr} {u:Value} {o:Obj} {n:String} {vs:Array Value} {Q:Unit→Shared→Prop} (ho:s.heap.get? it=some o) (hc:o.cls = .type n) (hd:o.data = .fields vs)
 (hn : ["enumerate","zip","dict_itemiterator","dict_reverseitemiterator","odict_iterator","itertools.zip_longest","itertools.pairwise"].contains n=false) (hQ:Q () s):wpAny M A (letOwnedTupleGo tg (.ref it) u) Q E s:=by
 unfold letOwnedTupleGo
 cases tg <;> first
  | exact wpAny_pure hQ
  | (cases u <;> first
   | exact wpAny_pure hQ
   | (refine wpAny_bind (wpAny_load ho ?_)
      rw [hc,hd]
      show wpAny M A (if (["enumerate","zip","dict_itemiterator","dict_reverseitemiterator","odict_iterator","itertools.zip_longest","itertools.pairwise"].contains n&&vs[0]? == some (rawInt _))=true then _ else _) Q E s
      rw [if_neg (by intro h; rw [hn,Bool.false_and] at h; cases h)]
      exact wpAny_pure hQ))
def Itl (K:PySem.W.Frag) (a:Addr):It :=
 ⟨fun i H=>∃ xs x,SqL K H a xs∧xs[i]? = some x,fun i H x H'=>H'=H∧∀ xs,SqL K H a xs→xs[i]? = some x,fun i H=>∃ xs,SqL K H a xs∧xs.length≤i⟩
def Itt (K:PySem.W.Frag) (a:Addr):It :=
 ⟨fun i H=>∃ xs x,SqT K H a xs∧xs[i]? = some x,fun i H x H'=>H'=H∧∀ xs,SqT K H a xs→xs[i]? = some x,fun i H=>∃ xs,SqT K H a xs∧xs.length≤i⟩
def Itr (lo:Int) (n:Nat):It:=⟨fun i _=>i<n,fun i H x H'=>H'=H∧x = .int (lo + i),fun i _=>n≤i⟩
theorem nS {P:Program} {w:World} {K:PySem.W.Frag} {tg:Expr} (a it:Addr):Turn P w K tg (Itl K a) [it] it (fun i h=>h.IsListIter it a i) where
 mem:=by simp
 obj:=fun i h st b hb=>by
  have e:b=it:=by simpa using hb
  subst e
  obtain ⟨o,e,c,d⟩:=st
  exact ⟨o,e,fun v z=>by rw [d] at z; cases z⟩
 keep:=fun i h h' st k=>st.at fun o e=>k it (by simp) o e
 item:=by
  intro X hP hw hK hc i pins s σ H E I hf st hg
  subst hP hw hK
  obtain ⟨xs,x,hq,hx⟩:=hg
  obtain ⟨its,rv,p,hz⟩:=I.list hq
  obtain ⟨u,hu,ru⟩:=rv.get hx
  obtain ⟨f0,f1,f2,f3,f4,f5⟩:=hf it (by simp)
  refine wpAny_pyNext_list_item st p.isList (x:=u) (by simpa using hu) fun h' st' sb=>?_
  have I1:Inv X pins σ H { s with heap:=h' }:=I.turned (t':=s.toks) (fun b o hb e=>(sb.2 b hb).trans e) f0 f1 f3 f4 f5
  obtain ⟨o,e,c,d⟩:=id st'
  exact ⟨u,rfl,my (s:={ s with heap:=h' }) e c d (by decide) ⟨x,H,I1,ru,⟨rfl,fun ys hy=>by rw [I.list_inj hy hq]; exact hx⟩,st',fun b hb=>(hf b hb).1⟩⟩
 done:=by
  intro X hP hw hK hc i pins s σ H E I hf st hg
  subst hP hw hK
  obtain ⟨xs,hq,hx⟩:=hg
  obtain ⟨its,rv,p,hz⟩:=I.list hq
  obtain ⟨f0,f1,f2,f3,f4,f5⟩:=hf it (by simp)
  have hl:=rv.length
  exact wpAny_pyNext_list_end (I.ok.hd hc) st p.isList (by simp; omega) fun h' eb=>⟨rfl,I.turned (t':=s.toks) (fun b o hb e=>eb b o hb e) f0 f1 f3 f4 f5⟩
 self:=fun _ _ _ _ _ st h=>wpAny_pyIter_listiter st h
theorem lc {P:Program} {w:World} {K:PySem.W.Frag} {tg:Expr} (a it:Addr):Turn P w K tg (Itt K a) [it] it (fun i h=>h.IsTupleIter it a i) where
 mem:=by simp
 obj:=fun i h st b hb=>by
  have e:b=it:=by simpa using hb
  subst e
  obtain ⟨o,e,c,d⟩:=st
  exact ⟨o,e,fun v z=>by rw [d] at z; cases z⟩
 keep:=fun i h h' st k=>st.at fun o e=>k it (by simp) o e
 item:=by
  intro X hP hw hK hc i pins s σ H E I hf st hg
  subst hP hw hK
  obtain ⟨xs,x,hq,hx⟩:=hg
  obtain ⟨its,rv,p,hz⟩:=I.tuple hq
  obtain ⟨u,hu,ru⟩:=rv.get hx
  obtain ⟨f0,f1,f2,f3,f4,f5⟩:=hf it (by simp)
  refine wpAny_pyNext_tuple_item st (show s.heap.IsTuple a its.toArray from p) (x:=u) (by simpa using hu) fun h' st' sb=>?_
  have I1:Inv X pins σ H { s with heap:=h' }:=I.turned (t':=s.toks) (fun b o hb e=>(sb.2 b hb).trans e) f0 f1 f3 f4 f5
  obtain ⟨o,e,c,d⟩:=id st'
  exact ⟨u,rfl,my (s:={ s with heap:=h' }) e c d (by decide) ⟨x,H,I1,ru,⟨rfl,fun ys hy=>by rw [I.tuple_inj hy hq]; exact hx⟩,st',fun b hb=>(hf b hb).1⟩⟩
 done:=by
  intro X hP hw hK hc i pins s σ H E I hf st hg
  subst hP hw hK
  obtain ⟨xs,hq,hx⟩:=hg
  obtain ⟨its,rv,p,hz⟩:=I.tuple hq
  obtain ⟨f0,f1,f2,f3,f4,f5⟩:=hf it (by simp)
  have hl:=rv.length
  exact wpAny_pyNext_tuple_end (I.ok.hd hc) st (show s.heap.IsTuple a its.toArray from p) (by simp; omega) fun h' eb=>⟨rfl,I.turned (t':=s.toks) (fun b o hb e=>eb b o hb e) f0 f1 f3 f4 f5⟩
 self:=fun _ _ _ _ _ st h=>wpAny_pyIter_tupleiter st h
theorem ld {P:Program} {w:World} {K:PySem.W.Frag} {tg:Expr} (it:Addr) (lo:Int) (n:Nat):Turn P w K tg (Itr lo n) [it] it (fun i h=>IsRangeIter h it (lo + (i:Nat) * 1) ((n:Int) - (i:Nat)) 1) where
 mem:=by simp
 obj:=fun i h st b hb=>by
  have e:b=it:=by simpa using hb
  subst e
  exact ⟨_,st,fun v z=>by
   have z':Data.fields _=Data.cell v:=z
   cases z'⟩
 keep:=fun i h h' st k=>k it (by simp) _ st
 item:=by
  intro X hP hw hK hc i pins s σ H E I hf st hg
  subst hP hw hK
  obtain ⟨f0,f1,f2,f3,f4,f5⟩:=hf it (by simp)
  have W:=Walks.range (prog:=X.prog) (w:=X.w) (I.ok.hd hc) it lo 1 n
  refine W.item i s _ _ hg st fun v h' tk hv st' kk=>?_
  obtain ⟨t,rfl⟩:=hv
  have I1:Inv X pins σ H { s with heap:=h',toks:=tk }:=I.turned (fun b o hb e=>kk b o (by simpa using hb) e) f0 f1 f3 f4 f5
  refine ⟨_,rfl,my (s:={ s with heap:=h',toks:=tk }) (n:="range_iterator") st' rfl rfl (by decide) ⟨.int (lo + i),H,I1,⟨t,?_⟩,⟨rfl,rfl⟩,st',fun b hb=>(hf b hb).1⟩⟩
  rw [Int.mul_one]
 done:=by
  intro X hP hw hK hc i pins s σ H E I hf st hg
  subst hP hw hK
  obtain ⟨f0,f1,f2,f3,f4,f5⟩:=hf it (by simp)
  exact wpAny_pyNext_range_end (I.ok.hd hc) st (by have:n≤i:=hg; omega) fun h' eb=>⟨rfl,I.turned (t':=s.toks) (fun b o hb e=>eb b o hb e) f0 f1 f3 f4 f5⟩
 self:=fun _ _ _ _ _ st h=>wpAny_pyIter_rangeiter st h
section
variable {X:Cx} {tg:Expr}
def iList (K:PySem.W.Frag) (tl:TE):TI:=fun σ H R=>tl σ H fun x H1=>∃ a,x = .ref a∧(∃ xs,SqL K H1 a xs)∧R (Itl K a) H1
def iTup (K:PySem.W.Frag) (tl:TE):TI:=fun σ H R=>tl σ H fun x H1=>∃ a,x = .ref a∧(∃ xs,SqT K H1 a xs)∧R (Itt K a) H1
theorem sL {l:Expr} {tl:TE} (hl:PE X l tl):PI X tg l (iList X.K tl):=by
 (try refine ⟨?_⟩); intro pins s σ H R I h
 refine thn (hl pins s σ H _ I h) fun v s1 ⟨x,H1,I1,r1,q1⟩=>?_
 obtain ⟨a,e,⟨xs,hq⟩,q⟩:=q1
 subst e
 cases r1
 obtain ⟨its,rv,p,hz⟩:=I1.list hq
 refine wpAny_pyIter_list p.isList ?_
 refine ⟨s1.heap.objs.size,[s1.heap.objs.size],_,_,H1,rfl,I1.kept (t':=s1.toks) fun b o e=>Heap.get?_push_of_some _ e,nS a _,⟨_,Heap.get?_push_size _ rfl,rfl,rfl⟩,fun b hb=>?_,q⟩
 have e:b=s1.heap.objs.size:=by simpa using hb
 subst e
 exact I1.fpOk (Nat.le_refl _) (I1.hok.fresh (Nat.le_refl _))
theorem uV {l:Expr} {tl:TE} (hl:PE X l tl):PI X tg l (iTup X.K tl):=by
 (try refine ⟨?_⟩); intro pins s σ H R I h
 refine thn (hl pins s σ H _ I h) fun v s1 ⟨x,H1,I1,r1,q1⟩=>?_
 obtain ⟨a,e,⟨xs,hq⟩,q⟩:=q1
 subst e
 cases r1
 obtain ⟨its,rv,p,hz⟩:=I1.tuple hq
 refine wpAny_pyIter_tuple (show s1.heap.IsTuple a its.toArray from p) ?_
 refine ⟨s1.heap.objs.size,[s1.heap.objs.size],_,_,H1,rfl,I1.kept (t':=s1.toks) fun b o e=>Heap.get?_push_of_some _ e,lc a _,⟨_,Heap.get?_push_size _ rfl,rfl,rfl⟩,fun b hb=>?_,q⟩
 have e:b=s1.heap.objs.size:=by simpa using hb
 subst e
 exact I1.fpOk (Nat.le_refl _) (I1.hok.fresh (Nat.le_refl _))
theorem jV {pins:List (Addr×Obj)} {σ:St} {H:Hp} {s:Shared} {R:It→Hp→Prop} {E:Value→Shared→Prop} {lo hi:Int} {t u v:Tok} {tk:Nat} (I:Inv X pins σ H s) (h1 : -(2 ^ 62)≤lo) (h2:lo<2 ^ 62) (h3 : -(2 ^ 62)≤hi) (h4:hi<2 ^ 62)
 (q:R (Itr lo (hi - lo).toNat) H):wpAny (model X.prog X.w) X.A (pyIter (.ref s.heap.objs.size)) (PIE X pins σ tg R) E { s with heap:=s.heap.push { cls:=.type "range",data:=.fields #[.int lo t,.int hi u,.int 1 v] },toks:=tk }:=by
 refine wpAny_pyIter_range (IsRange.new ..) (small_one h1 h2 h3 h4) ?_
 have I1:Inv X pins σ H { s with heap:=s.heap.push { cls:=.type "range",data:=.fields #[.int lo t,.int hi u,.int 1 v] },toks:=tk }:=I.kept fun b o e=>Heap.get?_push_of_some _ e
 refine ⟨(s.heap.push { cls:=.type "range",data:=.fields #[.int lo t,.int hi u,.int 1 v] }).objs.size,[(s.heap.push { cls:=.type "range",data:=.fields #[.int lo t,.int hi u,.int 1 v] }).objs.size],_,_,H,rfl,
  I1.kept (t':=tk) fun b o e=>Heap.get?_push_of_some _ e,ld _ lo (hi - lo).toNat,?_,fun b hb=>?_,q⟩
 ·have e1:lo + ((0:Nat):Int) * 1=lo:=by simp
  have e2:(((hi - lo).toNat:Nat):Int) - ((0:Nat):Int)=Builtin.Range.rangeSize lo hi 1:=by rw [rangeSize_one]; split <;> omega
  show IsRangeIter _ _ (lo + ((0:Nat):Int) * 1) ((((hi - lo).toNat:Nat):Int) - ((0:Nat):Int)) 1
  rw [e1,e2]
  exact Heap.get?_push_size _ rfl
 ·have e:b=(s.heap.push { cls:=.type "range",data:=.fields #[.int lo t,.int hi u,.int 1 v] }).objs.size:=by simpa using hb
  subst e
  exact I1.fpOk (Nat.le_refl _) (I1.hok.fresh (Nat.le_refl _))
def iRng1 (ta:TA):TI:=fun σ H R=>ta σ H fun vs H1=>∃ j:Int,vs=[.int j]∧-(2 ^ 62)≤j∧j<2 ^ 62∧R (Itr 0 j.toNat) H1
def iRng2 (ta:TA):TI:=fun σ H R=>ta σ H fun vs H1=>∃ i j:Int,vs=[.int i,.int j]∧(-(2 ^ 62)≤i∧i<2 ^ 62∧-(2 ^ 62)≤j∧j<2 ^ 62)∧R (Itr i (j - i).toNat) H1
theorem nH {a:Expr} {ta:TA} {p pos:Pos} (hg:Gl X "range") (hm:X.mg "range" = none) (ha:PA X [a] ta) (hs:starEach [a] X.env=[(false,eval a X.env)]:=by rfl):PI X tg (.Call (.Name "range" p) [a] [] pos) (iRng1 ta):=by
 (try refine ⟨?_⟩); intro pins s σ H R I h
 refine Call_ (d9 I hg hm boot_range (PyProof.Rows.callWith_type1 (thn (ha pos pins s σ H _ I h) fun us s1 ⟨vs,H1,I1,r1,q1⟩=>?_) hs rfl))
 obtain ⟨j,e,q1,q2,q⟩:=q1
 subst e
 cases r1 with
 | cons r rr =>
  cases rr
  obtain ⟨t,rfl⟩:=r
  exact call_range_1 (jV I1 (by omega) (by omega) q1 q2 (by simpa using q))
theorem nK {a b:Expr} {ta:TA} {p pos:Pos} (hg:Gl X "range") (hm:X.mg "range" = none) (ha:PA X [a,b] ta) (hs:starEach [a,b] X.env=[(false,eval a X.env),(false,eval b X.env)]:=by rfl) (hs2:starEach [b] X.env=[(false,eval b X.env)]:=by rfl) :
 PI X tg (.Call (.Name "range" p) [a,b] [] pos) (iRng2 ta):=by
 (try refine ⟨?_⟩); intro pins s σ H R I h
 refine Call_ (d9 I hg hm boot_range (PyProof.Rows.callWith_type1 (thn (ha pos pins s σ H _ I h) fun us s1 ⟨vs,H1,I1,r1,q1⟩=>?_) (by rw [hs,hs2]) (by rw [hs2]; rfl)))
 obtain ⟨i,j,e,⟨q1,q2,q3,q4⟩,q⟩:=q1
 subst e
 cases r1 with
 | cons r rr =>
  cases rr with
  | cons r' rr =>
   cases rr
   obtain ⟨t,rfl⟩:=r
   obtain ⟨t',rfl⟩:=r'
   exact call_range_2 (jV I1 q1 q2 q3 q4 q)
def tFor (wi:TI) (g:TG) (tb:TS):TS:=fun D σ H=>wi σ H fun J H1=>∃ W:Nat→Nat→St→Hp→Prop,(∃ m,W 0 m σ H1)∧∀ i m σ H,W i m σ H →
 (J.stop i H∧D.nx σ H)∨(J.go i H∧∃ N:St→Hp→Prop,(∀ σ' H',N σ' H'→∃ m',m'<m∧W (i + 1) m' σ' H')∧∀ x H',J.yld i H x H'→g x σ H' fun σ2 H2=>tb { D with nx:=N,ct:=N,bk:=D.nx } σ2 H2)
def ij (fp:List Addr) (h:Heap):List (Addr×Obj):=fp.filterMap fun b=>(h.get? b).map fun o=>(b,o)
theorem cE {fp:List Addr} {h:Heap} {b:Addr} {o:Obj} (hb:b∈fp) (e:h.get? b=some o):(b,o)∈ij fp h:=List.mem_filterMap.mpr ⟨b,hb,by rw [e]; rfl⟩
theorem i6 {fp:List Addr} {h:Heap} {p:Addr×Obj} (hp:p∈ij fp h):p.1∈fp∧h.get? p.1=some p.2:=by
 obtain ⟨b,hb,e⟩:=List.mem_filterMap.mp hp
 cases q:h.get? b with
 | none=>rw [q] at e; cases e
 | some o =>
  rw [q] at e
  have e':(b,o)=p:=Option.some.inj e
  subst e'
  exact ⟨hb,q⟩
theorem Inv.pinned {pins:List (Addr×Obj)} {σ:St} {H:Hp} {s:Shared} {fp:List Addr} (I:Inv X pins σ H s) (hf:∀ b∈fp,jP X pins H b) (ho:∀ b∈fp,∃ o,s.heap.get? b=some o∧∀ v,o.data≠.cell v):Inv X (pins++ij fp s.heap) σ H s :=
 I.pins_of fun p hp=>(List.mem_append.mp hp).elim (fun z=>I.pin p (List.mem_append_right _ z)) fun z=>by
  obtain ⟨hb,e⟩:=i6 z
  obtain ⟨f0,f1,f2,_⟩:=hf p.1 hb
  obtain ⟨o,e',d⟩:=ho p.1 hb
  rw [e] at e'; cases e'
  exact ⟨e,f0,f1,f2,d⟩
theorem Inv.unpinned {pins pl:List (Addr×Obj)} {σ:St} {H:Hp} {s:Shared} (I:Inv X (pins++pl) σ H s):Inv X pins σ H s:=I.pins_of fun p hp=>I.pin p (List.mem_append_right _ (List.mem_append_left _ hp))
theorem wJ {iter:Expr} {body:List Stmt} {wi:TI} {g:TG} {tb:TS} {pos:Pos} (hp:PassesOwn (model X.prog X.w) X.A X.env X.xe) (hc:X.calm=true) (hi:PI X tg iter wi) (hg:PG X tg g) (hb:PSs X body tb)
 (hs:∀ x,foldedSetIterable iter X.env x=pure x:=by intro _; rfl):PS X (.For tg iter body [] pos) (tFor wi g tb):=by
 (try refine ⟨?_⟩); intro pins s σ H D I h
 refine wpAny_For (thn (hi pins s σ H _ I h) fun v s1 h1=>thn h1 fun itv s2 h2=>?_) hs
 obtain ⟨it,fp,tn,J,H2,e,I2,T,st2,f2,W,⟨m0,w0⟩,turn⟩:=h2
 subst e
 -- what stays true of the iterator's objects through the loop
 have stat:∀ {H':Hp},(∀ b∈fp,H' b=none)→∀ b∈fp,jP X pins H' b:=fun hn b hb=>⟨hn b hb,(f2 b hb).2⟩
 refine codeAny_forLoop_any (fun n s'=>∃ i σ' H',Inv X pins σ' H' s'∧tn i s'.heap∧(∀ b∈fp,H' b=none)∧W i n σ' H') ?_ m0 ⟨0,σ,H2,I2,st2,fun b hb=>(f2 b hb).1,w0⟩
 rintro n s3 ⟨i,σ3,H3,I3,st3,fr3,w3⟩
 rcases turn i n σ3 H3 w3 with ⟨stop,qn⟩ | ⟨go,N,hN,step⟩
 ·refine wpAny_passesOwn hp (thn (T.done X rfl rfl rfl hc i pins s3 σ3 H3 X.xe I3 (stat fr3) st3 stop) fun r s4 ⟨hr,I4⟩=>?_)
  subst hr
  exact wpAny_execs_nil ⟨σ3,H3,I4,qn⟩
 ·refine wpAny_passesOwn hp (thn (T.item X rfl rfl rfl hc i pins s3 σ3 H3 X.xe I3 (stat fr3) st3 go) fun r s4 ⟨u,hr,h4⟩=>?_)
  subst hr
  refine wpAny_passesOwn hp (thn h4 fun _ s5 ⟨x,H5,I5,r5,y5,st5,fr5⟩=>?_)
  have I5':=I5.pinned (stat fr5) (T.obj _ _ st5)
  refine wpAny_passesOwn hp (thn (hg _ s5 σ3 H5 x u _ I5' r5 (step x H5 y5)) fun _ s6 ⟨σ6,H6,I6,q6⟩=>?_)
  refine wpAny_passesOwn hp (thn (hb _ s6 σ6 H6 _ I6 q6) fun f s7 q7=>?_)
  have again:∀ {σ7:St} {H7:Hp},Inv X (pins++ij fp s5.heap) σ7 H7 s7→N σ7 H7→∃ m,m<n∧∃ i σ' H',Inv X pins σ' H' s7∧tn i s7.heap∧(∀ b∈fp,H' b=none)∧W i m σ' H':=fun {σ7 H7} I7 n7=>by
   obtain ⟨m',hm,w7⟩:=hN σ7 H7 n7
   refine ⟨m',hm,i + 1,σ7,H7,I7.unpinned,T.keep _ _ _ st5 fun b hb o e=>(I7.pin (b,o) (List.mem_append_right _ (List.mem_append_right _ (cE hb e)))).1,fun b hb=>?_,w7⟩
   obtain ⟨o,e,d⟩:=T.obj _ _ st5 b hb
   exact (I7.pin (b,o) (List.mem_append_right _ (List.mem_append_right _ (cE hb e)))).2.1
  cases f with
  | next=>obtain ⟨σ7,H7,I7,n7⟩:=q7; exact again I7 n7
  | cont=>obtain ⟨σ7,H7,I7,n7⟩:=q7; exact again I7 n7
  | brk=>obtain ⟨σ7,H7,I7,q7⟩:=q7; exact ⟨σ7,H7,I7.unpinned,q7⟩
  | ret v=>obtain ⟨x7,σ7,H7,I7,r7,q7⟩:=q7; exact ⟨x7,σ7,H7,I7.unpinned,r7,q7⟩
end
abbrev R2:=V→V→Hp→VK→Prop
def OpR (X:Cx) (f:Value→Value→Sem Value) (r:R2):Prop :=
 ∀ (pins:List (Addr×Obj)) (s:Shared) (σ:St) (H:Hp) (x y:V) (v u:Value) (Q:VK),Inv X pins σ H s→a8 x v→a8 y u→r x y H Q →
  wpAny (model X.prog X.w) X.A (f v u) (EP X pins σ Q) X.xe s
def UnR (X:Cx) (f:Value→Sem Value) (r:V→Hp→VK→Prop):Prop :=
 ∀ (pins:List (Addr×Obj)) (s:Shared) (σ:St) (H:Hp) (x:V) (v:Value) (Q:VK),Inv X pins σ H s→a8 x v→r x H Q →
  wpAny (model X.prog X.w) X.A (f v) (EP X pins σ Q) X.xe s
def cD (X:Cx) (f:Value) (r:List V→Hp→VK→Prop):Prop :=
 ∀ (pins:List (Addr×Obj)) (s:Shared) (σ:St) (H:Hp) (xs:List V) (us:List Value) (Q:VK),Inv X pins σ H s→aQ xs us→r xs H Q →
  wpAny (model X.prog X.w) X.A (call f us) (EP X pins σ Q) X.xe s
def TruR (X:Cx) (r:V→Hp→(Bool→Hp→Prop)→Prop):Prop :=
 ∀ (pins:List (Addr×Obj)) (s:Shared) (σ:St) (H:Hp) (x:V) (v:Value) (Q:Bool→Hp→Prop),Inv X pins σ H s→a8 x v→r x H Q →
  wpAny (model X.prog X.w) X.A (truthy v) (TP X pins σ Q) X.xe s
def tOp (r:R2) (ta tb:TE):TE:=fun σ H Q=>ta σ H fun x H1=>tb σ H1 fun y H2=>r x y H2 Q
def tUn (r:V→Hp→VK→Prop) (ta:TE):TE:=fun σ H Q=>ta σ H fun x H1=>r x H1 Q
def rI (C:Int→Int→Prop) (g:Int→Int→V):R2:=fun x y H Q=>∃ i j,x = .int i∧y = .int j∧C i j∧Q (g i j) H
def rI0 (g:Int→Int→V):R2:=fun x y H Q=>∃ i j,x = .int i∧y = .int j∧Q (g i j) H
def rU (g:Int→V):V→Hp→VK→Prop:=fun x H Q=>∃ i,x = .int i∧Q (g i) H
section
variable {X:Cx} {a b c:Expr} {ta tb tc:TE} {pos:Pos}
theorem binT (ha:PE X a ta) (hb:PE X b tb) {pins:List (Addr×Obj)} {s:Shared} {σ:St} {H:Hp} {R:V→V→Hp→Prop} (I:Inv X pins σ H s)
 (h:ta σ H fun x H1=>tb σ H1 fun y H2=>R x y H2) {Q:Value→Shared→Prop} {f:Value→Value→Sem Value}
 (hf:∀ v u s2 x y H2,Inv X pins σ H2 s2→a8 x v→a8 y u→R x y H2→wpAny (model X.prog X.w) X.A (f v u) Q X.xe s2) :
 wpAny (model X.prog X.w) X.A (eval a X.env) (fun v s₁=>wpAny (model X.prog X.w) X.A (eval b X.env) (fun u s₂=>wpAny (model X.prog X.w) X.A (f v u) Q X.xe s₂) X.xe s₁) X.xe s:=by
 refine thn (ha pins s σ H _ I h) fun v s1 ⟨x,H1,I1,r1,q1⟩=>?_
 refine thn (hb pins s1 σ H1 _ I1 q1) fun u s2 ⟨y,H2,I2,r2,q2⟩=>?_
 exact hf v u s2 x y H2 I2 r1 r2 q2
theorem pP {op:Operator} {r:R2} (ho:OpR X (binaryOp op) r) (ha:PE X a ta) (hb:PE X b tb):PE X (.BinOp a op b pos) (tOp r ta tb):=by
 (try refine ⟨?_⟩); intro pins s σ H Q I h
 exact wpAny_BinOp (binT ha hb I h fun v u s2 x y H2 I2 rx ry q=>ho pins s2 σ H2 x y v u Q I2 rx ry q)
theorem tJ {op:UnaryOp} {r:V→Hp→VK→Prop} (ho:UnR X (unaryOp op) r) (ha:PE X a ta):PE X (.UnaryOp op a pos) (tUn r ta):=by
 (try refine ⟨?_⟩); intro pins s σ H Q I h
 exact UnaryOp_ (thn (ha pins s σ H _ I h) fun v s1 ⟨x,H1,I1,r1,q1⟩=>ho pins s1 σ H1 x v Q I1 r1 q1)
theorem opI {f:Value→Value→Sem Value} {C:Int→Int→Prop} {g:Int→Int→Int}
 (rule:∀ (i j:Int) (t u:Tok) (s:Shared) (Q:Value→Shared→Prop) (E:Value→Shared→Prop),C i j→Q (.int (g i j) s.toks) { s with toks:=s.toks + 1 }→wpAny (model X.prog X.w) X.A (f (.int i t) (.int j u)) Q E s) :
 OpR X f (rI C fun i j=>.int (g i j)):=by
 (try refine ⟨?_⟩); intro pins s σ H x y v u Q I rx ry h
 obtain ⟨i,j,rfl,rfl,hc,q⟩:=h
 obtain ⟨t,rfl⟩:=rx
 obtain ⟨t',rfl⟩:=ry
 exact rule i j t t' s _ _ hc ⟨.int (g i j),H,I.tok _,⟨_,rfl⟩,q⟩
theorem opI0 {f:Value→Value→Sem Value} {g:Int→Int→Int}
 (rule:∀ (i j:Int) (t u:Tok) (s:Shared) (Q:Value→Shared→Prop) (E:Value→Shared→Prop),Q (.int (g i j) s.toks) { s with toks:=s.toks + 1 }→wpAny (model X.prog X.w) X.A (f (.int i t) (.int j u)) Q E s) :
 OpR X f (rI0 fun i j=>.int (g i j)):=by
 (try refine ⟨?_⟩); intro pins s σ H x y v u Q I rx ry h
 obtain ⟨i,j,rfl,rfl,q⟩:=h
 obtain ⟨t,rfl⟩:=rx
 obtain ⟨t',rfl⟩:=ry
 exact rule i j t t' s _ _ ⟨.int (g i j),H,I.tok _,⟨_,rfl⟩,q⟩
theorem opB0 {f:Value→Value→Sem Value} {g:Int→Int→Bool}
 (rule:∀ (i j:Int) (t u:Tok) (s:Shared) (Q:Value→Shared→Prop) (E:Value→Shared→Prop),Q (.bool (g i j)) s→wpAny (model X.prog X.w) X.A (f (.int i t) (.int j u)) Q E s) :
 OpR X f (rI0 fun i j=>.bl (g i j)):=by
 (try refine ⟨?_⟩); intro pins s σ H x y v u Q I rx ry h
 obtain ⟨i,j,rfl,rfl,q⟩:=h
 obtain ⟨t,rfl⟩:=rx
 obtain ⟨t',rfl⟩:=ry
 exact rule i j t t' s _ _ ⟨.bl (g i j),H,I,rfl,q⟩
def CDiv (i j:Int):Prop:=0<j∧j<1073741824
def CPow (i j:Int):Prop:=0≤j∧j≤1000000∧i.natAbs<2 ^ 64
def CMul (i j:Int):Prop:=(-(2 ^ 64)<i∧i<2 ^ 64)∨(-(2 ^ 64)<j∧j<2 ^ 64)
theorem CMul.ok {i j:Int} (h:CMul i j):IntMulOk i j:=by
 rcases h with ⟨h1,h2⟩ | ⟨h1,h2⟩
 ·exact .of_left (intBits_le_64 h1 h2)
 ·exact .of_right (intBits_le_64 h1 h2)
theorem bI:OpR X (binaryOp .Add) (rI0 fun i j=>.int (i + j)):=opI0 fun _ _ _ _ _ _ _ q=>add_int q
theorem bd:OpR X (binaryOp .Sub) (rI0 fun i j=>.int (i - j)):=opI0 fun _ _ _ _ _ _ _ q=>sub_int q
theorem eE:OpR X (binaryOp .Mult) (rI CMul fun i j=>.int (i * j)):=opI fun _ _ _ _ _ _ _ hc q=>mul_int q hc.ok
theorem mj:OpR X (binaryOp .FloorDiv) (rI CDiv fun i j=>.int (i / j)):=opI fun i j _ _ _ _ _ hc q=>by
 have h1:(0:Int)<j:=hc.1
 have h2:j<1073741824:=hc.2
 exact floordiv_int (by omega) (by rw [Int.fdiv_eq_ediv_of_nonneg i (by omega)]; exact q) (.inl (PyProof.noPylong_small (by omega)))
theorem dE:OpR X (binaryOp .Mod) (rI (fun _ j=>0<j) fun i j=>.int (i % j)):=opI fun i j _ _ _ _ _ hc q=>by
 have h1:(0:Int)<j:=hc
 exact mod_int' (by omega) (by rw [Int.fmod_eq_emod_of_nonneg i (by omega)]; exact q)
theorem jN:OpR X (binaryOp .Pow) (rI CPow fun i j=>.int (i ^ j.toNat)):=opI fun _ _ _ _ _ _ _ hc q=>pow_int_small hc.1 hc.2.1 hc.2.2 q
theorem unI {f:Value→Sem Value} {g:Int→Int}
 (rule:∀ (i:Int) (t:Tok) (s:Shared) (Q:Value→Shared→Prop) (E:Value→Shared→Prop),Q (.int (g i) s.toks) { s with toks:=s.toks + 1 }→wpAny (model X.prog X.w) X.A (f (.int i t)) Q E s) :
 UnR X f (rU fun i=>.int (g i)):=by
 (try refine ⟨?_⟩); intro pins s σ H x v Q I rx h
 obtain ⟨i,rfl,q⟩:=h
 obtain ⟨t,rfl⟩:=rx
 exact rule i t s _ _ ⟨.int (g i),H,I.tok _,⟨_,rfl⟩,q⟩
theorem qT:UnR X (unaryOp .USub) (rU fun i=>.int (-i)):=unI fun _ _ _ _ _ q=>neg_int q
end
section
variable {X:Cx} {a b c:Expr} {ta tb tc:TE} {pos:Pos}
theorem uT {pins:List (Addr×Obj)} {σ:St} {H:Hp} {s:Shared} {Q:VK} {k k':Bool} (I:Inv X pins σ H s) (q:Q (.bl k) H) (e:k=k'):EP X pins σ Q (.bool k') s:=by
 subst e
 exact ⟨.bl k,H,I,rfl,q⟩
theorem kD:OpR X (compareOp .Lt) (rI0 fun i j=>.bl (decide (i<j))):=opB0 fun _ _ _ _ _ _ _ q=>lt_int q
theorem mF:OpR X (compareOp .LtE) (rI0 fun i j=>.bl (decide (i≤j))):=opB0 fun _ _ _ _ _ _ _ q=>le_int q
theorem ik:OpR X (compareOp .Gt) (rI0 fun i j=>.bl (decide (j<i))):=opB0 fun _ _ _ _ _ _ _ q=>gt_int q
theorem sS:OpR X (compareOp .IsNot) (fun x y H Q=>y = .non∧Q (.bl (!decide (x = .non))) H):=by
 (try refine ⟨?_⟩); intro pins s σ H x y v u Q I rx ry h
 obtain ⟨rfl,q⟩:=h
 cases ry
 refine isnot_none_gen (uT I q ?_)
 cases x <;> first
  | (cases rx; rfl)
  | (obtain ⟨t,rfl⟩:=rx; rfl)
theorem aN (b:Expr) {op:CmpOp} (h:op≠.In:=by decide) (h2:op≠.NotIn:=by decide):behindInMarks op b=false:=by
 have e1:(op == CmpOp.In)=false:=by cases op <;> first | rfl | exact absurd rfl h
 have e2:(op == CmpOp.NotIn)=false:=by cases op <;> first | rfl | exact absurd rfl h2
 cases b <;> simp [behindInMarks,e1,e2]
theorem sO {op:CmpOp} {r:R2} (ho:OpR X (compareOp op) r) (ha:PE X a ta) (hb:PE X b tb) (hm:behindInMarks op b=false):PE X (.Compare a [op] [b] pos) (tOp r ta tb):=by
 (try refine ⟨?_⟩); intro pins s σ H Q I h
 exact wpAny_Compare1 (binT ha hb I h fun v u s2 x y H2 I2 rx ry q=>ho pins s2 σ H2 x y v u Q I2 rx ry q) hm
def tz (t:TE):TT:=fun σ H Q=>t σ H fun x H'=>∃ k,x = .bl k∧Q k H'
theorem sh {op:CmpOp} {r:R2} (ho:OpR X (compareOp op) r) (ha:PE X a ta) (hb:PE X b tb) (hm:behindInMarks op b=false):PT X (.Compare a [op] [b] pos) (tz (tOp r ta tb)):=by
 (try refine ⟨?_⟩); intro pins s σ H Q I h
 refine wpAny_isTrue_Compare1 (thn (ha pins s σ H _ I h) fun v s1 ⟨x,H1,I1,r1,q1⟩=>thn (hb pins s1 σ H1 _ I1 q1) fun u s2 ⟨y,H2,I2,r2,q2⟩ =>
  thn (ho pins s2 σ H2 x y v u _ I2 r1 r2 q2) fun c s3 ⟨z,H3,I3,r3,k,e,q3⟩=>?_) hm
 subst e
 cases r3
 exact wpAny_truthy_bool ⟨H3,I3,q3⟩
def oB (r r':R2) (ta tb tc:TE):TE:=fun σ H Q=>ta σ H fun x H1=>tb σ H1 fun y H2=>r x y H2 fun z H3=>∃ k,z = .bl k ∧
 (if k=true then tc σ H3 fun w' H4=>r' y w' H4 Q else Q (.bl false) H3)
theorem qo {op op':CmpOp} {r r':R2} (ho:OpR X (compareOp op) r) (ho':OpR X (compareOp op') r') (ha:PE X a ta) (hb:PE X b tb) (hc:PE X c tc)
 (hm:lastMarks [op,op'] [b,c]=false:=by with_unfolding_all rfl):PE X (.Compare a [op,op'] [b,c] pos) (oB r r' ta tb tc):=by
 (try refine ⟨?_⟩); intro pins s σ H Q I h
 refine Compare_chain (thn (ha pins s σ H _ I h) fun v s1 ⟨x,H1,I1,r1,q1⟩=>chain_link (thn (hb pins s1 σ H1 _ I1 q1) fun u s2 ⟨y,H2,I2,r2,q2⟩ =>
  thn (ho pins s2 σ H2 x y v u _ I2 r1 r2 q2) fun d s3 ⟨z,H3,I3,r3,k,e,q3⟩=>?_)) hm
 subst e
 cases r3
 refine wpAny_truthy_bool ?_
 cases k with
 | false=>exact ite_ff ⟨.bl false,H3,I3,rfl,q3⟩
 | true=>exact ite_tt (chain_last (thn (hc pins s3 σ H3 _ I3 q3) fun w' s4 ⟨z',H4,I4,r4,q4⟩=>ho' pins s4 σ H4 y z' u w' Q I4 r2 r4 q4))
def TruV (K:PySem.W.Frag) (x:V) (H:Hp) (k:Bool):Prop :=
 match x with
 | .non=>k=false
 | .bl b=>k=b
 | .int i=>k=(i != 0)
 | .str y=>y.length≤sizeLine∧k=((y.length:Int) != 0)
 | .byt y=>y.size≤sizeLine∧k=((y.size:Int) != 0)
 | .ref p=>(∃ xs,SqL K H p xs∧k = !xs.isEmpty)∨(∃ xs,SqT K H p xs∧k = !xs.isEmpty)∨∃ kvs,H p=some (.dK kvs)∧k = !kvs.isEmpty
 | _=>False
theorem lK {κ:Type} {kvs:List (κ×V)} {vs:List (κ×Value)} (r:KV kvs vs):(!vs.isEmpty) = !kvs.isEmpty:=by
 cases r <;> rfl
theorem ib {xs:List V} {its:List Value} (r:aQ xs its):(!its.toArray.isEmpty) = !xs.isEmpty:=by
 cases r <;> simp
theorem fE:(sizeLine:Nat)<2 ^ 63:=by rw [sizeLine_eq]; decide
theorem vp:TruR X (fun x H Q=>∃ k,TruV X.K x H k∧Q k H):=by
 (try refine ⟨?_⟩); intro pins s σ H x v Q I rx h
 obtain ⟨k,e,q⟩:=h
 have hl:=fE
 have hs:sizeLine=16777216:=sizeLine_eq
 cases x with
 | non =>
  cases rx
  have e':k=false:=e
  subst e'
  exact truthy_none ⟨H,I,q⟩
 | bl b =>
  cases rx
  have e':k=b:=e
  subst e'
  exact wpAny_truthy_bool ⟨H,I,q⟩
 | int i =>
  obtain ⟨t,rfl⟩:=rx
  have e':k=(i != 0):=e
  subst e'
  exact PySem.P.truthy_int ⟨H,I,q⟩
 | str y =>
  obtain ⟨t,rfl⟩:=rx
  obtain ⟨hy,e'⟩:y.length≤sizeLine∧k=((y.length:Int) != 0):=e
  subst e'
  exact PySem.P.truthy_str (by omega) ⟨H,I.tok _,q⟩
 | byt y =>
  obtain ⟨t,rfl⟩:=rx
  obtain ⟨hy,e'⟩:y.size≤sizeLine∧k=((y.size:Int) != 0):=e
  subst e'
  exact PySem.W.truthy_bytes (by omega) ⟨H,I.tok _,q⟩
 | ref p =>
  cases rx
  have e':(∃ xs,SqL X.K H p xs∧k = !xs.isEmpty)∨(∃ xs,SqT X.K H p xs∧k = !xs.isEmpty)∨∃ kvs,H p=some (.dK kvs)∧k = !kvs.isEmpty:=e
  rcases e' with ⟨xs,hx,e'⟩ | ⟨xs,hx,e'⟩ | ⟨kvs,hx,e'⟩
  ·subst e'
   obtain ⟨its,r,pl,hz⟩:=I.list hx
   have hlen:=r.length
   exact wpAny_truthy_list pl.isList (by simp only [List.size_toArray]; omega) ⟨H,I.tok _,by rw [ib r]; exact q⟩
  ·subst e'
   obtain ⟨its,r,pl,hz⟩:=I.tuple hx
   have hlen:=r.length
   exact truthy_tuple pl (by simp only [List.size_toArray]; omega) ⟨H,I.tok _,by rw [ib r]; exact q⟩
  ·subst e'
   obtain ⟨hz,hS,vs,r,m⟩:kvs.length≤sizeLine∧(p == sysModules)=false∧∃ vs,KV kvs vs∧s.heap.DictOf (jg X.prog X.w) p vs:=I.hok p _ hx
   have hlen:kvs.length=vs.length:=Paired.length r
   exact wpAny_truthy_dict hS m (by omega) ⟨H,I.tok _,by rw [lK r]; exact q⟩
 | _=>exact (show False from e).elim
theorem pV (ha:PE X a ta) (he:∀ whole,isTrue a X.env whole=(do let v ← whole; standAt a.pos; holding [v] (truthy v))) :
 PT X a (fun σ H Q=>ta σ H fun x H'=>∃ k,TruV X.K x H' k∧Q k H'):=by
 (try refine ⟨?_⟩); intro pins s σ H Q I h
 exact isTrue_plain (thn (ha pins s σ H _ I h) fun v s1 ⟨x,H1,I1,r1,q1⟩=>vp pins s1 σ H1 x v Q I1 r1 q1) (he _)
theorem eQ {x:V} {us:List Value} (r:aQ [x] us):∃ u,us=[u]∧a8 x u:=by
 cases r with
 | cons r1 r2=>cases r2; exact ⟨_,rfl,r1⟩
theorem qE {x y:V} {us:List Value} (r:aQ [x,y] us):∃ u w',us=[u,w']∧a8 x u∧a8 y w':=by
 cases r with
 | cons r1 r2 =>
  cases r2 with
  | cons r3 r4=>cases r4; exact ⟨_,_,rfl,r1,r3⟩
theorem qV:cD X (.builtin "abs") (fun xs H Q=>∃ i,xs=[.int i]∧Q (.int (if i<0 then -i else i)) H):=by
 (try refine ⟨?_⟩); intro pins s σ H xs us Q I r h
 obtain ⟨i,rfl,q⟩:=h
 obtain ⟨u,rfl,t,rfl⟩:=eQ r
 exact call_abs_int fun u tk=>⟨.int (if i<0 then -i else i),H,I.tok _,⟨_,rfl⟩,q⟩
theorem gi (hc:X.calm=true):cD X (.builtin "max") (fun xs H Q=>∃ i j,xs=[.int i,.int j]∧Q (.int (if j > i then j else i)) H):=by
 (try refine ⟨?_⟩); intro pins s σ H xs us Q I r h
 obtain ⟨i,j,rfl,q⟩:=h
 obtain ⟨u,w',rfl,⟨t,rfl⟩,⟨t',rfl⟩⟩:=qE r
 refine max_two_ints (I.ok.hd hc) fun h' tk k=>⟨_,H,I.kept k,?_,q⟩
 by_cases hj:j > i
 ·rw [if_pos hj,if_pos hj]; exact ⟨_,rfl⟩
 ·rw [if_neg hj,if_neg hj]; exact ⟨_,rfl⟩
theorem iC (hc:X.calm=true):cD X (.builtin "min") (fun xs H Q=>∃ i j,xs=[.int i,.int j]∧Q (.int (if j<i then j else i)) H):=by
 (try refine ⟨?_⟩); intro pins s σ H xs us Q I r h
 obtain ⟨i,j,rfl,q⟩:=h
 obtain ⟨u,w',rfl,⟨t,rfl⟩,⟨t',rfl⟩⟩:=qE r
 refine min_two_ints (I.ok.hd hc) fun h' tk k=>⟨_,H,I.kept k,?_,q⟩
 by_cases hj:j<i
 ·rw [if_pos hj,if_pos hj]; exact ⟨_,rfl⟩
 ·rw [if_neg hj,if_neg hj]; exact ⟨_,rfl⟩
theorem iD:cD X (.type "int") (fun xs H Q=>(∃ i,xs=[.int i]∧Q (.int i) H)∨∃ k,xs=[.bl k]∧Q (.int (if k then 1 else 0)) H):=by
 (try refine ⟨?_⟩); intro pins s σ H xs us Q I r h
 rcases h with ⟨i,rfl,q⟩ | ⟨k,rfl,q⟩
 ·obtain ⟨u,rfl,t,rfl⟩:=eQ r
  exact call_int_int ⟨.int i,H,I,⟨_,rfl⟩,q⟩
 ·obtain ⟨u,rfl,r1⟩:=eQ r
  cases r1
  exact call_int_bool ⟨.int (if k then 1 else 0),H,I.tok _,⟨_,rfl⟩,q⟩
end
structure ObjM (h:Heap) (x dx C:Addr) (mA:Str→Option Value):Prop where
 obj:h.get? x=some (PySem.W.instObj C dx)
 ns:h.Ns1 dx mA
 ne:dx≠x
theorem m_ {h:Heap} {dx:Addr} {mA:Str→Option Value} (n:h.Ns1 dx mA):∃ od,h.get? dx=some od∧∀ name,PySem.W.lookIn name od=some (mA name):=by
 obtain ⟨o,es,ep,ho,hd,hk,_,hm⟩:=n
 refine ⟨o,ho,fun name=>?_⟩
 have e:=hm name
 unfold nsFind findBy at e
 rw [← Array.find?_toList] at e
 unfold PySem.W.lookIn
 rw [hd]
 dsimp only
 split
 ·rename_i y q
  rw [q] at e
  exact congrArg some e
 ·rename_i q
  rw [q] at e
  have a:es.toList.any (·.refKey)=false:=by
   rw [List.any_eq_false]
   intro y hy
   obtain ⟨z,t,hkey⟩:=hk y (Array.mem_toList_iff.mp hy)
   simp [DictEntry.refKey,hkey]
  have a' : ¬ es.toList.any (·.refKey)=true:=by rw [a]; exact Bool.false_ne_true
  rw [if_neg a']
  exact congrArg some e
theorem ObjM.look {h:Heap} {x dx C:Addr} {mA:Str→Option Value} (I:ObjM h x dx C mA):∃ od,PySem.W.InstAt h x (PySem.W.instObj C dx) C (some od)∧∀ name,PySem.W.lookIn name od=some (mA name) :=
 let ⟨od,ho,hl⟩:=m_ I.ns
 ⟨od,⟨I.obj,rfl,rfl,ho⟩,hl⟩
section
variable {prog:Program} {w:World} {A:Around} {E:Value→Shared→Prop} {s:Shared} {K:PySem.W.Frag} {x dx C f:Addr} {mA:Str→Option Value} {name:Str} {v:Value}
end
section
variable {P:Program} {w:World} {H H':Hp} {h h':Heap} {a C dx:Addr} {fs fs':List (Str×V)}
theorem rE (hok:HOk P w H h) (e:H a=some (.ins C dx fs)):∃ mA,ObjM h a dx C mA∧(∀ f,RelO (fs.lookup f) (mA f))∧PySem.Within mA (fs.map (·.1))∧fs.length≤1000∧H dx=some (.own a):=by
 obtain ⟨d,z,ne,ob,mA,n,r,q⟩:=(show bS P w H h a (.ins C dx fs) from hok a _ e)
 exact ⟨mA,⟨ob,n,ne⟩,r,q,z,d⟩
end
structure Cls (K:PySem.W.Frag) (C:Addr):Prop where
 pg:PySem.W.plainGet K C Str.empty=true
 hd:PySem.W.hasDictIn K C=true
 po:PySem.W.plainOver K C=true
 sa:PySem.W.findIn K (.ref C) "__setattr__" = some (some (.builtin "object.__setattr__"))
theorem Cls.get {K:PySem.W.Frag} {C:Addr} (c:Cls K C) (f:Str):PySem.W.plainGet K C f=true:=c.pg
section
variable {X:Cx} {pins:List (Addr×Obj)} {σ:St} {H:Hp} {s:Shared} {a C dx:Addr} {fs:List (Str×V)} {f:Str} {v:V} {A:Around} {E:Value→Shared→Prop}
end
section
variable {X:Cx} {o e value:Expr} {f:Str} {pos pos' tpos:Pos} {ta tv:TE}
end
section
variable {X:Cx} {pins:List (Addr×Obj)} {σ:St} {H:Hp} {s:Shared} {A:Around} {E:Value→Shared→Prop} {Q:Value→Shared→Prop} {c:Value} {b:Bool}
inductive TyOf (K:PySem.W.Frag) (H:Hp):V→Value→Prop where
 | non:TyOf K H .non (.type "NoneType")
 | bl (x:Bool):TyOf K H (.bl x) (.type "bool")
 | int (i:Int):TyOf K H (.int i) (.type "int")
 | str (x:Str):TyOf K H (.str x) (.type "str")
 | flt (x:UInt64):TyOf K H (.flt x) (.type "float")
 | lst {a:Addr} {xs:List V} (e:H a=some (.lst xs)):TyOf K H (.ref a) (.type "list")
 | frz {a:Addr} {o:Obj} {xs:List V} (e:H a=some (.frz o (.lst xs))):TyOf K H (.ref a) (.type "list")
 | tup {a:Addr} {xs:List V} (e:H a=some (.tup xs)):TyOf K H (.ref a) (.type "tuple")
 | dK {a:Addr} {kvs:List (Key×V)} (e:H a=some (.dK kvs)):TyOf K H (.ref a) (.type "dict")
 | dT {a:Addr} {kvs:List (List Key×V)} (e:H a=some (.dT kvs)):TyOf K H (.ref a) (.type "dict")
 | ins {a C dx:Addr} {fs:List (Str×V)} (e:H a=some (.ins C dx fs)) (cl:Cls K C) (ha:PySem.W.findIn K (.ref C) "__class__" = some (some (.builtin "object.__class__")))
  (hn:PySem.W.specialIn K (.builtin "object.__class__") "__get__" = some (some (.builtin "getset_descriptor.__get__"))) (htk:PySem.W.takesIn K (.builtin "object.__class__")=some true)
  (hm:PySem.W.mroIn K C (.type "object")=some true):TyOf K H (.ref a) (.ref C)
theorem nj {x:V} {u t:Value} (I:Inv X pins σ H s) (rx:a8 x u) (ty:TyOf X.K H x t) (e:PySem.W.kitOne X.K t c=some b) (h:∀ tk,Q (.bool b) { s with toks:=tk }) :
 wpAny (model X.prog X.w) A (call (.builtin "isinstance") [u,c]) Q E s:=by
 cases ty with
 | non=>cases (show u=Value.none from rx); exact PySem.W.kia_one PySem.W.kitx_none I.kIn True.intro e (fun z=>nomatch z) h
 | bl y=>cases (show u=Value.bool y from rx); exact PySem.W.kia_one PySem.W.kitx_bool I.kIn True.intro e (fun z=>nomatch z) h
 | int i=>obtain ⟨t,q⟩:=(show ∃ t,u=Value.int i t from rx); cases q; exact PySem.W.kia_one PySem.W.kitx_int I.kIn True.intro e (fun z=>nomatch z) h
 | str y=>obtain ⟨t,q⟩:=(show ∃ t,u=Value.str y t from rx); cases q; exact PySem.W.kia_one PySem.W.kitx_str I.kIn True.intro e (fun z=>nomatch z) h
 | flt y=>obtain ⟨t,q⟩:=(show ∃ t,u=Value.float y t from rx); cases q; exact PySem.W.kia_one PySem.W.kitx_float I.kIn True.intro e (fun z=>nomatch z) h
 | @lst a xs ea =>
  cases (show u=Value.ref a from rx)
  obtain ⟨_,_,n,_,h1⟩:=(show bS X.prog X.w H s.heap a (.lst xs) from I.hok a _ ea)
  exact PySem.W.kia_one PySem.W.kitx_list I.kIn ⟨_,h1,rfl⟩ e (fun z=>nomatch z) h
 | @frz a ob xs ea =>
  cases (show u=Value.ref a from rx)
  obtain ⟨_,_,_,n,_,h1⟩:=(show bS X.prog X.w H s.heap a (.frz ob (.lst xs)) from I.hok a _ ea)
  exact PySem.W.kia_one PySem.W.kitx_list I.kIn ⟨_,h1,rfl⟩ e (fun z=>nomatch z) h
 | @tup a xs ea =>
  cases (show u=Value.ref a from rx)
  obtain ⟨_,_,_,p⟩:=(show bS X.prog X.w H s.heap a (.tup xs) from I.hok a _ ea)
  obtain ⟨o,h1,h2,_⟩:=p
  exact PySem.W.kia_one PySem.W.kitx_tuple I.kIn ⟨o,h1,h2⟩ e (fun z=>nomatch z) h
 | @dK a kvs ea =>
  cases (show u=Value.ref a from rx)
  obtain ⟨_,_,vs,_,p⟩:=(show bS X.prog X.w H s.heap a (.dK kvs) from I.hok a _ ea)
  obtain ⟨o,es,ep,h1,h2,_⟩:=p
  exact PySem.W.kia_one PySem.W.kitx_dict I.kIn ⟨o,h1,h2.1⟩ e (fun z=>nomatch z) h
 | @dT a kvs ea =>
  cases (show u=Value.ref a from rx)
  obtain ⟨_,_,xs,_,o,es,ep,h1,h2,_⟩:=(show bS X.prog X.w H s.heap a (.dT kvs) from I.hok a _ ea)
  exact PySem.W.kia_one PySem.W.kitx_dict I.kIn ⟨o,h1,h2.1⟩ e (fun z=>nomatch z) h
 | @ins a C dx fs ea cl ha hn htk hm =>
  cases (show u=Value.ref a from rx)
  obtain ⟨mA,O,_⟩:=rE I.hok ea
  obtain ⟨od,J,_⟩:=O.look
  exact PySem.W.kia_one (PySem.W.kitx_own (cl.get _) cl.hd ha hn htk hm) I.kIn J e (fun z=>nomatch z) h
end
structure Room (k:Nat) (A:Around):Prop where
 hd:A.handled=none
 dp:A.depth + 3 * k + 5<recursionLimit
 un:A.units + 16 * k + 200<cLine
 gd:A.guards=some []
theorem Room.mono {j k:Nat} {A:Around} (r:Room k A) (h:j≤k):Room j A:=⟨r.hd,by have:=r.dp; omega,by have:=r.un; omega,r.gd⟩
theorem Room.deeper {k:Nat} {A:Around} (r:Room (k + 1) A) (env:Env):Room k (A.deeper env) :=
 ⟨r.hd,by have:=r.dp; show A.depth + 1 + 3 * k + 5<_; omega,by have:=r.un; show A.units + 3 + 16 * k + 200<_; omega,r.gd⟩
theorem Room.in1 {k:Nat} {A:Around} (r:Room (k + 1) A):Room k A.in1 :=
 ⟨r.hd,by have:=r.dp; show A.depth + 3 * k + 5<_; omega,by have:=r.un; show A.units + 1 + 16 * k + 200<_; omega,r.gd⟩
theorem Room.depth {k:Nat} {A:Around} (r:Room k A):A.depth<recursionLimit:=by have:=r.dp; omega
theorem Room.units {k:Nat} {A:Around} (r:Room k A):A.units + 64<cLine:=by have:=r.un; omega
def tNil:TA:=fun _ H Q=>Q [] H
def tCons (ta:TE) (tr:TA):TA:=fun σ H Q=>ta σ H fun x H1=>tr σ H1 fun xs H2=>Q (x :: xs) H2
section
variable {X:Cx} {e:Expr} {es:List Expr} {te:TE} {t:TA} {pos:Pos}
theorem eB:PA X [] tNil:=⟨fun _ _ _ _ H Q I h=>Calls.spliced_nil ⟨[],H,I,.nil,h⟩⟩
theorem bV (ha:PE X e te) (hr:PA X es t) (hs:starEach (e :: es) X.env=(false,eval e X.env) :: starEach es X.env:=by rfl):PA X (e :: es) (tCons te t):=by
 (try refine ⟨?_⟩); intro pos pins s σ H Q I h
 rw [hs]
 show wpAny _ _ (spliced ((false,eval e X.env) :: backTo pos (starEach es X.env))) _ _ s
 refine Calls.spliced_cons (thn (ha pins s σ H _ I h) fun u s1 ⟨x,H1,I1,r1,q1⟩=>?_)
 exact thn (hr pos pins s1 σ H1 _ I1 q1) fun us s2 ⟨xs,H2,I2,r2,q2⟩=>⟨x :: xs,H2,I2,.cons r1 r2,q2⟩
def tTup (t:TA):TE:=fun σ H Q=>t σ H fun xs H1=>xs.length≤sizeLine∧∀ p,H1 p=none→Q (.ref p) (upd H1 p (.tup xs))
def tLst (t:TA):TE:=fun σ H Q=>t σ H fun xs H1=>xs.length≤sizeLine∧∀ p,H1 p=none→Q (.ref p) (upd H1 p (.lst xs))
theorem o_ {x1} (h:PA X es t):PE X (.Tuple es x1 pos) (tTup t):=by
 (try refine ⟨?_⟩); intro pins s σ H Q I hq
 refine wpAny_Tuple_spliced (thn (h pos pins s σ H _ I hq) fun us s1 ⟨xs,H1,I1,r,z,q⟩=>⟨by rw [← r.length]; exact z,?_⟩)
 have hf:H1 s1.heap.objs.size=none:=I1.hok.fresh (Nat.le_refl _)
 refine ⟨.ref s1.heap.objs.size,upd H1 s1.heap.objs.size (.tup xs),I1.laid (t':=s1.toks) (fun b u e=>Heap.get?_push_of_some _ e) (Nat.le_refl _) ?_,rfl,q _ hf⟩
 exact ⟨z,us,r,⟨_,Heap.get?_push_size _ rfl,rfl,_,rfl⟩⟩
theorem ln (h:PA X es t):PE X (.List es pos) (tLst t):=by
 (try refine ⟨?_⟩); intro pins s σ H Q I hq
 refine wpAny_List_spliced (thn (h pos pins s σ H _ I hq) fun us s1 ⟨xs,H1,I1,r,z,q⟩=>⟨by rw [← r.length]; exact z,?_⟩)
 have hf:H1 s1.heap.objs.size=none:=I1.hok.fresh (Nat.le_refl _)
 refine ⟨.ref s1.heap.objs.size,upd H1 s1.heap.objs.size (.lst xs),I1.laid (t':=s1.toks) (fun b u e=>Heap.get?_push_of_some _ e) (Nat.le_refl _) ?_,rfl,q _ hf⟩
 exact ⟨z,us,0,r,Heap.get?_push_size _ rfl⟩
end
abbrev Sp:=List V→Hp→VK→XK→Prop
abbrev CXT:=List Env→Hp→Shared→XK→Value→Shared→Prop
structure Env0 (P:Program) (w:World) (K:PySem.W.Frag) (mg:Str→Option Value) (base:Heap) (A:Around) (outer:List Env) (s:Shared) (H:Hp):Prop where
 frames:A.frames=some outer
 mod:Mod K mg base
 bs:∀ b o,base.get? b=some o→s.heap.get? b=some o∧H b=none
 bsz:base.objs.size≤s.heap.objs.size
 funs:s.heap.FunFrames base outer
 frf:∀ b∈frs outer,H b=none
 hok:HOk P w H s.heap
 bare:AllBare s.gens
 tb:TbM base H
def CE (outer:List Env) (P:Program) (w:World) (H:Hp) (s:Shared) (Q:VK) (u:Value) (s':Shared):Prop :=
 ∃ v H',s'.os=s.os∧AllBare s'.gens∧Un (frs outer) [] H H' s.heap s'.heap∧HOk P w H' s'.heap∧a8 v u∧Q v H'
def CR (CX:CXT) (outer:List Env) (P:Program) (w:World) (H:Hp) (s:Shared) (Q:VK) (E:XK) (r:Result) (s':Shared):Prop :=
 match r with
 | .ok (.ret u)=>CE outer P w H s Q u s'
 | .ok _=>False
 | .error e=>CX outer H s E e s'
structure FnOk (P:Program) (w:World) (K:PySem.W.Frag) (mg:Str→Option Value) (base:Heap) (CX:CXT) (k:Nat) (f:Addr) (fd:FuncData) (ps:List Str) (sp:Sp):Prop where
 len:∀ vs H Q E,sp vs H Q E→vs.length=ps.length
 run:∀ (A:Around) (outer:List Env) (s:Shared) (H:Hp) (args:Args) (us:List Value) (vs:List V) (Q:VK) (E:XK),Room k A→Env0 P w K mg base A outer s H→BindsTo s fd args (ps.zip us)→aQ vs us→sp vs H Q E →
  codeAny (model P w) A (.call (.ref f) args) (CR CX outer P w H s Q E) s
theorem FnOk.imp {P:Program} {w:World} {K:PySem.W.Frag} {mg:Str→Option Value} {base:Heap} {CX:CXT} {k:Nat} {f:Addr} {fd:FuncData} {ps:List Str} {sp sp':Sp} (F:FnOk P w K mg base CX k f fd ps sp)
 (h:∀ vs H Q E,sp' vs H Q E→sp vs H Q E):FnOk P w K mg base CX k f fd ps sp' :=
 ⟨fun vs H Q E q=>F.len vs H Q E (h _ _ _ _ q),fun A outer s H args us vs Q E hr he hb hv hs=>F.run A outer s H args us vs Q E hr he hb hv (h _ _ _ _ hs)⟩
section
variable {X:Cx} {pins:List (Addr×Obj)} {σ:St} {H:Hp} {s s':Shared}
theorem Inv.env0 (I:Inv X pins σ H s):Env0 X.prog X.w X.K X.mg X.base X.A X.stack s H :=
 ⟨I.ok.frames,I.ok.mod,I.bs,Nat.le_trans I.ok.bsz I.sz,I.stack,I.stkFree,I.hok,I.bare,I.ok.tb.un I.base⟩
theorem Inv.after {Q:VK} {u:Value} (I:Inv X pins σ H s) (h:CE X.stack X.prog X.w H s Q u s'):EP X pins σ Q u s':=by
 obtain ⟨v,H',os,bare,un,hok,r,q⟩:=h
 obtain ⟨hh,g,d,t,os'⟩:=s'
 obtain rfl:os'=s.os:=os
 exact ⟨v,H',I.call (h':=hh) (g':=g) (d':=d) (t':=t) (ch:=[]) un hok bare (fun b z=>absurd z (by simp)),r,q⟩
end
def tCall (sp:Sp) (dvs:List V) (E:XK) (t:TA):TE:=fun σ H Q=>t σ H fun vs H1=>sp (vs++dvs) H1 Q E
def gH (K:PySem.W.Frag) (fd:FuncData) (ps:List Str) (ds:List Value):Prop :=
 ∀ (s:Shared) (us:List Value),K.In s.heap→(us++ds).length=ps.length→BindsTo s fd ⟨us,[]⟩ (ps.zip (us++ds))
theorem gH.all {K:PySem.W.Frag} {fd:FuncData} {ps:List Str} (h:∀ us:List Value,us.length=ps.length→bindArgs fd ⟨us,[]⟩=pure (ps.zip us)):gH K fd ps []:=fun s us _ hl=>by
 rw [List.append_nil] at hl ⊢
 exact .of_eq (h us hl)
def lZ (CX:CXT) (X:Cx) (E:XK):Prop:=∀ (pins:List (Addr×Obj)) (σ:St) (H:Hp) (s:Shared) (e:Value) (s':Shared),Inv X pins σ H s→CX X.stack H s E e s'→X.xe e s'
section
variable {X:Cx} {CX:CXT} {k:Nat} {f C:Addr} {fd:FuncData} {ps:List Str} {sp:Sp} {dvs:List V} {ds:List Value} {E:XK} {x m:Str} {p pos apos:Pos} {e o:Expr} {es:List Expr} {ta:TE} {t:TA}
theorem vW {pins:List (Addr×Obj)} {σ:St} {H:Hp} {s:Shared} {Q:VK} {us:List Value} {vs:List V} (F:FnOk X.prog X.w X.K X.mg X.base CX k f fd ps sp) (hr:Room k X.A) (hb:gH X.K fd ps ds) (hd:aQ dvs ds) (hx:lZ CX X E)
 (I:Inv X pins σ H s) (r:aQ vs us) (h:sp (vs++dvs) H Q E):wpAny (model X.prog X.w) X.A (call (.ref f) us) (EP X pins σ Q) X.xe s:=by
 have r2:aQ (vs++dvs) (us++ds):=r.append hd
 have hl:(us++ds).length=ps.length:=by rw [← r2.length]; exact F.len _ _ _ _ h
 refine wpAny_call (codeAny_mono (F.run X.A X.stack s H ⟨us,[]⟩ (us++ds) (vs++dvs) Q E hr I.env0 (hb s us I.kIn hl) r2 h) fun r s' hq=>?_)
 cases r with
 | error e=>exact hx pins σ H s e s' I hq
 | ok fl =>
  cases fl with
  | ret u=>exact I.after hq
  | next=>exact False.elim hq
  | brk=>exact False.elim hq
  | cont=>exact False.elim hq
theorem mK (F:FnOk X.prog X.w X.K X.mg X.base CX k f fd ps sp) (hr:Room k X.A) (hg:Gl X x) (hm:X.mg x=some (.ref f)) (hk:PySem.W.keepIn X.K (.ref f)=true) (hb:gH X.K fd ps ds) (hd:aQ dvs ds) (hx:lZ CX X E)
 (ha:PA X (e :: es) t) (hdb:(x == ("__debug__":Str))=false:=by decide) (he:starEach (e :: es) X.env=(false,eval e X.env) :: starEach es X.env:=by rfl) (hpl:(backTo pos (starEach es X.env)).any (·.1)=false:=by rfl) :
 PE X (.Call (.Name x p) (e :: es) [] pos) (tCall sp dvs E t):=by
 (try refine ⟨?_⟩); intro pins s σ H Q I h
 refine wpAny_Call_Name_kw (mL I hg hm ?_ hdb)
 refine PySem.W.callWith_K (h₀:=X.base) I.ok.mod.kin hk (thn (ha pos pins s σ H _ I h) fun us s1 ⟨vs,H1,I1,r,q⟩=>⟨I1.kIn,?_⟩) he hpl
 exact vW F hr hb hd hx I1 r q
end
section
variable {X:Cx} {CX:CXT} {k:Nat} {f C:Addr} {fd:FuncData} {ps ks:List Str} {sp:Sp} {E:XK} {x m:Str} {p pos apos kpos:Pos} {e o:Expr} {es:List Expr} {kws:List Keyword} {te ta:TE} {t tk:TA} {nm:Option Str}
variable {g:List Value→List Value→List Value} {gV:List V→List V→List V}
end
structure FnScope (N P:List Str) (sc:Scope):Prop where
 kind:sc.kind = .function
 co:sc.isCoroutine=false
 gen:sc.isGenerator=false
 nd:N.Nodup
 pre:N.take P.length=P
 par:∀ x∈P,sc.names.lookup x=some .local∨sc.names.lookup x=some .cell
 nofree:∀ y∈sc.names,y.2≠.free
theorem iW {kindOf:Str→Option NameKind} {x:Str}:∀ {binds:List (Str×Value)} {m:Str→Option Value},(∀ v,(x,v) ∉ binds)→bindL kindOf binds m x=m x
 | [],_,_=>rfl
 | (n,v) :: r,m,h=>by
  unfold bindL
  rw [iW fun w hw=>h w (List.mem_cons_of_mem _ hw)]
  split
  ·have:x≠n:=by rintro rfl; exact h v List.mem_cons_self
   simp [this]
  ·rfl
theorem iJ {kindOf:Str→Option NameKind} {x:Str}:∀ {binds:List (Str×Value)} {m:Str→Option Value},(∀ v,(x,v) ∉ binds)→bindC kindOf binds m x=m x
 | [],_,_=>rfl
 | (n,v) :: r,m,h=>by
  unfold bindC
  rw [iJ fun w hw=>h w (List.mem_cons_of_mem _ hw)]
  split
  ·rfl
  ·have:x≠n:=by rintro rfl; exact h v List.mem_cons_self
   simp [this]
theorem iO {kindOf:Str→Option NameKind} {x:Str} {v:Value}:∀ {P:List Str} {vs:List Value} {i:Nat} {m:Str→Option Value},P.Nodup→P[i]? = some x→vs[i]? = some v→kindOf x=some .local →
 bindL kindOf (P.zip vs) m x=some v
 | [],_,_,_,_,h,_,_=>by simp at h
 | _ :: _,[],_,_,_,_,h,_=>by simp at h
 | p :: P,w :: vs,0,m,nd,h1,h2,hk=>by
  simp at h1 h2; subst h1; subst h2
  show bindL kindOf ((p,w) :: P.zip vs) m p=_
  unfold bindL
  rw [iW fun v hv=>(List.nodup_cons.mp nd).1 (List.of_mem_zip hv).1,if_pos hk]
  simp
 | p :: P,w :: vs,i + 1,m,nd,h1,h2,hk=>by
  show bindL kindOf ((p,w) :: P.zip vs) m x=_
  unfold bindL
  exact iO (i:=i) (List.nodup_cons.mp nd).2 (by simpa using h1) (by simpa using h2) hk
theorem iY {kindOf:Str→Option NameKind} {x:Str} {v:Value}:∀ {P:List Str} {vs:List Value} {i:Nat} {m:Str→Option Value},P.Nodup→P[i]? = some x→vs[i]? = some v→kindOf x≠some .local →
 bindC kindOf (P.zip vs) m x=some v
 | [],_,_,_,_,h,_,_=>by simp at h
 | _ :: _,[],_,_,_,_,h,_=>by simp at h
 | p :: P,w :: vs,0,m,nd,h1,h2,hk=>by
  simp at h1 h2; subst h1; subst h2
  show bindC kindOf ((p,w) :: P.zip vs) m p=_
  unfold bindC
  rw [iJ fun v hv=>(List.nodup_cons.mp nd).1 (List.of_mem_zip hv).1,if_neg hk]
  simp
 | p :: P,w :: vs,i + 1,m,nd,h1,h2,hk=>by
  show bindC kindOf ((p,w) :: P.zip vs) m x=_
  unfold bindC
  exact iY (i:=i) (List.nodup_cons.mp nd).2 (by simpa using h1) (by simpa using h2) hk
def dU (N:List Str) (vs:List V):St:=vs.map some++List.replicate (N.length - vs.length) none
def jM (CX:CXT) (P:Program) (w:World) (K:PySem.W.Frag) (mg:Str→Option Value) (base:Heap) (N:List Str) (qual:Str) (scope:Scope) (f:Addr) (cd:Value) (A:Around) (outer:List Env) (s:Shared) (H:Hp) (E:XK):Cx where
 prog:=P
 w:=w
 K:=K
 mg:=mg
 base:=base
 A:=A.deeper (envOfC qual scope s.heap.objs.size f cd)
 N:=N
 s₀:=s
 H₀:=H
 env:=envOfC qual scope s.heap.objs.size f cd
 outer:=outer
 stack:=envOfC qual scope s.heap.objs.size f cd :: outer
 ex:=[]
 calm:=true
 fn:=fun _=>true
 pn:=[]
 xe:=fun e s'=>wpAny (model P w) (A.deeper (envOfC qual scope s.heap.objs.size f cd)) (leaving (envOfC qual scope s.heap.objs.size f cd) e) (fun _ s''=>CX outer H s E e s'') (fun e' s''=>CX outer H s E e' s'') s'
theorem kq {sc:Scope} {n:Nat} {x:Str} (h:sc.names.lookup x=some .cell):∃ c,(cellsFrom n sc.names []).lookup x=some c:=by
 have q:=PySem.W.cellsFrom_some sc.names n [] (.inl h)
 exact Option.isSome_iff_exists.mp q
theorem nJ {CX:CXT} {P:Program} {w:World} {K:PySem.W.Frag} {mg:Str→Option Value} {base:Heap} {N ps:List Str} {qual:Str} {scope:Scope} {f:Addr} {cd:Value} {A:Around} {outer:List Env} {s s1:Shared} {H:Hp} {E:XK} {us:List Value} {vs:List V}
 (S:FnScope N ps scope) (hd:A.handled=none) (e0:Env0 P w K mg base A outer s H) (hl:vs.length=ps.length) (r:aQ vs us)
 (x:InCallC s s.heap.objs.size (bindL (envOfC qual scope s.heap.objs.size f cd).kindOf (ps.zip us) fun _=>none) (cellsFrom (s.heap.objs.size + 1) scope.names []) (bindC (envOfC qual scope s.heap.objs.size f cd).kindOf (ps.zip us) fun _=>none) s1) :
 Inv (jM CX P w K mg base N qual scope f cd A outer s H E) [] (dU N vs) H s1:=by
 have hpl:ps.length≤N.length:=by have:=congrArg List.length S.pre; rw [List.length_take] at this; omega
 obtain ⟨h1,tk,rfl,hk⟩:=x.done
 have noA:∀ b:Addr,b ∉ (jM CX P w K mg base N qual scope f cd A outer s H E).ex:=fun b z=>absurd (show b∈([]:List Addr) from z) (by simp)
 refine ⟨⟨e0.mod,S.kind,rfl,rfl,Nat.le_refl _,fun y z c h1 h2=>?_,fun y hy=>?_,fun y c _ h=>?_,fun _=>hd,Around.frames_deeper e0.frames,.inr ⟨rfl,rfl⟩,fun b z=>absurd z (noA b),e0.bs,e0.bsz,fun b _ _=>noA b,fun b z=>absurd z (noA b),e0.funs,e0.frf,e0.tb⟩,
  rfl,e0.bare,Un.kept hk,⟨_,x.toInCall.ns,fun i y v h1 h2 h3=>?_⟩,fun y c h=>⟨_,x.cell y c h⟩,e0.hok.fresh (Nat.le_refl _),fun y c h=>?_,fun p hp=>absurd (show p∈([]:List (Addr×Obj)) from hp) (by simp),e0.hok.kept hk,?_⟩
 ·exact name_of_addr x.apart (PySem.mem_of_lookup h1) (PySem.mem_of_lookup h2)
 ·have hy:scope.names.lookup y=some .cell∨scope.names.lookup y=some .free:=hy
  rcases hy with hy | hy
  ·exact kq hy
  ·exact absurd rfl (S.nofree _ (PySem.mem_of_lookup hy))
 ·exact Nat.le_of_lt (x.above y c (PySem.mem_of_lookup h))
 ·have hi:i<vs.length:=by
   unfold dU at h2
   by_cases hi:i<vs.length
   ·exact hi
   ·rw [List.getElem?_append_right (by simpa using hi)] at h2
    rw [List.getElem?_replicate] at h2
    split at h2 <;> cases h2
  have ha:vs[i]? = some v:=by
   unfold dU at h2
   rw [List.getElem?_append_left (by simpa using hi),List.getElem?_map] at h2
   cases e:vs[i]? with
   | none=>rw [e] at h2; cases h2
   | some a=>rw [e] at h2; cases h2; rfl
  obtain ⟨u,hu,rv⟩:=r.get ha
  have hp:ps[i]? = some y:=by
   rw [← S.pre,List.getElem?_take_of_lt (by omega)]; exact h1
  have ndP:ps.Nodup:=by rw [← S.pre]; exact S.nd.sublist (List.take_sublist _ _)
  refine ⟨u,rv,?_⟩
  rcases S.par y (List.mem_of_getElem? hp) with k | k
  ·exact .inl ⟨k,iO ndP hp hu k⟩
  ·obtain ⟨c,e⟩:=kq (n:=s.heap.objs.size + 1) k
   refine .inr ⟨.inl k,c,e,?_⟩
   have q:=x.cell y c e
   rw [iY ndP hp hu (by show scope.names.lookup y≠_; rw [k]; decide)] at q
   exact q
 ·exact e0.hok.fresh (Nat.le_of_lt (x.above y c (PySem.mem_of_lookup h)))
 ·unfold dU
  show _=N.length
  rw [List.length_append,List.length_map,List.length_replicate]
  omega
theorem tO {CX:CXT} {P:Program} {w:World} {K:PySem.W.Frag} {mg:Str→Option Value} {base:Heap} {k:Nat} {f:Addr} {name qual:Str} {params:Arguments} {body:List Stmt} {scope:Scope} {dV kV doc pm cdv ct oc:Value} {an od:Option Addr}
 {osl:Array (Option Value)} {N ps:List Str} {sp:Sp} (lk:K.lookup f=some ⟨oc,od,.func (PySem.W.fnOf name qual params body scope dV kV doc pm an cdv ct),osl⟩) (hcd:PySem.W.codeIn K cdv qual=true) (S:FnScope N ps scope)
 (len:∀ vs H Q E,sp vs H Q E→vs.length=ps.length)
 (hbody:∀ (A:Around) (outer:List Env) (s:Shared) (H:Hp) (vs:List V) (Q:VK) (E:XK),Room k (A.deeper (envOfC qual scope s.heap.objs.size f cdv))→sp vs H Q E →
  ∃ t,PSs (jM CX P w K mg base N qual scope f cdv A outer s H E) body t∧t { nx:=fun _ H'=>Q .non H',rt:=Q } (dU N vs) H) :
 FnOk P w K mg base CX (k + 1) f (PySem.W.fnOf name qual params body scope dV kV doc pm an cdv ct) ps sp:=by
 refine ⟨len,fun A outer s H args us vs Q E hr e0 hb r hsp=>?_⟩
 have hl:=len _ _ _ _ hsp
 have KX:K.In s.heap:=e0.mod.kin.keeps fun b o e=>(e0.bs b o e).1
 have lim:s.heap.NoLimit:=e0.mod.nolimit.keeps fun b o e=>(e0.bs b o e).1
 have hkind:∀ y∈ps.zip us,scope.names.lookup y.1=some .local∨(scope.names.lookup y.1=some .cell∧((cellsFrom (s.heap.objs.size + 1) scope.names []).lookup y.1).isSome=true):=fun ⟨n,v⟩ hy=>by
  rcases S.par n (List.of_mem_zip hy).1 with q | q
  ·exact .inl q
  ·exact .inr ⟨q,PySem.W.cellsFrom_some _ _ _ (.inl q)⟩
 refine codeAny_call_function hr.depth (KX _ _ lk) rfl S.co S.gen rfl (PySem.W.codeRec_of KX hcd) (hb _ _ _ _ ?_)
 refine wpAny_newFunctionEnv_cells S.kind hkind fun env he s1 x=>?_
 subst he
 refine ⟨lim.keeps x.toInCall.keep,codeAny_func ?_⟩
 obtain ⟨t,ht,hq⟩:=hbody A outer s H vs Q E (hr.deeper _) hsp
 have I:Inv (jM CX P w K mg base N qual scope f cdv A outer s H E) [] (dU N vs) H s1:=nJ S hr.hd e0 hl r x
 refine wpAny_mono (ht [] s1 (dU N vs) H _ I hq) (fun fl s' hs=>?_) fun e s' hs=>hs
 have fin:∀ {σ':St} {H':Hp} {v:V} {u:Value},Inv (jM CX P w K mg base N qual scope f cdv A outer s H E) [] σ' H' s'→a8 v u→Q v H'→CE outer P w H s Q u s' :=
  fun {σ' H' v u} J rv q=>⟨v,H',J.os,J.bare,J.base,J.hok,rv,q⟩
 cases fl with
 | ret u =>
  obtain ⟨v,σ',H',J,rv,q⟩:=hs
  exact fin J rv q
 | next =>
  obtain ⟨σ',H',J,q⟩:=hs
  exact fin (v:=V.non) (u:=Value.none) J rfl q
 | brk =>
  obtain ⟨_,_,_,q⟩:=hs
  exact False.elim q
 | cont =>
  obtain ⟨_,_,_,q⟩:=hs
  exact False.elim q
section
variable {X:Cx} {x:Str} {p pos:Pos} {e:Expr} {es:List Expr} {t:TA} {id T:String} {r:List V→Hp→VK→Prop}
def tCB (r:List V→Hp→VK→Prop) (t:TA):TE:=fun σ H Q=>t σ H fun vs H1=>r vs H1 Q
theorem g_ (hc:cD X (.builtin id) r) (hg:Gl X x) (hm:X.mg x=none) (hv:bootBuiltins x=some (.builtin id)) (ha:PA X (e :: es) t) (hn:x ≠ "__name__":=by decide) (hdb:(x == ("__debug__":Str))=false:=by decide)
 (he:starEach (e :: es) X.env=(false,eval e X.env) :: starEach es X.env:=by rfl) (hpl:(backTo pos (starEach es X.env)).any (·.1)=false:=by rfl):PE X (.Call (.Name x p) (e :: es) [] pos) (tCB r t):=by
 (try refine ⟨?_⟩); intro pins s σ H Q I h
 refine wpAny_Call_Name_kw (d9 I hg hm hv ?_ hn hdb)
 exact PyProof.Rows.callWith_builtin1 (thn (ha pos pins s σ H _ I h) fun us s1 ⟨vs,H1,I1,r1,q1⟩=>hc pins s1 σ H1 vs us Q I1 r1 q1) he hpl
theorem gc (hc:cD X (.type T) r) (hg:Gl X x) (hm:X.mg x=none) (hv:bootBuiltins x=some (.type T)) (ha:PA X (e :: es) t) (hn:x ≠ "__name__":=by decide) (hdb:(x == ("__debug__":Str))=false:=by decide)
 (he:starEach (e :: es) X.env=(false,eval e X.env) :: starEach es X.env:=by rfl) (hpl:(backTo pos (starEach es X.env)).any (·.1)=false:=by rfl):PE X (.Call (.Name x p) (e :: es) [] pos) (tCB r t):=by
 (try refine ⟨?_⟩); intro pins s σ H Q I h
 refine wpAny_Call_Name_kw (d9 I hg hm hv ?_ hn hdb)
 exact PyProof.Rows.callWith_type1 (thn (ha pos pins s σ H _ I h) fun us s1 ⟨vs,H1,I1,r1,q1⟩=>hc pins s1 σ H1 vs us Q I1 r1 q1) he hpl
end
end L2
namespace HT
open PySem PyProof.Rows
section
open PySem.SeqAt
open PySem.AutoSeq1 (wpAny_loadPart')
open PySem.MeetsSeq PySem.MeetsSeq2 PySem.MeetsSeq3
end
section
variable {prog:Program} {w:World} {A:Around} {E:Value→Shared→Prop} {s:Shared}
def sIx (n d:Nat):Option Int→Nat
 | none=>d
 | some v=>if v<0 then (v + (n:Int)).toNat else min v.toNat n
theorem sIx_none (n d:Nat):sIx n d none=d:=rfl
theorem sIx_nat (n d k:Nat):sIx n d (some (k:Int))=min k n:=by
 show (if (k:Int)<0 then ((k:Int) + (n:Int)).toNat else min (k:Int).toNat n)=min k n
 rw [if_neg (by omega),Int.toNat_natCast]
end
end HT
namespace L2
open PySem PySem.Spec PyProof.Rows
abbrev TO:=St→Hp→(Option Int→Hp→Prop)→Prop
structure PO (X:Cx) (e:Option Expr) (t:TO):Prop where
 go:∀ (pins:List (Addr×Obj)) (s:Shared) (σ:St) (H:Hp) (Q:Option Int→Hp→Prop),Inv X pins σ H s→t σ H Q →
  wpAny (model X.prog X.w) X.A (evalPart e X.env) (fun u s'=>∃ o H',Inv X pins σ H' s'∧IsPart u o∧Q o H') X.xe s
instance {X:Cx} {e:Option Expr} {t:TO}:CoeFun (PO X e t) fun _=>∀ (pins:List (Addr×Obj)) (s:Shared) (σ:St) (H:Hp) (Q:Option Int→Hp→Prop),Inv X pins σ H s→t σ H Q →
 wpAny (model X.prog X.w) X.A (evalPart e X.env) (fun u s'=>∃ o H',Inv X pins σ H' s'∧IsPart u o∧Q o H') X.xe s:=⟨fun h=>h.go⟩
def rT:TO:=fun _ H Q=>Q none H
def tPart (t:TE):TO:=fun σ H Q=>t σ H fun x H1=>∃ i,x = .int i∧Q (some i) H1
theorem ip {ns:List Int}:∀ {us:List Value},aQ (ns.map V.int) us→IntsAre us ns:=by
 induction ns with
 | nil=>intro us r; rw [List.map_nil] at r; cases r; exact .nil
 | cons n ns ih =>
  intro us r
  rw [List.map_cons] at r
  cases r with
  | cons r1 r2 =>
   obtain ⟨t,e⟩:=r1
   subst e
   exact .cons n t (ih r2)
section
variable {X:Cx} {e:Expr} {te:TE} {lo hi:Option Expr} {tl th:TO} {pos p2:Pos}
theorem sU:PO X none rT:=by
 (try refine ⟨?_⟩); intro pins s σ H Q I h
 rw [evalPart_none]
 exact wpAny_pure ⟨none,H,I,.none,h⟩
theorem s9 (h:PE X e te):PO X (some e) (tPart te):=by
 (try refine ⟨?_⟩); intro pins s σ H Q I hw
 rw [evalPart_some]
 refine thn (h pins s σ H _ I hw) fun u s1 ⟨x,H1,I1,r1,q1⟩=>?_
 obtain ⟨i,rfl,q⟩:=q1
 obtain ⟨t,rfl⟩:=r1
 exact ⟨some i,H1,I1,.int i t,q⟩
def SlR (X:Cx) (r:V→Option Int→Option Int→Hp→VK→Prop):Prop :=
 ∀ (pins:List (Addr×Obj)) (s:Shared) (σ:St) (H:Hp) (x:V) (v vl vu:Value) (lo hi:Option Int) (sl:Addr) (Q:VK),Inv X pins σ H s→a8 x v→s.heap.IsSliceOf sl vl vu .none→IsPart vl lo→IsPart vu hi→r x lo hi H Q →
  ∃ T id,typeLookup (.type T) "__getitem__" = pure (some (.builtin id))∧s.TypeIs v T∧wpAny (model X.prog X.w) X.A (getItem v (.ref sl)) (EP X pins σ Q) X.xe s
def tSl (r:V→Option Int→Option Int→Hp→VK→Prop) (te:TE) (tl th:TO):TE:=fun σ H Q=>te σ H fun x H1=>tl σ H1 fun l H2=>th σ H2 fun u H3=>r x l u H3 Q
theorem qd {r:V→Option Int→Option Int→Hp→VK→Prop} (hr:SlR X r) (he:PE X e te) (hl:PO X lo tl) (hu:PO X hi th):PE X (.Subscript e (.Slice lo hi none p2) pos) (tSl r te tl th):=by
 (try refine ⟨?_⟩); intro pins s σ H Q I h
 refine Subscript_ (thn (he pins s σ H _ I h) fun v s1 ⟨x,H1,I1,r1,q1⟩=>?_)
 refine wpAny_Slice (thn (hl pins s1 σ H1 _ I1 q1) fun vl s2 ⟨l,H2,I2,pl,q2⟩=>thn (hu pins s2 σ H2 _ I2 q2) fun vu s3 ⟨u,H3,I3,pu,q3⟩=>?_)
 rw [evalPart_none]
 refine wpAny_pure ?_
 have I4:Inv X pins σ H3 { s3 with heap:=s3.heap.push { cls:=.type "slice",data:=.fields #[vl,vu,.none] } }:=I3.kept (t':=s3.toks) fun b ob q=>Heap.get?_push_of_some _ q
 obtain ⟨T,id,hT,ht,hg⟩:=hr pins { s3 with heap:=s3.heap.push { cls:=.type "slice",data:=.fields #[vl,vu,.none] } } σ H3 x v vl vu l u s3.heap.objs.size Q I4 r1 (Heap.IsSliceOf.new ..) pl pu q3
 show wpAny (model X.prog X.w) X.A (subscriptTail e (.Slice lo hi none p2) v (.ref s3.heap.objs.size)) (EP X pins σ Q) X.xe { s3 with heap:=s3.heap.push { cls:=.type "slice",data:=.fields #[vl,vu,.none] } }
 exact tail_any (ops:=[.ref s3.heap.objs.size,v]) ht hT hg (by with_unfolding_all rfl)
def lP (xs:List V) (lo hi:Option Int):List V:=(xs.drop (HT.sIx xs.length 0 lo)).take (HT.sIx xs.length xs.length hi - HT.sIx xs.length 0 lo)
theorem kX (xs:List V) (lo hi:Option Int):(lP xs lo hi).length≤xs.length:=by
 unfold lP
 rw [List.length_take,List.length_drop]
 omega
end
def ixN (n:Nat) (i:Int):Option Nat:=if 0≤i then (if i<n then some i.toNat else none) else if -(n:Int)≤i then some (i + n).toNat else none
def atI {α:Type} (xs:List α) (i:Int):Option α:=(ixN xs.length i).bind fun j=>xs[j]?
theorem je {n:Nat} {i:Int} {j:Nat} (h:ixN n i=some j):seqIndex? i n=some j∧j<n∧-(n:Int)≤i∧i<n:=by
 unfold ixN at h
 by_cases h0 : 0≤i
 ·rw [if_pos h0] at h
  by_cases h1:i<n
  ·rw [if_pos h1] at h
   have e:i.toNat=j:=Option.some.inj h
   exact ⟨by rw [seqIndex_of h0 h1,e],by omega,by omega,h1⟩
  ·rw [if_neg h1] at h; cases h
 ·rw [if_neg h0] at h
  by_cases h1 : -(n:Int)≤i
  ·rw [if_pos h1] at h
   have e:(i + n).toNat=j:=Option.some.inj h
   exact ⟨by rw [seqIndex_neg (by omega) h1,e],by omega,h1,by omega⟩
  ·rw [if_neg h1] at h; cases h
theorem f8 {α:Type} {xs:List α} {i:Int} {v : α} (h:atI xs i=some v):∃ j,seqIndex? i xs.length=some j∧xs[j]? = some v∧j<xs.length∧-(xs.length:Int)≤i∧i<xs.length:=by
 unfold atI at h
 cases e:ixN xs.length i with
 | none=>rw [e] at h; cases h
 | some j =>
  rw [e] at h
  obtain ⟨h1,h2,h3,h4⟩:=je e
  exact ⟨j,h1,h,h2,h3,h4⟩
theorem f7 {α:Type} {xs:List α} {j:Nat} {v : α} (h:xs[j]? = some v):atI xs (j:Int)=some v:=by
 have hj:j<xs.length:=(List.getElem?_eq_some_iff.mp h).1
 have e:ixN xs.length (j:Int)=some j:=by
  unfold ixN
  rw [if_pos (by omega),if_pos (by omega)]; simp
 unfold atI; rw [e]; exact h
def jq (b:Expr):Prop:=∀ o i,subscripted b false o i=operate [o,i] (getItem o i)
def IxR (X:Cx) (r:R2):Prop :=
 ∀ (value slice:Expr) (pins:List (Addr×Obj)) (s:Shared) (σ:St) (H:Hp) (x y:V) (v u:Value) (Q:VK),Inv X pins σ H s→a8 x v→a8 y u→r x y H Q →
  subscripted slice false v u=operate [v,u] (getItem v u)→wpAny (model X.prog X.w) X.A (subscriptTail value slice v u) (EP X pins σ Q) X.xe s
def MtR (X:Cx) (id:String) (r:V→List V→Hp→VK→Prop):Prop :=
 ∀ (pins:List (Addr×Obj)) (s:Shared) (σ:St) (H:Hp) (x:V) (xs:List V) (v:Value) (us:List Value) (Q:VK),Inv X pins σ H s→a8 x v→aQ xs us→r x xs H Q →
  wpAny (model X.prog X.w) X.A (call (.builtin id) (v :: us)) (EP X pins σ Q) X.xe s
section
variable {X:Cx} {a b:Expr} {ta tb:TE} {pos:Pos}
theorem IxR.or {r r':R2} (h:IxR X r) (h':IxR X r'):IxR X (fun x y H Q=>r x y H Q∨r' x y H Q):=by
 intro value slice pins s σ H x y v u Q I rx ry q hs
 rcases q with q | q
 ·exact h value slice pins s σ H x y v u Q I rx ry q hs
 ·exact h' value slice pins s σ H x y v u Q I rx ry q hs
theorem tN {r:R2} (hr:IxR X r) (ha:PE X a ta) (hb:PE X b tb) (hs:jq b):PE X (.Subscript a b pos) (tOp r ta tb):=by
 (try refine ⟨?_⟩); intro pins s σ H Q I h
 exact Subscript_ (binT ha hb I h fun v u s2 x y H2 I2 rx ry q=>hr a b pins s2 σ H2 x y v u Q I2 rx ry q (hs _ _))
def rIxL (K:PySem.W.Frag):R2:=fun x y H Q=>∃ p xs i v,x = .ref p∧y = .int i∧SqL K H p xs∧atI xs i=some v∧Q v H
def rIxT (K:PySem.W.Frag):R2:=fun x y H Q=>∃ p xs i v,x = .ref p∧y = .int i∧SqT K H p xs∧atI xs i=some v∧Q v H
def rIxS:R2:=fun x y H Q=>∃ z i c,x = .str z∧y = .int i∧z.length≤sizeLine∧atI z.cps.toList i=some c∧Q (.str ⟨#[c]⟩) H
theorem sD:IxR X (rIxL X.K):=by
 intro value slice pins s σ H x y v u Q I rx ry h hs
 obtain ⟨p,xs,i,z,rfl,rfl,hq,he,q⟩:=h
 cases rx
 obtain ⟨t,rfl⟩:=ry
 obtain ⟨its,r,pl,hz⟩:=I.list hq
 obtain ⟨j,h1,h2,h3,h4,h5⟩:=f8 he
 obtain ⟨w,ew,rw'⟩:=r.get h2
 have hl:=r.length
 have hn:=fE
 have fin:EP X pins σ Q w s:=⟨z,H,I,rw',q⟩
 by_cases h0 : 0≤i
 ·have hj:i.toNat=j:=by
   rw [seqIndex_of h0 h5] at h1
   exact Option.some.inj h1
  exact item_listR pl.isList h0 (by omega) (by rw [hj]; simpa using ew) fin hs
 ·have hj:(i + (its.toArray.size:Int)).toNat=j:=by
   rw [seqIndex_neg (by omega) h4] at h1
   rw [List.size_toArray,← hl]
   exact Option.some.inj h1
  exact subscriptTail_builtinR (x:=w) pl.isList.typeIs slot_list_getitem.lookup
   (wpAny_getItem_list_neg (Q:=fun r s'=>r=w∧EP X pins σ Q r s') pl.isList (by omega) (by rw [List.size_toArray] <;> omega) (by omega) (by rw [hj]; simpa using ew) ⟨rfl,fin⟩) hs
theorem ur:IxR X (rIxT X.K):=by
 intro value slice pins s σ H x y v u Q I rx ry h hs
 obtain ⟨p,xs,i,z,rfl,rfl,hq,he,q⟩:=h
 cases rx
 obtain ⟨t,rfl⟩:=ry
 obtain ⟨its,r,pl,hz⟩:=I.tuple hq
 obtain ⟨j,h1,h2,h3,h4,h5⟩:=f8 he
 obtain ⟨w,ew,rw'⟩:=r.get h2
 have hl:=r.length
 have hn:=fE
 have fin:EP X pins σ Q w s:=⟨z,H,I,rw',q⟩
 exact subscriptTail_builtinR (x:=w) pl.typeIs slot_tuple_getitem.lookup
  (getItem_tuple (j:=j) (Q:=fun r s'=>r=w∧EP X pins σ Q r s') pl (by omega) (by omega) (by rw [List.size_toArray,← hl]; exact h1) (by simpa using ew) ⟨rfl,fin⟩) hs
theorem wz:IxR X rIxS:=by
 intro value slice pins s σ H x y v u Q I rx ry h hs
 obtain ⟨z,i,c,rfl,rfl,hz,he,q⟩:=h
 obtain ⟨t,rfl⟩:=rx
 obtain ⟨t',rfl⟩:=ry
 obtain ⟨j,h1,h2,h3,h4,h5⟩:=f8 he
 have hl:z.cps.toList.length=z.length:=by simp [Str.length]
 rw [hl] at h1 h4 h5
 have hn:=fE
 exact tail_any (typeIs_str s z t) slot_str_getitem.lookup (getItem_str (c:=c) (by
  have e1:decide (i < -(2 ^ 63:Int))=false:=decide_eq_false (by omega)
  have e2:decide (i ≥ 2 ^ 63)=false:=decide_eq_false (by omega)
  rw [e1,e2,Bool.or_false]) (by rw [h1]; simpa using h2) ⟨.str ⟨#[c]⟩,H,I.tok _,⟨_,rfl⟩,q⟩) hs
def rIx (K:PySem.W.Frag):R2:=fun x y H Q=>rIxL K x y H Q∨rIxT K x y H Q∨rIxS x y H Q
theorem af:IxR X (rIx X.K):=sD.or (ur.or wz)
theorem kZ (its:List Value) (n j:Nat) (u:Value):Obj.mapSeq (·.setIfInBounds j u) { cls:=.type "list",data:=.seq its.toArray n } = { cls:=.type "list",data:=.seq (its.set j u).toArray n }:=by
 simp [Obj.mapSeq]
theorem Inv.lst {pins:List (Addr×Obj)} {σ:St} {H:Hp} {s:Shared} {p:Addr} {xs:List V} (I:Inv X pins σ H s) (h:H p=some (.lst xs)) :
 ∃ (its:List Value) (n:Nat),aQ xs its∧s.heap.get? p=some { cls:=.type "list",data:=.seq its.toArray n }∧xs.length≤sizeLine:=by
 obtain ⟨z,its,n,r,e⟩:=I.hok p _ h
 exact ⟨its,n,r,e,z⟩
theorem Inv.lstUpd {pins:List (Addr×Obj)} {σ:St} {H:Hp} {s:Shared} {p:Addr} {xs ys:List V} {its its':List Value} {n n':Nat} {f:Obj→Obj} (I:Inv X pins σ H s) (h:H p=some (.lst xs))
 (ho:s.heap.get? p=some { cls:=.type "list",data:=.seq its.toArray n }) (hf:f { cls:=.type "list",data:=.seq its.toArray n } = { cls:=.type "list",data:=.seq its'.toArray n' }) (r:aQ ys its') (hz:ys.length≤sizeLine) (t:Nat) :
 Inv X pins σ (upd H p (.lst ys)) { s with heap:=s.heap.update p f,toks:=t }:=by
 have e:(s.heap.update p f).get? p=some { cls:=.type "list",data:=.seq its'.toArray n' }:=by
  rw [Heap.get?_update_self f ho (by rw [hf] <;> rfl),hf]
 refine I.write (x:=p) (e:=p) (by rw [h]; trivial) (.inl rfl) (fun b u hb q=>(Heap.get?_update_other _ _ (Ne.symm hb)).trans q) ⟨_,e⟩ ?_
 exact ⟨hz,its',n',r,e⟩
def rSetL:V→V→V→Hp→(Hp→Prop)→Prop:=fun o i v H Q=>∃ p xs k j,o = .ref p∧i = .int k∧H p=some (.lst xs)∧ixN xs.length k=some j∧Q (upd H p (.lst (xs.set j v)))
theorem ku:PSet X rSetL:=by
 (try refine ⟨?_⟩); intro pins s σ H o i v ov iv u Q I ro ri rv h
 obtain ⟨p,xs,k,j,rfl,rfl,hp,hj,q⟩:=h
 cases ro
 obtain ⟨t,rfl⟩:=ri
 obtain ⟨its,n,r,ho,hz⟩:=I.lst hp
 obtain ⟨h1,h2,h3,h4⟩:=je hj
 have hl:=r.length
 have hn:=fE
 have I':Inv X pins σ (upd H p (.lst (xs.set j v))) { s with heap:=s.heap.update p (Obj.mapSeq (·.setIfInBounds j u)) } :=
  I.lstUpd hp ho (kZ its n j u) (r.set rv j) (by rw [List.length_set]; exact hz) s.toks
 by_cases h0 : 0≤k
 ·have hk:k.toNat=j:=by
   rw [seqIndex_of h0 h4] at h1
   exact Option.some.inj h1
  exact PySem.W.ki_setAt ho h0 (by omega) (by rw [List.size_toArray,← hl]; exact h4) (by rw [hk]; exact ⟨_,I',q⟩)
 ·have hk:(k + (its.toArray.size:Int)).toNat=j:=by
   rw [seqIndex_neg (by omega) h3] at h1
   rw [List.size_toArray,← hl]
   exact Option.some.inj h1
  exact PySem.W.ki_setBack ho (by omega) (by rw [List.size_toArray,← hl]; exact h3) (by omega) (by rw [hk]; exact ⟨_,I',q⟩)
theorem jK (lo hi:Option Int) (n:Nat):(sliceBounds lo hi none n).1=((HT.sIx n 0 lo:Nat):Int)∧(sliceBounds lo hi none n).2.1=((HT.sIx n n hi:Nat):Int)∧(sliceBounds lo hi none n).2.2=1:=by
 refine ⟨?_,?_,rfl⟩
 ·cases lo with
  | none=>simp [sliceBounds,HT.sIx]
  | some i =>
   simp only [sliceBounds,HT.sIx,Option.getD_none,show (1:Int) > 0 by decide,if_true]
   by_cases h:i<0
   ·simp only [h,if_true] <;> omega
   ·simp only [h,if_false] <;> omega
 ·cases hi with
  | none=>simp [sliceBounds,HT.sIx]
  | some i =>
   simp only [sliceBounds,HT.sIx,Option.getD_none,show (1:Int) > 0 by decide,if_true]
   by_cases h:i<0
   ·simp only [h,if_true] <;> omega
   ·simp only [h,if_false] <;> omega
theorem iB (its:List Value) (lo hi:Option Int):slicePick its.toArray lo hi none=((its.drop (HT.sIx its.length 0 lo)).take (HT.sIx its.length its.length hi - HT.sIx its.length 0 lo)).toArray:=by
 obtain ⟨h1,h2,h3⟩:=jK lo hi its.toArray.size
 unfold slicePick
 rw [h1,h2,h3]
 simp only [sliceRange_one,pick_run,List.size_toArray] <;> rfl
def rSlL (K:PySem.W.Frag):V→Option Int→Option Int→Hp→VK→Prop:=fun x lo hi H Q=>∃ a xs,x = .ref a∧SqL K H a xs∧∀ p,H p=none→Q (.ref p) (upd H p (.lst (lP xs lo hi)))
theorem r6:SlR X (rSlL X.K):=by
 (try refine ⟨?_⟩); intro pins s σ H x v vl vu lo hi sl Q I rx hs pl pu h
 obtain ⟨a,xs,rfl,hx,q⟩:=h
 cases rx
 obtain ⟨its,r,ht,hz⟩:=I.list hx
 have hlen:=r.length
 refine ⟨"list",_,slot_list_getitem.lookup,ht.isList.typeIs,?_⟩
 refine wpAny_getItem_list_slice ht.isList hs pl pu .none (by simp) ?_ (by rw [List.size_toArray] <;> omega)
 rw [iB,← hlen]
 refine ⟨.ref s.heap.objs.size,_,I.laid (t':=s.toks) (o:=.lst (lP xs lo hi)) (fun b ob q=>Heap.get?_push_of_some _ q) (Nat.le_refl _) ?_,rfl,q _ (I.hok.fresh (Nat.le_refl _))⟩
 exact ⟨Nat.le_trans (kX xs lo hi) hz,_,0,(r.drop (HT.sIx xs.length 0 lo)).take (HT.sIx xs.length xs.length hi - HT.sIx xs.length 0 lo),Heap.get?_push_size _ rfl⟩
def fm:V→Bool
 | .non=>true
 | .bl _=>true
 | .int _=>true
 | .str _=>true
 | _=>false
def eqV:V→V→Bool
 | .non,.non=>true
 | .bl a,.bl b=>a == b
 | .bl a,.int b=>(if a then 1 else 0) == b
 | .int a,.bl b=>a == (if b then 1 else 0)
 | .int a,.int b=>a == b
 | .str a,.str b=>a == b
 | _,_=>false
theorem wg {A:Around} {s:Shared} {y x:V} {u v:Value} (ry:a8 y u) (rx:a8 x v) (fy:fm y=true) (fx:fm x=true):SeqAt.EqAt A s u v (eqV y x):=by
 cases y with
 | non =>
  cases ry
  cases x with
  | non=>cases rx; exact SeqAt.EqAt.same _
  | bl b=>cases rx; exact SeqAt.EqAt.none_bool b
  | int b=>obtain ⟨t,rfl⟩:=rx; exact SeqAt.EqAt.none_int b t
  | str b=>obtain ⟨t,rfl⟩:=rx; exact SeqAt.EqAt.none_str b t
  | _=>exact absurd (show false=true from fx) Bool.false_ne_true
 | bl a =>
  cases ry
  cases x with
  | non=>cases rx; exact SeqAt.EqAt.bool_none a
  | bl b=>cases rx; exact SeqAt.EqAt.bool_bool a b
  | int b=>obtain ⟨t,rfl⟩:=rx; exact SeqAt.EqAt.bool_int a b t
  | str b=>obtain ⟨t,rfl⟩:=rx; exact SeqAt.EqAt.bool_str a b t
  | _=>exact absurd (show false=true from fx) Bool.false_ne_true
 | int a =>
  obtain ⟨t',rfl⟩:=ry
  cases x with
  | non=>cases rx; exact SeqAt.EqAt.int_none a t'
  | bl b=>cases rx; exact SeqAt.EqAt.int_bool a t' b
  | int b=>obtain ⟨t,rfl⟩:=rx; exact SeqAt.EqAt.int_int a t' b t
  | str b=>obtain ⟨t,rfl⟩:=rx; exact SeqAt.EqAt.int_str a t' b t
  | _=>exact absurd (show false=true from fx) Bool.false_ne_true
 | str a =>
  obtain ⟨t',rfl⟩:=ry
  cases x with
  | non=>cases rx; exact SeqAt.EqAt.str_none a t'
  | bl b=>cases rx; exact SeqAt.EqAt.str_bool a t' b
  | int b=>obtain ⟨t,rfl⟩:=rx; exact SeqAt.EqAt.str_int a t' b t
  | str b=>obtain ⟨t,rfl⟩:=rx; exact SeqAt.EqAt.str_str a t' b t
  | _=>exact absurd (show false=true from fx) Bool.false_ne_true
 | _=>exact absurd (show false=true from fy) Bool.false_ne_true
def eqU (x:V) (u:Value):Bool:=match u with
 | .none=>eqV .non x
 | .bool b=>eqV (.bl b) x
 | .int i _=>eqV (.int i) x
 | .str z _=>eqV (.str z) x
 | _=>false
theorem oz {x y:V} {u:Value} (r:a8 y u) (f:fm y=true):eqU x u=eqV y x:=by
 cases y with
 | non=>cases r; rfl
 | bl b=>cases r; rfl
 | int i=>obtain ⟨t,rfl⟩:=r; rfl
 | str z=>obtain ⟨t,rfl⟩:=r; rfl
 | _=>exact absurd (show false=true from f) Bool.false_ne_true
theorem fP {x:V}:∀ {xs:List V} {us:List Value},aQ xs us→xs.all fm=true→us.any (eqU x)=xs.any fun y=>eqV y x
 | _,_,.nil,_=>rfl
 | y :: xs,u :: us,.cons r t,f=>by
  rw [List.all_cons,Bool.and_eq_true] at f
  rw [List.any_cons,List.any_cons,oz r f.1,fP t f.2]
theorem eT {A:Around} {s:Shared} {x:V} {v:Value} (rx:a8 x v) (fx:fm x=true):∀ {xs:List V} {us:List Value},aQ xs us→xs.all fm=true→∀ u∈us,SeqAt.EqAt A s u v (eqU x u)
 | _,_,.nil,_=>fun u hu=>by cases hu
 | y :: xs,u :: us,.cons r t,f=>fun u' hu=>by
  rw [List.all_cons,Bool.and_eq_true] at f
  rcases List.mem_cons.mp hu with rfl | hu
  ·rw [oz r f.1]; exact wg r rx f.1 fx
  ·exact eT rx fx t f.2 u' hu
def inV (x:V) (xs:List V):Bool:=xs.any fun y=>eqV y x
def rIn (K:PySem.W.Frag) (neg:Bool):R2:=fun x y H Q=>∃ p xs,y = .ref p∧(SqL K H p xs∨SqT K H p xs)∧fm x=true∧xs.all fm=true∧Q (.bl (if neg then !inV x xs else inV x xs)) H
theorem nE:OpR X (compareOp .In) (rIn X.K false):=by
 (try refine ⟨?_⟩); intro pins s σ H x y v u Q I rx ry h
 obtain ⟨p,xs,rfl,hq,fx,fs,q⟩:=h
 cases ry
 rcases hq with hq | hq
 ·obtain ⟨its,r,pl,hz⟩:=I.list hq
  refine SeqAt.in_listAt (eqU x) pl.isList (fun w hw=>eT rx fx r fs w (by simpa using hw)) ⟨.bl _,H,I,rfl,?_⟩
  rw [show its.toArray.any (eqU x)=its.any (eqU x) by simp,fP r fs]
  exact q
 ·obtain ⟨its,r,pl,hz⟩:=I.tuple hq
  refine SeqAt.in_tupleAt (eqU x) pl (fun w hw=>eT rx fx r fs w (by simpa using hw)) ⟨.bl _,H,I,rfl,?_⟩
  rw [show its.toArray.any (eqU x)=its.any (eqU x) by simp,fP r fs]
  exact q
theorem jr:OpR X (compareOp .NotIn) (rIn X.K true):=by
 (try refine ⟨?_⟩); intro pins s σ H x y v u Q I rx ry h
 obtain ⟨p,xs,rfl,hq,fx,fs,q⟩:=h
 cases ry
 rcases hq with hq | hq
 ·obtain ⟨its,r,pl,hz⟩:=I.list hq
  refine SeqAt.notIn_listAt (eqU x) pl.isList (fun w hw=>eT rx fx r fs w (by simpa using hw)) ⟨.bl _,H,I,rfl,?_⟩
  rw [show its.toArray.any (eqU x)=its.any (eqU x) by simp,fP r fs]
  exact q
 ·obtain ⟨its,r,pl,hz⟩:=I.tuple hq
  refine SeqAt.notIn_tupleAt (eqU x) pl (fun w hw=>eT rx fx r fs w (by simpa using hw)) ⟨.bl _,H,I,rfl,?_⟩
  rw [show its.toArray.any (eqU x)=its.any (eqU x) by simp,fP r fs]
  exact q
theorem aA:cD X (.builtin "len") (fun xs H Q=>∃ p ys,xs=[.ref p]∧(SqL X.K H p ys∨SqT X.K H p ys)∧Q (.int ys.length) H):=by
 (try refine ⟨?_⟩); intro pins s σ H xs us Q I r h
 obtain ⟨p,ys,rfl,hq,q⟩:=h
 obtain ⟨u,rfl,rx⟩:=eQ r
 cases rx
 have hn:=fE
 rcases hq with hq | hq
 ·obtain ⟨its,r',pl,hz⟩:=I.list hq
  have hlen:=r'.length
  exact Calls.call_len_list pl.isList (by simp only [List.size_toArray] <;> omega) ⟨.int ys.length,H,I.tok _,⟨s.toks + 1,by rw [List.size_toArray,hlen]⟩,q⟩
 ·obtain ⟨its,r',pl,hz⟩:=I.tuple hq
  have hlen:=r'.length
  exact len_tuple pl (by simp only [List.size_toArray] <;> omega) ⟨.int ys.length,H,I.tok _,⟨s.toks + 1,by rw [List.size_toArray,hlen]⟩,q⟩
theorem bx:cD X (.type "list") (fun xs H Q=>∃ p ys,xs=[.ref p]∧(SqL X.K H p ys∨SqT X.K H p ys)∧∀ l,H l=none→Q (.ref l) (upd H l (.lst ys))):=by
 (try refine ⟨?_⟩); intro pins s σ H xs us Q I r h
 obtain ⟨p,ys,rfl,hq,q⟩:=h
 obtain ⟨u,rfl,rx⟩:=eQ r
 cases rx
 have fin:∀ (its:List Value),aQ ys its→ys.length≤sizeLine→∀ (h':Heap) (c':Nat),(∀ b o',s.heap.get? b=some o'→h'.get? b=some o') →
  h'.get? s.heap.objs.size=some { cls:=.type "list",dict:=none,data:=.seq its.toArray c',slots:=#[] }→EP X pins σ Q (.ref s.heap.objs.size) { s with heap:=h' }:=fun its r' hz h' c' kp e =>
  ⟨.ref s.heap.objs.size,_,I.laid (t':=s.toks) kp (Nat.le_refl _) (show bS X.prog X.w _ h' _ (.lst ys) from ⟨hz,its,c',r',e⟩),rfl,q _ (I.hok.fresh (Nat.le_refl _))⟩
 rcases hq with hq | hq
 ·obtain ⟨its,r',pl,hz⟩:=I.list hq
  have hlen:=r'.length
  obtain ⟨o,ho,hc,n,hd⟩:=pl.isList
  exact call_list_seq p (.inl rfl) ho hc hd (fun h' c' kp e=>fin its r' hz h' c' kp e) (by simp only [List.size_toArray] <;> omega)
 ·obtain ⟨its,r',pl,hz⟩:=I.tuple hq
  have hlen:=r'.length
  obtain ⟨o,ho,hc,n,hd⟩:=pl
  exact call_list_seq p (.inr rfl) ho hc hd (fun h' c' kp e=>fin its r' hz h' c' kp e) (by simp only [List.size_toArray] <;> omega)
def tyV (K:PySem.W.Frag) (T:String) (x:V) (H:Hp):Prop:=match x with
 | .str _=>T = "str"
 | .int _=>T = "int"
 | .ref p=>(T = "list" ∧ ∃ xs,SqL K H p xs)∨(T = "tuple" ∧ ∃ o,K.lookup p=some o∧o.cls = .type "tuple" ∧ o.dict=none) ∨
  (T = "dict" ∧ ((∃ kvs,H p=some (.dK kvs))∨∃ kvs,H p=some (.dT kvs)))∨(T = "set" ∧ ∃ S n,H p=some (.set S n))
 | _=>False
theorem pT {pins:List (Addr×Obj)} {σ:St} {H:Hp} {s:Shared} {T:String} {x:V} {v:Value} (I:Inv X pins σ H s) (r:a8 x v) (ty:tyV X.K T x H) :
 s.TypeIs v T∧∀ a,v = .ref a→∃ ob,s.heap.get? a=some ob∧ob.dict=none:=by
 cases x with
 | str z =>
  obtain ⟨t,rfl⟩:=r
  cases (show T = "str" from ty)
  exact ⟨typeIs_str s z t,fun _ e=>nomatch e⟩
 | int i =>
  obtain ⟨t,rfl⟩:=r
  cases (show T = "int" from ty)
  exact ⟨typeIs_int s i t,fun _ e=>nomatch e⟩
 | ref p =>
  cases r
  rcases ty with ⟨rfl,xs,hq⟩ | ⟨rfl,o,hk,hc,hd⟩ | ⟨rfl,hk⟩ | ⟨rfl,S,n,hk⟩
  ·obtain ⟨its,_,pl,_⟩:=I.list hq
   refine ⟨pl.isList.typeIs,fun a e=>?_⟩
   cases e
   obtain ⟨o,n,e,c,hd,_⟩:=pl
   exact ⟨o,e,hd⟩
  ·refine ⟨⟨o,I.kIn p o hk,hc⟩,fun a e=>?_⟩
   cases e
   exact ⟨o,I.kIn _ o hk,hd⟩
  ·have z:∃ o,s.heap.get? p=some o∧o.ExactDict:=by
    rcases hk with ⟨kvs,hk⟩ | ⟨kvs,hk⟩
    ·obtain ⟨_,_,_,_,o,_,_,e,ex,_⟩:=I.hok p _ hk
     exact ⟨o,e,ex⟩
    ·obtain ⟨_,_,_,_,o,_,_,e,ex,_⟩:=I.hok p _ hk
     exact ⟨o,e,ex⟩
   obtain ⟨o,e,ex⟩:=z
   refine ⟨⟨o,e,ex.1⟩,fun a e2=>?_⟩
   cases e2
   exact ⟨o,e,ex.2.1⟩
  ·obtain ⟨o,_,_,_,e,ex,_⟩:=I.hok p _ hk
   refine ⟨⟨o,e,ex.1⟩,fun a e2=>?_⟩
   cases e2
   exact ⟨o,e,ex.2.1⟩
 | _=>exact False.elim ty
def tBM0 (K:PySem.W.Frag) (T:String) (r:V→List V→Hp→VK→Prop) (to:TE):TE:=fun σ H Q=>to σ H fun x H1=>tyV K T x H1∧r x [] H1 Q
def tBM (K:PySem.W.Frag) (T:String) (r:V→List V→Hp→VK→Prop) (to:TE) (t:TA):TE:=fun σ H Q=>to σ H fun x H1=>tyV K T x H1∧t σ H1 fun xs H2=>r x xs H2 Q
variable {o e:Expr} {es:List Expr} {to:TE} {t:TA} {name:Str} {apos cpos:Pos} {T id:String} {r:V→List V→Hp→VK→Prop}
theorem wb (pa:PlainAttrs T) (slot:Slot T name id) (hty:typeOf (.builtin id)=pure (.type "method_descriptor")) (hm:MtR X id r) (ho:PE X o to)
 (hbase:attributeBase o name X.env (eval o X.env)=eval o X.env:=by rfl) (hline:(apos.endLine == cpos.line)=true:=by rfl):PE X (.Call (.Attribute o name apos) [] [] cpos) (tBM0 X.K T r to):=by
 (try refine ⟨?_⟩); intro pins s σ H Q I h
 refine wpAny_Call_method0_late hbase hline (thn (ho pins s σ H _ I h) fun v s1 ⟨x,H1,I1,r1,ty,q1⟩=>?_)
 obtain ⟨h1,h2⟩:=pT I1 r1 ty
 exact ⟨T,id,pa,slot,hty,h1,h2,Calls.callWith_builtin rfl (PySem.evalArgs_none (hm pins s1 σ H1 x [] v [] Q I1 r1 .nil q1))⟩
theorem tF (pa:PlainAttrs T) (slot:Slot T name id) (hty:typeOf (.builtin id)=pure (.type "method_descriptor")) (hm:MtR X id r) (ho:PE X o to) (ha:PA X (e :: es) t)
 (hbase:attributeBase o name X.env (eval o X.env)=eval o X.env:=by rfl)
 (hfew:((backTo cpos (starEach (e :: es) X.env)).all (fun x=>!x.1)&&(backToKw cpos (keywordEach [] X.env)).all (fun x=>x.1.isSome)
  && decide ((e :: es).length + ([]:List Keyword).length + (if ([]:List Keyword).isEmpty then 0 else 1)<30))=true:=by rfl)
 (hline:(apos.endLine == cpos.line)=true:=by rfl) (hs:starEach (e :: es) X.env=(false,eval e X.env) :: starEach es X.env:=by rfl) (hplain:(backTo cpos (starEach es X.env)).any (·.1)=false:=by rfl) :
 PE X (.Call (.Attribute o name apos) (e :: es) [] cpos) (tBM X.K T r to t):=by
 (try refine ⟨?_⟩); intro pins s σ H Q I h
 refine wpAny_Call_method_late hbase hfew hline rfl (thn (ho pins s σ H _ I h) fun v s1 ⟨x,H1,I1,r1,ty,q1⟩=>?_)
 obtain ⟨h1,h2⟩:=pT I1 r1 ty
 refine ⟨T,id,pa,slot,hty,h1,h2,?_⟩
 have hA:=ha cpos pins s1 σ H1 _ I1 q1
 rw [hs] at hA ⊢
 refine Calls.callWith_builtin (by show (false||(backTo cpos (starEach es X.env)).any (·.1))=false; rw [hplain] <;> rfl) (Calls.evalArgs_plain ?_)
 exact thn hA fun us s2 ⟨vs,H2,I2,r2,q2⟩=>hm pins s2 σ H2 x vs v us Q I2 r1 r2 q2
/- xs.append(e),list.index on a module's tuple .. are MtR facts of 06m -/
end
def MtM (X:Cx) (id:String) (r:V→List V→Hp→VK→Prop):Prop :=
 ∀ (pins:List (Addr×Obj)) (s:Shared) (σ:St) (H:Hp) (x:V) (xs:List V) (v:Value) (us:List Value) (Q:VK),Inv X pins σ H s→a8 x v→aQ xs us→r x xs H Q →
  wpAny (model X.prog X.w) X.A (call (.builtin id) (v :: us)) (EP X pins σ Q) X.xe s
theorem aQ.one:∀ {x:V} {us:List Value},aQ [x] us→∃ u,us=[u]∧a8 x u:=fun h=>by
 cases h with
 | cons r q=>cases q; exact ⟨_,rfl,r⟩
theorem aQ.zero:∀ {us:List Value},aQ [] us→us=[]
 | _,.nil=>rfl
theorem aQ.dropLast {xs:List V} {us:List Value} (h:aQ xs us):aQ xs.dropLast us.dropLast:=by
 induction h with
 | nil=>exact .nil
 | cons r t ih =>
  cases t with
  | nil=>exact .nil
  | cons q t'=>exact .cons r ih
theorem aQ.reverse {xs:List V} {us:List Value} (h:aQ xs us):aQ xs.reverse us.reverse:=by
 induction h with
 | nil=>exact .nil
 | cons r t ih=>rw [List.reverse_cons,List.reverse_cons]; exact aQ.append ih (.cons r .nil)
theorem aQ.rep {xs:List V} {us:List Value} (h:aQ xs us):∀ k:Nat,aQ (List.replicate k xs).flatten (List.replicate k us).flatten
 | 0=>.nil
 | k + 1=>by
  rw [List.replicate_succ,List.replicate_succ,List.flatten_cons,List.flatten_cons]
  exact aQ.append h (aQ.rep h k)
theorem lm {α:Type} (l:List α):l.eraseIdx (l.length - 1)=l.dropLast:=by
 induction l with
 | nil=>rfl
 | cons a r ih =>
  cases r with
  | nil=>rfl
  | cons b r =>
   have e:(a :: b :: r).length - 1=((b :: r).length - 1) + 1:=by
    have h1:(a :: b :: r).length=r.length + 2:=rfl
    have h2:(b :: r).length=r.length + 1:=rfl
    omega
   rw [e,List.eraseIdx_cons_succ,ih]
   all_goals rfl
theorem i5 (its:List Value):∀ (k:Nat) (acc:List Value),
 List.foldl (fun x1 x2=>x1++x2) acc.toArray (List.replicate k its.toArray)=(acc++(List.replicate k its).flatten).toArray
 | 0,acc=>by simp
 | k + 1,acc=>by
  have e:acc.toArray++its.toArray=(acc++its).toArray:=by simp
  have e2:(acc++its)++(List.replicate k its).flatten=acc++(List.replicate (k + 1) its).flatten:=by
   rw [List.replicate_succ,List.flatten_cons,List.append_assoc]
  rw [← e2,← i5 its k (acc++its),← e,List.replicate_succ,List.foldl_cons]
section
variable {X:Cx} {pins:List (Addr×Obj)} {σ:St} {H:Hp} {s:Shared} {l b:Addr} {xs ys zs:List V}
theorem Inv.lset {its its':List Value} {n:Nat} {f:Array Value→Array Value} {t':Nat} (I:Inv X pins σ H s) (hH:H l=some (.lst xs))
 (e:s.heap.get? l=some { cls:=.type "list",data:=.seq its.toArray n }) (hf:f its.toArray=its'.toArray) (hv:aQ ys its') (hz:ys.length≤sizeLine) :
 Inv X pins σ (upd H l (.lst ys)) { s with heap:=s.heap.update l (Obj.mapSeq f),toks:=t' }:=by
 have q:=PySem.IsL.update e f
 rw [hf] at q
 refine I.write (x:=l) (e:=l) (by rw [hH]; exact trivial) (.inl rfl) (fun b' u hb hu=>(Heap.get?_update_other s.heap (Obj.mapSeq f) (Ne.symm hb)).trans hu) ⟨_,q⟩ ?_
 exact ⟨hz,its',_,hv,q⟩
theorem Inv.lnew {its:List Value} {t':Nat} (I:Inv X pins σ H s) (hv:aQ ys its) (hz:ys.length≤sizeLine) :
 Inv X pins σ (upd H s.heap.objs.size (.lst ys)) { s with heap:=s.heap.push { cls:=.type "list",data:=.seq its.toArray },toks:=t' } :=
 I.laid (fun _ _ q=>Heap.get?_push_of_some _ q) (Nat.le_refl _) ⟨hz,its,0,hv,Heap.get?_push_size _ rfl⟩
theorem Inv.fresh (I:Inv X pins σ H s):H s.heap.objs.size=none:=I.hok.fresh (Nat.le_refl _)
theorem Inv.lstM (I:Inv X pins σ H s) (hH:H l=some (.lst xs)):xs.length≤sizeLine∧∃ (its:List Value) (n:Nat),aQ xs its∧xs.length=its.length∧s.heap.get? l=some { cls:=.type "list",data:=.seq its.toArray n }:=by
 obtain ⟨z,its,n,r,e⟩:=I.hok l _ hH
 exact ⟨z,its,n,r,r.length,e⟩
theorem j7 {n:Nat} (h:n≤sizeLine):Builtin.List.listTooLong n=false:=by
 unfold Builtin.List.listTooLong
 exact decide_eq_false (by omega)
end
section
variable {X:Cx}
def sF:V→List V→Hp→VK→Prop:=fun x vs H Q=>∃ l xs y,x = .ref l∧vs=[y]∧H l=some (.lst xs)∧xs.length<sizeLine∧Q .non (upd H l (.lst (xs++[y])))
theorem iZ:MtM X "list.append" sF:=by
 (try refine ⟨?_⟩); intro pins s σ H x vs v us Q I rx rv h
 obtain ⟨l,xs,y,rfl,rfl,hH,hz,q⟩:=h
 cases rx
 obtain ⟨u,rfl,ru⟩:=rv.one
 obtain ⟨z,its,n,r,hl,e⟩:=I.lstM hH
 refine call_meets F.slot_list_append ⟨_,e,rfl⟩ F.entry_list_append (F.args_list_append_2 _ _) (PySem.list_append l its.toArray n u (by rw [List.size_toArray]; omega)) ⟨e,?_⟩
 refine ⟨.non,_,I.lset (its':=its++[u]) hH e (by simp) (r.append (.cons ru .nil)) ?_,rfl,q⟩
 rw [List.length_append,List.length_singleton]
 omega
def rY:V→List V→Hp→VK→Prop:=fun x vs H Q=>∃ l b xs zs,x = .ref l∧vs=[.ref b]∧H l=some (.lst xs)∧H b=some (.lst zs)∧xs.length + zs.length≤sizeLine∧Q .non (upd H l (.lst (xs++zs)))
theorem wY:MtM X "list.extend" rY:=by
 (try refine ⟨?_⟩); intro pins s σ H x vs v us Q I rx rv h
 obtain ⟨l,b,xs,zs,rfl,rfl,hH,hB,hz,q⟩:=h
 cases rx
 obtain ⟨u,rfl,ru⟩:=rv.one
 cases ru
 obtain ⟨z,its,n,r,hl,e⟩:=I.lstM hH
 obtain ⟨z2,its2,n2,r2,hl2,e2⟩:=I.lstM hB
 have hsz:its.toArray.size + its2.toArray.size≤sizeLine:=by rw [List.size_toArray,List.size_toArray]; omega
 have hlong : ¬ (!its.toArray.isEmpty&&Builtin.List.listTooLong (its.toArray.size + its2.toArray.size))=true:=by
  rw [j7 hsz,Bool.and_false]
  exact Bool.false_ne_true
 refine call_meets F.slot_list_extend ⟨_,e,rfl⟩ F.entry_list_extend (F.args_list_extend_2 _ _)
  (AutoSeq1.list_extend_list_list_0 l its.toArray n b its2.toArray n2 hlong (by rw [List.size_toArray]; omega) (by omega)) ⟨e,e2,?_⟩
 refine ⟨.non,_,I.lset (its':=its++its2) hH e (by simp) (r.append r2) ?_,rfl,q⟩
 rw [List.length_append]
 omega
def rPop:V→List V→Hp→VK→Prop:=fun x vs H Q=>∃ l xs y,x = .ref l∧vs=[]∧H l=some (.lst xs)∧xs[xs.length - 1]? = some y∧Q y (upd H l (.lst xs.dropLast))
theorem vQ:MtM X "list.pop" rPop:=by
 (try refine ⟨?_⟩); intro pins s σ H x vs v us Q I rx rv h
 obtain ⟨l,xs,y,rfl,rfl,hH,hy,q⟩:=h
 cases rx
 have hus:=rv.zero
 subst hus
 obtain ⟨z,its,n,r,hl,e⟩:=I.lstM hH
 obtain ⟨u,hu,ru⟩:=r.get hy
 have hy':its.toArray[its.toArray.size - 1]? = some u:=by
  show its.toArray[its.length - 1]? = some u
  rw [← Array.getElem?_toList,← hl]
  exact hu
 refine call_meets F.slot_list_pop ⟨_,e,rfl⟩ F.entry_list_pop (F.args_list_pop_1 _) (MeetsSeq.list_pop_last l its.toArray n u hy' (by rw [List.size_toArray]; omega)) ⟨e,?_⟩
 refine ⟨y,_,I.lset (its':=its.dropLast) hH e ?_ r.dropLast ?_,ru,q⟩
 ·show its.toArray.eraseIdxIfInBounds (its.toArray.size - 1)=its.dropLast.toArray
  rw [List.size_toArray,List.eraseIdxIfInBounds_toArray,lm]
 ·rw [List.length_dropLast]
  omega
def rCat:R2:=fun x y H Q=>∃ l b xs zs,x = .ref l∧y = .ref b∧H l=some (.lst xs)∧H b=some (.lst zs)∧xs.length + zs.length≤sizeLine∧∀ p,H p=none→Q (.ref p) (upd H p (.lst (xs++zs)))
theorem lT:OpR X (binaryOp .Add) rCat:=by
 (try refine ⟨?_⟩); intro pins s σ H x y v u Q I rx ry h
 obtain ⟨l,b,xs,zs,rfl,rfl,hH,hB,hz,q⟩:=h
 cases rx
 cases ry
 obtain ⟨z,its,n,r,hl,e⟩:=I.lstM hH
 obtain ⟨z2,its2,n2,r2,hl2,e2⟩:=I.lstM hB
 refine PySem.P.add_list e e2 ?_ (by rw [List.size_toArray,List.size_toArray]; omega)
 have ea:its.toArray++its2.toArray=(its++its2).toArray:=by simp
 rw [ea]
 exact ⟨.ref _,_,I.lnew (t':=s.toks) (r.append r2) (by rw [List.length_append]; omega),rfl,q _ I.fresh⟩
def rRep:R2:=fun x y H Q=>∃ l k xs,x = .ref l∧y = .int k∧H l=some (.lst xs)∧-(2 ^ 63)≤k∧k<2 ^ 63∧xs.length * k.toNat≤sizeLine ∧
 ∀ p,H p=none→Q (.ref p) (upd H p (.lst (List.replicate k.toNat xs).flatten))
theorem tp {α:Type} (xs:List α) (k:Nat):(List.replicate k xs).flatten.length=k * xs.length:=by
 induction k with
 | zero=>simp
 | succ k ih=>rw [List.replicate_succ,List.flatten_cons,List.length_append,ih,Nat.succ_mul,Nat.add_comm]
theorem gj:OpR X (binaryOp .Mult) rRep:=by
 (try refine ⟨?_⟩); intro pins s σ H x y v u Q I rx ry h
 obtain ⟨l,k,xs,rfl,rfl,hH,h1,h2,hz,q⟩:=h
 cases rx
 obtain ⟨t,rfl⟩:=ry
 obtain ⟨z,its,n,r,hl,e⟩:=I.lstM hH
 have hlen:its.toArray.size * k.toNat≤sizeLine:=by rw [List.size_toArray,← hl]; exact hz
 have hcap : ¬ its.toArray.size * k.toNat > (2 ^ 63 - 1) / 8:=by
  have:(sizeLine:Nat)≤(2 ^ 63 - 1) / 8:=by decide
  omega
 have hfit : ¬ (!Builtin.List.listFitsIndex k)=true:=by
  rw [fitsIndex_both h1 h2]
  exact Bool.false_ne_true
 have hlong : ¬ Builtin.List.listTooLong (its.toArray.size * k.toNat)=true:=by
  rw [j7 hlen]
  exact Bool.false_ne_true
 have hnew:List.foldl (fun x1 x2=>x1++x2) #[] (List.replicate (if its.toArray.isEmpty=true then 0 else k.toNat) its.toArray)=(List.replicate k.toNat its).flatten.toArray:=by
  have f0:∀ m:Nat,List.foldl (fun x1 x2=>x1++x2) #[] (List.replicate m its.toArray)=(List.replicate m its).flatten.toArray:=fun m=>by
   have:=i5 its m []
   rw [List.nil_append] at this
   exact this
  rw [f0]
  cases its with
  | nil=>simp
  | cons a r'=>rw [if_neg (by simp)]
 refine wpAny_binaryOp_repeat_ref (T:="list") (U:="int") (by decide) ⟨_,e,rfl⟩ (fun s'=>typeIs_int s' k t) noFill_list_mul F.fills_int_mul F.slot_int_rmul repeat_list F.slot_int_index.lookup
  (call_meets F.slot_int_rmul (typeIs_int s k t) F.entry_int_rmul (F.args_int_rmul_2 _ _) (int___rmul___int_list k t l its.toArray n)
   ⟨e,rfl,⟨_,e,rfl⟩,call_meets F.slot_list_mul ⟨_,e,rfl⟩ F.entry_list_mul (F.args_list_mul_2 _ _) (AutoListH.list___mul___list_int_3 l its.toArray n k t hfit hcap hlong) ⟨e,?_⟩⟩)
 rw [hnew]
 exact ⟨.ref _,_,I.lnew (t':=s.toks) (r.rep k.toNat) (by rw [tp,Nat.mul_comm]; exact hz),rfl,q _ I.fresh⟩
end
section
variable {prog:Program} {w:World} {A:Around} {E:Value→Shared→Prop} {s:Shared}
end
section
variable {X:Cx}
end
end L2
namespace Att
open PySem PySem.W PySem.Calls PyProof.Rows
theorem gN {P:Params} {h:Heap}:∀ (ns:List Int) (vs:List Value),WellAll P h vs (ns.map WData.int)→IntsAre vs ns:=by
 intro ns
 induction ns with
 | nil =>
  intro vs w
  rw [List.map_nil] at w
  cases w
  exact .nil
 | cons n ns ih =>
  intro vs w
  rw [List.map_cons] at w
  cases w with
  | cons a b =>
   cases a
   exact .cons _ _ (ih _ b)
theorem nP {l:OpenLaw} {n:Nat} (hn:l.most=some n) {P:Params} {h:Heap} {args:List WData} {vals:List Value}
 (hpre:l.row.toRowW.claim.pre args=true) (hwl:WellAll P h vals args) :
 ∃ a vs ns,vals=[Value.ref a]∧args=[WData.list (ns.map WData.int)]∧h.get? a=some { cls:=.type "list",data:=.seq vs.toArray }∧IntsAre vs ns∧ns.length≤n:=by
 have hsh:WShape.hasAll [] args [.list .int]=true:=(pre_splitW hpre).1
 have hc:l.pre.holds [] { args:=args } = true:=(pre_splitW hpre).2
 obtain ⟨d,r,rfl,h1,h2⟩:=hasAllW_cons hsh
 obtain rfl:=hasAllW_nil h2
 obtain ⟨xs,rfl,h3⟩:=hasW_list h1
 obtain ⟨ns,rfl⟩:=items_int h3
 have hlen:ns.length≤n:=by
  unfold OpenLaw.pre at hc
  have h4:(WTm.not (.lt (.lit (.int (n:Int))) (.len (.arg 0)))).holds [] { args:=[.list (ns.map .int)] } = true:=by
   have h4:=(holds_andW hc).1
   rw [hn] at h4
   exact h4
  have h5:=condW_of h4 (w_not (w_lt w_lit (w_len_list (w_arg rfl))))
  rw [List.length_map] at h5
  refine Nat.le_of_not_lt fun q=>?_
  have q':(n:Int)<((ns.length:Nat):Int):=by omega
  first
   | (rw [decide_eq_true q'] at h5; exact absurd h5 (by decide))
   | (simp at h5; omega)
 cases hwl with
 | cons w1 w2 =>
  cases w2
  cases w1 with
  | list ho hall=>exact ⟨_,_,ns,rfl,rfl,ho,gN ns _ hall,hlen⟩
theorem ni (l:OpenLaw) (args:List WData):l.row.toRowW.claim.post args (.bool true) args=true :=
 postW_of (r:=l.row.toRowW) (X:=(true == true))
  (show WShape.has [] (.bool true) .bool=true by first | rfl | decide | simp [WShape.has,WShape.arms,WShape.armsAll])
  (show (WTm.eq .res (.lit (.bool true))).value [] { args:=args,res:=some (.bool true),after:=args } = some (.bool (true == true)) from w_eq_bool (w_res rfl) w_lit) rfl
theorem attach_call {l:OpenLaw} {n:Nat} {q:Program} {loose:List Str} {XP:(Str→Option Value)→Heap→Prop} {YP:World→Heap→Prop} {d:DefRec}
 (hn:l.most=some n) (hdf:d.params.defaults=[])
 (call:∀ (w:World) (s₀ s₁:Shared) (mg mb:Str→Option Value) (fa:Addr) (o:Obj) (pm cd doc:Value) (a:Addr) (vs:List Value) (ns:List Int),
  Ground q loose [] XP w s₀ mg mb s₁.heap→YP w s₁.heap →
  s₁.heap.get? fa=some o→o.data = .func (docDef d.name d.params d.body d.scope pm cd doc)→s₁.heap.CodeRec cd d.name→mg d.name=some (.ref fa) →
  s₁.heap.get? a=some { cls:=.type "list",data:=.seq vs.toArray }→IntsAre vs ns→ns.length≤n→s₁.gens = #[] →
  codeAny (model l.prog w) callerA (.call (.ref fa) ⟨[.ref a],[]⟩) (fun r s'=>r = .ok (.ret (.bool true))∧OldK s₁.heap s'.heap∧s'.os=s₁.os∧AllBare s'.gens) s₁) :
 WalkO q loose XP YP l.row.toRowW d [] (fun f vs=>PySem.call f vs):=by
 intro w s₀ s₁ mg mb G Y fa o pm cd doc dV kV ho hd hcd hD hmg hg args vals as hpre hlay hrd hwl hlo
 obtain rfl:dV = .none:=Dflts.none hD hdf
 obtain rfl:kV = .none:=Dflts.noKw hD
 obtain ⟨a,vs,ns,rfl,rfl,hobj,hints,hlen⟩:=nP hn hpre hwl
 refine enter_call (codeAny_mono (call w s₀ s₁ mg mb fa o pm cd doc a vs ns G Y ho (fd_plain hd) hcd hmg hobj hints hlen hg) fun r s' hq=>?_)
 obtain ⟨rfl,h2,h3,h4⟩:=hq
 exact ⟨.inl ⟨.bool true,.bool true,[],rfl,fun _=>rfl,.bool true,ni l _,fun _=>⟨List.Pairwise.nil,fun _ hm=>(nomatch hm)⟩⟩,h2,h3,h4⟩
section
variable {prog:Program} {w:World} {A:Around} {E:Value→Shared→Prop} {s:Shared} {K:Frag}
def jz (h:Heap):Heap:={ h with objs:=#[] }
theorem g8 (h:Heap) (b:Addr):(jz h).get? b=none:=by
 cases e:(jz h).get? b with
 | none=>rfl
 | some o=>exact absurd (Heap.lt_size e) (Nat.not_lt_zero _)
def jF (h:Heap) (L d:Addr):List (Addr×Obj):=(List.range h.objs.size).filterMap fun a=>if a=L∨a=d then none else (h.get? a).map fun o=>(a,o)
theorem ii {h:Heap} {L d a:Addr} {o:Obj}:(a,o)∈jF h L d↔a≠L∧a≠d∧h.get? a=some o:=by
 unfold jF
 rw [List.mem_filterMap]
 constructor
 ·rintro ⟨b,_,e⟩
  split at e
  ·cases e
  ·rename_i hb
   obtain ⟨o',ho,e'⟩:=Option.map_eq_some_iff.mp e
   cases e'
   exact ⟨fun q=>hb (.inl q),fun q=>hb (.inr q),ho⟩
 ·rintro ⟨n1,n2,ho⟩
  refine ⟨a,List.mem_range.mpr (Heap.lt_size ho),?_⟩
  rw [if_neg (show ¬ (a=L∨a=d) from fun q=>q.elim n1 n2),ho] <;> rfl
theorem wR {h:Heap} {L:Addr} {m:Str→Option Value} (n:h.Ns L m):Fr (jz h) L h m :=
 ⟨n,fun b o e=>(by rw [g8] at e; cases e),Nat.zero_le _⟩
end
end Att
namespace L2
open PySem PySem.Spec PyProof.Rows
theorem fc:∀ {vs:List Value} {ns:List Int},IntsAre vs ns→aQ (ns.map V.int) vs
 | _,_,.nil=>.nil
 | _,_,.cons n t h=>.cons ⟨t,rfl⟩ (fc h)
end L2
/- THE LAST THEOREM (shape; LID,My.* are yours):
   My.Adr: a structure of the addresses that your layer names (classes,functions); My.Txt K t: a structure (Prop) of the equations over K;
   My.txt_mk : {K} {implicit addresses ..} (e1:nsIn K mainGlobals "law" = some (some (.ref f))) (e2:K.lookup f=some ⟨oc,od,.func (fnOf "law" "law" params body scope dV kV doc pm an cdv ct),sl⟩) (e3:codeIn K cdv "law" = true) ..:∃ t,My.Txt K t
(the tactic k_is has no namespace: write k_is) -/
namespace L2
open PySem PySem.Spec PyProof.Rows
def d8 (s:Stmt):Arguments:=match s with
 | .FunctionDef _ a _ _ _ _ _ _ _ _=>a
 | _=>{ posonlyargs:=[],args:=[],vararg:=none,kwonlyargs:=[],kw_defaults:=[],kwarg:=none,defaults:=[] }
def cz (s:Stmt):List Stmt:=match s with
 | .FunctionDef _ _ b _ _ _ _ _ _ _=>b
 | _=>[]
def ai (s:Stmt):Scope:=match s with
 | .FunctionDef _ _ _ _ _ _ sc _ _ _=>sc
 | _=>{ kind:=.function,names:=[],isGenerator:=false,isCoroutine:=false }
abbrev CX0:CXT:=fun _ _ _ _ _ _=>False
abbrev E0:XK:=fun _ _ _=>False
theorem tS {X:Cx}:lZ CX0 X E0:=fun _ _ _ _ _ _ _ h=>h.elim
structure Fun (K:PySem.W.Frag) (x qual:Str) (st:Stmt) (f:Addr) (fd:FuncData):Prop where
 ex:∃ (oc:Value) (od:Option Addr) (kV doc pm:Value) (an:Option Addr) (cdv ct:Value) (osl:Array (Option Value)),
  fd=PySem.W.fnOf x qual (d8 st) (cz st) (ai st) .none kV doc pm an cdv ct∧K.lookup f=some ⟨oc,od,.func fd,osl⟩∧PySem.W.codeIn K cdv qual=true
 kp:PySem.W.keepIn K (.ref f)=true
section
variable {P:Program} {w:World} {K:PySem.W.Frag} {mg:Str→Option Value} {base:Heap}
theorem Fun.ok {x qual:Str} {st:Stmt} {f:Addr} {fd:FuncData} {N ps:List Str} {k:Nat} {sp:Sp} (F:Fun K x qual st f fd) (S:FnScope N ps (ai st)) (len:∀ vs H Q E,sp vs H Q E→vs.length=ps.length)
 (hbody:∀ (cdv:Value) (A:Around) (outer:List Env) (s:Shared) (H:Hp) (vs:List V) (Q:VK) (E:XK),Room k (A.deeper (envOfC qual (ai st) s.heap.objs.size f cdv))→sp vs H Q E →
  ∃ t,PSs (jM CX0 P w K mg base N qual (ai st) f cdv A outer s H E).nox (cz st) t∧t { nx:=fun _ H'=>Q .non H',rt:=Q } (dU N vs) H):FnOk P w K mg base CX0 (k + 1) f fd ps sp:=by
 obtain ⟨oc,od,kV,doc,pm,an,cdv,ct,osl,rfl,lk,hcd⟩:=F.ex
 refine tO lk hcd S len fun A outer s H vs Q E hr hsp=>?_
 obtain ⟨t,h,q⟩:=hbody cdv A outer s H vs Q E hr hsp
 exact ⟨t,h.nox,q⟩
theorem Fun.binds {x qual:Str} {st:Stmt} {f:Addr} {fd:FuncData} {ps:List Str} (F:Fun K x qual st f fd)
 (h:∀ (kV doc pm:Value) (an:Option Addr) (cdv ct:Value) (us:List Value),us.length=ps.length→bindArgs (PySem.W.fnOf x qual (d8 st) (cz st) (ai st) .none kV doc pm an cdv ct) ⟨us,[]⟩=pure (ps.zip us)):gH K fd ps []:=by
 obtain ⟨oc,od,kV,doc,pm,an,cdv,ct,osl,rfl,lk,hcd⟩:=F.ex
 exact .all (h kV doc pm an cdv ct)
theorem vX {x qual:Str} {st:Stmt} {f:Addr} {oc:Value} {od an:Option Addr} {osl:Array (Option Value)} {kV doc pm cdv ct:Value} (l:K.lookup f=some ⟨oc,od,.func (PySem.W.fnOf x qual (d8 st) (cz st) (ai st) .none kV doc pm an cdv ct),osl⟩)
 (c:PySem.W.codeIn K cdv qual=true) (k:PySem.W.keepIn K (.ref f)=true):Fun K x qual st f (PySem.W.fnOf x qual (d8 st) (cz st) (ai st) .none kV doc pm an cdv ct):=⟨⟨oc,od,kV,doc,pm,an,cdv,ct,osl,rfl,l,c⟩,k⟩
end
theorem db {n:Nat} (h:n≤1000):n<sizeLine:=Nat.lt_of_le_of_lt h (by decide)
section
variable {X:Cx}
end
theorem cy {c A B:Prop} [Decidable c] (h1:c→A) (h2 : ¬ c→B):if c then A else B:=by
 by_cases h:c
 ·rw [if_pos h]
  exact h1 h
 ·rw [if_neg h]
  exact h2 h
def aM (H H':Hp):Prop:=∀ b o,H b=some o→H' b=some o
theorem aM.refl (H:Hp):aM H H:=fun _ _ h=>h
theorem aM.trans {H H1 H2:Hp} (a:aM H H1) (b:aM H1 H2):aM H H2:=fun c o h=>b c o (a c o h)
inductive D where
 | non | bl (b:Bool) | int (i:Int) | str (x:Str) | tup (ds:List D) | lst (ds:List D) | dct | dic (ks:List Key) (ds:List D) | obj (C:Addr) (ks:List Str) (ds:List D) | scr (φ:Addr→Prop) (ns:List Int) | ext (φ:Hp→Addr→Prop)
mutual
def Rep (H:Hp):D→V→Prop
 | .non,v=>v = .non
 | .bl b,v=>v = .bl b
 | .int i,v=>v = .int i
 | .str x,v=>v = .str x
 | .tup ds,v=>∃ a xs,v = .ref a∧H a=some (.tup xs)∧Reps H ds xs
 | .lst ds,v=>∃ a xs,v = .ref a∧H a=some (.lst xs)∧Reps H ds xs
 | .dct,v=>∃ a kvs,v = .ref a∧H a=some (.dK kvs)
 | .dic ks ds,v=>∃ a xs,v = .ref a∧H a=some (.dK (ks.zip xs))∧ks.length=ds.length∧Reps H ds xs
 | .obj C ks ds,v=>∃ a dx xs,v = .ref a∧H a=some (.ins C dx (ks.zip xs))∧ks.length=ds.length∧Reps H ds xs
 | .scr φ ns,v=>∃ a,v = .ref a∧((∃ o,H a=some (.frz o (.lst (ns.map V.int))))∨φ a)
 | .ext φ,v=>∃ a H0,v = .ref a∧aM H0 H∧φ H0 a
def Reps (H:Hp):List D→List V→Prop
 | [],xs=>xs=[]
 | d :: ds,xs=>∃ v vs,xs=v :: vs∧Rep H d v∧Reps H ds vs
end
theorem Reps.length {H:Hp}:∀ {ds:List D} {xs:List V},Reps H ds xs→xs.length=ds.length
 | [],xs,h=>by rw [Reps] at h; subst h; rfl
 | d :: ds,xs,h=>by
  rw [Reps] at h
  obtain ⟨v,vs,rfl,_,h2⟩:=h
  have:=Reps.length h2
  simp [this]
mutual
theorem Rep.mono {H H':Hp} (e:aM H H'):∀ (d:D) (v:V),Rep H d v→Rep H' d v
 | .non,v,h=>by rw [Rep] at *; exact h
 | .bl b,v,h=>by rw [Rep] at *; exact h
 | .int i,v,h=>by rw [Rep] at *; exact h
 | .str x,v,h=>by rw [Rep] at *; exact h
 | .tup ds,v,h=>by
  rw [Rep] at *
  obtain ⟨a,xs,h1,h2,h3⟩:=h
  exact ⟨a,xs,h1,e _ _ h2,Reps.mono e ds xs h3⟩
 | .lst ds,v,h=>by
  rw [Rep] at *
  obtain ⟨a,xs,h1,h2,h3⟩:=h
  exact ⟨a,xs,h1,e _ _ h2,Reps.mono e ds xs h3⟩
 | .dct,v,h=>by
  rw [Rep] at *
  obtain ⟨a,kvs,h1,h2⟩:=h
  exact ⟨a,kvs,h1,e _ _ h2⟩
 | .dic ks ds,v,h=>by
  rw [Rep] at *
  obtain ⟨a,xs,h1,h2,h3,h4⟩:=h
  exact ⟨a,xs,h1,e _ _ h2,h3,Reps.mono e ds xs h4⟩
 | .obj C ks ds,v,h=>by
  rw [Rep] at *
  obtain ⟨a,dx,xs,h1,h2,h3,h4⟩:=h
  exact ⟨a,dx,xs,h1,e _ _ h2,h3,Reps.mono e ds xs h4⟩
 | .scr φ ns,v,h=>by
  rw [Rep] at *
  obtain ⟨a,h1,h2⟩:=h
  refine ⟨a,h1,?_⟩
  rcases h2 with ⟨o,h2⟩ | h2
  ·exact .inl ⟨o,e _ _ h2⟩
  ·exact .inr h2
 | .ext φ,v,h=>by
  rw [Rep] at *
  obtain ⟨a,H0,h1,h2,h3⟩:=h
  exact ⟨a,H0,h1,fun b o q=>e _ _ (h2 b o q),h3⟩
theorem Reps.mono {H H':Hp} (e:aM H H'):∀ (ds:List D) (xs:List V),Reps H ds xs→Reps H' ds xs
 | [],xs,h=>by rw [Reps] at *; exact h
 | d :: ds,xs,h=>by
  rw [Reps] at *
  obtain ⟨v,vs,h1,h2,h3⟩:=h
  exact ⟨v,vs,h1,Rep.mono e d v h2,Reps.mono e ds vs h3⟩
end
def D.ty:D→String
 | .non => "NoneType" | .bl _ => "bool" | .int _ => "int" | .str _ => "str" | .tup _ => "tuple" | .lst _ => "list" | .dct => "dict" | .dic _ _ => "dict" | .obj _ _ _ => "object" | .scr _ _ => "list" | .ext _ => "object"
def D.isS:D→Bool
 | .scr _ _=>true
 | .ext _=>true
 | .obj _ _ _=>true
 | _=>false
theorem Rep.ty {K:PySem.W.Frag} {H:Hp} {d:D} {v:V} (h:Rep H d v) (hs:d.isS=false):TyOf K H v (.type d.ty):=by
 cases d with
 | non=>rw [Rep] at h; subst h; exact .non
 | bl b=>rw [Rep] at h; subst h; exact .bl b
 | int i=>rw [Rep] at h; subst h; exact .int i
 | str x=>rw [Rep] at h; subst h; exact .str x
 | tup ds=>rw [Rep] at h; obtain ⟨a,xs,rfl,h2,_⟩:=h; exact .tup h2
 | lst ds=>rw [Rep] at h; obtain ⟨a,xs,rfl,h2,_⟩:=h; exact .lst h2
 | dct=>rw [Rep] at h; obtain ⟨a,kvs,rfl,h2⟩:=h; exact .dK h2
 | dic ks ds=>rw [Rep] at h; obtain ⟨a,xs,rfl,h2,_⟩:=h; exact .dK h2
 | scr φ ns=>cases hs
 | ext φ=>cases hs
 | obj C ks ds=>cases hs
theorem fb {H:Hp}:∀ {ds:List D} {xs:List V} {r:Nat},Reps H ds xs→r<ds.length→∃ v d,xs[r]? = some v∧ds[r]? = some d∧Rep H d v
 | [],_,_,_,h=>absurd h (Nat.not_lt_zero _)
 | d :: ds,xs,0,h,_=>by obtain ⟨v,vs,rfl,h1,_⟩:=h; exact ⟨v,d,rfl,rfl,h1⟩
 | d :: ds,xs,r + 1,h,hl=>by
  obtain ⟨v,vs,rfl,_,h2⟩:=h
  obtain ⟨v',d',e1,e2,e3⟩:=fb (r:=r) h2 (by simpa using hl)
  exact ⟨v',d',by simpa using e1,by simpa using e2,e3⟩
theorem mW {H:Hp} {a:Addr} {xs:List V} {ds:List D} (h:H a=some (.tup xs)) (r:Reps H ds xs):Rep H (.tup ds) (.ref a):=by rw [Rep]; exact ⟨a,xs,rfl,h,r⟩
theorem fT {H:Hp} {a:Addr} {xs:List V} {ds:List D} (h:H a=some (.lst xs)) (r:Reps H ds xs):Rep H (.lst ds) (.ref a):=by rw [Rep]; exact ⟨a,xs,rfl,h,r⟩
theorem bN {H:Hp}:Reps H [] []:=by rw [Reps]
theorem bQ {H:Hp} {d:D} {v:V} {ds:List D} {vs:List V} (h:Rep H d v) (r:Reps H ds vs):Reps H (d :: ds) (v :: vs):=by rw [Reps]; exact ⟨v,vs,rfl,h,r⟩
theorem bf {H:Hp} (i:Int):Rep H (.int i) (.int i):=by rw [Rep]
theorem cS {H:Hp} (i:Bool):Rep H (.bl i) (.bl i):=by rw [Rep]
theorem mQ {H:Hp}:Rep H .non .non:=by rw [Rep]
theorem pK {H:Hp} {p:Addr} (h:H p=none) (o:HO):aM H (upd H p o):=fun b u q=>by rw [av (aF q h)]; exact q
section
variable {X:Cx}
def nL (d:D) (T:String):Option Bool:=if d.isS=true then none else if (Value.type d.ty == Value.type T)=true then some true else if PySem.W.kitMeta T=true then (fastBuiltinMro d.ty).map (·.contains (.type T)) else none
theorem qc (K:PySem.W.Frag) (d:D) (T:String) (hs:d.isS=false):PySem.W.kitOne K (.type d.ty) (.type T)=nL d T:=by
 unfold nL; rw [hs,if_neg (by decide)]; rfl
def rIsI:List V→Hp→VK→Prop:=fun xs H Q=>∃ x T d b,xs=[x,.ty T]∧Rep H d x∧nL d T=some b∧Q (.bl b) H
theorem kU:cD X (.builtin "isinstance") rIsI:=by
 intro pins s σ H xs us Q I r h
 obtain ⟨x,T,d,b,rfl,hd,e,q⟩:=h
 obtain ⟨u,w',rfl,ru,rw'⟩:=qE r
 cases (show w'=Value.type T from rw')
 have hs:d.isS=false:=by
  cases z:d.isS with
  | false=>rfl
  | true=>unfold nL at e; rw [z,if_pos rfl] at e; cases e
 rw [← qc X.K d T hs] at e
 exact nj I ru (hd.ty hs) e fun tk=>⟨.bl b,H,I.tok tk,rfl,q⟩
def Sm (i:Int):Prop:=i.natAbs<2 ^ 8000
theorem Sm.log {i:Int} (h:Sm i):i.natAbs.log2<8000:=by
 by_cases h0:i.natAbs=0
 ·rw [h0]; decide
 ·exact (Nat.log2_lt h0).mpr h
theorem Sm.bits {i:Int} (h:Sm i):Builtin.Int.intBits i≤8000:=by
 unfold Builtin.Int.intBits
 split
 ·exact Nat.zero_le _
 ·have:=h.log; omega
theorem Sm.mul {i j:Int} (h:Sm i) (h':Sm j):IntMulOk i j:=by
 have a:=h.bits
 have b:=h'.bits
 unfold IntMulOk Builtin.Int.intTooBig
 have e : ¬ ((Builtin.Int.intBits i:Int) + (Builtin.Int.intBits j:Int) > (bitsLine:Int)):=by
  have:bitsLine=134217728:=by decide
  omega
 rw [decide_eq_false e]
 simp
def CMulB (i j:Int):Prop:=Sm i∧Sm j
def CDivB (i j:Int):Prop:=0<j∧Sm j
theorem bo:OpR X (binaryOp .Mult) (rI CMulB fun i j=>.int (i * j)):=opI fun _ _ _ _ _ _ _ hc q=>mul_int q (hc.1.mul hc.2)
theorem df:OpR X (binaryOp .FloorDiv) (rI CDivB fun i j=>.int (i / j)):=opI fun i j _ _ _ _ _ hc q=>by
 refine floordiv_int (Int.ne_of_gt hc.1) ?_ (.inl (PyProof.noPylong_of_log2 (Nat.lt_of_lt_of_le hc.2.log (by decide))))
 rw [Int.fdiv_eq_ediv_of_nonneg _ (Int.le_of_lt hc.1)]
 exact q
end
theorem bB:bootBuiltins "len" = some (.builtin "len"):=by decide +kernel
theorem wu:bootBuiltins "abs" = some (.builtin "abs"):=by decide +kernel
theorem lG:bootBuiltins "max" = some (.builtin "max"):=by decide +kernel
theorem qR:bootBuiltins "min" = some (.builtin "min"):=by decide +kernel
theorem aU:bootBuiltins "isinstance" = some (.builtin "isinstance"):=by decide +kernel
theorem vJ:bootBuiltins "sum" = some (.builtin "sum"):=by decide +kernel
theorem de:bootBuiltins "sorted" = some (.builtin "sorted"):=by decide +kernel
theorem jm:bootBuiltins "int" = some (.type "int"):=by decide +kernel
theorem mY:bootBuiltins "bool" = some (.type "bool"):=by decide +kernel
theorem fQ:bootBuiltins "tuple" = some (.type "tuple"):=by decide +kernel
theorem ci:bootBuiltins "list" = some (.type "list"):=by decide +kernel
theorem jn:bootBuiltins "enumerate" = some (.type "enumerate"):=by decide +kernel
def bY (n b:Int):Int:=if b=0 then n else (Int.gcd n b:Int)
theorem iV {n b:Int} (h : 0<b):bY b (n % b)=bY n b:=by
 unfold bY
 have e:Int.gcd n b=Int.gcd b (n % b):=by
  rw [Int.emod_def,Int.gcd_sub_mul_left_right,Int.gcd_comm]
 rw [if_neg (show ¬ b=0 by omega)]
 split
 ·rename_i h0
  rw [e,h0,Int.gcd_zero_right]
  omega
 ·rw [e]
theorem dL {n b:Int} (h : 0<b) : 0<bY n b:=by
 unfold bY
 rw [if_neg (by omega)]
 have : 0<Int.gcd n b:=Int.gcd_pos_of_ne_zero_right _ (by omega)
 omega
theorem jD {n b:Int} (h : 0<b):bY n b≤b:=by
 unfold bY
 rw [if_neg (by omega)]
 exact Int.le_of_dvd h (Int.gcd_dvd_right ..)
theorem rK {n b:Int} (h : 0<b):bY n b∣n:=by
 unfold bY
 rw [if_neg (by omega)]
 exact Int.gcd_dvd_left ..
theorem rN {n b:Int} (h : 0<b):bY n b∣b:=by
 unfold bY
 rw [if_neg (by omega)]
 exact Int.gcd_dvd_right ..
section
variable {X:Cx} {pins:List (Addr×Obj)} {σ:St} {H:Hp} {s:Shared} {pos:Pos}
end
end L2
namespace L2
open PySem
theorem dO {i:Int} {n:Nat} (h:i.natAbs≤n) (hn:n<2 ^ 8000):Sm i:=Nat.lt_of_le_of_lt h hn
end L2
namespace L2
open PySem PySem.Spec PyProof.Rows
def CL (env:Env):List (Str×Addr)→Prop
 | []=>True
 | p :: r=>env.cells.lookup p.1=some p.2∧CL env r
theorem CL.get {env:Env}:∀ {cl:List (Str×Addr)},CL env cl→∀ {x:Str} {c:Addr},cl.lookup x=some c→env.cells.lookup x=some c
 | [],_,x,c,h=>by simp at h
 | (y,d) :: r,h,x,c,e=>by
  rw [List.lookup_cons] at e
  cases hx:x == y with
  | true =>
   rw [hx] at e
   have e1:x=y:=by simpa using hx
   have e2:d=c:=Option.some.inj e
   subst e1 e2
   exact h.1
  | false =>
   rw [hx] at e
   exact CL.get h.2 e
theorem eF {env:Env}:∀ {names:List (Str×NameKind)} {x:Str} {k:NameKind},
 (names.map fun (n,k)=>if (k == NameKind.free&&env.scope.kind == .function&&env.kindOf n == some .cell) then (n,NameKind.cell) else (n,k)).lookup x=some k →
 ∃ k',names.lookup x=some k'∧(k'=k∨(k' = .free∧k = .cell))
 | [],x,k,h=>by simp at h
 | (n,kn) :: r,x,k,h=>by
  have ih:=@eF env r x k
  by_cases hc:(kn == NameKind.free&&env.scope.kind == .function&&env.kindOf n == some .cell)=true
  ·have h':List.lookup x ((n,NameKind.cell) :: (r.map fun (n,k)=>if (k == NameKind.free&&env.scope.kind == .function&&env.kindOf n == some .cell) then (n,NameKind.cell) else (n,k)))=some k:=by
    rw [List.map_cons] at h
    simp only [hc,if_true] at h
    exact h
   rw [List.lookup_cons] at h' ⊢
   cases hx:x == n with
   | true =>
    rw [hx] at h'
    have:kn = .free:=by
     simp only [Bool.and_eq_true,beq_iff_eq] at hc
     exact hc.1.1
    exact ⟨kn,rfl,.inr ⟨this,(Option.some.inj h').symm⟩⟩
   | false=>rw [hx] at h'; exact ih h'
  ·have h':List.lookup x ((n,kn) :: (r.map fun (n,k)=>if (k == NameKind.free&&env.scope.kind == .function&&env.kindOf n == some .cell) then (n,NameKind.cell) else (n,k)))=some k:=by
    rw [List.map_cons] at h
    simp only [hc] at h
    exact h
   rw [List.lookup_cons] at h' ⊢
   cases hx:x == n with
   | true=>rw [hx] at h'; exact ⟨kn,rfl,.inl (Option.some.inj h')⟩
   | false=>rw [hx] at h'; exact ih h'
def bK (X:Cx) (scope:Scope) (cl:List (Str×Addr)) (N:List Str) (C:Addr) (s₀:Shared) (H₀:Hp) (ex:List Addr):Cx where
 prog:=X.prog
 w:=X.w
 K:=X.K
 mg:=X.mg
 base:=X.base
 A:=X.A
 N:=N
 s₀:=s₀
 H₀:=H₀
 env:=compEnvC scope cl C X.env
 outer:=X.stack
 stack:=X.stack
 ex:=ex
 fn:=fun _=>false
 calm:=X.calm
 pn:=[]
 xe:=fun _ _=>False
def okJ (X:Cx) (scope:Scope) (j:Nat):Bool:=match X.N[j]? with
 | some x=>(match X.env.scope.names.lookup x with | some .cell=>true | _=>false)&&(match scope.names.lookup x with | some .free=>true | _=>false)
 | none=>false
def dr (own:List Str) (js:List Nat) (σ:St):St:=own.map (fun _=>none)++js.map fun j=>(σ[j]?).getD none
def di (X:Cx) (own:List Str) (js:List Nat):List Str:=own++js.map fun j=>(X.N[j]?).getD (Str.ofString "")
structure CompOk (X:Cx) (scope:Scope) (cl:List (Str×Addr)) (own:List Str) (js:List Nat):Prop where
 clos:closureFor scope X.env=pure cl
 kind:scope.kind = .function
 names:∀ x∈scope.names,x.2 = .local→scope.names.lookup x.1=some .local
 ncell:(scope.names.all fun y=>match y.2 with | .cell=>false | _=>true)=true
 has:(scope.names.all fun y=>match y.2 with | .free=>(cl.lookup y.1).isSome | _=>true)=true
 cells:CL X.env cl
 js:js.all (okJ X scope)=true
theorem CompOk.nc {X:Cx} {scope:Scope} {cl:List (Str×Addr)} {own:List Str} {js:List Nat} (c:CompOk X scope cl own js):∀ y∈scope.names,y.2≠.cell:=fun y hy e=>by
 have:=List.all_eq_true.mp c.ncell y hy
 rw [e] at this
 cases this
theorem CompOk.fr {X:Cx} {scope:Scope} {cl:List (Str×Addr)} {own:List Str} {js:List Nat} (c:CompOk X scope cl own js) {x:Str} (h:scope.names.lookup x=some .free):∃ d,cl.lookup x=some d:=by
 have:=List.all_eq_true.mp c.has (x,.free) (PySem.mem_of_lookup h)
 exact Option.isSome_iff_exists.mp this
section
variable {X:Cx} {pins:List (Addr×Obj)} {σ:St} {H:Hp} {s:Shared} {scope:Scope} {cl:List (Str×Addr)} {own:List Str} {js:List Nat}
theorem lO {h1:Heap} {C:Addr} {fp:List Addr} {t':Nat} (c:CompOk X scope cl own js) (I:Inv X pins σ H s) (hf:∀ b∈fp,jP X pins H b) (hlt:∀ b∈fp,b<s.heap.objs.size)
 (hC:s.heap.objs.size≤C) (hk:∀ b o,s.heap.get? b=some o→h1.get? b=some o) (hn:h1.Ns C fun _=>none) :
 Inv (bK X scope cl (di X own js) C s H fp) [] (dr own js σ) H { s with heap:=h1,toks:=t' }:=by
 have kindOfY:∀ x k,(bK X scope cl (di X own js) C s H fp).env.kindOf x=some k→∃ k',scope.names.lookup x=some k'∧(k'=k∨(k' = .free∧k = .cell)):=fun x k e=>eF (env:=X.env) (names:=scope.names) e
 refine ⟨⟨I.ok.mod,c.kind,I.ok.glob,I.ok.blt,hC,fun x y d h1 h2=>I.ok.inj x y d (c.cells.get h1) (c.cells.get h2),fun x hx=>?_,fun x d h=>(by cases h),I.ok.hd,I.ok.frames,.inl rfl,fun b hb=>⟨?_,fun x d e=>(hf b hb).2.2.2.2.1 x d (c.cells.get e)⟩,
  fun b o e=>I.bs b o e,Nat.le_trans I.ok.bsz I.sz,fun b o e hb=>?_,fun b hb z=>?_,I.stack,I.stkFree,I.ok.tb.un I.base⟩,rfl,I.bare,Un.kept hk,⟨_,hn,fun i x v e1 e2 e3=>?_⟩,fun x d e=>?_,I.hok.fresh hC,fun x d e=>I.freeC x d (c.cells.get e),fun p hp=>(by cases hp),I.hok.kept hk,?_⟩
 ·rcases hx with hx | hx
  ·obtain ⟨k',e1,e2⟩:=kindOfY x _ hx
   rcases e2 with e2 | ⟨e2,_⟩
   ·exact absurd e2 (c.nc _ (PySem.mem_of_lookup e1))
   ·subst e2; exact c.fr e1
  ·obtain ⟨k',e1,e2⟩:=kindOfY x _ hx
   rcases e2 with e2 | ⟨_,e2⟩
   ·subst e2; exact c.fr e1
   ·cases e2
 ·exact Nat.ne_of_lt (Nat.lt_of_lt_of_le (hlt b hb) hC)
 ·rcases (hf b hb).2.2.2.1 with z | z
  ·exact I.ok.noex b o e z
  ·exact absurd (Nat.lt_of_lt_of_le (Heap.lt_size e) (Nat.le_trans I.ok.bsz z)) (Nat.lt_irrefl _)
 ·rcases List.mem_cons.mp (I.stkSub b z) with q | q
  ·exact (hf b hb).2.1 q
  ·exact (hf b hb).2.2.1 q
 ·-- a name taken from the frame
  have e1:(di X own js)[i]? = some x:=e1
  unfold di at e1
  unfold dr at e2
  by_cases hi:i<own.length
  ·rw [List.getElem?_append_left (by simpa using hi),List.getElem?_map,List.getElem?_eq_getElem hi] at e2
   cases e2
  ·rw [List.getElem?_append_right (by simpa using Nat.not_lt.mp hi),List.getElem?_map,List.length_map] at e2
   rw [List.getElem?_append_right (Nat.not_lt.mp hi),List.getElem?_map] at e1
   cases ej:js[i - own.length]? with
   | none=>rw [ej] at e2; cases e2
   | some j =>
    rw [ej] at e1 e2
    have hj:=List.all_eq_true.mp c.js j (List.mem_of_getElem? ej)
    unfold okJ at hj
    have e1':(X.N[j]?).getD (Str.ofString "")=x:=Option.some.inj e1
    have e2':(σ[j]?).getD none=some v:=Option.some.inj e2
    cases en:X.N[j]? with
    | none=>rw [en] at hj; cases hj
    | some y =>
     rw [en] at hj e1'
     have e1'':y=x:=e1'
     subst e1''
     have hv : σ[j]? = some (some v):=by
      cases es : σ[j]? with
      | none=>rw [es] at e2'; cases e2'
      | some ov=>rw [es] at e2'; rw [show ov=some v from e2']
     dsimp only at hj
     rw [Bool.and_eq_true] at hj
     have k1:X.env.scope.names.lookup y=some .cell:=by
      have:=hj.1
      split at this
      ·assumption
      ·cases this
     have k2:scope.names.lookup y=some .free:=by
      have:=hj.2
      split at this
      ·assumption
      ·cases this
     obtain ⟨m,_,hl⟩:=I.loc
     obtain ⟨u,ru,l⟩:=hl j y v en hv (.inr (.inl k1))
     refine ⟨u,ru,?_⟩
     rcases l with ⟨l,_⟩ | ⟨_,d,ed,z⟩
     ·rw [show X.env.kindOf y=some .cell from k1] at l; cases l
     ·obtain ⟨d',ed'⟩:=c.fr k2
      have:=c.cells.get ed'
      rw [ed] at this
      cases this
      obtain ⟨o,ho,hd⟩:=z
      refine .inr ⟨?_,d,ed',⟨o,hk _ _ ho,hd⟩⟩
      have e3:(bK X scope cl (di X own js) C s H fp).env.scope.names.lookup y=some .local∨(bK X scope cl (di X own js) C s H fp).env.scope.names.lookup y=some .cell∨(bK X scope cl (di X own js) C s H fp).env.scope.names.lookup y=some .free:=e3
      rcases e3 with e3 | e3 | e3
      ·obtain ⟨k',q1,q2⟩:=kindOfY y _ e3
       rw [k2] at q1
       cases q1
       rcases q2 with q2 | ⟨_,q2⟩ <;> cases q2
      ·exact .inl e3
      ·exact .inr e3
 ·obtain ⟨v,o,ho,hd⟩:=I.cell x d (c.cells.get e)
  exact ⟨v,o,hk _ _ ho,hd⟩
 ·show (dr own js σ).length=(di X own js).length
  unfold dr di
  simp
structure PIf (X:Cx) (ifs:List Expr) (t:TT):Prop where
 go:∀ (pins:List (Addr×Obj)) (s:Shared) (σ:St) (H:Hp) (Q:Bool→Hp→Prop),Inv X pins σ H s→t σ H Q →
  wpAny (model X.prog X.w) X.A (forIn ifs true fun c r=>if r=true then do let ok ← isTrue c X.env (eval c X.env); pure (ForInStep.yield ok) else pure (ForInStep.yield r)) (TP X pins σ Q) X.xe s
def tYes:TT:=fun _ H Q=>Q true H
theorem sr:PIf X [] tYes:=⟨fun pins s σ H Q I h=>wpAny_tests_nil ⟨H,I,h⟩⟩
theorem sH {c:Expr} {t:TT} (h:PT X c t):PIf X [c] t:=⟨fun pins s σ H Q I q=>wpAny_tests_one (h.go pins s σ H Q I q)⟩
theorem fj {prog:Program} {w:World} {A:Around} {R:Result→Shared→Prop} {s:Shared} {elt target iter:Expr} {ifs:List Expr} {scope:Scope} {pos:Pos} {it acc:Value} {env:Env} (I:Nat→Shared→Prop)
 (turn:∀ n s,I n s→wpAny (model prog w) A (pyNext it) (fun r s₁=>match r with
  | none=>R (.ok .next) s₁
  | some v=>wpAny (model prog w) A (letOwnedTupleGo target it v) (fun _ s₁=>wpAny (model prog w) A (assign target env v) (fun _ s₂ =>
   wpAny (model prog w) A (forIn ifs true fun c r=>if r=true then do let ok ← isTrue c env (eval c env); pure (ForInStep.yield ok) else pure (ForInStep.yield r)) (fun ok s₃ =>
    if ok=true then wpAny (model prog w) A (eval elt env) (fun x s₄ =>
     wpAny (model prog w) A (call (.builtin "list.append") [acc,x]) (fun _ s₅=>∃ m,m<n∧I m s₅) (fun _ _=>False) s₄) (fun _ _=>False) s₃
    else ∃ m,m<n∧I m s₃) (fun _ _=>False) s₂) (fun _ _=>False) s₁) (fun _ _=>False) s₁) (fun _ _=>False) s)
 (n:Nat) (h:I n s) :
 codeAny (model prog w) A (.compLoop (.ListComp elt [⟨target,iter,ifs,0⟩] scope pos) 0 it acc env) R s:=by
 refine codeAny_loop rfl I (fun n s hI=>?_) n h
 show wpAny _ A ((compTurn (.ListComp elt [⟨target,iter,ifs,0⟩] scope pos) 0 it acc env).onRaise (fun x=>do noteFrame x env; theTreesLotGoes x)) _ _ s
 refine wpAny_noted ?_
 rw [compTurn_list]
 refine wpAny_bind (wpAny_standAt (wpAny_bind (wpAny_mono (turn n s hI) (fun r s₁ h₁=>?_) fun _ _ h'=>h'.elim)))
 cases r with
 | none=>exact wpAny_pure h₁
 | some v =>
  refine wpAny_bind (wpAny_mono h₁ (fun _ s₁ h₁=>?_) fun _ _ h'=>h'.elim)
  refine wpAny_bind (wpAny_mono h₁ (fun _ s₂ h₂=>wpAny_bind (wpAny_mono h₂ (fun ok s₃ h₃=>?_) fun _ _ h'=>h'.elim)) fun _ _ h'=>h'.elim)
  cases ok with
  | false=>exact wpAny_pure ⟨rfl,h₃⟩
  | true =>
   exact wpAny_bind (wpAny_bind (wpAny_mono h₃ (fun x s₄ h₄=>wpAny_bind (wpAny_mono h₄ (fun _ s₅ h₅=>wpAny_pure (wpAny_pure ⟨rfl,h₅⟩)) fun _ _ h'=>h'.elim)) fun _ _ h'=>h'.elim))
def kept:St→St→Prop
 | [],[]=>True
 | none :: r,_ :: r'=>kept r r'
 | some v :: r,y :: r'=>y=some v∧kept r r'
 | [],_ :: _=>False
 | _ :: _,[]=>False
theorem fS:∀ {a b:St},kept a b→a.length=b.length
 | [],[],_=>rfl
 | none :: r,_ :: r',h=>congrArg (· + 1) (fS (a:=r) (b:=r') h)
 | some v :: r,y :: r',h=>congrArg (· + 1) (fS (a:=r) (b:=r') h.2)
 | [],_ :: _,h=>False.elim h
 | none :: _,[],h=>False.elim h
 | some _ :: _,[],h=>False.elim h
theorem fY:∀ {a b:St},kept a b→∀ (i:Nat) (v:V),a[i]? = some (some v)→b[i]? = some (some v)
 | [],[],_,i,v,e=>by simp at e
 | none :: r,_ :: r',h,0,v,e=>by simp at e
 | none :: r,_ :: r',h,i + 1,v,e=>by simpa using fY (a:=r) (b:=r') h i v (by simpa using e)
 | some w :: r,y :: r',h,0,v,e=>by simp at e; subst e; simp [h.1]
 | some w :: r,y :: r',h,i + 1,v,e=>by simpa using fY (a:=r) (b:=r') h.2 i v (by simpa using e)
 | [],_ :: _,h,_,_,_=>False.elim h
 | none :: _,[],h,_,_,_=>False.elim h
 | some _ :: _,[],h,_,_,_=>False.elim h
def oG (J:It) (g:TG) (tt:TT) (te:TE) (σ0:St) (H:Hp) (Z:List V→Hp→Prop):Prop :=
 ∃ W:Nat→Nat→List V→Hp→Prop,(∃ m,W 0 m [] H)∧∀ i m acc H,W i m acc H →
  (J.stop i H∧acc.length≤sizeLine∧Z acc H)∨(J.go i H∧acc.length<sizeLine∧∃ N:List V→Hp→Prop,(∀ acc' H',N acc' H'→∃ m',m'<m∧W (i + 1) m' acc' H') ∧
   ∀ x H',J.yld i H x H'→g x σ0 H' fun σ2 H2=>kept σ0 σ2∧tt σ2 H2 fun b H3=>if b=true then te σ2 H3 fun v H4=>N (acc++[v]) H4 else N acc H3)
theorem HOk.adopt {P:Program} {w:World} {H:Hp} {h:Heap} {a:Addr} {o:HO} (x:HOk P w H h) (hn:H a=none) (new:bS P w (upd H a o) h a o):HOk P w (upd H a o) h:=fun b u e=>by
 by_cases hb:b=a
 ·subst hb; rw [aE] at e; cases e; exact new
 ·rw [av hb] at e
  exact (x b u e).stay (fun c v _ q=>q) (fun c q=>by rw [av (aF q hn)]; exact q) (fun c xs q=>by rw [av (aF q hn)]; exact q) fun c ob u q=>by rw [av (aF q hn)]; exact q
theorem iX {elt tg iter:Expr} {ifs:List Expr} {pos:Pos} {J:It} {fp:List Addr} {it:Addr} {tn:Nat→Heap→Prop} {g:TG} {tt:TT} {te:TE} {Z:List V→Hp→Prop} {E:Value→Shared→Prop}
 {RR:Value→Addr→Result→Shared→Prop} (c:CompOk X scope cl own js) (hc:X.calm=true) (I:Inv X pins σ H s) (T:Turn X.prog X.w X.K tg J fp it tn) (t0:tn 0 s.heap) (hf:∀ b∈fp,jP X pins H b)
 (inner:∀ (C:Addr) (s₀:Shared) (H₀:Hp) (ex:List Addr),PG (bK X scope cl (di X own js) C s₀ H₀ ex) tg g∧PIf (bK X scope cl (di X own js) C s₀ H₀ ex) ifs tt∧PE (bK X scope cl (di X own js) C s₀ H₀ ex) elt te)
 (hW:oG J g tt te (dr own js σ) H Z)
 (hRR:∀ (D C:Addr) (s':Shared) (acc:List V) (H':Hp),(∃ m,s'.heap.Ns C m)→H' D=none→Z acc H'→s.heap.objs.size≤C→C≠X.env.locals→(upd H' D (.lst acc)) C=none→(∀ h',Heap.SameBut C s'.heap h'→Inv X pins σ (upd H' D (.lst acc)) { s' with heap:=h' })→RR (.ref D) C (.ok .next) s') :
 wpAny (model X.prog X.w) X.A (newList []) (fun acc s₃=>wpAny (model X.prog X.w) X.A (newFunctionEnv scope X.env.globals cl [] X.env.qual none .none (some X.env)) (fun cenv s₄ =>
  codeAny (model X.prog X.w) X.A (.compStart (.ListComp elt [⟨tg,iter,ifs,0⟩] scope pos) 0 (.ref it) acc { cenv with scope:=relabel scope X.env }) (RR acc cenv.locals) s₄) E s₃) E s:=by
 refine wpAny_newObj_type (wpAny_newFunctionEnv c.nc (by intro y hy; simp at hy) (fun h₁ hns₁ hsb₁=>?_) c.kind)
 dsimp only at hns₁ hsb₁ ⊢
 generalize hH2:s.heap.push { cls:=.type "list",dict:=none,data:=.seq ([]:List Value).toArray } = H2 at hns₁ hsb₁ ⊢
 have hCs:H2.objs.size=s.heap.objs.size + 1:=by rw [← hH2,Heap.size_push]
 have hns₁:h₁.Ns H2.objs.size (fun _=>none):=hns₁
 have hCle:s.heap.objs.size≤H2.objs.size:=by rw [hCs]; exact Nat.le_succ _
 have hDC:s.heap.objs.size≠H2.objs.size:=by rw [hCs]; exact Nat.ne_of_lt (Nat.lt_succ_self _)
 have below:∀ b,b<s.heap.objs.size→b≠H2.objs.size∧b≠s.heap.objs.size:=fun b hb=>⟨by rw [hCs]; exact Nat.ne_of_lt (Nat.lt_succ_of_lt hb),Nat.ne_of_lt hb⟩
 have old:∀ b o,s.heap.get? b=some o→h₁.get? b=some o:=fun b o e=>hsb₁.extBut b o (below b (Heap.lt_size e)).1 (Heap.get?_push_of_some _ (hH2 ▸ Heap.get?_push_of_some _ e))
 have hD1:h₁.get? s.heap.objs.size=some { cls:=.type "list",data:=.seq ([]:List Value).toArray }:=hsb₁.extBut _ _ hDC (Heap.get?_push_of_some _ (hH2 ▸ Heap.get?_push_size _ rfl))
 have hlt:∀ b∈fp,b<s.heap.objs.size:=fun b hb=>by
  obtain ⟨o,e,_⟩:=T.obj 0 _ t0 b hb
  exact Heap.lt_size e
 have hCL:H2.objs.size≠X.env.locals:=fun z=>absurd (Nat.lt_of_lt_of_le I.lt (by rw [← z]; exact hCle)) (Nat.lt_irrefl _)
 have hDfs:s.heap.objs.size ∉ frs X.stack:=fun z=>by
  rcases List.mem_cons.mp (I.stkSub _ z) with q | q
  ·exact absurd I.lt (by rw [← q]; exact Nat.lt_irrefl _)
  ·exact I.nofs (Nat.le_refl _) q
 have hfs:∀ b∈fp,b ∉ frs X.stack:=fun b hb z=>by
  rcases List.mem_cons.mp (I.stkSub b z) with q | q
  ·exact (hf b hb).2.1 q
  ·exact (hf b hb).2.2.1 q
 have hDcell:∀ x d,cl.lookup x=some d→d≠s.heap.objs.size:=fun x d e=>by
  obtain ⟨v,q⟩:=I.cell x d (c.cells.get e)
  exact Nat.ne_of_lt q.lt
 have fresh:H s.heap.objs.size=none:=I.hok.fresh (Nat.le_refl _)
 obtain ⟨W,⟨m0,w0⟩,turn⟩:=hW
 have loop:∀ s₃:Shared,s₃ = { s with heap:=h₁,toks:=s.toks + ([]:List (Str×Value)).length } →
  codeAny (model X.prog X.w) X.A (.compLoop (.ListComp elt [⟨tg,iter,ifs,0⟩] scope pos) 0 (.ref it) (.ref s.heap.objs.size) (compEnvC scope cl H2.objs.size X.env)) (RR (.ref s.heap.objs.size) H2.objs.size) s₃:=by
  rintro s₃ rfl
  have I0:=lO (t':=s.toks + ([]:List (Str×Value)).length) c I hf hlt hCle old hns₁
  obtain ⟨hg,hi,he⟩:=inner H2.objs.size s H fp
  generalize hY:bK X scope cl (di X own js) H2.objs.size s H fp=Y at I0 hg hi he
  have Yp:Y.prog=X.prog:=by rw [← hY]; rfl
  have Yw:Y.w=X.w:=by rw [← hY]; rfl
  have YK:Y.K=X.K:=by rw [← hY]; rfl
  have YA:Y.A=X.A:=by rw [← hY]; rfl
  have Ye:Y.env=compEnvC scope cl H2.objs.size X.env:=by rw [← hY]; rfl
  have Yl:Y.env.locals=H2.objs.size:=by rw [← hY]; rfl
  have Yc:Y.env.cells=cl:=by rw [← hY]; rfl
  have Yf:Y.fs=frs X.stack:=by rw [← hY]; rfl
  have Yx:Y.ex=fp:=by rw [← hY]; rfl
  have Ys:Y.s₀=s:=by rw [← hY]; rfl
  have YH:Y.H₀=H:=by rw [← hY]; rfl
  have Yn:Y.pn=[]:=by rw [← hY]; rfl
  have Yo:Y.calm=true:=by rw [← hY]; exact hc
  have YE:Y.xe=fun _ _=>False:=by rw [← hY]; rfl
  have fpY:∀ {H':Hp} (pn:List (Addr×Obj)),(∀ b∈fp,H' b=none)→(∀ b∈fp,∀ p∈pn,p.1≠b)→∀ b∈fp,jP Y pn H' b:=fun pn hn hp b hb =>
   ⟨hn b hb,by rw [Yl]; exact (below b (hlt b hb)).1,by rw [Yf]; exact hfs b hb,.inl (by rw [Yx]; exact hb),fun x d e=>(hf b hb).2.2.2.2.1 x d (c.cells.get (by rw [← Yc]; exact e)),fun p hp'=>hp b hb p (by rw [Yn] at hp'; exact hp')⟩
  refine fj (fun n s'=>∃ i acc its k H',Inv Y [] (dr own js σ) H' s'∧tn i s'.heap∧(∀ b∈fp,H' b=none)∧W i n acc H'∧H' s.heap.objs.size=none∧s'.heap.get? s.heap.objs.size=some { cls:=.type "list",data:=.seq (its:List Value).toArray k }∧aQ acc its) ?_ m0
   ⟨0,[],[],0,H,I0,T.keep 0 _ _ t0 (fun b hb o e=>old b o e),fun b hb=>(hf b hb).1,w0,fresh,hD1,.nil⟩
  rintro n s' ⟨i,acc,its,k,H',I',tn',fr',w',hD',oD',hv'⟩
  have hpinD:∀ b∈fp,∀ p∈[(s.heap.objs.size,({ cls:=.type "list",data:=.seq its.toArray k }:Obj))],p.1≠b:=fun b hb p hp=>by
   rw [List.mem_singleton] at hp
   subst hp
   exact fun z=>(below b (hlt b hb)).2 z.symm
  have ID:Inv Y [(s.heap.objs.size,({ cls:=.type "list",data:=.seq its.toArray k }:Obj))] (dr own js σ) H' s':=I'.pins_of fun p hp=>by
   rw [List.mem_singleton] at hp
   subst hp
   exact ⟨oD',hD',by rw [Yl]; exact hDC,by rw [Yf]; exact hDfs,fun v z=>by cases z⟩
  rcases turn i n acc H' w' with ⟨stop,hlen,hz⟩ | ⟨go,hlen,N,hN,step⟩
  ·have hd:=T.done Y Yp Yw YK Yo i _ s' (dr own js σ) H' (fun _ _=>False) ID (fpY _ fr' hpinD) tn' stop
   rw [YA] at hd
   refine thn hd fun r s1 ⟨hr,I1⟩=>?_
   subst hr
   obtain ⟨oD1,_⟩:=I1.pin _ (List.mem_append_right _ (List.mem_singleton.mpr rfl))
   have hC0:H' H2.objs.size=none:=by have:=I1.free; rw [Yl] at this; exact this
   have B1:Un (frs X.stack) fp H H' s.heap s1.heap:=by have:=I1.base; rw [Yf,Yx,YH,Ys] at this; exact this
   refine hRR s.heap.objs.size H2.objs.size s1 acc H' (by obtain ⟨m,hn,_⟩:=I1.loc; rw [Yl] at hn; exact ⟨m,hn⟩) hD' hz hCle hCL (by rw [av (Ne.symm hDC)]; exact hC0) fun h' hsb=>?_
   have at':∀ b o,b≠H2.objs.size→s1.heap.get? b=some o→h'.get? b=some o:=fun b o hb e=>by rw [hsb.2 b hb]; exact e
   refine I.call' (s':={ s1 with heap:=h' }) (ch:=fp) (by have:=I1.os; rw [Ys] at this; exact this) ⟨fun b o q nn hb hx=>?_,fun b o q nn hb hx=>?_,fun b o q nn hx=>?_,fun b o q hx=>?_,fun b xs q=>?_,fun b o u q=>?_,fun b ps q0 q=>?_⟩ ?_ I1.bare fun b hb=>⟨(hf b hb).2.2.2.1,(hf b hb).2.1,(hf b hb).2.2.2.2.1,(hf b hb).2.2.2.2.2⟩
   ·exact at' b o (below b (Heap.lt_size q)).1 (B1.keep b o q nn hb hx)
   ·obtain ⟨sl,e⟩:=B1.slot b o q nn hb hx
    exact ⟨sl,at' b _ (below b (Heap.lt_size q)).1 e⟩
   ·rw [av (below b (Heap.lt_size q)).2]; exact B1.free b o q nn hx
   ·obtain ⟨o',e⟩:=B1.there b o q hx
    exact ⟨o',at' b _ (below b (Heap.lt_size q)).1 e⟩
   ·have q':=B1.tups b xs q
    rw [av (aF q' hD')]; exact q'
   ·have q':=B1.frzs b o u q
    rw [av (aF q' hD')]; exact q'
   ·obtain ⟨more,q'⟩:=B1.tbls b ps _ q
    exact ⟨more,by rw [av (aF q' hD')]; exact q'⟩
   ·have hok1:HOk X.prog X.w H' h':=fun a o e=>by
     have hok:=I1.hok
     rw [Yp,Yw] at hok
     refine (hok a o e).stay (fun b u hb q=>at' b u ?_ q) (fun _ q=>q) (fun _ _ q=>q) fun _ _ _ q=>q
     rcases hb with rfl | hb
     ·exact aF e hC0
     ·exact aF hb hC0
    exact hok1.adopt hD' ⟨hlen,its,k,hv',at' _ _ hDC oD1⟩
  ·have hd:=T.item Y Yp Yw YK Yo i _ s' (dr own js σ) H' (fun _ _=>False) ID (fpY _ fr' hpinD) tn' go
   rw [YA] at hd
   refine thn hd fun r s1 ⟨u,hr,h4⟩=>?_
   subst hr
   have h4:=h4
   refine thn h4 fun _ s2 ⟨x,H5,I5,r5,y5,tn5,fr5⟩=>?_
   have I5':=I5.pinned (fpY _ fr5 hpinD) (T.obj _ _ tn5)
   have hg':=hg.go _ s2 _ H5 x u _ I5' r5 (step x H5 y5)
   rw [Yp,Yw,YA,Ye,YE] at hg'
   refine thn hg' fun _ s3 ⟨σ6,H6,I6,kp6,q6⟩=>?_
   have hi':=hi.go _ s3 σ6 H6 _ I6 q6
   rw [Yp,Yw,YA,Ye,YE] at hi'
   refine thn hi' fun ok s4 ⟨H7,I7,q7⟩=>?_
   cases ok with
   | false =>
    rw [if_neg Bool.false_ne_true] at q7 ⊢
    obtain ⟨m',hm,w7⟩:=hN _ _ q7
    obtain ⟨oD7,hD7,_⟩:=I7.pin _ (List.mem_append_right _ (List.mem_append_left _ (List.mem_singleton.mpr rfl)))
    refine ⟨m',hm,i + 1,acc,its,k,H7,(I7.pins_of (pins':=[]) fun p hp=>(by cases hp)).weak (fS kp6) (fY kp6),T.keep _ _ _ tn5 fun b hb o e=>(I7.pin (b,o) (List.mem_append_right _ (List.mem_append_right _ (cE hb e)))).1,fun b hb=>?_,w7,hD7,oD7,hv'⟩
    obtain ⟨o,e,_⟩:=T.obj _ _ tn5 b hb
    exact (I7.pin (b,o) (List.mem_append_right _ (List.mem_append_right _ (cE hb e)))).2.1
   | true =>
    rw [if_pos rfl] at q7 ⊢
    have he':=he.go _ s4 σ6 H7 _ I7 q7
    rw [Yp,Yw,YA,Ye,YE] at he'
    refine thn he' fun v s5 ⟨xv,H8,I8,r8,n8⟩=>?_
    obtain ⟨m',hm,w8⟩:=hN _ _ n8
    obtain ⟨oD8,hD8,_⟩:=I8.pin _ (List.mem_append_right _ (List.mem_append_left _ (List.mem_singleton.mpr rfl)))
    have hsz:its.toArray.size<sizeLine:=by rw [List.size_toArray,← hv'.length]; exact hlen
    refine call_meets F.slot_list_append ⟨_,oD8,rfl⟩ F.entry_list_append (F.args_list_append_2 _ _) (PySem.list_append s.heap.objs.size its.toArray k v (Nat.le_of_lt hsz)) ⟨oD8,?_⟩
    have q:=PySem.IsL.update oD8 (fun a=>a.push v)
    have J8:Inv Y (ij fp s2.heap) σ6 H8 s5:=I8.pins_of fun p hp=>I8.pin p (List.mem_append_right _ (List.mem_append_right _ hp))
    have ne8:∀ b,b∈fp→b≠s.heap.objs.size:=fun b hb=>(below b (hlt b hb)).2
    have J9:=J8.turned (t':=s5.toks) (h':=s5.heap.update s.heap.objs.size (Obj.mapSeq fun a=>a.push v)) (it:=s.heap.objs.size) (fun b o hb e=>(Heap.get?_update_other s5.heap _ (Ne.symm hb)).trans e) hD8 (by rw [Yl]; exact hDC) (.inr (by rw [Ys]; exact Nat.le_refl _)) (fun x d e=>hDcell x d (by rw [← Yc]; exact e))
     (fun p hp=>by
      rw [Yn,List.nil_append] at hp
      obtain ⟨hb,_⟩:=i6 hp
      exact ne8 _ hb)
    have keep9:∀ b o,b∈fp→s2.heap.get? b=some o→(s5.heap.update s.heap.objs.size (Obj.mapSeq fun a=>a.push v)).get? b=some o:=fun b o hb e=>(J9.pin (b,o) (List.mem_append_right _ (cE hb e))).1
    refine ⟨m',hm,i + 1,acc++[xv],its++[v],(if ((its++[v]).toArray.size == its.toArray.size)=true then k else k + 1),H8,(J9.pins_of (pins':=[]) fun p hp=>(by cases hp)).weak (fS kp6) (fY kp6),T.keep _ _ _ tn5 fun b hb o e=>keep9 b o hb e,fun b hb=>?_,w8,hD8,?_,hv'.append (.cons r8 .nil)⟩
    ·obtain ⟨o,e,_⟩:=T.obj _ _ tn5 b hb
     exact (J9.pin (b,o) (List.mem_append_right _ (cE hb e))).2.1
    ·have q':=q
     simp only [List.push_toArray] at q'
     exact q'
 exact codeAny_compStart_list (loop _ rfl) (T.self _ 0 _ _ _ (T.keep 0 _ _ t0 (fun b hb o e=>old b o e)) (loop _ rfl))
def mJ (wi:TI) (g:TG) (tt:TT) (te:TE) (own:List Str) (js:List Nat):TE:=fun σ H Q=>wi σ H fun J H1=>oG J g tt te (dr own js σ) H1 fun acc H2=>∀ p,H2 p=none→Q (.ref p) (upd H2 p (.lst acc))
theorem mo {elt tg iter:Expr} {ifs:List Expr} {pos:Pos} {wi:TI} {g:TG} {tt:TT} {te:TE} (own:List Str) (js:List Nat) (c:CompOk X scope cl own js) (hc:X.calm=true) (hi:PI X tg iter wi)
 (inner:∀ (C:Addr) (s₀:Shared) (H₀:Hp) (ex:List Addr),PG (bK X scope cl (di X own js) C s₀ H₀ ex) tg g∧PIf (bK X scope cl (di X own js) C s₀ H₀ ex) ifs tt∧PE (bK X scope cl (di X own js) C s₀ H₀ ex) elt te)
 (hs:∀ x,foldedSetIterable iter X.env x=pure x:=by intro _; rfl):PE X (.ListComp elt [⟨tg,iter,ifs,0⟩] scope pos) (mJ wi g tt te own js):=by
 refine ⟨fun pins s σ H Q I h=>?_⟩
 rw [eval_ListComp]
 refine wpAny_comprehension_free (use:=none) rfl hs c.clos c.kind c.names (thn (hi.go pins s σ H _ I h) fun v s1 h1=>thn h1 fun itv s2 h2=>?_)
 obtain ⟨it,fp,tn,J,H2,e,I2,T,st2,f2,hW⟩:=h2
 subst e
 refine iX (RR:=fun acc C=>compPost (model X.prog X.w) X.A X.xe none (EP X pins σ Q) acc C) c hc I2 T st2 f2 inner hW ?_
 intro D C s' acc H' hn hD hz hDC hCL hUC hI
 exact ⟨hn.choose,hn.choose_spec,fun h' hsb=>⟨.ref D,_,hI h' hsb,rfl,hz D hD⟩⟩
theorem h8 {elt tg iter:Expr} {ifs:List Expr} {pos spos py:Pos} {wi:TI} {g:TG} {tt:TT} {te:TE} {i:Nat} {y:Str} (own:List Str) (js:List Nat) (c:CompOk X scope cl own js) (hc:X.calm=true) (hN:X.N.Nodup) (hy:X.N[i]? = some y) (hx:Loc X.env.scope y) (hi:PI X tg iter wi)
 (inner:∀ (C:Addr) (s₀:Shared) (H₀:Hp) (ex:List Addr),PG (bK X scope cl (di X own js) C s₀ H₀ ex) tg g∧PIf (bK X scope cl (di X own js) C s₀ H₀ ex) ifs tt∧PE (bK X scope cl (di X own js) C s₀ H₀ ex) elt te)
 (hsw:swapsWith (.ListComp elt [⟨tg,iter,ifs,0⟩] scope pos) (some (.Name y py)) spos.line X.env=pure true:=by rfl)
 (hs:∀ x,foldedSetIterable iter X.env x=pure x:=by intro _; rfl) (hf:X.fn y=true∨X.env.scope.names.lookup y=some .local:=by first | exact .inl rfl | exact .inr rfl | assumption) :
 PS X (.Assign [.Name y py] (.ListComp elt [⟨tg,iter,ifs,0⟩] scope pos) spos) (q9 (mJ wi g tt te own js) (i3 i)):=by
 refine ⟨fun pins s σ H D I h=>?_⟩
 rw [exec_Assign_Name_used _ _ _ _ hsw]
 refine wpAny_bind (wpAny_standAt (wpAny_bind ?_))
 show wpAny _ X.A (do let _ ← comprehension (.ListComp elt [⟨tg,iter,ifs,0⟩] scope pos) scope X.env _ (newList []) false (eval iter X.env) (some (assign (.Name y py) X.env))) _ _ s
 refine wpAny_bind (wpAny_mono (wpAny_comprehension_free (use:=some (assign (.Name y py) X.env)) (Q:=fun _ s'=>SP X pins D .next s') rfl hs c.clos c.kind c.names
  (thn (hi.go pins s σ H _ I h) fun v s1 h1=>thn h1 fun itv s2 h2=>?_)) (fun _ s' hq=>wpAny_pure (wpAny_pure hq)) fun _ _ e=>e)
 obtain ⟨it,fp,tn,J,H2,e,I2,T,st2,f2,hW⟩:=h2
 subst e
 refine iX (RR:=fun acc C=>compPost (model X.prog X.w) X.A X.xe (some (assign (.Name y py) X.env)) (fun _ s'=>SP X pins D .next s') acc C) c hc I2 T st2 f2 inner hW ?_
 intro D' C s' acc H' hn hD hz hDC hCL hUC hI
 show wpAny _ X.A (assign (.Name y py) X.env (.ref D')) _ _ _
 have I9:=hI s'.heap (Heap.SameBut.refl _ _)
 obtain ⟨m,hm⟩:=hn
 refine wpAny_assign_Name (iG (v:=.ref D') I9 hN hy hx rfl (fun s'' I'' ⟨a,sb,ha⟩=>?_) hf)
 have aC:C≠a:=by
  rcases ha with ha | ha
  ·rw [ha]; exact hCL
  ·intro z
   subst z
   obtain ⟨v,q⟩:=I2.cell y C ha
   exact absurd (Nat.lt_of_lt_of_le q.lt hDC) (Nat.lt_irrefl _)
 refine ⟨m,hm.sameBut sb aC,fun h' hsb=>?_⟩
 refine ⟨σ.set i (some (.ref D')),upd H' D' (.lst acc),I''.turned (t':=s''.toks) (it:=C) (fun b o hb e=>by rw [hsb.2 b hb]; exact e) ?_ hCL (.inr (Nat.le_trans I2.sz hDC)) (fun x d e z=>?_) (fun p hp z=>?_),hz D' hD⟩
 ·exact hUC
 ·obtain ⟨v,q⟩:=I2.cell x d e
  rw [z] at q
  exact absurd (Nat.lt_of_lt_of_le q.lt hDC) (Nat.lt_irrefl _)
 ·have q:=Heap.lt_size (I2.pin p hp).1
  rw [z] at q
  exact absurd (Nat.lt_of_lt_of_le q hDC) (Nat.lt_irrefl _)
end
def Ite (a:Addr):It :=
 ⟨fun i H=>∃ xs x,H a=some (.lst xs)∧xs[i]? = some x,fun i H v H'=>∃ p x,H p=none∧v = .ref p∧H'=upd H p (.tup [.int i,x])∧∀ xs,H a=some (.lst xs)→xs[i]? = some x,fun i H=>∃ xs,H a=some (.lst xs)∧xs.length≤i⟩
theorem nB {P:Program} {w:World} {K:PySem.W.Frag} {es:List Expr} {k:Nat} {pos:Pos} (a e it:Addr) (hne:e≠it) :
 Turn P w K (.Tuple es k pos) (Ite a) [e,it] e (fun i h=>(∃ old,IsEnum h e it i old)∧h.IsListIter it a i) where
 mem:=by simp
 obj:=fun i h st b hb=>by
  rw [List.mem_cons,List.mem_singleton] at hb
  rcases hb with rfl | rfl
  ·obtain ⟨⟨old,q⟩,_⟩:=st
   exact ⟨_,q,fun v z=>by cases z⟩
  ·obtain ⟨_,o,q,c,d⟩:=st
   exact ⟨o,q,fun v z=>by rw [d] at z; cases z⟩
 keep:=fun i h h' st kp=>⟨by obtain ⟨old,q⟩:=st.1; exact ⟨old,kp e (by simp) _ q⟩,st.2.at fun o q=>kp it (by simp) o q⟩
 item:=by
  intro X hP hw hK hc i pins s σ H E I hf st hg
  subst hP hw hK
  obtain ⟨xs,x,hq,hx⟩:=hg
  obtain ⟨⟨old,he⟩,hit⟩:=st
  obtain ⟨its,rv,p,hz⟩:=I.list (SqL.of hq)
  obtain ⟨u,hu,ru⟩:=rv.get hx
  obtain ⟨f0,f1,f2,f3,f4,f5⟩:=hf e (by simp)
  obtain ⟨g0,g1,g2,g3,g4,g5⟩:=hf it (by simp)
  refine wpAny_pyNext_enum_item he hit p.isList (x:=u) (by simpa using hu) hne fun h' eo it' ht hsz hk=>?_
  refine ⟨.ref s.heap.objs.size,rfl,?_⟩
  refine wpAny_letOwnedTupleGo_enum eo fun h2 he2 hs2=>?_
  have fr:H s.heap.objs.size=none:=I.hok.fresh (Nat.le_refl _)
  have ne2:∀ b,b<s.heap.objs.size→b≠s.heap.objs.size:=fun b hb=>Nat.ne_of_lt hb
  have ee:e<s.heap.objs.size:=Heap.lt_size he
  have k2:∀ b o,b≠e→b≠it→s.heap.get? b=some o→h2.get? b=some o:=fun b o h1 h2' q=>(hs2.2 b h1).trans (hk b o h1 h2' q)
  have ht2:h2.get? s.heap.objs.size=some { cls:=.type "tuple",data:=.seq #[.int i s.toks,u] }:=(hs2.2 _ (Nat.ne_of_gt ee)).trans ht
  have trk:∀ b v,H b=some v→b≠e∧b≠it:=fun b v q=>⟨aF q f0,aF q g0⟩
  have hok0:HOk X.prog X.w H h2:=fun b o q=>(I.hok b o q).stay (fun c v hc q'=>by
   rcases hc with rfl | hc
   ·exact k2 c v (trk c _ q).1 (trk c _ q).2 q'
   ·exact k2 c v (trk c _ hc).1 (trk c _ hc).2 q') (fun _ z=>z) (fun _ _ z=>z) fun _ _ _ z=>z
  have I1:Inv X pins σ (upd H s.heap.objs.size (.tup [.int i,x])) { s with heap:=h2,toks:=s.toks + 1 }:=by
   refine I.step (g':=s.gens) (d':=s.drawn) (ch:=[e,it]) (fun b hb=>?_) (fun b o _ _ hc q _=>k2 b o (fun z=>hc (by simp [z])) (fun z=>hc (by simp [z])) q) (fun b o _ _ hc q _=>⟨o.slots,k2 b o (fun z=>hc (by simp [z])) (fun z=>hc (by simp [z])) q⟩)
    (fun b o _ q n=>by rw [av (ne2 b (Heap.lt_size q))]; exact n) (fun b o hc q=>⟨o,k2 b o (fun z=>hc (by simp [z])) (fun z=>hc (by simp [z])) q⟩) (fun b ys q=>by rw [av (aF q fr)]; exact q) (fun b o v q=>by rw [av (aF q fr)]; exact q)
    (fun b ps _ q=>⟨#[],by rw [av (aF q fr),q]; simp⟩) (fun m hm=>?_) ?_ I.bare
   ·rw [List.mem_cons,List.mem_singleton] at hb
    rcases hb with rfl | rfl
    ·exact ⟨f3,f1,f4,f5⟩
    ·exact ⟨g3,g1,g4,g5⟩
   ·obtain ⟨o,es',ep,ho,r⟩:=hm
    exact ⟨o,es',ep,k2 _ o (Ne.symm f1) (Ne.symm g1) ho,r⟩
   ·exact hok0.adopt fr ⟨by show 2≤sizeLine; decide,[.int i s.toks,u],.cons ⟨_,rfl⟩ (.cons ru .nil),⟨_,ht2,rfl,_,rfl⟩⟩
  refine ⟨.ref s.heap.objs.size,_,I1,rfl,⟨_,x,fr,rfl,rfl,fun ys hy=>by rw [hq] at hy; cases hy; exact hx⟩,⟨⟨_,by simpa using he2⟩,it'.extBut hs2.extBut (Ne.symm hne)⟩,fun b hb=>?_⟩
  have:H b=none:=(hf b hb).1
  have hb':b<s.heap.objs.size:=by
   rw [List.mem_cons,List.mem_singleton] at hb
   rcases hb with rfl | rfl
   ·exact ee
   ·obtain ⟨o,q,_⟩:=hit; exact Heap.lt_size q
  rw [av (ne2 b hb')]
  exact this
 done:=by
  intro X hP hw hK hc i pins s σ H E I hf st hg
  subst hP hw hK
  obtain ⟨xs,hq,hx⟩:=hg
  obtain ⟨⟨old,he⟩,hit⟩:=st
  obtain ⟨its,rv,p,hz⟩:=I.list (SqL.of hq)
  obtain ⟨g0,g1,g2,g3,g4,g5⟩:=hf it (by simp)
  have hl:=rv.length
  exact wpAny_pyNext_enum_end (I.ok.hd hc) he hit p.isList (by simp; omega) fun h' eb=>⟨rfl,I.turned (t':=s.toks) (fun b o hb e=>eb b o hb e) g0 g1 g3 g4 g5⟩
 self:=fun _ _ _ _ _ st h=>by
  obtain ⟨⟨old,he⟩,_⟩:=st
  exact wpAny_pyIter_enum he h
section
variable {X:Cx} {es:List Expr} {k:Nat} {tpos:Pos}
def iEnum (ta:TA):TI:=fun σ H R=>ta σ H fun vs H1=>∃ a,vs=[.ref a]∧(∃ xs,H1 a=some (.lst xs))∧R (Ite a) H1
theorem sC {l:Expr} {ta:TA} {p pos:Pos} (hg:Gl X "enumerate") (hm:X.mg "enumerate" = none) (ha:PA X [l] ta) (hs:starEach [l] X.env=[(false,eval l X.env)]:=by rfl):PI X (.Tuple es k tpos) (.Call (.Name "enumerate" p) [l] [] pos) (iEnum ta):=by
 refine ⟨fun pins s σ H R I h=>?_⟩
 refine wpAny_Call_Name_kw (d9 I hg hm jn ?_)
 refine PyProof.Rows.callWith_type1 (thn (ha pos pins s σ H _ I h) fun us s1 ⟨vs,H1,I1,r1,a,e,⟨xs,hx⟩,q⟩=>?_) hs rfl
 subst e
 obtain ⟨u,rfl,ru⟩:=eQ r1
 cases ru
 obtain ⟨_,its,n,rv,ho⟩:=(show bS X.prog X.w H1 s1.heap a (.lst xs) from I1.hok a _ hx)
 refine call_enumerate_1 ho fun h' he hit hsz hk=>?_
 have I2:Inv X pins σ H1 { s1 with heap:=h' }:=I1.kept (t':=s1.toks) hk
 refine wpAny_pyIter_enum he ⟨s1.heap.objs.size + 1,[s1.heap.objs.size + 1,s1.heap.objs.size],_,Ite a,H1,rfl,I2,nB a (s1.heap.objs.size + 1) s1.heap.objs.size (Nat.succ_ne_self _),⟨⟨_,he⟩,hit⟩,fun b hb=>?_,q⟩
 have hb':s1.heap.objs.size≤b:=by
  rw [List.mem_cons,List.mem_singleton] at hb
  rcases hb with rfl | rfl <;> omega
 have z:=I1.fpOk (H':=H1) hb' (I1.hok.fresh hb')
 exact z
end
mutual
def toP:D→PyData
 | .non=>.none
 | .bl b=>.bool b
 | .int i=>.int i
 | .str x=>.str x
 | .tup ds=>.tuple (toPs ds)
 | .lst ds=>.list (toPs ds)
 | .dct=>.dict []
 | .dic _ _=>.dict []
 | .obj _ _ _=>.dict []
 | .scr _ _=>.dict []
 | .ext _=>.dict []
def toPs:List D→List PyData
 | []=>[]
 | d :: ds=>toP d :: toPs ds
end
mutual
theorem dP {X:Cx} {pins:List (Addr×Obj)} {σ:St} {H:Hp} {s:Shared} (I:Inv X pins σ H s):∀ (d:D) (v:V) (u:Value),Rep H d v→a8 v u→(toP d).canLay0=true→∃ as,Reads s.heap u (toP d) as
 | .non,v,u,h,r,_=>by rw [Rep] at h; subst h; cases r; rw [toP]; exact ⟨_,.none⟩
 | .bl b,v,u,h,r,_=>by rw [Rep] at h; subst h; cases r; rw [toP]; exact ⟨_,.bool b⟩
 | .int i,v,u,h,r,_=>by rw [Rep] at h; subst h; obtain ⟨t,rfl⟩:=r; rw [toP]; exact ⟨_,.int i t⟩
 | .str x,v,u,h,r,_=>by rw [Rep] at h; subst h; obtain ⟨t,rfl⟩:=r; rw [toP]; exact ⟨_,.str x t⟩
 | .tup ds,v,u,h,r,c=>by
  rw [Rep] at h
  obtain ⟨a,xs,rfl,ha,hx⟩:=h
  cases r
  rw [toP] at c ⊢
  obtain ⟨_,its,rv,o,e1,e2,n,e3⟩:=(show bS X.prog X.w H s.heap a (.tup xs) from I.hok a _ ha)
  obtain ⟨as,q⟩:=reps_reads I ds xs its hx rv (by rw [PyData.canLay0] at c; exact c)
  exact ⟨_,reads_tuple_at e1 e2 e3 (by simpa using q)⟩
 | .lst ds,v,u,h,r,c=>by
  rw [Rep] at h
  obtain ⟨a,xs,rfl,ha,hx⟩:=h
  cases r
  rw [toP] at c ⊢
  obtain ⟨_,its,n,rv,e1⟩:=(show bS X.prog X.w H s.heap a (.lst xs) from I.hok a _ ha)
  obtain ⟨as,q⟩:=reps_reads I ds xs its hx rv (by rw [PyData.canLay0] at c; exact c)
  exact ⟨_,reads_list_at e1 rfl rfl (by simpa using q)⟩
 | .dct,v,u,h,r,c=>by rw [toP,PyData.canLay0] at c; cases c
 | .dic _ _,v,u,h,r,c=>by rw [toP,PyData.canLay0] at c; cases c
 | .obj _ _ _,v,u,h,r,c=>by rw [toP,PyData.canLay0] at c; cases c
 | .scr _ _,v,u,h,r,c=>by rw [toP,PyData.canLay0] at c; cases c
 | .ext _,v,u,h,r,c=>by rw [toP,PyData.canLay0] at c; cases c
theorem reps_reads {X:Cx} {pins:List (Addr×Obj)} {σ:St} {H:Hp} {s:Shared} (I:Inv X pins σ H s):∀ (ds:List D) (vs:List V) (us:List Value),Reps H ds vs→aQ vs us→PyData.canLayAll0 (toPs ds)=true→∃ as,ReadsAll s.heap us (toPs ds) as
 | [],vs,us,h,r,_=>by rw [Reps] at h; subst h; cases r; rw [toPs]; exact ⟨_,.nil⟩
 | d :: ds,vs,us,h,r,c=>by
  rw [Reps] at h
  obtain ⟨v,vs',rfl,h1,h2⟩:=h
  rw [toPs] at c ⊢
  rw [PyData.canLayAll0,Bool.and_eq_true] at c
  cases r with
  | cons r1 r2 =>
   obtain ⟨as,q1⟩:=dP I d v _ h1 r1 c.1
   obtain ⟨bs,q2⟩:=reps_reads I ds vs' _ h2 r2 c.2
   exact ⟨_,.cons q1 q2⟩
end
section
variable {X:Cx}
def rEqD:R2:=fun x y H Q=>∃ d e,Rep H d x∧Rep H e y∧SeqAt.shaped (toP d)=true∧SeqAt.shaped (toP e)=true∧Q (.bl (PyData.eqv (toP d) (toP e))) H
def rNeD:R2:=fun x y H Q=>∃ d e,Rep H d x∧Rep H e y∧SeqAt.shaped (toP d)=true∧SeqAt.shaped (toP e)=true∧Q (.bl (!PyData.eqv (toP d) (toP e))) H
theorem dg (hu:X.A.units + 64<cLine):OpR X (compareOp .Eq) rEqD:=by
 intro pins s σ H x y v u Q I rx ry h
 obtain ⟨d,e,h1,h2,c1,c2,q⟩:=h
 obtain ⟨as,r1⟩:=dP I d x v h1 rx (SeqAt.canLay_of_shaped c1)
 obtain ⟨bs,r2⟩:=dP I e y u h2 ry (SeqAt.canLay_of_shaped c2)
 exact eq_dataH r1 r2 c1 c2 hu ⟨.bl _,H,I,rfl,q⟩
theorem bZ (hu:X.A.units + 64<cLine):OpR X (compareOp .NotEq) rNeD:=by
 intro pins s σ H x y v u Q I rx ry h
 obtain ⟨d,e,h1,h2,c1,c2,q⟩:=h
 obtain ⟨as,r1⟩:=dP I d x v h1 rx (SeqAt.canLay_of_shaped c1)
 obtain ⟨bs,r2⟩:=dP I e y u h2 ry (SeqAt.canLay_of_shaped c2)
 exact ne_dataH r1 r2 c1 c2 hu ⟨.bl _,H,I,rfl,q⟩
end
def ar (ns:List Int):D:=.lst (ns.map .int)
theorem gA (ns:List Int):toPs (ns.map .int)=ns.map .int:=by
 induction ns with
 | nil=>rw [List.map_nil,toPs]; rfl
 | cons n r ih=>rw [List.map_cons,toPs,ih,toP]; rfl
theorem qa (ns:List Int):PyData.canLayAll0 (ns.map .int)=true∧PyData.depthAll (ns.map .int)≤1:=by
 induction ns with
 | nil=>simp [PyData.canLayAll0,PyData.depthAll]
 | cons n r ih=>simp only [List.map_cons,PyData.canLayAll0,PyData.canLay0,PyData.depthAll,PyData.depth,ih.1,Bool.and_self,true_and]; have:=ih.2; omega
theorem oW (ns ms:List Int):PyData.eqvAll (ns.map .int) (ms.map .int)=decide (ns=ms):=by
 induction ns generalizing ms with
 | nil=>cases ms <;> simp [PyData.eqvAll]
 | cons n r ih =>
  cases ms with
  | nil=>simp [PyData.eqvAll]
  | cons m q =>
   rw [List.map_cons,List.map_cons,PyData.eqvAll,PyData.eqv,ih]
   by_cases h:n=m
   ·subst h; simp
   ·simp [h]
theorem jY (ns:List Int):SeqAt.shaped (toP (ar ns))=true:=by
 have h:=qa ns
 unfold SeqAt.shaped ar
 rw [toP,gA,PyData.canLay0,PyData.depth,h.1,Bool.true_and]
 exact decide_eq_true (by have:=h.2; omega)
theorem rd (ns ms:List Int):PyData.eqv (toP (ar ns)) (toP (ar ms))=decide (ns=ms):=by
 unfold ar
 rw [toP,toP,gA,gA,PyData.eqv,oW]
theorem gm {H:Hp}:∀ ns:List Int,Reps H (ns.map .int) (ns.map V.int)
 | []=>bN
 | n :: r=>bQ (bf n) (gm r)
def aK (ns ms:List Int):D:=.tup [ar ns,ar ms]
section
variable {X:Cx}
end
abbrev DSt:=List (Option D)
abbrev Own:=Addr→Option (Nat×List Nat)
mutual
def Sep (G H:Hp) (O:Own) (i:Nat):D→List Nat→V→Prop
 | .non,_,v=>v = .non
 | .bl b,_,v=>v = .bl b
 | .int n,_,v=>v = .int n
 | .str x,_,v=>v = .str x
 | .tup ds,π,v=>∃ a xs,v = .ref a∧G a=some (.tup xs)∧Seps G H O i ds 0 π xs
 | .lst ds,π,v=>∃ a xs,v = .ref a∧O a=some (i,π)∧H a=some (.lst xs)∧Seps G H O i ds 0 π xs
 | .dct,_,_=>False
 | .dic ks ds,π,v=>∃ a xs,v = .ref a∧O a=some (i,π)∧H a=some (.dK (ks.zip xs))∧ks.length=ds.length∧Seps G H O i ds 0 π xs
 | .obj C ks ds,π,v=>∃ a dx xs,v = .ref a∧O a=some (i,π)∧H a=some (.ins C dx (ks.zip xs))∧ks.length=ds.length∧Seps G H O i ds 0 π xs
 | .scr _ _,_,_=>False
 | .ext _,_,_=>False
def Seps (G H:Hp) (O:Own) (i:Nat):List D→Nat→List Nat→List V→Prop
 | [],_,_,xs=>xs=[]
 | d :: ds,k,π,xs=>∃ v vs,xs=v :: vs∧Sep G H O i d (k :: π) v∧Seps G H O i ds (k + 1) π vs
end
def cT (G G':Hp):Prop:=∀ a xs,G a=some (.tup xs)→G' a=some (.tup xs)
theorem aM.ts {G G':Hp} (h:aM G G'):cT G G':=fun a xs e=>h a _ e
mutual
theorem Sep.map {G H G' H':Hp} {O O':Own} {i i':Nat} {f:List Nat→List Nat} (hG:cT G G') (hf:∀ k π,f (k :: π)=k :: f π) :
 ∀ (d:D) (π:List Nat) (v:V),(∀ a τ,O a=some (i,τ++π)→O' a=some (i',f (τ++π))∧H' a=H a)→Sep G H O i d π v→Sep G' H' O' i' d (f π) v
 | .non,_,_,_,h=>by rw [Sep] at *; exact h
 | .bl b,_,_,_,h=>by rw [Sep] at *; exact h
 | .int n,_,_,_,h=>by rw [Sep] at *; exact h
 | .str x,_,_,_,h=>by rw [Sep] at *; exact h
 | .tup ds,π,v,hO,h=>by
  rw [Sep] at *
  obtain ⟨a,xs,h1,h2,h3⟩:=h
  exact ⟨a,xs,h1,hG _ _ h2,Seps.map hG hf ds 0 π xs (fun a τ _=>hO a τ) h3⟩
 | .lst ds,π,v,hO,h=>by
  rw [Sep] at *
  obtain ⟨a,xs,h1,h2,h3,h4⟩:=h
  have q:=hO a [] h2
  exact ⟨a,xs,h1,q.1,q.2.trans h3,Seps.map hG hf ds 0 π xs (fun a τ _=>hO a τ) h4⟩
 | .dic ks ds,π,v,hO,h=>by
  rw [Sep] at *
  obtain ⟨a,xs,h1,h2,h3,h5,h4⟩:=h
  have q:=hO a [] h2
  exact ⟨a,xs,h1,q.1,q.2.trans h3,h5,Seps.map hG hf ds 0 π xs (fun a τ _=>hO a τ) h4⟩
 | .obj C ks ds,π,v,hO,h=>by
  rw [Sep] at *
  obtain ⟨a,dx,xs,h1,h2,h3,h5,h4⟩:=h
  have q:=hO a [] h2
  exact ⟨a,dx,xs,h1,q.1,q.2.trans h3,h5,Seps.map hG hf ds 0 π xs (fun a τ _=>hO a τ) h4⟩
 | .dct,_,_,_,h=>by rw [Sep] at h; exact h.elim
 | .scr _ _,_,_,_,h=>by rw [Sep] at h; exact h.elim
 | .ext _,_,_,_,h=>by rw [Sep] at h; exact h.elim
theorem Seps.map {G H G' H':Hp} {O O':Own} {i i':Nat} {f:List Nat→List Nat} (hG:cT G G') (hf:∀ k π,f (k :: π)=k :: f π) :
 ∀ (ds:List D) (k:Nat) (π:List Nat) (xs:List V),(∀ a τ,τ≠[]→O a=some (i,τ++π)→O' a=some (i',f (τ++π))∧H' a=H a)→Seps G H O i ds k π xs→Seps G' H' O' i' ds k (f π) xs
 | [],_,_,_,_,h=>by rw [Seps] at *; exact h
 | d :: ds,k,π,xs,hO,h=>by
  rw [Seps] at *
  obtain ⟨v,vs,h1,h2,h3⟩:=h
  refine ⟨v,vs,h1,?_,Seps.map hG hf ds (k + 1) π vs hO h3⟩
  rw [← hf]
  refine Sep.map hG hf d (k :: π) v (fun a τ e=>?_) h2
  have e' : τ++k :: π=(τ++[k])++π:=by simp
  rw [e'] at e ⊢
  exact hO a (τ++[k]) (by simp) e
end
theorem Sep.keep {G H G' H':Hp} {O O':Own} {i i':Nat} {d:D} {π:List Nat} {v:V} (hG:cT G G') (hO:∀ a τ,O a=some (i,τ++π)→O' a=some (i',τ++π)∧H' a=H a) (h:Sep G H O i d π v):Sep G' H' O' i' d π v :=
 Sep.map (f:=id) hG (fun _ _=>rfl) d π v hO h
theorem Seps.keep {G H G' H':Hp} {O O':Own} {i i':Nat} {ds:List D} {k:Nat} {π:List Nat} {xs:List V} (hG:cT G G') (hO:∀ a τ,τ≠[]→O a=some (i,τ++π)→O' a=some (i',τ++π)∧H' a=H a) (h:Seps G H O i ds k π xs):Seps G' H' O' i' ds k π xs :=
 Seps.map (f:=id) hG (fun _ _=>rfl) ds k π xs hO h
mutual
theorem Sep.rep {G H G':Hp} {O:Own} {i:Nat} (hG:cT G G'):∀ (d:D) (π:List Nat) (v:V),(∀ a τ (o:HO),O a=some (i,τ++π)→H a=some o→G' a=some o)→Sep G H O i d π v→Rep G' d v
 | .non,_,_,_,h=>by rw [Sep] at h; rw [Rep]; exact h
 | .bl b,_,_,_,h=>by rw [Sep] at h; rw [Rep]; exact h
 | .int n,_,_,_,h=>by rw [Sep] at h; rw [Rep]; exact h
 | .str x,_,_,_,h=>by rw [Sep] at h; rw [Rep]; exact h
 | .tup ds,π,v,hO,h=>by
  rw [Sep] at h; rw [Rep]
  obtain ⟨a,xs,h1,h2,h3⟩:=h
  exact ⟨a,xs,h1,hG _ _ h2,Seps.rep hG ds 0 π xs (fun a τ ys _=>hO a τ ys) h3⟩
 | .lst ds,π,v,hO,h=>by
  rw [Sep] at h; rw [Rep]
  obtain ⟨a,xs,h1,h2,h3,h4⟩:=h
  exact ⟨a,xs,h1,hO a [] _ h2 h3,Seps.rep hG ds 0 π xs (fun a τ ys _=>hO a τ ys) h4⟩
 | .dic ks ds,π,v,hO,h=>by
  rw [Sep] at h; rw [Rep]
  obtain ⟨a,xs,h1,h2,h3,h5,h4⟩:=h
  exact ⟨a,xs,h1,hO a [] _ h2 h3,h5,Seps.rep hG ds 0 π xs (fun a τ ys _=>hO a τ ys) h4⟩
 | .obj C ks ds,π,v,hO,h=>by
  rw [Sep] at h; rw [Rep]
  obtain ⟨a,dx,xs,h1,h2,h3,h5,h4⟩:=h
  exact ⟨a,dx,xs,h1,hO a [] _ h2 h3,h5,Seps.rep hG ds 0 π xs (fun a τ ys _=>hO a τ ys) h4⟩
 | .dct,_,_,_,h=>by rw [Sep] at h; exact h.elim
 | .scr _ _,_,_,_,h=>by rw [Sep] at h; exact h.elim
 | .ext _,_,_,_,h=>by rw [Sep] at h; exact h.elim
theorem Seps.rep {G H G':Hp} {O:Own} {i:Nat} (hG:cT G G'):∀ (ds:List D) (k:Nat) (π:List Nat) (xs:List V),(∀ a τ (o:HO),τ≠[]→O a=some (i,τ++π)→H a=some o→G' a=some o)→Seps G H O i ds k π xs→Reps G' ds xs
 | [],_,_,_,_,h=>by rw [Seps] at h; rw [Reps]; exact h
 | d :: ds,k,π,xs,hO,h=>by
  rw [Seps] at h; rw [Reps]
  obtain ⟨v,vs,h1,h2,h3⟩:=h
  refine ⟨v,vs,h1,Sep.rep hG d (k :: π) v (fun a τ ys e q=>?_) h2,Seps.rep hG ds (k + 1) π vs hO h3⟩
  have e' : τ++k :: π=(τ++[k])++π:=by simp
  rw [e'] at e
  exact hO a (τ++[k]) ys (by simp) e q
end
mutual
def imm:D→Bool
 | .tup ds=>imms ds
 | .lst _=>false
 | .dct=>false
 | .dic _ _=>false
 | .obj _ _ _=>false
 | .scr _ _=>false
 | .ext _=>false
 | _=>true
def imms:List D→Bool
 | []=>true
 | d :: ds=>imm d&&imms ds
end
mutual
theorem Rep.sep {G H:Hp} {O:Own} {i:Nat}:∀ (d:D) (π:List Nat) (v:V),imm d=true→Rep G d v→Sep G H O i d π v
 | .non,_,_,_,h=>by rw [Rep] at h; rw [Sep]; exact h
 | .bl b,_,_,_,h=>by rw [Rep] at h; rw [Sep]; exact h
 | .int n,_,_,_,h=>by rw [Rep] at h; rw [Sep]; exact h
 | .str x,_,_,_,h=>by rw [Rep] at h; rw [Sep]; exact h
 | .tup ds,π,v,hi,h=>by
  rw [Rep] at h; rw [Sep]
  obtain ⟨a,xs,h1,h2,h3⟩:=h
  exact ⟨a,xs,h1,h2,Reps.sep ds 0 π xs (by rw [imm] at hi; exact hi) h3⟩
 | .lst ds,_,_,hi,_=>by rw [imm] at hi; cases hi
 | .dct,_,_,hi,_=>by rw [imm] at hi; cases hi
 | .dic _ _,_,_,hi,_=>by rw [imm] at hi; cases hi
 | .obj _ _ _,_,_,hi,_=>by rw [imm] at hi; cases hi
 | .scr _ _,_,_,hi,_=>by rw [imm] at hi; cases hi
 | .ext _,_,_,hi,_=>by rw [imm] at hi; cases hi
theorem Reps.sep {G H:Hp} {O:Own} {i:Nat}:∀ (ds:List D) (k:Nat) (π:List Nat) (xs:List V),imms ds=true→Reps G ds xs→Seps G H O i ds k π xs
 | [],_,_,_,_,h=>by rw [Reps] at h; rw [Seps]; exact h
 | d :: ds,k,π,xs,hi,h=>by
  rw [Reps] at h; rw [Seps]
  rw [imms,Bool.and_eq_true] at hi
  obtain ⟨v,vs,h1,h2,h3⟩:=h
  exact ⟨v,vs,h1,Rep.sep d (k :: π) v hi.1 h2,Reps.sep ds (k + 1) π vs hi.2 h3⟩
end
mutual
theorem Sep.imm {G H:Hp} {O:Own} {i:Nat}:∀ (d:D) (π:List Nat) (v:V),L2.imm d=true→Sep G H O i d π v→Rep G d v
 | .non,_,_,_,h=>by rw [Sep] at h; rw [Rep]; exact h
 | .bl b,_,_,_,h=>by rw [Sep] at h; rw [Rep]; exact h
 | .int n,_,_,_,h=>by rw [Sep] at h; rw [Rep]; exact h
 | .str x,_,_,_,h=>by rw [Sep] at h; rw [Rep]; exact h
 | .tup ds,π,v,hi,h=>by
  rw [Sep] at h; rw [Rep]
  obtain ⟨a,xs,h1,h2,h3⟩:=h
  exact ⟨a,xs,h1,h2,Seps.imm ds 0 π xs (by rw [L2.imm] at hi; exact hi) h3⟩
 | .lst ds,_,_,hi,_=>by rw [L2.imm] at hi; cases hi
 | .dct,_,_,hi,_=>by rw [L2.imm] at hi; cases hi
 | .dic _ _,_,_,hi,_=>by rw [L2.imm] at hi; cases hi
 | .obj _ _ _,_,_,hi,_=>by rw [L2.imm] at hi; cases hi
 | .scr _ _,_,_,hi,_=>by rw [L2.imm] at hi; cases hi
 | .ext _,_,_,hi,_=>by rw [L2.imm] at hi; cases hi
theorem Seps.imm {G H:Hp} {O:Own} {i:Nat}:∀ (ds:List D) (k:Nat) (π:List Nat) (xs:List V),imms ds=true→Seps G H O i ds k π xs→Reps G ds xs
 | [],_,_,_,_,h=>by rw [Seps] at h; rw [Reps]; exact h
 | d :: ds,k,π,xs,hi,h=>by
  rw [Seps] at h; rw [Reps]
  rw [imms,Bool.and_eq_true] at hi
  obtain ⟨v,vs,h1,h2,h3⟩:=h
  exact ⟨v,vs,h1,Sep.imm d (k :: π) v hi.1 h2,Seps.imm ds (k + 1) π vs hi.2 h3⟩
end
mutual
theorem Rep.imms {G G':Hp} (hG:cT G G'):∀ (d:D) (v:V),L2.imm d=true→Rep G d v→Rep G' d v
 | .non,_,_,h=>by rw [Rep] at *; exact h
 | .bl b,_,_,h=>by rw [Rep] at *; exact h
 | .int n,_,_,h=>by rw [Rep] at *; exact h
 | .str x,_,_,h=>by rw [Rep] at *; exact h
 | .tup ds,v,hi,h=>by
  rw [Rep] at *
  obtain ⟨a,xs,h1,h2,h3⟩:=h
  exact ⟨a,xs,h1,hG _ _ h2,Reps.imms hG ds xs (by rw [L2.imm] at hi; exact hi) h3⟩
 | .lst ds,_,hi,_=>by rw [L2.imm] at hi; cases hi
 | .dct,_,hi,_=>by rw [L2.imm] at hi; cases hi
 | .dic _ _,_,hi,_=>by rw [L2.imm] at hi; cases hi
 | .obj _ _ _,_,hi,_=>by rw [L2.imm] at hi; cases hi
 | .scr _ _,_,hi,_=>by rw [L2.imm] at hi; cases hi
 | .ext _,_,hi,_=>by rw [L2.imm] at hi; cases hi
theorem Reps.imms {G G':Hp} (hG:cT G G'):∀ (ds:List D) (xs:List V),L2.imms ds=true→Reps G ds xs→Reps G' ds xs
 | [],_,_,h=>by rw [Reps] at *; exact h
 | d :: ds,xs,hi,h=>by
  rw [Reps] at *
  rw [L2.imms,Bool.and_eq_true] at hi
  obtain ⟨v,vs,h1,h2,h3⟩:=h
  exact ⟨v,vs,h1,Rep.imms hG d v hi.1 h2,Reps.imms hG ds vs hi.2 h3⟩
end
theorem Seps.length {G H:Hp} {O:Own} {i:Nat}:∀ {ds:List D} {k:Nat} {π:List Nat} {xs:List V},Seps G H O i ds k π xs→xs.length=ds.length
 | [],_,_,_,h=>by rw [Seps] at h; subst h; rfl
 | d :: ds,k,π,xs,h=>by
  rw [Seps] at h
  obtain ⟨v,vs,rfl,_,h3⟩:=h
  simp [Seps.length h3]
inductive WrO where
 | inl (xs:List V) | inr (kvs:List (Key×V)) | ins (C dx:Addr) (fs:List (Str×V))
def WrO.ho:WrO→HO
 | .inl xs=>.lst xs
 | .inr kvs=>.dK kvs
 | .ins C dx fs=>.ins C dx fs
theorem WrO.ne {m:WrO} {xs:List V} (h:m.ho = .tup xs):False:=by cases m <;> cases h
structure Ctx where
 G:Hp
 H:Hp
 O:Own
 mu:List (Option V)
 np:Nat
def b9 (G H:Hp) (O:Own):List (D×V)→Prop
 | []=>True
 | (d,v) :: r=>Sep G H O (2 * r.length + 1) d [] v∧b9 G H O r
def Nw (C:Ctx) (a:Addr) (l:Nat):Prop:=C.H a=none∨∃ π,C.O a=some (l,π)
def NT (o:HO):Prop:=∀ ps q,o≠.tbl ps q
theorem WrO.nt (x:WrO):NT x.ho:=by cases x <;> (intro _ _ z; cases z)
structure RO (C:Ctx) (ow:List Bool) (G:Hp) (ρ:DSt) (σ:St) (H:Hp) (pd:List (D×V)) (O:Own):Prop where
 len : ρ.length=σ.length
 gh:aM G H
 g0:aM C.G G
 gn:∀ a o,G a=some o→C.G a=some o∨C.H a=none
 og:∀ a l,O a=some l→G a=none∧(∃ xs:WrO,H a=some xs.ho)∧Nw C a l.1
 cok:∀ a l π,C.O a=some (l,π)→(∃ (i:Nat) (v:V),l=2 * i∧C.mu[i]? = some (some v))∨∃ j,l=2 * j + 1∧j<C.np
 fr:∀ a o,C.H a=some o→C.O a=none→NT o→H a=some o
 ft:∀ a ps q,H a=some (.tbl ps q)→G a=none
 al:∀ a,H a=none→C.H a=none
 mp:∀ (i:Nat) v,C.mu[i]? = some (some v)→σ[i]? = some (some v)
 sl:∀ (i:Nat) d,ρ[i]? = some (some d)→∃ v,σ[i]? = some (some v)∧if ow[i]? = some true then Sep G H O (2 * i) d [] v else Rep G d v
 pn:b9 G H O pd
 np:C.np≤pd.length
def R (C:Ctx) (ow:List Bool) (G:Hp) (ρ:DSt) (σ:St) (H:Hp) (pd:List (D×V)):Prop:=∃ O,RO C ow G ρ σ H pd O
theorem b9.keep {G H G' H':Hp} {O O':Own} (hG:cT G G'):∀ {pd:List (D×V)},(∀ a j π,j<pd.length→O a=some (2 * j + 1,π)→O' a=some (2 * j + 1,π)∧H' a=H a)→b9 G H O pd→b9 G' H' O' pd
 | [],_,_=>trivial
 | (d,v) :: r,hO,⟨h1,h2⟩=>⟨h1.keep hG fun a τ e=>hO a r.length _ (by simp) e,b9.keep hG (fun a j π hj=>hO a j π (by simp; omega)) h2⟩
section
variable {C:Ctx} {ow:List Bool} {G:Hp} {ρ:DSt} {σ:St} {H:Hp} {pd:List (D×V)} {O:Own}
theorem RO.new (h:RO C ow G ρ σ H pd O) {p:Addr} (hp:H p=none) (o:HO) (nt:NT o:=by intro _ _ z; cases z):RO C ow (upd G p o) ρ σ (upd H p o) pd O∧aM G (upd G p o):=by
 have gp:G p=none:=by
  cases e:G p with
  | none=>rfl
  | some z=>rw [h.gh _ _ e] at hp; cases hp
 have sG:=pK gp o
 have ne:∀ a l,O a=some l→a≠p:=fun a l e z=>by
  obtain ⟨_,⟨xs,q⟩,_⟩:=h.og a l e
  rw [z,hp] at q; cases q
 refine ⟨⟨h.len,?_,fun a u e=>sG _ _ (h.g0 a u e),?_,?_,h.cok,?_,?_,?_,h.mp,?_,?_,h.np⟩,sG⟩
 ·intro a u e
  by_cases z:a=p
  ·subst z; rw [aE] at e ⊢; exact e
  ·rw [av z] at e ⊢; exact h.gh _ _ e
 ·intro a u e
  by_cases z:a=p
  ·subst z; exact .inr (h.al _ hp)
  ·rw [av z] at e; exact h.gn a u e
 ·intro a l e
  have z:=ne a l e
  rw [av z,av z]
  exact h.og a l e
 ·intro a u e n t
  rw [av (aF (h.fr a u e n t) hp)]
  exact h.fr a u e n t
 ·intro a ps q e
  by_cases z:a=p
  ·subst z; rw [aE] at e; cases e; exact absurd rfl (nt ps q)
  ·rw [av z] at e ⊢; exact h.ft a ps q e
 ·intro a e
  by_cases z:a=p
  ·subst z; rw [aE] at e; cases e
  ·rw [av z] at e; exact h.al a e
 ·intro i d e
  obtain ⟨v,h1,h2⟩:=h.sl i d e
  refine ⟨v,h1,?_⟩
  split at h2
  ·rename_i c; rw [if_pos c]; exact h2.keep sG.ts fun a τ q=>⟨q,av (ne a _ q)⟩
  ·rename_i c; rw [if_neg c]; exact h2.mono sG
 ·exact b9.keep sG.ts (fun a j π _ q=>⟨q,av (ne a _ q)⟩) h.pn
theorem RO.newL (h:RO C ow G ρ σ H pd O) {p:Addr} (hp:H p=none) {xs:List V} {ds:List D} (hi:imms ds=true) (hr:Reps G ds xs) :
 R C ow G ρ σ (upd H p (.lst xs)) ((.lst ds,.ref p) :: pd):=by
 have gp:G p=none:=by
  cases e:G p with
  | none=>rfl
  | some z=>rw [h.gh _ _ e] at hp; cases hp
 have ne:∀ a l,O a=some l→a≠p:=fun a l e z=>by
  obtain ⟨_,⟨xs,q⟩,_⟩:=h.og a l e
  rw [z,hp] at q; cases q
 let O':Own:=fun a=>if a=p then some (2 * pd.length + 1,[]) else O a
 have old:∀ a l,O a=some l→O' a=some l:=fun a l e=>by
  show (if a=p then _ else _)=_
  rw [if_neg (ne a _ e),e]
 refine ⟨O',h.len,?_,h.g0,h.gn,?_,h.cok,?_,?_,?_,h.mp,?_,⟨?_,?_⟩,Nat.le_succ_of_le h.np⟩
 ·intro a u e
  rw [av (fun z=>by rw [z,gp] at e; cases e)]
  exact h.gh _ _ e
 ·intro a l e
  by_cases z:a=p
  ·subst z; exact ⟨gp,⟨.inl xs,aE⟩,.inl (h.al _ hp)⟩
  ·rw [av z]
   change (if a=p then _ else _)=_ at e
   rw [if_neg z] at e
   exact h.og a _ e
 ·intro a u e n t
  rw [av (aF (h.fr a u e n t) hp)]
  exact h.fr a u e n t
 ·intro a ps q e
  by_cases z:a=p
  ·subst z; rw [aE] at e; cases e
  ·rw [av z] at e; exact h.ft a ps q e
 ·intro a e
  by_cases z:a=p
  ·subst z; rw [aE] at e; cases e
  ·rw [av z] at e; exact h.al a e
 ·intro i d e
  obtain ⟨v,h1,h2⟩:=h.sl i d e
  refine ⟨v,h1,?_⟩
  split at h2
  ·rename_i c; rw [if_pos c]; exact h2.keep (fun _ _ z=>z) fun a τ q=>⟨old a _ q,av (ne a _ q)⟩
  ·rename_i c; rw [if_neg c]; exact h2
 ·rw [Sep]
  exact ⟨p,xs,rfl,by show (if p=p then _ else _)=_; rw [if_pos rfl],aE,hr.sep ds 0 [] xs hi⟩
 ·exact b9.keep (fun _ _ z=>z) (fun a j π hj q=>⟨old a _ q,av (ne a _ q)⟩) h.pn
end
theorem Seps.snoc {G H:Hp} {O:Own} {i:Nat} {d:D} {v:V}:∀ {ds:List D} {k:Nat} {π:List Nat} {xs:List V},Seps G H O i ds k π xs→Sep G H O i d ((k + ds.length) :: π) v→Seps G H O i (ds++[d]) k π (xs++[v])
 | [],k,π,xs,h,hd=>by rw [Seps] at h; subst h; show Seps _ _ _ _ [d] _ _ [v]; rw [Seps]; exact ⟨v,[],rfl,by simpa using hd,by rw [Seps]⟩
 | e :: ds,k,π,xs,h,hd=>by
  rw [Seps] at h
  obtain ⟨u,us,rfl,h2,h3⟩:=h
  show Seps _ _ _ _ (e :: (ds++[d])) _ _ (u :: (us++[v]))
  rw [Seps]
  refine ⟨u,us++[v],rfl,h2,Seps.snoc h3 ?_⟩
  have:k + 1 + ds.length=k + (e :: ds).length:=by simp; omega
  rw [this]; exact hd
theorem Seps.set {G H:Hp} {O:Own} {i:Nat} {d:D} {v:V}:∀ {ds:List D} {k:Nat} {π:List Nat} {xs:List V} {j:Nat},Seps G H O i ds k π xs→Sep G H O i d ((k + j) :: π) v→Seps G H O i (ds.set j d) k π (xs.set j v)
 | [],k,π,xs,j,h,hd=>by rw [Seps] at h; subst h; simp; rw [Seps]
 | e :: ds,k,π,xs,0,h,hd=>by
  rw [Seps] at h
  obtain ⟨u,us,rfl,h2,h3⟩:=h
  simp only [List.set_cons_zero]; rw [Seps]
  exact ⟨v,us,rfl,by simpa using hd,h3⟩
 | e :: ds,k,π,xs,j + 1,h,hd=>by
  rw [Seps] at h
  obtain ⟨u,us,rfl,h2,h3⟩:=h
  simp only [List.set_cons_succ]; rw [Seps]
  refine ⟨u,_,rfl,h2,Seps.set h3 ?_⟩
  have:k + 1 + j=k + (j + 1):=by omega
  rw [this]; exact hd
theorem Seps.at {G H:Hp} {O:Own} {i:Nat} {d:D}:∀ {ds:List D} {k:Nat} {π:List Nat} {xs:List V} {j:Nat},Seps G H O i ds k π xs→ds[j]? = some d→∃ v,xs[j]? = some v∧Sep G H O i d ((k + j) :: π) v
 | [],k,π,xs,j,h,e=>by simp at e
 | e :: ds,k,π,xs,0,h,q=>by
  rw [Seps] at h
  obtain ⟨u,us,rfl,h2,h3⟩:=h
  simp at q; subst q
  exact ⟨u,rfl,by simpa using h2⟩
 | e :: ds,k,π,xs,j + 1,h,q=>by
  rw [Seps] at h
  obtain ⟨u,us,rfl,h2,h3⟩:=h
  obtain ⟨v,h4,h5⟩:=Seps.at (j:=j) h3 (by simpa using q)
  refine ⟨v,by simpa using h4,?_⟩
  have:k + 1 + j=k + (j + 1):=by omega
  rw [← this]; exact h5
theorem Seps.front {G H:Hp} {O:Own} {i:Nat}:∀ {ds:List D} {k:Nat} {π:List Nat} {xs:List V},Seps G H O i ds k π xs→Seps G H O i ds.dropLast k π xs.dropLast
 | [],k,π,xs,h=>by rw [Seps] at h; subst h; show Seps _ _ _ _ [] _ _ []; rw [Seps]
 | [e],k,π,xs,h=>by
  rw [Seps] at h
  obtain ⟨u,us,rfl,h2,h3⟩:=h
  rw [Seps] at h3; subst h3
  show Seps _ _ _ _ [] _ _ []; rw [Seps]
 | e :: e' :: ds,k,π,xs,h=>by
  rw [Seps] at h
  obtain ⟨u,us,rfl,h2,h3⟩:=h
  have h3':=h3
  rw [Seps] at h3
  obtain ⟨u',us',rfl,_,_⟩:=h3
  show Seps _ _ _ _ (e :: (e' :: ds).dropLast) _ _ (u :: (u' :: us').dropLast)
  rw [Seps]
  exact ⟨u,_,rfl,h2,Seps.front h3'⟩
section
variable {C:Ctx} {ow:List Bool} {G:Hp} {ρ:DSt} {σ:St} {H:Hp} {pd:List (D×V)} {O:Own}
theorem gz {α:Type} {l:List (Option α)} {i j:Nat} {x:Option α} {d : α} (h:(l.set i x)[j]? = some (some d)):(j=i∧x=some d)∨(j≠i∧l[j]? = some (some d)):=by
 rw [List.getElem?_set] at h
 by_cases e:i=j
 ·rw [if_pos e] at h
  split at h
  ·exact .inl ⟨e.symm,Option.some.inj h⟩
  ·cases h
 ·rw [if_neg e] at h; exact .inr ⟨fun z=>e z.symm,h⟩
theorem d_ {α:Type} {l:List (Option α)} {i:Nat} {x:Option α} (h:l[i]? = some x):i<l.length:=(List.getElem?_eq_some_iff.mp h).1
theorem RO.setS (h:RO C ow G ρ σ H pd O) {i:Nat} {d:D} {v:V} (hi:ow[i]?≠some true) (hm:∀ v,C.mu[i]?≠some (some v)) (r:Rep G d v):RO C ow G (ρ.set i (some d)) (σ.set i (some v)) H pd O:=by
 refine ⟨by simp [h.len],h.gh,h.g0,h.gn,h.og,h.cok,h.fr,h.ft,h.al,?_,?_,h.pn,h.np⟩
 ·intro j u e
  have:i≠j:=fun z=>hm u (z ▸ e)
  rw [List.getElem?_set_ne this]
  exact h.mp j u e
 ·intro j e q
  rcases gz q with ⟨rfl,z⟩ | ⟨z,q'⟩
  ·cases z
   have hl:j<σ.length:=by have:=d_ q; rw [List.length_set,h.len] at this; exact this
   exact ⟨v,by rw [List.getElem?_set_self hl],by rw [if_neg hi]; exact r⟩
  ·obtain ⟨u,h1,h2⟩:=h.sl j e q'
   exact ⟨u,by rw [List.getElem?_set_ne (Ne.symm z)]; exact h1,h2⟩
def lab (f:Nat→List Nat→Nat×List Nat) (O:Own):Own:=fun a=>(O a).map fun l=>f l.1 l.2
theorem bE {f:Nat→List Nat→Nat×List Nat} {a:Addr} {l:Nat} {π:List Nat} (h:O a=some (l,π)):lab f O a=some (f l π):=by unfold lab; rw [h]; rfl
theorem gy {f:Nat→List Nat→Nat×List Nat} {a:Addr} {m:Nat×List Nat} (h:lab f O a=some m):∃ l π,O a=some (l,π)∧m=f l π:=by
 unfold lab at h
 cases e:O a with
 | none=>rw [e] at h; cases h
 | some l=>rw [e] at h; exact ⟨l.1,l.2,rfl,(Option.some.inj h).symm⟩
theorem cb {i j:Nat} : 2 * i≠2 * j + 1:=by omega
theorem RO.setO {d:D} {v:V} (h:RO C ow G ρ σ H ((d,v) :: pd) O) {i:Nat} (hi:ow[i]? = some true) (hm:∀ v,C.mu[i]?≠some (some v)) (hn:C.np≤pd.length) :
 R C ow G (ρ.set i (some d)) (σ.set i (some v)) H pd:=by
 refine ⟨lab (fun l π=>if l=2 * pd.length + 1 then (2 * i,π) else (l,π)) O,by simp [h.len],h.gh,h.g0,h.gn,?_,h.cok,h.fr,h.ft,h.al,?_,?_,?_,hn⟩
 ·intro a m e
  obtain ⟨l,π,e1,rfl⟩:=gy e
  obtain ⟨q1,q2,q3⟩:=h.og a _ e1
  refine ⟨q1,q2,?_⟩
  try dsimp only
  split
  ·rename_i z
   rcases q3 with q3 | ⟨_,q3⟩
   ·exact .inl q3
   ·rcases h.cok _ _ _ q3 with ⟨k,_,q4,_⟩ | ⟨k,q4,q5⟩
    ·exact absurd (q4.symm.trans z) cb
    ·omega
  ·exact q3
 ·intro j u e
  have:i≠j:=fun z=>hm u (z ▸ e)
  rw [List.getElem?_set_ne this]
  exact h.mp j u e
 ·intro j e q
  rcases gz q with ⟨rfl,z⟩ | ⟨z,q'⟩
  ·cases z
   have hl:j<σ.length:=by have:=d_ q; rw [List.length_set,h.len] at this; exact this
   refine ⟨v,by rw [List.getElem?_set_self hl],?_⟩
   rw [if_pos hi]
   exact h.pn.1.keep (fun _ _ z=>z) fun a τ q=>⟨by rw [bE q,if_pos rfl],rfl⟩
  ·obtain ⟨u,h1,h2⟩:=h.sl j e q'
   refine ⟨u,by rw [List.getElem?_set_ne (Ne.symm z)]; exact h1,?_⟩
   split at h2
   ·rename_i c; rw [if_pos c]; exact h2.keep (fun _ _ z=>z) fun a τ q=>⟨by rw [bE q,if_neg cb],rfl⟩
   ·rename_i c; rw [if_neg c]; exact h2
 ·exact b9.keep (fun _ _ z=>z) (fun a j π hj q=>⟨by rw [bE q,if_neg (by omega)],rfl⟩) h.pn.2
theorem RO.move (h:RO C ow G ρ σ H pd O) {i:Nat} {d:D} (e : ρ[i]? = some (some d)) (hi:ow[i]? = some true) (hm:∀ v,C.mu[i]?≠some (some v)) :
 ∃ v,σ[i]? = some (some v)∧R C ow G (ρ.set i none) σ H ((d,v) :: pd):=by
 obtain ⟨v,hv,s⟩:=h.sl i d e
 rw [if_pos hi] at s
 refine ⟨v,hv,lab (fun l π=>if l=2 * i then (2 * pd.length + 1,π) else (l,π)) O,by simp [h.len],h.gh,h.g0,h.gn,?_,h.cok,h.fr,h.ft,h.al,h.mp,?_,⟨?_,?_⟩,Nat.le_succ_of_le h.np⟩
 ·intro a m e
  obtain ⟨l,π,e1,rfl⟩:=gy e
  obtain ⟨q1,q2,q3⟩:=h.og a _ e1
  refine ⟨q1,q2,?_⟩
  try dsimp only
  split
  ·rename_i z
   rcases q3 with q3 | ⟨_,q3⟩
   ·exact .inl q3
   ·rcases h.cok _ _ _ q3 with ⟨k,u,q4,q5⟩ | ⟨k,q4,_⟩
    ·have:k=i:=by have:=q4.symm.trans z; omega
     exact absurd (this ▸ q5) (hm u)
    ·omega
  ·exact q3
 ·intro j e q
  rcases gz q with ⟨rfl,z⟩ | ⟨z,q'⟩
  ·cases z
  ·obtain ⟨u,h1,h2⟩:=h.sl j e q'
   refine ⟨u,h1,?_⟩
   split at h2
   ·rename_i c; rw [if_pos c]; exact h2.keep (fun _ _ z=>z) fun a τ q=>⟨by rw [bE q,if_neg (by omega)],rfl⟩
   ·rename_i c; rw [if_neg c]; exact h2
 ·exact s.keep (fun _ _ z=>z) fun a τ q=>⟨by rw [bE q,if_pos rfl],rfl⟩
 ·exact b9.keep (fun _ _ z=>z) (fun a j π hj q=>⟨by rw [bE q,if_neg (fun z=>cb z.symm)],rfl⟩) h.pn
def hasL (O:Own) (l:Nat) (a:Addr):Bool:=match O a with
 | some m=>m.1 == l
 | none=>false
theorem eX {l:Nat} {a:Addr}:hasL O l a=true↔∃ π,O a=some (l,π):=by
 unfold hasL
 cases e:O a with
 | none=>simp
 | some m=>obtain ⟨m1,m2⟩:=m; simp
theorem RO.share {d:D} {v:V} (h:RO C ow G ρ σ H ((d,v) :: pd) O) (hn:C.np≤pd.length):∃ G',aM G G'∧R C ow G' ρ σ H pd∧Rep G' d v:=by
 let l₀:=2 * pd.length + 1
 let G':Hp:=fun a=>if hasL O l₀ a=true then H a else G a
 have sG:aM G G':=fun a o e=>by
  show (if _ then _ else _)=_
  split
  ·exact h.gh _ _ e
  ·exact e
 have inH:∀ a τ (o:HO),O a=some (l₀,τ)→H a=some o→G' a=some o:=fun a τ xs q e=>by
  show (if _ then _ else _)=_
  rw [if_pos (eX.mpr ⟨_,q⟩)]; exact e
 refine ⟨G',sG,⟨fun a=>if hasL O l₀ a=true then none else O a,h.len,?_,fun a o e=>sG _ _ (h.g0 _ _ e),?_,?_,h.cok,h.fr,(fun a ps q e=>by
  show (if _ then _ else _)=_
  split
  ·rename_i c
   obtain ⟨τ,c⟩:=eX.mp c
   obtain ⟨_,⟨xs,z⟩,_⟩:=h.og a _ c
   rw [z] at e; exact absurd (Option.some.inj e) (WrO.nt xs _ _)
  ·exact h.ft a ps q e),h.al,h.mp,?_,?_,hn⟩,h.pn.1.rep sG.ts d [] v (fun a τ xs q e=>inH a _ xs q e)⟩
 ·intro a o e
  change (if _ then _ else _)=_ at e
  split at e
  ·exact e
  ·exact h.gh _ _ e
 ·intro a o e
  change (if _ then _ else _)=_ at e
  split at e
  ·rename_i c
   obtain ⟨π,q⟩:=eX.mp c
   obtain ⟨_,_,q3⟩:=h.og a _ q
   rcases q3 with q3 | ⟨_,q3⟩
   ·exact .inr q3
   ·rcases h.cok _ _ _ q3 with ⟨k,_,q4,_⟩ | ⟨k,q4,q5⟩
    ·exact absurd q4.symm cb
    ·have q4' : 2 * pd.length + 1=2 * k + 1:=q4
     omega
  ·exact h.gn a o e
 ·intro a l e
  try dsimp only at e
  split at e
  ·cases e
  ·rename_i c
   obtain ⟨q1,q2,q3⟩:=h.og a l e
   exact ⟨by show (if _ then _ else _)=_; rw [if_neg c]; exact q1,q2,q3⟩
 ·intro j e q
  obtain ⟨u,h1,h2⟩:=h.sl j e q
  refine ⟨u,h1,?_⟩
  split at h2
  ·rename_i c; rw [if_pos c]
   refine h2.keep sG.ts fun a τ q=>⟨?_,rfl⟩
   rw [if_neg,q]
   intro z
   obtain ⟨π,z⟩:=eX.mp z
   rw [q] at z
   have:=(Prod.mk.inj (Option.some.inj z)).1
   omega
  ·rename_i c; rw [if_neg c]; exact h2.mono sG
 ·refine b9.keep sG.ts (fun a j π hj q=>⟨?_,rfl⟩) h.pn.2
  rw [if_neg,q]
  intro z
  obtain ⟨π,z⟩:=eX.mp z
  rw [q] at z
  have:=(Prod.mk.inj (Option.some.inj z)).1
  omega
theorem RO.write (h:RO C ow G ρ σ H pd O) {i:Nat} {ds:List D} (e : ρ[i]? = some (some (.lst ds))) (hi:ow[i]? = some true) :
 ∃ a xs,σ[i]? = some (some (.ref a))∧H a=some (.lst xs)∧Seps G H O (2 * i) ds 0 [] xs ∧
  ∀ ds' xs',Seps G H O (2 * i) ds' 0 [] xs'→RO C ow G (ρ.set i (some (.lst ds'))) σ (upd H a (.lst xs')) pd O:=by
 obtain ⟨v,hv,s⟩:=h.sl i _ e
 rw [if_pos hi,Sep] at s
 obtain ⟨a,xs,rfl,hO,hH,hs⟩:=s
 refine ⟨a,xs,hv,hH,hs,fun ds' xs' hs'=>?_⟩
 obtain ⟨g0,_,nw⟩:=h.og a _ hO
 have ne:∀ b l π,O b=some (l,π)→(l≠2 * i∨π≠[])→b≠a:=fun b l π q n z=>by
  subst z
  rw [hO] at q
  obtain ⟨q1,q2⟩:=Prod.mk.inj (Option.some.inj q)
  rcases n with n | n
  ·exact n q1.symm
  ·exact n q2.symm
 refine ⟨by simp [h.len],?_,h.g0,h.gn,?_,h.cok,?_,?_,?_,h.mp,?_,?_,h.np⟩
 ·intro b o q
  rw [av (fun z=>by rw [z,g0] at q; cases q)]; exact h.gh _ _ q
 ·intro b l q
  obtain ⟨q1,⟨ys,q2⟩,q3⟩:=h.og b l q
  refine ⟨q1,?_,q3⟩
  by_cases z:b=a
  ·subst z; exact ⟨.inl _,aE⟩
  ·rw [av z]; exact ⟨ys,q2⟩
 ·intro b o q n t
  by_cases z:b=a
  ·subst z
   rcases nw with nw | ⟨_,nw⟩
   ·rw [nw] at q; cases q
   ·rw [nw] at n; cases n
  ·rw [av z]; exact h.fr b o q n t
 ·intro b ps q e
  by_cases z:b=a
  ·subst z; rw [aE] at e; cases e
  ·rw [av z] at e; exact h.ft b ps q e
 ·intro b q
  by_cases z:b=a
  ·subst z; rw [aE] at q; cases q
  ·rw [av z] at q; exact h.al b q
 ·intro j u q
  rcases gz q with ⟨rfl,z⟩ | ⟨z,q'⟩
  ·cases z
   refine ⟨_,hv,?_⟩
   rw [if_pos hi,Sep]
   exact ⟨a,xs',rfl,hO,aE,hs'.keep (fun _ _ z=>z) fun b τ hτ q=>⟨q,av (ne b _ _ q (.inr (by simpa using hτ)))⟩⟩
  ·obtain ⟨w,h1,h2⟩:=h.sl j u q'
   refine ⟨w,h1,?_⟩
   split at h2
   ·rename_i c; rw [if_pos c]; exact h2.keep (fun _ _ z=>z) fun b τ q=>⟨q,av (ne b _ _ q (.inl (by omega)))⟩
   ·rename_i c; rw [if_neg c]; exact h2
 ·exact b9.keep (fun _ _ z=>z) (fun b j π hj q=>⟨q,av (ne b _ _ q (.inl (fun z=>cb z.symm)))⟩) h.pn
theorem RO.join {d:D} {v:V} (h:RO C ow G ρ σ H ((d,v) :: pd) O) (i n:Nat) (hn:C.np≤pd.length) :
 ∃ O',RO C ow G ρ σ H pd O'∧Sep G H O' (2 * i) d [n] v∧∀ (l:Nat) ds k π xs,l≠2 * pd.length + 1→Seps G H O l ds k π xs→Seps G H O' l ds k π xs:=by
 refine ⟨lab (fun l π=>if l=2 * pd.length + 1 then (2 * i,π++[n]) else (l,π)) O,⟨h.len,h.gh,h.g0,h.gn,?_,h.cok,h.fr,h.ft,h.al,h.mp,?_,?_,hn⟩,?_,?_⟩
 ·intro a m e
  obtain ⟨l,π,e1,rfl⟩:=gy e
  obtain ⟨q1,q2,q3⟩:=h.og a _ e1
  refine ⟨q1,q2,?_⟩
  try dsimp only
  split
  ·rename_i z
   rcases q3 with q3 | ⟨_,q3⟩
   ·exact .inl q3
   ·rcases h.cok _ _ _ q3 with ⟨k,_,q4,_⟩ | ⟨k,q4,q5⟩
    ·exact absurd (q4.symm.trans z) cb
    ·omega
  ·exact q3
 ·intro j e q
  obtain ⟨u,h1,h2⟩:=h.sl j e q
  refine ⟨u,h1,?_⟩
  split at h2
  ·rename_i c; rw [if_pos c]; exact h2.keep (fun _ _ z=>z) fun a τ q=>⟨by rw [bE q,if_neg cb],rfl⟩
  ·rename_i c; rw [if_neg c]; exact h2
 ·exact b9.keep (fun _ _ z=>z) (fun a j π hj q=>⟨by rw [bE q,if_neg (by omega)],rfl⟩) h.pn.2
 ·exact Sep.map (f:=fun π=>π++[n]) (fun _ _ z=>z) (fun _ _=>rfl) d [] v (fun a τ q=>⟨by rw [bE q,if_pos rfl],rfl⟩) h.pn.1
 ·intro l ds k π xs hl hs
  exact hs.keep (fun _ _ z=>z) fun a τ _ q=>⟨by rw [bE q,if_neg hl],rfl⟩
end
def bor (js:List Nat) (ow:List Bool):List Bool:=ow.mapIdx fun j b=>b && !js.contains j
theorem cV {js:List Nat} {ow:List Bool} {j:Nat}:(bor js ow)[j]? = some true↔ow[j]? = some true∧js.contains j=false:=by
 unfold bor
 rw [List.getElem?_mapIdx]
 cases e:ow[j]? with
 | none=>simp
 | some b=>cases b <;> simp
def lB (ρ:DSt) (js:List Nat) (n l:Nat):Bool:=if l % 2=0 then (match ρ[l / 2]? with | some (some _)=>!js.contains (l / 2) | _=>false) else decide (l / 2<n)
def iy (js:List Nat) (l:Nat):Bool:=decide (l % 2=0)&&js.contains (l / 2)
def dn (f:Nat→Bool) (O:Own):Own:=fun a=>match O a with
 | some m=>if f m.1=true then some m else none
 | none=>none
theorem fN {f:Nat→Bool} {O:Own} {a:Addr} {m:Nat×List Nat} (h:O a=some m) (hf:f m.1=true):dn f O a=some m:=by unfold dn; rw [h]; show (if _ then _ else _)=_; rw [if_pos hf]
theorem dq {f:Nat→Bool} {O:Own} {a:Addr} {m:Nat×List Nat} (h:dn f O a=some m):O a=some m∧f m.1=true:=by
 unfold dn at h
 cases e:O a with
 | none=>rw [e] at h; cases h
 | some n =>
  rw [e] at h
  change (if _ then _ else _)=_ at h
  split at h
  ·rename_i c; cases h; exact ⟨rfl,c⟩
  ·cases h
def isSm {α:Type}:Option α→Bool
 | some _=>true
 | none=>false
section
variable {C:Ctx} {ow:List Bool} {G:Hp} {ρ:DSt} {σ:St} {H:Hp} {pd:List (D×V)} {O:Own}
def gBor (js:List Nat) (G H:Hp) (O:Own):Hp:=fun a=>if isSm (dn (iy js) O a)=true then H a else G a
def cBor (js:List Nat) (G H:Hp) (O:Own) (ρ:DSt) (σ:St) (n:Nat):Ctx:=⟨gBor js G H O,H,dn (lB ρ js n) O,σ,n⟩
theorem iR (h:RO C ow G ρ σ H pd O) (js:List Nat):aM G (gBor js G H O):=fun a o e=>by
 show (if _ then _ else _)=_
 split
 ·exact h.gh _ _ e
 ·exact e
theorem gR {α:Type} {o:Option α} (h:isSm o=true):∃ x,o=some x:=by cases o with | none=>cases h | some x=>exact ⟨x,rfl⟩
theorem RO.enter (h:RO C ow G ρ σ H pd O) (js:List Nat):RO (cBor js G H O ρ σ pd.length) (bor js ow) (gBor js G H O) ρ σ H pd (dn (lB ρ js pd.length) O):=by
 have sG:=iR h js
 refine ⟨h.len,?_,fun _ _ e=>e,fun _ _ e=>.inl e,?_,?_,fun _ _ e _ _=>e,(fun a ps q e=>by
  show (if _ then _ else _)=_
  split
  ·rename_i c
   obtain ⟨m,c⟩:=gR c
   obtain ⟨_,⟨xs,z⟩,_⟩:=h.og a m (dq c).1
   rw [z] at e; exact absurd (Option.some.inj e) (WrO.nt xs _ _)
  ·exact h.ft a ps q e),fun _ e=>e,fun _ _ e=>e,?_,?_,Nat.le_refl _⟩
 ·intro a o e
  change (if _ then _ else _)=_ at e
  split at e
  ·exact e
  ·exact h.gh _ _ e
 ·intro a l e
  obtain ⟨e1,e2⟩:=dq e
  obtain ⟨q1,q2,q3⟩:=h.og a l e1
  refine ⟨?_,q2,.inr ⟨l.2,e⟩⟩
  ·show (if _ then _ else _)=_
   rw [if_neg]; exact q1
   intro z
   obtain ⟨m,z⟩:=gR z
   obtain ⟨z1,z2⟩:=dq z
   rw [e1] at z1; cases z1
   unfold iy at z2; unfold lB at e2
   simp only [Bool.and_eq_true,decide_eq_true_eq] at z2
   rw [if_pos z2.1] at e2
   split at e2
   ·rw [z2.2] at e2; cases e2
   ·cases e2
 ·intro a l π e
  obtain ⟨e1,e2⟩:=dq e
  unfold lB at e2
  split at e2
  ·rename_i c
   split at e2
   ·rename_i d hd
    obtain ⟨v,hv,_⟩:=h.sl _ _ hd
    exact .inl ⟨l / 2,v,by omega,hv⟩
   ·cases e2
  ·exact .inr ⟨l / 2,by omega,of_decide_eq_true e2⟩
 ·intro j d e
  obtain ⟨v,h1,h2⟩:=h.sl j d e
  refine ⟨v,h1,?_⟩
  by_cases c:ow[j]? = some true
  ·rw [if_pos c] at h2
   by_cases c2:js.contains j=true
   ·rw [if_neg (fun z=>by rw [cV] at z; rw [c2] at z; exact absurd z.2 (by decide))]
    refine h2.rep sG.ts d [] v fun a τ xs q e=>?_
    show (if _ then _ else _)=_
    rw [if_pos]; exact e
    rw [fN q]; rfl
    unfold iy
    simp only [Bool.and_eq_true,decide_eq_true_eq]
    exact ⟨by omega,by rw [show 2 * j / 2=j by omega]; exact c2⟩
   ·rw [if_pos (cV.mpr ⟨c,by simpa using c2⟩)]
    refine h2.keep sG.ts fun a τ q=>⟨fN q ?_,rfl⟩
    unfold lB
    show (if 2 * j % 2=0 then _ else _)=_
    rw [if_pos (by omega),show 2 * j / 2=j by omega,e]
    simp at c2 ⊢; exact c2
  ·rw [if_neg c] at h2
   rw [if_neg (fun z=>c (cV.mp z).1)]
   exact h2.mono sG
 ·refine b9.keep sG.ts (fun a j π hj q=>⟨fN q ?_,rfl⟩) h.pn
  unfold lB
  show (if (2 * j + 1) % 2=0 then _ else _)=_
  rw [if_neg (by omega),show (2 * j + 1) / 2=j by omega]
  simpa using hj
def Kp (ow:List Bool) (ρ ρ':DSt):Prop:=∀ (j:Nat),ow[j]?≠some true→ρ'[j]? = ρ[j]?
def kJ (js:List Nat) (O:Own) (G2:Hp):Hp:=fun a=>if isSm (dn (iy js) O a)=true then none else G2 a
def tV (js:List Nat) (O O2:Own):Own:=fun a=>match O2 a with
 | some l=>some l
 | none=>dn (iy js) O a
theorem RO.leave (h:RO C ow G ρ σ H pd O) {js:List Nat} {G2:Hp} {ρ2:DSt} {H2:Hp} {pd2:List (D×V)} {O2:Own}
 (h2:RO (cBor js G H O ρ σ pd.length) (bor js ow) G2 ρ2 σ H2 pd2 O2) (kp:Kp (bor js ow) ρ ρ2) :
 RO C ow (kJ js O G2) ρ2 σ H2 pd2 (tV js O O2)∧aM G (kJ js O G2)∧cT G2 (kJ js O G2):=by
 have sG:=iR h js
 have dm:∀ a m,dn (iy js) O a=some m→O a=some m∧G a=none∧∃ xs:WrO,H a=some xs.ho∧G2 a=some xs.ho:=fun a m e=>by
  obtain ⟨e1,e2⟩:=dq e
  obtain ⟨q1,⟨xs,q2⟩,q3⟩:=h.og a m e1
  refine ⟨e1,q1,xs,q2,h2.g0 a _ ?_⟩
  show (if _ then _ else _)=_
  rw [if_pos (by rw [e]; rfl)]; exact q2
 have nd:∀ a,G a≠none→¬ isSm (dn (iy js) O a)=true:=fun a g z=>by
  obtain ⟨m,z⟩:=gR z
  exact g (dm a m z).2.1
 have sG3:aM G (kJ js O G2):=fun a o e=>by
  show (if _ then _ else _)=_
  rw [if_neg (nd a (by rw [e]; simp))]
  exact h2.g0 a o (sG a o e)
 have ts:cT G2 (kJ js O G2):=fun a xs e=>by
  show (if _ then _ else _)=_
  rw [if_neg]; exact e
  intro z
  obtain ⟨m,z⟩:=gR z
  obtain ⟨_,_,ys,_,q⟩:=dm a m z
  rw [e] at q; exact (WrO.ne (Option.some.inj q).symm).elim
 have o2:∀ a l,O2 a=some l→tV js O O2 a=some l:=fun a l e=>by show (match O2 a with | some l=>some l | none=>_)=_; rw [e]
 refine ⟨⟨h2.len,?_,fun a o e=>sG3 _ _ (h.g0 _ _ e),?_,?_,h.cok,?_,(fun a ps q e=>by show (if _ then _ else _)=_; split <;> first | rfl | exact h2.ft a ps q e),fun a e=>h.al a (h2.al a e),h.mp,?_,?_,Nat.le_trans h.np h2.np⟩,sG3,ts⟩
 ·intro a o e
  change (if _ then _ else _)=_ at e
  split at e
  ·cases e
  ·exact h2.gh _ _ e
 ·intro a o e
  change (if _ then _ else _)=_ at e
  split at e
  ·cases e
  ·rename_i c
   rcases h2.gn a o e with q | q
   ·change (if _ then _ else _)=_ at q
    rw [if_neg c] at q
    exact h.gn a o q
   ·exact .inr (h.al a q)
 ·intro a l e
  change (match O2 a with | some l=>some l | none=>_)=_ at e
  cases q:O2 a with
  | some l' =>
   rw [q] at e; cases e
   obtain ⟨q1,q2,q3⟩:=h2.og a l q
   refine ⟨by show (if _ then _ else _)=_; split <;> first | rfl | exact q1,q2,?_⟩
   rcases q3 with q3 | ⟨q3,q4⟩
   ·exact .inl (h.al a q3)
   ·exact (h.og a _ (dq q4).1).2.2
  | none =>
   rw [q] at e
   change dn (iy js) O a=some l at e
   obtain ⟨e1,q1,xs,q2,q3⟩:=dm a l e
   refine ⟨by show (if _ then _ else _)=_; rw [if_pos (by rw [e]; rfl)],⟨xs,h2.gh _ _ q3⟩,(h.og a l e1).2.2⟩
 ·intro a o e n t
  have q:=h.fr a o e n t
  refine h2.fr a o q ?_ t
  show dn _ O a=none
  cases z:dn (lB ρ js pd.length) O a with
  | none=>rfl
  | some m =>
   obtain ⟨z1,_⟩:=dq z
   obtain ⟨_,_,z3⟩:=h.og a m z1
   rcases z3 with z3 | ⟨_,z3⟩
   ·rw [z3] at e; cases e
   ·rw [z3] at n; cases n
 ·intro j d e
  by_cases c:(bor js ow)[j]? = some true
  ·obtain ⟨v,q1,q2⟩:=h2.sl j d e
   rw [if_pos c] at q2
   refine ⟨v,q1,?_⟩
   rw [if_pos (cV.mp c).1]
   exact q2.keep ts fun a τ q=>⟨o2 _ _ q,rfl⟩
  ·rw [kp j c] at e
   obtain ⟨v,q1,q2⟩:=h.sl j d e
   refine ⟨v,q1,?_⟩
   by_cases c2:ow[j]? = some true
   ·rw [if_pos c2] at q2 ⊢
    have hj:js.contains j=true:=by
     cases z:js.contains j with
     | true=>rfl
     | false=>exact absurd (cV.mpr ⟨c2,z⟩) c
    refine q2.keep sG3.ts fun a τ q=>?_
    have dd:dn (iy js) O a=some (2 * j,τ++[]):=fN q (by
     unfold iy
     simp only [Bool.and_eq_true,decide_eq_true_eq]
     exact ⟨by omega,by rw [show 2 * j / 2=j by omega]; exact hj⟩)
    obtain ⟨_,_,xs,q4,q5⟩:=dm a _ dd
    refine ⟨?_,by rw [q4]; exact h2.gh _ _ q5⟩
    show (match O2 a with | some l=>some l | none=>_)=_
    cases z:O2 a with
    | some l=>have:=(h2.og a l z).1; rw [q5] at this; cases this
    | none=>exact dd
   ·rw [if_neg c2] at q2 ⊢
    exact q2.mono sG3
 ·exact b9.keep ts (fun a j π hj q=>⟨o2 _ _ q,rfl⟩) h2.pn
end
abbrev ME:=DSt→(D→DSt→Prop)→Prop
abbrev MT:=DSt→(Bool→DSt→Prop)→Prop
abbrev MA:=DSt→(List D→DSt→Prop)→Prop
def SE (ow:List Bool) (t:TE) (m:ME):Prop:=∀ (C:Ctx) (G:Hp) (ρ:DSt) (σ:St) (H:Hp) (pd:List (D×V)) (q:D→DSt→Prop) (Q:VK),R C ow G ρ σ H pd→m ρ q →
 (∀ d ρ' v G' H',q d ρ'→aM G G'→Kp ow ρ ρ'→R C ow G' ρ' σ H' pd→Rep G' d v→Q v H')→t σ H Q
def SF (ow:List Bool) (t:TE) (m:ME):Prop:=∀ (C:Ctx) (G:Hp) (ρ:DSt) (σ:St) (H:Hp) (pd:List (D×V)) (q:D→DSt→Prop) (Q:VK),R C ow G ρ σ H pd→m ρ q →
 (∀ d ρ' v G' H',q d ρ'→aM G G'→Kp ow ρ ρ'→R C ow G' ρ' σ H' ((d,v) :: pd)→Q v H')→t σ H Q
def STe (ow:List Bool) (t:TT) (m:MT):Prop:=∀ (C:Ctx) (G:Hp) (ρ:DSt) (σ:St) (H:Hp) (pd:List (D×V)) (q:Bool→DSt→Prop) (Q:Bool→Hp→Prop),R C ow G ρ σ H pd→m ρ q →
 (∀ b ρ' G' H',q b ρ'→aM G G'→Kp ow ρ ρ'→R C ow G' ρ' σ H' pd→Q b H')→t σ H Q
def SA (ow:List Bool) (n:Nat) (t:TA) (m:MA):Prop:=∀ (C:Ctx) (G:Hp) (ρ:DSt) (σ:St) (H:Hp) (pd:List (D×V)) (q:List D→DSt→Prop) (Q:List V→Hp→Prop),R C ow G ρ σ H pd→m ρ q →
 (∀ ds ρ' vs G' H',q ds ρ'→aM G G'→Kp ow ρ ρ'→R C ow G' ρ' σ H' pd→Reps G' ds vs→vs.length=n→Q vs H')→t σ H Q
structure QE (X:Cx) (ow:List Bool) (e:Expr) (m:ME):Prop where
 ex:∃ t,PE X e t∧SE ow t m
structure QF (X:Cx) (ow:List Bool) (e:Expr) (m:ME):Prop where
 ex:∃ t,PE X e t∧SF ow t m
structure QT (X:Cx) (ow:List Bool) (e:Expr) (m:MT):Prop where
 ex:∃ t,PT X e t∧STe ow t m
structure QW (X:Cx) (ow:List Bool) (e:Expr) (m:MT):Prop where
 ex:∃ t,PW X e t∧STe ow t m
structure QA (X:Cx) (ow:List Bool) (es:List Expr) (m:MA):Prop where
 ex:∃ t,PA X es t∧SA ow es.length t m
theorem Kp.refl {ow:List Bool} {ρ:DSt}:Kp ow ρ ρ:=fun _ _=>rfl
theorem Kp.trans {ow:List Bool} {ρ ρ1 ρ2:DSt} (a:Kp ow ρ ρ1) (b:Kp ow ρ1 ρ2):Kp ow ρ ρ2:=fun j h=>(b j h).trans (a j h)
theorem R.gh {C:Ctx} {ow:List Bool} {G:Hp} {ρ:DSt} {σ:St} {H:Hp} {pd:List (D×V)} (h:R C ow G ρ σ H pd):aM G H:=let ⟨_,h⟩:=h; h.gh
theorem R.np {C:Ctx} {ow:List Bool} {G:Hp} {ρ:DSt} {σ:St} {H:Hp} {pd:List (D×V)} (h:R C ow G ρ σ H pd):C.np≤pd.length:=let ⟨_,h⟩:=h; h.np
section
variable {X:Cx} {ow:List Bool} {a b c e:Expr} {ma mb mc:ME} {pos:Pos}
def mVar (i:Nat):ME:=fun ρ q=>match ρ[i]? with
 | some (some d)=>q d ρ
 | _=>False
theorem aa (i:Nat) {x:Str} (hs:ow[i]?≠some true:=by decide) (hN:X.N[i]? = some x:=by rfl) (hv:Vis X.env.scope x:=by first | exact Or.inl rfl | exact Or.inr (Or.inl rfl) | exact Or.inr (Or.inr rfl)) (hd:(x == ("__debug__":Str))=false:=by decide)
 (hcd:(x == ("__classdict__":Str))=false:=by decide):QE X ow (.Name x pos) (mVar i):=⟨_,d5 hN hv hd hcd,fun C G ρ σ H pd q Q r h k=>by
 unfold mVar at h
 split at h
 ·rename_i d e
  obtain ⟨O,ro⟩:=r
  obtain ⟨v,h1,h2⟩:=ro.sl i d e
  rw [if_neg hs] at h2
  exact ⟨v,h1,k d ρ v G H h (aM.refl _) Kp.refl ⟨O,ro⟩ h2⟩
 ·exact h.elim⟩
def mC (d:D):ME:=fun ρ q=>q d ρ
theorem qe_c {v:V} {d:D} (h:PE X e (tC v)) (hr:∀ G,Rep G d v):QE X ow e (mC d):=⟨_,h,fun C G ρ σ H pd q Q r h k=>k d ρ v G H h (aM.refl _) Kp.refl r (hr G)⟩
theorem ac {i j}:QE X ow (.Constant (.int i) j pos) (mC (.int i)):=qe_c lV fun _=>bf _
theorem eU {i j}:QE X ow (.Constant (.bool i) j pos) (mC (.bl i)):=qe_c pe_bl fun _=>cS _
theorem iu {j}:QE X ow (.Constant .none j pos) (mC .non):=qe_c vv fun _=>mQ
theorem dG {x:Str} {i:Int} (hg:Gl X x) (hm:∃ t,X.mg x=some (.int i t)) (hd:(x == ("__debug__":Str))=false:=by decide):QE X ow (.Name x pos) (mC (.int i)):=by
 obtain ⟨t,hm⟩:=hm
 exact qe_c (rP (v:=.int i) hg hm ⟨t,rfl⟩ hd) fun _=>bf _
theorem jB {ta tb:TE} (ha:SE ow ta ma) (hb:SE ow tb mb) {C:Ctx} {G:Hp} {ρ:DSt} {σ:St} {H:Hp} {pd:List (D×V)} {f:D→D→DSt→Prop} {Q:V→V→Hp→Prop}
 (r:R C ow G ρ σ H pd) (h:ma ρ fun x ρ1=>mb ρ1 fun y ρ2=>f x y ρ2)
 (k:∀ dx dy ρ' x y G' H',f dx dy ρ'→aM G G'→Kp ow ρ ρ'→R C ow G' ρ' σ H' pd→Rep G' dx x→Rep G' dy y→Q x y H'):ta σ H fun x H1=>tb σ H1 fun y H2=>Q x y H2:=by
 refine ha C G ρ σ H pd _ _ r h fun dx ρ1 x G1 H1 h1 s1 k1 r1 p1=>?_
 refine hb C G1 ρ1 σ H1 pd _ _ r1 h1 fun dy ρ2 y G2 H2 h2 s2 k2 r2 p2=>?_
 exact k dx dy ρ2 x y G2 H2 h2 (s1.trans s2) (k1.trans k2) r2 (Rep.mono s2 _ _ p1) p2
def DOp (r:R2) (f:D→D→(D→Prop)→Prop):Prop:=∀ (G H:Hp) (x y:V) (dx dy:D) (q:D→Prop) (Q:VK),aM G H→Rep G dx x→Rep G dy y→f dx dy q→(∀ d v,q d→Rep G d v→Q v H)→r x y H Q
def mOp (f:D→D→(D→Prop)→Prop) (ma mb:ME):ME:=fun ρ q=>ma ρ fun x ρ1=>mb ρ1 fun y ρ2=>f x y fun d=>q d ρ2
theorem mX {r:R2} {f:D→D→(D→Prop)→Prop} {ta tb:TE} (hd:DOp r f) (ha:SE ow ta ma) (hb:SE ow tb mb):SE ow (tOp r ta tb) (mOp f ma mb):=fun C G ρ σ H pd q Q hr h k=>by
 refine jB ha hb hr h fun dx dy ρ' x y G' H' hf s kp r' p1 p2=>?_
 exact hd G' H' x y dx dy _ _ r'.gh p1 p2 hf fun d v hq p=>k d ρ' v G' H' hq s kp r' p
theorem aw {op:Operator} {r:R2} {f:D→D→(D→Prop)→Prop} (ho:OpR X (binaryOp op) r) (hd:DOp r f) (ha:QE X ow a ma) (hb:QE X ow b mb):QE X ow (.BinOp a op b pos) (mOp f ma mb):=by
 obtain ⟨ta,pa,sa⟩:=ha; obtain ⟨tb,pb,sb⟩:=hb
 exact ⟨_,pP ho pa pb,mX hd sa sb⟩
theorem d7 {op:CmpOp} {r:R2} {f:D→D→(D→Prop)→Prop} (ho:OpR X (compareOp op) r) (hd:DOp r f) (ha:QE X ow a ma) (hb:QE X ow b mb) (hm:behindInMarks op b=false):QE X ow (.Compare a [op] [b] pos) (mOp f ma mb):=by
 obtain ⟨ta,pa,sa⟩:=ha; obtain ⟨tb,pb,sb⟩:=hb
 exact ⟨_,sO ho pa pb hm,mX hd sa sb⟩
theorem am {r:R2} {f:D→D→(D→Prop)→Prop} (ho:IxR X r) (hd:DOp r f) (ha:QE X ow a ma) (hb:QE X ow b mb) (hs:jq b):QE X ow (.Subscript a b pos) (mOp f ma mb):=by
 obtain ⟨ta,pa,sa⟩:=ha; obtain ⟨tb,pb,sb⟩:=hb
 exact ⟨_,tN ho pa pb hs,mX hd sa sb⟩
def mB (m:ME):MT:=fun ρ q=>m ρ fun d ρ'=>match d with
 | .bl b=>q b ρ'
 | _=>False
theorem cm {G:Hp} {b:Bool} {v:V} (h:Rep G (.bl b) v):v = .bl b:=by rw [Rep] at h; exact h
theorem az {G:Hp} {b:Int} {v:V} (h:Rep G (.int b) v):v = .int b:=by rw [Rep] at h; exact h
theorem tM {t:TE} {m:ME} (h:SE ow t m):STe ow (tz t) (mB m):=fun C G ρ σ H pd q Q r hm k=>by
 refine h C G ρ σ H pd _ _ r hm fun d ρ' v G' H' hq s kp r' p=>?_
 cases d with
 | bl b=>exact ⟨b,cm p,k b ρ' G' H' hq s kp r'⟩
 | _=>exact hq.elim
theorem aW {op:CmpOp} {r:R2} {f:D→D→(D→Prop)→Prop} (ho:OpR X (compareOp op) r) (hd:DOp r f) (ha:QE X ow a ma) (hb:QE X ow b mb) (hm:behindInMarks op b=false):QT X ow (.Compare a [op] [b] pos) (mB (mOp f ma mb)):=by
 obtain ⟨ta,pa,sa⟩:=ha; obtain ⟨tb,pb,sb⟩:=hb
 exact ⟨_,sh ho pa pb hm,tM (mX hd sa sb)⟩
theorem bD (h:QE X ow e ma) (he:∀ whole,isTrue e X.env whole=(do let v ← whole; standAt e.pos; holding [v] (truthy v)):=by intro _; rfl):QT X ow e (mB ma):=by
 obtain ⟨ta,pa,sa⟩:=h
 exact ⟨_,uP pa he,tM sa⟩
def mTru (m:ME):MT:=fun ρ q=>m ρ fun d ρ'=>match d with
 | .bl b=>q b ρ'
 | .lst ds=>q (!ds.isEmpty) ρ'
 | .tup ds=>q (!ds.isEmpty) ρ'
 | .int i=>q (i != 0) ρ'
 | .non=>q false ρ'
 | _=>False
theorem pR {α β:Type} {xs:List α} {ds:List β} (h:xs.length=ds.length):(!xs.isEmpty) = !ds.isEmpty:=by
 cases xs <;> cases ds <;> simp_all
theorem qq (h:QE X ow e ma) (he:∀ whole,isTrue e X.env whole=(do let v ← whole; standAt e.pos; holding [v] (truthy v)):=by intro _; rfl):QT X ow e (mTru ma):=by
 obtain ⟨ta,pa,sa⟩:=h
 refine ⟨_,pV pa he,fun C G ρ σ H pd q Q r hm k=>?_⟩
 refine sa C G ρ σ H pd _ _ r hm fun d ρ' v G' H' hq s kp r' p=>?_
 cases d with
 | bl b=>exact ⟨b,by rw [cm p]; rfl,k b ρ' G' H' hq s kp r'⟩
 | int i=>exact ⟨_,by rw [az p]; rfl,k _ ρ' G' H' hq s kp r'⟩
 | non=>exact ⟨_,by rw [Rep] at p; rw [p]; rfl,k _ ρ' G' H' hq s kp r'⟩
 | lst ds=>rw [Rep] at p; obtain ⟨a,xs,rfl,h1,h2⟩:=p; exact ⟨_,.inl ⟨xs,SqL.of (r'.gh _ _ h1),(pR h2.length).symm⟩,k _ ρ' G' H' hq s kp r'⟩
 | tup ds=>rw [Rep] at p; obtain ⟨a,xs,rfl,h1,h2⟩:=p; exact ⟨_,.inr (.inl ⟨xs,SqT.of (r'.gh _ _ h1),(pR h2.length).symm⟩),k _ ρ' G' H' hq s kp r'⟩
 | _=>exact hq.elim
def mIf {α:Type} (m:MT) (x y:DSt→(α→DSt→Prop)→Prop):DSt→(α→DSt→Prop)→Prop:=fun ρ q=>m ρ fun b ρ1=>if b=true then x ρ1 q else y ρ1 q
def mYes (b:Bool):MT:=fun ρ q=>q b ρ
theorem st_if {t t1 t2:TT} {m m1 m2:MT} (h:STe ow t m) (h1:STe ow t1 m1) (h2:STe ow t2 m2):STe ow (fun σ H Q=>t σ H fun c H1=>if c=true then t1 σ H1 Q else t2 σ H1 Q) (mIf m m1 m2):=fun C G ρ σ H pd q Q r hm k=>by
 refine h C G ρ σ H pd _ _ r hm fun b ρ' G' H' hq s kp r'=>?_
 cases b with
 | true=>rw [if_pos rfl] at hq ⊢; exact h1 C G' ρ' σ H' pd _ _ r' hq fun b ρ2 G2 H2 hq2 s2 kp2 r2=>k b ρ2 G2 H2 hq2 (s.trans s2) (kp.trans kp2) r2
 | false=>rw [if_neg (by decide)] at hq ⊢; exact h2 C G' ρ' σ H' pd _ _ r' hq fun b ρ2 G2 H2 hq2 s2 kp2 r2=>k b ρ2 G2 H2 hq2 (s.trans s2) (kp.trans kp2) r2
theorem oA (b:Bool):STe ow (fun _ H Q=>Q b H) (mYes b):=fun C G ρ σ H pd q Q r hm k=>k b ρ G H hm (aM.refl _) Kp.refl r
variable {mt mu mv:MT} {rest:List Expr}
theorem dC (h:QT X ow a mt):QW X ow (.BoolOp .Or [a] pos) mt:=by obtain ⟨t,p,s⟩:=h; exact ⟨_,t_ p,s⟩
theorem eV (h:QT X ow a mt) (h2:QW X ow (.BoolOp .Or (b :: rest) pos) mu):QW X ow (.BoolOp .Or (a :: b :: rest) pos) (mIf mt (mYes true) mu):=by
 obtain ⟨t,p,s⟩:=h; obtain ⟨t2,p2,s2⟩:=h2; exact ⟨_,pw_or p p2,st_if s (oA true) s2⟩
theorem QW.qt (h:QW X ow e mt):QT X ow e mt:=by obtain ⟨t,p,s⟩:=h; exact ⟨_,p.pt,s⟩
def mNot (m:MT):MT:=fun ρ q=>m ρ fun b ρ'=>q (!b) ρ'
theorem bJ (h:QT X ow a mt):QT X ow (.UnaryOp .Not a pos) (mNot mt):=by
 obtain ⟨t,p,s⟩:=h
 exact ⟨_,vC p,fun C G ρ σ H pd q Q r hm k=>s C G ρ σ H pd _ _ r hm fun b ρ' G' H' hq s kp r'=>k _ ρ' G' H' hq s kp r'⟩
def mV (m:MT):ME:=fun ρ q=>m ρ fun b ρ'=>q (.bl b) ρ'
theorem gv {op} (h:QE X ow a ma):QE X ow (.BoolOp op [a] pos) ma:=by obtain ⟨t,p,s⟩:=h; exact ⟨_,uK p,s⟩
theorem wA (h:QE X ow a ma):QE X ow (.UnaryOp .Not a pos) (mV (mNot (mB ma))):=by
 obtain ⟨t,p,s⟩:=h
 refine ⟨_,vx p,fun C G ρ σ H pd q Q r hm k=>?_⟩
 refine s C G ρ σ H pd _ _ r hm fun d ρ' v G' H' hq s kp r' p=>?_
 cases d with
 | bl b=>exact ⟨b,cm p,k _ ρ' _ G' H' hq s kp r' (cS _)⟩
 | _=>exact hq.elim
theorem eG (h:QE X ow a ma) (h2:QE X ow (.BoolOp .And (b :: rest) pos) mb):QE X ow (.BoolOp .And (a :: b :: rest) pos) (mIf (mB ma) mb (mC (.bl false))):=by
 obtain ⟨t,p,s⟩:=h; obtain ⟨t2,p2,s2⟩:=h2
 refine ⟨_,uk p p2,fun C G ρ σ H pd q Q r hm k=>?_⟩
 refine s C G ρ σ H pd _ _ r hm fun d ρ' v G' H' hq s kp r' p=>?_
 cases d with
 | bl b =>
  refine ⟨b,cm p,?_⟩
  change (if b=true then _ else _) at hq
  cases b with
  | true=>rw [if_pos rfl] at hq ⊢; exact s2 C G' ρ' σ H' pd _ _ r' hq fun d ρ2 v G2 H2 hq2 z2 kp2 r2 p2=>k d ρ2 v G2 H2 hq2 (s.trans z2) (kp.trans kp2) r2 p2
  | false=>rw [if_neg (by decide)] at hq ⊢; exact k _ ρ' _ G' H' hq s kp r' (cS _)
 | _=>exact hq.elim
theorem qC (h:QT X ow c mt) (ha:QE X ow a ma) (hb:QE X ow b mb):QE X ow (.IfExp c a b pos) (mIf mt ma mb):=by
 obtain ⟨t,p,s⟩:=h; obtain ⟨t1,p1,s1⟩:=ha; obtain ⟨t2,p2,s2⟩:=hb
 refine ⟨_,oE p p1 p2,fun C G ρ σ H pd q Q r hm k=>?_⟩
 refine s C G ρ σ H pd _ _ r hm fun d ρ' G' H' hq s kp r'=>?_
 cases d with
 | true=>rw [if_pos rfl] at hq ⊢; exact s1 C G' ρ' σ H' pd _ _ r' hq fun d ρ2 v G2 H2 hq2 z2 kp2 r2 p2=>k d ρ2 v G2 H2 hq2 (s.trans z2) (kp.trans kp2) r2 p2
 | false=>rw [if_neg (by decide)] at hq ⊢; exact s2 C G' ρ' σ H' pd _ _ r' hq fun d ρ2 v G2 H2 hq2 z2 kp2 r2 p2=>k d ρ2 v G2 H2 hq2 (s.trans z2) (kp.trans kp2) r2 p2
theorem QF.qe (h:QF X ow e ma):QE X ow e ma:=by
 obtain ⟨t,p,s⟩:=h
 refine ⟨_,p,fun C G ρ σ H pd q Q r hm k=>s C G ρ σ H pd _ _ r hm fun d ρ' v G' H' hq s kp r'=>?_⟩
 obtain ⟨O,r'⟩:=r'
 obtain ⟨G2,s2,r2,p2⟩:=r'.share r.np
 exact k d ρ' v G2 H' hq (s.trans s2) kp r2 p2
def mImm (m:ME):ME:=fun ρ q=>m ρ fun d ρ'=>imm d=true∧q d ρ'
theorem QE.qf (h:QE X ow e ma):QF X ow e (mImm ma):=by
 obtain ⟨t,p,s⟩:=h
 refine ⟨_,p,fun C G ρ σ H pd q Q r hm k=>s C G ρ σ H pd _ _ r hm fun d ρ' v G' H' hq s kp r' p=>?_⟩
 obtain ⟨O,r'⟩:=r'
 exact k d ρ' v G' H' hq.2 s kp ⟨O,r'.len,r'.gh,r'.g0,r'.gn,r'.og,r'.cok,r'.fr,r'.ft,r'.al,r'.mp,r'.sl,⟨p.sep d [] v hq.1,r'.pn⟩,Nat.le_succ_of_le r'.np⟩
theorem ju {js:List Nat} {ρ ρ':DSt} (h:Kp (bor js ow) ρ ρ'):Kp ow ρ ρ':=fun j n=>h j fun z=>n (cV.mp z).1
theorem QE.bor (js:List Nat) (h:QE X (bor js ow) e ma):QE X ow e (mImm ma):=by
 obtain ⟨t,p,s⟩:=h
 refine ⟨_,p,fun C G ρ σ H pd q Q r hm k=>?_⟩
 obtain ⟨O,r⟩:=r
 refine s _ _ ρ σ H pd _ _ ⟨_,r.enter js⟩ hm fun d ρ' v G' H' hq s kp r' p=>?_
 obtain ⟨O',r'⟩:=r'
 obtain ⟨r2,s2,ts⟩:=r.leave r' kp
 exact k d ρ' v _ H' hq.2 s2 (ju kp) ⟨_,r2⟩ (p.imms ts d v hq.1)
theorem QF.bor (js:List Nat) (h:QF X (bor js ow) e ma):QF X ow e ma:=by
 obtain ⟨t,p,s⟩:=h
 refine ⟨_,p,fun C G ρ σ H pd q Q r hm k=>?_⟩
 obtain ⟨O,r⟩:=r
 refine s _ _ ρ σ H pd _ _ ⟨_,r.enter js⟩ hm fun d ρ' v G' H' hq s kp r'=>?_
 obtain ⟨O',r'⟩:=r'
 obtain ⟨r2,s2,ts⟩:=r.leave r' kp
 exact k d ρ' v _ H' hq s2 (ju kp) ⟨_,r2⟩
theorem QT.bor (js:List Nat) (h:QT X (bor js ow) e mt):QT X ow e mt:=by
 obtain ⟨t,p,s⟩:=h
 refine ⟨_,p,fun C G ρ σ H pd q Q r hm k=>?_⟩
 obtain ⟨O,r⟩:=r
 refine s _ _ ρ σ H pd _ _ ⟨_,r.enter js⟩ hm fun d ρ' G' H' hq s kp r'=>?_
 obtain ⟨O',r'⟩:=r'
 obtain ⟨r2,s2,ts⟩:=r.leave r' kp
 exact k d ρ' _ H' hq s2 (ju kp) ⟨_,r2⟩
def nb:MA:=fun ρ q=>q [] ρ
def fo (m:ME) (r:MA):MA:=fun ρ q=>m ρ fun d ρ1=>r ρ1 fun ds ρ2=>q (d :: ds) ρ2
variable {mr:MA} {es:List Expr}
theorem ah:QA X ow [] nb:=⟨_,eB,fun C G ρ σ H pd q Q r h k=>k [] ρ [] G H h (aM.refl _) Kp.refl r bN rfl⟩
theorem ad (ha:QE X ow e ma) (hr:QA X ow es mr) (hs:starEach (e :: es) X.env=(false,eval e X.env) :: starEach es X.env:=by rfl):QA X ow (e :: es) (fo ma mr):=by
 obtain ⟨t,p,s⟩:=ha; obtain ⟨t2,p2,s2⟩:=hr
 refine ⟨_,bV p p2 hs,fun C G ρ σ H pd q Q r hm k=>?_⟩
 refine s C G ρ σ H pd _ _ r hm fun d ρ' v G' H' hq z kp r' p=>?_
 refine s2 C G' ρ' σ H' pd _ _ r' hq fun ds ρ2 vs G2 H2 hq2 z2 kp2 r2 p2 hl=>?_
 exact k (d :: ds) ρ2 (v :: vs) G2 H2 hq2 (z.trans z2) (kp.trans kp2) r2 (bQ (Rep.mono z2 _ _ p) p2) (by simp [hl])
def mTup (m:MA):ME:=fun ρ q=>m ρ fun ds ρ'=>q (.tup ds) ρ'
def mLst (m:MA):ME:=fun ρ q=>m ρ fun ds ρ'=>q (.lst ds) ρ'
def mLstI (m:MA):ME:=fun ρ q=>m ρ fun ds ρ'=>imms ds=true∧q (.lst ds) ρ'
theorem du {n:Nat} (h:n≤1000):n≤sizeLine:=Nat.le_of_lt (db h)
theorem bg {x1} (h:QA X ow es mr) (hl:es.length≤1000:=by decide):QE X ow (.Tuple es x1 pos) (mTup mr):=by
 obtain ⟨t,p,s⟩:=h
 refine ⟨_,o_ p,fun C G ρ σ H pd q Q r hm k=>s C G ρ σ H pd _ _ r hm fun ds ρ' vs G' H' hq z kp r' p hn=>⟨du (by omega),fun a ha=>?_⟩⟩
 obtain ⟨O,r'⟩:=r'
 obtain ⟨r2,s2⟩:=r'.new ha (.tup vs)
 exact k _ ρ' _ _ _ hq (z.trans s2) kp ⟨O,r2⟩ (mW aE (Reps.mono s2 _ _ p))
theorem bp (h:QA X ow es mr) (hl:es.length≤1000:=by decide):QE X ow (.List es pos) (mLst mr):=by
 obtain ⟨t,p,s⟩:=h
 refine ⟨_,ln p,fun C G ρ σ H pd q Q r hm k=>s C G ρ σ H pd _ _ r hm fun ds ρ' vs G' H' hq z kp r' p hn=>⟨du (by omega),fun a ha=>?_⟩⟩
 obtain ⟨O,r'⟩:=r'
 obtain ⟨r2,s2⟩:=r'.new ha (.lst vs)
 exact k _ ρ' _ _ _ hq (z.trans s2) kp ⟨O,r2⟩ (fT aE (Reps.mono s2 _ _ p))
theorem dj (h:QA X ow es mr) (hl:es.length≤1000:=by decide):QF X ow (.List es pos) (mLstI mr):=by
 obtain ⟨t,p,s⟩:=h
 refine ⟨_,ln p,fun C G ρ σ H pd q Q r hm k=>s C G ρ σ H pd _ _ r hm fun ds ρ' vs G' H' hq z kp r' p hn=>⟨du (by omega),fun a ha=>?_⟩⟩
 obtain ⟨O,r'⟩:=r'
 exact k _ ρ' _ _ _ hq.2 z kp (r'.newL ha hq.1 p)
def fq (r:List V→Hp→VK→Prop) (f:List D→(D→Prop)→Prop):Prop:=∀ (G H:Hp) (xs:List V) (ds:List D) (q:D→Prop) (Q:VK),aM G H→Reps G ds xs→f ds q→(∀ d v,q d→Rep G d v→Q v H)→r xs H Q
def mCB (f:List D→(D→Prop)→Prop) (m:MA):ME:=fun ρ q=>m ρ fun ds ρ'=>f ds fun d=>q d ρ'
theorem tI {r:List V→Hp→VK→Prop} {f:List D→(D→Prop)→Prop} {t:TA} {n:Nat} (hd:fq r f) (s:SA ow n t mr):SE ow (tCB r t) (mCB f mr):=fun C G ρ σ H pd q Q hr hm k =>
 s C G ρ σ H pd _ _ hr hm fun ds ρ' vs G' H' hq z kp r' p hn=>hd G' H' vs ds _ _ r'.gh p hq fun d v hq p=>k d ρ' v G' H' hq z kp r' p
variable {x:Str} {p':Pos}
theorem aJ {id:String} {r:List V→Hp→VK→Prop} {f:List D→(D→Prop)→Prop} (hc:cD X (.builtin id) r) (hd:fq r f) (hg:Gl X x) (hm:X.mg x=none) (hv:bootBuiltins x=some (.builtin id)) (ha:QA X ow (e :: es) mr) (hn:x ≠ "__name__":=by decide) (hdb:(x == ("__debug__":Str))=false:=by decide)
 (he:starEach (e :: es) X.env=(false,eval e X.env) :: starEach es X.env:=by rfl) (hpl:(backTo pos (starEach es X.env)).any (·.1)=false:=by rfl):QE X ow (.Call (.Name x p') (e :: es) [] pos) (mCB f mr):=by
 obtain ⟨t,p,s⟩:=ha
 exact ⟨_,g_ hc hg hm hv p hn hdb he hpl,tI hd s⟩
theorem i8 {id:String} {r:List V→Hp→VK→Prop} {f:List D→(D→Prop)→Prop} (hc:cD X (.type id) r) (hd:fq r f) (hg:Gl X x) (hm:X.mg x=none) (hv:bootBuiltins x=some (.type id)) (ha:QA X ow (e :: es) mr) (hn:x ≠ "__name__":=by decide) (hdb:(x == ("__debug__":Str))=false:=by decide)
 (he:starEach (e :: es) X.env=(false,eval e X.env) :: starEach es X.env:=by rfl) (hpl:(backTo pos (starEach es X.env)).any (·.1)=false:=by rfl):QE X ow (.Call (.Name x p') (e :: es) [] pos) (mCB f mr):=by
 obtain ⟨t,p,s⟩:=ha
 exact ⟨_,gc hc hg hm hv p hn hdb he hpl,tI hd s⟩
end
def fI (g:Int→Int→Int):D→D→(D→Prop)→Prop:=fun a b q=>match a,b with
 | .int i,.int j=>q (.int (g i j))
 | _,_=>False
def fIC (C:Int→Int→Prop) (g:Int→Int→Int):D→D→(D→Prop)→Prop:=fun a b q=>match a,b with
 | .int i,.int j=>C i j∧q (.int (g i j))
 | _,_=>False
def fB (g:Int→Int→Bool):D→D→(D→Prop)→Prop:=fun a b q=>match a,b with
 | .int i,.int j=>q (.bl (g i j))
 | _,_=>False
theorem dI {g:Int→Int→Int}:DOp (rI0 fun i j=>.int (g i j)) (fI g):=fun G H x y dx dy q Q s p1 p2 hf k=>by
 unfold fI at hf
 split at hf
 ·exact ⟨_,_,az p1,az p2,k _ _ hf (bf _)⟩
 ·exact hf.elim
theorem dIC {C:Int→Int→Prop} {g:Int→Int→Int}:DOp (rI C fun i j=>.int (g i j)) (fIC C g):=fun G H x y dx dy q Q s p1 p2 hf k=>by
 unfold fIC at hf
 split at hf
 ·exact ⟨_,_,az p1,az p2,hf.1,k _ _ hf.2 (bf _)⟩
 ·exact hf.elim
theorem dB {g:Int→Int→Bool}:DOp (rI0 fun i j=>.bl (g i j)) (fB g):=fun G H x y dx dy q Q s p1 p2 hf k=>by
 unfold fB at hf
 split at hf
 ·exact ⟨_,_,az p1,az p2,k _ _ hf (cS _)⟩
 ·exact hf.elim
def eqD (a b:D):Bool:=PyData.eqv (toP a) (toP b)
def okD (a:D):Bool:=SeqAt.shaped (toP a)
def fEq:D→D→(D→Prop)→Prop:=fun a b q=>match a,b with
 | .int i,.int j=>q (.bl (decide (i=j)))
 | a,b=>okD a=true∧okD b=true∧q (.bl (eqD a b))
def fNe:D→D→(D→Prop)→Prop:=fun a b q=>match a,b with
 | .int i,.int j=>q (.bl (!decide (i=j)))
 | a,b=>okD a=true∧okD b=true∧q (.bl (!eqD a b))
theorem l8 (i j:Int):eqD (.int i) (.int j)=decide (i=j):=by
 unfold eqD; rw [toP,toP,PyData.eqv]; first | rfl | (rw [Bool.beq_eq_decide_eq])
theorem gW (i:Int):okD (.int i)=true:=by unfold okD; rw [toP]; rfl
theorem dEq:DOp rEqD fEq:=fun G H x y dx dy q Q s p1 p2 hf k=>by
 have main:okD dx=true∧okD dy=true∧q (.bl (eqD dx dy)):=by
  unfold fEq at hf
  split at hf
  ·exact ⟨gW _,gW _,by rw [l8]; exact hf⟩
  ·exact hf
 exact ⟨dx,dy,Rep.mono s _ _ p1,Rep.mono s _ _ p2,main.1,main.2.1,k _ _ main.2.2 (cS _)⟩
theorem dNe:DOp rNeD fNe:=fun G H x y dx dy q Q s p1 p2 hf k=>by
 have main:okD dx=true∧okD dy=true∧q (.bl (!eqD dx dy)):=by
  unfold fNe at hf
  split at hf
  ·exact ⟨gW _,gW _,by rw [l8]; exact hf⟩
  ·exact hf
 exact ⟨dx,dy,Rep.mono s _ _ p1,Rep.mono s _ _ p2,main.1,main.2.1,k _ _ main.2.2 (cS _)⟩
def tG:D→Bool
 | .non=>true
 | _=>false
theorem kh {G:Hp} {d:D} {v:V} (h:Rep G d v):decide (v = .non)=tG d:=by
 cases d <;> rw [Rep] at h
 case non=>subst h; rfl
 case tup=>obtain ⟨a,xs,rfl,_⟩:=h; rfl
 case lst=>obtain ⟨a,xs,rfl,_⟩:=h; rfl
 case dct=>obtain ⟨a,xs,rfl,_⟩:=h; rfl
 case dic=>obtain ⟨a,xs,rfl,_⟩:=h; rfl
 case scr=>obtain ⟨a,rfl,_⟩:=h; rfl
 case ext=>obtain ⟨a,H0,rfl,_⟩:=h; rfl
 case obj=>obtain ⟨a,dx,xs,rfl,_⟩:=h; rfl
 all_goals subst h; rfl
def tH:D→D→(D→Prop)→Prop:=fun a b q=>match b with
 | .non=>q (.bl (!tG a))
 | _=>False
theorem dNotN:DOp (fun x y H Q=>y = .non∧Q (.bl (!decide (x = .non))) H) tH:=fun G H x y dx dy q Q s p1 p2 hf k=>by
 unfold tH at hf
 split at hf
 ·rw [Rep] at p2; exact ⟨p2,by rw [kh p1]; exact k _ _ hf (cS _)⟩
 ·exact hf.elim
def fIsB:D→D→(D→Prop)→Prop:=fun a b q=>match a,b with
 | .bl x,.bl y=>q (.bl (x == y))
 | _,_=>False
def dM:D→Bool
 | .non=>true
 | .bl _=>true
 | .int _=>true
 | .str _=>true
 | _=>false
def eqF:D→D→Bool
 | .non,.non=>true
 | .bl a,.bl b=>a == b
 | .bl a,.int b=>(if a then 1 else 0) == b
 | .int a,.bl b=>a == (if b then 1 else 0)
 | .int a,.int b=>a == b
 | .str a,.str b=>a == b
 | _,_=>false
def toV:D→V
 | .non=>.non
 | .bl b=>.bl b
 | .int i=>.int i
 | .str x=>.str x
 | _=>.non
theorem eC {G:Hp} {d:D} {v:V} (h:Rep G d v) (f:dM d=true):v=toV d:=by
 cases d <;> first | (rw [Rep] at h; exact h) | cases f
theorem sX:∀ {a b:D},dM a=true→dM b=true→eqV (toV a) (toV b)=eqF a b:=by
 intro a b f g
 cases a <;> cases b <;> first | rfl | exact absurd f Bool.false_ne_true | exact absurd g Bool.false_ne_true
theorem gk {d:D} (f:dM d=true):fm (toV d)=true:=by
 cases d <;> first | rfl | cases f
theorem dJ {G:Hp}:∀ {ds:List D} {xs:List V},Reps G ds xs→ds.all dM=true→xs=ds.map toV
 | [],xs,h,_=>by rw [Reps] at h; subst h; rfl
 | d :: ds,xs,h,f=>by
  rw [Reps] at h
  obtain ⟨v,vs,rfl,h1,h2⟩:=h
  rw [List.all_cons,Bool.and_eq_true] at f
  rw [eC h1 f.1,dJ h2 f.2]; rfl
def inD (a:D) (ds:List D):Bool:=ds.any fun y=>eqF y a
theorem jQ {a:D} (f:dM a=true):∀ {ds:List D},ds.all dM=true→inV (toV a) (ds.map toV)=inD a ds
 | [],_=>rfl
 | d :: ds,g=>by
  rw [List.all_cons,Bool.and_eq_true] at g
  have:=jQ f g.2
  unfold inV inD at *
  rw [List.map_cons,List.any_cons,List.any_cons,sX g.1 f,this]
theorem h7:∀ {ds:List D},ds.all dM=true→(ds.map toV).all fm=true
 | [],_=>rfl
 | d :: ds,g=>by
  rw [List.all_cons,Bool.and_eq_true] at g
  rw [List.map_cons,List.all_cons,gk g.1,h7 g.2]; rfl
def fIn (neg:Bool):D→D→(D→Prop)→Prop:=fun a b q=>match b with
 | .lst ds=>dM a=true∧ds.all dM=true∧q (.bl (if neg then !inD a ds else inD a ds))
 | .tup ds=>dM a=true∧ds.all dM=true∧q (.bl (if neg then !inD a ds else inD a ds))
 | _=>False
theorem dIn {K:PySem.W.Frag} {neg:Bool}:DOp (rIn K neg) (fIn neg):=fun G H x y dx dy q Q s p1 p2 hf k=>by
 unfold fIn at hf
 split at hf
 ·rw [Rep] at p2
  obtain ⟨a,xs,rfl,h1,h2⟩:=p2
  obtain ⟨f1,f2,hq⟩:=hf
  refine ⟨a,xs,rfl,.inl (SqL.of (s _ _ h1)),?_,?_,?_⟩
  ·rw [eC p1 f1]; exact gk f1
  ·rw [dJ h2 f2]; exact h7 f2
  ·rw [eC p1 f1,dJ h2 f2,jQ f1 f2]; exact k _ _ hq (cS _)
 ·rw [Rep] at p2
  obtain ⟨a,xs,rfl,h1,h2⟩:=p2
  obtain ⟨f1,f2,hq⟩:=hf
  refine ⟨a,xs,rfl,.inr (SqT.of (s _ _ h1)),?_,?_,?_⟩
  ·rw [eC p1 f1]; exact gk f1
  ·rw [dJ h2 f2]; exact h7 f2
  ·rw [eC p1 f1,dJ h2 f2,jQ f1 f2]; exact k _ _ hq (cS _)
 ·exact hf.elim
def atD (ds:List D) (i:Int) (q:D→Prop):Prop:=match atI ds i with
 | some d=>q d
 | none=>False
def fIx (K:PySem.W.Frag):D→D→(D→Prop)→Prop:=fun a b q=>match a,b with
 | .lst ds,.int i=>atD ds i q
 | .tup ds,.int i=>atD ds i q
 | .scr φ ns,.int i=>(∀ a H,φ a→SqL K H a (ns.map V.int))∧match atI ns i with
  | some n=>q (.int n)
  | none=>False
 | _,_=>False
theorem dX {G:Hp}:∀ {ds:List D} {xs:List V} {j:Nat} {d:D},Reps G ds xs→ds[j]? = some d→∃ v,xs[j]? = some v∧Rep G d v
 | [],_,_,_,_,e=>by simp at e
 | d :: ds,xs,0,e,h,q=>by rw [Reps] at h; obtain ⟨v,vs,rfl,h1,_⟩:=h; simp at q; subst q; exact ⟨v,rfl,h1⟩
 | d :: ds,xs,j + 1,e,h,q=>by
  rw [Reps] at h
  obtain ⟨v,vs,rfl,_,h2⟩:=h
  obtain ⟨u,e1,e2⟩:=dX (j:=j) h2 (by simpa using q)
  exact ⟨u,by simpa using e1,e2⟩
theorem jU {G:Hp} {ds:List D} {xs:List V} {i:Int} {d:D} (h:Reps G ds xs) (e:atI ds i=some d):∃ v,atI xs i=some v∧Rep G d v:=by
 unfold atI at *
 rw [h.length]
 cases q:ixN ds.length i with
 | none=>rw [q] at e; cases e
 | some j=>rw [q] at e; exact dX h e
theorem jO {α β:Type} {f : α→β} {xs:List α} {i:Int} {x : α} (h:atI xs i=some x):atI (xs.map f) i=some (f x):=by
 unfold atI at *
 rw [List.length_map]
 cases q:ixN xs.length i with
 | none=>rw [q] at h; cases h
 | some j=>rw [q] at h; rw [show (Option.some j).bind _=(xs.map f)[j]? from rfl,List.getElem?_map,show xs[j]? = some x from h]; rfl
theorem dIx {K:PySem.W.Frag}:DOp (rIx K) (fIx K):=fun G H x y dx dy q Q s p1 p2 hf k=>by
 unfold fIx at hf
 split at hf
 ·rw [Rep] at p1
  obtain ⟨a,xs,rfl,h1,h2⟩:=p1
  unfold atD at hf
  split at hf
  ·rename_i e
   obtain ⟨v,e1,e2⟩:=jU h2 e
   exact .inl ⟨a,xs,_,v,rfl,az p2,SqL.of (s _ _ h1),e1,k _ _ hf e2⟩
  ·exact hf.elim
 ·rw [Rep] at p1
  obtain ⟨a,xs,rfl,h1,h2⟩:=p1
  unfold atD at hf
  split at hf
  ·rename_i e
   obtain ⟨v,e1,e2⟩:=jU h2 e
   exact .inr (.inl ⟨a,xs,_,v,rfl,az p2,SqT.of (s _ _ h1),e1,k _ _ hf e2⟩)
  ·exact hf.elim
 ·rw [Rep] at p1
  obtain ⟨a,rfl,h1⟩:=p1
  obtain ⟨hk,hf⟩:=hf
  split at hf
  ·rename_i e
   refine .inl ⟨a,_,_,_,rfl,az p2,?_,jO e,k _ _ hf (bf _)⟩
   rcases h1 with ⟨o,h1⟩ | h1
   ·exact .inl (.inr ⟨o,s _ _ h1⟩)
   ·exact hk a H h1
  ·exact hf.elim
 ·exact hf.elim
def fLen (K:PySem.W.Frag):List D→(D→Prop)→Prop:=fun ds q=>match ds with
 | [.lst ds]=>q (.int ds.length)
 | [.tup ds]=>q (.int ds.length)
 | [.scr φ ns]=>(∀ a H,φ a→SqL K H a (ns.map V.int))∧q (.int ns.length)
 | _=>False
theorem a_ {G:Hp} {ds:List D} {v:V} (h:Rep G (.lst ds) v):∃ a xs,v = .ref a∧G a=some (.lst xs)∧Reps G ds xs:=by rw [Rep] at h; exact h
theorem dl {G:Hp} {ds:List D} {v:V} (h:Rep G (.tup ds) v):∃ a xs,v = .ref a∧G a=some (.tup xs)∧Reps G ds xs:=by rw [Rep] at h; exact h
theorem lx {G:Hp} {φ:Addr→Prop} {ns:List Int} {v:V} (h:Rep G (.scr φ ns) v):∃ a,v = .ref a∧((∃ o,G a=some (.frz o (.lst (ns.map V.int))))∨φ a):=by rw [Rep] at h; exact h
theorem bj {G:Hp} {d:D} {xs:List V} (h:Reps G [d] xs):∃ v,xs=[v]∧Rep G d v:=by
 rw [Reps] at h; obtain ⟨v,vs,rfl,h1,h2⟩:=h; rw [Reps] at h2; subst h2; exact ⟨v,rfl,h1⟩
theorem eM {G:Hp} {d e:D} {xs:List V} (h:Reps G [d,e] xs):∃ v u,xs=[v,u]∧Rep G d v∧Rep G e u:=by
 rw [Reps] at h; obtain ⟨v,vs,rfl,h1,h2⟩:=h; obtain ⟨u,rfl,h3⟩:=bj h2; exact ⟨v,u,rfl,h1,h3⟩
theorem dD {K:PySem.W.Frag}:fq (fun xs H Q=>∃ p ys,xs=[.ref p]∧(SqL K H p ys∨SqT K H p ys)∧Q (.int ys.length) H) (fLen K):=fun G H xs ds q Q s p hf k=>by
 unfold fLen at hf
 split at hf
 ·obtain ⟨v,rfl,p1⟩:=bj p
  obtain ⟨a,xs,rfl,h1,h2⟩:=a_ p1
  exact ⟨a,xs,rfl,.inl (SqL.of (s _ _ h1)),by rw [h2.length]; exact k _ _ hf (bf _)⟩
 ·obtain ⟨v,rfl,p1⟩:=bj p
  obtain ⟨a,xs,rfl,h1,h2⟩:=dl p1
  exact ⟨a,xs,rfl,.inr (SqT.of (s _ _ h1)),by rw [h2.length]; exact k _ _ hf (bf _)⟩
 ·obtain ⟨v,rfl,p1⟩:=bj p
  obtain ⟨a,rfl,h1⟩:=lx p1
  rename_i φ ns
  have hS:SqL K H a (ns.map V.int):=by
   rcases h1 with ⟨o,h1⟩ | h1
   ·exact .inl (.inr ⟨o,s _ _ h1⟩)
   ·exact hf.1 a H h1
  exact ⟨a,_,rfl,.inl hS,by rw [List.length_map]; exact k _ _ hf.2 (bf _)⟩
 ·exact hf.elim
def fMax:List D→(D→Prop)→Prop:=fun ds q=>match ds with
 | [.int i,.int j]=>q (.int (if j > i then j else i))
 | _=>False
def fMin:List D→(D→Prop)→Prop:=fun ds q=>match ds with
 | [.int i,.int j]=>q (.int (if j<i then j else i))
 | _=>False
theorem dMax:fq (fun xs H Q=>∃ i j,xs=[.int i,.int j]∧Q (.int (if j > i then j else i)) H) fMax:=fun G H xs ds q Q s p hf k=>by
 unfold fMax at hf
 split at hf
 ·obtain ⟨v,u,rfl,p1,p2⟩:=eM p
  rw [az p1,az p2]
  exact ⟨_,_,rfl,k _ _ hf (bf _)⟩
 ·exact hf.elim
theorem dMin:fq (fun xs H Q=>∃ i j,xs=[.int i,.int j]∧Q (.int (if j<i then j else i)) H) fMin:=fun G H xs ds q Q s p hf k=>by
 unfold fMin at hf
 split at hf
 ·obtain ⟨v,u,rfl,p1,p2⟩:=eM p
  rw [az p1,az p2]
  exact ⟨_,_,rfl,k _ _ hf (bf _)⟩
 ·exact hf.elim
def tR:List D→(D→Prop)→Prop:=fun ds q=>match ds with
 | [.int i]=>q (.int i)
 | [.bl k]=>q (.int (if k then 1 else 0))
 | _=>False
theorem tQ:fq (fun xs H Q=>(∃ i,xs=[.int i]∧Q (.int i) H)∨∃ k,xs=[.bl k]∧Q (.int (if k then 1 else 0)) H) tR:=fun G H xs ds q Q s p hf k=>by
 unfold tR at hf
 split at hf
 ·obtain ⟨v,rfl,p1⟩:=bj p
  rw [az p1]
  exact .inl ⟨_,rfl,k _ _ hf (bf _)⟩
 ·obtain ⟨v,rfl,p1⟩:=bj p
  rw [cm p1]
  exact .inr ⟨_,rfl,k _ _ hf (bf _)⟩
 ·exact hf.elim
def fAbs:List D→(D→Prop)→Prop:=fun ds q=>match ds with
 | [.int i]=>q (.int (if i<0 then -i else i))
 | _=>False
theorem dAbs:fq (fun xs H Q=>∃ i,xs=[.int i]∧Q (.int (if i<0 then -i else i)) H) fAbs:=fun G H xs ds q Q s p hf k=>by
 unfold fAbs at hf
 split at hf
 ·obtain ⟨v,rfl,p1⟩:=bj p
  rw [az p1]
  exact ⟨_,rfl,k _ _ hf (bf _)⟩
 ·exact hf.elim
section
variable {X:Cx} {ow:List Bool} {a b c e:Expr} {ma mb mc:ME} {pos:Pos} {mr:MA} {es:List Expr}
def mNeg (m:ME):ME:=fun ρ q=>m ρ fun d ρ'=>match d with
 | .int i=>q (.int (-i)) ρ'
 | _=>False
theorem pA (h:QE X ow a ma):QE X ow (.UnaryOp .USub a pos) (mNeg ma):=by
 obtain ⟨t,p,s⟩:=h
 refine ⟨_,tJ qT p,fun C G ρ σ H pd q Q r hm k=>s C G ρ σ H pd _ _ r hm fun d ρ' v G' H' hq s kp r' p=>?_⟩
 cases d with
 | int i=>exact ⟨i,az p,k _ ρ' _ G' H' hq s kp r' (bf _)⟩
 | _=>exact hq.elim
def mIsT (T:String) (m:ME):ME:=fun ρ q=>m ρ fun d ρ'=>match nL d T with
 | some b=>q (.bl b) ρ'
 | none=>False
theorem cP {T:String} {x y:Str} {p1 p2:Pos} (hg:Gl X x) (hm:X.mg x=none) (hv:bootBuiltins x=some (.builtin "isinstance")) (ha:QE X ow a ma) (ht:PE X (.Name y p2) (tC (.ty T)))
 (hn:x ≠ "__name__":=by decide) (hdb:(x == ("__debug__":Str))=false:=by decide)
 (hs:starEach [.Name y p2] X.env=[(false,eval (.Name y p2) X.env)]:=by rfl)
 (he:starEach [a,.Name y p2] X.env=(false,eval a X.env) :: starEach [.Name y p2] X.env:=by rfl) (hpl:(backTo pos (starEach [.Name y p2] X.env)).any (·.1)=false:=by rfl) :
 QE X ow (.Call (.Name x p1) [a,.Name y p2] [] pos) (mIsT T ma):=by
 obtain ⟨t,p,s⟩:=ha
 refine ⟨_,g_ kU hg hm hv (bV p (bV ht eB hs) he) hn hdb he hpl,fun C G ρ σ H pd q Q r hm k=>s C G ρ σ H pd _ _ r hm fun d ρ' v G' H' hq s kp r' p=>?_⟩
 cases e:nL d T with
 | none=>rw [e] at hq; exact hq.elim
 | some b=>rw [e] at hq; exact ⟨v,T,d,b,rfl,Rep.mono r'.gh _ _ p,e,k _ ρ' _ G' H' hq s kp r' (cS _)⟩
def qI (f g:D→D→(D→Prop)→Prop) (ma mb mc:ME):ME:=fun ρ q=>ma ρ fun x ρ1=>mb ρ1 fun y ρ2=>f x y fun z=>match z with
 | .bl k=>if k=true then mc ρ2 fun w ρ3=>g y w fun d=>q d ρ3 else q (.bl false) ρ2
 | _=>False
theorem qz {r r':R2} {f g:D→D→(D→Prop)→Prop} {ta tb tc:TE} (hf:DOp r f) (hg:DOp r' g) (ha:SE ow ta ma) (hb:SE ow tb mb) (hc:SE ow tc mc):SE ow (oB r r' ta tb tc) (qI f g ma mb mc):=fun C G ρ σ H pd q Q hr h k=>by
 refine jB (Q:=fun x y H2=>r x y H2 _) ha hb hr h fun dx dy ρ' x y G' H' h1 s kp r1 p1 p2=>?_
 refine hf G' H' x y dx dy _ _ r1.gh p1 p2 h1 fun d v hq p=>?_
 cases d with
 | bl b =>
  refine ⟨b,cm p,?_⟩
  change (if b=true then _ else _) at hq
  cases b with
  | true =>
   rw [if_pos rfl] at hq ⊢
   refine hc C G' ρ' σ H' pd _ _ r1 hq fun dw ρ3 w G3 H3 h3 s3 kp3 r3 p3=>?_
   exact hg G3 H3 y w dy dw _ _ r3.gh (Rep.mono s3 _ _ p2) p3 h3 fun d v hq p=>k d ρ3 v G3 H3 hq (s.trans s3) (kp.trans kp3) r3 p
  | false=>rw [if_neg (by decide)] at hq ⊢; exact k _ ρ' _ G' H' hq s kp r1 (cS _)
 | _=>exact hq.elim
theorem kc {op op':CmpOp} {r r':R2} {f g:D→D→(D→Prop)→Prop} (ho:OpR X (compareOp op) r) (ho':OpR X (compareOp op') r') (hf:DOp r f) (hg:DOp r' g) (ha:QE X ow a ma) (hb:QE X ow b mb) (hc:QE X ow c mc)
 (hm:lastMarks [op,op'] [b,c]=false:=by with_unfolding_all rfl):QE X ow (.Compare a [op,op'] [b,c] pos) (qI f g ma mb mc):=by
 obtain ⟨ta,pa,sa⟩:=ha; obtain ⟨tb,pb,sb⟩:=hb; obtain ⟨tc,pc,sc⟩:=hc
 exact ⟨_,qo ho ho' pa pb pc hm,qz hf hg sa sb sc⟩
def fz (r:List V→Hp→VK→Prop) (f:List D→(List D→Prop)→Prop):Prop:=∀ (G H:Hp) (xs:List V) (ds:List D) (q:List D→Prop) (Q:VK),aM G H→Reps G ds xs→f ds q →
 (∀ es ys p,q es→Reps G es ys→H p=none→Q (.ref p) (upd H p (.lst ys)))→r xs H Q
def mNew (f:List D→(List D→Prop)→Prop) (m:MA):ME:=fun ρ q=>m ρ fun ds ρ'=>f ds fun es=>imms es=true∧q (.lst es) ρ'
def qQ (f:List D→(List D→Prop)→Prop) (m:MA):ME:=fun ρ q=>m ρ fun ds ρ'=>f ds fun es=>q (.lst es) ρ'
theorem lq {r:List V→Hp→VK→Prop} {f:List D→(List D→Prop)→Prop} {t:TA} {n:Nat} (hd:fz r f) (s:SA ow n t mr):SF ow (fun σ H Q=>t σ H fun xs H1=>r xs H1 Q) (mNew f mr):=fun C G ρ σ H pd q Q hr hm k =>
 s C G ρ σ H pd _ _ hr hm fun ds ρ' vs G' H' hq z kp r' p hn=>hd G' H' vs ds _ _ r'.gh p hq fun es ys a hq p ha=>by
  obtain ⟨O,r'⟩:=r'
  exact k _ ρ' _ _ _ hq.2 z kp (r'.newL ha hq.1 p)
theorem pF {r:List V→Hp→VK→Prop} {f:List D→(List D→Prop)→Prop} {t:TA} {n:Nat} (hd:fz r f) (s:SA ow n t mr):SE ow (fun σ H Q=>t σ H fun xs H1=>r xs H1 Q) (qQ f mr):=fun C G ρ σ H pd q Q hr hm k =>
 s C G ρ σ H pd _ _ hr hm fun ds ρ' vs G' H' hq z kp r' p hn=>hd G' H' vs ds _ _ r'.gh p hq fun es ys a hq p ha=>by
  obtain ⟨O,r'⟩:=r'
  obtain ⟨r2,s2⟩:=r'.new ha (.lst ys)
  exact k _ ρ' _ _ _ hq (z.trans s2) kp ⟨O,r2⟩ (fT aE (Reps.mono s2 _ _ p))
theorem oh {ta tb:TE} (ha:SE ow ta ma) (hb:SE ow tb mb):SA ow 2 (fun σ H Q=>ta σ H fun x H1=>tb σ H1 fun y H2=>Q [x,y] H2) (fo ma (fo mb nb)):=fun C G ρ σ H pd q Q hr hm k =>
 jB (Q:=fun x y H2=>Q [x,y] H2) ha hb hr hm fun dx dy ρ' x y G' H' h1 s kp r1 p1 p2=>k [dx,dy] ρ' [x,y] G' H' h1 s kp r1 (bQ p1 (bQ p2 bN)) rfl
theorem eD {G:Hp}:∀ {ds es:List D} {xs ys:List V},Reps G ds xs→Reps G es ys→Reps G (ds++es) (xs++ys)
 | [],es,xs,ys,h,h2=>by rw [Reps] at h; subst h; exact h2
 | d :: ds,es,xs,ys,h,h2=>by rw [Reps] at h; obtain ⟨v,vs,rfl,h1,h3⟩:=h; exact bQ h1 (eD h3 h2)
theorem iP {G:Hp}:∀ {ds:List D} {xs:List V} (n:Nat),Reps G ds xs→Reps G (ds.drop n) (xs.drop n)
 | [],xs,n,h=>by rw [Reps] at h; subst h; simp; exact bN
 | d :: ds,xs,0,h=>h
 | d :: ds,xs,n + 1,h=>by rw [Reps] at h; obtain ⟨v,vs,rfl,h1,h3⟩:=h; exact iP n h3
theorem i7 {G:Hp}:∀ {ds:List D} {xs:List V} (n:Nat),Reps G ds xs→Reps G (ds.take n) (xs.take n)
 | [],xs,n,h=>by rw [Reps] at h; subst h; simp; exact bN
 | d :: ds,xs,0,h=>by simp; exact bN
 | d :: ds,xs,n + 1,h=>by rw [Reps] at h; obtain ⟨v,vs,rfl,h1,h3⟩:=h; exact bQ h1 (i7 n h3)
theorem j5 {G:Hp} {ds:List D} {xs:List V} (h:Reps G ds xs):∀ n:Nat,Reps G (List.replicate n ds).flatten (List.replicate n xs).flatten
 | 0=>by simp; exact bN
 | n + 1=>by simp [List.replicate_succ]; exact eD h (j5 h n)
def fCat:List D→(List D→Prop)→Prop:=fun ds q=>match ds with
 | [.lst xs,.lst ys]=>xs.length + ys.length≤1000∧q (xs++ys)
 | _=>False
theorem dCat:fz (fun xs H Q=>∃ x y,xs=[x,y]∧rCat x y H Q) fCat:=fun G H xs ds q Q s p hf k=>by
 unfold fCat at hf
 split at hf
 ·obtain ⟨v,u,rfl,p1,p2⟩:=eM p
  rw [Rep] at p1 p2
  obtain ⟨a1,xs,rfl,h1,h2⟩:=p1
  obtain ⟨a2,ys,rfl,h3,h4⟩:=p2
  exact ⟨_,_,rfl,a1,a2,xs,ys,rfl,rfl,s _ _ h1,s _ _ h3,du (by rw [h2.length,h4.length]; exact hf.1),fun p hp=>k _ _ p hf.2 (eD h2 h4) hp⟩
 ·exact hf.elim
def fRep:List D→(List D→Prop)→Prop:=fun ds q=>match ds with
 | [.lst xs,.int n]=>(-(2 ^ 63)≤n∧n<2 ^ 63∧xs.length * n.toNat≤1000)∧q (List.replicate n.toNat xs).flatten
 | _=>False
theorem nq:fz (fun xs H Q=>∃ x y,xs=[x,y]∧rRep x y H Q) fRep:=fun G H xs ds q Q s p hf k=>by
 unfold fRep at hf
 split at hf
 ·obtain ⟨v,u,rfl,p1,p2⟩:=eM p
  obtain ⟨a1,xs,rfl,h1,h2⟩:=a_ p1
  rw [az p2]
  exact ⟨_,_,rfl,a1,_,xs,rfl,rfl,s _ _ h1,hf.1.1,hf.1.2.1,du (by rw [h2.length]; exact hf.1.2.2),fun p hp=>k _ _ p hf.2 (j5 h2 _) hp⟩
 ·exact hf.elim
def mMk (f:List D→(List D→Prop)→Prop) (ma mb:ME):ME:=mNew f (fo ma (fo mb nb))
def mMkS (f:List D→(List D→Prop)→Prop) (ma mb:ME):ME:=qQ f (fo ma (fo mb nb))
def R2ok (r:R2):List V→Hp→VK→Prop:=fun xs H Q=>match xs with
 | [x,y]=>r x y H Q
 | _=>False
theorem fz.r2 {r:R2} {f:List D→(List D→Prop)→Prop} (h:fz (fun xs H Q=>∃ x y,xs=[x,y]∧r x y H Q) f):fz (R2ok r) f:=fun G H xs ds q Q s p hf k=>by
 obtain ⟨x,y,rfl,z⟩:=h G H xs ds q Q s p hf k
 exact z
theorem qX {op:Operator} {r:R2} {f:List D→(List D→Prop)→Prop} (ho:OpR X (binaryOp op) r) (hd:fz (fun xs H Q=>∃ x y,xs=[x,y]∧r x y H Q) f) (ha:QE X ow a ma) (hb:QE X ow b mb):QF X ow (.BinOp a op b pos) (mMk f ma mb):=by
 obtain ⟨ta,pa,sa⟩:=ha; obtain ⟨tb,pb,sb⟩:=hb
 exact ⟨tOp r ta tb,pP ho pa pb,lq (r:=R2ok r) hd.r2 (oh sa sb)⟩
theorem iQ {op:Operator} {r:R2} {f:List D→(List D→Prop)→Prop} (ho:OpR X (binaryOp op) r) (hd:fz (fun xs H Q=>∃ x y,xs=[x,y]∧r x y H Q) f) (ha:QE X ow a ma) (hb:QE X ow b mb):QE X ow (.BinOp a op b pos) (mMkS f ma mb):=by
 obtain ⟨ta,pa,sa⟩:=ha; obtain ⟨tb,pb,sb⟩:=hb
 exact ⟨tOp r ta tb,pP ho pa pb,pF (r:=R2ok r) hd.r2 (oh sa sb)⟩
def tD:List D→(List D→Prop)→Prop:=fun ds q=>match ds with
 | [.lst xs]=>q xs
 | [.tup xs]=>q xs
 | _=>False
theorem gK {K:PySem.W.Frag}:fz (fun xs H Q=>∃ p ys,xs=[.ref p]∧(SqL K H p ys∨SqT K H p ys)∧∀ l,H l=none→Q (.ref l) (upd H l (.lst ys))) tD:=fun G H xs ds q Q s p hf k=>by
 unfold tD at hf
 split at hf
 ·obtain ⟨v,rfl,p1⟩:=bj p
  obtain ⟨a,xs,rfl,h1,h2⟩:=a_ p1
  exact ⟨a,xs,rfl,.inl (SqL.of (s _ _ h1)),fun l hl=>k _ _ l hf h2 hl⟩
 ·obtain ⟨v,rfl,p1⟩:=bj p
  obtain ⟨a,xs,rfl,h1,h2⟩:=dl p1
  exact ⟨a,xs,rfl,.inr (SqT.of (s _ _ h1)),fun l hl=>k _ _ l hf h2 hl⟩
 ·exact hf.elim
variable {x:Str} {p':Pos}
theorem dN {id:String} {r:List V→Hp→VK→Prop} {f:List D→(List D→Prop)→Prop} (hc:cD X (.type id) r) (hd:fz r f) (hg:Gl X x) (hm:X.mg x=none) (hv:bootBuiltins x=some (.type id)) (ha:QA X ow (e :: es) mr) (hn:x ≠ "__name__":=by decide) (hdb:(x == ("__debug__":Str))=false:=by decide)
 (he:starEach (e :: es) X.env=(false,eval e X.env) :: starEach es X.env:=by rfl) (hpl:(backTo pos (starEach es X.env)).any (·.1)=false:=by rfl):QF X ow (.Call (.Name x p') (e :: es) [] pos) (mNew f mr):=by
 obtain ⟨t,p,s⟩:=ha
 exact ⟨_,gc hc hg hm hv p hn hdb he hpl,lq hd s⟩
theorem fA {id:String} {r:List V→Hp→VK→Prop} {f:List D→(List D→Prop)→Prop} (hc:cD X (.type id) r) (hd:fz r f) (hg:Gl X x) (hm:X.mg x=none) (hv:bootBuiltins x=some (.type id)) (ha:QA X ow (e :: es) mr) (hn:x ≠ "__name__":=by decide) (hdb:(x == ("__debug__":Str))=false:=by decide)
 (he:starEach (e :: es) X.env=(false,eval e X.env) :: starEach es X.env:=by rfl) (hpl:(backTo pos (starEach es X.env)).any (·.1)=false:=by rfl):QE X ow (.Call (.Name x p') (e :: es) [] pos) (qQ f mr):=by
 obtain ⟨t,p,s⟩:=ha
 exact ⟨_,gc hc hg hm hv p hn hdb he hpl,pF hd s⟩
theorem eJ {id:String} {r:List V→Hp→VK→Prop} {f:List D→(List D→Prop)→Prop} (hc:cD X (.builtin id) r) (hd:fz r f) (hg:Gl X x) (hm:X.mg x=none) (hv:bootBuiltins x=some (.builtin id)) (ha:QA X ow (e :: es) mr) (hn:x ≠ "__name__":=by decide) (hdb:(x == ("__debug__":Str))=false:=by decide)
 (he:starEach (e :: es) X.env=(false,eval e X.env) :: starEach es X.env:=by rfl) (hpl:(backTo pos (starEach es X.env)).any (·.1)=false:=by rfl):QF X ow (.Call (.Name x p') (e :: es) [] pos) (mNew f mr):=by
 obtain ⟨t,p,s⟩:=ha
 exact ⟨_,g_ hc hg hm hv p hn hdb he hpl,lq hd s⟩
def gM (xs:List D) (lo hi:Option Int):List D:=(xs.drop (HT.sIx xs.length 0 lo)).take (HT.sIx xs.length xs.length hi - HT.sIx xs.length 0 lo)
theorem pY {G:Hp} {ds:List D} {xs:List V} (h:Reps G ds xs) (lo hi:Option Int):Reps G (gM ds lo hi) (lP xs lo hi):=by
 unfold gM lP
 rw [h.length]
 exact i7 _ (iP _ h)
abbrev MO:=DSt→(Option Int→DSt→Prop)→Prop
def SO (ow:List Bool) (t:TO) (m:MO):Prop:=∀ (C:Ctx) (G:Hp) (ρ:DSt) (σ:St) (H:Hp) (pd:List (D×V)) (q:Option Int→DSt→Prop) (Q:Option Int→Hp→Prop),R C ow G ρ σ H pd→m ρ q →
 (∀ b ρ' G' H',q b ρ'→aM G G'→Kp ow ρ ρ'→R C ow G' ρ' σ H' pd→Q b H')→t σ H Q
structure QO (X:Cx) (ow:List Bool) (e:Option Expr) (m:MO):Prop where
 ex:∃ t,PO X e t∧SO ow t m
def sP:MO:=fun ρ q=>q none ρ
def mPart (m:ME):MO:=fun ρ q=>m ρ fun d ρ'=>match d with
 | .int i=>q (some i) ρ'
 | _=>False
theorem l9:QO X ow none sP:=⟨_,sU,fun C G ρ σ H pd q Q r h k=>k none ρ G H h (aM.refl _) Kp.refl r⟩
theorem mI (h:QE X ow e ma):QO X ow (some e) (mPart ma):=by
 obtain ⟨t,p,s⟩:=h
 refine ⟨_,s9 p,fun C G ρ σ H pd q Q r hm k=>s C G ρ σ H pd _ _ r hm fun d ρ' v G' H' hq s kp r' p=>?_⟩
 cases d with
 | int i=>exact ⟨i,az p,k _ ρ' G' H' hq s kp r'⟩
 | _=>exact hq.elim
def mSl (m:ME) (ml mh:MO):ME:=fun ρ q=>m ρ fun d ρ1=>ml ρ1 fun lo ρ2=>mh ρ2 fun hi ρ3=>match d with
 | .lst ds=>imms (gM ds lo hi)=true∧q (.lst (gM ds lo hi)) ρ3
 | _=>False
def mSlS (m:ME) (ml mh:MO):ME:=fun ρ q=>m ρ fun d ρ1=>ml ρ1 fun lo ρ2=>mh ρ2 fun hi ρ3=>match d with
 | .lst ds=>q (.lst (gM ds lo hi)) ρ3
 | _=>False
variable {lo hi:Option Expr} {ml mh:MO} {p2:Pos}
theorem kW (h:QE X ow e ma) (hl:QO X ow lo ml) (hh:QO X ow hi mh):QE X ow (.Subscript e (.Slice lo hi none p2) pos) (mSlS ma ml mh):=by
 obtain ⟨t,p,s⟩:=h; obtain ⟨t1,p1,s1⟩:=hl; obtain ⟨t2,p2,s2⟩:=hh
 refine ⟨_,qd r6 p p1 p2,fun C G ρ σ H pd q Q r hm k=>s C G ρ σ H pd _ _ r hm fun d ρ' v G' H' hq z kp r' p=>?_⟩
 refine s1 C G' ρ' σ H' pd _ _ r' hq fun l ρ1 G1 H1 hq1 z1 kp1 r1=>s2 C G1 ρ1 σ H1 pd _ _ r1 hq1 fun u ρ2 G2 H2 hq2 z2 kp2 r2=>?_
 cases d with
 | lst ds =>
  obtain ⟨a,xs,rfl,h1,h2⟩:=a_ (Rep.mono (z1.trans z2) _ _ p)
  refine ⟨a,xs,rfl,SqL.of (r2.gh _ _ h1),fun b hb=>?_⟩
  obtain ⟨O,r2⟩:=r2
  obtain ⟨r3,z3⟩:=r2.new hb (.lst (lP xs l u))
  exact k _ ρ2 _ _ _ hq2 (z.trans (z1.trans (z2.trans z3))) (kp.trans (kp1.trans kp2)) ⟨O,r3⟩ (fT aE (Reps.mono z3 _ _ (pY h2 _ _)))
 | _=>exact hq2.elim
end
def cU (f:Nat→Option Nat) (O:Own):Own:=fun a=>match O a with
 | some m=>(f m.1).map fun l=>(l,m.2)
 | none=>none
theorem rG {f:Nat→Option Nat} {O:Own} {a:Addr} {l l':Nat} {π:List Nat} (h:O a=some (l,π)) (hf:f l=some l'):cU f O a=some (l',π):=by unfold cU; rw [h]; show (f l).map _=_; rw [hf]; rfl
theorem gX {f:Nat→Option Nat} {O:Own} {a:Addr} {l':Nat} {π:List Nat} (h:cU f O a=some (l',π)):∃ l,O a=some (l,π)∧f l=some l':=by
 unfold cU at h
 cases e:O a with
 | none=>rw [e] at h; cases h
 | some m =>
  rw [e] at h
  change (f m.1).map _=_ at h
  cases e2:f m.1 with
  | none=>rw [e2] at h; cases h
  | some l=>rw [e2] at h; cases h; exact ⟨m.1,rfl,e2⟩
theorem nh {f:Nat→Option Nat} {O:Own} {a:Addr} {l:Nat} {π:List Nat} (h:O a=some (l,π)) (hf:f l=none):cU f O a=none:=by unfold cU; rw [h]; show (f l).map _=_; rw [hf]; rfl
def msV:List Bool→List V→List (Option V)
 | b :: bs,v :: vs=>(if b=true then some v else none) :: msV bs vs
 | _,_=>[]
theorem jp:∀ {mu:List Bool} {vs:List V} {k:Nat} {v:V},(msV mu vs)[k]? = some (some v)→mu[k]? = some true∧vs[k]? = some v
 | [],vs,k,v,h=>by simp [msV] at h
 | b :: bs,[],k,v,h=>by simp [msV] at h
 | b :: bs,u :: vs,0,v,h=>by
  simp only [msV,List.getElem?_cons_zero,Option.some.injEq] at h
  split at h
  ·rename_i c; cases h; subst c; exact ⟨rfl,rfl⟩
  ·cases h
 | b :: bs,u :: vs,k + 1,v,h=>by
  simp only [msV,List.getElem?_cons_succ] at h
  simpa using jp h
theorem lg:∀ {mu:List Bool} {vs:List V} {k:Nat} {v:V},mu[k]? = some true→vs[k]? = some v→(msV mu vs)[k]? = some (some v)
 | [],vs,k,v,h,_=>by simp at h
 | b :: bs,[],k,v,_,h=>by simp at h
 | b :: bs,u :: vs,0,v,h,h2=>by simp at h h2; subst h; subst h2; simp [msV]
 | b :: bs,u :: vs,k + 1,v,h,h2=>by simp only [msV,List.getElem?_cons_succ]; exact lg (by simpa using h) (by simpa using h2)
section
variable {C:Ctx} {ow mu:List Bool} {G:Hp} {ρ:DSt} {σ:St} {H:Hp} {pd:List (D×V)} {O:Own} {fin fbk:Nat→Option Nat}
theorem RO.into (ro:RO C ow G ρ σ H pd O) {ds:List D} {vs:List V} (hl:ds.length=vs.length)
 (hs:∀ (k:Nat) d,ds[k]? = some d→∃ v,vs[k]? = some v∧if mu[k]? = some true then ∃ l,Sep G H O l d [] v∧fin l=some (2 * k) else Rep G d v)
 (hc:∀ l l',fin l=some l'→∃ k,l'=2 * k∧mu[k]? = some true∧k<vs.length) :
 RO ⟨G,H,cU fin O,msV mu vs,0⟩ mu G (ds.map some) (vs.map some) H [] (cU fin O):=by
 refine ⟨by simp [hl],ro.gh,fun _ _ e=>e,fun _ _ e=>.inl e,?_,?_,fun _ _ e _ _=>e,ro.ft,fun _ e=>e,?_,?_,trivial,Nat.le_refl _⟩
 ·intro a m e
  obtain ⟨l',π⟩:=m
  obtain ⟨l,e1,e2⟩:=gX e
  obtain ⟨q1,q2,_⟩:=ro.og a _ e1
  exact ⟨q1,q2,.inr ⟨π,e⟩⟩
 ·intro a l' π e
  obtain ⟨l,e1,e2⟩:=gX e
  obtain ⟨k,rfl,h2,h3⟩:=hc _ _ e2
  exact .inl ⟨k,vs[k],rfl,lg h2 (List.getElem?_eq_getElem h3)⟩
 ·intro k v e
  rw [List.getElem?_map,(jp e).2]; rfl
 ·intro k d e
  rw [List.getElem?_map] at e
  cases e1:ds[k]? with
  | none=>rw [e1] at e; cases e
  | some d' =>
   rw [e1] at e
   cases e
   obtain ⟨v,h1,h2⟩:=hs k d e1
   refine ⟨v,by rw [List.getElem?_map,h1]; rfl,?_⟩
   split at h2
   ·rename_i c
    rw [if_pos c]
    obtain ⟨l,h3,h4⟩:=h2
    exact h3.keep (fun _ _ z=>z) fun a τ q=>⟨rG q h4,rfl⟩
   ·rename_i c; rw [if_neg c]; exact h2
def p_ (fin fbk:Nat→Option Nat) (O O2:Own):Own:=fun a=>match O2 a with
 | some m=>(fbk m.1).map fun l=>(l,m.2)
 | none=>match cU fin O a with
  | some _=>none
  | none=>O a
theorem RO.out (ro:RO C ow G ρ σ H pd O) {vs:List V} {G2:Hp} {ρ2:DSt} {σ2:St} {H2:Hp} {pd2 pd3:List (D×V)} {O2:Own} {ρ3:DSt} {ow2:List Bool} {np:Nat} {mv:List (Option V)}
 (ri:RO ⟨G,H,cU fin O,mv,np⟩ ow2 G2 ρ2 σ2 H2 pd2 O2) (hib:∀ l0 l' l,fin l0=some l'→fbk l'=some l→l=l0)
 (hlen : ρ3.length=σ.length) (hnp:C.np≤pd3.length)
 (hS:∀ (i:Nat) d,ow[i]?≠some true→ρ3[i]? = some (some d)→ρ[i]? = some (some d))
 (hO:∀ (i:Nat) d,ow[i]? = some true→ρ3[i]? = some (some d)→(fin (2 * i)=none∧ρ[i]? = some (some d))∨∃ (k:Nat) (v:V),fbk (2 * k)=some (2 * i)∧ow2[k]? = some true∧ρ2[k]? = some (some d)∧σ[i]? = some (some v)∧σ2[k]? = some (some v))
 (hP:∀ (O3:Own),(∀ a l π,O a=some (l,π)→fin l=none→O3 a=some (l,π)∧H2 a=H a)→(∀ a l l' π,O2 a=some (l',π)→fbk l'=some l→O3 a=some (l,π))→cT G G2→b9 G2 H2 O3 pd3) :
 RO C ow G2 ρ3 σ H2 pd3 (p_ fin fbk O O2):=by
 have keep:∀ a l π,O a=some (l,π)→fin l=none→p_ fin fbk O O2 a=some (l,π)∧H2 a=H a:=fun a l π e hn=>by
  have e1:=nh (f:=fin) e hn
  obtain ⟨g,⟨xs,hx⟩,_⟩:=ro.og a _ e
  have e2:O2 a=none:=by
   cases q:O2 a with
   | none=>rfl
   | some m =>
    obtain ⟨_,_,q3⟩:=ri.og a m q
    rcases q3 with q3 | ⟨π',q3⟩
    ·change H a=none at q3; rw [hx] at q3; cases q3
    ·change cU fin O a=_ at q3; rw [e1] at q3; cases q3
  constructor
  ·show (match O2 a with | some m=>_ | none=>_)=_
   rw [e2]
   show (match cU fin O a with | some _=>none | none=>O a)=_
   rw [e1]; exact e
  ·rw [ri.fr a _ hx e1 (WrO.nt xs),hx]
 have come:∀ a l l' π,O2 a=some (l',π)→fbk l'=some l→p_ fin fbk O O2 a=some (l,π):=fun a l l' π e hb=>by
  show (match O2 a with | some m=>_ | none=>_)=_
  rw [e]
  show (fbk l').map _=_
  rw [hb]; rfl
 have ts:cT G G2:=(aM.ts ri.g0)
 refine ⟨hlen,ri.gh,fun a o e=>ri.g0 a o (ro.g0 a o e),?_,?_,ro.cok,?_,ri.ft,fun a e=>ro.al a (ri.al a e),ro.mp,?_,hP _ keep come ts,hnp⟩
 ·intro a o e
  rcases ri.gn a o e with q | q
  ·exact ro.gn a o q
  ·exact .inr (ro.al a q)
 ·intro a m e
  change (match O2 a with | some m=>_ | none=>_)=_ at e
  cases q:O2 a with
  | some m' =>
   rw [q] at e
   change (fbk m'.1).map _=_ at e
   cases q2:fbk m'.1 with
   | none=>rw [q2] at e; cases e
   | some l =>
    rw [q2] at e; cases e
    obtain ⟨g1,g2,g3⟩:=ri.og a m' q
    refine ⟨g1,g2,?_⟩
    rcases g3 with g3 | ⟨π',g3⟩
    ·exact .inl (ro.al a g3)
    ·obtain ⟨l0,g4,g5⟩:=gX g3
     have:=hib _ _ _ g5 q2
     subst this
     exact (ro.og a _ g4).2.2
  | none =>
   rw [q] at e
   change (match cU fin O a with | some _=>none | none=>O a)=_ at e
   cases q2:cU fin O a with
   | some _=>rw [q2] at e; cases e
   | none =>
    rw [q2] at e
    change O a=some m at e
    obtain ⟨g1,⟨xs,g2⟩,g3⟩:=ro.og a m e
    refine ⟨?_,⟨xs,ri.fr a _ g2 q2 (WrO.nt xs)⟩,g3⟩
    cases z:G2 a with
    | none=>rfl
    | some o =>
     rcases ri.gn a o z with z | z
     ·change G a=_ at z; rw [g1] at z; cases z
     ·change H a=_ at z; rw [g2] at z; cases z
 ·intro a o e n t
  have q:=ro.fr a o e n t
  refine ri.fr a o q ?_ t
  show cU fin O a=none
  cases z:cU fin O a with
  | none=>rfl
  | some m =>
   obtain ⟨l',π⟩:=m
   obtain ⟨l,z1,_⟩:=gX z
   obtain ⟨_,_,z3⟩:=ro.og a _ z1
   rcases z3 with z3 | ⟨_,z3⟩
   ·rw [z3] at e; cases e
   ·rw [z3] at n; cases n
 ·intro i d e
  by_cases c:ow[i]? = some true
  ·rcases hO i d c e with ⟨h1,h2⟩ | ⟨k,v,h1,h2,h3,h4,h5⟩
   ·obtain ⟨v,q1,q2⟩:=ro.sl i d h2
    rw [if_pos c] at q2
    exact ⟨v,q1,by rw [if_pos c]; exact q2.keep ts fun a τ q=>keep a _ _ q h1⟩
   ·obtain ⟨v',q1,q2⟩:=ri.sl k d h3
    rw [if_pos h2] at q2
    rw [h5] at q1; cases q1
    exact ⟨v,h4,by rw [if_pos c]; exact q2.keep (fun _ _ z=>z) fun a τ q=>⟨come _ _ _ _ q h1,rfl⟩⟩
  ·obtain ⟨v,q1,q2⟩:=ro.sl i d (hS i d c e)
   rw [if_neg c] at q2
   exact ⟨v,q1,by rw [if_neg c]; exact q2.mono ri.g0⟩
end
def Ret (fr:Bool) (C:Ctx) (ow:List Bool) (G:Hp) (ρ:DSt) (σ:St) (H:Hp) (d:D) (v:V):Prop:=if fr=true then R C ow G ρ σ H [(d,v)] else R C ow G ρ σ H []∧Rep G d v
def mus:List Bool→DSt→DSt
 | true :: bs,x :: ρ=>x :: mus bs ρ
 | false :: bs,_ :: ρ=>mus bs ρ
 | true :: bs,[]=>none :: mus bs []
 | false :: bs,[]=>mus bs []
 | [],_=>[]
def cA {α:Type}:Nat→List (Option α)→List (Option α)
 | 0,_=>[]
 | n + 1,x :: ρ=>x :: cA n ρ
 | n + 1,[]=>none :: cA n []
theorem cM {α:Type}:∀ (n:Nat) (ρ:List (Option α)),(cA n ρ).length=n
 | 0,_=>rfl
 | n + 1,x :: ρ=>by simp [cA,cM n ρ]
 | n + 1,[]=>by simp [cA,cM n []]
theorem cO:∀ (mu:List Bool) (ρ:DSt),mus mu (cA mu.length ρ)=mus mu ρ
 | [],_=>by simp [mus]
 | true :: bs,x :: ρ=>by simp [cA,mus,cO bs ρ]
 | false :: bs,x :: ρ=>by simp [cA,mus,cO bs ρ]
 | true :: bs,[]=>by simp [cA,mus,cO bs []]
 | false :: bs,[]=>by simp [cA,mus,cO bs []]
theorem jd {α:Type}:∀ {n:Nat} {ρ:List (Option α)} {i:Nat} {d : α},(cA n ρ)[i]? = some (some d)→i<n∧ρ[i]? = some (some d)
 | 0,_,_,_,h=>by simp [cA] at h
 | n + 1,x :: ρ,0,d,h=>by simp [cA] at h; exact ⟨by omega,by simp [h]⟩
 | n + 1,x :: ρ,i + 1,d,h=>by simp only [cA,List.getElem?_cons_succ] at h; obtain ⟨a,b⟩:=jd h; exact ⟨by omega,by simpa using b⟩
 | n + 1,[],0,d,h=>by simp [cA] at h
 | n + 1,[],i + 1,d,h=>by simp only [cA,List.getElem?_cons_succ] at h; obtain ⟨a,b⟩:=jd h; simp at b
theorem ji {α:Type}:∀ {n:Nat} {ρ:List (Option α)} {i:Nat} {d : α},i<n→ρ[i]? = some (some d)→(cA n ρ)[i]? = some (some d)
 | 0,_,_,_,h,_=>by omega
 | n + 1,x :: ρ,0,d,h,e=>by simp at e; simp [cA,e]
 | n + 1,x :: ρ,i + 1,d,h,e=>by simp only [cA,List.getElem?_cons_succ]; exact ji (by omega) (by simpa using e)
 | n + 1,[],i,d,h,e=>by simp at e
abbrev SpD:=List D→(D→DSt→Prop)→Prop
def aY (mu:List Bool) (fr:Bool) (sd:SpD):Sp:=fun vs H Q _=>∃ (C:Ctx) (G:Hp) (ds:List D) (q:D→DSt→Prop),C.np=0∧C.mu=msV mu vs∧R C mu G (ds.map some) (vs.map some) H []∧sd ds q∧mu.length=ds.length ∧
 ∀ d ρ' σ' v G' H',q d (mus mu ρ')→aM G G'→ρ'.length=mu.length→Ret fr C mu G' ρ' σ' H' d v→Q v H'
structure EndsD where
 nx:DSt→Prop
 rt:D→DSt→Prop
 bk:DSt→Prop:=fun _=>False
 ct:DSt→Prop:=fun _=>False
abbrev MS:=EndsD→DSt→Prop
structure Ks (C:Ctx) (ow:List Bool) (fr:Bool) (G:Hp) (n:EndsD) (D:Ends):Prop where
 nx:∀ ρ σ G' H,n.nx ρ→aM G G'→R C ow G' ρ σ H []→D.nx σ H
 bk:∀ ρ σ G' H,n.bk ρ→aM G G'→R C ow G' ρ σ H []→D.bk σ H
 ct:∀ ρ σ G' H,n.ct ρ→aM G G'→R C ow G' ρ σ H []→D.ct σ H
 rt:∀ d ρ σ v G' H,n.rt d ρ→aM G G'→Ret fr C ow G' ρ σ H d v→D.rt v H
theorem Ks.mono {C:Ctx} {ow:List Bool} {fr:Bool} {G G1:Hp} {n:EndsD} {D:Ends} (h:Ks C ow fr G n D) (s:aM G G1):Ks C ow fr G1 n D :=
 ⟨fun ρ σ G' H a b c=>h.nx ρ σ G' H a (s.trans b) c,fun ρ σ G' H a b c=>h.bk ρ σ G' H a (s.trans b) c,fun ρ σ G' H a b c=>h.ct ρ σ G' H a (s.trans b) c,fun d ρ σ v G' H a b c=>h.rt d ρ σ v G' H a (s.trans b) c⟩
def gY (C:Ctx) (mu:List Bool):Prop:=∀ (i:Nat) v,C.mu[i]? = some (some v)→mu[i]? = some true
theorem gY.no {C:Ctx} {mu:List Bool} (h:gY C mu) {i:Nat} (hi:mu[i]?≠some true):∀ v,C.mu[i]?≠some (some v):=fun v e=>hi (h i v e)
structure Md where
 mu:List Bool
 ow:List Bool
 fr:Bool
def SS (M:Md) (t:TS) (m:MS):Prop:=∀ (C:Ctx) (G:Hp) (ρ:DSt) (σ:St) (H:Hp) (n:EndsD) (D:Ends),gY C M.mu→C.np=0→R C M.ow G ρ σ H []→m n ρ→Ks C M.ow M.fr G n D→t D σ H
structure QS (X:Cx) (M:Md) (st:Stmt) (m:MS):Prop where
 ex:∃ t,PS X st t∧SS M t m
structure QSs (X:Cx) (M:Md) (st:List Stmt) (m:MS):Prop where
 ex:∃ t,PSs X st t∧SS M t m
section
variable {X:Cx} {M:Md} {a b c e:Expr} {ma mb mc:ME} {mt:MT} {pos pos':Pos} {st:Stmt} {rest:List Stmt} {m m1 m2:MS}
def mSeq (m1 m2:MS):MS:=fun n ρ=>m1 { n with nx:=fun ρ'=>m2 n ρ' } ρ
def mNext:MS:=fun n ρ=>n.nx ρ
theorem aT:QSs X M [] mNext:=⟨_,sK,fun C G ρ σ H n D hm hn r h k=>k.nx ρ σ G H h (aM.refl _) r⟩
theorem ag (h:QS X M st m):QSs X M [st] m:=by obtain ⟨t,p,s⟩:=h; exact ⟨_,rV p,s⟩
theorem ae (h:QS X M st m1) (h2:QSs X M rest m2):QSs X M (st :: rest) (mSeq m1 m2):=by
 obtain ⟨t,p,s⟩:=h; obtain ⟨t2,p2,s2⟩:=h2
 refine ⟨_,qr p p2,fun C G ρ σ H n D hm hn r h k=>s C G ρ σ H _ _ hm hn r h ?_⟩
 exact ⟨fun ρ' σ' G' H' h' z r'=>s2 C G' ρ' σ' H' n D hm hn r' h' (k.mono z),k.bk,k.ct,k.rt⟩
def t8:MS:=fun _ _=>False
theorem b_:QS X M st t8:=⟨_,oC,fun C G ρ σ H n D hm hn r h k=>h.elim⟩
def mIfS (mt:MT) (m1 m2:MS):MS:=fun n ρ=>mt ρ fun b ρ1=>if b=true then m1 n ρ1 else m2 n ρ1
theorem bv {s1 s2:List Stmt} (h:QT X M.ow c mt) (h1:QSs X M s1 m1) (h2:QSs X M s2 m2):QS X M (.If c s1 s2 pos) (mIfS mt m1 m2):=by
 obtain ⟨t,p,s⟩:=h; obtain ⟨t1,p1,s1⟩:=h1; obtain ⟨t2,p2,s2⟩:=h2
 refine ⟨_,ps_if p p1 p2,fun C G ρ σ H n D hm hn r h k=>s C G ρ σ H [] _ _ r h fun b ρ' G' H' hq z kp r'=>?_⟩
 cases b with
 | true=>rw [if_pos rfl] at hq ⊢; exact s1 C G' ρ' σ H' n D hm hn r' hq (k.mono z)
 | false=>rw [if_neg (by decide)] at hq ⊢; exact s2 C G' ρ' σ H' n D hm hn r' hq (k.mono z)
def mRet (m:ME):MS:=fun n ρ=>m ρ n.rt
theorem aL (h:QE X M.ow e ma) (hf:M.fr=false:=by rfl):QS X M (.Return (some e) pos) (mRet ma):=by
 obtain ⟨t,p,s⟩:=h
 refine ⟨_,qP p,fun C G ρ σ H n D hm hn r h k=>s C G ρ σ H [] _ _ r h fun d ρ' v G' H' hq z kp r' p=>k.rt d ρ' σ v G' H' hq z (by unfold Ret; rw [if_neg (by rw [hf]; decide)]; exact ⟨r',p⟩)⟩
theorem R.non {C:Ctx} {ow:List Bool} {fr:Bool} {G:Hp} {ρ:DSt} {σ:St} {H:Hp} (r:R C ow G ρ σ H []):Ret fr C ow G ρ σ H .non .non:=by
 unfold Ret
 split
 ·obtain ⟨O,r⟩:=r
  exact ⟨O,r.len,r.gh,r.g0,r.gn,r.og,r.cok,r.fr,r.ft,r.al,r.mp,r.sl,⟨by rw [Sep],trivial⟩,Nat.le_succ_of_le r.np⟩
 ·exact ⟨r,mQ⟩
def ly (i:Nat) (m:ME):MS:=fun n ρ=>m ρ fun d ρ1=>n.nx (ρ1.set i (some d))
theorem oS {t:TE} {i:Nat} (s:SE M.ow t ma) (ho:M.ow[i]?≠some true) (hu:M.mu[i]?≠some true):SS M (q9 t (i3 i)) (ly i ma):=fun C G ρ σ H n D hm hn r h k =>
 s C G ρ σ H [] _ _ r h fun d ρ' v G' H' hq z kp r' p=>by
  obtain ⟨O,r'⟩:=r'
  exact k.nx _ _ G' H' hq z ⟨O,r'.setS ho (hm.no hu) p⟩
theorem l4 {t:TE} {i:Nat} (s:SF M.ow t ma) (ho:M.ow[i]? = some true) (hu:M.mu[i]?≠some true):SS M (q9 t (i3 i)) (ly i ma):=fun C G ρ σ H n D hm hn r h k =>
 s C G ρ σ H [] _ _ r h fun d ρ' v G' H' hq z kp r'=>by
  obtain ⟨O,r'⟩:=r'
  exact k.nx _ _ G' H' hq z (r'.setO ho (hm.no hu) (by rw [hn]; exact Nat.zero_le _))
theorem aS {i:Nat} {x:Str} (hN:X.N.Nodup) (hi:X.N[i]? = some x) (hx:Loc X.env.scope x) (he:QE X M.ow e ma) (ho:M.ow[i]?≠some true:=by decide) (hu:M.mu[i]?≠some true:=by decide) (hs:swapsWith e (some (.Name x pos')) pos.line X.env=pure false:=by rfl) (hf:X.fn x=true∨X.env.scope.names.lookup x=some .local:=by first | exact .inl rfl | exact .inr rfl | assumption) :
 QS X M (.Assign [.Name x pos'] e pos) (ly i ma):=by
 obtain ⟨t,p,s⟩:=he
 exact ⟨_,lR hN hi hx p hs hf,oS s ho hu⟩
theorem bC {i:Nat} {x:Str} (hN:X.N.Nodup) (hi:X.N[i]? = some x) (hx:Loc X.env.scope x) (he:QF X M.ow e ma) (ho:M.ow[i]? = some true:=by decide) (hu:M.mu[i]?≠some true:=by decide) (hs:swapsWith e (some (.Name x pos')) pos.line X.env=pure false:=by rfl) (hf:X.fn x=true∨X.env.scope.names.lookup x=some .local:=by first | exact .inl rfl | exact .inr rfl | assumption) :
 QS X M (.Assign [.Name x pos'] e pos) (ly i ma):=by
 obtain ⟨t,p,s⟩:=he
 exact ⟨_,lR hN hi hx p hs hf,l4 s ho hu⟩
def mPar (i j:Nat) (ma mb:ME):MS:=fun n ρ=>ma ρ fun x ρ1=>mb ρ1 fun y ρ2=>n.nx ((ρ2.set i (some x)).set j (some y))
theorem jk {i j:Nat} {x y:Str} {px py pt:Pos} {kt k2 pt2} (hc:X.calm=true) (hN:X.N.Nodup) (hi:X.N[i]? = some x) (hj:X.N[j]? = some y) (hij:i≠j)
 (hx:X.env.scope.names.lookup x=some .local) (hy:X.env.scope.names.lookup y=some .local) (ha:QE X M.ow a ma) (hb:QE X M.ow b mb)
 (hw:swappedStores [.Tuple [.Name x px,.Name y py] kt pt] (.Tuple [a,b] k2 pt2) X.env=pure (some [x,y]))
 (oi:M.ow[i]?≠some true:=by decide) (oj:M.ow[j]?≠some true:=by decide) (ui:M.mu[i]?≠some true:=by decide) (uj:M.mu[j]?≠some true:=by decide)
 (hs1:starEach [a,b] X.env=(false,eval a X.env) :: starEach [b] X.env:=by rfl) (hs2:starEach [b] X.env=[(false,eval b X.env)]:=by rfl)
 (hs:swapsWithSole [.Tuple [.Name x px,.Name y py] kt pt] (.Tuple [a,b] k2 pt2) pos.line X.env=pure false:=by rfl) :
 QS X M (.Assign [.Tuple [.Name x px,.Name y py] kt pt] (.Tuple [a,b] k2 pt2) pos) (mPar i j ma mb):=by
 obtain ⟨ta,pa,sa⟩:=ha; obtain ⟨tb,pb,sb⟩:=hb
 refine ⟨_,vM hc hN hi hj hij hx hy (bV pa (bV pb eB hs2) hs1) hw hs,fun C G ρ σ H n D hm hn r h k=>?_⟩
 refine jB (Q:=fun u w H2=>∃ v w',[u,w]=[v,w']∧D.nx ((σ.set i (some v)).set j (some w')) H2) sa sb r h fun dx dy ρ' u w G' H' hq z kp r' p1 p2=>⟨u,w,rfl,?_⟩
 obtain ⟨O,r'⟩:=r'
 exact k.nx _ _ G' H' hq z ⟨O,(r'.setS oi (hm.no ui) p1).setS oj (hm.no uj) p2⟩
abbrev MG:=D→DSt→(DSt→Prop)→Prop
abbrev MGs:=List D→DSt→(DSt→Prop)→Prop
def SG (M:Md) (g:TG) (m:MG):Prop:=∀ (C:Ctx) (G:Hp) (ρ:DSt) (σ:St) (H:Hp) (pd:List (D×V)) (d:D) (v:V) (k:DSt→Prop) (K:St→Hp→Prop),gY C M.mu→R C M.ow G ρ σ H pd→Rep G d v→m d ρ k →
 (∀ ρ' σ',k ρ'→R C M.ow G ρ' σ' H pd→K σ' H)→g v σ H K
def SGs (M:Md) (g:TGs) (m:MGs):Prop:=∀ (C:Ctx) (G:Hp) (ρ:DSt) (σ:St) (H:Hp) (pd:List (D×V)) (d:List D) (v:List V) (k:DSt→Prop) (K:St→Hp→Prop),gY C M.mu→R C M.ow G ρ σ H pd→Reps G d v→m d ρ k →
 (∀ ρ' σ',k ρ'→R C M.ow G ρ' σ' H pd→K σ' H)→g v σ H K
structure QG (X:Cx) (M:Md) (e:Expr) (m:MG):Prop where
 ex:∃ t,PG X e t∧SG M t m
structure QGs (X:Cx) (M:Md) (e:List Expr) (m:MGs):Prop where
 ex:∃ t,PGs X e t∧SGs M t m
def gZ (i:Nat):MG:=fun d ρ k=>k (ρ.set i (some d))
theorem aH {i:Nat} {x:Str} (hN:X.N.Nodup) (hi:X.N[i]? = some x) (hx:Loc X.env.scope x) (ho:M.ow[i]?≠some true:=by decide) (hu:M.mu[i]?≠some true:=by decide) (hf:X.fn x=true∨X.env.scope.names.lookup x=some .local:=by first | exact .inl rfl | exact .inr rfl | assumption):QG X M (.Name x pos) (gZ i) :=
 ⟨_,bc hN hi hx hf,fun C G ρ σ H pd d v k K hm r p h kk=>by obtain ⟨O,r⟩:=r; exact kk _ _ h ⟨O,r.setS ho (hm.no hu) p⟩⟩
def mM:MGs:=fun ds ρ k=>match ds with
 | []=>k ρ
 | _=>False
def hE (t:MG) (u:MGs):MGs:=fun ds ρ k=>match ds with
 | d :: ds=>t d ρ fun ρ1=>u ds ρ1 k
 | []=>False
def rh (t:MGs):MG:=fun d ρ k=>match d with
 | .tup ds=>t ds ρ k
 | _=>False
variable {mg:MG} {mgs:MGs} {es:List Expr}
theorem cK:QGs X M [] mM:=⟨_,jy,fun C G ρ σ H pd d v k K hm r p h kk=>by
 cases d with
 | nil=>rw [Reps] at p; exact ⟨p,kk _ _ h r⟩
 | cons _ _=>exact h.elim⟩
theorem aV (h1:QG X M e mg) (h2:QGs X M es mgs) (hs:(assignEach (e :: es) X.env).map (·.2)=assign e X.env :: (assignEach es X.env).map (·.2):=by rfl):QGs X M (e :: es) (hE mg mgs):=by
 obtain ⟨t,p,s⟩:=h1; obtain ⟨t2,p2,s2⟩:=h2
 refine ⟨_,eI p p2 hs,fun C G ρ σ H pd d v k K hm r p h kk=>?_⟩
 cases d with
 | nil=>exact h.elim
 | cons d ds =>
  rw [Reps] at p
  obtain ⟨v,vs,rfl,p1,p3⟩:=p
  exact ⟨v,vs,rfl,s C G ρ σ H pd d v _ _ hm r p1 h fun ρ' σ' h' r'=>s2 C G ρ' σ' H pd ds vs k K hm r' p3 h' kk⟩
def iF (n:Nat) (m:MGs):Prop:=∀ ds ρ k,m ds ρ k→ds.length=n
theorem bq:iF 0 mM:=fun ds ρ k h=>by cases ds with | nil=>rfl | cons _ _=>exact h.elim
theorem ax {n:Nat} {i:Nat} (h:iF n mgs):iF (n + 1) (hE (gZ i) mgs):=fun ds ρ k q=>by
 cases ds with
 | nil=>exact q.elim
 | cons d ds=>simp [h ds _ _ q]
theorem dA {kk:Nat} {n:Nat} (hc:X.calm=true) (h:QGs X M es mgs) (ht:iF n mgs)
 (hn:(assignEach es X.env).length=n:=by rfl) (hst:(assignEach es X.env).findIdx? (·.1)=none:=by rfl):QG X M (.Tuple es kk pos) (rh mgs):=by
 obtain ⟨t,p,s⟩:=h
 refine ⟨_,lJ hc p hn hst,fun C G ρ σ H pd d v k K hm r p h kk=>?_⟩
 cases d with
 | tup ds =>
  obtain ⟨a,xs,rfl,h1,h2⟩:=dl p
  exact ⟨a,xs,rfl,SqT.of (r.gh _ _ h1),by rw [h2.length]; exact ht _ _ _ h,s C G ρ σ H pd ds xs k K hm r h2 h kk⟩
 | _=>exact h.elim
def mAsg (m:ME) (g:MG):MS:=fun n ρ=>m ρ fun d ρ1=>g d ρ1 n.nx
theorem gr {tg:Expr} (he:QE X M.ow e ma) (hg:QG X M tg mg) (hs:swapsWithSole [tg] e pos.line X.env=pure false:=by rfl) (hw:swappedStores [tg] e X.env=pure none:=by rfl)
 (h1:(assignEach [tg] X.env).map (·.2)=[assign tg X.env]:=by rfl):QS X M (.Assign [tg] e pos) (mAsg ma mg):=by
 obtain ⟨t,p,s⟩:=he; obtain ⟨t2,p2,s2⟩:=hg
 refine ⟨_,lz p p2 hs hw h1,fun C G ρ σ H n D hm hn r h k=>s C G ρ σ H [] _ _ r h fun d ρ' v G' H' hq z kp r' p=>?_⟩
 exact s2 C G' ρ' σ H' [] d v _ _ hm r' p hq fun ρ2 σ2 h2 r2=>k.nx ρ2 σ2 G' H' h2 z r2
def mDrop (m:ME):MS:=fun n ρ=>m ρ fun _ ρ1=>n.nx ρ1
theorem cC (he:QE X M.ow e ma) (hs:swapsWith e none pos.line X.env=pure false:=by rfl):QS X M (.Expr e pos) (mDrop ma):=by
 obtain ⟨t,p,s⟩:=he
 exact ⟨_,jL p hs,fun C G ρ σ H n D hm hn r h k=>s C G ρ σ H [] _ _ r h fun d ρ' v G' H' hq z kp r' p=>k.nx ρ' σ G' H' hq z r'⟩
def mP (i:Nat) (m:ME):MS:=fun n ρ=>match ρ[i]? with
 | some (some (.lst _))=>m ρ fun d ρ1=>match ρ1[i]? with
  | some (some (.lst ds))=>ds.length<1000∧n.nx (ρ1.set i (some (.lst (ds++[d]))))
  | _=>False
 | _=>False
theorem bR {i:Nat} {x:Str} {apos cpos npos:Pos} (hN:X.N[i]? = some x) (he:QF X M.ow e ma) (ho:M.ow[i]? = some true:=by decide)
 (hv:Vis X.env.scope x:=by first | exact Or.inl rfl | exact Or.inr (Or.inl rfl) | exact Or.inr (Or.inr rfl)) (hd:(x == ("__debug__":Str))=false:=by decide) (hcd:(x == ("__classdict__":Str))=false:=by decide)
 (hbase:attributeBase (.Name x npos) "append" X.env (eval (.Name x npos) X.env)=eval (.Name x npos) X.env:=by rfl)
 (hfew:((backTo cpos (starEach [e] X.env)).all (fun x=>!x.1)&&(backToKw cpos (keywordEach [] X.env)).all (fun x=>x.1.isSome)
  && decide ([e].length + ([]:List Keyword).length + (if ([]:List Keyword).isEmpty then 0 else 1)<30))=true:=by rfl)
 (hline:(apos.endLine == cpos.line)=true:=by rfl) (hst:starEach [e] X.env=[(false,eval e X.env)]:=by rfl)
 (hs:swapsWith (.Call (.Attribute (.Name x npos) "append" apos) [e] [] cpos) none pos.line X.env=pure false:=by rfl) :
 QS X M (.Expr (.Call (.Attribute (.Name x npos) "append" apos) [e] [] cpos) pos) (mP i ma):=by
 obtain ⟨t,p,s⟩:=he
 refine ⟨_,jL (tF PySem.F.plainAttrs_list PySem.F.slot_list_append PySem.F.type_list_append iZ (d5 hN hv hd hcd) (bV p eB hst) hbase hfew hline hst (by rfl)) hs,fun C G ρ σ H n D hm hn r h k=>?_⟩
 unfold mP at h
 split at h
 ·rename_i ds e1
  obtain ⟨O,ro⟩:=r
  obtain ⟨a,xs,h1,h2,_,_⟩:=ro.write e1 ho
  refine ⟨.ref a,h1,.inl ⟨rfl,xs,SqL.of h2⟩,?_⟩
  refine s C G ρ σ H [] _ _ ⟨O,ro⟩ h fun d ρ' v G' H' hq z kp r'=>?_
  split at hq
  ·rename_i ds' e2
   obtain ⟨O',r'⟩:=r'
   obtain ⟨O2,r2,s2,s3⟩:=r'.join i ds'.length (by rw [hn]; exact Nat.zero_le _)
   obtain ⟨a',xs',g1,g2,g3,g4⟩:=r2.write e2 ho
   rw [h1] at g1; cases g1
   have hl:=g3.length
   refine ⟨a,xs',v,rfl,rfl,g2,by rw [hl]; exact db (Nat.le_of_lt hq.1),?_⟩
   exact k.nx _ _ G' _ hq.2 z ⟨O2,g4 _ _ (g3.snoc (by simpa using s2))⟩
  ·exact hq.elim
 ·exact h.elim
def mSetI (i:Nat) (mk m:ME):MS:=fun n ρ=>m ρ fun d ρ1=>match ρ1[i]? with
 | some (some (.lst _))=>mk ρ1 fun k ρ2=>match ρ2[i]? with
  | some (some (.lst ds))=>match k with
   | .int j=>match ixN ds.length j with
    | some p=>n.nx (ρ2.set i (some (.lst (ds.set p d))))
    | none=>False
   | _=>False
  | _=>False
 | _=>False
theorem eu {i:Nat} {x:Str} {npos spos:Pos} (hN:X.N[i]? = some x) (he:QF X M.ow e ma) (hk:QE X M.ow b mb) (ho:M.ow[i]? = some true:=by decide)
 (hv:Vis X.env.scope x:=by first | exact Or.inl rfl | exact Or.inr (Or.inl rfl) | exact Or.inr (Or.inr rfl)) (hd:(x == ("__debug__":Str))=false:=by decide) (hcd:(x == ("__classdict__":Str))=false:=by decide)
 (ha:∀ v,assign (.Subscript (.Name x npos) b spos) X.env v=(do
  let ov ← holding [v] (eval (.Name x npos) X.env)
  let iv ← holding [v,ov] (eval b X.env)
  standAt spos
  holding [v,ov,iv] (setItem ov iv v)
  release [v,ov,iv] []):=by intro _; rfl)
 (hs:swapsWithSole [.Subscript (.Name x npos) b spos] e pos.line X.env=pure false:=by rfl) (hw:swappedStores [.Subscript (.Name x npos) b spos] e X.env=pure none:=by rfl)
 (h1:(assignEach [.Subscript (.Name x npos) b spos] X.env).map (·.2)=[assign (.Subscript (.Name x npos) b spos) X.env]:=by rfl) :
 QS X M (.Assign [.Subscript (.Name x npos) b spos] e pos) (mSetI i mb ma):=by
 obtain ⟨t,p,s⟩:=he; obtain ⟨t2,p2,s2⟩:=hk
 refine ⟨_,lz p (wI (d5 hN hv hd hcd) p2 ku ha) hs hw h1,fun C G ρ σ H n D hm hn r h k=>s C G ρ σ H [] _ _ r h fun d ρ' v G' H' hq z kp r'=>?_⟩
 split at hq
 ·rename_i ds0 e0
  obtain ⟨O0,ro⟩:=r'
  obtain ⟨a,xs,hu,_,_,_⟩:=ro.write e0 ho
  refine ⟨.ref a,hu,?_⟩
  refine s2 C G' ρ' σ H' _ _ _ ⟨O0,ro⟩ hq fun dk ρ2 jv G2 H2 hq2 z2 kp2 r2 pj=>?_
  split at hq2
  ·rename_i ds e2
   cases dk with
   | int j =>
    dsimp only at hq2
    split at hq2
    ·rename_i pl e3
     obtain ⟨O',r2⟩:=r2
     obtain ⟨O2,r3,w2,w3⟩:=r2.join i pl (by rw [hn]; exact Nat.zero_le _)
     obtain ⟨a',xs',g1,g2,g3,g4⟩:=r3.write e2 ho
     rw [hu] at g1; cases g1
     refine ⟨a,xs',j,pl,rfl,az pj,g2,by rw [g3.length]; exact e3,?_⟩
     exact k.nx _ _ G2 _ hq2 (z.trans z2) ⟨O2,g4 _ _ (g3.set (by simpa using w2))⟩
    ·exact hq2.elim
   | _=>exact hq2.elim
  ·exact hq2.elim
 ·exact hq.elim
def ul (mt:MT) (mb:MS):MS:=fun n ρ=>∃ W:Nat→DSt→Prop,(∃ k,W k ρ)∧∀ k ρ,W k ρ→mt ρ fun b ρ1 =>
 if b=true then mb { n with nx:=fun ρ'=>∃ k',k'<k∧W k' ρ',ct:=fun ρ'=>∃ k',k'<k∧W k' ρ',bk:=n.nx } ρ1 else n.nx ρ1
theorem f6 {body:List Stmt} (hp:PassesOwn (model X.prog X.w) X.A X.env X.xe) (hc:QT X M.ow c mt) (hb:QSs X M body m):QS X M (.While c body [] pos) (ul mt m):=by
 obtain ⟨t,p,s⟩:=hc; obtain ⟨t2,p2,s2⟩:=hb
 refine ⟨_,qA hp p p2,fun C G ρ σ H n D hm hn r h k=>?_⟩
 obtain ⟨W,⟨k0,w0⟩,turn⟩:=h
 refine ⟨fun j σ' H'=>∃ G' ρ',aM G G'∧R C M.ow G' ρ' σ' H' []∧W j ρ',⟨k0,G,ρ,aM.refl _,r,w0⟩,?_⟩
 rintro j σ' H' ⟨G',ρ',z,r',w⟩
 refine s C G' ρ' σ' H' [] _ _ r' (turn j ρ' w) fun b ρ1 G1 H1 hq z1 kp r1=>?_
 cases b with
 | true =>
  rw [if_pos rfl] at hq ⊢
  refine ⟨fun σ2 H2=>∃ j',j'<j∧∃ G2 ρ2,aM G G2∧R C M.ow G2 ρ2 σ2 H2 []∧W j' ρ2,fun σ2 H2 h=>h,?_⟩
  refine s2 C G1 ρ1 σ' H1 _ _ hm hn r1 hq ⟨?_,?_,?_,?_⟩
  ·rintro ρ2 σ2 G2 H2 ⟨j',hj,w'⟩ z2 r2; exact ⟨j',hj,G2,ρ2,z.trans (z1.trans z2),r2,w'⟩
  ·intro ρ2 σ2 G2 H2 h z2 r2; exact k.nx ρ2 σ2 G2 H2 h (z.trans (z1.trans z2)) r2
  ·rintro ρ2 σ2 G2 H2 ⟨j',hj,w'⟩ z2 r2; exact ⟨j',hj,G2,ρ2,z.trans (z1.trans z2),r2,w'⟩
  ·intro d ρ2 σ2 v G2 H2 h z2 r2; exact k.rt d ρ2 σ2 v G2 H2 h (z.trans (z1.trans z2)) r2
 | false=>rw [if_neg (by decide)] at hq ⊢; exact k.nx ρ1 σ' G1 H1 hq (z.trans z1) r1
def lI (J:It) (G:Hp) (ds:List D):Prop:=∀ (C:Ctx) (ow:List Bool) (G':Hp) (ρ:DSt) (σ:St) (H:Hp) (pd:List (D×V)) (i:Nat),aM G G'→R C ow G' ρ σ H pd →
 (ds.length≤i→J.stop i H)∧∀ d,ds[i]? = some d→J.go i H∧∀ x H',J.yld i H x H'→∃ G2,aM G' G2∧R C ow G2 ρ σ H' pd∧Rep G2 d x
def SI (ow:List Bool) (wi:TI) (mi:MA):Prop:=∀ (C:Ctx) (G:Hp) (ρ:DSt) (σ:St) (H:Hp) (pd:List (D×V)) (q:List D→DSt→Prop) (Q:It→Hp→Prop),R C ow G ρ σ H pd→mi ρ q →
 (∀ ds ρ' G' H' J,q ds ρ'→aM G G'→Kp ow ρ ρ'→R C ow G' ρ' σ H' pd→lI J G' ds→Q J H')→wi σ H Q
structure QI (X:Cx) (ow:List Bool) (tg iter:Expr) (mi:MA):Prop where
 ex:∃ t,PI X tg iter t∧SI ow t mi
def forD (g:MG) (mb:MS) (n:EndsD) (ds:List D) (ρ:DSt):Prop:=∃ I:Nat→DSt→Prop,I 0 ρ ∧
 (∀ i d ρ,ds[i]? = some d→I i ρ→g d ρ fun ρ1=>mb { n with nx:=I (i + 1),ct:=I (i + 1),bk:=n.nx } ρ1)∧∀ ρ,I ds.length ρ→n.nx ρ
def mFor (mi:MA) (g:MG) (mb:MS):MS:=fun n ρ=>mi ρ fun ds ρ1=>forD g mb n ds ρ1
theorem bF {mi:MA} {tg iter:Expr} {body:List Stmt} (hp:PassesOwn (model X.prog X.w) X.A X.env X.xe) (hc:X.calm=true) (hi:QI X M.ow tg iter mi) (hg:QG X M tg mg) (hb:QSs X M body m)
 (hs:∀ x,foldedSetIterable iter X.env x=pure x:=by intro _; rfl):QS X M (.For tg iter body [] pos) (mFor mi mg m):=by
 obtain ⟨ti,pi,si⟩:=hi; obtain ⟨tg',pg,sg⟩:=hg; obtain ⟨tb,pb,sb⟩:=hb
 refine ⟨_,wJ hp hc pi pg pb hs,fun C G ρ σ H n D hm hn r h k=>si C G ρ σ H [] _ _ r h fun ds ρ0 G0 H0 J hq z0 kp r0 jo=>?_⟩
 obtain ⟨I,i0,turn,fin⟩:=hq
 refine ⟨fun i j σ' H'=>j=ds.length - i∧i≤ds.length∧∃ G' ρ',aM G0 G'∧R C M.ow G' ρ' σ' H' []∧I i ρ',⟨_,rfl,Nat.zero_le _,G0,ρ0,aM.refl _,r0,i0⟩,?_⟩
 rintro i j σ' H' ⟨rfl,hi,G',ρ',z,r',w⟩
 obtain ⟨st,go⟩:=jo C M.ow G' ρ' σ' H' [] i z r'
 by_cases hlt:i<ds.length
 ·obtain ⟨g1,g2⟩:=go ds[i] (List.getElem?_eq_getElem hlt)
  refine .inr ⟨g1,fun σ2 H2=>∃ G2 ρ2,aM G0 G2∧R C M.ow G2 ρ2 σ2 H2 []∧I (i + 1) ρ2,fun σ2 H2 h=>⟨ds.length - (i + 1),by omega,rfl,hlt,h⟩,fun x H1 hy=>?_⟩
  obtain ⟨G1,z1,r1,p1⟩:=g2 x H1 hy
  refine sg C G1 ρ' σ' H1 [] ds[i] x _ _ hm r1 p1 (turn i ds[i] ρ' (List.getElem?_eq_getElem hlt) w) fun ρ2 σ2 h2 r2=>?_
  refine sb C G1 ρ2 σ2 H1 _ _ hm hn r2 h2 ⟨?_,?_,?_,?_⟩
  ·intro ρ3 σ3 G3 H3 h3 z3 r3; exact ⟨G3,ρ3,z.trans (z1.trans z3),r3,h3⟩
  ·intro ρ3 σ3 G3 H3 h3 z3 r3; exact k.nx ρ3 σ3 G3 H3 h3 (z0.trans (z.trans (z1.trans z3))) r3
  ·intro ρ3 σ3 G3 H3 h3 z3 r3; exact ⟨G3,ρ3,z.trans (z1.trans z3),r3,h3⟩
  ·intro d ρ3 σ3 v G3 H3 h3 z3 r3; exact k.rt d ρ3 σ3 v G3 H3 h3 (z0.trans (z.trans (z1.trans z3))) r3
 ·have e:i=ds.length:=by omega
  subst e
  exact .inl ⟨st (Nat.le_refl _),k.nx ρ' σ' G' H' (fin ρ' w) (z0.trans z) r'⟩
end
section
variable {X:Cx} {ow:List Bool} {a b c e tg:Expr} {ma mb mc:ME} {pos:Pos} {mr:MA} {es:List Expr}
theorem uE {K:PySem.W.Frag} {G:Hp} {p:Addr} {xs:List V} {ds:List D} (h1:G p=some (.lst xs)) (h2:Reps G ds xs):lI (Itl K p) G ds:=fun C ow G' ρ σ H pd i z r=>by
 have hp:=r.gh _ _ (z _ _ h1)
 refine ⟨fun hl=>⟨xs,SqL.of hp,by rw [h2.length]; exact hl⟩,fun d e=>?_⟩
 obtain ⟨v,e1,e2⟩:=dX h2 e
 refine ⟨⟨xs,v,SqL.of hp,e1⟩,fun x H' hy=>?_⟩
 obtain ⟨rfl,hy⟩:=hy
 have:=hy xs (SqL.of hp)
 rw [e1] at this; cases this
 exact ⟨G',aM.refl _,r,Rep.mono z _ _ e2⟩
theorem vG {K:PySem.W.Frag} {G:Hp} {p:Addr} {xs:List V} {ds:List D} (h1:G p=some (.tup xs)) (h2:Reps G ds xs):lI (Itt K p) G ds:=fun C ow G' ρ σ H pd i z r=>by
 have hp:=r.gh _ _ (z _ _ h1)
 refine ⟨fun hl=>⟨xs,SqT.of hp,by rw [h2.length]; exact hl⟩,fun d e=>?_⟩
 obtain ⟨v,e1,e2⟩:=dX h2 e
 refine ⟨⟨xs,v,SqT.of hp,e1⟩,fun x H' hy=>?_⟩
 obtain ⟨rfl,hy⟩:=hy
 have:=hy xs (SqT.of hp)
 rw [e1] at this; cases this
 exact ⟨G',aM.refl _,r,Rep.mono z _ _ e2⟩
def miLst (m:ME):MA:=fun ρ q=>m ρ fun d ρ'=>match d with
 | .lst ds=>q ds ρ'
 | _=>False
def miTup (m:ME):MA:=fun ρ q=>m ρ fun d ρ'=>match d with
 | .tup ds=>q ds ρ'
 | _=>False
theorem aX (h:QE X ow e ma):QI X ow tg e (miLst ma):=by
 obtain ⟨t,p,s⟩:=h
 refine ⟨_,sL p,fun C G ρ σ H pd q Q r hm k=>s C G ρ σ H pd _ _ r hm fun d ρ' v G' H' hq z kp r' p=>?_⟩
 cases d with
 | lst ds=>obtain ⟨a,xs,rfl,h1,h2⟩:=a_ p; exact ⟨a,rfl,⟨xs,SqL.of (r'.gh _ _ h1)⟩,k ds ρ' G' H' _ hq z kp r' (uE h1 h2)⟩
 | _=>exact hq.elim
theorem uu (h:QE X ow e ma):QI X ow tg e (miTup ma):=by
 obtain ⟨t,p,s⟩:=h
 refine ⟨_,uV p,fun C G ρ σ H pd q Q r hm k=>s C G ρ σ H pd _ _ r hm fun d ρ' v G' H' hq z kp r' p=>?_⟩
 cases d with
 | tup ds=>obtain ⟨a,xs,rfl,h1,h2⟩:=dl p; exact ⟨a,rfl,⟨xs,SqT.of (r'.gh _ _ h1)⟩,k ds ρ' G' H' _ hq z kp r' (vG h1 h2)⟩
 | _=>exact hq.elim
def j9 (lo:Int) (n:Nat):List D:=(List.range n).map fun (i:Nat)=>.int (lo + i)
theorem e_ {lo:Int} {n i:Nat} {d:D} (h:(j9 lo n)[i]? = some d):i<n∧d = .int (lo + i):=by
 unfold j9 at h
 rw [List.getElem?_map] at h
 by_cases c:i<n
 ·rw [List.getElem?_range c] at h; exact ⟨c,(Option.some.inj h).symm⟩
 ·rw [List.getElem?_eq_none (by simp; omega)] at h; cases h
theorem fG (lo:Int) (n:Nat):(j9 lo n).length=n:=by unfold j9; simp
theorem ou {G:Hp} {lo:Int} {n:Nat}:lI (Itr lo n) G (j9 lo n):=fun C ow G' ρ σ H pd i z r=>by
 refine ⟨fun hl=>by rw [fG] at hl; exact hl,fun d e=>?_⟩
 obtain ⟨h1,rfl⟩:=e_ e
 refine ⟨h1,fun x H' hy=>?_⟩
 obtain ⟨rfl,rfl⟩:=hy
 exact ⟨G',aM.refl _,r,bf _⟩
def miR1 (m:MA):MA:=fun ρ q=>m ρ fun ds ρ'=>match ds with
 | [.int j]=>(-(2 ^ 62)≤j∧j<2 ^ 62)∧q (j9 0 j.toNat) ρ'
 | _=>False
def miR2 (m:MA):MA:=fun ρ q=>m ρ fun ds ρ'=>match ds with
 | [.int i,.int j]=>(-(2 ^ 62)≤i∧i<2 ^ 62∧-(2 ^ 62)≤j∧j<2 ^ 62)∧q (j9 i (j - i).toNat) ρ'
 | _=>False
theorem fe {p:Pos} (hg:Gl X "range") (hm:X.mg "range" = none) (ha:QA X ow [a] mr) (hs:starEach [a] X.env=[(false,eval a X.env)]:=by rfl):QI X ow tg (.Call (.Name "range" p) [a] [] pos) (miR1 mr):=by
 obtain ⟨t,p,s⟩:=ha
 refine ⟨_,nH hg hm p hs,fun C G ρ σ H pd q Q r hm k=>s C G ρ σ H pd _ _ r hm fun ds ρ' vs G' H' hq z kp r' p hn=>?_⟩
 split at hq
 ·obtain ⟨v,rfl,p1⟩:=bj p
  rw [az p1]
  exact ⟨_,rfl,hq.1.1,hq.1.2,k _ ρ' G' H' _ hq.2 z kp r' ou⟩
 ·exact hq.elim
theorem nz {p:Pos} (hg:Gl X "range") (hm:X.mg "range" = none) (ha:QA X ow [a,b] mr) (hs:starEach [a,b] X.env=[(false,eval a X.env),(false,eval b X.env)]:=by rfl) (hs2:starEach [b] X.env=[(false,eval b X.env)]:=by rfl):QI X ow tg (.Call (.Name "range" p) [a,b] [] pos) (miR2 mr):=by
 obtain ⟨t,p,s⟩:=ha
 refine ⟨_,nK hg hm p hs hs2,fun C G ρ σ H pd q Q r hm k=>s C G ρ σ H pd _ _ r hm fun ds ρ' vs G' H' hq z kp r' p hn=>?_⟩
 split at hq
 ·obtain ⟨v,u,rfl,p1,p2⟩:=eM p
  rw [az p1,az p2]
  exact ⟨_,_,rfl,hq.1,k _ ρ' G' H' _ hq.2 z kp r' ou⟩
 ·exact hq.elim
def nT (ds:List D):List D:=ds.mapIdx fun i d=>.tup [.int i,d]
theorem rm (ds:List D):(nT ds).length=ds.length:=by unfold nT; simp
theorem fW {ds:List D} {i:Nat} {d:D} (h:(nT ds)[i]? = some d):∃ d',ds[i]? = some d'∧d = .tup [.int i,d']:=by
 unfold nT at h
 rw [List.getElem?_mapIdx] at h
 cases e:ds[i]? with
 | none=>rw [e] at h; cases h
 | some d'=>rw [e] at h; exact ⟨d',rfl,(Option.some.inj h).symm⟩
theorem u9 {G:Hp} {p:Addr} {xs:List V} {ds:List D} (h1:G p=some (.lst xs)) (h2:Reps G ds xs):lI (Ite p) G (nT ds):=fun C ow G' ρ σ H pd i z r=>by
 have hp:=r.gh _ _ (z _ _ h1)
 refine ⟨fun hl=>⟨xs,hp,by rw [h2.length]; rw [rm] at hl; exact hl⟩,fun d e=>?_⟩
 obtain ⟨d',e0,rfl⟩:=fW e
 obtain ⟨v,e1,e2⟩:=dX h2 e0
 refine ⟨⟨xs,v,hp,e1⟩,fun x H' hy=>?_⟩
 obtain ⟨a,x',ha,rfl,rfl,hy⟩:=hy
 have:=hy xs hp
 rw [e1] at this; cases this
 obtain ⟨O,r⟩:=r
 obtain ⟨r2,s2⟩:=r.new ha (.tup [.int i,v])
 exact ⟨_,s2,⟨O,r2⟩,mW aE (bQ (bf _) (bQ (Rep.mono (z.trans s2) _ _ e2) bN))⟩
def miEnu (m:MA):MA:=fun ρ q=>m ρ fun ds ρ'=>match ds with
 | [.lst ds]=>q (nT ds) ρ'
 | _=>False
theorem gO {k:Nat} {tpos p:Pos} (hg:Gl X "enumerate") (hm:X.mg "enumerate" = none) (ha:QA X ow [a] mr) (hs:starEach [a] X.env=[(false,eval a X.env)]:=by rfl):QI X ow (.Tuple es k tpos) (.Call (.Name "enumerate" p) [a] [] pos) (miEnu mr):=by
 obtain ⟨t,p,s⟩:=ha
 refine ⟨_,sC hg hm p hs,fun C G ρ σ H pd q Q r hm k=>s C G ρ σ H pd _ _ r hm fun ds ρ' vs G' H' hq z kp r' p hn=>?_⟩
 split at hq
 ·obtain ⟨v,rfl,p1⟩:=bj p
  obtain ⟨a,xs,rfl,h1,h2⟩:=a_ p1
  exact ⟨a,rfl,⟨xs,r'.gh _ _ h1⟩,k _ ρ' G' H' _ hq z kp r' (u9 h1 h2)⟩
 ·exact hq.elim
def tU (i:Nat):ME:=fun ρ q=>match ρ[i]? with
 | some (some d)=>q d (ρ.set i none)
 | _=>False
end
inductive AK where
 | s | m (i:Nat) | t
def AK.isM:AK→Bool
 | .s=>false
 | _=>true
def iq (G:Hp) (σ:St):List AK→List D→List V→List (D×V)→Prop
 | [],[],[],[]=>True
 | .s :: ks,d :: ds,v :: vs,T=>Rep G d v∧iq G σ ks ds vs T
 | .m i :: ks,_ :: ds,v :: vs,T=>σ[i]? = some (some v)∧iq G σ ks ds vs T
 | .t :: ks,d :: ds,v :: vs,x :: T=>x=(d,v)∧iq G σ ks ds vs T
 | _,_,_,_=>False
def SAk (ow:List Bool) (ks:List AK) (t:TA) (m:MA):Prop:=∀ (C:Ctx) (G:Hp) (ρ:DSt) (σ:St) (H:Hp) (pd:List (D×V)) (q:List D→DSt→Prop) (Q:List V→Hp→Prop),R C ow G ρ σ H pd→m ρ q →
 (∀ ds ρ' vs T G' H',q ds ρ'→aM G G'→Kp ow ρ ρ'→R C ow G' ρ' σ H' (T.reverse++pd)→iq G' σ ks ds vs T→Q vs H')→t σ H Q
structure QAk (X:Cx) (ow:List Bool) (ks:List AK) (es:List Expr) (m:MA):Prop where
 ex:∃ t,PA X es t∧SAk ow ks t m
section
variable {X:Cx} {ow:List Bool} {a b c e tg:Expr} {ma mb mc:ME} {pos:Pos} {mr:MA} {es:List Expr} {ks:List AK}
theorem ao:QAk X ow [] [] nb:=⟨_,eB,fun C G ρ σ H pd q Q r h k=>k [] ρ [] [] G H h (aM.refl _) Kp.refl r trivial⟩
theorem aj (ha:QE X ow e ma) (hr:QAk X ow ks es mr) (hs:starEach (e :: es) X.env=(false,eval e X.env) :: starEach es X.env:=by rfl):QAk X ow (.s :: ks) (e :: es) (fo ma mr):=by
 obtain ⟨t,p,s⟩:=ha; obtain ⟨t2,p2,s2⟩:=hr
 refine ⟨_,bV p p2 hs,fun C G ρ σ H pd q Q r hm k=>s C G ρ σ H pd _ _ r hm fun d ρ' v G' H' hq z kp r' p=>?_⟩
 exact s2 C G' ρ' σ H' pd _ _ r' hq fun ds ρ2 vs T G2 H2 hq2 z2 kp2 r2 p2=>k (d :: ds) ρ2 (v :: vs) T G2 H2 hq2 (z.trans z2) (kp.trans kp2) r2 ⟨Rep.mono z2 _ _ p,p2⟩
theorem qk_t (ha:QF X ow e ma) (hr:QAk X ow ks es mr) (hs:starEach (e :: es) X.env=(false,eval e X.env) :: starEach es X.env:=by rfl):QAk X ow (.t :: ks) (e :: es) (fo ma mr):=by
 obtain ⟨t,p,s⟩:=ha; obtain ⟨t2,p2,s2⟩:=hr
 refine ⟨_,bV p p2 hs,fun C G ρ σ H pd q Q r hm k=>s C G ρ σ H pd _ _ r hm fun d ρ' v G' H' hq z kp r'=>?_⟩
 exact s2 C G' ρ' σ H' _ _ _ r' hq fun ds ρ2 vs T G2 H2 hq2 z2 kp2 r2 p2=>k (d :: ds) ρ2 (v :: vs) ((d,v) :: T) G2 H2 hq2 (z.trans z2) (kp.trans kp2) (by simpa using r2) ⟨rfl,p2⟩
def oD (i:Nat) (r:MA):MA:=fun ρ q=>match ρ[i]? with
 | some (some _)=>r ρ fun ds ρ2=>q (.non :: ds) ρ2
 | _=>False
theorem eP (i:Nat) {x:Str} (hr:QAk X ow ks es mr) (hN:X.N[i]? = some x:=by rfl) (hv:Vis X.env.scope x:=by first | exact Or.inl rfl | exact Or.inr (Or.inl rfl) | exact Or.inr (Or.inr rfl)) (hd:(x == ("__debug__":Str))=false:=by decide)
 (hcd:(x == ("__classdict__":Str))=false:=by decide) (hs:starEach (.Name x pos :: es) X.env=(false,eval (.Name x pos) X.env) :: starEach es X.env:=by rfl):QAk X ow (.m i :: ks) (.Name x pos :: es) (oD i mr):=by
 obtain ⟨t2,p2,s2⟩:=hr
 refine ⟨_,bV (d5 hN hv hd hcd) p2 hs,fun C G ρ σ H pd q Q r hm k=>?_⟩
 unfold oD at hm
 split at hm
 ·rename_i d e
  obtain ⟨O,ro⟩:=r
  obtain ⟨v,h1,_⟩:=ro.sl i d e
  exact ⟨v,h1,s2 C G ρ σ H pd _ _ ⟨O,ro⟩ hm fun ds ρ2 vs T G2 H2 hq2 z2 kp2 r2 p2=>k (.non :: ds) ρ2 (v :: vs) T G2 H2 hq2 z2 kp2 r2 ⟨h1,p2⟩⟩
 ·exact hm.elim
def dS:List AK→List D→DSt→Option (List D)
 | [],[],_=>some []
 | .s :: ks,d :: ds,ρ=>(dS ks ds ρ).map (d :: ·)
 | .t :: ks,d :: ds,ρ=>(dS ks ds ρ).map (d :: ·)
 | .m i :: ks,_ :: ds,ρ=>match ρ[i]? with
  | some (some d)=>(dS ks ds ρ).map (d :: ·)
  | _=>none
 | _,_,_=>none
def lbs:List AK→Nat→List (Option Nat)
 | [],_=>[]
 | .s :: ks,r=>none :: lbs ks r
 | .m i :: ks,r=>some (2 * i) :: lbs ks r
 | .t :: ks,r=>some (2 * r + 1) :: lbs ks (r + 1)
def aD:List AK→List Nat
 | []=>[]
 | .m i :: ks=>i :: aD ks
 | _ :: ks=>aD ks
def fnd (l:Nat):List (Option Nat)→Nat→Option Nat
 | [],_=>none
 | x :: xs,k=>if x=some l then some k else fnd l xs (k + 1)
theorem p9 {l:Nat}:∀ {xs:List (Option Nat)} {k j:Nat},fnd l xs k=some j→∃ i,j=k + i∧xs[i]? = some (some l)
 | [],_,_,h=>by cases h
 | x :: xs,k,j,h=>by
  unfold fnd at h
  split at h
  ·rename_i c; cases h; exact ⟨0,rfl,by simp [c]⟩
  ·obtain ⟨i,rfl,e⟩:=p9 h; exact ⟨i + 1,by omega,by simpa using e⟩
theorem kN {l:Nat}:∀ {xs:List (Option Nat)} {k:Nat},(∀ i:Nat,xs[i]?≠some (some l))→fnd l xs k=none
 | [],_,_=>rfl
 | x :: xs,k,h=>by
  unfold fnd
  rw [if_neg (fun c=>h 0 (by simp [c]))]
  exact kN fun i=>by simpa using h (i + 1)
theorem qU {l:Nat}:∀ {xs:List (Option Nat)} {k i:Nat},(∀ (i j:Nat) (l:Nat),xs[i]? = some (some l)→xs[j]? = some (some l)→i=j)→xs[i]? = some (some l)→fnd l xs k=some (k + i)
 | [],_,_,_,h=>by simp at h
 | x :: xs,k,i,u,h=>by
  unfold fnd
  by_cases c:x=some l
  ·rw [if_pos c]
   have:=u 0 i l (by simp [c]) h
   subst this; rfl
  ·rw [if_neg c]
   cases i with
   | zero=>simp at h; exact absurd h c
   | succ i =>
    have:=qU (k:=k + 1) (i:=i) (fun i j l a b=>by have:=u (i + 1) (j + 1) l (by simpa using a) (by simpa using b); omega) (by simpa using h)
    rw [this]; congr 1; omega
theorem cX:∀ {ks:List AK} {r:Nat} {i l:Nat},(lbs ks r)[i]? = some (some l)→(∃ j∈aD ks,l=2 * j)∨∃ j,r≤j∧l=2 * j + 1
 | [],_,_,_,h=>by simp [lbs] at h
 | .s :: ks,r,0,l,h=>by simp [lbs] at h
 | .s :: ks,r,i + 1,l,h=>by simp only [lbs,List.getElem?_cons_succ] at h; have:=cX (ks:=ks) h; simpa [aD] using this
 | .m j :: ks,r,0,l,h=>by simp [lbs] at h; exact .inl ⟨j,by simp [aD],h.symm⟩
 | .m j :: ks,r,i + 1,l,h=>by
  simp only [lbs,List.getElem?_cons_succ] at h
  rcases cX h with ⟨z,h1,h2⟩ | h
  ·exact .inl ⟨z,by simp [aD,h1],h2⟩
  ·exact .inr h
 | .t :: ks,r,0,l,h=>by simp [lbs] at h; exact .inr ⟨r,Nat.le_refl _,h.symm⟩
 | .t :: ks,r,i + 1,l,h=>by
  simp only [lbs,List.getElem?_cons_succ] at h
  rcases cX h with ⟨z,h1,h2⟩ | ⟨j,h1,h2⟩
  ·exact .inl ⟨z,by simpa [aD] using h1,h2⟩
  ·exact .inr ⟨j,by omega,h2⟩
theorem fX:∀ {ks:List AK} {r:Nat},(aD ks).Nodup→∀ (i j l:Nat),(lbs ks r)[i]? = some (some l)→(lbs ks r)[j]? = some (some l)→i=j
 | [],_,_,i,j,l,h,_=>by simp [lbs] at h
 | .s :: ks,r,nd,0,j,l,h,_=>by simp [lbs] at h
 | .s :: ks,r,nd,i + 1,0,l,_,h=>by simp [lbs] at h
 | .s :: ks,r,nd,i + 1,j + 1,l,h,h2=>by simp only [lbs,List.getElem?_cons_succ] at h h2; rw [fX (ks:=ks) (by simpa [aD] using nd) i j l h h2]
 | .m a :: ks,r,nd,0,0,l,_,_=>rfl
 | .m a :: ks,r,nd,0,j + 1,l,h,h2=>by
  simp only [lbs,List.getElem?_cons_succ] at h2; simp [lbs] at h
  simp only [aD,List.nodup_cons] at nd
  rcases cX h2 with ⟨z,h3,h4⟩ | ⟨z,h3,h4⟩
  ·exact absurd h3 (by rw [show z=a by omega]; exact nd.1)
  ·omega
 | .m a :: ks,r,nd,i + 1,0,l,h2,h=>by
  simp only [lbs,List.getElem?_cons_succ] at h2; simp [lbs] at h
  simp only [aD,List.nodup_cons] at nd
  rcases cX h2 with ⟨z,h3,h4⟩ | ⟨z,h3,h4⟩
  ·exact absurd h3 (by rw [show z=a by omega]; exact nd.1)
  ·omega
 | .m a :: ks,r,nd,i + 1,j + 1,l,h,h2=>by
  simp only [aD,List.nodup_cons] at nd
  simp only [lbs,List.getElem?_cons_succ] at h h2; rw [fX (ks:=ks) nd.2 i j l h h2]
 | .t :: ks,r,nd,0,0,l,_,_=>rfl
 | .t :: ks,r,nd,0,j + 1,l,h,h2=>by
  simp only [lbs,List.getElem?_cons_succ] at h2; simp [lbs] at h
  rcases cX h2 with ⟨z,h3,h4⟩ | ⟨z,h3,h4⟩ <;> omega
 | .t :: ks,r,nd,i + 1,0,l,h2,h=>by
  simp only [lbs,List.getElem?_cons_succ] at h2; simp [lbs] at h
  rcases cX h2 with ⟨z,h3,h4⟩ | ⟨z,h3,h4⟩ <;> omega
 | .t :: ks,r,nd,i + 1,j + 1,l,h,h2=>by simp only [lbs,List.getElem?_cons_succ] at h h2; rw [fX (ks:=ks) (by simpa [aD] using nd) i j l h h2]
end
theorem fg {G H:Hp} {O:Own}:∀ {T pd:List (D×V)},b9 G H O (T++pd)→b9 G H O pd
 | [],_,h=>h
 | _ :: T,_,h=>fg (T:=T) h.2
theorem jE {G H:Hp} {O:Own}:∀ {T pd:List (D×V)} {j:Nat} {x:D×V},b9 G H O (T.reverse++pd)→T[j]? = some x→Sep G H O (2 * (pd.length + j) + 1) x.1 [] x.2
 | [],_,_,_,_,e=>by simp at e
 | y :: T,pd,j,x,h,e=>by
  have h':b9 G H O (T.reverse++(y :: pd)):=by simpa using h
  cases j with
  | zero=>simp at e; subst e; exact (fg h').1
  | succ j =>
   have:=jE (j:=j) h' (by simpa using e)
   rw [show pd.length + (j + 1)=(y :: pd).length + j by simp; omega]
   exact this
theorem gU {G H:Hp} {O:Own} {σ:St} {ρ:DSt}:∀ {ks:List AK} {ds ds':List D} {vs:List V} {T:List (D×V)} {r:Nat},iq G σ ks ds vs T→dS ks ds ρ=some ds' →
 (∀ (j:Nat) x,T[j]? = some x→Sep G H O (2 * (r + j) + 1) x.1 [] x.2)→(∀ i∈aD ks,∀ d,ρ[i]? = some (some d)→∃ v,σ[i]? = some (some v)∧Sep G H O (2 * i) d [] v) →
 ds'.length=vs.length∧vs.length=ks.length∧∀ (k:Nat) d,ds'[k]? = some d→∃ v,vs[k]? = some v∧((∃ l,(lbs ks r)[k]? = some (some l)∧(ks.map AK.isM)[k]? = some true∧Sep G H O l d [] v)∨((ks.map AK.isM)[k]? = some false∧Rep G d v))
 | [],[],ds',[],[],r,_,hf,_,_=>by simp [dS] at hf; subst hf; exact ⟨rfl,rfl,fun k d e=>by simp at e⟩
 | .s :: ks,d :: ds,ds',v :: vs,T,r,h,hf,hT,hS=>by
  rw [dS] at hf
  cases e:dS ks ds ρ with
  | none=>rw [e] at hf; cases hf
  | some es =>
   rw [e] at hf; cases hf
   obtain ⟨l1,l2,ih⟩:=gU (ks:=ks) h.2 e hT (fun i hi=>hS i (by simpa [aD] using hi))
   refine ⟨by simp [l1],by simp [l2],fun k d' e'=>?_⟩
   cases k with
   | zero=>simp at e'; subst e'; exact ⟨v,rfl,.inr ⟨rfl,h.1⟩⟩
   | succ k=>obtain ⟨u,g1,g2⟩:=ih k d' (by simpa using e'); exact ⟨u,by simpa using g1,by simpa [lbs] using g2⟩
 | .m i :: ks,d :: ds,ds',v :: vs,T,r,h,hf,hT,hS=>by
  rw [dS] at hf
  cases e0 : ρ[i]? with
  | none=>rw [e0] at hf; cases hf
  | some o =>
   cases o with
   | none=>rw [e0] at hf; cases hf
   | some d0 =>
    rw [e0] at hf
    dsimp only at hf
    cases e:dS ks ds ρ with
    | none=>rw [e] at hf; cases hf
    | some es =>
     rw [e] at hf; cases hf
     obtain ⟨l1,l2,ih⟩:=gU (ks:=ks) h.2 e hT (fun i hi=>hS i (by simp [aD,hi]))
     refine ⟨by simp [l1],by simp [l2],fun k d' e'=>?_⟩
     cases k with
     | zero =>
      simp at e'; subst e'
      obtain ⟨u,g1,g2⟩:=hS i (by simp [aD]) d0 e0
      rw [h.1] at g1; cases g1
      exact ⟨v,rfl,.inl ⟨2 * i,by simp [lbs],rfl,g2⟩⟩
     | succ k=>obtain ⟨u,g1,g2⟩:=ih k d' (by simpa using e'); exact ⟨u,by simpa using g1,by simpa [lbs] using g2⟩
 | .t :: ks,d :: ds,ds',v :: vs,x :: T,r,h,hf,hT,hS=>by
  rw [dS] at hf
  cases e:dS ks ds ρ with
  | none=>rw [e] at hf; cases hf
  | some es =>
   rw [e] at hf; cases hf
   obtain ⟨l1,l2,ih⟩:=gU (ks:=ks) (r:=r + 1) h.2 e (fun j x e=>by rw [show r + 1 + j=r + (j + 1) by omega]; exact hT (j + 1) x (by simpa using e)) (fun i hi=>hS i (by simpa [aD] using hi))
   refine ⟨by simp [l1],by simp [l2],fun k d' e'=>?_⟩
   cases k with
   | zero =>
    simp at e'; subst e'
    have:=hT 0 x rfl
    rw [h.1] at this
    exact ⟨v,rfl,.inl ⟨2 * r + 1,by simp [lbs],rfl,this⟩⟩
   | succ k=>obtain ⟨u,g1,g2⟩:=ih k d' (by simpa using e'); exact ⟨u,by simpa using g1,by simpa [lbs] using g2⟩
 | [],_ :: _,_,_,_,_,h,_,_,_=>h.elim
 | [],[],_,_ :: _,_,_,h,_,_,_=>h.elim
 | [],[],_,[],_ :: _,_,h,_,_,_=>h.elim
 | .s :: _,[],_,_,_,_,h,_,_,_=>h.elim
 | .s :: _,_ :: _,_,[],_,_,h,_,_,_=>h.elim
 | .m _ :: _,[],_,_,_,_,h,_,_,_=>h.elim
 | .m _ :: _,_ :: _,_,[],_,_,h,_,_,_=>h.elim
 | .t :: _,[],_,_,_,_,h,_,_,_=>h.elim
 | .t :: _,_ :: _,_,[],_,_,h,_,_,_=>h.elim
 | .t :: _,_ :: _,_,_ :: _,[],_,h,_,_,_=>h.elim
theorem e5 {G:Hp} {σ:St}:∀ {ks:List AK} {ds:List D} {vs:List V} {T:List (D×V)} {k i:Nat},iq G σ ks ds vs T→ks[k]? = some (.m i)→∃ v,vs[k]? = some v∧σ[i]? = some (some v)
 | [],_,_,_,k,i,_,e=>by simp at e
 | .s :: ks,d :: ds,v :: vs,T,0,i,h,e=>by simp at e
 | .s :: ks,d :: ds,v :: vs,T,k + 1,i,h,e=>by obtain ⟨u,g1,g2⟩:=e5 (k:=k) h.2 (by simpa using e); exact ⟨u,by simpa using g1,g2⟩
 | .m j :: ks,d :: ds,v :: vs,T,0,i,h,e=>by simp at e; subst e; exact ⟨v,rfl,h.1⟩
 | .m j :: ks,d :: ds,v :: vs,T,k + 1,i,h,e=>by obtain ⟨u,g1,g2⟩:=e5 (k:=k) h.2 (by simpa using e); exact ⟨u,by simpa using g1,g2⟩
 | .t :: ks,d :: ds,v :: vs,x :: T,0,i,h,e=>by simp at e
 | .t :: ks,d :: ds,v :: vs,x :: T,k + 1,i,h,e=>by obtain ⟨u,g1,g2⟩:=e5 (k:=k) h.2 (by simpa using e); exact ⟨u,by simpa using g1,g2⟩
 | .s :: _,[],_,_,_,_,h,_=>h.elim
 | .s :: _,_ :: _,[],_,_,_,h,_=>h.elim
 | .m _ :: _,[],_,_,_,_,h,_=>h.elim
 | .m _ :: _,_ :: _,[],_,_,_,h,_=>h.elim
 | .t :: _,[],_,_,_,_,h,_=>h.elim
 | .t :: _,_ :: _,[],_,_,_,h,_=>h.elim
 | .t :: _,_ :: _,_ :: _,[],_,_,h,_=>h.elim
def cu:List AK→DSt→DSt→DSt
 | .m i :: ks,x :: ρ2,ρ=>cu ks ρ2 (ρ.set i x)
 | _ :: ks,_ :: ρ2,ρ=>cu ks ρ2 ρ
 | _,_,ρ=>ρ
def iz:List AK→DSt→DSt→DSt
 | .s :: ks,os,ρ=>iz ks os ρ
 | .m i :: ks,o :: os,ρ=>iz ks os (ρ.set i o)
 | .t :: ks,_ :: os,ρ=>iz ks os ρ
 | _,_,ρ=>ρ
theorem gP:∀ {ks:List AK} {ρ2 ρ:DSt},ρ2.length=ks.length→iz ks (mus (ks.map AK.isM) ρ2) ρ=cu ks ρ2 ρ
 | [],[],ρ,_=>rfl
 | .s :: ks,x :: ρ2,ρ,h=>by simp only [List.map,AK.isM,mus,iz,cu]; exact gP (by simpa using h)
 | .m i :: ks,x :: ρ2,ρ,h=>by simp only [List.map,AK.isM,mus,iz,cu]; exact gP (by simpa using h)
 | .t :: ks,x :: ρ2,ρ,h=>by simp only [List.map,AK.isM,mus,iz,cu]; exact gP (by simpa using h)
theorem fL:∀ {ks:List AK} {ρ2 ρ:DSt},(cu ks ρ2 ρ).length=ρ.length
 | [],_,_=>by simp [cu]
 | .s :: ks,[],_=>by simp [cu]
 | .m i :: ks,[],_=>by simp [cu]
 | .t :: ks,[],_=>by simp [cu]
 | .s :: ks,x :: ρ2,ρ=>by simp only [cu]; exact fL
 | .m i :: ks,x :: ρ2,ρ=>by simp only [cu]; rw [fL]; simp
 | .t :: ks,x :: ρ2,ρ=>by simp only [cu]; exact fL
theorem fV:∀ {ks:List AK} {ρ2 ρ:DSt} {i:Nat},i ∉ aD ks→(cu ks ρ2 ρ)[i]? = ρ[i]?
 | [],_,_,_,_=>by simp [cu]
 | .s :: ks,[],_,_,_=>by simp [cu]
 | .m i :: ks,[],_,_,_=>by simp [cu]
 | .t :: ks,[],_,_,_=>by simp [cu]
 | .s :: ks,x :: ρ2,ρ,i,h=>by simp only [cu]; exact fV (by simpa [aD] using h)
 | .t :: ks,x :: ρ2,ρ,i,h=>by simp only [cu]; exact fV (by simpa [aD] using h)
 | .m j :: ks,x :: ρ2,ρ,i,h=>by
  simp only [cu]
  simp only [aD,List.mem_cons,not_or] at h
  rw [fV h.2,List.getElem?_set_ne (Ne.symm h.1)]
theorem f9:∀ {ks:List AK} {ρ2 ρ:DSt} {i:Nat} {d:D},(cu ks ρ2 ρ)[i]? = some (some d)→ρ2.length=ks.length→(i ∉ aD ks∧ρ[i]? = some (some d))∨∃ k:Nat,ks[k]? = some (.m i)∧ρ2[k]? = some (some d)
 | [],[],ρ,i,d,h,_=>.inl ⟨by simp [aD],by simpa [cu] using h⟩
 | .s :: ks,x :: ρ2,ρ,i,d,h,hl=>by
  simp only [cu] at h
  rcases f9 h (by simpa using hl) with ⟨h1,h2⟩ | ⟨k,h1,h2⟩
  ·exact .inl ⟨by simpa [aD] using h1,h2⟩
  ·exact .inr ⟨k + 1,by simpa using h1,by simpa using h2⟩
 | .t :: ks,x :: ρ2,ρ,i,d,h,hl=>by
  simp only [cu] at h
  rcases f9 h (by simpa using hl) with ⟨h1,h2⟩ | ⟨k,h1,h2⟩
  ·exact .inl ⟨by simpa [aD] using h1,h2⟩
  ·exact .inr ⟨k + 1,by simpa using h1,by simpa using h2⟩
 | .m j :: ks,x :: ρ2,ρ,i,d,h,hl=>by
  simp only [cu] at h
  rcases f9 h (by simpa using hl) with ⟨h1,h2⟩ | ⟨k,h1,h2⟩
  ·rcases gz h2 with ⟨rfl,rfl⟩ | ⟨h3,h4⟩
   ·exact .inr ⟨0,rfl,rfl⟩
   ·exact .inl ⟨by simp [aD,h1,h3],h4⟩
  ·exact .inr ⟨k + 1,by simpa using h1,by simpa using h2⟩
theorem mR:∀ {ks:List AK} {r k i:Nat},ks[k]? = some (.m i)→(lbs ks r)[k]? = some (some (2 * i))
 | [],_,_,_,e=>by simp at e
 | .s :: ks,r,0,i,e=>by simp at e
 | .s :: ks,r,k + 1,i,e=>by simp only [lbs,List.getElem?_cons_succ]; exact mR (by simpa using e)
 | .m j :: ks,r,0,i,e=>by simp at e; subst e; simp [lbs]
 | .m j :: ks,r,k + 1,i,e=>by simp only [lbs,List.getElem?_cons_succ]; exact mR (by simpa using e)
 | .t :: ks,r,0,i,e=>by simp at e
 | .t :: ks,r,k + 1,i,e=>by simp only [lbs,List.getElem?_cons_succ]; exact mR (by simpa using e)
theorem fZ:∀ {ks:List AK} {r k l:Nat},(lbs ks r)[k]? = some (some l)→(ks.map AK.isM)[k]? = some true
 | [],_,_,_,e=>by simp [lbs] at e
 | .s :: ks,r,0,i,e=>by simp [lbs] at e
 | .s :: ks,r,k + 1,i,e=>by simp only [lbs,List.getElem?_cons_succ] at e; simp only [List.map,List.getElem?_cons_succ]; exact fZ e
 | .m j :: ks,r,0,i,e=>rfl
 | .m j :: ks,r,k + 1,i,e=>by simp only [lbs,List.getElem?_cons_succ] at e; simp only [List.map,List.getElem?_cons_succ]; exact fZ e
 | .t :: ks,r,0,i,e=>rfl
 | .t :: ks,r,k + 1,i,e=>by simp only [lbs,List.getElem?_cons_succ] at e; simp only [List.map,List.getElem?_cons_succ]; exact fZ e
theorem tu {ks:List AK} {k i:Nat} (h:ks[k]? = some (.m i)):i∈aD ks:=by
 induction ks generalizing k with
 | nil=>simp at h
 | cons x ks ih =>
  cases k with
  | zero=>simp at h; subst h; simp [aD]
  | succ k=>have:=ih (by simpa using h); cases x <;> simp [aD,this]
theorem kR {C:Ctx} {ow:List Bool} {G:Hp} {ρ:DSt} {σ:St} {H:Hp} {pd T:List (D×V)} {ks:List AK} {ds ds':List D} {vs:List V} {fr:Bool} {sd:SpD} {q:D→DSt→Prop} {Q:VK} {E:XK}
 (hn:C.np≤pd.length) (r:R C ow G ρ σ H (T.reverse++pd)) (ha:iq G σ ks ds vs T) (hf:dS ks ds ρ=some ds') (nd:(aD ks).Nodup) (hw:∀ i∈aD ks,ow[i]? = some true)
 (h:sd ds' fun d os=>q d (iz ks os ρ))
 (k:∀ d ρ' v G' H',q d ρ'→aM G G'→Kp ow ρ ρ'→(if fr=true then R C ow G' ρ' σ H' ((d,v) :: pd) else R C ow G' ρ' σ H' pd∧Rep G' d v)→Q v H'):aY (ks.map AK.isM) fr sd vs H Q E:=by
 obtain ⟨O,ro⟩:=r
 have pn:=ro.pn
 obtain ⟨l1,l2,hat⟩:=gU (O:=O) (H:=H) (r:=pd.length) ha hf (fun j x e=>jE pn e) (fun i hi d e=>by
  obtain ⟨v,h1,h2⟩:=ro.sl i d e; rw [if_pos (hw i hi)] at h2; exact ⟨v,h1,h2⟩)
 let lb:=lbs ks pd.length
 let fin:Nat→Option Nat:=fun l=>(fnd l lb 0).map (2 * ·)
 let fbk:Nat→Option Nat:=fun l=>if l=1 then some (2 * pd.length + 1) else if l % 2=0 then (match lb[l / 2]? with | some o=>o | none=>none) else none
 have uq:=fX (ks:=ks) (r:=pd.length) nd
 have fin_at:∀ (i l:Nat),lb[i]? = some (some l)→fin l=some (2 * i):=fun i l e=>by
  show (fnd l lb 0).map _=_
  rw [qU uq e]; simp
 have fin_of:∀ l l',fin l=some l'→∃ i,l'=2 * i∧lb[i]? = some (some l):=fun l l' e=>by
  change (fnd l lb 0).map _=_ at e
  cases z:fnd l lb 0 with
  | none=>rw [z] at e; cases e
  | some j=>rw [z] at e; cases e; obtain ⟨i,rfl,e2⟩:=p9 z; exact ⟨i,by show 2 * (0 + i)=2 * i; omega,e2⟩
 have fin_none:∀ l,(∀ i:Nat,lb[i]?≠some (some l))→fin l=none:=fun l e=>by
  show (fnd l lb 0).map _=_
  rw [kN e]; rfl
 have ri:=ro.into (mu:=ks.map AK.isM) (fin:=fin) (ds:=ds') (vs:=vs) l1 (fun j d e=>by
  obtain ⟨v,h1,h2⟩:=hat j d e
  refine ⟨v,h1,?_⟩
  rcases h2 with ⟨l,h2,h3,h4⟩ | ⟨h2,h3⟩
  ·rw [if_pos h3]; exact ⟨l,h4,fin_at j l h2⟩
  ·rw [if_neg (by rw [h2]; decide)]; exact h3) (fun l l' e=>by
  obtain ⟨i,rfl,e2⟩:=fin_of l l' e
  exact ⟨i,rfl,fZ e2,by have:=(List.getElem?_eq_some_iff.mp (fZ e2)).1; rw [List.length_map] at this; omega⟩)
 refine ⟨_,G,ds',fun d os=>q d (iz ks os ρ),rfl,rfl,⟨_,ri⟩,h,by rw [List.length_map,l1,l2],?_⟩
 intro d ρ2 σ2 v G2 H2 hq z hl hr
 rw [List.length_map] at hl
 rw [gP hl] at hq
 have out:∀ (pd2 pd3:List (D×V)) (O2:Own),RO ⟨G,H,cU fin O,msV (ks.map AK.isM) vs,0⟩ (ks.map AK.isM) G2 ρ2 σ2 H2 pd2 O2→C.np≤pd3.length →
  (∀ (O3:Own),(∀ a l π,O a=some (l,π)→fin l=none→O3 a=some (l,π)∧H2 a=H a)→(∀ a l l' π,O2 a=some (l',π)→fbk l'=some l→O3 a=some (l,π))→cT G G2→b9 G2 H2 O3 pd3) →
  RO C ow G2 (cu ks ρ2 ρ) σ H2 pd3 (p_ fin fbk O O2):=fun pd2 pd3 O2 r2 hn3 hP=>by
  refine ro.out (vs:=vs) r2 ?_ (by rw [fL]; exact ro.len) hn3 ?_ ?_ hP
  ·intro l0 l' l e1 e2
   obtain ⟨i,rfl,e3⟩:=fin_of l0 l' e1
   change (if 2 * i=1 then _ else if 2 * i % 2=0 then _ else _)=_ at e2
   rw [if_neg (by omega),if_pos (by omega),show 2 * i / 2=i by omega,e3] at e2
   exact (Option.some.inj e2).symm
  ·intro i d c e
   rcases f9 e hl with ⟨_,h2⟩ | ⟨k,h1,_⟩
   ·exact h2
   ·exact absurd (hw i (tu h1)) c
  ·intro i d c e
   rcases f9 e hl with ⟨h1,h2⟩ | ⟨j,h1,h2⟩
   ·refine .inl ⟨fin_none _ fun j e=>?_,h2⟩
    rcases cX e with ⟨z,h3,h4⟩ | ⟨z,h3,h4⟩
    ·exact h1 (by rw [show i=z by omega]; exact h3)
    ·omega
   ·obtain ⟨u,g1,g2⟩:=e5 ha h1
    have im:(ks.map AK.isM)[j]? = some true:=by rw [List.getElem?_map,h1]; rfl
    refine .inr ⟨j,u,?_,im,h2,g2,r2.mp j u (lg im g1)⟩
    show (if 2 * j=1 then _ else if 2 * j % 2=0 then _ else _)=_
    rw [if_neg (by omega),if_pos (by omega),show 2 * j / 2=j by omega,mR h1]
 have pdk:∀ (O3:Own),(∀ a l π,O a=some (l,π)→fin l=none→O3 a=some (l,π)∧H2 a=H a)→cT G G2→b9 G2 H2 O3 pd:=fun O3 h1 ts =>
  b9.keep ts (fun a j π hj e=>h1 a _ _ e (fin_none _ fun i e=>by
   rcases cX e with ⟨z,h3,h4⟩ | ⟨z,h3,h4⟩ <;> omega)) (fg (T:=T.reverse) pn)
 have kp:Kp ow ρ (cu ks ρ2 ρ):=fun j hj=>fV fun hs=>hj (hw j hs)
 refine k d (cu ks ρ2 ρ) v G2 H2 hq z kp ?_
 unfold Ret at hr
 split at hr
 ·rename_i c
  rw [if_pos c]
  obtain ⟨O2,r2⟩:=hr
  refine ⟨_,out _ ((d,v) :: pd) O2 r2 (Nat.le_succ_of_le hn) fun O3 h1 h2 ts=>⟨?_,pdk O3 h1 ts⟩⟩
  exact r2.pn.1.keep (fun _ _ z=>z) fun a τ e=>⟨h2 a _ _ _ e (by show (if 2 * 0 + 1=1 then _ else _)=_; rw [if_pos rfl]),rfl⟩
 ·rename_i c
  rw [if_neg c]
  obtain ⟨⟨O2,r2⟩,p⟩:=hr
  exact ⟨⟨_,out _ pd O2 r2 hn fun O3 h1 h2 ts=>pdk O3 h1 ts⟩,p⟩
section
variable {X:Cx} {ow:List Bool} {a b c e tg:Expr} {ma mb mc:ME} {pos p':Pos} {mr:MA} {es:List Expr} {ks:List AK} {x:Str}
def mE (ks:List AK) (sd:SpD) (m:MA):ME:=fun ρ q=>m ρ fun ds ρ1=>match dS ks ds ρ1 with
 | some ds'=>sd ds' fun d os=>q d (iz ks os ρ1)
 | none=>False
theorem sZ {k:Nat} {f:Addr} {fd:FuncData} {ps:List Str} {mu:List Bool} {sd:SpD} (F:FnOk X.prog X.w X.K X.mg X.base CX0 k f fd ps (aY mu false sd)) (hr:Room k X.A) (hg:Gl X x) (hm:X.mg x=some (.ref f)) (hk:PySem.W.keepIn X.K (.ref f)=true) (hb:gH X.K fd ps [])
 (ha:QAk X ow ks (e :: es) mr) (hmu:mu=ks.map AK.isM:=by rfl) (nd:(aD ks).Nodup:=by decide) (hw:∀ i∈aD ks,ow[i]? = some true:=by decide) (hdb:(x == ("__debug__":Str))=false:=by decide)
 (he:starEach (e :: es) X.env=(false,eval e X.env) :: starEach es X.env:=by rfl) (hpl:(backTo pos (starEach es X.env)).any (·.1)=false:=by rfl):QE X ow (.Call (.Name x p') (e :: es) [] pos) (mE ks sd mr):=by
 obtain ⟨t,p,s⟩:=ha
 subst hmu
 refine ⟨_,mK F hr hg hm hk hb .nil tS p hdb he hpl,fun C G ρ σ H pd q Q r hm k=>s C G ρ σ H pd _ _ r hm fun ds ρ' vs T G' H' hq z kp r' p=>?_⟩
 rw [List.append_nil]
 split at hq
 ·rename_i ds' ef
  exact kR (fr:=false) r.np r' p ef nd hw hq fun d ρ2 v G2 H2 hq2 z2 kp2 h2=>by
   rw [if_neg (by decide)] at h2
   exact k d ρ2 v G2 H2 hq2 (z.trans z2) (kp.trans kp2) h2.1 h2.2
 ·exact hq.elim
theorem rH {k:Nat} {f:Addr} {fd:FuncData} {ps:List Str} {mu:List Bool} {sd:SpD} (F:FnOk X.prog X.w X.K X.mg X.base CX0 k f fd ps (aY mu true sd)) (hr:Room k X.A) (hg:Gl X x) (hm:X.mg x=some (.ref f)) (hk:PySem.W.keepIn X.K (.ref f)=true) (hb:gH X.K fd ps [])
 (ha:QAk X ow ks (e :: es) mr) (hmu:mu=ks.map AK.isM:=by rfl) (nd:(aD ks).Nodup:=by decide) (hw:∀ i∈aD ks,ow[i]? = some true:=by decide) (hdb:(x == ("__debug__":Str))=false:=by decide)
 (he:starEach (e :: es) X.env=(false,eval e X.env) :: starEach es X.env:=by rfl) (hpl:(backTo pos (starEach es X.env)).any (·.1)=false:=by rfl):QF X ow (.Call (.Name x p') (e :: es) [] pos) (mE ks sd mr):=by
 obtain ⟨t,p,s⟩:=ha
 subst hmu
 refine ⟨_,mK F hr hg hm hk hb .nil tS p hdb he hpl,fun C G ρ σ H pd q Q r hm k=>s C G ρ σ H pd _ _ r hm fun ds ρ' vs T G' H' hq z kp r' p=>?_⟩
 rw [List.append_nil]
 split at hq
 ·rename_i ds' ef
  exact kR (fr:=true) r.np r' p ef nd hw hq fun d ρ2 v G2 H2 hq2 z2 kp2 h2=>by
   rw [if_pos rfl] at h2
   exact k d ρ2 v G2 H2 hq2 (z.trans z2) (kp.trans kp2) h2
 ·exact hq.elim
end
theorem RO.grow {C:Ctx} {mu ow:List Bool} {G:Hp} {ds:List D} {vs:List V} {H:Hp} {O:Own} (n:Nat) (h:RO C mu G (ds.map some) (vs.map some) H [] O) (ho:∀ i:Nat,i<ds.length→ow[i]? = mu[i]?) :
 RO C ow G (ds.map some++List.replicate n none) (vs.map some++List.replicate n none) H [] O:=by
 have hl:ds.length=vs.length:=by simpa using h.len
 have up:∀ {α:Type} {l:List α} {i:Nat} {d : α},(l.map some++List.replicate n none)[i]? = some (some d)→i<l.length∧(l.map some)[i]? = some (some d):=fun {α l i d} e=>by
  by_cases c:i<l.length
  ·rw [List.getElem?_append_left (by simpa using c)] at e; exact ⟨c,e⟩
  ·rw [List.getElem?_append_right (by simpa using c)] at e
   rw [List.getElem?_replicate] at e
   split at e <;> cases e
 refine ⟨by simp [hl],h.gh,h.g0,h.gn,h.og,h.cok,h.fr,h.ft,h.al,?_,?_,h.pn,h.np⟩
 ·intro i v e
  have:=h.mp i v e
  rw [List.getElem?_append_left (d_ this)]; exact this
 ·intro i d e
  obtain ⟨c,e1⟩:=up e
  obtain ⟨v,h1,h2⟩:=h.sl i d e1
  exact ⟨v,by rw [List.getElem?_append_left (d_ h1)]; exact h1,by rw [ho i c]; exact h2⟩
theorem RO.trim {C:Ctx} {mu ow:List Bool} {G:Hp} {ρ:DSt} {σ:St} {H:Hp} {pd:List (D×V)} {O:Own} (h:RO C ow G ρ σ H pd O) (hm:gY C mu) (ho:∀ i:Nat,i<mu.length→ow[i]? = mu[i]?) :
 RO C mu G (cA mu.length ρ) (cA mu.length σ) H pd O:=by
 refine ⟨by rw [cM,cM],h.gh,h.g0,h.gn,h.og,h.cok,h.fr,h.ft,h.al,?_,?_,h.pn,h.np⟩
 ·intro i v e
  exact ji (lt_of_slot' (hm i v e)) (h.mp i v e)
 ·intro i d e
  obtain ⟨c,e1⟩:=jd e
  obtain ⟨v,h1,h2⟩:=h.sl i d e1
  exact ⟨v,ji c h1,by rw [← ho i c]; exact h2⟩
where
 lt_of_slot' {l:List Bool} {i:Nat} {x:Bool} (h:l[i]? = some x):i<l.length:=(List.getElem?_eq_some_iff.mp h).1
def jt (mu:List Bool) (q:D→DSt→Prop):EndsD:=⟨fun ρ=>q .non (mus mu ρ),fun d ρ=>q d (mus mu ρ),fun _=>False,fun _=>False⟩
theorem fnD {P:Program} {w:World} {K:PySem.W.Frag} {mg:Str→Option Value} {base:Heap} {x qual:Str} {st:Stmt} {f:Addr} {fd:FuncData} {N ps:List Str} {k:Nat} (F:Fun K x qual st f fd) (S:FnScope N ps (ai st)) (M:Md) (sd:SpD)
 (hl:∀ ds q,sd ds q→ds.length=ps.length) (ho:M.ow.take ps.length=M.mu) (hml:M.mu.length=ps.length)
 (hbody:∀ (cdv:Value) (A:Around) (outer:List Env) (s:Shared) (H:Hp) (E:XK),Room k (A.deeper (envOfC qual (ai st) s.heap.objs.size f cdv)) →
  ∃ m,QSs (jM CX0 P w K mg base N qual (ai st) f cdv A outer s H E).nox M (cz st) m∧∀ ds q,sd ds q→m (jt M.mu q) (ds.map some++List.replicate (N.length - ps.length) none)) :
 FnOk P w K mg base CX0 (k + 1) f fd ps (aY M.mu M.fr sd):=by
 have hov:∀ i:Nat,i<M.mu.length→M.ow[i]? = M.mu[i]?:=fun i hi=>by rw [← ho,List.getElem?_take_of_lt (by omega)]
 have hlen:∀ vs H Q E,aY M.mu M.fr sd vs H Q E→vs.length=ps.length:=fun vs H Q E ⟨C,G,ds,q,_,_,⟨O,ro⟩,h1,_,_⟩=>by
  have:=ro.len; simp at this; rw [← this]; exact hl ds q h1
 refine F.ok S hlen fun cdv A outer s H vs Q E hr hsp=>?_
 obtain ⟨m,⟨t,p,ss⟩,hm⟩:=hbody cdv A outer s H E hr
 have hvl:=hlen vs H Q E hsp
 obtain ⟨C,G,ds,q,hnp,hmu,⟨O,ro⟩,hsd,hml2,kk⟩:=hsp
 refine ⟨t,p,?_⟩
 have hmo:gY C M.mu:=fun i v e=>by rw [hmu] at e; exact (jp e).1
 have r0:R C M.ow G (ds.map some++List.replicate (N.length - ps.length) none) (dU N vs) H []:=by
  unfold dU; rw [hvl]
  exact ⟨O,ro.grow _ fun i hi=>hov i (by omega)⟩
 refine ss C G _ _ H (jt M.mu q) _ hmo hnp r0 (hm ds q hsd) ⟨?_,fun _ _ _ _ h=>h.elim,fun _ _ _ _ h=>h.elim,?_⟩
 ·intro ρ σ G' H' h z ⟨O',r'⟩
  refine kk .non (cA M.mu.length ρ) (cA M.mu.length σ) .non G' H' (by rw [cO]; exact h) z (cM _ _) (R.non ⟨O',r'.trim hmo hov⟩)
 ·intro d ρ σ v G' H' h z hr'
  refine kk d (cA M.mu.length ρ) (cA M.mu.length σ) v G' H' (by rw [cO]; exact h) z (cM _ _) ?_
  unfold Ret at hr' ⊢
  split at hr'
  ·rename_i c; rw [if_pos c]; obtain ⟨O',r'⟩:=hr'; exact ⟨O',r'.trim hmo hov⟩
  ·rename_i c; rw [if_neg c]; obtain ⟨⟨O',r'⟩,p⟩:=hr'; exact ⟨⟨O',r'.trim hmo hov⟩,p⟩
theorem Seps.mk {G H:Hp} {O:Own} {i:Nat}:∀ {T:List (D×V)} {k:Nat} {π:List Nat},(∀ (j:Nat) x,T[j]? = some x→Sep G H O i x.1 ((k + j) :: π) x.2)→Seps G H O i (T.map (·.1)) k π (T.map (·.2))
 | [],_,_,_=>by simp; rw [Seps]
 | x :: T,k,π,h=>by
  simp only [List.map]; rw [Seps]
  exact ⟨x.2,_,rfl,by simpa using h 0 x rfl,Seps.mk fun j y e=>by rw [show k + 1 + j=k + (j + 1) by omega]; exact h (j + 1) y (by simpa using e)⟩
section
variable {C:Ctx} {ow:List Bool} {G:Hp} {ρ:DSt} {σ:St} {H:Hp} {pd T:List (D×V)} {O:Own}
theorem RO.gather (h:RO C ow G ρ σ H (T.reverse++pd) O) (hn:C.np≤pd.length):∃ O',RO C ow G ρ σ H pd O'∧Seps G H O' (2 * pd.length + 1) (T.map (·.1)) 0 [] (T.map (·.2)):=by
 refine ⟨lab (fun l π=>if l % 2=1∧pd.length≤l / 2 then (2 * pd.length + 1,π++[l / 2 - pd.length]) else (l,π)) O,⟨h.len,h.gh,h.g0,h.gn,?_,h.cok,h.fr,h.ft,h.al,h.mp,?_,?_,hn⟩,?_⟩
 ·intro a m e
  obtain ⟨l,π,e1,rfl⟩:=gy e
  obtain ⟨q1,q2,q3⟩:=h.og a _ e1
  refine ⟨q1,q2,?_⟩
  split
  ·rename_i z
   rcases q3 with q3 | ⟨_,q3⟩
   ·exact .inl q3
   ·rcases h.cok _ _ _ q3 with ⟨k,_,q4,_⟩ | ⟨k,q4,q5⟩
    ·omega
    ·omega
  ·exact q3
 ·intro j e q
  obtain ⟨u,h1,h2⟩:=h.sl j e q
  refine ⟨u,h1,?_⟩
  split at h2
  ·rename_i c; rw [if_pos c]; exact h2.keep (fun _ _ z=>z) fun a τ q=>⟨by rw [bE q,if_neg (by omega)],rfl⟩
  ·rename_i c; rw [if_neg c]; exact h2
 ·exact b9.keep (fun _ _ z=>z) (fun a j π hj q=>⟨by rw [bE q,if_neg (by omega)],rfl⟩) (fg (T:=T.reverse) h.pn)
 ·refine Seps.mk fun j x e=>?_
  have:=jE h.pn e
  refine Sep.map (f:=fun π=>π++[0 + j]) (fun _ _ z=>z) (fun _ _=>rfl) x.1 [] x.2 (fun a τ q=>⟨?_,rfl⟩) this
  rw [bE q,if_pos (by omega)]
  rw [show (2 * (pd.length + j) + 1) / 2 - pd.length=0 + j by omega]
theorem RO.newT (h:RO C ow G ρ σ H pd O) {p:Addr} (hp:H p=none) {ds:List D} {vs:List V} (hs:Seps G H O (2 * pd.length + 1) ds 0 [] vs):R C ow (upd G p (.tup vs)) ρ σ (upd H p (.tup vs)) ((.tup ds,.ref p) :: pd)∧aM G (upd G p (.tup vs)):=by
 obtain ⟨r,z⟩:=h.new hp (.tup vs)
 refine ⟨⟨O,r.len,r.gh,r.g0,r.gn,r.og,r.cok,r.fr,r.ft,r.al,r.mp,r.sl,⟨?_,r.pn⟩,Nat.le_succ_of_le r.np⟩,z⟩
 rw [Sep]
 exact ⟨p,vs,rfl,aE,hs.keep z.ts fun a τ _ q=>⟨q,av (fun e=>by obtain ⟨_,⟨xs,w⟩,_⟩:=h.og a _ q; rw [e,hp] at w; cases w)⟩⟩
theorem RO.newS (h:RO C ow G ρ σ H pd O) {p:Addr} (hp:H p=none) {ds:List D} {vs:List V} (hs:Seps G H O (2 * pd.length + 1) ds 0 [] vs):R C ow G ρ σ (upd H p (.lst vs)) ((.lst ds,.ref p) :: pd):=by
 have gp:G p=none:=by
  cases e:G p with
  | none=>rfl
  | some z=>rw [h.gh _ _ e] at hp; cases hp
 have ne:∀ a l,O a=some l→a≠p:=fun a l e z=>by
  obtain ⟨_,⟨xs,q⟩,_⟩:=h.og a l e
  rw [z,hp] at q; cases q
 let O':Own:=fun a=>if a=p then some (2 * pd.length + 1,[]) else O a
 have old:∀ a l,O a=some l→O' a=some l:=fun a l e=>by
  show (if a=p then _ else _)=_
  rw [if_neg (ne a _ e),e]
 refine ⟨O',h.len,?_,h.g0,h.gn,?_,h.cok,?_,?_,?_,h.mp,?_,⟨?_,?_⟩,Nat.le_succ_of_le h.np⟩
 ·intro a u e
  rw [av (fun z=>by rw [z,gp] at e; cases e)]
  exact h.gh _ _ e
 ·intro a l e
  by_cases z:a=p
  ·subst z; exact ⟨gp,⟨.inl vs,aE⟩,.inl (h.al _ hp)⟩
  ·rw [av z]
   change (if a=p then _ else _)=_ at e
   rw [if_neg z] at e
   exact h.og a _ e
 ·intro a u e n t
  rw [av (aF (h.fr a u e n t) hp)]
  exact h.fr a u e n t
 ·intro a ps q e
  by_cases z:a=p
  ·subst z; rw [aE] at e; cases e
  ·rw [av z] at e; exact h.ft a ps q e
 ·intro a e
  by_cases z:a=p
  ·subst z; rw [aE] at e; cases e
  ·rw [av z] at e; exact h.al a e
 ·intro i d e
  obtain ⟨v,h1,h2⟩:=h.sl i d e
  refine ⟨v,h1,?_⟩
  split at h2
  ·rename_i c; rw [if_pos c]; exact h2.keep (fun _ _ z=>z) fun a τ q=>⟨old a _ q,av (ne a _ q)⟩
  ·rename_i c; rw [if_neg c]; exact h2
 ·rw [Sep]
  exact ⟨p,vs,rfl,by show (if p=p then _ else _)=_; rw [if_pos rfl],aE,hs.keep (fun _ _ z=>z) fun a τ _ q=>⟨old a _ q,av (ne a _ q)⟩⟩
 ·exact b9.keep (fun _ _ z=>z) (fun a j π hj q=>⟨old a _ q,av (ne a _ q)⟩) h.pn
end
def SFm (M:Md) (t:TE) (m:ME):Prop:=∀ (C:Ctx) (G:Hp) (ρ:DSt) (σ:St) (H:Hp) (pd:List (D×V)) (q:D→DSt→Prop) (Q:VK),gY C M.mu→R C M.ow G ρ σ H pd→m ρ q →
 (∀ d ρ' v G' H',q d ρ'→aM G G'→R C M.ow G' ρ' σ H' ((d,v) :: pd)→Q v H')→t σ H Q
structure QM (X:Cx) (M:Md) (e:Expr) (m:ME):Prop where
 ex:∃ t,PE X e t∧SFm M t m
def SAm (M:Md) (n:Nat) (t:TA) (m:MA):Prop:=∀ (C:Ctx) (G:Hp) (ρ:DSt) (σ:St) (H:Hp) (pd:List (D×V)) (q:List D→DSt→Prop) (Q:List V→Hp→Prop),gY C M.mu→R C M.ow G ρ σ H pd→m ρ q →
 (∀ (T:List (D×V)) ρ' G' H',q (T.map (·.1)) ρ'→aM G G'→R C M.ow G' ρ' σ H' (T.reverse++pd)→T.length=n→Q (T.map (·.2)) H')→t σ H Q
structure QMs (X:Cx) (M:Md) (es:List Expr) (m:MA):Prop where
 ex:∃ t,PA X es t∧SAm M es.length t m
section
variable {X:Cx} {M:Md} {a b c e:Expr} {ma mb mc:ME} {pos pos':Pos} {mr:MA} {es:List Expr}
theorem QF.qm (h:QF X M.ow e ma):QM X M e ma:=by
 obtain ⟨t,p,s⟩:=h
 exact ⟨_,p,fun C G ρ σ H pd q Q hm r h k=>s C G ρ σ H pd q Q r h fun d ρ' v G' H' hq z kp r'=>k d ρ' v G' H' hq z r'⟩
theorem cf (i:Nat) {x:Str} (ho:M.ow[i]? = some true:=by decide) (hu:M.mu[i]?≠some true:=by decide) (hN:X.N[i]? = some x:=by rfl) (hv:Vis X.env.scope x:=by first | exact Or.inl rfl | exact Or.inr (Or.inl rfl) | exact Or.inr (Or.inr rfl)) (hd:(x == ("__debug__":Str))=false:=by decide)
 (hcd:(x == ("__classdict__":Str))=false:=by decide):QM X M (.Name x pos) (tU i):=⟨_,d5 hN hv hd hcd,fun C G ρ σ H pd q Q hm r h k=>by
 unfold tU at h
 split at h
 ·rename_i d e
  obtain ⟨O,ro⟩:=r
  obtain ⟨v,h1,h2⟩:=ro.move e ho (hm.no hu)
  exact ⟨v,h1,k d _ v G H h (aM.refl _) h2⟩
 ·exact h.elim⟩
theorem e7:QMs X M [] nb:=⟨_,eB,fun C G ρ σ H pd q Q hm r h k=>k [] ρ G H h (aM.refl _) r rfl⟩
theorem br (ha:QM X M e ma) (hr:QMs X M es mr) (hs:starEach (e :: es) X.env=(false,eval e X.env) :: starEach es X.env:=by rfl):QMs X M (e :: es) (fo ma mr):=by
 obtain ⟨t,p,s⟩:=ha; obtain ⟨t2,p2,s2⟩:=hr
 refine ⟨_,bV p p2 hs,fun C G ρ σ H pd q Q hm r h k=>s C G ρ σ H pd _ _ hm r h fun d ρ' v G' H' hq z r'=>?_⟩
 exact s2 C G' ρ' σ H' _ _ _ hm r' hq fun T ρ2 G2 H2 hq2 z2 r2 hn=>k ((d,v) :: T) ρ2 G2 H2 hq2 (z.trans z2) (by simpa using r2) (by simp [hn])
theorem ig {x1} (h:QMs X M es mr) (hl:es.length≤1000:=by decide):QM X M (.Tuple es x1 pos) (mTup mr):=by
 obtain ⟨t,p,s⟩:=h
 refine ⟨_,o_ p,fun C G ρ σ H pd q Q hm r h k=>s C G ρ σ H pd _ _ hm r h fun T ρ' G' H' hq z r' hn=>⟨du (by simp; omega),fun a ha=>?_⟩⟩
 obtain ⟨O,r'⟩:=r'
 obtain ⟨O2,r2,s2⟩:=r'.gather r.np
 obtain ⟨r3,z3⟩:=r2.newT ha s2
 exact k _ ρ' _ _ _ hq (z.trans z3) r3
theorem pf (h:QMs X M es mr) (hl:es.length≤1000:=by decide):QM X M (.List es pos) (mLst mr):=by
 obtain ⟨t,p,s⟩:=h
 refine ⟨_,ln p,fun C G ρ σ H pd q Q hm r h k=>s C G ρ σ H pd _ _ hm r h fun T ρ' G' H' hq z r' hn=>⟨du (by simp; omega),fun a ha=>?_⟩⟩
 obtain ⟨O,r'⟩:=r'
 obtain ⟨O2,r2,s2⟩:=r'.gather r.np
 exact k _ ρ' _ _ _ hq z (r2.newS ha s2)
theorem bn (h:QM X M e ma) (hf:M.fr=true:=by rfl):QS X M (.Return (some e) pos) (mRet ma):=by
 obtain ⟨t,p,s⟩:=h
 refine ⟨_,qP p,fun C G ρ σ H n D hm hn r h k=>s C G ρ σ H [] _ _ hm r h fun d ρ' v G' H' hq z r'=>k.rt d ρ' σ v G' H' hq z (by unfold Ret; rw [if_pos hf]; exact r')⟩
theorem sf {i:Nat} {x:Str} (hN:X.N.Nodup) (hi:X.N[i]? = some x) (hx:Loc X.env.scope x) (he:QM X M e ma) (ho:M.ow[i]? = some true:=by decide) (hu:M.mu[i]?≠some true:=by decide) (hs:swapsWith e (some (.Name x pos')) pos.line X.env=pure false:=by rfl) (hf:X.fn x=true∨X.env.scope.names.lookup x=some .local:=by first | exact .inl rfl | exact .inr rfl | assumption) :
 QS X M (.Assign [.Name x pos'] e pos) (ly i ma):=by
 obtain ⟨t,p,s⟩:=he
 refine ⟨_,lR hN hi hx p hs hf,fun C G ρ σ H n D hm hn r h k=>s C G ρ σ H [] _ _ hm r h fun d ρ' v G' H' hq z r'=>?_⟩
 obtain ⟨O,r'⟩:=r'
 exact k.nx _ _ G' H' hq z (r'.setO ho (hm.no hu) (by rw [hn]; exact Nat.zero_le _))
end
def kT (g:MG) (mt:MT) (me:ME) (ρ0:DSt) (ds:List D) (K:List D→Prop):Prop:=∃ I:Nat→List D→Prop,I 0 [] ∧
 (∀ i d es,ds[i]? = some d→I i es→g d ρ0 fun ρ2=>mt ρ2 fun b ρ3=>if b=true then me ρ3 fun x _=>I (i + 1) (es++[x]) else I (i + 1) es)∧∀ es,I ds.length es→K es
def jh (k:Nat) (js:List Nat) (ρ:DSt):DSt:=List.replicate k none++js.map fun j=>(ρ[j]?).getD none
def mG (mi:MA) (g:MG) (mt:MT) (me:ME) (k:Nat) (js:List Nat):ME:=fun ρ q=>mi ρ fun ds ρ1=>ds.length≤1000∧kT g mt me (jh k js ρ1) ds fun es=>imms es=true∧q (.lst es) ρ1
def pI (mi:MA) (g:MG) (mt:MT) (me:ME) (k:Nat) (js:List Nat):ME:=fun ρ q=>mi ρ fun ds ρ1=>ds.length≤1000∧kT g mt me (jh k js ρ1) ds fun es=>q (.lst es) ρ1
structure QIf (X:Cx) (ow:List Bool) (ifs:List Expr) (m:MT):Prop where
 ex:∃ t,PIf X ifs t∧STe ow t m
theorem cZ {X:Cx} {ow:List Bool}:QIf X ow [] (mYes true):=⟨_,sr,oA true⟩
theorem dz {X:Cx} {ow:List Bool} {c:Expr} {mt:MT} (h:QT X ow c mt):QIf X ow [c] mt:=by obtain ⟨t,p,s⟩:=h; exact ⟨_,sH p,s⟩
section
variable {C:Ctx} {ow:List Bool} {G:Hp} {ρ:DSt} {σ:St} {H:Hp} {pd:List (D×V)} {O:Own}
theorem RO.inner (h:RO C ow G ρ σ H pd O) (own:List Str) (js:List Nat) (hj:∀ j∈js,ow[j]?≠some true) :
 RO ⟨G,H,cU (fun _=>none) O,[],0⟩ [] G (jh own.length js ρ) (dr own js σ) H [] (cU (fun _=>none) O):=by
 have no:∀ a,cU (fun _=>none) O a=none:=fun a=>by unfold cU; cases O a <;> rfl
 refine ⟨by simp [jh,dr],h.gh,fun _ _ e=>e,fun _ _ e=>.inl e,fun a l e=>?_,fun a l π e=>?_,fun _ _ e _ _=>e,h.ft,fun _ e=>e,fun i v e=>by simp at e,?_,trivial,Nat.le_refl _⟩
 ·rw [no] at e; cases e
 ·exact absurd (e.symm.trans (no a)) (by simp)
 ·intro i d e
  unfold jh at e
  by_cases c:i<own.length
  ·rw [List.getElem?_append_left (by simpa using c),List.getElem?_replicate] at e
   split at e <;> cases e
  ·rw [List.getElem?_append_right (by simpa using c),List.getElem?_map] at e
   simp only [List.length_replicate] at e
   cases z:js[i - own.length]? with
   | none=>rw [z] at e; cases e
   | some j =>
    rw [z] at e
    have e':(ρ[j]?).getD none=some d:=Option.some.inj e
    have e2 : ρ[j]? = some (some d):=by
     cases w : ρ[j]? with
     | none=>rw [w] at e'; cases e'
     | some o=>rw [w] at e'; exact congrArg some e'
    obtain ⟨v,h1,h2⟩:=h.sl j d e2
    rw [if_neg (hj j (List.mem_of_getElem? z))] at h2
    refine ⟨v,?_,by simpa using h2⟩
    unfold dr
    rw [List.getElem?_append_right (by simpa using c),List.getElem?_map]
    simp only [List.length_map]
    rw [z,show (some j).map _=some ((σ[j]?).getD none) from rfl,h1]; rfl
end
theorem RO.back {C:Ctx} {ow:List Bool} {G G':Hp} {ρ0 ρ2:DSt} {σ0 σ2:St} {H H':Hp} {pd:List (D×V)} {O O':Own} (h0:RO C ow G ρ0 σ0 H pd O) (hn:∀ i:Nat,ow[i]?≠some true) (h:RO C ow G' ρ2 σ2 H' pd O') (z:aM G G'):RO C ow G' ρ0 σ0 H' pd O' :=
 ⟨h0.len,h.gh,h.g0,h.gn,h.og,h.cok,h.fr,h.ft,h.al,h0.mp,fun i d e=>by
  obtain ⟨v,h1,h2⟩:=h0.sl i d e
  rw [if_neg (hn i)] at h2
  exact ⟨v,h1,by rw [if_neg (hn i)]; exact h2.mono z⟩,h.pn,h.np⟩
theorem g9 {ow:List Bool} {J:It} {g:TG} {mg:MG} {tt:TT} {mt:MT} {te:TE} {me:ME} {C:Ctx} {G:Hp} {ρ:DSt} {σ:St} {H:Hp} {pd:List (D×V)} {ds:List D} {own:List Str} {js:List Nat} {K:List D→Prop} {Z:List V→Hp→Prop}
 (r:R C ow G ρ σ H pd) (hj:∀ j∈js,ow[j]?≠some true) (jo:lI J G ds) (sg:SG ⟨[],[],false⟩ g mg) (st:STe [] tt mt) (se:SE [] te me) (hk:∀ x H k,g x (dr own js σ) H k→g x (dr own js σ) H fun σ2 H2=>kept (dr own js σ) σ2∧k σ2 H2)
 (hl:ds.length≤1000) (h:kT mg mt me (jh own.length js ρ) ds K)
 (k:∀ es vs G' H',K es→aM G G'→R C ow G' ρ σ H' pd→Reps G' es vs→vs.length≤1000→Z vs H'):oG J g tt te (dr own js σ) H Z:=by
 obtain ⟨O,ro⟩:=r
 have ri:=ro.inner own js hj
 obtain ⟨I,i0,turn,fin⟩:=h
 have nt:∀ i:Nat,([]:List Bool)[i]?≠some true:=fun i=>by simp
 let C1:Ctx:=⟨G,H,cU (fun _=>none) O,[],0⟩
 have fnone:cU (fun _=>none) O=fun _=>none:=by funext a; unfold cU; cases O a <;> rfl
 refine ⟨fun i m acc H'=>m=ds.length - i∧i≤ds.length∧acc.length≤i∧∃ G' es,aM G G'∧R C1 [] G' (jh own.length js ρ) (dr own js σ) H' []∧Reps G' es acc∧I i es,⟨_,rfl,Nat.zero_le _,Nat.le_refl _,G,[],aM.refl _,⟨_,ri⟩,bN,i0⟩,?_⟩
 rintro i m acc H' ⟨rfl,hi,ha,G',es,z,r',pa,w⟩
 obtain ⟨sp,go⟩:=jo C1 [] G' _ _ H' [] i z r'
 by_cases hlt:i<ds.length
 ·obtain ⟨g1,g2⟩:=go ds[i] (List.getElem?_eq_getElem hlt)
  refine .inr ⟨g1,db (by omega),fun acc' H2=>acc'.length≤i + 1∧∃ G2 es2,aM G G2∧R C1 [] G2 (jh own.length js ρ) (dr own js σ) H2 []∧Reps G2 es2 acc'∧I (i + 1) es2,fun acc' H2 h=>⟨ds.length - (i + 1),by omega,rfl,hlt,h.1,h.2⟩,fun x H1 hy=>hk _ _ _ ?_⟩
  obtain ⟨G1,z1,r1,p1⟩:=g2 x H1 hy
  refine sg C1 G1 _ _ H1 [] ds[i] x _ _ (fun i v e=>by simp [C1] at e) r1 p1 (turn i ds[i] es (List.getElem?_eq_getElem hlt) w) fun ρ2 σ2 h2 r2=>?_
  refine st C1 G1 ρ2 σ2 H1 [] _ _ r2 h2 fun b ρ3 G3 H3 h3 z3 kp3 r3=>?_
  have bk:∀ {G4:Hp} {ρ4:DSt} {H4:Hp},aM G3 G4→R C1 [] G4 ρ4 σ2 H4 []→R C1 [] G4 (jh own.length js ρ) (dr own js σ) H4 []:=fun z4 ⟨O4,r4⟩=>by
   obtain ⟨O1,r1'⟩:=r1
   exact ⟨_,r1'.back nt r4 (z3.trans z4)⟩
  cases b with
  | true =>
   rw [if_pos rfl] at h3 ⊢
   refine se C1 G3 ρ3 σ2 H3 [] _ _ r3 h3 fun d ρ4 v G4 H4 h4 z4 kp4 r4 p4=>?_
   exact ⟨by simp; omega,G4,es++[d],z.trans (z1.trans (z3.trans z4)),bk z4 r4,eD (Reps.mono (z1.trans (z3.trans z4)) _ _ pa) (bQ p4 bN),h4⟩
  | false =>
   rw [if_neg (by decide)] at h3 ⊢
   exact ⟨by omega,G3,es,z.trans (z1.trans z3),bk (aM.refl _) r3,Reps.mono (z1.trans z3) _ _ pa,h3⟩
 ·have e:i=ds.length:=by omega
  subst e
  refine .inl ⟨sp (Nat.le_refl _),du (by omega),?_⟩
  obtain ⟨O2,r2⟩:=r'
  refine k es acc G' H' (fin es w) z ⟨p_ (fun _=>none) (fun _=>none) O O2,?_⟩ pa (by omega)
  refine ro.out (vs:=[]) r2 (fun _ _ _ e=>by cases e) ro.len ro.np (fun i d _ e=>e) (fun i d _ e=>.inl ⟨rfl,e⟩) fun O3 h1 h2 ts=>?_
  exact b9.keep ts (fun a j π hj e=>h1 a _ _ e rfl) ro.pn
section
variable {X:Cx} {ow:List Bool} {elt tg iter:Expr} {ifs:List Expr} {pos:Pos} {mi:MA} {mg:MG} {mt:MT} {me:ME} {scope:Scope} {cl:List (Str×Addr)}
def KeepG (n:Nat) (g:TG):Prop:=∀ (σ0:St),(∀ i,i<n→σ0[i]? = some none)→∀ σ x H k,kept σ0 σ→g x σ H k→g x σ H fun σ2 H2=>kept σ0 σ2∧k σ2 H2
def vY (n:Nat) (g:TGs):Prop:=∀ (σ0:St),(∀ i,i<n→σ0[i]? = some none)→∀ σ x H k,kept σ0 σ→g x σ H k→g x σ H fun σ2 H2=>kept σ0 σ2∧k σ2 H2
theorem g7:∀ {a b:St} {i:Nat} {v:V},kept a b→a[i]? = some none→kept a (b.set i (some v))
 | [],[],i,v,h,e=>by simp at e
 | none :: r,y :: r',0,v,h,e=>h
 | none :: r,y :: r',i + 1,v,h,e=>by simp only [List.set_cons_succ]; exact g7 (a:=r) (b:=r') h (by simpa using e)
 | some w :: r,y :: r',0,v,h,e=>by simp at e
 | some w :: r,y :: r',i + 1,v,h,e=>by simp only [List.set_cons_succ]; exact ⟨h.1,g7 (a:=r) (b:=r') h.2 (by simpa using e)⟩
 | [],_ :: _,_,_,h,_=>h.elim
 | none :: _,[],_,_,h,_=>h.elim
 | some _ :: _,[],_,_,h,_=>h.elim
theorem e6:∀ (a:St),kept a a
 | []=>trivial
 | none :: r=>e6 r
 | some v :: r=>⟨rfl,e6 r⟩
def MonG (g:TG):Prop:=∀ x σ H (k k':St→Hp→Prop),(∀ σ2 H2,k σ2 H2→k' σ2 H2)→g x σ H k→g x σ H k'
def MonGs (g:TGs):Prop:=∀ x σ H (k k':St→Hp→Prop),(∀ σ2 H2,k σ2 H2→k' σ2 H2)→g x σ H k→g x σ H k'
structure CG (n:Nat) (g:TG) (m:MG):Prop where
 sg:SG ⟨[],[],false⟩ g m
 kp:KeepG n g
 mn:MonG g
structure CGs (n:Nat) (g:TGs) (m:MGs):Prop where
 sg:SGs ⟨[],[],false⟩ g m
 kp:vY n g
 mn:MonGs g
theorem bu {n:Nat} (i:Nat) (h:i<n:=by decide):CG n (i3 i) (gZ i) :=
 ⟨fun C G ρ σ H pd d v k K hm r p h kk=>by obtain ⟨O,r⟩:=r; exact kk _ _ h ⟨O,r.setS (by simp) (fun v e=>by have:=hm i v e; simp at this) p⟩,
  fun σ0 h0 σ x H k hk hg=>⟨g7 hk (h0 i h),hg⟩,fun x σ H k k' hk h=>hk _ _ h⟩
theorem rQ {n:Nat}:CGs n gNil mM :=
 ⟨fun C G ρ σ H pd d v k K hm r p h kk=>by
  cases d with
  | nil=>rw [Reps] at p; exact ⟨p,kk _ _ h r⟩
  | cons _ _=>exact h.elim,fun σ0 h0 σ x H k hk hg=>⟨hg.1,hk,hg.2⟩,fun x σ H k k' hk h=>⟨h.1,hk _ _ h.2⟩⟩
theorem kI {n:Nat} {g:TG} {gs:TGs} {mg:MG} {mgs:MGs} (h1:CG n g mg) (h2:CGs n gs mgs):CGs n (tX g gs) (hE mg mgs) :=
 ⟨fun C G ρ σ H pd d v k K hm r p h kk=>by
  cases d with
  | nil=>exact h.elim
  | cons d ds =>
   rw [Reps] at p
   obtain ⟨v,vs,rfl,p1,p3⟩:=p
   exact ⟨v,vs,rfl,h1.sg C G ρ σ H pd d v _ _ hm r p1 h fun ρ' σ' h' r'=>h2.sg C G ρ' σ' H pd ds vs k K hm r' p3 h' kk⟩,
  fun σ0 h0 σ x H k hk hg=>by
   obtain ⟨v,r,e,q⟩:=hg
   exact ⟨v,r,e,h1.mn _ _ _ _ _ (fun σ2 H2 z=>h2.kp σ0 h0 σ2 r H2 k z.1 z.2) (h1.kp σ0 h0 σ v H _ hk q)⟩,
  fun x σ H k k' hk h=>by
   obtain ⟨v,r,e,q⟩:=h
   exact ⟨v,r,e,h1.mn _ _ _ _ _ (fun σ2 H2 z=>h2.mn _ _ _ _ _ hk z) q⟩⟩
theorem wD {n j:Nat} {K:PySem.W.Frag} {gs:TGs} {mgs:MGs} (h:CGs n gs mgs) (ht:iF j mgs):CG n (gTup K j gs) (rh mgs) :=
 ⟨fun C G ρ σ H pd d v k K hm r p h' kk=>by
  cases d with
  | tup ds =>
   obtain ⟨a,xs,rfl,h1,h2⟩:=dl p
   exact ⟨a,xs,rfl,SqT.of (r.gh _ _ h1),by rw [h2.length]; exact ht _ _ _ h',h.sg C G ρ σ H pd ds xs k K hm r h2 h' kk⟩
  | _=>exact h'.elim,
  fun σ0 h0 σ x H k hk hg=>by obtain ⟨a,xs,e,e1,e2,q⟩:=hg; exact ⟨a,xs,e,e1,e2,h.kp σ0 h0 σ xs H k hk q⟩,
  fun x σ H k k' hk hg=>by obtain ⟨a,xs,e,e1,e2,q⟩:=hg; exact ⟨a,xs,e,e1,e2,h.mn _ _ _ _ _ hk q⟩⟩
def canE (ow:List Bool) (m:ME):TE:=fun σ H Q=>∃ (C:Ctx) (G:Hp) (ρ:DSt) (pd:List (D×V)) (q:D→DSt→Prop),R C ow G ρ σ H pd∧m ρ q∧∀ d ρ' v G' H',q d ρ'→aM G G'→Kp ow ρ ρ'→R C ow G' ρ' σ H' pd→Rep G' d v→Q v H'
def canT (ow:List Bool) (m:MT):TT:=fun σ H Q=>∃ (C:Ctx) (G:Hp) (ρ:DSt) (pd:List (D×V)) (q:Bool→DSt→Prop),R C ow G ρ σ H pd∧m ρ q∧∀ d ρ' G' H',q d ρ'→aM G G'→Kp ow ρ ρ'→R C ow G' ρ' σ H' pd→Q d H'
theorem rc {ow:List Bool} {m:ME}:SE ow (canE ow m) m:=fun C G ρ σ H pd q Q r h k=>⟨C,G,ρ,pd,q,r,h,k⟩
theorem oK {ow:List Bool} {m:MT}:STe ow (canT ow m) m:=fun C G ρ σ H pd q Q r h k=>⟨C,G,ρ,pd,q,r,h,k⟩
theorem QE.can {X:Cx} {ow:List Bool} {e:Expr} {m:ME} (h:QE X ow e m):PE X e (canE ow m):=by
 obtain ⟨t,p,s⟩:=h
 exact ⟨fun pins s' σ H Q I ⟨C,G,ρ,pd,q,r,h,k⟩=>p.go pins s' σ H Q I (s C G ρ σ H pd q Q r h k)⟩
theorem QIf.can {X:Cx} {ow:List Bool} {e:List Expr} {m:MT} (h:QIf X ow e m):PIf X e (canT ow m):=by
 obtain ⟨t,p,s⟩:=h
 exact ⟨fun pins s' σ H Q I ⟨C,G,ρ,pd,q,r,h,k⟩=>p.go pins s' σ H Q I (s C G ρ σ H pd q Q r h k)⟩
theorem iK {own:List Str} {js:List Nat} {σ:St}:∀ i,i<own.length→(dr own js σ)[i]? = some none:=fun i h=>by
 unfold dr
 rw [List.getElem?_append_left (by simpa using h),List.getElem?_map,List.getElem?_eq_getElem h]; rfl
theorem jb {ow:List Bool} {wi:TI} {g:TG} {own:List Str} {js:List Nat} (si:SI ow wi mi) (cg:CG own.length g mg) (hj:∀ j∈js,ow[j]?≠some true):SF ow (mJ wi g (canT [] mt) (canE [] me) own js) (mG mi mg mt me own.length js):=fun C G ρ σ H pd q Q r h k =>
 si C G ρ σ H pd _ _ r h fun ds ρ' G' H' J hq z kp r' jo=>by
  refine g9 r' hj jo cg.sg oK rc (fun x H k hg=>cg.kp _ iK _ x H k (e6 _) hg) hq.1 hq.2 fun es vs G2 H2 hK z2 r2 p2 hl p hp=>?_
  obtain ⟨O2,r2⟩:=r2
  exact k _ ρ' _ _ _ hK.2 (z.trans z2) kp (r2.newL hp hK.1 p2)
theorem rM {ow:List Bool} {wi:TI} {g:TG} {own:List Str} {js:List Nat} (si:SI ow wi mi) (cg:CG own.length g mg) (hj:∀ j∈js,ow[j]?≠some true):SE ow (mJ wi g (canT [] mt) (canE [] me) own js) (pI mi mg mt me own.length js):=fun C G ρ σ H pd q Q r h k =>
 si C G ρ σ H pd _ _ r h fun ds ρ' G' H' J hq z kp r' jo=>by
  refine g9 r' hj jo cg.sg oK rc (fun x H k hg=>cg.kp _ iK _ x H k (e6 _) hg) hq.1 hq.2 fun es vs G2 H2 hK z2 r2 p2 hl p hp=>?_
  obtain ⟨O2,r2⟩:=r2
  obtain ⟨r3,z3⟩:=r2.new hp (.lst vs)
  exact k _ ρ' _ _ _ hK (z.trans (z2.trans z3)) kp ⟨O2,r3⟩ (fT aE (Reps.mono z3 _ _ p2))
structure CInn (X:Cx) (tg:Expr) (ifs:List Expr) (elt:Expr) (g:TG) (mt:MT) (me:ME):Prop where
 pg:PG X tg g
 qi:QIf X [] ifs mt
 qe:QE X [] elt me
theorem gS {g:TG} (own:List Str) (js:List Nat) (c:CompOk X scope cl own js) (hc:X.calm=true) (hi:QI X ow tg iter mi) (cg:CG own.length g mg)
 (inner:∀ (C:Addr) (s₀:Shared) (H₀:Hp) (ex:List Addr),CInn (bK X scope cl (di X own js) C s₀ H₀ ex) tg ifs elt g mt me) (hj:∀ j∈js,ow[j]?≠some true:=by decide)
 (hs:∀ x,foldedSetIterable iter X.env x=pure x:=by intro _; rfl):QF X ow (.ListComp elt [⟨tg,iter,ifs,0⟩] scope pos) (mG mi mg mt me own.length js):=by
 obtain ⟨wi,pi,si⟩:=hi
 exact ⟨_,mo own js c hc pi (fun C s₀ H₀ ex=>⟨(inner C s₀ H₀ ex).pg,(inner C s₀ H₀ ex).qi.can,(inner C s₀ H₀ ex).qe.can⟩) hs,jb si cg hj⟩
theorem cY {g:TG} (own:List Str) (js:List Nat) (c:CompOk X scope cl own js) (hc:X.calm=true) (hi:QI X ow tg iter mi) (cg:CG own.length g mg)
 (inner:∀ (C:Addr) (s₀:Shared) (H₀:Hp) (ex:List Addr),CInn (bK X scope cl (di X own js) C s₀ H₀ ex) tg ifs elt g mt me) (hj:∀ j∈js,ow[j]?≠some true:=by decide)
 (hs:∀ x,foldedSetIterable iter X.env x=pure x:=by intro _; rfl):QE X ow (.ListComp elt [⟨tg,iter,ifs,0⟩] scope pos) (pI mi mg mt me own.length js):=by
 obtain ⟨wi,pi,si⟩:=hi
 exact ⟨_,mo own js c hc pi (fun C s₀ H₀ ex=>⟨(inner C s₀ H₀ ex).pg,(inner C s₀ H₀ ex).qi.can,(inner C s₀ H₀ ex).qe.can⟩) hs,rM si cg hj⟩
theorem gI {M:Md} {g:TG} {i:Nat} {y:Str} {spos py:Pos} (own:List Str) (js:List Nat) (c:CompOk X scope cl own js) (hc:X.calm=true) (hN:X.N.Nodup) (hy:X.N[i]? = some y) (hx:Loc X.env.scope y) (hi:QI X M.ow tg iter mi) (cg:CG own.length g mg)
 (inner:∀ (C:Addr) (s₀:Shared) (H₀:Hp) (ex:List Addr),CInn (bK X scope cl (di X own js) C s₀ H₀ ex) tg ifs elt g mt me) (hj:∀ j∈js,M.ow[j]?≠some true:=by decide) (ho:M.ow[i]? = some true:=by decide) (hu:M.mu[i]?≠some true:=by decide)
 (hsw:swapsWith (.ListComp elt [⟨tg,iter,ifs,0⟩] scope pos) (some (.Name y py)) spos.line X.env=pure true:=by rfl)
 (hs:∀ x,foldedSetIterable iter X.env x=pure x:=by intro _; rfl) (hf:X.fn y=true∨X.env.scope.names.lookup y=some .local:=by first | exact .inl rfl | exact .inr rfl | assumption) :
 QS X M (.Assign [.Name y py] (.ListComp elt [⟨tg,iter,ifs,0⟩] scope pos) spos) (ly i (mG mi mg mt me own.length js)):=by
 obtain ⟨wi,pi,si⟩:=hi
 exact ⟨_,h8 own js c hc hN hy hx pi (fun C s₀ H₀ ex=>⟨(inner C s₀ H₀ ex).pg,(inner C s₀ H₀ ex).qi.can,(inner C s₀ H₀ ex).qe.can⟩) hsw hs hf,l4 (jb si cg hj) ho hu⟩
end
theorem cL {g:MG} {mt:MT} {me:ME} {ρ0:DSt} {ds:List D} {K:List D→Prop} (f:D→Option D)
 (step:∀ (d:D),d∈ds→∀ k:Option D→Prop,k (f d)→g d ρ0 fun ρ2=>mt ρ2 fun b ρ3=>if b=true then me ρ3 fun x _=>k (some x) else k none) (h:K (ds.filterMap f)):kT g mt me ρ0 ds K:=by
 refine ⟨fun i es=>es=(ds.take i).filterMap f,rfl,?_,fun es e=>by rw [e,List.take_length]; exact h⟩
 rintro i d es hd rfl
 have:=step d (List.mem_of_getElem? hd) (fun o=>match o with | some x=>(ds.take i).filterMap f++[x]=(ds.take (i + 1)).filterMap f | none=>(ds.take i).filterMap f=(ds.take (i + 1)).filterMap f) (by
  rw [List.take_add_one,hd]
  simp only [Option.toList,List.filterMap_append]
  cases e:f d with
  | none=>simp [e]
  | some x=>simp [e])
 exact this
theorem bU {g:MG} {me:ME} {ρ0:DSt} {ds:List D} {K:List D→Prop} (f:D→D)
 (step:∀ (d:D),d∈ds→∀ k:D→Prop,k (f d)→g d ρ0 fun ρ2=>me ρ2 fun x _=>k x) (h:K (ds.map f)):kT g (mYes true) me ρ0 ds K:=by
 refine ⟨fun i es=>es=(ds.take i).map f,rfl,?_,fun es e=>by rw [e,List.take_length]; exact h⟩
 rintro i d es hd rfl
 have:=step d (List.mem_of_getElem? hd) (fun x=>(ds.take i).map f++[x]=(ds.take (i + 1)).map f) (by
  rw [List.take_add_one,hd]; simp)
 exact this
def k7 (x:Int):List Int→List Int
 | []=>[x]
 | y :: r=>if x≤y then x :: y :: r else y :: k7 x r
def bH:List Int→List Int
 | []=>[]
 | x :: r=>k7 x (bH r)
theorem gg (x:Int):∀ l:List Int,(k7 x l).Perm (x :: l)
 | []=>List.Perm.refl _
 | y :: r=>by
  unfold k7
  split
  ·exact List.Perm.refl _
  ·exact ((gg x r).cons y).trans (List.Perm.swap x y r)
theorem cj:∀ l:List Int,(bH l).Perm l
 | []=>List.Perm.refl _
 | x :: r=>(gg x (bH r)).trans ((cj r).cons x)
theorem gJ (x:Int):∀ {l:List Int},l.Pairwise (·≤·)→(k7 x l).Pairwise (·≤·)
 | [],_=>by simp [k7]
 | y :: r,h=>by
  unfold k7
  rw [List.pairwise_cons] at h
  split
  ·rename_i c
   refine List.pairwise_cons.mpr ⟨fun z hz=>?_,List.pairwise_cons.mpr h⟩
   rcases List.mem_cons.mp hz with rfl | hz
   ·exact c
   ·exact Int.le_trans c (h.1 z hz)
  ·rename_i c
   refine List.pairwise_cons.mpr ⟨fun z hz=>?_,gJ x h.2⟩
   rcases List.mem_cons.mp ((gg x r).mem_iff.mp hz) with rfl | hz
   ·omega
   ·exact h.1 z hz
theorem d6:∀ l:List Int,(bH l).Pairwise (·≤·)
 | []=>List.Pairwise.nil
 | x :: r=>gJ x (d6 r)
theorem ic:∀ {a b:List Int},a.Perm b→a.Pairwise (·≤·)→b.Pairwise (·≤·)→a=b
 | [],b,p,_,_=>(List.Perm.nil_eq p)
 | x :: a,[],p,_,_=>by have:=p.length_eq; simp at this
 | x :: a,y :: b,p,ha,hb=>by
  have hx:x=y:=by
   rw [List.pairwise_cons] at ha hb
   have h1:x∈y :: b:=p.mem_iff.mp (.head _)
   have h2:y∈x :: a:=p.mem_iff.mpr (.head _)
   rcases List.mem_cons.mp h1 with rfl | h1
   ·rfl
   rcases List.mem_cons.mp h2 with h2 | h2
   ·exact h2.symm
   have:=ha.1 y h2
   have:=hb.1 x h1
   omega
  subst hx
  rw [ic ((List.perm_cons x).mp p) (List.pairwise_cons.mp ha).2 (List.pairwise_cons.mp hb).2]
theorem kK {a b:List Int} (p:a.Perm b) (h:a.Pairwise (·≤·)):a=bH b:=ic (p.trans (cj b).symm) h (d6 b)
theorem gf (l:List Int):(bH l).length=l.length:=(cj l).length_eq
section
variable {X:Cx}
def pJ (K:PySem.W.Frag):List V→Hp→VK→Prop:=fun xs H Q=>∃ (p:Addr) (ns:List Int),xs=[.ref p]∧SqL K H p (ns.map V.int)∧ns.length<64∧∀ l,H l=none→Q (.ref l) (upd H l (.lst ((bH ns).map V.int)))
theorem cW:cD X (.builtin "sorted") (pJ X.K):=by
 intro pins s σ H xs us Q I r h
 obtain ⟨p,ns,rfl,hS,h64,q⟩:=h
 obtain ⟨u,rfl,ru⟩:=eQ r
 cases ru
 obtain ⟨its,rv,pl,_⟩:=I.list hS
 have hI:IntsAre its ns:=ip rv
 have hlen:its.length=ns.length:=by have:=rv.length; simp at this; exact this.symm
 refine sorted_ints (l:=p) (vs:=its) (ns:=ns) (isList_of pl) hI (by omega) fun out ns' a1 a2 a3=>?_
 obtain ⟨e,he⟩:=sortedAll_at s.heap its out
 have hl:ns'=bH ns:=kK a2 a3
 subst hl
 refine ⟨.ref (s.heap.objs.size + 1),_,I.laid (a:=s.heap.objs.size + 1) (o:=.lst ((bH ns).map V.int)) (t':=s.toks) (fun _ _ q=>sortedAll_old q) (Nat.le_succ _) ?_,rfl,q _ (I.hok.fresh (Nat.le_succ _))⟩
 refine ⟨Nat.le_of_lt (db (by rw [List.length_map,gf]; omega)),out.toList,e,fc a1,?_⟩
 simpa [seqObj] using he
where
 isList_of {h:Heap} {a:Addr} {its:List Value} (pl:PlainL h a its.toArray):h.IsList a its.toArray:=by
  first | exact pl.isList | exact pl.1 | exact pl
theorem io {pins:List (Addr×Obj)} {σ:St} {H:Hp} {s:Shared} {p:Addr} {xs:List V} (I:Inv X pins σ H s) (h:SqL X.K H p xs):∃ its:List Value,aQ xs its∧s.heap.IsList p its.toArray:=by
 obtain ⟨its,rv,⟨o,n,h1,h2,h3,h4⟩,_⟩:=I.list h
 exact ⟨its,rv,o,h1,h2,n,h4⟩
theorem nI (hc:X.calm=true):cD X (.builtin "sum") (fun xs H Q=>∃ (p:Addr) (ns:List Int),xs=[.ref p]∧SqL X.K H p (ns.map V.int)∧Q (.int ns.sum) H):=by
 intro pins s σ H xs us Q I r h
 obtain ⟨p,ns,rfl,hS,q⟩:=h
 obtain ⟨u,rfl,ru⟩:=eQ r
 cases ru
 obtain ⟨its,rv,hl⟩:=io I hS
 have hI₂:IntsAre its ns:=ip rv
 obtain ⟨ys,hys⟩:=hI₂.allInts.items
 have hlY:s.heap.IsList p (intItems ys):=hys ▸ hl
 refine sum_intListG (I.ok.hd hc) hlY fun hp tk₁ tk₂ kept=>?_
 have eY:ns=ys.toList.map (·.1):=by
  rw [← nums_intItems,← hys]; exact Eq.symm (show numsOf its.toArray.toList=ns from hI₂.numsOf)
 have eS:preSum (numAt ys) ys.size=ns.sum:=by rw [preSum_eq,List.take_of_length_le (by simp),eY]
 rw [eS]
 exact ⟨.int ns.sum,H,I.kept kept,⟨tk₂,rfl⟩,q⟩
theorem j_:∀ {bs:List Bool} {us:List Value},aQ (bs.map V.bl) us→LSm.BoolsAre us bs
 | [],us,h=>by cases h; exact .nil
 | b :: bs,us,h=>by
  cases h with
  | cons r1 r2=>cases (show _=Value.bool b from r1); exact .cons b (j_ r2)
theorem nC (hc:X.calm=true):cD X (.builtin "all") (fun xs H Q=>∃ (p:Addr) (bs:List Bool),xs=[.ref p]∧SqL X.K H p (bs.map V.bl)∧Q (.bl (bs.all id)) H):=by
 intro pins s σ H xs us Q I r h
 obtain ⟨p,bs,rfl,hS,q⟩:=h
 obtain ⟨u,rfl,ru⟩:=eQ r
 cases ru
 obtain ⟨its,rv,hl⟩:=io I hS
 have truths:=j_ rv
 have below:p<s.heap.objs.size:=by obtain ⟨_,at_p,_⟩:=hl; exact Heap.lt_size at_p
 refine call_all_walk (wpAny_pyIter_list hl ⟨s.heap.objs.size,[s.heap.objs.size,p],[s.heap.objs.size],its.toArray.size,_,_,fun j=>(bs[j]?).getD true,rfl,Walks.list (A:=X.A.in1) (I.ok.hd hc) _ p (Nat.ne_of_lt below) its.toArray,
  ⟨⟨_,Heap.get?_push_size _ rfl,rfl,rfl⟩,hl.push _⟩,fun j u s₁ Q₁ E₁ at_j want=>?_,fun hp tk₁ kept=>?_⟩)
 ·obtain ⟨b,is_b,rfl⟩:=truths.get j u (by simpa using at_j)
  simp only [is_b,Option.getD_some] at want
  exact wpAny_truthy_bool want
 ·have same:((List.range its.toArray.size).all fun j=>(bs[j]?).getD true)=bs.all id:=by rw [List.size_toArray,truths.length]; exact LSm.range_all bs
  rw [same]
  exact ⟨.bl (bs.all id),H,I.kept (LSm.kept_iter kept),rfl,q⟩
end
theorem c_ {G:Hp}:∀ {ns:List Int} {xs:List V},Reps G (ns.map D.int) xs→xs=ns.map V.int
 | [],xs,h=>by rw [List.map_nil,Reps] at h; subst h; rfl
 | n :: r,xs,h=>by rw [List.map_cons,Reps] at h; obtain ⟨v,vs,rfl,h1,h2⟩:=h; rw [az h1,c_ h2]; rfl
theorem gD {G:Hp}:∀ {ns:List Bool} {xs:List V},Reps G (ns.map D.bl) xs→xs=ns.map V.bl
 | [],xs,h=>by rw [List.map_nil,Reps] at h; subst h; rfl
 | n :: r,xs,h=>by rw [List.map_cons,Reps] at h; obtain ⟨v,vs,rfl,h1,h2⟩:=h; rw [cm h1,gD h2]; rfl
def oY:List D→(List D→Prop)→Prop:=fun ds q=>match ds with
 | [.lst xs]=>∃ ns:List Int,xs=ns.map D.int∧ns.length<64∧q ((bH ns).map D.int)
 | _=>False
theorem jC {K:PySem.W.Frag}:fz (pJ K) oY:=fun G H xs ds q Q s p hf k=>by
 unfold oY at hf
 split at hf
 ·obtain ⟨v,rfl,p1⟩:=bj p
  obtain ⟨a,xs,rfl,h1,h2⟩:=a_ p1
  obtain ⟨ns,rfl,hl,hq⟩:=hf
  rw [c_ h2] at h1
  exact ⟨a,ns,rfl,SqL.of (s _ _ h1),hl,fun l hl=>k _ _ l hq (gm _) hl⟩
 ·exact hf.elim
def fSum:List D→(D→Prop)→Prop:=fun ds q=>match ds with
 | [.lst xs]=>∃ ns:List Int,xs=ns.map D.int∧q (.int ns.sum)
 | _=>False
theorem dSum {K:PySem.W.Frag}:fq (fun xs H Q=>∃ (p:Addr) (ns:List Int),xs=[.ref p]∧SqL K H p (ns.map V.int)∧Q (.int ns.sum) H) fSum:=fun G H xs ds q Q s p hf k=>by
 unfold fSum at hf
 split at hf
 ·obtain ⟨v,rfl,p1⟩:=bj p
  obtain ⟨a,xs,rfl,h1,h2⟩:=a_ p1
  obtain ⟨ns,rfl,hq⟩:=hf
  rw [c_ h2] at h1
  exact ⟨a,ns,rfl,SqL.of (s _ _ h1),k _ _ hq (bf _)⟩
 ·exact hf.elim
def fAll:List D→(D→Prop)→Prop:=fun ds q=>match ds with
 | [.lst xs]=>∃ bs:List Bool,xs=bs.map D.bl∧q (.bl (bs.all id))
 | _=>False
theorem dAll {K:PySem.W.Frag}:fq (fun xs H Q=>∃ (p:Addr) (bs:List Bool),xs=[.ref p]∧SqL K H p (bs.map V.bl)∧Q (.bl (bs.all id)) H) fAll:=fun G H xs ds q Q s p hf k=>by
 unfold fAll at hf
 split at hf
 ·obtain ⟨v,rfl,p1⟩:=bj p
  obtain ⟨a,xs,rfl,h1,h2⟩:=a_ p1
  obtain ⟨bs,rfl,hq⟩:=hf
  rw [gD h2] at h1
  exact ⟨a,bs,rfl,SqL.of (s _ _ h1),k _ _ hq (cS _)⟩
 ·exact hf.elim
section
variable {C:Ctx} {ow:List Bool} {G:Hp} {ρ:DSt} {σ:St} {H:Hp} {pd:List (D×V)} {O:Own}
end
section
variable {ow:List Bool} {t:TE} {m:ME}
theorem SF.bor (js:List Nat) (s:SF (L2.bor js ow) t m):SF ow t m:=fun C G ρ σ H pd q Q r hm k=>by
 obtain ⟨O,r⟩:=r
 refine s _ _ ρ σ H pd _ _ ⟨_,r.enter js⟩ hm fun d ρ' v G' H' hq s kp r'=>?_
 obtain ⟨O',r'⟩:=r'
 obtain ⟨r2,s2,ts⟩:=r.leave r' kp
 exact k d ρ' v _ H' hq s2 (ju kp) ⟨_,r2⟩
theorem SF.se (s:SF ow t m):SE ow t m:=fun C G ρ σ H pd q Q r hm k=>s C G ρ σ H pd _ _ r hm fun d ρ' v G' H' hq s kp r'=>by
 obtain ⟨O,r'⟩:=r'
 obtain ⟨G2,s2,r2,p2⟩:=r'.share r.np
 exact k d ρ' v G2 H' hq (s.trans s2) kp r2 p2
end
section
variable {X:Cx} {M:Md} {a b c e:Expr} {ma mb mc:ME} {pos pos':Pos} {mr:MA} {es:List Expr}
theorem gL {g:TG} {mg:MG} {mt:MT} {me:ME} {mi:MA} {tg iter elt:Expr} {ifs:List Expr} {scope:Scope} {cl:List (Str×Addr)} {i:Nat} {y:Str} {spos py:Pos} (bs:List Nat) (own:List Str) (js:List Nat) (c:CompOk X scope cl own js) (hc:X.calm=true) (hN:X.N.Nodup) (hy:X.N[i]? = some y) (hx:Loc X.env.scope y) (hi:QI X (bor bs M.ow) tg iter mi) (cg:CG own.length g mg)
 (inner:∀ (C:Addr) (s₀:Shared) (H₀:Hp) (ex:List Addr),CInn (bK X scope cl (di X own js) C s₀ H₀ ex) tg ifs elt g mt me) (hj:∀ j∈js,(bor bs M.ow)[j]?≠some true:=by decide) (ho:M.ow[i]?≠some true:=by decide) (hu:M.mu[i]?≠some true:=by decide)
 (hsw:swapsWith (.ListComp elt [⟨tg,iter,ifs,0⟩] scope pos) (some (.Name y py)) spos.line X.env=pure true:=by rfl)
 (hs:∀ x,foldedSetIterable iter X.env x=pure x:=by intro _; rfl) (hf:X.fn y=true∨X.env.scope.names.lookup y=some .local:=by first | exact .inl rfl | exact .inr rfl | assumption) :
 QS X M (.Assign [.Name y py] (.ListComp elt [⟨tg,iter,ifs,0⟩] scope pos) spos) (ly i (mG mi mg mt me own.length js)):=by
 obtain ⟨wi,pi,si⟩:=hi
 exact ⟨_,h8 own js c hc hN hy hx pi (fun C s₀ H₀ ex=>⟨(inner C s₀ H₀ ex).pg,(inner C s₀ H₀ ex).qi.can,(inner C s₀ H₀ ex).qe.can⟩) hsw hs hf,oS (SF.bor bs (jb si cg hj)).se ho hu⟩
def mSetN (i c:Nat) (mk m:ME):MS:=fun n ρ=>m ρ fun d ρ1=>imm d=true∧match ρ1[i]? with
 | some (some (.tup es))=>match es[c]? with
  | some (.lst _)=>mk ρ1 fun k ρ2=>match ρ2[i]? with
   | some (some (.tup es))=>match es[c]? with
    | some (.lst ds)=>match k with
     | .int j=>match ixN ds.length j with
      | some p=>n.nx (ρ2.set i (some (.tup (es.set c (.lst (ds.set p d))))))
      | none=>False
     | _=>False
    | _=>False
   | _=>False
  | _=>False
 | _=>False
def mPop (i:Nat):ME:=fun ρ q=>match ρ[i]? with
 | some (some (.lst ds))=>match ds[ds.length - 1]? with
  | some d=>imm d=true∧q d (ρ.set i (some (.lst ds.dropLast)))
  | none=>False
 | _=>False
theorem a7 (ns:List Int):imms (ns.map D.int)=true:=by
 induction ns with
 | nil=>rfl
 | cons n r ih=>simp only [List.map,imms,imm,ih]; rfl
end
def mCut (m:MS):MS:=fun n ρ=>∃ I:DSt→Prop,m { n with nx:=I } ρ∧∀ ρ',I ρ'→n.nx ρ'
theorem iw {X:Cx} {M:Md} {st:Stmt} {m:MS} (h:QS X M st m):QS X M st (mCut m):=by
 obtain ⟨t,p,s⟩:=h
 refine ⟨_,p,fun C G ρ σ H n D hm hn r h k=>?_⟩
 obtain ⟨I,h1,h2⟩:=h
 exact s C G ρ σ H _ D hm hn r h1 ⟨fun ρ' σ' G' H' hi=>k.nx ρ' σ' G' H' (h2 ρ' hi),k.bk,k.ct,k.rt⟩
mutual
theorem Sep.strip {G H:Hp} {O O':Own} {i i':Nat} {sfx:List Nat} :
 ∀ (d:D) (π:List Nat) (v:V),(∀ a τ,O a=some (i,(τ++π)++sfx)→O' a=some (i',τ++π))→Sep G H O i d (π++sfx) v→Sep G H O' i' d π v
 | .non,_,_,_,h=>by rw [Sep] at *; exact h
 | .bl b,_,_,_,h=>by rw [Sep] at *; exact h
 | .int n,_,_,_,h=>by rw [Sep] at *; exact h
 | .str x,_,_,_,h=>by rw [Sep] at *; exact h
 | .tup ds,π,v,hO,h=>by
  rw [Sep] at *
  obtain ⟨a,xs,h1,h2,h3⟩:=h
  exact ⟨a,xs,h1,h2,Seps.strip ds 0 π xs (fun a τ=>hO a τ) h3⟩
 | .lst ds,π,v,hO,h=>by
  rw [Sep] at *
  obtain ⟨a,xs,h1,h2,h3,h4⟩:=h
  exact ⟨a,xs,h1,hO a [] h2,h3,Seps.strip ds 0 π xs (fun a τ=>hO a τ) h4⟩
 | .dic ks ds,π,v,hO,h=>by
  rw [Sep] at *
  obtain ⟨a,xs,h1,h2,h3,h5,h4⟩:=h
  exact ⟨a,xs,h1,hO a [] h2,h3,h5,Seps.strip ds 0 π xs (fun a τ=>hO a τ) h4⟩
 | .obj C ks ds,π,v,hO,h=>by
  rw [Sep] at *
  obtain ⟨a,dx,xs,h1,h2,h3,h5,h4⟩:=h
  exact ⟨a,dx,xs,h1,hO a [] h2,h3,h5,Seps.strip ds 0 π xs (fun a τ=>hO a τ) h4⟩
 | .dct,_,_,_,h=>by rw [Sep] at h; exact h.elim
 | .scr _ _,_,_,_,h=>by rw [Sep] at h; exact h.elim
 | .ext _,_,_,_,h=>by rw [Sep] at h; exact h.elim
theorem Seps.strip {G H:Hp} {O O':Own} {i i':Nat} {sfx:List Nat} :
 ∀ (ds:List D) (k:Nat) (π:List Nat) (xs:List V),(∀ a τ,O a=some (i,(τ++π)++sfx)→O' a=some (i',τ++π))→Seps G H O i ds k (π++sfx) xs→Seps G H O' i' ds k π xs
 | [],_,_,_,_,h=>by rw [Seps] at *; exact h
 | d :: ds,k,π,xs,hO,h=>by
  rw [Seps] at *
  obtain ⟨v,vs,h1,h2,h3⟩:=h
  refine ⟨v,vs,h1,Sep.strip d (k :: π) v (fun a τ e=>?_) h2,Seps.strip ds (k + 1) π vs hO h3⟩
  have e' : τ++k :: π=(τ++[k])++π:=by simp
  rw [e'] at e ⊢
  exact hO a (τ++[k]) e
end
section
variable {C:Ctx} {ow:List Bool} {G:Hp} {ρ:DSt} {σ:St} {H:Hp} {pd:List (D×V)} {O:Own}
theorem RO.split {ds:List D} {v:V} (h:RO C ow G ρ σ H ((.tup ds,v) :: pd) O) (hn:C.np≤pd.length):∃ a xs,v = .ref a∧G a=some (.tup xs)∧xs.length=ds.length∧R C ow G ρ σ H (ds.zip xs++pd):=by
 obtain ⟨s,pn⟩:=h.pn
 rw [Sep] at s
 obtain ⟨a,xs,rfl,hG,hs⟩:=s
 have hl:=hs.length
 refine ⟨a,xs,rfl,hG,hl,lab (fun l π=>if l=2 * pd.length + 1 then (2 * (pd.length + (ds.length - 1 - π.getLastD 0)) + 1,π.dropLast) else (l,π)) O,h.len,h.gh,h.g0,h.gn,?_,h.cok,h.fr,h.ft,h.al,h.mp,?_,?_,by simp; omega⟩
 ·intro b m e
  obtain ⟨l,π,e1,rfl⟩:=gy e
  obtain ⟨q1,q2,q3⟩:=h.og b _ e1
  refine ⟨q1,q2,?_⟩
  split
  ·rename_i z
   rcases q3 with q3 | ⟨_,q3⟩
   ·exact .inl q3
   ·rcases h.cok _ _ _ q3 with ⟨k,_,q4,_⟩ | ⟨k,q4,q5⟩
    ·exact absurd (q4.symm.trans z) cb
    ·omega
  ·exact q3
 ·intro j e q
  obtain ⟨u,h1,h2⟩:=h.sl j e q
  refine ⟨u,h1,?_⟩
  split at h2
  ·rename_i c; rw [if_pos c]; exact h2.keep (fun _ _ z=>z) fun a τ q=>⟨by rw [bE q,if_neg cb],rfl⟩
  ·rename_i c; rw [if_neg c]; exact h2
 ·have old:∀ (O':Own),(∀ b j π,j<pd.length→O b=some (2 * j + 1,π)→O' b=some (2 * j + 1,π))→b9 G H O' pd:=fun O' hO=>b9.keep (fun _ _ z=>z) (fun b j π hj q=>⟨hO b j π hj q,rfl⟩) pn
  have key:∀ (ds0:List D) (k:Nat) (xs0:List V) (O':Own),k + ds0.length=ds.length→Seps G H O (2 * pd.length + 1) ds0 k [] xs0 →
   (∀ b j π,j<pd.length→O b=some (2 * j + 1,π)→O' b=some (2 * j + 1,π))→(∀ b τ k',O b=some (2 * pd.length + 1,τ++[k'])→O' b=some (2 * (pd.length + (ds.length - 1 - k')) + 1,τ))→b9 G H O' (ds0.zip xs0++pd):=by
   intro ds0
   induction ds0 with
   | nil=>intro k xs0 O' _ _ ho _; exact old O' ho
   | cons d0 r ih =>
    intro k xs0 O' hk hh ho hnw
    rw [Seps] at hh
    obtain ⟨w,ws,rfl,w1,w2⟩:=hh
    have hwl:=w2.length
    refine ⟨?_,ih (k + 1) ws O' (by simp at hk; omega) w2 ho hnw⟩
    have e:(List.zip r ws++pd).length=pd.length + (ds.length - 1 - k):=by simp at hk ⊢; omega
    show Sep G H O' (2 * (List.zip r ws++pd).length + 1) d0 [] w
    rw [e]
    exact Sep.strip (sfx:=[k]) d0 [] w (fun b τ q=>by simpa using hnw b τ k (by simpa using q)) w1
  refine key ds 0 xs _ (by omega) hs (fun b j π hj q=>by rw [bE q,if_neg (by omega)]) (fun b τ k' q=>?_)
  rw [bE q,if_pos rfl]
  simp
end
def SGF (M:Md) (g:TGs) (m:MGs):Prop:=∀ (C:Ctx) (G:Hp) (ρ:DSt) (σ:St) (H:Hp) (T pd:List (D×V)) (k:DSt→Prop) (K:St→Hp→Prop),gY C M.mu→C.np≤pd.length→R C M.ow G ρ σ H (T++pd)→m (T.map (·.1)) ρ k →
 (∀ ρ' σ' G',k ρ'→aM G G'→R C M.ow G' ρ' σ' H pd→K σ' H)→g (T.map (·.2)) σ H K
structure QGF (X:Cx) (M:Md) (e:List Expr) (m:MGs):Prop where
 ex:∃ t,PGs X e t∧SGF M t m
section
variable {X:Cx} {M:Md} {a b c e:Expr} {ma mb mc:ME} {pos pos':Pos} {mr:MA} {es:List Expr} {mgs:MGs}
theorem mN:QGF X M [] mM:=⟨_,jy,fun C G ρ σ H T pd k K hm hn r h kk=>by
 cases T with
 | nil=>exact ⟨rfl,kk _ _ G h (aM.refl _) r⟩
 | cons _ _=>exact h.elim⟩
theorem jf {i:Nat} {x:Str} (hN:X.N.Nodup) (hi:X.N[i]? = some x) (hx:Loc X.env.scope x) (h2:QGF X M es mgs) (ho:M.ow[i]? = some true:=by decide) (hu:M.mu[i]?≠some true:=by decide) (hf:X.fn x=true∨X.env.scope.names.lookup x=some .local:=by first | exact .inl rfl | exact .inr rfl | assumption)
 (hs:(assignEach (.Name x pos :: es) X.env).map (·.2)=assign (.Name x pos) X.env :: (assignEach es X.env).map (·.2):=by rfl):QGF X M (.Name x pos :: es) (hE (gZ i) mgs):=by
 obtain ⟨t2,p2,s2⟩:=h2
 refine ⟨_,eI (bc hN hi hx hf) p2 hs,fun C G ρ σ H T pd k K hm hn r h kk=>?_⟩
 cases T with
 | nil=>exact h.elim
 | cons x T =>
  obtain ⟨O,r⟩:=r
  exact ⟨_,_,rfl,s2 C G _ _ H T pd k K hm hn (r.setO ho (hm.no hu) (by simp; omega)) h kk⟩
theorem oR {i:Nat} {x:Str} (hN:X.N.Nodup) (hi:X.N[i]? = some x) (hx:Loc X.env.scope x) (h2:QGF X M es mgs) (ho:M.ow[i]?≠some true:=by decide) (hu:M.mu[i]?≠some true:=by decide) (hf:X.fn x=true∨X.env.scope.names.lookup x=some .local:=by first | exact .inl rfl | exact .inr rfl | assumption)
 (hs:(assignEach (.Name x pos :: es) X.env).map (·.2)=assign (.Name x pos) X.env :: (assignEach es X.env).map (·.2):=by rfl):QGF X M (.Name x pos :: es) (hE (gZ i) mgs):=by
 obtain ⟨t2,p2,s2⟩:=h2
 refine ⟨_,eI (bc hN hi hx hf) p2 hs,fun C G ρ σ H T pd k K hm hn r h kk=>?_⟩
 cases T with
 | nil=>exact h.elim
 | cons x T =>
  obtain ⟨O,r⟩:=r
  obtain ⟨G2,z2,⟨O2,r2⟩,p⟩:=r.share (by simp; omega)
  exact ⟨_,_,rfl,s2 C G2 _ _ H T pd k K hm hn ⟨O2,r2.setS ho (hm.no hu) p⟩ h fun ρ' σ' G' hk z r'=>kk ρ' σ' G' hk (z2.trans z) r'⟩
theorem l_ {kk:Nat} {n:Nat} {tpos:Pos} (hc:X.calm=true) (he:QM X M e ma) (hg:QGF X M es mgs) (ht:iF n mgs)
 (hn:(assignEach es X.env).length=n:=by rfl) (hst:(assignEach es X.env).findIdx? (·.1)=none:=by rfl)
 (hs:swapsWithSole [.Tuple es kk tpos] e pos.line X.env=pure false:=by rfl) (hw:swappedStores [.Tuple es kk tpos] e X.env=pure none:=by rfl)
 (h1:(assignEach [.Tuple es kk tpos] X.env).map (·.2)=[assign (.Tuple es kk tpos) X.env]:=by rfl):QS X M (.Assign [.Tuple es kk tpos] e pos) (mAsg ma (rh mgs)):=by
 obtain ⟨t,p,s⟩:=he; obtain ⟨t2,p2,s2⟩:=hg
 refine ⟨_,lz p (lJ hc p2 hn hst) hs hw h1,fun C G ρ σ H n D hm hn r h k=>s C G ρ σ H [] _ _ hm r h fun d ρ' v G' H' hq z r'=>?_⟩
 cases d with
 | tup ds =>
  obtain ⟨O,r'⟩:=r'
  obtain ⟨a,xs,rfl,h1,h2,r2⟩:=r'.split (by rw [hn]; exact Nat.zero_le _)
  have hl:=ht _ _ _ hq
  have e1:(ds.zip xs).map (·.1)=ds:=List.map_fst_zip (by omega)
  have e2:(ds.zip xs).map (·.2)=xs:=List.map_snd_zip (by omega)
  refine ⟨a,xs,rfl,SqT.of (r2.gh _ _ h1),by omega,?_⟩
  have:=s2 C G' ρ' σ H' (ds.zip xs) [] n.nx D.nx hm (by rw [hn]; exact Nat.zero_le _) r2 (by rw [e1]; exact hq) fun ρ3 σ3 G3 h3 z3 r3=>k.nx ρ3 σ3 G3 H' h3 (z.trans z3) r3
  rw [e2] at this
  exact this
 | _=>exact hq.elim
theorem wU {i:Nat} {x:Str} {apos cpos npos:Pos} {ow:List Bool} (hN:X.N[i]? = some x) (ho:ow[i]? = some true:=by decide)
 (hv:Vis X.env.scope x:=by first | exact Or.inl rfl | exact Or.inr (Or.inl rfl) | exact Or.inr (Or.inr rfl)) (hd:(x == ("__debug__":Str))=false:=by decide) (hcd:(x == ("__classdict__":Str))=false:=by decide)
 (hbase:attributeBase (.Name x npos) "pop" X.env (eval (.Name x npos) X.env)=eval (.Name x npos) X.env:=by rfl) (hline:(apos.endLine == cpos.line)=true:=by rfl) :
 QE X ow (.Call (.Attribute (.Name x npos) "pop" apos) [] [] cpos) (mPop i):=by
 refine ⟨_,wb PySem.F.plainAttrs_list PySem.F.slot_list_pop PySem.F.type_list_pop vQ (d5 hN hv hd hcd) hbase hline,fun C G ρ σ H pd q Q r h k=>?_⟩
 unfold mPop at h
 split at h
 ·rename_i ds e1
  split at h
  ·rename_i d e2
   obtain ⟨O,ro⟩:=r
   obtain ⟨a,xs,h1,h2,h3,h4⟩:=ro.write e1 ho
   obtain ⟨v,h5,h6⟩:=h3.at e2
   have hl:=h3.length
   refine ⟨.ref a,h1,.inl ⟨rfl,xs,SqL.of h2⟩,a,xs,v,rfl,rfl,h2,by rw [hl]; exact h5,?_⟩
   exact k d _ v G _ h.2 (aM.refl _) (fun j hj=>List.getElem?_set_ne (fun (z:i=j)=>hj (z ▸ ho))) ⟨O,h4 _ _ h3.front⟩ (h6.imm d _ v h.1)
  ·exact h.elim
 ·exact h.elim
end
def rGetL (K:PySem.W.Frag):V→V→Hp→VK→Prop:=fun x y H Q=>∃ p xs i v,x = .ref p∧y = .int i∧SqL K H p xs∧0≤i∧atI xs i=some v∧Q v H
theorem pp {X:Cx}:PGet X (rGetL X.K):=fun pins s σ H o i ov iv Q I ro ri h=>by
 obtain ⟨p,xs,k,v,rfl,rfl,hS,h0,ha,q⟩:=h
 cases ro
 obtain ⟨t,rfl⟩:=ri
 obtain ⟨its,r,pl,hz⟩:=I.list hS
 obtain ⟨j,h1,h2,h3,h4,h5⟩:=f8 ha
 obtain ⟨w,ew,rw'⟩:=r.get h2
 have hn:=fE
 have hj:k.toNat=j:=by
  rw [seqIndex_of h0 h5] at h1
  exact Option.some.inj h1
 exact wpAny_getItem_list pl.isList h0 (by omega) (by rw [hj]; simpa using ew) ⟨v,H,I,rw',q⟩
section
variable {X:Cx} {M:Md} {a b c e:Expr} {ma mb mc:ME} {pos pos':Pos}
def tT (i:Nat) (mk m:ME):MS:=fun n ρ=>match ρ[i]? with
 | some (some (.lst _))=>mk ρ fun k ρ1=>match k with
  | .int j=>match ρ1[i]? with
   | some (some (.lst ds))=>0≤j∧match atI ds j with
    | some (.int x)=>m ρ1 fun d ρ2=>match d with
     | .int y=>match ρ2[i]? with
      | some (some (.lst ds2))=>match ixN ds2.length j with
       | some p=>n.nx (ρ2.set i (some (.lst (ds2.set p (.int (x + y))))))
       | none=>False
      | _=>False
     | _=>False
    | _=>False
   | _=>False
  | _=>False
 | _=>False
theorem sm {i:Nat} {x:Str} {npos spos:Pos} (hN:X.N[i]? = some x) (he:QE X M.ow e ma) (hk:QE X M.ow b mb) (ho:M.ow[i]? = some true:=by decide)
 (hv:Vis X.env.scope x:=by first | exact Or.inl rfl | exact Or.inr (Or.inl rfl) | exact Or.inr (Or.inr rfl)) (hd:(x == ("__debug__":Str))=false:=by decide) (hcd:(x == ("__classdict__":Str))=false:=by decide)
 (ha:∀ ov iv new,augStore b ov iv new=(do holding [new,ov,iv] (setItem ov iv new); release [new,ov,iv] []; pure .next):=by intros; rfl) :
 QS X M (.AugAssign (.Subscript (.Name x npos) b spos) .Add e pos) (tT i mb ma):=by
 obtain ⟨t,p,s⟩:=he; obtain ⟨t2,p2,s2⟩:=hk
 refine ⟨_,so (d5 hN hv hd hcd) p2 pp p ww ku ha,fun C G ρ σ H n D hm hn r h k=>?_⟩
 unfold tT at h
 split at h
 ·rename_i ds0 e0
  obtain ⟨O0,ro⟩:=r
  obtain ⟨a,xs0,hu,g0,_,_⟩:=ro.write e0 ho
  refine ⟨.ref a,hu,?_⟩
  refine s2 C G ρ σ H [] _ _ ⟨O0,ro⟩ h fun dk ρ1 jv G1 H1 hq1 z1 kp1 r1 pj=>?_
  cases dk with
  | int j =>
   dsimp only at hq1
   split at hq1
   ·rename_i ds1 e1
    obtain ⟨j0,hq1⟩:=hq1
    obtain ⟨O1,r1⟩:=r1
    obtain ⟨a1,xs1,hu1,g1,g2,_⟩:=r1.write e1 ho
    rw [hu] at hu1; cases hu1
    split at hq1
    ·rename_i x ex
     have exx:=ex
     obtain ⟨jj,q1,q2,q3,q4,q5⟩:=f8 ex
     obtain ⟨v,w1,w2⟩:=g2.at q2
     have hv:atI xs1 j=some v:=by
      unfold atI at ex ⊢
      rw [g2.length]
      cases z:ixN ds1.length j with
      | none=>rw [z] at ex; cases ex
      | some j' =>
       have:j'=jj:=by
        have:=(je z).1; rw [this] at q1; exact Option.some.inj q1
       subst this; exact w1
     have hv2:v = .int x:=by rw [Sep] at w2; exact w2
     subst hv2
     refine ⟨a,xs1,j,.int x,rfl,az pj,SqL.of g1,j0,hv,?_⟩
     refine s C G1 ρ1 σ H1 [] _ _ ⟨O1,r1⟩ hq1 fun dy ρ2 yv G2 H2 hq2 z2 kp2 r2 py=>?_
     cases dy with
     | int y =>
      dsimp only at hq2
      split at hq2
      ·rename_i ds2 e2
       split at hq2
       ·rename_i pl e3
        obtain ⟨O2,r2⟩:=r2
        obtain ⟨a2,xs2,f1,f2,f3,f4⟩:=r2.write e2 ho
        rw [hu] at f1; cases f1
        refine ⟨x,y,rfl,az py,a,xs2,j,pl,rfl,az pj,f2,by rw [f3.length]; exact e3,?_⟩
        exact k.nx _ _ G2 _ hq2 (z1.trans z2) ⟨O2,f4 _ _ (f3.set (by rw [Sep]))⟩
       ·exact hq2.elim
      ·exact hq2.elim
     | _=>exact hq2.elim
    ·exact hq1.elim
   ·exact hq1.elim
  | _=>exact hq1.elim
 ·exact h.elim
end
section
variable {X:Cx} {ow:List Bool} {elt tg iter:Expr} {ifs:List Expr} {pos:Pos} {mi:MA} {mg:MG} {mt:MT} {me:ME} {scope:Scope} {cl:List (Str×Addr)}
end
def tRev (K:PySem.W.Frag) (te:TE):TE:=fun σ H Q=>te σ H fun x H1=>∃ a xs,x = .ref a∧SqL K H1 a xs∧∀ p,H1 p=none→Q (.ref p) (upd H1 p (.lst xs.reverse))
section
variable {X:Cx} {M:Md} {a b c e:Expr} {ma mb mc:ME} {pos pos' p1 p2 p3:Pos} {te:TE} {j1:Nat} {ow:List Bool}
theorem vw (he:PE X e te):PE X (.Subscript e (.Slice none none (some (.UnaryOp .USub (.Constant (.int 1) j1 p1) p2)) p3) pos) (tRev X.K te):=by
 refine ⟨?_⟩; intro pins s σ H Q I h
 refine Subscript_ (thn (he pins s σ H _ I h) fun v s1 ⟨x,H1,I1,r1,q1⟩=>?_)
 obtain ⟨l,xs,rfl,hx,q⟩:=q1
 cases r1
 refine wpAny_Slice ?_
 rw [evalPart_none]
 refine wpAny_pure (wpAny_pure ?_)
 rw [evalPart_some]
 have step:=(tJ (X:=X) (pos:=p2) qT (lV (X:=X) (i:=1) (j:=j1) (pos:=p1))).go pins s1 σ H1 (fun v H'=>v = .int (-1)∧H'=H1) I1 ⟨1,rfl,rfl,rfl⟩
 refine thn step fun vs s3 ⟨y,H3,I3,ry,ey,eH⟩=>?_
 subst ey; subst eH
 obtain ⟨t,rfl⟩:=ry
 have I4:Inv X pins σ H3 { s3 with heap:=s3.heap.push { cls:=.type "slice",data:=.fields #[.none,.none,.int (-1) t] } }:=I3.kept (t':=s3.toks) fun b ob z=>Heap.get?_push_of_some _ z
 obtain ⟨its,r,ht,hz⟩:=I4.list hx
 have hlen:=r.length
 show wpAny (model X.prog X.w) X.A (subscriptTail e (.Slice none none (some (.UnaryOp .USub (.Constant (.int 1) j1 p1) p2)) p3) (.ref l) (.ref s3.heap.objs.size)) (EP X pins σ Q) X.xe { s3 with heap:=s3.heap.push { cls:=.type "slice",data:=.fields #[.none,.none,.int (-1) t] } }
 refine tail_any (ops:=[.ref l,.ref s3.heap.objs.size]) ht.isList.typeIs slot_list_getitem.lookup ?_ (by with_unfolding_all rfl)
 refine wpAny_getItem_list_slice ht.isList (Heap.IsSliceOf.new ..) .none .none (.int (-1) t) (by simp) ?_ (by rw [List.size_toArray] <;> omega)
 rw [PySem.W.krv_pick]
 refine ⟨.ref _,_,I4.laid (t':=s3.toks) (o:=.lst xs.reverse) (fun b ob z=>Heap.get?_push_of_some _ z) (Nat.le_refl _) ?_,rfl,q _ (I4.hok.fresh (Nat.le_refl _))⟩
 exact ⟨by rw [List.length_reverse]; exact hz,its.reverse,0,r.reverse,Heap.get?_push_size _ rfl⟩
theorem fR {G:Hp}:∀ {ds:List D} {xs:List V},Reps G ds xs→Reps G ds.reverse xs.reverse
 | [],xs,h=>by rw [Reps] at h; subst h; exact bN
 | d :: ds,xs,h=>by
  rw [Reps] at h
  obtain ⟨v,vs,rfl,h1,h2⟩:=h
  rw [List.reverse_cons,List.reverse_cons]
  exact eD (fR h2) (bQ h1 bN)
def mRev (m:ME):ME:=fun ρ q=>m ρ fun d ρ'=>match d with
 | .lst ds=>imms ds=true∧q (.lst ds.reverse) ρ'
 | _=>False
theorem ky:∀ {a b:List D},imms a=true→imms b=true→imms (a++b)=true
 | [],b,_,h=>h
 | d :: a,b,h,h2=>by rw [imms,Bool.and_eq_true] at h; rw [List.cons_append,imms,h.1,ky h.2 h2]; rfl
theorem ki:∀ {a:List D},imms a=true→imms a.reverse=true
 | [],_=>rfl
 | d :: a,h=>by rw [imms,Bool.and_eq_true] at h; rw [List.reverse_cons]; exact ky (ki h.2) (by rw [imms,h.1]; rfl)
theorem wn (h:QE X ow e ma):QF X ow (.Subscript e (.Slice none none (some (.UnaryOp .USub (.Constant (.int 1) j1 p1) p2)) p3) pos) (mRev ma):=by
 obtain ⟨t,p,s⟩:=h
 refine ⟨_,vw p,fun C G ρ σ H pd q Q r hm k=>s C G ρ σ H pd _ _ r hm fun d ρ' v G' H' hq z kp r' p=>?_⟩
 cases d with
 | lst ds =>
  obtain ⟨l,xs,rfl,h1,h2⟩:=a_ p
  refine ⟨l,xs,rfl,SqL.of (r'.gh _ _ h1),fun b hb=>?_⟩
  obtain ⟨O,r'⟩:=r'
  exact k _ ρ' _ _ _ hq.2 z kp (r'.newL hb (ki hq.1) (fR h2))
 | _=>exact hq.elim
end
def isW:D→Bool
 | .int _=>true
 | _=>false
def btw (lo hi:Int):D→Bool
 | .int i=>decide (lo≤i)&&decide (i≤hi)
 | _=>false
structure Tree (ps rs:List Int):Prop where
 len:ps.length=rs.length
 lo : 1≤ps.length
 hi:ps.length≤23
 par:∀ (i:Nat) (x:Int),ps[i]? = some x→0≤x∧x≤i
 room:∀ (i:Nat) (x:Int),rs[i]? = some x→1≤x∧x≤1000000
def r_:SpD:=fun ds q=>∃ d,ds=[d]∧d.isS=false∧q (.bl (isW d)) []
def nN:SpD:=fun ds q=>∃ d lo hi,ds=[d,.int lo,.int hi]∧d.isS=false∧q (.bl (btw lo hi d)) []
def uo:SpD:=fun ds q=>∃ ps rs,ds=[aK ps rs]∧Tree ps rs∧q (.bl true) []
def wS:SpD:=fun ds q=>∃ ps rs,ds=[aK ps rs]∧Tree ps rs∧q .non []
def l5 (ns:List Int) (k:Int):Int:=ns.getD k.toNat 0
def mx (K:PySem.W.Frag) (φ:Addr→Prop) (ns:List Int):Prop:=∀ a H,φ a→SqL K H a (ns.map V.int)
def wm (K:PySem.W.Frag):SpD:=fun ds q=>∃ φ ns k,ds=[.scr φ ns,.int k]∧mx K φ ns∧0≤k∧q (.int (l5 ns k)) []
def uO (K:PySem.W.Frag):SpD:=fun ds q=>∃ φ ns k,ds=[.scr φ ns,.int k]∧mx K φ ns∧0≤k∧k≤1000∧∀ c m,0≤c→q (ar [c,m]) []
def uM:SpD:=fun ds q=>∃ c m many,ds=[ar [c,m],.int many]∧0≤c∧0<many∧Sm many∧∀ r c' m',0≤r→r<many→0≤c'→q (.int r) [some (ar [c',m'])]
def o6 (K:PySem.W.Frag):SpD:=fun ds q=>∃ φ ns,ds=[.scr φ ns]∧mx K φ ns∧ns.length≤63∧q (.bl true) []
theorem bi {ns:List Int} {k:Int} (h0 : 0≤k) (h1:k<ns.length):atI (ns.map D.int) k=some (.int (ns.getD k.toNat 0)):=by
 have ek:k=((k.toNat:Nat):Int):=by omega
 have hl:k.toNat<ns.length:=by omega
 have:atI (ns.map D.int) ((k.toNat:Nat):Int)=some (.int (ns.getD k.toNat 0)):=f7 (by rw [List.getElem?_map,List.getD_eq_getElem?_getD,List.getElem?_eq_getElem hl]; rfl)
 rw [← ek] at this
 exact this
theorem uC {ns:List Int} {k:Int} (h0 : 0≤k) (h1:k<ns.length):atI ns k=some (ns.getD k.toNat 0):=by
 have ek:k=((k.toNat:Nat):Int):=by omega
 have hl:k.toNat<ns.length:=by omega
 have:atI ns ((k.toNat:Nat):Int)=some (ns.getD k.toNat 0):=f7 (by rw [List.getD_eq_getElem?_getD,List.getElem?_eq_getElem hl]; rfl)
 rw [← ek] at this
 exact this
theorem aI {ds:List D} {k:Int} {d:D} {q:D→Prop} (h:atI ds k=some d) (hq:q d):atD ds k q:=by unfold atD; rw [h]; exact hq
theorem cR {ns:List Int} {i:Nat} {d:D} (h:(ns.map D.int)[i]? = some d):∃ z,ns[i]? = some z∧d = .int z:=by
 rw [List.getElem?_map] at h
 cases e:ns[i]? with
 | none=>rw [e] at h; cases h
 | some z=>rw [e] at h; exact ⟨z,rfl,(Option.some.inj h).symm⟩
theorem e9 {lo hi z:Int} (h1:lo≤z) (h2:z≤hi):btw lo hi (.int z)=true:=by show (decide (lo≤z)&&decide (z≤hi))=true; rw [decide_eq_true h1,decide_eq_true h2]; rfl
abbrev bT (ps:List Int) (k:Int):Int:=ps.getD (k - 1).toNat 0
theorem Tree.up {ps rs:List Int} (hT:Tree ps rs) {k:Int} (h0 : 0<k) (h1:k≤ps.length) : 0≤bT ps k∧bT ps k<k:=by
 have hl:(k - 1).toNat<ps.length:=by omega
 have e:ps[(k - 1).toNat]? = some (bT ps k):=by unfold bT; rw [List.getD_eq_getElem?_getD,List.getElem?_eq_getElem hl]; rfl
 have:=hT.par _ _ e
 omega
inductive Up (ps:List Int):Int→List Int→Prop
 | zero:Up ps 0 [0]
 | step {k:Int} {u:List Int} (h : 0<k):Up ps (bT ps k) u→Up ps k (k :: u)
theorem Up.det {ps:List Int} {k:Int} {u:List Int} (h:Up ps k u):∀ {v:List Int},Up ps k v→u=v:=by
 induction h with
 | zero=>intro v h; cases h with | zero=>rfl | step h0 _=>omega
 | step h0 _ ih=>intro v h; cases h with | zero=>omega | step _ h=>rw [ih h]
theorem Up.all {ps rs:List Int} (hT:Tree ps rs):∀ (n:Nat) (k:Int),k.toNat=n→0≤k→k≤ps.length→∃ u,Up ps k u
 | n,k,hn,h0,h1=>by
  by_cases hk:k=0
  ·subst hk; exact ⟨_,.zero⟩
  ·have hp:=hT.up (k:=k) (by omega) h1
   obtain ⟨u,hu⟩:=Up.all hT (bT ps k).toNat (bT ps k) rfl hp.1 (by omega)
   exact ⟨_,.step (by omega) hu⟩
termination_by n k hn=>n
decreasing_by omega
theorem Up.le {ps rs:List Int} (hT:Tree ps rs) {k:Int} {u:List Int} (h:Up ps k u):k≤ps.length→∀ x∈u,0≤x∧x≤k:=by
 induction h with
 | zero=>intro _ x hx; simp at hx; omega
 | step h0 _ ih =>
  intro h1 x hx
  have hp:=hT.up h0 h1
  rcases List.mem_cons.mp hx with rfl | hx
  ·omega
  ·have:=ih (by omega) x hx; omega
theorem Up.dec {ps rs:List Int} (hT:Tree ps rs) {k:Int} {u:List Int} (h:Up ps k u):k≤ps.length→u.Pairwise (· > ·):=by
 induction h with
 | zero=>intro _; simp
 | step h0 hu ih =>
  intro h1
  have hp:=hT.up h0 h1
  refine List.pairwise_cons.mpr ⟨fun x hx=>?_,ih (by omega)⟩
  have:=hu.le hT (by omega) x hx
  omega
theorem Up.len {ps rs:List Int} (hT:Tree ps rs) {k:Int} {u:List Int} (h:Up ps k u):k≤ps.length→(u.length:Int)≤k + 1:=by
 induction h with
 | zero=>intro _; simp
 | step h0 hu ih=>intro h1; have hp:=hT.up h0 h1; have:=ih (by omega); simp; omega
theorem Up.head {ps:List Int} {k:Int} {u:List Int} (h:Up ps k u):k∈u:=by cases h <;> simp
inductive Climb (ps:List Int):Int→Int→List Int→Int→Prop
 | same (a:Int):Climb ps a a [] a
 | left {a b:Int} {w:List Int} {m:Int} (h:b<a):Climb ps b (bT ps a) w m→Climb ps a b (a :: w) m
 | right {a b:Int} {w:List Int} {m:Int} (h:a<b):Climb ps a (bT ps b) w m→Climb ps a b (b :: w) m
theorem Climb.meet {ps rs:List Int} (hT:Tree ps rs) {a b m:Int} {w:List Int} (h:Climb ps a b w m) : 0≤a→0≤b→a≤ps.length→b≤ps.length→∀ {ua ub:List Int},Up ps a ua→Up ps b ub→m∈ua∧m∈ub∧∀ x∈ua,x∈ub→x≤m:=by
 induction h with
 | same a=>intro a0 _ a1 _ ua ub ha hb; have:=ha.det hb; subst this; exact ⟨ha.head,ha.head,fun x hx _=>(ha.le hT a1 x hx).2⟩
 | left hlt hc ih =>
  intro a0 b0 a1 b1 ua ub ha hb
  cases ha with
  | zero=>omega
  | step h0 hu =>
   have hp:=hT.up h0 a1
   obtain ⟨m1,m2,m3⟩:=ih b0 hp.1 b1 (by omega) hb hu
   refine ⟨List.mem_cons_of_mem _ m2,m1,fun x hx hxb=>?_⟩
   rcases List.mem_cons.mp hx with rfl | hx
   ·have:=(hb.le hT b1 _ hxb).2; omega
   ·exact m3 x hxb hx
 | right hlt hc ih =>
  intro a0 b0 a1 b1 ua ub ha hb
  cases hb with
  | zero=>omega
  | step h0 hu =>
   have hp:=hT.up h0 b1
   obtain ⟨m1,m2,m3⟩:=ih a0 hp.1 a1 (by omega) ha hu
   refine ⟨m1,List.mem_cons_of_mem _ m2,fun x hx hxb=>?_⟩
   rcases List.mem_cons.mp hxb with rfl | hxb
   ·have:=(ha.le hT a1 _ hx).2; omega
   ·exact m3 x hx hxb
theorem Climb.low {ps rs:List Int} (hT:Tree ps rs) {a b m:Int} {w:List Int} (h:Climb ps a b w m) : 0≤a→0≤b→a≤ps.length→b≤ps.length→0≤m∧m≤a∧m≤b:=by
 induction h with
 | same a=>intro a0 _ _ _; omega
 | left hlt hc ih=>intro a0 b0 a1 b1; have hp:=hT.up (show 0<_ by omega) a1; have:=ih b0 hp.1 b1 (by omega); omega
 | right hlt hc ih=>intro a0 b0 a1 b1; have hp:=hT.up (show 0<_ by omega) b1; have:=ih a0 hp.1 a1 (by omega); omega
theorem Climb.perm {ps rs:List Int} (hT:Tree ps rs) {a b m:Int} {w:List Int} (h:Climb ps a b w m) : 0≤a→0≤b→a≤ps.length→b≤ps.length→∀ {ua ub um:List Int},Up ps a ua→Up ps b ub→Up ps m um→w.Perm ((ua++ub).filter fun x=>!um.contains x):=by
 induction h with
 | same a =>
  intro a0 _ a1 _ ua ub um ha hb hm
  have:=ha.det hb; subst this
  have:=ha.det hm; subst this
  have:(ua++ua).filter (fun x=>!ua.contains x)=[]:=by
   rw [List.filter_eq_nil_iff]; intro x hx; simp at hx; simp [hx]
  rw [this]
 | @left a b w m hlt hc ih =>
  intro a0 b0 a1 b1 ua ub um ha hb hm
  cases ha with
  | zero=>omega
  | step h0 hu =>
   have hp:=hT.up h0 a1
   have hl:=hc.low hT b0 hp.1 b1 (by omega)
   have ih':=ih b0 hp.1 b1 (by omega) hb hu hm
   have hn : ¬ um.contains a=true:=fun z=>by
    have:=(hm.le hT (by omega) _ (List.contains_iff_mem.mp z)).2
    omega
   rw [List.cons_append,List.filter_cons_of_pos (by simpa using hn)]
   refine List.Perm.cons _ (ih'.trans ?_)
   exact List.Perm.filter _ List.perm_append_comm
 | @right a b w m hlt hc ih =>
  intro a0 b0 a1 b1 ua ub um ha hb hm
  cases hb with
  | zero=>omega
  | step h0 hu =>
   have hp:=hT.up h0 b1
   have hl:=hc.low hT a0 hp.1 a1 (by omega)
   have ih':=ih a0 hp.1 a1 (by omega) ha hu hm
   have hn : ¬ um.contains b=true:=fun z=>by
    have:=(hm.le hT (by omega) _ (List.contains_iff_mem.mp z)).2
    omega
   refine (List.Perm.cons _ ih').trans ?_
   refine List.Perm.trans ?_ (List.Perm.filter _ (List.perm_middle (l₁:=_)).symm)
   rw [List.filter_cons_of_pos (by simpa using hn)]
theorem Climb.mem {ps rs:List Int} (hT:Tree ps rs) {a b m:Int} {w:List Int} (h:Climb ps a b w m) : 0≤a→0≤b→a≤ps.length→b≤ps.length→∀ x∈w,0<x∧x≤ps.length:=by
 induction h with
 | same a=>intro _ _ _ _ x hx; cases hx
 | left hlt hc ih =>
  intro a0 b0 a1 b1 x hx
  have hp:=hT.up (show 0<_ by omega) a1
  rcases List.mem_cons.mp hx with rfl | hx
  ·omega
  ·exact ih b0 hp.1 b1 (by omega) x hx
 | right hlt hc ih =>
  intro a0 b0 a1 b1 x hx
  have hp:=hT.up (show 0<_ by omega) b1
  rcases List.mem_cons.mp hx with rfl | hx
  ·omega
  ·exact ih a0 hp.1 a1 (by omega) x hx
theorem Climb.len {ps rs:List Int} (hT:Tree ps rs) {a b m:Int} {w:List Int} (h:Climb ps a b w m) : 0≤a→0≤b→a≤ps.length→b≤ps.length→(w.length:Int)≤a + b:=by
 induction h with
 | same a=>intro _ _ _ _; simp; omega
 | left hlt hc ih=>intro a0 b0 a1 b1; have hp:=hT.up (show 0<_ by omega) a1; have:=ih b0 hp.1 b1 (by omega); simp; omega
 | right hlt hc ih=>intro a0 b0 a1 b1; have hp:=hT.up (show 0<_ by omega) b1; have:=ih a0 hp.1 a1 (by omega); simp; omega
theorem Climb.det {ps:List Int} {a b m:Int} {w:List Int} (h:Climb ps a b w m):∀ {m':Int} {w':List Int},Climb ps a b w' m'→w=w'∧m=m':=by
 induction h with
 | same a=>intro m' w' h; cases h with | same=>exact ⟨rfl,rfl⟩ | left h _=>omega | right h _=>omega
 | left hlt hc ih=>intro m' w' h; cases h with | same=>omega | left _ h=>have:=ih h; exact ⟨by rw [this.1],this.2⟩ | right h _=>omega
 | right hlt hc ih=>intro m' w' h; cases h with | same=>omega | right _ h=>have:=ih h; exact ⟨by rw [this.1],this.2⟩ | left h _=>omega
theorem Climb.all' {ps rs:List Int} (hT:Tree ps rs):∀ (n:Nat) (a b:Int),(a + b).toNat=n→0≤a→0≤b→a≤ps.length→b≤ps.length→∃ w m,Climb ps a b w m
 | n,a,b,hn,a0,b0,a1,b1=>by
  by_cases h1:b<a
  ·have hp:=hT.up (show 0<a by omega) a1
   obtain ⟨w,m,h⟩:=Climb.all' hT (b + bT ps a).toNat b (bT ps a) rfl b0 hp.1 b1 (by omega)
   exact ⟨_,_,.left h1 h⟩
  ·by_cases h2:a<b
   ·have hp:=hT.up (show 0<b by omega) b1
    obtain ⟨w,m,h⟩:=Climb.all' hT (a + bT ps b).toNat a (bT ps b) rfl a0 hp.1 a1 (by omega)
    exact ⟨_,_,.right h2 h⟩
   ·have:a=b:=by omega
    subst this
    exact ⟨_,_,.same a⟩
termination_by n=>n
decreasing_by all_goals omega
theorem Climb.all {ps rs:List Int} (hT:Tree ps rs) {a b:Int} (a0 : 0≤a) (b0 : 0≤b) (a1:a≤ps.length) (b1:b≤ps.length):∃ w m,Climb ps a b w m:=Climb.all' hT _ a b rfl a0 b0 a1 b1
theorem ng {l:List Int} {p:Int→Bool} {m:Int} (hd:l.Pairwise (· > ·)) (hm:m∈l) (hp:p m=true) (hx:∀ x∈l,p x=true→x≤m):∃ r,l.filter p=m :: r:=by
 induction l with
 | nil=>cases hm
 | cons y l ih =>
  rw [List.pairwise_cons] at hd
  rcases List.mem_cons.mp hm with rfl | hm
  ·exact ⟨_,List.filter_cons_of_pos hp⟩
  ·have hy : ¬ p y=true:=fun z=>by
    have:=hx y (.head _) z
    have:=hd.1 m hm
    omega
   rw [List.filter_cons_of_neg hy]
   exact ih hd.2 hm fun x h=>hx x (List.mem_cons_of_mem _ h)
structure Ends2 (ps:List Int) (a b:Int):Prop where
 a0 : 0≤a
 a1:a≤ps.length
 b0 : 0≤b
 b1:b≤ps.length
 ne:a≠b
def rW:SpD:=fun ds q=>∃ ps rs d,ds=[aK ps rs,d]∧d.isS=false∧q (.bl (btw 0 ps.length d)) []
def uR:SpD:=fun ds q=>∃ ps rs a b,ds=[aK ps rs,.int a,.int b]∧Ends2 ps a b∧q (.bl true) []
def lQ:SpD:=fun ds q=>∃ ps rs a b,ds=[aK ps rs,.int a,.int b]∧Tree ps rs∧Ends2 ps a b∧q .non []
def rO:SpD:=fun ds q=>∃ ps rs a b,ds=[aK ps rs,.int a,.int b]∧Tree ps rs∧0≤a∧a≤ps.length∧0≤b∧b≤ps.length∧∀ w m,Climb ps a b w m→q (.tup [ar (bH w),.int m]) []
def sdWay:SpD:=fun ds q=>∃ ps rs a b,ds=[aK ps rs,.int a,.int b]∧Tree ps rs∧Ends2 ps a b∧∀ w m,Climb ps a b w m→q (ar (bH w)) []
def wB:SpD:=fun ds q=>∃ ps rs a b,ds=[aK ps rs,.int a,.int b]∧Tree ps rs∧Ends2 ps a b∧∀ w m,Climb ps a b w m→q (.int m) []
def sV:SpD:=fun ds q=>∃ ps rs a b,ds=[aK ps rs,.int a,.int b]∧Tree ps rs∧0≤a∧a≤ps.length∧0≤b∧b≤ps.length∧∀ w m,Climb ps a b w m→q (.int m) []
def uw:SpD:=fun ds q=>∃ ps rs a b,ds=[aK ps rs,.int a,.int b]∧Tree ps rs∧0≤a∧a≤ps.length∧0≤b∧b≤ps.length∧∀ w m,Climb ps a b w m→q (ar (bH w)) []
def pH (ps w:List Int) (m:Int):List Int:=(bH w).filter fun x=>decide (bT ps x=m)
def uY:SpD:=fun ds q=>∃ ps rs a b,ds=[aK ps rs,.int a,.int b]∧Tree ps rs∧Ends2 ps a b∧∀ w m,Climb ps a b w m→q (ar (pH ps w m)) []
def sdUp:SpD:=fun ds q=>∃ ps rs k,ds=[aK ps rs,.int k]∧Tree ps rs∧0≤k∧k≤ps.length∧∀ u,Up ps k u→q (ar u) []
theorem cG (ps:List Int) (y:Int):D.lst (ps.map D.int++[D.int y])=ar (ps++[y]):=by unfold ar; rw [List.map_append]; rfl
theorem au (ps:List Int):(ps.map D.int).length=ps.length:=List.length_map _
theorem ra {ns:List Int} {k:Nat} (h:k<ns.length):ns.getD k 0∈ns:=by rw [List.getD_eq_getElem?_getD,List.getElem?_eq_getElem h]; exact List.getElem_mem h
theorem s8 {P:Nat→Int→Prop} {ps:List Int} {y:Int} (h:∀ (j:Nat) (x:Int),ps[j]? = some x→P j x) (hy:P ps.length y):∀ (j:Nat) (x:Int),(ps++[y])[j]? = some x→P j x:=by
 intro j x hj
 by_cases hjl:j<ps.length
 ·rw [List.getElem?_append_left hjl] at hj; exact h j x hj
 ·rw [List.getElem?_append_right (by omega)] at hj
  cases e:j - ps.length with
  | zero => rw [e] at hj; have:y = x:=by simpa using hj
            subst this; rw [show j=ps.length by omega]; exact hy
  | succ q=>rw [e] at hj; simp at hj
def ny (p:Int→Bool):D→Option D
 | .int x=>if p x=true then some (.int x) else none
 | _=>none
theorem dY {p:Int→Bool}:∀ (ns:List Int),(ns.map D.int).filterMap (ny p)=(ns.filter p).map D.int
 | []=>rfl
 | n :: r=>by
  have ih:=dY (p:=p) r
  have e0:ny p (.int n)=if p n=true then some (.int n) else none:=rfl
  cases e:p n with
  | true=>rw [e,if_pos rfl] at e0; rw [List.map_cons,List.filterMap_cons,e0,List.filter_cons_of_pos e,List.map_cons,← ih]
  | false=>rw [e,if_neg (by decide)] at e0; rw [List.map_cons,List.filterMap_cons,e0,List.filter_cons_of_neg (by rw [e]; decide),← ih]
theorem iM (ns:List Int):(ns.map D.int).all dM=true:=by
 induction ns with
 | nil=>rfl
 | cons n r ih=>rw [List.map_cons,List.all_cons,ih]; rfl
theorem ka (x:Int) (ns:List Int):inD (.int x) (ns.map D.int)=ns.contains x:=by
 unfold inD
 induction ns with
 | nil=>rfl
 | cons n r ih =>
  rw [List.map_cons,List.any_cons,ih,List.contains_cons]
  show ((n == x)||_)=_
  rw [Bool.beq_comm]
theorem cw {ns:List Int} {d:D} (h:d∈ns.map D.int):∃ x∈ns,d = .int x:=by
 obtain ⟨x,h1,h2⟩:=List.mem_map.mp h
 exact ⟨x,h1,h2.symm⟩
theorem cx (ns:List Int):okD (ar ns)=true:=jY ns
theorem eqDi (ns ms:List Int):eqD (ar ns) (ar ms)=decide (ns=ms):=rd ns ms
theorem atI0 {α:Type} (x : α) (r:List α):atI (x :: r) 0=some x:=f7 (j:=0) rfl
def lay:Nat→D→Bool
 | _,.int _=>true
 | _,.bl _=>true
 | _,.non=>true
 | n + 1,.tup ds=>ds.all (lay n)
 | n + 1,.lst ds=>ds.all (lay n)
 | _,_=>false
theorem i_ {n:Nat} (ih:∀ d,lay n d=true→(toP d).canLay0=true∧(toP d).depth≤n + 1):∀ ds:List D,ds.all (lay n)=true→PyData.canLayAll0 (toPs ds)=true∧PyData.depthAll (toPs ds)≤n + 1
 | [],_=>by rw [toPs]; simp [PyData.canLayAll0,PyData.depthAll]
 | d :: ds,h=>by
  rw [List.all_cons,Bool.and_eq_true] at h
  have h1:=ih d h.1
  have h2:=i_ ih ds h.2
  rw [toPs]
  simp only [PyData.canLayAll0,PyData.depthAll,h1.1,h2.1,Bool.and_self,true_and]
  omega
theorem lM:∀ (n:Nat) (d:D),lay n d=true→(toP d).canLay0=true∧(toP d).depth≤n + 1
 | n,.int _,_=>by rw [toP]; simp [PyData.canLay0,PyData.depth]
 | n,.bl _,_=>by rw [toP]; simp [PyData.canLay0,PyData.depth]
 | n,.non,_=>by rw [toP]; simp [PyData.canLay0,PyData.depth]
 | n + 1,.tup ds,h=>by
  have:=i_ (lM n) ds (by simpa [lay] using h)
  rw [toP]; simp only [PyData.canLay0,PyData.depth,this.1,true_and]; omega
 | n + 1,.lst ds,h=>by
  have:=i_ (lM n) ds (by simpa [lay] using h)
  rw [toP]; simp only [PyData.canLay0,PyData.depth,this.1,true_and]; omega
 | 0,.tup _,h=>by simp [lay] at h
 | 0,.lst _,h=>by simp [lay] at h
 | n,.str _,h=>by cases n <;> simp [lay] at h
 | n,.dct,h=>by cases n <;> simp [lay] at h
 | n,.dic _ _,h=>by cases n <;> simp [lay] at h
 | n,.obj _ _ _,h=>by cases n <;> simp [lay] at h
 | n,.scr _ _,h=>by cases n <;> simp [lay] at h
 | n,.ext _,h=>by cases n <;> simp [lay] at h
theorem bL {n:Nat} {d:D} (h:lay n d=true) (hn:n≤60):okD d=true:=by
 have:=lM n d h
 unfold okD SeqAt.shaped
 rw [this.1,Bool.true_and]
 exact decide_eq_true (by omega)
theorem jx {n:Nat} (ih:∀ d,lay n d=true→PyData.eqv (toP d) (toP d)=true):∀ ds:List D,ds.all (lay n)=true→PyData.eqvAll (toPs ds) (toPs ds)=true
 | [],_=>by rw [toPs]; simp [PyData.eqvAll]
 | d :: ds,h=>by
  rw [List.all_cons,Bool.and_eq_true] at h
  rw [toPs,PyData.eqvAll,ih d h.1,jx ih ds h.2]; rfl
theorem ca:∀ (n:Nat) (d:D),lay n d=true→eqD d d=true
 | n,.int _,_=>by unfold eqD; rw [toP,PyData.eqv]; simp
 | n,.bl _,_=>by unfold eqD; rw [toP,PyData.eqv]; simp
 | n,.non,_=>by unfold eqD; rw [toP,PyData.eqv]
 | n + 1,.tup ds,h=>by unfold eqD; rw [toP,PyData.eqv]; exact jx (ca n) ds (by simpa [lay] using h)
 | n + 1,.lst ds,h=>by unfold eqD; rw [toP,PyData.eqv]; exact jx (ca n) ds (by simpa [lay] using h)
 | 0,.tup _,h=>by simp [lay] at h
 | 0,.lst _,h=>by simp [lay] at h
 | n,.str _,h=>by cases n <;> simp [lay] at h
 | n,.dct,h=>by cases n <;> simp [lay] at h
 | n,.dic _ _,h=>by cases n <;> simp [lay] at h
 | n,.obj _ _ _,h=>by cases n <;> simp [lay] at h
 | n,.scr _ _,h=>by cases n <;> simp [lay] at h
 | n,.ext _,h=>by cases n <;> simp [lay] at h
theorem gC (n:Nat) (ns:List Int):(ns.map D.int).all (lay n)=true:=by
 rw [List.all_eq_true]; intro d hd; obtain ⟨x,_,rfl⟩:=cw hd; cases n <;> rfl
theorem eZ (n:Nat) (ns:List Int):lay (n + 1) (ar ns)=true:=by unfold ar; rw [lay]; exact gC n ns
theorem nD (n:Nat) (ns ms:List Int):lay (n + 2) (aK ns ms)=true:=by unfold aK; rw [lay,List.all_cons,List.all_cons,eZ,eZ]; rfl
structure Ask where
 one:Int
 other:Int
 size:Int
 worth:Int
def cr (a:Ask):D:=.tup [.int a.one,.int a.other,.int a.size,.int a.worth]
def bh (as:List Ask):D:=.lst (as.map cr)
structure AskOk (ps:List Int) (a:Ask):Prop where
 ends:Ends2 ps a.one a.other
 s0 : 1≤a.size
 s1:a.size≤1000000
 w0 : 1≤a.worth
 w1:a.worth≤1000000000000
structure AsksOk (ps:List Int) (as:List Ask):Prop where
 len:as.length≤30
 ok:∀ a∈as,AskOk ps a
theorem nA (as:List Ask):imms (as.map cr)=true:=by
 induction as with
 | nil=>rfl
 | cons a r ih=>rw [List.map_cons,imms,ih]; rfl
theorem gB (n:Nat) (as:List Ask):lay (n + 2) (bh as)=true:=by
 unfold bh; rw [lay,List.all_eq_true]; intro d hd
 obtain ⟨a,_,rfl⟩:=List.mem_map.mp hd
 rw [cr,lay]
 exact gC n [a.one,a.other,a.size,a.worth]
theorem mO {as:List Ask} {i:Nat} {d:D} (h:(as.map cr)[i]? = some d):∃ a,as[i]? = some a∧d=cr a:=by
 rw [List.getElem?_map] at h
 cases e:as[i]? with
 | none=>rw [e] at h; cases h
 | some z=>rw [e] at h; exact ⟨z,rfl,(Option.some.inj h).symm⟩
def ask0:Ask:=⟨0,0,0,0⟩
theorem eK {as:List Ask} {k:Int} (h0 : 0≤k) (h1:k<as.length):atI (as.map cr) k=some (cr (as.getD k.toNat ask0)):=by
 have ek:k=((k.toNat:Nat):Int):=by omega
 have hl:k.toNat<as.length:=by omega
 have:atI (as.map cr) ((k.toNat:Nat):Int)=some (cr (as.getD k.toNat ask0)):=f7 (by rw [List.getElem?_map,List.getD_eq_getElem?_getD,List.getElem?_eq_getElem hl]; rfl)
 rw [← ek] at this
 exact this
theorem rp {as:List Ask} {k:Nat} (h:k<as.length):as.getD k ask0∈as:=by rw [List.getD_eq_getElem?_getD,List.getElem?_eq_getElem h]; exact List.getElem_mem h
theorem aR (as:List Ask):(as.map cr).length=as.length:=List.length_map _
theorem nM (as:List Ask) (a:Ask):D.lst (as.map cr++[cr a])=bh (as++[a]):=by unfold bh; rw [List.map_append]; rfl
def tj:SpD:=fun ds q=>∃ ps rs a,ds=[aK ps rs,cr a]∧AskOk ps a∧q (.bl true) []
def k_:SpD:=fun ds q=>∃ ps rs as,ds=[aK ps rs,bh as]∧Tree ps rs∧AsksOk ps as∧q .non []
def hX (ps:List Int):Nat→Int→Int→List Int
 | 0,_,_=>[]
 | f + 1,a,b=>if b<a then a :: hX ps f b (bT ps a) else if a<b then b :: hX ps f a (bT ps b) else []
def hU (ps:List Int):Nat→Int→Int→Int
 | 0,a,_=>a
 | f + 1,a,b=>if b<a then hU ps f b (bT ps a) else if a<b then hU ps f a (bT ps b) else a
theorem fK {ps rs:List Int} (hT:Tree ps rs):∀ (f:Nat) (a b:Int),(a + b).toNat≤f→0≤a→0≤b→a≤ps.length→b≤ps.length→Climb ps a b (hX ps f a b) (hU ps f a b)
 | 0,a,b,hf,a0,b0,_,_=>by
  have:a=b:=by omega
  subst this
  exact .same a
 | f + 1,a,b,hf,a0,b0,a1,b1=>by
  unfold hX hU
  by_cases h1:b<a
  ·rw [if_pos h1,if_pos h1]
   have hp:=hT.up (show 0<a by omega) a1
   exact .left h1 (fK hT f b _ (by omega) b0 hp.1 b1 (by omega))
  ·rw [if_neg h1,if_neg h1]
   by_cases h2:a<b
   ·rw [if_pos h2,if_pos h2]
    have hp:=hT.up (show 0<b by omega) b1
    exact .right h2 (fK hT f a _ (by omega) a0 hp.1 a1 (by omega))
   ·rw [if_neg h2,if_neg h2]
    have:a=b:=by omega
    subst this
    exact .same a
def iA (ps:List Int) (a b:Int):List Int:=bH (hX ps 100 a b)
def bW (ps:List Int) (a b:Int):Int:=hU ps 100 a b
theorem Climb.way {ps rs:List Int} (hT:Tree ps rs) {a b m:Int} {w:List Int} (h:Climb ps a b w m) (a0 : 0≤a) (b0 : 0≤b) (a1:a≤ps.length) (b1:b≤ps.length):bH w=iA ps a b∧m=bW ps a b:=by
 have hi:=hT.hi
 have:=h.det (fK hT 100 a b (by omega) a0 b0 a1 b1)
 exact ⟨by rw [this.1]; rfl,this.2⟩
theorem gT {ps rs:List Int} (hT:Tree ps rs) {a b:Int} (a0 : 0≤a) (b0 : 0≤b) (a1:a≤ps.length) (b1:b≤ps.length):∃ w,Climb ps a b w (bW ps a b)∧iA ps a b=bH w:=by
 have hi:=hT.hi
 exact ⟨_,fK hT 100 a b (by omega) a0 b0 a1 b1,rfl⟩
theorem cJ {ps rs:List Int} (hT:Tree ps rs) {a b:Int} (he:Ends2 ps a b) {x:Int} (hx:x∈iA ps a b) : 0<x∧x≤ps.length:=by
 obtain ⟨w,hw,e⟩:=gT hT he.a0 he.b0 he.a1 he.b1
 rw [e] at hx
 exact hw.mem hT he.a0 he.b0 he.a1 he.b1 x ((cj w).mem_iff.mp hx)
def aG (ps:List Int) (a:Ask):List Int:=iA ps a.one a.other
def sj:SpD:=fun ds q=>∃ ps rs a,ds=[aK ps rs,cr a]∧Tree ps rs∧Ends2 ps a.one a.other∧q (ar (aG ps a)) []
def k9 (s:Int) (l:List Int) (t:Int):List Int:=l.set (t - 1).toNat (l.getD (t - 1).toNat 0 + s)
def dZ (l:List Int) (ts:List Int) (s:Int):List Int:=ts.foldl (k9 s) l
theorem p7 (s:Int) (l:List Int) (t:Int):(k9 s l t).length=l.length:=by unfold k9; simp
theorem fH (s:Int):∀ (ts l:List Int),(dZ l ts s).length=l.length
 | [],l=>rfl
 | t :: ts,l=>by show (dZ (k9 s l t) ts s).length=_; rw [fH s ts,p7]
theorem iI (l ts:List Int) (t s:Int):dZ l (ts++[t]) s=k9 s (dZ l ts s) t:=by unfold dZ; rw [List.foldl_append]; rfl
def lu:SpD:=fun ds q=>∃ ps rs a l,ds=[aK ps rs,cr a,ar l]∧Tree ps rs∧Ends2 ps a.one a.other∧l.length=ps.length∧q (ar (dZ l (aG ps a) a.size)) []
theorem dR (n:Nat) (d:D):(List.replicate n [d]).flatten=List.replicate n d:=by
 induction n with
 | zero=>rfl
 | succ n ih=>rw [List.replicate_succ,List.flatten_cons,ih,List.replicate_succ]; rfl
theorem nF (n:Nat) (x:Int):List.replicate n (D.int x)=(List.replicate n x).map D.int:=by rw [List.map_replicate]
theorem fh {n:Nat} {k:Int} (h0 : 0≤k) (h1:k<n):ixN n k=some k.toNat:=by unfold ixN; rw [if_pos h0,if_pos h1]
theorem i4 (l:List Int) (i:Nat) (x:Int):D.lst ((l.map D.int).set i (.int x))=ar (l.set i x):=by unfold ar; rw [List.map_set]
def tw:SpD:=fun ds q=>∃ c m ps rs least most sizes,ds=[ar [c,m],aK ps rs,.int least,.int most,ar sizes]∧0≤c∧Tree ps rs∧0≤least∧least≤most∧most≤30∧1≤sizes.length∧sizes.length≤100∧(∀ s∈sizes,1≤s∧s≤1000000) ∧
 ∀ as c' m',AsksOk ps as→least≤as.length→(as.length:Int)≤most→(∀ a∈as,∃ s∈sizes,a.size≤s)→0≤c'→q (bh as) [some (ar [c',m'])]
theorem lL {ps:List Int} {a r:Int} (a0 : 0≤a) (a1:a<1 + (ps.length:Int)) (r0 : 0≤r) (r1:r<ps.length):Ends2 ps a ((a + 1 + r) % (1 + (ps.length:Int))):=by
 refine ⟨a0,by omega,Int.emod_nonneg _ (by omega),?_,?_⟩
 ·have:=Int.emod_lt_of_pos (a + 1 + r) (show 0<1 + (ps.length:Int) by omega); omega
 ·intro he
  by_cases hlt:a + 1 + r<1 + (ps.length:Int)
  ·rw [Int.emod_eq_of_lt (by omega) hlt] at he; omega
  ·have e:(a + 1 + r) % (1 + (ps.length:Int))=a + 1 + r - (1 + (ps.length:Int)):=by
    rw [← Int.sub_emod_right,Int.emod_eq_of_lt (by omega) (by omega)]
   omega
section
variable {X:Cx}
end
section
variable {X:Cx} {M:Md} {e:Expr} {ma:ME} {pos:Pos}
end
section
variable {X:Cx}
variable {ow:List Bool} {e:Expr} {ma:ME}
end
section
variable {X:Cx}
variable {ow:List Bool} {e:Expr} {ma:ME} {pos p1 p2 p3:Pos}
end
end L2
namespace L2
open PySem
structure DepOk (ps e:List Int) (n:Nat):Prop where
 len:e.length=n + 1
 up:∀ (k:Int) (u:List Int),0≤k→k≤n→Up ps k u→e.getD k.toNat 0 + 1=u.length
theorem dep0 (ps:List Int):DepOk ps [0] 0:=⟨rfl,fun k u h0 h1 hu=>by
 have:k=0:=by omega
 subst this
 cases hu with
 | zero=>rfl
 | step h _=>omega⟩
theorem j6 {ps rs e:List Int} {i:Nat} {z:Int} (hT:Tree ps rs) (hz:ps[i]? = some z) (h:DepOk ps e i):DepOk ps (e++[e.getD z.toNat 0 + 1]) (i + 1):=by
 have hb:=hT.par i z hz
 have hl:=h.len
 refine ⟨by rw [List.length_append,h.len]; rfl,fun k u h0 h1 hu=>?_⟩
 by_cases hk:k≤i
 ·rw [List.getD_eq_getElem?_getD,List.getElem?_append_left (by omega),← List.getD_eq_getElem?_getD]
  exact h.up k u h0 hk hu
 ·have e1:k.toNat=e.length:=by omega
  rw [List.getD_eq_getElem?_getD,List.getElem?_append_right (by omega),e1,Nat.sub_self]
  show e.getD z.toNat 0 + 1 + 1=_
  cases hu with
  | zero=>omega
  | step hp hu' =>
   have:bT ps k=z:=by
    unfold bT
    rw [List.getD_eq_getElem?_getD,show (k - 1).toNat=i by omega,hz]; rfl
   rw [this] at hu'
   rw [h.up z _ hb.1 hb.2 hu',List.length_cons]; rfl
def qJ:SpD:=fun ds q=>∃ ps rs,ds=[aK ps rs]∧Tree ps rs∧∀ e,DepOk ps e ps.length→q (ar e) []
end L2
namespace L2
open PySem PySem.Spec PyProof.Rows
section
variable {prog:Program} {w:World} {A:Around} {E:Value→Shared→Prop} {s:Shared}
end
section
variable {X:Cx} {M:Md} {e:Expr} {es:List Expr} {mgs:MGs} {pos:Pos}
end
section
variable {X:Cx} {M:Md} {pos:Pos}
end
section
variable {X:Cx} {es:List Expr} {k:Nat} {tpos:Pos}
variable {ow:List Bool} {a b:Expr} {mr:MA} {pos:Pos}
end
end L2
namespace L2
open PySem
def dQ (r:Rat):D:=.tup [.int r.num,.int r.den]
def dQs (rs:List Rat):D:=.lst (rs.map dQ)
theorem mT {t b:Int} (hb : 0<b):bY t b=(b.gcd t:Int):=by
 unfold bY; rw [if_neg (by omega),Int.gcd_comm]
theorem jG {t b:Int} (hb : 0<b):t / bY t b=(Rat.divInt t b).num:=by
 rw [Rat.num_divInt,Int.sign_eq_one_of_pos hb,Int.one_mul,mT hb]
theorem jl {t b:Int} (hb : 0<b):b / bY t b=((Rat.divInt t b).den:Int):=by
 rw [Rat.den_divInt,if_neg (by omega),mT hb]
 have:(b.natAbs:Int)=b:=by omega
 rw [Int.natCast_ediv,this]
theorem bA (r:Rat):(0:Int)<r.den:=by have:=r.den_pos; omega
theorem cB (r:Rat):Rat.divInt r.num r.den=r:=Rat.num_divInt_den r
structure Bt (r:Rat) (n:Nat):Prop where
 num:r.num.natAbs<2 ^ n
 den:r.den<2 ^ n
theorem cI {m n:Nat} (h:m≤n):(2:Nat) ^ m≤2 ^ n:=Nat.pow_le_pow_right (by decide) h
theorem Bt.mono {r:Rat} {m n:Nat} (h:Bt r m) (hm:m≤n):Bt r n:=⟨Nat.lt_of_lt_of_le h.num (cI hm),Nat.lt_of_lt_of_le h.den (cI hm)⟩
theorem Bt.smN {r:Rat} {m:Nat} (h:Bt r m) (hm:m≤8000):Sm r.num:=Nat.lt_of_lt_of_le h.num (cI hm)
theorem Bt.smD {r:Rat} {m:Nat} (h:Bt r m) (hm:m≤8000):Sm (r.den:Int):=by
 show ((r.den:Int)).natAbs<_
 rw [Int.natAbs_natCast]; exact Nat.lt_of_lt_of_le h.den (cI hm)
theorem fO {a b:Int} (hb : 0<b):(a / b).natAbs≤a.natAbs:=by
 have h1:=Int.ediv_mul_le a (show b≠0 by omega)
 have h2:=Int.lt_ediv_add_one_mul_self a hb
 rcases Int.lt_or_le a 0 with h | h
 ·have h3:a≤a / b:=by
   rcases Int.lt_or_le (a / b) a with z | z
   ·exfalso
    have:(a / b + 1) * b≤(a / b + 1) * 1:=Int.mul_le_mul_of_nonpos_left (by omega) (by omega)
    omega
   ·exact z
  have h4:a / b<0:=Int.ediv_neg_of_neg_of_pos h hb
  omega
 ·have:=Int.ediv_nonneg h (show 0≤b by omega)
  have:=Int.ediv_le_self b h
  omega
theorem nv {t b:Int} (hb : 0<b):(Rat.divInt t b).num.natAbs≤t.natAbs∧(Rat.divInt t b).den≤b.natAbs:=by
 have g:=dL (n:=t) hb
 constructor
 ·rw [← jG hb]; exact fO g
 ·have e:=jl (t:=t) hb
  have:=fO (a:=b) g
  omega
theorem Bt.divInt {t b:Int} {n:Nat} (hb : 0<b) (h1:t.natAbs<2 ^ n) (h2:b.natAbs<2 ^ n):Bt (Rat.divInt t b) n:=by
 have:=nv (t:=t) hb
 exact ⟨by omega,by omega⟩
theorem rj (r s:Rat):r + s=Rat.divInt (r.num * s.den + s.num * r.den) (r.den * s.den):=by
 have h:=Rat.divInt_add_divInt r.num s.num (d₁:=r.den) (d₂:=s.den) (by have:=bA r; omega) (by have:=bA s; omega)
 rw [cB,cB] at h; exact h
theorem n9 (r s:Rat):r - s=Rat.divInt (r.num * s.den - s.num * r.den) (r.den * s.den):=by
 have h:=Rat.divInt_sub_divInt r.num s.num (d₁:=r.den) (d₂:=s.den) (by have:=bA r; omega) (by have:=bA s; omega)
 rw [cB,cB] at h; exact h
theorem pe (r s:Rat):r * s=Rat.divInt (r.num * s.num) (r.den * s.den):=by
 have h:=Rat.divInt_mul_divInt r.num s.num (d₁:=r.den) (d₂:=s.den)
 rw [cB,cB] at h; exact h
theorem vB (r s:Rat):r / s=Rat.divInt (r.num * s.den) (r.den * s.num):=by
 have h:=Rat.divInt_mul_divInt r.num s.den (d₁:=r.den) (d₂:=s.num)
 rw [cB,← Rat.inv_divInt s.num s.den,cB] at h
 rw [Rat.div_def]; exact h
theorem bO (a b:Int):(a * b).natAbs=a.natAbs * b.natAbs:=Int.natAbs_mul a b
theorem aZ {a b m n:Nat} (h1:a<2 ^ m) (h2:b<2 ^ n):a * b<2 ^ (m + n):=by
 rw [Nat.pow_add]
 exact Nat.mul_lt_mul_of_lt_of_le h1 (Nat.le_of_lt h2) (Nat.pow_pos (by decide))
theorem cq (r s:Rat):(0:Int)<r.den * s.den:=Int.mul_pos (bA r) (bA s)
theorem Bt.add {r s:Rat} {m n:Nat} (h1:Bt r m) (h2:Bt s n):Bt (r + s) (m + n + 1):=by
 rw [rj]
 have e1:(r.num * s.den).natAbs<2 ^ (m + n):=by rw [bO,Int.natAbs_natCast]; exact aZ h1.num h2.den
 have e2:(s.num * r.den).natAbs<2 ^ (m + n):=by rw [bO,Int.natAbs_natCast,Nat.mul_comm]; exact aZ h1.den h2.num
 have e3:((r.den:Int) * s.den).natAbs<2 ^ (m + n):=by rw [bO,Int.natAbs_natCast,Int.natAbs_natCast]; exact aZ h1.den h2.den
 have e4:(2:Nat) ^ (m + n + 1)=2 ^ (m + n) + 2 ^ (m + n):=by rw [Nat.pow_succ]; omega
 exact Bt.divInt (cq r s) (Nat.lt_of_le_of_lt (Int.natAbs_add_le _ _) (by rw [e4]; exact Nat.add_lt_add e1 e2)) (Nat.lt_of_lt_of_le e3 (by rw [e4]; exact Nat.le_add_left _ _))
theorem Bt.sub {r s:Rat} {m n:Nat} (h1:Bt r m) (h2:Bt s n):Bt (r - s) (m + n + 1):=by
 rw [n9]
 have e1:(r.num * s.den).natAbs<2 ^ (m + n):=by rw [bO,Int.natAbs_natCast]; exact aZ h1.num h2.den
 have e2:(s.num * r.den).natAbs<2 ^ (m + n):=by rw [bO,Int.natAbs_natCast,Nat.mul_comm]; exact aZ h1.den h2.num
 have e3:((r.den:Int) * s.den).natAbs<2 ^ (m + n):=by rw [bO,Int.natAbs_natCast,Int.natAbs_natCast]; exact aZ h1.den h2.den
 have e4:(2:Nat) ^ (m + n + 1)=2 ^ (m + n) + 2 ^ (m + n):=by rw [Nat.pow_succ]; omega
 exact Bt.divInt (cq r s) (Nat.lt_of_le_of_lt (Int.natAbs_sub_le _ _) (by rw [e4]; exact Nat.add_lt_add e1 e2)) (Nat.lt_of_lt_of_le e3 (by rw [e4]; exact Nat.le_add_left _ _))
theorem Bt.mul {r s:Rat} {m n:Nat} (h1:Bt r m) (h2:Bt s n):Bt (r * s) (m + n):=by
 rw [pe]
 exact Bt.divInt (cq r s) (by rw [bO]; exact aZ h1.num h2.num) (by rw [bO,Int.natAbs_natCast,Int.natAbs_natCast]; exact aZ h1.den h2.den)
theorem bt0 {n:Nat} (h : 0<n):Bt 0 n:=⟨by show 0<2 ^ n; exact Nat.pow_pos (by decide),by show 1<2 ^ n; exact Nat.one_lt_two_pow (by omega)⟩
theorem btI {i:Int} {n:Nat} (h:i.natAbs<2 ^ n) (hn : 0<n):Bt (i:Rat) n:=⟨by rw [Rat.num_intCast]; exact h,by rw [Rat.den_intCast]; exact Nat.one_lt_two_pow (by omega)⟩
theorem i9 (i:Int):D.tup [.int i,.int 1]=dQ (i:Rat):=by unfold dQ; rw [Rat.num_intCast,Rat.den_intCast]; rfl
theorem Sm.of {i:Int} {n:Nat} (h:i.natAbs<2 ^ n) (hn:n≤8000):Sm i:=Nat.lt_of_lt_of_le h (cI hn)
def sdGcd:SpD:=fun ds q=>∃ n b,ds=[.int n,.int b]∧0≤b∧q (.int (bY n b)) []
def uv:SpD:=fun ds q=>∃ t b,ds=[.int t,.int b]∧b≠0∧Sm b∧q (dQ (Rat.divInt t b)) []
def t3:SpD:=fun ds q=>∃ r s,ds=[dQ r,dQ s]∧Bt r 3950∧Bt s 3950∧q (dQ (r + s)) []
def rF:SpD:=fun ds q=>∃ r s,ds=[dQ r,dQ s]∧Bt r 3950∧Bt s 3950∧q (dQ (r - s)) []
def rZ:SpD:=fun ds q=>∃ r s,ds=[dQ r,dQ s]∧Bt r 3950∧Bt s 3950∧q (dQ (r * s)) []
def sI:SpD:=fun ds q=>∃ r s,ds=[dQ r,dQ s]∧Bt r 3950∧Bt s 3950∧s≠0∧q (dQ (r / s)) []
def s_:SpD:=fun ds q=>∃ r s,ds=[dQ r,dQ s]∧Bt r 3950∧Bt s 3950∧q (.bl (decide (r<s))) []
def u6:SpD:=fun ds q=>∃ (rs:List Rat) (M:Nat),ds=[dQs rs]∧rs.length≤200∧(∀ r∈rs,r.num.natAbs<2 ^ 3900∧r.den∣M)∧0<M∧M<2 ^ 3900∧q (dQ rs.sum) []
theorem wc {s:Rat} (h:s≠0):s.num≠0:=fun z=>h (Rat.num_eq_zero.mp z)
structure Com (rs:List Rat) (M:Nat) (B:Int):Prop where
 pos : 0<B
 dv:∀ r∈rs,(r.den:Int)∣B
 dm:B∣(M:Int)
theorem Com.le {rs:List Rat} {M:Nat} {B:Int} (h:Com rs M B) (hM : 0<M):B≤M:=Int.le_of_dvd (by omega) h.dm
theorem rL (M:Nat):Com [] M 1:=⟨by decide,(fun r h=>by cases h),⟨M,by simp⟩⟩
theorem qY {rs:List Rat} {M:Nat} {B:Int} {r:Rat} (h:Com rs M B) (hr:r.den∣M):Com (rs++[r]) M (B / bY B r.den * r.den):=by
 have hd:=bA r
 have g:=dL (n:=B) hd
 have g1:=rK (n:=B) hd
 have g2:=rN (n:=B) hd
 obtain ⟨n,rfl⟩:∃ n:Nat,B=n:=⟨B.toNat,by have:=h.pos; omega⟩
 have eg:bY (n:Int) r.den=(Nat.gcd n r.den:Int):=by
  unfold bY; rw [if_neg (by omega)]
  show ((Int.gcd (n:Int) r.den:Nat):Int)=_
  unfold Int.gcd; rw [Int.natAbs_natCast,Int.natAbs_natCast]
 have el:(n:Int) / bY n r.den * r.den=((Nat.lcm n r.den:Nat):Int):=by
  rw [eg,← Int.natCast_ediv,← Int.natCast_mul]
  congr 1
  unfold Nat.lcm
  exact Nat.div_mul_right_comm (Nat.gcd_dvd_left n r.den) r.den
 rw [el]
 have hn : 0<n:=by have:=h.pos; omega
 refine ⟨by have:=Nat.lcm_pos hn r.den_pos; omega,fun x hx=>?_,?_⟩
 ·rcases List.mem_append.mp hx with hx | hx
  ·exact Int.dvd_trans (h.dv x hx) (Int.natCast_dvd_natCast.mpr (Nat.dvd_lcm_left n r.den))
  ·have:x=r:=by simpa using hx
   subst this; exact Int.natCast_dvd_natCast.mpr (Nat.dvd_lcm_right n x.den)
 ·exact Int.natCast_dvd_natCast.mpr (Nat.lcm_dvd (Int.natCast_dvd_natCast.mp h.dm) hr)
def sumF (B:Int):D→D
 | .tup [.int n,.int d]=>.int (n * (B / d))
 | d=>d
theorem pw (B:Int) (rs:List Rat):(rs.map dQ).map (sumF B)=(rs.map fun r=>r.num * (B / r.den)).map D.int:=by
 rw [List.map_map,List.map_map]; rfl
theorem kC {B:Int} (hB : 0<B):∀ {rs:List Rat},(∀ r∈rs,(r.den:Int)∣B)→Rat.divInt (rs.map fun r=>r.num * (B / r.den)).sum B=rs.sum
 | [],_=>by rw [List.map_nil,List.sum_nil,List.sum_nil,Rat.zero_divInt]
 | r :: rs,h=>by
  have ih:=kC hB (rs:=rs) fun x hx=>h x (.tail _ hx)
  rw [List.map_cons,List.sum_cons,List.sum_cons,← ih]
  obtain ⟨c,hc⟩:=h r (.head _)
  have hd:=bA r
  have e1:B / r.den=c:=by rw [hc]; exact Int.mul_ediv_cancel_left c (by omega)
  have cp:c≠0:=fun z=>by rw [z,Int.mul_zero] at hc; omega
  have e2:r=Rat.divInt (r.num * c) B:=by rw [hc,Rat.divInt_mul_right cp,cB]
  rw [e1]
  conv=>rhs; rw [e2]
  rw [Rat.divInt_add_divInt _ _ (by omega) (by omega)]
  have e3:r.num * c * B + (rs.map fun r=>r.num * (B / r.den)).sum * B=(r.num * c + (rs.map fun r=>r.num * (B / r.den)).sum) * B:=by rw [Int.add_mul]
  rw [e3,Rat.divInt_mul_right (by omega)]
theorem pW (r:Rat):lay 1 (dQ r)=true:=rfl
theorem oI (r:Rat):okD (dQ r)=true:=bL (pW r) (by decide)
theorem sy {r s:Rat} (h1:r.num=s.num) (h2:r.den=s.den):r=s:=by
 rw [← cB r,← cB s,h1,h2]
theorem eqDq (r s:Rat):eqD (dQ r) (dQ s)=decide (r=s):=by
 unfold eqD dQ
 simp only [toP,toPs,PyData.eqv,PyData.eqvAll,Bool.and_true]
 by_cases h:r=s
 ·subst h; simp
 ·rw [decide_eq_false h]
  by_cases h1:r.num=s.num
  ·have h2:r.den≠s.den:=fun z=>h (sy h1 z)
   have h3 : ¬ (r.den:Int)=s.den:=fun z=>h2 (by omega)
   simp [h1,h3]
  ·simp [h1]
theorem ff (rs:List Rat):lay 2 (dQs rs)=true:=by
 show (rs.map dQ).all (lay 1)=true
 rw [List.all_map]; exact List.all_eq_true.mpr fun r _=>pW r
theorem mU (rs:List Rat):okD (dQs rs)=true:=bL (ff rs) (by decide)
theorem ia {rs:List Rat} {i:Int} (h0 : 0≤i) (h1:i<rs.length):atI (rs.map dQ) i=some (dQ (rs.getD i.toNat 0)):=by
 refine jO ?_
 unfold atI ixN
 rw [if_pos h0,if_pos h1]
 show rs[i.toNat]? = _
 rw [List.getD_eq_getElem?_getD,List.getElem?_eq_getElem (by omega)]; rfl
def dt (ps:List Int) (a:Ask) (prs:List Rat):Rat:=((aG ps a).map fun t=>prs.getD (t - 1).toNat 0).sum
def h_ (r:Rat):Rat:=if 0<r then r else 0
def a9 (ps:List Int) (a:Ask) (w:Int) (prs:List Rat):Rat:=h_ ((a.worth:Rat) - (w:Rat) * dt ps a prs)
theorem ut {r:Rat} (h : 0≤r) : 0≤r.num:=Rat.num_nonneg.mpr h
def qN (prs:List Rat):D→D
 | .int t=>dQ (prs.getD (t - 1).toNat 0)
 | d=>d
theorem lf (prs:List Rat) (w:List Int):(w.map D.int).map (qN prs)=(w.map fun t=>prs.getD (t - 1).toNat 0).map dQ:=by
 rw [List.map_map,List.map_map]; rfl
theorem dc {rs:List Rat} {k:Nat} (h:k<rs.length):rs.getD k 0∈rs:=by
 rw [List.getD_eq_getElem?_getD,List.getElem?_eq_getElem h]; exact List.getElem_mem h
theorem cF {ps rs:List Int} (hT:Tree ps rs) {a b:Int} (he:Ends2 ps a b):(iA ps a b).length≤46:=by
 obtain ⟨w,hw,e⟩:=gT hT he.a0 he.b0 he.a1 he.b1
 have h1:=hw.len hT he.a0 he.b0 he.a1 he.b1
 have h2:=hT.hi
 have h3:=he.a1; have h4:=he.b1
 rw [e]
 have:=(cj w).length_eq
 omega
theorem kM {i:Int} {n:Nat} (m:Nat) (h:i.natAbs≤m) (hm:m<2 ^ n) (hn : 0<n):Bt (i:Rat) n:=btI (by omega) hn
theorem eR:∀ rs:List Rat,imms (rs.map dQ)=true
 | []=>rfl
 | r :: rs=>by rw [List.map_cons,imms,eR rs]; rfl
def oQ:SpD:=fun ds q=>∃ t b,ds=[.int t,.int b]∧0<b∧Sm b∧q (dQ (Rat.divInt t b)) []
theorem gQ (l:List Rat) (i:Nat) (x:Rat):D.lst ((l.map dQ).set i (dQ x))=dQs (l.set i x):=by unfold dQs; rw [List.map_set]
theorem sN {l:List Rat} {i:Nat} {x:Rat} {P:Rat→Prop} (h:∀ r∈l,P r) (hx:P x):∀ r∈l.set i x,P r:=fun r hr=>by
 rcases List.mem_or_eq_of_mem_set hr with z | z
 ·exact h r z
 ·exact z ▸ hx
theorem AsksOk.sub {ps:List Int} {as bs:List Ask} (h:AsksOk ps as) (hs:bs.Sublist as):AsksOk ps bs:=⟨Nat.le_trans hs.length_le h.len,fun a ha=>h.ok a (hs.subset ha)⟩
end L2
namespace L2
open PySem PySem.Spec PyProof.Rows
section
variable {M:Model} {A:Around} {E:Value→Shared→Prop} {s:Shared}
end
section
variable {X:Cx} {pins:List (Addr×Obj)} {σ:St} {H H':Hp} {s s':Shared} {e:Addr} {cls:Value} {dx:Option Addr} {T:Option Addr}
end
section
variable {X:Cx} {x:Str} {p pos:Pos} {e:Expr} {es:List Expr} {t:TA} {k:Nat} {f:Addr} {fd:FuncData} {ps:List Str} {sp:Sp} {xk:XS}
end
section
variable {X:Cx} {pins:List (Addr×Obj)} {σ:St} {H:Hp} {s:Shared} {xk:XS}
variable {x:Str} {C:Addr} {bm:List Value} {e:Expr} {args:List Expr} {np cpos pos:Pos} {t:TA}
end
section
variable {X:Cx} {pins p:List (Addr×Obj)} {σ:St} {H:Hp} {s:Shared} {E:Value→Shared→Prop} {v:Value}
variable {e:Addr} {cls:Value} {dx T:Option Addr}
variable {x n:Str} {i:Nat} {C D0:Addr} {bm bmD:List Value} {ini iniD:Option Value} {b0:Stmt} {suite:List Stmt} {np npos:Pos} {ts:TS} {D:Ends} {t:Addr}
end
section
variable {X:Cx} {E:Value→Shared→Prop} {p:List (Addr×Obj)}
end
section
variable {X:Cx} {M:Md} {a b c e:Expr} {mt:MT} {pos pos':Pos} {st:Stmt} {rest:List Stmt} {m:MS} {m1 m2:MSX} {mex:MEX}
variable {mg:MG}
variable {es:List Expr} {ks:List AK} {mr:MA} {x:Str} {p':Pos} {ow:List Bool}
end
section
variable {X:Cx} {M:Md} {e:Expr} {es:List Expr} {ks:List AK} {mr:MA} {x:Str} {pos p':Pos} {ow:List Bool} {mu:List Bool} {k:Nat} {f:Addr} {fd:FuncData} {ps:List Str} {sd:SpX}
end
end L2
namespace L2
open PySem PySem.Spec PyProof.Rows PySem.W Builtin.ObjectAttr
section
variable {prog:Program} {w:World} {A:Around} {E:Value→Shared→Prop} {s:Shared} {K:PySem.W.Frag} {x D:Addr} {ox:Obj} {od:Option Obj} {name:Str} {bm:List Value} {ini:Option Value} {tk:Tok}
end
end L2
namespace L2
open PySem PySem.Spec PyProof.Rows
section
variable {X:Cx}
variable {ow:List Bool} {a:Expr} {ma:ME} {pos:Pos}
end
section
variable {K:PySem.W.Frag} {C a N:Addr} {dd nd:Option Addr} {nm qn:Str} {bs bm sub:List Value} {hd ab:Bool} {sn:List Str} {col:Option Bool} {k0 k1 k2 k3 k5 ini:Option Value} {no:Value} {es:Array DictEntry} {np:Nat} {nl:Array (Option Value)} {sl:Array (Option Value)} {oc:Value} {cd:ClassData}
end
section
variable {X:Cx}
theorem iN:∀ {cs:List Addr} {us:List Value},aQ (cs.map V.ref) us→us=cs.map Value.ref
 | [],us,h=>by cases h; rfl
 | c :: cs,us,h=>by
  cases h with
  | cons r t=>cases (show _=Value.ref c from r); rw [iN t]; rfl
variable {ow:List Bool} {a:Expr} {ma:ME} {pos:Pos}
end
section
variable {K:PySem.W.Frag} {t c:Value} {cs:List Value} {b:Bool}
end
section
variable {prog:Program} {w:World} {A:Around} {E:Value→Shared→Prop} {h:Heap} {g:Array GenState} {d:Drawn} {t:Nat} {os:OsState}
variable {nm q:Str} {C N:Addr} {bs bm:List Value} {hdct:Bool} {sn:List Str} {sub:List Value} {ab:Bool} {col:Option Bool} {dd:Option Addr} {k0 k1 k2 k3 k5:Option Value}
end
section
variable {prog:Program} {w:World} {A:Around} {E:Value→Shared→Prop} {h:Heap} {g:Array GenState} {d:Drawn} {t:Nat} {os:OsState}
variable {nm q:Str} {C N:Addr} {bs bm:List Value} {hdct:Bool} {sn:List Str} {sub:List Value} {ab:Bool} {col:Option Bool} {dd:Option Addr} {k0 k1 k2 k3 k5:Option Value}
end
end L2
namespace L2
open PySem PySem.Spec PyProof.Rows PySem.W Builtin.ObjectAttr Builtin
section
variable {prog:Program} {w:World} {A:Around} {E:Value→Shared→Prop} {s:Shared} {K:PySem.W.Frag} {x C:Addr} {ox:Obj} {od:Option Obj} {name:Str} {bm:List Value} {ini:Option Value} {v:Value}
end
end L2
namespace L2
open PySem PySem.Spec PyProof.Rows
section
variable {X:Cx} {pins:List (Addr×Obj)} {σ:St} {H:Hp} {s:Shared} {e C fI:Addr} {bm:List Value}
end
section
variable {prog:Program} {w:World} {A:Around} {E:Value→Shared→Prop} {s:Shared} {env:Env}
end
section
variable {X:Cx} {xk:XS} {x:Str} {C fI:Addr} {bm:List Value} {e:Expr} {args:List Expr} {np cpos pos:Pos} {t:TA} {k:Nat} {fd:FuncData} {ps ns:List Str}
end
section
variable {X:Cx} {M:Md} {e:Expr} {es:List Expr} {mr:MA} {x:Str} {pos:Pos} {k:Nat} {fd:FuncData} {ps ns:List Str}
end
section
variable {X:Cx} {es:List Expr} {c:St→Prop}
end
section
variable {X:Cx} {C B:Addr} {bm:List Value} {ini:Option Value} {x:Str} {a b:Expr} {np apos pos pos':Pos} {t:TA}
end
section
variable {X:Cx} {pins:List (Addr×Obj)} {σ:St} {H:Hp} {s:Shared} {h':Heap} {a:Addr} {oa od:HO}
end
section
variable {X:Cx} {C:Addr} {bm:List Value} {ini:Option Value} {f:Str} {o value:Expr} {pos pos':Pos} {ta tv:TE}
end
section
variable {X:Cx} {ow:List Bool} {a:Expr} {ma:ME} {pos:Pos} {f:Str}
end
section
variable {X:Cx}
variable {ow:List Bool} {e:Expr} {ma:ME}
end
section
variable {X:Cx} {M:Md} {ow:List Bool} {a e:Expr} {es:List Expr} {pos:Pos} {mex:MEX} {m1:MSX} {mg:MG}
variable {x:Str} {p':Pos} {ma:ME}
end
section
variable {C:Ctx} {ow:List Bool} {G:Hp} {ρ:DSt} {σ:St} {H:Hp} {pd:List (D×V)} {O:Own} {p:Addr} {xs:List V}
end
section
variable {X:Cx} {ow:List Bool} {a b e:Expr} {es:List Expr} {ma mb:ME} {mr:MA} {pos:Pos} {x:Str} {p':Pos}
end
section
variable {X:Cx} {M:Md} {i:Nat} {st:Stmt} {rest:List Stmt} {m1 m2:MFl} {me:MFe} {ms:MS} {pos pos':Pos}
variable {e b c:Expr} {ma mb:ME} {mt:MT}
end
section
variable {C:Ctx} {ow:List Bool} {i:Nat} {G:Hp} {ρ:DSt} {σ:St} {H:Hp} {p:Addr} {ds:List D}
end
section
variable {X:Cx} {M:Md} {i:Nat} {pos pos':Pos} {e c:Expr} {ma:ME} {mt:MT} {m1 m2:MFl}
end
section
variable {X:Cx} {M:Md} {a b e:Expr} {ma mb:ME} {pos:Pos}
end
section
variable {X:Cx} {M:Md} {a b:Expr} {ma mb:ME} {pos:Pos}
end
section
variable {X:Cx} {pos p1 p2 q1 q2:Pos} {n1 n2:Nat} {k1 k2 x y:Str} {i j:Nat} {ow:List Bool}
end
section
variable {X:Cx} {ow:List Bool} {a b e:Expr} {ma mb:ME} {pos p2:Pos} {lo hi:Option Expr} {ml mh:MO}
end
section
variable {X:Cx} {M:Md} {i:Nat} {st:Stmt} {m:MFl}
end
theorem wX {xs:List D} {k:Int} (h0 : 0≤k):gM xs none (some k)=xs.take k.toNat:=by
 have ek:k=((k.toNat:Nat):Int):=by omega
 unfold gM
 rw [HT.sIx_none,ek,HT.sIx_nat,List.drop_zero,Nat.sub_zero,Int.toNat_natCast]
 by_cases h:k.toNat≤xs.length
 ·rw [show min k.toNat xs.length=k.toNat by omega]
 ·rw [show min k.toNat xs.length=xs.length by omega,List.take_length,List.take_of_length_le (by omega)]
theorem nO {xs:List D} {k:Int} (h0 : 0≤k):gM xs (some k) none=xs.drop k.toNat:=by
 have ek:k=((k.toNat:Nat):Int):=by omega
 unfold gM
 rw [HT.sIx_none,ek,HT.sIx_nat,Int.toNat_natCast]
 by_cases h:k.toNat≤xs.length
 ·rw [show min k.toNat xs.length=k.toNat by omega,List.take_of_length_le (by simp)]
 ·rw [show min k.toNat xs.length=xs.length by omega,List.drop_length,List.drop_of_length_le (by omega)]; simp
section
variable {X:Cx}
end
end L2
namespace L2
open PySem
end L2
namespace L2
open PySem PySem.Spec PyProof.Rows
section
variable {X:Cx}
end
section
variable {X:Cx} {M:Md} {e:Expr} {ma:ME} {pos:Pos}
end
section
variable {X:Cx} {M:Md} {i:Nat} {st:Stmt} {rest:List Stmt} {m1 m2:MFl} {me:MFe} {pos pos':Pos} {e:Expr} {ma:ME}
end
section
variable {X:Cx} {M:Md} {elt tg iter:Expr} {ifs:List Expr} {pos:Pos} {mi:MA} {mg:MG} {mt:MT} {me:ME} {scope:Scope} {cl:List (Str×Addr)} {rest:List Stmt} {mf:MFe}
end
section
variable {X:Cx} {ow:List Bool} {e:Expr} {ma:ME} {pos p2:Pos} {lo hi:Option Expr} {ml mh:MO}
end
end L2
namespace L2
open PySem
end L2
namespace L2
open PySem PySem.Spec PyProof.Rows
section
variable {X:Cx} {pins p:List (Addr×Obj)} {σ:St} {H:Hp} {s:Shared} {E:Value→Shared→Prop} {v:Value} {e:Addr} {cls:Value} {dx T:Option Addr}
variable {x:Str} {C D0:Addr} {bm bmD:List Value} {ini iniD:Option Value} {b0:Stmt} {suite:List Stmt} {np npos:Pos} {ts:TS} {D:Ends} {t:Addr}
end
section
variable {X:Cx} {ow:List Bool} {a b:Expr} {mex:MEX} {mb:ME} {pos:Pos}
end
end L2
namespace L2
open PySem
end L2
namespace L2
open PySem PySem.Spec PyProof.Rows
section
variable {X:Cx} {pos p1 q1:Pos} {n1:Nat} {k1:Int} {x:Str} {i:Nat} {ow:List Bool}
end
section
variable {X:Cx} {ow:List Bool} {es:List Expr} {mr:MA} {pos:Pos}
end
end L2
namespace L2
open PySem
end L2
namespace L2
open PySem PySem.Spec PyProof.Rows
theorem vE:bootBuiltins "all" = some (.builtin "all"):=by decide +kernel
section
variable {X:Cx}
end
section
variable {X:Cx} {M:Md} {e e':Expr} {mr:MA} {pos:Pos}
end
end L2
namespace L2
open PySem
def wayF (ps:List Int):D→D
 | .tup [.int a,.int b,_,_]=>ar (iA ps a b)
 | d=>d
def eW (rs:List Int) (s:Int) (w l:List Int):List Int:=w.filter fun t=>decide (rs.getD (t - 1).toNat 0<l.getD (t - 1).toNat 0 + s)
def oM:SpD:=fun ds q=>∃ ps rs a w l,ds=[aK ps rs,cr a,ar w,ar l]∧Tree ps rs∧(∀ t∈w,0<t∧t≤(ps.length:Int))∧w.length≤1000∧l.length=ps.length∧q (ar (eW rs a.size w l)) []
def gw (rs:List Int) (s:Int) (l:List Int):D→Option D
 | .int t=>if decide (rs.getD (t - 1).toNat 0<l.getD (t - 1).toNat 0 + s)=true then some (.int t) else none
 | _=>none
theorem fu (rs:List Int) (s:Int) (l:List Int):∀ w:List Int,(w.map D.int).filterMap (gw rs s l)=(eW rs s w l).map D.int
 | []=>rfl
 | t :: w=>by
  have ih:=fu rs s l w
  unfold eW at *
  rw [List.map_cons,List.filterMap_cons,List.filter_cons]
  have e:gw rs s l (.int t)=if decide (rs.getD (t - 1).toNat 0<l.getD (t - 1).toNat 0 + s)=true then some (.int t) else none:=rfl
  rw [e]
  by_cases h:decide (rs.getD (t - 1).toNat 0<l.getD (t - 1).toNat 0 + s)=true
  ·rw [if_pos h,if_pos h]; simp only [List.map_cons]; rw [ih]
  ·rw [if_neg h,if_neg h]; simp only; rw [ih]
def ay (as:List Ask) (k:Int):Ask:=as.getD k.toNat ask0
end L2
namespace L2
open PySem PySem.Spec PyProof.Rows
section
variable {X:Cx}
end
end L2
namespace L2
open PySem
theorem eh {ps:List Int} {as:List Ask} (ha:AsksOk ps as) {k:Int} (h0 : 0≤k) (h1:k<(as.length:Int)):AskOk ps (ay as k):=ha.ok _ (rp (k:=k.toNat) (by omega))
end L2
namespace L2
open PySem PySem.Spec PyProof.Rows
section
variable {X:Cx}
variable {ow:List Bool} {e e2:Expr} {ma mb:ME}
end
end L2
namespace L2
open PySem
end L2
namespace L2
open PySem PySem.Spec PyProof.Rows
section
variable {X:Cx}
end
end L2
namespace L2
open PySem
end L2
namespace L2
open PySem PySem.Spec PyProof.Rows
section
variable {κ:Type} [DecidableEq κ]
end
section
variable {P:Program} {w:World} {H:Hp} {h:Heap} {a:Addr}
end
section
variable {X:Cx} {pins:List (Addr×Obj)} {σ:St} {H:Hp} {s:Shared} {a:Addr} {y v:V} {u r:Value} {o:Option V} {A:Around} {E:Value→Shared→Prop}
end
section
variable {X:Cx} {pins:List (Addr×Obj)} {σ:St} {H:Hp} {s:Shared} {a:Addr} {kvs:List (Key×V)} {k:Key} {u:Value} {A:Around} {E:Value→Shared→Prop}
end
section
variable {X:Cx} {o i e value:Expr} {pos pos' tpos:Pos} {td ty tv:TE}
end
section
variable {X:Cx} {pos:Pos}
end
section
variable {X:Cx} {pins:List (Addr×Obj)} {σ:St} {H:Hp} {s:Shared} {a:Addr} {y d:V} {u r:Value} {o:Option V} {A:Around} {E:Value→Shared→Prop}
end
section
variable {X:Cx} {o e f:Expr} {apos cpos:Pos} {td ty tx:TE}
end
section
variable {X:Cx} {pins:List (Addr×Obj)} {σ:St} {H:Hp} {s:Shared} {a:Addr} {kvs:List (Key×V)} {A:Around} {E:Value→Shared→Prop}
end
section
variable {X:Cx} {pins:List (Addr×Obj)} {σ:St} {H:Hp} {s:Shared} {a:Addr} {y:V} {u:Value} {A:Around} {E:Value→Shared→Prop}
end
section
variable {C:Ctx} {ow:List Bool} {G:Hp} {ρ:DSt} {σ:St} {H:Hp} {pd:List (D×V)} {O:Own}
end
section
variable {X:Cx} {M:Md} {ow:List Bool} {a b c e:Expr} {ma mb mc:ME} {pos:Pos}
end
def ga:D→Nat→Option D
 | .lst ds,c=>ds[c]?
 | .tup ds,c=>ds[c]?
 | .obj _ _ ds,c=>ds[c]?
 | _,_=>none
def putS:D→Nat→D→D
 | .lst ds,c,e=>.lst (ds.set c e)
 | .tup ds,c,e=>.tup (ds.set c e)
 | .obj C ks ds,c,e=>.obj C ks (ds.set c e)
 | d,_,_=>d
def lenD:D→Nat
 | .lst ds=>ds.length
 | .tup ds=>ds.length
 | _=>0
def gt:List Nat→D→Option D
 | [],d=>some d
 | c :: p,d=>match ga d c with
  | some e=>gt p e
  | none=>none
def lF:List Nat→D→D→D
 | [],_,x=>x
 | c :: p,d,x=>match ga d c with
  | some e=>putS d c (lF p e x)
  | none=>d
def kj (H:Hp) (v:V) (xs:List V):Prop:=∃ b,v = .ref b∧(H b=some (.lst xs)∨H b=some (.tup xs)∨∃ (C dx:Addr) (ks:List Str),H b=some (.ins C dx (ks.zip xs))∧ks.length=xs.length)
theorem jS {ks:List Str}:∀ {xs:List V},ks.length=xs.length→(ks.zip xs).map Prod.snd=xs:=by
 induction ks with
 | nil=>intro xs h; cases xs with
  | nil=>rfl
  | cons x r=>cases h
 | cons k ks ih=>intro xs h; cases xs with
  | nil=>cases h
  | cons x r=>rw [List.zip_cons_cons,List.map_cons,ih (by simpa using h)]
def cN (H:Hp):List Nat→V→V→Prop
 | [],v,u=>v=u
 | c :: p,v,u=>∃ xs w,kj H v xs∧xs[c]? = some w∧cN H p w u
theorem kj.one {H:Hp} {v:V} {xs ys:List V} (h:kj H v xs) (g:kj H v ys):xs=ys:=by
 obtain ⟨b,rfl,h⟩:=h
 obtain ⟨b',e,g⟩:=g
 cases e
 rcases h with h | h | ⟨C,dx,ks,h,l⟩ <;> rcases g with g | g | ⟨C',dx',ks',g,l'⟩
 ·rw [h] at g; cases g; rfl
 ·rw [h] at g; cases g
 ·rw [h] at g; cases g
 ·rw [h] at g; cases g
 ·rw [h] at g; cases g; rfl
 ·rw [h] at g; cases g
 ·rw [h] at g; cases g
 ·rw [h] at g; cases g
 ·rw [h] at g
  have e:ks.zip xs=ks'.zip ys:=by injection (Option.some.inj g)
  rw [← jS l,← jS l',e]
theorem kj.mono {H H':Hp} {v:V} {xs:List V} (s:aM H H') (h:kj H v xs):kj H' v xs:=by
 obtain ⟨b,e,h⟩:=h
 refine ⟨b,e,?_⟩
 rcases h with h | h | ⟨C,dx,ks,h,l⟩
 ·exact .inl (s _ _ h)
 ·exact .inr (.inl (s _ _ h))
 ·exact .inr (.inr ⟨C,dx,ks,s _ _ h,l⟩)
theorem cN.mono {H H':Hp} (s:aM H H'):∀ {p:List Nat} {v u:V},cN H p v u→cN H' p v u
 | [],_,_,h=>h
 | _ :: _,_,_,⟨xs,w,h1,h2,h3⟩=>⟨xs,w,h1.mono s,h2,h3.mono s⟩
theorem cN.one {H:Hp}:∀ {p:List Nat} {v u u':V},cN H p v u→cN H p v u'→u=u'
 | [],_,_,_,h,g=>h.symm.trans g
 | _ :: _,_,_,_,⟨xs,w,h1,h2,h3⟩,⟨ys,w',g1,g2,g3⟩=>by
  cases h1.one g1
  rw [h2] at g2; cases g2
  exact h3.one g3
theorem cN.snoc {H:Hp} {c:Nat} {xs:List V} {w:V}:∀ {p:List Nat} {v u:V},cN H p v u→kj H u xs→xs[c]? = some w→cN H (p++[c]) v w
 | [],v,u,h,g,e=>by cases h; exact ⟨xs,w,g,e,rfl⟩
 | _ :: _,_,_,⟨ys,w',h1,h2,h3⟩,g,e=>⟨ys,w',h1,h2,h3.snoc g e⟩
theorem iT {c:Nat}:∀ {p:List Nat} {d e:D},gt p d=some e→gt (p++[c]) d=ga e c
 | [],d,e,h=>by cases h; show (match ga d c with | some e=>gt [] e | none=>none)=_; cases ga d c <;> rfl
 | b :: p,d,e,h=>by
  show (match ga d b with | some e=>gt (p++[c]) e | none=>none)=_
  change (match ga d b with | some e=>gt p e | none=>none)=_ at h
  cases q:ga d b with
  | none=>rw [q] at h; cases h
  | some e'=>rw [q] at h; exact iT h
theorem Rep.walk {H:Hp}:∀ {p:List Nat} {d e:D} {v:V},Rep H d v→gt p d=some e→∃ u,cN H p v u∧Rep H e u
 | [],d,e,v,h,g=>by cases g; exact ⟨v,rfl,h⟩
 | c :: p,d,e,v,h,g=>by
  change (match ga d c with | some e=>gt p e | none=>none)=_ at g
  cases q:ga d c with
  | none=>rw [q] at g; cases g
  | some d1 =>
   rw [q] at g
   cases d with
   | lst ds =>
    rw [Rep] at h
    obtain ⟨a,xs,rfl,h1,h2⟩:=h
    obtain ⟨w,d',e1,e2,e3⟩:=fb (r:=c) h2 (List.getElem?_eq_some_iff.mp q).1
    rw [show ds[c]? = some d1 from q] at e2; cases e2
    obtain ⟨u,k1,k2⟩:=Rep.walk e3 g
    exact ⟨u,⟨xs,w,⟨a,rfl,.inl h1⟩,e1,k1⟩,k2⟩
   | tup ds =>
    rw [Rep] at h
    obtain ⟨a,xs,rfl,h1,h2⟩:=h
    obtain ⟨w,d',e1,e2,e3⟩:=fb (r:=c) h2 (List.getElem?_eq_some_iff.mp q).1
    rw [show ds[c]? = some d1 from q] at e2; cases e2
    obtain ⟨u,k1,k2⟩:=Rep.walk e3 g
    exact ⟨u,⟨xs,w,⟨a,rfl,.inr (.inl h1)⟩,e1,k1⟩,k2⟩
   | obj C ks ds =>
    rw [Rep] at h
    obtain ⟨a,dx,xs,rfl,h1,hl,h2⟩:=h
    obtain ⟨w,d',e1,e2,e3⟩:=fb (r:=c) h2 (List.getElem?_eq_some_iff.mp q).1
    rw [show ds[c]? = some d1 from q] at e2; cases e2
    obtain ⟨u,k1,k2⟩:=Rep.walk e3 g
    exact ⟨u,⟨xs,w,⟨a,rfl,.inr (.inr ⟨C,dx,ks,h1,hl.trans h2.length.symm⟩)⟩,e1,k1⟩,k2⟩
   | _=>cases q
theorem Seps.repl {G H H':Hp} {O:Own} {i:Nat} {d':D}:∀ {es:List D} {k0:Nat} {π:List Nat} {ys:List V} {c:Nat} {u:V},Seps G H O i es k0 π ys→ys[c]? = some u→Sep G H' O i d' ((k0 + c) :: π) u →
 (∀ (j:Nat) d v,j≠c→Sep G H O i d ((k0 + j) :: π) v→Sep G H' O i d ((k0 + j) :: π) v)→Seps G H' O i (es.set c d') k0 π ys
 | [],k0,π,ys,c,u,h,e,_,_=>by rw [Seps] at h; subst h; simp at e
 | d :: es,k0,π,ys,0,u,h,e,h1,h2=>by
  rw [Seps] at h
  obtain ⟨w,ws,rfl,w1,w2⟩:=h
  simp at e; subst e
  rw [List.set_cons_zero,Seps]
  refine ⟨_,ws,rfl,by simpa using h1,?_⟩
  have all:∀ (es:List D) (k:Nat) (ws:List V),k0<k→Seps G H O i es k π ws→Seps G H' O i es k π ws:=by
   intro es
   induction es with
   | nil=>intro k ws _ h; rw [Seps] at *; exact h
   | cons d es ih =>
    intro k ws hk h
    rw [Seps] at *
    obtain ⟨v,vs,rfl,v1,v2⟩:=h
    refine ⟨v,vs,rfl,?_,ih (k + 1) vs (by omega) v2⟩
    have:=h2 (k - k0) d v (by omega)
    rw [show k0 + (k - k0)=k by omega] at this
    exact this v1
  exact all es (k0 + 1) ws (by omega) w2
 | d :: es,k0,π,ys,c + 1,u,h,e,h1,h2=>by
  rw [Seps] at h
  obtain ⟨w,ws,rfl,w1,w2⟩:=h
  rw [List.set_cons_succ,Seps]
  refine ⟨w,ws,rfl,by have:=h2 0 d w (by omega); simpa using this (by simpa using w1),Seps.repl w2 (by simpa using e) ?_ ?_⟩
  ·rw [show k0 + 1 + c=k0 + (c + 1) by omega]; exact h1
  ·intro j d v hj
   rw [show k0 + 1 + j=k0 + (j + 1) by omega]
   exact h2 (j + 1) d v (by omega)
theorem Sep.focus {G H:Hp} {O:Own} {i:Nat} (gh:aM G H) (og:∀ a l,O a=some l→G a=none):∀ {p:List Nat} {d:D} {π:List Nat} {v:V} {ds:List D},Sep G H O i d π v→gt p d=some (.lst ds) →
 ∃ a xs,cN H p v (.ref a)∧O a=some (i,p.reverse++π)∧H a=some (.lst xs)∧Seps G H O i ds 0 (p.reverse++π) xs ∧
  ∀ ds' xs',Seps G H O i ds' 0 (p.reverse++π) xs'→Sep G (upd H a (.lst xs')) O i (lF p d (.lst ds')) π v
 | [],d,π,v,ds,h,g=>by
  cases g
  rw [Sep] at h
  obtain ⟨a,xs,rfl,h1,h2,h3⟩:=h
  refine ⟨a,xs,rfl,h1,h2,h3,fun ds' xs' h'=>?_⟩
  show Sep G _ O i (.lst ds') π _
  rw [Sep]
  refine ⟨a,xs',rfl,h1,aE,h'.keep (fun _ _ z=>z) fun b τ hτ q=>⟨q,av fun z=>?_⟩⟩
  rw [z,h1] at q
  have:=congrArg List.length (Prod.mk.inj (Option.some.inj q)).2
  simp at this
  exact hτ this
 | c :: p,d,π,v,ds,h,g=>by
  change (match ga d c with | some e=>gt p e | none=>none)=_ at g
  cases q:ga d c with
  | none=>rw [q] at g; cases g
  | some d1 =>
   rw [q] at g
   have other:∀ (a b:Addr) (j:Nat) (τ:List Nat),O a=some (i,p.reverse++c :: π)→O b=some (i,τ++j :: π)→j≠c→b≠a:=fun a b j τ ha hb hj z=>by
    rw [z,ha] at hb
    have e:=congrArg List.reverse (Prod.mk.inj (Option.some.inj hb)).2
    simp at e
    exact hj e.1.symm
   have lab:(c :: p).reverse++π=p.reverse++c :: π:=by simp
   have hset:∀ x,lF (c :: p) d x=putS d c (lF p d1 x):=fun x=>by
    show (match ga d c with | some e=>putS d c (lF p e x) | none=>d)=_
    rw [q]
   cases d with
   | lst es =>
    rw [Sep] at h
    obtain ⟨a0,ys,rfl,h1,h2,h3⟩:=h
    obtain ⟨w,e1,e2⟩:=h3.at (j:=c) q
    rw [Nat.zero_add] at e2
    obtain ⟨a,xs,k1,k2,k3,k4,k5⟩:=Sep.focus gh og e2 g
    have n0:a0≠a:=fun z=>by
     rw [← z,h1] at k2
     have:=congrArg List.length (Prod.mk.inj (Option.some.inj k2)).2
     simp at this
     omega
    refine ⟨a,xs,⟨ys,w,⟨a0,rfl,.inl h2⟩,e1,k1⟩,by rw [lab]; exact k2,k3,by rw [lab]; exact k4,fun ds' xs' h'=>?_⟩
    rw [hset]
    show Sep G _ O i (.lst (es.set c _)) π _
    rw [Sep]
    refine ⟨a0,ys,rfl,h1,by rw [av n0]; exact h2,?_⟩
    refine h3.repl e1 (by rw [Nat.zero_add]; exact k5 ds' xs' (by rw [lab] at h'; exact h')) fun j d v hj s=>?_
    rw [Nat.zero_add] at s ⊢
    exact s.keep (fun _ _ z=>z) fun b τ qb=>⟨qb,av (other a b j τ k2 qb hj)⟩
   | tup es =>
    rw [Sep] at h
    obtain ⟨a0,ys,rfl,h1,h3⟩:=h
    obtain ⟨w,e1,e2⟩:=h3.at (j:=c) q
    rw [Nat.zero_add] at e2
    obtain ⟨a,xs,k1,k2,k3,k4,k5⟩:=Sep.focus gh og e2 g
    refine ⟨a,xs,⟨ys,w,⟨a0,rfl,.inr (.inl (gh _ _ h1))⟩,e1,k1⟩,by rw [lab]; exact k2,k3,by rw [lab]; exact k4,fun ds' xs' h'=>?_⟩
    rw [hset]
    show Sep G _ O i (.tup (es.set c _)) π _
    rw [Sep]
    refine ⟨a0,ys,rfl,h1,?_⟩
    refine h3.repl e1 (by rw [Nat.zero_add]; exact k5 ds' xs' (by rw [lab] at h'; exact h')) fun j d v hj s=>?_
    rw [Nat.zero_add] at s ⊢
    exact s.keep (fun _ _ z=>z) fun b τ qb=>⟨qb,av (other a b j τ k2 qb hj)⟩
   | obj Cc ks es =>
    rw [Sep] at h
    obtain ⟨a0,dx,ys,rfl,h1,h2,hl,h3⟩:=h
    obtain ⟨w,e1,e2⟩:=h3.at (j:=c) q
    rw [Nat.zero_add] at e2
    obtain ⟨a,xs,k1,k2,k3,k4,k5⟩:=Sep.focus gh og e2 g
    have n0:a0≠a:=fun z=>by
     rw [← z,h1] at k2
     have:=congrArg List.length (Prod.mk.inj (Option.some.inj k2)).2
     simp at this
     omega
    refine ⟨a,xs,⟨ys,w,⟨a0,rfl,.inr (.inr ⟨Cc,dx,ks,h2,hl.trans h3.length.symm⟩)⟩,e1,k1⟩,by rw [lab]; exact k2,k3,by rw [lab]; exact k4,fun ds' xs' h'=>?_⟩
    rw [hset]
    show Sep G _ O i (.obj Cc ks (es.set c _)) π _
    rw [Sep]
    refine ⟨a0,dx,ys,rfl,h1,by rw [av n0]; exact h2,by rw [List.length_set]; exact hl,?_⟩
    refine h3.repl e1 (by rw [Nat.zero_add]; exact k5 ds' xs' (by rw [lab] at h'; exact h')) fun j d v hj s=>?_
    rw [Nat.zero_add] at s ⊢
    exact s.keep (fun _ _ z=>z) fun b τ qb=>⟨qb,av (other a b j τ k2 qb hj)⟩
   | _=>cases q
section
variable {C:Ctx} {ow:List Bool} {G:Hp} {ρ:DSt} {σ:St} {H:Hp} {pd:List (D×V)} {O:Own}
theorem RO.writeP (h:RO C ow G ρ σ H pd O) {i:Nat} {p:List Nat} {d:D} {ds:List D} (e : ρ[i]? = some (some d)) (hp:gt p d=some (.lst ds)) (hi:ow[i]? = some true) :
 ∃ v a xs,σ[i]? = some (some v)∧cN H p v (.ref a)∧H a=some (.lst xs)∧Seps G H O (2 * i) ds 0 p.reverse xs ∧
  ∀ ds' xs',Seps G H O (2 * i) ds' 0 p.reverse xs'→RO C ow G (ρ.set i (some (lF p d (.lst ds')))) σ (upd H a (.lst xs')) pd O:=by
 obtain ⟨v,hv,s⟩:=h.sl i _ e
 rw [if_pos hi] at s
 obtain ⟨a,xs,k1,k2,k3,k4,k5⟩:=Sep.focus h.gh (fun a l e=>(h.og a l e).1) s hp
 rw [List.append_nil] at k2 k4 k5
 refine ⟨v,a,xs,hv,k1,k3,k4,fun ds' xs' hs'=>?_⟩
 obtain ⟨g0,_,nw⟩:=h.og a _ k2
 have ne:∀ b l π,O b=some (l,π)→l≠2 * i→b≠a:=fun b l π q n z=>by
  rw [z,k2] at q
  exact n (Prod.mk.inj (Option.some.inj q)).1.symm
 refine ⟨by simp [h.len],?_,h.g0,h.gn,?_,h.cok,?_,?_,?_,h.mp,?_,?_,h.np⟩
 ·intro b o q
  rw [av (fun z=>by rw [z,g0] at q; cases q)]; exact h.gh _ _ q
 ·intro b l q
  obtain ⟨q1,⟨ys,q2⟩,q3⟩:=h.og b l q
  refine ⟨q1,?_,q3⟩
  by_cases z:b=a
  ·subst z; exact ⟨.inl _,aE⟩
  ·rw [av z]; exact ⟨ys,q2⟩
 ·intro b o q n t
  by_cases z:b=a
  ·subst z
   rcases nw with nw | ⟨_,nw⟩
   ·rw [nw] at q; cases q
   ·rw [nw] at n; cases n
  ·rw [av z]; exact h.fr b o q n t
 ·intro b ps q e
  by_cases z:b=a
  ·subst z; rw [aE] at e; cases e
  ·rw [av z] at e; exact h.ft b ps q e
 ·intro b q
  by_cases z:b=a
  ·subst z; rw [aE] at q; cases q
  ·rw [av z] at q; exact h.al b q
 ·intro j u q
  rcases gz q with ⟨rfl,z⟩ | ⟨z,q'⟩
  ·cases z
   exact ⟨v,hv,by rw [if_pos hi]; exact k5 ds' xs' hs'⟩
  ·obtain ⟨w,h1,h2⟩:=h.sl j u q'
   refine ⟨w,h1,?_⟩
   split at h2
   ·rename_i c; rw [if_pos c]; exact h2.keep (fun _ _ z=>z) fun b τ q=>⟨q,av (ne b _ _ q (by omega))⟩
   ·rename_i c; rw [if_neg c]; exact h2
 ·exact b9.keep (fun _ _ z=>z) (fun b j π hj q=>⟨q,av (ne b _ _ q (fun z=>cb z.symm))⟩) h.pn
end
abbrev MN0:=DSt→(Int→Prop)→Prop
def SN0 (ow:List Bool) (t:TE) (m:MN0):Prop:=∀ (C:Ctx) (G:Hp) (ρ:DSt) (σ:St) (H:Hp) (pd:List (D×V)) (q:Int→Prop) (Q:VK),R C ow G ρ σ H pd→m ρ q→(∀ n,q n→Q (.int n) H)→t σ H Q
structure QN0 (X:Cx) (ow:List Bool) (e:Expr) (m:MN0):Prop where
 ex:∃ t,PE X e t∧SN0 ow t m
section
variable {X:Cx} {ow:List Bool} {a b e:Expr} {pos:Pos} {ma mb:MN0}
theorem ls {i j}:QN0 X ow (.Constant (.int i) j pos) (fun _ q=>q i):=⟨_,lV,fun C G ρ σ H pd q Q r h k=>k _ h⟩
end
abbrev MPt:=DSt→(List Nat→D→Prop)→Prop
def SPt (ow:List Bool) (i:Nat) (t:TE) (m:MPt):Prop:=∀ (C:Ctx) (G:Hp) (ρ:DSt) (σ:St) (H:Hp) (pd:List (D×V)) (O:Own) (q:List Nat→D→Prop) (Q:VK),RO C ow G ρ σ H pd O→m ρ q →
 (∀ p d0 e v0 v,q p e→ρ[i]? = some (some d0)→gt p d0=some e→σ[i]? = some (some v0)→cN H p v0 v→Q v H)→t σ H Q
structure QPt (X:Cx) (ow:List Bool) (i:Nat) (e:Expr) (m:MPt):Prop where
 ex:∃ t,PE X e t∧SPt ow i t m
theorem RO.walk {C:Ctx} {ow:List Bool} {G:Hp} {ρ:DSt} {σ:St} {H:Hp} {pd:List (D×V)} {O:Own} (h:RO C ow G ρ σ H pd O) {i:Nat} {p:List Nat} {d e:D} (e1 : ρ[i]? = some (some d)) (hp:gt p d=some e) :
 ∃ v u,σ[i]? = some (some v)∧cN H p v u∧∃ G',aM G' H∧cN G' p v u∧Rep G' e u:=by
 obtain ⟨v,hv,_⟩:=h.sl i _ e1
 have r:=h.enter [i]
 obtain ⟨v',hv',s⟩:=r.sl i _ e1
 rw [hv] at hv'; cases hv'
 rw [if_neg (fun z=>by rw [cV] at z; simp at z)] at s
 obtain ⟨u,k1,k2⟩:=Rep.walk s hp
 exact ⟨v,u,hv,k1.mono r.gh,_,r.gh,k1,k2⟩
section
variable {X:Cx} {M:Md} {ow:List Bool} {i:Nat} {a b e:Expr} {pos:Pos} {mp:MPt} {mz:MN0} {ma:ME}
theorem li {x:Str} (hN:X.N[i]? = some x:=by rfl) (hv:Vis X.env.scope x:=by first | exact Or.inl rfl | exact Or.inr (Or.inl rfl) | exact Or.inr (Or.inr rfl)) (hd:(x == ("__debug__":Str))=false:=by decide)
 (hcd:(x == ("__classdict__":Str))=false:=by decide):QPt X ow i (.Name x pos) (fun ρ q=>∃ d,ρ[i]? = some (some d)∧q [] d):=⟨_,d5 hN hv hd hcd,fun C G ρ σ H pd O q Q r h k=>by
 obtain ⟨d,e,hq⟩:=h
 obtain ⟨v,h1,_⟩:=r.sl i _ e
 exact ⟨v,h1,k [] d d v v hq e rfl h1 rfl⟩⟩
def mPIx (mp:MPt) (mz:MN0):MPt:=fun ρ q=>mp ρ fun p d=>mz ρ fun n=>∃ c e,ixN (lenD d) n=some c∧ga d c=some e∧q (p++[c]) e
theorem pO (ha:QPt X ow i a mp) (hb:QN0 X ow b mz) (hs:jq b:=by exact fun _ _=>rfl):QPt X ow i (.Subscript a b pos) (mPIx mp mz):=by
 obtain ⟨ta,pa,sa⟩:=ha; obtain ⟨tb,pb,sb⟩:=hb
 refine ⟨_,tN af pa pb hs,fun C G ρ σ H pd O q Q r h k=>?_⟩
 refine sa C G ρ σ H pd O _ _ r h fun p d0 d v0 v hq e1 e2 e3 wk=>?_
 refine sb C G ρ σ H pd _ _ ⟨O,r⟩ hq fun n hn=>?_
 obtain ⟨c,e,h1,h2,hq⟩:=hn
 obtain ⟨v',u,g1,g2,G',sG,g3,g4⟩:=r.walk e1 e2
 rw [e3] at g1; cases g1
 obtain rfl:=wk.one g2
 have hx:∃ bb xs w,v=V.ref bb∧(H bb=some (.lst xs)∨H bb=some (.tup xs))∧xs.length=lenD d∧xs[c]? = some w:=by
  cases d with
  | lst ds =>
   rw [Rep] at g4
   obtain ⟨bb,xs,rfl,f1,f2⟩:=g4
   obtain ⟨w,d',w1,w2,w3⟩:=fb (r:=c) f2 (List.getElem?_eq_some_iff.mp h2).1
   exact ⟨bb,xs,w,rfl,.inl (sG _ _ f1),f2.length,w1⟩
  | tup ds =>
   rw [Rep] at g4
   obtain ⟨bb,xs,rfl,f1,f2⟩:=g4
   obtain ⟨w,d',w1,w2,w3⟩:=fb (r:=c) f2 (List.getElem?_eq_some_iff.mp h2).1
   exact ⟨bb,xs,w,rfl,.inr (sG _ _ f1),f2.length,w1⟩
  | obj C ks ds=>change ixN 0 n=some c at h1; unfold ixN at h1; exfalso; split at h1 <;> split at h1 <;> first | omega | cases h1
  | _=>cases h2
 obtain ⟨bb,xs,w,rfl,f1,f2,f3⟩:=hx
 have at1:atI xs n=some w:=by unfold atI; rw [f2,h1]; exact f3
 have fin:Q w H:=k (p++[c]) d0 e v0 w hq e1 (by rw [iT e2]; exact h2) e3 (wk.snoc ⟨bb,rfl,f1.elim .inl fun z=>.inr (.inl z)⟩ f3)
 rcases f1 with f1 | f1
 ·exact .inl ⟨bb,xs,n,w,rfl,rfl,SqL.of f1,at1,fin⟩
 ·exact .inr (.inl ⟨bb,xs,n,w,rfl,rfl,SqT.of f1,at1,fin⟩)
def mAppP (i:Nat) (mp:MPt) (m:ME):MS:=fun n ρ=>mp ρ fun p e=>∃ d0 ds,e = .lst ds∧ρ[i]? = some (some d0)∧m ρ fun d ρ1=>imm d=true∧ds.length<1000∧n.nx (ρ1.set i (some (lF p d0 (.lst (ds++[d])))))
theorem jI {apos cpos:Pos} (hp:QPt X M.ow i a mp) (he:QE X (bor [i] M.ow) e ma) (ho:M.ow[i]? = some true:=by decide)
 (hbase:attributeBase a "append" X.env (eval a X.env)=eval a X.env:=by rfl)
 (hfew:((backTo cpos (starEach [e] X.env)).all (fun x=>!x.1)&&(backToKw cpos (keywordEach [] X.env)).all (fun x=>x.1.isSome)
  && decide ([e].length + ([]:List Keyword).length + (if ([]:List Keyword).isEmpty then 0 else 1)<30))=true:=by rfl)
 (hline:(apos.endLine == cpos.line)=true:=by rfl) (hst:starEach [e] X.env=[(false,eval e X.env)]:=by rfl)
 (hs:swapsWith (.Call (.Attribute a "append" apos) [e] [] cpos) none pos.line X.env=pure false:=by rfl) :
 QS X M (.Expr (.Call (.Attribute a "append" apos) [e] [] cpos) pos) (mAppP i mp ma):=by
 obtain ⟨t,p,s⟩:=he; obtain ⟨t1,p1,s1⟩:=hp
 refine ⟨_,jL (tF PySem.F.plainAttrs_list PySem.F.slot_list_append PySem.F.type_list_append iZ p1 (bV p eB hst) hbase hfew hline hst (by rfl)) hs,fun C G ρ σ H n D hm hn r h k=>?_⟩
 obtain ⟨O,ro⟩:=r
 refine s1 C G ρ σ H [] O _ _ ro h fun p d0 e v0 u hq e1 e2 e3 wk=>?_
 obtain ⟨d0',ds,rfl,e1',hq⟩:=hq
 rw [e1] at e1'; cases e1'
 have rb:=ro.enter [i]
 obtain ⟨v',hv',sb⟩:=rb.sl i _ e1
 rw [e3] at hv'; cases hv'
 rw [if_neg (fun z=>by rw [cV] at z; simp at z)] at sb
 obtain ⟨u',k1,k2⟩:=Rep.walk sb e2
 cases (k1.mono rb.gh).one wk
 rw [Rep] at k2
 obtain ⟨a1,xs1,rfl,f1,f2⟩:=k2
 refine ⟨.inl ⟨rfl,xs1,SqL.of (rb.gh _ _ f1)⟩,?_⟩
 refine s _ _ ρ σ H [] _ _ ⟨_,rb⟩ hq fun d ρ' v G' H' hq z kp r' pv=>?_
 obtain ⟨O',r'⟩:=r'
 obtain ⟨r2,z2,ts⟩:=ro.leave r' kp
 have ei : ρ'[i]? = some (some d0):=by rw [kp i (fun z=>by rw [cV] at z; simp at z)]; exact e1
 obtain ⟨v1,a2,xs2,g1,g2,g3,g4,g5⟩:=r2.writeP ei e2 ho
 rw [e3] at g1; cases g1
 have k3:cN H' p v0 (.ref a1):=(k1.mono z).mono r'.gh
 cases k3.one g2
 refine ⟨a1,xs2,v,rfl,rfl,g3,by rw [g4.length]; exact db (Nat.le_of_lt hq.2.1),?_⟩
 exact k.nx _ _ _ _ hq.2.2 z2 ⟨_,g5 _ _ (g4.snoc (by rw [Nat.zero_add]; exact (pv.imms ts d v hq.1).sep d _ v hq.1))⟩
end
section
variable {X:Cx} {M:Md} {i:Nat} {pos:Pos} {mg:MG} {m:MS}
end
end L2
namespace L2
open PySem
end L2
namespace L2
open PySem PySem.Spec PyProof.Rows
section
variable {X:Cx}
end
section
variable {X:Cx} {pins:List (Addr×Obj)} {σ:St} {H:Hp} {s:Shared}
end
section
variable {X:Cx} {ow:List Bool} {pos:Pos}
end
section
open AutoSeq1 (wpAny_loadPart')
open MeetsSeq MeetsSeq2 MeetsSeq3
end
section
variable {prog:Program} {w:World} {A:Around} {E:Value→Shared→Prop} {s:Shared}
end
section
variable {X:Cx}
end
section
variable {X:Cx} {ow:List Bool} {pos p1 p2 p3 p4:Pos} {j1 j2 j3 j4:Nat}
end
end L2
namespace L2
open PySem
end L2
namespace L2
open PySem PySem.Spec PyProof.Rows
section
variable {X:Cx} {ow:List Bool} {a b:Expr} {ma mb:DSt→(Int→Prop)→Prop} {pos:Pos}
end
section
variable {C:Ctx} {ow:List Bool} {G G':Hp} {ρ:DSt} {σ:St} {H H':Hp} {pd:List (D×V)} {O O':Own}
end
section
variable {X:Cx} {ow:List Bool} {tg iter:Expr} {ifs:List Expr} {pos pos':Pos} {mi:MA} {mg:MG} {scope:Scope} {cl:List (Str×Addr)}
end
section
variable {X:Cx}
def mLRng2 (m:MA):ME:=fun ρ q=>m ρ fun ds ρ'=>match ds with
 | [.int i,.int j]=>(0≤i∧i≤j∧j≤1000)∧q (.lst (j9 i (j - i).toNat)) ρ'
 | _=>False
variable {a b:Expr} {mr:MA} {pos:Pos}
end
def Itv (a:Addr) (n:Nat):It :=
 ⟨fun i H=>∃ xs x,H a=some (.lst xs)∧xs.length=n∧i<n∧xs[n - 1 - i]? = some x,fun i H x H'=>H'=H∧∀ xs,H a=some (.lst xs)→xs[n - 1 - i]? = some x,fun i _=>n≤i⟩
theorem q_ {P:Program} {w:World} {K:PySem.W.Frag} {tg:Expr} (a it:Addr) (n:Nat):Turn P w K tg (Itv a n) [it] it (fun i h=>i≤n∧h.IsRevIter it a ((n:Int) - 1 - (i:Int))) where
 mem:=by simp
 obj:=fun i h st b hb=>by
  have e:b=it:=by simpa using hb
  subst e
  obtain ⟨_,o,e,c,d⟩:=st
  exact ⟨o,e,fun v z=>by rw [d] at z; cases z⟩
 keep:=fun i h h' st k=>⟨st.1,st.2.at fun o e=>k it (by simp) o e⟩
 item:=by
  intro X hP hw hK hc i pins s σ H E I hf st hg
  subst hP hw hK
  obtain ⟨xs,x,hq,hn,hi,hx⟩:=hg
  obtain ⟨its,rv,p,hz⟩:=I.list (SqL.of hq)
  obtain ⟨u,hu,ru⟩:=rv.get hx
  obtain ⟨f0,f1,f2,f3,f4,f5⟩:=hf it (by simp)
  have st2:=st.2
  rw [show (n:Int) - 1 - (i:Int)=((n - 1 - i:Nat):Int) by omega] at st2
  refine wpAny_pyNext_rev_item st2 p.isList (x:=u) (by simpa using hu) fun h' st' sb=>?_
  have I1:Inv X pins σ H { s with heap:=h' }:=I.turned (t':=s.toks) (fun b o hb e=>(sb.2 b hb).trans e) f0 f1 f3 f4 f5
  obtain ⟨o,e,c,d⟩:=id st'
  refine ⟨u,rfl,my (s:={ s with heap:=h' }) e c d (by decide) ⟨x,H,I1,ru,⟨rfl,fun ys hy=>by rw [hq] at hy; cases hy; exact hx⟩,⟨hi,?_⟩,fun b hb=>(hf b hb).1⟩⟩
  rw [show (n:Int) - 1 - ((i + 1:Nat):Int)=((n - 1 - i:Nat):Int) - 1 by omega]
  exact st'
 done:=by
  intro X hP hw hK hc i pins s σ H E I hf st hg
  subst hP hw hK
  have hg:n≤i:=hg
  have hg:i=n:=Nat.le_antisymm st.1 hg
  obtain ⟨f0,f1,f2,f3,f4,f5⟩:=hf it (by simp)
  have st2:=st.2
  rw [show (n:Int) - 1 - (i:Int) = -1 by omega] at st2
  exact wpAny_pyNext_rev_end (I.ok.hd hc) st2 fun h' eb=>⟨rfl,I.turned (t':=s.toks) (fun b o hb e=>eb b o hb e) f0 f1 f3 f4 f5⟩
 self:=fun _ _ _ _ _ st h=>wpAny_pyIter_revIter st.2 h
section
variable {X:Cx} {tg:Expr}
def iRev (ta:TA):TI:=fun σ H R=>ta σ H fun vs H1=>∃ a xs,vs=[.ref a]∧H1 a=some (.lst xs)∧R (Itv a xs.length) H1
theorem vn {l:Expr} {ta:TA} {p pos:Pos} (hg:Gl X "reversed") (hm:X.mg "reversed" = none) (ha:PA X [l] ta) (hs:starEach [l] X.env=[(false,eval l X.env)]:=by rfl):PI X tg (.Call (.Name "reversed" p) [l] [] pos) (iRev ta):=by
 refine ⟨fun pins s σ H R I h=>?_⟩
 refine Call_ (d9 I hg hm (show bootBuiltins "reversed" = some (.type "reversed") by decide +kernel) (PyProof.Rows.callWith_type1 (thn (ha pos pins s σ H _ I h) fun us s1 ⟨vs,H1,I1,r1,q1⟩=>?_) hs rfl))
 obtain ⟨a,xs,e,hx,q⟩:=q1
 subst e
 obtain ⟨u,rfl,ru⟩:=eQ r1
 cases ru
 obtain ⟨its,rv,p1,hz⟩:=I1.list (SqL.of hx)
 have hl:=rv.length
 refine call_reversed_list p1.isList ?_
 refine wpAny_pyIter_revIter (it:=s1.heap.objs.size) (l:=a) (i:=(its.toArray.size:Int) - 1) ⟨_,Heap.get?_push_size _ rfl,rfl,rfl⟩ ?_
 refine ⟨s1.heap.objs.size,[s1.heap.objs.size],_,_,H1,rfl,I1.kept (t':=s1.toks) fun b o e=>Heap.get?_push_of_some _ e,q_ a _ xs.length,⟨Nat.zero_le _,_,Heap.get?_push_size _ rfl,rfl,?_⟩,fun b hb=>?_,q⟩
 ·have e1:its.toArray.size=xs.length:=by simp; omega
  show Data.fields #[.ref a,rawInt ((its.toArray.size:Int) - 1)]=Data.fields #[.ref a,rawInt ((xs.length:Int) - 1 - ((0:Nat):Int))]
  rw [e1]
  congr 3
  simp
 ·have e:b=s1.heap.objs.size:=by simpa using hb
  subst e
  exact I1.fpOk (Nat.le_refl _) (I1.hok.fresh (Nat.le_refl _))
theorem ux {G:Hp} {p:Addr} {xs:List V} {ds:List D} (h1:G p=some (.lst xs)) (h2:Reps G ds xs):lI (Itv p xs.length) G ds.reverse:=fun C ow G' ρ σ H pd i z r=>by
 have hp:=r.gh _ _ (z _ _ h1)
 have hl:=h2.length
 refine ⟨fun h=>by rw [List.length_reverse] at h; show xs.length≤i; omega,fun d e=>?_⟩
 have hi:i<ds.length:=by have:=(List.getElem?_eq_some_iff.mp e).1; rw [List.length_reverse] at this; exact this
 rw [List.getElem?_reverse hi] at e
 obtain ⟨v,e1,e2⟩:=dX h2 e
 rw [← hl] at e1
 refine ⟨⟨xs,v,hp,rfl,by omega,e1⟩,fun x H' hy=>?_⟩
 obtain ⟨rfl,hy⟩:=hy
 have:=hy xs hp
 rw [e1] at this; cases this
 exact ⟨G',aM.refl _,r,Rep.mono z _ _ e2⟩
def miRev (m:MA):MA:=fun ρ q=>m ρ fun ds ρ'=>match ds with
 | [.lst ds]=>q ds.reverse ρ'
 | _=>False
variable {ow:List Bool} {a:Expr} {mr:MA} {pos:Pos}
theorem vF {p:Pos} (hg:Gl X "reversed") (hm:X.mg "reversed" = none) (ha:QA X ow [a] mr) (hs:starEach [a] X.env=[(false,eval a X.env)]:=by rfl):QI X ow tg (.Call (.Name "reversed" p) [a] [] pos) (miRev mr):=by
 obtain ⟨t,p,s⟩:=ha
 refine ⟨_,vn hg hm p hs,fun C G ρ σ H pd q Q r hm k=>s C G ρ σ H pd _ _ r hm fun ds ρ' vs G' H' hq z kp r' p hn=>?_⟩
 split at hq
 ·obtain ⟨v,rfl,p1⟩:=bj p
  obtain ⟨a,xs,rfl,h1,h2⟩:=a_ p1
  exact ⟨a,xs,rfl,r'.gh _ _ h1,k _ ρ' G' H' _ hq z kp r' (ux h1 h2)⟩
 ·exact hq.elim
end
section
variable {X:Cx}
open PySem.Builtin.Str (partsBetween occurrences)
variable {ow:List Bool} {e a b:Expr} {ma mb:ME}
end
section
variable {X:Cx} {tg:Expr}
variable {ow:List Bool} {e:Expr} {ma:ME}
end
end L2
namespace L2
open PySem PySem.Spec PyProof.Rows
section
variable {X:Cx}
end
end L2
namespace L2
open PySem
end L2
namespace L2
open PySem PySem.Spec PyProof.Rows
section
variable {prog:Program} {w:World} {A:Around} {E:Value→Shared→Prop} {s:Shared}
end
section
variable {X:Cx}
end
end L2
namespace L2
open PySem
end L2
namespace L2
open PySem PySem.Spec PyProof.Rows
section
variable {X:Cx} {ow:List Bool} {a b:Expr} {mex:MEX} {mb:ME} {pos:Pos}
end
section
variable {X:Cx} {pos p1 q1:Pos} {n1 n2:Nat} {k1 z:Int} {ow:List Bool}
end
section
variable {X:Cx} {ow:List Bool} {a b:Expr} {ma mb:ME} {pos:Pos}
end
section
variable {K:PySem.W.Frag} {mg:Str→Option Value} {n:Str} {st:Stmt} {ps:List Str} {f:Addr} {d:FuncData}
structure FT (K:PySem.W.Frag) (mg:Str→Option Value) (n:Str) (st:Stmt) (ps:List Str) (f:Addr) (d:FuncData):Prop where
 F:Fun K n n st f d
 b:gH K d ps []
 m:mg n=some (.ref f)
structure FH (K:PySem.W.Frag) (n:Str) (st:Stmt) (f:Addr) (d:FuncData):Prop where
 a:PySem.W.nsIn K mainGlobals n=some (some (.ref f))
 F:Fun K n n st f d
theorem aO {oc:Value} {od an:Option Addr} {osl:Array (Option Value)} {kV doc pm cdv ct:Value} (a:PySem.W.nsIn K mainGlobals n=some (some (.ref f))) (l:K.lookup f=some ⟨oc,od,.func (PySem.W.fnOf n n (d8 st) (cz st) (ai st) .none kV doc pm an cdv ct),osl⟩)
 (c:PySem.W.codeIn K cdv n=true) (k:PySem.W.keepIn K (.ref f)=true):FH K n st f (PySem.W.fnOf n n (d8 st) (cz st) (ai st) .none kV doc pm an cdv ct):=⟨a,vX l c k⟩
theorem FH.ft {h:Heap} (z:FH K n st f d) (X:K.In h) (G:h.Ns mainGlobals mg)
 (hb:∀ (kV doc pm:Value) (an:Option Addr) (cdv ct:Value) (us:List Value),us.length=ps.length→bindArgs (PySem.W.fnOf n n (d8 st) (cz st) (ai st) .none kV doc pm an cdv ct) ⟨us,[]⟩=pure (ps.zip us)):FT K mg n st ps f d:=⟨z.F,z.F.binds hb,PySem.W.mg_of X G z.a⟩
theorem aP {N P:List Str} {sc:Scope} (a:sc.kind = .function:=by rfl) (b:sc.isCoroutine=false:=by rfl) (c:sc.isGenerator=false:=by rfl) (d:N.Nodup:=by decide +kernel) (e:N.take P.length=P:=by rfl)
 (g:∀ x∈P,sc.names.lookup x=some .local∨sc.names.lookup x=some .cell:=by decide +kernel) (h:∀ y∈sc.names,y.2≠.free:=by decide +kernel):FnScope N P sc:=⟨a,b,c,d,e,g,h⟩
end
section
variable {X:Cx} {ow:List Bool} {k j:Nat} {f:Addr} {fd:FuncData} {ps:List Str} {mu:List Bool} {sd:SpD} {sx:SpX} {x:Str} {st:Stmt} {ks:List AK} {e:Expr} {es:List Expr} {mr:MA} {pos p':Pos}
theorem aq (F:FnOk X.prog X.w X.K X.mg X.base CX0 k f fd ps (aY mu false sd)) (hr:Room j X.A) (t:FT X.K X.mg x st ps f fd) (ha:QAk X ow ks (e :: es) mr) (hj:k≤j:=by decide) (hg:Gl X x:=by rfl) (hmu:mu=ks.map AK.isM:=by rfl) (nd:(aD ks).Nodup:=by decide) (hw:∀ i∈aD ks,ow[i]? = some true:=by decide) (hdb:(x == ("__debug__":Str))=false:=by decide)
 (he:starEach (e :: es) X.env=(false,eval e X.env) :: starEach es X.env:=by rfl) (hpl:(backTo pos (starEach es X.env)).any (·.1)=false:=by rfl):QE X ow (.Call (.Name x p') (e :: es) [] pos) (mE ks sd mr):=sZ F (hr.mono hj) hg t.m t.F.kp t.b ha hmu nd hw hdb he hpl
theorem aB (F:FnOk X.prog X.w X.K X.mg X.base CX0 k f fd ps (aY mu true sd)) (hr:Room j X.A) (t:FT X.K X.mg x st ps f fd) (ha:QAk X ow ks (e :: es) mr) (hj:k≤j:=by decide) (hg:Gl X x:=by rfl) (hmu:mu=ks.map AK.isM:=by rfl) (nd:(aD ks).Nodup:=by decide) (hw:∀ i∈aD ks,ow[i]? = some true:=by decide) (hdb:(x == ("__debug__":Str))=false:=by decide)
 (he:starEach (e :: es) X.env=(false,eval e X.env) :: starEach es X.env:=by rfl) (hpl:(backTo pos (starEach es X.env)).any (·.1)=false:=by rfl):QF X ow (.Call (.Name x p') (e :: es) [] pos) (mE ks sd mr):=rH F (hr.mono hj) hg t.m t.F.kp t.b ha hmu nd hw hdb he hpl
end
section
variable {K:PySem.W.Frag} {C a N:Addr} {dd nd:Option Addr} {nm qn x:Str} {bs bm sub:List Value} {hd ab:Bool} {sn:List Str} {col:Option Bool} {k0 k1 k2 k3 k5 ini:Option Value} {no:Value} {es:Array DictEntry} {np:Nat} {nl:Array (Option Value)}
end
end L2
namespace L2
open PySem PySem.Spec PyProof.Rows PySem.W Att
def RK (rk:Keyed→Nat) (xs:Array Keyed) (i:Nat):Nat:=match xs[i]? with
 | some p=>rk p
 | none=>0
theorem eN {rk:Keyed→Nat} {xs ys:Array Keyed} {i j:Nat} (h:xs[i]? = ys[j]?):RK rk xs i=RK rk ys j:=by unfold RK; rw [h]
theorem cn {rk:Keyed→Nat} {xs:Array Keyed} {src d:Nat} (hs:src<xs.size) (hd:d≤src) (k:Nat) :
 RK rk (bubble xs src d) k=if k=src - d then RK rk xs src else if src - d<k∧k≤src then RK rk xs (k - 1) else RK rk xs k:=by
 have e:=getElem?_bubble hs d hd k
 split
 ·rename_i h; rw [if_pos h] at e; exact eN e
 ·rename_i h
  rw [if_neg h] at e
  split
  ·rename_i h2; rw [if_pos h2] at e; exact eN e
  ·rename_i h2; rw [if_neg h2] at e; exact eN e
theorem be {rk:Keyed→Nat} {xs:Array Keyed} {i j:Nat} (hj:j≤xs.size) (k:Nat) :
 RK rk (mirror xs i j ((j - i) / 2)) k=if i≤k∧k<j then RK rk xs (i + j - 1 - k) else RK rk xs k:=by
 have e:=getElem?_mirror_all (i:=i) hj k
 split
 ·rename_i h; rw [if_pos h] at e; exact eN e
 ·rename_i h; rw [if_neg h] at e; exact eN e
def Lex (k:Nat→Int) (r:Nat→Nat) (m:Nat):Prop:=∀ i j,i<j→j<m→k i<k j∨(k i=k j∧r i<r j)
def Rev (k:Nat→Int) (r:Nat→Nat) (m:Nat):Prop:=∀ i j,i<j→j<m→k j<k i∨(k i=k j∧r j<r i)
def Rst (r:Nat→Nat) (x n:Nat):Prop:=(∀ i,i<x→r i<x)∧∀ i,x≤i→i<n→r i=i
theorem Lex.le {k:Nat→Int} {r:Nat→Nat} {m i j:Nat} (h:Lex k r m) (hij:i≤j) (hj:j<m):k i≤k j:=by
 rcases Nat.lt_or_ge i j with g | g
 ·rcases h i j g hj with z | z <;> omega
 ·have:i=j:=by omega
  subst this; exact Int.le_refl _
theorem Rev.ge {k:Nat→Int} {r:Nat→Nat} {m i j:Nat} (h:Rev k r m) (hij:i≤j) (hj:j<m):k j≤k i:=by
 rcases Nat.lt_or_ge i j with g | g
 ·rcases h i j g hj with z | z <;> omega
 ·have:i=j:=by omega
  subst this; exact Int.le_refl _
theorem Rev.turn {rk:Keyed→Nat} {xs:Array Keyed} {n N:Nat} (hn:n≤xs.size) (h:Rev (K xs) (RK rk xs) n):Lex (K (mirror xs 0 n ((n - 0) / 2))) (RK rk (mirror xs 0 n ((n - 0) / 2))) n:=fun i j hij hj=>by
 rw [K_mirror hn,K_mirror hn,be hn,be hn,if_pos (by omega),if_pos (by omega),if_pos (by omega),if_pos (by omega)]
 have:=h (0 + n - 1 - j) (0 + n - 1 - i) (by omega) (by omega)
 omega
theorem Rst.turn {rk:Keyed→Nat} {xs:Array Keyed} {b n N:Nat} (hn:n≤xs.size) (h:Rst (RK rk xs) n N):Rst (RK rk (mirror xs b n ((n - b) / 2))) n N:=by
 refine ⟨fun i hi=>?_,fun i h1 h2=>?_⟩
 ·rw [be hn]
  split
  ·exact h.1 _ (by omega)
  ·exact h.1 _ hi
 ·rw [be hn,if_neg (by omega)]; exact h.2 i h1 h2
structure Blk (k:Nat→Int) (r:Nat→Nat) (b x:Nat):Prop where
 lt:b<x
 eq:∀ i,b≤i→i<x→k i=k (x - 1)
 up:∀ i j,b≤i→i<j→j<x→r i<r j
 rev:∀ i j,i<j→j<x→i<b→k j<k i∨(k i=k j∧r j<r i)
 str:∀ i,i<b→k (x - 1)<k i
theorem Blk.one {k:Nat→Int} {r:Nat→Nat} {x:Nat} (h:Rev k r (x + 1)) (hx:∀ i,i<x→k x<k i):Blk k r x (x + 1) :=
 ⟨by omega,fun i h1 h2=>by congr 1; omega,fun i j h1 h2 h3=>by omega,fun i j h1 h2 h3=>h i j h1 h2,fun i h1=>by show k (x + 1 - 1)<k i; rw [show x + 1 - 1=x by omega]; exact hx i h1⟩
theorem Blk.turn {rk:Keyed→Nat} {xs:Array Keyed} {b n:Nat} (hn:n≤xs.size) (h:Blk (K xs) (RK rk xs) b n):Rev (K (mirror xs b n ((n - b) / 2))) (RK rk (mirror xs b n ((n - b) / 2))) n:=fun i j hij hj=>by
 have hb:=h.lt
 have hK:∀ t,K (mirror xs b n ((n - b) / 2)) t=K xs t:=fun t=>K_mirror_equal hn (fun t h1 h2=>h.eq t h1 h2) t
 rw [hK,hK,be hn,be hn]
 by_cases h1:b≤i
 ·rw [if_pos ⟨by omega,hj⟩,if_pos ⟨h1,by omega⟩]
  have e1:=h.eq i h1 (by omega)
  have e2:=h.eq j (by omega) hj
  have:=h.up (b + n - 1 - j) (b + n - 1 - i) (by omega) (by omega) (by omega)
  omega
 ·rw [if_neg (show ¬ (b≤i∧i<n) by omega)]
  by_cases h2:b≤j
  ·have e2:=h.eq j h2 hj
   have:=h.str i (by omega)
   omega
  ·rw [if_neg (show ¬ (b≤j∧j<n) by omega)]
   exact h.rev i j hij hj (by omega)
theorem Blk.rev1 {k:Nat→Int} {r:Nat→Nat} {x:Nat} (h:Blk k r (x - 1) x):Rev k r x:=fun i j hij hj=>h.rev i j hij hj (by omega)
section
variable {prog:Program} {w:World} {A:Around} {E:Value→Shared→Prop} {s:Shared} {a₀:Array Keyed} {rk:Keyed→Nat}
abbrev kS (st:SortSt):Nat→Int:=K (arrOf st)
abbrev rS (rk:Keyed→Nat) (st:SortSt):Nat→Nat:=RK rk (arrOf st)
theorem o4 {st:SortSt} {a nrem:Nat} {Q:AscSt→SortSt→Prop} (h0:IntKeys a₀) (hn:nrem≤a₀.size) (ha : 1≤a) (han:a≤nrem) (hB:SBase a₀ st) (hs:Lex (kS st) (rS rk st) a) (hr:Rst (rS rk st) a a₀.size)
 (h:∀ n,a≤n→n≤nrem→Lex (kS st) (rS rk st) n→Rst (rS rk st) n a₀.size→(n=nrem∨kS st n<kS st (n - 1))→Q (none,n) st) :
 wpS (model prog w) A E s (ascLoop a nrem) Q st:=by
 unfold ascLoop
 refine wpS_forRange (I:=fun x c st'=>st'=st∧c=(none,x)∧Lex (kS st) (rS rk st) x∧Rst (rS rk st) x a₀.size) ?step ?fin ⟨rfl,rfl,hs,hr⟩
 case fin =>
  rintro c st' ⟨rfl,rfl,hs',hr'⟩
  rw [show max a nrem=nrem by omega] at hs' hr' ⊢
  exact h nrem han (Nat.le_refl _) hs' hr' (.inl rfl)
 case step =>
  rintro x c st' hax hxn ⟨rfl,rfl,hs',hr'⟩
  dsimp only
  refine wpS_bind (wpS_ltK hB h0 (by omega) (by omega) ?_)
  by_cases hless:K (arrOf st') x<K (arrOf st') (x - 1)
  ·simp only [hless,decide_true,if_true]
   exact wpS_pure (h x hax (by omega) hs' hr' (.inr hless))
  ·simp only [hless,decide_false,Bool.false_eq_true,if_false]
   have hx:=hr'.2 x (Nat.le_refl _) (by omega)
   refine wpS_pure ⟨rfl,rfl,fun i j hij hj=>?_,fun i hi=>?_,fun i h1 h2=>hr'.2 i (by omega) h2⟩
   ·by_cases hjx:j<x
    ·exact hs' i j hij hjx
    ·have hj':j=x:=by omega
     subst hj'
     have a1:=hs'.le (i:=i) (j:=j - 1) (by omega) (by omega)
     have a2:=hr'.1 i hij
     show K (arrOf st') i<K (arrOf st') j∨(K (arrOf st') i=K (arrOf st') j∧rS rk st' i<rS rk st' j)
     change K (arrOf st') i≤K (arrOf st') (j - 1) at a1
     omega
   ·by_cases hix:i<x
    ·have:=hr'.1 i hix; omega
    ·have:i=x:=by omega
     subst this; omega
theorem l7 {st:SortSt} {n nrem:Nat} {Q:Option Nat→SortSt→Prop} (h0:IntKeys a₀) (hn:nrem≤a₀.size) (h1 : 1≤n) (hnn:n≤nrem) (hB:SBase a₀ st) (hs:Rev (kS st) (rS rk st) n) (hr:Rst (rS rk st) n a₀.size)
 (h:∀ m st',SBase a₀ st'→1≤m→m≤nrem→Lex (kS st') (rS rk st') m→Rst (rS rk st') m a₀.size→Q (some m) st') :
 wpS (model prog w) A E s (tail3 n nrem) Q st:=by
 unfold tail3
 have hsz:n≤(arrOf st).size:=by rw [hB.size]; omega
 refine wpS_bind (wpS_reverse ?_)
 have hB':SBase a₀ (setArr st (mirror (arrOf st) 0 n ((n - 0) / 2))):=hB.setArr (mirror_perm _ _ _ _)
 exact wpS_bind (o4 (rk:=rk) h0 hn h1 hnn hB' (Rev.turn (N:=0) hsz hs) (Rst.turn hsz hr) fun m hm1 hm2 hsm hrm _=>wpS_pure (h m _ hB' (by omega) hm2 hsm hrm))
theorem rC {st:SortSt} {n nrem:Nat} {Q:DescSt→SortSt→Prop} (h0:IntKeys a₀) (hn:nrem≤a₀.size) (h1 : 1≤n) (hnn:n≤nrem) (hB:SBase a₀ st) (hs:Blk (kS st) (rS rk st) (n - 1) n) (hr:Rst (rS rk st) n a₀.size)
 (h:∀ m neq st',SBase a₀ st'→n≤m→m≤nrem→neq + 1≤m→Blk (kS st') (rS rk st') (m - (neq + 1)) m→Rst (rS rk st') m a₀.size→Q (none,m,neq) st') :
 wpS (model prog w) A E s (descLoop n nrem) Q st:=by
 unfold descLoop
 refine wpS_forRange (I:=fun x c st'=>∃ neq,c=(none,x,neq)∧SBase a₀ st'∧neq + 1≤x∧Blk (kS st') (rS rk st') (x - (neq + 1)) x∧Rst (rS rk st') x a₀.size) ?step ?fin ⟨0,rfl,hB,by omega,hs,hr⟩
 case fin =>
  rintro c st' ⟨neq,rfl,hB',hq,hs',hr'⟩
  rw [show max n nrem=nrem by omega] at hs' hq hr' ⊢
  exact h nrem neq st' hB' hnn (Nat.le_refl _) hq hs' hr'
 case step =>
  rintro x c st' hax hxn ⟨neq,rfl,hB',hq,hs',hr'⟩
  dsimp only
  have hsz:x≤(arrOf st').size:=by rw [hB'.size]; omega
  have hx:=hr'.2 x (Nat.le_refl _) (by omega)
  have next:∀ st2:SortSt,SBase a₀ st2→(∀ t,x≤t→(arrOf st2)[t]? = (arrOf st')[t]?)→(∀ t,kS st2 t=kS st' t)→Rev (kS st2) (rS rk st2) x→Rst (rS rk st2) x a₀.size→kS st' x<kS st' (x - 1) →
   ∃ neq,((none,x + 1,0):DescSt)=(none,x + 1,neq)∧SBase a₀ st2∧neq + 1≤x + 1∧Blk (kS st2) (rS rk st2) (x + 1 - (neq + 1)) (x + 1)∧Rst (rS rk st2) (x + 1) a₀.size:=fun st2 hB2 hk hkk hR hr2 hless=>by
   have hx2:=hr2.2 x (Nat.le_refl _) (by omega)
   have below:∀ i,i<x→kS st2 x<kS st2 i:=fun i hi=>by
    have:=hR.ge (i:=i) (j:=x - 1) (by omega) (by omega)
    rw [hkk x,hkk i]
    rw [hkk (x - 1),hkk i] at this
    omega
   refine ⟨0,rfl,hB2,by omega,?_,fun i hi=>?_,fun i h1 h2=>hr2.2 i (by omega) h2⟩
   ·rw [show x + 1 - (0 + 1)=x by omega]
    refine Blk.one (fun i j hij hj=>?_) below
    by_cases hjx:j<x
    ·exact hR i j hij hjx
    ·have:j=x:=by omega
     subst this
     exact .inl (below i hij)
   ·by_cases hix:i<x
    ·have:=hr2.1 i hix; omega
    ·have:i=x:=by omega
     subst this; omega
  refine wpS_bind (wpS_ltK hB' h0 (by omega) (by omega) ?_)
  by_cases hless:K (arrOf st') x<K (arrOf st') (x - 1)
  ·simp only [hless,decide_true,if_true]
   by_cases hneq:neq > 0
   ·rw [if_pos hneq]
    refine wpS_bind (wpS_reverse (wpS_pure (next _ (hB'.setArr (mirror_perm _ _ _ _)) (fun t ht=>?_) (fun t=>K_mirror_equal hsz (fun t h1 h2=>hs'.eq t h1 h2) t) (Blk.turn hsz hs') (Rst.turn hsz hr') hless)))
    show (mirror (arrOf st') _ _ _)[t]? = _
    rw [getElem?_mirror_all hsz,if_neg (by omega)]
   ·rw [if_neg hneq]
    have:neq=0:=by omega
    subst this
    exact wpS_pure (next _ hB' (fun _ _=>rfl) (fun _=>rfl) (Blk.rev1 hs') hr' hless)
  ·simp only [hless,decide_false,Bool.false_eq_true,if_false]
   refine wpS_bind (wpS_ltK hB' h0 (by omega) (by omega) ?_)
   by_cases hlarger:K (arrOf st') (x - 1)<K (arrOf st') x
   ·simp only [hlarger,decide_true,if_true]
    exact wpS_pure (h x neq st' hB' hax (by omega) hq hs' hr')
   ·simp only [hlarger,decide_false,Bool.false_eq_true,if_false]
    have heqx:K (arrOf st') x=K (arrOf st') (x - 1):=by omega
    refine wpS_pure ⟨neq + 1,rfl,hB',by omega,?_,fun i hi=>?_,fun i h1 h2=>hr'.2 i (by omega) h2⟩
    ·rw [show x + 1 - (neq + 1 + 1)=x - (neq + 1) by omega]
     refine ⟨by omega,fun i h1 h2=>?_,fun i j h1 h2 h3=>?_,fun i j h1 h2 h3=>?_,fun i h1=>?_⟩
     ·rw [show x + 1 - 1=x by omega]
      by_cases hix:i<x
      ·rw [hs'.eq i h1 hix]; exact heqx.symm
      ·congr 1; omega
     ·by_cases hjx:j<x
      ·exact hs'.up i j h1 h2 hjx
      ·have:j=x:=by omega
       subst this
       have:=hr'.1 i h2; omega
     ·by_cases hjx:j<x
      ·exact hs'.rev i j h1 hjx h3
      ·have:j=x:=by omega
       subst this
       have:=hs'.str i h3
       left; show K (arrOf st') j<K (arrOf st') i; rw [heqx]; exact this
     ·rw [show x + 1 - 1=x by omega]
      have:=hs'.str i h1
      show K (arrOf st') x<K (arrOf st') i
      rw [heqx]; exact this
    ·by_cases hix:i<x
     ·have:=hr'.1 i hix; omega
     ·have:i=x:=by omega
      subst this; omega
theorem kH {st:SortSt} {n nrem:Nat} {Q:Option Nat→SortSt→Prop} (h0:IntKeys a₀) (hn:nrem≤a₀.size) (hnn:n + 1≤nrem) (hB:SBase a₀ st) (hs:Blk (kS st) (rS rk st) n (n + 1)) (hr:Rst (rS rk st) (n + 1) a₀.size)
 (h:∀ m st',SBase a₀ st'→1≤m→m≤nrem→Lex (kS st') (rS rk st') m→Rst (rS rk st') m a₀.size→Q (some m) st') :
 wpS (model prog w) A E s (descPart n nrem) Q st:=by
 unfold descPart
 refine wpS_bind (wpS_lift (wpAny_rule ⟨rfl,?_⟩))
 refine wpS_bind (rC (rk:=rk) h0 hn (by omega) hnn hB (by rw [show n + 1 - 1=n by omega]; exact hs) hr fun m neq st' hB' hm1 hm2 hq hs' hr'=>?_)
 dsimp only
 have hsz:m≤(arrOf st').size:=by rw [hB'.size]; omega
 by_cases hneq:neq > 0
 ·rw [if_pos hneq]
  exact wpS_bind (wpS_reverse (l7 (rk:=rk) h0 hn (by omega) hm2 (hB'.setArr (mirror_perm _ _ _ _)) (Blk.turn hsz hs') (Rst.turn hsz hr') h))
 ·rw [if_neg hneq]
  have:neq=0:=by omega
  subst this
  exact l7 (rk:=rk) h0 hn (by omega) hm2 hB' (Blk.rev1 hs') hr' h
theorem pz {st:SortSt} {nrem:Nat} {Q:Option Nat→SortSt→Prop} (h0:IntKeys a₀) (hn:nrem≤a₀.size) (h1 : 1≤nrem) (hB:SBase a₀ st) (hr:∀ i,i<a₀.size→rS rk st i=i)
 (h:∀ m st',SBase a₀ st'→1≤m→m≤nrem→Lex (kS st') (rS rk st') m→Rst (rS rk st') m a₀.size→Q (some m) st') :
 wpS (model prog w) A E s (countRun' 0 nrem) Q st:=by
 rw [countRun0_eq]
 refine wpS_bind (o4 (rk:=rk) h0 hn (Nat.le_refl 1) h1 hB (fun i j hij hj=>by omega) ⟨fun i hi=>by have:=hr i (by omega); omega,fun i _ h2=>hr i h2⟩ fun n hn1 hn2 hsn hrn hor=>?_)
 dsimp only
 by_cases hnn:n=nrem
 ·rw [if_pos (by simpa using hnn)]
  exact wpS_pure (h n st hB hn1 hn2 hsn hrn)
 ·rw [if_neg (by simpa using hnn)]
  have hlt:K (arrOf st) n<K (arrOf st) (n - 1):=hor.resolve_left hnn
  have rst:∀ (xs:Array Keyed),(∀ i,i<n→RK rk xs i<n)→(∀ i,n≤i→i<a₀.size→RK rk xs i=i)→Rst (RK rk xs) (n + 1) a₀.size:=fun xs g1 g2=>⟨fun i hi=>by
   by_cases hin:i<n
   ·have:=g1 i hin; omega
   ·have:=g2 i (by omega) (by omega); omega,fun i h1 h2=>g2 i (by omega) h2⟩
  by_cases hgt:n > 1
  ·rw [if_pos hgt]
   refine wpS_bind (wpS_ltK hB h0 (by omega) (by omega) ?_)
   by_cases hrose:K (arrOf st) 0<K (arrOf st) (n - 1)
   ·simp only [hrose,decide_true,if_true]
    exact wpS_pure (h n st hB hn1 hn2 hsn hrn)
   ·simp only [hrose,decide_false,Bool.false_eq_true,if_false]
    have hsz:n≤(arrOf st).size:=by rw [hB.size]; omega
    have hall:∀ k,0≤k→k<n→K (arrOf st) k=K (arrOf st) (n - 1):=fun k _ hk=>by
     have a1:K (arrOf st) 0≤K (arrOf st) k:=hsn.le (by omega) hk
     have a2:K (arrOf st) k≤K (arrOf st) (n - 1):=hsn.le (by omega) (by omega)
     omega
    have hK:=fun t=>K_mirror_equal hsz hall t
    have hm:=Rst.turn (b:=0) hsz hrn
    refine wpS_bind (wpS_reverse (kH (rk:=rk) h0 hn (by omega) (hB.setArr (mirror_perm _ _ _ _)) ?_ (rst _ hm.1 hm.2) h))
    have below:∀ i,i<n→K (mirror (arrOf st) 0 n ((n - 0) / 2)) n<K (mirror (arrOf st) 0 n ((n - 0) / 2)) i:=fun i hi=>by rw [hK,hK,hall i (by omega) hi]; exact hlt
    refine Blk.one (fun i j hij hj=>?_) below
    by_cases hjn:j<n
    ·right
     show K (mirror (arrOf st) 0 n ((n - 0) / 2)) i=K (mirror (arrOf st) 0 n ((n - 0) / 2)) j∧RK rk (mirror (arrOf st) 0 n ((n - 0) / 2)) j<RK rk (mirror (arrOf st) 0 n ((n - 0) / 2)) i
     rw [hK,hK,hall i (by omega) (by omega),hall j (by omega) hjn,be hsz,be hsz,if_pos (by omega),if_pos (by omega)]
     have r1:RK rk (arrOf st) (0 + n - 1 - j)=0 + n - 1 - j:=hr _ (by omega)
     have r2:RK rk (arrOf st) (0 + n - 1 - i)=0 + n - 1 - i:=hr _ (by omega)
     exact ⟨rfl,by rw [r1,r2]; omega⟩
    ·have:j=n:=by omega
     subst this
     exact .inl (below i hij)
  ·rw [if_neg hgt]
   have hn1':n=1:=by omega
   subst hn1'
   refine kH (rk:=rk) h0 hn (by omega) hB ?_ (rst _ hrn.1 hrn.2) h
   have below:∀ i,i<1→kS st 1<kS st i:=fun i hi=>by
    have:i=0:=by omega
    subst this; exact hlt
   exact Blk.one (fun i j hij hj=>by
    have:j=1:=by omega
    subst this; exact .inl (below i hij)) below
theorem wO {st:SortSt} {n ok:Nat} {Q:Bool→SortSt→Prop} (h0:IntKeys a₀) (hn:n≤a₀.size) (hok:ok≤n) (h1 : 1≤ok) (hB:SBase a₀ st) (hs:Lex (kS st) (rS rk st) ok) (hr:Rst (rS rk st) ok a₀.size)
 (h:∀ st',SBase a₀ st'→Lex (kS st') (rS rk st') n→Q true st'):wpS (model prog w) A E s (binarySort' 0 n ok) Q st:=by
 rw [binarySort'_eq]
 simp only [Nat.zero_add]
 refine wpS_bind (wpS_mono (wpS_forRange (I:=fun k c st'=>c=(none,())∧SBase a₀ st'∧Lex (kS st') (rS rk st') (min k n)∧Rst (rS rk st') (min k n) a₀.size)
  (Q:=fun c st'=>c=(none,())∧SBase a₀ st'∧Lex (kS st') (rS rk st') n) ?step ?fin ?init) ?post)
 case post =>
  rintro c st' ⟨rfl,hB',hs'⟩
  exact wpS_pure (h st' hB' hs')
 case init =>
  rw [show min (max ok 1) n=ok by omega]
  exact ⟨rfl,hB,hs,hr⟩
 case fin =>
  rintro c st' ⟨hc,hB',hs',_⟩
  refine ⟨hc,hB',?_⟩
  rwa [show min (max (max ok 1) n) n=n by omega] at hs'
 case step =>
  rintro k c st' hak hkn ⟨rfl,hB',hs',hr'⟩
  rw [show min k n=k by omega] at hs' hr'
  have hk:k<a₀.size:=by omega
  refine wpS_bind (wpS_mono (wpS_forRange (I:=fun x c st''=>st''=st'∧∃ l r,c=(none,l,r)∧l≤r∧r≤k∧r - l≤k - x ∧
   (∀ i,i<l→K (arrOf st') i≤K (arrOf st') k)∧(∀ i,r≤i→i<k→K (arrOf st') k<K (arrOf st') i))
   (Q:=fun c st''=>st''=st'∧∃ l r,c=(none,l,r)∧l≤k ∧
    (∀ i,i<l→K (arrOf st') i≤K (arrOf st') k)∧(∀ i,l≤i→i<k→K (arrOf st') k<K (arrOf st') i)) ?istep ?ifin ?iinit) ?ipost)
  case iinit=>exact ⟨rfl,0,k,rfl,by omega,by omega,by omega,fun i hi=>by omega,fun i h1 h2=>by omega⟩
  case ifin =>
   rintro c st'' ⟨rfl,l,r,rfl,hlr,hrk,hm,hlo,hhi⟩
   have:l=r:=by omega
   subst this
   exact ⟨rfl,l,l,rfl,hrk,hlo,hhi⟩
  case istep =>
   rintro x c st'' _ hxk ⟨rfl,l,r,rfl,hlr,hrk,hm,hlo,hhi⟩
   dsimp only
   by_cases hge:l ≥ r
   ·rw [if_pos hge]
    have:l=r:=by omega
    subst this
    exact wpS_pure ⟨rfl,l,l,rfl,hrk,hlo,hhi⟩
   ·rw [if_neg hge]
    refine wpS_bind (wpS_ltK hB' h0 hk (by omega) ?_)
    by_cases hless:K (arrOf st'') k<K (arrOf st'') ((l + r) / 2)
    ·simp only [hless,decide_true,if_true]
     refine wpS_pure ⟨rfl,l,(l + r) / 2,rfl,by omega,by omega,by omega,hlo,fun i g1 g2=>?_⟩
     have:K (arrOf st'') ((l + r) / 2)≤K (arrOf st'') i:=hs'.le g1 g2
     omega
    ·simp only [hless,decide_false,Bool.false_eq_true,if_false]
     refine wpS_pure ⟨rfl,(l + r) / 2 + 1,r,rfl,by omega,by omega,by omega,fun i g1=>?_,hhi⟩
     have:K (arrOf st'') i≤K (arrOf st'') ((l + r) / 2):=hs'.le (by omega) (by omega)
     omega
  case ipost =>
   rintro c st'' ⟨rfl,l,r,rfl,hlk,hlo,hhi⟩
   show wpS _ _ _ _ (do moveDown' k l; pure (ForInStep.yield (none,()))) _ _
   rw [moveDown'_eq]
   have hks:k<(arrOf st'').size:=by rw [hB'.size]; exact hk
   have hkk:RK rk (arrOf st'') k=k:=hr'.2 k (Nat.le_refl _) hk
   refine wpS_bind (wpS_modify (wpS_pure ⟨rfl,hB'.setArr (bubble_perm _ _ _),?_,?_⟩))
   ·rw [show min (k + 1) n=k + 1 by omega]
    intro i j hij hj
    show K (bubble (arrOf st'') k (k - l)) i<K (bubble (arrOf st'') k (k - l)) j∨(K (bubble (arrOf st'') k (k - l)) i=K (bubble (arrOf st'') k (k - l)) j∧RK rk (bubble (arrOf st'') k (k - l)) i<RK rk (bubble (arrOf st'') k (k - l)) j)
    rw [K_bubble hks (by omega),K_bubble hks (by omega),cn hks (by omega),cn hks (by omega),show k - (k - l)=l by omega]
    by_cases c1:i<l
    ·rw [if_neg (show ¬ i=l by omega),if_neg (show ¬ (l<i∧i≤k) by omega),if_neg (show ¬ i=l by omega),if_neg (show ¬ (l<i∧i≤k) by omega)]
     by_cases c2:j<l
     ·rw [if_neg (show ¬ j=l by omega),if_neg (show ¬ (l<j∧j≤k) by omega),if_neg (show ¬ j=l by omega),if_neg (show ¬ (l<j∧j≤k) by omega)]
      exact hs' i j hij (by omega)
     ·by_cases c3:j=l
      ·rw [if_pos c3,if_pos c3]
       have a1:=hlo i c1
       have a2:RK rk (arrOf st'') i<k:=hr'.1 i (by omega)
       omega
      ·rw [if_neg c3,if_pos ⟨by omega,by omega⟩,if_neg c3,if_pos ⟨by omega,by omega⟩]
       exact hs' i (j - 1) (by omega) (by omega)
    ·by_cases c2:i=l
     ·rw [if_pos c2,if_pos c2,if_neg (show ¬ j=l by omega),if_pos ⟨by omega,by omega⟩,if_neg (show ¬ j=l by omega),if_pos ⟨by omega,by omega⟩]
      exact .inl (hhi (j - 1) (by omega) (by omega))
     ·rw [if_neg c2,if_neg (show ¬ j=l by omega),if_neg c2,if_neg (show ¬ j=l by omega),if_pos (show l<i∧i≤k by omega),if_pos (show l<j∧j≤k by omega),if_pos (show l<i∧i≤k by omega),if_pos (show l<j∧j≤k by omega)]
      exact hs' (i - 1) (j - 1) (by omega) (by omega)
   ·rw [show min (k + 1) n=k + 1 by omega]
    refine ⟨fun i hi=>?_,fun i g1 g2=>?_⟩
    ·show RK rk (bubble (arrOf st'') k (k - l)) i<k + 1
     rw [cn hks (by omega)]
     split
     ·omega
     ·split
      ·have:=hr'.1 (i - 1) (by omega)
       change RK rk (arrOf st'') (i - 1)<k at this
       omega
      ·by_cases hik:i<k
       ·have:=hr'.1 i hik
        change RK rk (arrOf st'') i<k at this
        omega
       ·have:i=k:=by omega
        subst this; omega
    ·show RK rk (bubble (arrOf st'') k (k - l)) i=i
     rw [cn hks (by omega),if_neg (by omega),if_neg (by omega)]
     exact hr'.2 i (by omega) g2
def pZ (rk:Keyed→Nat) (a₀:Array Keyed) (st:SortSt):Prop:=(arrOf st).Perm a₀∧failedOf st=none∧pendingOf st = #[(0,a₀.size,0)]∧Lex (kS st) (rS rk st) a₀.size
theorem l6 {st:SortSt} (hB:SBase a₀ st) (hs:Lex (kS st) (rS rk st) a₀.size):pZ rk a₀ (setPending st ((pendingOf st).push (0,a₀.size,0))) :=
 ⟨hB.perm,hB.failed,by show (pendingOf st).push _=_; rw [hB.pend]; rfl,hs⟩
theorem sY {st:SortSt} {Q:Unit→SortSt→Prop} (h0:IntKeys a₀) (hB:SBase a₀ st) (hr:∀ i,i<a₀.size→rS rk st i=i) (h2 : 2≤a₀.size) (h64:a₀.size<64)
 (h:∀ st',(arrOf st').Perm a₀→failedOf st'=none→Lex (kS st') (rS rk st') a₀.size→Q () st'):wpS (model prog w) A E s sortRuns' Q st:=by
 rw [sortRuns'_eq]
 refine wpS_bind (wpS_get ?_)
 dsimp only
 have hmr:minRun' a₀.size a₀.size 0=a₀.size:=by
  obtain ⟨f,hf⟩:∃ f,a₀.size=f + 1:=⟨a₀.size - 1,by omega⟩
  have:minRun' (f + 1) a₀.size 0=a₀.size:=by rw [minRun'_succ,if_pos h64]; rfl
  rwa [← hf] at this
 simp only [hB.size,hmr]
 refine wpS_bind (wpS_mono (wpS_forRange
  (I:=fun x c st'=>(x=0∧c=(none,0)∧st'=st)∨(1≤x∧c=(none,a₀.size)∧pZ rk a₀ st'))
  (Q:=fun c st'=>c=(none,a₀.size)∧pZ rk a₀ st') ?step ?fin (.inl ⟨rfl,rfl,rfl⟩)) ?post)
 case fin =>
  rintro c st' (⟨hx,_,_⟩ | ⟨_,hc,hD⟩)
  ·omega
  ·exact ⟨hc,hD⟩
 case step =>
  rintro x c st' _ hx (⟨rfl,rfl,rfl⟩ | ⟨hx1,rfl,hD⟩)
  ·dsimp only
   rw [if_neg (by omega)]
   simp only [Nat.sub_zero,Nat.min_self,Nat.zero_add]
   refine wpS_bind (pz (rk:=rk) h0 (Nat.le_refl _) (by omega) hB hr fun m st2 hB2 hm1 hm2 hs2 hr2=>?_)
   dsimp only
   by_cases hlt:m<a₀.size
   ·rw [if_pos hlt]
    refine wpS_bind (wpS_lift (wpAny_rule ⟨rfl,?_⟩))
    refine wpS_bind (wO (rk:=rk) h0 (Nat.le_refl _) hm2 hm1 hB2 hs2 hr2 fun st3 hB3 hs3=>?_)
    simp only [Bool.not_true,Bool.false_eq_true,if_false]
    refine wpS_bind (wpS_get ?_)
    have hb:(pendingOf st3).back? = none:=by rw [hB3.pend]; rfl
    rw [hb]
    dsimp only
    exact wpS_bind (wpS_modify (wpS_pure (.inr ⟨by omega,rfl,l6 hB3 hs3⟩)))
   ·rw [if_neg hlt]
    have hm:m=a₀.size:=by omega
    subst hm
    refine wpS_bind (wpS_get ?_)
    have hb:(pendingOf st2).back? = none:=by rw [hB2.pend]; rfl
    rw [hb]
    dsimp only
    exact wpS_bind (wpS_modify (wpS_pure (.inr ⟨by omega,rfl,l6 hB2 hs2⟩)))
  ·dsimp only
   rw [if_pos (Nat.le_refl _)]
   exact wpS_pure ⟨rfl,hD⟩
 case post =>
  rintro c st' ⟨rfl,hD⟩
  dsimp only
  refine wpS_bind (wpS_mono (wpS_forRange (I:=fun _ c st''=>st''=st'∧c=(none,())) (Q:=fun c st''=>st''=st'∧c=(none,())) ?_ (fun _ _ hh=>hh) ⟨rfl,rfl⟩) ?_)
  ·rintro x c st'' _ _ ⟨rfl,rfl⟩
   refine wpS_bind (wpS_get ?_)
   rw [if_pos (by rw [hD.2.2.1]; exact Nat.le_refl 1)]
   exact wpS_pure ⟨rfl,rfl⟩
  ·rintro c st'' ⟨rfl,rfl⟩
   exact wpS_pure (h _ hD.1 hD.2.1 hD.2.2.2)
end
def rkV (p:Keyed):Nat:=(match p.2 with | .int z _=>z | _=>0:Int).toNat
section
variable {prog:Program} {w:World} {A:Around} {E:Value→Shared→Prop} {s:Shared} {h₀:Heap} {L:Addr} {m:Str→Option Value} {news:List (Addr×Obj)} {a kA:Addr} {vs:List Value} {kz:List Int} {keys:Array Value} {e e1:Nat} {P:PySem.Fin→Shared→Prop}
structure OutK (kz:List Int) (vs:List Value) (xs:Array Keyed):Prop where
 ex:∃ keys:Array Value,IntsAre keys.toList kz∧xs.Perm (keys.zip vs.toArray)∧Lex (K xs) (RK rkV xs) xs.size
theorem qh {st:SortSt} (F:Fr h₀ L s.heap m) (N:News h₀ L s.heap (news++[(kA,seqObj "list" keys e),(a,seqObj "list" #[] e1)])) (hka:kA≠a) (hnk:∀ p∈news,p.1≠kA) (hna:∀ p∈news,p.1≠a)
 (hk:IntsAre keys.toList kz) (hlen:kz.length=vs.length) (h64:vs.length<64) (hp:(arrOf st).Perm (keys.zip vs.toArray)) (hs:Lex (kS st) (rS rkV st) (arrOf st).size) (hfl:failedOf st=none)
 (h:∀ h' tk xs c,Fr h₀ L h' m→News h₀ L h' ((a,seqObj "list" (xs.map (·.2)) c) :: news)→OutK kz vs xs→P (.done (.ret .none)) { s with heap:=h',toks:=tk }) :
 wpAny (model prog w) A (ksk_tail a false e1 (.ref kA) st) P E s:=by
 have nk:=N (kA,seqObj "list" keys e) (List.mem_append_right _ (.head _))
 have na:=N (a,seqObj "list" #[] e1) (List.mem_append_right _ (.tail _ (.head _)))
 have Nn:News h₀ L s.heap news:=fun p hp=>N p (List.mem_append_left _ hp)
 have hsz:keys.size=vs.length:=by have h1:=hk.length; rw [Array.length_toList] at h1; omega
 have hsz2:(arrOf st).size=vs.length:=by rw [hp.size_eq,Array.size_zip,hsz,List.size_toArray,Nat.min_self]
 have hout:((arrOf st).map (·.2)).size=vs.length:=by rw [Array.size_map]; exact hsz2
 have s1:=Heap.SameBut.update s.heap kA (Obj.mapSeq fun _=>(#[]:Array Value))
 have na1:(s.heap.update kA (Obj.mapSeq fun _=>(#[]:Array Value))).get? a=some (seqObj "list" #[] e1):=(s1.2 a hka.symm).trans na.1
 have s2:=Heap.SameBut.update (s.heap.update kA (Obj.mapSeq fun _=>(#[]:Array Value))) a (Obj.mapSeq fun _=>(arrOf st).map (·.2))
 obtain ⟨c2,hc2⟩:∃ c2,((s.heap.update kA (Obj.mapSeq fun _=>(#[]:Array Value))).update a (Obj.mapSeq fun _=>(arrOf st).map (·.2))).get? a=some (seqObj "list" ((arrOf st).map (·.2)) c2):=⟨_,get?_update_seq na1 fun _=>(arrOf st).map (·.2)⟩
 have N2:=ksk_news (ksk_news Nn s1 hnk) s2 hna
 unfold ksk_tail
 try dsimp only
 refine wpAny_bind (listUpdate_at nk.1 rfl ?_ (by rw [hsz,sizeLine_eq]; omega) (Nat.zero_le _))
 refine wpAny_bind (wpAny_letGo ?_)
 refine wpAny_bind (seqEpoch_at na1 rfl ?_)
 simp only [Bool.false_eq_true,if_false]
 refine wpAny_bind (listUpdate_at na1 rfl ?_ (Nat.zero_le _) (Nat.le_trans (Nat.le_of_eq hout) (by rw [sizeLine_eq]; omega)))
 rw [hfl]
 simp only [bne_self_eq_false,Bool.false_eq_true,if_false]
 refine wpAny_pure (h _ _ _ c2 (ksk_fr (ksk_fr F s1 nk.2.1 nk.2.2) s2 na.2.1 na.2.2) (fun p hp=>?_) ⟨keys,hk,hp,hs⟩)
 rcases List.mem_cons.mp hp with rfl | hp
 ·exact ⟨hc2,na.2⟩
 ·exact N2 p hp
theorem end_k (F:Fr h₀ L s.heap m) (N:News h₀ L s.heap (news++[(kA,seqObj "list" keys e),(a,seqObj "list" #[] e1)])) (hka:kA≠a) (hnk:∀ p∈news,p.1≠kA) (hna:∀ p∈news,p.1≠a)
 (hk:IntsAre keys.toList kz) (hlen:kz.length=vs.length) (h64:vs.length<64) (hrk:∀ keys:Array Value,IntsAre keys.toList kz→∀ i,i<(keys.zip vs.toArray).size→RK rkV (keys.zip vs.toArray) i=i)
 (h:∀ h' tk xs c,Fr h₀ L h' m→News h₀ L h' ((a,seqObj "list" (xs.map (·.2)) c) :: news)→OutK kz vs xs→P (.done (.ret .none)) { s with heap:=h',toks:=tk }) :
 wpAny (model prog w) A (ksk_end a false vs.toArray e1 (.ref kA) keys) P E s:=by
 have hsz:keys.size=vs.length:=by have h1:=hk.length; rw [Array.length_toList] at h1; omega
 have hzs:(keys.zip vs.toArray).size=vs.length:=by rw [Array.size_zip,hsz,List.size_toArray,Nat.min_self]
 unfold ksk_end
 simp only [Bool.false_eq_true,if_false]
 by_cases h2:vs.toArray.size<2
 ·rw [if_pos h2,if_pos h2]
  refine wpAny_bind (wpAny_pure ?_)
  rw [StateT.run_pure]
  refine wpAny_bind (wpAny_pure ?_)
  try dsimp only
  refine qh (st:=SortSt.mk' general' (keys.zip vs.toArray) #[] 7 none) F N hka hnk hna hk hlen h64 (Array.Perm.refl _) (fun i j hij hj=>?_) rfl h
  have hj2:j<(keys.zip vs.toArray).size:=hj
  rw [hzs] at hj2
  rw [List.size_toArray] at h2
  omega
 ·rw [if_neg h2,if_neg h2]
  rw [List.size_toArray] at h2
  rw [ksk_kind hk (by rw [hsz]; omega)]
  refine wpAny_bind (wpAny_pure ?_)
  refine wpAny_bind (wpAny_mono (sY (rk:=rkV) (a₀:=keys.zip vs.toArray) (st:=SortSt.mk' oneType' (keys.zip vs.toArray) #[] 7 none)
   (Q:=fun _ st'=>(arrOf st').Perm (keys.zip vs.toArray)∧failedOf st'=none∧Lex (kS st') (rS rkV st') (keys.zip vs.toArray).size)
   (ksk_intKeys hk) ⟨Array.Perm.refl _,rfl,rfl,rfl⟩ (hrk keys hk) (by rw [hzs]; omega) (by rw [hzs]; exact h64) fun st' a1 a2 a3=>⟨a1,a2,a3⟩) ?_ fun _ _ e=>e)
  rintro ⟨⟨⟩,st'⟩ s' ⟨rfl,hp,hf,hs⟩
  try dsimp only
  exact qh F N hka hnk hna hk hlen h64 hp (by rw [hp.size_eq]; exact hs) hf h
theorem uL {f:Value} (F:Fr h₀ L s.heap m) (N:News h₀ L s.heap (news++[(kA,seqObj "list" #[] 0),(a,seqObj "list" #[] e1)])) (hka:kA≠a) (hnk:∀ p∈news,p.1≠kA) (hna:∀ p∈news,p.1≠a)
 (hlen:kz.length=vs.length) (h64:vs.length<64) (hrk:∀ keys:Array Value,IntsAre keys.toList kz→∀ i,i<(keys.zip vs.toArray).size→RK rkV (keys.zip vs.toArray) i=i)
 (turn:∀ (i:Nat) (v:Value) (k:Int),vs[i]? = some v→kz[i]? = some k→∀ (h:Heap) (tk:Nat) (own:List (Addr×Obj)),Fr h₀ L h m→News h₀ L h (news++own) →
  wpAny (model prog w) A (call f [v]) (KskEnd h₀ L m (news++own) k { s with heap:=h,toks:=tk }) (fun _ _=>False) { s with heap:=h,toks:=tk })
 (h:∀ h' tk xs c,Fr h₀ L h' m→News h₀ L h' ((a,seqObj "list" (xs.map (·.2)) c) :: news)→OutK kz vs xs→P (.done (.ret .none)) { s with heap:=h',toks:=tk }) :
 wpAny (model prog w) A (ksk_rest a f false vs.toArray e1 (.ref kA)) P E s:=by
 unfold ksk_rest
 refine wpAny_bind (wpAny_rule ?_)
 first
  | rw [List.forIn_toArray]
  | (rw [← Array.forIn_toList]; simp only [List.toList_toArray])
  | rw [← Array.forIn_toList]
 refine wpAny_bind (ksk_fold (fun i s'=>∃ h' tk kB e,s' = { s with heap:=h',toks:=tk }∧Fr h₀ L h' m∧News h₀ L h' (news++[(kA,seqObj "list" kB e),(a,seqObj "list" #[] e1)])∧IntsAre kB.toList (kz.take i)) vs 0 s
  ⟨s.heap,s.toks,#[],0,rfl,F,N,by simpa using IntsAre.nil⟩ ?step ?done)
 case step =>
  rintro j x s' hx ⟨h',tk,kB,e,rfl,F',N',hk⟩
  simp only [Nat.zero_add] at hk ⊢
  have hj:j<vs.length:=(List.getElem?_eq_some_iff.mp hx).1
  obtain ⟨k,hkj⟩:∃ k,kz[j]? = some k:=⟨_,List.getElem?_eq_getElem (by omega)⟩
  have hz:kB.size≤vs.length:=by have h1:=hk.length; rw [Array.length_toList,List.length_take] at h1; omega
  refine wpAny_bind (wpAny_attempt (wpAny_mono (turn j x k hx hkj h' tk _ F' N') (fun v s'' he=>?_) fun _ _ hF=>hF.elim))
  obtain ⟨g,tk2,t2,rfl,rfl,F2,N2⟩:=he
  try dsimp only
  have nk:=N2 (kA,seqObj "list" kB e) (List.mem_append_right _ (.head _))
  have na:=N2 (a,seqObj "list" #[] e1) (List.mem_append_right _ (.tail _ (.head _)))
  have s1:=Heap.SameBut.update g kA (Obj.mapSeq (·.push (.int k t2)))
  obtain ⟨c2,hc2⟩:∃ c2,(g.update kA (Obj.mapSeq (·.push (.int k t2)))).get? kA=some (seqObj "list" (kB.push (.int k t2)) c2):=⟨_,get?_update_seq nk.1 (·.push (.int k t2))⟩
  have ek:kz.take (j + 1)=kz.take j++[k]:=by rw [List.take_add_one,hkj]; simp
  have ea:(kB.push (Value.int k t2)).toList=kB.toList++[Value.int k t2]:=by simp
  refine wpAny_bind (listUpdate_at nk.1 rfl ?_ (by rw [sizeLine_eq]; omega) (Nat.le_trans (Nat.le_of_eq (Array.size_push ..)) (by rw [sizeLine_eq]; omega)))
  refine wpAny_pure ⟨rfl,_,_,kB.push (.int k t2),c2,rfl,ksk_fr F2 s1 nk.2.1 nk.2.2,fun p hp=>?_,by rw [ea,ek]; exact ksk_snoc hk⟩
  rcases List.mem_append.mp hp with hp | hp
  ·exact ksk_news (fun q hq=>N2 q (List.mem_append_left _ hq)) s1 hnk p hp
  ·rcases List.mem_cons.mp hp with rfl | hp
   ·exact ⟨hc2,nk.2⟩
   ·rw [List.mem_singleton.mp hp]
    exact ⟨(s1.2 a hka.symm).trans na.1,na.2⟩
 case done =>
  rintro s' ⟨h',tk,kB,e,rfl,F',N',hk⟩
  have hk':IntsAre kB.toList kz:=by
   have e3:kz.take (0 + vs.length)=kz:=List.take_of_length_le (by omega)
   rw [e3] at hk
   exact hk
  have nk:=N' (kA,seqObj "list" kB e) (List.mem_append_right _ (.head _))
  try dsimp only
  refine wpAny_bind (listItems_at nk.1 rfl ?_)
  exact end_k F' N' hka hnk hna hk' hlen h64 hrk fun h3 tk3 out c F3 N3 k3=>h h3 tk3 out c F3 N3 k3
theorem wM {f:Value} {n:Nat} (F:Fr h₀ L s.heap m) (N:News h₀ L s.heap news) (ho:s.heap.get? a=some (seqObj "list" vs.toArray n)) (haL:a≠L) (ha0:h₀.get? a=none) (hna:∀ p∈news,p.1≠a)
 (hlen:kz.length=vs.length) (h64:vs.length<64) (hrk:∀ keys:Array Value,IntsAre keys.toList kz→∀ i,i<(keys.zip vs.toArray).size→RK rkV (keys.zip vs.toArray) i=i)
 (turn:∀ (i:Nat) (v:Value) (k:Int),vs[i]? = some v→kz[i]? = some k→∀ (h:Heap) (tk:Nat) (own:List (Addr×Obj)),Fr h₀ L h m→News h₀ L h (news++own) →
  wpAny (model prog w) A (call f [v]) (KskEnd h₀ L m (news++own) k { s with heap:=h,toks:=tk }) (fun _ _=>False) { s with heap:=h,toks:=tk })
 (h:∀ h' tk xs c,Fr h₀ L h' m→News h₀ L h' ((a,seqObj "list" (xs.map (·.2)) c) :: news)→OutK kz vs xs→P (.done (.ret .none)) { s with heap:=h',toks:=tk }) :
 wpAny (model prog w) A (ksk_tree a f false) P E s:=by
 have ha:a<s.heap.objs.size:=Heap.lt_size ho
 have s1:=Heap.SameBut.update s.heap a (Obj.mapSeq fun _=>(#[]:Array Value))
 obtain ⟨e1,ho1⟩:∃ e1,(s.heap.update a (Obj.mapSeq fun _=>(#[]:Array Value))).get? a=some (seqObj "list" #[] e1):=⟨_,get?_update_seq ho fun _=>#[]⟩
 have F1:=ksk_fr F s1 haL ha0
 have N1:=ksk_news N s1 hna
 have hkS:((s.heap.update a (Obj.mapSeq fun _=>(#[]:Array Value))).push (seqObj "tuple" vs.toArray 0)).objs.size=s.heap.objs.size + 1:=by rw [size_push',Heap.size_update]
 have hLk:L<((s.heap.update a (Obj.mapSeq fun _=>(#[]:Array Value))).push (seqObj "tuple" vs.toArray 0)).objs.size:=(F1.push _).ns.lt
 unfold ksk_tree
 refine wpAny_bind (listItems_at ho rfl ?_)
 refine wpAny_bind (listUpdate_at ho rfl ?_ (by rw [List.size_toArray,sizeLine_eq]; omega) (Nat.zero_le _))
 refine wpAny_bind (seqEpoch_at ho1 rfl ?_)
 refine wpAny_bind (wpAny_newTuple ?_ (by show vs.length≤_; rw [sizeLine_eq]; omega))
 refine wpAny_bind (wpAny_newList ?_ (Nat.zero_le _))
 refine wpAny_holding ?_
 refine uL (s:={ s with heap:=((s.heap.update a (Obj.mapSeq fun _=>(#[]:Array Value))).push (seqObj "tuple" vs.toArray 0)).push (seqObj "list" #[] 0) }) (kA:=((s.heap.update a (Obj.mapSeq fun _=>(#[]:Array Value))).push (seqObj "tuple" vs.toArray 0)).objs.size)
  ((F1.push _).push _) (fun p hp=>?_) (by rw [hkS]; exact Nat.ne_of_gt (Nat.lt_succ_of_lt ha)) (fun p hp=>by rw [hkS]; exact Nat.ne_of_lt (Nat.lt_succ_of_lt (Heap.lt_size (N p hp).1))) hna hlen h64 hrk turn h
 rcases List.mem_append.mp hp with hp | hp
 ·exact ⟨Heap.get?_push_of_some _ (Heap.get?_push_of_some _ (N1 p hp).1),(N1 p hp).2⟩
 ·rcases List.mem_cons.mp hp with rfl | hp
  ·exact ⟨Heap.get?_push_size _ rfl,Nat.ne_of_gt hLk,Heap.get?_none_of_le (Nat.le_trans F.above (Nat.le_of_lt hLk))⟩
  ·rw [List.mem_singleton.mp hp]
   exact ⟨Heap.get?_push_of_some _ (Heap.get?_push_of_some _ ho1),haL,ha0⟩
end
section
variable {prog:Program} {w:World} {A:Around} {E:Value→Shared→Prop} {s:Shared}
theorem jX {r:Addr} {a b c:Int} {t u v:Tok} {n:Nat} {Q:List Value→Shared→Prop} (hh:A.handled=none) (hr:IsRange s.heap r a b c t u v) (hsmall:Builtin.Range.small a b c=true)
 (hn:Builtin.Range.rangeSize a b c=n) (hlen:n≤2 ^ 24)
 (h:∀ h' tk (ys:List Value),s.heap.objs.size≤h'.objs.size→(∀ b o,s.heap.get? b=some o→h'.get? b=some o)→ys.length=n→(∀ (j:Nat) v,ys[j]? = some v→∃ t,v=Value.int (a + j * c) t)→Q ys { s with heap:=h',toks:=tk }) :
 wpAny (model prog w) A (collect (.ref r)) Q E s:=by
 unfold collect
 refine wpAny_bind (wpAny_runValue (codeAny_builtin F.entry_proto_collect ?_))
 rw [Around.under_plainId F.plain_proto_collect _]
 show wpAny _ A.in1 (newList [] >>= fun l=>again (.builtin "list.__iadd__" ⟨[l,.ref r],[]⟩)) _ _ s
 refine wpAny_bind (wpAny_newObj_type ?_)
 refine wpAny_pure ⟨plainId_quiet F.plain_list_iadd _,codeAny_builtin F.entry_list_iadd ?_⟩
 rw [Around.under_plainId F.plain_list_iadd _]
 have hr':IsRange (s.heap.push (seqObj "list" #[] 0)) r a b c t u v:=Heap.get?_push_of_some _ hr
 have fin:∀ h' tk acc' c',(∀ b o,b≠s.heap.objs.size→(s.heap.push (seqObj "list" #[] 0)).get? b=some o→h'.get? b=some o)→h'.get? s.heap.objs.size=some { cls:=.type "list",dict:=none,data:=.seq acc' c',slots:=#[] } →
  ItemsOf (fun i v=>∃ t,v = .int (a + i * c) t) acc' n→wpAny (model prog w) A (do
   let o ← load s.heap.objs.size
   match o.data with
   | .seq xs _=>pure xs.toList
   | _=>unsupported "internal:collect") Q E { s with heap:=h',toks:=tk }:=fun h' tk acc' c' hk hS' hacc=>by
  refine wpAny_bind (wpAny_load hS' ?_)
  refine wpAny_pure (h h' tk acc'.toList (Nat.le_of_lt (Heap.lt_size hS')) (fun b o e=>hk b o (Nat.ne_of_lt (Heap.lt_size e)) (Heap.get?_push_of_some _ e)) (by simpa using hacc.1) fun j v hv=>?_)
  exact hacc.2 j v (by simpa using hv)
 have main:=wpAny_extend_range (prog:=prog) (w:=w) (A:=A) (s:={ s with heap:=s.heap.push (seqObj "list" #[] 0) }) (R:=fun r s' => r = .ok (.ret (.ref s.heap.objs.size)) ∧ wpAny (model prog w) A (do
       let o ← load s.heap.objs.size
       match o.data with
       | .seq xs _=>pure xs.toList
       | _=>unsupported "internal:collect") Q E s') hh hr' hsmall hn hlen s.heap.objs.size (.ref s.heap.objs.size) 0 (Heap.get?_push_size _ rfl) fun h' tk acc' c' hk hS' hacc=>⟨rfl,fin h' tk acc' c' hk hS' hacc⟩
 refine wpAny_mono main (fun f s' q=>?_) fun e s' q=>by cases q.1
 cases f with
 | done f=>obtain ⟨e,q⟩:=q; cases e; exact q
 | again c'=>exact ⟨q.1,codeAny_mono q.2 fun r s'' q=>by obtain ⟨rfl,q⟩:=q; exact q⟩
theorem iL:∀ (ys:List Value) (a:Int),(∀ (j:Nat) v,ys[j]? = some v→∃ t,v=Value.int (a + j * 1) t)→IntsAre ys ((List.range ys.length).map fun (i:Nat)=>a + (i:Int))
 | [],_,_=>.nil
 | y :: ys,a,h=>by
  obtain ⟨t,rfl⟩:=h 0 y rfl
  have ih:=iL ys (a + 1) fun j v e=>by
   obtain ⟨t,rfl⟩:=h (j + 1) v (by simpa using e)
   exact ⟨t,by congr 1; push_cast; omega⟩
  rw [List.length_cons,List.range_succ_eq_map,List.map_cons,List.map_map]
  have e:((List.range ys.length).map ((fun (i:Nat)=>a + (i:Int)) ∘ Nat.succ))=(List.range ys.length).map fun (i:Nat)=>a + 1 + (i:Int):=List.map_congr_left fun i _=>by show a + ((i + 1:Nat):Int)=_; omega
  rw [e]
  have e0:a + ((0:Nat):Int) * 1=a + ((0:Nat):Int):=by omega
  rw [e0]
  exact .cons _ t ih
variable {h₀:Heap} {L:Addr} {m:Str→Option Value} {news:List (Addr×Obj)}
theorem f_:∀ {vs:List Value} {ns:List Int} {i:Nat} {v:Value},IntsAre vs ns→vs[i]? = some v→∃ z t,ns[i]? = some z∧v = .int z t
 | _,_,i,v,.nil,h=>by simp at h
 | _,_,0,v,.cons n t r,h=>by simp at h; exact ⟨n,t,rfl,h.symm⟩
 | _,_,i + 1,v,.cons n t r,h=>by
  obtain ⟨z,t',h1,h2⟩:=f_ r (show _[i]? = some v by simpa using h)
  exact ⟨z,t',by simpa using h1,h2⟩
theorem mD {keys:Array Value} {vs:List Value} {i:Nat} {p:Keyed} (h:(keys.zip vs.toArray)[i]? = some p):keys.toList[i]? = some p.1∧vs[i]? = some p.2:=by
 have h2:(keys.zip vs.toArray).toList[i]? = some p:=by rw [Array.getElem?_toList]; exact h
 rw [ksk_zip] at h2
 obtain ⟨x,y⟩:=p
 rw [List.getElem?_zip_eq_some] at h2
 exact h2
theorem qw {n:Nat} {kz:List Int} {vs:List Value} (hi:IntsAre vs ((List.range n).map fun (i:Nat)=>(i:Int))) (keys:Array Value) (_:IntsAre keys.toList kz) (i:Nat) (hl:i<(keys.zip vs.toArray).size):RK rkV (keys.zip vs.toArray) i=i:=by
 have h:(keys.zip vs.toArray)[i]? = some (keys.zip vs.toArray)[i]:=getElem?_pos _ i hl
 obtain ⟨_,h2⟩:=mD h
 obtain ⟨z,t,h3,h4⟩:=f_ hi h2
 unfold RK
 rw [h]
 show rkV (keys.zip vs.toArray)[i]=i
 unfold rkV
 rw [h4]
 rw [List.getElem?_map,Option.map_eq_some_iff] at h3
 obtain ⟨i',e1,e2⟩:=h3
 obtain ⟨g1,g2⟩:=List.getElem?_eq_some_iff.mp e1
 rw [List.getElem_range] at g2
 subst g2
 show z.toNat=i
 omega
theorem lW {kz:List Int} {f:Value} {kw:List (Str×Value)} {r:Addr} {t u v:Tok} {n:Nat} {Q:Value→Shared→Prop} (F:Fr h₀ L s.heap m) (N:News h₀ L s.heap news) (hh:A.handled=none) (hr:IsRange s.heap r 0 n 1 t u v) (hlen:kz.length=n) (h64:n<64)
 (ha1:argsOk "sorted" ⟨[.ref r],kw⟩) (ha2:∀ x,argsOk "list.sort" ⟨[.ref x],kw⟩) (ht:∀ x,Builtin.«list.sort» ⟨[.ref x],kw⟩=ksk_tree x f false)
 (turn:∀ (i:Nat) (k:Int) (ti:Tok),kz[i]? = some k→∀ (h:Heap) (tk:Nat) (own:List (Addr×Obj)),Fr h₀ L h m→News h₀ L h (news++own) →
  wpAny (model prog w) A.in1.in1 (call f [.int i ti]) (KskEnd h₀ L m (news++own) k { s with heap:=h,toks:=tk }) (fun _ _=>False) { s with heap:=h,toks:=tk })
 (h:∀ D h' tk vs xs c,Fr h₀ L h' m→News h₀ L h' ((D,seqObj "list" (xs.map (·.2)) c) :: news)→s.heap.objs.size≤D→IntsAre vs ((List.range n).map fun (i:Nat)=>(i:Int))→OutK kz vs xs→Q (.ref D) { s with heap:=h',toks:=tk }) :
 wpAny (model prog w) A (call (.builtin "sorted") [.ref r] kw) Q E s:=by
 refine call_function_entry_kw kind_sorted plain_sorted entry_sorted ha1 ?_
 unfold Builtin.«sorted»
 refine wpAny_bind (m:=checkCount "sorted" 1 1 _) (wpAny_pure ?_)
 have hn1:Builtin.Range.rangeSize 0 n 1=(n:Int):=by rw [rangeSize_one]; split <;> omega
 refine wpAny_bind (jX (n:=n) hh hr (small_one (by omega) (by omega) (by omega) (by omega)) hn1 (by omega) fun h1 tk1 ys hsz hk hyl hys=>?_)
 refine wpAny_bind (wpAny_newList ?_ (by rw [sizeLine_eq]; omega))
 have hi:IntsAre ys ((List.range n).map fun (i:Nat)=>(i:Int)):=by
  have:=iL ys 0 hys
  rw [hyl] at this
  have e:((List.range n).map fun (i:Nat)=>(0:Int) + (i:Int))=(List.range n).map fun (i:Nat)=>(i:Int):=List.map_congr_left fun i _=>by omega
  rw [e] at this; exact this
 have hoL:(h1.push (seqObj "list" ys.toArray 0)).get? h1.objs.size=some (seqObj "list" ys.toArray 0):=Heap.get?_push_size _ rfl
 have keep:∀ b o,s.heap.get? b=some o→(h1.push (seqObj "list" ys.toArray 0)).get? b=some o:=fun b o q=>Heap.get?_push_of_some _ (hk b o q)
 have hL:L<h1.objs.size:=Heap.lt_size (hk _ _ F.ns.choose_spec.choose_spec.choose_spec.1)
 show wpAny _ _ _ _ _ { s with heap:=h1.push (seqObj "list" ys.toArray 0),toks:=tk1 }
 refine wpAny_bind (wpAny_holding (wpAny_call_entry_kw slot_list_sort ⟨_,hoL,rfl⟩ entry_list_sort ?body (ha2 _)))
 case body =>
  have ht':=ht h1.objs.size
  show wpAny (model prog w) A.in1.in1 (Builtin.«list.sort» ⟨[.ref h1.objs.size],kw⟩) _ _ _
  rw [ht']
  refine wM (s:={ s with heap:=h1.push (seqObj "list" ys.toArray 0),toks:=tk1 })
   (F.kept keep) (N.grown keep) hoL (Nat.ne_of_gt hL) (Heap.get?_none_of_le (Nat.le_trans F.above (Nat.le_of_lt hL)))
   (fun p hp=>Nat.ne_of_lt (Heap.lt_size (hk _ _ (N p hp).1))) (hlen.trans hyl.symm) (by omega) (qw hi) (fun i v k hv hkz h tk own Fh Nh=>?_) fun h' tk out c F' N' k'=>⟨_,rfl,?_⟩
  ·obtain ⟨ti,rfl⟩:=hys i v hv
   have e:(0:Int) + (i:Int) * 1=(i:Int):=by omega
   rw [e]
   exact turn i k ti hkz h tk own Fh Nh
  ·exact wpAny_pure ⟨_,rfl,h _ h' tk ys out c F' N' hsz hi k'⟩
end
structure TbS (H H':Hp):Prop where
 old:∀ a o,H a=some o→(∀ ps q,o≠.tbl ps q)→H' a=some o
 tab:∀ a ps q,H a=some (.tbl ps q)→∃ more,H' a=some (.tbl (ps++more) q)
 new:∀ a,H' a=none→H a=none
 frz:∀ a o,H' a=some o→H a=none→∃ ob u,o = .frz ob u
theorem TbS.refl {H:Hp}:TbS H H:=⟨fun _ _ e _=>e,fun _ ps _ e=>⟨#[],by rw [e]; simp⟩,fun _ e=>e,fun a o e n=>by rw [n] at e; cases e⟩
structure TabB (base:Heap) (mg:Str→Option Value) (c P:Addr) (q:Str):Prop where
 tm:TMk base P q
 code:CodeHd base c P
 blt:base.BuiltinsAt mg P
theorem rg {pos:Pos} {a b:Int} {c cv:Value} (l:List Value) (h:TriplesOk l):codeAmong pos (l++[rawInt a,rawInt b,c])=some cv→codeAmong pos l=some cv∨cv=c:=by
 fun_induction TriplesOk l with
 | case1 =>
  intro e
  simp only [List.nil_append,rawInt,codeAmong] at e
  split at e
  ·cases e; exact .inr rfl
  ·cases e
 | case2 a' t b' u x rest ih =>
  intro e
  simp only [List.cons_append,codeAmong] at e ⊢
  split at e
  ·rename_i hc; rw [if_pos hc]; exact .inl e
  ·rename_i hc; rw [if_neg hc]; exact ih h e
 | case3 l h1 h2=>exact h.elim
section
variable {X:Cx} {pins:List (Addr×Obj)} {σ:St} {H:Hp} {s:Shared} {args:Arguments} {body:Expr} {scope:Scope} {pos:Pos} {c P:Addr} {clos:List (Str×Addr)}
abbrev kG (X:Cx) (args:Arguments) (body:Expr) (scope:Scope) (clos:List (Str×Addr)) (cv ctv:Value):Obj:={ cls:=.type "function",data:=.func (kla_fn "<lambda>" (X.env.qual ++ "<lambda>") args body scope clos ((X.mg "__name__").getD .none) cv ctv) }
theorem uB {Q:Value→Shared→Prop} (I:Inv X pins σ H s) (hdf:defaultsOf args X.env=([],[])) (hcl:closureFor scope X.env=pure clos) (hcode:X.env.code = .ref c) (hB:TabB X.base X.mg c P (X.env.qual ++ "<lambda>"))
 (h:∀ f cv ctv H' s',Inv X ((f,kG X args body scope clos cv ctv) :: pins) σ H' s'→TbS H H'→(∃ c' oc vs t,cv = .ref c'∧H' c'=some (.frz oc (.own 0))∧oc.data = .fields vs∧vs[1]? = some (.str (X.env.qual ++ "<lambda>") t))→Q (.ref f) s') :
 wpAny (model X.prog X.w) X.A (eval (.Lambda args body scope pos) X.env) Q X.xe s:=by
 rw [arm_eval_Lambda,hdf]
 show wpAny _ _ (do let dv ← evalAll []; let kdv ← holding dv (evalAllOpt []); makeFunction "<lambda>" (X.env.qual ++ "<lambda>") args (.expr body) scope X.env dv kdv [] pos pos.line) _ _ s
 refine wpAny_bind (m:=evalAll []) (wpAny_pure ?_)
 refine wpAny_bind (wpAny_holding (m:=evalAllOpt []) (wpAny_pure ?_))
 obtain ⟨hM,hC,hB⟩:=hB
 obtain ⟨ps,hps⟩:=(I.ok.tb.un I.base) P _ hM
 obtain ⟨hP,hV⟩:=I.hok P _ hps
 have bP:X.base.get? P=none:=by
  cases e:X.base.get? P with
  | none=>rfl
  | some o =>
   obtain ⟨e1,n1⟩:=nofree e
   rw [show X.base.objs[P]? = _ from hM] at e1; cases e1
   exact absurd rfl n1
 have neP:∀ {b:Addr} {o:Obj},X.base.get? b=some o→b≠P:=fun e z=>by rw [z,bP] at e; cases e
 have hC':CodeHd s.heap c P:=hC.keeps I.bk
 have hg:s.heap.Ns mainGlobals X.mg:=I.ok.mod.glob.keeps I.bk
 have hgP:mainGlobals≠P:=by
  obtain ⟨o,es,ep,e,_⟩:=I.ok.mod.glob
  exact neP e
 have hb:s.heap.BuiltinsAt X.mg P:=by
  obtain ⟨bm,o,b1,b2,b3,b4,b5,b6⟩:=hB
  exact ⟨bm,o,b1,b2,b3,b4,I.bk _ _ b5,b6⟩
 have glob:X.env.globals=mainGlobals:=I.ok.glob
 have pinned:∀ {f:Addr} {o:Obj} {H':Hp} {s':Shared} {s1:Nat},Inv X pins σ H' s'→s'.heap.get? f=some o→H' f=none→s.heap.objs.size≤f→(∀ v,o.data≠.cell v)→Inv X ((f,o) :: pins) σ H' s':=fun {f o H' s' s1} J e n hf nc=>by
  refine J.pins_of fun p hp=>?_
  rcases List.mem_cons.mp hp with rfl | hp
  ·refine ⟨e,n,Nat.ne_of_gt (Nat.lt_of_lt_of_le I.lt hf),fun z=>?_,nc⟩
   obtain ⟨_,o',e',_⟩:=J.ok.funs.mem z
   exact absurd (Nat.lt_of_lt_of_le (Heap.lt_size e') (Nat.le_trans I.sz hf)) (Nat.lt_irrefl _)
  ·exact J.pin p (List.mem_append_right _ hp)
 cases hf:codeAmong pos ps.toList with
 | some cv =>
  refine kla_makeFunctionHit hcl glob hg hcode hC' hP hV.1 hf hb fun ctv h' tk hk hsz=>?_
  have J:Inv X pins σ H { s with heap:=h'.push (kG X args body scope clos cv ctv),toks:=tk }:=I.kept fun b o e=>Heap.get?_push_of_some _ (hk b o e)
  exact h _ cv ctv H _ (pinned (s1:=0) J (Heap.get?_push_size _ rfl) (I.hok.fresh hsz) hsz (fun v z=>by cases z)) TbS.refl (hV.2 pos cv hf)
 | none =>
  refine kla_makeFunction hcl glob hg hcode hC' hP hV.1 hf hgP hb fun c' ctv h' tk hx hge hlt hrec htab=>?_
  obtain ⟨c0,oc,vc,tq,hc0,hoc,hdc,hqc⟩:=hrec
  cases hc0
  have hne:c'≠P:=fun z=>absurd (Nat.lt_of_lt_of_le (Heap.lt_size hP) hge) (by rw [z]; exact Nat.lt_irrefl _)
  obtain ⟨H',hH'⟩:∃ H',H'=upd (upd H P (.tbl (ps++#[rawInt pos.line,rawInt pos.col,.ref c']) (X.env.qual ++ "<lambda>"))) c' (.frz oc (.own 0)):=⟨_,rfl⟩
  have atP:H' P=some (.tbl (ps++#[rawInt pos.line,rawInt pos.col,.ref c']) (X.env.qual ++ "<lambda>")):=by rw [hH',av (Ne.symm hne),aE]
  have atC:H' c'=some (.frz oc (.own 0)):=by rw [hH',aE]
  have hcn:H c'=none:=I.hok.fresh hge
  have oth:∀ b,b≠P→b≠c'→H' b=H b:=fun b z1 z2=>by rw [hH',av z2,av z1]
  have neo:∀ {b u},H b=some u→b≠c':=fun e z=>by rw [z,hcn] at e; cases e
  have old:∀ a o,H a=some o→(∀ ps q,o≠.tbl ps q)→H' a=some o:=fun a o e n=>by
   rw [oth a (fun z=>by rw [z,hps] at e; cases e; exact n _ _ rfl) (neo e)]; exact e
  have hx2:∀ b o,b≠P→s.heap.get? b=some o→(h'.push (kG X args body scope clos (.ref c') ctv)).get? b=some o:=fun b o z e=>Heap.get?_push_of_some _ (hx b o z e)
  have hhsz:s.heap.objs.size≤h'.objs.size:=Nat.le_trans hge (Nat.le_of_lt hlt)
  have un:Un X.fs [] H H' s.heap (h'.push (kG X args body scope clos (.ref c') ctv)):={
   keep:=fun b o e n _ _=>hx2 b o (fun z=>by rw [z,hps] at n; cases n) e
   slot:=fun b o e n _ _=>⟨o.slots,hx2 b o (fun z=>by rw [z,hps] at n; cases n) e⟩
   free:=fun b o e n _=>by rw [oth b (fun z=>by rw [z,hps] at n; cases n) (Nat.ne_of_lt (Nat.lt_of_lt_of_le (Heap.lt_size e) hge))]; exact n
   there:=fun b o e _=>by
    by_cases z:b=P
    ·subst z; exact ⟨_,Heap.get?_push_of_some _ htab⟩
    ·exact ⟨o,hx2 b o z e⟩
   tups:=fun b xs e=>old b _ e fun _ _ z=>by cases z
   frzs:=fun b o u e=>old b _ e fun _ _ z=>by cases z
   tbls:=fun b qs q e=>by
    by_cases z:b=P
    ·subst z; rw [hps] at e; cases e; exact ⟨_,atP⟩
    ·exact ⟨#[],by rw [oth b z (neo e),e]; simp⟩ }
  have hok:HOk X.prog X.w H' (h'.push (kG X args body scope clos (.ref c') ctv)):=fun b u e=>by
   by_cases z:b=P
   ·subst z; rw [atP] at e; cases e
    refine ⟨Heap.get?_push_of_some _ htab,by simpa using TriplesOk_snoc pos.line pos.col (.ref c') ps.toList hV.1,fun pos' cv e=>?_⟩
    rcases rg ps.toList hV.1 (by simpa using e) with e | rfl
    ·obtain ⟨c2,o2,v2,t2,a1,a2,a3⟩:=hV.2 pos' cv e
     exact ⟨c2,o2,v2,t2,a1,old _ _ a2 (fun _ _ z=>by cases z),a3⟩
    ·exact ⟨c',oc,vc,tq,rfl,atC,hdc,hqc⟩
   ·by_cases z2:b=c'
    ·subst z2; rw [atC] at e; cases e
     exact ⟨Heap.get?_push_of_some _ hoc,_,Heap.get?_push_of_some _ hoc⟩
    ·rw [oth b z z2] at e
     refine (I.hok b u e).stay (fun d v hd q=>hx2 d v ?_ q) (fun d q=>old d _ q fun _ _ z=>by cases z) (fun d xs q=>old d _ q fun _ _ z=>by cases z) fun d ob u q=>old d _ q fun _ _ z=>by cases z
     rcases hd with rfl | hd
     ·exact z
     ·exact fun y=>by rw [y,hps] at hd; cases hd
  have J:Inv X pins σ H' { s with heap:=h'.push (kG X args body scope clos (.ref c') ctv),toks:=tk }:=I.un un hok
  refine h _ (.ref c') ctv H' _ (pinned (s1:=0) J (Heap.get?_push_size _ rfl) (by rw [oth _ (Nat.ne_of_gt (Nat.lt_of_lt_of_le (Heap.lt_size hP) hhsz)) (Nat.ne_of_gt hlt)]; exact I.hok.fresh hhsz) hhsz (fun v z=>by cases z)) ⟨old,un.tbls,fun a e=>?_,fun a o e n=>?_⟩ ⟨c',oc,vc,tq,rfl,atC,hdc,hqc⟩
  ·by_cases z:a=P
   ·rw [z,atP] at e; cases e
   ·by_cases z2:a=c'
    ·rw [z2]; exact hcn
    ·rw [oth a z z2] at e; exact e
  ·by_cases z:a=P
   ·rw [z,hps] at n; cases n
   ·by_cases z2:a=c'
    ·rw [z2,atC] at e; cases e; exact ⟨_,_,rfl⟩
    ·rw [oth a z z2,n] at e; cases e
end
section
variable {prog:Program} {w:World} {A:Around} {s:Shared} {X:Cx} {args:Arguments} {scope:Scope} {clos:List (Str×Addr)} {cv ctv:Value} {f cc p:Addr} {x y:Str} {p1 p2 p3 p4:Pos}
theorem n5 {its:Array Value} {i:Nat} {ti:Tok} {k:Int} {tk0:Tok} (ho:s.heap.get? f=some (kG X args (.UnaryOp .USub (.Subscript (.Name y p1) (.Name x p2) p3) p4) scope clos cv ctv)) (hcd:s.heap.CodeRec cv (X.env.qual ++ "<lambda>"))
 (hce:s.heap.IsCell cc (some (.ref p))) (hl:s.heap.IsList p its) (hi:its[i]? = some (.int k tk0)) (hlim:s.heap.NoLimit) (hroom:A.depth<recursionLimit) (hi63:i<2 ^ 62)
 (hb:bindArgs (kla_fn "<lambda>" (X.env.qual ++ "<lambda>") args (.UnaryOp .USub (.Subscript (.Name y p1) (.Name x p2) p3) p4) scope clos ((X.mg "__name__").getD .none) cv ctv) ⟨[.int i ti],[]⟩=pure [(x,.int i ti)])
 (hk:scope.kind = .function) (hco:scope.isCoroutine=false) (hgen:scope.isGenerator=false) (hnc:∀ z∈scope.names,z.2≠.cell) (hx:scope.names.lookup x=some .local) (hy:scope.names.lookup y=some .free) (hyc:clos.lookup y=some cc)
 (dx:(x == ("__debug__":Str))=false) (dy:(y == ("__debug__":Str))=false) (ey:(y == ("__classdict__":Str))=false) :
 wpAny (model prog w) A (call (.ref f) [.int i ti]) (fun v s'=>∃ h' tk t',s' = { s with heap:=h',toks:=tk }∧v = .int (-k) t'∧∀ b o,s.heap.get? b=some o→h'.get? b=some o) (fun _ _=>False) s:=by
 refine wpAny_call ?_
 refine kla_callFunE hroom ho rfl hco hgen rfl hcd ?_
 rw [hb]
 refine wpAny_pure (wpAny_newFunctionEnv hnc (fun z hz=>by rw [List.mem_singleton.mp hz]; exact hx) (fun h₁ hns hsb=>⟨hlim.fresh _ hsb,?_⟩) hk)
 have hk₁:∀ b o,s.heap.get? b=some o→h₁.get? b=some o:=fun b o e=>hsb.extBut b o (Nat.ne_of_lt (Heap.lt_size e)) (Heap.get?_push_of_some _ e)
 refine kla_codeExpr ?_
 rw [arm_eval_UnaryOp]
 refine wpAny_bind ?_
 refine Subscript_ (wpAny_Name (wpAny_loadName_free hk hy hyc (hce.keeps hk₁) ?_ ey) dy)
 refine wpAny_Name (wpAny_loadName_local (v:=.int i ti) hk hx hns (by show ([(x,Value.int i ti)]:List (Str×Value)).reverse.lookup x=_; simp) ?_) dx
 refine item_listR (x:=.int k tk0) (let ⟨o,e,r⟩:=hl; ⟨o,hk₁ _ _ e,r⟩) (by omega) (by omega) (by simpa using hi) ?_ (by with_unfolding_all rfl)
 refine wpAny_bind (wpAny_standAt ?_)
 refine wpAny_holding ?_
 exact neg_int ⟨h₁,_,_,rfl,rfl,hk₁⟩
end
def kb:Value→Int
 | .int z _=>z
 | _=>0
theorem kx:∀ {kz:List Int} {vs:List Value} {ns:List Int},IntsAre vs ns→kz.length=ns.length→(kz.zip vs).map (fun p=>kb p.2)=ns
 | [],_,_,.nil,_=>rfl
 | [],_,_,.cons _ _ _,h=>by cases h
 | _ :: _,_,_,.nil,h=>by cases h
 | k :: kz,_,_,.cons n t r,h=>by
  rw [List.zip_cons_cons,List.map_cons,kx r (by simpa using h)]
  rfl
theorem mw:∀ {vs:List Value},(∀ v∈vs,∃ z t,v=Value.int z t)→IntsAre vs (vs.map kb)
 | [],_=>.nil
 | v :: vs,h=>by
  obtain ⟨z,t,rfl⟩:=h v (.head _)
  exact .cons z t (mw fun u hu=>h u (.tail _ hu))
structure SortK (n:Nat) (key:Int→Int) (out:List Int):Prop where
 perm:out.Perm ((List.range n).map fun (i:Nat)=>(i:Int))
 ord:out.Pairwise fun a b=>key a≤key b
 st:out.Pairwise fun a b=>key a<key b∨(key a=key b∧a<b)
theorem SortK.of {n:Nat} {key:Int→Int} {vs:List Value} {xs:Array Keyed} (hi:IntsAre vs ((List.range n).map fun (i:Nat)=>(i:Int))) (h:OutK ((List.range n).map fun (i:Nat)=>key (i:Int)) vs xs):∃ os:List Int,IntsAre (xs.map (·.2)).toList os∧SortK n key os:=by
 obtain ⟨keys,hk,hp,hs⟩:=h.ex
 have hpl:xs.toList.Perm (keys.zip vs.toArray).toList:=Array.perm_iff_toList_perm.mp hp
 have hm:∀ q∈xs.toList,∃ (i:Nat) (t u:Tok),q.1 = .int (key (i:Int)) t∧q.2 = .int (i:Int) u:=fun q hq=>by
  obtain ⟨i,hi2⟩:=List.getElem?_of_mem (hpl.mem_iff.mp hq)
  rw [Array.getElem?_toList] at hi2
  obtain ⟨g1,g2⟩:=mD hi2
  obtain ⟨a,t,a1,a2⟩:=f_ hk g1
  obtain ⟨b,u,b1,b2⟩:=f_ hi g2
  rw [List.getElem?_map,Option.map_eq_some_iff] at a1 b1
  obtain ⟨i1,e1,rfl⟩:=a1
  obtain ⟨i2,e2,rfl⟩:=b1
  rw [e1] at e2; cases e2
  exact ⟨i1,t,u,a2,b2⟩
 have at':∀ (i:Nat) (hl:i<xs.size),∃ (z:Nat) (t u:Tok),xs[i]? = some (.int (key (z:Int)) t,.int (z:Int) u):=fun i hl=>by
  have e:xs[i]? = some xs[i]:=getElem?_pos _ i hl
  obtain ⟨z,t,u,h1,h2⟩:=hm xs[i] (by simp)
  exact ⟨z,t,u,by rw [e]; congr 1; exact Prod.ext h1 h2⟩
 have hst:(xs.toList.map fun p=>kb p.2).Pairwise fun a b=>key a<key b∨(key a=key b∧a<b):=by
  rw [List.pairwise_map,List.pairwise_iff_getElem]
  intro i j hi' hj' hij
  have hj2:j<xs.size:=by simpa using hj'
  obtain ⟨z,t,u,e1⟩:=at' i (by omega)
  obtain ⟨z',t',u',e2⟩:=at' j hj2
  have g1:xs.toList[i]=(.int (key (z:Int)) t,.int (z:Int) u):=by
   have:xs.toList[i]? = some (.int (key (z:Int)) t,.int (z:Int) u):=by rw [Array.getElem?_toList]; exact e1
   rw [List.getElem?_eq_getElem hi'] at this; exact Option.some.inj this
  have g2:xs.toList[j]=(.int (key (z':Int)) t',.int (z':Int) u'):=by
   have:xs.toList[j]? = some (.int (key (z':Int)) t',.int (z':Int) u'):=by rw [Array.getElem?_toList]; exact e2
   rw [List.getElem?_eq_getElem hj'] at this; exact Option.some.inj this
  rw [g1,g2]
  have k1:K xs i=key (z:Int):=by unfold K; rw [e1]; rfl
  have k2:K xs j=key (z':Int):=by unfold K; rw [e2]; rfl
  have r1:RK rkV xs i=z:=by unfold RK; rw [e1]; show ((z:Int)).toNat=z; omega
  have r2:RK rkV xs j=z':=by unfold RK; rw [e2]; show ((z':Int)).toNat=z'; omega
  have:=hs i j hij hj2
  rw [k1,k2,r1,r2] at this
  show key (z:Int)<key (z':Int)∨(key (z:Int)=key (z':Int)∧(z:Int)<(z':Int))
  omega
 refine ⟨xs.toList.map fun p=>kb p.2,?_,?_,hst.imp fun h=>(by omega),hst⟩
 ·rw [Array.toList_map]
  have:=mw (vs:=xs.toList.map (·.2)) fun v hv=>by
   obtain ⟨q,hq,rfl⟩:=List.mem_map.mp hv
   obtain ⟨i,_,t,_,e⟩:=hm q hq
   exact ⟨_,t,e⟩
  rw [List.map_map] at this
  exact this
 ·have e:=kx (kz:=(List.range n).map fun (i:Nat)=>key (i:Int)) hi (by simp)
  have e3:(keys.zip vs.toArray).toList.map (fun p=>kb p.2)=vs.map kb:=by
   rw [ksk_zip]
   have hl:vs.length≤keys.toList.length:=by
    have a1:=hk.length
    have a2:=hi.length
    simp at a1 a2
    simp; omega
   show (keys.toList.zip vs).map (kb ∘ Prod.snd)=_
   rw [← List.map_map,List.map_snd_zip hl]
  have e4:vs.map kb=(List.range n).map fun (i:Nat)=>(i:Int):=by
   clear e e3 hst at' hm hpl hp hs h hk
   generalize (List.range n).map (fun (i:Nat)=>(i:Int))=ns at hi
   induction hi with
   | nil=>rfl
   | cons n t r ih=>rw [List.map_cons,ih]; rfl
  rw [← e4,← e3]
  exact hpl.map _
section
variable {X:Cx} {pins:List (Addr×Obj)} {σ:St} {H:Hp} {s:Shared} {args:Arguments} {scope:Scope} {clos:List (Str×Addr)} {cv ctv:Value} {f cc p r:Addr} {x y:Str} {p1 p2 p3 p4:Pos} {n:Nat} {ns:List Int} {t u v:Tok} {Q:Value→Shared→Prop}
structure LamOk (X:Cx) (args:Arguments) (scope:Scope) (clos:List (Str×Addr)) (x y:Str) (body:Expr) (cc:Addr):Prop where
 bind:∀ (cv ctv:Value) (i:Nat) (ti:Tok),bindArgs (kla_fn "<lambda>" (X.env.qual ++ "<lambda>") args body scope clos ((X.mg "__name__").getD .none) cv ctv) ⟨[.int i ti],[]⟩=pure [(x,.int i ti)]
 kind:scope.kind = .function
 co:scope.isCoroutine=false
 gen:scope.isGenerator=false
 nc:∀ z∈scope.names,z.2≠.cell
 hx:scope.names.lookup x=some .local
 hy:scope.names.lookup y=some .free
 yc:clos.lookup y=some cc
 dx:(x == ("__debug__":Str))=false
 dy:(y == ("__debug__":Str))=false
 ey:(y == ("__classdict__":Str))=false
theorem nr (I:Inv X pins σ H s) (hh:X.A.handled=none) (hroom:X.A.in1.in1.depth<recursionLimit) (hr:IsRange s.heap r 0 n 1 t u v) (hfn:s.heap.get? f=some (kG X args (.UnaryOp .USub (.Subscript (.Name y p1) (.Name x p2) p3) p4) scope clos cv ctv))
 (hcv:∃ c' oc vs t,cv = .ref c'∧H c'=some (.frz oc (.own 0))∧oc.data = .fields vs∧vs[1]? = some (.str (X.env.qual ++ "<lambda>") t)) (hce:s.heap.IsCell cc (some (.ref p))) (hcL:cc≠X.env.locals) (hl:SqL X.K H p (ns.map V.int)) (hn:n≤ns.length) (h64:n<64)
 (L:LamOk X args scope clos x y (.UnaryOp .USub (.Subscript (.Name y p1) (.Name x p2) p3) p4) cc)
 (h:∀ D out s',Inv X pins σ (upd H D (.lst (out.map V.int))) s'→H D=none→SortK n (fun z=>-(ns.getD z.toNat 0)) out→Q (.ref D) s') :
 wpAny (model X.prog X.w) X.A (call (.builtin "sorted") [.ref r] [(Str.ofString "key",.ref f)]) Q X.xe s:=by
 obtain ⟨m,hns,hloc⟩:=id I.loc
 obtain ⟨oL,esL,epL,hoL,hdL,hrL⟩:=id hns
 have neL:∀ {b:Addr} {o:Obj},s.heap.get? b=some o→(∀ es ep,o.data≠.dict es ep)→b≠X.env.locals:=fun e nd z=>by
  rw [z,hoL] at e; cases e; exact nd _ _ hdL
 have tL:∀ {b:Addr} {u:HO},H b=some u→b≠X.env.locals:=fun e z=>by rw [z,I.free] at e; cases e
 obtain ⟨its,rv,pl,hz⟩:=I.list hl
 have hil:=rv.length
 rw [List.length_map] at hil
 obtain ⟨ol,nl,el,ecl,edl,edd⟩:=id pl
 have pL:p≠X.env.locals:=neL el fun es ep z=>by rw [edd] at z; cases z
 have N0:News (jz s.heap) X.env.locals s.heap (jF s.heap X.env.locals X.env.locals):=fun q hq=>by
  obtain ⟨a,o⟩:=q
  have:=ii.mp hq
  exact ⟨this.2.2,this.1,g8 _ _⟩
 have inN:∀ {b:Addr} {o:Obj},s.heap.get? b=some o→b≠X.env.locals→(b,o)∈jF s.heap X.env.locals X.env.locals:=fun e z=>ii.mpr ⟨z,z,e⟩
 obtain ⟨c',oc,vc,tq,rfl,hc',hdc,hqc⟩:=hcv
 have hc1:=(I.hok c' _ hc').1
 refine lW (kz:=(List.range n).map fun (i:Nat)=>-(ns.getD (i:Int).toNat 0)) (f:=.ref f) (wR hns) N0 hh hr (by simp) h64 (ksk_s1 _ _) (fun x=>ksk_l1 _ _) (fun x=>ksk_t1 _ _) (fun i k ti hkz g tk own Fg Ng=>?_) fun D h' tk vs out c F' N' hD hi ko=>?_
 ·rw [List.getElem?_map,Option.map_eq_some_iff] at hkz
  obtain ⟨i',e1,rfl⟩:=hkz
  have hin:i<n∧i'=i:=by
   obtain ⟨h1,h2⟩:=List.getElem?_eq_some_iff.mp e1
   rw [List.length_range] at h1
   rw [List.getElem_range] at h2
   exact ⟨h1,h2.symm⟩
  obtain ⟨hin,ei⟩:=hin
  subst i'
  have get:∀ {b:Addr} {o:Obj},s.heap.get? b=some o→b≠X.env.locals→g.get? b=some o:=fun e z=>(Ng _ (List.mem_append_left _ (inN e z))).1
  have hni:ns[i]? = some ns[i]:=List.getElem?_eq_getElem (by omega)
  obtain ⟨w1,ew,rw1⟩:=rv.get (show (ns.map V.int)[i]? = some (.int ns[i]) by rw [List.getElem?_map,hni]; rfl)
  obtain ⟨t1,rfl⟩:=(show ∃ t,w1=Value.int ns[i] t from rw1)
  have egd:ns.getD ((i:Nat):Int).toNat 0=ns[i]:=by rw [Int.toNat_natCast,List.getD_eq_getElem?_getD,hni]; rfl
  rw [egd]
  have blt:∀ b o,X.base.get? b=some o→g.get? b=some o:=fun b o e=>get (I.bk b o e) (fun z=>absurd (Heap.lt_size e) (by rw [z]; exact Nat.not_lt.mpr (Nat.le_trans I.ok.bsz I.ok.above)))
  obtain ⟨oce,ece,ecd⟩:=hce
  refine wpAny_mono (n5 (s:={ s with heap:=g,toks:=tk }) (X:=X) (args:=args) (scope:=scope) (clos:=clos) (cv:=.ref c') (ctv:=ctv) (f:=f) (cc:=cc) (p:=p) (x:=x) (y:=y) (p1:=p1) (p2:=p2) (p3:=p3) (p4:=p4) (its:=its.toArray) (i:=i) (ti:=ti) (k:=ns[i]) (tk0:=t1)
   (get hfn (neL hfn fun es ep z=>by cases z)) ⟨c',oc,vc,tq,rfl,get hc1 (tL hc'),hdc,hqc⟩ ⟨oce,get ece hcL,ecd⟩ ⟨ol,get el pL,ecl,nl,edd⟩ (by simpa using ew) (I.ok.mod.nolimit.keeps blt) hroom (by omega) (L.bind _ _ _ _) L.kind L.co L.gen L.nc L.hx L.hy L.yc L.dx L.dy L.ey) (fun v s' q=>?_) fun _ _ z=>z
  obtain ⟨h',tk',t',rfl,rfl,kp⟩:=q
  exact ⟨h',tk',t',rfl,rfl,Fg.kept kp,fun q hq=>⟨kp _ _ (Ng q hq).1,(Ng q hq).2⟩⟩
 ·obtain ⟨os,hos,hsk⟩:=SortK.of (key:=fun z=>-(ns.getD z.toNat 0)) hi ko
  have hDn:H D=none:=I.hok.fresh hD
  refine h D os _ ?_ hDn hsk
  have get:∀ {b:Addr} {o:Obj},s.heap.get? b=some o→b≠X.env.locals→h'.get? b=some o:=fun e z=>(N' _ (List.mem_cons_of_mem _ (inN e z))).1
  have hDo:=(N' _ (.head _)).1
  have neD:∀ {b:Addr} {o:Obj},s.heap.get? b=some o→b≠D:=fun e=>Nat.ne_of_lt (Nat.lt_of_lt_of_le (Heap.lt_size e) hD)
  have up:∀ {b u},H b=some u→upd H D (.lst (os.map V.int)) b=some u:=fun e=>by rw [av (aF e hDn)]; exact e
  have hlo:os.length=n:=by have:=hsk.perm.length_eq; simpa using this
  refine I.step (g':=s.gens) (d':=s.drawn) (ch:=[]) (fun _ z=>nomatch z) (fun b o hL _ _ e _=>get e hL) (fun b o hL _ _ e _=>⟨o.slots,get e hL⟩) (fun b o _ e q=>by rw [av (neD e)]; exact q) (fun b o _ e=>?_) (fun b xs e=>up e) (fun b o u e=>up e) (fun b ps q e=>⟨#[],by rw [up e]; simp⟩) (fun m' hm'=>?_) (fun b u e=>?_) I.bare
  ·by_cases z:b=X.env.locals
   ·obtain ⟨o',_,_,e',_⟩:=F'.ns; exact ⟨o',by rw [z]; exact e'⟩
   ·exact ⟨o,get e z⟩
  ·rw [hm'.eq_nsMap,← hns.eq_nsMap]; exact F'.ns
  ·by_cases z:b=D
   ·subst z; rw [aE] at e; cases e
    exact ⟨by rw [List.length_map,hlo]; exact Nat.le_trans (Nat.le_of_lt h64) (by decide),(out.map (·.2)).toList,c,fc hos,by rw [Array.toArray_toList]; exact hDo⟩
   ·rw [av z] at e
    exact (I.hok b u e).stay (fun d w hd q=>get q (hd.elim (fun y=>by rw [y]; exact tL e) fun y=>tL y)) (fun d q=>up q) (fun d xs q=>up q) fun d ob u q=>up q
end
theorem Inv.pinNew {X:Cx} {pins:List (Addr×Obj)} {σ:St} {H:Hp} {s:Shared} {f:Addr} {o:Obj} (J:Inv X pins σ H s) (e:s.heap.get? f=some o) (n:H f=none) (hf:X.s₀.heap.objs.size≤f) (hL:f≠X.env.locals) (nc:∀ v,o.data≠.cell v):Inv X ((f,o) :: pins) σ H s:=by
 refine J.pins_of fun p hp=>?_
 rcases List.mem_cons.mp hp with rfl | hp
 ·refine ⟨e,n,hL,fun z=>?_,nc⟩
  obtain ⟨_,o',e',_⟩:=J.ok.funs.mem z
  exact absurd (Nat.lt_of_lt_of_le (Heap.lt_size e') hf) (Nat.lt_irrefl _)
 ·exact J.pin p (List.mem_append_right _ hp)
def vg (K:PySem.W.Frag) (j:Nat) (te:TE):TE:=fun σ H Q=>te σ H fun v H1=>∃ n:Nat,v = .int n∧n<64∧∃ (p:Addr) (ns:List Int),σ[j]? = some (some (.ref p))∧SqL K H1 p (ns.map V.int)∧n≤ns.length ∧
 ∀ H2 out D,TbS H1 H2→SortK n (fun z=>-(ns.getD z.toNat 0)) out→H2 D=none→Q (.ref D) (upd H2 D (.lst (out.map V.int)))
theorem TbS.sq {K:PySem.W.Frag} {H H':Hp} {p:Addr} {xs:List V} (h:TbS H H') (s:SqL K H p xs):SqL K H' p xs:=by
 rcases s with (s | ⟨o,s⟩) | s
 ·exact .inl (.inl (h.old _ _ s fun _ _ z=>by cases z))
 ·exact .inl (.inr ⟨o,h.old _ _ s fun _ _ z=>by cases z⟩)
 ·exact .inr s
section
variable {X:Cx} {e:Expr} {te:TE} {x y:Str} {j:Nat} {c P:Addr} {args:Arguments} {scope:Scope} {p1 p2 p3 p4 q1 q2 q3 lp kp pos:Pos}
theorem kO {cc:Addr} (hnm:scope.names=[(x,.local),(y,.free)]) (h:X.env.cells.lookup y=some cc):closureFor scope X.env=pure [(y,cc)]:=by
 unfold closureFor
 rw [hnm]
 simp [cellOf,h]
theorem qk (hg1:Gl X "sorted") (hm1:X.mg "sorted" = none) (hg2:Gl X "range") (hm2:X.mg "range" = none) (he:PE X e te) (hj:X.N[j]? = some y) (hyk:X.env.kindOf y=some .cell) (hcode:X.env.code = .ref c)
 (hB:TabB X.base X.mg c P (X.env.qual ++ "<lambda>")) (hcalm:X.calm=true) (hroom:X.A.in1.in1.depth<recursionLimit) (hnm:scope.names=[(x,.local),(y,.free)]) (hkd:scope.kind = .function) (hco:scope.isCoroutine=false) (hge:scope.isGenerator=false)
 (hbind:∀ (cc:Addr) (cv ctv:Value) (i:Nat) (ti:Tok),bindArgs (kla_fn "<lambda>" (X.env.qual ++ "<lambda>") args (.UnaryOp .USub (.Subscript (.Name y p1) (.Name x p2) p3) p4) scope [(y,cc)] ((X.mg "__name__").getD .none) cv ctv) ⟨[.int i ti],[]⟩=pure [(x,.int i ti)])
 (hdf:defaultsOf args X.env=([],[])) (hxy:(y == x)=false) (dx:(x == ("__debug__":Str))=false) (dy:(y == ("__debug__":Str))=false) (ey:(y == ("__classdict__":Str))=false) (hs:starEach [e] X.env=[(false,eval e X.env)]:=by rfl) :
 PE X (.Call (.Name "sorted" q1) [.Call (.Name "range" q2) [e] [] q3] [⟨some "key",.Lambda args (.UnaryOp .USub (.Subscript (.Name y p1) (.Name x p2) p3) p4) scope lp,kp⟩] pos) (vg X.K j te):=by
 refine ⟨fun pins s σ H Q I h=>?_⟩
 refine wpAny_Call_Name_kw (d9 I hg1 hm1 de ?_)
 refine callWith_kw (rest:=[]) ?_
 show wpAny _ _ (spliced ((false,eval (.Call (.Name "range" q2) [e] [] q3) X.env) :: [])) _ _ s
 refine Calls.spliced_cons ?_
 refine Call_ (d9 I hg2 hm2 boot_range (PyProof.Rows.callWith_type1 (rest:=[]) ?_ hs rfl))
 rw [hs]
 refine Calls.spliced_cons (thn (he pins s σ H _ I h) fun u1 s1 ⟨v1,H1,I1,r1,n,e1,h64,p,ns,ep,hq,hnl,hQ⟩=>Calls.spliced_nil ?_)
 subst e1
 obtain ⟨tn,rfl⟩:=r1
 refine call_range_1 ?_
 refine Calls.spliced_nil ?_
 show wpAny _ _ (evalAll [(do let v ← eval (.Lambda args (.UnaryOp .USub (.Subscript (.Name y p1) (.Name x p2) p3) p4) scope lp) X.env; standAt pos; pure v)]) (fun kvs s₂=>wpAny (model X.prog X.w) X.A (call (.builtin "sorted") [.ref s1.heap.objs.size] ([Str.ofString "key"].zip kvs)) (EP X pins σ Q) X.xe s₂) _ _
 have I2:Inv X pins σ H1 { s1 with heap:=s1.heap.push { cls:=.type "range",data:=.fields #[.int 0 s1.toks,.int n tn,.int 1 (s1.toks + 1)] },toks:=s1.toks + 1 + 1 }:=I1.kept fun b o e=>Heap.get?_push_of_some _ e
 have J:=I2.pinNew (Heap.get?_push_size s1.heap (o:={ cls:=.type "range",data:=.fields #[.int 0 s1.toks,.int n tn,.int 1 (s1.toks + 1)] }) rfl) (I1.hok.fresh (Nat.le_refl _)) I1.sz (Nat.ne_of_gt I1.lt) (fun v z=>by cases z)
 obtain ⟨cc,hcc⟩:=I.ok.has y (.inl hyk)
 unfold evalAll
 refine wpAny_bind (wpAny_bind ?_)
 refine uB J hdf (kO hnm hcc) hcode hB fun f cv ctv H' s' J2 tb hcv=>?_
 refine wpAny_bind (wpAny_standAt (wpAny_pure ?_))
 refine wpAny_bind (wpAny_holding ?_)
 unfold evalAll
 refine wpAny_pure (wpAny_pure ?_)
 obtain ⟨m,hns,hloc⟩:=id J2.loc
 obtain ⟨u,ru,lk⟩:=hloc j y (.ref p) hj ep (.inr (.inl hyk))
 obtain rfl:u = .ref p:=ru
 have hce:s'.heap.IsCell cc (some (.ref p)):=by
  rcases lk with ⟨z,_⟩ | ⟨_,c2,e2,z⟩
  ·rw [hyk] at z; cases z
  ·rw [hcc] at e2; cases e2; exact z
 refine nr J2 (J2.ok.hd hcalm) hroom (J2.pin _ (List.mem_append_right _ (.tail _ (.head _)))).1 (J2.pin _ (List.mem_append_right _ (.head _))).1 hcv hce (J2.cne y cc hcc) (tb.sq hq) hnl h64 ⟨hbind cc,hkd,hco,hge,fun z hz=>?nc,by rw [hnm]; exact List.lookup_cons_self,by rw [hnm,List.lookup_cons,hxy]; exact List.lookup_cons_self,List.lookup_cons_self,dx,dy,ey⟩ fun D out s'' J3 hD sk=>?_
 case nc =>
  rw [hnm] at hz
  rcases List.mem_cons.mp hz with rfl | hz
  ·exact fun z=>by cases z
  ·rw [List.mem_singleton.mp hz]; exact fun z=>by cases z
 exact ⟨.ref D,_,J3.pins_of fun q hq=>J3.pin q (List.mem_append_right _ (.tail _ (.tail _ hq))),rfl,hQ H' out D tb sk hD⟩
end
end L2
namespace L2
open PySem PySem.Spec PyProof.Rows PySem.W
section
variable {C:Ctx} {ow:List Bool} {G:Hp} {ρ:DSt} {σ:St} {H H2:Hp} {pd:List (D×V)} {O:Own}
theorem RO.tbs (h:RO C ow G ρ σ H pd O) (t:TbS H H2):RO C ow G ρ σ H2 pd O:=by
 have gnt:∀ a o,G a=some o→NT o:=fun a o e ps q z=>by
  have:=h.ft a ps q (by rw [h.gh a o e,z])
  rw [e] at this; cases this
 have gh:aM G H2:=fun a o e=>t.old a o (h.gh a o e) (gnt a o e)
 have og:∀ a l,O a=some l→H2 a=H a:=fun a l e=>by
  obtain ⟨_,⟨xs,q⟩,_⟩:=h.og a l e
  rw [t.old a _ q (WrO.nt xs),q]
 refine ⟨h.len,gh,h.g0,h.gn,fun a l e=>?_,h.cok,fun a o e n nt=>t.old a o (h.fr a o e n nt) nt,fun a ps q e=>?_,fun a e=>h.al a (t.new a e),h.mp,fun i d e=>?_,?_,h.np⟩
 ·obtain ⟨q1,q2,q3⟩:=h.og a l e
  rw [og a l e]; exact ⟨q1,q2,q3⟩
 ·cases z:G a with
  | none=>rfl
  | some o =>
   rw [gh a o z] at e; cases e
   exact absurd rfl (gnt a _ z ps q)
 ·obtain ⟨v,h1,h2⟩:=h.sl i d e
  refine ⟨v,h1,?_⟩
  split at h2
  ·rename_i c; rw [if_pos c]; exact h2.keep (fun _ _ z=>z) fun a τ q=>⟨q,og a _ q⟩
  ·rename_i c; rw [if_neg c]; exact h2
 ·exact b9.keep (fun _ _ z=>z) (fun a j π _ q=>⟨q,og a _ q⟩) h.pn
end
def vR (j:Nat) (me:ME):ME:=fun ρ q=>me ρ fun d ρ1=>match d with
 | .int n=>0≤n∧n<64∧∃ ns:List Int,ρ1[j]? = some (some (.lst (ns.map D.int)))∧n≤(ns.length:Int)∧∀ out,SortK n.toNat (fun z=>-(ns.getD z.toNat 0)) out→q (.lst (out.map D.int)) ρ1
 | _=>False
section
variable {X:Cx} {ow:List Bool} {e:Expr} {me:ME} {x y:Str} {j:Nat} {c P:Addr} {args:Arguments} {scope:Scope} {p1 p2 p3 p4 q1 q2 q3 lp kp pos:Pos} {k:Nat}
theorem ph (hr:Room (k + 2) X.A) (hg1:Gl X "sorted") (hm1:X.mg "sorted" = none) (hg2:Gl X "range") (hm2:X.mg "range" = none) (he:QE X ow e me) (hj:X.N[j]? = some y) (hyk:X.env.kindOf y=some .cell) (hcode:X.env.code = .ref c)
 (hB:TabB X.base X.mg c P (X.env.qual ++ "<lambda>")) (hcalm:X.calm=true:=by rfl) (hnm:scope.names=[(x,.local),(y,.free)]:=by rfl) (hkd:scope.kind = .function:=by rfl) (hco:scope.isCoroutine=false:=by rfl) (hge:scope.isGenerator=false:=by rfl)
 (hbind:∀ (cc:Addr) (cv ctv:Value) (i:Nat) (ti:Tok),bindArgs (kla_fn "<lambda>" (X.env.qual ++ "<lambda>") args (.UnaryOp .USub (.Subscript (.Name y p1) (.Name x p2) p3) p4) scope [(y,cc)] ((X.mg "__name__").getD .none) cv ctv) ⟨[.int i ti],[]⟩=pure [(x,.int i ti)]:=by intros; rfl)
 (hdf:defaultsOf args X.env=([],[]):=by rfl) (hxy:(y == x)=false:=by decide) (dx:(x == ("__debug__":Str))=false:=by decide) (dy:(y == ("__debug__":Str))=false:=by decide) (ey:(y == ("__classdict__":Str))=false:=by decide) (hs:starEach [e] X.env=[(false,eval e X.env)]:=by rfl) (ho:ow[j]?≠some true:=by decide) :
 QE X ow (.Call (.Name "sorted" q1) [.Call (.Name "range" q2) [e] [] q3] [⟨some "key",.Lambda args (.UnaryOp .USub (.Subscript (.Name y p1) (.Name x p2) p3) p4) scope lp,kp⟩] pos) (vR j me):=by
 obtain ⟨t,p,s⟩:=he
 refine ⟨_,qk hg1 hm1 hg2 hm2 p hj hyk hcode hB hcalm ?_ hnm hkd hco hge hbind hdf hxy dx dy ey hs,fun C G ρ σ H pd q Q r hm kk=>?_⟩
 ·exact hr.in1.in1.depth
 refine s C G ρ σ H pd _ _ r hm fun d ρ1 v G1 H1 h1 z1 k1 r1 p1=>?_
 cases d with
 | int n =>
  obtain ⟨n0,n64,ns,e1,hn,hq⟩:=h1
  obtain ⟨O1,ro1⟩:=r1
  obtain ⟨w1,e2,e3⟩:=ro1.sl j _ e1
  rw [if_neg ho] at e3
  obtain ⟨pa,xs,rfl,g1,g2⟩:=a_ e3
  rw [c_ g2] at g1
  refine ⟨n.toNat,by rw [az p1]; congr 1; omega,by omega,pa,ns,e2,.inl (.inl (ro1.gh _ _ g1)),by omega,fun H2 out D tb sk hD=>?_⟩
  have ro2:=ro1.tbs tb
  obtain ⟨ro3,z3⟩:=ro2.new hD (.lst (out.map V.int))
  refine kk _ ρ1 _ _ _ (hq out sk) (z1.trans z3) k1 ⟨O1,ro3⟩ ?_
  exact fT aE (gm _)
 | _=>exact h1.elim
end
theorem Fun.okc {P:Program} {w:World} {K:PySem.W.Frag} {mg:Str→Option Value} {base:Heap} {x qual:Str} {st:Stmt} {f c:Addr} {fd:FuncData} {N ps:List Str} {k:Nat} {sp:Sp} (F:Fun K x qual st f fd) (hc:fd.code = .ref c) (S:FnScope N ps (ai st)) (len:∀ vs H Q E,sp vs H Q E→vs.length=ps.length)
 (hbody:∀ (A:Around) (outer:List Env) (s:Shared) (H:Hp) (vs:List V) (Q:VK) (E:XK),Room k (A.deeper (envOfC qual (ai st) s.heap.objs.size f (.ref c)))→sp vs H Q E →
  ∃ t,PSs (jM CX0 P w K mg base N qual (ai st) f (.ref c) A outer s H E).nox (cz st) t∧t { nx:=fun _ H'=>Q .non H',rt:=Q } (dU N vs) H):FnOk P w K mg base CX0 (k + 1) f fd ps sp:=by
 obtain ⟨oc,od,kV,doc,pm,an,cdv,ct,osl,rfl,lk,hcd⟩:=F.ex
 have e:cdv = .ref c:=hc
 subst e
 refine tO lk hcd S len fun A outer s H vs Q E hr hsp=>?_
 obtain ⟨t,h,q⟩:=hbody A outer s H vs Q E hr hsp
 exact ⟨t,h.nox,q⟩
theorem fnDc {P:Program} {w:World} {K:PySem.W.Frag} {mg:Str→Option Value} {base:Heap} {x qual:Str} {st:Stmt} {f:Addr} {fd:FuncData} {N ps:List Str} {k:Nat} {c:Addr} (F:Fun K x qual st f fd) (hc:fd.code = .ref c) (S:FnScope N ps (ai st)) (M:Md) (sd:SpD)
 (hl:∀ ds q,sd ds q→ds.length=ps.length) (ho:M.ow.take ps.length=M.mu) (hml:M.mu.length=ps.length)
 (hbody:∀ (A:Around) (outer:List Env) (s:Shared) (H:Hp) (E:XK),Room k (A.deeper (envOfC qual (ai st) s.heap.objs.size f (.ref c))) →
  ∃ m,QSs (jM CX0 P w K mg base N qual (ai st) f (.ref c) A outer s H E).nox M (cz st) m∧∀ ds q,sd ds q→m (jt M.mu q) (ds.map some++List.replicate (N.length - ps.length) none)) :
 FnOk P w K mg base CX0 (k + 1) f fd ps (aY M.mu M.fr sd):=by
 have hov:∀ i:Nat,i<M.mu.length→M.ow[i]? = M.mu[i]?:=fun i hi=>by rw [← ho,List.getElem?_take_of_lt (by omega)]
 have hlen:∀ vs H Q E,aY M.mu M.fr sd vs H Q E→vs.length=ps.length:=fun vs H Q E ⟨C,G,ds,q,_,_,⟨O,ro⟩,h1,_,_⟩=>by
  have:=ro.len; simp at this; rw [← this]; exact hl ds q h1
 refine F.okc hc S hlen fun A outer s H vs Q E hr hsp=>?_
 obtain ⟨m,⟨t,p,ss⟩,hm⟩:=hbody A outer s H E hr
 have hvl:=hlen vs H Q E hsp
 obtain ⟨C,G,ds,q,hnp,hmu,⟨O,ro⟩,hsd,hml2,kk⟩:=hsp
 refine ⟨t,p,?_⟩
 have hmo:gY C M.mu:=fun i v e=>by rw [hmu] at e; exact (jp e).1
 have r0:R C M.ow G (ds.map some++List.replicate (N.length - ps.length) none) (dU N vs) H []:=by
  unfold dU; rw [hvl]
  exact ⟨O,ro.grow _ fun i hi=>hov i (by omega)⟩
 refine ss C G _ _ H (jt M.mu q) _ hmo hnp r0 (hm ds q hsd) ⟨?_,fun _ _ _ _ h=>h.elim,fun _ _ _ _ h=>h.elim,?_⟩
 ·intro ρ σ G' H' h z ⟨O',r'⟩
  refine kk .non (cA M.mu.length ρ) (cA M.mu.length σ) .non G' H' (by rw [cO]; exact h) z (cM _ _) (R.non ⟨O',r'.trim hmo hov⟩)
 ·intro d ρ σ v G' H' h z hr'
  refine kk d (cA M.mu.length ρ) (cA M.mu.length σ) v G' H' (by rw [cO]; exact h) z (cM _ _) ?_
  unfold Ret at hr' ⊢
  split at hr'
  ·rename_i c; rw [if_pos c]; obtain ⟨O',r'⟩:=hr'; exact ⟨O',r'.trim hmo hov⟩
  ·rename_i c; rw [if_neg c]; obtain ⟨⟨O',r'⟩,p⟩:=hr'; exact ⟨⟨O',r'.trim hmo hov⟩,p⟩
def mS (H:Hp):Prop:=∀ b,H b=none∨(∃ o xs,H b=some (.frz o (.lst xs)))∨∃ ps q,H b=some (.tbl ps q)
def kP (H:Hp):Hp:=fun a=>match H a with
 | some (.tbl _ _)=>none
 | o=>o
theorem rX {H:Hp} {a:Addr} {o:HO} (h:H a=some o) (n:NT o):kP H a=some o:=by
 unfold kP; rw [h]
 cases o <;> first | rfl | exact absurd rfl (n _ _)
theorem sW {H:Hp} {a:Addr} {o:HO} (h:kP H a=some o):H a=some o:=by
 unfold kP at h
 split at h
 ·cases h
 ·exact h
def jw (K:PySem.W.Frag):Sp:=fun vs H Q _=>∃ (a:Addr) (ns:List Int),vs=[.ref a]∧mS H∧SqL K H a (ns.map V.int)∧ns.length≤63∧∀ H',Q (.bl true) H'
theorem nu {K:PySem.W.Frag} {vs:List V} {H:Hp} {Q:VK} {E:XK} (h:jw K vs H Q E):aY [false] false (o6 K) vs H Q E:=by
 obtain ⟨a,ns,rfl,hO,hS,hl,hq⟩:=h
 have main:∀ φ:Addr→Prop,mx K φ ns→Rep (kP H) (.scr φ ns) (.ref a)→aY [false] false (o6 K) [.ref a] H Q E:=fun φ hφ r=>by
  refine ⟨⟨kP H,H,fun _=>none,[none],0⟩,kP H,[.scr φ ns],fun d _=>d = .bl true,rfl,rfl,⟨fun _=>none,rfl,fun _ _ e=>sW e,aM.refl _,fun _ _ e=>.inl e,fun a l e=>by (first | cases e),fun a l π e=>by (first | cases e),fun _ _ e _ _=>e,(fun a ps q e=>by unfold kP; rw [e]),fun _ e=>e,fun i v e=>?_,?_,trivial,Nat.le_refl _⟩,⟨φ,ns,rfl,hφ,hl,rfl⟩,rfl,?_⟩
  ·cases i with
   | zero=>simp at e
   | succ i=>simp at e
  ·intro i d e
   cases i with
   | zero=>simp at e; subst e; exact ⟨_,rfl,by simpa using r⟩
   | succ i=>simp at e
  ·intro d ρ' σ' v G' H' hd _ _ hr
   subst hd
   unfold Ret at hr
   rw [if_neg (by decide)] at hr
   rw [cm hr.2]
   exact hq H'
 rcases hS with (h1 | ⟨o,h1⟩) | h1
 ·rcases hO a with z | ⟨o,xs,z⟩ | ⟨ps,q,z⟩ <;> (rw [h1] at z; cases z)
 ·exact main (fun _=>False) (fun _ _ z=>z.elim) (by rw [Rep]; exact ⟨a,rfl,.inl ⟨o,rX h1 fun _ _ z=>by cases z⟩⟩)
 ·exact main (fun b=>b=a) (fun b H' z=>by subst z; exact .inr h1) (by rw [Rep]; exact ⟨a,rfl,.inr rfl⟩)
theorem nG {P:Program} {w:World} {K:PySem.W.Frag} {mg mb:Str→Option Value} {CX:CXT} {k:Nat} {fa a c Pt:Addr} {tq:Str} {fd:FuncData} {x:Str} {sp:Sp} {s₁:Shared} {vs:List Value} {ns:List Int}
 (KX:K.In s₁.heap) (hns:s₁.heap.Ns mainGlobals mg) (hb:s₁.heap.Ns builtinsNs mb) (hbb:∀ x:Str,x ≠ "__name__" → mb x=bootBuiltins x) (hlim:s₁.heap.NoLimit) (hg:s₁.gens = #[])
 (ha:s₁.heap.get? a=some { cls:=.type "list",data:=.seq vs.toArray }) (hi:IntsAre vs ns) (hl:ns.length≤sizeLine) (hr:Room k callerA)
 (hT:CodeHd s₁.heap c Pt) (hPt:s₁.heap.get? Pt=some (tabObj #[])) (hblt:s₁.heap.BuiltinsAt mg Pt) (hKP:K.lookup Pt=none)
 (F:∀ base:Heap,K.In base→base.Ns mainGlobals mg→TabB base mg c Pt tq→FnOk P w K mg base CX k fa fd [x] sp) (hbind:∀ (s:Shared) (u:Value),BindsTo s fd ⟨[u],[]⟩ [(x,u)])
 (hsp:∀ H:Hp,mS H→SqL K H a (ns.map V.int)→sp [.ref a] H (fun v _=>v = .bl true) fun _ _ _=>False)
 (hCX:∀ H e s',CX [] H s₁ (fun _ _ _=>False) e s'→False) :
 codeAny (model P w) callerA (.call (.ref fa) ⟨[.ref a],[]⟩) (fun r s'=>r = .ok (.ret (.bool true))∧OldK s₁.heap s'.heap∧s'.os=s₁.os∧AllBare s'.gens) s₁:=by
 have rv:=fc hi
 have lenV:=hi.length
 have hne:Pt≠a:=fun z=>by rw [z,ha] at hPt; cases hPt
 have core:∀ H:Hp,mS H→SqL K H a (ns.map V.int)→HOk P w H s₁.heap→H Pt=some (.tbl #[] tq)→(∀ b,H b≠none→b=a∨b=Pt)→(H a≠none→K.lookup a=none) →
  codeAny (model P w) callerA (.call (.ref fa) ⟨[.ref a],[]⟩) (fun r s'=>r = .ok (.ret (.bool true))∧OldK s₁.heap s'.heap∧s'.os=s₁.os∧AllBare s'.gens) s₁:=by
  intro H hO hS hok hP hA hK
  have base_of:∀ {b:Addr} {o:Obj},s₁.heap.get? b=some o→H b=none→(dW s₁.heap H).get? b=some o:=fun e n=>p6 e n
  have noA:∀ {b:Addr} {o:Obj},s₁.heap.get? b=some o→(∀ xs n,o.data≠.seq xs n)→o.cls≠.none∨(∀ xs,o.data≠.fields xs)→H b=none:=fun {b o} e d1 d2=>by
   cases q:H b with
   | none=>rfl
   | some u =>
    rcases hA b (by rw [q]; simp) with z | z
    ·rw [z,ha] at e; cases e; exact absurd rfl (d1 _ _)
    ·rw [z,hPt] at e; cases e
     rcases d2 with d2 | d2
     ·exact absurd rfl d2
     ·exact absurd rfl (d2 _)
  have nsK:∀ {b:Addr} {m:Str→Option Value},s₁.heap.Ns b m→(dW s₁.heap H).Ns b m:=fun {b m} ⟨o,es,ep,e,d,r⟩=>⟨o,es,ep,base_of e (noA e (fun _ _ z=>by rw [d] at z; cases z) (.inr fun _ z=>by rw [d] at z; cases z)),d,r⟩
  have hKb:K.In (dW s₁.heap H):=fun b o e=>base_of (KX b o e) (by
   cases q:H b with
   | none=>rfl
   | some u =>
    rcases hA b (by rw [q]; simp) with z | z
    ·subst z; rw [hK (by rw [q]; simp)] at e; cases e
    ·rw [z,hKP] at e; cases e)
  have hM:Mod K mg (dW s₁.heap H):=⟨hKb,nsK hns,⟨mb,nsK hb,hbb⟩,let ⟨mc,h1,h2⟩:=hlim; ⟨mc,nsK h1,h2⟩⟩
  have e0:Env0 P w K mg (dW s₁.heap H) callerA [] s₁ H:=⟨rfl,hM,fun b o e=>sB e,Nat.le_of_eq (e8 _ _),trivial,fun b hb=>absurd (show b∈([]:List Addr) from hb) (by simp),hok,.of_eq hg,TbM.hid⟩
  have tab:TabB (dW s₁.heap H) mg c Pt tq:=by
   refine ⟨TMk.hid (Heap.lt_size hPt) hP,?_,?_⟩
   ·obtain ⟨o,vs,file,tf,flags,tg,inF,text,tt,e,ec,ed,r⟩:=hT
    exact ⟨o,vs,file,tf,flags,tg,inF,text,tt,base_of e (noA e (fun _ _ z=>by rw [ed] at z; cases z) (.inl (by rw [ec]; intro z; cases z))),ec,ed,r⟩
   ·obtain ⟨bm,o,b1,b2,b3,b4,b5,b6,b7,b8⟩:=hblt
    exact ⟨bm,o,b1,b2,b3,b4,base_of b5 (noA b5 (fun _ _ z=>by rw [b8] at z; cases z) (.inl (by rw [b6]; intro z; cases z))),b6,b7,b8⟩
  refine codeAny_mono ((F _ hKb (nsK hns) tab).run callerA [] s₁ H ⟨[.ref a],[]⟩ [.ref a] [.ref a] _ _ hr e0 (hbind s₁ (.ref a)) (.cons rfl .nil) (hsp H hO hS)) fun r s' h=>?_
  cases r with
  | error e=>exact (hCX H e s' h).elim
  | ok fl =>
   cases fl with
   | next=>exact False.elim h
   | brk=>exact False.elim h
   | cont=>exact False.elim h
   | ret u =>
    obtain ⟨v,H',os,bare,un,hok',r',q⟩:=h
    have q':v = .bl true:=q
    subst q'
    obtain rfl:u=Value.bool true:=r'
    refine ⟨rfl,⟨fun b o e=>?_,fun b o e=>un.there b o e (by simp)⟩,os,bare⟩
    cases q:H b with
    | none=>exact .inl (un.keep b o e q (by intro z; exact absurd (show b∈([]:List Addr) from z) (by simp)) (by simp))
    | some u =>
     by_cases zP:b=Pt
     ·subst zP
      obtain ⟨more,z2⟩:=un.tbls b _ _ hP
      obtain ⟨e2,_⟩:=hok' b _ z2
      rw [hPt] at e; cases e
      exact .inr (.inl ⟨(hT.tab hPt).isCodeTable,rfl,#[],more,rfl,e2⟩)
     ·rcases hO b with z | ⟨ob,xs,z⟩ | ⟨ps,q2,z⟩
      ·rw [q] at z; cases z
      ·have z2:=un.frzs b ob _ z
       obtain ⟨e1,_⟩:=hok b _ z
       obtain ⟨e2,_⟩:=hok' b _ z2
       rw [e] at e1; cases e1
       exact .inl e2
      ·rcases hA b (by rw [q]; simp) with y | y
       ·subst y
        obtain ⟨e1,_⟩:=hok b _ z
        rw [ha] at e1; cases e1
       ·exact absurd y zP
 have tok:∀ {H:Hp},TbV H #[] tq:=⟨trivial,fun pos cv e=>by cases e⟩
 cases hk:K.lookup a with
 | some o =>
  have e:=KX a o hk
  rw [ha] at e
  cases e
  refine core (fun b=>if b=Pt then some (.tbl #[] tq) else none) (fun b=>?_) (.inr ⟨_,vs.toArray,_,hk,rfl,rfl,rfl,by rw [List.size_toArray,lenV]; exact hl,by simpa using rv⟩) (fun b u z=>?_) (if_pos rfl) (fun b z=>?_) fun z=>absurd (if_neg (Ne.symm hne)) z
  ·by_cases hb:b=Pt
   ·exact .inr (.inr ⟨_,_,if_pos hb⟩)
   ·exact .inl (if_neg hb)
  ·by_cases hb:b=Pt
   ·have z':=(if_pos hb).symm.trans z
    cases z'
    subst hb
    exact ⟨hPt,tok⟩
   ·have z':=(if_neg hb).symm.trans z
    cases z'
  ·by_cases hb:b=Pt
   ·exact .inr hb
   ·exact absurd (if_neg hb) z
 | none =>
  obtain ⟨H,hH⟩:∃ H:Hp,H=fun b=>if b=Pt then some (.tbl #[] tq) else if b=a then some (.frz { cls:=.type "list",data:=.seq vs.toArray } (.lst (ns.map V.int))) else none:=⟨_,rfl⟩
  have h1:H Pt=some (.tbl #[] tq):=by rw [hH]; exact if_pos rfl
  have h2:H a=some (.frz { cls:=.type "list",data:=.seq vs.toArray } (.lst (ns.map V.int))):=by rw [hH]; show (if a=Pt then _ else _)=_; rw [if_neg (Ne.symm hne),if_pos rfl]
  have h3:∀ b,b≠Pt→b≠a→H b=none:=fun b z1 z2=>by rw [hH]; show (if b=Pt then _ else _)=_; rw [if_neg z1,if_neg z2]
  refine core H (fun b=>?_) (.inl (.inr ⟨{ cls:=.type "list",data:=.seq vs.toArray },h2⟩)) (fun b u z=>?_) h1 (fun b z=>?_) fun _=>hk
  ·by_cases hb:b=Pt
   ·rw [hb]; exact .inr (.inr ⟨_,_,h1⟩)
   ·by_cases hb2:b=a
    ·rw [hb2]; exact .inr (.inl ⟨_,_,h2⟩)
    ·exact .inl (h3 b hb hb2)
  ·by_cases hb:b=Pt
   ·subst hb; rw [h1] at z; cases z; exact ⟨hPt,tok⟩
   ·by_cases hb2:b=a
    ·subst hb2; rw [h2] at z; cases z
     exact ⟨ha,by rw [List.length_map]; exact hl,vs,_,rv,ha⟩
    ·rw [h3 b hb hb2] at z; cases z
  ·by_cases hb:b=Pt
   ·exact .inr hb
   ·by_cases hb2:b=a
    ·exact .inl hb2
    ·exact absurd (h3 b hb hb2) z
theorem o8 {l:PySem.W.OpenLaw} {n k:Nat} {q:Program} {loose:List Str} {XP:(Str→Option Value)→Heap→Prop} {YP:World→Heap→Prop} {d:DefRec} {K:Params→PySem.W.Frag} {sp:World→Sp} {x:Str} {c Pt:Addr} {tq:Str}
 (hn:l.most=some n) (hn2:n≤sizeLine) (hdf:d.params.defaults=[]) (hr:Room k callerA)
 (hY:∀ (w:World) (h:Heap),YP w h→(K w.params).In h∧h.get? Pt=some (tabObj #[]))
 (hcd0:∀ w:World,codeHdIn (K w.params) c Pt=true) (hKP:∀ w:World,(K w.params).lookup Pt=none)
 (F:∀ (w:World) (mg:Str→Option Value) (fa:Addr) (h:Heap),(K w.params).In h→h.Ns mainGlobals mg→mg d.name=some (.ref fa) →
  ∃ fd:FuncData,(∀ (s:Shared) (u:Value),BindsTo s fd ⟨[u],[]⟩ [(x,u)]) ∧
   ∀ base:Heap,(K w.params).In base→base.Ns mainGlobals mg→TabB base mg c Pt tq→FnOk l.prog w (K w.params) mg base CX0 k fa fd [x] (sp w))
 (hsp:∀ (w:World) (H:Hp) (a:Addr) (ns:List Int),ns.length≤n→mS H→SqL (K w.params) H a (ns.map V.int)→sp w [.ref a] H (fun v _=>v = .bl true) fun _ _ _=>False)
 (hCX:∀ (H:Hp) (s:Shared) (e:Value) (s':Shared),CX0 [] H s (fun _ _ _=>False) e s'→False) :
 PySem.W.WalkO q loose XP YP l.row.toRowW d [] (fun f vs=>PySem.call f vs):=by
 refine Att.attach_call hn hdf fun w s₀ s₁ mg mb fa o pm cd doc a vs ns G Y ho hd hcd hmg hobj hints hlen hg=>?_
 obtain ⟨KX,t2⟩:=hY w _ Y
 obtain ⟨fd,hb,hF⟩:=F w mg fa _ KX G.T.g hmg
 have t1:=codeHd_of_K KX (hcd0 w)
 have hblt:s₁.heap.BuiltinsAt mg Pt:=by
  obtain ⟨bm,ob,b1,b2,b3,b4,b5,b6⟩:=G.T.bmain
  refine ⟨bm,ob,b1,b2,fun z=>?_,fun z=>?_,b3,b4,b5,b6⟩
  ·obtain ⟨o,es,ep,e,hd,_⟩:=G.T.g
   rw [z,e] at b3; cases b3; rw [hd] at b6; cases b6
  ·rw [z,t2] at b3; cases b3; cases b4
 exact nG KX G.T.g G.T.b G.T.builtins G.T.nolimit hg hobj hints (Nat.le_trans hlen hn2) hr t1 t2 hblt (hKP w) hF hb (fun H hO hS=>hsp w H a ns hlen hO hS) fun H e s'=>hCX H s₁ e s'
end L2
namespace L2
open PySem
def DvM (r:Rat) (M:Nat):Prop:=∃ k:Int,r * ((M:Int):Rat)=(k:Rat)
theorem DvM.add {r s:Rat} {M:Nat}:DvM r M→DvM s M→DvM (r + s) M
 | ⟨k,h⟩,⟨l,g⟩=>⟨k + l,by rw [Rat.add_mul,h,g,Rat.intCast_add]⟩
theorem DvM.sub {r s:Rat} {M:Nat}:DvM r M→DvM s M→DvM (r - s) M
 | ⟨k,h⟩,⟨l,g⟩=>⟨k - l,by rw [Rat.sub_eq_add_neg,Rat.add_mul,Rat.neg_mul,h,g,Rat.intCast_sub,Rat.sub_eq_add_neg]⟩
theorem DvM.mulI {r:Rat} {M:Nat} (i:Int):DvM r M→DvM ((i:Rat) * r) M
 | ⟨k,h⟩=>⟨i * k,by rw [Rat.mul_assoc,h,Rat.intCast_mul]⟩
theorem DvM.int (i:Int) (M:Nat):DvM (i:Rat) M:=⟨i * M,by rw [Rat.intCast_mul]⟩
theorem DvM.zero (M:Nat):DvM 0 M:=⟨0,by rw [Rat.zero_mul]; rfl⟩
theorem DvM.up {r:Rat} {M:Nat} (n:Nat):DvM r M→DvM r (M * n)
 | ⟨k,h⟩=>⟨k * n,by rw [Int.natCast_mul,Rat.intCast_mul,← Rat.mul_assoc,h,Rat.intCast_mul]⟩
theorem DvM.div {r:Rat} {M n:Nat} (hn : 0<n):DvM r M→DvM (r / ((n:Int):Rat)) (M * n)
 | ⟨k,h⟩=>⟨k,by
  have hz:((n:Int):Rat)≠0:=fun z=>by have:=Rat.intCast_eq_zero_iff.mp z; omega
  rw [Int.natCast_mul,Rat.intCast_mul,← h]
  generalize ((n:Int):Rat)=x at hz
  grind⟩
theorem DvM.sum {M:Nat}:∀ {rs:List Rat},(∀ r∈rs,DvM r M)→DvM rs.sum M
 | [],_=>DvM.zero M
 | r :: rs,h=>by rw [List.sum_cons]; exact (h r (.head _)).add (DvM.sum fun x hx=>h x (.tail _ hx))
theorem DvM.den {r:Rat} {M:Nat} (M0 : 0<M):DvM r M→r.den∣M
 | ⟨k,h⟩=>by
  have hz:((M:Int):Rat)≠0:=fun z=>by have:=Rat.intCast_eq_zero_iff.mp z; omega
  have e:r=Rat.divInt k M:=by
   rw [Rat.divInt_eq_div,← h]
   generalize ((M:Int):Rat)=x at hz
   grind
  rw [e,Rat.den_divInt,if_neg (by omega),Int.natAbs_natCast]
  refine Nat.div_dvd_of_dvd ?_
  have:=Int.gcd_dvd_left (M:Int) k
  exact Int.natCast_dvd_natCast.mp this
theorem fF {r:Rat} {M b m x:Nat} (h0 : 0≤r) (h1:r≤((b:Int):Rat)) (h:DvM r M) (M0 : 0<M) (hM:M<2 ^ m) (hb:b≤2 ^ x):Bt r (m + x):=by
 have hd:=Nat.le_of_dvd M0 (h.den M0)
 have hn:=ut h0
 have h2:=(Rat.le_iff r ((b:Int):Rat)).mp h1
 rw [Rat.num_intCast,Rat.den_intCast] at h2
 have h3:r.num.natAbs≤b * r.den:=by
  have:r.num≤((b * r.den:Nat):Int):=by rw [Int.natCast_mul]; omega
  omega
 have hx : 0<2 ^ x:=Nat.pow_pos (by decide)
 refine ⟨?_,?_⟩
 ·have h4:b * r.den≤2 ^ x * r.den:=Nat.mul_le_mul_right _ hb
  have h5 : 2 ^ x * r.den<2 ^ x * 2 ^ m:=Nat.mul_lt_mul_of_pos_left (by omega) hx
  rw [Nat.pow_add,Nat.mul_comm (2 ^ m)]
  omega
 ·rw [Nat.pow_add]
  have : 2 ^ m≤2 ^ m * 2 ^ x:=Nat.le_mul_of_pos_right _ hx
  omega
structure PrM (ps:List Int) (prs:List Rat) (M b:Nat):Prop where
 len:prs.length=ps.length
 ok:∀ r∈prs,0≤r∧r≤((b:Int):Rat)∧DvM r M
theorem PrM.zero (ps:List Int) (M b:Nat):PrM ps (List.replicate ps.length 0) M b:=⟨List.length_replicate,fun r hr=>by
 rw [List.eq_of_mem_replicate hr]
 exact ⟨by decide,Rat.intCast_nonneg.mpr (by omega),DvM.zero M⟩⟩
theorem lv {b:Rat} (hb : 0≤b):∀ {rs:List Rat},(∀ r∈rs,0≤r∧r≤b)→0≤rs.sum∧rs.sum≤(rs.length:Rat) * b
 | [],_=>by rw [List.sum_nil,List.length_nil]; exact ⟨by decide,by rw [show ((0:Nat):Rat)=0 from rfl,Rat.zero_mul]; decide⟩
 | r :: rs,h=>by
  have ih:=lv hb (rs:=rs) fun x hx=>h x (.tail _ hx)
  have h0:=h r (.head _)
  rw [List.sum_cons,List.length_cons]
  have e:((rs.length + 1:Nat):Rat)=(rs.length:Rat) + 1:=by rw [Rat.natCast_add]; rfl
  rw [e,Rat.add_mul,Rat.one_mul]
  constructor <;> grind
theorem nU {ps rs:List Int} {prs:List Rat} {a:Ask} {M b:Nat} (hT:Tree ps rs) (he:Ends2 ps a.one a.other) (hp:PrM ps prs M b):(∀ r∈(aG ps a).map (fun t=>prs.getD (t - 1).toNat 0),r∈prs)∧0≤dt ps a prs∧dt ps a prs≤(((46 * b:Nat):Int):Rat)∧DvM (dt ps a prs) M:=by
 have hm:∀ r∈(aG ps a).map (fun t=>prs.getD (t - 1).toNat 0),r∈prs:=fun r hr=>by
  obtain ⟨t,ht,rfl⟩:=List.mem_map.mp hr
  have:=cJ hT he ht
  exact dc (by rw [hp.len]; omega)
 have hb:(0:Rat)≤((b:Int):Rat):=Rat.intCast_nonneg.mpr (by omega)
 have h1:=lv hb fun r hr=>⟨(hp.ok r (hm r hr)).1,(hp.ok r (hm r hr)).2.1⟩
 refine ⟨hm,h1.1,?_,DvM.sum fun r hr=>(hp.ok r (hm r hr)).2.2⟩
 refine Rat.le_trans h1.2 ?_
 have hl:(aG ps a).length≤46:=cF hT he
 rw [List.length_map,Int.natCast_mul,Rat.intCast_mul]
 have hl':((aG ps a).length:Rat)≤((46:Nat):Rat):=Rat.natCast_le_natCast.mpr hl
 exact Rat.mul_le_mul_of_nonneg_right hl' hb
theorem sv {r s:Rat} (h:r≤s) (hs : 0≤s) : 0≤h_ r∧h_ r≤s:=by
 unfold h_; split
 ·exact ⟨Rat.le_of_lt (by assumption),h⟩
 ·exact ⟨by decide,hs⟩
theorem jH {ps rs:List Int} {prs:List Rat} {a:Ask} {w:Int} {M b:Nat} (hT:Tree ps rs) (ha:AskOk ps a) (hw : 0≤w) (hp:PrM ps prs M b) : 0≤a9 ps a w prs∧a9 ps a w prs≤(((1000000000000:Nat):Int):Rat)∧DvM (a9 ps a w prs) M:=by
 obtain ⟨_,h0,h1,h2⟩:=nU hT ha.ends hp
 have hw':(0:Rat)≤(w:Rat):=Rat.intCast_nonneg.mpr hw
 have hwp:(0:Rat)≤(w:Rat) * dt ps a prs:=Rat.mul_nonneg hw' h0
 have hwo:(a.worth:Rat)≤(((1000000000000:Nat):Int):Rat):=Rat.intCast_le_intCast.mpr (by have:=ha.w1; omega)
 have hb:=sv (r:=(a.worth:Rat) - (w:Rat) * dt ps a prs) (s:=(((1000000000000:Nat):Int):Rat)) (by grind) (by decide)
 refine ⟨hb.1,hb.2,?_⟩
 show DvM (h_ _) M
 unfold h_
 split
 ·exact (DvM.int a.worth M).sub (h2.mulI w)
 ·exact DvM.zero M
def oH:SpD:=fun ds q=>∃ ps rs a w prs,∃ M b:Nat,ds=[aK ps rs,cr a,.int w,dQs prs]∧Tree ps rs∧AskOk ps a∧0≤w∧w≤1000000∧PrM ps prs M b∧0<M∧M<2 ^ 400∧b≤2 ^ 60∧q (dQ (a9 ps a w prs)) []
def ck (st:Rat) (prs:List Rat) (w:List Int):List Rat:=w.foldl (fun l t=>l.set (t - 1).toNat (l.getD (t - 1).toNat 0 + st)) prs
theorem gE (st:Rat) (prs:List Rat) (w:List Int) (t:Int):ck st prs (w++[t])=(ck st prs w).set (t - 1).toNat ((ck st prs w).getD (t - 1).toNat 0 + st):=by
 unfold ck; rw [List.foldl_append]; rfl
theorem PrM.raise {ps:List Int} {M X:Nat} {st:Rat} (h0 : 0≤st) (h1:st≤((X:Int):Rat)) (hd:DvM st M):∀ {w:List Int} {prs:List Rat} {b:Nat},(∀ t∈w,0<t∧t≤(ps.length:Int))→PrM ps prs M b→PrM ps (ck st prs w) M (b + w.length * X)
 | [],prs,b,_,h=>by rw [List.length_nil,Nat.zero_mul]; exact h
 | t :: w,prs,b,hw,h=>by
  have ht:=hw t (.head _)
  have hm:=h.ok _ (dc (rs:=prs) (k:=(t - 1).toNat) (by rw [h.len]; omega))
  have e:(((b + X:Nat):Int):Rat)=((b:Int):Rat) + ((X:Int):Rat):=by rw [Int.natCast_add,Rat.intCast_add]
  have hx:(0:Rat)≤((X:Int):Rat):=Rat.intCast_nonneg.mpr (by omega)
  have h':PrM ps (prs.set (t - 1).toNat (prs.getD (t - 1).toNat 0 + st)) M (b + X):=by
   refine ⟨by rw [List.length_set]; exact h.len,sN (fun r hr=>?_) ?_⟩
   ·obtain ⟨a1,a2,a3⟩:=h.ok r hr
    exact ⟨a1,by rw [e]; grind,a3⟩
   ·exact ⟨Rat.add_nonneg hm.1 h0,by rw [e]; grind,hm.2.2.add hd⟩
  have:=PrM.raise h0 h1 hd (w:=w) (fun x hx=>hw x (.tail _ hx)) h'
  rw [List.length_cons,show b + (w.length + 1) * X=b + X + w.length * X by rw [Nat.add_mul]; omega]
  exact this
theorem PrM.up {ps:List Int} {prs:List Rat} {M b:Nat} (n:Nat) (h:PrM ps prs M b):PrM ps prs (M * n) b:=⟨h.len,fun r hr=>⟨(h.ok r hr).1,(h.ok r hr).2.1,(h.ok r hr).2.2.up n⟩⟩
theorem PrM.mono {ps:List Int} {prs:List Rat} {M b c:Nat} (h:PrM ps prs M b) (hb:b≤c):PrM ps prs M c:=⟨h.len,fun r hr=>⟨(h.ok r hr).1,Rat.le_trans (h.ok r hr).2.1 (Rat.intCast_le_intCast.mpr (by omega)),(h.ok r hr).2.2⟩⟩
def a5 (ps:List Int) (a:Ask):List Int:=(aG ps a).filter fun x=>decide (bT ps x=bW ps a.one a.other)
def sJ:SpD:=fun ds q=>∃ ps rs a prs st,∃ M b X:Nat,ds=[aK ps rs,cr a,dQs prs,dQ st]∧Tree ps rs∧Ends2 ps a.one a.other∧PrM ps prs M b∧0≤st∧st≤((X:Int):Rat)∧DvM st M∧0<M∧M<2 ^ 400∧b + 46 * X≤2 ^ 60∧q .non [some (dQs (ck st prs (a5 ps a)))]
def jW:Option (Int×Int)→D
 | none=>.non
 | some (w,p)=>.tup [.int w,.int p]
def lY (ts:List (Option (Int×Int))):D:=.lst (ts.map jW)
def fM (ts:List (Option (Int×Int))):Prop:=∀ w p,some (w,p)∈ts→0≤w∧w≤1000000∧1≤p∧p≤64
structure Pil where
 pile:List Int
 prs:List Rat
 rests:List Rat
def dh (ps:List Int) (as:List Ask) (S:Pil) (k:Int) (w p:Int):Pil :=
 if a9 ps (ay as k) w S.prs=0 then ⟨S.pile,S.prs,S.rests.set k.toNat (a9 ps (ay as k) w S.prs)⟩
 else ⟨S.pile++[k],ck (a9 ps (ay as k) w S.prs / (p:Rat)) S.prs (a5 ps (ay as k)),S.rests.set k.toNat (a9 ps (ay as k) w S.prs)⟩
def eA (ps:List Int) (as:List Ask) (ts:List (Option (Int×Int))) (S:Pil) (k:Int):Pil :=
 match ts.getD k.toNat none with
 | none=>S
 | some (w,p)=>dh ps as S k w p
def a6 (ps:List Int) (as:List Ask) (ts:List (Option (Int×Int))) (o:List Int):Pil:=o.foldl (eA ps as ts) ⟨[],List.replicate ps.length 0,List.replicate as.length 0⟩
theorem fw (ps:List Int) (as:List Ask) (ts:List (Option (Int×Int))) (o:List Int) (k:Int):a6 ps as ts (o++[k])=eA ps as ts (a6 ps as ts o) k:=by
 unfold a6; rw [List.foldl_append]; rfl
structure PileI (ps:List Int) (as:List Ask) (S:Pil) (i:Nat):Prop where
 rl:S.rests.length=as.length
 pl:S.pile.length≤i
 pm:∀ k∈S.pile,0≤k∧k<(as.length:Int)
 pr:∃ M:Nat,0<M∧M≤64 ^ i∧PrM ps S.prs M (i * 46000000000000)
theorem pile0 (ps:List Int) (as:List Ask):PileI ps as ⟨[],List.replicate ps.length 0,List.replicate as.length 0⟩ 0:=⟨List.length_replicate,Nat.le_refl _,(fun k hk=>by cases hk),1,by decide,by decide,PrM.zero ps 1 _⟩
theorem g6 {ps rs:List Int} (hT:Tree ps rs) {a:Ask} (he:Ends2 ps a.one a.other):(∀ t∈a5 ps a,0<t∧t≤(ps.length:Int))∧(a5 ps a).length≤46 :=
 ⟨fun t ht=>cJ hT he (List.mem_filter.mp ht).1,Nat.le_trans (List.length_filter_le _ _) (cF hT he)⟩
theorem lh {r:Rat} {b:Rat} {p:Int} (h0 : 0≤r) (h1:r≤b) (hp : 1≤p) : 0≤r / (p:Rat)∧r / (p:Rat)≤b:=by
 have hq:(1:Rat)≤(p:Rat):=Rat.intCast_le_intCast.mpr hp
 have hq0:(0:Rat)<(p:Rat):=by grind
 have e:=Rat.div_mul_cancel (a:=r) (b:=(p:Rat)) (by grind)
 constructor
 ·exact Rat.le_of_mul_le_mul_right (c:=(p:Rat)) (by rw [e,Rat.zero_mul]; exact h0) hq0
 ·refine Rat.le_of_mul_le_mul_right (c:=(p:Rat)) ?_ hq0
  rw [e]
  have:b * 1≤b * (p:Rat):=Rat.mul_le_mul_of_nonneg_left hq (Rat.le_trans h0 h1)
  grind
theorem PileI.step {ps rs:List Int} {as:List Ask} {S:Pil} {i:Nat} {k w p:Int} (hT:Tree ps rs) (ha:AsksOk ps as) (h:PileI ps as S i) (k0 : 0≤k) (k1:k<(as.length:Int)) (hw : 0≤w∧w≤1000000∧1≤p∧p≤64):PileI ps as (dh ps as S k w p) (i + 1):=by
 obtain ⟨rl,pl,pm,M,M0,hM,hP⟩:=h
 have hok:=eh ha k0 k1
 obtain ⟨s0,s1,s2⟩:=jH hT hok hw.1 hP
 have hM':M * p.toNat≤64 ^ (i + 1):=by rw [Nat.pow_succ]; exact Nat.mul_le_mul hM (by omega)
 have hM0' : 0<M * p.toNat:=Nat.mul_pos M0 (by omega)
 unfold dh
 split
 ·exact ⟨by rw [List.length_set]; exact rl,Nat.le_succ_of_le pl,pm,M * p.toNat,hM0',hM',(hP.up _).mono (Nat.mul_le_mul_right _ (Nat.le_succ i))⟩
 ·obtain ⟨t1,t2⟩:=g6 hT hok.ends
  refine ⟨by rw [List.length_set]; exact rl,by rw [List.length_append]; exact Nat.succ_le_succ pl,fun z hz=>?_,M * p.toNat,hM0',hM',?_⟩
  ·rcases List.mem_append.mp hz with z1 | z1
   ·exact pm z z1
   ·rw [List.mem_singleton.mp z1]; exact ⟨k0,k1⟩
  ·obtain ⟨d0,d1⟩:=lh s0 s1 hw.2.2.1
   have hd:DvM (a9 ps (ay as k) w S.prs / (p:Rat)) (M * p.toNat):=by
    have:=s2.div (n:=p.toNat) (by omega)
    rw [show ((p.toNat:Nat):Int)=p by omega] at this
    exact this
   have hr:=PrM.raise (X:=1000000000000) d0 d1 hd t1 (hP.up p.toNat)
   refine PrM.mono hr ?_
   rw [Nat.add_mul]
   have:(a5 ps (ay as k)).length * 1000000000000≤46 * 1000000000000:=Nat.mul_le_mul_right _ t2
   exact Nat.add_le_add_left this _
theorem PileI.step' {ps rs:List Int} {as:List Ask} {S:Pil} {i:Nat} {k:Int} {ts:List (Option (Int×Int))} (hT:Tree ps rs) (ha:AsksOk ps as) (hts:fM ts) (h:PileI ps as S i) (k0 : 0≤k) (k1:k<(as.length:Int)):PileI ps as (eA ps as ts S k) (i + 1):=by
 unfold eA
 split
 ·obtain ⟨rl,pl,pm,M,M0,hM,hP⟩:=h
  exact ⟨rl,Nat.le_succ_of_le pl,pm,M,M0,Nat.le_trans hM (Nat.pow_le_pow_right (by decide) (Nat.le_succ i)),hP.mono (Nat.mul_le_mul_right _ (Nat.le_succ i))⟩
 ·rename_i w p e
  refine h.step hT ha k0 k1 (hts w p ?_)
  rw [List.getD_eq_getElem?_getD] at e
  cases q:ts[k.toNat]? with
  | none=>rw [q] at e; cases e
  | some x=>rw [q] at e; cases e; exact List.mem_of_getElem? q
theorem gx {ps rs:List Int} {as:List Ask} {ts:List (Option (Int×Int))} (hT:Tree ps rs) (ha:AsksOk ps as) (hts:fM ts) {o:List Int} (ho:∀ k∈o,0≤k∧k<(as.length:Int)):∀ i:Nat,i≤o.length→PileI ps as (a6 ps as ts (o.take i)) i
 | 0,_=>pile0 ps as
 | i + 1,h=>by
  have hi:i<o.length:=h
  have e:o.take (i + 1)=o.take i++[o[i]]:=(List.take_append_getElem hi).symm
  rw [e,fw]
  have hm:=ho _ (List.getElem_mem hi)
  exact (gx hT ha hts ho i (Nat.le_of_lt hi)).step' hT ha hts hm.1 hm.2
def dH (ps e:List Int) (as:List Ask):List Int:=as.map fun a=>e.getD (bW ps a.one a.other).toNat 0
def metF (ps e:List Int):D→D
 | .tup [.int a,.int b,_,_]=>.int (e.getD (bW ps a b).toNat 0)
 | d=>d
theorem pM (ps e:List Int) (as:List Ask):(as.map cr).map (metF ps e)=(dH ps e as).map D.int:=by unfold dH; rw [List.map_map,List.map_map]; rfl
def ev (ps:List Int) (as:List Ask) (o:List Int):Prop:=∃ e,DepOk ps e ps.length∧SortK as.length (fun z=>-((dH ps e as).getD z.toNat 0)) o
theorem ev.mem {ps o:List Int} {as:List Ask}:ev ps as o→o.length=as.length∧∀ k∈o,0≤k∧k<(as.length:Int)
 | ⟨_,_,h⟩=>⟨by have:=h.perm.length_eq; simpa using this,fun k hk=>by
  obtain ⟨i,hi,rfl⟩:=List.mem_map.mp (h.perm.mem_iff.mp hk)
  have:=List.mem_range.mp hi
  omega⟩
def rq:SpD:=fun ds q=>∃ ps rs as,ds=[aK ps rs,bh as]∧Tree ps rs∧AsksOk ps as∧∀ o,ev ps as o→q (ar o) []
def t5:SpD:=fun ds q=>∃ ps rs as ts,ds=[aK ps rs,bh as,lY ts]∧Tree ps rs∧AsksOk ps as∧ts.length=as.length∧fM ts∧∀ o,ev ps as o→q (.tup [ar (a6 ps as ts o).pile,dQs (a6 ps as ts o).prs,dQs (a6 ps as ts o).rests]) []
structure KL where
 load:List Int
 keep:List Int
def ix (ps rs:List Int) (as:List Ask) (S:KL) (k:Int):KL :=
 if eW rs (ay as k).size (aG ps (ay as k)) S.load=[] then ⟨dZ S.load (aG ps (ay as k)) (ay as k).size,S.keep++[k]⟩ else S
def bM (ps rs:List Int) (as:List Ask) (o:List Int):KL:=o.foldl (ix ps rs as) ⟨List.replicate ps.length 0,[]⟩
theorem fD (ps rs:List Int) (as:List Ask) (o:List Int) (k:Int):bM ps rs as (o++[k])=ix ps rs as (bM ps rs as o) k:=by
 unfold bM; rw [List.foldl_append]; rfl
theorem dF (ps rs:List Int) (as:List Ask) (o:List Int):∀ i:Nat,i≤o.length→(bM ps rs as (o.take i)).load.length=ps.length∧(bM ps rs as (o.take i)).keep.length≤i∧∀ k∈(bM ps rs as (o.take i)).keep,k∈o
 | 0,_=>⟨List.length_replicate,Nat.le_refl _,fun k hk=>by cases hk⟩
 | i + 1,h=>by
  have hi:i<o.length:=h
  have e:o.take (i + 1)=o.take i++[o[i]]:=(List.take_append_getElem hi).symm
  rw [e,fD]
  obtain ⟨h1,h2,h3⟩:=dF ps rs as o i (Nat.le_of_lt hi)
  unfold ix
  split
  ·refine ⟨by rw [fH]; exact h1,by rw [List.length_append]; exact Nat.succ_le_succ h2,fun k hk=>?_⟩
   rcases List.mem_append.mp hk with z | z
   ·exact h3 k z
   ·rw [List.mem_singleton.mp z]; exact List.getElem_mem hi
  ·exact ⟨h1,Nat.le_succ_of_le h2,h3⟩
def lE:SpD:=fun ds q=>∃ ps rs a l,ds=[aK ps rs,cr a,ar l]∧Tree ps rs∧Ends2 ps a.one a.other∧l.length=ps.length∧q (ar (eW rs a.size (aG ps a) l)) []
def oN:SpD:=fun ds q=>∃ ps rs as p,ds=[aK ps rs,bh as,ar p]∧Tree ps rs∧AsksOk ps as∧p.length≤60∧(∀ k∈p,0≤k∧k<(as.length:Int))∧q (ar (bH (bM ps rs as p.reverse).keep)) []
theorem RO.swap {C:Ctx} {ow:List Bool} {G:Hp} {ρ:DSt} {σ:St} {H:Hp} {pd:List (D×V)} {O:Own} {x y:D×V} (h:RO C ow G ρ σ H (x :: y :: pd) O) (hn:C.np≤pd.length):R C ow G ρ σ H (y :: x :: pd):=by
 refine ⟨lab (fun l π=>if l=2 * pd.length + 1 then (2 * (pd.length + 1) + 1,π) else if l=2 * (pd.length + 1) + 1 then (2 * pd.length + 1,π) else (l,π)) O,h.len,h.gh,h.g0,h.gn,?_,h.cok,h.fr,h.ft,h.al,h.mp,?_,⟨?_,?_,?_⟩,Nat.le_succ_of_le (Nat.le_succ_of_le hn)⟩
 ·intro a m e
  obtain ⟨l,π,e1,rfl⟩:=gy e
  obtain ⟨q1,q2,q3⟩:=h.og a _ e1
  refine ⟨q1,q2,?_⟩
  try dsimp only
  have key:(l=2 * pd.length + 1∨l=2 * (pd.length + 1) + 1)→C.H a=none:=fun z=>by
   rcases q3 with q3 | ⟨_,q3⟩
   ·exact q3
   ·rcases h.cok _ _ _ q3 with ⟨k,u,q4,q5⟩ | ⟨k,q4,_⟩
    ·simp only at q4; omega
    ·simp only at q4; omega
  split
  ·exact .inl (key (.inl (by assumption)))
  ·split
   ·exact .inl (key (.inr (by assumption)))
   ·exact q3
 ·intro j e q
  obtain ⟨u,h1,h2⟩:=h.sl j e q
  refine ⟨u,h1,?_⟩
  split at h2
  ·rename_i c; rw [if_pos c]; exact h2.keep (fun _ _ z=>z) fun a τ q=>⟨by rw [bE q,if_neg cb,if_neg cb],rfl⟩
  ·rename_i c; rw [if_neg c]; exact h2
 ·exact h.pn.2.1.keep (fun _ _ z=>z) fun a τ q=>⟨by rw [bE q,if_pos rfl]; rfl,rfl⟩
 ·exact h.pn.1.keep (fun _ _ z=>z) fun a τ q=>⟨by rw [bE q,if_neg (by rw [List.length_cons]; omega),if_pos (by rw [List.length_cons])],rfl⟩
 ·exact b9.keep (fun _ _ z=>z) (fun a j π hj q=>⟨by rw [bE q,if_neg (by omega),if_neg (by omega)],rfl⟩) h.pn.2.2
def mLate (i:Nat) (ma:ME):MA:=fun ρ q=>(∃ d,ρ[i]? = some (some d))∧ma ρ fun d2 ρ2=>match ρ2[i]? with
 | some (some d)=>q [d,d2] (ρ2.set i none)
 | _=>False
theorem qL {X:Cx} {M:Md} {e:Expr} {ma:ME} {pos:Pos} (i:Nat) {x:Str} (h:QM X M e ma) (ho:M.ow[i]? = some true:=by decide) (hu:M.mu[i]?≠some true:=by decide) (hN:X.N[i]? = some x:=by rfl) (hv:Vis X.env.scope x:=by first | exact Or.inl rfl | exact Or.inr (Or.inl rfl) | exact Or.inr (Or.inr rfl)) (hd:(x == ("__debug__":Str))=false:=by decide)
 (hcd:(x == ("__classdict__":Str))=false:=by decide) (hs:starEach [.Name x pos,e] X.env=(false,eval (.Name x pos) X.env) :: starEach [e] X.env:=by rfl) (hs2:starEach [e] X.env=[(false,eval e X.env)]:=by rfl):QMs X M [.Name x pos,e] (mLate i ma):=by
 obtain ⟨t2,p2,s2⟩:=h
 refine ⟨_,bV (d5 hN hv hd hcd) (bV p2 eB hs2) hs,fun C G ρ σ H pd q Q hm r h k=>?_⟩
 obtain ⟨⟨d0,e0⟩,h⟩:=h
 obtain ⟨O,ro⟩:=r
 have hn:=ro.np
 obtain ⟨v,hv',_⟩:=ro.sl i d0 e0
 refine ⟨v,hv',s2 C G ρ σ H pd _ _ hm ⟨O,ro⟩ h fun d2 ρ2 v2 G2 H2 hq z r2=>?_⟩
 split at hq
 ·rename_i d e
  obtain ⟨O2,ro2⟩:=r2
  obtain ⟨v',h1,⟨O3,ro3⟩⟩:=ro2.move e ho (hm.no hu)
  rw [hv'] at h1; cases h1
  exact k [(d,v),(d2,v2)] _ G2 H2 hq z (ro3.swap hn) rfl
 ·exact hq.elim
end L2
namespace L2
open PySem PySem.Spec PyProof.Rows PySem.W
end L2
namespace L2
open PySem
theorem ev.ord {ps o:List Int} {as:List Ask} (h:ev ps as o):o.Nodup∧o.Perm ((List.range as.length).map fun (i:Nat)=>(i:Int))∧∃ e,DepOk ps e ps.length∧o.Pairwise (fun i j=>e.getD (bW ps (ay as j).one (ay as j).other).toNat 0≤e.getD (bW ps (ay as i).one (ay as i).other).toNat 0):=by
 have hm:=h.mem.2
 obtain ⟨e,h1,h2⟩:=h
 have hr:((List.range as.length).map fun (i:Nat)=>(i:Int)).Nodup:=List.Pairwise.map _ (fun a b h e=>h (Int.ofNat.inj e)) List.nodup_range
 refine ⟨h2.perm.nodup_iff.mpr hr,h2.perm,e,h1,?_⟩
 have key:∀ k:Int,0≤k→k<(as.length:Int)→(dH ps e as).getD k.toNat 0=e.getD (bW ps (ay as k).one (ay as k).other).toNat 0:=fun k k0 k1=>by
  unfold dH ay
  rw [List.getD_eq_getElem?_getD,List.getElem?_map,List.getD_eq_getElem?_getD (l:=as),List.getElem?_eq_getElem (show k.toNat<as.length by omega)]; rfl
 refine List.Pairwise.imp_of_mem (fun {a b} ha hb hab=>?_) h2.ord
 have a1:=hm a ha; have b1:=hm b hb
 have hab : -((dH ps e as).getD a.toNat 0)≤-((dH ps e as).getD b.toNat 0):=hab
 rw [key a a1.1 a1.2,key b b1.1 b1.2] at hab
 omega
def alT (k:Int) (as:List Ask):List (Option (Int×Int)):=List.replicate as.length (some (1,k))
theorem vo {k:Int} {as:List Ask} {j:Nat}:(alT k as).getD j none=if j<as.length then some (1,k) else none:=by
 unfold alT; rw [List.getD_eq_getElem?_getD,List.getElem?_replicate]; split <;> rfl
end L2
namespace L2
open PySem PySem.Spec PyProof.Rows
section
variable {X:Cx} {M:Md} {a b c e:Expr} {ma mb mc:ME} {pos pos':Pos}
end
end L2
namespace L2
open PySem
end L2
namespace L2
open PySem PySem.Spec PyProof.Rows
section
variable {X:Cx}
end
section
variable {X:Cx} {o e:Expr} {apos cpos:Pos} {te:TE} {a:Addr} {kv:List (Str×Int)}
end
section
variable {X:Cx} {ow:List Bool} {b:Expr} {mb:ME} {pos apos cpos:Pos}
end
section
variable {X:Cx}
end
section
variable {X:Cx} {M:Md} {e:Expr} {ma:ME} {pos:Pos}
end
section
variable {X:Cx}
end
section
variable {X:Cx} {pos:Pos}
end
section
variable {X:Cx} {M:Md} {a b c:Expr} {ma mb mc:ME} {pos:Pos}
end
end L2
namespace L2
open PySem
end L2
namespace L2
open PySem PyProof.Rows
section
variable {prog:Program} {w:World} {A:Around} {E:Value→Shared→Prop} {s:Shared}
end
end L2
namespace L2
open PySem PyProof.Rows PySem.Spec
section
variable {prog:Program} {w:World} {A:Around} {R:Result→Shared→Prop} {I:Addr} {fp wr:List Addr} {G:Array GenState→Array GenState→Prop} {n:Nat} {P:Nat→Value→Prop} {St:Nat→Shared→Prop}
end
section
variable {prog:Program} {w:World} {A:Around} {E:Value→Shared→Prop} {s:Shared}
end
section
variable {prog:Program} {w:World} {A:Around} {E:Value→Shared→Prop} {s:Shared}
end
section
variable {prog:Program} {w:World} {A:Around} {E:Value→Shared→Prop} {s:Shared}
end
section
variable {prog:Program} {w:World} {A:Around} {E:Value→Shared→Prop} {s:Shared}
end
section
variable {prog:Program} {w:World} {A:Around} {E:Value→Shared→Prop} {s:Shared}
end
section
variable {prog:Program} {w:World} {A:Around} {E:Value→Shared→Prop} {s:Shared}
end
end L2
namespace L2
open PySem PySem.Spec PyProof.Rows
section
variable {X:Cx}
variable {ow:List Bool} {e:Expr} {ma:ME} {pos p1 p2 p3:Pos}
end
end L2
namespace L2
open PySem
end L2
namespace L2
open PySem PySem.Spec PyProof.Rows
section
variable {X:Cx}
end
section
variable {X:Cx} {es:List Expr} {ps:List FP}
end
end L2
namespace L2
open PySem PySem.Spec PyProof.Rows PySem.NumText
end L2
namespace L2
open PySem PySem.Spec PyProof.Rows
section
variable {C:Ctx} {ow:List Bool} {G:Hp} {ρ:DSt} {σ:St} {H:Hp} {pd:List (D×V)} {O:Own}
end
section
variable {X:Cx} {ow:List Bool} {a b c e o:Expr} {ma mb:ME} {pos apos:Pos} {Cc:Addr} {f m:Str}
section
variable {k j:Nat} {fa:Addr} {fd:FuncData} {ps:List Str} {mu:List Bool} {sd:SpD} {sx:SpX} {ks:List AK} {es:List Expr} {mr:MA} {ak:AK}
end
section
variable {k j:Nat} {fa:Addr} {fd:FuncData} {ps:List Str} {mu:List Bool} {sd:SpD} {x:Str} {p':Pos} {es:List Expr} {mr:MA}
end
end
section
variable {X:Cx} {ow:List Bool} {a:Expr} {ma:ME} {ta:TE} {pos:Pos}
end
end L2
namespace L2
open PySem PySem.Spec PyProof.Rows PySem.NumText
section
variable {X:Cx} {ow:List Bool} {e a b:Expr} {ma mb:ME}
open PySem.Builtin.Str (occurrences strSub)
end
end L2
namespace L2
open PySem PySem.Spec PyProof.Rows
section
variable {C:Ctx} {ow:List Bool} {G:Hp} {ρ:DSt} {σ:St} {H:Hp} {O:Own}
end
section
variable {X:Cx} {M:Md} {st:Stmt} {m:MS}
end
section
variable {X:Cx} {ow:List Bool} {a b:Expr} {ma mb:ME} {pos:Pos}
end
section
variable {C:Ctx} {ow mu:List Bool} {G:Hp} {ρ:DSt} {σ:St} {H:Hp} {pd:List (D×V)} {O:Own} {f b:Lb→Option Lb}
end
open Classical in
section
variable {X:Cx} {ow:List Bool} {k j:Nat} {f:Addr} {fd:FuncData} {ps:List Str} {mu:List Bool} {sd:SpD} {x y:Str} {st:Stmt} {ks:List AK} {es:List Expr} {mr:MA} {pos p' p0 p1 n0 n1 c0 c1:Pos} {k0 k1:Nat}
end
end L2
namespace L2
open PySem PySem.Spec PyProof.Rows
section
variable {C:Ctx} {ow:List Bool} {G G2:Hp} {ρ ρ2:DSt} {σ σ2:St} {H H2:Hp} {pd pd2:List (D×V)} {O O2:Own} {l:Nat}
end
section
variable {X:Cx} {M:Md} {i:Nat} {pos:Pos} {m:MS} {me:ME}
end
end L2
namespace L2
open PySem PySem.Spec PyProof.Rows
open Classical in
section
variable {mv:List (Option V)} {s a b c:Nat}
end
section
variable {C:Ctx} {ow mu:List Bool} {G G2:Hp} {ρ ρ2:DSt} {σ σ2:St} {H H2:Hp} {pd2:List (D×V)} {O O2:Own} {s a b c:Nat} {d0 d1 d2:D} {x0 x1 x2:V} {p:Addr}
end
section
variable {X:Cx} {M:Md} {rest:List Stmt} {m:MS}
end
end L2
namespace L2
open PySem PySem.Spec PyProof.Rows
section
variable {X:Cx} {ow:List Bool} {js:List Nat} {pos:Pos}
end
section
variable {prog:Program} {w:World} {A:Around} {E:Value→Shared→Prop} {s:Shared} {env:Env}
end
section
variable {X:Cx} {pins p:List (Addr×Obj)} {σ:St} {H:Hp} {s:Shared} {E:Value→Shared→Prop}
end
section
variable {X:Cx} {pins p:List (Addr×Obj)} {σ:St} {H:Hp} {s:Shared} {E:Value→Shared→Prop}
variable {x:Str} {C D1 D2:Addr} {bm bm1 bm2 bmC:List Value} {ini ini1 ini2:Option Value} {x1 x2:Str} {p1 p2 tpos npos np cpos cp rpos ap:Pos} {kt j ja:Nat} {m:Str} {D:Ends} {e t:Addr} {dx:Option Addr} {xk:XS}
end
end L2
namespace L2
open PySem PySem.Spec PyProof.Rows PySem.W Att
def KF (kf:Keyed→Int) (xs:Array Keyed) (i:Nat):Int:=match xs[i]? with
 | some p=>kf p
 | none=>0
theorem eO {kf:Keyed→Int} {xs ys:Array Keyed} {i j:Nat} (h:xs[i]? = ys[j]?):KF kf xs i=KF kf ys j:=by unfold KF; rw [h]
theorem iS {kf:Keyed→Int} {xs:Array Keyed} {src d:Nat} (hs:src<xs.size) (hd:d≤src) (k:Nat) :
 KF kf (bubble xs src d) k=if k=src - d then KF kf xs src else if src - d<k∧k≤src then KF kf xs (k - 1) else KF kf xs k:=by
 have e:=getElem?_bubble hs d hd k
 split
 ·rename_i h; rw [if_pos h] at e; exact eO e
 ·rename_i h
  rw [if_neg h] at e
  split
  ·rename_i h2; rw [if_pos h2] at e; exact eO e
  ·rename_i h2; rw [if_neg h2] at e; exact eO e
theorem gq {kf:Keyed→Int} {xs:Array Keyed} {i j:Nat} (hj:j≤xs.size) (k:Nat) :
 KF kf (mirror xs i j ((j - i) / 2)) k=if i≤k∧k<j then KF kf xs (i + j - 1 - k) else KF kf xs k:=by
 have e:=getElem?_mirror_all (i:=i) hj k
 split
 ·rename_i h; rw [if_pos h] at e; exact eO e
 ·rename_i h; rw [if_neg h] at e; exact eO e
theorem cQ {kf:Keyed→Int} {xs:Array Keyed} {i j:Nat} (hj:j≤xs.size) (heq:∀ k,i≤k→k<j→KF kf xs k=KF kf xs (j - 1)) (k:Nat) :
 KF kf (mirror xs i j ((j - i) / 2)) k=KF kf xs k:=by
 rw [gq hj]
 split
 ·rw [heq _ (by omega) (by omega),heq k (by omega) (by omega)]
 ·rfl
structure SBk (kd:SortKind) (a₀:Array Keyed) (st:SortSt):Prop where
 perm:(arrOf st).Perm a₀
 kind:kindOf st=kd
 failed:failedOf st=none
 pend:pendingOf st = #[]
theorem SBk.size {kd:SortKind} {a₀:Array Keyed} {st:SortSt} (h:SBk kd a₀ st):(arrOf st).size=a₀.size:=h.perm.size_eq
theorem SBk.setArr {kd:SortKind} {a₀:Array Keyed} {st:SortSt} (h:SBk kd a₀ st) {xs:Array Keyed} (hp:xs.Perm (arrOf st)):SBk kd a₀ (setArr st xs):=⟨hp.trans h.perm,h.kind,h.failed,h.pend⟩
def LtF (prog:Program) (w:World) (A:Around) (E:Value→Shared→Prop) (s:Shared) (kd:SortKind) (kf:Keyed→Int) (a₀:Array Keyed):Prop:=∀ (st:SortSt) (i j:Nat) (Q:Option Bool→SortSt→Prop),SBk kd a₀ st→i<a₀.size→j<a₀.size →
 Q (some (decide (KF kf (arrOf st) i<KF kf (arrOf st) j))) st→wpS (model prog w) A E s (ltAt' i j) Q st
theorem Rev.turnF {rk:Keyed→Nat} {kf:Keyed→Int} {xs:Array Keyed} {n N:Nat} (hn:n≤xs.size) (h:Rev (KF kf xs) (RK rk xs) n):Lex (KF kf (mirror xs 0 n ((n - 0) / 2))) (RK rk (mirror xs 0 n ((n - 0) / 2))) n:=fun i j hij hj=>by
 rw [gq hn,gq hn,be hn,be hn,if_pos (by omega),if_pos (by omega),if_pos (by omega),if_pos (by omega)]
 have:=h (0 + n - 1 - j) (0 + n - 1 - i) (by omega) (by omega)
 omega
theorem Blk.turnF {rk:Keyed→Nat} {kf:Keyed→Int} {xs:Array Keyed} {b n:Nat} (hn:n≤xs.size) (h:Blk (KF kf xs) (RK rk xs) b n):Rev (KF kf (mirror xs b n ((n - b) / 2))) (RK rk (mirror xs b n ((n - b) / 2))) n:=fun i j hij hj=>by
 have hb:=h.lt
 have hK:∀ t,KF kf (mirror xs b n ((n - b) / 2)) t=KF kf xs t:=fun t=>cQ hn (fun t h1 h2=>h.eq t h1 h2) t
 rw [hK,hK,be hn,be hn]
 by_cases h1:b≤i
 ·rw [if_pos ⟨by omega,hj⟩,if_pos ⟨h1,by omega⟩]
  have e1:=h.eq i h1 (by omega)
  have e2:=h.eq j (by omega) hj
  have:=h.up (b + n - 1 - j) (b + n - 1 - i) (by omega) (by omega) (by omega)
  omega
 ·rw [if_neg (show ¬ (b≤i∧i<n) by omega)]
  by_cases h2:b≤j
  ·have e2:=h.eq j h2 hj
   have:=h.str i (by omega)
   omega
  ·rw [if_neg (show ¬ (b≤j∧j<n) by omega)]
   exact h.rev i j hij hj (by omega)
section
variable {prog:Program} {w:World} {A:Around} {E:Value→Shared→Prop} {s:Shared} {a₀:Array Keyed} {rk:Keyed→Nat} {kf:Keyed→Int} {kd:SortKind}
abbrev kF (kf:Keyed→Int) (st:SortSt):Nat→Int:=KF kf (arrOf st)
theorem tE {st:SortSt} {a nrem:Nat} {Q:AscSt→SortSt→Prop} (h0:LtF prog w A E s kd kf a₀) (hn:nrem≤a₀.size) (ha : 1≤a) (han:a≤nrem) (hB:SBk kd a₀ st) (hs:Lex (kF kf st) (rS rk st) a) (hr:Rst (rS rk st) a a₀.size)
 (h:∀ n,a≤n→n≤nrem→Lex (kF kf st) (rS rk st) n→Rst (rS rk st) n a₀.size→(n=nrem∨kF kf st n<kF kf st (n - 1))→Q (none,n) st) :
 wpS (model prog w) A E s (ascLoop a nrem) Q st:=by
 unfold ascLoop
 refine wpS_forRange (I:=fun x c st'=>st'=st∧c=(none,x)∧Lex (kF kf st) (rS rk st) x∧Rst (rS rk st) x a₀.size) ?step ?fin ⟨rfl,rfl,hs,hr⟩
 case fin =>
  rintro c st' ⟨rfl,rfl,hs',hr'⟩
  rw [show max a nrem=nrem by omega] at hs' hr' ⊢
  exact h nrem han (Nat.le_refl _) hs' hr' (.inl rfl)
 case step =>
  rintro x c st' hax hxn ⟨rfl,rfl,hs',hr'⟩
  dsimp only
  refine wpS_bind (h0 _ _ _ _ hB (by omega) (by omega) ?_)
  by_cases hless:KF kf (arrOf st') x<KF kf (arrOf st') (x - 1)
  ·simp only [hless,decide_true,if_true]
   exact wpS_pure (h x hax (by omega) hs' hr' (.inr hless))
  ·simp only [hless,decide_false,Bool.false_eq_true,if_false]
   have hx:=hr'.2 x (Nat.le_refl _) (by omega)
   refine wpS_pure ⟨rfl,rfl,fun i j hij hj=>?_,fun i hi=>?_,fun i h1 h2=>hr'.2 i (by omega) h2⟩
   ·by_cases hjx:j<x
    ·exact hs' i j hij hjx
    ·have hj':j=x:=by omega
     subst hj'
     have a1:=hs'.le (i:=i) (j:=j - 1) (by omega) (by omega)
     have a2:=hr'.1 i hij
     show KF kf (arrOf st') i<KF kf (arrOf st') j∨(KF kf (arrOf st') i=KF kf (arrOf st') j∧rS rk st' i<rS rk st' j)
     change KF kf (arrOf st') i≤KF kf (arrOf st') (j - 1) at a1
     omega
   ·by_cases hix:i<x
    ·have:=hr'.1 i hix; omega
    ·have:i=x:=by omega
     subst this; omega
theorem qg {st:SortSt} {n nrem:Nat} {Q:Option Nat→SortSt→Prop} (h0:LtF prog w A E s kd kf a₀) (hn:nrem≤a₀.size) (h1 : 1≤n) (hnn:n≤nrem) (hB:SBk kd a₀ st) (hs:Rev (kF kf st) (rS rk st) n) (hr:Rst (rS rk st) n a₀.size)
 (h:∀ m st',SBk kd a₀ st'→1≤m→m≤nrem→Lex (kF kf st') (rS rk st') m→Rst (rS rk st') m a₀.size→Q (some m) st') :
 wpS (model prog w) A E s (tail3 n nrem) Q st:=by
 unfold tail3
 have hsz:n≤(arrOf st).size:=by rw [hB.size]; omega
 refine wpS_bind (wpS_reverse ?_)
 have hB':SBk kd a₀ (setArr st (mirror (arrOf st) 0 n ((n - 0) / 2))):=hB.setArr (mirror_perm _ _ _ _)
 exact wpS_bind (tE (rk:=rk) (kf:=kf) (kd:=kd) h0 hn h1 hnn hB' (Rev.turnF (N:=0) hsz hs) (Rst.turn hsz hr) fun m hm1 hm2 hsm hrm _=>wpS_pure (h m _ hB' (by omega) hm2 hsm hrm))
theorem vb {st:SortSt} {n nrem:Nat} {Q:DescSt→SortSt→Prop} (h0:LtF prog w A E s kd kf a₀) (hn:nrem≤a₀.size) (h1 : 1≤n) (hnn:n≤nrem) (hB:SBk kd a₀ st) (hs:Blk (kF kf st) (rS rk st) (n - 1) n) (hr:Rst (rS rk st) n a₀.size)
 (h:∀ m neq st',SBk kd a₀ st'→n≤m→m≤nrem→neq + 1≤m→Blk (kF kf st') (rS rk st') (m - (neq + 1)) m→Rst (rS rk st') m a₀.size→Q (none,m,neq) st') :
 wpS (model prog w) A E s (descLoop n nrem) Q st:=by
 unfold descLoop
 refine wpS_forRange (I:=fun x c st'=>∃ neq,c=(none,x,neq)∧SBk kd a₀ st'∧neq + 1≤x∧Blk (kF kf st') (rS rk st') (x - (neq + 1)) x∧Rst (rS rk st') x a₀.size) ?step ?fin ⟨0,rfl,hB,by omega,hs,hr⟩
 case fin =>
  rintro c st' ⟨neq,rfl,hB',hq,hs',hr'⟩
  rw [show max n nrem=nrem by omega] at hs' hq hr' ⊢
  exact h nrem neq st' hB' hnn (Nat.le_refl _) hq hs' hr'
 case step =>
  rintro x c st' hax hxn ⟨neq,rfl,hB',hq,hs',hr'⟩
  dsimp only
  have hsz:x≤(arrOf st').size:=by rw [hB'.size]; omega
  have hx:=hr'.2 x (Nat.le_refl _) (by omega)
  have next:∀ st2:SortSt,SBk kd a₀ st2→(∀ t,x≤t→(arrOf st2)[t]? = (arrOf st')[t]?)→(∀ t,kF kf st2 t=kF kf st' t)→Rev (kF kf st2) (rS rk st2) x→Rst (rS rk st2) x a₀.size→kF kf st' x<kF kf st' (x - 1) →
   ∃ neq,((none,x + 1,0):DescSt)=(none,x + 1,neq)∧SBk kd a₀ st2∧neq + 1≤x + 1∧Blk (kF kf st2) (rS rk st2) (x + 1 - (neq + 1)) (x + 1)∧Rst (rS rk st2) (x + 1) a₀.size:=fun st2 hB2 hk hkk hR hr2 hless=>by
   have hx2:=hr2.2 x (Nat.le_refl _) (by omega)
   have below:∀ i,i<x→kF kf st2 x<kF kf st2 i:=fun i hi=>by
    have:=hR.ge (i:=i) (j:=x - 1) (by omega) (by omega)
    rw [hkk x,hkk i]
    rw [hkk (x - 1),hkk i] at this
    omega
   refine ⟨0,rfl,hB2,by omega,?_,fun i hi=>?_,fun i h1 h2=>hr2.2 i (by omega) h2⟩
   ·rw [show x + 1 - (0 + 1)=x by omega]
    refine Blk.one (fun i j hij hj=>?_) below
    by_cases hjx:j<x
    ·exact hR i j hij hjx
    ·have:j=x:=by omega
     subst this
     exact .inl (below i hij)
   ·by_cases hix:i<x
    ·have:=hr2.1 i hix; omega
    ·have:i=x:=by omega
     subst this; omega
  refine wpS_bind (h0 _ _ _ _ hB' (by omega) (by omega) ?_)
  by_cases hless:KF kf (arrOf st') x<KF kf (arrOf st') (x - 1)
  ·simp only [hless,decide_true,if_true]
   by_cases hneq:neq > 0
   ·rw [if_pos hneq]
    refine wpS_bind (wpS_reverse (wpS_pure (next _ (hB'.setArr (mirror_perm _ _ _ _)) (fun t ht=>?_) (fun t=>cQ hsz (fun t h1 h2=>hs'.eq t h1 h2) t) (Blk.turnF hsz hs') (Rst.turn hsz hr') hless)))
    show (mirror (arrOf st') _ _ _)[t]? = _
    rw [getElem?_mirror_all hsz,if_neg (by omega)]
   ·rw [if_neg hneq]
    have:neq=0:=by omega
    subst this
    exact wpS_pure (next _ hB' (fun _ _=>rfl) (fun _=>rfl) (Blk.rev1 hs') hr' hless)
  ·simp only [hless,decide_false,Bool.false_eq_true,if_false]
   refine wpS_bind (h0 _ _ _ _ hB' (by omega) (by omega) ?_)
   by_cases hlarger:KF kf (arrOf st') (x - 1)<KF kf (arrOf st') x
   ·simp only [hlarger,decide_true,if_true]
    exact wpS_pure (h x neq st' hB' hax (by omega) hq hs' hr')
   ·simp only [hlarger,decide_false,Bool.false_eq_true,if_false]
    have heqx:KF kf (arrOf st') x=KF kf (arrOf st') (x - 1):=by omega
    refine wpS_pure ⟨neq + 1,rfl,hB',by omega,?_,fun i hi=>?_,fun i h1 h2=>hr'.2 i (by omega) h2⟩
    ·rw [show x + 1 - (neq + 1 + 1)=x - (neq + 1) by omega]
     refine ⟨by omega,fun i h1 h2=>?_,fun i j h1 h2 h3=>?_,fun i j h1 h2 h3=>?_,fun i h1=>?_⟩
     ·rw [show x + 1 - 1=x by omega]
      by_cases hix:i<x
      ·rw [hs'.eq i h1 hix]; exact heqx.symm
      ·congr 1; omega
     ·by_cases hjx:j<x
      ·exact hs'.up i j h1 h2 hjx
      ·have:j=x:=by omega
       subst this
       have:=hr'.1 i h2; omega
     ·by_cases hjx:j<x
      ·exact hs'.rev i j h1 hjx h3
      ·have:j=x:=by omega
       subst this
       have:=hs'.str i h3
       left; show KF kf (arrOf st') j<KF kf (arrOf st') i; rw [heqx]; exact this
     ·rw [show x + 1 - 1=x by omega]
      have:=hs'.str i h1
      show KF kf (arrOf st') x<KF kf (arrOf st') i
      rw [heqx]; exact this
    ·by_cases hix:i<x
     ·have:=hr'.1 i hix; omega
     ·have:i=x:=by omega
      subst this; omega
theorem md {st:SortSt} {n nrem:Nat} {Q:Option Nat→SortSt→Prop} (h0:LtF prog w A E s kd kf a₀) (hn:nrem≤a₀.size) (hnn:n + 1≤nrem) (hB:SBk kd a₀ st) (hs:Blk (kF kf st) (rS rk st) n (n + 1)) (hr:Rst (rS rk st) (n + 1) a₀.size)
 (h:∀ m st',SBk kd a₀ st'→1≤m→m≤nrem→Lex (kF kf st') (rS rk st') m→Rst (rS rk st') m a₀.size→Q (some m) st') :
 wpS (model prog w) A E s (descPart n nrem) Q st:=by
 unfold descPart
 refine wpS_bind (wpS_lift (wpAny_rule ⟨rfl,?_⟩))
 refine wpS_bind (vb (rk:=rk) (kf:=kf) (kd:=kd) h0 hn (by omega) hnn hB (by rw [show n + 1 - 1=n by omega]; exact hs) hr fun m neq st' hB' hm1 hm2 hq hs' hr'=>?_)
 dsimp only
 have hsz:m≤(arrOf st').size:=by rw [hB'.size]; omega
 by_cases hneq:neq > 0
 ·rw [if_pos hneq]
  exact wpS_bind (wpS_reverse (qg (rk:=rk) (kf:=kf) (kd:=kd) h0 hn (by omega) hm2 (hB'.setArr (mirror_perm _ _ _ _)) (Blk.turnF hsz hs') (Rst.turn hsz hr') h))
 ·rw [if_neg hneq]
  have:neq=0:=by omega
  subst this
  exact qg (rk:=rk) (kf:=kf) (kd:=kd) h0 hn (by omega) hm2 hB' (Blk.rev1 hs') hr' h
theorem sw {st:SortSt} {nrem:Nat} {Q:Option Nat→SortSt→Prop} (h0:LtF prog w A E s kd kf a₀) (hn:nrem≤a₀.size) (h1 : 1≤nrem) (hB:SBk kd a₀ st) (hr:∀ i,i<a₀.size→rS rk st i=i)
 (h:∀ m st',SBk kd a₀ st'→1≤m→m≤nrem→Lex (kF kf st') (rS rk st') m→Rst (rS rk st') m a₀.size→Q (some m) st') :
 wpS (model prog w) A E s (countRun' 0 nrem) Q st:=by
 rw [countRun0_eq]
 refine wpS_bind (tE (rk:=rk) (kf:=kf) (kd:=kd) h0 hn (Nat.le_refl 1) h1 hB (fun i j hij hj=>by omega) ⟨fun i hi=>by have:=hr i (by omega); omega,fun i _ h2=>hr i h2⟩ fun n hn1 hn2 hsn hrn hor=>?_)
 dsimp only
 by_cases hnn:n=nrem
 ·rw [if_pos (by simpa using hnn)]
  exact wpS_pure (h n st hB hn1 hn2 hsn hrn)
 ·rw [if_neg (by simpa using hnn)]
  have hlt:KF kf (arrOf st) n<KF kf (arrOf st) (n - 1):=hor.resolve_left hnn
  have rst:∀ (xs:Array Keyed),(∀ i,i<n→RK rk xs i<n)→(∀ i,n≤i→i<a₀.size→RK rk xs i=i)→Rst (RK rk xs) (n + 1) a₀.size:=fun xs g1 g2=>⟨fun i hi=>by
   by_cases hin:i<n
   ·have:=g1 i hin; omega
   ·have:=g2 i (by omega) (by omega); omega,fun i h1 h2=>g2 i (by omega) h2⟩
  by_cases hgt:n > 1
  ·rw [if_pos hgt]
   refine wpS_bind (h0 _ _ _ _ hB (by omega) (by omega) ?_)
   by_cases hrose:KF kf (arrOf st) 0<KF kf (arrOf st) (n - 1)
   ·simp only [hrose,decide_true,if_true]
    exact wpS_pure (h n st hB hn1 hn2 hsn hrn)
   ·simp only [hrose,decide_false,Bool.false_eq_true,if_false]
    have hsz:n≤(arrOf st).size:=by rw [hB.size]; omega
    have hall:∀ k,0≤k→k<n→KF kf (arrOf st) k=KF kf (arrOf st) (n - 1):=fun k _ hk=>by
     have a1:KF kf (arrOf st) 0≤KF kf (arrOf st) k:=hsn.le (by omega) hk
     have a2:KF kf (arrOf st) k≤KF kf (arrOf st) (n - 1):=hsn.le (by omega) (by omega)
     omega
    have hK:=fun t=>cQ hsz hall t
    have hm:=Rst.turn (b:=0) hsz hrn
    refine wpS_bind (wpS_reverse (md (rk:=rk) (kf:=kf) (kd:=kd) h0 hn (by omega) (hB.setArr (mirror_perm _ _ _ _)) ?_ (rst _ hm.1 hm.2) h))
    have below:∀ i,i<n→KF kf (mirror (arrOf st) 0 n ((n - 0) / 2)) n<KF kf (mirror (arrOf st) 0 n ((n - 0) / 2)) i:=fun i hi=>by rw [hK,hK,hall i (by omega) hi]; exact hlt
    refine Blk.one (fun i j hij hj=>?_) below
    by_cases hjn:j<n
    ·right
     show KF kf (mirror (arrOf st) 0 n ((n - 0) / 2)) i=KF kf (mirror (arrOf st) 0 n ((n - 0) / 2)) j∧RK rk (mirror (arrOf st) 0 n ((n - 0) / 2)) j<RK rk (mirror (arrOf st) 0 n ((n - 0) / 2)) i
     rw [hK,hK,hall i (by omega) (by omega),hall j (by omega) hjn,be hsz,be hsz,if_pos (by omega),if_pos (by omega)]
     have r1:RK rk (arrOf st) (0 + n - 1 - j)=0 + n - 1 - j:=hr _ (by omega)
     have r2:RK rk (arrOf st) (0 + n - 1 - i)=0 + n - 1 - i:=hr _ (by omega)
     exact ⟨rfl,by rw [r1,r2]; omega⟩
    ·have:j=n:=by omega
     subst this
     exact .inl (below i hij)
  ·rw [if_neg hgt]
   have hn1':n=1:=by omega
   subst hn1'
   refine md (rk:=rk) (kf:=kf) (kd:=kd) h0 hn (by omega) hB ?_ (rst _ hrn.1 hrn.2) h
   have below:∀ i,i<1→kF kf st 1<kF kf st i:=fun i hi=>by
    have:i=0:=by omega
    subst this; exact hlt
   exact Blk.one (fun i j hij hj=>by
    have:j=1:=by omega
    subst this; exact .inl (below i hij)) below
theorem bin_f {st:SortSt} {n ok:Nat} {Q:Bool→SortSt→Prop} (h0:LtF prog w A E s kd kf a₀) (hn:n≤a₀.size) (hok:ok≤n) (h1 : 1≤ok) (hB:SBk kd a₀ st) (hs:Lex (kF kf st) (rS rk st) ok) (hr:Rst (rS rk st) ok a₀.size)
 (h:∀ st',SBk kd a₀ st'→Lex (kF kf st') (rS rk st') n→Q true st'):wpS (model prog w) A E s (binarySort' 0 n ok) Q st:=by
 rw [binarySort'_eq]
 simp only [Nat.zero_add]
 refine wpS_bind (wpS_mono (wpS_forRange (I:=fun k c st'=>c=(none,())∧SBk kd a₀ st'∧Lex (kF kf st') (rS rk st') (min k n)∧Rst (rS rk st') (min k n) a₀.size)
  (Q:=fun c st'=>c=(none,())∧SBk kd a₀ st'∧Lex (kF kf st') (rS rk st') n) ?step ?fin ?init) ?post)
 case post =>
  rintro c st' ⟨rfl,hB',hs'⟩
  exact wpS_pure (h st' hB' hs')
 case init =>
  rw [show min (max ok 1) n=ok by omega]
  exact ⟨rfl,hB,hs,hr⟩
 case fin =>
  rintro c st' ⟨hc,hB',hs',_⟩
  refine ⟨hc,hB',?_⟩
  rwa [show min (max (max ok 1) n) n=n by omega] at hs'
 case step =>
  rintro k c st' hak hkn ⟨rfl,hB',hs',hr'⟩
  rw [show min k n=k by omega] at hs' hr'
  have hk:k<a₀.size:=by omega
  refine wpS_bind (wpS_mono (wpS_forRange (I:=fun x c st''=>st''=st'∧∃ l r,c=(none,l,r)∧l≤r∧r≤k∧r - l≤k - x ∧
   (∀ i,i<l→KF kf (arrOf st') i≤KF kf (arrOf st') k)∧(∀ i,r≤i→i<k→KF kf (arrOf st') k<KF kf (arrOf st') i))
   (Q:=fun c st''=>st''=st'∧∃ l r,c=(none,l,r)∧l≤k ∧
    (∀ i,i<l→KF kf (arrOf st') i≤KF kf (arrOf st') k)∧(∀ i,l≤i→i<k→KF kf (arrOf st') k<KF kf (arrOf st') i)) ?istep ?ifin ?iinit) ?ipost)
  case iinit=>exact ⟨rfl,0,k,rfl,by omega,by omega,by omega,fun i hi=>by omega,fun i h1 h2=>by omega⟩
  case ifin =>
   rintro c st'' ⟨rfl,l,r,rfl,hlr,hrk,hm,hlo,hhi⟩
   have:l=r:=by omega
   subst this
   exact ⟨rfl,l,l,rfl,hrk,hlo,hhi⟩
  case istep =>
   rintro x c st'' _ hxk ⟨rfl,l,r,rfl,hlr,hrk,hm,hlo,hhi⟩
   dsimp only
   by_cases hge:l ≥ r
   ·rw [if_pos hge]
    have:l=r:=by omega
    subst this
    exact wpS_pure ⟨rfl,l,l,rfl,hrk,hlo,hhi⟩
   ·rw [if_neg hge]
    refine wpS_bind (h0 _ _ _ _ hB' hk (by omega) ?_)
    by_cases hless:KF kf (arrOf st'') k<KF kf (arrOf st'') ((l + r) / 2)
    ·simp only [hless,decide_true,if_true]
     refine wpS_pure ⟨rfl,l,(l + r) / 2,rfl,by omega,by omega,by omega,hlo,fun i g1 g2=>?_⟩
     have:KF kf (arrOf st'') ((l + r) / 2)≤KF kf (arrOf st'') i:=hs'.le g1 g2
     omega
    ·simp only [hless,decide_false,Bool.false_eq_true,if_false]
     refine wpS_pure ⟨rfl,(l + r) / 2 + 1,r,rfl,by omega,by omega,by omega,fun i g1=>?_,hhi⟩
     have:KF kf (arrOf st'') i≤KF kf (arrOf st'') ((l + r) / 2):=hs'.le (by omega) (by omega)
     omega
  case ipost =>
   rintro c st'' ⟨rfl,l,r,rfl,hlk,hlo,hhi⟩
   show wpS _ _ _ _ (do moveDown' k l; pure (ForInStep.yield (none,()))) _ _
   rw [moveDown'_eq]
   have hks:k<(arrOf st'').size:=by rw [hB'.size]; exact hk
   have hkk:RK rk (arrOf st'') k=k:=hr'.2 k (Nat.le_refl _) hk
   refine wpS_bind (wpS_modify (wpS_pure ⟨rfl,hB'.setArr (bubble_perm _ _ _),?_,?_⟩))
   ·rw [show min (k + 1) n=k + 1 by omega]
    intro i j hij hj
    show KF kf (bubble (arrOf st'') k (k - l)) i<KF kf (bubble (arrOf st'') k (k - l)) j∨(KF kf (bubble (arrOf st'') k (k - l)) i=KF kf (bubble (arrOf st'') k (k - l)) j∧RK rk (bubble (arrOf st'') k (k - l)) i<RK rk (bubble (arrOf st'') k (k - l)) j)
    rw [iS hks (by omega),iS hks (by omega),cn hks (by omega),cn hks (by omega),show k - (k - l)=l by omega]
    by_cases c1:i<l
    ·rw [if_neg (show ¬ i=l by omega),if_neg (show ¬ (l<i∧i≤k) by omega),if_neg (show ¬ i=l by omega),if_neg (show ¬ (l<i∧i≤k) by omega)]
     by_cases c2:j<l
     ·rw [if_neg (show ¬ j=l by omega),if_neg (show ¬ (l<j∧j≤k) by omega),if_neg (show ¬ j=l by omega),if_neg (show ¬ (l<j∧j≤k) by omega)]
      exact hs' i j hij (by omega)
     ·by_cases c3:j=l
      ·rw [if_pos c3,if_pos c3]
       have a1:=hlo i c1
       have a2:RK rk (arrOf st'') i<k:=hr'.1 i (by omega)
       omega
      ·rw [if_neg c3,if_pos ⟨by omega,by omega⟩,if_neg c3,if_pos ⟨by omega,by omega⟩]
       exact hs' i (j - 1) (by omega) (by omega)
    ·by_cases c2:i=l
     ·rw [if_pos c2,if_pos c2,if_neg (show ¬ j=l by omega),if_pos ⟨by omega,by omega⟩,if_neg (show ¬ j=l by omega),if_pos ⟨by omega,by omega⟩]
      exact .inl (hhi (j - 1) (by omega) (by omega))
     ·rw [if_neg c2,if_neg (show ¬ j=l by omega),if_neg c2,if_neg (show ¬ j=l by omega),if_pos (show l<i∧i≤k by omega),if_pos (show l<j∧j≤k by omega),if_pos (show l<i∧i≤k by omega),if_pos (show l<j∧j≤k by omega)]
      exact hs' (i - 1) (j - 1) (by omega) (by omega)
   ·rw [show min (k + 1) n=k + 1 by omega]
    refine ⟨fun i hi=>?_,fun i g1 g2=>?_⟩
    ·show RK rk (bubble (arrOf st'') k (k - l)) i<k + 1
     rw [cn hks (by omega)]
     split
     ·omega
     ·split
      ·have:=hr'.1 (i - 1) (by omega)
       change RK rk (arrOf st'') (i - 1)<k at this
       omega
      ·by_cases hik:i<k
       ·have:=hr'.1 i hik
        change RK rk (arrOf st'') i<k at this
        omega
       ·have:i=k:=by omega
        subst this; omega
    ·show RK rk (bubble (arrOf st'') k (k - l)) i=i
     rw [cn hks (by omega),if_neg (by omega),if_neg (by omega)]
     exact hr'.2 i (by omega) g2
def qj (rk:Keyed→Nat) (kf:Keyed→Int) (a₀:Array Keyed) (st:SortSt):Prop:=(arrOf st).Perm a₀∧failedOf st=none∧pendingOf st = #[(0,a₀.size,0)]∧Lex (kF kf st) (rS rk st) a₀.size
theorem pE {st:SortSt} (hB:SBk kd a₀ st) (hs:Lex (kF kf st) (rS rk st) a₀.size):qj rk kf a₀ (setPending st ((pendingOf st).push (0,a₀.size,0))) :=
 ⟨hB.perm,hB.failed,by show (pendingOf st).push _=_; rw [hB.pend]; rfl,hs⟩
theorem uX {st:SortSt} {Q:Unit→SortSt→Prop} (h0:LtF prog w A E s kd kf a₀) (hB:SBk kd a₀ st) (hr:∀ i,i<a₀.size→rS rk st i=i) (h2 : 2≤a₀.size) (h64:a₀.size<64)
 (h:∀ st',(arrOf st').Perm a₀→failedOf st'=none→Lex (kF kf st') (rS rk st') a₀.size→Q () st'):wpS (model prog w) A E s sortRuns' Q st:=by
 rw [sortRuns'_eq]
 refine wpS_bind (wpS_get ?_)
 dsimp only
 have hmr:minRun' a₀.size a₀.size 0=a₀.size:=by
  obtain ⟨f,hf⟩:∃ f,a₀.size=f + 1:=⟨a₀.size - 1,by omega⟩
  have:minRun' (f + 1) a₀.size 0=a₀.size:=by rw [minRun'_succ,if_pos h64]; rfl
  rwa [← hf] at this
 simp only [hB.size,hmr]
 refine wpS_bind (wpS_mono (wpS_forRange
  (I:=fun x c st'=>(x=0∧c=(none,0)∧st'=st)∨(1≤x∧c=(none,a₀.size)∧qj rk kf a₀ st'))
  (Q:=fun c st'=>c=(none,a₀.size)∧qj rk kf a₀ st') ?step ?fin (.inl ⟨rfl,rfl,rfl⟩)) ?post)
 case fin =>
  rintro c st' (⟨hx,_,_⟩ | ⟨_,hc,hD⟩)
  ·omega
  ·exact ⟨hc,hD⟩
 case step =>
  rintro x c st' _ hx (⟨rfl,rfl,rfl⟩ | ⟨hx1,rfl,hD⟩)
  ·dsimp only
   rw [if_neg (by omega)]
   simp only [Nat.sub_zero,Nat.min_self,Nat.zero_add]
   refine wpS_bind (sw (rk:=rk) (kf:=kf) (kd:=kd) h0 (Nat.le_refl _) (by omega) hB hr fun m st2 hB2 hm1 hm2 hs2 hr2=>?_)
   dsimp only
   by_cases hlt:m<a₀.size
   ·rw [if_pos hlt]
    refine wpS_bind (wpS_lift (wpAny_rule ⟨rfl,?_⟩))
    refine wpS_bind (bin_f (rk:=rk) (kf:=kf) (kd:=kd) h0 (Nat.le_refl _) hm2 hm1 hB2 hs2 hr2 fun st3 hB3 hs3=>?_)
    simp only [Bool.not_true,Bool.false_eq_true,if_false]
    refine wpS_bind (wpS_get ?_)
    have hb:(pendingOf st3).back? = none:=by rw [hB3.pend]; rfl
    rw [hb]
    dsimp only
    exact wpS_bind (wpS_modify (wpS_pure (.inr ⟨by omega,rfl,pE hB3 hs3⟩)))
   ·rw [if_neg hlt]
    have hm:m=a₀.size:=by omega
    subst hm
    refine wpS_bind (wpS_get ?_)
    have hb:(pendingOf st2).back? = none:=by rw [hB2.pend]; rfl
    rw [hb]
    dsimp only
    exact wpS_bind (wpS_modify (wpS_pure (.inr ⟨by omega,rfl,pE hB2 hs2⟩)))
  ·dsimp only
   rw [if_pos (Nat.le_refl _)]
   exact wpS_pure ⟨rfl,hD⟩
 case post =>
  rintro c st' ⟨rfl,hD⟩
  dsimp only
  refine wpS_bind (wpS_mono (wpS_forRange (I:=fun _ c st''=>st''=st'∧c=(none,())) (Q:=fun c st''=>st''=st'∧c=(none,())) ?_ (fun _ _ hh=>hh) ⟨rfl,rfl⟩) ?_)
  ·rintro x c st'' _ _ ⟨rfl,rfl⟩
   refine wpS_bind (wpS_get ?_)
   rw [if_pos (by rw [hD.2.2.1]; exact Nat.le_refl 1)]
   exact wpS_pure ⟨rfl,rfl⟩
  ·rintro c st'' ⟨rfl,rfl⟩
   exact wpS_pure (h _ hD.1 hD.2.1 hD.2.2.2)
end
def bG (h:Heap) (v:Value) (x y:Int):Prop:=∃ a o n t u,v = .ref a∧h.get? a=some o∧o.cls = .type "tuple" ∧ o.data = .seq #[.int x t,.int y u] n
theorem bG.uniq {h:Heap} {v:Value} {x y x' y':Int} (h1:bG h v x y) (h2:bG h v x' y'):x=x'∧y=y':=by
 obtain ⟨a,o,n,t,u,rfl,e1,_,d1⟩:=h1
 obtain ⟨a',o',n',t',u',e,e2,_,d2⟩:=h2
 cases e
 rw [e1] at e2; cases e2
 rw [d1] at d2
 injection d2 with d3 _
 injection d3 with d4
 simp at d4
 exact ⟨d4.1.1,d4.2.1⟩
open Classical in
def kfT (h:Heap) (p:Keyed):Int:=if hx:∃ q:Int×Int,bG h p.1 q.1 q.2 then 64 * hx.choose.1 + hx.choose.2 else 0
open Classical in
def rkT (h:Heap) (p:Keyed):Nat:=if hx:∃ q:Int×Int,bG h p.1 q.1 q.2 then hx.choose.2.toNat else 0
theorem lC {h:Heap} {p:Keyed} {x y:Int} (t:bG h p.1 x y):kfT h p=64 * x + y:=by
 unfold kfT
 have hx:∃ q:Int×Int,bG h p.1 q.1 q.2:=⟨(x,y),t⟩
 rw [dif_pos hx]
 obtain ⟨e1,e2⟩:=hx.choose_spec.uniq t
 rw [e1,e2]
theorem lU {h:Heap} {p:Keyed} {x y:Int} (t:bG h p.1 x y):rkT h p=y.toNat:=by
 unfold rkT
 have hx:∃ q:Int×Int,bG h p.1 q.1 q.2:=⟨(x,y),t⟩
 rw [dif_pos hx]
 obtain ⟨e1,e2⟩:=hx.choose_spec.uniq t
 rw [e2]
section
variable {prog:Program} {w:World} {A:Around} {E:Value→Shared→Prop} {s:Shared} {a₀:Array Keyed}
theorem wf {v v':Value} {x y x' y':Int} {Q:Bool→Shared→Prop} (t:bG s.heap v x y) (t':bG s.heap v' x' y') (y0 : 0≤y) (y1:y<64) (z0 : 0≤y') (z1:y'<64)
 (h:Q (decide (64 * x + y<64 * x' + y')) s):wpAny (model prog w) A (keyLt' (tuples' true) v v') Q E s:=by
 obtain ⟨a,o,n,t1,u1,rfl,e1,_,d1⟩:=t
 obtain ⟨a',o',n',t2,u2,rfl,e2,_,d2⟩:=t'
 refine kat_lt e1 d1 e2 d2 ?_
 show KatLex prog w A true (decide ((2:Nat)<2)) Q [(.int x t1,.int x' t2),(.int y u1,.int y' u2)] 0 s
 refine kat_cons (wpAny_eqBool_int ?_)
 refine kat_go (fun he=>kat_yes ?_) (fun he=>kat_no ?_)
 ·have hx:x=x':=by simpa using he
  subst hx
  refine kat_cons (wpAny_eqBool_int ?_)
  refine kat_go (fun he=>kat_yes (kat_nil ?_)) (fun he=>kat_no ?_)
  ·have hy:y=y':=by simpa using he
   subst hy
   have e:decide (64 * x + y<64 * x + y)=decide ((2:Nat)<2):=by simp
   rw [e] at h; exact h
  ·have e:decide (64 * x + y<64 * x + y')=decide (y<y'):=decide_eq_decide.mpr (by omega)
   rw [e] at h
   exact kat_one _ _ (lt_int h)
 ·have hx : ¬ x=x':=by simpa using he
  have e:decide (64 * x + y<64 * x' + y')=decide (x<x'):=decide_eq_decide.mpr (by omega)
  rw [e] at h
  exact oneLt_int h
def qB (h:Heap) (xs:Array Keyed):Prop:=∀ p,p∈xs.toList→∃ x y,bG h p.1 x y∧0≤y∧y<64
theorem rJ (h0:qB s.heap a₀):LtF prog w A E s (tuples' true) (kfT s.heap) a₀:=fun st i j Q hB hi hj h=>by
 have at':∀ {i:Nat},i<a₀.size→∃ p x y,(arrOf st)[i]? = some p∧bG s.heap p.1 x y∧0≤y∧y<64∧KF (kfT s.heap) (arrOf st) i=64 * x + y:=fun {i} hi=>by
  have hi':i<(arrOf st).size:=by rw [hB.size]; exact hi
  have e:(arrOf st)[i]? = some (arrOf st)[i]:=getElem?_pos _ i hi'
  obtain ⟨x,y,t,y0,y1⟩:=h0 _ ((Array.perm_iff_toList_perm.mp hB.perm).mem_iff.mp (show (arrOf st)[i]∈_ by simp))
  exact ⟨_,x,y,e,t,y0,y1,by unfold KF; rw [e]; exact lC t⟩
 obtain ⟨p,x,y,e1,t1,y0,y1,k1⟩:=at' hi
 obtain ⟨p',x',y',e2,t2,z0,z1,k2⟩:=at' hj
 rw [k1,k2] at h
 rw [ltAt'_eq]
 refine wpS_bind (wpS_get ?_)
 show wpS _ _ _ _ (do let x ← elem' (arrOf st) i; let y ← elem' (arrOf st) j; lt' x y) Q st
 rw [elem'_eq,elem'_eq,e1,e2]
 refine wpS_bind (wpS_pure (wpS_bind (wpS_pure ?_)))
 rw [lt'_eq]
 refine wpS_bind (wpS_get ?_)
 rw [hB.kind]
 refine wpS_bind (wpS_lift (wpAny_attempt (wf t1 t2 y0 y1 z0 z1 ⟨rfl,?_⟩)))
 exact wpS_pure h
theorem gF:∀ {h:Heap} {vs:List Value},(∀ v∈vs,∃ x y,bG h v x y)→∃ fs,KatTups h vs fs∧fs.length=vs.length∧∀ f∈fs,∃ n t,f=Value.int n t
 | h,[],_=>⟨[],.nil,rfl,fun f hf=>by cases hf⟩
 | h,v :: vs,hv=>by
  obtain ⟨fs,k,hl,hf⟩:=gF (h:=h) (vs:=vs) fun u hu=>hv u (.tail _ hu)
  obtain ⟨x,y,a,o,n,t,u,rfl,e,c,d⟩:=hv v (.head _)
  refine ⟨.int x t :: fs,.cons e c d rfl k,by simp [hl],fun f hf'=>?_⟩
  rcases List.mem_cons.mp hf' with rfl | hf'
  ·exact ⟨x,t,rfl⟩
  ·exact hf f hf'
def OrdT (h:Heap) (xs:Array Keyed):Prop:=∀ (i j:Nat) (p q:Keyed) (x y x' y':Int),i<j→xs[i]? = some p→xs[j]? = some q→bG h p.1 x y→bG h q.1 x' y'→x<x'∨(x=x'∧y<y')
theorem bG.kept {h h':Heap} {v:Value} {x y:Int} (t:bG h v x y) (k:∀ b o,o.cls = .type "tuple" → h.get? b=some o→h'.get? b=some o):bG h' v x y:=by
 obtain ⟨a,o,n,t1,u1,rfl,e,c,d⟩:=t
 exact ⟨a,o,n,t1,u1,rfl,k a o c e,c,d⟩
theorem fi {vs:List Value} {i:Nat} {p:Keyed} (h:(pairsOf vs)[i]? = some p):vs[i]? = some p.1∧p.1=p.2:=by
 have h2:(pairsOf vs).toList[i]? = some p:=by rw [Array.getElem?_toList]; exact h
 rw [pairsOf_toList] at h2
 obtain ⟨x,y⟩:=p
 rw [List.getElem?_zip_eq_some] at h2
 obtain ⟨h3,h4⟩:=h2
 rw [h3] at h4
 exact ⟨h3,Option.some.inj h4⟩
theorem nR {a:Addr} {vs:List Value} {n:Nat} {P:PySem.Fin→Shared→Prop} (ho:s.heap.get? a=some (seqObj "list" vs.toArray n)) (h64:vs.length<64)
 (ht:∀ (i:Nat) v,vs[i]? = some v→∃ x,bG s.heap v x (i:Int))
 (h:∀ xs:Array Keyed,xs.Perm (pairsOf vs)→OrdT s.heap xs→P (.done (.ret .none)) { s with heap:=sortedHeap s.heap a vs (xs.map (·.2)) }) :
 wpAny (model prog w) A (Builtin.«list.sort» ⟨[.ref a],[]⟩) P E s:=by
 rw [list_sort_plain]
 have ha:a<s.heap.objs.size:=Heap.lt_size ho
 refine wpAny_bind (listItems_at ho rfl ?_)
 refine wpAny_bind (listUpdate_at ho rfl ?_)
 obtain ⟨e1,ho1⟩:∃ e1,(s.heap.update a (Obj.mapSeq fun _=>#[])).get? a=some (seqObj "list" #[] e1):=⟨_,get?_update_seq ho (fun _=>#[])⟩
 refine wpAny_bind (seqEpoch_at ho1 rfl ?_)
 refine wpAny_bind (wpAny_newTuple ?_)
 refine wpAny_bind (wpAny_newList ?_)
 refine wpAny_holding ?_
 have ho6:(((s.heap.update a (Obj.mapSeq fun _=>#[])).push (seqObj "tuple" vs.toArray 0)).push (seqObj "list" #[] 0)).get? a=some (seqObj "list" #[] e1):=by
  rw [Heap.get?_push_ne _ _ _ (by rw [size_push',Heap.size_update]; exact Nat.ne_of_lt (Nat.lt_succ_of_lt ha)),Heap.get?_push_ne _ _ _ (by rw [Heap.size_update]; exact Nat.ne_of_lt ha)]
  exact ho1
 have keep:∀ b o,o.cls = .type "tuple" → s.heap.get? b=some o→(((s.heap.update a (Obj.mapSeq fun _=>#[])).push (seqObj "tuple" vs.toArray 0)).push (seqObj "list" #[] 0)).get? b=some o:=fun b o c q=>by
  have hba:b≠a:=fun z=>by rw [z,ho] at q; cases q; simp [seqObj] at c
  refine Heap.get?_push_of_some _ (Heap.get?_push_of_some _ ?_)
  rw [Heap.get?_update_other _ _ (Ne.symm hba)]; exact q
 have back:∀ b o,o.cls = .type "tuple" → (∃ o',s.heap.get? b=some o'∧o'.cls = .type "tuple")→(((s.heap.update a (Obj.mapSeq fun _=>#[])).push (seqObj "tuple" vs.toArray 0)).push (seqObj "list" #[] 0)).get? b=some o→s.heap.get? b=some o:=fun b o c ⟨o',e',c'⟩ q=>by
  have:=keep b o' c' e'
  rw [q] at this; cases this; exact e'
 show wpAny (model prog w) A _ P E { s with heap:=((s.heap.update a (Obj.mapSeq fun _=>#[])).push (seqObj "tuple" vs.toArray 0)).push (seqObj "list" #[] 0) }
 dsimp only
 have hsz:vs.toArray.size=vs.length:=by simp
 have tg:∀ {v:Value} {x y:Int},bG s.heap v x y→bG (((s.heap.update a (Obj.mapSeq fun _=>#[])).push (seqObj "tuple" vs.toArray 0)).push (seqObj "list" #[] 0)) v x y:=fun t=>t.kept keep
 have hord:∀ xs:Array Keyed,xs.Perm (pairsOf vs)→Lex (KF (kfT (((s.heap.update a (Obj.mapSeq fun _=>#[])).push (seqObj "tuple" vs.toArray 0)).push (seqObj "list" #[] 0))) xs) (RK (rkT (((s.heap.update a (Obj.mapSeq fun _=>#[])).push (seqObj "tuple" vs.toArray 0)).push (seqObj "list" #[] 0))) xs) (pairsOf vs).size→OrdT s.heap xs:=fun xs hp hs i j p q x y x' y' hij e1 e2 t1 t2=>by
  have bnd:∀ {r:Keyed} {i:Nat} {x y:Int},xs[i]? = some r→bG s.heap r.1 x y→0≤y∧y<64:=fun {r i x y} e t=>by
   have hm:r∈(pairsOf vs).toList:=(Array.perm_iff_toList_perm.mp hp).mem_iff.mp (Array.mem_toList_iff.mpr (Array.mem_of_getElem? e))
   obtain ⟨k,hk⟩:=List.getElem?_of_mem hm
   rw [Array.getElem?_toList] at hk
   obtain ⟨g1,_⟩:=fi hk
   obtain ⟨x2,t2⟩:=ht k _ g1
   have hl:=(List.getElem?_eq_some_iff.mp g1).1
   have:=(t.uniq t2).2
   omega
  have hj:j<xs.size:=by
   rcases Nat.lt_or_ge j xs.size with g | g
   ·exact g
   ·rw [Array.getElem?_eq_none g] at e2; cases e2
  have b1:=bnd e1 t1
  have b2:=bnd e2 t2
  have:=hs i j hij (by rw [← hp.size_eq]; exact hj)
  unfold KF RK at this
  rw [e1,e2] at this
  change kfT _ p<kfT _ q∨(kfT _ p=kfT _ q∧rkT _ p<rkT _ q) at this
  rw [lC (tg t1),lC (tg t2),lU (tg t1),lU (tg t2)] at this
  omega
 by_cases h2:vs.toArray.size<2
 ·rw [if_pos h2,if_pos h2]
  refine wpAny_bind (wpAny_pure ?_)
  rw [StateT.run_pure]
  refine wpAny_bind (wpAny_pure ?_)
  dsimp only
  refine wpAny_bind (seqEpoch_at ho6 rfl ?_)
  refine wpAny_bind (listUpdate_at ho6 rfl ?_ (hsz2:=by rw [Array.size_map]; show (pairsOf vs).size≤_; rw [pairsOf_size,sizeLine_eq]; omega))
  simp only [bne_self_eq_false,Bool.false_eq_true,if_false]
  refine wpAny_pure (h (pairsOf vs) (Array.Perm.refl _) fun i j p q x y x' y' hij e1 e2 _ _=>?_)
  have hj:j<(pairsOf vs).size:=by
   rcases Nat.lt_or_ge j (pairsOf vs).size with g | g
   ·exact g
   ·rw [Array.getElem?_eq_none g] at e2; cases e2
  rw [pairsOf_size] at hj
  omega
 ·rw [if_neg h2,if_neg h2]
  obtain ⟨fs,kt,hfl,hff⟩:=gF (h:=((s.heap.update a (Obj.mapSeq fun _=>#[])).push (seqObj "tuple" vs.toArray 0)).push (seqObj "list" #[] 0)) (vs:=vs) fun v hv=>by
   obtain ⟨i,hi⟩:=List.getElem?_of_mem hv
   obtain ⟨x,t⟩:=ht i v hi
   exact ⟨x,_,tg t⟩
  refine wpAny_bind (kat_kind (T:=.type "int") kt (by omega) (fun v hv=>?_) rfl ?_)
  ·obtain ⟨n',t',rfl⟩:=hff v hv
   exact Looks.now
  show wpAny (model prog w) A _ P E _
  have tups:qB (((s.heap.update a (Obj.mapSeq fun _=>#[])).push (seqObj "tuple" vs.toArray 0)).push (seqObj "list" #[] 0)) (pairsOf vs):=fun p hp=>by
   obtain ⟨k,hk⟩:=List.getElem?_of_mem hp
   rw [Array.getElem?_toList] at hk
   obtain ⟨g1,_⟩:=fi hk
   obtain ⟨x,t⟩:=ht k _ g1
   have hl:=(List.getElem?_eq_some_iff.mp g1).1
   exact ⟨x,k,tg t,by omega,by omega⟩
  have ranks:∀ i,i<(pairsOf vs).size→RK (rkT (((s.heap.update a (Obj.mapSeq fun _=>#[])).push (seqObj "tuple" vs.toArray 0)).push (seqObj "list" #[] 0))) (pairsOf vs) i=i:=fun i hi=>by
   have e:(pairsOf vs)[i]? = some (pairsOf vs)[i]:=getElem?_pos _ i hi
   obtain ⟨g1,_⟩:=fi e
   obtain ⟨x,t⟩:=ht i _ g1
   unfold RK
   rw [e]
   show rkT _ _=i
   rw [lU (tg t)]; omega
  refine wpAny_bind (wpAny_mono (uX (s:={ s with heap:=((s.heap.update a (Obj.mapSeq fun _=>#[])).push (seqObj "tuple" vs.toArray 0)).push (seqObj "list" #[] 0) }) (kd:=tuples' true) (kf:=kfT (((s.heap.update a (Obj.mapSeq fun _=>#[])).push (seqObj "tuple" vs.toArray 0)).push (seqObj "list" #[] 0))) (rk:=rkT (((s.heap.update a (Obj.mapSeq fun _=>#[])).push (seqObj "tuple" vs.toArray 0)).push (seqObj "list" #[] 0))) (a₀:=pairsOf vs) (st:=SortSt.mk' (tuples' true) (vs.toArray.zip vs.toArray) #[] 7 none)
   (Q:=fun _ st'=>(arrOf st').Perm (pairsOf vs)∧failedOf st'=none∧Lex (kF (kfT (((s.heap.update a (Obj.mapSeq fun _=>#[])).push (seqObj "tuple" vs.toArray 0)).push (seqObj "list" #[] 0))) st') (rS (rkT (((s.heap.update a (Obj.mapSeq fun _=>#[])).push (seqObj "tuple" vs.toArray 0)).push (seqObj "list" #[] 0))) st') (pairsOf vs).size)
   (rJ (s:={ s with heap:=((s.heap.update a (Obj.mapSeq fun _=>#[])).push (seqObj "tuple" vs.toArray 0)).push (seqObj "list" #[] 0) }) tups) ⟨Array.Perm.refl _,rfl,rfl,rfl⟩ ranks (by rw [pairsOf_size]; omega) (by rw [pairsOf_size]; exact h64) fun st' a1 a2 a3=>⟨a1,a2,a3⟩) ?_ fun _ _ e=>e)
  rintro ⟨⟨⟩,st'⟩ s' ⟨rfl,hp,hf,hs⟩
  dsimp only
  refine wpAny_bind (seqEpoch_at ho6 rfl ?_)
  refine wpAny_bind (listUpdate_at ho6 rfl ?_ (hsz2:=by refine Nat.le_trans (Nat.le_of_eq ((Array.size_map ..).trans (hp.size_eq.trans (pairsOf_size _)))) ?_; rw [sizeLine_eq]; omega))
  rw [hf]
  simp only [bne_self_eq_false,Bool.false_eq_true,if_false]
  exact wpAny_pure (h _ hp (hord _ hp hs))
theorem jT {l:Addr} {vs:List Value} {Q:Value→Shared→Prop} (hl:s.heap.IsList l vs.toArray) (h64:vs.length<64) (ht:∀ (i:Nat) v,vs[i]? = some v→∃ x,bG s.heap v x (i:Int))
 (h:∀ xs:Array Keyed,xs.Perm (pairsOf vs)→OrdT s.heap xs→Q (.ref (s.heap.objs.size + 1)) { s with heap:=sortedAll s.heap vs (xs.map (·.2)) }) :
 wpAny (model prog w) A (call (.builtin "sorted") [.ref l]) Q E s:=by
 refine Calls.call_function_entry kind_sorted plain_sorted entry_sorted (args_sorted1 _) ?_
 unfold Builtin.«sorted»
 refine wpAny_bind (m:=checkCount "sorted" 1 1 _) (wpAny_pure ?_)
 refine wpAny_bind (collect_list hl ?_)
 refine wpAny_bind (wpAny_newList ?_)
 have hsz:((s.heap.push (seqObj "list" #[] 0)).update s.heap.objs.size (Obj.mapSeq (·++vs.toArray))).objs.size=s.heap.objs.size + 1:=by
  rw [Heap.size_update,size_push']
 have hoL:(((s.heap.push (seqObj "list" #[] 0)).update s.heap.objs.size (Obj.mapSeq (·++vs.toArray))).push (seqObj "list" vs.toArray 0)).get? (s.heap.objs.size + 1)=some (seqObj "list" vs.toArray 0):=by
  rw [← hsz]; exact Heap.get?_push_size _ rfl
 have keep:∀ b o,s.heap.get? b=some o→(((s.heap.push (seqObj "list" #[] 0)).update s.heap.objs.size (Obj.mapSeq (·++vs.toArray))).push (seqObj "list" vs.toArray 0)).get? b=some o:=fun b o q=>by
  have hlt:b<s.heap.objs.size:=Heap.lt_size q
  rw [Heap.get?_push_ne _ _ _ (by rw [hsz]; exact Nat.ne_of_lt (Nat.lt_succ_of_lt hlt)),Heap.get?_update_ne _ _ _ _ (Nat.ne_of_lt hlt),Heap.get?_push_ne _ _ _ (Nat.ne_of_lt hlt)]
  exact q
 show wpAny _ _ _ _ _ { s with heap:=((s.heap.push (seqObj "list" #[] 0)).update s.heap.objs.size (Obj.mapSeq (·++vs.toArray))).push (seqObj "list" vs.toArray 0) }
 rw [hsz]
 refine wpAny_bind (wpAny_holding (wpAny_call_entry slot_list_sort ⟨_,hoL,rfl⟩ entry_list_sort (nR (s:={ s with heap:=((s.heap.push (seqObj "list" #[] 0)).update s.heap.objs.size (Obj.mapSeq (·++vs.toArray))).push (seqObj "list" vs.toArray 0) }) hoL h64 (fun i v hv=>?_) fun xs a1 a2=>⟨_,rfl,?_⟩) (args_list_sort _)))
 ·obtain ⟨x,t⟩:=ht i v hv
  exact ⟨x,t.kept fun b o _ q=>keep b o q⟩
 ·exact wpAny_pure ⟨_,rfl,h xs a1 fun i j p q x y x' y' hij e1 e2 t1 t2=>a2 i j p q x y x' y' hij e1 e2 (t1.kept fun b o _ q=>keep b o q) (t2.kept fun b o _ q=>keep b o q)⟩
end
theorem gG {α β:Type} [DecidableEq α] (f : α→β):∀ (l:List β) (rows:List α),l.Perm (rows.map f)→∃ qs:List α,qs.Perm rows∧qs.map f=l
 | [],rows,h=>by
  have:rows=[]:=by
   have:=h.length_eq
   simp at this
   exact List.length_eq_zero_iff.mp this.symm
  subst this
  exact ⟨[],List.Perm.refl _,rfl⟩
 | b :: l,rows,h=>by
  obtain ⟨r,hr,rfl⟩:=List.mem_map.mp (h.mem_iff.mp (List.mem_cons_self ..))
  have h1:rows.Perm (r :: rows.erase r):=List.perm_cons_erase hr
  have h2:l.Perm ((rows.erase r).map f):=by
   have:=h.trans (h1.map f)
   rw [List.map_cons] at this
   exact List.Perm.cons_inv this
  obtain ⟨qs,q1,q2⟩:=gG f l (rows.erase r) h2
  exact ⟨r :: qs,(q1.cons r).trans h1.symm,by rw [List.map_cons,q2]⟩
abbrev Row:=Addr×Int×Int
def oo (K:PySem.W.Frag):List V→Hp→VK→Prop:=fun xs H Q=>∃ (p:Addr) (rows:List Row),xs=[.ref p]∧SqL K H p (rows.map fun r=>V.ref r.1)∧(∀ (i:Nat) r,rows[i]? = some r→H r.1=some (.tup [.int r.2.1,.int r.2.2])∧r.2.2=(i:Int))∧rows.length<64 ∧
 ∀ (l:Addr) (qs:List Row),H l=none→qs.Perm rows→qs.Pairwise (fun r r'=>r.2.1<r'.2.1∨(r.2.1=r'.2.1∧r.2.2<r'.2.2))→Q (.ref l) (upd H l (.lst (qs.map fun r=>V.ref r.1)))
theorem vA {X:Cx} {pins:List (Addr×Obj)} {σ:St} {H:Hp} {s:Shared} {a:Addr} {x y:Int} (I:Inv X pins σ H s) (h:H a=some (.tup [.int x,.int y])):bG s.heap (.ref a) x y:=by
 obtain ⟨_,its,rv,o,h1,h2,n,h3⟩:=(show bS X.prog X.w H s.heap a (.tup [.int x,.int y]) from I.hok a _ h)
 cases rv with
 | cons r1 r2 =>
  cases r2 with
  | cons r3 r4 =>
   cases r4
   obtain ⟨t,rfl⟩:=r1
   obtain ⟨u,rfl⟩:=r3
   exact ⟨a,o,n,t,u,rfl,h1,h2,h3⟩
theorem jc {X:Cx}:cD X (.builtin "sorted") (oo X.K):=by
 intro pins s σ H xs us Q I r h
 obtain ⟨p,rows,rfl,hS,ht,h64,q⟩:=h
 obtain ⟨u,rfl,ru⟩:=eQ r
 cases ru
 obtain ⟨its,rv,pl,_⟩:=I.list hS
 have hits:its=rows.map fun r=>Value.ref r.1:=by
  have e:(rows.map fun r=>V.ref r.1)=(rows.map (·.1)).map V.ref:=by rw [List.map_map]; rfl
  rw [e] at rv
  rw [iN rv,List.map_map]; rfl
 subst hits
 have tt:∀ (i:Nat) r,rows[i]? = some r→bG s.heap (.ref r.1) r.2.1 r.2.2:=fun i r hr=>vA I (ht i r hr).1
 refine jT (l:=p) (vs:=rows.map fun r=>Value.ref r.1) (by first | exact pl.isList | exact pl.1 | exact pl) (by rw [List.length_map]; exact h64) (fun i v hv=>?_) fun xs a1 a2=>?_
 ·rw [List.getElem?_map,Option.map_eq_some_iff] at hv
  obtain ⟨r,hr,rfl⟩:=hv
  have:=tt i r hr
  rw [(ht i r hr).2] at this
  exact ⟨_,this⟩
 ·obtain ⟨e,he⟩:=sortedAll_at s.heap (rows.map fun r=>Value.ref r.1) (xs.map (·.2))
  have hsame:∀ (i:Nat) (w:Keyed),xs[i]? = some w→w.1=w.2:=fun i w hw=>by
   have hm:w∈(pairsOf (rows.map fun r=>Value.ref r.1)).toList:=(Array.perm_iff_toList_perm.mp a1).mem_iff.mp (Array.mem_toList_iff.mpr (Array.mem_of_getElem? hw))
   obtain ⟨k,hk⟩:=List.getElem?_of_mem hm
   rw [Array.getElem?_toList] at hk
   exact (fi hk).2
  have hpm:(xs.toList.map (·.2)).Perm (rows.map fun r=>Value.ref r.1):=by
   have:=(Array.perm_iff_toList_perm.mp a1).map (·.2)
   rw [pairsOf_toList,List.map_snd_zip (Nat.le_refl _)] at this
   exact this
  obtain ⟨qs,q1,q2⟩:=gG (fun r:Row=>Value.ref r.1) _ rows hpm
  have hql:qs.length=xs.size:=by have:=congrArg List.length q2; simpa using this
  have hat:∀ (i:Nat) r,qs[i]? = some r→∃ w,xs[i]? = some w∧w.1 = .ref r.1:=fun i r hr=>by
   have e1:(qs.map fun r:Row=>Value.ref r.1)[i]? = some (.ref r.1):=by rw [List.getElem?_map,hr]; rfl
   rw [q2,List.getElem?_map,Option.map_eq_some_iff] at e1
   obtain ⟨w,hw,hw2⟩:=e1
   rw [Array.getElem?_toList] at hw
   exact ⟨w,hw,by rw [hsame i w hw]; exact hw2⟩
  have ord:qs.Pairwise (fun r r'=>r.2.1<r'.2.1∨(r.2.1=r'.2.1∧r.2.2<r'.2.2)):=by
   rw [List.pairwise_iff_getElem]
   intro i j hi hj hij
   obtain ⟨w1,e1,g1⟩:=hat i qs[i] (List.getElem?_eq_getElem hi)
   obtain ⟨w2,e2,g2⟩:=hat j qs[j] (List.getElem?_eq_getElem hj)
   have mem:∀ r∈qs,bG s.heap (.ref r.1) r.2.1 r.2.2:=fun r hr=>by
    obtain ⟨k,hk⟩:=List.getElem?_of_mem (q1.mem_iff.mp hr)
    exact tt k r hk
   exact a2 i j w1 w2 _ _ _ _ hij e1 e2 (by rw [g1]; exact mem _ (List.getElem_mem hi)) (by rw [g2]; exact mem _ (List.getElem_mem hj))
  refine ⟨.ref (s.heap.objs.size + 1),_,I.laid (a:=s.heap.objs.size + 1) (o:=.lst (qs.map fun r=>V.ref r.1)) (t':=s.toks) (fun _ _ q=>sortedAll_old q) (Nat.le_succ _) ?_,rfl,q _ qs (I.hok.fresh (Nat.le_succ _)) q1 ord⟩
  refine ⟨Nat.le_of_lt (db (by rw [List.length_map,q1.length_eq]; omega)),xs.toList.map (·.2),e,?_,?_⟩
  ·rw [← q2]
   clear q2 hql hat ord q1
   induction qs with
   | nil=>exact .nil
   | cons r qs ih=>exact .cons rfl ih
  ·have e3:(xs.toList.map (·.2)).toArray=xs.map (·.2):=by rw [← Array.toList_map,Array.toArray_toList]
   rw [e3]
   simpa [seqObj] using he
def dPr (q:Int×Int):D:=.tup [.int q.1,.int q.2]
def PrLt (q q':Int×Int):Prop:=q.1<q'.1∨(q.1=q'.1∧q.2<q'.2)
def pN:List D→(List D→Prop)→Prop:=fun ds q=>match ds with
 | [.lst xs]=>∃ ps:List (Int×Int),xs=ps.map dPr∧ps.length<64∧(∀ (i:Nat) r,ps[i]? = some r→r.2=(i:Int))∧∀ qs:List (Int×Int),qs.Perm ps→qs.Pairwise PrLt→q (qs.map dPr)
 | _=>False
theorem ke {G:Hp}:∀ {ps:List (Int×Int)} {xs:List V},Reps G (ps.map dPr) xs→∃ rows:List Row,xs=rows.map (fun r=>V.ref r.1)∧rows.map (·.2)=ps∧∀ r∈rows,G r.1=some (.tup [.int r.2.1,.int r.2.2])
 | [],xs,h=>by rw [List.map_nil,Reps] at h; subst h; exact ⟨[],rfl,rfl,fun r hr=>by cases hr⟩
 | p :: ps,xs,h=>by
  rw [List.map_cons,Reps] at h
  obtain ⟨v,vs,rfl,h1,h2⟩:=h
  obtain ⟨rows,rfl,e2,e3⟩:=ke h2
  unfold dPr at h1
  rw [Rep] at h1
  obtain ⟨a,ys,rfl,g1,g2⟩:=h1
  rw [Reps] at g2
  obtain ⟨y0,ys0,rfl,r0,g2⟩:=g2
  rw [Reps] at g2
  obtain ⟨y1,ys1,rfl,r1,g2⟩:=g2
  rw [Reps] at g2
  subst g2
  rw [Rep] at r0 r1
  subst r0; subst r1
  refine ⟨(a,p) :: rows,rfl,by rw [List.map_cons,e2],fun r hr=>?_⟩
  rcases List.mem_cons.mp hr with rfl | hr
  ·exact g1
  ·exact e3 r hr
theorem kY {G:Hp}:∀ {rows:List Row},(∀ r∈rows,G r.1=some (.tup [.int r.2.1,.int r.2.2]))→Reps G ((rows.map (·.2)).map dPr) (rows.map fun r=>V.ref r.1)
 | [],_=>by rw [List.map_nil,List.map_nil,Reps]; rfl
 | r :: rows,h=>by
  rw [List.map_cons,List.map_cons,Reps]
  refine ⟨_,_,rfl,?_,kY fun z hz=>h z (.tail _ hz)⟩
  unfold dPr
  rw [Rep]
  refine ⟨r.1,_,rfl,h r (.head _),?_⟩
  rw [Reps]
  refine ⟨_,_,rfl,bf _,?_⟩
  rw [Reps]
  refine ⟨_,_,rfl,bf _,?_⟩
  rw [Reps]
theorem u8 {K:PySem.W.Frag}:fz (oo K) pN:=fun G H xs ds q Q s p hf k=>by
 unfold pN at hf
 split at hf
 ·obtain ⟨v,rfl,p1⟩:=bj p
  obtain ⟨a,xs,rfl,h1,h2⟩:=a_ p1
  obtain ⟨ps,rfl,hl,hidx,hq⟩:=hf
  obtain ⟨rows,rfl,e2,e3⟩:=ke h2
  have hlen:rows.length=ps.length:=by rw [← e2,List.length_map]
  refine ⟨a,rows,rfl,SqL.of (s _ _ h1),fun i r hr=>⟨s _ _ (e3 r (List.mem_of_getElem? hr)),?_⟩,by omega,fun l qs hl' hp ho=>?_⟩
  ·exact hidx i r.2 (by rw [← e2,List.getElem?_map,hr]; rfl)
  ·refine k _ _ l (hq (qs.map (·.2)) ?_ ?_) (kY fun r hr=>e3 r (hp.mem_iff.mp hr)) hl'
   ·rw [← e2]; exact hp.map _
   ·rw [List.pairwise_map]; exact ho
 ·exact hf.elim
end L2
namespace K31
open PySem L2
def top (i:Nat):Stmt:=PySem.Challenge.pw_treeasks_k31_keep_by_depth_told.main.body.getD i (.Pass ⟨0,0,0,0⟩)
abbrev nZ:Stmt:=top 8
abbrev o9:Stmt:=top 9
abbrev s_q0:Stmt:=top 10
abbrev s_q3:Stmt:=top 14
abbrev s_q7:Stmt:=top 15
abbrev pq:Stmt:=top 16
abbrev pk:Stmt:=top 17
abbrev n_:Stmt:=top 18
abbrev pB:Stmt:=top 23
abbrev s_q4:Stmt:=top 24
abbrev o5:Stmt:=top 26
abbrev ot:Stmt:=top 27
abbrev oU:Stmt:=top 28
abbrev rA:Stmt:=top 29
abbrev o7:Stmt:=top 30
abbrev qy:Stmt:=top 31
abbrev oZ:Stmt:=top 32
abbrev s_q5:Stmt:=top 34
abbrev rz:Stmt:=top 35
abbrev oT:Stmt:=top 36
abbrev oy:Stmt:=top 37
abbrev pQ:Stmt:=top 38
abbrev s_q8:Stmt:=top 39
abbrev p5:Stmt:=top 41
abbrev oP:Stmt:=top 42
abbrev pG:Stmt:=top 43
abbrev nV:Stmt:=top 44
abbrev qZ:Stmt:=top 46
abbrev s_q9:Stmt:=top 49
abbrev s_q6:Stmt:=top 50
abbrev s_q2:Stmt:=top 51
abbrev qK:Stmt:=top 52
abbrev oF:Stmt:=top 53
abbrev s_q1:Stmt:=top 54
abbrev qx:Stmt:=top 56
abbrev p8:Stmt:=top 58
abbrev rn:Stmt:=top 59
abbrev qH:Stmt:=top 60
abbrev q8:Stmt:=top 61
abbrev qv:Stmt:=top 62
abbrev oq:Stmt:=top 63
abbrev qu:Stmt:=top 64
abbrev oJ:Stmt:=top 65
abbrev pS:Stmt:=top 66
abbrev pD:Stmt:=top 67
abbrev pX:Stmt:=top 68
abbrev qG:Stmt:=top 70
abbrev qF:Stmt:=top 71
abbrev oX:Stmt:=top 72
abbrev oO:Stmt:=top 73
abbrev rB:Stmt:=top 74
abbrev n4:Stmt:=top 75
abbrev n6:Stmt:=top 76
set_option genInjectivity false in
structure Adr where
 f_q26:Addr
 d_q26:FuncData
 f_q11:Addr
 d_q11:FuncData
 f_q0:Addr
 d_q0:FuncData
 f_q3:Addr
 d_q3:FuncData
 f_q7:Addr
 d_q7:FuncData
 f_q38:Addr
 d_q38:FuncData
 f_q25:Addr
 d_q25:FuncData
 f_q23:Addr
 d_q23:FuncData
 f_q39:Addr
 d_q39:FuncData
 f_q4:Addr
 d_q4:FuncData
 f_q24:Addr
 d_q24:FuncData
 f_q58:Addr
 d_q58:FuncData
 f_q54:Addr
 d_q54:FuncData
 f_q55:Addr
 d_q55:FuncData
 f_q48:Addr
 d_q48:FuncData
 f_q49:Addr
 d_q49:FuncData
 f_q56:Addr
 d_q56:FuncData
 f_q5:Addr
 d_q5:FuncData
 f_q51:Addr
 d_q51:FuncData
 f_q10:Addr
 d_q10:FuncData
 f_q50:Addr
 d_q50:FuncData
 f_q13:Addr
 d_q13:FuncData
 f_q8:Addr
 d_q8:FuncData
 f_q47:Addr
 d_q47:FuncData
 f_q19:Addr
 d_q19:FuncData
 f_q34:Addr
 d_q34:FuncData
 f_q20:Addr
 d_q20:FuncData
 f_q27:Addr
 d_q27:FuncData
 f_q9:Addr
 d_q9:FuncData
 f_q6:Addr
 d_q6:FuncData
 f_q2:Addr
 d_q2:FuncData
 f_q14:Addr
 d_q14:FuncData
 f_q35:Addr
 d_q35:FuncData
 f_q1:Addr
 d_q1:FuncData
 f_q12:Addr
 d_q12:FuncData
 f_q15:Addr
 d_q15:FuncData
 f_q44:Addr
 d_q44:FuncData
 f_q45:Addr
 d_q45:FuncData
 f_q30:Addr
 d_q30:FuncData
 f_q40:Addr
 d_q40:FuncData
 f_q57:Addr
 d_q57:FuncData
 f_q18:Addr
 d_q18:FuncData
 f_q53:Addr
 d_q53:FuncData
 f_q17:Addr
 d_q17:FuncData
 f_q52:Addr
 d_q52:FuncData
 f_q43:Addr
 d_q43:FuncData
 f_q16:Addr
 d_q16:FuncData
 f_q46:Addr
 d_q46:FuncData
 f_q41:Addr
 d_q41:FuncData
 f_q42:Addr
 d_q42:FuncData
 f_q32:Addr
 d_q32:FuncData
 f_q31:Addr
 d_q31:FuncData
 f_law:Addr
 d_law:FuncData
 tc:Addr
 tP:Addr
abbrev tqS:Str:=("deepest_first" ++ ".<locals>.") ++ "<lambda>"
set_option genInjectivity false in
structure Txt (K:PySem.W.Frag) (mg:Str→Option Value) (A:Adr):Prop where
 t_q26:FT K mg "is_whole" nZ ["thing"] A.f_q26 A.d_q26
 t_q11:FT K mg "is_between" o9 ["thing","least","most"] A.f_q11 A.d_q11
 t_q0:FT K mg "greatest_common" s_q0 ["number","bottom"] A.f_q0 A.d_q0
 t_q3:FT K mg "has_two_lists" s_q3 ["thing"] A.f_q3 A.d_q3
 t_q7:FT K mg "look_at_tree" s_q7 ["thing"] A.f_q7 A.d_q7
 t_q38:FT K mg "depths" pq ["tree"] A.f_q38 A.d_q38
 t_q25:FT K mg "is_place" pk ["tree","thing"] A.f_q25 A.d_q25
 t_q23:FT K mg "are_ends" n_ ["tree","one","other"] A.f_q23 A.d_q23
 t_q39:FT K mg "is_ask" pB ["tree","thing"] A.f_q39 A.d_q39
 t_q4:FT K mg "look_at_asks" s_q4 ["tree","thing"] A.f_q4 A.d_q4
 t_q24:FT K mg "fraction" o5 ["top","bottom"] A.f_q24 A.d_q24
 t_q58:FT K mg "plus" ot ["one","other"] A.f_q58 A.d_q58
 t_q54:FT K mg "minus" oU ["one","other"] A.f_q54 A.d_q54
 t_q55:FT K mg "times" rA ["one","other"] A.f_q55 A.d_q55
 t_q48:FT K mg "parted" o7 ["one","other"] A.f_q48 A.d_q48
 t_q49:FT K mg "sum_of" qy ["some"] A.f_q49 A.d_q49
 t_q56:FT K mg "under" oZ ["one","other"] A.f_q56 A.d_q56
 t_q5:FT K mg "look_at_ends" s_q5 ["tree","one","other"] A.f_q5 A.d_q5
 t_q51:FT K mg "climb" rz ["tree","one","other"] A.f_q51 A.d_q51
 t_q10:FT K mg "way_between" oT ["tree","one","other"] A.f_q10 A.d_q10
 t_q50:FT K mg "way_of" oy ["tree","ask"] A.f_q50 A.d_q50
 t_q13:FT K mg "meeting_of" pQ ["tree","one","other"] A.f_q13 A.d_q13
 t_q8:FT K mg "tops_between" s_q8 ["tree","one","other"] A.f_q8 A.d_q8
 t_q47:FT K mg "lay_on" p5 ["ask","way","load"] A.f_q47 A.d_q47
 t_q19:FT K mg "load_with" oP ["tree","ask","load"] A.f_q19 A.d_q19
 t_q34:FT K mg "over_on" pG ["tree","ask","way","load"] A.f_q34 A.d_q34
 t_q20:FT K mg "over_with" nV ["tree","ask","load"] A.f_q20 A.d_q20
 t_q27:FT K mg "spare_of" qZ ["tree","ask","weight","prices"] A.f_q27 A.d_q27
 t_q9:FT K mg "common_room" s_q9 ["tree"] A.f_q9 A.d_q9
 t_q6:FT K mg "look_at_ones" s_q6 ["asks"] A.f_q6 A.d_q6
 t_q2:FT K mg "deepest_first" s_q2 ["tree","asks"] A.f_q2 A.d_q2
 t_q14:FT K mg "raise_tops" qK ["tree","ask","prices","step"] A.f_q14 A.d_q14
 t_q35:FT K mg "pile_up" oF ["tree","asks","terms"] A.f_q35 A.d_q35
 t_q1:FT K mg "keep_from_last" s_q1 ["tree","asks","pile"] A.f_q1 A.d_q1
 t_q12:FT K mg "keep_alike" qx ["tree","asks"] A.f_q12 A.d_q12
 t_q15:FT K mg "_law_cell_at" p8 ["_law_script","_law_k"] A.f_q15 A.d_q15
 t_q44:FT K mg "_law_pool" rn ["_law_script","_law_k"] A.f_q44 A.d_q44
 t_q45:FT K mg "_law_take" qH ["_law_pool_here","_law_many"] A.f_q45 A.d_q45
 t_q30:FT K mg "_law_alike" q8 ["_law_pool_here","_law_most"] A.f_q30 A.d_q30
 t_q40:FT K mg "_law_asks" qv ["_law_pool_here","_law_tree","_law_least","_law_most","_law_sizes"] A.f_q40 A.d_q40
 t_q57:FT K mg "_law_up" oq ["_law_tree","_law_place"] A.f_q57 A.d_q57
 t_q18:FT K mg "_law_meeting" qu ["_law_tree","_law_one","_law_other"] A.f_q18 A.d_q18
 t_q53:FT K mg "_law_way" oJ ["_law_tree","_law_one","_law_other"] A.f_q53 A.d_q53
 t_q17:FT K mg "_law_divisor" pS ["_law_one","_law_other"] A.f_q17 A.d_q17
 t_q52:FT K mg "_law_low" pD ["_law_top","_law_bottom"] A.f_q52 A.d_q52
 t_q43:FT K mg "_law_plus" pX ["_law_one","_law_other"] A.f_q43 A.d_q43
 t_q16:FT K mg "_law_deepest" qG ["_law_tree","_law_asks_here"] A.f_q16 A.d_q16
 t_q46:FT K mg "_law_tops" qF ["_law_tree","_law_ask"] A.f_q46 A.d_q46
 t_q41:FT K mg "_law_kept" oX ["_law_tree","_law_asks_here","_law_pile"] A.f_q41 A.d_q41
 t_q42:FT K mg "_law_laid" oO ["_law_tree","_law_asks_here","_law_some","_law_many","_law_part"] A.f_q42 A.d_q42
 t_q32:FT K mg "_law_shape" rB ["_law_told"] A.f_q32 A.d_q32
 t_q31:FT K mg "_law_right" n4 ["_law_tree","_law_asks_here"] A.f_q31 A.d_q31
 t_law:FT K mg "law" n6 ["_law_script"] A.f_law A.d_law
 z_abs:mg "abs" = none
 z_all:mg "all" = none
 z_bool:mg "bool" = none
 z_enumerate:mg "enumerate" = none
 z_int:mg "int" = none
 z_isinstance:mg "isinstance" = none
 z_len:mg "len" = none
 z_list:mg "list" = none
 z_max:mg "max" = none
 z_min:mg "min" = none
 z_range:mg "range" = none
 z_reversed:mg "reversed" = none
 z_sorted:mg "sorted" = none
 z_sum:mg "sum" = none
 z_tuple:mg "tuple" = none
 c_MOST_TIES:∃ t,mg "MOST_TIES" = some (.int 23 t)
 c_MOST_ROOM:∃ t,mg "MOST_ROOM" = some (.int 1000000 t)
 c_MOST_ASKS:∃ t,mg "MOST_ASKS" = some (.int 30 t)
 c_MOST_SIZE:∃ t,mg "MOST_SIZE" = some (.int 1000000 t)
 c_MOST_WORTH:∃ t,mg "MOST_WORTH" = some (.int 1000000000000 t)
 c_MOST_COMMON_ROOM:∃ t,mg "MOST_COMMON_ROOM" = some (.int 60 t)
 hc:A.d_q2.code = .ref A.tc
theorem wV:FnScope ["thing"] ["thing"] (ai nZ):=aP
theorem uU:FnScope ["thing","least","most"] ["thing","least","most"] (ai o9):=aP
theorem sc_q0:FnScope ["number","bottom"] ["number","bottom"] (ai s_q0):=aP
theorem sc_q3:FnScope ["thing","parents","rooms"] ["thing"] (ai s_q3):=aP
theorem sc_q7:FnScope ["thing","parents","rooms","number","parent","room"] ["thing"] (ai s_q7):=aP
theorem u7:FnScope ["tree","found","parent"] ["tree"] (ai pq):=aP
theorem wW:FnScope ["tree","thing"] ["tree","thing"] (ai pk):=aP
theorem uZ:FnScope ["tree","one","other"] ["tree","one","other"] (ai n_):=aP
theorem vL:FnScope ["tree","thing","one","other","size","worth"] ["tree","thing"] (ai pB):=aP
theorem sc_q4:FnScope ["tree","thing","number","ask"] ["tree","thing"] (ai s_q4):=aP
theorem uz:FnScope ["top","bottom","common"] ["top","bottom"] (ai o5):=aP
theorem wa:FnScope ["one","other"] ["one","other"] (ai ot):=aP
theorem wT:FnScope ["one","other"] ["one","other"] (ai oU):=aP
theorem ug:FnScope ["one","other"] ["one","other"] (ai rA):=aP
theorem uG:FnScope ["one","other"] ["one","other"] (ai o7):=aP
theorem wQ:FnScope ["some","bottom","one"] ["some"] (ai qy):=aP
theorem vH:FnScope ["one","other"] ["one","other"] (ai oZ):=aP
theorem sc_q5:FnScope ["tree","one","other"] ["tree","one","other"] (ai s_q5):=aP
theorem wE:FnScope ["tree","one","other","way","low"] ["tree","one","other"] (ai rz):=aP
theorem uD:FnScope ["tree","one","other","way","meeting"] ["tree","one","other"] (ai oT):=aP
theorem wN:FnScope ["tree","ask"] ["tree","ask"] (ai oy):=aP
theorem vD:FnScope ["tree","one","other","way","meeting"] ["tree","one","other"] (ai pQ):=aP
theorem sc_q8:FnScope ["tree","one","other","way","meeting"] ["tree","one","other"] (ai s_q8):=aP
theorem vT:FnScope ["ask","way","load","tie"] ["ask","way","load"] (ai p5):=aP
theorem t6:FnScope ["tree","ask","load","found"] ["tree","ask","load"] (ai oP):=aP
theorem wt:FnScope ["tree","ask","way","load"] ["tree","ask","way","load"] (ai pG):=aP
theorem uJ:FnScope ["tree","ask","load"] ["tree","ask","load"] (ai nV):=aP
theorem vZ:FnScope ["tree","ask","weight","prices","paid","spare"] ["tree","ask","weight","prices"] (ai qZ):=aP
theorem sc_q9:FnScope ["tree","room"] ["tree"] (ai s_q9):=aP
theorem sc_q6:FnScope ["asks","number","ask"] ["asks"] (ai s_q6):=aP
theorem sc_q2:FnScope ["tree","asks","deep","met"] ["tree","asks"] (ai s_q2):=aP
theorem vm:FnScope ["tree","ask","prices","step","tie"] ["tree","ask","prices","step"] (ai qK):=aP
theorem vI:FnScope ["tree","asks","terms","prices","rests","pile","number","weight","part"] ["tree","asks","terms"] (ai oF):=aP
theorem sc_q1:FnScope ["tree","asks","pile","load","keep","number"] ["tree","asks","pile"] (ai s_q1):=aP
theorem tY:FnScope ["tree","asks","room","pile","prices","rests"] ["tree","asks"] (ai qx):=aP
theorem uc:FnScope ["_law_script","_law_k"] ["_law_script","_law_k"] (ai p8):=aP
theorem vU:FnScope ["_law_script","_law_k","_law_cell","_law_mixed"] ["_law_script","_law_k"] (ai rn):=aP
theorem uW:FnScope ["_law_pool_here","_law_many","_law_found","_law_made","_law_turn"] ["_law_pool_here","_law_many"] (ai qH):=aP
theorem tZ:FnScope ["_law_pool_here","_law_most","_law_way_here","_law_parents","_law_k"] ["_law_pool_here","_law_most"] (ai q8):=aP
theorem vj:FnScope ["_law_pool_here","_law_tree","_law_least","_law_most","_law_sizes","_law_places","_law_asks_here","_law_k","_law_one","_law_other","_law_size","_law_worth"] ["_law_pool_here","_law_tree","_law_least","_law_most","_law_sizes"] (ai qv):=aP
theorem wx:FnScope ["_law_tree","_law_place","_law_found"] ["_law_tree","_law_place"] (ai oq):=aP
theorem wL:FnScope ["_law_tree","_law_one","_law_other","_law_there"] ["_law_tree","_law_one","_law_other"] (ai qu):=aP
theorem vS:FnScope ["_law_tree","_law_one","_law_other","_law_above","_law_both"] ["_law_tree","_law_one","_law_other"] (ai oJ):=aP
theorem t7:FnScope ["_law_one","_law_other"] ["_law_one","_law_other"] (ai pS):=aP
theorem vz:FnScope ["_law_top","_law_bottom","_law_share"] ["_law_top","_law_bottom"] (ai pD):=aP
theorem vq:FnScope ["_law_one","_law_other"] ["_law_one","_law_other"] (ai pX):=aP
theorem t9:FnScope ["_law_tree","_law_asks_here","_law_rows","_law_k","_law_meeting_here"] ["_law_tree","_law_asks_here"] (ai qG):=aP
theorem vP:FnScope ["_law_tree","_law_ask","_law_meeting_here"] ["_law_tree","_law_ask"] (ai qF):=aP
theorem wC:FnScope ["_law_tree","_law_asks_here","_law_pile","_law_left","_law_keep","_law_k","_law_way_here","_law_tie"] ["_law_tree","_law_asks_here","_law_pile"] (ai oX):=aP
theorem wP:FnScope ["_law_tree","_law_asks_here","_law_some","_law_many","_law_part","_law_prices","_law_rests","_law_pile","_law_k","_law_rest","_law_tie"] ["_law_tree","_law_asks_here","_law_some","_law_many","_law_part"] (ai oO):=aP
theorem uS:FnScope ["_law_told"] ["_law_told"] (ai rB):=aP
theorem ue:FnScope ["_law_tree","_law_asks_here","_law_kept_here","_law_many","_law_part","_law_due","_law_told"] ["_law_tree","_law_asks_here"] (ai n4):=aP
theorem vN:FnScope ["_law_script","_law_k","_law_pool_here","_law_great","_law_tree"] ["_law_script"] (ai n6):=aP
section
variable {P:Program} {w:World} {K:PySem.W.Frag} {mg:Str→Option Value} {base:Heap} {A:Adr}
theorem lS (T:Txt K mg A) (hB:TabB base mg A.tc A.tP tqS):FnOk P w K mg base CX0 1 A.f_q26 A.d_q26 ["thing"] (aY [false] false (r_)):=by
 have S:=wV
 refine fnD T.t_q26.F S ⟨[false],[false],false⟩ _ ?hl rfl rfl fun cdv Ar outer s H E hr=>⟨_,(ag (aL (eG (cP rfl T.z_isinstance aU (aa 0) (ce (v:=.ty "int") rfl T.z_int jm rfl)) (gv (wA (cP rfl T.z_isinstance aU (aa 0) (ce (v:=.ty "bool") rfl T.z_bool mY rfl))))))),fun ds q h=>?_⟩
 case hl=>intro ds q h; obtain ⟨d,rfl,_⟩:=h; rfl
 obtain ⟨d,rfl,hs,q0⟩:=h
 cases d <;> first | exact q0 | cases hs
theorem il (T:Txt K mg A) (hB:TabB base mg A.tc A.tP tqS):FnOk P w K mg base CX0 2 A.f_q11 A.d_q11 ["thing","least","most"] (aY [false,false,false] false (nN)):=by
 have S:=uU
 refine fnD T.t_q11.F S ⟨[false,false,false],[false,false,false],false⟩ _ ?hl rfl rfl fun cdv Ar outer s H E hr=>⟨_,(ag (aL (eG (aq (lS T hB) hr T.t_q26 (aj (aa 0) ao)) (gv (kc mF mF dB dB (aa 1) (aa 0) (aa 2)))))),fun ds q h=>?_⟩
 case hl=>intro ds q h; obtain ⟨d,lo,hi,rfl,_⟩:=h; rfl
 obtain ⟨d,lo,hi,rfl,hs,q0⟩:=h
 refine ⟨d,rfl,hs,?_⟩
 cases d
 case int i =>
  refine (cy (c:=decide (lo≤i)=true) (fun c=>?_) (fun c=>?_))
  ·have:btw lo hi (.int i)=decide (i≤hi):=by show (decide (lo≤i)&&decide (i≤hi))=_; rw [c,Bool.true_and]
   rw [this] at q0; exact q0
  ·have:btw lo hi (.int i)=false:=by show (decide (lo≤i)&&decide (i≤hi))=_; rw [Bool.eq_false_iff.mpr c,Bool.false_and]
   rw [this] at q0; exact q0
 all_goals first | exact q0 | cases hs
theorem ok_q3 (T:Txt K mg A) (hB:TabB base mg A.tc A.tP tqS):FnOk P w K mg base CX0 1 A.f_q3 A.d_q3 ["thing"] (aY [false] false (uo)):=by
 have S:=sc_q3
 refine fnD T.t_q3.F S ⟨[false],[false,false,false],false⟩ _ ?hl rfl rfl fun cdv Ar outer s H E hr=>⟨_,(ae (bv (QW.qt (eV (bJ (bD (cP rfl T.z_isinstance aU (aa 0) (ce (v:=.ty "tuple") rfl T.z_tuple fQ rfl)))) (dC (aW (bZ hr.units) dNe (aJ aA dD rfl T.z_len bB (ad (aa 0) ah)) ac (aN _))))) (ag (aL eU)) aT)
  (ae (gr (aa 0) (dA rfl (aV (aH (i:=1) S.nd rfl (Or.inl rfl)) (aV (aH (i:=2) S.nd rfl (Or.inl rfl)) cK)) (ax (ax bq))))
  (ae (bv (QW.qt (eV (bJ (bD (cP rfl T.z_isinstance aU (aa 1) (ce (v:=.ty "list") rfl T.z_list ci rfl)))) (dC (bJ (bD (cP rfl T.z_isinstance aU (aa 2) (ce (v:=.ty "list") rfl T.z_list ci rfl))))))) (ag (aL eU)) aT)
  (ag (aL (eG (d7 (dg hr.units) dEq (aJ aA dD rfl T.z_len bB (ad (aa 1) ah)) (aJ aA dD rfl T.z_len bB (ad (aa 2) ah)) (aN _)) (gv (kc mF mF dB dB ac (aJ aA dD rfl T.z_len bB (ad (aa 1) ah)) (dG (i:=23) rfl T.c_MOST_TIES))))))))),fun ds q h=>?_⟩
 case hl=>intro ds q h; obtain ⟨ps,rs,rfl,_⟩:=h; rfl
 obtain ⟨ps,rs,rfl,hT,q0⟩:=h
 have l1:((ps.map D.int).length:Int)=ps.length:=by rw [List.length_map]
 have l2:((rs.map D.int).length:Int)=rs.length:=by rw [List.length_map]
 have h1:=hT.len
 have h2:=hT.lo
 have h3:=hT.hi
 refine (cy (c:=decide (((ps.map D.int).length:Int)=((rs.map D.int).length:Int))=true) (fun c=>?_) (fun c=>?_))
 ·refine (cy (c:=decide ((1:Int)≤((ps.map D.int).length:Int))=true) (fun c=>?_) (fun c=>?_))
  ·show q (.bl (decide (((ps.map D.int).length:Int)≤23))) []
   rw [decide_eq_true (by omega)]; exact q0
  ·exact absurd (decide_eq_true (by omega)) c
 ·exact absurd (decide_eq_true (by omega)) c
theorem nY (T:Txt K mg A) (hB:TabB base mg A.tc A.tP tqS):FnOk P w K mg base CX0 3 A.f_q7 A.d_q7 ["thing"] (aY [false] false (wS)):=by
 have S:=sc_q7
 refine fnD T.t_q7.F S ⟨[false],[false,false,false,false,false,false],false⟩ _ ?hl rfl rfl fun cdv Ar outer s H E hr=>⟨_,(ae (bv (bJ (bD (aq (ok_q3 T hB) hr T.t_q3 (aj (aa 0) ao)))) (ag b_) aT)
  (ae (gr (aa 0) (dA rfl (aV (aH (i:=1) S.nd rfl (Or.inl rfl)) (aV (aH (i:=2) S.nd rfl (Or.inl rfl)) cK)) (ax (ax bq))))
  (ae (bF PassesOwn.never rfl (gO rfl T.z_enumerate (ad (aa 1) ah)) (dA rfl (aV (aH (i:=3) S.nd rfl (Or.inl rfl)) (aV (aH (i:=4) S.nd rfl (Or.inl rfl)) cK)) (ax (ax bq))) (ag (bv (bJ (bD (aq (il T hB) hr T.t_q11 (aj (aa 4) (aj ac (aj (aa 3) ao)))))) (ag b_) aT)))
  (ag (bF PassesOwn.never rfl (gO rfl T.z_enumerate (ad (aa 2) ah)) (dA rfl (aV (aH (i:=3) S.nd rfl (Or.inl rfl)) (aV (aH (i:=5) S.nd rfl (Or.inl rfl)) cK)) (ax (ax bq))) (ag (bv (bJ (bD (aq (il T hB) hr T.t_q11 (aj (aa 5) (aj ac (aj (dG (i:=1000000) rfl T.c_MOST_ROOM) ao)))))) (ag b_) aT))))))),fun ds q h=>?_⟩
 case hl=>intro ds q h; obtain ⟨ps,rs,rfl,_⟩:=h; rfl
 obtain ⟨ps,rs,rfl,hT,q0⟩:=h
 refine ⟨ps,rs,rfl,hT,?_⟩
 refine ⟨fun _ ρ=>∃ v1 v2 v3,ρ=[some (aK ps rs),some (ar ps),some (ar rs),v1,v2,v3],⟨_,_,_,rfl⟩,?_,?_⟩
 ·rintro i d ρ hd ⟨v1,v2,v3,rfl⟩
  obtain ⟨d',h1,rfl⟩:=fW hd
  obtain ⟨z,hz,rfl⟩:=cR h1
  have hb:=hT.par i z hz
  refine ⟨.int z,0,(i:Int),rfl,rfl,?_⟩
  rw [e9 hb.1 hb.2]
  exact ⟨_,_,_,rfl⟩
 ·rintro ρ ⟨v1,v2,v3,rfl⟩
  refine ⟨fun _ ρ=>∃ v1 v2 v3,ρ=[some (aK ps rs),some (ar ps),some (ar rs),v1,v2,v3],⟨_,_,_,rfl⟩,?_,?_⟩
  ·rintro i d ρ hd ⟨v1,v2,v3,rfl⟩
   obtain ⟨d',h1,rfl⟩:=fW hd
   obtain ⟨z,hz,rfl⟩:=cR h1
   have hb:=hT.room i z hz
   refine ⟨.int z,1,1000000,rfl,rfl,?_⟩
   rw [e9 hb.1 hb.2]
   exact ⟨_,_,_,rfl⟩
  ·rintro ρ ⟨v1,v2,v3,rfl⟩
   exact q0
theorem wd (T:Txt K mg A) (hB:TabB base mg A.tc A.tP tqS):FnOk P w K mg base CX0 4 A.f_q38 A.d_q38 ["tree"] (aY [false] true (qJ)):=by
 have S:=u7
 refine fnD T.t_q38.F S ⟨[false],[false,true,false],true⟩ _ ?hl rfl rfl fun cdv Ar outer s H E hr=>⟨_,(ae (cC (aq (nY T hB) hr T.t_q7 (aj (aa 0) ao)))
  (ae (bC (i:=1) S.nd rfl (Or.inl rfl) (dj (ad ac ah)))
  (ae (bF PassesOwn.never rfl (aX (am af dIx (aa 0) ac (fun _ _=>rfl))) (aH (i:=2) S.nd rfl (Or.inl rfl)) (ag (bR (i:=1) rfl (QF.bor [1] (QE.qf (aw bI dI (am af dIx (aa 1) (aa 2) (fun _ _=>rfl)) ac))))))
  (ag (bn (cf 1)))))),fun ds q h=>?_⟩
 case hl=>intro ds q h; obtain ⟨ps,rs,rfl,_⟩:=h; rfl
 obtain ⟨ps,rs,rfl,hT,q0⟩:=h
 have hi:=hT.hi
 refine ⟨ps,rs,rfl,hT,?_⟩
 refine ⟨rfl,?_⟩
 refine ⟨fun i ρ=>∃ (e:List Int) (v:Option D),ρ=[some (aK ps rs),some (ar e),v]∧DepOk ps e i,⟨[0],_,rfl,dep0 ps⟩,?_,?_⟩
 ·rintro i d ρ hd ⟨e,v,rfl,he⟩
  obtain ⟨z,hz,rfl⟩:=cR hd
  have hb:=hT.par i z hz
  have hl:=he.len
  have hil:i<ps.length:=(List.getElem?_eq_some_iff.mp hz).1
  refine aI (bi hb.1 (by omega)) ?_
  refine ⟨rfl,by rw [au]; omega,?_⟩
  refine ⟨_,some (.int z),?_,j6 hT hz he⟩
  rw [← cG]; rfl
 ·rintro ρ ⟨e,v,rfl,he⟩
  rw [au] at he
  exact q0 e he
theorem qS (T:Txt K mg A) (hB:TabB base mg A.tc A.tP tqS):FnOk P w K mg base CX0 3 A.f_q25 A.d_q25 ["tree","thing"] (aY [false,false] false (rW)):=by
 have S:=wW
 refine fnD T.t_q25.F S ⟨[false,false],[false,false],false⟩ _ ?hl rfl rfl fun cdv Ar outer s H E hr=>⟨_,(ag (aL (aq (il T hB) hr T.t_q11 (aj (aa 1) (aj ac (aj (aJ aA dD rfl T.z_len bB (ad (am af dIx (aa 0) ac (fun _ _=>rfl)) ah)) ao)))))),fun ds q h=>?_⟩
 case hl=>intro ds q h; obtain ⟨ps,rs,d,rfl,_⟩:=h; rfl
 obtain ⟨ps,rs,d,rfl,hs,q0⟩:=h
 refine ⟨d,0,((ps.map D.int).length:Int),rfl,hs,?_⟩
 rw [List.length_map]; exact q0
theorem nW (T:Txt K mg A) (hB:TabB base mg A.tc A.tP tqS):FnOk P w K mg base CX0 4 A.f_q23 A.d_q23 ["tree","one","other"] (aY [false,false,false] false (uR)):=by
 have S:=uZ
 refine fnD T.t_q23.F S ⟨[false,false,false],[false,false,false],false⟩ _ ?hl rfl rfl fun cdv Ar outer s H E hr=>⟨_,(ag (aL (eG (aq (qS T hB) hr T.t_q25 (aj (aa 0) (aj (aa 1) ao))) (eG (aq (qS T hB) hr T.t_q25 (aj (aa 0) (aj (aa 2) ao))) (gv (d7 (bZ hr.units) dNe (aa 1) (aa 2) (aN _))))))),fun ds q h=>?_⟩
 case hl=>intro ds q h; obtain ⟨ps,rs,a,b,rfl,_⟩:=h; rfl
 obtain ⟨ps,rs,a,b,rfl,he,q0⟩:=h
 refine ⟨ps,rs,.int a,rfl,rfl,?_⟩
 rw [e9 he.a0 he.a1]
 refine ⟨ps,rs,.int b,rfl,rfl,?_⟩
 rw [e9 he.b0 he.b1]
 have:(!decide (a=b))=true:=by simp [he.ne]
 show q (.bl (!decide (a=b))) []
 rw [this]; exact q0
theorem rf (T:Txt K mg A) (hB:TabB base mg A.tc A.tP tqS):FnOk P w K mg base CX0 5 A.f_q5 A.d_q5 ["tree","one","other"] (aY [false,false,false] false (lQ)):=by
 have S:=sc_q5
 refine fnD T.t_q5.F S ⟨[false,false,false],[false,false,false],false⟩ _ ?hl rfl rfl fun cdv Ar outer s H E hr=>⟨_,(ae (cC (aq (nY T hB) hr T.t_q7 (aj (aa 0) ao)))
  (ag (bv (bJ (bD (aq (nW T hB) hr T.t_q23 (aj (aa 0) (aj (aa 1) (aj (aa 2) ao)))))) (ag b_) aT))),fun ds q h=>?_⟩
 case hl=>intro ds q h; obtain ⟨ps,rs,a,b,rfl,_⟩:=h; rfl
 obtain ⟨ps,rs,a,b,rfl,hT,he,q0⟩:=h
 refine ⟨ps,rs,rfl,hT,?_⟩
 exact ⟨ps,rs,a,b,rfl,he,q0⟩
theorem lj (T:Txt K mg A) (hB:TabB base mg A.tc A.tP tqS):FnOk P w K mg base CX0 1 A.f_q51 A.d_q51 ["tree","one","other"] (aY [false,false,false] true (rO)):=by
 have S:=wE
 refine fnD T.t_q51.F S ⟨[false,false,false],[false,false,false,true,false],true⟩ _ ?hl rfl rfl fun cdv Ar outer s H E hr=>⟨_,(ae (bC (i:=3) S.nd rfl (Or.inl rfl) (dj ah))
  (ae (f6 PassesOwn.never (aW (bZ hr.units) dNe (aa 1) (aa 2) (aN _)) (ae (aS (i:=4) S.nd rfl (Or.inl rfl) (aJ (gi rfl) dMax rfl T.z_max lG (ad (aa 1) (ad (aa 2) ah))))
  (ae (bR (i:=3) rfl (QE.qf (aa 4)))
  (ag (jk (i:=1) (j:=2) rfl S.nd rfl rfl (by decide) rfl rfl (aJ (iC rfl) dMin rfl T.z_min qR (ad (aa 1) (ad (aa 2) ah))) (am af dIx (am af dIx (aa 0) ac (fun _ _=>rfl)) (aw bd dI (aa 4) ac) (fun _ _=>rfl)) rfl)))))
  (ag (bn (ig (br (QF.qm (QF.bor [3] (eJ cW jC rfl T.z_sorted de (ad (aa 3) ah)))) (br (QF.qm (QE.qf (aa 1))) e7))))))),fun ds q h=>?_⟩
 case hl=>intro ds q h; obtain ⟨ps,rs,a,b,rfl,_⟩:=h; rfl
 obtain ⟨ps,rs,a,b,rfl,hT,a0,a1,b0,b1,q0⟩:=h
 refine ⟨rfl,?_⟩
 refine ⟨fun k ρ=>∃ a' b' acc v,ρ=[some (aK ps rs),some (.int a'),some (.int b'),some (ar acc),v]∧0≤a'∧a'≤ps.length∧0≤b'∧b'≤ps.length∧k=(a' + b').toNat∧acc.length + (a' + b').toNat≤46∧(∀ w m,Climb ps a' b' w m→Climb ps a b (acc++w) m),⟨_,a,b,[],_,rfl,a0,a1,b0,b1,rfl,by have:=hT.hi; simp; omega,fun w m h=>h⟩,?_⟩
 rintro k ρ ⟨a',b',acc,v,rfl,a0',a1',b0',b1',rfl,hl,hc⟩
 have hi:=hT.hi
 refine (cy (c:=(!decide (a'=b'))=true) (fun c=>?_) (fun c=>?_))
 ·have hne:a'≠b':=by simpa using c
  have key:∀ (low hig:Int),low=(if b' > a' then b' else a')→hig=(if b'<a' then b' else a')→0<low∧low≤ps.length∧0≤hig∧hig≤ps.length∧low + hig=a' + b'∧(∀ w m,Climb ps hig (bT ps low) w m→Climb ps a' b' (low :: w) m):=by
   intro low hig e1 e2
   by_cases hlt:b'<a'
   ·rw [if_neg (by omega)] at e1; rw [if_pos hlt] at e2; subst e1; subst e2
    exact ⟨by omega,a1',b0',b1',by omega,fun w m h=>.left hlt h⟩
   ·rw [if_pos (by omega)] at e1; rw [if_neg hlt] at e2; subst e1; subst e2
    exact ⟨by omega,b1',a0',a1',by omega,fun w m h=>.right (by omega) h⟩
  obtain ⟨L,hL⟩:∃ L,L=(if b' > a' then b' else a'):=⟨_,rfl⟩
  obtain ⟨J,hJ⟩:∃ J,J=(if b'<a' then b' else a'):=⟨_,rfl⟩
  obtain ⟨k1,k2,k3,k4,k5,k6⟩:=key L J hL hJ
  have hp:=hT.up k1 k2
  refine ⟨rfl,?_⟩
  refine ⟨by show (acc.map D.int).length<1000; rw [List.length_map]; omega,?_⟩
  refine aI (bi (by rw [← hL]; omega) (by rw [← hL]; omega)) ?_
  refine ⟨(J + bT ps L).toNat,by omega,J,bT ps L,acc++[L],some (.int L),?_,k3,k4,hp.1,by omega,rfl,by rw [List.length_append]; show acc.length + 1 + _≤46; omega,fun w m h=>by rw [List.append_assoc]; exact hc _ _ (k6 _ _ h)⟩
  show [some (aK ps rs),some (.int (if b'<a' then b' else a')),some (.int (bT ps (if b' > a' then b' else a'))),some (D.lst (acc.map D.int++[D.int (if b' > a' then b' else a')])),some (.int (if b' > a' then b' else a'))]=_
  rw [← hL,← hJ,ar,List.map_append]; rfl
 ·have:a'=b':=by simpa using c
  subst this
  have hw:=hc [] a' (.same a')
  rw [List.append_nil] at hw
  have hln:=hw.len hT a0 b0 a1 b1
  refine ⟨acc,rfl,by omega,a7 _,rfl,?_⟩
  exact q0 acc a' hw
theorem uA (T:Txt K mg A) (hB:TabB base mg A.tc A.tP tqS):FnOk P w K mg base CX0 6 A.f_q10 A.d_q10 ["tree","one","other"] (aY [false,false,false] true (sdWay)):=by
 have S:=uD
 refine fnD T.t_q10.F S ⟨[false,false,false],[false,false,false,true,false],true⟩ _ ?hl rfl rfl fun cdv Ar outer s H E hr=>⟨_,(ae (cC (aq (rf T hB) hr T.t_q5 (aj (aa 0) (aj (aa 1) (aj (aa 2) ao)))))
  (ae (l_ rfl (QF.qm (aB (lj T hB) hr T.t_q51 (aj (aa 0) (aj (aa 1) (aj (aa 2) ao))))) (jf (i:=3) S.nd rfl (Or.inl rfl) (oR (i:=4) S.nd rfl (Or.inl rfl) mN)) (ax (ax bq)))
  (ag (bn (cf 3))))),fun ds q h=>?_⟩
 case hl=>intro ds q h; obtain ⟨ps,rs,a,b,rfl,_⟩:=h; rfl
 obtain ⟨ps,rs,a,b,rfl,hT,he,q0⟩:=h
 refine ⟨ps,rs,a,b,rfl,hT,he,?_⟩
 refine ⟨ps,rs,a,b,rfl,hT,he.a0,he.a1,he.b0,he.b1,fun w m hw=>?_⟩
 exact q0 w m hw
theorem u5 (T:Txt K mg A) (hB:TabB base mg A.tc A.tP tqS):FnOk P w K mg base CX0 6 A.f_q13 A.d_q13 ["tree","one","other"] (aY [false,false,false] false (wB)):=by
 have S:=vD
 refine fnD T.t_q13.F S ⟨[false,false,false],[false,false,false,false,false],false⟩ _ ?hl rfl rfl fun cdv Ar outer s H E hr=>⟨_,(ae (cC (aq (rf T hB) hr T.t_q5 (aj (aa 0) (aj (aa 1) (aj (aa 2) ao)))))
  (ae (gr (QF.qe (aB (lj T hB) hr T.t_q51 (aj (aa 0) (aj (aa 1) (aj (aa 2) ao))))) (dA rfl (aV (aH (i:=3) S.nd rfl (Or.inl rfl)) (aV (aH (i:=4) S.nd rfl (Or.inl rfl)) cK)) (ax (ax bq))))
  (ag (aL (aa 4))))),fun ds q h=>?_⟩
 case hl=>intro ds q h; obtain ⟨ps,rs,a,b,rfl,_⟩:=h; rfl
 obtain ⟨ps,rs,a,b,rfl,hT,he,q0⟩:=h
 refine ⟨ps,rs,a,b,rfl,hT,he,?_⟩
 refine ⟨ps,rs,a,b,rfl,hT,he.a0,he.a1,he.b0,he.b1,fun w m hw=>?_⟩
 exact q0 w m hw
theorem ok_q8 (T:Txt K mg A) (hB:TabB base mg A.tc A.tP tqS):FnOk P w K mg base CX0 6 A.f_q8 A.d_q8 ["tree","one","other"] (aY [false,false,false] true (uY)):=by
 have S:=sc_q8
 refine fnD T.t_q8.F S ⟨[false,false,false],[false,false,false,false,false],true⟩ _ ?hl rfl rfl fun cdv Ar outer s H E hr=>⟨_,(ae (cC (aq (rf T hB) hr T.t_q5 (aj (aa 0) (aj (aa 1) (aj (aa 2) ao)))))
  (ae (gr (QF.qe (aB (lj T hB) hr T.t_q51 (aj (aa 0) (aj (aa 1) (aj (aa 2) ao))))) (dA rfl (aV (aH (i:=3) S.nd rfl (Or.inl rfl)) (aV (aH (i:=4) S.nd rfl (Or.inr rfl)) cK)) (ax (ax bq))))
  (ag (bn (QF.qm (gS ["tie"] [4,0] ⟨rfl,rfl,by decide +kernel,rfl,rfl,(by first | exact trivial | exact ⟨rfl,trivial⟩ | exact ⟨rfl,rfl,trivial⟩ | exact ⟨rfl,rfl,rfl,trivial⟩ | exact ⟨rfl,rfl,rfl,rfl,trivial⟩),rfl⟩ rfl (aX (aa 3)) (bu 0) (fun _ _ _ _=>⟨(bc (i:=0) (show List.Nodup (["tie","meeting","tree"]:List Str) by decide +kernel) rfl (Or.inl rfl)),(dz (aW (dg hr.units) dEq (am af dIx (am af dIx (aa 2) ac (fun _ _=>rfl)) (aw bd dI (aa 0) ac) (fun _ _=>rfl)) (aa 1) (aN _))),(aa 0)⟩))))))),fun ds q h=>?_⟩
 case hl=>intro ds q h; obtain ⟨ps,rs,a,b,rfl,_⟩:=h; rfl
 obtain ⟨ps,rs,a,b,rfl,hT,he,q0⟩:=h
 refine ⟨ps,rs,a,b,rfl,hT,he,?_⟩
 refine ⟨ps,rs,a,b,rfl,hT,he.a0,he.a1,he.b0,he.b1,fun w m hw=>?_⟩
 have hln:=hw.len hT he.a0 he.b0 he.a1 he.b1
 have hi:=hT.hi
 have a1:=he.a1
 have b1:=he.b1
 refine ⟨by show ((bH w).map D.int).length≤1000; rw [List.length_map,gf]; omega,?_⟩
 refine cL (ny fun x=>decide (bT ps x=m)) ?_ ?_
 ·intro d hd k hk
  obtain ⟨x,hx,rfl⟩:=cw hd
  have hx':=hw.mem hT he.a0 he.b0 he.a1 he.b1 x ((cj w).mem_iff.mp hx)
  refine aI (bi (by omega) (by omega)) ?_
  change k (if decide (bT ps x=m)=true then some (.int x) else none) at hk
  show if decide (bT ps x=m)=true then k (some (.int x)) else k none
  cases e:decide (bT ps x=m) with
  | true=>rw [e] at hk; exact hk
  | false=>rw [e] at hk; exact hk
 ·rw [dY]
  exact ⟨a7 _,q0 w m hw⟩
theorem lH (T:Txt K mg A) (hB:TabB base mg A.tc A.tP tqS):FnOk P w K mg base CX0 7 A.f_q50 A.d_q50 ["tree","ask"] (aY [false,false] true (sj)):=by
 have S:=wN
 refine fnD T.t_q50.F S ⟨[false,false],[false,false],true⟩ _ ?hl rfl rfl fun cdv Ar outer s H E hr=>⟨_,(ag (bn (QF.qm (aB (uA T hB) hr T.t_q10 (aj (aa 0) (aj (am af dIx (aa 1) ac (fun _ _=>rfl)) (aj (am af dIx (aa 1) ac (fun _ _=>rfl)) ao))))))),fun ds q h=>?_⟩
 case hl=>intro ds q h; obtain ⟨ps,rs,a,rfl,_⟩:=h; rfl
 obtain ⟨ps,rs,a,rfl,hT,he,q0⟩:=h
 refine ⟨ps,rs,a.one,a.other,rfl,hT,he,fun w m hw=>?_⟩
 rw [(hw.way hT he.a0 he.b0 he.a1 he.b1).1]
 exact q0
theorem wK (T:Txt K mg A) (hB:TabB base mg A.tc A.tP tqS):FnOk P w K mg base CX0 5 A.f_q39 A.d_q39 ["tree","thing"] (aY [false,false] false (tj)):=by
 have S:=vL
 refine fnD T.t_q39.F S ⟨[false,false],[false,false,false,false,false,false],false⟩ _ ?hl rfl rfl fun cdv Ar outer s H E hr=>⟨_,(ae (bv (QW.qt (eV (bJ (bD (cP rfl T.z_isinstance aU (aa 1) (ce (v:=.ty "tuple") rfl T.z_tuple fQ rfl)))) (dC (aW (bZ hr.units) dNe (aJ aA dD rfl T.z_len bB (ad (aa 1) ah)) ac (aN _))))) (ag (aL eU)) aT)
  (ae (gr (aa 1) (dA rfl (aV (aH (i:=2) S.nd rfl (Or.inl rfl)) (aV (aH (i:=3) S.nd rfl (Or.inl rfl)) (aV (aH (i:=4) S.nd rfl (Or.inl rfl)) (aV (aH (i:=5) S.nd rfl (Or.inl rfl)) cK)))) (ax (ax (ax (ax bq))))))
  (ag (aL (eG (aq (nW T hB) hr T.t_q23 (aj (aa 0) (aj (aa 2) (aj (aa 3) ao)))) (eG (aq (il T hB) hr T.t_q11 (aj (aa 4) (aj ac (aj (dG (i:=1000000) rfl T.c_MOST_SIZE) ao)))) (gv (aq (il T hB) hr T.t_q11 (aj (aa 5) (aj ac (aj (dG (i:=1000000000000) rfl T.c_MOST_WORTH) ao))))))))))),fun ds q h=>?_⟩
 case hl=>intro ds q h; obtain ⟨ps,rs,a,rfl,_⟩:=h; rfl
 obtain ⟨ps,rs,a,rfl,ha,q0⟩:=h
 refine ⟨ps,rs,a.one,a.other,rfl,ha.ends,?_⟩
 refine ⟨.int a.size,1,1000000,rfl,rfl,?_⟩
 rw [e9 ha.s0 ha.s1]
 refine ⟨.int a.worth,1,1000000000000,rfl,rfl,?_⟩
 rw [e9 ha.w0 ha.w1]
 exact q0
theorem ok_q4 (T:Txt K mg A) (hB:TabB base mg A.tc A.tP tqS):FnOk P w K mg base CX0 6 A.f_q4 A.d_q4 ["tree","thing"] (aY [false,false] false (k_)):=by
 have S:=sc_q4
 refine fnD T.t_q4.F S ⟨[false,false],[false,false,false,false],false⟩ _ ?hl rfl rfl fun cdv Ar outer s H E hr=>⟨_,(ae (cC (aq (nY T hB) hr T.t_q7 (aj (aa 0) ao)))
  (ae (bv (QW.qt (eV (bJ (bD (cP rfl T.z_isinstance aU (aa 1) (ce (v:=.ty "list") rfl T.z_list ci rfl)))) (dC (aW ik dB (aJ aA dD rfl T.z_len bB (ad (aa 1) ah)) (dG (i:=30) rfl T.c_MOST_ASKS) (aN _))))) (ag b_) aT)
  (ag (bF PassesOwn.never rfl (gO rfl T.z_enumerate (ad (aa 1) ah)) (dA rfl (aV (aH (i:=2) S.nd rfl (Or.inl rfl)) (aV (aH (i:=3) S.nd rfl (Or.inl rfl)) cK)) (ax (ax bq))) (ag (bv (bJ (bD (aq (wK T hB) hr T.t_q39 (aj (aa 0) (aj (aa 3) ao))))) (ag b_) aT)))))),fun ds q h=>?_⟩
 case hl=>intro ds q h; obtain ⟨ps,rs,as,rfl,_⟩:=h; rfl
 obtain ⟨ps,rs,as,rfl,hT,ha,q0⟩:=h
 refine ⟨ps,rs,rfl,hT,?_⟩
 refine (cy (c:=decide ((30:Int)<((as.map cr).length:Int))=true) (fun c=>?_) (fun c=>?_))
 ·have:=ha.len; rw [aR] at c; simp at c; omega
 refine ⟨fun _ ρ=>∃ v1 v2,ρ=[some (aK ps rs),some (bh as),v1,v2],⟨_,_,rfl⟩,?_,?_⟩
 ·rintro i d ρ hd ⟨v1,v2,rfl⟩
  obtain ⟨d',h1,rfl⟩:=fW hd
  obtain ⟨z,hz,rfl⟩:=mO h1
  refine ⟨ps,rs,z,rfl,ha.ok z (List.mem_of_getElem? hz),?_⟩
  exact ⟨_,_,rfl⟩
 ·rintro ρ ⟨v1,v2,rfl⟩
  exact q0
end
end K31
namespace K31
open PySem L2
section
variable {P:Program} {w:World} {K:PySem.W.Frag} {mg:Str→Option Value} {base:Heap} {A:Adr}
theorem tW (T:Txt K mg A) (hB:TabB base mg A.tc A.tP tqS):FnOk P w K mg base CX0 1 A.f_q0 A.d_q0 ["number","bottom"] (aY [false,false] false (sdGcd)):=by
 have S:=sc_q0
 refine fnD T.t_q0.F S ⟨[false,false],[false,false],false⟩ _ ?hl rfl rfl fun cdv Ar outer s H E hr=>⟨_,(ae (f6 PassesOwn.never (aW (bZ hr.units) dNe (aa 1) ac (aN _)) (ag (jk (i:=0) (j:=1) rfl S.nd rfl rfl (by decide) rfl rfl (aa 1) (aw dE dIC (aa 0) (aa 1)) rfl)))
  (ag (aL (aa 0)))),fun ds q h=>?_⟩
 case hl=>intro ds q h; obtain ⟨n,b,rfl,_⟩:=h; rfl
 obtain ⟨n,b,rfl,hb,q0⟩:=h
 refine ⟨fun k ρ=>∃ n' b':Int,ρ=[some (.int n'),some (.int b')]∧0≤b'∧b'.toNat=k∧bY n' b'=bY n b,⟨_,n,b,rfl,hb,rfl,rfl⟩,?_⟩
 rintro k ρ ⟨n',b',rfl,hb',hk,hg⟩
 refine (cy (c:=(!decide (b'=0))=true) (fun c=>?_) (fun c=>?_))
 ·have c':b'≠0:=by simpa using c
  have hp : 0<b':=by omega
  refine ⟨hp,?_⟩
  have:=Int.emod_lt_of_pos n' hp
  have:=Int.emod_nonneg n' (show b'≠0 by omega)
  exact ⟨_,by omega,b',n' % b',rfl,by omega,rfl,by rw [iV hp]; exact hg⟩
 ·have c':b'=0:=by simpa using c
  subst c'
  have e:bY n b=n':=by rw [← hg]; unfold bY; rw [if_pos rfl]
  rw [e] at q0; exact q0
theorem ir (T:Txt K mg A) (hB:TabB base mg A.tc A.tP tqS):FnOk P w K mg base CX0 2 A.f_q24 A.d_q24 ["top","bottom"] (aY [false,false] false (uv)):=by
 have S:=uz
 refine fnD T.t_q24.F S ⟨[false,false],[false,false,false],false⟩ _ ?hl rfl rfl fun cdv Ar outer s H E hr=>⟨_,(ae (bv (QW.qt (eV (bJ (bD (aq (lS T hB) hr T.t_q26 (aj (aa 0) ao)))) (dC (bJ (bD (aq (lS T hB) hr T.t_q26 (aj (aa 1) ao))))))) (ag b_) aT)
  (ae (bv (aW (dg hr.units) dEq (aa 1) ac (aN _)) (ag b_) aT)
  (ae (iw (bv (aW kD dB (aa 1) ac (aN _)) (ag (jk (i:=0) (j:=1) rfl S.nd rfl rfl (by decide) rfl rfl (pA (aa 0)) (pA (aa 1)) rfl)) aT))
  (ae (aS (i:=2) S.nd rfl (Or.inl rfl) (aq (tW T hB) hr T.t_q0 (aj (aa 0) (aj (aa 1) ao))))
  (ag (aL (bg (ad (aw df dIC (aa 0) (aa 2)) (ad (aw df dIC (aa 1) (aa 2)) ah))))))))),fun ds q h=>?_⟩
 case hl=>intro ds q h; obtain ⟨t,b,rfl,_⟩:=h; rfl
 obtain ⟨t,b,rfl,hb,hs,q0⟩:=h
 refine ⟨.int t,rfl,rfl,?_⟩
 refine ⟨.int b,rfl,rfl,?_⟩
 refine (cy (c:=decide (b=0)=true) (fun c=>absurd (of_decide_eq_true c) hb) (fun _=>?_))
 refine ⟨fun ρ=>∃ t' b':Int,ρ=[some (.int t'),some (.int b'),none]∧0<b'∧Sm b'∧Rat.divInt t' b'=Rat.divInt t b,?_,?_⟩
 ·refine (cy (c:=decide (b<0)=true) (fun c=>?_) (fun c=>?_))
  ·have c':b<0:=by simpa using c
   exact ⟨-t,-b,rfl,by omega,by show (-b).natAbs<_; rw [Int.natAbs_neg]; exact hs,Rat.neg_divInt_neg t b⟩
  ·have c' : ¬ b<0:=by simpa using c
   exact ⟨t,b,rfl,by omega,hs,rfl⟩
 ·rintro ρ ⟨t',b',rfl,hp,hs',he⟩
  refine ⟨t',b',rfl,Int.le_of_lt hp,?_⟩
  have g:=dL (n:=t') hp
  have gl:=jD (n:=t') hp
  have gs:Sm (bY t' b'):=by show (bY t' b').natAbs<_; exact Nat.lt_of_le_of_lt (by omega) hs'
  refine ⟨⟨g,gs⟩,⟨g,gs⟩,?_⟩
  rw [jG hp,jl hp,he]
  exact q0
theorem wG (T:Txt K mg A) (hB:TabB base mg A.tc A.tP tqS):FnOk P w K mg base CX0 3 A.f_q58 A.d_q58 ["one","other"] (aY [false,false] false (t3)):=by
 have S:=wa
 refine fnD T.t_q58.F S ⟨[false,false],[false,false],false⟩ _ ?hl rfl rfl fun cdv Ar outer s H E hr=>⟨_,(ag (aL (aq (ir T hB) hr T.t_q24 (aj (aw bI dI (aw bo dIC (am af dIx (aa 0) ac (fun _ _=>rfl)) (am af dIx (aa 1) ac (fun _ _=>rfl))) (aw bo dIC (am af dIx (aa 1) ac (fun _ _=>rfl)) (am af dIx (aa 0) ac (fun _ _=>rfl)))) (aj (aw bo dIC (am af dIx (aa 0) ac (fun _ _=>rfl)) (am af dIx (aa 1) ac (fun _ _=>rfl))) ao))))),fun ds q h=>?_⟩
 case hl=>intro ds q h; obtain ⟨r,s,rfl,_⟩:=h; rfl
 obtain ⟨r,s,rfl,hr,hs,q0⟩:=h
 refine ⟨⟨hr.smN (by decide),hs.smD (by decide)⟩,⟨hs.smN (by decide),hr.smD (by decide)⟩,⟨hr.smD (by decide),hs.smD (by decide)⟩,?_⟩
 refine ⟨_,_,rfl,Int.ne_of_gt (cq r s),Sm.of (n:=7900) (by rw [bO,Int.natAbs_natCast,Int.natAbs_natCast]; exact aZ (m:=3950) (n:=3950) hr.den hs.den) (by decide),?_⟩
 rw [← rj]; exact q0
theorem wq (T:Txt K mg A) (hB:TabB base mg A.tc A.tP tqS):FnOk P w K mg base CX0 3 A.f_q54 A.d_q54 ["one","other"] (aY [false,false] false (rF)):=by
 have S:=wT
 refine fnD T.t_q54.F S ⟨[false,false],[false,false],false⟩ _ ?hl rfl rfl fun cdv Ar outer s H E hr=>⟨_,(ag (aL (aq (ir T hB) hr T.t_q24 (aj (aw bd dI (aw bo dIC (am af dIx (aa 0) ac (fun _ _=>rfl)) (am af dIx (aa 1) ac (fun _ _=>rfl))) (aw bo dIC (am af dIx (aa 1) ac (fun _ _=>rfl)) (am af dIx (aa 0) ac (fun _ _=>rfl)))) (aj (aw bo dIC (am af dIx (aa 0) ac (fun _ _=>rfl)) (am af dIx (aa 1) ac (fun _ _=>rfl))) ao))))),fun ds q h=>?_⟩
 case hl=>intro ds q h; obtain ⟨r,s,rfl,_⟩:=h; rfl
 obtain ⟨r,s,rfl,hr,hs,q0⟩:=h
 refine ⟨⟨hr.smN (by decide),hs.smD (by decide)⟩,⟨hs.smN (by decide),hr.smD (by decide)⟩,⟨hr.smD (by decide),hs.smD (by decide)⟩,?_⟩
 refine ⟨_,_,rfl,Int.ne_of_gt (cq r s),Sm.of (n:=7900) (by rw [bO,Int.natAbs_natCast,Int.natAbs_natCast]; exact aZ (m:=3950) (n:=3950) hr.den hs.den) (by decide),?_⟩
 rw [← n9]; exact q0
theorem wF (T:Txt K mg A) (hB:TabB base mg A.tc A.tP tqS):FnOk P w K mg base CX0 3 A.f_q55 A.d_q55 ["one","other"] (aY [false,false] false (rZ)):=by
 have S:=ug
 refine fnD T.t_q55.F S ⟨[false,false],[false,false],false⟩ _ ?hl rfl rfl fun cdv Ar outer s H E hr=>⟨_,(ag (aL (aq (ir T hB) hr T.t_q24 (aj (aw bo dIC (am af dIx (aa 0) ac (fun _ _=>rfl)) (am af dIx (aa 1) ac (fun _ _=>rfl))) (aj (aw bo dIC (am af dIx (aa 0) ac (fun _ _=>rfl)) (am af dIx (aa 1) ac (fun _ _=>rfl))) ao))))),fun ds q h=>?_⟩
 case hl=>intro ds q h; obtain ⟨r,s,rfl,_⟩:=h; rfl
 obtain ⟨r,s,rfl,hr,hs,q0⟩:=h
 refine ⟨⟨hr.smN (by decide),hs.smN (by decide)⟩,⟨hr.smD (by decide),hs.smD (by decide)⟩,?_⟩
 refine ⟨_,_,rfl,Int.ne_of_gt (cq r s),Sm.of (n:=7900) (by rw [bO,Int.natAbs_natCast,Int.natAbs_natCast]; exact aZ (m:=3950) (n:=3950) hr.den hs.den) (by decide),?_⟩
 rw [← pe]; exact q0
theorem wH (T:Txt K mg A) (hB:TabB base mg A.tc A.tP tqS):FnOk P w K mg base CX0 3 A.f_q48 A.d_q48 ["one","other"] (aY [false,false] false (sI)):=by
 have S:=uG
 refine fnD T.t_q48.F S ⟨[false,false],[false,false],false⟩ _ ?hl rfl rfl fun cdv Ar outer s H E hr=>⟨_,(ag (aL (aq (ir T hB) hr T.t_q24 (aj (aw bo dIC (am af dIx (aa 0) ac (fun _ _=>rfl)) (am af dIx (aa 1) ac (fun _ _=>rfl))) (aj (aw bo dIC (am af dIx (aa 0) ac (fun _ _=>rfl)) (am af dIx (aa 1) ac (fun _ _=>rfl))) ao))))),fun ds q h=>?_⟩
 case hl=>intro ds q h; obtain ⟨r,s,rfl,_⟩:=h; rfl
 obtain ⟨r,s,rfl,hr,hs,hz,q0⟩:=h
 refine ⟨⟨hr.smN (by decide),hs.smD (by decide)⟩,⟨hr.smD (by decide),hs.smN (by decide)⟩,?_⟩
 refine ⟨_,_,rfl,Int.mul_ne_zero (Int.ne_of_gt (bA r)) (wc hz),Sm.of (n:=7900) (by rw [bO,Int.natAbs_natCast]; exact aZ (m:=3950) (n:=3950) hr.den hs.num) (by decide),?_⟩
 rw [← vB]; exact q0
theorem vt (T:Txt K mg A) (hB:TabB base mg A.tc A.tP tqS):FnOk P w K mg base CX0 3 A.f_q49 A.d_q49 ["some"] (aY [false] false (u6)):=by
 have S:=wQ
 refine fnD T.t_q49.F S ⟨[false],[false,false,false],false⟩ _ ?hl rfl rfl fun cdv Ar outer s H E hr=>⟨_,(ae (aS (i:=1) S.nd rfl (Or.inr rfl) ac)
  (ae (bF PassesOwn.never rfl (aX (aa 0)) (aH (i:=2) S.nd rfl (Or.inl rfl)) (ag (aS (i:=1) S.nd rfl (Or.inr rfl) (aw bo dIC (aw df dIC (aa 1) (aq (tW T hB) hr T.t_q0 (aj (aa 1) (aj (am af dIx (aa 2) ac (fun _ _=>rfl)) ao)))) (am af dIx (aa 2) ac (fun _ _=>rfl))))))
  (ag (aL (aq (ir T hB) hr T.t_q24 (aj (aJ (nI rfl) dSum rfl T.z_sum vJ (ad (cY ["one"] [1] ⟨rfl,rfl,by decide +kernel,rfl,rfl,(by first | exact trivial | exact ⟨rfl,trivial⟩ | exact ⟨rfl,rfl,trivial⟩ | exact ⟨rfl,rfl,rfl,trivial⟩ | exact ⟨rfl,rfl,rfl,rfl,trivial⟩),rfl⟩ rfl (aX (aa 0)) (bu 0) (fun _ _ _ _=>⟨(bc (i:=0) (show List.Nodup (["one","bottom"]:List Str) by decide +kernel) rfl (Or.inl rfl)),cZ,(aw bo dIC (am af dIx (aa 0) ac (fun _ _=>rfl)) (aw df dIC (aa 1) (am af dIx (aa 0) ac (fun _ _=>rfl))))⟩)) ah)) (aj (aa 1) ao))))))),fun ds q h=>?_⟩
 case hl=>intro ds q h; obtain ⟨rs,M,rfl,_⟩:=h; rfl
 obtain ⟨rs,M,rfl,hl,hn,hM,hp,q0⟩:=h
 refine ⟨fun i ρ=>∃ (B:Int) (v:Option D),ρ=[some (dQs rs),some (.int B),v]∧Com (rs.take i) M B,⟨1,_,rfl,rL M⟩,?_,?_⟩
 ·rintro i d ρ hd ⟨B,v,rfl,hB⟩
  obtain ⟨r,hr,rfl⟩:∃ r,rs[i]? = some r∧dQ r=d:=by rw [List.getElem?_map,Option.map_eq_some_iff] at hd; exact hd
  have hd:=bA r
  have hmem:=List.mem_of_getElem? hr
  have hdp:=Nat.le_of_dvd hM (hn r hmem).2
  have hle:=hB.le hM
  have hB0:=hB.pos
  have g:=dL (n:=B) hd
  have gl:=jD (n:=B) hd
  refine ⟨B,r.den,rfl,Int.le_of_lt hd,?_⟩
  refine ⟨⟨g,Sm.of (n:=3900) (by omega) (by decide)⟩,⟨Sm.of (n:=3900) (Nat.lt_of_le_of_lt (fO g) (by omega)) (by decide),Sm.of (n:=3900) (by omega) (by decide)⟩,?_⟩
  refine ⟨_,_,rfl,?_⟩
  rw [List.take_add_one,hr]
  exact qY hB (hn r hmem).2
 ·rintro ρ ⟨B,v,rfl,hB⟩
  have el:(rs.map dQ).length=rs.length:=List.length_map _
  rw [el,List.take_length] at hB
  have hle:=hB.le hM
  have hB0:=hB.pos
  refine ⟨by rw [el]; omega,?_⟩
  refine bU (sumF B) ?_ ?_
  ·intro d hd k hk
   obtain ⟨r,hr,rfl⟩:=List.mem_map.mp hd
   have hd:=bA r
   have hdp:=Nat.le_of_dvd hM (hn r hr).2
   refine ⟨⟨hd,Sm.of (n:=3900) (by omega) (by decide)⟩,⟨Sm.of (hn r hr).1 (by decide),Sm.of (n:=3900) (Nat.lt_of_le_of_lt (fO hd) (by omega)) (by decide)⟩,?_⟩
   exact hk
  ·rw [pw]
   refine ⟨_,rfl,?_⟩
   refine ⟨_,B,rfl,by omega,Sm.of (n:=3900) (by omega) (by decide),?_⟩
   rw [kC hB0 hB.dv]
   exact q0
theorem vO (T:Txt K mg A) (hB:TabB base mg A.tc A.tP tqS):FnOk P w K mg base CX0 1 A.f_q56 A.d_q56 ["one","other"] (aY [false,false] false (s_)):=by
 have S:=vH
 refine fnD T.t_q56.F S ⟨[false,false],[false,false],false⟩ _ ?hl rfl rfl fun cdv Ar outer s H E hr=>⟨_,(ag (aL (d7 kD dB (aw bo dIC (am af dIx (aa 0) ac (fun _ _=>rfl)) (am af dIx (aa 1) ac (fun _ _=>rfl))) (aw bo dIC (am af dIx (aa 1) ac (fun _ _=>rfl)) (am af dIx (aa 0) ac (fun _ _=>rfl))) (aN _)))),fun ds q h=>?_⟩
 case hl=>intro ds q h; obtain ⟨r,s,rfl,_⟩:=h; rfl
 obtain ⟨r,s,rfl,hr,hs,q0⟩:=h
 refine ⟨⟨hr.smN (by decide),hs.smD (by decide)⟩,⟨hs.smN (by decide),hr.smD (by decide)⟩,?_⟩
 have e:decide (r<s)=decide (r.num * (s.den:Int)<s.num * (r.den:Int)):=decide_eq_decide.mpr (Rat.lt_iff r s)
 rw [e] at q0; exact q0
def sT:SpD:=fun ds q=>∃ a w l,ds=[cr a,ar w,ar l]∧(∀ t∈w,0<t∧t≤(l.length:Int))∧q .non [some (ar (dZ l w a.size))]
theorem vd (T:Txt K mg A) (hB:TabB base mg A.tc A.tP tqS):FnOk P w K mg base CX0 1 A.f_q47 A.d_q47 ["ask","way","load"] (aY [false,false,true] false (sT)):=by
 have S:=vT
 refine fnD T.t_q47.F S ⟨[false,false,true],[false,false,true,false],false⟩ _ ?hl rfl rfl fun cdv Ar outer s H E hr=>⟨_,(ag (bF PassesOwn.never rfl (aX (aa 1)) (aH (i:=3) S.nd rfl (Or.inl rfl)) (ag (sm (i:=2) rfl (am af dIx (aa 0) ac (fun _ _=>rfl)) (aw bd dI (aa 3) ac))))),fun ds q h=>?_⟩
 case hl=>intro ds q h; obtain ⟨a,w,l,rfl,_⟩:=h; rfl
 obtain ⟨a,w,l,rfl,hw,q0⟩:=h
 refine ⟨fun i ρ=>∃ v,ρ=[some (cr a),some (ar w),some (ar (dZ l (w.take i) a.size)),v],⟨_,rfl⟩,?_,?_⟩
 ·rintro i d ρ hd ⟨v,rfl⟩
  obtain ⟨z,hz,rfl⟩:=cR hd
  have hm:=hw z (List.mem_of_getElem? hz)
  have hlen:(dZ l (w.take i) a.size).length=l.length:=fH _ _ _
  refine ⟨by omega,?_⟩
  rw [bi (by omega) (by omega)]
  show (match ixN ((dZ l (w.take i) a.size).map D.int).length (z - 1) with | some _=>_ | none=>False)
  rw [au,fh (by omega) (by omega)]
  refine ⟨some (.int z),?_⟩
  rw [List.take_add_one,hz]
  show _=[_,_,some (ar (dZ l (_++[z]) a.size)),_]
  rw [iI,k9,← i4]; rfl
 ·rintro ρ ⟨v,rfl⟩
  rw [au,List.take_length]
  exact q0
theorem ud (T:Txt K mg A) (hB:TabB base mg A.tc A.tP tqS):FnOk P w K mg base CX0 8 A.f_q19 A.d_q19 ["tree","ask","load"] (aY [false,false,false] true (lu)):=by
 have S:=t6
 refine fnD T.t_q19.F S ⟨[false,false,false],[false,false,false,true],true⟩ _ ?hl rfl rfl fun cdv Ar outer s H E hr=>⟨_,(ae (bC (i:=3) S.nd rfl (Or.inl rfl) (dN bx gK rfl T.z_list ci (ad (aa 2) ah)))
  (ae (cC (aq (vd T hB) hr T.t_q47 (aj (aa 1) (aj (QF.qe (aB (lH T hB) hr T.t_q50 (aj (aa 0) (aj (aa 1) ao)))) (eP 3 ao)))))
  (ag (bn (cf 3))))),fun ds q h=>?_⟩
 case hl=>intro ds q h; obtain ⟨ps,rs,a,l,rfl,_⟩:=h; rfl
 obtain ⟨ps,rs,a,l,rfl,hT,he,hl,q0⟩:=h
 refine ⟨a7 _,?_⟩
 refine ⟨ps,rs,a,rfl,hT,he,?_⟩
 refine ⟨a,aG ps a,l,rfl,fun t ht=>?_,q0⟩
 have hm:=cJ hT he ht
 rw [hl]; exact ⟨by omega,by omega⟩
end
end K31
namespace K31
open PySem L2
section
variable {P:Program} {w:World} {K:PySem.W.Frag} {mg:Str→Option Value} {base:Heap} {A:Adr}
theorem wj (T:Txt K mg A) (hB:TabB base mg A.tc A.tP tqS):FnOk P w K mg base CX0 8 A.f_q27 A.d_q27 ["tree","ask","weight","prices"] (aY [false,false,false,false] false (oH)):=by
 have S:=vZ
 refine fnD T.t_q27.F S ⟨[false,false,false,false],[false,false,false,false,false,false],false⟩ _ ?hl rfl rfl fun cdv Ar outer s H E hr=>⟨_,(ae (aS (i:=4) S.nd rfl (Or.inl rfl) (aq (vt T hB) hr T.t_q49 (aj (cY ["tie"] [3] ⟨rfl,rfl,by decide +kernel,rfl,rfl,(by first | exact trivial | exact ⟨rfl,trivial⟩ | exact ⟨rfl,rfl,trivial⟩ | exact ⟨rfl,rfl,rfl,trivial⟩ | exact ⟨rfl,rfl,rfl,rfl,trivial⟩),rfl⟩ rfl (aX (QF.qe (aB (lH T hB) hr T.t_q50 (aj (aa 0) (aj (aa 1) ao))))) (bu 0) (fun _ _ _ _=>⟨(bc (i:=0) (show List.Nodup (["tie","prices"]:List Str) by decide +kernel) rfl (Or.inl rfl)),cZ,(am af dIx (aa 1) (aw bd dI (aa 0) ac) (fun _ _=>rfl))⟩)) ao)))
  (ae (aS (i:=5) S.nd rfl (Or.inl rfl) (aq (wq T hB) hr T.t_q54 (aj (bg (ad (am af dIx (aa 1) ac (fun _ _=>rfl)) (ad ac ah))) (aj (aq (wF T hB) hr T.t_q55 (aj (bg (ad (aa 2) (ad ac ah))) (aj (aa 4) ao))) ao))))
  (ag (aL (qC (bD (aq (vO T hB) hr T.t_q56 (aj (bg (ad ac (ad ac ah))) (aj (aa 5) ao)))) (aa 5) (bg (ad ac (ad ac ah)))))))),fun ds q h=>?_⟩
 case hl=>intro ds q h; obtain ⟨ps,rs,a,w,prs,M,b,rfl,_⟩:=h; rfl
 obtain ⟨ps,rs,a,w,prs,M,b,rfl,hT,ha,hw0,hw1,hp,M0,hM,hb,q0⟩:=h
 have hwl:=cF hT ha.ends
 have hpl:=hp.len
 obtain ⟨hpa,p0,p1,pd⟩:=nU hT ha.ends hp
 have hpb:Bt (dt ps a prs) (400 + 66):=fF p0 p1 pd M0 hM (Nat.le_trans (Nat.mul_le_mul_left _ hb) (by decide))
 refine ⟨ps,rs,a,rfl,hT,ha.ends,?_⟩
 refine ⟨by rw [au]; exact Nat.le_trans hwl (by decide),?_⟩
 refine bU (qN prs) ?_ ?_
 ·intro d hd k hk
  obtain ⟨t,ht,rfl⟩:=cw hd
  have hm:=cJ hT ha.ends ht
  refine aI (ia (by omega) (by omega)) ?_
  exact hk
 ·rw [lf]
  refine ⟨_,M,rfl,by rw [List.length_map]; exact Nat.le_trans hwl (by decide),fun r hr=>?_,M0,Nat.lt_of_lt_of_le hM (cI (by decide)),?_⟩
  ·obtain ⟨r0,r1,r2⟩:=hp.ok r (hpa r hr)
   exact ⟨(Bt.mono (fF r0 r1 r2 M0 hM hb) (by decide)).num,r2.den M0⟩
  have e1:D.tup [.int w,.int 1]=dQ (w:Rat):=i9 w
  have e2:D.tup [.int a.worth,.int 1]=dQ (a.worth:Rat):=i9 a.worth
  have bw:Bt (w:Rat) 20:=kM 1000000 (by omega) (by decide) (by decide)
  have ba:Bt (a.worth:Rat) 40:=kM 1000000000000 (by have:=ha.w0; have:=ha.w1; omega) (by decide) (by decide)
  have bt:Bt ((w:Rat) * dt ps a prs) 500:=(bw.mul hpb).mono (by decide)
  have bm:Bt ((a.worth:Rat) - (w:Rat) * dt ps a prs) 600:=(ba.sub bt).mono (by decide)
  refine ⟨(w:Rat),dt ps a prs,by rw [← e1]; rfl,bw.mono (by decide),hpb.mono (by decide),?_⟩
  refine ⟨(a.worth:Rat),(w:Rat) * dt ps a prs,by rw [← e2],ba.mono (by decide),bt.mono (by decide),?_⟩
  refine ⟨0,(a.worth:Rat) - (w:Rat) * dt ps a prs,rfl,bt0 (by decide),bm.mono (by decide),?_⟩
  have eq:a9 ps a w prs=h_ ((a.worth:Rat) - (w:Rat) * dt ps a prs):=rfl
  rw [eq] at q0
  unfold h_ at q0
  refine (cy (c:=decide ((0:Rat)<(a.worth:Rat) - (w:Rat) * dt ps a prs)=true) (fun c=>?_) (fun c=>?_))
  ·rw [if_pos (of_decide_eq_true c)] at q0; exact q0
  ·rw [if_neg (fun z=>c (decide_eq_true z))] at q0; exact q0
theorem ok_q2 (T:Txt K mg A) (hB:TabB base mg A.tc A.tP tqS):FnOk P w K mg base CX0 7 A.f_q2 A.d_q2 ["tree","asks"] (aY [false,false] false (rq)):=by
 have S:=sc_q2
 refine fnDc T.t_q2.F T.hc S ⟨[false,false],[false,false,false,false],false⟩ _ ?hl rfl rfl fun Ar outer s H E hr=>⟨_,(ae (aS (i:=2) S.nd rfl (Or.inr rfl) (QF.qe (aB (wd T hB) hr T.t_q38 (aj (aa 0) ao))))
  (ae (aS (i:=3) S.nd rfl (Or.inr rfl) (cY ["ask"] [2,0] ⟨rfl,rfl,by decide +kernel,rfl,rfl,(by first | exact trivial | exact ⟨rfl,trivial⟩ | exact ⟨rfl,rfl,trivial⟩ | exact ⟨rfl,rfl,rfl,trivial⟩ | exact ⟨rfl,rfl,rfl,rfl,trivial⟩),rfl⟩ rfl (aX (aa 1)) (bu 0) (fun _ _ _ _=>⟨(bc (i:=0) (show List.Nodup (["ask","deep","tree"]:List Str) by decide +kernel) rfl (Or.inl rfl)),cZ,(am af dIx (aa 1) (aq (u5 T hB) hr T.t_q13 (aj (aa 2) (aj (am af dIx (aa 0) ac (fun _ _=>rfl)) (aj (am af dIx (aa 0) ac (fun _ _=>rfl)) ao)))) (fun _ _=>rfl))⟩)))
  (ag (aL (ph (j:=3) hr rfl T.z_sorted rfl T.z_range (aJ aA dD rfl T.z_len bB (ad (aa 1) ah)) rfl rfl rfl hB))))),fun ds q h=>?_⟩
 case hl=>intro ds q h; obtain ⟨ps,rs,as,rfl,_⟩:=h; rfl
 obtain ⟨ps,rs,as,rfl,hT,ha,q0⟩:=h
 have hal:=ha.len
 refine ⟨ps,rs,rfl,hT,fun e he=>?_⟩
 have hel:=he.len
 refine ⟨by rw [aR]; omega,?_⟩
 refine bU (metF ps e) ?_ ?_
 ·intro d hd k hk
  obtain ⟨a,hm,rfl⟩:=List.mem_map.mp hd
  have hok:=(ha.ok a hm).ends
  refine ⟨ps,rs,a.one,a.other,rfl,hT,hok,fun w m hw=>?_⟩
  have hmm:=hw.way hT hok.a0 hok.b0 hok.a1 hok.b1
  have hb:=hw.low hT hok.a0 hok.b0 hok.a1 hok.b1
  have ha1:=hok.a1
  refine aI (bi (by omega) (by omega)) ?_
  rw [hmm.2]
  exact hk
 ·rw [pM]
  refine ⟨by rw [aR]; omega,by rw [aR]; omega,dH ps e as,rfl,by rw [aR]; unfold dH; rw [List.length_map]; omega,fun o ho=>?_⟩
  rw [aR] at ho
  exact q0 o ⟨e,he,ho⟩
theorem v_ (T:Txt K mg A) (hB:TabB base mg A.tc A.tP tqS):FnOk P w K mg base CX0 7 A.f_q14 A.d_q14 ["tree","ask","prices","step"] (aY [false,false,true,false] false (sJ)):=by
 have S:=vm
 refine fnD T.t_q14.F S ⟨[false,false,true,false],[false,false,true,false,false],false⟩ _ ?hl rfl rfl fun cdv Ar outer s H E hr=>⟨_,(ag (bF PassesOwn.never rfl (aX (QF.qe (aB (ok_q8 T hB) hr T.t_q8 (aj (aa 0) (aj (am af dIx (aa 1) ac (fun _ _=>rfl)) (aj (am af dIx (aa 1) ac (fun _ _=>rfl)) ao)))))) (aH (i:=4) S.nd rfl (Or.inl rfl)) (ag (eu (i:=2) rfl (QF.bor [2] (QE.qf (aq (wG T hB) hr T.t_q58 (aj (am af dIx (aa 2) (aw bd dI (aa 4) ac) (fun _ _=>rfl)) (aj (aa 3) ao))))) (aw bd dI (aa 4) ac))))),fun ds q h=>?_⟩
 case hl=>intro ds q h; obtain ⟨ps,rs,a,prs,st,M,b,X,rfl,_⟩:=h; rfl
 obtain ⟨ps,rs,a,prs,st,M,b,X,rfl,hT,he,hp,s0,s1,sd,M0,hM,hb,q0⟩:=h
 have hpl:=hp.len
 obtain ⟨t1,t2⟩:=g6 hT he
 refine ⟨ps,rs,a.one,a.other,rfl,hT,he,fun w m hw=>?_⟩
 have hcw:=hw.way hT he.a0 he.b0 he.a1 he.b1
 have et:pH ps w m=a5 ps a:=by unfold pH a5 aG; rw [hcw.1,hcw.2]
 rw [et]
 have hbs:Bt st 460:=fF s0 s1 sd M0 hM (x:=60) (Nat.le_trans (show X≤b + 46 * X by omega) hb)
 refine ⟨fun i ρ=>∃ v,ρ=[some (aK ps rs),some (cr a),some (dQs (ck st prs ((a5 ps a).take i))),some (dQ st),v],⟨_,rfl⟩,?_,?_⟩
 ·rintro i d ρ hd ⟨v,rfl⟩
  obtain ⟨z,hz,rfl⟩:=cR hd
  have hm:=t1 z (List.mem_of_getElem? hz)
  have hP:=PrM.raise s0 s1 sd (w:=(a5 ps a).take i) (fun t ht=>t1 t (List.mem_of_mem_take ht)) hp
  have hlen:=hP.len
  have hbb:b + ((a5 ps a).take i).length * X≤2 ^ 60:=Nat.le_trans (Nat.add_le_add_left (Nat.mul_le_mul_right _ (by rw [List.length_take]; omega)) _) hb
  obtain ⟨o0,o1,o2⟩:=hP.ok _ (dc (rs:=ck st prs ((a5 ps a).take i)) (k:=(z - 1).toNat) (by omega))
  refine aI (ia (by omega) (by omega)) ?_
  refine ⟨_,st,rfl,(fF o0 o1 o2 M0 hM hbb).mono (by decide),hbs.mono (by decide),?_⟩
  refine ⟨rfl,?_⟩
  show (match ixN ((ck st prs ((a5 ps a).take i)).map dQ).length (z - 1) with | some _=>_ | none=>False)
  rw [List.length_map,fh (by omega) (by omega)]
  refine ⟨some (.int z),?_⟩
  rw [List.take_add_one,hz]
  show _=[_,_,some (dQs (ck st prs (_++[z]))),_,_]
  rw [gE,← gQ]; rfl
 ·rintro ρ ⟨v,rfl⟩
  rw [au,List.take_length]
  exact q0
theorem vh (T:Txt K mg A) (hB:TabB base mg A.tc A.tP tqS):FnOk P w K mg base CX0 1 A.f_q34 A.d_q34 ["tree","ask","way","load"] (aY [false,false,false,false] true (oM)):=by
 have S:=wt
 refine fnD T.t_q34.F S ⟨[false,false,false,false],[false,false,false,false],true⟩ _ ?hl rfl rfl fun cdv Ar outer s H E hr=>⟨_,(ag (bn (QF.qm (gS ["tie"] [3,1,0] ⟨rfl,rfl,by decide +kernel,rfl,rfl,(by first | exact trivial | exact ⟨rfl,trivial⟩ | exact ⟨rfl,rfl,trivial⟩ | exact ⟨rfl,rfl,rfl,trivial⟩ | exact ⟨rfl,rfl,rfl,rfl,trivial⟩),rfl⟩ rfl (aX (aa 2)) (bu 0) (fun _ _ _ _=>⟨(bc (i:=0) (show List.Nodup (["tie","load","ask","tree"]:List Str) by decide +kernel) rfl (Or.inl rfl)),(dz (aW ik dB (aw bI dI (am af dIx (aa 1) (aw bd dI (aa 0) ac) (fun _ _=>rfl)) (am af dIx (aa 2) ac (fun _ _=>rfl))) (am af dIx (am af dIx (aa 3) ac (fun _ _=>rfl)) (aw bd dI (aa 0) ac) (fun _ _=>rfl)) (aN _))),(aa 0)⟩))))),fun ds q h=>?_⟩
 case hl=>intro ds q h; obtain ⟨ps,rs,a,w,l,rfl,_⟩:=h; rfl
 obtain ⟨ps,rs,a,w,l,rfl,hT,hw,hwl,hl,q0⟩:=h
 have hlr:=hT.len
 refine ⟨by rw [au]; omega,?_⟩
 refine cL (gw rs a.size l) ?_ ?_
 ·intro d hd k hk
  obtain ⟨t,ht,rfl⟩:=cw hd
  have hm:=hw t ht
  refine aI (bi (by omega) (by omega)) ?_
  refine aI (bi (by omega) (by omega)) ?_
  have e:gw rs a.size l (.int t)=if decide (rs.getD (t - 1).toNat 0<l.getD (t - 1).toNat 0 + a.size)=true then some (.int t) else none:=rfl
  rw [e] at hk
  show if decide (rs.getD (t - 1).toNat 0<l.getD (t - 1).toNat 0 + a.size)=true then k (some (.int t)) else k none
  by_cases h:decide (rs.getD (t - 1).toNat 0<l.getD (t - 1).toNat 0 + a.size)=true
  ·rw [if_pos h] at hk ⊢; exact hk
  ·rw [if_neg h] at hk ⊢; exact hk
 ·rw [fu]
  exact ⟨a7 _,q0⟩
theorem uf (T:Txt K mg A) (hB:TabB base mg A.tc A.tP tqS):FnOk P w K mg base CX0 8 A.f_q20 A.d_q20 ["tree","ask","load"] (aY [false,false,false] true (lE)):=by
 have S:=uJ
 refine fnD T.t_q20.F S ⟨[false,false,false],[false,false,false],true⟩ _ ?hl rfl rfl fun cdv Ar outer s H E hr=>⟨_,(ag (bn (QF.qm (aB (vh T hB) hr T.t_q34 (aj (aa 0) (aj (aa 1) (aj (QF.qe (aB (lH T hB) hr T.t_q50 (aj (aa 0) (aj (aa 1) ao)))) (aj (aa 2) ao)))))))),fun ds q h=>?_⟩
 case hl=>intro ds q h; obtain ⟨ps,rs,a,l,rfl,_⟩:=h; rfl
 obtain ⟨ps,rs,a,l,rfl,hT,he,hl,q0⟩:=h
 refine ⟨ps,rs,a,rfl,hT,he,?_⟩
 exact ⟨ps,rs,a,aG ps a,l,rfl,hT,fun t ht=>cJ hT he ht,Nat.le_trans (cF hT he) (by decide),hl,q0⟩
theorem vV (T:Txt K mg A) (hB:TabB base mg A.tc A.tP tqS):FnOk P w K mg base CX0 9 A.f_q35 A.d_q35 ["tree","asks","terms"] (aY [false,false,false] true (t5)):=by
 have S:=vI
 refine fnD T.t_q35.F S ⟨[false,false,false],[false,false,false,true,true,true,false,false,false],true⟩ _ ?hl rfl rfl fun cdv Ar outer s H E hr=>⟨_,(ae (bC (i:=3) S.nd rfl (Or.inl rfl) (qX gj nq (bp (ad (bg (ad ac (ad ac ah))) ah)) (aJ aA dD rfl T.z_len bB (ad (am af dIx (aa 0) ac (fun _ _=>rfl)) ah))))
  (ae (bC (i:=4) S.nd rfl (Or.inl rfl) (qX gj nq (bp (ad (bg (ad ac (ad ac ah))) ah)) (aJ aA dD rfl T.z_len bB (ad (aa 1) ah))))
  (ae (bC (i:=5) S.nd rfl (Or.inl rfl) (dj ah))
  (ae (bF PassesOwn.never rfl (aX (aq (ok_q2 T hB) hr T.t_q2 (aj (aa 0) (aj (aa 1) ao)))) (aH (i:=6) S.nd rfl (Or.inl rfl)) (ag (bv (aW sS dNotN (am af dIx (aa 2) (aa 6) (fun _ _=>rfl)) iu (aN _)) (ae (gr (am af dIx (aa 2) (aa 6) (fun _ _=>rfl)) (dA rfl (aV (aH (i:=7) S.nd rfl (Or.inl rfl)) (aV (aH (i:=8) S.nd rfl (Or.inl rfl)) cK)) (ax (ax bq))))
  (ae (iw (eu (i:=4) rfl (QF.bor [3] (QE.qf (aq (wj T hB) hr T.t_q27 (aj (aa 0) (aj (am af dIx (aa 1) (aa 6) (fun _ _=>rfl)) (aj (aa 7) (aj (aa 3) ao))))))) (aa 6)))
  (ag (bv (QT.bor [4] (aW (bZ hr.units) dNe (am af dIx (aa 4) (aa 6) (fun _ _=>rfl)) (bg (ad ac (ad ac ah))) (aN _))) (ae (bR (i:=5) rfl (QE.qf (aa 6)))
  (ag (cC (QE.bor [4] (aq (v_ T hB) hr T.t_q14 (aj (aa 0) (aj (am af dIx (aa 1) (aa 6) (fun _ _=>rfl)) (eP 3 (aj (aq (wH T hB) hr T.t_q48 (aj (am af dIx (aa 4) (aa 6) (fun _ _=>rfl)) (aj (bg (ad (aa 8) (ad ac ah))) ao))) ao))))))))) aT)))) aT)))
  (ag (bn (ig (br (cf 5) (br (cf 3) (br (cf 4) e7)))))))))),fun ds q h=>?_⟩
 case hl=>intro ds q h; obtain ⟨ps,rs,as,ts,rfl,_⟩:=h; rfl
 obtain ⟨ps,rs,as,ts,rfl,hT,ha,htl,hts,q0⟩:=h
 have hal:=ha.len
 have hti:=hT.hi
 refine ⟨⟨by rw [au]; omega,by rw [au]; omega,by rw [au]; simp; omega⟩,?_⟩
 rw [au,dR,Int.toNat_natCast]
 have ez:∀ n:Nat,List.replicate n (D.tup [.int 0,.int 1])=(List.replicate n (0:Rat)).map dQ:=fun n=>by rw [List.map_replicate]; rfl
 rw [ez]
 refine ⟨eR _,?_⟩
 refine ⟨⟨by rw [aR]; omega,by rw [aR]; omega,by rw [aR]; simp; omega⟩,?_⟩
 rw [aR,dR,Int.toNat_natCast,ez]
 refine ⟨eR _,?_⟩
 refine ⟨rfl,?_⟩
 refine ⟨ps,rs,as,rfl,hT,ha,fun o ho=>?_⟩
 obtain ⟨hol,hor⟩:=ho.mem
 refine ⟨fun i ρ=>∃ v6 v7 v8,ρ=[some (aK ps rs),some (bh as),some (lY ts),some (dQs (a6 ps as ts (o.take i)).prs),some (dQs (a6 ps as ts (o.take i)).rests),some (ar (a6 ps as ts (o.take i)).pile),v6,v7,v8],⟨_,_,_,rfl⟩,?_,?_⟩
 ·rintro i d ρ hd ⟨v6,v7,v8,rfl⟩
  obtain ⟨z,hz,rfl⟩:=cR hd
  have hz1:=hor z (List.mem_of_getElem? hz)
  have hil:i<o.length:=(List.getElem?_eq_some_iff.mp hz).1
  have hP:=gx hT ha hts hor i (Nat.le_of_lt hil)
  have es:a6 ps as ts (o.take (i + 1))=eA ps as ts (a6 ps as ts (o.take i)) z:=by rw [List.take_add_one,hz]; exact fw ..
  generalize hS:a6 ps as ts (o.take i)=S at hP es
  obtain ⟨rl,pl,pm,M,M0,hM,hM2⟩:=hP
  have hM':M<2 ^ 400:=Nat.lt_of_le_of_lt hM (Nat.lt_of_le_of_lt (Nat.pow_le_pow_right (n:=64) (by decide) (show i≤30 by omega)) (by decide))
  have hb':i * 46000000000000≤2 ^ 60:=Nat.le_trans (Nat.mul_le_mul_right _ (show i≤30 by omega)) (by decide)
  have htm:atI (ts.map jW) z=some (jW (ts.getD z.toNat none)):=by
   refine jO (f:=jW) ?_
   have e:z=((z.toNat:Nat):Int):=by omega
   have h:atI ts ((z.toNat:Nat):Int)=some (ts.getD z.toNat none):=f7 (by rw [List.getD_eq_getElem?_getD,List.getElem?_eq_getElem (by omega)]; rfl)
   rw [← e] at h; exact h
  refine aI htm ?_
  have hat:=eK (as:=as) hz1.1 hz1.2
  cases htz:ts.getD z.toNat none with
  | none =>
   have es':eA ps as ts S z=S:=by unfold eA; rw [htz]
   rw [es'] at es
   refine ⟨some (.int z),v7,v8,?_⟩
   rw [es]; rfl
  | some wp =>
   obtain ⟨w,p⟩:=wp
   rw [htz] at htm
   have es':eA ps as ts S z=dh ps as S z w p:=by unfold eA; rw [htz]
   rw [es'] at es
   have hok:=eh ha hz1.1 hz1.2
   have hwp:=hts w p (by
    rw [List.getD_eq_getElem?_getD] at htz
    cases q:ts[z.toNat]? with
    | none=>rw [q] at htz; cases htz
    | some x=>rw [q] at htz; cases htz; exact List.mem_of_getElem? q)
   have hpl:=hM2.len
   obtain ⟨x0,x1,x2⟩:=jH hT hok hwp.1 hM2
   have hrs:(S.rests.set z.toNat (a9 ps (ay as z) w S.prs)).getD z.toNat 0=a9 ps (ay as z) w S.prs:=by rw [List.getD_eq_getElem?_getD,List.getElem?_set_self (by omega)]; rfl
   have hra:atI ((S.rests.set z.toNat (a9 ps (ay as z) w S.prs)).map dQ) z=some (dQ (a9 ps (ay as z) w S.prs)):=by
    have:=ia (rs:=S.rests.set z.toNat (a9 ps (ay as z) w S.prs)) (i:=z) hz1.1 (by rw [List.length_set]; omega)
    rw [hrs] at this; exact this
   refine aI htm ?_
   refine ⟨fun ρ=>ρ=[some (aK ps rs),some (bh as),some (lY ts),some (dQs S.prs),some (dQs (S.rests.set z.toNat (a9 ps (ay as z) w S.prs))),some (ar S.pile),some (.int z),some (.int w),some (.int p)],?_,?_⟩
   ·refine aI hat ?_
    refine ⟨ps,rs,ay as z,w,S.prs,M,_,rfl,hT,hok,hwp.1,hwp.2.1,hM2,M0,hM',hb',?_⟩
    refine ⟨rfl,?_⟩
    show (match ixN (S.rests.map dQ).length z with | some _=>_ | none=>False)
    rw [List.length_map,fh (by omega) (by omega)]
    show _=_
    rw [← gQ]; rfl
   ·rintro ρ rfl
    refine aI hra ?_
    refine ⟨oI _,oI 0,?_⟩
    have e0:(!eqD (dQ (a9 ps (ay as z) w S.prs)) (dQ 0)) = !decide (a9 ps (ay as z) w S.prs=0):=by rw [eqDq]
    refine (cy (c:=(!eqD (dQ (a9 ps (ay as z) w S.prs)) (dQ 0))=true) (fun c=>?_) (fun c=>?_))
    ·rw [e0] at c
     have c':a9 ps (ay as z) w S.prs≠0:=by simpa using c
     have ep:dh ps as S z w p=⟨S.pile++[z],ck (a9 ps (ay as z) w S.prs / (p:Rat)) S.prs (a5 ps (ay as z)),S.rests.set z.toNat (a9 ps (ay as z) w S.prs)⟩:=by unfold dh; rw [if_neg c']
     rw [ep] at es
     have hp1:D.tup [.int p,.int 1]=dQ (p:Rat):=i9 p
     have hp0:(p:Rat)≠0:=fun h=>by have:=Rat.intCast_eq_zero_iff.mp h; omega
     have bs:=fF x0 x1 x2 M0 hM' (x:=60) (by decide)
     obtain ⟨d0,d1⟩:=lh x0 x1 hwp.2.2.1
     have hd:DvM (a9 ps (ay as z) w S.prs / (p:Rat)) (M * p.toNat):=by
      have:=x2.div (n:=p.toNat) (by omega)
      rw [show ((p.toNat:Nat):Int)=p by omega] at this
      exact this
     have hi2:i + 1≤31:=by omega
     have hMp:M * p.toNat<2 ^ 400:=Nat.lt_of_le_of_lt (Nat.mul_le_mul hM (show p.toNat≤64 by omega)) (Nat.lt_of_le_of_lt (show 64 ^ i * 64≤64 ^ 31 by rw [← Nat.pow_succ]; exact Nat.pow_le_pow_right (by decide) hi2) (by decide))
     refine ⟨rfl,by rw [au]; omega,?_⟩
     refine aI hat ?_
     refine aI hra ?_
     refine ⟨a9 ps (ay as z) w S.prs,(p:Rat),by rw [← hp1],bs.mono (by decide),(kM (n:=10) 64 (by omega) (by decide) (by decide)).mono (by decide),hp0,?_⟩
     refine ⟨ps,rs,ay as z,S.prs,_,M * p.toNat,i * 46000000000000,1000000000000,rfl,hT,hok.ends,hM2.up _,d0,d1,hd,Nat.mul_pos M0 (by omega),hMp,Nat.le_trans (Nat.add_le_add_right (Nat.mul_le_mul_right _ (show i≤30 by omega)) _) (by decide),?_⟩
     refine ⟨rfl,some (.int z),some (.int w),some (.int p),?_⟩
     rw [es]
     show _=[_,_,_,_,_,some (ar (S.pile++[z])),_,_,_]
     rw [← cG]; rfl
    ·rw [e0] at c
     have c':a9 ps (ay as z) w S.prs=0:=by simpa using c
     have ep:dh ps as S z w p=⟨S.pile,S.prs,S.rests.set z.toNat (a9 ps (ay as z) w S.prs)⟩:=by unfold dh; rw [if_pos c']
     rw [ep] at es
     refine ⟨some (.int z),some (.int w),some (.int p),?_⟩
     rw [es]
 ·rintro ρ ⟨v6,v7,v8,rfl⟩
  rw [au,List.take_length]
  exact q0 o ho
theorem ok_q1 (T:Txt K mg A) (hB:TabB base mg A.tc A.tP tqS):FnOk P w K mg base CX0 9 A.f_q1 A.d_q1 ["tree","asks","pile"] (aY [false,false,false] true (oN)):=by
 have S:=sc_q1
 refine fnD T.t_q1.F S ⟨[false,false,false],[false,false,false,false,true,false],true⟩ _ ?hl rfl rfl fun cdv Ar outer s H E hr=>⟨_,(ae (aS (i:=3) S.nd rfl (Or.inl rfl) (iQ gj nq (bp (ad ac ah)) (aJ aA dD rfl T.z_len bB (ad (am af dIx (aa 0) ac (fun _ _=>rfl)) ah))))
  (ae (bC (i:=4) S.nd rfl (Or.inl rfl) (dj ah))
  (ae (bF PassesOwn.never rfl (vF rfl T.z_reversed (ad (aa 2) ah)) (aH (i:=5) S.nd rfl (Or.inl rfl)) (ag (bv (bJ (qq (QF.qe (aB (uf T hB) hr T.t_q20 (aj (aa 0) (aj (am af dIx (aa 1) (aa 5) (fun _ _=>rfl)) (aj (aa 3) ao))))))) (ae (bR (i:=4) rfl (QE.qf (aa 5)))
  (ag (aS (i:=3) S.nd rfl (Or.inl rfl) (QF.qe (aB (ud T hB) hr T.t_q19 (aj (aa 0) (aj (am af dIx (aa 1) (aa 5) (fun _ _=>rfl)) (aj (aa 3) ao)))))))) aT)))
  (ag (bn (QF.qm (QF.bor [4] (eJ cW jC rfl T.z_sorted de (ad (aa 4) ah))))))))),fun ds q h=>?_⟩
 case hl=>intro ds q h; obtain ⟨ps,rs,as,p,rfl,_⟩:=h; rfl
 obtain ⟨ps,rs,as,p,rfl,hT,ha,hpl,hpm,q0⟩:=h
 have hal:=ha.len
 have hti:=hT.hi
 refine ⟨⟨by rw [au]; omega,by rw [au]; omega,by rw [au]; simp; omega⟩,?_⟩
 rw [au,dR,Int.toNat_natCast,nF]
 refine ⟨rfl,?_⟩
 refine ⟨fun i ρ=>∃ v5,ρ=[some (aK ps rs),some (bh as),some (ar p),some (ar (bM ps rs as (p.reverse.take i)).load),some (ar (bM ps rs as (p.reverse.take i)).keep),v5],⟨_,rfl⟩,?_,?_⟩
 ·rintro i d ρ hd ⟨v5,rfl⟩
  obtain ⟨z,hz,rfl⟩:=cR (ns:=p.reverse) (by rw [List.map_reverse]; exact hd)
  have hil:i<p.reverse.length:=(List.getElem?_eq_some_iff.mp hz).1
  have hz1:=hpm z (List.mem_reverse.mp (List.mem_of_getElem? hz))
  obtain ⟨l1,l2,l3⟩:=dF ps rs as p.reverse i (Nat.le_of_lt hil)
  have es:bM ps rs as (p.reverse.take (i + 1))=ix ps rs as (bM ps rs as (p.reverse.take i)) z:=by rw [List.take_add_one,hz]; exact fD ..
  generalize hS:bM ps rs as (p.reverse.take i)=S at l1 l2 l3 es
  rw [List.length_reverse] at hil
  have hat:=eK (as:=as) hz1.1 hz1.2
  have hok:=eh ha hz1.1 hz1.2
  refine aI hat ?_
  refine ⟨ps,rs,ay as z,S.load,rfl,hT,hok.ends,l1,?_⟩
  have ef:ix ps rs as S z=if eW rs (ay as z).size (aG ps (ay as z)) S.load=[] then ⟨dZ S.load (aG ps (ay as z)) (ay as z).size,S.keep++[z]⟩ else S:=rfl
  rw [ef] at es
  cases ho:eW rs (ay as z).size (aG ps (ay as z)) S.load with
  | nil =>
   rw [ho,if_pos rfl] at es
   refine ⟨rfl,by rw [au]; omega,?_⟩
   refine aI hat ?_
   refine ⟨ps,rs,ay as z,S.load,rfl,hT,hok.ends,l1,?_⟩
   refine ⟨some (.int z),?_⟩
   rw [es]
   show _=[_,_,_,_,some (ar (S.keep++[z])),_]
   rw [← cG]; rfl
  | cons t ts =>
   rw [ho,if_neg (by simp)] at es
   refine ⟨some (.int z),?_⟩
   rw [es]; rfl
 ·rintro ρ ⟨v5,rfl⟩
  obtain ⟨l1,l2,l3⟩:=dF ps rs as p.reverse p.reverse.length (Nat.le_refl _)
  rw [show ((p.map D.int).reverse).length=p.reverse.length by simp]
  rw [List.take_length] at l1 l2 l3 ⊢
  rw [List.length_reverse] at l2
  refine ⟨_,rfl,by omega,?_⟩
  exact ⟨a7 _,q0⟩
end
end K31
namespace K31
open PySem L2
section
variable {P:Program} {w:World} {K:PySem.W.Frag} {mg:Str→Option Value} {base:Heap} {A:Adr}
def rD:SpD:=fun ds q=>∃ (ps:List Int) (k:Int),ds=[aK ps (List.replicate ps.length k)]∧Tree ps (List.replicate ps.length k)∧k≤60∧q (.int k) []
theorem ok_q9 (T:Txt K mg A) (hB:TabB base mg A.tc A.tP tqS):FnOk P w K mg base CX0 3 A.f_q9 A.d_q9 ["tree"] (aY [false] false (rD)):=by
 have S:=sc_q9
 refine fnD T.t_q9.F S ⟨[false],[false,false],false⟩ _ ?hl rfl rfl fun cdv Ar outer s H E hr=>⟨_,(ae (aS (i:=1) S.nd rfl (Or.inl rfl) (am af dIx (am af dIx (aa 0) ac (fun _ _=>rfl)) ac (fun _ _=>rfl)))
  (ae (bv (QW.qt (eV (aW ik dB (aa 1) (dG (i:=60) rfl T.c_MOST_COMMON_ROOM) (aN _)) (dC (aW (bZ hr.units) dNe (am af dIx (aa 0) ac (fun _ _=>rfl)) (iQ gj nq (bp (ad (aa 1) ah)) (aJ aA dD rfl T.z_len bB (ad (am af dIx (aa 0) ac (fun _ _=>rfl)) ah))) (aN _))))) (ag b_) aT)
  (ag (aL (aa 1))))),fun ds q h=>?_⟩
 case hl=>intro ds q h; obtain ⟨ps,k,rfl,_⟩:=h; rfl
 obtain ⟨ps,k,rfl,hT,h60,q0⟩:=h
 have h1:=hT.lo
 have h2:=hT.hi
 have e:(List.replicate ps.length k).getD (0:Int).toNat 0=k:=by rw [List.getD_eq_getElem?_getD,List.getElem?_replicate,if_pos (by omega)]; rfl
 have hat:=bi (ns:=List.replicate ps.length k) (k:=0) (by decide) (by rw [List.length_replicate]; omega)
 rw [e] at hat
 refine aI hat ?_
 refine (cy (c:=decide (60<k)=true) (fun c=>absurd (of_decide_eq_true c) (by omega)) (fun c=>?_))
 refine ⟨⟨by rw [au,List.length_replicate]; omega,by rw [au,List.length_replicate]; omega,by rw [au,List.length_replicate]; simp; omega⟩,?_⟩
 rw [au,dR,Int.toNat_natCast,List.length_replicate]
 rw [show List.replicate ps.length (D.int k)=(List.replicate ps.length k).map D.int by rw [List.map_replicate]]
 refine ⟨cx _,cx _,?_⟩
 refine (cy (c:=(!eqD (ar (List.replicate ps.length k)) (ar (List.replicate ps.length k)))=true) (fun c=>?_) (fun c=>q0))
 rw [eqDi,decide_eq_true rfl] at c; cases c
def r9:SpD:=fun ds q=>∃ (as:List Ask),ds=[bh as]∧(∀ a∈as,a.size=1)∧q .non []
theorem ok_q6 (T:Txt K mg A) (hB:TabB base mg A.tc A.tP tqS):FnOk P w K mg base CX0 3 A.f_q6 A.d_q6 ["asks"] (aY [false] false (r9)):=by
 have S:=sc_q6
 refine fnD T.t_q6.F S ⟨[false],[false,false,false],false⟩ _ ?hl rfl rfl fun cdv Ar outer s H E hr=>⟨_,(ag (bF PassesOwn.never rfl (gO rfl T.z_enumerate (ad (aa 0) ah)) (dA rfl (aV (aH (i:=1) S.nd rfl (Or.inl rfl)) (aV (aH (i:=2) S.nd rfl (Or.inl rfl)) cK)) (ax (ax bq))) (ag (bv (aW (bZ hr.units) dNe (am af dIx (aa 2) ac (fun _ _=>rfl)) ac (aN _)) (ag b_) aT)))),fun ds q h=>?_⟩
 case hl=>intro ds q h; obtain ⟨as,rfl,_⟩:=h; rfl
 obtain ⟨as,rfl,ha,q0⟩:=h
 refine ⟨fun _ ρ=>∃ v1 v2,ρ=[some (bh as),v1,v2],⟨_,_,rfl⟩,?_,?_⟩
 ·rintro i d ρ hd ⟨v1,v2,rfl⟩
  obtain ⟨d',hd',rfl⟩:=fW hd
  obtain ⟨a,hr,rfl⟩:=mO hd'
  have:=ha a (List.mem_of_getElem? hr)
  refine (cy (c:=(!decide (a.size=1))=true) (fun c=>absurd c (by rw [this]; decide)) (fun c=>?_))
  exact ⟨_,_,rfl⟩
 ·rintro ρ ⟨v1,v2,rfl⟩
  exact q0
theorem jR {k:Int} {as:List Ask} (k1 : 1≤k) (k60:k≤60):fM (alT k as):=fun w p hm=>by
 have:=List.eq_of_mem_replicate hm
 cases this
 exact ⟨by decide,by decide,k1,by omega⟩
structure AlK (ps:List Int) (k:Int) (as:List Ask):Prop where
 t:Tree ps (List.replicate ps.length k)
 k0 : 1≤k
 k60:k≤60
 a:AsksOk ps as
 s:∀ a∈as,a.size=1
def qM:SpD:=fun ds q=>∃ (ps:List Int) (k:Int) (as:List Ask),ds=[aK ps (List.replicate ps.length k),bh as]∧AlK ps k as∧∀ o,ev ps as o →
 q (.tup [ar (bH (bM ps (List.replicate ps.length k) as (a6 ps as (alT k as) o).pile.reverse).keep),dQs (a6 ps as (alT k as) o).prs,dQs (a6 ps as (alT k as) o).rests]) []
theorem jJ (T:Txt K mg A) (hB:TabB base mg A.tc A.tP tqS):FnOk P w K mg base CX0 10 A.f_q12 A.d_q12 ["tree","asks"] (aY [false,false] true (qM)):=by
 have S:=tY
 refine fnD T.t_q12.F S ⟨[false,false],[false,false,false,false,true,true],true⟩ _ ?hl rfl rfl fun cdv Ar outer s H E hr=>⟨_,(ae (cC (aq (ok_q4 T hB) hr T.t_q4 (aj (aa 0) (aj (aa 1) ao))))
  (ae (aS (i:=2) S.nd rfl (Or.inl rfl) (aq (ok_q9 T hB) hr T.t_q9 (aj (aa 0) ao)))
  (ae (cC (aq (ok_q6 T hB) hr T.t_q6 (aj (aa 1) ao)))
  (ae (l_ rfl (QF.qm (aB (vV T hB) hr T.t_q35 (aj (aa 0) (aj (aa 1) (aj (iQ gj nq (bp (ad (bg (ad ac (ad (aa 2) ah))) ah)) (aJ aA dD rfl T.z_len bB (ad (aa 1) ah))) ao))))) (oR (i:=3) S.nd rfl (Or.inl rfl) (jf (i:=4) S.nd rfl (Or.inl rfl) (jf (i:=5) S.nd rfl (Or.inl rfl) mN))) (ax (ax (ax bq))))
  (ag (bn (ig (br (QF.qm (aB (ok_q1 T hB) hr T.t_q1 (aj (aa 0) (aj (aa 1) (aj (aa 3) ao))))) (br (cf 4) (br (cf 5) e7)))))))))),fun ds q h=>?_⟩
 case hl=>intro ds q h; obtain ⟨ps,k,as,rfl,_⟩:=h; rfl
 obtain ⟨ps,k,as,rfl,hk,q0⟩:=h
 have hal:=hk.a.len
 have hk0:=hk.k0
 refine ⟨ps,_,as,rfl,hk.t,hk.a,?_⟩
 refine ⟨ps,k,rfl,hk.t,hk.k60,?_⟩
 refine ⟨as,rfl,hk.s,?_⟩
 refine ⟨⟨by rw [aR]; omega,by rw [aR]; omega,by rw [aR]; simp; omega⟩,?_⟩
 rw [aR,dR,Int.toNat_natCast]
 have et:List.replicate as.length (D.tup [.int 1,.int k])=(alT k as).map jW:=by unfold alT; rw [List.map_replicate]; rfl
 rw [et]
 refine ⟨ps,_,as,alT k as,rfl,hk.t,hk.a,by unfold alT; rw [List.length_replicate],jR hk.k0 hk.k60,fun o ho=>?_⟩
 have q1:=q0 o ho
 obtain ⟨hol,hor⟩:=ho.mem
 have hP:=gx hk.t hk.a (jR (as:=as) hk.k0 hk.k60) hor o.length (Nat.le_refl _)
 rw [List.take_length] at hP
 have hpl:=hP.pl
 refine ⟨ps,_,as,_,rfl,hk.t,hk.a,by omega,hP.pm,?_⟩
 exact q1
end
end K31
namespace K31
open PySem L2
section
variable {P:Program} {w:World} {K:PySem.W.Frag} {mg:Str→Option Value} {base:Heap} {A:Adr}
theorem vk (T:Txt K mg A) (hB:TabB base mg A.tc A.tP tqS):FnOk P w K mg base CX0 1 A.f_q15 A.d_q15 ["_law_script","_law_k"] (aY [false,false] false (wm K)):=by
 have S:=uc
 refine fnD T.t_q15.F S ⟨[false,false],[false,false],false⟩ _ ?hl rfl rfl fun cdv Ar outer s H E hr=>⟨_,(ae (bv (aW kD dB (aa 1) (aJ aA dD rfl T.z_len bB (ad (aa 0) ah)) (aN _)) (ag (aL (am af dIx (aa 0) (aa 1) (fun _ _=>rfl)))) aT)
  (ag (aL ac))),fun ds q h=>?_⟩
 case hl=>intro ds q h; obtain ⟨φ,ns,k,rfl,_⟩:=h; rfl
 obtain ⟨φ,ns,k,rfl,hφ,h0,q0⟩:=h
 refine ⟨hφ,?_⟩
 refine (cy (c:=decide (k<(ns.length:Int))=true) (fun c=>?_) (fun c=>?_))
 ·have c':k<ns.length:=by simpa using c
  refine ⟨hφ,?_⟩
  show (match atI ns k with | some n=>q (.int n) [] | none=>False)
  rw [uC h0 c']; exact q0
 ·have c':ns.length≤k.toNat:=by simp at c; omega
  have e:l5 ns k=0:=by unfold l5; rw [List.getD_eq_getElem?_getD,List.getElem?_eq_none c']; rfl
  rw [e] at q0; exact q0
theorem uI (T:Txt K mg A) (hB:TabB base mg A.tc A.tP tqS):FnOk P w K mg base CX0 2 A.f_q44 A.d_q44 ["_law_script","_law_k"] (aY [false,false] true (uO K)):=by
 have S:=vU
 refine fnD T.t_q44.F S ⟨[false,false],[false,false,false,false],true⟩ _ ?hl rfl rfl fun cdv Ar outer s H E hr=>⟨_,(ae (aS (i:=2) S.nd rfl (Or.inl rfl) (aq (vk T hB) hr T.t_q15 (aj (aa 0) (aj (aa 1) ao))))
  (ae (aS (i:=3) S.nd rfl (Or.inl rfl) (aw bI dI (aw bI dI (aw bI dI (aw eE dIC (aw dE dIC (aa 2) ac) ac) (aw eE dIC (aw eE dIC ac (aa 1)) (aa 1))) (aw eE dIC ac (aa 1))) ac))
  (ae (bv (aW kD dB (aa 2) (aw jN dIC ac ac) (aN _)) (ag (aS (i:=2) S.nd rfl (Or.inl rfl) ac)) aT)
  (ag (bn (QF.qm (dj (ad (aa 2) (ad (aw dE dIC (aa 3) ac) ah))))))))),fun ds q h=>?_⟩
 case hl=>intro ds q h; obtain ⟨φ,ns,k,rfl,_⟩:=h; rfl
 obtain ⟨φ,ns,k,rfl,hφ,h0,h1,q0⟩:=h
 refine ⟨φ,ns,k,rfl,hφ,h0,?_⟩
 generalize l5 ns k=z
 refine ⟨(show (0:Int)<2147483629 by decide),Or.inr ⟨by decide,by decide⟩,Or.inl ⟨by decide,by decide⟩,Or.inr ⟨by omega,by omega⟩,Or.inl ⟨by decide,by decide⟩,?_⟩
 refine ⟨⟨by decide,by decide,by decide⟩,?_⟩
 refine (cy (c:=decide (z<10 ^ 18)=true) (fun c=>?_) (fun c=>?_))
 ·exact ⟨(show (0:Int)<2147483647 by decide),rfl,q0 _ _ (Int.le_refl 0)⟩
 ·have c':(10:Int) ^ 18≤z:=by simpa using c
  exact ⟨(show (0:Int)<2147483647 by decide),rfl,q0 _ _ (by omega)⟩
theorem cH (T:Txt K mg A) (hB:TabB base mg A.tc A.tP tqS):FnOk P w K mg base CX0 1 A.f_q45 A.d_q45 ["_law_pool_here","_law_many"] (aY [true,false] false (uM)):=by
 have S:=uW
 refine fnD T.t_q45.F S ⟨[true,false],[true,false,false,false,false],false⟩ _ ?hl rfl rfl fun cdv Ar outer s H E hr=>⟨_,(ae (bv (QT.bor [0] (aW ik dB (am af dIx (aa 0) ac (fun _ _=>rfl)) ac (aN _))) (ae (aS (i:=2) S.nd rfl (Or.inl rfl) (QE.bor [0] (aw dE dIC (am af dIx (aa 0) ac (fun _ _=>rfl)) (aa 1))))
  (ae (eu (i:=0) rfl (QF.bor [0] (QE.qf (aw df dIC (am af dIx (aa 0) ac (fun _ _=>rfl)) (aa 1)))) ac)
  (ag (aL (aa 2))))) aT)
  (ae (aS (i:=3) S.nd rfl (Or.inl rfl) ac)
  (ae (bF PassesOwn.never rfl (fe rfl T.z_range (ad (aw bI dI ac (aw eE dIC ac (i8 iD tQ rfl T.z_int jm (ad (d7 ik dB (aa 1) (aw jN dIC ac ac) (aN _)) ah)))) ah)) (aH (i:=4) S.nd rfl (Or.inl rfl)) (ae (eu (i:=0) rfl (QF.bor [0] (QE.qf (aw dE dIC (aw bI dI (aw eE dIC (am af dIx (aa 0) ac (fun _ _=>rfl)) ac) ac) ac))) ac)
  (ag (aS (i:=3) S.nd rfl (Or.inl rfl) (QE.bor [0] (aw bI dI (aw eE dIC (aa 3) ac) (aw dE dIC (aw eE dIC (am af dIx (aa 0) ac (fun _ _=>rfl)) ac) ac)))))))
  (ag (aL (aw dE dIC (aw mj dIC (aa 3) ac) (aa 1))))))),fun ds q h=>?_⟩
 case hl=>intro ds q h; obtain ⟨c,m,many,rfl,_⟩:=h; rfl
 obtain ⟨c,m,many,rfl,h0,hm,hs,q0⟩:=h
 refine (cy (c:=decide (0<c)=true) (fun c1=>?_) (fun c1=>?_))
 ·refine ⟨hm,rfl,?_⟩
  refine ⟨⟨hm,hs⟩,rfl,?_⟩
  exact q0 _ (c / many) m (Int.emod_nonneg _ (Int.ne_of_gt hm)) (Int.emod_lt_of_pos _ hm) (Int.ediv_nonneg h0 (Int.le_of_lt hm))
 ·refine ⟨⟨by decide,by decide,by decide⟩,Or.inl ⟨by decide,by decide⟩,⟨by split <;> decide,by split <;> decide⟩,?_⟩
  refine ⟨fun i ρ=>∃ (v:Option D) (m' made:Int),ρ=[some (ar [c,m']),some (.int many),none,some (.int made),v],⟨_,m,0,rfl⟩,?_,?_⟩
  ·rintro i d ρ hd ⟨v,m',made,rfl⟩
   obtain ⟨_,rfl⟩:=e_ hd
   refine ⟨Or.inr ⟨by decide,by decide⟩,(show (0:Int)<2147483587 by decide),rfl,?_⟩
   refine ⟨Or.inr ⟨by decide,by decide⟩,⟨Or.inr ⟨by decide,by decide⟩,(show (0:Int)<2147483629 by decide),?_⟩⟩
   exact ⟨rfl,_,_,_,rfl⟩
  ·rintro ρ ⟨v,m',made,rfl⟩
   refine ⟨⟨by decide,by decide⟩,hm,?_⟩
   exact q0 _ c m' (Int.emod_nonneg _ (Int.ne_of_gt hm)) (Int.emod_lt_of_pos _ hm) h0
def nX:SpD:=fun ds q=>∃ c m most,ds=[ar [c,m],.int most]∧0≤c∧0<most∧most≤23∧∀ ps r c' m',Tree ps (List.replicate ps.length r)→1≤r→r≤60→(ps.length:Int)≤most→0≤c'→q (aK ps (List.replicate ps.length r)) [some (ar [c',m'])]
theorem wv (T:Txt K mg A) (hB:TabB base mg A.tc A.tP tqS):FnOk P w K mg base CX0 2 A.f_q30 A.d_q30 ["_law_pool_here","_law_most"] (aY [true,false] true (nX)):=by
 have S:=tZ
 refine fnD T.t_q30.F S ⟨[true,false],[true,false,false,true,false],true⟩ _ ?hl rfl rfl fun cdv Ar outer s H E hr=>⟨_,(ae (aS (i:=2) S.nd rfl (Or.inl rfl) (aq (cH T hB) hr T.t_q45 (eP 0 (aj ac ao))))
  (ae (bC (i:=3) S.nd rfl (Or.inl rfl) (dj ah))
  (ae (bF PassesOwn.never rfl (nz rfl T.z_range (ad ac (ad (aw bI dI ac (aq (cH T hB) hr T.t_q45 (eP 0 (aj (aa 1) ao)))) ah))) (aH (i:=4) S.nd rfl (Or.inl rfl)) (ag (bR (i:=3) rfl (QE.qf (am af dIx (bp (ad (aq (cH T hB) hr T.t_q45 (eP 0 (aj (aa 4) ao))) (ad (aw bd dI (aa 4) ac) (ad ac (ad (aJ (gi rfl) dMax rfl T.z_max lG (ad ac (ad (aw bd dI (aw bd dI (aa 4) ac) (aw dE dIC (aa 4) ac)) ah))) (ad (aw mj dIC (aa 4) ac) ah)))))) (aa 2) (fun _ _=>rfl))))))
  (ag (bn (ig (qL 3 (QF.qm (QF.bor [3] (qX gj nq (bp (ad (aw bI dI ac (aq (cH T hB) hr T.t_q45 (eP 0 (aj (am af dIx (bp (ad ac (ad ac (ad ac ah)))) (aq (cH T hB) hr T.t_q45 (eP 0 (aj ac ao))) (fun _ _=>rfl)) ao)))) ah)) (aJ aA dD rfl T.z_len bB (ad (aa 3) ah)))))))))))),fun ds q h=>?_⟩
 case hl=>intro ds q h; obtain ⟨c,m,most,rfl,_⟩:=h; rfl
 obtain ⟨c,m,most,rfl,h0,hm0,hm1,q0⟩:=h
 refine ⟨c,m,5,rfl,h0,by decide,dO (n:=5) (by decide) (by decide +kernel),fun w0 c1 m1 w00 w01 c10=>?_⟩
 refine ⟨rfl,?_⟩
 refine ⟨c1,m1,most,rfl,c10,hm0,dO (n:=23) (by omega) (by decide +kernel),fun r2 c3 m3 r20 r21 c30=>?_⟩
 refine ⟨⟨by decide,by decide,by omega,by omega⟩,?_⟩
 refine ⟨fun i ρ=>∃ (ps:List Int) (c m:Int) (v:Option D),ρ=[some (ar [c,m]),some (.int most),some (.int w0),some (ar ps),v]∧0≤c∧ps.length=i ∧
  (∀ (j:Nat) (x:Int),ps[j]? = some x→0≤x∧x≤j),⟨[],c3,m3,_,rfl,c30,rfl,(fun j x h=>by simp at h)⟩,?_,?_⟩
 ·rintro i d ρ hd ⟨ps,c4,m4,v,rfl,c40,lp,hpar⟩
  obtain ⟨hi,rfl⟩:=e_ hd
  have hin:i<23:=by omega
  refine ⟨c4,m4,1 + (i:Int),rfl,c40,by omega,dO (n:=100) (by omega) (by decide +kernel),fun r3 c5 m5 r30 r31 c50=>?_⟩
  refine ⟨(show (0:Int)<2 by decide),⟨(show (0:Int)<2 by decide),(show (2:Int)<1073741824 by decide)⟩,?_⟩
  obtain ⟨y,hy,y1,y2⟩:∃ y:Int,atI [D.int r3,D.int (1 + (i:Int) - 1),D.int 0,D.int (if 1 + (i:Int) - 1 - (1 + (i:Int)) % 2 > 0 then 1 + (i:Int) - 1 - (1 + (i:Int)) % 2 else 0),D.int ((1 + (i:Int)) / 2)] w0=some (.int y)∧0≤y∧y≤i:=by
   have:w0=0∨w0=1∨w0=2∨w0=3∨w0=4:=by omega
   rcases this with rfl | rfl | rfl | rfl | rfl
   ·exact ⟨_,rfl,by omega,by omega⟩
   ·exact ⟨_,rfl,by omega,by omega⟩
   ·exact ⟨_,rfl,by omega,by omega⟩
   ·refine ⟨_,rfl,?_,?_⟩ <;> split <;> omega
   ·exact ⟨_,rfl,by omega,by omega⟩
  refine aI hy ?_
  refine ⟨rfl,by rw [au]; omega,?_⟩
  refine ⟨ps++[y],c5,m5,some (.int (1 + (i:Int))),?_,c50,by rw [List.length_append,lp]; rfl,s8 hpar ⟨y1,by omega⟩⟩
  rw [← cG]; rfl
 ·rintro ρ ⟨ps,c4,m4,v,rfl,c40,lp,hpar⟩
  rw [fG] at lp
  refine ⟨⟨_,rfl⟩,?_⟩
  refine ⟨c4,m4,3,rfl,c40,by decide,dO (n:=3) (by decide) (by decide +kernel),fun r3 c5 m5 r30 r31 c50=>?_⟩
  obtain ⟨y,hy,y1,y2⟩:∃ y:Int,atI [D.int 3,D.int 8,D.int 60] r3=some (.int y)∧1≤y∧y≤60:=by
   have:r3=0∨r3=1∨r3=2:=by omega
   rcases this with rfl | rfl | rfl
   all_goals exact ⟨_,rfl,by decide,by decide⟩
  refine aI hy ?_
  refine ⟨c5,m5,y,rfl,c50,by omega,dO (n:=60) (by omega) (by decide +kernel),fun r4 c6 m6 r40 r41 c60=>?_⟩
  refine ⟨⟨by rw [au]; omega,by rw [au]; omega,by rw [au]; simp; omega⟩,?_⟩
  rw [au,dR,Int.toNat_natCast]
  have er:List.replicate ps.length (D.int (1 + r4))=(List.replicate ps.length (1 + r4)).map D.int:=by rw [List.map_replicate]
  rw [er]
  refine ⟨a7 _,?_⟩
  refine q0 ps (1 + r4) c6 m6 ⟨by rw [List.length_replicate],by omega,by omega,hpar,fun j x hx=>?_⟩ (by omega) (by omega) (by omega) c60
  have:=List.eq_of_mem_replicate (List.mem_of_getElem? hx)
  omega
theorem vK (T:Txt K mg A) (hB:TabB base mg A.tc A.tP tqS):FnOk P w K mg base CX0 2 A.f_q40 A.d_q40 ["_law_pool_here","_law_tree","_law_least","_law_most","_law_sizes"] (aY [true,false,false,false,false] true (tw)):=by
 have S:=vj
 refine fnD T.t_q40.F S ⟨[true,false,false,false,false],[true,false,false,false,false,false,true,false,false,false,false,false],true⟩ _ ?hl rfl rfl fun cdv Ar outer s H E hr=>⟨_,(ae (aS (i:=5) S.nd rfl (Or.inl rfl) (aw bI dI ac (aJ aA dD rfl T.z_len bB (ad (am af dIx (aa 1) ac (fun _ _=>rfl)) ah))))
  (ae (bC (i:=6) S.nd rfl (Or.inl rfl) (dj ah))
  (ae (bF PassesOwn.never rfl (fe rfl T.z_range (ad (aw bI dI (aa 2) (aq (cH T hB) hr T.t_q45 (eP 0 (aj (aw bI dI (aw bd dI (aa 3) (aa 2)) ac) ao)))) ah)) (aH (i:=7) S.nd rfl (Or.inl rfl)) (ae (aS (i:=8) S.nd rfl (Or.inl rfl) (aq (cH T hB) hr T.t_q45 (eP 0 (aj (aa 5) ao))))
  (ae (aS (i:=9) S.nd rfl (Or.inl rfl) (aw dE dIC (aw bI dI (aw bI dI (aa 8) ac) (aq (cH T hB) hr T.t_q45 (eP 0 (aj (aw bd dI (aa 5) ac) ao)))) (aa 5)))
  (ae (aS (i:=10) S.nd rfl (Or.inl rfl) (aw bI dI ac (aq (cH T hB) hr T.t_q45 (eP 0 (aj (am af dIx (aa 4) (aq (cH T hB) hr T.t_q45 (eP 0 (aj (aJ aA dD rfl T.z_len bB (ad (aa 4) ah)) ao))) (fun _ _=>rfl)) ao)))))
  (ae (aS (i:=11) S.nd rfl (Or.inl rfl) (aw bI dI ac (aq (cH T hB) hr T.t_q45 (eP 0 (aj (am af dIx (bp (ad ac (ad ac (ad (aw jN dIC ac ac) (ad (aw jN dIC ac ac) ah))))) (aq (cH T hB) hr T.t_q45 (eP 0 (aj ac ao))) (fun _ _=>rfl)) ao)))))
  (ag (bR (i:=6) rfl (QE.qf (bg (ad (aa 8) (ad (aa 9) (ad (aa 10) (ad (aa 11) ah)))))))))))))
  (ag (bn (cf 6)))))),fun ds q h=>?_⟩
 case hl=>intro ds q h; obtain ⟨c,m,ps,rs,least,most,sizes,rfl,_⟩:=h; rfl
 obtain ⟨c,m,ps,rs,least,most,sizes,rfl,h0,hT,hl0,hlm,hm1,hs0,hs1,hs,q0⟩:=h
 have hi:=hT.hi
 have hlo:=hT.lo
 refine ⟨rfl,?_⟩
 refine ⟨c,m,most - least + 1,rfl,h0,by omega,dO (n:=100) (by omega) (by decide +kernel),fun r c1 m1 r0 r1 c10=>?_⟩
 refine ⟨⟨by omega,by omega⟩,?_⟩
 refine ⟨fun i ρ=>∃ (as:List Ask) (c m:Int) (v1 v2 v3 v4 v5:Option D),ρ=[some (ar [c,m]),some (aK ps rs),some (.int least),some (.int most),some (ar sizes),some (.int (1 + ((ps.map D.int).length:Int))),some (bh as),v1,v2,v3,v4,v5]∧0≤c∧as.length=i∧(∀ a∈as,AskOk ps a)∧(∀ a∈as,∃ s∈sizes,a.size≤s),⟨[],c1,m1,_,_,_,_,_,rfl,c10,rfl,(fun a h=>by cases h),(fun a h=>by cases h)⟩,?_,?_⟩
 ·rintro i d ρ hd ⟨as,c2,m2,v1,v2,v3,v4,v5,rfl,c20,la,hok,hsz⟩
  obtain ⟨hi2,rfl⟩:=e_ hd
  have hi3:i<30:=by omega
  refine ⟨c2,m2,1 + ((ps.map D.int).length:Int),rfl,c20,by omega,dO (n:=100) (by rw [au]; omega) (by decide +kernel),fun a c3 m3 a0 a1 c30=>?_⟩
  rw [au] at a1
  refine ⟨c3,m3,1 + ((ps.map D.int).length:Int) - 1,rfl,c30,by rw [au]; omega,dO (n:=100) (by rw [au]; omega) (by decide +kernel),fun r c4 m4 r0 r1 c40=>?_⟩
  rw [au] at r1
  refine ⟨(show (0:Int)<1 + ((ps.map D.int).length:Int) by omega),?_⟩
  refine ⟨c4,m4,((sizes.map D.int).length:Int),rfl,c40,by rw [au]; omega,dO (n:=100) (by rw [au]; omega) (by decide +kernel),fun r2 c5 m5 r20 r21 c50=>?_⟩
  rw [au] at r21
  refine aI (bi r20 (by omega)) ?_
  have hzm:=L2.ra (show r2.toNat<sizes.length by omega)
  have hz:=hs _ hzm
  generalize sizes.getD r2.toNat 0=z at hz hzm
  refine ⟨c5,m5,z,rfl,c50,by omega,dO (n:=1000000) (by omega) (by decide +kernel),fun s c6 m6 s0 s1 c60=>?_⟩
  refine ⟨⟨by decide,by decide,by decide⟩,⟨by decide,by decide,by decide⟩,?_⟩
  refine ⟨c6,m6,4,rfl,c60,by decide,dO (n:=4) (by decide) (by decide +kernel),fun r3 c7 m7 r30 r31 c70=>?_⟩
  obtain ⟨y,hy,y1,y2⟩:∃ y:Int,atI [D.int 3,D.int 30,D.int (10 ^ Int.toNat 6),D.int (10 ^ Int.toNat 12)] r3=some (.int y)∧1≤y∧y≤1000000000000:=by
   have:r3=0∨r3=1∨r3=2∨r3=3:=by omega
   rcases this with rfl | rfl | rfl | rfl
   all_goals exact ⟨_,rfl,by decide,by decide⟩
  refine aI hy ?_
  refine ⟨c7,m7,y,rfl,c70,by omega,dO (n:=1000000000000) (by omega) (by decide +kernel),fun wo c8 m8 w0 w1 c80=>?_⟩
  refine ⟨rfl,by rw [aR]; omega,?_⟩
  have he:=lL (ps:=ps) (a:=a) (r:=r) a0 (by omega) r0 (by omega)
  refine ⟨as++[⟨a,(a + 1 + r) % (1 + ((ps.map D.int).length:Int)),1 + s,1 + wo⟩],c8,m8,_,_,_,_,_,by rw [← nM]; rfl,c80,by rw [List.length_append,la]; rfl,?_,?_⟩
  ·intro b hb
   rcases List.mem_append.mp hb with hb | hb
   ·exact hok b hb
   ·have:b=_:=List.mem_singleton.mp hb
    subst this
    exact ⟨by rw [au]; exact he,by show 1≤1 + s; omega,by show 1 + s≤1000000; omega,by show 1≤1 + wo; omega,by show 1 + wo≤1000000000000; omega⟩
  ·intro b hb
   rcases List.mem_append.mp hb with hb | hb
   ·exact hsz b hb
   ·have:b=_:=List.mem_singleton.mp hb
    subst this
    exact ⟨z,hzm,by show 1 + s≤z; omega⟩
 ·rintro ρ ⟨as,c2,m2,v1,v2,v3,v4,v5,rfl,c20,la,hok,hsz⟩
  rw [fG] at la
  exact q0 as c2 m2 ⟨by omega,hok⟩ (by omega) (by omega) hsz c20
theorem gb (T:Txt K mg A) (hB:TabB base mg A.tc A.tP tqS):FnOk P w K mg base CX0 1 A.f_q57 A.d_q57 ["_law_tree","_law_place"] (aY [false,false] true (sdUp)):=by
 have S:=wx
 refine fnD T.t_q57.F S ⟨[false,false],[false,false,true],true⟩ _ ?hl rfl rfl fun cdv Ar outer s H E hr=>⟨_,(ae (bC (i:=2) S.nd rfl (Or.inl rfl) (dj (ad (aa 1) ah)))
  (ae (f6 PassesOwn.never (aW ik dB (aa 1) ac (aN _)) (ae (aS (i:=1) S.nd rfl (Or.inl rfl) (am af dIx (am af dIx (aa 0) ac (fun _ _=>rfl)) (aw bd dI (aa 1) ac) (fun _ _=>rfl)))
  (ag (bR (i:=2) rfl (QE.qf (aa 1))))))
  (ag (bn (cf 2))))),fun ds q h=>?_⟩
 case hl=>intro ds q h; obtain ⟨ps,rs,k,rfl,_⟩:=h; rfl
 obtain ⟨ps,rs,k,rfl,hT,h0,h1,q0⟩:=h
 have hi:=hT.hi
 refine ⟨rfl,?_⟩
 refine ⟨fun j ρ=>∃ (k':Int) (acc:List Int),ρ=[some (aK ps rs),some (.int k'),some (ar acc)]∧0≤k'∧k'≤ps.length∧j=k'.toNat∧acc.length + k'.toNat≤24∧(∀ u,Up ps k' (k' :: u)→Up ps k (acc++u)),⟨_,k,[k],rfl,h0,h1,rfl,by simp; omega,fun u h=>h⟩,?_⟩
 rintro j ρ ⟨k',acc,rfl,h0',h1',rfl,hl,hu⟩
 refine (cy (c:=decide (0<k')=true) (fun c=>?_) (fun c=>?_))
 ·have hk : 0<k':=by simpa using c
  have hp:=hT.up hk h1'
  refine aI (bi (by omega) (by omega)) ?_
  refine ⟨rfl,by rw [au]; omega,?_⟩
  refine ⟨(bT ps k').toNat,by omega,bT ps k',acc++[bT ps k'],?_,hp.1,by omega,rfl,by rw [List.length_append]; show acc.length + 1 + _≤24; omega,fun u h=>by rw [List.append_assoc]; exact hu _ (.step hk h)⟩
  rw [← cG]; rfl
 ·have hk:k'=0:=by simp at c; omega
  subst hk
  have:=hu [] .zero
  rw [List.append_nil] at this
  exact q0 acc this
theorem lN (T:Txt K mg A) (hB:TabB base mg A.tc A.tP tqS):FnOk P w K mg base CX0 2 A.f_q18 A.d_q18 ["_law_tree","_law_one","_law_other"] (aY [false,false,false] false (sV)):=by
 have S:=wL
 refine fnD T.t_q18.F S ⟨[false,false,false],[false,false,false,false],false⟩ _ ?hl rfl rfl fun cdv Ar outer s H E hr=>⟨_,(ae (aS (i:=3) S.nd rfl (Or.inr rfl) (QF.qe (aB (gb T hB) hr T.t_q57 (aj (aa 0) (aj (aa 2) ao)))))
  (ag (aL (am af dIx (cY ["_law_place"] [3] ⟨rfl,rfl,by decide +kernel,rfl,rfl,(by first | exact trivial | exact ⟨rfl,trivial⟩ | exact ⟨rfl,rfl,trivial⟩ | exact ⟨rfl,rfl,rfl,trivial⟩ | exact ⟨rfl,rfl,rfl,rfl,trivial⟩),rfl⟩ rfl (aX (QF.qe (aB (gb T hB) hr T.t_q57 (aj (aa 0) (aj (aa 1) ao))))) (bu 0) (fun _ _ _ _=>⟨(bc (i:=0) (show List.Nodup (["_law_place","_law_there"]:List Str) by decide +kernel) rfl (Or.inl rfl)),(dz (aW nE dIn (aa 0) (aa 1) rfl)),(aa 0)⟩)) ac (fun _ _=>rfl))))),fun ds q h=>?_⟩
 case hl=>intro ds q h; obtain ⟨ps,rs,a,b,rfl,_⟩:=h; rfl
 obtain ⟨ps,rs,a,b,rfl,hT,a0,a1,b0,b1,q0⟩:=h
 have hi:=hT.hi
 refine ⟨ps,rs,b,rfl,hT,b0,b1,fun ub hub=>?_⟩
 refine ⟨ps,rs,a,rfl,hT,a0,a1,fun ua hua=>?_⟩
 have hl:=hua.len hT a1
 refine ⟨by rw [au]; omega,?_⟩
 refine cL (ny fun x=>ub.contains x) ?_ ?_
 ·intro d hd k hk
  obtain ⟨x,hx,rfl⟩:=cw hd
  refine ⟨rfl,iM ub,?_⟩
  change k (if ub.contains x=true then some (.int x) else none) at hk
  show if inD (.int x) (ub.map D.int)=true then k (some (.int x)) else k none
  rw [ka]
  cases e:ub.contains x with
  | true=>rw [e] at hk; exact hk
  | false=>rw [e] at hk; exact hk
 ·rw [dY]
  obtain ⟨w,m,hw⟩:=Climb.all hT a0 b0 a1 b1
  obtain ⟨m1,m2,m3⟩:=hw.meet hT a0 b0 a1 b1 hua hub
  obtain ⟨r,hr⟩:=ng (p:=fun x=>ub.contains x) (hua.dec hT a1) m1 (List.contains_iff_mem.mpr m2) fun x hx hp=>m3 x hx (List.contains_iff_mem.mp hp)
  rw [hr]
  exact aI (atI0 _ _) (q0 w m hw)
theorem lw (T:Txt K mg A) (hB:TabB base mg A.tc A.tP tqS):FnOk P w K mg base CX0 3 A.f_q53 A.d_q53 ["_law_tree","_law_one","_law_other"] (aY [false,false,false] true (uw)):=by
 have S:=vS
 refine fnD T.t_q53.F S ⟨[false,false,false],[false,false,false,false,false],true⟩ _ ?hl rfl rfl fun cdv Ar outer s H E hr=>⟨_,(ae (aS (i:=3) S.nd rfl (Or.inr rfl) (QF.qe (aB (gb T hB) hr T.t_q57 (aj (aa 0) (aj (aq (lN T hB) hr T.t_q18 (aj (aa 0) (aj (aa 1) (aj (aa 2) ao)))) ao)))))
  (ae (aS (i:=4) S.nd rfl (Or.inl rfl) (iQ lT dCat (QF.qe (aB (gb T hB) hr T.t_q57 (aj (aa 0) (aj (aa 1) ao)))) (QF.qe (aB (gb T hB) hr T.t_q57 (aj (aa 0) (aj (aa 2) ao))))))
  (ag (bn (QF.qm (eJ cW jC rfl T.z_sorted de (ad (cY ["_law_place"] [3] ⟨rfl,rfl,by decide +kernel,rfl,rfl,(by first | exact trivial | exact ⟨rfl,trivial⟩ | exact ⟨rfl,rfl,trivial⟩ | exact ⟨rfl,rfl,rfl,trivial⟩ | exact ⟨rfl,rfl,rfl,rfl,trivial⟩),rfl⟩ rfl (aX (aa 4)) (bu 0) (fun _ _ _ _=>⟨(bc (i:=0) (show List.Nodup (["_law_place","_law_above"]:List Str) by decide +kernel) rfl (Or.inl rfl)),(dz (aW jr dIn (aa 0) (aa 1) rfl)),(aa 0)⟩)) ah))))))),fun ds q h=>?_⟩
 case hl=>intro ds q h; obtain ⟨ps,rs,a,b,rfl,_⟩:=h; rfl
 obtain ⟨ps,rs,a,b,rfl,hT,a0,a1,b0,b1,q0⟩:=h
 have hi:=hT.hi
 refine ⟨ps,rs,a,b,rfl,hT,a0,a1,b0,b1,fun w m hw=>?_⟩
 have hm:=hw.low hT a0 b0 a1 b1
 refine ⟨ps,rs,m,rfl,hT,hm.1,by omega,fun um hum=>?_⟩
 refine ⟨ps,rs,a,rfl,hT,a0,a1,fun ua hua=>?_⟩
 refine ⟨ps,rs,b,rfl,hT,b0,b1,fun ub hub=>?_⟩
 have hl:=hua.len hT a1
 have hl2:=hub.len hT b1
 refine ⟨by rw [au,au]; omega,?_⟩
 refine ⟨by rw [List.length_append,au,au]; omega,?_⟩
 rw [← List.map_append]
 refine cL (ny fun x=>!um.contains x) ?_ ?_
 ·intro d hd k hk
  obtain ⟨x,hx,rfl⟩:=cw hd
  refine ⟨rfl,iM um,?_⟩
  change k (if (!um.contains x)=true then some (.int x) else none) at hk
  show if (!inD (.int x) (um.map D.int))=true then k (some (.int x)) else k none
  rw [ka]
  cases e:um.contains x with
  | true=>rw [e] at hk; exact hk
  | false=>rw [e] at hk; exact hk
 ·rw [dY]
  have hp:=hw.perm hT a0 b0 a1 b1 hua hub hum
  refine ⟨_,rfl,?_,a7 _,?_⟩
  ·rw [← hp.length_eq]; have:=hw.len hT a0 b0 a1 b1; omega
  ·rw [← kK ((cj w).trans hp) (d6 w)]
   exact q0 w m hw
def uh:SpD:=fun ds q=>∃ n b,ds=[.int n,.int b]∧0<b∧q (.int (bY n b)) []
theorem uQ (T:Txt K mg A) (hB:TabB base mg A.tc A.tP tqS):FnOk P w K mg base CX0 1 A.f_q17 A.d_q17 ["_law_one","_law_other"] (aY [false,false] false (uh)):=by
 have S:=t7
 refine fnD T.t_q17.F S ⟨[false,false],[false,false],false⟩ _ ?hl rfl rfl fun cdv Ar outer s H E hr=>⟨_,(ae (f6 PassesOwn.never (aW (bZ hr.units) dNe (aa 1) ac (aN _)) (ag (jk (i:=0) (j:=1) rfl S.nd rfl rfl (by decide) rfl rfl (aa 1) (aw dE dIC (aa 0) (aa 1)) rfl)))
  (ag (aL (aJ qV dAbs rfl T.z_abs wu (ad (aa 0) ah))))),fun ds q h=>?_⟩
 case hl=>intro ds q h; obtain ⟨n,b,rfl,_⟩:=h; rfl
 obtain ⟨n,b,rfl,hb,q0⟩:=h
 refine ⟨fun k ρ=>∃ n' b':Int,ρ=[some (.int n'),some (.int b')]∧0≤b'∧b'.toNat=k∧bY n' b'=bY n b,⟨_,n,b,rfl,by omega,rfl,rfl⟩,?_⟩
 rintro k ρ ⟨n',b',rfl,hb',hk,hg⟩
 refine (cy (c:=(!decide (b'=0))=true) (fun c=>?_) (fun c=>?_))
 ·have c':b'≠0:=by simpa using c
  have hp : 0<b':=by omega
  refine ⟨hp,?_⟩
  have:=Int.emod_lt_of_pos n' hp
  have:=Int.emod_nonneg n' (show b'≠0 by omega)
  exact ⟨_,by omega,b',n' % b',rfl,by omega,rfl,by rw [iV hp]; exact hg⟩
 ·have c':b'=0:=by simpa using c
  subst c'
  have e:bY n b=n':=by rw [← hg]; unfold bY; rw [if_pos rfl]
  have g:=dL (n:=n) hb
  rw [e] at q0 g
  have ea:(if n'<0 then -n' else n')=n':=if_neg (by omega)
  show q (.int (if n'<0 then -n' else n')) []
  rw [ea]; exact q0
theorem u_ (T:Txt K mg A) (hB:TabB base mg A.tc A.tP tqS):FnOk P w K mg base CX0 2 A.f_q52 A.d_q52 ["_law_top","_law_bottom"] (aY [false,false] false (oQ)):=by
 have S:=vz
 refine fnD T.t_q52.F S ⟨[false,false],[false,false,false],false⟩ _ ?hl rfl rfl fun cdv Ar outer s H E hr=>⟨_,(ae (aS (i:=2) S.nd rfl (Or.inl rfl) (aq (uQ T hB) hr T.t_q17 (aj (aa 0) (aj (aa 1) ao))))
  (ag (aL (bg (ad (aw df dIC (aa 0) (aa 2)) (ad (aw df dIC (aa 1) (aa 2)) ah)))))),fun ds q h=>?_⟩
 case hl=>intro ds q h; obtain ⟨t,b,rfl,_⟩:=h; rfl
 obtain ⟨t,b,rfl,hb,hs,q0⟩:=h
 refine ⟨t,b,rfl,hb,?_⟩
 have g:=dL (n:=t) hb
 have gl:=jD (n:=t) hb
 have gs:Sm (bY t b):=by show (bY t b).natAbs<_; exact Nat.lt_of_le_of_lt (by omega) hs
 refine ⟨⟨g,gs⟩,⟨g,gs⟩,?_⟩
 rw [jG hb,jl hb]
 exact q0
theorem uy {r:Rat} {t b:Int} (hb : 0<b):Rat.divInt (r.num * b + t * (r.den:Int)) ((r.den:Int) * b)=r + Rat.divInt t b:=by
 have hd:((r.den:Int):Rat)≠0:=fun z=>by have:=Rat.intCast_eq_zero_iff.mp z; have:=r.den_pos; omega
 have hq:((b:Int):Rat)≠0:=fun z=>by have:=Rat.intCast_eq_zero_iff.mp z; omega
 have e:=cB r
 rw [Rat.divInt_eq_div] at e
 rw [Rat.divInt_eq_div,Rat.divInt_eq_div,Rat.intCast_add,Rat.intCast_mul,Rat.intCast_mul,Rat.intCast_mul]
 generalize ((r.den:Int):Rat)=x at hd e
 generalize ((r.num:Int):Rat)=y at e
 generalize ((b:Int):Rat)=z at hq
 generalize ((t:Int):Rat)=u
 rw [← e]
 grind
structure LeN (t:Int) (n:Nat):Prop where
 h:t.natAbs<2 ^ n
def sE:SpD:=fun ds q=>∃ (r:Rat) (t b:Int),ds=[dQ r,.tup [.int t,.int b]]∧0<b∧Bt r 3000∧LeN t 3000∧LeN b 3000∧q (dQ (r + Rat.divInt t b)) []
theorem qO (T:Txt K mg A) (hB:TabB base mg A.tc A.tP tqS):FnOk P w K mg base CX0 3 A.f_q43 A.d_q43 ["_law_one","_law_other"] (aY [false,false] false (sE)):=by
 have S:=vq
 refine fnD T.t_q43.F S ⟨[false,false],[false,false],false⟩ _ ?hl rfl rfl fun cdv Ar outer s H E hr=>⟨_,(ag (aL (aq (u_ T hB) hr T.t_q52 (aj (aw bI dI (aw bo dIC (am af dIx (aa 0) ac (fun _ _=>rfl)) (am af dIx (aa 1) ac (fun _ _=>rfl))) (aw bo dIC (am af dIx (aa 1) ac (fun _ _=>rfl)) (am af dIx (aa 0) ac (fun _ _=>rfl)))) (aj (aw bo dIC (am af dIx (aa 0) ac (fun _ _=>rfl)) (am af dIx (aa 1) ac (fun _ _=>rfl))) ao))))),fun ds q h=>?_⟩
 case hl=>intro ds q h; obtain ⟨r,t,b,rfl,_⟩:=h; rfl
 obtain ⟨r,t,b,rfl,hb,hr,ht,hb2,q0⟩:=h
 have sb:Sm b:=Nat.lt_of_lt_of_le hb2.h (cI (by decide))
 refine ⟨⟨hr.smN (by decide),sb⟩,⟨Nat.lt_of_lt_of_le ht.h (cI (by decide)),hr.smD (by decide)⟩,⟨hr.smD (by decide),sb⟩,?_⟩
 have hd:=bA r
 refine ⟨r.num * b + t * (r.den:Int),(r.den:Int) * b,rfl,Int.mul_pos hd hb,?_,?_⟩
 ·show ((r.den:Int) * b).natAbs<_
  rw [Int.natAbs_mul,Int.natAbs_natCast]
  exact Nat.lt_of_lt_of_le (aZ (m:=3000) (n:=3000) hr.den hb2.h) (cI (by decide))
 ·rw [uy hb]; exact q0
end
end K31
namespace K31
open PySem L2
section
variable {P:Program} {w:World} {K:PySem.W.Frag} {mg:Str→Option Value} {base:Heap} {A:Adr}
theorem jA {ps rs:List Int} (hT:Tree ps rs):∀ n:Nat,n≤ps.length→∃ e,DepOk ps e n
 | 0,_=>⟨_,dep0 ps⟩
 | n + 1,h=>by
  obtain ⟨e,he⟩:=jA hT n (Nat.le_of_succ_le h)
  exact ⟨_,j6 hT (List.getElem?_eq_getElem h) he⟩
theorem sM {ps rs e e':List Int} (hT:Tree ps rs) (h:DepOk ps e ps.length) (h':DepOk ps e' ps.length) {as:List Ask} (ha:AsksOk ps as):dH ps e as=dH ps e' as:=by
 unfold dH
 refine List.map_congr_left fun a hm=>?_
 have ok:=(ha.ok a hm).ends
 obtain ⟨w,hw,_⟩:=gT hT ok.a0 ok.b0 ok.a1 ok.b1
 have hl:=hw.low hT ok.a0 ok.b0 ok.a1 ok.b1
 have a1:=ok.a1
 obtain ⟨u,hu⟩:=Up.all hT _ (bW ps a.one a.other) rfl hl.1 (by omega)
 have:=h.up _ u hl.1 (by omega) hu
 have:=h'.up _ u hl.1 (by omega) hu
 omega
theorem fU {ps rs o o':List Int} {as:List Ask} (hT:Tree ps rs) (ha:AsksOk ps as):ev ps as o→ev ps as o'→o=o'
 | ⟨e,he,h⟩,⟨e',he',h'⟩=>by
  rw [sM hT he' he ha] at h'
  refine List.Perm.eq_of_pairwise (le:=fun a b=>(fun z:Int=>-((dH ps e as).getD z.toNat 0)) a<(fun z:Int=>-((dH ps e as).getD z.toNat 0)) b∨((fun z:Int=>-((dH ps e as).getD z.toNat 0)) a=(fun z:Int=>-((dH ps e as).getD z.toNat 0)) b∧a<b)) (fun a b _ _ q1 q2=>?_) h.st h'.st (h.perm.trans h'.perm.symm)
  omega
structure RowO (ps:List Int) (as:List Ask) (i:Nat) (qs:List (Int×Int)):Prop where
 len:qs.length=i
 at_:∀ (j:Nat) r,qs[j]? = some r→r.2=(j:Int)∧∀ u,Up ps (bW ps (ay as j).one (ay as j).other) u→r.1=0 - (u.length:Int)
theorem RowO.snoc {ps:List Int} {as:List Ask} {i:Nat} {qs:List (Int×Int)} (h:RowO ps as i qs) {u:List Int} (hu:Up ps (bW ps (ay as i).one (ay as i).other) u):RowO ps as (i + 1) (qs++[(0 - (u.length:Int),(i:Int))]):=by
 refine ⟨by rw [List.length_append,h.len]; rfl,fun j r hr=>?_⟩
 rw [List.getElem?_append] at hr
 split at hr
 ·exact h.at_ j r hr
 ·rename_i c
  have hl:=h.len
  have e:j - qs.length=0:=by
   cases q:j - qs.length with
   | zero=>rfl
   | succ n=>rw [q] at hr; cases hr
  have e2:j=i:=by omega
  subst e2
  rw [e] at hr
  cases hr
  exact ⟨rfl,fun u' hu'=>by rw [hu.det hu']⟩
theorem RowO.deep {ps rs:List Int} {as:List Ask} {qs qs':List (Int×Int)} (hT:Tree ps rs) (ha:AsksOk ps as) (h:RowO ps as as.length qs) (hp:qs'.Perm qs) (ho:qs'.Pairwise PrLt):ev ps as (qs'.map (·.2)):=by
 obtain ⟨e,he⟩:=jA hT ps.length (Nat.le_refl _)
 have key:∀ r∈qs',r.1 = -((dH ps e as).getD r.2.toNat 0) - 1:=fun r hr=>by
  obtain ⟨j,hj,rfl⟩:=List.getElem_of_mem (hp.mem_iff.mp hr)
  have hl:=h.len
  obtain ⟨h1,h2⟩:=h.at_ j _ (List.getElem?_eq_getElem hj)
  have ok:=(eh (k:=(j:Int)) ha (by omega) (by omega)).ends
  obtain ⟨w,hw,_⟩:=gT hT ok.a0 ok.b0 ok.a1 ok.b1
  have hlo:=hw.low hT ok.a0 ok.b0 ok.a1 ok.b1
  have a1:=ok.a1
  obtain ⟨u,hu⟩:=Up.all hT _ (bW ps (ay as j).one (ay as j).other) rfl hlo.1 (by omega)
  have h3:=he.up _ u hlo.1 (by omega) hu
  have h4:=h2 u hu
  have h5:(dH ps e as).getD (qs[j]).2.toNat 0=e.getD (bW ps (ay as j).one (ay as j).other).toNat 0:=by
   rw [h1,Int.toNat_natCast]
   unfold dH ay
   rw [Int.toNat_natCast,List.getD_eq_getElem?_getD,List.getElem?_map,List.getD_eq_getElem?_getD (l:=as),List.getElem?_eq_getElem (l:=as) (by omega)]
   rfl
  rw [h5]
  omega
 refine ⟨e,he,?_,?_,?_⟩
 ·have e1:qs.map (·.2)=(List.range as.length).map fun (i:Nat)=>(i:Int):=by
   refine List.ext_getElem? fun j=>?_
   rw [List.getElem?_map,List.getElem?_map]
   by_cases c:j<as.length
   ·rw [List.getElem?_range c,List.getElem?_eq_getElem (by rw [h.len]; exact c)]
    exact congrArg some (h.at_ j _ (List.getElem?_eq_getElem (by rw [h.len]; exact c))).1
   ·rw [List.getElem?_eq_none (by rw [h.len]; omega),List.getElem?_eq_none (by rw [List.length_range]; omega)]; rfl
  rw [← e1]
  exact hp.map _
 ·rw [List.pairwise_map]
  refine List.Pairwise.imp_of_mem (fun {a b} ma mb q=>?_) ho
  have:=key a ma; have:=key b mb
  unfold PrLt at q
  omega
 ·rw [List.pairwise_map]
  refine List.Pairwise.imp_of_mem (fun {a b} ma mb q=>?_) ho
  have:=key a ma; have:=key b mb
  unfold PrLt at q
  omega
theorem kl:∀ qs:List (Int×Int),imms (qs.map dPr)=true
 | []=>rfl
 | r :: qs=>by rw [List.map_cons,imms,kl qs]; rfl
def sndD:D→D
 | .tup [_,x]=>x
 | d=>d
theorem pC (qs:List (Int×Int)):(qs.map dPr).map sndD=(qs.map (·.2)).map D.int:=by rw [List.map_map,List.map_map]; rfl
theorem oV (T:Txt K mg A) (hB:TabB base mg A.tc A.tP tqS):FnOk P w K mg base CX0 3 A.f_q16 A.d_q16 ["_law_tree","_law_asks_here"] (aY [false,false] false (rq)):=by
 have S:=t9
 refine fnD T.t_q16.F S ⟨[false,false],[false,false,true,false,false],false⟩ _ ?hl rfl rfl fun cdv Ar outer s H E hr=>⟨_,(ae (bC (i:=2) S.nd rfl (Or.inl rfl) (dj ah))
  (ae (bF PassesOwn.never rfl (fe rfl T.z_range (ad (aJ aA dD rfl T.z_len bB (ad (aa 1) ah)) ah)) (aH (i:=3) S.nd rfl (Or.inl rfl)) (ae (aS (i:=4) S.nd rfl (Or.inl rfl) (aq (lN T hB) hr T.t_q18 (aj (aa 0) (aj (am af dIx (am af dIx (aa 1) (aa 3) (fun _ _=>rfl)) ac (fun _ _=>rfl)) (aj (am af dIx (am af dIx (aa 1) (aa 3) (fun _ _=>rfl)) ac (fun _ _=>rfl)) ao)))))
  (ag (bR (i:=2) rfl (QE.qf (bg (ad (aw bd dI ac (aJ aA dD rfl T.z_len bB (ad (QF.qe (aB (gb T hB) hr T.t_q57 (aj (aa 0) (aj (aa 4) ao)))) ah))) (ad (aa 3) ah))))))))
  (ag (aL (QF.qe (QF.bor [2] (gS ["_law_depth","_law_k"] [] ⟨rfl,rfl,by decide +kernel,rfl,rfl,(by first | exact trivial | exact ⟨rfl,trivial⟩ | exact ⟨rfl,rfl,trivial⟩ | exact ⟨rfl,rfl,rfl,trivial⟩ | exact ⟨rfl,rfl,rfl,rfl,trivial⟩),rfl⟩ rfl (aX (QF.qe (eJ jc u8 rfl T.z_sorted de (ad (aa 2) ah)))) (wD (kI (bu 0) (kI (bu 1) rQ)) (ax (ax bq))) (fun _ _ _ _=>⟨(lJ rfl (eI (bc (i:=0) (show List.Nodup (["_law_depth","_law_k"]:List Str) by decide +kernel) rfl (Or.inl rfl)) (eI (bc (i:=1) (show List.Nodup (["_law_depth","_law_k"]:List Str) by decide +kernel) rfl (Or.inl rfl)) jy))),cZ,(aa 1)⟩)))))))),fun ds q h=>?_⟩
 case hl=>intro ds q h; obtain ⟨ps,rs,as,rfl,_⟩:=h; rfl
 obtain ⟨ps,rs,as,rfl,hT,ha,q0⟩:=h
 have hal:=ha.len
 refine ⟨rfl,?_⟩
 refine ⟨⟨by rw [aR]; omega,by rw [aR]; omega⟩,?_⟩
 refine ⟨fun i ρ=>∃ (qs:List (Int×Int)) (v3 v4:Option D),ρ=[some (aK ps rs),some (bh as),some (.lst (qs.map dPr)),v3,v4]∧RowO ps as i qs,⟨[],_,_,rfl,rfl,fun j r h=>by cases h⟩,?_,?_⟩
 ·rintro i d ρ hd ⟨qs,v3,v4,rfl,hq⟩
  obtain ⟨hi,rfl⟩:=e_ hd
  rw [aR,Int.toNat_natCast] at hi
  rw [Int.zero_add]
  have hat:=eK (as:=as) (k:=(i:Int)) (by omega) (by omega)
  have ok:=(eh (k:=(i:Int)) ha (by omega) (by omega)).ends
  refine aI hat ?_
  refine aI hat ?_
  refine ⟨ps,rs,(ay as i).one,(ay as i).other,rfl,hT,ok.a0,ok.a1,ok.b0,ok.b1,fun w m hw=>?_⟩
  have hmm:=hw.way hT ok.a0 ok.b0 ok.a1 ok.b1
  have hb:=hw.low hT ok.a0 ok.b0 ok.a1 ok.b1
  have ha1:=ok.a1
  have hmm:=hmm.2
  subst hmm
  refine ⟨ps,rs,_,rfl,hT,hb.1,by omega,fun u hu=>?_⟩
  have hl:=hq.len
  refine ⟨rfl,by rw [List.length_map]; omega,?_⟩
  refine ⟨_,some (.int i),some (.int (bW ps (ay as i).one (ay as i).other)),?_,hq.snoc hu⟩
  rw [List.map_append,au]
  rfl
 ·rintro ρ ⟨qs,v3,v4,rfl,hq⟩
  rw [fG,aR,Int.toNat_natCast] at hq
  have hl:=hq.len
  refine ⟨qs,rfl,by omega,fun i r h=>(hq.at_ i r h).1,fun qs' hp ho=>?_⟩
  have hd:=hq.deep hT ha hp ho
  have hl':=hp.length_eq
  refine ⟨kl _,by rw [List.length_map]; omega,?_⟩
  refine bU sndD ?_ ?_
  ·intro d hd k hk
   obtain ⟨r,hm,rfl⟩:=List.mem_map.mp hd
   exact hk
  ·rw [pC]
   exact ⟨a7 _,q0 _ hd⟩
end
end K31
namespace K31
open PySem L2
section
variable {P:Program} {w:World} {K:PySem.W.Frag} {mg:Str→Option Value} {base:Heap} {A:Adr}
def bX (rs l:List Int):List Int:=List.zipWith (fun r x=>r - x) rs l
theorem iU {rs l:List Int} (h:rs.length=l.length):(bX rs l).length=l.length:=by unfold bX; rw [List.length_zipWith]; omega
theorem qW {rs l:List Int} {i:Nat} (h:rs.length=l.length) (hi:i<l.length):(bX rs l).getD i 0=rs.getD i 0 - l.getD i 0:=by
 unfold bX
 rw [List.getD_eq_getElem?_getD,List.getD_eq_getElem?_getD,List.getD_eq_getElem?_getD,List.getElem?_zipWith,List.getElem?_eq_getElem hi,List.getElem?_eq_getElem (by omega)]
 rfl
theorem iE:∀ {rs l:List Int} {i:Nat} {x s:Int},rs.length=l.length→i<l.length→(bX rs l).set i ((bX rs l).getD i 0 - s)=bX rs (l.set i (l.getD i 0 + s))
 | [],[],i,x,s,_,h=>by cases h
 | [],_ :: _,_,_,_,h,_=>by cases h
 | _ :: _,[],_,_,_,h,_=>by cases h
 | r :: rs,y :: l,0,x,s,_,_=>by
  show (r - y - s) :: bX rs l=(r - (y + s)) :: bX rs l
  rw [Int.sub_sub]
 | r :: rs,y :: l,i + 1,x,s,h,hi=>by
  show (r - y) :: (bX rs l).set i ((bX rs l).getD i 0 - s)=(r - y) :: bX rs (l.set i (l.getD i 0 + s))
  rw [iE (x:=x) (by simpa using h) (by simpa using hi)]
theorem h9:∀ (rs:List Int),bX rs (List.replicate rs.length 0)=rs
 | []=>rfl
 | r :: rs=>by
  show (r - 0) :: bX rs (List.replicate rs.length 0)=_
  rw [h9 rs,Int.sub_zero]
def sA:SpD:=fun ds q=>∃ ps rs a,ds=[aK ps rs,cr a]∧Tree ps rs∧Ends2 ps a.one a.other∧q (ar (a5 ps a)) []
theorem vy (T:Txt K mg A) (hB:TabB base mg A.tc A.tP tqS):FnOk P w K mg base CX0 4 A.f_q46 A.d_q46 ["_law_tree","_law_ask"] (aY [false,false] true (sA)):=by
 have S:=vP
 refine fnD T.t_q46.F S ⟨[false,false],[false,false,false],true⟩ _ ?hl rfl rfl fun cdv Ar outer s H E hr=>⟨_,(ae (aS (i:=2) S.nd rfl (Or.inr rfl) (aq (lN T hB) hr T.t_q18 (aj (aa 0) (aj (am af dIx (aa 1) ac (fun _ _=>rfl)) (aj (am af dIx (aa 1) ac (fun _ _=>rfl)) ao)))))
  (ag (bn (QF.qm (gS ["_law_tie"] [2,0] ⟨rfl,rfl,by decide +kernel,rfl,rfl,(by first | exact trivial | exact ⟨rfl,trivial⟩ | exact ⟨rfl,rfl,trivial⟩ | exact ⟨rfl,rfl,rfl,trivial⟩ | exact ⟨rfl,rfl,rfl,rfl,trivial⟩),rfl⟩ rfl (aX (QF.qe (aB (lw T hB) hr T.t_q53 (aj (aa 0) (aj (am af dIx (aa 1) ac (fun _ _=>rfl)) (aj (am af dIx (aa 1) ac (fun _ _=>rfl)) ao)))))) (bu 0) (fun _ _ _ _=>⟨(bc (i:=0) (show List.Nodup (["_law_tie","_law_meeting_here","_law_tree"]:List Str) by decide +kernel) rfl (Or.inl rfl)),(dz (aW (dg hr.units) dEq (am af dIx (am af dIx (aa 2) ac (fun _ _=>rfl)) (aw bd dI (aa 0) ac) (fun _ _=>rfl)) (aa 1) (aN _))),(aa 0)⟩)))))),fun ds q h=>?_⟩
 case hl=>intro ds q h; obtain ⟨ps,rs,a,rfl,_⟩:=h; rfl
 obtain ⟨ps,rs,a,rfl,hT,he,q0⟩:=h
 refine ⟨ps,rs,a.one,a.other,rfl,hT,he.a0,he.a1,he.b0,he.b1,fun w m hw=>?_⟩
 have hm:=(hw.way hT he.a0 he.b0 he.a1 he.b1).2
 subst hm
 refine ⟨ps,rs,a.one,a.other,rfl,hT,he.a0,he.a1,he.b0,he.b1,fun w' m' hw'=>?_⟩
 rw [(hw'.way hT he.a0 he.b0 he.a1 he.b1).1]
 have hln:=cF hT he
 refine ⟨by rw [au]; omega,?_⟩
 refine cL (ny fun x=>decide (bT ps x=bW ps a.one a.other)) ?_ ?_
 ·intro d hd k hk
  obtain ⟨x,hx,rfl⟩:=cw hd
  have hx':=cJ hT he hx
  refine aI (bi (by omega) (by omega)) ?_
  change k (if decide (bT ps x=bW ps a.one a.other)=true then some (.int x) else none) at hk
  show if decide (bT ps x=bW ps a.one a.other)=true then k (some (.int x)) else k none
  cases e:decide (bT ps x=bW ps a.one a.other) with
  | true=>rw [e] at hk; exact hk
  | false=>rw [e] at hk; exact hk
 ·rw [dY]
  exact ⟨a7 _,q0⟩
theorem ve (T:Txt K mg A) (hB:TabB base mg A.tc A.tP tqS):FnOk P w K mg base CX0 4 A.f_q41 A.d_q41 ["_law_tree","_law_asks_here","_law_pile"] (aY [false,false,false] true (oN)):=by
 have S:=wC
 refine fnD T.t_q41.F S ⟨[false,false,false],[false,false,false,true,true,false,false,false],true⟩ _ ?hl rfl rfl fun cdv Ar outer s H E hr=>⟨_,(ae (bC (i:=3) S.nd rfl (Or.inr rfl) (dN bx gK rfl T.z_list ci (ad (am af dIx (aa 0) ac (fun _ _=>rfl)) ah)))
  (ae (bC (i:=4) S.nd rfl (Or.inl rfl) (dj ah))
  (ae (bF PassesOwn.never rfl (aX (QF.qe (wn (aa 2)))) (aH (i:=5) S.nd rfl (Or.inr rfl)) (ae (aS (i:=6) S.nd rfl (Or.inl rfl) (QF.qe (aB (lw T hB) hr T.t_q53 (aj (aa 0) (aj (am af dIx (am af dIx (aa 1) (aa 5) (fun _ _=>rfl)) ac (fun _ _=>rfl)) (aj (am af dIx (am af dIx (aa 1) (aa 5) (fun _ _=>rfl)) ac (fun _ _=>rfl)) ao))))))
  (ag (bv (QT.bor [3] (aW (dg hr.units) dEq (cY ["_law_tie"] [3,1,5] ⟨rfl,rfl,by decide +kernel,rfl,rfl,(by first | exact trivial | exact ⟨rfl,trivial⟩ | exact ⟨rfl,rfl,trivial⟩ | exact ⟨rfl,rfl,rfl,trivial⟩ | exact ⟨rfl,rfl,rfl,rfl,trivial⟩),rfl⟩ rfl (aX (aa 6)) (bu 0) (fun _ _ _ _=>⟨(bc (i:=0) (show List.Nodup (["_law_tie","_law_left","_law_asks_here","_law_k"]:List Str) by decide +kernel) rfl (Or.inl rfl)),(dz (aW kD dB (am af dIx (aa 1) (aw bd dI (aa 0) ac) (fun _ _=>rfl)) (am af dIx (am af dIx (aa 2) (aa 3) (fun _ _=>rfl)) ac (fun _ _=>rfl)) (aN _))),(aa 0)⟩)) (bp ah) (aN _))) (ae (bR (i:=4) rfl (QE.qf (aa 5)))
  (ag (bF PassesOwn.never rfl (aX (aa 6)) (aH (i:=7) S.nd rfl (Or.inl rfl)) (ag (eu (i:=3) rfl (QF.bor [3] (QE.qf (aw bd dI (am af dIx (aa 3) (aw bd dI (aa 7) ac) (fun _ _=>rfl)) (am af dIx (am af dIx (aa 1) (aa 5) (fun _ _=>rfl)) ac (fun _ _=>rfl))))) (aw bd dI (aa 7) ac)))))) aT))))
  (ag (bn (QF.qm (QF.bor [4] (eJ cW jC rfl T.z_sorted de (ad (aa 4) ah))))))))),fun ds q h=>?_⟩
 case hl=>intro ds q h; obtain ⟨ps,rs,as,p,rfl,_⟩:=h; rfl
 obtain ⟨ps,rs,as,p,rfl,hT,ha,hpl,hpm,q0⟩:=h
 have hal:=ha.len
 have hti:=hT.hi
 have hlr:=hT.len
 refine ⟨a7 _,?_⟩
 refine ⟨rfl,?_⟩
 refine ⟨a7 _,?_⟩
 refine ⟨fun i ρ=>∃ v5 v6 v7,ρ=[some (aK ps rs),some (bh as),some (ar p),some (ar (bX rs (bM ps rs as (p.reverse.take i)).load)),some (ar (bM ps rs as (p.reverse.take i)).keep),v5,v6,v7],⟨none,none,none,?_⟩,?_,?_⟩
 ·have e:bX rs (bM ps rs as (p.reverse.take 0)).load=rs:=by
   show bX rs (List.replicate ps.length 0)=rs
   rw [hlr]; exact h9 rs
  rw [e]; rfl
 ·rintro i d ρ hd ⟨v5,v6,v7,rfl⟩
  obtain ⟨z,hz,rfl⟩:=cR (ns:=p.reverse) (by rw [List.map_reverse]; exact hd)
  have hil:i<p.reverse.length:=(List.getElem?_eq_some_iff.mp hz).1
  have hz1:=hpm z (List.mem_reverse.mp (List.mem_of_getElem? hz))
  obtain ⟨l1,l2,l3⟩:=dF ps rs as p.reverse i (Nat.le_of_lt hil)
  have es:bM ps rs as (p.reverse.take (i + 1))=ix ps rs as (bM ps rs as (p.reverse.take i)) z:=by rw [List.take_add_one,hz]; exact fD ..
  generalize hS:bM ps rs as (p.reverse.take i)=S at l1 l2 l3 es
  rw [List.length_reverse] at hil
  have hat:=eK (as:=as) hz1.1 hz1.2
  have hok:=eh ha hz1.1 hz1.2
  have he:=hok.ends
  refine aI hat ?_
  refine aI hat ?_
  refine ⟨ps,rs,(ay as z).one,(ay as z).other,rfl,hT,he.a0,he.a1,he.b0,he.b1,fun w m hw=>?_⟩
  rw [(hw.way hT he.a0 he.b0 he.a1 he.b1).1]
  have hln:=cF hT he
  refine ⟨by rw [au]; omega,?_⟩
  have hlz:=iU (rs:=rs) (l:=S.load) (by omega)
  refine cL (gw rs (ay as z).size S.load) ?_ ?_
  ·intro d hd k hk
   obtain ⟨t,ht,rfl⟩:=cw hd
   have hm:=cJ hT he ht
   refine aI (bi (by omega) (by omega)) ?_
   refine aI hat ?_
   have e:gw rs (ay as z).size S.load (.int t)=if decide (rs.getD (t - 1).toNat 0<S.load.getD (t - 1).toNat 0 + (ay as z).size)=true then some (.int t) else none:=rfl
   rw [e] at hk
   have e2:decide ((bX rs S.load).getD (t - 1).toNat 0<(ay as z).size)=decide (rs.getD (t - 1).toNat 0<S.load.getD (t - 1).toNat 0 + (ay as z).size):=by
    rw [qW (by omega) (by omega)]
    exact decide_eq_decide.mpr (by omega)
   show if decide ((bX rs S.load).getD (t - 1).toNat 0<(ay as z).size)=true then k (some (.int t)) else k none
   rw [e2]
   by_cases h:decide (rs.getD (t - 1).toNat 0<S.load.getD (t - 1).toNat 0 + (ay as z).size)=true
   ·rw [if_pos h] at hk ⊢; exact hk
   ·rw [if_neg h] at hk ⊢; exact hk
  ·rw [fu]
   have ef:ix ps rs as S z=if eW rs (ay as z).size (aG ps (ay as z)) S.load=[] then ⟨dZ S.load (aG ps (ay as z)) (ay as z).size,S.keep++[z]⟩ else S:=rfl
   rw [ef] at es
   refine ⟨cx _,cx [],?_⟩
   cases ho:eW rs (ay as z).size (aG ps (ay as z)) S.load with
   | nil =>
    rw [ho,if_pos rfl] at es
    have ho':eW rs (ay as z).size (iA ps (ay as z).one (ay as z).other) S.load=[]:=ho
    rw [ho']
    refine (cy (c:=eqD (.lst (([]:List Int).map D.int)) (.lst [])=true) (fun _=>?_) (fun c=>absurd rfl c))
    refine ⟨rfl,by rw [au]; omega,?_⟩
    refine ⟨fun j ρ=>∃ v7,ρ=[some (aK ps rs),some (bh as),some (ar p),some (ar (bX rs (dZ S.load ((aG ps (ay as z)).take j) (ay as z).size))),some (ar (S.keep++[z])),some (.int z),some (ar (aG ps (ay as z))),v7],⟨v7,?_⟩,?_,?_⟩
    ·rw [← cG]; rfl
    ·rintro j d ρ hd ⟨v7,rfl⟩
     obtain ⟨t,ht,rfl⟩:=cR (ns:=aG ps (ay as z)) hd
     have hm:=cJ hT he (List.mem_of_getElem? ht)
     have hlen:(dZ S.load ((aG ps (ay as z)).take j) (ay as z).size).length=S.load.length:=fH _ _ _
     have hlz:=iU (rs:=rs) (l:=dZ S.load ((aG ps (ay as z)).take j) (ay as z).size) (by omega)
     refine aI (bi (by omega) (by omega)) ?_
     refine aI hat ?_
     refine ⟨rfl,?_⟩
     show (match ixN ((bX rs (dZ S.load ((aG ps (ay as z)).take j) (ay as z).size)).map D.int).length (t - 1) with | some _=>_ | none=>False)
     rw [au,fh (by omega) (by omega)]
     refine ⟨some (.int t),?_⟩
     rw [List.take_add_one,ht]
     show _=[_,_,_,some (ar (bX rs (dZ S.load (_++[t]) (ay as z).size))),_,_,_,_]
     rw [iI,k9,← iE (x:=0) (by omega) (by omega),← i4]; rfl
    ·rintro ρ ⟨v7,rfl⟩
     refine ⟨some (.int z),some (ar (aG ps (ay as z))),v7,?_⟩
     rw [es,show (List.map D.int (iA ps (ay as z).one (ay as z).other)).length=(aG ps (ay as z)).length from List.length_map _,List.take_length]
   | cons t ts =>
    rw [ho,if_neg (by simp)] at es
    have ho':eW rs (ay as z).size (iA ps (ay as z).one (ay as z).other) S.load=t :: ts:=ho
    rw [ho']
    refine (cy (c:=eqD (.lst ((t :: ts).map D.int)) (.lst [])=true) (fun c=>absurd c (by rw [show (D.lst [])=ar [] from rfl,show (D.lst ((t :: ts).map D.int))=ar (t :: ts) from rfl,eqDi]; simp)) (fun _=>?_))
    refine ⟨some (.int z),some (ar (aG ps (ay as z))),v7,?_⟩
    rw [es]; rfl
 ·rintro ρ ⟨v5,v6,v7,rfl⟩
  obtain ⟨l1,l2,l3⟩:=dF ps rs as p.reverse p.reverse.length (Nat.le_refl _)
  rw [show ((p.map D.int).reverse).length=p.reverse.length by simp]
  rw [List.take_length] at l1 l2 l3 ⊢
  rw [List.length_reverse] at l2
  refine ⟨_,rfl,by omega,?_⟩
  exact ⟨a7 _,q0⟩
end
end K31
namespace K31
open PySem L2
section
variable {P:Program} {w:World} {K:PySem.W.Frag} {mg:Str→Option Value} {base:Heap} {A:Adr}
structure LaidOk (ps rs:List Int) (as:List Ask) (ts:List (Option (Int×Int))) (o ms cs:List Int):Prop where
 t:Tree ps rs
 a:AsksOk ps as
 tk:fM ts
 ol:o.length≤30
 nd:o.Nodup
 om:∀ z∈o,0≤z∧z<(as.length:Int)
 ml:ms.length=as.length
 cl:cs.length=as.length
 at_:∀ z∈o,ts.getD z.toNat none=some (ms.getD z.toNat 0,cs.getD z.toNat 0)
def oe (ps rs:List Int) (as:List Ask) (S:Pil):D:=.lst [ar (bH (bM ps rs as S.pile.reverse).keep),dQs S.prs,dQs S.rests]
def uN:SpD:=fun ds q=>∃ ps rs as o ms cs ts,ds=[aK ps rs,bh as,ar o,ar ms,ar cs]∧LaidOk ps rs as ts o ms cs∧q (oe ps rs as (a6 ps as ts o)) []
def mH (S:Pil) (l:List Int):Prop:=∀ z,0≤z→z ∉ l→S.rests.getD z.toNat 0=0
theorem ie {l:List Rat} {i j:Nat} {x:Rat} (h:i≠j):(l.set i x).getD j 0=l.getD j 0:=by
 rw [List.getD_eq_getElem?_getD,List.getD_eq_getElem?_getD,List.getElem?_set_ne h]
theorem iH:∀ {l:List Rat} {i:Nat},l.getD i 0=0→l.set i 0=l
 | [],_,_=>rfl
 | x :: l,0,h=>by
  have h:x=0:=h
  rw [h]; rfl
 | x :: l,i + 1,h=>by
  rw [List.set_cons_succ,iH (l:=l) (i:=i) h]
theorem mH.step {ps:List Int} {as:List Ask} {S:Pil} {l:List Int} {k w p:Int} (h:mH S l) (k0 : 0≤k):mH (dh ps as S k w p) (l++[k]):=fun z z0 hz=>by
 have h1:z ∉ l:=fun m=>hz (List.mem_append.mpr (.inl m))
 have h2:z≠k:=fun m=>hz (List.mem_append.mpr (.inr (by rw [m]; exact .head _)))
 have h3:k.toNat≠z.toNat:=by omega
 unfold dh
 split
 ·show (S.rests.set k.toNat _).getD z.toNat 0=0
  rw [ie h3]; exact h z z0 h1
 ·show (S.rests.set k.toNat _).getD z.toNat 0=0
  rw [ie h3]; exact h z z0 h1
def fk (a:Ask) (m:Int) (prs:List Rat) (w:List Int):Rat:=(a.worth:Rat) - (m:Rat) * (w.map fun t=>prs.getD (t - 1).toNat 0).sum
theorem k8 (a:Ask) (m:Int) (prs:List Rat) (w:List Int) (t:Int):fk a m prs w + -((m:Rat) * prs.getD (t - 1).toNat 0)=fk a m prs (w++[t]):=by
 unfold fk
 rw [List.map_append,List.sum_append,List.map_cons,List.map_nil,List.sum_cons,List.sum_nil]
 grind
theorem sum_M {ps rs:List Int} {prs:List Rat} {a:Ask} {M b:Nat} (hT:Tree ps rs) (he:Ends2 ps a.one a.other) (hp:PrM ps prs M b) (j:Nat) : 0≤(((aG ps a).take j).map fun t=>prs.getD (t - 1).toNat 0).sum∧(((aG ps a).take j).map fun t=>prs.getD (t - 1).toNat 0).sum≤(((46 * b:Nat):Int):Rat)∧DvM (((aG ps a).take j).map fun t=>prs.getD (t - 1).toNat 0).sum M:=by
 have hm:∀ r∈((aG ps a).take j).map (fun t=>prs.getD (t - 1).toNat 0),r∈prs:=fun r hr=>by
  obtain ⟨t,ht,rfl⟩:=List.mem_map.mp hr
  have:=cJ hT he (List.mem_of_mem_take ht)
  exact dc (by rw [hp.len]; omega)
 have hb:(0:Rat)≤((b:Int):Rat):=Rat.intCast_nonneg.mpr (by omega)
 have h1:=lv hb fun r hr=>⟨(hp.ok r (hm r hr)).1,(hp.ok r (hm r hr)).2.1⟩
 refine ⟨h1.1,?_,DvM.sum fun r hr=>(hp.ok r (hm r hr)).2.2⟩
 refine Rat.le_trans h1.2 ?_
 have hl:((aG ps a).take j).length≤46:=Nat.le_trans (by rw [List.length_take]; exact Nat.min_le_right _ _) (show (aG ps a).length≤46 from cF hT he)
 rw [List.length_map,Int.natCast_mul,Rat.intCast_mul]
 have hl':((((aG ps a).take j).length:Nat):Rat)≤((46:Nat):Rat):=Rat.natCast_le_natCast.mpr hl
 exact Rat.mul_le_mul_of_nonneg_right hl' hb
theorem sR {ps rs:List Int} {prs:List Rat} {a:Ask} {m:Int} {M b:Nat} (hT:Tree ps rs) (ha:AskOk ps a) (hp:PrM ps prs M b) (m0 : 0≤m) (m1:m≤1000000) (M0 : 0<M) (hM:M<2 ^ 400) (hb:b≤2 ^ 60) (j:Nat):Bt (fk a m prs ((aG ps a).take j)) 3000:=by
 obtain ⟨s0,s1,s2⟩:=sum_M hT ha.ends hp j
 have b1:=fF (m:=400) (x:=66) s0 s1 s2 M0 hM (by omega)
 have b2:Bt (m:Rat) 20:=kM 1000000 (by omega) (by decide) (by decide)
 have b3:Bt (a.worth:Rat) 41:=kM 1000000000000 (by have:=ha.w0; have:=ha.w1; omega) (by decide) (by decide)
 exact (b3.sub (b2.mul b1)).mono (by decide)
theorem lA (m:Int) (r:Rat):Rat.divInt (0 - m * r.num) (r.den:Int) = -((m:Rat) * r):=by
 have e:=cB r
 rw [Rat.divInt_eq_div] at e ⊢
 rw [Int.zero_sub,Rat.intCast_neg,Rat.intCast_mul]
 rw [Rat.div_def] at e ⊢
 rw [Rat.neg_mul,Rat.mul_assoc,e]
theorem jZ {r:Rat} {p:Int} (hp : 1≤p):Rat.divInt r.num ((r.den:Int) * p)=r / (p:Rat):=by
 have e:=cB r
 rw [Rat.divInt_eq_div] at e ⊢
 rw [Rat.div_def] at e
 rw [Rat.intCast_mul,Rat.div_def,Rat.inv_mul_rev,Rat.mul_comm (p:Rat)⁻¹,← Rat.mul_assoc,e,Rat.div_def]
theorem kE {r:Rat} : 0<r.num↔0<r:=by
 rw [Rat.lt_iff]
 show _↔0 * (r.den:Int)<r.num * 1
 rw [Int.zero_mul,Int.mul_one]
def oneQ:D→D
 | _=>dQ 0
theorem kQ (l:List D):l.map oneQ=(List.replicate l.length (0:Rat)).map dQ:=by
 rw [List.map_replicate]
 induction l with
 | nil=>rfl
 | cons d l ih=>rw [List.map_cons,ih,List.length_cons,List.replicate_succ]; rfl
theorem pU (T:Txt K mg A) (hB:TabB base mg A.tc A.tP tqS):FnOk P w K mg base CX0 5 A.f_q42 A.d_q42 ["_law_tree","_law_asks_here","_law_some","_law_many","_law_part"] (aY [false,false,false,false,false] true (uN)):=by
 have S:=wP
 refine fnD T.t_q42.F S ⟨[false,false,false,false,false],[false,false,false,false,false,true,true,true,false,false,false],true⟩ _ ?hl rfl rfl fun cdv Ar outer s H E hr=>⟨_,(ae (gI (i:=5) ["_law_room"] [] ⟨rfl,rfl,by decide +kernel,rfl,rfl,(by first | exact trivial | exact ⟨rfl,trivial⟩ | exact ⟨rfl,rfl,trivial⟩ | exact ⟨rfl,rfl,rfl,trivial⟩ | exact ⟨rfl,rfl,rfl,rfl,trivial⟩),rfl⟩ rfl S.nd rfl (Or.inl rfl) (aX (am af dIx (aa 0) ac (fun _ _=>rfl))) (bu 0) (fun _ _ _ _=>⟨(bc (i:=0) (show List.Nodup (["_law_room"]:List Str) by decide +kernel) rfl (Or.inl rfl)),cZ,(bg (ad ac (ad ac ah)))⟩))
  (ae (gI (i:=6) ["_law_ask"] [] ⟨rfl,rfl,by decide +kernel,rfl,rfl,(by first | exact trivial | exact ⟨rfl,trivial⟩ | exact ⟨rfl,rfl,trivial⟩ | exact ⟨rfl,rfl,rfl,trivial⟩ | exact ⟨rfl,rfl,rfl,rfl,trivial⟩),rfl⟩ rfl S.nd rfl (Or.inl rfl) (aX (aa 1)) (bu 0) (fun _ _ _ _=>⟨(bc (i:=0) (show List.Nodup (["_law_ask"]:List Str) by decide +kernel) rfl (Or.inl rfl)),cZ,(bg (ad ac (ad ac ah)))⟩))
  (ae (bC (i:=7) S.nd rfl (Or.inl rfl) (dj ah))
  (ae (bF PassesOwn.never rfl (aX (aa 2)) (aH (i:=8) S.nd rfl (Or.inl rfl)) (ae (aS (i:=9) S.nd rfl (Or.inl rfl) (bg (ad (am af dIx (am af dIx (aa 1) (aa 8) (fun _ _=>rfl)) ac (fun _ _=>rfl)) (ad ac ah))))
  (ae (iw (bF PassesOwn.never rfl (aX (QF.qe (aB (lw T hB) hr T.t_q53 (aj (aa 0) (aj (am af dIx (am af dIx (aa 1) (aa 8) (fun _ _=>rfl)) ac (fun _ _=>rfl)) (aj (am af dIx (am af dIx (aa 1) (aa 8) (fun _ _=>rfl)) ac (fun _ _=>rfl)) ao)))))) (aH (i:=10) S.nd rfl (Or.inl rfl)) (ag (aS (i:=9) S.nd rfl (Or.inl rfl) (QE.bor [5] (aq (qO T hB) hr T.t_q43 (aj (aa 9) (aj (bg (ad (aw bd dI ac (aw bo dIC (am af dIx (aa 3) (aa 8) (fun _ _=>rfl)) (am af dIx (am af dIx (aa 5) (aw bd dI (aa 10) ac) (fun _ _=>rfl)) ac (fun _ _=>rfl)))) (ad (am af dIx (am af dIx (aa 5) (aw bd dI (aa 10) ac) (fun _ _=>rfl)) ac (fun _ _=>rfl)) ah))) ao))))))))
  (ag (bv (aW ik dB (am af dIx (aa 9) ac (fun _ _=>rfl)) ac (aN _)) (ae (bR (i:=7) rfl (QE.qf (aa 8)))
  (ae (eu (i:=6) rfl (QE.qf (aa 9)) (aa 8))
  (ag (bF PassesOwn.never rfl (aX (QF.qe (aB (vy T hB) hr T.t_q46 (aj (aa 0) (aj (am af dIx (aa 1) (aa 8) (fun _ _=>rfl)) ao))))) (aH (i:=10) S.nd rfl (Or.inl rfl)) (ag (eu (i:=5) rfl (QF.bor [5] (QE.qf (aq (qO T hB) hr T.t_q43 (aj (am af dIx (aa 5) (aw bd dI (aa 10) ac) (fun _ _=>rfl)) (aj (bg (ad (am af dIx (aa 9) ac (fun _ _=>rfl)) (ad (aw bo dIC (am af dIx (aa 9) ac (fun _ _=>rfl)) (am af dIx (aa 4) (aa 8) (fun _ _=>rfl))) ah))) ao))))) (aw bd dI (aa 10) ac))))))) aT)))))
  (ag (bn (pf (br (QF.qm (QF.bor [7] (aB (ve T hB) hr T.t_q41 (aj (aa 0) (aj (aa 1) (aj (aa 7) ao)))))) (br (cf 5) (br (cf 6) e7)))))))))),fun ds q h=>?_⟩
 case hl=>intro ds q h; obtain ⟨ps,rs,as,o,ms,cs,ts,rfl,_⟩:=h; rfl
 obtain ⟨ps,rs,as,o,ms,cs,ts,rfl,hL,q0⟩:=h
 have hT:=hL.t
 have ha:=hL.a
 have hal:=ha.len
 have hti:=hT.hi
 have hlr:=hT.len
 refine ⟨by rw [au]; omega,?_⟩
 refine bU oneQ (fun d _ k hk=>hk) ?_
 rw [kQ,au]
 refine ⟨eR _,?_⟩
 refine ⟨by rw [aR]; omega,?_⟩
 refine bU oneQ (fun d _ k hk=>hk) ?_
 rw [kQ,aR]
 refine ⟨eR _,?_⟩
 refine ⟨rfl,?_⟩
 refine ⟨fun i ρ=>∃ v8 v9 v10,ρ=[some (aK ps rs),some (bh as),some (ar o),some (ar ms),some (ar cs),some (dQs (a6 ps as ts (o.take i)).prs),some (dQs (a6 ps as ts (o.take i)).rests),some (ar (a6 ps as ts (o.take i)).pile),v8,v9,v10]∧mH (a6 ps as ts (o.take i)) (o.take i),⟨none,none,none,?_,?_⟩,?_,?_⟩
 ·rw [← hlr]; rfl
 ·intro z _ _
  show (List.replicate as.length (0:Rat)).getD z.toNat 0=0
  rw [List.getD_eq_getElem?_getD,List.getElem?_replicate]; split <;> rfl
 ·rintro i d ρ hd ⟨v8,v9,v10,rfl,hZ⟩
  obtain ⟨z,hz,rfl⟩:=cR hd
  have hzm:=List.mem_of_getElem? hz
  have hz1:=hL.om z hzm
  have hzt:=hL.at_ z hzm
  have hil:i<o.length:=(List.getElem?_eq_some_iff.mp hz).1
  have hol:=hL.ol
  have hP:=gx hT ha hL.tk hL.om i (Nat.le_of_lt hil)
  have etk:o.take (i + 1)=o.take i++[z]:=by rw [List.take_add_one,hz]; rfl
  have hzn:z ∉ o.take i:=fun hm=>by
   have hnd:=hL.nd
   rw [← List.take_append_drop (i + 1) o,etk,List.append_assoc] at hnd
   exact (List.nodup_append.mp hnd).2.2 z hm z (by simp) rfl
  have es:a6 ps as ts (o.take (i + 1))=eA ps as ts (a6 ps as ts (o.take i)) z:=by rw [etk]; exact fw ..
  generalize hS:a6 ps as ts (o.take i)=S at hP es hZ
  obtain ⟨rl,pl,pm,M,M0,hM,hM2⟩:=hP
  have hM':M<2 ^ 400:=Nat.lt_of_le_of_lt hM (Nat.lt_of_le_of_lt (Nat.pow_le_pow_right (n:=64) (by decide) (show i≤30 by omega)) (by decide))
  have hb':i * 46000000000000≤2 ^ 60:=Nat.le_trans (Nat.mul_le_mul_right _ (show i≤30 by omega)) (by decide)
  have es':eA ps as ts S z=dh ps as S z (ms.getD z.toNat 0) (cs.getD z.toNat 0):=by unfold eA; rw [hzt]
  rw [es'] at es
  have hwp:=hL.tk (ms.getD z.toNat 0) (cs.getD z.toNat 0) (by
   rw [List.getD_eq_getElem?_getD] at hzt
   cases q:ts[z.toNat]? with
   | none=>rw [q] at hzt; cases hzt
   | some x=>rw [q] at hzt; cases hzt; exact List.mem_of_getElem? q)
  have hpl:=hM2.len
  have hok:=eh ha hz1.1 hz1.2
  have he:=hok.ends
  have hat:=eK (as:=as) hz1.1 hz1.2
  have hZ0:=hZ z hz1.1 hzn
  have hZ':=hZ.step (ps:=ps) (as:=as) (k:=z) (w:=ms.getD z.toNat 0) (p:=cs.getD z.toNat 0) hz1.1
  have hml:=hL.ml
  have hcl:=hL.cl
  have hma:=bi (ns:=ms) hz1.1 (by omega)
  have hca:=bi (ns:=cs) hz1.1 (by omega)
  rw [← es,← etk] at hZ'
  generalize hm:ms.getD z.toNat 0=m at *
  generalize hc:cs.getD z.toNat 0=c at *
  refine aI hat ?_
  refine ⟨fun ρ=>∃ v10,ρ=[some (aK ps rs),some (bh as),some (ar o),some (ar ms),some (ar cs),some (dQs S.prs),some (dQs S.rests),some (ar S.pile),some (.int z),some (dQ (fk (ay as z) m S.prs (aG ps (ay as z)))),v10],?_,?_⟩
  ·refine aI hat ?_
   refine aI hat ?_
   refine ⟨ps,rs,(ay as z).one,(ay as z).other,rfl,hT,he.a0,he.a1,he.b0,he.b1,fun w mm hw=>?_⟩
   rw [(hw.way hT he.a0 he.b0 he.a1 he.b1).1]
   refine ⟨fun j ρ=>∃ v10,ρ=[some (aK ps rs),some (bh as),some (ar o),some (ar ms),some (ar cs),some (dQs S.prs),some (dQs S.rests),some (ar S.pile),some (.int z),some (dQ (fk (ay as z) m S.prs ((aG ps (ay as z)).take j))),v10],⟨v10,?_⟩,?_,?_⟩
   ·have e:fk (ay as z) m S.prs ((aG ps (ay as z)).take 0)=((ay as z).worth:Rat):=by
     show ((ay as z).worth:Rat) - (m:Rat) * 0=_
     rw [Rat.mul_zero]; grind
    rw [e,← i9]; rfl
   ·rintro j d ρ hd ⟨v10,rfl⟩
    obtain ⟨t,ht,rfl⟩:=cR (ns:=aG ps (ay as z)) hd
    have htm:=cJ hT he (List.mem_of_getElem? ht)
    have hpa:=ia (rs:=S.prs) (i:=t - 1) (by omega) (by omega)
    have hpm:=hM2.ok _ (dc (rs:=S.prs) (k:=(t - 1).toNat) (by omega))
    have hr1:=sR hT hok hM2 hwp.1 hwp.2.1 M0 hM' hb' j
    have ern:=k8 (ay as z) m S.prs ((aG ps (ay as z)).take j) t
    have etj:(aG ps (ay as z)).take (j + 1)=(aG ps (ay as z)).take j++[t]:=by rw [List.take_add_one,ht]; rfl
    rw [← etj] at ern
    have hpb:=fF (m:=400) (x:=60) hpm.1 hpm.2.1 hpm.2.2 M0 hM' hb'
    generalize hpr:S.prs.getD (t - 1).toNat 0=pr at *
    generalize hre:fk (ay as z) m S.prs ((aG ps (ay as z)).take j)=re at *
    refine aI hma ?_
    refine aI hpa ?_
    refine ⟨⟨Sm.of (n:=20) (by omega) (by decide),hpb.smN (by decide)⟩,?_⟩
    refine aI hpa ?_
    refine ⟨re,0 - m * pr.num,(pr.den:Int),rfl,bA pr,hr1,⟨?_⟩,⟨by rw [Int.natAbs_natCast]; exact Nat.lt_of_lt_of_le hpb.den (cI (by decide))⟩,?_⟩
    ·rw [Int.zero_sub,Int.natAbs_neg,Int.natAbs_mul]
     exact Nat.lt_of_lt_of_le (aZ (m:=20) (n:=460) (by omega) hpb.num) (cI (by decide))
    ·rw [lA,ern]
     exact ⟨rfl,some (.int t),rfl⟩
   ·rintro ρ ⟨v10,rfl⟩
    refine ⟨v10,?_⟩
    rw [show (List.map D.int (iA ps (ay as z).one (ay as z).other)).length=(aG ps (ay as z)).length from List.length_map _,List.take_length]
  ·rintro ρ ⟨v10,rfl⟩
   have hsp:a9 ps (ay as z) m S.prs=h_ (fk (ay as z) m S.prs (aG ps (ay as z))):=rfl
   obtain ⟨x0,x1,x2⟩:=jH hT hok hwp.1 hM2
   generalize hre:fk (ay as z) m S.prs (aG ps (ay as z))=re at *
   refine (cy (c:=decide (re.num > 0)=true) (fun c0=>?_) (fun c0=>?_))
   ·have c1 : 0<re:=kE.mp (of_decide_eq_true c0)
    rw [show h_ re=re from if_pos c1] at hsp
    rw [hsp] at x0 x1 x2
    have hp0:(c:Rat)≠0:=fun h=>by have:=Rat.intCast_eq_zero_iff.mp h; omega
    have ep:dh ps as S z m c=⟨S.pile++[z],ck (re / (c:Rat)) S.prs (a5 ps (ay as z)),S.rests.set z.toNat re⟩:=by unfold dh; rw [hsp,if_neg (by grind)]
    rw [ep] at es
    have hpil:=hM2.len
    refine ⟨rfl,by rw [au]; omega,?_⟩
    refine ⟨rfl,?_⟩
    show (match ixN (S.rests.map dQ).length z with | some _=>_ | none=>False)
    rw [List.length_map,fh (by omega) (by omega)]
    refine aI hat ?_
    refine ⟨ps,rs,ay as z,rfl,hT,he,?_⟩
    obtain ⟨t1,t2⟩:=g6 hT he
    have bs:=fF x0 x1 x2 M0 hM' (x:=60) (by decide)
    obtain ⟨d0,d1⟩:=lh x0 x1 hwp.2.2.1
    have hd:DvM (re / (c:Rat)) (M * c.toNat):=by
     have:=x2.div (n:=c.toNat) (by omega)
     rw [show ((c.toNat:Nat):Int)=c by omega] at this
     exact this
    have hi2:i + 1≤31:=by omega
    have hMp:M * c.toNat<2 ^ 400:=Nat.lt_of_le_of_lt (Nat.mul_le_mul hM (show c.toNat≤64 by omega)) (Nat.lt_of_le_of_lt (show 64 ^ i * 64≤64 ^ 31 by rw [← Nat.pow_succ]; exact Nat.pow_le_pow_right (by decide) hi2) (by decide))
    refine ⟨fun j ρ=>∃ v10,ρ=[some (aK ps rs),some (bh as),some (ar o),some (ar ms),some (ar cs),some (dQs (ck (re / (c:Rat)) S.prs ((a5 ps (ay as z)).take j))),some (dQs (S.rests.set z.toNat re)),some (ar (S.pile++[z])),some (.int z),some (dQ re),v10],⟨v10,?_⟩,?_,?_⟩
    ·rw [← cG,← gQ]; rfl
    ·rintro j d ρ hd2 ⟨v10,rfl⟩
     obtain ⟨t,ht,rfl⟩:=cR (ns:=a5 ps (ay as z)) hd2
     have htm:=t1 t (List.mem_of_getElem? ht)
     have hPj:=PrM.raise (X:=1000000000000) (w:=(a5 ps (ay as z)).take j) d0 d1 hd (fun t h=>t1 t (List.mem_of_mem_take h)) (hM2.up c.toNat)
     have hbj:i * 46000000000000 + ((a5 ps (ay as z)).take j).length * 1000000000000≤2 ^ 60:=by
      have:((a5 ps (ay as z)).take j).length≤46:=Nat.le_trans (by rw [List.length_take]; exact Nat.min_le_right _ _) t2
      exact Nat.le_trans (Nat.add_le_add (Nat.mul_le_mul_right _ (show i≤30 by omega)) (Nat.mul_le_mul_right _ this)) (by decide)
     have etj:(a5 ps (ay as z)).take (j + 1)=(a5 ps (ay as z)).take j++[t]:=by rw [List.take_add_one,ht]; rfl
     have er:=gE (re / (c:Rat)) S.prs ((a5 ps (ay as z)).take j) t
     rw [← etj] at er
     generalize hR:ck (re / (c:Rat)) S.prs ((a5 ps (ay as z)).take j)=R at *
     have hRl:=hPj.len
     have hpa:=ia (rs:=R) (i:=t - 1) (by omega) (by omega)
     have hpm:=hPj.ok _ (dc (rs:=R) (k:=(t - 1).toNat) (by omega))
     have hpb:=fF (m:=400) (x:=60) hpm.1 hpm.2.1 hpm.2.2 (Nat.mul_pos M0 (by omega)) hMp hbj
     refine aI hpa ?_
     refine aI hca ?_
     refine ⟨⟨bs.smD (by decide),Sm.of (n:=20) (by omega) (by decide)⟩,?_⟩
     refine ⟨R.getD (t - 1).toNat 0,re.num,(re.den:Int) * c,rfl,Int.mul_pos (bA re) (by omega),hpb.mono (by decide),⟨Nat.lt_of_lt_of_le bs.num (cI (by decide))⟩,⟨?_⟩,?_⟩
     ·rw [Int.natAbs_mul,Int.natAbs_natCast]
      exact Nat.lt_of_lt_of_le (aZ (m:=460) (n:=20) bs.den (by omega)) (cI (by decide))
     ·rw [jZ hwp.2.2.1]
      refine ⟨rfl,?_⟩
      show (match ixN (R.map dQ).length (t - 1) with | some _=>_ | none=>False)
      rw [List.length_map,fh (by omega) (by omega)]
      refine ⟨some (.int t),?_⟩
      rw [er,← gQ R]; rfl
    ·rintro ρ ⟨v10,rfl⟩
     refine ⟨some (.int z),some (dQ re),v10,?_,hZ'⟩
     rw [es,au,List.take_length]
   ·have c1 : ¬ 0<re:=fun h=>c0 (decide_eq_true (kE.mpr h))
    rw [show h_ re=0 from if_neg c1] at hsp
    have ep:dh ps as S z m c=S:=by
     unfold dh
     rw [hsp,if_pos rfl,iH hZ0]
    rw [ep] at es
    refine ⟨some (.int z),some (dQ re),v10,?_,hZ'⟩
    rw [es]
 ·rintro ρ ⟨v8,v9,v10,rfl,hZ⟩
  rw [au,List.take_length]
  have hP:=gx hT ha hL.tk hL.om o.length (Nat.le_refl _)
  rw [List.take_length] at hP
  have hol:=hL.ol
  have hpl:=hP.pl
  refine ⟨ps,rs,as,_,rfl,hT,ha,by omega,hP.pm,?_⟩
  exact q0
end
end K31
namespace K31
open PySem L2
section
variable {P:Program} {w:World} {K:PySem.W.Frag} {mg:Str→Option Value} {base:Heap} {A:Adr}
def m9:SpD:=fun ds q=>∃ (ks:List Int) (xs ys:List Rat),ds=[.tup [ar ks,dQs xs,dQs ys]]∧ks.length≤60∧xs.length≤60∧ys.length≤60∧q (.bl true) []
def qp:D→Option D
 | _=>none
theorem gu:∀ l:List D,l.filterMap qp=[]
 | []=>rfl
 | d :: l=>by rw [List.filterMap_cons]; exact gu l
theorem va (T:Txt K mg A) (hB:TabB base mg A.tc A.tP tqS):FnOk P w K mg base CX0 1 A.f_q32 A.d_q32 ["_law_told"] (aY [false] false (m9)):=by
 have S:=uS
 refine fnD T.t_q32.F S ⟨[false],[false],false⟩ _ ?hl rfl rfl fun cdv Ar outer s H E hr=>⟨_,(ae (bv (QW.qt (eV (bJ (bD (cP rfl T.z_isinstance aU (aa 0) (ce (v:=.ty "tuple") rfl T.z_tuple fQ rfl)))) (dC (aW (bZ hr.units) dNe (aJ aA dD rfl T.z_len bB (ad (aa 0) ah)) ac (aN _))))) (ag (aL eU)) aT)
  (ae (bv (bJ (bD (aJ (nC rfl) dAll rfl T.z_all vE (ad (cY ["_law_part"] [] ⟨rfl,rfl,by decide +kernel,rfl,rfl,(by first | exact trivial | exact ⟨rfl,trivial⟩ | exact ⟨rfl,rfl,trivial⟩ | exact ⟨rfl,rfl,rfl,trivial⟩ | exact ⟨rfl,rfl,rfl,rfl,trivial⟩),rfl⟩ rfl (uu (aa 0)) (bu 0) (fun _ _ _ _=>⟨(bc (i:=0) (show List.Nodup (["_law_part"]:List Str) by decide +kernel) rfl (Or.inl rfl)),cZ,(cP rfl T.z_isinstance aU (aa 0) (ce (v:=.ty "list") rfl T.z_list ci rfl))⟩)) ah)))) (ag (aL eU)) aT)
  (ae (bv (aW (bZ hr.units) dNe (cY ["_law_one"] [] ⟨rfl,rfl,by decide +kernel,rfl,rfl,(by first | exact trivial | exact ⟨rfl,trivial⟩ | exact ⟨rfl,rfl,trivial⟩ | exact ⟨rfl,rfl,rfl,trivial⟩ | exact ⟨rfl,rfl,rfl,rfl,trivial⟩),rfl⟩ rfl (aX (am af dIx (aa 0) ac (fun _ _=>rfl))) (bu 0) (fun _ _ _ _=>⟨(bc (i:=0) (show List.Nodup (["_law_one"]:List Str) by decide +kernel) rfl (Or.inl rfl)),(dz (QW.qt (eV (bD (cP rfl T.z_isinstance aU (aa 0) (ce (v:=.ty "bool") rfl T.z_bool mY rfl))) (dC (bJ (bD (cP rfl T.z_isinstance aU (aa 0) (ce (v:=.ty "int") rfl T.z_int jm rfl)))))))),(aa 0)⟩)) (bp ah) (aN _)) (ag (aL eU)) aT)
  (ag (aL (d7 (dg hr.units) dEq (cY ["_law_one"] [] ⟨rfl,rfl,by decide +kernel,rfl,rfl,(by first | exact trivial | exact ⟨rfl,trivial⟩ | exact ⟨rfl,rfl,trivial⟩ | exact ⟨rfl,rfl,rfl,trivial⟩ | exact ⟨rfl,rfl,rfl,rfl,trivial⟩),rfl⟩ rfl (aX (iQ lT dCat (am af dIx (aa 0) ac (fun _ _=>rfl)) (am af dIx (aa 0) ac (fun _ _=>rfl)))) (bu 0) (fun _ _ _ _=>⟨(bc (i:=0) (show List.Nodup (["_law_one"]:List Str) by decide +kernel) rfl (Or.inl rfl)),(dz (bJ (bD (cP rfl T.z_isinstance aU (aa 0) (ce (v:=.ty "tuple") rfl T.z_tuple fQ rfl))))),(aa 0)⟩)) (bp ah) (aN _))))))),fun ds q h=>?_⟩
 case hl=>intro ds q h; obtain ⟨ks,xs,ys,rfl,_⟩:=h; rfl
 obtain ⟨ks,xs,ys,rfl,h1,h2,h3,q0⟩:=h
 refine ⟨Nat.le_of_ble_eq_true rfl,?_⟩
 refine bU (fun _=>.bl true) ?_ ?_
 ·intro d hd k hk
  rcases List.mem_cons.mp hd with rfl | hd
  ·exact hk
  rcases List.mem_cons.mp hd with rfl | hd
  ·exact hk
  rcases List.mem_cons.mp hd with rfl | hd
  ·exact hk
  cases hd
 refine ⟨[true,true,true],rfl,?_⟩
 refine ⟨by rw [au]; omega,?_⟩
 refine cL qp ?_ ?_
 ·intro d hd k hk
  obtain ⟨x,hx,rfl⟩:=cw hd
  exact hk
 rw [gu]
 refine ⟨cx [],cx [],?_⟩
 refine (cy (c:=(!eqD (.lst []) (.lst []))=true) (fun c=>absurd c (by decide)) (fun _=>?_))
 refine ⟨by rw [List.length_map,List.length_map]; omega,?_⟩
 refine ⟨by rw [List.length_append,List.length_map,List.length_map]; omega,?_⟩
 refine cL qp ?_ ?_
 ·intro d hd k hk
  rcases List.mem_append.mp hd with hd | hd
  ·obtain ⟨r,_,rfl⟩:=List.mem_map.mp hd
   exact hk
  ·obtain ⟨r,_,rfl⟩:=List.mem_map.mp hd
   exact hk
 rw [gu]
 exact ⟨cx [],cx [],q0⟩
def oneI (k:Int):D→D
 | _=>.int k
theorem kr (k:Int) (l:List D):l.map (oneI k)=(List.replicate l.length k).map D.int:=by
 rw [List.map_replicate]
 induction l with
 | nil=>rfl
 | cons d l ih=>rw [List.map_cons,ih,List.length_cons,List.replicate_succ]; rfl
theorem c9 (ks:List Int) (xs ys:List Rat):lay 3 (.lst [ar ks,dQs xs,dQs ys])=true:=by
 rw [lay,List.all_cons,List.all_cons,List.all_cons,eZ 1,ff,ff]; rfl
theorem lD (ps rs:List Int) (as:List Ask):lay 3 (.lst [aK ps rs,bh as])=true:=by
 rw [lay,List.all_cons,List.all_cons,nD 0,gB 0]; rfl
theorem lr (ks:List Int):lay 2 (.lst (ks.map D.int++[.non]))=true:=by
 rw [lay,List.all_append,gC]; rfl
theorem su {n:Nat} {k:Int} (h : 1≤n):(List.replicate n k).getD (0:Int).toNat 0=k:=by
 cases n with
 | zero=>omega
 | succ n=>rfl
theorem mq {ps:List Int} {k:Int} {as:List Ask} {o:List Int} (hk:AlK ps k as) (ho:ev ps as o):LaidOk ps (List.replicate ps.length k) as (alT k as) o (List.replicate as.length 1) (List.replicate as.length k):=by
 have hal:=hk.a.len
 obtain ⟨hol,hor⟩:=ho.mem
 obtain ⟨hnd,hpm,_⟩:=ho.ord
 refine ⟨hk.t,hk.a,jR hk.k0 hk.k60,by omega,hnd,hor,List.length_replicate,List.length_replicate,fun z hz=>?_⟩
 have hz1:=hor z hz
 have hlt:z.toNat<as.length:=by omega
 rw [vo,if_pos hlt,List.getD_eq_getElem?_getD,List.getD_eq_getElem?_getD,List.getElem?_replicate,List.getElem?_replicate,if_pos hlt,if_pos hlt]
 rfl
def mZ:SpD:=fun ds q=>∃ (ps:List Int) (k:Int) (as:List Ask),ds=[aK ps (List.replicate ps.length k),bh as]∧AlK ps k as∧∀ d,q (.bl true) [some d]
theorem uH (T:Txt K mg A) (hB:TabB base mg A.tc A.tP tqS):FnOk P w K mg base CX0 11 A.f_q31 A.d_q31 ["_law_tree","_law_asks_here"] (aY [false,true] false (mZ)):=by
 have S:=ue
 refine fnD T.t_q31.F S ⟨[false,true],[false,true,true,false,false,false,true],false⟩ _ ?hl rfl rfl fun cdv Ar outer s H E hr=>⟨_,(ae (sf (i:=2) S.nd rfl (Or.inl rfl) (pf (br (ig (br (QF.qm (dN bx gK rfl T.z_list ci (ad (am af dIx (aa 0) ac (fun _ _=>rfl)) ah))) (br (QF.qm (dN bx gK rfl T.z_list ci (ad (am af dIx (aa 0) ac (fun _ _=>rfl)) ah))) e7))) (br (QF.qm (QF.bor [1] (dN bx gK rfl T.z_list ci (ad (aa 1) ah)))) e7))))
  (ae (gL (i:=3) [1] ["_law_ask"] [] ⟨rfl,rfl,by decide +kernel,rfl,rfl,(by first | exact trivial | exact ⟨rfl,trivial⟩ | exact ⟨rfl,rfl,trivial⟩ | exact ⟨rfl,rfl,rfl,trivial⟩ | exact ⟨rfl,rfl,rfl,rfl,trivial⟩),rfl⟩ rfl S.nd rfl (Or.inl rfl) (aX (aa 1)) (bu 0) (fun _ _ _ _=>⟨(bc (i:=0) (show List.Nodup (["_law_ask"]:List Str) by decide +kernel) rfl (Or.inl rfl)),cZ,ac⟩))
  (ae (gL (i:=4) [1] ["_law_ask"] [0] ⟨rfl,rfl,by decide +kernel,rfl,rfl,(by first | exact trivial | exact ⟨rfl,trivial⟩ | exact ⟨rfl,rfl,trivial⟩ | exact ⟨rfl,rfl,rfl,trivial⟩ | exact ⟨rfl,rfl,rfl,rfl,trivial⟩),rfl⟩ rfl S.nd rfl (Or.inl rfl) (aX (aa 1)) (bu 0) (fun _ _ _ _=>⟨(bc (i:=0) (show List.Nodup (["_law_ask","_law_tree"]:List Str) by decide +kernel) rfl (Or.inl rfl)),cZ,(am af dIx (am af dIx (aa 1) ac (fun _ _=>rfl)) ac (fun _ _=>rfl))⟩))
  (ae (aS (i:=5) S.nd rfl (Or.inl rfl) (QF.qe (QF.bor [1] (aB (pU T hB) hr T.t_q42 (aj (aa 0) (aj (aa 1) (aj (aq (oV T hB) hr T.t_q16 (aj (aa 0) (aj (aa 1) ao))) (aj (aa 3) (aj (aa 4) ao)))))))))
  (ae (iw (bC (i:=6) S.nd rfl (Or.inl rfl) (QF.bor [1] (aB (jJ T hB) hr T.t_q12 (aj (aa 0) (aj (aa 1) ao))))))
  (ae (bv (QT.bor [1,2,6] (QW.qt (eV (bJ (bD (aq (va T hB) hr T.t_q32 (aj (aa 6) ao)))) (eV (aW (bZ hr.units) dNe (fA bx gK rfl T.z_list ci (ad (aa 6) ah)) (aa 5) (aN _)) (dC (aW (bZ hr.units) dNe (bp (ad (aa 0) (ad (aa 1) ah))) (aa 2) (aN _))))))) (ag (aL eU)) aT)
  (ae (jI (i:=6) (pO li ls) iu)
  (ae (jI (i:=6) (pO li ls) iu)
  (ae (bv (QT.bor [6] (QW.qt (eV (aW (bZ hr.units) dNe (am af dIx (aa 6) ac (fun _ _=>rfl)) (am af dIx (aa 5) ac (fun _ _=>rfl)) (aN _)) (dC (aW (bZ hr.units) dNe (am af dIx (aa 6) ac (fun _ _=>rfl)) (iQ lT dCat (am af dIx (aa 5) ac (fun _ _=>rfl)) (bp (ad iu ah))) (aN _)))))) (ag (aL eU)) aT)
  (ae (jI (i:=6) (pO li ls) iu)
  (ae (bv (QT.bor [1] (aW (bZ hr.units) dNe (fA bx gK rfl T.z_list ci (ad (QF.qe (aB (jJ T hB) hr T.t_q12 (aj (aa 0) (aj (aa 1) ao)))) ah)) (aa 5) (aN _))) (ag (aL eU)) aT)
  (ae (bv (QT.bor [1] (aW (dg hr.units) dEq (aa 1) (bp ah) (aN _))) (ag (aL eU)) aT)
  (ae (cC (wU (i:=1) rfl))
  (ae (aS (i:=5) S.nd rfl (Or.inl rfl) (QF.qe (QF.bor [1] (aB (pU T hB) hr T.t_q42 (aj (aa 0) (aj (aa 1) (aj (aq (oV T hB) hr T.t_q16 (aj (aa 0) (aj (aa 1) ao))) (aj (kW (aa 3) (mI ac) l9) (aj (kW (aa 4) (mI ac) l9) ao)))))))))
  (ag (aL (QE.bor [1] (d7 (dg hr.units) dEq (fA bx gK rfl T.z_list ci (ad (QF.qe (aB (jJ T hB) hr T.t_q12 (aj (aa 0) (aj (aa 1) ao)))) ah)) (aa 5) (aN _))))))))))))))))))),fun ds q h=>?_⟩
 case hl=>intro ds q h; obtain ⟨ps,k,as,rfl,_⟩:=h; rfl
 obtain ⟨ps,k,as,rfl,hk,q0⟩:=h
 have hT:=hk.t
 have ha:=hk.a
 have hal:=ha.len
 have hlo:=hT.lo
 have hti:=hT.hi
 refine ⟨a7 _,?_⟩
 refine ⟨a7 _,?_⟩
 refine ⟨nA _,?_⟩
 refine ⟨by rw [aR]; omega,?_⟩
 refine bU (oneI 1) (fun d _ k hk=>hk) ?_
 rw [kr,aR]
 refine ⟨a7 _,?_⟩
 refine ⟨by rw [aR]; omega,?_⟩
 refine bU (oneI k) ?_ ?_
 ·intro d hd k' hk'
  refine aI (bi (by omega) (by rw [List.length_replicate]; omega)) ?_
  rw [su hlo]
  exact hk'
 rw [kr,aR]
 refine ⟨a7 _,?_⟩
 refine ⟨ps,_,as,rfl,hT,ha,fun o ho=>?_⟩
 refine ⟨ps,_,as,o,_,_,alT k as,rfl,mq hk ho,?_⟩
 refine ⟨fun ρ=>ρ=[some (aK ps (List.replicate ps.length k)),some (bh as),some (.lst [aK ps (List.replicate ps.length k),bh as]),some (ar (List.replicate as.length 1)),some (ar (List.replicate as.length k)),some (oe ps (List.replicate ps.length k) as (a6 ps as (alT k as) o)),some (.tup [ar (bH (bM ps (List.replicate ps.length k) as (a6 ps as (alT k as) o).pile.reverse).keep),dQs (a6 ps as (alT k as) o).prs,dQs (a6 ps as (alT k as) o).rests])],?_,?_⟩
 ·refine ⟨ps,k,as,rfl,hk,fun o' ho'=>?_⟩
  rw [fU hT ha ho' ho]
  rfl
 rintro ρ rfl
 have hP:=gx hk.t hk.a (jR (as:=as) hk.k0 hk.k60) (o:=o) ho.mem.2 o.length (Nat.le_refl _)
 rw [List.take_length] at hP
 have hol:=ho.mem.1
 have hpl:=hP.pl
 have hrl:=hP.rl
 obtain ⟨M,_,_,hPM⟩:=hP.pr
 have hprl:=hPM.len
 have hkl:(bH (bM ps (List.replicate ps.length k) as (a6 ps as (alT k as) o).pile.reverse).keep).length≤60:=by
  have:=dF ps (List.replicate ps.length k) as (a6 ps as (alT k as) o).pile.reverse _ (Nat.le_refl _)
  rw [List.take_length,List.length_reverse] at this
  rw [gf]
  omega
 unfold oe
 generalize hks:bH (bM ps (List.replicate ps.length k) as (a6 ps as (alT k as) o).pile.reverse).keep=ks at *
 generalize hprs:(a6 ps as (alT k as) o).prs=prs at *
 generalize hrst:(a6 ps as (alT k as) o).rests=rests at *
 refine ⟨ks,prs,rests,rfl,hkl,by omega,by omega,?_⟩
 refine ⟨bL (c9 ks prs rests) (by decide),bL (c9 ks prs rests) (by decide),?_⟩
 refine (cy (c:=(!eqD (.lst [ar ks,dQs prs,dQs rests]) (.lst [ar ks,dQs prs,dQs rests]))=true) (fun c=>absurd c (by rw [ca 3 _ (c9 ks prs rests)]; decide)) (fun _=>?_))
 refine ⟨bL (lD _ _ as) (by decide),bL (lD _ _ as) (by decide),?_⟩
 refine (cy (c:=(!eqD (.lst [aK ps (List.replicate ps.length k),bh as]) (.lst [aK ps (List.replicate ps.length k),bh as]))=true) (fun c=>absurd c (by rw [ca 3 _ (lD _ _ as)]; decide)) (fun _=>?_))
 refine ⟨.tup [ar ks,dQs prs,dQs rests],rfl,0,ar ks,rfl,rfl,.tup [ar ks,dQs prs,dQs rests],ks.map D.int,rfl,rfl,?_⟩
 refine ⟨rfl,by rw [au]; omega,?_⟩
 refine ⟨.tup [.lst (ks.map D.int++[.non]),dQs prs,dQs rests],rfl,1,dQs prs,rfl,rfl,.tup [.lst (ks.map D.int++[.non]),dQs prs,dQs rests],prs.map dQ,rfl,rfl,?_⟩
 refine ⟨rfl,by rw [List.length_map]; omega,?_⟩
 refine ⟨mU _,mU _,?_⟩
 refine (cy (c:=(!eqD (dQs rests) (dQs rests))=true) (fun c=>absurd c (by rw [ca 2 _ (ff rests)]; decide)) (fun _=>?_))
 refine ⟨by show (ks.map D.int).length + 1≤_; rw [au]; omega,?_⟩
 refine ⟨bL (lr ks) (by decide),bL (lr ks) (by decide),?_⟩
 refine (cy (c:=(!eqD (.lst (ks.map D.int++[.non])) (.lst (ks.map D.int++[.non])))=true) (fun c=>absurd c (by rw [ca 2 _ (lr ks)]; decide)) (fun _=>?_))
 refine ⟨.tup [.lst (ks.map D.int++[.non]),.lst (prs.map dQ++[.non]),dQs rests],rfl,2,dQs rests,rfl,rfl,.tup [.lst (ks.map D.int++[.non]),.lst (prs.map dQ++[.non]),dQs rests],rests.map dQ,rfl,rfl,?_⟩
 refine ⟨rfl,by rw [List.length_map]; omega,?_⟩
 refine ⟨ps,k,as,rfl,hk,fun o' ho'=>?_⟩
 rw [fU hT ha ho' ho,hks,hprs,hrst]
 refine ⟨bL (c9 ks prs rests) (by decide),bL (c9 ks prs rests) (by decide),?_⟩
 refine (cy (c:=(!eqD (.lst [ar ks,dQs prs,dQs rests]) (.lst [ar ks,dQs prs,dQs rests]))=true) (fun c=>absurd c (by rw [ca 3 _ (c9 ks prs rests)]; decide)) (fun _=>?_))
 refine ⟨bL (gB 0 as) (by decide),cx [],?_⟩
 refine (cy (c:=eqD (bh as) (.lst [])=true) (fun c=>?_) (fun c=>?_))
 ·exact q0 _
 have hne:as≠[]:=fun h=>c (by rw [h]; exact ca 2 _ (gB 0 []))
 have e1:(as.map cr)[(as.map cr).length - 1]? = some (cr (as.getLast hne)):=by
  rw [List.length_map,List.getElem?_map,← List.getLast?_eq_getElem?,List.getLast?_eq_some_getLast hne]; rfl
 show (match (as.map cr)[(as.map cr).length - 1]? with | some d=>imm d=true∧_ | none=>False)
 rw [e1]
 refine ⟨rfl,?_⟩
 rw [List.map_dropLast.symm]
 have hk2:AlK ps k as.dropLast:=⟨hk.t,hk.k0,hk.k60,hk.a.sub (List.dropLast_sublist as),fun a h=>hk.s a ((List.dropLast_sublist as).subset h)⟩
 have hlen2:as.dropLast.length=as.length - 1:=List.length_dropLast
 refine ⟨ps,_,as.dropLast,rfl,hT,hk2.a,fun o2 ho2=>?_⟩
 have er:∀ x:Int,gM ((List.replicate as.length x).map D.int) (some 1) none=(List.replicate as.dropLast.length x).map D.int:=fun x=>by
  rw [nO (by decide),← List.map_drop,List.drop_replicate,hlen2]; rfl
 refine ⟨ps,_,as.dropLast,o2,_,_,alT k as.dropLast,?_,mq hk2 ho2,?_⟩
 ·show [aK ps (List.replicate ps.length k),bh as.dropLast,ar o2,.lst (gM ((List.replicate as.length 1).map D.int) (some 1) none),.lst (gM ((List.replicate as.length k).map D.int) (some 1) none)]=_
  rw [er,er]; rfl
 refine ⟨ps,k,as.dropLast,rfl,hk2,fun o3 ho3=>?_⟩
 rw [fU hT hk2.a ho3 ho2]
 have hq:∀ (d:D) b,b=true→q (.bl b) [some d]:=fun d b h=>by rw [h]; exact q0 d
 have hly:=ca 3 _ (c9 (bH (bM ps (List.replicate ps.length k) as.dropLast (a6 ps as.dropLast (alT k as.dropLast) o2).pile.reverse).keep) (a6 ps as.dropLast (alT k as.dropLast) o2).prs (a6 ps as.dropLast (alT k as.dropLast) o2).rests)
 refine ⟨bL (c9 _ _ _) (by decide),bL (c9 _ _ _) (by decide),?_⟩
 refine ⟨rfl,?_⟩
 exact hq _ _ hly
end
end K31
namespace K31
open PySem L2
section
variable {P:Program} {w:World} {K:PySem.W.Frag} {mg:Str→Option Value} {base:Heap} {A:Adr}
theorem sQ {ps:List Int} {as:List Ask} (ha:AsksOk ps as) (h:∀ a∈as,∃ s∈([1]:List Int),a.size≤s):∀ a∈as,a.size=1:=fun a hm=>by
 obtain ⟨s,hs,hl⟩:=h a hm
 have:=(ha.ok a hm).s0
 rw [List.mem_singleton] at hs
 omega
def eL:List Ask:=[⟨0,1,1,7⟩,⟨1,0,1,9⟩]
theorem qD {y:Int}:∀ {i:Nat} {x:Int},([y]:List Int)[i]? = some x→x=y∧i=0
 | 0,x,h=>by cases h; exact ⟨rfl,rfl⟩
 | n + 1,x,h=>by cases h
theorem lX:Tree [0] (List.replicate ([0]:List Int).length 1):=⟨rfl,by decide,by decide,fun i x h=>by obtain ⟨rfl,rfl⟩:=qD h; decide,fun i x h=>by obtain ⟨rfl,rfl⟩:=qD h; decide⟩
theorem j8:AlK [0] 1 eL:=by
 refine ⟨lX,by decide,by decide,⟨by decide,fun a ha=>?_⟩,fun a ha=>?_⟩
 ·rcases List.mem_cons.mp ha with rfl | ha
  ·exact ⟨⟨by decide,by decide,by decide,by decide,by decide⟩,by decide,by decide,by decide,by decide⟩
  rcases List.mem_cons.mp ha with rfl | ha
  ·exact ⟨⟨by decide,by decide,by decide,by decide,by decide⟩,by decide,by decide,by decide,by decide⟩
  cases ha
 ·rcases List.mem_cons.mp ha with rfl | ha
  ·rfl
  rcases List.mem_cons.mp ha with rfl | ha
  ·rfl
  cases ha
theorem ll:ev [0] eL [0,1]:=by
 obtain ⟨e,he⟩:=jA lX 1 (Nat.le_refl _)
 refine ⟨e,he,?_⟩
 have em:dH [0] e eL=[e.getD 0 0,e.getD 0 0]:=by
  show [e.getD (bW [0] 0 1).toNat 0,e.getD (bW [0] 1 0).toNat 0]=_
  rw [show bW [0] 0 1=0 by decide +kernel,show bW [0] 1 0=0 by decide +kernel]; rfl
 rw [em]
 refine ⟨List.Perm.refl _,?_,?_⟩
 ·simp
 ·simp
theorem fv:(a6 [0] eL (alT 1 eL) [0,1]).prs=[9]∧(a6 [0] eL (alT 1 eL) [0,1]).rests=[7,2]∧bH (bM [0] (List.replicate ([0]:List Int).length 1) eL (a6 [0] eL (alT 1 eL) [0,1]).pile.reverse).keep=[1]:=by decide +kernel
theorem vi (T:Txt K mg A) (hB:TabB base mg A.tc A.tP tqS):FnOk P w K mg base CX0 12 A.f_law A.d_law ["_law_script"] (aY [false] false ((o6 K))):=by
 have S:=vN
 refine fnD T.t_law.F S ⟨[false],[false,false,true,false,false],false⟩ _ ?hl rfl rfl fun cdv Ar outer s H E hr=>⟨_,(ae (bF PassesOwn.never rfl (fe rfl T.z_range (ad (aJ (gi rfl) dMax rfl T.z_max lG (ad ac (ad (aJ (iC rfl) dMin rfl T.z_min qR (ad ac (ad (aJ aA dD rfl T.z_len bB (ad (aa 0) ah)) ah))) ah))) ah)) (aH (i:=1) S.nd rfl (Or.inl rfl)) (ae (bC (i:=2) S.nd rfl (Or.inl rfl) (aB (uI T hB) hr T.t_q44 (aj (aa 0) (aj (aa 1) ao))))
  (ae (iw (aS (i:=3) S.nd rfl (Or.inl rfl) (i8 iD tQ rfl T.z_int jm (ad (eG (d7 (dg hr.units) dEq (aq (cH T hB) hr T.t_q45 (eP 2 (aj ac ao))) ac (aN _)) (gv (d7 (dg hr.units) dEq (aa 1) ac (aN _)))) ah))))
  (ae (aS (i:=4) S.nd rfl (Or.inl rfl) (QF.qe (aB (wv T hB) hr T.t_q30 (eP 2 (aj (am af dIx (bp (ad ac (ad ac ah))) (aa 3) (fun _ _=>rfl)) ao)))))
  (ag (bv (bJ (bD (aq (uH T hB) hr T.t_q31 (aj (aa 4) (qk_t (aB (vK T hB) hr T.t_q40 (eP 2 (aj (aa 4) (aj ac (aj (am af dIx (bp (ad ac (ad ac ah))) (aa 3) (fun _ _=>rfl)) (aj (bp (ad ac ah)) ao)))))) ao))))) (ag (aL eU)) aT))))))
  (ag (aL (d7 (dg hr.units) dEq (QF.qe (aB (jJ T hB) hr T.t_q12 (aj (bg (ad (bp (ad ac ah)) (ad (bp (ad ac ah)) ah))) (aj (bp (ad (bg (ad ac (ad ac (ad ac (ad ac ah))))) (ad (bg (ad ac (ad ac (ad ac (ad ac ah))))) ah))) ao)))) (bg (ad (bp (ad ac ah)) (ad (bp (ad (bg (ad ac (ad ac ah))) ah)) (ad (bp (ad (bg (ad ac (ad ac ah))) (ad (bg (ad ac (ad ac ah))) ah))) ah)))) (aN _))))),fun ds q h=>?_⟩
 case hl=>intro ds q h; obtain ⟨φ,ns,rfl,_⟩:=h; rfl
 obtain ⟨φ,ns,rfl,hφ,hl,q0⟩:=h
 refine ⟨hφ,?_⟩
 refine ⟨⟨by simp; omega,by simp; omega⟩,?_⟩
 refine ⟨fun i ρ=>∃ v1 v2 v3 v4,ρ=[some (.scr φ ns),v1,v2,v3,v4],⟨_,_,_,_,rfl⟩,?_,?_⟩
 rotate_left
 ·rintro ρ ⟨v1,v2,v3,v4,rfl⟩
  refine ⟨[0],1,eL,rfl,j8,fun o ho=>?_⟩
  rw [fU lX j8.a ho ll,fv.1,fv.2.1,fv.2.2]
  have hly:lay 3 (.tup [ar [1],dQs [9],dQs [7,2]])=true:=by rw [lay,List.all_cons,List.all_cons,List.all_cons,eZ 1,ff,ff]; rfl
  refine ⟨bL hly (by decide),bL hly (by decide),?_⟩
  have hq:∀ b,b=true→q (.bl b) []:=fun b h=>by rw [h]; exact q0
  exact hq _ (ca 3 _ hly)
 rintro i d ρ hd ⟨v1,v2,v3,v4,rfl⟩
 obtain ⟨hi,rfl⟩:=e_ hd
 have hi:i<2:=by simp at hi; omega
 refine ⟨φ,ns,0 + (i:Int),rfl,hφ,by omega,by omega,fun c m c0=>?_⟩
 refine ⟨fun ρ=>∃ g c1 m1,ρ=[some (.scr φ ns),some (.int (0 + (i:Int))),some (ar [c1,m1]),some (.int g),v4]∧(g=0∨g=1)∧0≤c1,?_,?_⟩
 ·refine ⟨c,m,8,rfl,c0,by decide,dO (n:=8) (by decide) (by decide +kernel),fun r c1 m1 r0 r1 h1=>?_⟩
  refine (cy (c:=decide (r=7)=true) (fun _=>?_) (fun _=>?_))
  ·refine ⟨if decide (0 + (i:Int)=0)=true then 1 else 0,c1,m1,?_,?_,h1⟩
   ·rfl
   ·split <;> simp
  ·exact ⟨0,c1,m1,rfl,.inl rfl,h1⟩
 rintro ρ ⟨g,c1,m1,rfl,hg,h1⟩
 obtain ⟨x,hx,x0,x1⟩:∃ x:Int,atI [D.int 16,D.int 23] g=some (.int x)∧0<x∧x≤23:=by
  rcases hg with rfl | rfl
  ·exact ⟨16,rfl,by decide,by decide⟩
  ·exact ⟨23,rfl,by decide,by decide⟩
 obtain ⟨y,hy,y0,y1⟩:∃ y:Int,atI [D.int 20,D.int 30] g=some (.int y)∧0<y∧y≤30:=by
  rcases hg with rfl | rfl
  ·exact ⟨20,rfl,by decide,by decide⟩
  ·exact ⟨30,rfl,by decide,by decide⟩
 refine aI hx ?_
 refine ⟨c1,m1,x,rfl,h1,x0,x1,fun ps r c2 m2 hT r1 r60 hps h2=>?_⟩
 refine aI hy ?_
 refine ⟨c2,m2,ps,_,0,y,[1],rfl,h2,hT,by decide,by omega,by omega,by decide,by decide,(by decide),fun as c3 m3 ha _ has hsz h3=>?_⟩
 refine ⟨ps,r,as,rfl,⟨hT,r1,r60,ha,sQ ha hsz⟩,fun d=>?_⟩
 exact ⟨_,_,_,_,rfl⟩
end
end K31
namespace K31
open PySem L2
theorem fC {us:List Value} {n:Nat} (h:us.length=n + 1):∃ a r,us=a :: r∧r.length=n:=by
 cases us with
 | nil=>cases h
 | cons a r=>exact ⟨a,r,rfl,Nat.succ.inj h⟩
theorem us1 {fd:FuncData} {ps:List Str} (h:∀ a0,bindArgs fd ⟨[a0],[]⟩=pure (ps.zip [a0])):∀ us:List Value,us.length=1→bindArgs fd ⟨us,[]⟩=pure (ps.zip us):=fun us hl=>by
 obtain ⟨a0,u0,rfl,h0⟩:=fC hl
 cases List.eq_nil_of_length_eq_zero h0
 exact h a0
theorem us2 {fd:FuncData} {ps:List Str} (h:∀ a0 a1,bindArgs fd ⟨[a0,a1],[]⟩=pure (ps.zip [a0,a1])):∀ us:List Value,us.length=2→bindArgs fd ⟨us,[]⟩=pure (ps.zip us):=fun us hl=>by
 obtain ⟨a0,u0,rfl,h0⟩:=fC hl
 obtain ⟨a1,u1,rfl,h1⟩:=fC h0
 cases List.eq_nil_of_length_eq_zero h1
 exact h a0 a1
theorem us3 {fd:FuncData} {ps:List Str} (h:∀ a0 a1 a2,bindArgs fd ⟨[a0,a1,a2],[]⟩=pure (ps.zip [a0,a1,a2])):∀ us:List Value,us.length=3→bindArgs fd ⟨us,[]⟩=pure (ps.zip us):=fun us hl=>by
 obtain ⟨a0,u0,rfl,h0⟩:=fC hl
 obtain ⟨a1,u1,rfl,h1⟩:=fC h0
 obtain ⟨a2,u2,rfl,h2⟩:=fC h1
 cases List.eq_nil_of_length_eq_zero h2
 exact h a0 a1 a2
theorem us4 {fd:FuncData} {ps:List Str} (h:∀ a0 a1 a2 a3,bindArgs fd ⟨[a0,a1,a2,a3],[]⟩=pure (ps.zip [a0,a1,a2,a3])):∀ us:List Value,us.length=4→bindArgs fd ⟨us,[]⟩=pure (ps.zip us):=fun us hl=>by
 obtain ⟨a0,u0,rfl,h0⟩:=fC hl
 obtain ⟨a1,u1,rfl,h1⟩:=fC h0
 obtain ⟨a2,u2,rfl,h2⟩:=fC h1
 obtain ⟨a3,u3,rfl,h3⟩:=fC h2
 cases List.eq_nil_of_length_eq_zero h3
 exact h a0 a1 a2 a3
theorem us5 {fd:FuncData} {ps:List Str} (h:∀ a0 a1 a2 a3 a4,bindArgs fd ⟨[a0,a1,a2,a3,a4],[]⟩=pure (ps.zip [a0,a1,a2,a3,a4])):∀ us:List Value,us.length=5→bindArgs fd ⟨us,[]⟩=pure (ps.zip us):=fun us hl=>by
 obtain ⟨a0,u0,rfl,h0⟩:=fC hl
 obtain ⟨a1,u1,rfl,h1⟩:=fC h0
 obtain ⟨a2,u2,rfl,h2⟩:=fC h1
 obtain ⟨a3,u3,rfl,h3⟩:=fC h2
 obtain ⟨a4,u4,rfl,h4⟩:=fC h3
 cases List.eq_nil_of_length_eq_zero h4
 exact h a0 a1 a2 a3 a4
theorem all_mk {l:PySem.W.OpenLaw} {w:World} {K:PySem.W.Frag} {h:Heap} {mg:Str→Option Value} {fa:Addr} (X:K.In h) (G:h.Ns mainGlobals mg) (hfa:mg "law" = some (.ref fa))
 {f_q26:Addr} {d_q26:FuncData} (h_q26:FH K "is_whole" nZ f_q26 d_q26)
 {f_q11:Addr} {d_q11:FuncData} (h_q11:FH K "is_between" o9 f_q11 d_q11)
 {f_q0:Addr} {d_q0:FuncData} (h_q0:FH K "greatest_common" s_q0 f_q0 d_q0)
 {f_q3:Addr} {d_q3:FuncData} (h_q3:FH K "has_two_lists" s_q3 f_q3 d_q3)
 {f_q7:Addr} {d_q7:FuncData} (h_q7:FH K "look_at_tree" s_q7 f_q7 d_q7)
 {f_q38:Addr} {d_q38:FuncData} (h_q38:FH K "depths" pq f_q38 d_q38)
 {f_q25:Addr} {d_q25:FuncData} (h_q25:FH K "is_place" pk f_q25 d_q25)
 {f_q23:Addr} {d_q23:FuncData} (h_q23:FH K "are_ends" n_ f_q23 d_q23)
 {f_q39:Addr} {d_q39:FuncData} (h_q39:FH K "is_ask" pB f_q39 d_q39)
 {f_q4:Addr} {d_q4:FuncData} (h_q4:FH K "look_at_asks" s_q4 f_q4 d_q4)
 {f_q24:Addr} {d_q24:FuncData} (h_q24:FH K "fraction" o5 f_q24 d_q24)
 {f_q58:Addr} {d_q58:FuncData} (h_q58:FH K "plus" ot f_q58 d_q58)
 {f_q54:Addr} {d_q54:FuncData} (h_q54:FH K "minus" oU f_q54 d_q54)
 {f_q55:Addr} {d_q55:FuncData} (h_q55:FH K "times" rA f_q55 d_q55)
 {f_q48:Addr} {d_q48:FuncData} (h_q48:FH K "parted" o7 f_q48 d_q48)
 {f_q49:Addr} {d_q49:FuncData} (h_q49:FH K "sum_of" qy f_q49 d_q49)
 {f_q56:Addr} {d_q56:FuncData} (h_q56:FH K "under" oZ f_q56 d_q56)
 {f_q5:Addr} {d_q5:FuncData} (h_q5:FH K "look_at_ends" s_q5 f_q5 d_q5)
 {f_q51:Addr} {d_q51:FuncData} (h_q51:FH K "climb" rz f_q51 d_q51)
 {f_q10:Addr} {d_q10:FuncData} (h_q10:FH K "way_between" oT f_q10 d_q10)
 {f_q50:Addr} {d_q50:FuncData} (h_q50:FH K "way_of" oy f_q50 d_q50)
 {f_q13:Addr} {d_q13:FuncData} (h_q13:FH K "meeting_of" pQ f_q13 d_q13)
 {f_q8:Addr} {d_q8:FuncData} (h_q8:FH K "tops_between" s_q8 f_q8 d_q8)
 {f_q47:Addr} {d_q47:FuncData} (h_q47:FH K "lay_on" p5 f_q47 d_q47)
 {f_q19:Addr} {d_q19:FuncData} (h_q19:FH K "load_with" oP f_q19 d_q19)
 {f_q34:Addr} {d_q34:FuncData} (h_q34:FH K "over_on" pG f_q34 d_q34)
 {f_q20:Addr} {d_q20:FuncData} (h_q20:FH K "over_with" nV f_q20 d_q20)
 {f_q27:Addr} {d_q27:FuncData} (h_q27:FH K "spare_of" qZ f_q27 d_q27)
 {f_q9:Addr} {d_q9:FuncData} (h_q9:FH K "common_room" s_q9 f_q9 d_q9)
 {f_q6:Addr} {d_q6:FuncData} (h_q6:FH K "look_at_ones" s_q6 f_q6 d_q6)
 {f_q2:Addr} {d_q2:FuncData} (h_q2:FH K "deepest_first" s_q2 f_q2 d_q2)
 {f_q14:Addr} {d_q14:FuncData} (h_q14:FH K "raise_tops" qK f_q14 d_q14)
 {f_q35:Addr} {d_q35:FuncData} (h_q35:FH K "pile_up" oF f_q35 d_q35)
 {f_q1:Addr} {d_q1:FuncData} (h_q1:FH K "keep_from_last" s_q1 f_q1 d_q1)
 {f_q12:Addr} {d_q12:FuncData} (h_q12:FH K "keep_alike" qx f_q12 d_q12)
 {f_q15:Addr} {d_q15:FuncData} (h_q15:FH K "_law_cell_at" p8 f_q15 d_q15)
 {f_q44:Addr} {d_q44:FuncData} (h_q44:FH K "_law_pool" rn f_q44 d_q44)
 {f_q45:Addr} {d_q45:FuncData} (h_q45:FH K "_law_take" qH f_q45 d_q45)
 {f_q30:Addr} {d_q30:FuncData} (h_q30:FH K "_law_alike" q8 f_q30 d_q30)
 {f_q40:Addr} {d_q40:FuncData} (h_q40:FH K "_law_asks" qv f_q40 d_q40)
 {f_q57:Addr} {d_q57:FuncData} (h_q57:FH K "_law_up" oq f_q57 d_q57)
 {f_q18:Addr} {d_q18:FuncData} (h_q18:FH K "_law_meeting" qu f_q18 d_q18)
 {f_q53:Addr} {d_q53:FuncData} (h_q53:FH K "_law_way" oJ f_q53 d_q53)
 {f_q17:Addr} {d_q17:FuncData} (h_q17:FH K "_law_divisor" pS f_q17 d_q17)
 {f_q52:Addr} {d_q52:FuncData} (h_q52:FH K "_law_low" pD f_q52 d_q52)
 {f_q43:Addr} {d_q43:FuncData} (h_q43:FH K "_law_plus" pX f_q43 d_q43)
 {f_q16:Addr} {d_q16:FuncData} (h_q16:FH K "_law_deepest" qG f_q16 d_q16)
 {f_q46:Addr} {d_q46:FuncData} (h_q46:FH K "_law_tops" qF f_q46 d_q46)
 {f_q41:Addr} {d_q41:FuncData} (h_q41:FH K "_law_kept" oX f_q41 d_q41)
 {f_q42:Addr} {d_q42:FuncData} (h_q42:FH K "_law_laid" oO f_q42 d_q42)
 {f_q32:Addr} {d_q32:FuncData} (h_q32:FH K "_law_shape" rB f_q32 d_q32)
 {f_q31:Addr} {d_q31:FuncData} (h_q31:FH K "_law_right" n4 f_q31 d_q31)
 {f_law:Addr} {d_law:FuncData} (h_law:FH K "law" n6 f_law d_law)
 {t_MOST_TIES:Tok} (c_MOST_TIES:PySem.W.nsIn K mainGlobals "MOST_TIES" = some (some (.int 23 t_MOST_TIES)))
 {t_MOST_ROOM:Tok} (c_MOST_ROOM:PySem.W.nsIn K mainGlobals "MOST_ROOM" = some (some (.int 1000000 t_MOST_ROOM)))
 {t_MOST_ASKS:Tok} (c_MOST_ASKS:PySem.W.nsIn K mainGlobals "MOST_ASKS" = some (some (.int 30 t_MOST_ASKS)))
 {t_MOST_SIZE:Tok} (c_MOST_SIZE:PySem.W.nsIn K mainGlobals "MOST_SIZE" = some (some (.int 1000000 t_MOST_SIZE)))
 {t_MOST_WORTH:Tok} (c_MOST_WORTH:PySem.W.nsIn K mainGlobals "MOST_WORTH" = some (some (.int 1000000000000 t_MOST_WORTH)))
 {t_MOST_COMMON_ROOM:Tok} (c_MOST_COMMON_ROOM:PySem.W.nsIn K mainGlobals "MOST_COMMON_ROOM" = some (some (.int 60 t_MOST_COMMON_ROOM)))
 (z_abs:PySem.W.nsIn K mainGlobals "abs" = some none)
 (z_all:PySem.W.nsIn K mainGlobals "all" = some none)
 (z_bool:PySem.W.nsIn K mainGlobals "bool" = some none)
 (z_enumerate:PySem.W.nsIn K mainGlobals "enumerate" = some none)
 (z_int:PySem.W.nsIn K mainGlobals "int" = some none)
 (z_isinstance:PySem.W.nsIn K mainGlobals "isinstance" = some none)
 (z_len:PySem.W.nsIn K mainGlobals "len" = some none)
 (z_list:PySem.W.nsIn K mainGlobals "list" = some none)
 (z_max:PySem.W.nsIn K mainGlobals "max" = some none)
 (z_min:PySem.W.nsIn K mainGlobals "min" = some none)
 (z_range:PySem.W.nsIn K mainGlobals "range" = some none)
 (z_reversed:PySem.W.nsIn K mainGlobals "reversed" = some none)
 (z_sorted:PySem.W.nsIn K mainGlobals "sorted" = some none)
 (z_sum:PySem.W.nsIn K mainGlobals "sum" = some none)
 (z_tuple:PySem.W.nsIn K mainGlobals "tuple" = some none)
 {tc tP:Addr} (hc:d_q2.code = .ref tc)
   :∃ fd:FuncData,(∀ (s:Shared) (v:Value),BindsTo s fd ⟨[v],[]⟩ [("_law_script",v)])∧∀ base:Heap,K.In base→base.Ns mainGlobals mg→TabB base mg tc tP tqS→FnOk l.prog w K mg base CX0 12 fa fd ["_law_script"] (jw K):=by
 have e:=hfa.symm.trans (PySem.W.mg_of X G h_law.a)
 cases e
 have T:Txt K mg ⟨f_q26,_,f_q11,_,f_q0,_,f_q3,_,f_q7,_,f_q38,_,f_q25,_,f_q23,_,f_q39,_,f_q4,_,f_q24,_,f_q58,_,f_q54,_,f_q55,_,f_q48,_,f_q49,_,f_q56,_,f_q5,_,f_q51,_,f_q10,_,f_q50,_,f_q13,_,f_q8,_,f_q47,_,f_q19,_,f_q34,_,f_q20,_,f_q27,_,f_q9,_,f_q6,_,f_q2,_,f_q14,_,f_q35,_,f_q1,_,f_q12,_,f_q15,_,f_q44,_,f_q45,_,f_q30,_,f_q40,_,f_q57,_,f_q18,_,f_q53,_,f_q17,_,f_q52,_,f_q43,_,f_q16,_,f_q46,_,f_q41,_,f_q42,_,f_q32,_,f_q31,_,fa,_,tc,tP⟩:=⟨h_q26.ft X G fun _ _ _ _ _ _=>us1 fun _=>rfl,h_q11.ft X G fun _ _ _ _ _ _=>us3 fun _ _ _=>rfl,h_q0.ft X G fun _ _ _ _ _ _=>us2 fun _ _=>rfl,h_q3.ft X G fun _ _ _ _ _ _=>us1 fun _=>rfl,h_q7.ft X G fun _ _ _ _ _ _=>us1 fun _=>rfl,h_q38.ft X G fun _ _ _ _ _ _=>us1 fun _=>rfl,h_q25.ft X G fun _ _ _ _ _ _=>us2 fun _ _=>rfl,h_q23.ft X G fun _ _ _ _ _ _=>us3 fun _ _ _=>rfl,h_q39.ft X G fun _ _ _ _ _ _=>us2 fun _ _=>rfl,h_q4.ft X G fun _ _ _ _ _ _=>us2 fun _ _=>rfl,h_q24.ft X G fun _ _ _ _ _ _=>us2 fun _ _=>rfl,h_q58.ft X G fun _ _ _ _ _ _=>us2 fun _ _=>rfl,h_q54.ft X G fun _ _ _ _ _ _=>us2 fun _ _=>rfl,h_q55.ft X G fun _ _ _ _ _ _=>us2 fun _ _=>rfl,h_q48.ft X G fun _ _ _ _ _ _=>us2 fun _ _=>rfl,h_q49.ft X G fun _ _ _ _ _ _=>us1 fun _=>rfl,h_q56.ft X G fun _ _ _ _ _ _=>us2 fun _ _=>rfl,h_q5.ft X G fun _ _ _ _ _ _=>us3 fun _ _ _=>rfl,h_q51.ft X G fun _ _ _ _ _ _=>us3 fun _ _ _=>rfl,h_q10.ft X G fun _ _ _ _ _ _=>us3 fun _ _ _=>rfl,h_q50.ft X G fun _ _ _ _ _ _=>us2 fun _ _=>rfl,h_q13.ft X G fun _ _ _ _ _ _=>us3 fun _ _ _=>rfl,h_q8.ft X G fun _ _ _ _ _ _=>us3 fun _ _ _=>rfl,h_q47.ft X G fun _ _ _ _ _ _=>us3 fun _ _ _=>rfl,h_q19.ft X G fun _ _ _ _ _ _=>us3 fun _ _ _=>rfl,h_q34.ft X G fun _ _ _ _ _ _=>us4 fun _ _ _ _=>rfl,h_q20.ft X G fun _ _ _ _ _ _=>us3 fun _ _ _=>rfl,h_q27.ft X G fun _ _ _ _ _ _=>us4 fun _ _ _ _=>rfl,h_q9.ft X G fun _ _ _ _ _ _=>us1 fun _=>rfl,h_q6.ft X G fun _ _ _ _ _ _=>us1 fun _=>rfl,h_q2.ft X G fun _ _ _ _ _ _=>us2 fun _ _=>rfl,h_q14.ft X G fun _ _ _ _ _ _=>us4 fun _ _ _ _=>rfl,h_q35.ft X G fun _ _ _ _ _ _=>us3 fun _ _ _=>rfl,h_q1.ft X G fun _ _ _ _ _ _=>us3 fun _ _ _=>rfl,h_q12.ft X G fun _ _ _ _ _ _=>us2 fun _ _=>rfl,h_q15.ft X G fun _ _ _ _ _ _=>us2 fun _ _=>rfl,h_q44.ft X G fun _ _ _ _ _ _=>us2 fun _ _=>rfl,h_q45.ft X G fun _ _ _ _ _ _=>us2 fun _ _=>rfl,h_q30.ft X G fun _ _ _ _ _ _=>us2 fun _ _=>rfl,h_q40.ft X G fun _ _ _ _ _ _=>us5 fun _ _ _ _ _=>rfl,h_q57.ft X G fun _ _ _ _ _ _=>us2 fun _ _=>rfl,h_q18.ft X G fun _ _ _ _ _ _=>us3 fun _ _ _=>rfl,h_q53.ft X G fun _ _ _ _ _ _=>us3 fun _ _ _=>rfl,h_q17.ft X G fun _ _ _ _ _ _=>us2 fun _ _=>rfl,h_q52.ft X G fun _ _ _ _ _ _=>us2 fun _ _=>rfl,h_q43.ft X G fun _ _ _ _ _ _=>us2 fun _ _=>rfl,h_q16.ft X G fun _ _ _ _ _ _=>us2 fun _ _=>rfl,h_q46.ft X G fun _ _ _ _ _ _=>us2 fun _ _=>rfl,h_q41.ft X G fun _ _ _ _ _ _=>us3 fun _ _ _=>rfl,h_q42.ft X G fun _ _ _ _ _ _=>us5 fun _ _ _ _ _=>rfl,h_q32.ft X G fun _ _ _ _ _ _=>us1 fun _=>rfl,h_q31.ft X G fun _ _ _ _ _ _=>us2 fun _ _=>rfl,h_law.ft X G fun _ _ _ _ _ _=>us1 fun _=>rfl,PySem.W.mg_none_of X G z_abs,PySem.W.mg_none_of X G z_all,PySem.W.mg_none_of X G z_bool,PySem.W.mg_none_of X G z_enumerate,PySem.W.mg_none_of X G z_int,PySem.W.mg_none_of X G z_isinstance,PySem.W.mg_none_of X G z_len,PySem.W.mg_none_of X G z_list,PySem.W.mg_none_of X G z_max,PySem.W.mg_none_of X G z_min,PySem.W.mg_none_of X G z_range,PySem.W.mg_none_of X G z_reversed,PySem.W.mg_none_of X G z_sorted,PySem.W.mg_none_of X G z_sum,PySem.W.mg_none_of X G z_tuple,⟨_,PySem.W.mg_of X G c_MOST_TIES⟩,⟨_,PySem.W.mg_of X G c_MOST_ROOM⟩,⟨_,PySem.W.mg_of X G c_MOST_ASKS⟩,⟨_,PySem.W.mg_of X G c_MOST_SIZE⟩,⟨_,PySem.W.mg_of X G c_MOST_WORTH⟩,⟨_,PySem.W.mg_of X G c_MOST_COMMON_ROOM⟩,hc⟩
 obtain ⟨_,_,_,_,_,_,_,_,_,rfl,_,_⟩:=h_law.F.ex
 exact ⟨_,fun s v=>.of_eq rfl,fun base _ _ hB=>(vi T hB).imp fun _ _ _ _ h=>nu h⟩
theorem walk {l:PySem.W.OpenLaw} {q:Program} {loose:List Str} {XP:(Str→Option Value)→Heap→Prop} {YP:World→Heap→Prop} {d:DefRec} {K:Params→PySem.W.Frag} {c Pt:Addr} (hn:l.most=some 63) (hdf:d.params.defaults=[])
 (hY:∀ (w:World) (h:Heap),YP w h→(K w.params).In h∧h.get? Pt=some (PySem.W.tabObj #[])) (hcd0:∀ w:World,PySem.W.codeHdIn (K w.params) c Pt=true) (hKP:∀ w:World,(K w.params).lookup Pt=none)
 (F:∀ (w:World) (mg:Str→Option Value) (fa:Addr) (h:Heap),(K w.params).In h→h.Ns mainGlobals mg→mg d.name=some (.ref fa) →
  ∃ fd:FuncData,(∀ (s:Shared) (u:Value),BindsTo s fd ⟨[u],[]⟩ [("_law_script",u)])∧∀ base:Heap,(K w.params).In base→base.Ns mainGlobals mg→TabB base mg c Pt tqS→FnOk l.prog w (K w.params) mg base CX0 12 fa fd ["_law_script"] (jw (K w.params))) :
 PySem.W.WalkO q loose XP YP l.row.toRowW d [] (fun f vs=>PySem.call f vs) :=
 L2.o8 (n:=63) (k:=12) (x:="_law_script") (sp:=fun w=>jw (K w.params)) hn (by decide) hdf ⟨rfl,by decide,by decide,rfl⟩ hY hcd0 hKP F (fun _ _ a ns hl hO hS=>⟨a,ns,rfl,hO,hS,hl,fun _=>rfl⟩) fun _ _ _ _ z=>z
end K31
open PySem PySem.W PyProof.Rows
set_option maxRecDepth 100000 in
theorem PySem.Challenge.cw_treeasks_k31_keep_by_depth_told_holds : PySem.Challenge.rw_treeasks_k31_keep_by_depth_told.Holds := by
 w_on; o_law; k_head; (case hw=>w_witness2)
 k_fill
 refine' K31.walk (l:=PySem.Challenge.rw_treeasks_k31_keep_by_depth_told) rfl rfl (fun w h Y=>⟨PySem.W.km_in_of Y,PySem.W.km_tabs_of Y _ (List.Mem.head _)⟩) ?hcd ?hKP ?F
 case F =>
  intro w mg fa h KX G hmg
  refine' K31.all_mk KX G hmg (L2.aO ?_ ?_ ?_ ?_) (L2.aO ?_ ?_ ?_ ?_) (L2.aO ?_ ?_ ?_ ?_) (L2.aO ?_ ?_ ?_ ?_) (L2.aO ?_ ?_ ?_ ?_) (L2.aO ?_ ?_ ?_ ?_) (L2.aO ?_ ?_ ?_ ?_) (L2.aO ?_ ?_ ?_ ?_) (L2.aO ?_ ?_ ?_ ?_) (L2.aO ?_ ?_ ?_ ?_) (L2.aO ?_ ?_ ?_ ?_) (L2.aO ?_ ?_ ?_ ?_) (L2.aO ?_ ?_ ?_ ?_) (L2.aO ?_ ?_ ?_ ?_) (L2.aO ?_ ?_ ?_ ?_) (L2.aO ?_ ?_ ?_ ?_) (L2.aO ?_ ?_ ?_ ?_) (L2.aO ?_ ?_ ?_ ?_) (L2.aO ?_ ?_ ?_ ?_) (L2.aO ?_ ?_ ?_ ?_) (L2.aO ?_ ?_ ?_ ?_) (L2.aO ?_ ?_ ?_ ?_) (L2.aO ?_ ?_ ?_ ?_) (L2.aO ?_ ?_ ?_ ?_) (L2.aO ?_ ?_ ?_ ?_) (L2.aO ?_ ?_ ?_ ?_) (L2.aO ?_ ?_ ?_ ?_) (L2.aO ?_ ?_ ?_ ?_) (L2.aO ?_ ?_ ?_ ?_) (L2.aO ?_ ?_ ?_ ?_) (L2.aO ?_ ?_ ?_ ?_) (L2.aO ?_ ?_ ?_ ?_) (L2.aO ?_ ?_ ?_ ?_) (L2.aO ?_ ?_ ?_ ?_) (L2.aO ?_ ?_ ?_ ?_) (L2.aO ?_ ?_ ?_ ?_) (L2.aO ?_ ?_ ?_ ?_) (L2.aO ?_ ?_ ?_ ?_) (L2.aO ?_ ?_ ?_ ?_) (L2.aO ?_ ?_ ?_ ?_) (L2.aO ?_ ?_ ?_ ?_) (L2.aO ?_ ?_ ?_ ?_) (L2.aO ?_ ?_ ?_ ?_) (L2.aO ?_ ?_ ?_ ?_) (L2.aO ?_ ?_ ?_ ?_) (L2.aO ?_ ?_ ?_ ?_) (L2.aO ?_ ?_ ?_ ?_) (L2.aO ?_ ?_ ?_ ?_) (L2.aO ?_ ?_ ?_ ?_) (L2.aO ?_ ?_ ?_ ?_) (L2.aO ?_ ?_ ?_ ?_) (L2.aO ?_ ?_ ?_ ?_) (L2.aO ?_ ?_ ?_ ?_) ?_ ?_ ?_ ?_ ?_ ?_ ?_ ?_ ?_ ?_ ?_ ?_ ?_ ?_ ?_ ?_ ?_ ?_ ?_ ?_ ?_ ?_
  all_goals try k_is
  all_goals first | rfl | (rw [← Array.all_toList]; rfl)
 case hcd=>intro w; first | kernel_rfl | rfl
 case hKP=>intro w; first | kernel_rfl | rfl
end
