import PyProof.Rows.All
import Wide.All
import OpenK.AllK
import Wide.FinOn
import Lean
import PyProof.EqAt
import PyProof.EqKinds
import PyProof.TupleCall
import PyProof.Rows.ListRangeD
import KE.LcSums
import KE.KRevSl
import PyProof.Rows.SetFrom
import PyProof.Rows.ListMulArg
import KE.KSortKey
import PySem.Challenge.RW_treeasks_k61_whole_no_flow_is_more_than
set_option Elab.async false
set_option linter.all false
set_option maxRecDepth 100000
set_option genSizeOf false
set_option maxHeartbeats 4000000
set_option exponentiation.threshold 9000
noncomputable section
theorem PySem.W.Fast.te4130097128934116325:True:=trivial
def PySem.W.Fast.tw4130097128934116325:Nat:=0
theorem PySem.W.Fast.te9352157205165109356:True:=trivial
def PySem.W.Fast.tw9352157205165109356:Nat:=0
def PySem.W.Fast.tw18149570523542751829:PySem.Program:=PySem.Challenge.pw_treeasks_k61_whole_no_flow_is_more_than
theorem PySem.W.Fast.te18149570523542751829:PySem.Challenge.pw_treeasks_k61_whole_no_flow_is_more_than=PySem.W.Fast.tw18149570523542751829:=rfl
def PySem.W.Fast.tw16831858382540986620:List PySem.Stmt:=((PySem.Challenge.pw_treeasks_k61_whole_no_flow_is_more_than.main.body.drop 45).take 14)
theorem PySem.W.Fast.te16831858382540986620:((PySem.Challenge.pw_treeasks_k61_whole_no_flow_is_more_than.main.body.drop 45).take 14)=PySem.W.Fast.tw16831858382540986620:=rfl
def PySem.W.Fast.tw8798067030982209426:List PySem.Stmt:=((PySem.Challenge.pw_treeasks_k61_whole_no_flow_is_more_than.main.body.drop 13).take 17)
theorem PySem.W.Fast.te8798067030982209426:((PySem.Challenge.pw_treeasks_k61_whole_no_flow_is_more_than.main.body.drop 13).take 17)=PySem.W.Fast.tw8798067030982209426:=rfl
def PySem.W.Fast.tw6775779693802341137:PySem.Program:=({ PySem.Challenge.pw_treeasks_k61_whole_no_flow_is_more_than with main:={ PySem.Challenge.pw_treeasks_k61_whole_no_flow_is_more_than.main with body:=(PySem.Challenge.pw_treeasks_k61_whole_no_flow_is_more_than.main.body.drop 1).take 4++(PySem.Challenge.pw_treeasks_k61_whole_no_flow_is_more_than.main.body.drop 6).take 2++(PySem.Challenge.pw_treeasks_k61_whole_no_flow_is_more_than.main.body.drop 9).take 7++(PySem.Challenge.pw_treeasks_k61_whole_no_flow_is_more_than.main.body.drop 17).take 5++(PySem.Challenge.pw_treeasks_k61_whole_no_flow_is_more_than.main.body.drop 23).take 6++(PySem.Challenge.pw_treeasks_k61_whole_no_flow_is_more_than.main.body.drop 30).take 3++(PySem.Challenge.pw_treeasks_k61_whole_no_flow_is_more_than.main.body.drop 34).take 1++(PySem.Challenge.pw_treeasks_k61_whole_no_flow_is_more_than.main.body.drop 36).take 7++(PySem.Challenge.pw_treeasks_k61_whole_no_flow_is_more_than.main.body.drop 44).take 16 } }:PySem.Program)
theorem PySem.W.Fast.te6775779693802341137:({ PySem.Challenge.pw_treeasks_k61_whole_no_flow_is_more_than with main:={ PySem.Challenge.pw_treeasks_k61_whole_no_flow_is_more_than.main with body:=(PySem.Challenge.pw_treeasks_k61_whole_no_flow_is_more_than.main.body.drop 1).take 4++(PySem.Challenge.pw_treeasks_k61_whole_no_flow_is_more_than.main.body.drop 6).take 2++(PySem.Challenge.pw_treeasks_k61_whole_no_flow_is_more_than.main.body.drop 9).take 7++(PySem.Challenge.pw_treeasks_k61_whole_no_flow_is_more_than.main.body.drop 17).take 5++(PySem.Challenge.pw_treeasks_k61_whole_no_flow_is_more_than.main.body.drop 23).take 6++(PySem.Challenge.pw_treeasks_k61_whole_no_flow_is_more_than.main.body.drop 30).take 3++(PySem.Challenge.pw_treeasks_k61_whole_no_flow_is_more_than.main.body.drop 34).take 1++(PySem.Challenge.pw_treeasks_k61_whole_no_flow_is_more_than.main.body.drop 36).take 7++(PySem.Challenge.pw_treeasks_k61_whole_no_flow_is_more_than.main.body.drop 44).take 16 } }:PySem.Program)=PySem.W.Fast.tw6775779693802341137:=rfl
def PySem.W.Fast.tw12535178752535985128:List PySem.Stmt:=((PySem.Challenge.pw_treeasks_k61_whole_no_flow_is_more_than.main.body.drop 3).take 1)
theorem PySem.W.Fast.te12535178752535985128:((PySem.Challenge.pw_treeasks_k61_whole_no_flow_is_more_than.main.body.drop 3).take 1)=PySem.W.Fast.tw12535178752535985128:=rfl
def PySem.W.Fast.tw17295985792616691399:List PySem.Stmt:=((PySem.Challenge.pw_treeasks_k61_whole_no_flow_is_more_than.main.body.drop 59).take 1)
theorem PySem.W.Fast.te17295985792616691399:((PySem.Challenge.pw_treeasks_k61_whole_no_flow_is_more_than.main.body.drop 59).take 1)=PySem.W.Fast.tw17295985792616691399:=rfl
def PySem.W.Fast.tw8260275458322953788:List PySem.Stmt:=((PySem.Challenge.pw_treeasks_k61_whole_no_flow_is_more_than.main.body.drop 2).take 1)
theorem PySem.W.Fast.te8260275458322953788:((PySem.Challenge.pw_treeasks_k61_whole_no_flow_is_more_than.main.body.drop 2).take 1)=PySem.W.Fast.tw8260275458322953788:=rfl
def PySem.W.Fast.tw8202045394571725485:List PySem.Stmt:=((PySem.Challenge.pw_treeasks_k61_whole_no_flow_is_more_than.main.body.drop 0).take 2)
theorem PySem.W.Fast.te8202045394571725485:((PySem.Challenge.pw_treeasks_k61_whole_no_flow_is_more_than.main.body.drop 0).take 2)=PySem.W.Fast.tw8202045394571725485:=rfl
def PySem.W.Fast.tw8918814170230297633:List PySem.Stmt:=((PySem.Challenge.pw_treeasks_k61_whole_no_flow_is_more_than.main.body.drop 30).take 15)
theorem PySem.W.Fast.te8918814170230297633:((PySem.Challenge.pw_treeasks_k61_whole_no_flow_is_more_than.main.body.drop 30).take 15)=PySem.W.Fast.tw8918814170230297633:=rfl
def PySem.W.Fast.tw225337435668284121:List PySem.Stmt:=((PySem.Challenge.pw_treeasks_k61_whole_no_flow_is_more_than.main.body.drop 4).take 9)
theorem PySem.W.Fast.te225337435668284121:((PySem.Challenge.pw_treeasks_k61_whole_no_flow_is_more_than.main.body.drop 4).take 9)=PySem.W.Fast.tw225337435668284121:=rfl
namespace Ob
noncomputable section
open PySem
open PySem.Str renaming ofString → S
open PySem.Value renaming str → v, ref → r, int → i, none → n
abbrev F := Params → Obj
noncomputable def d (P : Params) (s : Str) (t : Tok) (w : Value) : DictEntry := ⟨PyData.keyHash P s, .str s t, w⟩
noncomputable def g (k : Nat) (q : Str → Str) : FuncData := match PySem.Challenge.pw_treeasks_k61_whole_no_flow_is_more_than.main.body[k]? with
  | some (.FunctionDef a b c _ _ _ s _ _ _) => ⟨a,q a,b,.stmts c,s,0,[],n,n,n,n,none,n,n,0⟩
  | some (.ClassDef _ _ _ (.FunctionDef a b c _ _ _ s _ _ _ :: _) _ _ _ _ _ _ _) => ⟨a,q a,b,.stmts c,s,0,[],n,n,n,n,none,n,n,0⟩
  | _ => default
noncomputable def x (k : Nat) : F := fun _ => ⟨n,none,.func (g k id),#[]⟩
noncomputable def X (k : Nat) (q : Str) : F := fun _ => ⟨n,none,.func (g k fun _ => q),#[]⟩
noncomputable def y (k : Nat) (m c : Value) : F := fun _ => ⟨.type "function",none,.func { g k id with globals := 3, pyModule := m, code := c },#[]⟩
noncomputable def Y (k : Nat) (q : Str) (m c : Value) : F := fun _ => ⟨.type "function",none,.func { g k (fun _ => q) with globals := 3, pyModule := m, code := c },#[]⟩
noncomputable def u (l : List Value) : F := fun _ => ⟨.type "tuple",none,.seq l.toArray 0,#[]⟩
noncomputable def z (l : List Value) : F := fun _ => ⟨n,none,.fields l.toArray,#[]⟩
noncomputable def V (s : String) (t : Tok) : Value := v (S s) t
noncomputable def q (s : String) (t1 t2 t3 : Tok) (l a b c e : Int) (r1 : Addr) (m : Int) (r2 r3 r4 r5 : Addr) (t : Int) (t4 : Tok) : F := fun _ => ⟨.type "code",none,.fields #[v (S s) t1,v (S s) t2,v (S "/claim/cut.py") t3,i l 0,i a 0,i b 0,i c 0,i e 0,r r1,.bool true,i m 0,r r2,n,r r3,r r4,r r5,i t 0,i l 0,v (S "/claim/cut.py") t4],#[]⟩
noncomputable def k (l : List Value) : F := fun _ => ⟨.type "code",none,.fields l.toArray,#[]⟩
noncomputable def w (f : F) (a b : Params → W.BT) : Params → W.BT := fun P => .node (f P) (a P) (b P)
noncomputable def e : Params → W.BT := fun _ => .nil
noncomputable def o (f : F) : Params → W.BT := w f e e
noncomputable def ha(p0:String)(p1:Nat)(p2:Int)(p3:Int)(p4:Nat)(p5:Int):F:=k [(V p0 p1),(V p0 (p1+1)),(V "/claim/cut.py" (p1+2)),(i p2 0),(i p3 0),(i 0 0),(i 0 0),(i 3 0),(r p4),(.bool .true),(i 181 0),(r (p4+1)),n,n,n,(r (p4+2)),(i p5 0),(i p2 0),(V "/claim/cut.py" (p1+4))]
noncomputable def hb(p0:String)(p1:Nat)(p2:String)(p3:String):F:=u [(V p0 p1),(V p2 (p1+1)),(V p3 (p1+2))]
noncomputable def hc(p0:String)(p1:Nat)(p2:Int)(p3:Nat)(p4:Int):F:=k [(V p0 p1),(V p0 (p1+1)),(V "/claim/cut.py" (p1+2)),(i p2 0),(i 0 0),(i 0 0),(i 0 0),(i 0 0),(r p3),(.bool .false),(i 181 0),(r (p3+1)),n,n,n,n,(i p4 0),(i p2 0),(V "/claim/cut.py" (p1+4))]
noncomputable def hd(p0:Nat)(p1:Nat)(p2:String)(p3:Nat):F:=fun P=>⟨(.type "frame"),none,.plain,#[(some (r p0)),(some (r 3)),(some (r p1)),none,(some (V p2 p3)),none,(some (r 0))]⟩
noncomputable def he(p0:Nat):F:=fun P=>⟨(.type "builtin_function_or_method"),none,(.fields #[(.builtin "object.__init_subclass__"),(r p0)]),#[]⟩
noncomputable def hf(p0:Nat):F:=fun P=>⟨(.type "super"),none,(.fields #[(r p0),(r p0),(r p0)]),#[]⟩
noncomputable def hg(p0:Nat)(p1:String)(p2:String)(p3:String)(p4:String):F:=u [(V "tree" p0),(V p1 (p0+1)),(V p2 (p0+2)),(V p3 (p0+3)),(V p4 (p0+4))]
noncomputable def hh(p0:Nat)(p1:Int)(p2:String)(p3:Nat)(p4:Nat)(p5:String)(p6:Nat)(p7:Nat)(p8:Nat):F:=fun P=>⟨(.type "dict"),none,(.dict #[(d P (S "__module__") p0 (v (S "treeasks.errors") 187)),(d P (S "__firstlineno__") (p0+4) (i p1 (p0+3))),(d P (S p2) p3 (r p4)),(d P (S p5) p6 (r p7)),(d P (S "__doc__") (p6+1) n)] p8),#[]⟩
noncomputable def hi(p0:String)(p1:Nat)(p2:Nat)(p3:Nat)(p4:Nat):F:=fun P=>⟨(.type "type"),none,(.cls ⟨(S p0),[(r 24)],[(r p1),(r 24),(.type "ValueError"),(.type "Exception"),(.type "BaseException"),(.type "object")],p2,(S p0),.true,[],[],.false,none,.false⟩),#[(some (r p3)),none,(some (V p0 p4)),(some (V p0 (p4+8))),(some (.builtin "ValueError.__new__")),(some (.bool .true))]⟩
noncomputable def hj(p0:Nat)(p1:String)(p2:Int)(p3:Nat):F:=fun P=>⟨(.type "dict"),none,(.dict #[(d P (S "__module__") p0 (v (S "treeasks.errors") 187)),(d P (S "__qualname__") (p0+2) (v (S p1) (p0+1))),(d P (S "__firstlineno__") (p0+4) (i p2 (p0+3))),(d P (S "__static_attributes__") (p0+5) (r p3))] 4),#[]⟩
noncomputable def hk(p0:Nat)(p1:String)(p2:Int)(p3:Int)(p4:Nat)(p5:Int)(p6:Nat):F:=k [(V "__init__" p0),(V p1 (p0+1)),(V "/claim/cut.py" (p0+2)),(i p2 0),(i p3 0),(i 0 0),(i 0 0),(i 3 0),(r p4),(.bool .true),(i 181 0),(r (p4+1)),n,(r (p4+2)),(r (p4+3)),(r (p4+4)),(i p5 0),(i p2 0),(V "/claim/cut.py" p6)]
noncomputable def hl(p0:Nat)(p1:String)(p2:Int)(p3:Nat)(p4:Nat)(p5:Nat):F:=fun P=>⟨(.type "dict"),none,(.dict #[(d P (S "__module__") p0 (v (S "treeasks.errors") 187)),(d P (S "__qualname__") (p0+2) (v (S p1) (p0+1))),(d P (S "__firstlineno__") (p0+4) (i p2 (p0+3))),(d P (S "__init__") p3 (r p4)),(d P (S "__static_attributes__") p5 (r (p4+1)))] 5),#[]⟩
noncomputable def zl:List (Nat×Nat×Nat)→List Value
  | []=>[]
  | (a,b,c)::t=>i (Int.ofNat a) 0::i (Int.ofNat b) 0::r c::zl t
def zz:List Value:=zl [(2,0,20),(4,0,33),(10,0,52),(15,0,71),(18,0,83),(20,0,90),(25,0,97),(32,0,104),(42,0,111),(48,0,118),(50,0,125),(56,0,132),(61,0,139),(69,0,146),(73,0,153),(80,0,160),(84,0,167),(86,0,172),(88,0,179),(93,0,186),(95,0,193),(101,0,198),(109,0,203),(114,0,210),(123,0,215),(125,0,222),(128,0,227),(133,0,232),(141,0,237),(148,0,244),(154,0,251),(162,0,258),(169,0,265),(178,0,272),(185,0,277),(188,0,284),(191,0,291),(197,0,296),(202,0,303),(205,0,308),(210,0,313),(222,0,318),(224,0,323),(232,0,328),(239,0,333)]
def A64:F:=fun P=>⟨(.type "dict"),none,(.dict #[(d P (S "__name__") 165 (v (S "treeasks.errors") 187)),(d P (S "__doc__") 166 n),(d P (S "__package__") 167 n),(d P (S "__loader__") 168 (.builtin "__main__.__loader__#opaque")),(d P (S "__spec__") 169 n),(d P (S "__annotations__") 170 (r 6)),(d P (S "__builtins__") 171 (r 4)),(d P (S "__file__") 173 (v (S "/claim/cut.py") 172)),(d P (S "__cached__") 174 n),(d P (S "AskError") 206 (r 24)),(d P (S "NoTree") 233 (r 44))] 11),#[]⟩
def a0k:F:=fun P=>⟨(.type "type"),none,(.cls ⟨(S "AskError"),[(.type "ValueError")],[(r 24),(.type "ValueError"),(.type "Exception"),(.type "BaseException"),(.type "object")],23,(S "AskError"),.true,[],[(r 44)],.false,none,.false⟩),#[(some (r 15)),none,(some (V "AskError" 189)),(some (V "AskError" 197)),(some (.builtin "ValueError.__new__")),(some (.bool .true))]⟩
def a0m:F:=z [(i 2 0),(i 0 0),(r 20),(i 4 0),(i 0 0),(r 33)]
def A86:F:=fun P=>⟨(.type "dict"),none,(.dict #[(d P (S "__name__") 165 (v (S "treeasks.errors") 187)),(d P (S "__doc__") 166 n),(d P (S "__package__") 167 n),(d P (S "__loader__") 168 (.builtin "__main__.__loader__#opaque")),(d P (S "__spec__") 169 n),(d P (S "__annotations__") 170 (r 6)),(d P (S "__builtins__") 171 (r 4)),(d P (S "__file__") 173 (v (S "/claim/cut.py") 172)),(d P (S "__cached__") 174 n),(d P (S "AskError") 206 (r 24)),(d P (S "NoTree") 233 (r 44)),(d P (S "NoAsks") 258 (r 63))] 12),#[]⟩
def a1c:F:=fun P=>⟨(.type "type"),none,(.cls ⟨(S "AskError"),[(.type "ValueError")],[(r 24),(.type "ValueError"),(.type "Exception"),(.type "BaseException"),(.type "object")],23,(S "AskError"),.true,[],[(r 44),(r 63)],.false,none,.false⟩),#[(some (r 15)),none,(some (V "AskError" 189)),(some (V "AskError" 197)),(some (.builtin "ValueError.__new__")),(some (.bool .true))]⟩
def a1e:F:=z [(i 2 0),(i 0 0),(r 20),(i 4 0),(i 0 0),(r 33),(i 10 0),(i 0 0),(r 52)]
def A108:F:=fun P=>⟨(.type "dict"),none,(.dict #[(d P (S "__name__") 165 (v (S "treeasks.trees") 293)),(d P (S "__doc__") 166 n),(d P (S "__package__") 167 n),(d P (S "__loader__") 168 (.builtin "__main__.__loader__#opaque")),(d P (S "__spec__") 169 n),(d P (S "__annotations__") 170 (r 6)),(d P (S "__builtins__") 171 (r 4)),(d P (S "__file__") 173 (v (S "/claim/cut.py") 172)),(d P (S "__cached__") 174 n),(d P (S "AskError") 206 (r 24)),(d P (S "NoTree") 233 (r 44)),(d P (S "NoAsks") 258 (r 63)),(d P (S "NoPlace") 274 (r 75)),(d P (S "is_whole") 283 (r 84)),(d P (S "is_between") 292 (r 91)),(d P (S "MOST_TIES") 296 (i 23 295)),(d P (S "MOST_ROOM") 298 (i 1000000 297)),(d P (S "has_two_lists") 307 (r 98)),(d P (S "look_at_tree") 319 (r 105))] 19),#[]⟩
def a27:F:=fun P=>⟨(.type "type"),none,(.cls ⟨(S "AskError"),[(.type "ValueError")],[(r 24),(.type "ValueError"),(.type "Exception"),(.type "BaseException"),(.type "object")],23,(S "AskError"),.true,[],[(r 44),(r 63),(r 75)],.false,none,.false⟩),#[(some (r 15)),none,(some (V "AskError" 189)),(some (V "AskError" 197)),(some (.builtin "ValueError.__new__")),(some (.bool .true))]⟩
def a2b:F:=z [(i 2 0),(i 0 0),(r 20),(i 4 0),(i 0 0),(r 33),(i 10 0),(i 0 0),(r 52),(i 15 0),(i 0 0),(r 71),(i 18 0),(i 0 0),(r 83),(i 20 0),(i 0 0),(r 90),(i 25 0),(i 0 0),(r 97),(i 32 0),(i 0 0),(r 104)]
def A151:F:=fun P=>⟨(.type "dict"),none,(.dict #[(d P (S "__name__") 165 (v (S "treeasks.flows") 434)),(d P (S "__doc__") 166 n),(d P (S "__package__") 167 n),(d P (S "__loader__") 168 (.builtin "__main__.__loader__#opaque")),(d P (S "__spec__") 169 n),(d P (S "__annotations__") 170 (r 6)),(d P (S "__builtins__") 171 (r 4)),(d P (S "__file__") 173 (v (S "/claim/cut.py") 172)),(d P (S "__cached__") 174 n),(d P (S "AskError") 206 (r 24)),(d P (S "NoTree") 233 (r 44)),(d P (S "NoAsks") 258 (r 63)),(d P (S "NoPlace") 274 (r 75)),(d P (S "is_whole") 283 (r 84)),(d P (S "is_between") 292 (r 91)),(d P (S "MOST_TIES") 296 (i 23 295)),(d P (S "MOST_ROOM") 298 (i 1000000 297)),(d P (S "has_two_lists") 307 (r 98)),(d P (S "look_at_tree") 319 (r 105)),(d P (S "depths") 328 (r 112)),(d P (S "is_place") 336 (r 119)),(d P (S "are_ends") 345 (r 126)),(d P (S "MOST_ASKS") 349 (i 30 348)),(d P (S "MOST_SIZE") 351 (i 1000000 350)),(d P (S "MOST_WORTH") 353 (i 1000000000000 352)),(d P (S "is_ask") 365 (r 133)),(d P (S "look_at_asks") 375 (r 140)),(d P (S "look_at_ends") 386 (r 147)),(d P (S "climb") 397 (r 154)),(d P (S "way_between") 408 (r 161)),(d P (S "way_of") 416 (r 168)),(d P (S "ways_of") 422 (r 173)),(d P (S "meeting_of") 433 (r 180))] 33),#[]⟩
def a41:F:=z (zz.take 57)
def A228:F:=fun P=>⟨(.type "dict"),none,(.dict #[(d P (S "__name__") 165 (v (S "law_treeasks_k61_whole_no_flow_is_more_than") 526)),(d P (S "__doc__") 166 n),(d P (S "__package__") 167 n),(d P (S "__loader__") 168 (.builtin "__main__.__loader__#opaque")),(d P (S "__spec__") 169 n),(d P (S "__annotations__") 170 (r 6)),(d P (S "__builtins__") 171 (r 4)),(d P (S "__file__") 173 (v (S "/claim/cut.py") 172)),(d P (S "__cached__") 174 n),(d P (S "AskError") 206 (r 24)),(d P (S "NoTree") 233 (r 44)),(d P (S "NoAsks") 258 (r 63)),(d P (S "NoPlace") 274 (r 75)),(d P (S "is_whole") 283 (r 84)),(d P (S "is_between") 292 (r 91)),(d P (S "MOST_TIES") 296 (i 23 295)),(d P (S "MOST_ROOM") 298 (i 1000000 297)),(d P (S "has_two_lists") 307 (r 98)),(d P (S "look_at_tree") 319 (r 105)),(d P (S "depths") 328 (r 112)),(d P (S "is_place") 336 (r 119)),(d P (S "are_ends") 345 (r 126)),(d P (S "MOST_ASKS") 349 (i 30 348)),(d P (S "MOST_SIZE") 351 (i 1000000 350)),(d P (S "MOST_WORTH") 353 (i 1000000000000 352)),(d P (S "is_ask") 365 (r 133)),(d P (S "look_at_asks") 375 (r 140)),(d P (S "look_at_ends") 386 (r 147)),(d P (S "climb") 397 (r 154)),(d P (S "way_between") 408 (r 161)),(d P (S "way_of") 416 (r 168)),(d P (S "ways_of") 422 (r 173)),(d P (S "meeting_of") 433 (r 180)),(d P (S "is_count") 442 (r 187)),(d P (S "taken_by") 455 (r 194)),(d P (S "is_flow") 461 (r 199)),(d P (S "deepest_first") 469 (r 204)),(d P (S "is_cut") 481 (r 211)),(d P (S "parts_ways") 487 (r 216)),(d P (S "parts_all") 496 (r 223)),(d P (S "serve") 502 (r 228)),(d P (S "fill_ties") 508 (r 233)),(d P (S "thinned") 514 (r 238)),(d P (S "flow_and_cut") 525 (r 245)),(d P (S "_law_pool") 537 (r 252))] 45),#[]⟩
def a64:F:=z (zz.take 93)
def A302:F:=fun P=>⟨(.type "dict"),none,(.dict #[(d P (S "__name__") 165 (v (S "law_treeasks_k61_whole_no_flow_is_more_than") 526)),(d P (S "__doc__") 166 n),(d P (S "__package__") 167 n),(d P (S "__loader__") 168 (.builtin "__main__.__loader__#opaque")),(d P (S "__spec__") 169 n),(d P (S "__annotations__") 170 (r 6)),(d P (S "__builtins__") 171 (r 4)),(d P (S "__file__") 173 (v (S "/claim/cut.py") 172)),(d P (S "__cached__") 174 n),(d P (S "AskError") 206 (r 24)),(d P (S "NoTree") 233 (r 44)),(d P (S "NoAsks") 258 (r 63)),(d P (S "NoPlace") 274 (r 75)),(d P (S "is_whole") 283 (r 84)),(d P (S "is_between") 292 (r 91)),(d P (S "MOST_TIES") 296 (i 23 295)),(d P (S "MOST_ROOM") 298 (i 1000000 297)),(d P (S "has_two_lists") 307 (r 98)),(d P (S "look_at_tree") 319 (r 105)),(d P (S "depths") 328 (r 112)),(d P (S "is_place") 336 (r 119)),(d P (S "are_ends") 345 (r 126)),(d P (S "MOST_ASKS") 349 (i 30 348)),(d P (S "MOST_SIZE") 351 (i 1000000 350)),(d P (S "MOST_WORTH") 353 (i 1000000000000 352)),(d P (S "is_ask") 365 (r 133)),(d P (S "look_at_asks") 375 (r 140)),(d P (S "look_at_ends") 386 (r 147)),(d P (S "climb") 397 (r 154)),(d P (S "way_between") 408 (r 161)),(d P (S "way_of") 416 (r 168)),(d P (S "ways_of") 422 (r 173)),(d P (S "meeting_of") 433 (r 180)),(d P (S "is_count") 442 (r 187)),(d P (S "taken_by") 455 (r 194)),(d P (S "is_flow") 461 (r 199)),(d P (S "deepest_first") 469 (r 204)),(d P (S "is_cut") 481 (r 211)),(d P (S "parts_ways") 487 (r 216)),(d P (S "parts_all") 496 (r 223)),(d P (S "serve") 502 (r 228)),(d P (S "fill_ties") 508 (r 233)),(d P (S "thinned") 514 (r 238)),(d P (S "flow_and_cut") 525 (r 245)),(d P (S "_law_pool") 537 (r 252)),(d P (S "_law_take") 546 (r 259)),(d P (S "_law_number") 555 (r 266)),(d P (S "_law_parents") 567 (r 273)),(d P (S "_law_rooms") 573 (r 278)),(d P (S "_law_ends") 582 (r 285)),(d P (S "_law_up") 591 (r 292)),(d P (S "_law_way") 597 (r 297)),(d P (S "_law_ask") 607 (r 304)),(d P (S "_law_case") 613 (r 309)),(d P (S "_law_servings") 619 (r 314)),(d P (S "_law_parted") 625 (r 319)),(d P (S "_law_cut") 631 (r 324)),(d P (S "_law_sides") 637 (r 329)),(d P (S "_law_told_right") 643 (r 334))] 59),#[]⟩
def a8b:F:=z (zz.take 135)
lay_quick Ob.A64
noncomputable def od : List F → List F
  | a::_::l=>a::od l
  | l=>l
noncomputable def ev : List F → List F
  | _::b::l=>b::ev l
  | _=>[]
noncomputable def bt : Nat → List F → Params → W.BT
  | k+1,f::l=>w f (bt k (od l)) (bt k (ev l))
  | _,_=>e
open W in
def lL (Q P0 P1:F):List F:=[boot_o_0,boot_o_1,boot_o_2,Q,boot_o_4,boot_o_5,boot_o_6,boot_o_7,boot_o_8,boot_o_9,boot_o_10,u [],P0,hc "<module>" 182 1 11 185,hd 13 3 "__main__" 164,u [(.type "ValueError")],(fun P=>⟨(.type "builtin_function_or_method"),none,(.fields #[(.builtin "type.__prepare__"),(.type "type")]),#[]⟩),hj 196 "AskError" 2 22,u [],z [],hc "AskError" 191 2 18 194,hd 20 17 "treeasks.errors" 187,u [],hh 196 2 "__static_attributes__" 201 22 "__weakref__" 203 25 3,P1,(fun P=>⟨(.type "getset_descriptor"),none,(.fields #[(V "__weakref__" 202),(r 24),(.builtin "ExceptionGroup.__weakref__"),n]),#[]⟩),hf 24,he 24,u [(r 24)],(fun P=>⟨(.type "builtin_function_or_method"),none,(.fields #[(.builtin "type.__prepare__"),(.type "type")]),#[]⟩),hl 214 "NoTree" 4 227 41 230,u [],z [(i 6 0),(i 4 0),(r 40)],hc "NoTree" 209 4 31 212,hd 33 30 "treeasks.errors" 187,u [],z [],hb "self" 222 "part" "number",u [],X 2 (S "NoTree.__init__"),hk 219 "NoTree.__init__" 6 3 35 225 226,Y 2 (S "NoTree.__init__") (V "treeasks.errors" 187) (r 40),u [(V "number" 228),(V "part" 229)],hh 214 4 "__init__" 227 41 "__static_attributes__" 230 42 2,hi "NoTree" 44 43 28 207,hf 44,he 44,u [(r 24)],(fun P=>⟨(.type "builtin_function_or_method"),none,(.fields #[(.builtin "type.__prepare__"),(.type "type")]),#[]⟩),hl 241 "NoAsks" 10 253 60 255,u [],z [(i 12 0),(i 4 0),(r 59)],hc "NoAsks" 236 10 50 239,hd 52 49 "treeasks.errors" 187,u [],z [],u [(V "self" 249),(V "number" 250)],u [],X 3 (S "NoAsks.__init__"),hk 246 "NoAsks.__init__" 12 2 54 251 252,Y 3 (S "NoAsks.__init__") (V "treeasks.errors" 187) (r 59),u [(V "number" 254)],hh 241 10 "__init__" 253 60 "__static_attributes__" 255 61 2,hi "NoAsks" 63 62 47 234,hf 63,he 63,u [(r 24)],(fun P=>⟨(.type "builtin_function_or_method"),none,(.fields #[(.builtin "type.__prepare__"),(.type "type")]),#[]⟩),hj 266 "NoPlace" 15 73,u [],z [],hc "NoPlace" 261 15 69 264,hd 71 68 "treeasks.errors" 187,u [],(fun P=>⟨(.type "dict"),none,(.dict #[(d P (S "__module__") 266 (v (S "treeasks.errors") 187)),(d P (S "__firstlineno__") 270 (i 15 269)),(d P (S "__static_attributes__") 271 (r 73)),(d P (S "__doc__") 272 n)] 2),#[]⟩),hi "NoPlace" 75 74 66 259,hf 75,he 75,u [],z [],u [(V "thing" 280)],u [],x 6,q "is_whole" 277 278 279 18 1 0 0 3 78 181 79 80 81 82 281 282,y 6 (V "treeasks.numbers" 275) (r 83),u [],z [],hb "thing" 287 "least" "most",u [],x 7,q "is_between" 284 285 286 20 3 0 0 3 85 181 86 87 88 89 290 291,y 7 (V "treeasks.numbers" 275) (r 90),u [],z [],hb "thing" 302 "parents" "rooms",u [],x 11,q "has_two_lists" 299 300 301 25 1 0 0 3 92 181 93 94 95 96 305 306,y 11 (V "treeasks.trees" 293) (r 97),u [],z [],u [(V "thing" 311),(V "parents" 312),(V "rooms" 313),(V "number" 314),(V "parent" 315),(V "room" 316)],u [],x 12,q "look_at_tree" 308 309 310 32 1 0 0 3 99 181 100 101 102 103 317 318,y 12 (V "treeasks.trees" 293) (r 104),u [],z [],hb "tree" 323 "found" "parent",u [],x 13,q "depths" 320 321 322 42 1 0 0 3 106 181 107 108 109 110 326 327,y 13 (V "treeasks.trees" 293) (r 111),u [],z [],u [(V "tree" 332),(V "thing" 333)],u [],x 14,q "is_place" 329 330 331 48 2 0 0 3 113 181 114 115 116 117 334 335,y 14 (V "treeasks.trees" 293) (r 118),u [],z [],hb "tree" 340 "one" "other",u [],x 15,q "are_ends" 337 338 339 50 3 0 0 3 120 181 121 122 123 124 343 344,y 15 (V "treeasks.trees" 293) (r 125),u [],z [],u [(V "tree" 357),(V "thing" 358),(V "one" 359),(V "other" 360),(V "size" 361),(V "worth" 362)],u [],x 20,q "is_ask" 354 355 356 56 2 0 0 3 127 181 128 129 130 131 363 364,y 20 (V "treeasks.asks" 346) (r 132),u [],z [],u [(V "tree" 369),(V "thing" 370),(V "number" 371),(V "ask" 372)],u [],x 21,q "look_at_asks" 366 367 368 61 2 0 0 3 134 181 135 136 137 138 373 374,y 21 (V "treeasks.asks" 346) (r 139),u [],z [],hb "tree" 381 "one" "other",u [],x 23,q "look_at_ends" 378 379 380 69 3 0 0 3 141 181 142 143 144 145 384 385,y 23 (V "treeasks.ways" 376) (r 146),u [],z [],hg 390 "one" "other" "way" "low",u [],x 24,q "climb" 387 388 389 73 3 0 0 3 148 181 149 150 151 152 395 396,y 24 (V "treeasks.ways" 376) (r 153),u [],z [],hg 401 "one" "other" "way" "meeting",u [],x 25,q "way_between" 398 399 400 80 3 0 0 3 155 181 156 157 158 159 406 407,y 25 (V "treeasks.ways" 376) (r 160),u [],z [],u [(V "tree" 412),(V "ask" 413)],u [],x 26,q "way_of" 409 410 411 84 2 0 0 3 162 181 163 164 165 166 414 415,y 26 (V "treeasks.ways" 376) (r 167),u [],z [],x 27,ha "ways_of" 417 86 2 169 420,y 27 (V "treeasks.ways" 376) (r 172),u [],z [],hg 426 "one" "other" "way" "meeting",u [],x 28,q "meeting_of" 423 424 425 88 3 0 0 3 174 181 175 176 177 178 431 432,y 28 (V "treeasks.ways" 376) (r 179),u [],z [],u [(V "thing" 439)],u [],x 30,q "is_count" 436 437 438 93 1 0 0 3 181 181 182 183 184 185 440 441,y 30 (V "treeasks.flows" 434) (r 186),u [],z [],u [(V "tree" 446),(V "asks" 447),(V "flow" 448),(V "taken" 449),(V "ask" 450),(V "often" 451),(V "tie" 452)],u [],x 31,q "taken_by" 443 444 445 95 3 0 0 3 188 181 189 190 191 192 453 454,y 31 (V "treeasks.flows" 434) (r 193),u [],z [],x 32,ha "is_flow" 456 101 3 195 459,y 32 (V "treeasks.flows" 434) (r 198),u [],z [],x 34,ha "deepest_first" 464 109 2 200 467,y 34 (V "treeasks.rules" 462) (r 203),u [],z [],u [(V "tree" 475),(V "thing" 476),(V "least" 477),(V "tie" 478)],u [],x 36,q "is_cut" 472 473 474 114 2 0 0 3 205 181 206 207 208 209 479 480,y 36 (V "treeasks.cuts" 470) (r 210),u [],z [],x 37,ha "parts_ways" 482 123 2 212 485,y 37 (V "treeasks.cuts" 470) (r 215),u [],z [],hb "tree" 491 "asks" "thing",u [],x 38,q "parts_all" 488 489 490 125 3 0 0 3 217 181 218 219 220 221 494 495,y 38 (V "treeasks.cuts" 470) (r 222),u [],z [],x 39,ha "serve" 497 128 2 224 500,y 39 (V "treeasks.cuts" 470) (r 227),u [],z [],x 40,ha "fill_ties" 503 133 3 229 506,y 40 (V "treeasks.cuts" 470) (r 232),u [],z [],x 41,ha "thinned" 509 141 2 234 512,y 41 (V "treeasks.cuts" 470) (r 237),u [],z [],hg 518 "asks" "ways" "flow" "row",u [],x 42,q "flow_and_cut" 515 516 517 148 2 0 0 3 239 181 240 241 242 243 523 524,y 42 (V "treeasks.cuts" 470) (r 244),u [],z [],u [(V "_law_script" 531),(V "_law_k" 532),(V "_law_cell" 533),(V "_law_seed" 534)],u [],x 44,q "_law_pool" 528 529 530 154 2 0 0 3 246 181 247 248 249 250 535 536,y 44 (V "law_treeasks_k61_whole_no_flow_is_more_than" 526) (r 251),u [],z [],hb "_law_pool_here" 541 "_law_many" "_law_found",u [],x 45,q "_law_take" 538 539 540 162 2 0 0 3 253 181 254 255 256 257 544 545,y 45 (V "law_treeasks_k61_whole_no_flow_is_more_than" 526) (r 258),u [],z [],hb "_law_pool_here" 550 "_law_most" "_law_way_here",u [],x 46,q "_law_number" 547 548 549 169 2 0 0 3 260 181 261 262 263 264 553 554,y 46 (V "law_treeasks_k61_whole_no_flow_is_more_than" 526) (r 265),u [],z [],u [(V "_law_pool_here" 559),(V "_law_most" 560),(V "_law_shape" 561),(V "_law_parents_here" 562),(V "_law_place" 563),(V "_law_up_here" 564)],u [],x 47,q "_law_parents" 556 557 558 178 2 0 0 3 267 181 268 269 270 271 565 566,y 47 (V "law_treeasks_k61_whole_no_flow_is_more_than" 526) (r 272),u [],z [],x 48,ha "_law_rooms" 568 185 3 274 571,y 48 (V "law_treeasks_k61_whole_no_flow_is_more_than" 526) (r 277),u [],z [],hb "_law_pool_here" 577 "_law_many" "_law_one",u [],x 49,q "_law_ends" 574 575 576 188 2 0 0 3 279 181 280 281 282 283 580 581,y 49 (V "law_treeasks_k61_whole_no_flow_is_more_than" 526) (r 284),u [],z [],hb "_law_parents_here" 586 "_law_place" "_law_found",u [],x 50,q "_law_up" 583 584 585 191 2 0 0 3 286 181 287 288 289 290 589 590,y 50 (V "law_treeasks_k61_whole_no_flow_is_more_than" 526) (r 291),u [],z [],x 51,ha "_law_way" 592 197 2 293 595,y 51 (V "law_treeasks_k61_whole_no_flow_is_more_than" 526) (r 296),u [],z [],u [(V "_law_pool_here" 601),(V "_law_many" 602),(V "_law_one" 603),(V "_law_other" 604)],u [],x 52,q "_law_ask" 598 599 600 202 2 0 0 3 298 181 299 300 301 302 605 606,y 52 (V "law_treeasks_k61_whole_no_flow_is_more_than" 526) (r 303),u [],z [],x 53,ha "_law_case" 608 205 2 305 611,y 53 (V "law_treeasks_k61_whole_no_flow_is_more_than" 526) (r 308),u [],z [],x 54,ha "_law_servings" 614 210 4 310 617,y 54 (V "law_treeasks_k61_whole_no_flow_is_more_than" 526) (r 313),u [],z [],x 55,ha "_law_parted" 620 222 2 315 623,y 55 (V "law_treeasks_k61_whole_no_flow_is_more_than" 526) (r 318),u [],z [],x 56,ha "_law_cut" 626 224 3 320 629,y 56 (V "law_treeasks_k61_whole_no_flow_is_more_than" 526) (r 323),u [],z [],x 57,ha "_law_sides" 632 232 3 325 635,y 57 (V "law_treeasks_k61_whole_no_flow_is_more_than" 526) (r 328),u [],z [],x 58,ha "_law_told_right" 638 239 5 330 641,y 58 (V "law_treeasks_k61_whole_no_flow_is_more_than" 526) (r 333)]
def Ttree_85 (Q : F) : Params → W.BT := bt 11 ((lL Q a0m a0k).take 47)
def _root_.PySem.W.Fast.tw13709138389755303405 : Params → W.BT := Ttree_85 PySem.W.Fast.tw6963075612888702905
theorem _root_.PySem.W.Fast.te13709138389755303405 : Ttree_85 Ob.A64 = PySem.W.Fast.tw13709138389755303405 := (congrArg Ttree_85 PySem.W.Fast.te6963075612888702905)
lay_quick Ob.A86
def Ttree_107 (Q : F) : Params → W.BT := bt 11 ((lL Q a1e a1c).take 66)
def _root_.PySem.W.Fast.tw310458252873283347 : Params → W.BT := Ttree_107 PySem.W.Fast.tw11147188043990879120
theorem _root_.PySem.W.Fast.te310458252873283347 : Ttree_107 Ob.A86 = PySem.W.Fast.tw310458252873283347 := (congrArg Ttree_107 PySem.W.Fast.te11147188043990879120)
lay_quick Ob.A108
def Ttree_150 (Q : F) : Params → W.BT := bt 11 ((lL Q a2b a27).take 106)
def _root_.PySem.W.Fast.tw6326992218366274668 : Params → W.BT := Ttree_150 PySem.W.Fast.tw4549916873101738619
theorem _root_.PySem.W.Fast.te6326992218366274668 : Ttree_150 Ob.A108 = PySem.W.Fast.tw6326992218366274668 := (congrArg Ttree_150 PySem.W.Fast.te4549916873101738619)
lay_quick Ob.A151
def Ttree_227 (Q : F) : Params → W.BT := bt 11 ((lL Q a41 a27).take 181)
def _root_.PySem.W.Fast.tw4250878068548752836 : Params → W.BT := Ttree_227 PySem.W.Fast.tw6322598753939248023
theorem _root_.PySem.W.Fast.te4250878068548752836 : Ttree_227 Ob.A151 = PySem.W.Fast.tw4250878068548752836 := (congrArg Ttree_227 PySem.W.Fast.te6322598753939248023)
lay_quick Ob.A228
def Ttree_301 (Q : F) : Params → W.BT := bt 11 ((lL Q a64 a27).take 253)
def _root_.PySem.W.Fast.tw7026605743567819977 : Params → W.BT := Ttree_301 PySem.W.Fast.tw17994101207038046178
theorem _root_.PySem.W.Fast.te7026605743567819977 : Ttree_301 Ob.A228 = PySem.W.Fast.tw7026605743567819977 := (congrArg Ttree_301 PySem.W.Fast.te17994101207038046178)
lay_quick Ob.A302
def Ttree_385 (Q : F) : Params → W.BT := bt 11 ((lL Q a8b a27).take 335)
def _root_.PySem.W.Fast.tw8936571242484988355 : Params → W.BT := Ttree_385 PySem.W.Fast.tw853180169206537098
theorem _root_.PySem.W.Fast.te8936571242484988355 : Ttree_385 Ob.A302 = PySem.W.Fast.tw8936571242484988355 := (congrArg Ttree_385 PySem.W.Fast.te853180169206537098)
end
end Ob
namespace L2
open PySem PySem.Spec PyProof.Rows
abbrev Key:=Sum Int Str
def ut:Key→Value→Bool
 | .inl k,v=>Value.isInt k v
 | .inr x,v=>Value.isStrOf x v
def keyH (w:World):Key→Int
 | .inl k=>hashInt k
 | .inr x=>hashStr w x
theorem bo:∀ {k:Key} {v:Value},ut k v=true→(∃ i t,k=Sum.inl i∧v=Value.int i t)∨(∃ x t,k=Sum.inr x∧v=Value.str x t)
 | .inl i,v,h=>by
  obtain ⟨t,e⟩:=Value.isInt_shape (k:=i) (v:=v) h
  exact .inl ⟨i,t,rfl,e⟩
 | .inr x,v,h=>by
  obtain ⟨t,e⟩:=Value.isStrOf_shape (x:=x) (v:=v) h
  exact .inr ⟨x,t,rfl,e⟩
theorem vy (a b:Int):decide ((Sum.inl a:Key)=Sum.inl b)=(a == b):=by
 by_cases e:a=b
 ·subst e; simp
 ·have h : ¬ (Sum.inl a:Key)=Sum.inl b:=fun q=>e (Sum.inl.inj q)
  rw [decide_eq_false h]
  exact (beq_eq_false_iff_ne.mpr e).symm
theorem uU (a b:Str):decide ((Sum.inr a:Key)=Sum.inr b)=decide (a=b):=by
 by_cases e:a=b
 ·subst e; simp
 ·have h : ¬ (Sum.inr a:Key)=Sum.inr b:=fun q=>e (Sum.inr.inj q)
  rw [decide_eq_false h,decide_eq_false e]
theorem wz (a:Int) (b:Str):decide ((Sum.inl a:Key)=Sum.inr b)=false:=decide_eq_false (fun q=>nomatch q)
theorem vI (a:Str) (b:Int):decide ((Sum.inr a:Key)=Sum.inl b)=false:=decide_eq_false (fun q=>nomatch q)
def mQ (prog:Program) (w:World):PySem.KeyKind prog w Key where
 is:=ut
 hash:=keyH w
 inj:=fun v a b ha hb=>by
  rcases bo ha with ⟨i,t,rfl,rfl⟩ | ⟨x,t,rfl,rfl⟩
  ·rcases bo hb with ⟨j,u,rfl,e⟩ | ⟨y,u,rfl,e⟩
   ·injection e with e1 _; rw [e1]
   ·exact nomatch e
  ·rcases bo hb with ⟨j,u,rfl,e⟩ | ⟨y,u,rfl,e⟩
   ·exact nomatch e
   ·injection e with e1 _; rw [e1]
 byValue:=fun k v h=>by
  rcases bo h with ⟨i,t,rfl,rfl⟩ | ⟨x,t,rfl,rfl⟩ <;> rfl
 pyHash:=fun hv h=>by
  rcases bo hv with ⟨i,t,rfl,rfl⟩ | ⟨x,t,rfl,rfl⟩
  ·exact wpAny_pyHash_int h
  ·exact wpAny_pyHash_str h
 eqBool:=fun hu hv h=>by
  rcases bo hu with ⟨i,t,rfl,rfl⟩ | ⟨x,t,rfl,rfl⟩
  ·rcases bo hv with ⟨j,u,rfl,rfl⟩ | ⟨y,u,rfl,rfl⟩
   ·rw [vy] at h; exact wpAny_eqBool_int h
   ·rw [wz] at h; exact SeqAt.EqAt.int_str i t y u _ _ _ _ h
  ·rcases bo hv with ⟨j,u,rfl,rfl⟩ | ⟨y,u,rfl,rfl⟩
   ·rw [vI] at h; exact SeqAt.EqAt.str_int x t j u _ _ _ _ h
   ·rw [uU] at h; exact wpAny_eqBool_str h
 «strs»:=fun k x t v h=>by
  rcases bo h with ⟨i,u,rfl,e⟩ | ⟨y,u,rfl,e⟩
  ·exact nomatch e
  ·injection e with e1 _
   subst e1
   cases v <;> rfl
inductive V where
 | non | bl (b:Bool) | int (i:Int) | str (x:Str) | byt (b:Array UInt8) | flt (b:UInt64) | ref (a:Addr) | ty (n:String)
 deriving DecidableEq
def a7:V→Value→Prop
 | .non,u=>u=Value.none
 | .bl b,u=>u=Value.bool b
 | .int i,u=>∃ t,u=Value.int i t
 | .str x,u=>∃ t,u=Value.str x t
 | .byt b,u=>∃ t,u=Value.bytes b t
 | .flt b,u=>∃ t,u=Value.float b t
 | .ref a,u=>u=Value.ref a
 | .ty n,u=>u=Value.type n
abbrev aN:List V→List Value→Prop:=Paired a7
theorem aN.length {xs:List V} {us:List Value} (r:aN xs us):xs.length=us.length:=Paired.length r
theorem aN.get:∀ {xs:List V} {us:List Value} {i:Nat} {x:V},aN xs us→xs[i]? = some x→∃ u,us[i]? = some u∧a7 x u
 | _,_,_,_,.nil,e=>by simp at e
 | _,_,0,_,.cons r _,e=>by simp at e; subst e; exact ⟨_,rfl,r⟩
 | _,_,i + 1,x,.cons _ t,e=>by
  obtain ⟨u,h1,h2⟩:=aN.get (i:=i) (x:=x) t (by simpa using e)
  exact ⟨u,by simpa using h1,h2⟩
theorem aN.set {x:V} {u:Value} (r:a7 x u):∀ {xs:List V} {us:List Value} (i:Nat),aN xs us→aN (xs.set i x) (us.set i u)
 | _,_,_,.nil=>.nil
 | _,_,0,.cons _ t=>.cons r t
 | _,_,i + 1,.cons q t=>.cons q (aN.set r i t)
theorem aN.append:∀ {xs ys:List V} {us ws:List Value},aN xs us→aN ys ws→aN (xs++ys) (us++ws)
 | _,_,_,_,.nil,s=>s
 | _,_,_,_,.cons r t,s=>.cons r (aN.append t s)
theorem aN.take:∀ {xs:List V} {us:List Value} (n:Nat),aN xs us→aN (xs.take n) (us.take n)
 | _,_,0,_=>.nil
 | _,_,_ + 1,.nil=>.nil
 | _,_,n + 1,.cons r t=>.cons r (aN.take n t)
theorem aN.drop:∀ {xs:List V} {us:List Value} (n:Nat),aN xs us→aN (xs.drop n) (us.drop n)
 | _,_,0,r=>r
 | _,_,_ + 1,.nil=>.nil
 | _,_,n + 1,.cons _ t=>aN.drop n t
def RelO:Option V→Option Value→Prop
 | some v,some u=>a7 v u
 | none,none=>True
 | _,_=>False
def KV {κ:Type}:List (κ×V)→List (κ×Value)→Prop:=Paired fun (p : κ×V) (q : κ×Value)=>p.1=q.1∧a7 p.2 q.2
def kV:Key→V
 | .inl i=>.int i
 | .inr x=>.str x
inductive HO where

 | lst (xs:List V)

 | tup (xs:List V)

 | dK (kvs:List (Key×V)) | dT (kvs:List (List Key×V))

 | set (S:Int→Bool) (n:Nat)

 | ins (C dx:Addr) (fs:List (Str×V))

 | own (x:Addr)

 | xd (fs:List (Str×V))

 | met (f x:Addr)

 | rng (lo hi:Int)

 | frz (o:Obj) (u:HO)

 | tbl (ps:Array Value) (q:Str)

 | ext (φ:Heap→Prop)
abbrev Hp:=Addr→Option HO
def upd (H:Hp) (a:Addr) (o:HO):Hp:=fun b=>if b=a then some o else H b
theorem aG {H:Hp} {a:Addr} {o:HO}:upd H a o a=some o:=by unfold upd; rw [if_pos rfl]
theorem av {H:Hp} {a b:Addr} {o:HO} (h:b≠a):upd H a o b=H b:=by unfold upd; rw [if_neg h]
theorem ap {H:Hp} {a b:Addr} {o:HO} (h:H a=some o) (h':H b=none):a≠b:=by
 intro e; subst e; rw [h] at h'; cases h'
def TbV (H:Hp) (ps:Array Value) (q:Str):Prop:=TriplesOk ps.toList∧∀ pos cv,codeAmong pos ps.toList=some cv→∃ c o vs t,cv = .ref c∧H c=some (.frz o (.own 0))∧o.data = .fields vs∧vs[1]? = some (.str q t)
theorem TbV.mono {H H':Hp} {ps:Array Value} {q:Str} (h:TbV H ps q) (hf:∀ b o u,H b=some (.frz o u)→H' b=some (.frz o u)):TbV H' ps q:=⟨h.1,fun pos cv e=>let ⟨c,o,vs,t,a,b,r⟩:=h.2 pos cv e; ⟨c,o,vs,t,a,hf _ _ _ b,r⟩⟩
section
variable (P:Program) (w:World)
def br (H:Hp) (h:Heap) (a:Addr):HO→Prop
 | .lst xs=>xs.length≤sizeLine∧∃ (its:List Value) (n:Nat),aN xs its∧h.get? a=some { cls:=.type "list",data:=.seq its.toArray n }
 | .tup xs=>xs.length≤sizeLine∧∃ its:List Value,aN xs its∧IsTup h a its.toArray
 | .dK kvs=>kvs.length≤sizeLine∧(a == sysModules)=false∧∃ vs,KV kvs vs∧h.DictOf (mQ P w) a vs
 | .dT kvs=>kvs.length≤sizeLine∧(a == sysModules)=false∧∃ xs:List (List Key×Addr×Value),
  Paired (fun (p:List Key×V) (q:List Key×Addr×Value)=>p.1=q.1∧H q.2.1=some (.tup (p.1.map kV))∧a7 p.2 q.2.2) kvs xs ∧
  ∃ o es ep,h.get? a=some o∧o.ExactDict∧o.data = .dict es ep∧es.toList=xs.map (entryOfKey (tupleKind (mQ P w)))∧(xs.map (·.1)).Nodup
 | .set S n=>h.SetOf (intKind P w) a S n
 | .ins C dx fs=>H dx=some (.own a)∧fs.length≤1000∧dx≠a∧h.get? a=some (PySem.W.instObj C dx) ∧
  ∃ mA,h.Ns1 dx mA∧(∀ f,RelO (fs.lookup f) (mA f))∧PySem.Within mA (fs.map (·.1))
 | .own _=>∃ o,h.get? a=some o
 | .xd fs=>∃ mA,h.Ns1 a mA∧∀ f,RelO (fs.lookup f) (mA f)
 | .rng lo hi=>∃ t u v,h.get? a=some { cls:=.type "range",data:=.fields #[.int lo t,.int hi u,.int 1 v] }
 | .frz o u=>h.get? a=some o∧br H h a u
 | .tbl ps q=>h.get? a=some { cls:=.none,data:=.fields ps }∧TbV H ps q
 | .met f x=>h.get? a=some (PySem.W.methodObj (.ref f) (.ref x))
 | .ext φ=>φ h∧(∃ o,h.get? a=some o)∧∀ h1 h2:Heap,φ h1→(∀ o,h1.get? a=some o→h2.get? a=some o)→φ h2
def HOk (H:Hp) (h:Heap):Prop:=∀ a o,H a=some o→br P w H h a o
end
section
variable {P:Program} {w:World} {H H':Hp} {h h':Heap} {a:Addr} {o:HO}
theorem br.lt (x:br P w H h a o):a<h.objs.size:=by
 cases o with
 | lst xs=>obtain ⟨_,_,_,_,e⟩:=x; exact Heap.lt_size e
 | tup xs=>obtain ⟨_,_,_,p⟩:=x; exact p.lt
 | dK kvs=>obtain ⟨_,_,_,_,o,_,_,e,_⟩:=x; exact Heap.lt_size e
 | dT kvs=>obtain ⟨_,_,_,_,o,_,_,e,_⟩:=x; exact Heap.lt_size e
 | set S n=>obtain ⟨o,_,_,_,e,_⟩:=x; exact Heap.lt_size e
 | ins C dx fs=>obtain ⟨_,_,_,e,_⟩:=x; exact Heap.lt_size e
 | own y=>obtain ⟨_,e⟩:=x; exact Heap.lt_size e
 | xd fs=>obtain ⟨_,⟨_,_,_,e,_⟩,_⟩:=x; exact Heap.lt_size e
 | rng lo hi=>obtain ⟨_,_,_,e⟩:=x; exact Heap.lt_size e
 | frz ob u=>obtain ⟨e,_⟩:=x; exact Heap.lt_size e
 | tbl ps q=>obtain ⟨e,_⟩:=x; exact Heap.lt_size e
 | met f y=>exact Heap.lt_size (show h.get? a=some _ from x)
 | ext φ=>obtain ⟨_,⟨_,e⟩,_⟩:=x; exact Heap.lt_size e
theorem Paired.mapP {α β:Type} {F G : α→β→Prop}:∀ {l₁:List α} {l₂:List β},Paired F l₁ l₂→(∀ a b,F a b→G a b)→Paired G l₁ l₂
 | _,_,.nil,_=>.nil
 | _,_,.cons r t,f=>.cons (f _ _ r) (Paired.mapP t f)
theorem br.stay (x:br P w H h a o) (k:∀ b u,(b=a∨H b=some (.own a))→h.get? b=some u→h'.get? b=some u)
 (ho:∀ b,H b=some (.own a)→H' b=some (.own a)) (ht:∀ b xs,H b=some (.tup xs)→H' b=some (.tup xs)) (hf:∀ b o u,H b=some (.frz o u)→H' b=some (.frz o u)):br P w H' h' a o:=by
 induction o with
 | lst xs=>obtain ⟨z,its,n,r,e⟩:=x; exact ⟨z,its,n,r,k _ _ (.inl rfl) e⟩
 | tup xs=>obtain ⟨z,its,r,ob,e,c⟩:=x; exact ⟨z,its,r,ob,k _ _ (.inl rfl) e,c⟩
 | dK kvs=>obtain ⟨z,y,vs,r,ob,es,ep,e,c⟩:=x; exact ⟨z,y,vs,r,ob,es,ep,k _ _ (.inl rfl) e,c⟩
 | dT kvs =>
  obtain ⟨z,y,xs,r,ob,es,ep,e,c⟩:=x
  exact ⟨z,y,xs,Paired.mapP r fun p q z=>⟨z.1,ht _ _ z.2.1,z.2.2⟩,ob,es,ep,k _ _ (.inl rfl) e,c⟩
 | set S n=>obtain ⟨ob,es,ep,t,e,c⟩:=x; exact ⟨ob,es,ep,t,k _ _ (.inl rfl) e,c⟩
 | ins C dx fs =>
  obtain ⟨d,z,ne,e,mA,⟨od,es,ep,e2,c⟩,r⟩:=x
  exact ⟨ho _ d,z,ne,k _ _ (.inl rfl) e,mA,⟨od,es,ep,k _ _ (.inr d) e2,c⟩,r⟩
 | own y=>obtain ⟨ob,e⟩:=x; exact ⟨ob,k _ _ (.inl rfl) e⟩
 | xd fs=>obtain ⟨mA,⟨od,es,ep,e,c⟩,r⟩:=x; exact ⟨mA,⟨od,es,ep,k _ _ (.inl rfl) e,c⟩,r⟩
 | rng lo hi=>obtain ⟨t,u,v,e⟩:=x; exact ⟨t,u,v,k _ _ (.inl rfl) e⟩
 | frz ob u ih=>obtain ⟨e,q⟩:=x; exact ⟨k _ _ (.inl rfl) e,ih q⟩
 | tbl ps q=>obtain ⟨e,v⟩:=x; exact ⟨k a _ (.inl rfl) e,v.mono hf⟩
 | met f y =>
  have e:h.get? a=some (PySem.W.methodObj (.ref f) (.ref y)):=x
  show h'.get? a=some (PySem.W.methodObj (.ref f) (.ref y))
  exact k a _ (.inl rfl) e
 | ext φ=>obtain ⟨p,⟨o,e⟩,st⟩:=x; exact ⟨st _ _ p fun o q=>k _ _ (.inl rfl) q,⟨o,k _ _ (.inl rfl) e⟩,st⟩
theorem HOk.lt (x:HOk P w H h) (e:H a=some o):a<h.objs.size:=(x a o e).lt
theorem HOk.fresh (x:HOk P w H h) (e:h.objs.size≤a):H a=none:=by
 cases q:H a with
 | none=>rfl
 | some u=>exact absurd (Nat.lt_of_lt_of_le (x.lt q) e) (Nat.lt_irrefl _)
theorem HOk.kept (x:HOk P w H h) (k:∀ b u,h.get? b=some u→h'.get? b=some u):HOk P w H h':=fun a o e =>
 (x a o e).stay (fun b u _ q=>k b u q) (fun _ q=>q) (fun _ _ q=>q) fun _ _ _ q=>q
theorem HOk.laid (x:HOk P w H h) (k:∀ b u,h.get? b=some u→h'.get? b=some u) (hp:h.objs.size≤a) (new:br P w (upd H a o) h' a o):HOk P w (upd H a o) h':=fun b u e=>by
 have hn:=x.fresh hp
 by_cases hb:b=a
 ·subst hb; rw [aG] at e; cases e; exact new
 ·rw [av hb] at e
  exact (x b u e).stay (fun c v _ q=>k c v q) (fun c q=>by rw [av (ap q hn)]; exact q) (fun c xs q=>by rw [av (ap q hn)]; exact q) fun c ob u q=>by rw [av (ap q hn)]; exact q
end
def Rd (H:Hp) (a:Addr) (u:HO):Prop:=H a=some u∨∃ o,H a=some (.frz o u)
theorem Rd.ok {P:Program} {w:World} {H:Hp} {h:Heap} {a:Addr} {u:HO} (r:Rd H a u) (x:HOk P w H h):br P w H h a u:=by
 rcases r with r | ⟨o,r⟩
 ·exact x a u r
 ·obtain ⟨_,q⟩:=x a _ r
  exact q
def Mut:Option HO→Prop
 | some (.lst _)=>True
 | some (.dK _)=>True
 | some (.dT _)=>True
 | some (.set _ _)=>True
 | some (.ins _ _ _)=>True
 | some (.ext _)=>True
 | _=>False
section
variable {P:Program} {w:World} {H:Hp} {h h':Heap} {x e:Addr} {o':HO}
theorem HOk.write (ok:HOk P w H h) (mu:Mut (H x)) (he:e=x∨H e=some (.own x)) (k:∀ b u,b≠e→h.get? b=some u→h'.get? b=some u) (heo:∃ u,h'.get? e=some u)
 (new:br P w (upd H x o') h' x o'):HOk P w (upd H x o') h':=fun b u q=>by
 have nown:∀ c y,H c=some (.own y)→c≠x:=fun c y r z=>by subst z; rw [r] at mu; exact mu
 have ntup:∀ c xs,H c=some (.tup xs)→c≠x:=fun c xs r z=>by subst z; rw [r] at mu; exact mu
 have nfrz:∀ c ob u,H c=some (.frz ob u)→c≠x:=fun c ob u r z=>by subst z; rw [r] at mu; exact mu
 by_cases hb:b=x
 ·subst hb; rw [aG] at q; cases q; exact new
 ·rw [av hb] at q
  by_cases hbe:b=e
  ·have q':H b=some (.own x):=by
    rcases he with z | z
    ·exact absurd (hbe.trans z) hb
    ·rw [hbe]; exact z
   rw [q] at q'; cases q'
   obtain ⟨v,hv⟩:=heo
   exact ⟨v,by rw [hbe]; exact hv⟩
  ·refine (ok b u q).stay (fun c v hc r=>k c v ?_ r) (fun c r=>by rw [av (nown c b r)]; exact r) (fun c xs r=>by rw [av (ntup c xs r)]; exact r) fun c ob u r=>by rw [av (nfrz c ob u r)]; exact r
   rcases hc with rfl | hc
   ·exact hbe
   ·rintro rfl
    rcases he with z | z
    ·exact nown c b hc z
    ·rw [hc] at z; cases z; exact hb rfl
end
structure Un (fs ex:List Addr) (H H':Hp) (h h':Heap):Prop where
 keep:∀ b o,h.get? b=some o→H b=none→b ∉ fs→b ∉ ex→h'.get? b=some o
 slot:∀ b o,h.get? b=some o→H b=none→b∈fs→b ∉ ex→∃ sl,h'.get? b=some { o with slots:=sl }
 free:∀ b o,h.get? b=some o→H b=none→b ∉ ex→H' b=none
 there:∀ b o,h.get? b=some o→b ∉ ex→∃ o',h'.get? b=some o'
 tups:∀ b xs,H b=some (.tup xs)→H' b=some (.tup xs)
 frzs:∀ b o u,H b=some (.frz o u)→H' b=some (.frz o u)
 tbls:∀ b ps q,H b=some (.tbl ps q)→∃ more,H' b=some (.tbl (ps++more) q)
section
variable {fs fs' ex ex':List Addr} {H H1 H2:Hp} {h h1 h2 h':Heap} {a x e:Addr} {o:HO}
theorem Un.any (u:Un fs ex H H1 h h1) {b:Addr} {ob:Obj} (q:h.get? b=some ob) (n:H b=none) (hx:b ∉ ex):∃ sl,h1.get? b=some { ob with slots:=sl }:=by
 by_cases hb:b∈fs
 ·exact u.slot b ob q n hb hx
 ·exact ⟨ob.slots,u.keep b ob q n hb hx⟩
theorem Un.kept (k:∀ b u,h.get? b=some u→h'.get? b=some u):Un fs ex H H h h' :=
 ⟨fun b ob q _ _ _=>k b ob q,fun b ob q _ _ _=>⟨ob.slots,k b ob q⟩,fun _ _ _ n _=>n,fun b ob q _=>⟨ob,k b ob q⟩,fun _ _ q=>q,fun _ _ _ q=>q,fun _ ps _ q=>⟨#[],by rw [q]; simp⟩⟩
theorem Un.refl:Un fs ex H H h h:=Un.kept fun _ _ q=>q
theorem Un.laid (k:∀ b u,h.get? b=some u→h'.get? b=some u) (hp:h.objs.size≤a) (hn:H a=none):Un fs ex H (upd H a o) h h' where
 keep:=fun b u q _ _ _=>k b u q
 slot:=fun b u q _ _ _=>⟨u.slots,k b u q⟩
 free:=fun b u q n _=>by rw [av (Nat.ne_of_lt (Nat.lt_of_lt_of_le (Heap.lt_size q) hp))]; exact n
 there:=fun b u q _=>⟨u,k b u q⟩
 tups:=fun b xs q=>by rw [av (ap q hn)]; exact q
 frzs:=fun b u xs q=>by rw [av (ap q hn)]; exact q
 tbls:=fun b ps _ q=>⟨#[],by rw [av (ap q hn),q]; simp⟩
theorem Un.write (mu:Mut (H x)) (he:e=x∨H e=some (.own x)) (k:∀ b u,b≠e→h.get? b=some u→h'.get? b=some u) (heo:∃ u,h'.get? e=some u):Un fs ex H (upd H x o) h h':=by
 have hx:∀ b,H b=none→b≠x:=fun b n z=>by subst z; rw [n] at mu; exact mu
 have hb:∀ b,H b=none→b≠e:=fun b n z=>by
  subst z
  rcases he with r | r
  ·exact hx b n r
  ·rw [n] at r; cases r
 have hm:∀ b u,H b=some u→¬ Mut (some u)→b≠x:=fun b u q nm z=>by subst z; rw [q] at mu; exact nm mu
 refine ⟨fun b u q n _ _=>k b u (hb b n) q,fun b u q n _ _=>⟨u.slots,k b u (hb b n) q⟩,fun b u q n _=>by rw [av (hx b n)]; exact n,fun b u q _=>?_,
  fun b xs q=>by rw [av (hm b _ q fun z=>z)]; exact q,fun b u xs q=>by rw [av (hm b _ q fun z=>z)]; exact q,fun b ps _ q=>⟨#[],by rw [av (hm b _ q fun z=>z),q]; simp⟩⟩
 by_cases hbe:b=e
 ·subst hbe; exact heo
 ·exact ⟨u,k b u hbe q⟩
end
def oo (v:Value):Obj:=⟨v,none,.freed,#[]⟩
def kh (h:Heap) (H:Hp) (i:Addr):Obj:=match H i with
 | some (.tbl _ q)=>oo (.str q 0)
 | some _=>oo .none
 | none=>match h.get? i with
  | some o=>o
  | none=>oo .none
def dM (h:Heap) (H:Hp):Heap:=⟨Array.ofFn (n:=h.objs.size) fun i=>kh h H i,h.life⟩
theorem e9 (h:Heap) (H:Hp):(dM h H).objs.size=h.objs.size:=by simp [dM]
theorem kB {h:Heap} {H:Hp} {b:Addr} {o:Obj} (e:(dM h H).objs[b]? = some o):b<h.objs.size∧o=kh h H b:=by
 obtain ⟨hb,e⟩:=Array.getElem?_eq_some_iff.mp e
 rw [e9] at hb
 refine ⟨hb,?_⟩
 rw [← e]; simp [dM]
theorem nofree {h:Heap} {b:Addr} {o:Obj} (e:h.get? b=some o):h.objs[b]? = some o∧o.data≠.freed:=by
 unfold Heap.get? at e
 split at e
 ·cases e
 ·rename_i hn
  refine ⟨e,fun z=>?_⟩
  obtain ⟨c,d,da,sl⟩:=o
  have z:da = .freed:=z
  subst z
  exact hn c d sl e
theorem sy {h:Heap} {b:Addr} {o:Obj} (e:h.objs[b]? = some o) (n:o.data≠.freed):h.get? b=some o:=by
 unfold Heap.get?
 split
 ·rename_i c d sl e'
  rw [e] at e'; cases e'
  exact absurd rfl n
 ·exact e
theorem pZ {h:Heap} {H:Hp} {b:Addr} {o:Obj} (e:h.get? b=some o) (n:H b=none):(dM h H).get? b=some o:=by
 have hb:b<(dM h H).objs.size:=by rw [e9]; exact Heap.lt_size e
 refine sy ?_ (nofree e).2
 rw [Array.getElem?_eq_getElem hb]
 have:(dM h H).objs[b]=kh h H b:=by simp [dM]
 rw [this]; unfold kh; rw [n,e]
theorem sJ {h:Heap} {H:Hp} {b:Addr} {o:Obj} (e:(dM h H).get? b=some o):h.get? b=some o∧H b=none:=by
 obtain ⟨e1,nf⟩:=nofree e
 obtain ⟨_,e2⟩:=kB e1
 unfold kh at e2
 split at e2
 ·rw [e2] at nf; exact absurd rfl nf
 ·rw [e2] at nf; exact absurd rfl nf
 ·rename_i hn
  split at e2
  ·rename_i o' e3
   exact ⟨e3.trans (by rw [e2]),hn⟩
  ·rw [e2] at nf; exact absurd rfl nf
def TMk (base:Heap) (P:Addr) (q:Str):Prop:=base.objs[P]? = some (oo (.str q 0))
def TbM (base:Heap) (H:Hp):Prop:=∀ P q,TMk base P q→∃ ps,H P=some (.tbl ps q)
theorem TbM.un {base h h':Heap} {H H':Hp} {fs ex:List Addr} (x:TbM base H) (u:Un fs ex H H' h h'):TbM base H':=fun P q m=>let ⟨ps,z⟩:=x P q m; let ⟨more,y⟩:=u.tbls P ps q z; ⟨_,y⟩
theorem TbM.hid {h:Heap} {H:Hp}:TbM (dM h H) H:=fun P q m=>by
 obtain ⟨_,e⟩:=kB m
 unfold kh at e
 split at e
 ·rename_i ps q' hq
  have e:oo (.str q 0)=oo (.str q' 0):=e
  cases e; exact ⟨ps,hq⟩
 ·cases e
 ·split at e
  ·rename_i o e3
   have:=(nofree e3).2
   rw [← e] at this; exact absurd rfl this
  ·cases e
theorem TMk.hid {h:Heap} {H:Hp} {P:Addr} {ps:Array Value} {q:Str} (hP:P<h.objs.size) (e:H P=some (.tbl ps q)):TMk (dM h H) P q:=by
 have hb:P<(dM h H).objs.size:=by rw [e9]; exact hP
 unfold TMk
 rw [Array.getElem?_eq_getElem hb]
 have:(dM h H).objs[P]=kh h H P:=by simp [dM]
 rw [this]; unfold kh; rw [e]
structure Mod (K:PySem.W.Frag) (mg:Str→Option Value) (base:Heap):Prop where
 kin:K.In base
 glob:base.Ns mainGlobals mg
 blt:∃ mb,base.Ns builtinsNs mb∧∀ x:Str,x ≠ "__name__" → mb x=bootBuiltins x
 nolimit:base.NoLimit
structure Cx where
 prog:Program
 w:World
 K:PySem.W.Frag
 mg:Str→Option Value
 base:Heap
 A:Around
 N:List Str
 s₀:Shared
 H₀:Hp
 env:Env
 outer:List Env
 stack:List Env
 ex:List Addr
 fn:Str→Bool
 calm:Bool
 pn:List (Addr×Obj)
 xe:Value→Shared→Prop
def frs (l:List Env):List Addr:=l.filterMap (·.frame)
abbrev Cx.fs (X:Cx):List Addr:=frs X.outer
def Vis (sc:Scope) (x:Str):Prop:=sc.names.lookup x=some .local∨sc.names.lookup x=some .cell∨sc.names.lookup x=some .free
def Loc (sc:Scope) (x:Str):Prop:=sc.names.lookup x=some .local∨sc.names.lookup x=some .cell
def Look (env:Env) (h:Heap) (m:Str→Option Value) (x:Str) (u:Value):Prop :=
 (env.kindOf x=some .local∧m x=some u)∨((env.kindOf x=some .cell∨env.kindOf x=some .free)∧∃ c,env.cells.lookup x=some c∧h.IsCell c (some u))
structure Cx.Ok (X:Cx):Prop where
 mod:Mod X.K X.mg X.base
 kind:X.env.scope.kind = .function
 glob:X.env.globals=mainGlobals
 blt:X.env.builtins=builtinsNs
 above:X.s₀.heap.objs.size≤X.env.locals
 inj:∀ x y c,X.env.cells.lookup x=some c→X.env.cells.lookup y=some c→x=y
 has:∀ x,(X.env.kindOf x=some .cell∨X.env.kindOf x=some .free)→∃ c,X.env.cells.lookup x=some c
 cab:∀ x c,X.fn x=true→X.env.cells.lookup x=some c→X.s₀.heap.objs.size≤c
 hd:X.calm=true→X.A.handled=none
 frames:X.A.frames=some X.stack
 stk:X.stack=X.outer∨(X.stack=X.env :: X.outer∧X.env.frame=some X.env.locals)
 exf:∀ b∈X.ex,b≠X.env.locals∧∀ x c,X.env.cells.lookup x=some c→c≠b
 bs:∀ b o,X.base.get? b=some o→X.s₀.heap.get? b=some o∧X.H₀ b=none
 bsz:X.base.objs.size≤X.s₀.heap.objs.size
 noex:∀ b o,X.base.get? b=some o→b ∉ X.ex
 exfs:∀ b∈X.ex,b ∉ X.fs
 funs:X.s₀.heap.FunFrames X.base X.outer
 frf:∀ b∈X.fs,X.H₀ b=none
 tb:TbM X.base X.H₀
structure Inv (X:Cx) (pins:List (Addr×Obj)) (σ:List (Option V)) (H:Hp) (s:Shared):Prop where
 ok:X.Ok
 os:s.os=X.s₀.os
 bare:AllBare s.gens
 base:Un X.fs X.ex X.H₀ H X.s₀.heap s.heap
 loc:∃ m,s.heap.Ns X.env.locals m∧∀ (i:Nat) (x:Str) (v:V),X.N[i]? = some x→σ[i]? = some (some v)→Vis X.env.scope x→∃ u,a7 v u∧Look X.env s.heap m x u
 cell:∀ x c,X.env.cells.lookup x=some c→∃ v,s.heap.IsCell c v
 free:H X.env.locals=none
 freeC:∀ x c,X.env.cells.lookup x=some c→H c=none
 pin:∀ p∈X.pn++pins,s.heap.get? p.1=some p.2∧H p.1=none∧p.1≠X.env.locals∧p.1 ∉ X.fs∧∀ v,p.2.data≠.cell v
 hok:HOk X.prog X.w H s.heap
 len : σ.length=X.N.length
section
variable {X:Cx} {pins:List (Addr×Obj)} {σ:List (Option V)} {H H':Hp} {s:Shared} {h':Heap}
theorem Cx.Ok.nofr (ok:X.Ok) {b:Addr} {o:Obj} (e:X.base.get? b=some o):b ∉ X.fs:=fun hb=>by
 have:=(ok.funs.mem hb).1
 rw [e] at this; cases this
theorem Inv.bs (I:Inv X pins σ H s):∀ b o,X.base.get? b=some o→s.heap.get? b=some o∧H b=none:=fun b o e =>
 ⟨I.base.keep b o (I.ok.bs b o e).1 (I.ok.bs b o e).2 (I.ok.nofr e) (I.ok.noex b o e),I.base.free b o (I.ok.bs b o e).1 (I.ok.bs b o e).2 (I.ok.noex b o e)⟩
theorem Inv.bk (I:Inv X pins σ H s):∀ b o,X.base.get? b=some o→s.heap.get? b=some o:=fun b o e=>(I.bs b o e).1
theorem Inv.mod (I:Inv X pins σ H s):Mod X.K X.mg X.base:=I.ok.mod
theorem Inv.kIn (I:Inv X pins σ H s):X.K.In s.heap:=I.ok.mod.kin.keeps I.bk
theorem Inv.fr (I:Inv X pins σ H s):∃ m,Fr X.base X.env.locals s.heap m :=
 let ⟨m,hn,_⟩:=I.loc
 ⟨m,hn,I.bk,Nat.le_trans I.ok.bsz I.ok.above⟩
theorem Inv.lt (I:Inv X pins σ H s):X.env.locals<s.heap.objs.size:=let ⟨_,hn,_⟩:=I.loc; hn.lt
theorem Inv.sz (I:Inv X pins σ H s):X.s₀.heap.objs.size≤s.heap.objs.size:=Nat.le_trans I.ok.above (Nat.le_of_lt I.lt)
theorem Inv.nofs (I:Inv X pins σ H s) {a:Addr} (h:s.heap.objs.size≤a):a ∉ X.fs:=fun hb=>by
 obtain ⟨_,o,ho,_⟩:=I.ok.funs.mem hb
 exact absurd (Nat.lt_of_lt_of_le (Heap.lt_size ho) (Nat.le_trans I.sz h)) (Nat.lt_irrefl _)
theorem Inv.cne (I:Inv X pins σ H s):∀ x c,X.env.cells.lookup x=some c→c≠X.env.locals:=fun x c e z=>by
 obtain ⟨v,o,ho,hd⟩:=I.cell x c e
 obtain ⟨m,⟨o',es,ep,ho',hd',_⟩,_⟩:=I.loc
 rw [z,ho'] at ho; cases ho; rw [hd'] at hd; cases hd
theorem Inv.funs (I:Inv X pins σ H s):s.heap.FunFrames X.base X.outer:=by
 have all:∀ (l:List Env),(∀ b∈frs l,b∈X.fs)→X.s₀.heap.FunFrames X.base l→s.heap.FunFrames X.base l:=by
  intro l
  induction l with
  | nil=>intro _ _; trivial
  | cons env r ih =>
   intro hs hl
   obtain ⟨hk,⟨L,o,hf,hn,ho,hd⟩,hr⟩:=hl
   have hL:L∈X.fs:=hs L (by unfold frs; rw [List.filterMap_cons,hf]; exact List.mem_cons_self)
   obtain ⟨sl,e⟩:=I.base.slot L o ho (I.ok.frf L hL) hL fun z=>I.ok.exfs L z hL
   exact ⟨hk,⟨L,_,hf,hn,e,hd⟩,ih (fun b hb=>hs b (by unfold frs; rw [List.filterMap_cons,hf]; exact List.mem_cons_of_mem _ hb)) hr⟩
 exact all X.outer (fun _ hb=>hb) I.ok.funs
theorem Inv.stack (I:Inv X pins σ H s):s.heap.FunFrames X.base X.stack:=by
 rcases I.ok.stk with e | ⟨e,hf⟩
 ·rw [e]; exact I.funs
 ·rw [e]
  obtain ⟨m,hn,_⟩:=I.loc
  refine .cons (by rw [I.ok.kind]; decide) hf hn ?_ I.funs
  exact Heap.get?_none_of_le (Nat.le_trans I.ok.bsz I.ok.above)
theorem Inv.stkSub (I:Inv X pins σ H s):∀ b∈frs X.stack,b∈X.env.locals :: X.fs:=fun b hb=>by
 rcases I.ok.stk with e | ⟨e,hf⟩
 ·rw [e] at hb; exact List.mem_cons_of_mem _ hb
 ·rw [e] at hb
  unfold frs at hb
  rw [List.filterMap_cons,hf] at hb
  exact hb
theorem Inv.stkFree (I:Inv X pins σ H s):∀ b∈frs X.stack,H b=none:=fun b hb=>by
 rcases List.mem_cons.mp (I.stkSub b hb) with e | hb
 ·rw [e]; exact I.free
 ·obtain ⟨_,o,ho,_⟩:=I.ok.funs.mem hb
  exact I.base.free b o ho (I.ok.frf b hb) fun z=>I.ok.exfs b z hb
theorem Inv.step {g':Array GenState} {t':Nat} {d':Drawn} {ch:List Addr} (I:Inv X pins σ H s)
 (hch:∀ b∈ch,(b∈X.ex∨X.s₀.heap.objs.size≤b)∧b≠X.env.locals∧(∀ x c,X.env.cells.lookup x=some c→c≠b)∧∀ p∈X.pn++pins,p.1≠b)
 (keep:∀ b o,b≠X.env.locals→b ∉ X.fs→b ∉ ch→s.heap.get? b=some o→H b=none→h'.get? b=some o)
 (slot:∀ b o,b≠X.env.locals→b∈X.fs→b ∉ ch→s.heap.get? b=some o→H b=none→∃ sl,h'.get? b=some { o with slots:=sl }) (free:∀ b o,b ∉ ch→s.heap.get? b=some o→H b=none→H' b=none)
 (there:∀ b o,b ∉ ch→s.heap.get? b=some o→∃ o',h'.get? b=some o')
 (tups:∀ b xs,H b=some (.tup xs)→H' b=some (.tup xs)) (frzs:∀ b o u,H b=some (.frz o u)→H' b=some (.frz o u)) (tbls:∀ b ps q,H b=some (.tbl ps q)→∃ more,H' b=some (.tbl (ps++more) q))
 (ns:∀ m,s.heap.Ns X.env.locals m→h'.Ns X.env.locals m) (hok:HOk X.prog X.w H' h') (hg:AllBare g') :
 Inv X pins σ H' { s with heap:=h',gens:=g',drawn:=d',toks:=t' }:=by
 have neL:∀ b o,X.s₀.heap.get? b=some o→b≠X.env.locals:=fun b o e=>Nat.ne_of_lt (Nat.lt_of_lt_of_le (Heap.lt_size e) I.ok.above)
 have neC:∀ b o,X.s₀.heap.get? b=some o→b ∉ X.ex→b ∉ ch:=fun b o e hx hb=>by
  rcases (hch b hb).1 with z | z
  ·exact hx z
  ·exact absurd (Nat.lt_of_lt_of_le (Heap.lt_size e) z) (Nat.lt_irrefl _)
 have cellK:∀ x c,X.env.cells.lookup x=some c→∀ v,s.heap.IsCell c v→h'.IsCell c v:=fun x c e v ⟨o,ho,hd⟩=>by
  have nch:c ∉ ch:=fun z=>(hch c z).2.2.1 x c e rfl
  by_cases hc:c∈X.fs
  ·obtain ⟨sl,q⟩:=slot c o (I.cne x c e) hc nch ho (I.freeC x c e)
   exact ⟨_,q,hd⟩
  ·exact ⟨o,keep c o (I.cne x c e) hc nch ho (I.freeC x c e),hd⟩
 refine ⟨I.ok,I.os,hg,⟨fun b o e n hb hx=>?_,fun b o e n hb hx=>?_,fun b o e n hx=>?_,fun b o e hx=>?_,fun b xs e=>tups b xs (I.base.tups b xs e),fun b o xs e=>frzs b o xs (I.base.frzs b o xs e),fun b ps q e=>?_⟩,?_,fun x c e=>?_,?_,fun x c e=>?_,fun p hp=>?_,hok,I.len⟩
 ·exact keep b o (neL b o e) hb (neC b o e hx) (I.base.keep b o e n hb hx) (I.base.free b o e n hx)
 ·obtain ⟨sl,e1⟩:=I.base.slot b o e n hb hx
  obtain ⟨sl',e2⟩:=slot b _ (neL b o e) hb (neC b o e hx) e1 (I.base.free b o e n hx)
  exact ⟨sl',e2⟩
 ·obtain ⟨o',e1⟩:=I.base.there b o e hx
  exact free b o' (neC b o e hx) e1 (I.base.free b o e n hx)
 ·obtain ⟨o',e1⟩:=I.base.there b o e hx
  exact there b o' (neC b o e hx) e1
 ·obtain ⟨m1,e1⟩:=I.base.tbls b ps q e
  obtain ⟨m2,e2⟩:=tbls b _ q e1
  exact ⟨m1++m2,by rw [e2,Array.append_assoc]⟩
 ·obtain ⟨m,hn,hl⟩:=I.loc
  refine ⟨m,ns m hn,fun i x v e1 e2 e3=>?_⟩
  obtain ⟨u,r,l⟩:=hl i x v e1 e2 e3
  refine ⟨u,r,?_⟩
  rcases l with l | ⟨k,c,e,z⟩
  ·exact .inl l
  ·exact .inr ⟨k,c,e,cellK x c e _ z⟩
 ·obtain ⟨v,z⟩:=I.cell x c e
  exact ⟨v,cellK x c e v z⟩
 ·obtain ⟨m,⟨o,_,_,ho,_⟩,_⟩:=I.loc
  exact free _ o (fun z=>(hch _ z).2.1 rfl) ho I.free
 ·obtain ⟨v,o,ho,hd⟩:=I.cell x c e
  exact free c o (fun z=>(hch c z).2.2.1 x c e rfl) ho (I.freeC x c e)
 ·obtain ⟨e,n,ne,nf,d⟩:=I.pin p hp
  have nch:p.1 ∉ ch:=fun z=>(hch p.1 z).2.2.2 p hp rfl
  exact ⟨keep p.1 p.2 ne nf nch e n,free p.1 p.2 nch e n,ne,nf,d⟩
theorem Inv.un {t':Nat} (I:Inv X pins σ H s) (u:Un X.fs [] H H' s.heap h') (hok:HOk X.prog X.w H' h'):Inv X pins σ H' { s with heap:=h',toks:=t' }:=by
 obtain ⟨m,⟨o,es,ep,ho,r⟩,_⟩:=id I.loc
 obtain ⟨sl,hL⟩:=u.any ho I.free (by simp)
 exact I.step (g':=s.gens) (d':=s.drawn) (ch:=[]) (fun _ z=>nomatch z) (fun b o _ hb _ e n=>u.keep b o e n hb (by simp)) (fun b o _ hb _ e n=>u.slot b o e n hb (by simp)) (fun b o _ e n=>u.free b o e n (by simp)) (fun b o _ e=>u.there b o e (by simp)) u.tups u.frzs u.tbls (fun m' hm=>by
  obtain ⟨o',es',ep',ho',r'⟩:=hm
  rw [ho] at ho'; cases ho'
  exact ⟨_,es',ep',hL,r'⟩) hok I.bare
theorem Inv.call {g':Array GenState} {t':Nat} {d':Drawn} {ch:List Addr} (I:Inv X pins σ H s) (u:Un (frs X.stack) ch H H' s.heap h') (hok:HOk X.prog X.w H' h') (hg:AllBare g')
 (hch:∀ b∈ch,(b∈X.ex∨X.s₀.heap.objs.size≤b)∧b≠X.env.locals∧(∀ x c,X.env.cells.lookup x=some c→c≠b)∧∀ p∈X.pn++pins,p.1≠b) :
 Inv X pins σ H' { s with heap:=h',gens:=g',drawn:=d',toks:=t' }:=by
 obtain ⟨m,⟨o,es,ep,ho,r⟩,_⟩:=id I.loc
 obtain ⟨sl,hL⟩:=u.any ho I.free fun z=>(hch _ z).2.1 rfl
 exact I.step (ch:=ch) hch (fun b o hL hb hc e n=>u.keep b o e n (fun z=>(List.mem_cons.mp (I.stkSub b z)).elim hL hb) hc) (fun b o _ _ hc e n=>u.any e n hc) (fun b o hc e n=>u.free b o e n hc) (fun b o hc e=>u.there b o e hc) u.tups u.frzs u.tbls (fun m' hm=>by
  obtain ⟨o',es',ep',ho',r'⟩:=hm
  rw [ho] at ho'; cases ho'
  exact ⟨_,es',ep',hL,r'⟩) hok hg
theorem Inv.turned {t':Nat} {it:Addr} (I:Inv X pins σ H s) (k:∀ b o,b≠it→s.heap.get? b=some o→h'.get? b=some o) (hn:H it=none) (hL:it≠X.env.locals)
 (h1:it∈X.ex∨X.s₀.heap.objs.size≤it) (h2:∀ x c,X.env.cells.lookup x=some c→c≠it) (h3:∀ p∈X.pn++pins,p.1≠it):Inv X pins σ H { s with heap:=h',toks:=t' }:=by
 have nit:∀ b u,H b=some u→b≠it:=fun b u e z=>by rw [z,hn] at e; cases e
 refine I.step (g':=s.gens) (d':=s.drawn) (ch:=[it]) (fun b hb=>?_) (fun b o _ _ hc e _=>k b o (fun z=>hc (by simp [z])) e) (fun b o _ _ hc e _=>⟨o.slots,k b o (fun z=>hc (by simp [z])) e⟩) (fun _ _ _ _ n=>n)
  (fun b o hc e=>⟨o,k b o (fun z=>hc (by simp [z])) e⟩) (fun _ _ e=>e) (fun _ _ _ e=>e) (fun b ps _ e=>⟨#[],by rw [e]; simp⟩) (fun m hm=>?_) (fun b u e=>?_) I.bare
 ·have e:b=it:=by simpa using hb
  subst e
  exact ⟨h1,hL,h2,h3⟩
 ·obtain ⟨o,es,ep,ho,r⟩:=hm
  exact ⟨o,es,ep,k _ o (Ne.symm hL) ho,r⟩
 ·refine (I.hok b u e).stay (fun c v hc q=>k c v ?_ q) (fun _ q=>q) (fun _ _ q=>q) fun _ _ _ q=>q
  rcases hc with z | z
  ·rw [z]; exact nit b u e
  ·exact nit c _ z
theorem Inv.tok (I:Inv X pins σ H s) (t:Nat):Inv X pins σ H { s with toks:=t }:=I.un (h':=s.heap) (t':=t) Un.refl I.hok
theorem Inv.kept {t':Nat} (I:Inv X pins σ H s) (k:∀ b u,s.heap.get? b=some u→h'.get? b=some u):Inv X pins σ H { s with heap:=h',toks:=t' }:=I.un (Un.kept k) (I.hok.kept k)
theorem Inv.laid {a:Addr} {o:HO} {t':Nat} (I:Inv X pins σ H s) (k:∀ b u,s.heap.get? b=some u→h'.get? b=some u) (hp:s.heap.objs.size≤a) (new:br X.prog X.w (upd H a o) h' a o) :
 Inv X pins σ (upd H a o) { s with heap:=h',toks:=t' }:=I.un (Un.laid k hp (I.hok.fresh hp)) (I.hok.laid k hp new)
theorem Inv.write {x e:Addr} {o:HO} {t':Nat} (I:Inv X pins σ H s) (mu:Mut (H x)) (he:e=x∨H e=some (.own x)) (k:∀ b u,b≠e→s.heap.get? b=some u→h'.get? b=some u) (heo:∃ u,h'.get? e=some u)
 (new:br X.prog X.w (upd H x o) h' x o):Inv X pins σ (upd H x o) { s with heap:=h',toks:=t' }:=I.un (Un.write mu he k heo) (I.hok.write mu he k heo new)
theorem Inv.weak {σ':List (Option V)} (I:Inv X pins σ H s) (hl : σ'.length=σ.length) (w:∀ (i:Nat) v,σ'[i]? = some (some v)→σ[i]? = some (some v)):Inv X pins σ' H s :=
 ⟨I.ok,I.os,I.bare,I.base,let ⟨m,hn,hl'⟩:=I.loc; ⟨m,hn,fun i x v e1 e2 e3=>hl' i x v e1 (w i v e2) e3⟩,I.cell,I.free,I.freeC,I.pin,I.hok,hl.trans I.len⟩
theorem Inv.pins_of {pins':List (Addr×Obj)} (I:Inv X pins σ H s) (h:∀ p∈pins',s.heap.get? p.1=some p.2∧H p.1=none∧p.1≠X.env.locals∧p.1 ∉ X.fs∧∀ v,p.2.data≠.cell v):Inv X pins' σ H s :=
 ⟨I.ok,I.os,I.bare,I.base,I.loc,I.cell,I.free,I.freeC,fun p hp=>(List.mem_append.mp hp).elim (fun z=>I.pin p (List.mem_append_left _ z)) (h p),I.hok,I.len⟩
theorem kH {N:List Str} (hN:N.Nodup) {i j:Nat} {x:Str} (a:N[i]? = some x) (b:N[j]? = some x):i=j:=by
 obtain ⟨h1,e1⟩:=List.getElem?_eq_some_iff.mp a
 obtain ⟨h2,e2⟩:=List.getElem?_eq_some_iff.mp b
 exact (List.getElem_inj hN).mp (e1.trans e2.symm)
theorem i8 {M:Model} {A:Around} {E:Value→Shared→Prop} {i:Nat} {x:Str} {v:V} {u:Value} {Q:Unit→Shared→Prop} (I:Inv X pins σ H s) (hN:X.N.Nodup) (hi:X.N[i]? = some x) (hx:Loc X.env.scope x) (r:a7 v u)
 (h:∀ s',Inv X pins (σ.set i (some v)) H s'→(∃ a,Heap.SameBut a s.heap s'.heap∧(a=X.env.locals∨X.env.cells.lookup x=some a))→Q () s') (hf:X.fn x=true∨X.env.scope.names.lookup x=some .local:=by first | exact .inl rfl | exact .inr rfl | assumption):wpAny M A (storeName X.env x u) Q E s:=by
 obtain ⟨m,hn,hl⟩:=id I.loc
 have hcls:(X.env.scope.kind == .class||(X.env.scope.kind == .module&&X.env.locals != X.env.globals))=false:=by rw [I.ok.kind]; rfl
 have hiσ:i<σ.length:=by rw [I.len]; exact (List.getElem?_eq_some_iff.mp hi).1
 have cne:=I.cne
 have tracked:∀ {a:Addr} {h':Heap},(∃ o,s.heap.get? a=some o∧H a=none)→Heap.SameBut a s.heap h'→HOk X.prog X.w H h':=fun {a h'} ha hs b ob e=>by
  obtain ⟨_,_,hfree⟩:=ha
  refine (I.hok b ob e).stay (fun c w' hc q=>(hs.2 c ?_).trans q) (fun _ q=>q) (fun _ _ q=>q) fun _ _ _ q=>q
  rintro rfl
  rcases hc with rfl | hc
  ·rw [hfree] at e; cases e
  ·rw [hfree] at hc; cases hc
 rcases hx with hk | hk
 ·refine wpAny_storeName_local hk hn (fun h' hn' hs=>?_) hcls
  obtain ⟨oL,_,_,hoL,_⟩:=id hn
  refine h _ ⟨I.ok,I.os,I.bare,⟨fun b o e n hb hx=>?_,fun b o e n hb hx=>?_,I.base.free,fun b o e hx=>?_,I.base.tups,I.base.frzs,I.base.tbls⟩,⟨_,hn',fun j y v' e1 e2 e3=>?_⟩,fun y c e=>?_,I.free,I.freeC,fun p hp=>?_,tracked ⟨oL,hoL,I.free⟩ hs,by simpa using I.len⟩ ⟨_,hs,.inl rfl⟩
  ·exact (hs.2 b (Nat.ne_of_lt (Nat.lt_of_lt_of_le (Heap.lt_size e) I.ok.above))).trans (I.base.keep b o e n hb hx)
  ·obtain ⟨sl,e1⟩:=I.base.slot b o e n hb hx
   exact ⟨sl,(hs.2 b (Nat.ne_of_lt (Nat.lt_of_lt_of_le (Heap.lt_size e) I.ok.above))).trans e1⟩
  ·obtain ⟨o',e1⟩:=I.base.there b o e hx
   exact ⟨o',(hs.2 b (Nat.ne_of_lt (Nat.lt_of_lt_of_le (Heap.lt_size e) I.ok.above))).trans e1⟩
  ·by_cases hj:j=i
   ·subst hj
    rw [hi] at e1; cases e1
    rw [List.getElem?_set_self hiσ] at e2
    cases e2
    exact ⟨u,r,.inl ⟨hk,by simp⟩⟩
   ·rw [List.getElem?_set_ne (Ne.symm hj)] at e2
    obtain ⟨u',r',q⟩:=hl j y v' e1 e2 e3
    refine ⟨u',r',?_⟩
    rcases q with ⟨k,e⟩ | ⟨k,c,e,z⟩
    ·refine .inl ⟨k,?_⟩
     have:y≠x:=fun e=>hj (kH hN e1 (e ▸ hi))
     simp [this,e]
    ·exact .inr ⟨k,c,e,z.sameBut hs (cne y c e)⟩
  ·obtain ⟨w',z⟩:=I.cell y c e
   exact ⟨w',z.sameBut hs (cne y c e)⟩
  ·obtain ⟨e,n,ne,nf,d⟩:=I.pin p hp
   exact ⟨(hs.2 p.1 ne).trans e,n,ne,nf,d⟩
 ·have hfn:X.fn x=true:=by
   rcases hf with z | z
   ·exact z
   ·rw [z] at hk; cases hk
  obtain ⟨c,hc⟩:=I.ok.has x (.inl hk)
  obtain ⟨w',z⟩:=I.cell x c hc
  refine wpAny_storeName_cell I.ok.kind hk hc z (fun h' hc' hs=>?_)
  obtain ⟨oc,hoc,hocd⟩:=id z
  refine h { s with heap:=h' } ⟨I.ok,I.os,I.bare,⟨fun b o e n hb hx=>?_,fun b o e n hb hx=>?_,I.base.free,fun b o e hx=>?_,I.base.tups,I.base.frzs,I.base.tbls⟩,⟨m,hn.sameBut hs (Ne.symm (cne x c hc)),fun j y v' e1 e2 e3=>?_⟩,fun y c' e=>?_,I.free,I.freeC,fun p hp=>?_,tracked ⟨oc,hoc,I.freeC x c hc⟩ hs,by simpa using I.len⟩ ⟨c,hs,.inr hc⟩
  ·exact (hs.2 b (Nat.ne_of_lt (Nat.lt_of_lt_of_le (Heap.lt_size e) (I.ok.cab x c hfn hc)))).trans (I.base.keep b o e n hb hx)
  ·obtain ⟨sl,e1⟩:=I.base.slot b o e n hb hx
   exact ⟨sl,(hs.2 b (Nat.ne_of_lt (Nat.lt_of_lt_of_le (Heap.lt_size e) (I.ok.cab x c hfn hc)))).trans e1⟩
  ·obtain ⟨o',e1⟩:=I.base.there b o e hx
   exact ⟨o',(hs.2 b (Nat.ne_of_lt (Nat.lt_of_lt_of_le (Heap.lt_size e) (I.ok.cab x c hfn hc)))).trans e1⟩
  ·by_cases hj:j=i
   ·subst hj
    rw [hi] at e1; cases e1
    rw [List.getElem?_set_self hiσ] at e2
    cases e2
    exact ⟨u,r,.inr ⟨.inl hk,c,hc,hc'⟩⟩
   ·rw [List.getElem?_set_ne (Ne.symm hj)] at e2
    obtain ⟨u',r',q⟩:=hl j y v' e1 e2 e3
    refine ⟨u',r',?_⟩
    rcases q with q | ⟨k,c',e,z'⟩
    ·exact .inl q
    ·refine .inr ⟨k,c',e,z'.sameBut hs ?_⟩
     rintro rfl
     exact hj (kH hN e1 (I.ok.inj _ _ _ e hc ▸ hi))
  ·by_cases hcc:c'=c
   ·subst hcc; exact ⟨_,hc'⟩
   ·obtain ⟨w2,z2⟩:=I.cell y c' e
    exact ⟨w2,z2.sameBut hs hcc⟩
  ·obtain ⟨e,n,ne,nf,d⟩:=I.pin p hp
   refine ⟨(hs.2 p.1 ?_).trans e,n,ne,nf,d⟩
   intro q
   rw [q,hoc] at e
   have q':oc=p.2:=Option.some.inj e
   exact d w' (by rw [← q']; exact hocd)
theorem fW {M:Model} {A:Around} {E:Value→Shared→Prop} {i:Nat} {x:Str} {v:V} {u:Value} {Q:Unit→Shared→Prop} (I:Inv X pins σ H s) (hN:X.N.Nodup) (hi:X.N[i]? = some x) (hx:Loc X.env.scope x) (r:a7 v u)
 (h:∀ s',Inv X pins (σ.set i (some v)) H s'→Q () s') (hf:X.fn x=true∨X.env.scope.names.lookup x=some .local:=by first | exact .inl rfl | exact .inr rfl | assumption):wpAny M A (storeName X.env x u) Q E s :=
 i8 I hN hi hx r (fun s' I' _=>h s' I') hf
theorem Inv.call' {s':Shared} {ch:List Addr} (I:Inv X pins σ H s) (ho:s'.os=s.os) (u:Un (frs X.stack) ch H H' s.heap s'.heap) (hok:HOk X.prog X.w H' s'.heap) (hg:AllBare s'.gens)
 (hch:∀ b∈ch,(b∈X.ex∨X.s₀.heap.objs.size≤b)∧b≠X.env.locals∧(∀ x c,X.env.cells.lookup x=some c→c≠b)∧∀ p∈X.pn++pins,p.1≠b):Inv X pins σ H' s':=by
 obtain ⟨h',g',d',t',o'⟩:=s'
 have e:o'=s.os:=ho
 subst e
 exact I.call (g':=g') (t':=t') (d':=d') u hok hg hch
end
abbrev XK:=Value→Option Addr→Hp→Prop
abbrev St:=List (Option V)
abbrev VK:=V→Hp→Prop
abbrev TE:=St→Hp→VK→Prop
abbrev TT:=St→Hp→(Bool→Hp→Prop)→Prop
abbrev TA:=St→Hp→(List V→Hp→Prop)→Prop
structure Ends where
 nx:St→Hp→Prop
 rt:VK
 bk:St→Hp→Prop:=fun _ _=>False
 ct:St→Hp→Prop:=fun _ _=>False
abbrev TS:=Ends→St→Hp→Prop
def EP (X:Cx) (pins:List (Addr×Obj)) (σ:St) (Q:VK) (u:Value) (s':Shared):Prop:=∃ v H',Inv X pins σ H' s'∧a7 v u∧Q v H'
def TP (X:Cx) (pins:List (Addr×Obj)) (σ:St) (Q:Bool→Hp→Prop) (b:Bool) (s':Shared):Prop:=∃ H',Inv X pins σ H' s'∧Q b H'
def AP (X:Cx) (pins:List (Addr×Obj)) (σ:St) (Q:List V→Hp→Prop) (us:List Value) (s':Shared):Prop:=∃ vs H',Inv X pins σ H' s'∧aN vs us∧Q vs H'
def SP (X:Cx) (pins:List (Addr×Obj)) (D:Ends) (f:Flow) (s':Shared):Prop :=
 match f with
 | .next=>∃ σ' H',Inv X pins σ' H' s'∧D.nx σ' H'
 | .brk=>∃ σ' H',Inv X pins σ' H' s'∧D.bk σ' H'
 | .cont=>∃ σ' H',Inv X pins σ' H' s'∧D.ct σ' H'
 | .ret u=>∃ v σ' H',Inv X pins σ' H' s'∧a7 v u∧D.rt v H'
structure PE (X:Cx) (e:Expr) (t:TE):Prop where
 go:∀ (pins:List (Addr×Obj)) (s:Shared) (σ:St) (H:Hp) (Q:VK),Inv X pins σ H s→t σ H Q→wpAny (model X.prog X.w) X.A (eval e X.env) (EP X pins σ Q) X.xe s
instance {X:Cx} {e:Expr} {t:TE}:CoeFun (PE X e t) fun _=>∀ (pins:List (Addr×Obj)) (s:Shared) (σ:St) (H:Hp) (Q:VK),Inv X pins σ H s→t σ H Q→wpAny (model X.prog X.w) X.A (eval e X.env) (EP X pins σ Q) X.xe s:=⟨fun h=>h.go⟩
structure PT (X:Cx) (e:Expr) (t:TT):Prop where
 go:∀ (pins:List (Addr×Obj)) (s:Shared) (σ:St) (H:Hp) (Q:Bool→Hp→Prop),Inv X pins σ H s→t σ H Q→wpAny (model X.prog X.w) X.A (isTrue e X.env (eval e X.env)) (TP X pins σ Q) X.xe s
instance {X:Cx} {e:Expr} {t:TT}:CoeFun (PT X e t) fun _=>∀ (pins:List (Addr×Obj)) (s:Shared) (σ:St) (H:Hp) (Q:Bool→Hp→Prop),Inv X pins σ H s→t σ H Q→wpAny (model X.prog X.w) X.A (isTrue e X.env (eval e X.env)) (TP X pins σ Q) X.xe s:=⟨fun h=>h.go⟩
structure PW (X:Cx) (e:Expr) (t:TT):Prop where
 go:∀ (whole:Sem Value) (pins:List (Addr×Obj)) (s:Shared) (σ:St) (H:Hp) (Q:Bool→Hp→Prop),Inv X pins σ H s→t σ H Q→wpAny (model X.prog X.w) X.A (isTrue e X.env whole) (TP X pins σ Q) X.xe s
instance {X:Cx} {e:Expr} {t:TT}:CoeFun (PW X e t) fun _=>∀ (whole:Sem Value) (pins:List (Addr×Obj)) (s:Shared) (σ:St) (H:Hp) (Q:Bool→Hp→Prop),Inv X pins σ H s→t σ H Q→wpAny (model X.prog X.w) X.A (isTrue e X.env whole) (TP X pins σ Q) X.xe s:=⟨fun h=>h.go⟩
theorem PW.pt {X:Cx} {e:Expr} {t:TT} (h:PW X e t):PT X e t:=⟨h.go _⟩
structure PA (X:Cx) (es:List Expr) (t:TA):Prop where
 go:∀ (pos:Pos) (pins:List (Addr×Obj)) (s:Shared) (σ:St) (H:Hp) (Q:List V→Hp→Prop),Inv X pins σ H s→t σ H Q→wpAny (model X.prog X.w) X.A (spliced (backTo pos (starEach es X.env))) (AP X pins σ Q) X.xe s
instance {X:Cx} {es:List Expr} {t:TA}:CoeFun (PA X es t) fun _=>∀ (pos:Pos) (pins:List (Addr×Obj)) (s:Shared) (σ:St) (H:Hp) (Q:List V→Hp→Prop),Inv X pins σ H s→t σ H Q→wpAny (model X.prog X.w) X.A (spliced (backTo pos (starEach es X.env))) (AP X pins σ Q) X.xe s:=⟨fun h=>h.go⟩
structure PS (X:Cx) (st:Stmt) (t:TS):Prop where
 go:∀ (pins:List (Addr×Obj)) (s:Shared) (σ:St) (H:Hp) (D:Ends),Inv X pins σ H s→t D σ H→wpAny (model X.prog X.w) X.A (exec st X.env) (SP X pins D) X.xe s
instance {X:Cx} {st:Stmt} {t:TS}:CoeFun (PS X st t) fun _=>∀ (pins:List (Addr×Obj)) (s:Shared) (σ:St) (H:Hp) (D:Ends),Inv X pins σ H s→t D σ H→wpAny (model X.prog X.w) X.A (exec st X.env) (SP X pins D) X.xe s:=⟨fun h=>h.go⟩
structure PSs (X:Cx) (st:List Stmt) (t:TS):Prop where
 go:∀ (pins:List (Addr×Obj)) (s:Shared) (σ:St) (H:Hp) (D:Ends),Inv X pins σ H s→t D σ H→wpAny (model X.prog X.w) X.A (execs st X.env) (SP X pins D) X.xe s
instance {X:Cx} {st:List Stmt} {t:TS}:CoeFun (PSs X st t) fun _=>∀ (pins:List (Addr×Obj)) (s:Shared) (σ:St) (H:Hp) (D:Ends),Inv X pins σ H s→t D σ H→wpAny (model X.prog X.w) X.A (execs st X.env) (SP X pins D) X.xe s:=⟨fun h=>h.go⟩
theorem thn {α:Type} {t:Sem α} {Q Q' : α→Shared→Prop} {M:Model} {A:Around} {E:Value→Shared→Prop} {s:Shared} (h:wpAny M A t Q E s) (hQ:∀ a s,Q a s→Q' a s):wpAny M A t Q' E s:=wpAny_mono h hQ fun _ _ x=>x
section
variable {X:Cx}
theorem bin {a b:Expr} {ta tb:TE} (ha:PE X a ta) (hb:PE X b tb) {pins:List (Addr×Obj)} {s:Shared} {σ:St} {H:Hp} {R:V→V→Hp→Prop} (I:Inv X pins σ H s) (h:ta σ H fun x H1=>tb σ H1 fun y H2=>R x y H2)
 {α:Type} {Q : α→Shared→Prop} {f:Value→Value→Sem α}
 (hf:∀ v u s2 x y H2,Inv X pins σ H2 s2→a7 x v→a7 y u→R x y H2→wpAny (model X.prog X.w) X.A (f v u) Q X.xe s2) :
 wpAny (model X.prog X.w) X.A (eval a X.env) (fun v s₁=>wpAny (model X.prog X.w) X.A (eval b X.env) (fun u s₂=>wpAny (model X.prog X.w) X.A (f v u) Q X.xe s₂) X.xe s₁) X.xe s:=by
 refine thn (ha pins s σ H _ I h) fun v s1 ⟨x,H1,I1,r1,q1⟩=>?_
 refine thn (hb pins s1 σ H1 _ I1 q1) fun u s2 ⟨y,H2,I2,r2,q2⟩=>?_
 exact hf v u s2 x y H2 I2 r1 r2 q2
def tVar (i:Nat):TE:=fun σ H Q=>∃ v,σ[i]? = some (some v)∧Q v H
def tC (v:V):TE:=fun _ H Q=>Q v H
theorem dC {i:Nat} {x:Str} {pos:Pos} (hN:X.N[i]? = some x) (hv:Vis X.env.scope x) (hd:(x == ("__debug__":Str))=false:=by decide) (hcd:(x == ("__classdict__":Str))=false:=by decide):PE X (.Name x pos) (tVar i):=by
 (try refine ⟨?_⟩); intro pins s σ H Q I h
 obtain ⟨v,e,h⟩:=h
 obtain ⟨m,hn,hl⟩:=I.loc
 obtain ⟨u,r,l⟩:=hl i x v hN e hv
 have fin:EP X pins σ Q u s:=⟨v,H,I,r,h⟩
 rcases l with ⟨hk,hm⟩ | ⟨hk,c,hc,hcell⟩
 ·exact wpAny_Name (wpAny_loadName_local I.ok.kind hk hn hm fin) hd
 ·rcases hk with hk | hk
  ·exact wpAny_Name (wpAny_loadName_cell I.ok.kind hk hc hcell fin) hd
  ·exact wpAny_Name (wpAny_loadName_free I.ok.kind hk hc hcell fin hcd) hd
theorem uS {i j pos}:PE X (.Constant (.int i) j pos) (tC (.int i)):=⟨fun _ _ _ H _ I h=>wpAny_Constant_int ⟨.int i,H,I.tok _,⟨_,rfl⟩,h⟩⟩
theorem pe_bl {b j pos}:PE X (.Constant (.bool b) j pos) (tC (.bl b)):=⟨fun _ _ _ H _ I h=>Constant_bool ⟨.bl b,H,I,rfl,h⟩⟩
def Gl (X:Cx) (x:Str):Prop:=X.env.kindOf x=some .globalImplicit
theorem l_ {E:Value→Shared→Prop} {pins:List (Addr×Obj)} {s:Shared} {σ:St} {H:Hp} {x:Str} {u:Value} {pos:Pos} {Q:Value→Shared→Prop} (I:Inv X pins σ H s) (hg:Gl X x) (hm:X.mg x=some u) (h:Q u s)
 (hd:(x == ("__debug__":Str))=false:=by decide):wpAny (model X.prog X.w) X.A (eval (.Name x pos) X.env) Q E s :=
 Calls.Name_function_global I.ok.kind hg (Calls.loadGlobal_global (by rw [I.ok.glob]; exact I.mod.glob.keeps I.bk) hm h) hd
theorem dG {E:Value→Shared→Prop} {pins:List (Addr×Obj)} {s:Shared} {σ:St} {H:Hp} {x:Str} {u:Value} {pos:Pos} {Q:Value→Shared→Prop} (I:Inv X pins σ H s) (hg:Gl X x) (hm:X.mg x=none) (hv:bootBuiltins x=some u) (h:Q u s)
 (hn:x ≠ "__name__":=by decide) (hd:(x == ("__debug__":Str))=false:=by decide):wpAny (model X.prog X.w) X.A (eval (.Name x pos) X.env) Q E s:=by
 obtain ⟨mb,h1,h2⟩:=I.mod.blt
 exact Calls.Name_function_global I.ok.kind hg (Calls.loadGlobal_builtin (by rw [I.ok.glob]; exact I.mod.glob.keeps I.bk) hm (by rw [I.ok.blt]; exact h1.keeps I.bk) ((h2 x hn).trans hv) h) hd
theorem sK {x:Str} {v:V} {u:Value} {pos:Pos} (hg:Gl X x) (hm:X.mg x=some u) (r:a7 v u) (hd:(x == ("__debug__":Str))=false:=by decide):PE X (.Name x pos) (tC v):=⟨fun _ _ _ H _ I h=>l_ I hg hm ⟨v,H,I,r,h⟩ hd⟩
theorem cN {x:Str} {v:V} {u:Value} {pos:Pos} (hg:Gl X x) (hm:X.mg x=none) (hv:bootBuiltins x=some u) (r:a7 v u) (hn:x ≠ "__name__":=by decide) (hd:(x == ("__debug__":Str))=false:=by decide):PE X (.Name x pos) (tC v):=⟨fun _ _ _ H _ I h=>dG I hg hm hv ⟨v,H,I,r,h⟩ hn hd⟩
variable {a b:Expr} {ta tb:TE} {pos:Pos}
def tB (t:TE):TT:=fun σ H Q=>t σ H fun x H1=>∃ c,x = .bl c∧Q c H1
theorem vF {e:Expr} {t:TE} (h:PE X e t) (he:∀ whole,isTrue e X.env whole=(do let v ← whole; standAt e.pos; holding [v] (truthy v)):=by intro _; rfl):PT X e (tB t):=by
 (try refine ⟨?_⟩); intro pins s σ H Q I hw
 refine isTrue_plain (thn (h pins s σ H _ I hw) fun v s1 ⟨x,H1,I1,r1,q1⟩=>?_) (he _)
 obtain ⟨d,rfl,q⟩:=q1
 cases r1
 exact wpAny_truthy_bool ⟨H1,I1,q⟩
variable {tA tB':TT} {rest:List Expr}
def tAnd (t u:TT):TT:=fun σ H Q=>t σ H fun c H1=>if c=true then u σ H1 Q else Q false H1
def tOr (t u:TT):TT:=fun σ H Q=>t σ H fun c H1=>if c=true then Q true H1 else u σ H1 Q
def tNot (t:TT):TT:=fun σ H Q=>t σ H fun c H1=>Q (!c) H1
theorem sC (ha:PT X a tA):PW X (.BoolOp .And [a] pos) tA:=by
 (try refine ⟨?_⟩); intro wh pins s σ H Q I h
 refine isTrue_and (thn (ha pins s σ H Q I h) fun c s1 e=>?_)
 cases c with
 | true=>exact isTrue_and_nil e
 | false=>exact e
theorem uA (ha:PT X a tA):PW X (.BoolOp .Or [a] pos) tA:=by
 (try refine ⟨?_⟩); intro wh pins s σ H Q I h
 refine isTrue_or (thn (ha pins s σ H Q I h) fun c s1 e=>?_)
 cases c with
 | false=>exact isTrue_or_nil e
 | true=>exact e
theorem vw (ha:PT X a tA) (hb:PW X (.BoolOp .And (b :: rest) pos) tB'):PW X (.BoolOp .And (a :: b :: rest) pos) (tAnd tA tB'):=by
 (try refine ⟨?_⟩); intro wh pins s σ H Q I h
 refine isTrue_and (thn (ha pins s σ H _ I h) fun c s1 ⟨H1,I1,q1⟩=>?_)
 cases c with
 | true=>exact hb wh pins s1 σ H1 Q I1 q1
 | false=>exact ⟨H1,I1,q1⟩
theorem pw_or (ha:PT X a tA) (hb:PW X (.BoolOp .Or (b :: rest) pos) tB'):PW X (.BoolOp .Or (a :: b :: rest) pos) (tOr tA tB'):=by
 (try refine ⟨?_⟩); intro wh pins s σ H Q I h
 refine isTrue_or (thn (ha pins s σ H _ I h) fun c s1 ⟨H1,I1,q1⟩=>?_)
 cases c with
 | true=>exact ⟨H1,I1,q1⟩
 | false=>exact hb wh pins s1 σ H1 Q I1 q1
theorem u6 (ha:PT X a tA):PT X (.UnaryOp .Not a pos) (tNot tA):=by
 (try refine ⟨?_⟩); intro pins s σ H Q I h
 exact isTrue_not (ha pins s σ H (fun c H1=>Q (!c) H1) I h)
def tAndV (ta tb:TE):TE:=fun σ H Q=>ta σ H fun x H1=>∃ c,x = .bl c∧if c=true then tb σ H1 Q else Q (.bl false) H1
def tNotV (ta:TE):TE:=fun σ H Q=>ta σ H fun x H1=>∃ c,x = .bl c∧Q (.bl (!c)) H1
theorem wp {op} {t:TE} (h:PE X a t):PE X (.BoolOp op [a] pos) t:=⟨fun pins s σ H Q I hw=>BoolOp_one (h pins s σ H Q I hw)⟩
theorem uF (ha:PE X a ta) (hb:PE X (.BoolOp .And (b :: rest) pos) tb):PE X (.BoolOp .And (a :: b :: rest) pos) (tAndV ta tb):=by
 (try refine ⟨?_⟩); intro pins s σ H Q I h
 refine BoolOp_and (thn (ha pins s σ H _ I h) fun v s1 ⟨x,H1,I1,r1,q1⟩=>?_)
 obtain ⟨c,rfl,q1⟩:=q1
 cases r1
 refine wpAny_truthy_bool ?_
 cases c with
 | true=>exact hb pins s1 σ H1 Q I1 q1
 | false=>exact ⟨.bl false,H1,I1,rfl,q1⟩
theorem wS (ha:PE X a ta):PE X (.UnaryOp .Not a pos) (tNotV ta):=by
 (try refine ⟨?_⟩); intro pins s σ H Q I h
 refine UnaryOp_ (thn (ha pins s σ H _ I h) fun v s1 ⟨x,H1,I1,r1,q1⟩=>?_)
 obtain ⟨c,rfl,q1⟩:=q1
 cases r1
 exact not_of (wpAny_truthy_bool ⟨.bl (!c),H1,I1,rfl,q1⟩)
end
def SqL (K:PySem.W.Frag) (H:Hp) (a:Addr) (xs:List V):Prop :=
 Rd H a (.lst xs) ∨
  ∃ (o:Obj) (its:Array Value) (n:Nat),K.lookup a=some o∧o.cls = .type "list" ∧ o.dict=none∧o.data = .seq its n∧its.size≤sizeLine∧aN xs its.toList
def SqT (K:PySem.W.Frag) (H:Hp) (a:Addr) (xs:List V):Prop :=
 Rd H a (.tup xs) ∨
  ∃ (o:Obj) (its:Array Value) (n:Nat),K.lookup a=some o∧o.cls = .type "tuple" ∧ o.data = .seq its n∧its.size≤sizeLine∧aN xs its.toList
def absV:Value→Option V
 | .none=>some .non
 | .bool b=>some (.bl b)
 | .int i _=>some (.int i)
 | .str x _=>some (.str x)
 | .bytes b _=>some (.byt b)
 | .float b _=>some (.flt b)
 | .ref a=>some (.ref a)
 | .type n=>some (.ty n)
 | _=>none
theorem a7.abs {x:V} {u:Value} (r:a7 x u):absV u=some x:=by
 cases x with
 | non=>cases r; rfl
 | bl _=>cases r; rfl
 | int _=>obtain ⟨t,rfl⟩:=r; rfl
 | str _=>obtain ⟨t,rfl⟩:=r; rfl
 | byt _=>obtain ⟨t,rfl⟩:=r; rfl
 | flt _=>obtain ⟨t,rfl⟩:=r; rfl
 | ref _=>cases r; rfl
 | ty _=>cases r; rfl
theorem a7.inj {x y:V} {u:Value} (r:a7 x u) (q:a7 y u):x=y:=Option.some.inj (r.abs.symm.trans q.abs)
theorem aN.inj:∀ {xs ys:List V} {us:List Value},aN xs us→aN ys us→xs=ys
 | _,_,_,.nil,.nil=>rfl
 | _,_,_,.cons r t,.cons r' t'=>by rw [r.inj r',aN.inj t t']
section
variable {X:Cx} {pins:List (Addr×Obj)} {σ:St} {H:Hp} {s:Shared} {a:Addr} {xs ys:List V}
theorem SqL.of {K:PySem.W.Frag} (h:H a=some (.lst xs)):SqL K H a xs:=.inl (.inl h)
theorem SqT.of {K:PySem.W.Frag} (h:H a=some (.tup xs)):SqT K H a xs:=.inl (.inl h)
theorem Inv.list (I:Inv X pins σ H s) (h:SqL X.K H a xs):∃ its:List Value,aN xs its∧PlainL s.heap a its.toArray∧xs.length≤sizeLine:=by
 rcases h with h | ⟨o,its,n,hk,hc,hd,hs,hz,r⟩
 ·obtain ⟨z,its,n,r,e⟩:=h.ok I.hok
  exact ⟨its,r,⟨_,n,e,rfl,rfl,rfl⟩,z⟩
 ·refine ⟨its.toList,r,⟨o,n,I.kIn a o hk,hc,hd,by simpa using hs⟩,?_⟩
  have e:=r.length
  simp only [Array.length_toList] at e
  omega
theorem Inv.tuple (I:Inv X pins σ H s) (h:SqT X.K H a xs):∃ its:List Value,aN xs its∧IsTup s.heap a its.toArray∧xs.length≤sizeLine:=by
 rcases h with h | ⟨o,its,n,hk,hc,hs,hz,r⟩
 ·obtain ⟨z,its,r,p⟩:=h.ok I.hok
  exact ⟨its,r,p,z⟩
 ·refine ⟨its.toList,r,⟨o,I.kIn a o hk,hc,n,by simpa using hs⟩,?_⟩
  have e:=r.length
  simp only [Array.length_toList] at e
  omega
theorem Inv.list_inj (I:Inv X pins σ H s) (h:SqL X.K H a xs) (h':SqL X.K H a ys):xs=ys:=by
 obtain ⟨its,r,⟨o,n,e,_,_,d⟩,_⟩:=I.list h
 obtain ⟨its',r',⟨o',n',e',_,_,d'⟩,_⟩:=I.list h'
 rw [e] at e'; cases e'
 rw [d] at d'
 injection d' with d1 _
 have:its=its':=by simpa using congrArg Array.toList d1
 subst this
 exact r.inj r'
theorem Inv.tuple_inj (I:Inv X pins σ H s) (h:SqT X.K H a xs) (h':SqT X.K H a ys):xs=ys:=by
 obtain ⟨its,r,⟨o,e,_,n,d⟩,_⟩:=I.tuple h
 obtain ⟨its',r',⟨o',e',_,n',d'⟩,_⟩:=I.tuple h'
 rw [e] at e'; cases e'
 rw [d] at d'
 injection d' with d1 _
 have:its=its':=by simpa using congrArg Array.toList d1
 subst this
 exact r.inj r'
end
abbrev Cx.wish (X:Cx) (E:Value→Shared→Prop):Cx:={ X with xe:=E }
abbrev Cx.nox (X:Cx):Cx:=X.wish fun _ _=>False
theorem Cx.Ok.wish {X:Cx} (ok:X.Ok) (E:Value→Shared→Prop):(X.wish E).Ok :=
 ⟨ok.mod,ok.kind,ok.glob,ok.blt,ok.above,ok.inj,ok.has,ok.cab,ok.hd,ok.frames,ok.stk,ok.exf,ok.bs,ok.bsz,ok.noex,ok.exfs,ok.funs,ok.frf,ok.tb⟩
theorem Cx.Ok.unwish {X:Cx} {E:Value→Shared→Prop} (ok:(X.wish E).Ok):X.Ok :=
 ⟨ok.mod,ok.kind,ok.glob,ok.blt,ok.above,ok.inj,ok.has,ok.cab,ok.hd,ok.frames,ok.stk,ok.exf,ok.bs,ok.bsz,ok.noex,ok.exfs,ok.funs,ok.frf,ok.tb⟩
section
variable {X:Cx} {pins:List (Addr×Obj)} {σ:St} {H:Hp} {s:Shared} {E:Value→Shared→Prop}
theorem Inv.wish (I:Inv X pins σ H s) (E:Value→Shared→Prop):Inv (X.wish E) pins σ H s:=⟨I.ok.wish E,I.os,I.bare,I.base,I.loc,I.cell,I.free,I.freeC,I.pin,I.hok,I.len⟩
theorem Inv.unwish (I:Inv (X.wish E) pins σ H s):Inv X pins σ H s:=⟨I.ok.unwish,I.os,I.bare,I.base,I.loc,I.cell,I.free,I.freeC,I.pin,I.hok,I.len⟩
theorem SP.unwish {D:Ends} {f:Flow} {s':Shared} (h:SP (X.wish E) pins D f s'):SP X pins D f s':=by
 cases f with
 | next=>obtain ⟨σ',H',I,q⟩:=h; exact ⟨σ',H',I.unwish,q⟩
 | brk=>obtain ⟨σ',H',I,q⟩:=h; exact ⟨σ',H',I.unwish,q⟩
 | cont=>obtain ⟨σ',H',I,q⟩:=h; exact ⟨σ',H',I.unwish,q⟩
 | ret u=>obtain ⟨v,σ',H',I,r,q⟩:=h; exact ⟨v,σ',H',I.unwish,r,q⟩
theorem PSs.nox {st:List Stmt} {t:TS} (h:PSs X.nox st t):PSs X st t:=⟨fun pins s σ H D I hw =>
 wpAny_mono (h pins s σ H D (I.wish _) hw) (fun _ _ q=>q.unwish) fun _ _ z=>False.elim z⟩
end
section
variable {X:Cx} {st:Stmt} {rest:List Stmt} {t u:TS} {e:Expr} {te:TE} {pos:Pos}
def tNext:TS:=fun D σ H=>D.nx σ H
def tSeq (t u:TS):TS:=fun D σ H=>t { D with nx:=u D } σ H
theorem su:PSs X [] tNext:=⟨fun _ _ σ H _ I h=>wpAny_execs_nil ⟨σ,H,I,h⟩⟩
theorem pv (h1:PS X st t) (h2:PSs X rest u):PSs X (st :: rest) (tSeq t u):=by
 (try refine ⟨?_⟩); intro pins s σ H D I h
 refine wpAny_execs_cons (thn (h1 pins s σ H { D with nx:=u D } I h) fun f s1 q=>?_)
 cases f with
 | next =>
  obtain ⟨σ',H',I',q⟩:=q
  exact h2 pins s1 σ' H' D I' q
 | ret v=>exact q
 | brk=>exact q
 | cont=>exact q
theorem tG (h1:PS X st t):PSs X [st] t:=by
 (try refine ⟨?_⟩); intro pins s σ H D I h
 refine wpAny_execs_cons (thn (h1 pins s σ H D I h) fun f s1 q=>?_)
 cases f with
 | next=>exact wpAny_execs_nil q
 | ret v=>exact q
 | brk=>exact q
 | cont=>exact q
theorem Inv.quiet {pins:List (Addr×Obj)} {σ:St} {H:Hp} {s:Shared} (I:Inv X pins σ H s):interactive X.env=false:=by simp [interactive,I.ok.kind]
def tDrop (te:TE):TS:=fun D σ H=>te σ H fun _ H1=>D.nx σ H1
theorem gR (he:PE X e te) (hs:swapsWith e none pos.line X.env=pure false:=by rfl):PS X (.Expr e pos) (tDrop te):=by
 (try refine ⟨?_⟩); intro pins s σ H D I h
 exact wpAny_Expr_any (thn (he pins s σ H _ I h) fun v s1 ⟨x,H1,I1,r1,q1⟩=>⟨σ,H1,I1,q1⟩) I.quiet hs
def tRet (te:TE):TS:=fun D σ H=>te σ H D.rt
theorem qq (he:PE X e te):PS X (.Return (some e) pos) (tRet te):=by
 (try refine ⟨?_⟩); intro pins s σ H D I h
 exact wpAny_Return_some (thn (he pins s σ H _ I h) fun v s1 ⟨x,H1,I1,r1,q1⟩=>⟨x,σ,H1,I1,r1,q1⟩)
def tIfS (c:TT) (t u:TS):TS:=fun D σ H=>c σ H fun b H1=>if b=true then t D σ H1 else u D σ H1
theorem ps_if {c:Expr} {a b:List Stmt} {tc:TT} (hc:PT X c tc) (ha:PSs X a t) (hb:PSs X b u):PS X (.If c a b pos) (tIfS tc t u):=by
 (try refine ⟨?_⟩); intro pins s σ H D I h
 refine wpAny_If (thn (hc pins s σ H _ I h) fun d s1 ⟨H1,I1,q1⟩=>?_)
 cases d with
 | true=>exact ha pins s1 σ H1 D I1 q1
 | false=>exact hb pins s1 σ H1 D I1 q1
def wR:TS:=fun _ _ _=>False
theorem oU:PS X st wR:=⟨fun _ _ _ _ _ _ h=>h.elim⟩
end
abbrev TG:=V→St→Hp→(St→Hp→Prop)→Prop
abbrev TGs:=List V→St→Hp→(St→Hp→Prop)→Prop
structure PG (X:Cx) (target:Expr) (t:TG):Prop where
 go:∀ (pins:List (Addr×Obj)) (s:Shared) (σ:St) (H:Hp) (v:V) (u:Value) (Q:St→Hp→Prop),Inv X pins σ H s→a7 v u→t v σ H Q →
  wpAny (model X.prog X.w) X.A (assign target X.env u) (fun _ s'=>∃ σ' H',Inv X pins σ' H' s'∧Q σ' H') X.xe s
instance {X:Cx} {target:Expr} {t:TG}:CoeFun (PG X target t) fun _=>∀ (pins:List (Addr×Obj)) (s:Shared) (σ:St) (H:Hp) (v:V) (u:Value) (Q:St→Hp→Prop),Inv X pins σ H s→a7 v u→t v σ H Q →
 wpAny (model X.prog X.w) X.A (assign target X.env u) (fun _ s'=>∃ σ' H',Inv X pins σ' H' s'∧Q σ' H') X.xe s:=⟨fun h=>h.go⟩
structure PGs (X:Cx) (ts:List Expr) (t:TGs):Prop where
 go:∀ (pins:List (Addr×Obj)) (s:Shared) (σ:St) (H:Hp) (vs:List V) (us:List Value) (Q:St→Hp→Prop),Inv X pins σ H s→aN vs us→t vs σ H Q →
  wpAny (model X.prog X.w) X.A (assignInOrder ((assignEach ts X.env).map (·.2)) us) (fun _ s'=>∃ σ' H',Inv X pins σ' H' s'∧Q σ' H') X.xe s
instance {X:Cx} {ts:List Expr} {t:TGs}:CoeFun (PGs X ts t) fun _=>∀ (pins:List (Addr×Obj)) (s:Shared) (σ:St) (H:Hp) (vs:List V) (us:List Value) (Q:St→Hp→Prop),Inv X pins σ H s→aN vs us→t vs σ H Q →
 wpAny (model X.prog X.w) X.A (assignInOrder ((assignEach ts X.env).map (·.2)) us) (fun _ s'=>∃ σ' H',Inv X pins σ' H' s'∧Q σ' H') X.xe s:=⟨fun h=>h.go⟩
abbrev p8:=V→V→V→Hp→(Hp→Prop)→Prop
def PSet (X:Cx) (t:p8):Prop :=
 ∀ (pins:List (Addr×Obj)) (s:Shared) (σ:St) (H:Hp) (o i v:V) (ov iv u:Value) (Q:Hp→Prop),Inv X pins σ H s→a7 o ov→a7 i iv→a7 v u→t o i v H Q →
  wpAny (model X.prog X.w) X.A (setItem ov iv u) (fun _ s'=>∃ H',Inv X pins σ H' s'∧Q H') X.xe s
abbrev TIp:=V→V→Hp→VK→Prop
def PIp (X:Cx) (op:Operator) (t:TIp):Prop :=
 ∀ (pins:List (Addr×Obj)) (s:Shared) (σ:St) (H:Hp) (x y:V) (v u:Value) (Q:VK),Inv X pins σ H s→a7 x v→a7 y u→t x y H Q →
  wpAny (model X.prog X.w) X.A (inplaceOp op v u) (EP X pins σ Q) X.xe s
section
variable {X:Cx} {pos:Pos}
def hU (i:Nat):TG:=fun v σ H Q=>Q (σ.set i (some v)) H
theorem aP {i:Nat} {x:Str} (hN:X.N.Nodup) (hi:X.N[i]? = some x) (hx:Loc X.env.scope x) (hf:X.fn x=true∨X.env.scope.names.lookup x=some .local:=by first | exact .inl rfl | exact .inr rfl | assumption):PG X (.Name x pos) (hU i):=by
 (try refine ⟨?_⟩); intro pins s σ H v u Q I r h
 exact wpAny_assign_Name (fW I hN hi hx r (fun s' I'=>⟨_,H,I',h⟩) hf)
def gNil:TGs:=fun vs σ H Q=>vs=[]∧Q σ H
def t4 (t:TG) (u:TGs):TGs:=fun vs σ H Q=>∃ v r,vs=v :: r∧t v σ H fun σ' H'=>u r σ' H' Q
theorem jk:PGs X [] gNil:=by
 (try refine ⟨?_⟩); intro pins s σ H vs us Q I r h
 obtain ⟨e,h⟩:=h
 subst e
 cases r
 exact assignInOrder_nil ⟨σ,H,I,h⟩
theorem eH {e:Expr} {es:List Expr} {t:TG} {u:TGs} (h1:PG X e t) (h2:PGs X es u)
 (hs:(assignEach (e :: es) X.env).map (·.2)=assign e X.env :: (assignEach es X.env).map (·.2):=by rfl):PGs X (e :: es) (t4 t u):=by
 (try refine ⟨?_⟩); intro pins s σ H vs us Q I r h
 obtain ⟨v,vr,e1,h⟩:=h
 subst e1
 cases r with
 | cons r rr =>
  rw [hs]
  refine assignInOrder_cons (thn (h1 pins s σ H _ _ _ I r h) fun _ s1 ⟨σ1,H1,I1,q1⟩=>?_)
  exact h2 pins s1 σ1 H1 _ _ Q I1 rr q1
def gTup (K:PySem.W.Frag) (n:Nat) (t:TGs):TG:=fun v σ H Q=>∃ a xs,v = .ref a∧SqT K H a xs∧xs.length=n∧t xs σ H Q
theorem li {es:List Expr} {k:Nat} {t:TGs} {n:Nat} (hc:X.calm=true) (h:PGs X es t)
 (hn:(assignEach es X.env).length=n:=by rfl) (hst:(assignEach es X.env).findIdx? (·.1)=none:=by rfl):PG X (.Tuple es k pos) (gTup X.K n t):=by
 (try refine ⟨?_⟩); intro pins s σ H v u Q I r hw
 obtain ⟨a,xs,e1,hq,hl,hw⟩:=hw
 subst e1
 cases r
 obtain ⟨its,rv,ht,hz⟩:=I.tuple hq
 refine assign_Tuple_tuple (I.ok.hd hc) ht (by simp [hn,← hl,rv.length]) hst fun h' hx=>?_
 have I1:Inv X pins σ H { s with heap:=h' }:=I.kept (t':=s.toks) fun b o e=>hx b o (Nat.ne_of_lt (Heap.lt_size e)) e
 exact h pins _ σ H xs _ Q I1 (by simpa using rv) hw
def gSub (to ti:TE) (t:p8):TG:=fun v σ H Q=>to σ H fun o H1=>ti σ H1 fun i H2=>t o i v H2 fun H3=>Q σ H3
theorem uX {o i:Expr} {to ti:TE} {t:p8} (ho:PE X o to) (hi:PE X i ti) (hs:PSet X t)
 (ha:∀ v,assign (.Subscript o i pos) X.env v=(do
  let ov ← holding [v] (eval o X.env)
  let iv ← holding [v,ov] (eval i X.env)
  standAt pos
  holding [v,ov,iv] (setItem ov iv v)
  release [v,ov,iv] []):=by intro _; rfl):PG X (.Subscript o i pos) (gSub to ti t):=by
 (try refine ⟨?_⟩); intro pins s σ H v u Q I r h
 rw [ha]
 refine wpAny_bind (wpAny_holding (thn (ho pins s σ H _ I h) fun ov s1 ⟨x,H1,I1,r1,q1⟩=>?_))
 refine wpAny_bind (wpAny_holding (thn (hi pins s1 σ H1 _ I1 q1) fun iv s2 ⟨y,H2,I2,r2,q2⟩=>?_))
 refine wpAny_bind (wpAny_standAt (wpAny_bind (wpAny_holding (thn (hs pins s2 σ H2 x y v ov iv u _ I2 r1 r2 r q2) fun _ s3 ⟨H3,I3,q3⟩=>?_))))
 exact wpAny_release ⟨σ,H3,I3,q3⟩
def qS (te:TE) (g:TG):TS:=fun D σ H=>te σ H fun x H1=>g x σ H1 D.nx
theorem lX {tg e:Expr} {te:TE} {g:TG} (he:PE X e te) (hg:PG X tg g) (hs:swapsWithSole [tg] e pos.line X.env=pure false:=by rfl) (hw:swappedStores [tg] e X.env=pure none:=by rfl)
 (h1:(assignEach [tg] X.env).map (·.2)=[assign tg X.env]:=by rfl):PS X (.Assign [tg] e pos) (qS te g):=by
 (try refine ⟨?_⟩); intro pins s σ H D I h
 refine wpAny_Assign_stores (thn (he pins s σ H _ I h) fun v s1 ⟨x,H1,I1,r1,q1⟩=>?_) hs hw
 rw [h1]
 exact thn (hg pins s1 σ H1 x v _ I1 r1 q1) fun _ s2 q=>q
theorem o_ {i:Nat} {x:Str} {e:Expr} {te:TE} {pos':Pos} (hN:X.N.Nodup) (hi:X.N[i]? = some x) (hx:Loc X.env.scope x) (he:PE X e te) (hs:swapsWith e (some (.Name x pos')) pos.line X.env=pure false:=by rfl) (hf:X.fn x=true∨X.env.scope.names.lookup x=some .local:=by first | exact .inl rfl | exact .inr rfl | assumption) :
 PS X (.Assign [.Name x pos'] e pos) (qS te (hU i)):=by
 (try refine ⟨?_⟩); intro pins s σ H D I h
 refine wpAny_Assign_Name (thn (he pins s σ H _ I h) fun v s1 ⟨y,H1,I1,r1,q1⟩=>?_) hs
 exact fW I1 hN hi hx r1 (fun s2 I2=>⟨_,H1,I2,q1⟩) hf
def tPar (i j:Nat) (ta:TA):TS:=fun D σ H=>ta σ H fun vs H1=>∃ v w,vs=[v,w]∧D.nx ((σ.set i (some v)).set j (some w)) H1
theorem vp {i j:Nat} {x y:Str} {a b:Expr} {ta:TA} {px py pt:Pos} {kt k2 pt2} (hc:X.calm=true) (hN:X.N.Nodup) (hi:X.N[i]? = some x) (hj:X.N[j]? = some y) (hij:i≠j)
 (hx:X.env.scope.names.lookup x=some .local) (hy:X.env.scope.names.lookup y=some .local) (ha:PA X [a,b] ta)
 (hw:swappedStores [.Tuple [.Name x px,.Name y py] kt pt] (.Tuple [a,b] k2 pt2) X.env=pure (some [x,y]))
 (hs:swapsWithSole [.Tuple [.Name x px,.Name y py] kt pt] (.Tuple [a,b] k2 pt2) pos.line X.env=pure false:=by rfl) :
 PS X (.Assign [.Tuple [.Name x px,.Name y py] kt pt] (.Tuple [a,b] k2 pt2) pos) (tPar i j ta):=by
 (try refine ⟨?_⟩); intro pins s σ H D I h
 rw [exec_Assign_arm]
 refine wpAny_bind (wpAny_standAt ?_)
 rw [hs]
 refine wpAny_bind (wpAny_pure ?_)
 rw [if_neg (by decide)]
 refine wpAny_bind (Tuple_ (thn (ha _ pins s σ H _ I h) fun us s1 ⟨vs,H1,I1,r1,q1⟩=>?_))
 obtain ⟨v,w,e1,q1⟩:=q1
 subst e1
 obtain ⟨u1,u2,rfl,rv,rw'⟩:∃ u1 u2,us=[u1,u2]∧a7 v u1∧a7 w u2:=by
  cases r1 with
  | cons p q =>
   cases q with
   | cons p' q' =>
    cases q'
    exact ⟨_,_,rfl,p,p'⟩
 refine wpAny_newObj_type ?_ (by show 2≤sizeLine; decide)
 have I2:Inv X pins σ H1 { s1 with heap:=s1.heap.push { cls:=.type "tuple",data:=.seq [u1,u2].toArray } }:=I1.kept (t':=s1.toks) fun b o e=>Heap.get?_push_of_some _ e
 rw [hw]
 refine wpAny_bind (wpAny_pure ?_)
 show wpAny (model X.prog X.w) X.A (do rule "assign.swapped-stores"; let items ← unpackItems (.ref s1.heap.objs.size) 2 none; assignInOrder [fun v=>bindName X.env y v,fun v=>bindName X.env x v] items.reverse; pure Flow.next) _ _ _
 refine wpAny_bind (wpAny_rule (wpAny_bind (unpackItems_tuple (items:=#[u1,u2]) (I.ok.hd hc) (IsTup.new s1.heap _) fun h' hx'=>?_)))
 have I3:=I2.kept (h':=h') (t':=s1.toks) fun b o e=>hx' b o (Nat.ne_of_lt (Heap.lt_size e)) e
 show wpAny _ _ (assignInOrder [fun v=>bindName X.env y v,fun v=>bindName X.env x v] [u2,u1] >>= fun _=>pure Flow.next) _ _ _
 refine wpAny_bind (assignInOrder_cons (wpAny_bindName (fW I3 hN hj (.inl hy) rw' (fun s2 I4=>?_) (.inr hy))))
 refine assignInOrder_cons (wpAny_bindName (fW I4 hN hi (.inl hx) rv (fun s3 I5=>assignInOrder_nil (wpAny_pure ?_)) (.inr hx)))
 rw [List.set_comm _ _ (Ne.symm hij)] at I5
 exact ⟨_,H1,I5,q1⟩
def tAugS (to ti te:TE) (tget:V→V→Hp→VK→Prop) (tip:TIp) (tset:p8):TS:=fun D σ H=>to σ H fun o H1=>ti σ H1 fun i H2=>tget o i H2 fun x H3=>te σ H3 fun y H4=>tip x y H4 fun z H5=>tset o i z H5 fun H6=>D.nx σ H6
def PGet (X:Cx) (t:V→V→Hp→VK→Prop):Prop :=
 ∀ (pins:List (Addr×Obj)) (s:Shared) (σ:St) (H:Hp) (o i:V) (ov iv:Value) (Q:VK),Inv X pins σ H s→a7 o ov→a7 i iv→t o i H Q →
  wpAny (model X.prog X.w) X.A (getItem ov iv) (EP X pins σ Q) X.xe s
theorem my {o i e:Expr} {to ti te:TE} {tget:V→V→Hp→VK→Prop} {tip:TIp} {tset:p8} {op:Operator} {tpos:Pos} (ho:PE X o to) (hi:PE X i ti) (hg:PGet X tget) (he:PE X e te) (hp:PIp X op tip) (hs:PSet X tset)
 (ha:∀ ov iv new,augStore i ov iv new=(do holding [new,ov,iv] (setItem ov iv new); release [new,ov,iv] []; pure .next):=by intros; rfl):PS X (.AugAssign (.Subscript o i tpos) op e pos) (tAugS to ti te tget tip tset):=by
 (try refine ⟨?_⟩); intro pins s σ H D I h
 refine wpAny_AugAssign_SubscriptAny (thn (ho pins s σ H _ I h) fun ov s1 ⟨x1,H1,I1,r1,q1⟩=>?_) ha
 refine thn (hi pins s1 σ H1 _ I1 q1) fun iv s2 ⟨x2,H2,I2,r2,q2⟩=>?_
 refine thn (hg pins s2 σ H2 x1 x2 ov iv _ I2 r1 r2 q2) fun old s3 ⟨x3,H3,I3,r3,q3⟩=>?_
 refine thn (he pins s3 σ H3 _ I3 q3) fun v s4 ⟨x4,H4,I4,r4,q4⟩=>?_
 refine thn (hp pins s4 σ H4 x3 x4 old v _ I4 r3 r4 q4) fun new s5 ⟨x5,H5,I5,r5,q5⟩=>?_
 exact thn (hs pins s5 σ H5 x1 x2 x5 ov iv new _ I5 r1 r2 r5 q5) fun _ s6 ⟨H6,I6,q6⟩=>⟨σ,H6,I6,q6⟩
def ipI (f:Int→Int→Int):TIp:=fun x y H Q=>∃ i j,x = .int i∧y = .int j∧Q (.int (f i j)) H
theorem wC:PIp X .Add (ipI fun i j=>i + j):=by
 (try refine ⟨?_⟩); intro pins s σ H x y v u Q I r1 r2 h
 obtain ⟨i,j,e1,e2,q⟩:=h
 subst e1; subst e2
 obtain ⟨t,rfl⟩:=r1
 obtain ⟨t',rfl⟩:=r2
 exact iadd_int ⟨.int _,H,I.tok _,⟨_,rfl⟩,q⟩
theorem uT:PIp X .Sub (ipI fun i j=>i - j):=by
 (try refine ⟨?_⟩); intro pins s σ H x y v u Q I r1 r2 h
 obtain ⟨i,j,e1,e2,q⟩:=h
 subst e1; subst e2
 obtain ⟨t,rfl⟩:=r1
 obtain ⟨t',rfl⟩:=r2
 exact isub_int ⟨.int _,H,I.tok _,⟨_,rfl⟩,q⟩
end
section
variable {X:Cx} {pos:Pos}
def vX (c:TT) (tb:TS):TS:=fun D σ H=>∃ W:Nat→St→Hp→Prop,(∃ m,W m σ H)∧∀ m σ H,W m σ H →
 c σ H fun b H1=>if b=true then ∃ N:St→Hp→Prop,(∀ σ' H',N σ' H'→∃ m',m'<m∧W m' σ' H')∧tb { D with nx:=N,ct:=N,bk:=D.nx } σ H1 else D.nx σ H1
theorem oR {c:Expr} {body:List Stmt} {tc:TT} {tb:TS} (hp:PassesOwn (model X.prog X.w) X.A X.env X.xe) (hc:PT X c tc) (hb:PSs X body tb):PS X (.While c body [] pos) (vX tc tb):=by
 (try refine ⟨?_⟩); intro pins s σ H D I h
 obtain ⟨W,⟨m0,w0⟩,turn⟩:=h
 refine wpAny_While (codeAny_whileLoop (fun n s'=>∃ σ' H',Inv X pins σ' H' s'∧W n σ' H') ?_ m0 ⟨σ,H,I,w0⟩)
 rintro n s1 ⟨σ1,H1,I1,w1⟩
 refine wpAny_passesOwn hp (thn (hc pins s1 σ1 H1 _ I1 (turn n σ1 H1 w1)) fun b s2 ⟨H2,I2,q2⟩=>?_)
 cases b with
 | true =>
  obtain ⟨N,hN,q2⟩:=q2
  rw [if_pos rfl]
  refine wpAny_passesOwn hp (thn (hb pins s2 σ1 H2 _ I2 q2) fun f s3 q3=>?_)
  cases f with
  | next =>
   obtain ⟨σ3,H3,I3,n3⟩:=q3
   obtain ⟨m',hm,w3⟩:=hN σ3 H3 n3
   exact ⟨m',hm,σ3,H3,I3,w3⟩
  | cont =>
   obtain ⟨σ3,H3,I3,n3⟩:=q3
   obtain ⟨m',hm,w3⟩:=hN σ3 H3 n3
   exact ⟨m',hm,σ3,H3,I3,w3⟩
  | brk=>exact q3
  | ret v=>exact q3
 | false =>
  rw [if_neg Bool.false_ne_true]
  exact wpAny_execs_nil ⟨σ1,H2,I2,q2⟩
end
structure It where
 go:Nat→Hp→Prop
 yld:Nat→Hp→V→Hp→Prop
 stop:Nat→Hp→Prop
def jP (X:Cx) (pins:List (Addr×Obj)) (H:Hp) (b:Addr):Prop :=
 H b=none∧b≠X.env.locals∧b ∉ X.fs∧(b∈X.ex∨X.s₀.heap.objs.size≤b)∧(∀ x c,X.env.cells.lookup x=some c→c≠b)∧∀ p∈X.pn++pins,p.1≠b
theorem Inv.fpOk {X:Cx} {pins:List (Addr×Obj)} {σ:St} {H H':Hp} {s:Shared} {b:Addr} (I:Inv X pins σ H s) (hb:s.heap.objs.size≤b) (hn:H' b=none):jP X pins H' b:=by
 refine ⟨hn,Nat.ne_of_gt (Nat.lt_of_lt_of_le I.lt hb),I.nofs hb,.inr (Nat.le_trans I.sz hb),fun x c e z=>?_,fun p hp z=>?_⟩
 ·obtain ⟨v,q⟩:=I.cell x c e
  exact absurd (Nat.lt_of_lt_of_le q.lt (by rw [z]; exact hb)) (Nat.lt_irrefl _)
 ·exact absurd (Nat.lt_of_lt_of_le (Heap.lt_size (I.pin p hp).1) (by rw [z]; exact hb)) (Nat.lt_irrefl _)
structure Turn (P:Program) (w:World) (K:PySem.W.Frag) (tg:Expr) (J:It) (fp:List Addr) (it:Addr) (tn:Nat→Heap→Prop):Prop where
 mem:it∈fp
 obj:∀ i h,tn i h→∀ b∈fp,∃ o,h.get? b=some o∧∀ v,o.data≠.cell v
 keep:∀ i h h',tn i h→(∀ b∈fp,∀ o,h.get? b=some o→h'.get? b=some o)→tn i h'
 item:∀ (X:Cx),X.prog=P→X.w=w→X.K=K→X.calm=true→∀ (i:Nat) (pins:List (Addr×Obj)) (s:Shared) (σ:St) (H:Hp) (E:Value→Shared→Prop),Inv X pins σ H s→(∀ b∈fp,jP X pins H b)→tn i s.heap→J.go i H →
  wpAny (model P w) X.A (pyNext (.ref it)) (fun r s1=>∃ u,r=some u ∧
   wpAny (model P w) X.A (letOwnedTupleGo tg (.ref it) u) (fun _ s2=>∃ x H',Inv X pins σ H' s2∧a7 x u∧J.yld i H x H'∧tn (i + 1) s2.heap∧∀ b∈fp,H' b=none) E s1) E s
 done:∀ (X:Cx),X.prog=P→X.w=w→X.K=K→X.calm=true→∀ (i:Nat) (pins:List (Addr×Obj)) (s:Shared) (σ:St) (H:Hp) (E:Value→Shared→Prop),Inv X pins σ H s→(∀ b∈fp,jP X pins H b)→tn i s.heap→J.stop i H →
  wpAny (model P w) X.A (pyNext (.ref it)) (fun r s1=>r=none∧Inv X pins σ H s1) E s
 self:∀ (A:Around) (i:Nat) (s:Shared) (Q:Value→Shared→Prop) (E:Value→Shared→Prop),tn i s.heap→Q (.ref it) s→wpAny (model P w) A (pyIter (.ref it)) Q E s
abbrev TI:=St→Hp→(It→Hp→Prop)→Prop
def PIE (X:Cx) (pins:List (Addr×Obj)) (σ:St) (tg:Expr) (R:It→Hp→Prop) (itv:Value) (s2:Shared):Prop :=
 ∃ (it:Addr) (fp:List Addr) (tn:Nat→Heap→Prop) (J:It) (H':Hp),itv = .ref it∧Inv X pins σ H' s2∧Turn X.prog X.w X.K tg J fp it tn∧tn 0 s2.heap∧(∀ b∈fp,jP X pins H' b)∧R J H'
structure PI (X:Cx) (tg iter:Expr) (wi:TI):Prop where
 go:∀ (pins:List (Addr×Obj)) (s:Shared) (σ:St) (H:Hp) (R:It→Hp→Prop),Inv X pins σ H s→wi σ H R →
  wpAny (model X.prog X.w) X.A (eval iter X.env) (fun v s1=>wpAny (model X.prog X.w) X.A (pyIter v) (PIE X pins σ tg R) X.xe s1) X.xe s
instance {X:Cx} {tg iter:Expr} {wi:TI}:CoeFun (PI X tg iter wi) fun _=>∀ (pins:List (Addr×Obj)) (s:Shared) (σ:St) (H:Hp) (R:It→Hp→Prop),Inv X pins σ H s→wi σ H R →
 wpAny (model X.prog X.w) X.A (eval iter X.env) (fun v s1=>wpAny (model X.prog X.w) X.A (pyIter v) (PIE X pins σ tg R) X.xe s1) X.xe s:=⟨fun h=>h.go⟩
theorem ni {M:Model} {A:Around} {E:Value→Shared→Prop} {s:Shared} {tg:Expr} {it:Addr} {u:Value} {o:Obj} {n:String} {vs:Array Value} {Q:Unit→Shared→Prop} (ho:s.heap.get? it=some o) (hc:o.cls = .type n) (hd:o.data = .fields vs)
 (hn : ["enumerate","zip","dict_itemiterator","dict_reverseitemiterator","odict_iterator","itertools.zip_longest","itertools.pairwise"].contains n=false) (hQ:Q () s):wpAny M A (letOwnedTupleGo tg (.ref it) u) Q E s:=by
 unfold letOwnedTupleGo
 cases tg <;> first
  | exact wpAny_pure hQ
  | (cases u <;> first
   | exact wpAny_pure hQ
   | (refine wpAny_bind (wpAny_load ho ?_)
      rw [hc,hd]
      show wpAny M A (if (["enumerate","zip","dict_itemiterator","dict_reverseitemiterator","odict_iterator","itertools.zip_longest","itertools.pairwise"].contains n&&vs[0]? == some (rawInt _))=true then _ else _) Q E s
      rw [if_neg (by intro h; rw [hn,Bool.false_and] at h; cases h)]
      exact wpAny_pure hQ))
def Itl (K:PySem.W.Frag) (a:Addr):It :=
 ⟨fun i H=>∃ xs x,SqL K H a xs∧xs[i]? = some x,fun i H x H'=>H'=H∧∀ xs,SqL K H a xs→xs[i]? = some x,fun i H=>∃ xs,SqL K H a xs∧xs.length≤i⟩
def Itt (K:PySem.W.Frag) (a:Addr):It :=
 ⟨fun i H=>∃ xs x,SqT K H a xs∧xs[i]? = some x,fun i H x H'=>H'=H∧∀ xs,SqT K H a xs→xs[i]? = some x,fun i H=>∃ xs,SqT K H a xs∧xs.length≤i⟩
def Itr (lo:Int) (n:Nat):It:=⟨fun i _=>i<n,fun i H x H'=>H'=H∧x = .int (lo + i),fun i _=>n≤i⟩
theorem oD {P:Program} {w:World} {K:PySem.W.Frag} {tg:Expr} (a it:Addr):Turn P w K tg (Itl K a) [it] it (fun i h=>h.IsListIter it a i) where
 mem:=by simp
 obj:=fun i h st b hb=>by
  have e:b=it:=by simpa using hb
  subst e
  obtain ⟨o,e,c,d⟩:=st
  exact ⟨o,e,fun v z=>by rw [d] at z; cases z⟩
 keep:=fun i h h' st k=>st.at fun o e=>k it (by simp) o e
 item:=by
  intro X hP hw hK hc i pins s σ H E I hf st hg
  subst hP hw hK
  obtain ⟨xs,x,hq,hx⟩:=hg
  obtain ⟨its,rv,p,hz⟩:=I.list hq
  obtain ⟨u,hu,ru⟩:=rv.get hx
  obtain ⟨f0,f1,f2,f3,f4,f5⟩:=hf it (by simp)
  refine wpAny_pyNext_list_item st p.isList (x:=u) (by simpa using hu) fun h' st' sb=>?_
  have I1:Inv X pins σ H { s with heap:=h' }:=I.turned (t':=s.toks) (fun b o hb e=>(sb.2 b hb).trans e) f0 f1 f3 f4 f5
  obtain ⟨o,e,c,d⟩:=id st'
  exact ⟨u,rfl,ni (s:={ s with heap:=h' }) e c d (by decide) ⟨x,H,I1,ru,⟨rfl,fun ys hy=>by rw [I.list_inj hy hq]; exact hx⟩,st',fun b hb=>(hf b hb).1⟩⟩
 done:=by
  intro X hP hw hK hc i pins s σ H E I hf st hg
  subst hP hw hK
  obtain ⟨xs,hq,hx⟩:=hg
  obtain ⟨its,rv,p,hz⟩:=I.list hq
  obtain ⟨f0,f1,f2,f3,f4,f5⟩:=hf it (by simp)
  have hl:=rv.length
  exact wpAny_pyNext_list_end (I.ok.hd hc) st p.isList (by simp; omega) fun h' eb=>⟨rfl,I.turned (t':=s.toks) (fun b o hb e=>eb b o hb e) f0 f1 f3 f4 f5⟩
 self:=fun _ _ _ _ _ st h=>wpAny_pyIter_listiter st h
theorem l4 {P:Program} {w:World} {K:PySem.W.Frag} {tg:Expr} (a it:Addr):Turn P w K tg (Itt K a) [it] it (fun i h=>h.IsTupleIter it a i) where
 mem:=by simp
 obj:=fun i h st b hb=>by
  have e:b=it:=by simpa using hb
  subst e
  obtain ⟨o,e,c,d⟩:=st
  exact ⟨o,e,fun v z=>by rw [d] at z; cases z⟩
 keep:=fun i h h' st k=>st.at fun o e=>k it (by simp) o e
 item:=by
  intro X hP hw hK hc i pins s σ H E I hf st hg
  subst hP hw hK
  obtain ⟨xs,x,hq,hx⟩:=hg
  obtain ⟨its,rv,p,hz⟩:=I.tuple hq
  obtain ⟨u,hu,ru⟩:=rv.get hx
  obtain ⟨f0,f1,f2,f3,f4,f5⟩:=hf it (by simp)
  refine wpAny_pyNext_tuple_item st (show s.heap.IsTuple a its.toArray from p) (x:=u) (by simpa using hu) fun h' st' sb=>?_
  have I1:Inv X pins σ H { s with heap:=h' }:=I.turned (t':=s.toks) (fun b o hb e=>(sb.2 b hb).trans e) f0 f1 f3 f4 f5
  obtain ⟨o,e,c,d⟩:=id st'
  exact ⟨u,rfl,ni (s:={ s with heap:=h' }) e c d (by decide) ⟨x,H,I1,ru,⟨rfl,fun ys hy=>by rw [I.tuple_inj hy hq]; exact hx⟩,st',fun b hb=>(hf b hb).1⟩⟩
 done:=by
  intro X hP hw hK hc i pins s σ H E I hf st hg
  subst hP hw hK
  obtain ⟨xs,hq,hx⟩:=hg
  obtain ⟨its,rv,p,hz⟩:=I.tuple hq
  obtain ⟨f0,f1,f2,f3,f4,f5⟩:=hf it (by simp)
  have hl:=rv.length
  exact wpAny_pyNext_tuple_end (I.ok.hd hc) st (show s.heap.IsTuple a its.toArray from p) (by simp; omega) fun h' eb=>⟨rfl,I.turned (t':=s.toks) (fun b o hb e=>eb b o hb e) f0 f1 f3 f4 f5⟩
 self:=fun _ _ _ _ _ st h=>wpAny_pyIter_tupleiter st h
theorem lm {P:Program} {w:World} {K:PySem.W.Frag} {tg:Expr} (it:Addr) (lo:Int) (n:Nat):Turn P w K tg (Itr lo n) [it] it (fun i h=>IsRangeIter h it (lo + (i:Nat) * 1) ((n:Int) - (i:Nat)) 1) where
 mem:=by simp
 obj:=fun i h st b hb=>by
  have e:b=it:=by simpa using hb
  subst e
  exact ⟨_,st,fun v z=>by
   have z':Data.fields _=Data.cell v:=z
   cases z'⟩
 keep:=fun i h h' st k=>k it (by simp) _ st
 item:=by
  intro X hP hw hK hc i pins s σ H E I hf st hg
  subst hP hw hK
  obtain ⟨f0,f1,f2,f3,f4,f5⟩:=hf it (by simp)
  have W:=Walks.range (prog:=X.prog) (w:=X.w) (I.ok.hd hc) it lo 1 n
  refine W.item i s _ _ hg st fun v h' tk hv st' kk=>?_
  obtain ⟨t,rfl⟩:=hv
  have I1:Inv X pins σ H { s with heap:=h',toks:=tk }:=I.turned (fun b o hb e=>kk b o (by simpa using hb) e) f0 f1 f3 f4 f5
  refine ⟨_,rfl,ni (s:={ s with heap:=h',toks:=tk }) (n:="range_iterator") st' rfl rfl (by decide) ⟨.int (lo + i),H,I1,⟨t,?_⟩,⟨rfl,rfl⟩,st',fun b hb=>(hf b hb).1⟩⟩
  rw [Int.mul_one]
 done:=by
  intro X hP hw hK hc i pins s σ H E I hf st hg
  subst hP hw hK
  obtain ⟨f0,f1,f2,f3,f4,f5⟩:=hf it (by simp)
  exact wpAny_pyNext_range_end (I.ok.hd hc) st (by have:n≤i:=hg; omega) fun h' eb=>⟨rfl,I.turned (t':=s.toks) (fun b o hb e=>eb b o hb e) f0 f1 f3 f4 f5⟩
 self:=fun _ _ _ _ _ st h=>wpAny_pyIter_rangeiter st h
section
variable {X:Cx} {tg:Expr}
def iList (K:PySem.W.Frag) (tl:TE):TI:=fun σ H R=>tl σ H fun x H1=>∃ a,x = .ref a∧(∃ xs,SqL K H1 a xs)∧R (Itl K a) H1
def iTup (K:PySem.W.Frag) (tl:TE):TI:=fun σ H R=>tl σ H fun x H1=>∃ a,x = .ref a∧(∃ xs,SqT K H1 a xs)∧R (Itt K a) H1
theorem tu {l:Expr} {tl:TE} (hl:PE X l tl):PI X tg l (iList X.K tl):=by
 (try refine ⟨?_⟩); intro pins s σ H R I h
 refine thn (hl pins s σ H _ I h) fun v s1 ⟨x,H1,I1,r1,q1⟩=>?_
 obtain ⟨a,e,⟨xs,hq⟩,q⟩:=q1
 subst e
 cases r1
 obtain ⟨its,rv,p,hz⟩:=I1.list hq
 refine wpAny_pyIter_list p.isList ?_
 refine ⟨s1.heap.objs.size,[s1.heap.objs.size],_,_,H1,rfl,I1.kept (t':=s1.toks) fun b o e=>Heap.get?_push_of_some _ e,oD a _,⟨_,Heap.get?_push_size _ rfl,rfl,rfl⟩,fun b hb=>?_,q⟩
 have e:b=s1.heap.objs.size:=by simpa using hb
 subst e
 exact I1.fpOk (Nat.le_refl _) (I1.hok.fresh (Nat.le_refl _))
theorem wK {l:Expr} {tl:TE} (hl:PE X l tl):PI X tg l (iTup X.K tl):=by
 (try refine ⟨?_⟩); intro pins s σ H R I h
 refine thn (hl pins s σ H _ I h) fun v s1 ⟨x,H1,I1,r1,q1⟩=>?_
 obtain ⟨a,e,⟨xs,hq⟩,q⟩:=q1
 subst e
 cases r1
 obtain ⟨its,rv,p,hz⟩:=I1.tuple hq
 refine wpAny_pyIter_tuple (show s1.heap.IsTuple a its.toArray from p) ?_
 refine ⟨s1.heap.objs.size,[s1.heap.objs.size],_,_,H1,rfl,I1.kept (t':=s1.toks) fun b o e=>Heap.get?_push_of_some _ e,l4 a _,⟨_,Heap.get?_push_size _ rfl,rfl,rfl⟩,fun b hb=>?_,q⟩
 have e:b=s1.heap.objs.size:=by simpa using hb
 subst e
 exact I1.fpOk (Nat.le_refl _) (I1.hok.fresh (Nat.le_refl _))
theorem kQ {pins:List (Addr×Obj)} {σ:St} {H:Hp} {s:Shared} {R:It→Hp→Prop} {E:Value→Shared→Prop} {lo hi:Int} {t u v:Tok} {tk:Nat} (I:Inv X pins σ H s) (h1 : -(2 ^ 62)≤lo) (h2:lo<2 ^ 62) (h3 : -(2 ^ 62)≤hi) (h4:hi<2 ^ 62)
 (q:R (Itr lo (hi - lo).toNat) H):wpAny (model X.prog X.w) X.A (pyIter (.ref s.heap.objs.size)) (PIE X pins σ tg R) E { s with heap:=s.heap.push { cls:=.type "range",data:=.fields #[.int lo t,.int hi u,.int 1 v] },toks:=tk }:=by
 refine wpAny_pyIter_range (IsRange.new ..) (small_one h1 h2 h3 h4) ?_
 have I1:Inv X pins σ H { s with heap:=s.heap.push { cls:=.type "range",data:=.fields #[.int lo t,.int hi u,.int 1 v] },toks:=tk }:=I.kept fun b o e=>Heap.get?_push_of_some _ e
 refine ⟨(s.heap.push { cls:=.type "range",data:=.fields #[.int lo t,.int hi u,.int 1 v] }).objs.size,[(s.heap.push { cls:=.type "range",data:=.fields #[.int lo t,.int hi u,.int 1 v] }).objs.size],_,_,H,rfl,
  I1.kept (t':=tk) fun b o e=>Heap.get?_push_of_some _ e,lm _ lo (hi - lo).toNat,?_,fun b hb=>?_,q⟩
 ·have e1:lo + ((0:Nat):Int) * 1=lo:=by simp
  have e2:(((hi - lo).toNat:Nat):Int) - ((0:Nat):Int)=Builtin.Range.rangeSize lo hi 1:=by rw [rangeSize_one]; split <;> omega
  show IsRangeIter _ _ (lo + ((0:Nat):Int) * 1) ((((hi - lo).toNat:Nat):Int) - ((0:Nat):Int)) 1
  rw [e1,e2]
  exact Heap.get?_push_size _ rfl
 ·have e:b=(s.heap.push { cls:=.type "range",data:=.fields #[.int lo t,.int hi u,.int 1 v] }).objs.size:=by simpa using hb
  subst e
  exact I1.fpOk (Nat.le_refl _) (I1.hok.fresh (Nat.le_refl _))
def iRng1 (ta:TA):TI:=fun σ H R=>ta σ H fun vs H1=>∃ j:Int,vs=[.int j]∧-(2 ^ 62)≤j∧j<2 ^ 62∧R (Itr 0 j.toNat) H1
def iRng2 (ta:TA):TI:=fun σ H R=>ta σ H fun vs H1=>∃ i j:Int,vs=[.int i,.int j]∧(-(2 ^ 62)≤i∧i<2 ^ 62∧-(2 ^ 62)≤j∧j<2 ^ 62)∧R (Itr i (j - i).toNat) H1
theorem oO {a:Expr} {ta:TA} {p pos:Pos} (hg:Gl X "range") (hm:X.mg "range" = none) (ha:PA X [a] ta) (hs:starEach [a] X.env=[(false,eval a X.env)]:=by rfl):PI X tg (.Call (.Name "range" p) [a] [] pos) (iRng1 ta):=by
 (try refine ⟨?_⟩); intro pins s σ H R I h
 refine Call_ (dG I hg hm boot_range (PyProof.Rows.callWith_type1 (thn (ha pos pins s σ H _ I h) fun us s1 ⟨vs,H1,I1,r1,q1⟩=>?_) hs rfl))
 obtain ⟨j,e,q1,q2,q⟩:=q1
 subst e
 cases r1 with
 | cons r rr =>
  cases rr
  obtain ⟨t,rfl⟩:=r
  exact call_range_1 (kQ I1 (by omega) (by omega) q1 q2 (by simpa using q))
theorem oe {a b:Expr} {ta:TA} {p pos:Pos} (hg:Gl X "range") (hm:X.mg "range" = none) (ha:PA X [a,b] ta) (hs:starEach [a,b] X.env=[(false,eval a X.env),(false,eval b X.env)]:=by rfl) (hs2:starEach [b] X.env=[(false,eval b X.env)]:=by rfl) :
 PI X tg (.Call (.Name "range" p) [a,b] [] pos) (iRng2 ta):=by
 (try refine ⟨?_⟩); intro pins s σ H R I h
 refine Call_ (dG I hg hm boot_range (PyProof.Rows.callWith_type1 (thn (ha pos pins s σ H _ I h) fun us s1 ⟨vs,H1,I1,r1,q1⟩=>?_) (by rw [hs,hs2]) (by rw [hs2]; rfl)))
 obtain ⟨i,j,e,⟨q1,q2,q3,q4⟩,q⟩:=q1
 subst e
 cases r1 with
 | cons r rr =>
  cases rr with
  | cons r' rr =>
   cases rr
   obtain ⟨t,rfl⟩:=r
   obtain ⟨t',rfl⟩:=r'
   exact call_range_2 (kQ I1 q1 q2 q3 q4 q)
def tFor (wi:TI) (g:TG) (tb:TS):TS:=fun D σ H=>wi σ H fun J H1=>∃ W:Nat→Nat→St→Hp→Prop,(∃ m,W 0 m σ H1)∧∀ i m σ H,W i m σ H →
 (J.stop i H∧D.nx σ H)∨(J.go i H∧∃ N:St→Hp→Prop,(∀ σ' H',N σ' H'→∃ m',m'<m∧W (i + 1) m' σ' H')∧∀ x H',J.yld i H x H'→g x σ H' fun σ2 H2=>tb { D with nx:=N,ct:=N,bk:=D.nx } σ2 H2)
def ia (fp:List Addr) (h:Heap):List (Addr×Obj):=fp.filterMap fun b=>(h.get? b).map fun o=>(b,o)
theorem cm {fp:List Addr} {h:Heap} {b:Addr} {o:Obj} (hb:b∈fp) (e:h.get? b=some o):(b,o)∈ia fp h:=List.mem_filterMap.mpr ⟨b,hb,by rw [e]; rfl⟩
theorem iT {fp:List Addr} {h:Heap} {p:Addr×Obj} (hp:p∈ia fp h):p.1∈fp∧h.get? p.1=some p.2:=by
 obtain ⟨b,hb,e⟩:=List.mem_filterMap.mp hp
 cases q:h.get? b with
 | none=>rw [q] at e; cases e
 | some o =>
  rw [q] at e
  have e':(b,o)=p:=Option.some.inj e
  subst e'
  exact ⟨hb,q⟩
theorem Inv.pinned {pins:List (Addr×Obj)} {σ:St} {H:Hp} {s:Shared} {fp:List Addr} (I:Inv X pins σ H s) (hf:∀ b∈fp,jP X pins H b) (ho:∀ b∈fp,∃ o,s.heap.get? b=some o∧∀ v,o.data≠.cell v):Inv X (pins++ia fp s.heap) σ H s :=
 I.pins_of fun p hp=>(List.mem_append.mp hp).elim (fun z=>I.pin p (List.mem_append_right _ z)) fun z=>by
  obtain ⟨hb,e⟩:=iT z
  obtain ⟨f0,f1,f2,_⟩:=hf p.1 hb
  obtain ⟨o,e',d⟩:=ho p.1 hb
  rw [e] at e'; cases e'
  exact ⟨e,f0,f1,f2,d⟩
theorem Inv.unpinned {pins pl:List (Addr×Obj)} {σ:St} {H:Hp} {s:Shared} (I:Inv X (pins++pl) σ H s):Inv X pins σ H s:=I.pins_of fun p hp=>I.pin p (List.mem_append_right _ (List.mem_append_left _ hp))
theorem uD {iter:Expr} {body:List Stmt} {wi:TI} {g:TG} {tb:TS} {pos:Pos} (hp:PassesOwn (model X.prog X.w) X.A X.env X.xe) (hc:X.calm=true) (hi:PI X tg iter wi) (hg:PG X tg g) (hb:PSs X body tb)
 (hs:∀ x,foldedSetIterable iter X.env x=pure x:=by intro _; rfl):PS X (.For tg iter body [] pos) (tFor wi g tb):=by
 (try refine ⟨?_⟩); intro pins s σ H D I h
 refine wpAny_For (thn (hi pins s σ H _ I h) fun v s1 h1=>thn h1 fun itv s2 h2=>?_) hs
 obtain ⟨it,fp,tn,J,H2,e,I2,T,st2,f2,W,⟨m0,w0⟩,turn⟩:=h2
 subst e
 -- what stays true of the iterator's objects through the loop
 have stat:∀ {H':Hp},(∀ b∈fp,H' b=none)→∀ b∈fp,jP X pins H' b:=fun hn b hb=>⟨hn b hb,(f2 b hb).2⟩
 refine codeAny_forLoop_any (fun n s'=>∃ i σ' H',Inv X pins σ' H' s'∧tn i s'.heap∧(∀ b∈fp,H' b=none)∧W i n σ' H') ?_ m0 ⟨0,σ,H2,I2,st2,fun b hb=>(f2 b hb).1,w0⟩
 rintro n s3 ⟨i,σ3,H3,I3,st3,fr3,w3⟩
 rcases turn i n σ3 H3 w3 with ⟨stop,qn⟩ | ⟨go,N,hN,step⟩
 ·refine wpAny_passesOwn hp (thn (T.done X rfl rfl rfl hc i pins s3 σ3 H3 X.xe I3 (stat fr3) st3 stop) fun r s4 ⟨hr,I4⟩=>?_)
  subst hr
  exact wpAny_execs_nil ⟨σ3,H3,I4,qn⟩
 ·refine wpAny_passesOwn hp (thn (T.item X rfl rfl rfl hc i pins s3 σ3 H3 X.xe I3 (stat fr3) st3 go) fun r s4 ⟨u,hr,h4⟩=>?_)
  subst hr
  refine wpAny_passesOwn hp (thn h4 fun _ s5 ⟨x,H5,I5,r5,y5,st5,fr5⟩=>?_)
  have I5':=I5.pinned (stat fr5) (T.obj _ _ st5)
  refine wpAny_passesOwn hp (thn (hg _ s5 σ3 H5 x u _ I5' r5 (step x H5 y5)) fun _ s6 ⟨σ6,H6,I6,q6⟩=>?_)
  refine wpAny_passesOwn hp (thn (hb _ s6 σ6 H6 _ I6 q6) fun f s7 q7=>?_)
  have again:∀ {σ7:St} {H7:Hp},Inv X (pins++ia fp s5.heap) σ7 H7 s7→N σ7 H7→∃ m,m<n∧∃ i σ' H',Inv X pins σ' H' s7∧tn i s7.heap∧(∀ b∈fp,H' b=none)∧W i m σ' H':=fun {σ7 H7} I7 n7=>by
   obtain ⟨m',hm,w7⟩:=hN σ7 H7 n7
   refine ⟨m',hm,i + 1,σ7,H7,I7.unpinned,T.keep _ _ _ st5 fun b hb o e=>(I7.pin (b,o) (List.mem_append_right _ (List.mem_append_right _ (cm hb e)))).1,fun b hb=>?_,w7⟩
   obtain ⟨o,e,d⟩:=T.obj _ _ st5 b hb
   exact (I7.pin (b,o) (List.mem_append_right _ (List.mem_append_right _ (cm hb e)))).2.1
  cases f with
  | next=>obtain ⟨σ7,H7,I7,n7⟩:=q7; exact again I7 n7
  | cont=>obtain ⟨σ7,H7,I7,n7⟩:=q7; exact again I7 n7
  | brk=>obtain ⟨σ7,H7,I7,q7⟩:=q7; exact ⟨σ7,H7,I7.unpinned,q7⟩
  | ret v=>obtain ⟨x7,σ7,H7,I7,r7,q7⟩:=q7; exact ⟨x7,σ7,H7,I7.unpinned,r7,q7⟩
end
abbrev R2:=V→V→Hp→VK→Prop
def OpR (X:Cx) (f:Value→Value→Sem Value) (r:R2):Prop :=
 ∀ (pins:List (Addr×Obj)) (s:Shared) (σ:St) (H:Hp) (x y:V) (v u:Value) (Q:VK),Inv X pins σ H s→a7 x v→a7 y u→r x y H Q →
  wpAny (model X.prog X.w) X.A (f v u) (EP X pins σ Q) X.xe s
def bT (X:Cx) (f:Value) (r:List V→Hp→VK→Prop):Prop :=
 ∀ (pins:List (Addr×Obj)) (s:Shared) (σ:St) (H:Hp) (xs:List V) (us:List Value) (Q:VK),Inv X pins σ H s→aN xs us→r xs H Q →
  wpAny (model X.prog X.w) X.A (call f us) (EP X pins σ Q) X.xe s
def tOp (r:R2) (ta tb:TE):TE:=fun σ H Q=>ta σ H fun x H1=>tb σ H1 fun y H2=>r x y H2 Q
def rI (C:Int→Int→Prop) (g:Int→Int→V):R2:=fun x y H Q=>∃ i j,x = .int i∧y = .int j∧C i j∧Q (g i j) H
def rI0 (g:Int→Int→V):R2:=fun x y H Q=>∃ i j,x = .int i∧y = .int j∧Q (g i j) H
section
variable {X:Cx} {a b c:Expr} {ta tb tc:TE} {pos:Pos}
theorem binT (ha:PE X a ta) (hb:PE X b tb) {pins:List (Addr×Obj)} {s:Shared} {σ:St} {H:Hp} {R:V→V→Hp→Prop} (I:Inv X pins σ H s)
 (h:ta σ H fun x H1=>tb σ H1 fun y H2=>R x y H2) {Q:Value→Shared→Prop} {f:Value→Value→Sem Value}
 (hf:∀ v u s2 x y H2,Inv X pins σ H2 s2→a7 x v→a7 y u→R x y H2→wpAny (model X.prog X.w) X.A (f v u) Q X.xe s2) :
 wpAny (model X.prog X.w) X.A (eval a X.env) (fun v s₁=>wpAny (model X.prog X.w) X.A (eval b X.env) (fun u s₂=>wpAny (model X.prog X.w) X.A (f v u) Q X.xe s₂) X.xe s₁) X.xe s:=by
 refine thn (ha pins s σ H _ I h) fun v s1 ⟨x,H1,I1,r1,q1⟩=>?_
 refine thn (hb pins s1 σ H1 _ I1 q1) fun u s2 ⟨y,H2,I2,r2,q2⟩=>?_
 exact hf v u s2 x y H2 I2 r1 r2 q2
theorem qd {op:Operator} {r:R2} (ho:OpR X (binaryOp op) r) (ha:PE X a ta) (hb:PE X b tb):PE X (.BinOp a op b pos) (tOp r ta tb):=by
 (try refine ⟨?_⟩); intro pins s σ H Q I h
 exact wpAny_BinOp (binT ha hb I h fun v u s2 x y H2 I2 rx ry q=>ho pins s2 σ H2 x y v u Q I2 rx ry q)
theorem opI {f:Value→Value→Sem Value} {C:Int→Int→Prop} {g:Int→Int→Int}
 (rule:∀ (i j:Int) (t u:Tok) (s:Shared) (Q:Value→Shared→Prop) (E:Value→Shared→Prop),C i j→Q (.int (g i j) s.toks) { s with toks:=s.toks + 1 }→wpAny (model X.prog X.w) X.A (f (.int i t) (.int j u)) Q E s) :
 OpR X f (rI C fun i j=>.int (g i j)):=by
 (try refine ⟨?_⟩); intro pins s σ H x y v u Q I rx ry h
 obtain ⟨i,j,rfl,rfl,hc,q⟩:=h
 obtain ⟨t,rfl⟩:=rx
 obtain ⟨t',rfl⟩:=ry
 exact rule i j t t' s _ _ hc ⟨.int (g i j),H,I.tok _,⟨_,rfl⟩,q⟩
theorem opI0 {f:Value→Value→Sem Value} {g:Int→Int→Int}
 (rule:∀ (i j:Int) (t u:Tok) (s:Shared) (Q:Value→Shared→Prop) (E:Value→Shared→Prop),Q (.int (g i j) s.toks) { s with toks:=s.toks + 1 }→wpAny (model X.prog X.w) X.A (f (.int i t) (.int j u)) Q E s) :
 OpR X f (rI0 fun i j=>.int (g i j)):=by
 (try refine ⟨?_⟩); intro pins s σ H x y v u Q I rx ry h
 obtain ⟨i,j,rfl,rfl,q⟩:=h
 obtain ⟨t,rfl⟩:=rx
 obtain ⟨t',rfl⟩:=ry
 exact rule i j t t' s _ _ ⟨.int (g i j),H,I.tok _,⟨_,rfl⟩,q⟩
theorem opB0 {f:Value→Value→Sem Value} {g:Int→Int→Bool}
 (rule:∀ (i j:Int) (t u:Tok) (s:Shared) (Q:Value→Shared→Prop) (E:Value→Shared→Prop),Q (.bool (g i j)) s→wpAny (model X.prog X.w) X.A (f (.int i t) (.int j u)) Q E s) :
 OpR X f (rI0 fun i j=>.bl (g i j)):=by
 (try refine ⟨?_⟩); intro pins s σ H x y v u Q I rx ry h
 obtain ⟨i,j,rfl,rfl,q⟩:=h
 obtain ⟨t,rfl⟩:=rx
 obtain ⟨t',rfl⟩:=ry
 exact rule i j t t' s _ _ ⟨.bl (g i j),H,I,rfl,q⟩
def CDiv (i j:Int):Prop:=0<j∧j<1073741824
def CPow (i j:Int):Prop:=0≤j∧j≤1000000∧i.natAbs<2 ^ 64
def CMul (i j:Int):Prop:=(-(2 ^ 64)<i∧i<2 ^ 64)∨(-(2 ^ 64)<j∧j<2 ^ 64)
theorem CMul.ok {i j:Int} (h:CMul i j):IntMulOk i j:=by
 rcases h with ⟨h1,h2⟩ | ⟨h1,h2⟩
 ·exact .of_left (intBits_le_64 h1 h2)
 ·exact .of_right (intBits_le_64 h1 h2)
theorem bM:OpR X (binaryOp .Add) (rI0 fun i j=>.int (i + j)):=opI0 fun _ _ _ _ _ _ _ q=>add_int q
theorem bF:OpR X (binaryOp .Sub) (rI0 fun i j=>.int (i - j)):=opI0 fun _ _ _ _ _ _ _ q=>sub_int q
theorem eu:OpR X (binaryOp .Mult) (rI CMul fun i j=>.int (i * j)):=opI fun _ _ _ _ _ _ _ hc q=>mul_int q hc.ok
theorem sQ:OpR X (binaryOp .FloorDiv) (rI CDiv fun i j=>.int (i / j)):=opI fun i j _ _ _ _ _ hc q=>by
 have h1:(0:Int)<j:=hc.1
 have h2:j<1073741824:=hc.2
 exact floordiv_int (by omega) (by rw [Int.fdiv_eq_ediv_of_nonneg i (by omega)]; exact q) (.inl (PyProof.noPylong_small (by omega)))
theorem dD:OpR X (binaryOp .Mod) (rI (fun _ j=>0<j) fun i j=>.int (i % j)):=opI fun i j _ _ _ _ _ hc q=>by
 have h1:(0:Int)<j:=hc
 exact mod_int' (by omega) (by rw [Int.fmod_eq_emod_of_nonneg i (by omega)]; exact q)
theorem fD:OpR X (binaryOp .Pow) (rI CPow fun i j=>.int (i ^ j.toNat)):=opI fun _ _ _ _ _ _ _ hc q=>pow_int_small hc.1 hc.2.1 hc.2.2 q
end
section
variable {X:Cx} {a b c:Expr} {ta tb tc:TE} {pos:Pos}
theorem uf:OpR X (compareOp .Lt) (rI0 fun i j=>.bl (decide (i<j))):=opB0 fun _ _ _ _ _ _ _ q=>lt_int q
theorem jc:OpR X (compareOp .LtE) (rI0 fun i j=>.bl (decide (i≤j))):=opB0 fun _ _ _ _ _ _ _ q=>le_int q
theorem ij:OpR X (compareOp .Gt) (rI0 fun i j=>.bl (decide (j<i))):=opB0 fun _ _ _ _ _ _ _ q=>gt_int q
theorem tU:OpR X (compareOp .GtE) (rI0 fun i j=>.bl (decide (j≤i))):=opB0 fun _ _ _ _ _ _ _ q=>ge_int q
theorem aU (b:Expr) {op:CmpOp} (h:op≠.In:=by decide) (h2:op≠.NotIn:=by decide):behindInMarks op b=false:=by
 have e1:(op == CmpOp.In)=false:=by cases op <;> first | rfl | exact absurd rfl h
 have e2:(op == CmpOp.NotIn)=false:=by cases op <;> first | rfl | exact absurd rfl h2
 cases b <;> simp [behindInMarks,e1,e2]
theorem sV {op:CmpOp} {r:R2} (ho:OpR X (compareOp op) r) (ha:PE X a ta) (hb:PE X b tb) (hm:behindInMarks op b=false):PE X (.Compare a [op] [b] pos) (tOp r ta tb):=by
 (try refine ⟨?_⟩); intro pins s σ H Q I h
 exact wpAny_Compare1 (binT ha hb I h fun v u s2 x y H2 I2 rx ry q=>ho pins s2 σ H2 x y v u Q I2 rx ry q) hm
def ur (t:TE):TT:=fun σ H Q=>t σ H fun x H'=>∃ k,x = .bl k∧Q k H'
theorem tO {op:CmpOp} {r:R2} (ho:OpR X (compareOp op) r) (ha:PE X a ta) (hb:PE X b tb) (hm:behindInMarks op b=false):PT X (.Compare a [op] [b] pos) (ur (tOp r ta tb)):=by
 (try refine ⟨?_⟩); intro pins s σ H Q I h
 refine wpAny_isTrue_Compare1 (thn (ha pins s σ H _ I h) fun v s1 ⟨x,H1,I1,r1,q1⟩=>thn (hb pins s1 σ H1 _ I1 q1) fun u s2 ⟨y,H2,I2,r2,q2⟩ =>
  thn (ho pins s2 σ H2 x y v u _ I2 r1 r2 q2) fun c s3 ⟨z,H3,I3,r3,k,e,q3⟩=>?_) hm
 subst e
 cases r3
 exact wpAny_truthy_bool ⟨H3,I3,q3⟩
def rf (r r':R2) (ta tb tc:TE):TE:=fun σ H Q=>ta σ H fun x H1=>tb σ H1 fun y H2=>r x y H2 fun z H3=>∃ k,z = .bl k ∧
 (if k=true then tc σ H3 fun w' H4=>r' y w' H4 Q else Q (.bl false) H3)
theorem o5 {op op':CmpOp} {r r':R2} (ho:OpR X (compareOp op) r) (ho':OpR X (compareOp op') r') (ha:PE X a ta) (hb:PE X b tb) (hc:PE X c tc)
 (hm:lastMarks [op,op'] [b,c]=false:=by with_unfolding_all rfl):PE X (.Compare a [op,op'] [b,c] pos) (rf r r' ta tb tc):=by
 (try refine ⟨?_⟩); intro pins s σ H Q I h
 refine Compare_chain (thn (ha pins s σ H _ I h) fun v s1 ⟨x,H1,I1,r1,q1⟩=>chain_link (thn (hb pins s1 σ H1 _ I1 q1) fun u s2 ⟨y,H2,I2,r2,q2⟩ =>
  thn (ho pins s2 σ H2 x y v u _ I2 r1 r2 q2) fun d s3 ⟨z,H3,I3,r3,k,e,q3⟩=>?_)) hm
 subst e
 cases r3
 refine wpAny_truthy_bool ?_
 cases k with
 | false=>exact ite_ff ⟨.bl false,H3,I3,rfl,q3⟩
 | true=>exact ite_tt (chain_last (thn (hc pins s3 σ H3 _ I3 q3) fun w' s4 ⟨z',H4,I4,r4,q4⟩=>ho' pins s4 σ H4 y z' u w' Q I4 r2 r4 q4))
theorem gj:(sizeLine:Nat)<2 ^ 63:=by rw [sizeLine_eq]; decide
theorem dr {x:V} {us:List Value} (r:aN [x] us):∃ u,us=[u]∧a7 x u:=by
 cases r with
 | cons r1 r2=>cases r2; exact ⟨_,rfl,r1⟩
theorem mJ {x y:V} {us:List Value} (r:aN [x,y] us):∃ u w',us=[u,w']∧a7 x u∧a7 y w':=by
 cases r with
 | cons r1 r2 =>
  cases r2 with
  | cons r3 r4=>cases r4; exact ⟨_,_,rfl,r1,r3⟩
theorem gr (hc:X.calm=true):bT X (.builtin "max") (fun xs H Q=>∃ i j,xs=[.int i,.int j]∧Q (.int (if j > i then j else i)) H):=by
 (try refine ⟨?_⟩); intro pins s σ H xs us Q I r h
 obtain ⟨i,j,rfl,q⟩:=h
 obtain ⟨u,w',rfl,⟨t,rfl⟩,⟨t',rfl⟩⟩:=mJ r
 refine max_two_ints (I.ok.hd hc) fun h' tk k=>⟨_,H,I.kept k,?_,q⟩
 by_cases hj:j > i
 ·rw [if_pos hj,if_pos hj]; exact ⟨_,rfl⟩
 ·rw [if_neg hj,if_neg hj]; exact ⟨_,rfl⟩
theorem cq (hc:X.calm=true):bT X (.builtin "min") (fun xs H Q=>∃ i j,xs=[.int i,.int j]∧Q (.int (if j<i then j else i)) H):=by
 (try refine ⟨?_⟩); intro pins s σ H xs us Q I r h
 obtain ⟨i,j,rfl,q⟩:=h
 obtain ⟨u,w',rfl,⟨t,rfl⟩,⟨t',rfl⟩⟩:=mJ r
 refine min_two_ints (I.ok.hd hc) fun h' tk k=>⟨_,H,I.kept k,?_,q⟩
 by_cases hj:j<i
 ·rw [if_pos hj,if_pos hj]; exact ⟨_,rfl⟩
 ·rw [if_neg hj,if_neg hj]; exact ⟨_,rfl⟩
end
structure ObjM (h:Heap) (x dx C:Addr) (mA:Str→Option Value):Prop where
 obj:h.get? x=some (PySem.W.instObj C dx)
 ns:h.Ns1 dx mA
 ne:dx≠x
theorem ot {h:Heap} {dx:Addr} {mA:Str→Option Value} (n:h.Ns1 dx mA):∃ od,h.get? dx=some od∧∀ name,PySem.W.lookIn name od=some (mA name):=by
 obtain ⟨o,es,ep,ho,hd,hk,_,hm⟩:=n
 refine ⟨o,ho,fun name=>?_⟩
 have e:=hm name
 unfold nsFind findBy at e
 rw [← Array.find?_toList] at e
 unfold PySem.W.lookIn
 rw [hd]
 dsimp only
 split
 ·rename_i y q
  rw [q] at e
  exact congrArg some e
 ·rename_i q
  rw [q] at e
  have a:es.toList.any (·.refKey)=false:=by
   rw [List.any_eq_false]
   intro y hy
   obtain ⟨z,t,hkey⟩:=hk y (Array.mem_toList_iff.mp hy)
   simp [DictEntry.refKey,hkey]
  have a' : ¬ es.toList.any (·.refKey)=true:=by rw [a]; exact Bool.false_ne_true
  rw [if_neg a']
  exact congrArg some e
theorem ObjM.look {h:Heap} {x dx C:Addr} {mA:Str→Option Value} (I:ObjM h x dx C mA):∃ od,PySem.W.InstAt h x (PySem.W.instObj C dx) C (some od)∧∀ name,PySem.W.lookIn name od=some (mA name) :=
 let ⟨od,ho,hl⟩:=ot I.ns
 ⟨od,⟨I.obj,rfl,rfl,ho⟩,hl⟩
section
variable {prog:Program} {w:World} {A:Around} {E:Value→Shared→Prop} {s:Shared} {K:PySem.W.Frag} {x dx C f:Addr} {mA:Str→Option Value} {name:Str} {v:Value}
end
section
variable {P:Program} {w:World} {H H':Hp} {h h':Heap} {a C dx:Addr} {fs fs':List (Str×V)}
theorem sr (hok:HOk P w H h) (e:H a=some (.ins C dx fs)):∃ mA,ObjM h a dx C mA∧(∀ f,RelO (fs.lookup f) (mA f))∧PySem.Within mA (fs.map (·.1))∧fs.length≤1000∧H dx=some (.own a):=by
 obtain ⟨d,z,ne,ob,mA,n,r,q⟩:=(show br P w H h a (.ins C dx fs) from hok a _ e)
 exact ⟨mA,⟨ob,n,ne⟩,r,q,z,d⟩
end
structure Cls (K:PySem.W.Frag) (C:Addr):Prop where
 pg:PySem.W.plainGet K C Str.empty=true
 hd:PySem.W.hasDictIn K C=true
 po:PySem.W.plainOver K C=true
 sa:PySem.W.findIn K (.ref C) "__setattr__" = some (some (.builtin "object.__setattr__"))
theorem Cls.get {K:PySem.W.Frag} {C:Addr} (c:Cls K C) (f:Str):PySem.W.plainGet K C f=true:=c.pg
section
variable {X:Cx} {pins:List (Addr×Obj)} {σ:St} {H:Hp} {s:Shared} {a C dx:Addr} {fs:List (Str×V)} {f:Str} {v:V} {A:Around} {E:Value→Shared→Prop}
end
section
variable {X:Cx} {o e value:Expr} {f:Str} {pos pos' tpos:Pos} {ta tv:TE}
end
section
variable {X:Cx} {pins:List (Addr×Obj)} {σ:St} {H:Hp} {s:Shared} {A:Around} {E:Value→Shared→Prop} {Q:Value→Shared→Prop} {c:Value} {b:Bool}
inductive TyOf (K:PySem.W.Frag) (H:Hp):V→Value→Prop where
 | non:TyOf K H .non (.type "NoneType")
 | bl (x:Bool):TyOf K H (.bl x) (.type "bool")
 | int (i:Int):TyOf K H (.int i) (.type "int")
 | str (x:Str):TyOf K H (.str x) (.type "str")
 | flt (x:UInt64):TyOf K H (.flt x) (.type "float")
 | lst {a:Addr} {xs:List V} (e:H a=some (.lst xs)):TyOf K H (.ref a) (.type "list")
 | frz {a:Addr} {o:Obj} {xs:List V} (e:H a=some (.frz o (.lst xs))):TyOf K H (.ref a) (.type "list")
 | tup {a:Addr} {xs:List V} (e:H a=some (.tup xs)):TyOf K H (.ref a) (.type "tuple")
 | dK {a:Addr} {kvs:List (Key×V)} (e:H a=some (.dK kvs)):TyOf K H (.ref a) (.type "dict")
 | dT {a:Addr} {kvs:List (List Key×V)} (e:H a=some (.dT kvs)):TyOf K H (.ref a) (.type "dict")
 | ins {a C dx:Addr} {fs:List (Str×V)} (e:H a=some (.ins C dx fs)) (cl:Cls K C) (ha:PySem.W.findIn K (.ref C) "__class__" = some (some (.builtin "object.__class__")))
  (hn:PySem.W.specialIn K (.builtin "object.__class__") "__get__" = some (some (.builtin "getset_descriptor.__get__"))) (htk:PySem.W.takesIn K (.builtin "object.__class__")=some true)
  (hm:PySem.W.mroIn K C (.type "object")=some true):TyOf K H (.ref a) (.ref C)
theorem oh {x:V} {u t:Value} (I:Inv X pins σ H s) (rx:a7 x u) (ty:TyOf X.K H x t) (e:PySem.W.kitOne X.K t c=some b) (h:∀ tk,Q (.bool b) { s with toks:=tk }) :
 wpAny (model X.prog X.w) A (call (.builtin "isinstance") [u,c]) Q E s:=by
 cases ty with
 | non=>cases (show u=Value.none from rx); exact PySem.W.kia_one PySem.W.kitx_none I.kIn True.intro e (fun z=>nomatch z) h
 | bl y=>cases (show u=Value.bool y from rx); exact PySem.W.kia_one PySem.W.kitx_bool I.kIn True.intro e (fun z=>nomatch z) h
 | int i=>obtain ⟨t,q⟩:=(show ∃ t,u=Value.int i t from rx); cases q; exact PySem.W.kia_one PySem.W.kitx_int I.kIn True.intro e (fun z=>nomatch z) h
 | str y=>obtain ⟨t,q⟩:=(show ∃ t,u=Value.str y t from rx); cases q; exact PySem.W.kia_one PySem.W.kitx_str I.kIn True.intro e (fun z=>nomatch z) h
 | flt y=>obtain ⟨t,q⟩:=(show ∃ t,u=Value.float y t from rx); cases q; exact PySem.W.kia_one PySem.W.kitx_float I.kIn True.intro e (fun z=>nomatch z) h
 | @lst a xs ea =>
  cases (show u=Value.ref a from rx)
  obtain ⟨_,_,n,_,h1⟩:=(show br X.prog X.w H s.heap a (.lst xs) from I.hok a _ ea)
  exact PySem.W.kia_one PySem.W.kitx_list I.kIn ⟨_,h1,rfl⟩ e (fun z=>nomatch z) h
 | @frz a ob xs ea =>
  cases (show u=Value.ref a from rx)
  obtain ⟨_,_,_,n,_,h1⟩:=(show br X.prog X.w H s.heap a (.frz ob (.lst xs)) from I.hok a _ ea)
  exact PySem.W.kia_one PySem.W.kitx_list I.kIn ⟨_,h1,rfl⟩ e (fun z=>nomatch z) h
 | @tup a xs ea =>
  cases (show u=Value.ref a from rx)
  obtain ⟨_,_,_,p⟩:=(show br X.prog X.w H s.heap a (.tup xs) from I.hok a _ ea)
  obtain ⟨o,h1,h2,_⟩:=p
  exact PySem.W.kia_one PySem.W.kitx_tuple I.kIn ⟨o,h1,h2⟩ e (fun z=>nomatch z) h
 | @dK a kvs ea =>
  cases (show u=Value.ref a from rx)
  obtain ⟨_,_,vs,_,p⟩:=(show br X.prog X.w H s.heap a (.dK kvs) from I.hok a _ ea)
  obtain ⟨o,es,ep,h1,h2,_⟩:=p
  exact PySem.W.kia_one PySem.W.kitx_dict I.kIn ⟨o,h1,h2.1⟩ e (fun z=>nomatch z) h
 | @dT a kvs ea =>
  cases (show u=Value.ref a from rx)
  obtain ⟨_,_,xs,_,o,es,ep,h1,h2,_⟩:=(show br X.prog X.w H s.heap a (.dT kvs) from I.hok a _ ea)
  exact PySem.W.kia_one PySem.W.kitx_dict I.kIn ⟨o,h1,h2.1⟩ e (fun z=>nomatch z) h
 | @ins a C dx fs ea cl ha hn htk hm =>
  cases (show u=Value.ref a from rx)
  obtain ⟨mA,O,_⟩:=sr I.hok ea
  obtain ⟨od,J,_⟩:=O.look
  exact PySem.W.kia_one (PySem.W.kitx_own (cl.get _) cl.hd ha hn htk hm) I.kIn J e (fun z=>nomatch z) h
end
structure Room (k:Nat) (A:Around):Prop where
 hd:A.handled=none
 dp:A.depth + 3 * k + 5<recursionLimit
 un:A.units + 16 * k + 200<cLine
 gd:A.guards=some []
theorem Room.mono {j k:Nat} {A:Around} (r:Room k A) (h:j≤k):Room j A:=⟨r.hd,by have:=r.dp; omega,by have:=r.un; omega,r.gd⟩
theorem Room.deeper {k:Nat} {A:Around} (r:Room (k + 1) A) (env:Env):Room k (A.deeper env) :=
 ⟨r.hd,by have:=r.dp; show A.depth + 1 + 3 * k + 5<_; omega,by have:=r.un; show A.units + 3 + 16 * k + 200<_; omega,r.gd⟩
theorem Room.in1 {k:Nat} {A:Around} (r:Room (k + 1) A):Room k A.in1 :=
 ⟨r.hd,by have:=r.dp; show A.depth + 3 * k + 5<_; omega,by have:=r.un; show A.units + 1 + 16 * k + 200<_; omega,r.gd⟩
theorem Room.depth {k:Nat} {A:Around} (r:Room k A):A.depth<recursionLimit:=by have:=r.dp; omega
theorem Room.units {k:Nat} {A:Around} (r:Room k A):A.units + 64<cLine:=by have:=r.un; omega
def tNil:TA:=fun _ H Q=>Q [] H
def tCons (ta:TE) (tr:TA):TA:=fun σ H Q=>ta σ H fun x H1=>tr σ H1 fun xs H2=>Q (x :: xs) H2
section
variable {X:Cx} {e:Expr} {es:List Expr} {te:TE} {t:TA} {pos:Pos}
theorem cx:PA X [] tNil:=⟨fun _ _ _ _ H Q I h=>Calls.spliced_nil ⟨[],H,I,.nil,h⟩⟩
theorem bq (ha:PE X e te) (hr:PA X es t) (hs:starEach (e :: es) X.env=(false,eval e X.env) :: starEach es X.env:=by rfl):PA X (e :: es) (tCons te t):=by
 (try refine ⟨?_⟩); intro pos pins s σ H Q I h
 rw [hs]
 show wpAny _ _ (spliced ((false,eval e X.env) :: backTo pos (starEach es X.env))) _ _ s
 refine Calls.spliced_cons (thn (ha pins s σ H _ I h) fun u s1 ⟨x,H1,I1,r1,q1⟩=>?_)
 exact thn (hr pos pins s1 σ H1 _ I1 q1) fun us s2 ⟨xs,H2,I2,r2,q2⟩=>⟨x :: xs,H2,I2,.cons r1 r2,q2⟩
def tTup (t:TA):TE:=fun σ H Q=>t σ H fun xs H1=>xs.length≤sizeLine∧∀ p,H1 p=none→Q (.ref p) (upd H1 p (.tup xs))
def tLst (t:TA):TE:=fun σ H Q=>t σ H fun xs H1=>xs.length≤sizeLine∧∀ p,H1 p=none→Q (.ref p) (upd H1 p (.lst xs))
theorem oS {x1} (h:PA X es t):PE X (.Tuple es x1 pos) (tTup t):=by
 (try refine ⟨?_⟩); intro pins s σ H Q I hq
 refine wpAny_Tuple_spliced (thn (h pos pins s σ H _ I hq) fun us s1 ⟨xs,H1,I1,r,z,q⟩=>⟨by rw [← r.length]; exact z,?_⟩)
 have hf:H1 s1.heap.objs.size=none:=I1.hok.fresh (Nat.le_refl _)
 refine ⟨.ref s1.heap.objs.size,upd H1 s1.heap.objs.size (.tup xs),I1.laid (t':=s1.toks) (fun b u e=>Heap.get?_push_of_some _ e) (Nat.le_refl _) ?_,rfl,q _ hf⟩
 exact ⟨z,us,r,⟨_,Heap.get?_push_size _ rfl,rfl,_,rfl⟩⟩
theorem pG (h:PA X es t):PE X (.List es pos) (tLst t):=by
 (try refine ⟨?_⟩); intro pins s σ H Q I hq
 refine wpAny_List_spliced (thn (h pos pins s σ H _ I hq) fun us s1 ⟨xs,H1,I1,r,z,q⟩=>⟨by rw [← r.length]; exact z,?_⟩)
 have hf:H1 s1.heap.objs.size=none:=I1.hok.fresh (Nat.le_refl _)
 refine ⟨.ref s1.heap.objs.size,upd H1 s1.heap.objs.size (.lst xs),I1.laid (t':=s1.toks) (fun b u e=>Heap.get?_push_of_some _ e) (Nat.le_refl _) ?_,rfl,q _ hf⟩
 exact ⟨z,us,0,r,Heap.get?_push_size _ rfl⟩
end
abbrev Sp:=List V→Hp→VK→XK→Prop
abbrev CXT:=List Env→Hp→Shared→XK→Value→Shared→Prop
structure Env0 (P:Program) (w:World) (K:PySem.W.Frag) (mg:Str→Option Value) (base:Heap) (A:Around) (outer:List Env) (s:Shared) (H:Hp):Prop where
 frames:A.frames=some outer
 mod:Mod K mg base
 bs:∀ b o,base.get? b=some o→s.heap.get? b=some o∧H b=none
 bsz:base.objs.size≤s.heap.objs.size
 funs:s.heap.FunFrames base outer
 frf:∀ b∈frs outer,H b=none
 hok:HOk P w H s.heap
 bare:AllBare s.gens
 tb:TbM base H
def CE (outer:List Env) (P:Program) (w:World) (H:Hp) (s:Shared) (Q:VK) (u:Value) (s':Shared):Prop :=
 ∃ v H',s'.os=s.os∧AllBare s'.gens∧Un (frs outer) [] H H' s.heap s'.heap∧HOk P w H' s'.heap∧a7 v u∧Q v H'
def CR (CX:CXT) (outer:List Env) (P:Program) (w:World) (H:Hp) (s:Shared) (Q:VK) (E:XK) (r:Result) (s':Shared):Prop :=
 match r with
 | .ok (.ret u)=>CE outer P w H s Q u s'
 | .ok _=>False
 | .error e=>CX outer H s E e s'
structure FnOk (P:Program) (w:World) (K:PySem.W.Frag) (mg:Str→Option Value) (base:Heap) (CX:CXT) (k:Nat) (f:Addr) (fd:FuncData) (ps:List Str) (sp:Sp):Prop where
 len:∀ vs H Q E,sp vs H Q E→vs.length=ps.length
 run:∀ (A:Around) (outer:List Env) (s:Shared) (H:Hp) (args:Args) (us:List Value) (vs:List V) (Q:VK) (E:XK),Room k A→Env0 P w K mg base A outer s H→BindsTo s fd args (ps.zip us)→aN vs us→sp vs H Q E →
  codeAny (model P w) A (.call (.ref f) args) (CR CX outer P w H s Q E) s
theorem FnOk.imp {P:Program} {w:World} {K:PySem.W.Frag} {mg:Str→Option Value} {base:Heap} {CX:CXT} {k:Nat} {f:Addr} {fd:FuncData} {ps:List Str} {sp sp':Sp} (F:FnOk P w K mg base CX k f fd ps sp)
 (h:∀ vs H Q E,sp' vs H Q E→sp vs H Q E):FnOk P w K mg base CX k f fd ps sp' :=
 ⟨fun vs H Q E q=>F.len vs H Q E (h _ _ _ _ q),fun A outer s H args us vs Q E hr he hb hv hs=>F.run A outer s H args us vs Q E hr he hb hv (h _ _ _ _ hs)⟩
section
variable {X:Cx} {pins:List (Addr×Obj)} {σ:St} {H:Hp} {s s':Shared}
theorem Inv.env0 (I:Inv X pins σ H s):Env0 X.prog X.w X.K X.mg X.base X.A X.stack s H :=
 ⟨I.ok.frames,I.ok.mod,I.bs,Nat.le_trans I.ok.bsz I.sz,I.stack,I.stkFree,I.hok,I.bare,I.ok.tb.un I.base⟩
theorem Inv.after {Q:VK} {u:Value} (I:Inv X pins σ H s) (h:CE X.stack X.prog X.w H s Q u s'):EP X pins σ Q u s':=by
 obtain ⟨v,H',os,bare,un,hok,r,q⟩:=h
 obtain ⟨hh,g,d,t,os'⟩:=s'
 obtain rfl:os'=s.os:=os
 exact ⟨v,H',I.call (h':=hh) (g':=g) (d':=d) (t':=t) (ch:=[]) un hok bare (fun b z=>absurd z (by simp)),r,q⟩
end
def tCall (sp:Sp) (dvs:List V) (E:XK) (t:TA):TE:=fun σ H Q=>t σ H fun vs H1=>sp (vs++dvs) H1 Q E
def gz (K:PySem.W.Frag) (fd:FuncData) (ps:List Str) (ds:List Value):Prop :=
 ∀ (s:Shared) (us:List Value),K.In s.heap→(us++ds).length=ps.length→BindsTo s fd ⟨us,[]⟩ (ps.zip (us++ds))
theorem gz.all {K:PySem.W.Frag} {fd:FuncData} {ps:List Str} (h:∀ us:List Value,us.length=ps.length→bindArgs fd ⟨us,[]⟩=pure (ps.zip us)):gz K fd ps []:=fun s us _ hl=>by
 rw [List.append_nil] at hl ⊢
 exact .of_eq (h us hl)
def lY (CX:CXT) (X:Cx) (E:XK):Prop:=∀ (pins:List (Addr×Obj)) (σ:St) (H:Hp) (s:Shared) (e:Value) (s':Shared),Inv X pins σ H s→CX X.stack H s E e s'→X.xe e s'
section
variable {X:Cx} {CX:CXT} {k:Nat} {f C:Addr} {fd:FuncData} {ps:List Str} {sp:Sp} {dvs:List V} {ds:List Value} {E:XK} {x m:Str} {p pos apos:Pos} {e o:Expr} {es:List Expr} {ta:TE} {t:TA}
theorem uQ {pins:List (Addr×Obj)} {σ:St} {H:Hp} {s:Shared} {Q:VK} {us:List Value} {vs:List V} (F:FnOk X.prog X.w X.K X.mg X.base CX k f fd ps sp) (hr:Room k X.A) (hb:gz X.K fd ps ds) (hd:aN dvs ds) (hx:lY CX X E)
 (I:Inv X pins σ H s) (r:aN vs us) (h:sp (vs++dvs) H Q E):wpAny (model X.prog X.w) X.A (call (.ref f) us) (EP X pins σ Q) X.xe s:=by
 have r2:aN (vs++dvs) (us++ds):=r.append hd
 have hl:(us++ds).length=ps.length:=by rw [← r2.length]; exact F.len _ _ _ _ h
 refine wpAny_call (codeAny_mono (F.run X.A X.stack s H ⟨us,[]⟩ (us++ds) (vs++dvs) Q E hr I.env0 (hb s us I.kIn hl) r2 h) fun r s' hq=>?_)
 cases r with
 | error e=>exact hx pins σ H s e s' I hq
 | ok fl =>
  cases fl with
  | ret u=>exact I.after hq
  | next=>exact False.elim hq
  | brk=>exact False.elim hq
  | cont=>exact False.elim hq
theorem mR (F:FnOk X.prog X.w X.K X.mg X.base CX k f fd ps sp) (hr:Room k X.A) (hg:Gl X x) (hm:X.mg x=some (.ref f)) (hk:PySem.W.keepIn X.K (.ref f)=true) (hb:gz X.K fd ps ds) (hd:aN dvs ds) (hx:lY CX X E)
 (ha:PA X (e :: es) t) (hdb:(x == ("__debug__":Str))=false:=by decide) (he:starEach (e :: es) X.env=(false,eval e X.env) :: starEach es X.env:=by rfl) (hpl:(backTo pos (starEach es X.env)).any (·.1)=false:=by rfl) :
 PE X (.Call (.Name x p) (e :: es) [] pos) (tCall sp dvs E t):=by
 (try refine ⟨?_⟩); intro pins s σ H Q I h
 refine wpAny_Call_Name_kw (l_ I hg hm ?_ hdb)
 refine PySem.W.callWith_K (h₀:=X.base) I.ok.mod.kin hk (thn (ha pos pins s σ H _ I h) fun us s1 ⟨vs,H1,I1,r,q⟩=>⟨I1.kIn,?_⟩) he hpl
 exact uQ F hr hb hd hx I1 r q
end
section
variable {X:Cx} {CX:CXT} {k:Nat} {f C:Addr} {fd:FuncData} {ps ks:List Str} {sp:Sp} {E:XK} {x m:Str} {p pos apos kpos:Pos} {e o:Expr} {es:List Expr} {kws:List Keyword} {te ta:TE} {t tk:TA} {nm:Option Str}
variable {g:List Value→List Value→List Value} {gV:List V→List V→List V}
end
structure FnScope (N P:List Str) (sc:Scope):Prop where
 kind:sc.kind = .function
 co:sc.isCoroutine=false
 gen:sc.isGenerator=false
 nd:N.Nodup
 pre:N.take P.length=P
 par:∀ x∈P,sc.names.lookup x=some .local∨sc.names.lookup x=some .cell
 nofree:∀ y∈sc.names,y.2≠.free
theorem iR {kindOf:Str→Option NameKind} {x:Str}:∀ {binds:List (Str×Value)} {m:Str→Option Value},(∀ v,(x,v) ∉ binds)→bindL kindOf binds m x=m x
 | [],_,_=>rfl
 | (n,v) :: r,m,h=>by
  unfold bindL
  rw [iR fun w hw=>h w (List.mem_cons_of_mem _ hw)]
  split
  ·have:x≠n:=by rintro rfl; exact h v List.mem_cons_self
   simp [this]
  ·rfl
theorem iV {kindOf:Str→Option NameKind} {x:Str}:∀ {binds:List (Str×Value)} {m:Str→Option Value},(∀ v,(x,v) ∉ binds)→bindC kindOf binds m x=m x
 | [],_,_=>rfl
 | (n,v) :: r,m,h=>by
  unfold bindC
  rw [iV fun w hw=>h w (List.mem_cons_of_mem _ hw)]
  split
  ·rfl
  ·have:x≠n:=by rintro rfl; exact h v List.mem_cons_self
   simp [this]
theorem i6 {kindOf:Str→Option NameKind} {x:Str} {v:Value}:∀ {P:List Str} {vs:List Value} {i:Nat} {m:Str→Option Value},P.Nodup→P[i]? = some x→vs[i]? = some v→kindOf x=some .local →
 bindL kindOf (P.zip vs) m x=some v
 | [],_,_,_,_,h,_,_=>by simp at h
 | _ :: _,[],_,_,_,_,h,_=>by simp at h
 | p :: P,w :: vs,0,m,nd,h1,h2,hk=>by
  simp at h1 h2; subst h1; subst h2
  show bindL kindOf ((p,w) :: P.zip vs) m p=_
  unfold bindL
  rw [iR fun v hv=>(List.nodup_cons.mp nd).1 (List.of_mem_zip hv).1,if_pos hk]
  simp
 | p :: P,w :: vs,i + 1,m,nd,h1,h2,hk=>by
  show bindL kindOf ((p,w) :: P.zip vs) m x=_
  unfold bindL
  exact i6 (i:=i) (List.nodup_cons.mp nd).2 (by simpa using h1) (by simpa using h2) hk
theorem iQ {kindOf:Str→Option NameKind} {x:Str} {v:Value}:∀ {P:List Str} {vs:List Value} {i:Nat} {m:Str→Option Value},P.Nodup→P[i]? = some x→vs[i]? = some v→kindOf x≠some .local →
 bindC kindOf (P.zip vs) m x=some v
 | [],_,_,_,_,h,_,_=>by simp at h
 | _ :: _,[],_,_,_,_,h,_=>by simp at h
 | p :: P,w :: vs,0,m,nd,h1,h2,hk=>by
  simp at h1 h2; subst h1; subst h2
  show bindC kindOf ((p,w) :: P.zip vs) m p=_
  unfold bindC
  rw [iV fun v hv=>(List.nodup_cons.mp nd).1 (List.of_mem_zip hv).1,if_neg hk]
  simp
 | p :: P,w :: vs,i + 1,m,nd,h1,h2,hk=>by
  show bindC kindOf ((p,w) :: P.zip vs) m x=_
  unfold bindC
  exact iQ (i:=i) (List.nodup_cons.mp nd).2 (by simpa using h1) (by simpa using h2) hk
def start (N:List Str) (vs:List V):St:=vs.map some++List.replicate (N.length - vs.length) none
def jG (CX:CXT) (P:Program) (w:World) (K:PySem.W.Frag) (mg:Str→Option Value) (base:Heap) (N:List Str) (qual:Str) (scope:Scope) (f:Addr) (cd:Value) (A:Around) (outer:List Env) (s:Shared) (H:Hp) (E:XK):Cx where
 prog:=P
 w:=w
 K:=K
 mg:=mg
 base:=base
 A:=A.deeper (envOfC qual scope s.heap.objs.size f cd)
 N:=N
 s₀:=s
 H₀:=H
 env:=envOfC qual scope s.heap.objs.size f cd
 outer:=outer
 stack:=envOfC qual scope s.heap.objs.size f cd :: outer
 ex:=[]
 calm:=true
 fn:=fun _=>true
 pn:=[]
 xe:=fun e s'=>wpAny (model P w) (A.deeper (envOfC qual scope s.heap.objs.size f cd)) (leaving (envOfC qual scope s.heap.objs.size f cd) e) (fun _ s''=>CX outer H s E e s'') (fun e' s''=>CX outer H s E e' s'') s'
theorem jT {sc:Scope} {n:Nat} {x:Str} (h:sc.names.lookup x=some .cell):∃ c,(cellsFrom n sc.names []).lookup x=some c:=by
 have q:=PySem.W.cellsFrom_some sc.names n [] (.inl h)
 exact Option.isSome_iff_exists.mp q
theorem nK {CX:CXT} {P:Program} {w:World} {K:PySem.W.Frag} {mg:Str→Option Value} {base:Heap} {N ps:List Str} {qual:Str} {scope:Scope} {f:Addr} {cd:Value} {A:Around} {outer:List Env} {s s1:Shared} {H:Hp} {E:XK} {us:List Value} {vs:List V}
 (S:FnScope N ps scope) (hd:A.handled=none) (e0:Env0 P w K mg base A outer s H) (hl:vs.length=ps.length) (r:aN vs us)
 (x:InCallC s s.heap.objs.size (bindL (envOfC qual scope s.heap.objs.size f cd).kindOf (ps.zip us) fun _=>none) (cellsFrom (s.heap.objs.size + 1) scope.names []) (bindC (envOfC qual scope s.heap.objs.size f cd).kindOf (ps.zip us) fun _=>none) s1) :
 Inv (jG CX P w K mg base N qual scope f cd A outer s H E) [] (start N vs) H s1:=by
 have hpl:ps.length≤N.length:=by have:=congrArg List.length S.pre; rw [List.length_take] at this; omega
 obtain ⟨h1,tk,rfl,hk⟩:=x.done
 have noA:∀ b:Addr,b ∉ (jG CX P w K mg base N qual scope f cd A outer s H E).ex:=fun b z=>absurd (show b∈([]:List Addr) from z) (by simp)
 refine ⟨⟨e0.mod,S.kind,rfl,rfl,Nat.le_refl _,fun y z c h1 h2=>?_,fun y hy=>?_,fun y c _ h=>?_,fun _=>hd,Around.frames_deeper e0.frames,.inr ⟨rfl,rfl⟩,fun b z=>absurd z (noA b),e0.bs,e0.bsz,fun b _ _=>noA b,fun b z=>absurd z (noA b),e0.funs,e0.frf,e0.tb⟩,
  rfl,e0.bare,Un.kept hk,⟨_,x.toInCall.ns,fun i y v h1 h2 h3=>?_⟩,fun y c h=>⟨_,x.cell y c h⟩,e0.hok.fresh (Nat.le_refl _),fun y c h=>?_,fun p hp=>absurd (show p∈([]:List (Addr×Obj)) from hp) (by simp),e0.hok.kept hk,?_⟩
 ·exact name_of_addr x.apart (PySem.mem_of_lookup h1) (PySem.mem_of_lookup h2)
 ·have hy:scope.names.lookup y=some .cell∨scope.names.lookup y=some .free:=hy
  rcases hy with hy | hy
  ·exact jT hy
  ·exact absurd rfl (S.nofree _ (PySem.mem_of_lookup hy))
 ·exact Nat.le_of_lt (x.above y c (PySem.mem_of_lookup h))
 ·have hi:i<vs.length:=by
   unfold start at h2
   by_cases hi:i<vs.length
   ·exact hi
   ·rw [List.getElem?_append_right (by simpa using hi)] at h2
    rw [List.getElem?_replicate] at h2
    split at h2 <;> cases h2
  have ha:vs[i]? = some v:=by
   unfold start at h2
   rw [List.getElem?_append_left (by simpa using hi),List.getElem?_map] at h2
   cases e:vs[i]? with
   | none=>rw [e] at h2; cases h2
   | some a=>rw [e] at h2; cases h2; rfl
  obtain ⟨u,hu,rv⟩:=r.get ha
  have hp:ps[i]? = some y:=by
   rw [← S.pre,List.getElem?_take_of_lt (by omega)]; exact h1
  have ndP:ps.Nodup:=by rw [← S.pre]; exact S.nd.sublist (List.take_sublist _ _)
  refine ⟨u,rv,?_⟩
  rcases S.par y (List.mem_of_getElem? hp) with k | k
  ·exact .inl ⟨k,i6 ndP hp hu k⟩
  ·obtain ⟨c,e⟩:=jT (n:=s.heap.objs.size + 1) k
   refine .inr ⟨.inl k,c,e,?_⟩
   have q:=x.cell y c e
   rw [iQ ndP hp hu (by show scope.names.lookup y≠_; rw [k]; decide)] at q
   exact q
 ·exact e0.hok.fresh (Nat.le_of_lt (x.above y c (PySem.mem_of_lookup h)))
 ·unfold start
  show _=N.length
  rw [List.length_append,List.length_map,List.length_replicate]
  omega
theorem uu {CX:CXT} {P:Program} {w:World} {K:PySem.W.Frag} {mg:Str→Option Value} {base:Heap} {k:Nat} {f:Addr} {name qual:Str} {params:Arguments} {body:List Stmt} {scope:Scope} {dV kV doc pm cdv ct oc:Value} {an od:Option Addr}
 {osl:Array (Option Value)} {N ps:List Str} {sp:Sp} (lk:K.lookup f=some ⟨oc,od,.func (PySem.W.fnOf name qual params body scope dV kV doc pm an cdv ct),osl⟩) (hcd:PySem.W.codeIn K cdv qual=true) (S:FnScope N ps scope)
 (len:∀ vs H Q E,sp vs H Q E→vs.length=ps.length)
 (hbody:∀ (A:Around) (outer:List Env) (s:Shared) (H:Hp) (vs:List V) (Q:VK) (E:XK),Room k (A.deeper (envOfC qual scope s.heap.objs.size f cdv))→sp vs H Q E →
  ∃ t,PSs (jG CX P w K mg base N qual scope f cdv A outer s H E) body t∧t { nx:=fun _ H'=>Q .non H',rt:=Q } (start N vs) H) :
 FnOk P w K mg base CX (k + 1) f (PySem.W.fnOf name qual params body scope dV kV doc pm an cdv ct) ps sp:=by
 refine ⟨len,fun A outer s H args us vs Q E hr e0 hb r hsp=>?_⟩
 have hl:=len _ _ _ _ hsp
 have KX:K.In s.heap:=e0.mod.kin.keeps fun b o e=>(e0.bs b o e).1
 have lim:s.heap.NoLimit:=e0.mod.nolimit.keeps fun b o e=>(e0.bs b o e).1
 have hkind:∀ y∈ps.zip us,scope.names.lookup y.1=some .local∨(scope.names.lookup y.1=some .cell∧((cellsFrom (s.heap.objs.size + 1) scope.names []).lookup y.1).isSome=true):=fun ⟨n,v⟩ hy=>by
  rcases S.par n (List.of_mem_zip hy).1 with q | q
  ·exact .inl q
  ·exact .inr ⟨q,PySem.W.cellsFrom_some _ _ _ (.inl q)⟩
 refine codeAny_call_function hr.depth (KX _ _ lk) rfl S.co S.gen rfl (PySem.W.codeRec_of KX hcd) (hb _ _ _ _ ?_)
 refine wpAny_newFunctionEnv_cells S.kind hkind fun env he s1 x=>?_
 subst he
 refine ⟨lim.keeps x.toInCall.keep,codeAny_func ?_⟩
 obtain ⟨t,ht,hq⟩:=hbody A outer s H vs Q E (hr.deeper _) hsp
 have I:Inv (jG CX P w K mg base N qual scope f cdv A outer s H E) [] (start N vs) H s1:=nK S hr.hd e0 hl r x
 refine wpAny_mono (ht [] s1 (start N vs) H _ I hq) (fun fl s' hs=>?_) fun e s' hs=>hs
 have fin:∀ {σ':St} {H':Hp} {v:V} {u:Value},Inv (jG CX P w K mg base N qual scope f cdv A outer s H E) [] σ' H' s'→a7 v u→Q v H'→CE outer P w H s Q u s' :=
  fun {σ' H' v u} J rv q=>⟨v,H',J.os,J.bare,J.base,J.hok,rv,q⟩
 cases fl with
 | ret u =>
  obtain ⟨v,σ',H',J,rv,q⟩:=hs
  exact fin J rv q
 | next =>
  obtain ⟨σ',H',J,q⟩:=hs
  exact fin (v:=V.non) (u:=Value.none) J rfl q
 | brk =>
  obtain ⟨_,_,_,q⟩:=hs
  exact False.elim q
 | cont =>
  obtain ⟨_,_,_,q⟩:=hs
  exact False.elim q
section
variable {X:Cx} {x:Str} {p pos:Pos} {e:Expr} {es:List Expr} {t:TA} {id T:String} {r:List V→Hp→VK→Prop}
def tCB (r:List V→Hp→VK→Prop) (t:TA):TE:=fun σ H Q=>t σ H fun vs H1=>r vs H1 Q
theorem fP (hc:bT X (.builtin id) r) (hg:Gl X x) (hm:X.mg x=none) (hv:bootBuiltins x=some (.builtin id)) (ha:PA X (e :: es) t) (hn:x ≠ "__name__":=by decide) (hdb:(x == ("__debug__":Str))=false:=by decide)
 (he:starEach (e :: es) X.env=(false,eval e X.env) :: starEach es X.env:=by rfl) (hpl:(backTo pos (starEach es X.env)).any (·.1)=false:=by rfl):PE X (.Call (.Name x p) (e :: es) [] pos) (tCB r t):=by
 (try refine ⟨?_⟩); intro pins s σ H Q I h
 refine wpAny_Call_Name_kw (dG I hg hm hv ?_ hn hdb)
 exact PyProof.Rows.callWith_builtin1 (thn (ha pos pins s σ H _ I h) fun us s1 ⟨vs,H1,I1,r1,q1⟩=>hc pins s1 σ H1 vs us Q I1 r1 q1) he hpl
theorem dP (hc:bT X (.type T) r) (hg:Gl X x) (hm:X.mg x=none) (hv:bootBuiltins x=some (.type T)) (ha:PA X (e :: es) t) (hn:x ≠ "__name__":=by decide) (hdb:(x == ("__debug__":Str))=false:=by decide)
 (he:starEach (e :: es) X.env=(false,eval e X.env) :: starEach es X.env:=by rfl) (hpl:(backTo pos (starEach es X.env)).any (·.1)=false:=by rfl):PE X (.Call (.Name x p) (e :: es) [] pos) (tCB r t):=by
 (try refine ⟨?_⟩); intro pins s σ H Q I h
 refine wpAny_Call_Name_kw (dG I hg hm hv ?_ hn hdb)
 exact PyProof.Rows.callWith_type1 (thn (ha pos pins s σ H _ I h) fun us s1 ⟨vs,H1,I1,r1,q1⟩=>hc pins s1 σ H1 vs us Q I1 r1 q1) he hpl
end
end L2
namespace HT
open PySem PyProof.Rows
section
open PySem.SeqAt
open PySem.AutoSeq1 (wpAny_loadPart')
open PySem.MeetsSeq PySem.MeetsSeq2 PySem.MeetsSeq3
end
section
variable {prog:Program} {w:World} {A:Around} {E:Value→Shared→Prop} {s:Shared}
def sIx (n d:Nat):Option Int→Nat
 | none=>d
 | some v=>if v<0 then (v + (n:Int)).toNat else min v.toNat n
theorem wW (n d:Nat) (hd:d≤n) (o:Option Int):sIx n d o≤n:=by
 cases o with
 | none=>exact hd
 | some v =>
  show (if v<0 then (v + (n:Int)).toNat else min v.toNat n)≤n
  by_cases hv:v<0
  ·rw [if_pos hv]; omega
  ·rw [if_neg hv]; exact Nat.min_le_right _ _
theorem na (v:Int) (n d:Nat):(if v<0 then max (v + (n:Int)) 0 else min v (n:Int))=((sIx n d (some v):Nat):Int):=by
 show (if v<0 then max (v + (n:Int)) 0 else min v (n:Int))=(((if v<0 then (v + (n:Int)).toNat else min v.toNat n):Nat):Int)
 by_cases hv:v<0
 ·simp only [if_pos hv]; omega
 ·simp only [if_neg hv]; omega
theorem lg (lo hi:Option Int) (n:Nat):Builtin.Slice.sliceAdjust lo hi 1 (n:Int)=(((sIx n 0 lo:Nat):Int),((sIx n n hi:Nat):Int)):=by
 have h1 : ¬ ((1:Int)<0):=by omega
 unfold Builtin.Slice.sliceAdjust
 simp only [h1,if_false]
 refine Prod.ext ?_ ?_
 ·cases lo with
  | none=>rfl
  | some v=>exact na v n 0
 ·cases hi with
  | none=>rfl
  | some v=>exact na v n n
theorem lO (i j:Nat):Builtin.Slice.slicePlaces (i:Int) (j:Int) 1=j - i:=by
 unfold Builtin.Slice.slicePlaces
 have h1:(1:Int) > 0:=by omega
 simp only [h1,if_true,Int.ediv_one]
 split <;> omega
theorem g7 {v:Value} {o:Option Int} {Q:Option Int→Shared→Prop} (p:IsPart v o) (h:Q o s):wpAny (model prog w) A (Builtin.Slice.slicePartIndex v) Q E s:=by
 cases p with
 | none=>exact slicePart_none h
 | int i t=>exact slicePart_int h
theorem gt {sl:Addr} {vl vu:Value} {lo hi:Option Int} {n:Nat} {Q:Int×Int×Nat→Shared→Prop} (hs:s.heap.IsSliceOf sl vl vu .none) (pl:IsPart vl lo) (pu:IsPart vu hi)
 (h:Q (((sIx n 0 lo:Nat):Int),1,sIx n n hi - sIx n 0 lo) s):wpAny (model prog w) A (Builtin.Slice.sliceApplied (.ref sl) (pure (n:Int))) Q E s:=by
 obtain ⟨os,hos,hcs,hds⟩:=id hs
 unfold Builtin.Slice.sliceApplied Builtin.Slice.sliceFields
 refine wpAny_bind (wpAny_bind (wpAny_field hos hds (x:=vl) rfl (wpAny_bind (wpAny_field hos hds (x:=vu) rfl (wpAny_bind (wpAny_field hos hds (x:=.none) rfl (wpAny_pure ?_)))))))
 refine wpAny_bind (slicePart_none ?_)
 show wpAny _ _ (if ((1:Int) == 0)=true then _ else _) _ _ s
 rw [if_neg (by decide)]
 refine wpAny_bind (g7 pl (wpAny_bind (g7 pu (wpAny_bind (wpAny_pure ?_)))))
 show wpAny _ _ (match Builtin.Slice.sliceAdjust lo hi 1 (n:Int) with | (lo,hi)=>pure (lo,(1:Int),Builtin.Slice.slicePlaces lo hi 1)) _ _ s
 rw [lg lo hi n]
 show wpAny _ _ (pure (((sIx n 0 lo:Nat):Int),(1:Int),Builtin.Slice.slicePlaces ((sIx n 0 lo:Nat):Int) ((sIx n n hi:Nat):Int) 1)) _ _ s
 rw [lO]
 exact wpAny_pure h
theorem rm (xs:Array Value) (i k:Nat):((List.range k).filterMap fun (m:Nat)=>xs[((i:Int) + (m:Int) * 1).toNat]?).toArray=((xs.toList.drop i).take k).toArray:=by
 have e:(fun (m:Nat)=>xs[((i:Int) + (m:Int) * 1).toNat]?)=fun m=>xs[i + m]?:=by
  funext m
  have:((i:Int) + (m:Int) * 1).toNat=i + m:=by omega
  rw [this]
 rw [e]
 have:=pick_run xs i k
 rw [List.filterMap_map] at this
 have e2:((fun x=>xs[x]?) ∘ fun x=>i + x)=fun m=>xs[i + m]?:=rfl
 rw [e2] at this
 rw [this]
theorem getItem_tuple_cut {t sl:Addr} {items:Array Value} {vl vu:Value} {lo hi:Option Int} {Q:Value→Shared→Prop} (ht:IsTup s.heap t items) (hs:s.heap.IsSliceOf sl vl vu .none) (pl:IsPart vl lo) (pu:IsPart vu hi)
 (hw : ¬ (sIx items.size 0 lo=0∧sIx items.size items.size hi=items.size))
 (h:Q (.ref s.heap.objs.size) { s with heap:=s.heap.push { cls:=.type "tuple",data:=.seq ((items.toList.drop (sIx items.size 0 lo)).take (sIx items.size items.size hi - sIx items.size 0 lo)).toArray } })
 (hsz:items.size≤sizeLine):wpAny (model prog w) A (getItem (.ref t) (.ref sl)) Q E s:=by
 have htake:sizeOk (.seq ((items.toList.drop (sIx items.size 0 lo)).take (sIx items.size items.size hi - sIx items.size 0 lo)).toArray):=by
  show ((items.toList.drop (sIx items.size 0 lo)).take (sIx items.size items.size hi - sIx items.size 0 lo)).toArray.size≤sizeLine
  rw [List.size_toArray,List.length_take,List.length_drop,Array.length_toList]
  omega
 have hj:sIx items.size items.size hi≤items.size:=wW _ _ (Nat.le_refl _) hi
 obtain ⟨os,hos,hcs,hds⟩:=id hs
 have hTs:s.TypeIs (.ref sl) "slice":=⟨os,hos,hcs⟩
 unfold getItem
 try with_reducible refine wpAny_holding ?_
 first | refine wpAny_bind (wpAny_pure ?_) | skip
 refine wpAny_bind (wpAny_sequenceKey ht.typeIs (by decide) ?_)
 refine wpAny_bind (wpAny_callSpecial?_slot (name:=Str.ofString "__getitem__") ht.typeIs PyProof.Rows.slot_tuple_getitem
  (wpAny_call_entry PyProof.Rows.slot_tuple_getitem ht.typeIs entry_tuple_getitem ?_ (args_tuple_getitem _ _)))
 show wpAny _ _ (Builtin.Tuple.tupleItemsOf (.ref t) >>= _) _ _ s
 refine wpAny_bind (tupleItemsOf_ ht ?_)
 refine wpAny_bind (wpAny_typeOf hTs ?_)
 rw [if_pos (by decide)]
 refine wpAny_bind (gt hs pl pu ?_)
 have hno : ¬ ((((sIx items.size 0 lo:Nat):Int) == 0&&(1:Int) == 1&&(sIx items.size items.size hi - sIx items.size 0 lo) == items.size)=true):=by
  intro q
  rw [Bool.and_eq_true,Bool.and_eq_true] at q
  have q1:((sIx items.size 0 lo:Nat):Int)=0:=eq_of_beq q.1.1
  have q2:sIx items.size items.size hi - sIx items.size 0 lo=items.size:=eq_of_beq q.2
  exact hw ⟨by omega,by omega⟩
 show wpAny _ _ (if (((sIx items.size 0 lo:Nat):Int) == 0&&(1:Int) == 1&&(sIx items.size items.size hi - sIx items.size 0 lo) == items.size)=true then _ else _) _ _ s
 rw [if_neg hno,rm]
 first
  | exact wpAny_bind (m:=Builtin.Tuple.tupleExact _) (wpAny_newObj_type (wpAny_pure ⟨_,rfl,wpAny_pure h⟩) htake)
  | exact wpAny_bind (m:=Builtin.Tuple.tupleExact _) (wpAny_newObj_type (wpAny_bind (wpAny_pure (wpAny_pure ⟨_,rfl,wpAny_pure h⟩))) htake)
  | exact wpAny_bind (wpAny_bind (m:=Builtin.Tuple.tupleExact _) (wpAny_newObj_type (wpAny_pure (wpAny_pure ⟨_,rfl,wpAny_pure h⟩)) htake))
  | exact wpAny_bind (wpAny_bind (m:=Builtin.Tuple.tupleExact _) (wpAny_newObj_type (wpAny_pure ⟨_,rfl,wpAny_pure h⟩) htake))
end
end HT
namespace L2
open PySem PySem.Spec PyProof.Rows
abbrev TO:=St→Hp→(Option Int→Hp→Prop)→Prop
structure PO (X:Cx) (e:Option Expr) (t:TO):Prop where
 go:∀ (pins:List (Addr×Obj)) (s:Shared) (σ:St) (H:Hp) (Q:Option Int→Hp→Prop),Inv X pins σ H s→t σ H Q →
  wpAny (model X.prog X.w) X.A (evalPart e X.env) (fun u s'=>∃ o H',Inv X pins σ H' s'∧IsPart u o∧Q o H') X.xe s
instance {X:Cx} {e:Option Expr} {t:TO}:CoeFun (PO X e t) fun _=>∀ (pins:List (Addr×Obj)) (s:Shared) (σ:St) (H:Hp) (Q:Option Int→Hp→Prop),Inv X pins σ H s→t σ H Q →
 wpAny (model X.prog X.w) X.A (evalPart e X.env) (fun u s'=>∃ o H',Inv X pins σ H' s'∧IsPart u o∧Q o H') X.xe s:=⟨fun h=>h.go⟩
def tJ:TO:=fun _ H Q=>Q none H
def tPart (t:TE):TO:=fun σ H Q=>t σ H fun x H1=>∃ i,x = .int i∧Q (some i) H1
theorem cY {ns:List Int}:∀ {us:List Value},aN (ns.map V.int) us→IntsAre us ns:=by
 induction ns with
 | nil=>intro us r; rw [List.map_nil] at r; cases r; exact .nil
 | cons n ns ih =>
  intro us r
  rw [List.map_cons] at r
  cases r with
  | cons r1 r2 =>
   obtain ⟨t,e⟩:=r1
   subst e
   exact .cons n t (ih r2)
section
variable {X:Cx} {e:Expr} {te:TE} {lo hi:Option Expr} {tl th:TO} {pos p2:Pos}
theorem tK:PO X none tJ:=by
 (try refine ⟨?_⟩); intro pins s σ H Q I h
 rw [evalPart_none]
 exact wpAny_pure ⟨none,H,I,.none,h⟩
theorem tS (h:PE X e te):PO X (some e) (tPart te):=by
 (try refine ⟨?_⟩); intro pins s σ H Q I hw
 rw [evalPart_some]
 refine thn (h pins s σ H _ I hw) fun u s1 ⟨x,H1,I1,r1,q1⟩=>?_
 obtain ⟨i,rfl,q⟩:=q1
 obtain ⟨t,rfl⟩:=r1
 exact ⟨some i,H1,I1,.int i t,q⟩
def SlR (X:Cx) (r:V→Option Int→Option Int→Hp→VK→Prop):Prop :=
 ∀ (pins:List (Addr×Obj)) (s:Shared) (σ:St) (H:Hp) (x:V) (v vl vu:Value) (lo hi:Option Int) (sl:Addr) (Q:VK),Inv X pins σ H s→a7 x v→s.heap.IsSliceOf sl vl vu .none→IsPart vl lo→IsPart vu hi→r x lo hi H Q →
  ∃ T id,typeLookup (.type T) "__getitem__" = pure (some (.builtin id))∧s.TypeIs v T∧wpAny (model X.prog X.w) X.A (getItem v (.ref sl)) (EP X pins σ Q) X.xe s
def tSl (r:V→Option Int→Option Int→Hp→VK→Prop) (te:TE) (tl th:TO):TE:=fun σ H Q=>te σ H fun x H1=>tl σ H1 fun l H2=>th σ H2 fun u H3=>r x l u H3 Q
theorem pB {r:V→Option Int→Option Int→Hp→VK→Prop} (hr:SlR X r) (he:PE X e te) (hl:PO X lo tl) (hu:PO X hi th):PE X (.Subscript e (.Slice lo hi none p2) pos) (tSl r te tl th):=by
 (try refine ⟨?_⟩); intro pins s σ H Q I h
 refine Subscript_ (thn (he pins s σ H _ I h) fun v s1 ⟨x,H1,I1,r1,q1⟩=>?_)
 refine wpAny_Slice (thn (hl pins s1 σ H1 _ I1 q1) fun vl s2 ⟨l,H2,I2,pl,q2⟩=>thn (hu pins s2 σ H2 _ I2 q2) fun vu s3 ⟨u,H3,I3,pu,q3⟩=>?_)
 rw [evalPart_none]
 refine wpAny_pure ?_
 have I4:Inv X pins σ H3 { s3 with heap:=s3.heap.push { cls:=.type "slice",data:=.fields #[vl,vu,.none] } }:=I3.kept (t':=s3.toks) fun b ob q=>Heap.get?_push_of_some _ q
 obtain ⟨T,id,hT,ht,hg⟩:=hr pins { s3 with heap:=s3.heap.push { cls:=.type "slice",data:=.fields #[vl,vu,.none] } } σ H3 x v vl vu l u s3.heap.objs.size Q I4 r1 (Heap.IsSliceOf.new ..) pl pu q3
 show wpAny (model X.prog X.w) X.A (subscriptTail e (.Slice lo hi none p2) v (.ref s3.heap.objs.size)) (EP X pins σ Q) X.xe { s3 with heap:=s3.heap.push { cls:=.type "slice",data:=.fields #[vl,vu,.none] } }
 exact tail_any (ops:=[.ref s3.heap.objs.size,v]) ht hT hg (by with_unfolding_all rfl)
def jr (xs:List V) (lo hi:Option Int):List V:=(xs.drop (HT.sIx xs.length 0 lo)).take (HT.sIx xs.length xs.length hi - HT.sIx xs.length 0 lo)
theorem gD (xs:List V) (lo hi:Option Int):(jr xs lo hi).length≤xs.length:=by
 unfold jr
 rw [List.length_take,List.length_drop]
 omega
def rSlT (K:PySem.W.Frag):V→Option Int→Option Int→Hp→VK→Prop:=fun x lo hi H Q=>∃ a xs,x = .ref a∧SqT K H a xs ∧
 ¬ (HT.sIx xs.length 0 lo=0∧HT.sIx xs.length xs.length hi=xs.length)∧∀ p,H p=none→Q (.ref p) (upd H p (.tup (jr xs lo hi)))
theorem uN:SlR X (rSlT X.K):=by
 (try refine ⟨?_⟩); intro pins s σ H x v vl vu lo hi sl Q I rx hs pl pu h
 obtain ⟨a,xs,rfl,hx,hw,q⟩:=h
 cases rx
 obtain ⟨its,r,ht,hz⟩:=I.tuple hx
 have hlen:its.toArray.size=xs.length:=by rw [List.size_toArray]; exact r.length.symm
 refine ⟨"tuple",_,PyProof.Rows.slot_tuple_getitem.lookup,ht.typeIs,?_⟩
 refine HT.getItem_tuple_cut ht hs pl pu (by rw [hlen]; exact hw) ?_ (by rw [hlen]; exact hz)
 rw [hlen]
 refine ⟨.ref s.heap.objs.size,_,I.laid (t':=s.toks) (o:=.tup (jr xs lo hi)) (fun b ob q=>Heap.get?_push_of_some _ q) (Nat.le_refl _) ?_,rfl,q _ (I.hok.fresh (Nat.le_refl _))⟩
 exact ⟨Nat.le_trans (gD xs lo hi) hz,_,(r.drop (HT.sIx xs.length 0 lo)).take (HT.sIx xs.length xs.length hi - HT.sIx xs.length 0 lo),IsTup.new _ _⟩
end
def ixN (n:Nat) (i:Int):Option Nat:=if 0≤i then (if i<n then some i.toNat else none) else if -(n:Int)≤i then some (i + n).toNat else none
def atI {α:Type} (xs:List α) (i:Int):Option α:=(ixN xs.length i).bind fun j=>xs[j]?
theorem gP {n:Nat} {i:Int} {j:Nat} (h:ixN n i=some j):seqIndex? i n=some j∧j<n∧-(n:Int)≤i∧i<n:=by
 unfold ixN at h
 by_cases h0 : 0≤i
 ·rw [if_pos h0] at h
  by_cases h1:i<n
  ·rw [if_pos h1] at h
   have e:i.toNat=j:=Option.some.inj h
   exact ⟨by rw [seqIndex_of h0 h1,e],by omega,by omega,h1⟩
  ·rw [if_neg h1] at h; cases h
 ·rw [if_neg h0] at h
  by_cases h1 : -(n:Int)≤i
  ·rw [if_pos h1] at h
   have e:(i + n).toNat=j:=Option.some.inj h
   exact ⟨by rw [seqIndex_neg (by omega) h1,e],by omega,h1,by omega⟩
  ·rw [if_neg h1] at h; cases h
theorem eX {α:Type} {xs:List α} {i:Int} {v : α} (h:atI xs i=some v):∃ j,seqIndex? i xs.length=some j∧xs[j]? = some v∧j<xs.length∧-(xs.length:Int)≤i∧i<xs.length:=by
 unfold atI at h
 cases e:ixN xs.length i with
 | none=>rw [e] at h; cases h
 | some j =>
  rw [e] at h
  obtain ⟨h1,h2,h3,h4⟩:=gP e
  exact ⟨j,h1,h,h2,h3,h4⟩
theorem dq {α:Type} {xs:List α} {j:Nat} {v : α} (h:xs[j]? = some v):atI xs (j:Int)=some v:=by
 have hj:j<xs.length:=(List.getElem?_eq_some_iff.mp h).1
 have e:ixN xs.length (j:Int)=some j:=by
  unfold ixN
  rw [if_pos (by omega),if_pos (by omega)]; simp
 unfold atI; rw [e]; exact h
def mZ (b:Expr):Prop:=∀ o i,subscripted b false o i=operate [o,i] (getItem o i)
def IxR (X:Cx) (r:R2):Prop :=
 ∀ (value slice:Expr) (pins:List (Addr×Obj)) (s:Shared) (σ:St) (H:Hp) (x y:V) (v u:Value) (Q:VK),Inv X pins σ H s→a7 x v→a7 y u→r x y H Q →
  subscripted slice false v u=operate [v,u] (getItem v u)→wpAny (model X.prog X.w) X.A (subscriptTail value slice v u) (EP X pins σ Q) X.xe s
def MtR (X:Cx) (id:String) (r:V→List V→Hp→VK→Prop):Prop :=
 ∀ (pins:List (Addr×Obj)) (s:Shared) (σ:St) (H:Hp) (x:V) (xs:List V) (v:Value) (us:List Value) (Q:VK),Inv X pins σ H s→a7 x v→aN xs us→r x xs H Q →
  wpAny (model X.prog X.w) X.A (call (.builtin id) (v :: us)) (EP X pins σ Q) X.xe s
section
variable {X:Cx} {a b:Expr} {ta tb:TE} {pos:Pos}
theorem IxR.or {r r':R2} (h:IxR X r) (h':IxR X r'):IxR X (fun x y H Q=>r x y H Q∨r' x y H Q):=by
 intro value slice pins s σ H x y v u Q I rx ry q hs
 rcases q with q | q
 ·exact h value slice pins s σ H x y v u Q I rx ry q hs
 ·exact h' value slice pins s σ H x y v u Q I rx ry q hs
theorem pe_ix {r:R2} (hr:IxR X r) (ha:PE X a ta) (hb:PE X b tb) (hs:mZ b):PE X (.Subscript a b pos) (tOp r ta tb):=by
 (try refine ⟨?_⟩); intro pins s σ H Q I h
 exact Subscript_ (binT ha hb I h fun v u s2 x y H2 I2 rx ry q=>hr a b pins s2 σ H2 x y v u Q I2 rx ry q (hs _ _))
def rIxL (K:PySem.W.Frag):R2:=fun x y H Q=>∃ p xs i v,x = .ref p∧y = .int i∧SqL K H p xs∧atI xs i=some v∧Q v H
def rIxT (K:PySem.W.Frag):R2:=fun x y H Q=>∃ p xs i v,x = .ref p∧y = .int i∧SqT K H p xs∧atI xs i=some v∧Q v H
def rIxS:R2:=fun x y H Q=>∃ z i c,x = .str z∧y = .int i∧z.length≤sizeLine∧atI z.cps.toList i=some c∧Q (.str ⟨#[c]⟩) H
theorem rR:IxR X (rIxL X.K):=by
 intro value slice pins s σ H x y v u Q I rx ry h hs
 obtain ⟨p,xs,i,z,rfl,rfl,hq,he,q⟩:=h
 cases rx
 obtain ⟨t,rfl⟩:=ry
 obtain ⟨its,r,pl,hz⟩:=I.list hq
 obtain ⟨j,h1,h2,h3,h4,h5⟩:=eX he
 obtain ⟨w,ew,rw'⟩:=r.get h2
 have hl:=r.length
 have hn:=gj
 have fin:EP X pins σ Q w s:=⟨z,H,I,rw',q⟩
 by_cases h0 : 0≤i
 ·have hj:i.toNat=j:=by
   rw [seqIndex_of h0 h5] at h1
   exact Option.some.inj h1
  exact item_listR pl.isList h0 (by omega) (by rw [hj]; simpa using ew) fin hs
 ·have hj:(i + (its.toArray.size:Int)).toNat=j:=by
   rw [seqIndex_neg (by omega) h4] at h1
   rw [List.size_toArray,← hl]
   exact Option.some.inj h1
  exact subscriptTail_builtinR (x:=w) pl.isList.typeIs slot_list_getitem.lookup
   (wpAny_getItem_list_neg (Q:=fun r s'=>r=w∧EP X pins σ Q r s') pl.isList (by omega) (by rw [List.size_toArray] <;> omega) (by omega) (by rw [hj]; simpa using ew) ⟨rfl,fin⟩) hs
theorem u5:IxR X (rIxT X.K):=by
 intro value slice pins s σ H x y v u Q I rx ry h hs
 obtain ⟨p,xs,i,z,rfl,rfl,hq,he,q⟩:=h
 cases rx
 obtain ⟨t,rfl⟩:=ry
 obtain ⟨its,r,pl,hz⟩:=I.tuple hq
 obtain ⟨j,h1,h2,h3,h4,h5⟩:=eX he
 obtain ⟨w,ew,rw'⟩:=r.get h2
 have hl:=r.length
 have hn:=gj
 have fin:EP X pins σ Q w s:=⟨z,H,I,rw',q⟩
 exact subscriptTail_builtinR (x:=w) pl.typeIs slot_tuple_getitem.lookup
  (getItem_tuple (j:=j) (Q:=fun r s'=>r=w∧EP X pins σ Q r s') pl (by omega) (by omega) (by rw [List.size_toArray,← hl]; exact h1) (by simpa using ew) ⟨rfl,fin⟩) hs
theorem vR:IxR X rIxS:=by
 intro value slice pins s σ H x y v u Q I rx ry h hs
 obtain ⟨z,i,c,rfl,rfl,hz,he,q⟩:=h
 obtain ⟨t,rfl⟩:=rx
 obtain ⟨t',rfl⟩:=ry
 obtain ⟨j,h1,h2,h3,h4,h5⟩:=eX he
 have hl:z.cps.toList.length=z.length:=by simp [Str.length]
 rw [hl] at h1 h4 h5
 have hn:=gj
 exact tail_any (typeIs_str s z t) slot_str_getitem.lookup (getItem_str (c:=c) (by
  have e1:decide (i < -(2 ^ 63:Int))=false:=decide_eq_false (by omega)
  have e2:decide (i ≥ 2 ^ 63)=false:=decide_eq_false (by omega)
  rw [e1,e2,Bool.or_false]) (by rw [h1]; simpa using h2) ⟨.str ⟨#[c]⟩,H,I.tok _,⟨_,rfl⟩,q⟩) hs
def rIx (K:PySem.W.Frag):R2:=fun x y H Q=>rIxL K x y H Q∨rIxT K x y H Q∨rIxS x y H Q
theorem az:IxR X (rIx X.K):=rR.or (u5.or vR)
theorem lx (its:List Value) (n j:Nat) (u:Value):Obj.mapSeq (·.setIfInBounds j u) { cls:=.type "list",data:=.seq its.toArray n } = { cls:=.type "list",data:=.seq (its.set j u).toArray n }:=by
 simp [Obj.mapSeq]
theorem Inv.lst {pins:List (Addr×Obj)} {σ:St} {H:Hp} {s:Shared} {p:Addr} {xs:List V} (I:Inv X pins σ H s) (h:H p=some (.lst xs)) :
 ∃ (its:List Value) (n:Nat),aN xs its∧s.heap.get? p=some { cls:=.type "list",data:=.seq its.toArray n }∧xs.length≤sizeLine:=by
 obtain ⟨z,its,n,r,e⟩:=I.hok p _ h
 exact ⟨its,n,r,e,z⟩
theorem Inv.lstUpd {pins:List (Addr×Obj)} {σ:St} {H:Hp} {s:Shared} {p:Addr} {xs ys:List V} {its its':List Value} {n n':Nat} {f:Obj→Obj} (I:Inv X pins σ H s) (h:H p=some (.lst xs))
 (ho:s.heap.get? p=some { cls:=.type "list",data:=.seq its.toArray n }) (hf:f { cls:=.type "list",data:=.seq its.toArray n } = { cls:=.type "list",data:=.seq its'.toArray n' }) (r:aN ys its') (hz:ys.length≤sizeLine) (t:Nat) :
 Inv X pins σ (upd H p (.lst ys)) { s with heap:=s.heap.update p f,toks:=t }:=by
 have e:(s.heap.update p f).get? p=some { cls:=.type "list",data:=.seq its'.toArray n' }:=by
  rw [Heap.get?_update_self f ho (by rw [hf] <;> rfl),hf]
 refine I.write (x:=p) (e:=p) (by rw [h]; trivial) (.inl rfl) (fun b u hb q=>(Heap.get?_update_other _ _ (Ne.symm hb)).trans q) ⟨_,e⟩ ?_
 exact ⟨hz,its',n',r,e⟩
def rSetL:V→V→V→Hp→(Hp→Prop)→Prop:=fun o i v H Q=>∃ p xs k j,o = .ref p∧i = .int k∧H p=some (.lst xs)∧ixN xs.length k=some j∧Q (upd H p (.lst (xs.set j v)))
theorem hZ:PSet X rSetL:=by
 (try refine ⟨?_⟩); intro pins s σ H o i v ov iv u Q I ro ri rv h
 obtain ⟨p,xs,k,j,rfl,rfl,hp,hj,q⟩:=h
 cases ro
 obtain ⟨t,rfl⟩:=ri
 obtain ⟨its,n,r,ho,hz⟩:=I.lst hp
 obtain ⟨h1,h2,h3,h4⟩:=gP hj
 have hl:=r.length
 have hn:=gj
 have I':Inv X pins σ (upd H p (.lst (xs.set j v))) { s with heap:=s.heap.update p (Obj.mapSeq (·.setIfInBounds j u)) } :=
  I.lstUpd hp ho (lx its n j u) (r.set rv j) (by rw [List.length_set]; exact hz) s.toks
 by_cases h0 : 0≤k
 ·have hk:k.toNat=j:=by
   rw [seqIndex_of h0 h4] at h1
   exact Option.some.inj h1
  exact PySem.W.ki_setAt ho h0 (by omega) (by rw [List.size_toArray,← hl]; exact h4) (by rw [hk]; exact ⟨_,I',q⟩)
 ·have hk:(k + (its.toArray.size:Int)).toNat=j:=by
   rw [seqIndex_neg (by omega) h3] at h1
   rw [List.size_toArray,← hl]
   exact Option.some.inj h1
  exact PySem.W.ki_setBack ho (by omega) (by rw [List.size_toArray,← hl]; exact h3) (by omega) (by rw [hk]; exact ⟨_,I',q⟩)
theorem jB (lo hi:Option Int) (n:Nat):(sliceBounds lo hi none n).1=((HT.sIx n 0 lo:Nat):Int)∧(sliceBounds lo hi none n).2.1=((HT.sIx n n hi:Nat):Int)∧(sliceBounds lo hi none n).2.2=1:=by
 refine ⟨?_,?_,rfl⟩
 ·cases lo with
  | none=>simp [sliceBounds,HT.sIx]
  | some i =>
   simp only [sliceBounds,HT.sIx,Option.getD_none,show (1:Int) > 0 by decide,if_true]
   by_cases h:i<0
   ·simp only [h,if_true] <;> omega
   ·simp only [h,if_false] <;> omega
 ·cases hi with
  | none=>simp [sliceBounds,HT.sIx]
  | some i =>
   simp only [sliceBounds,HT.sIx,Option.getD_none,show (1:Int) > 0 by decide,if_true]
   by_cases h:i<0
   ·simp only [h,if_true] <;> omega
   ·simp only [h,if_false] <;> omega
theorem iP (its:List Value) (lo hi:Option Int):slicePick its.toArray lo hi none=((its.drop (HT.sIx its.length 0 lo)).take (HT.sIx its.length its.length hi - HT.sIx its.length 0 lo)).toArray:=by
 obtain ⟨h1,h2,h3⟩:=jB lo hi its.toArray.size
 unfold slicePick
 rw [h1,h2,h3]
 simp only [sliceRange_one,pick_run,List.size_toArray] <;> rfl
def rSlL (K:PySem.W.Frag):V→Option Int→Option Int→Hp→VK→Prop:=fun x lo hi H Q=>∃ a xs,x = .ref a∧SqL K H a xs∧∀ p,H p=none→Q (.ref p) (upd H p (.lst (jr xs lo hi)))
theorem sl_list:SlR X (rSlL X.K):=by
 (try refine ⟨?_⟩); intro pins s σ H x v vl vu lo hi sl Q I rx hs pl pu h
 obtain ⟨a,xs,rfl,hx,q⟩:=h
 cases rx
 obtain ⟨its,r,ht,hz⟩:=I.list hx
 have hlen:=r.length
 refine ⟨"list",_,slot_list_getitem.lookup,ht.isList.typeIs,?_⟩
 refine wpAny_getItem_list_slice ht.isList hs pl pu .none (by simp) ?_ (by rw [List.size_toArray] <;> omega)
 rw [iP,← hlen]
 refine ⟨.ref s.heap.objs.size,_,I.laid (t':=s.toks) (o:=.lst (jr xs lo hi)) (fun b ob q=>Heap.get?_push_of_some _ q) (Nat.le_refl _) ?_,rfl,q _ (I.hok.fresh (Nat.le_refl _))⟩
 exact ⟨Nat.le_trans (gD xs lo hi) hz,_,0,(r.drop (HT.sIx xs.length 0 lo)).take (HT.sIx xs.length xs.length hi - HT.sIx xs.length 0 lo),Heap.get?_push_size _ rfl⟩
def fq:V→Bool
 | .non=>true
 | .bl _=>true
 | .int _=>true
 | .str _=>true
 | _=>false
def eqV:V→V→Bool
 | .non,.non=>true
 | .bl a,.bl b=>a == b
 | .bl a,.int b=>(if a then 1 else 0) == b
 | .int a,.bl b=>a == (if b then 1 else 0)
 | .int a,.int b=>a == b
 | .str a,.str b=>a == b
 | _,_=>false
theorem uE {A:Around} {s:Shared} {y x:V} {u v:Value} (ry:a7 y u) (rx:a7 x v) (fy:fq y=true) (fx:fq x=true):SeqAt.EqAt A s u v (eqV y x):=by
 cases y with
 | non =>
  cases ry
  cases x with
  | non=>cases rx; exact SeqAt.EqAt.same _
  | bl b=>cases rx; exact SeqAt.EqAt.none_bool b
  | int b=>obtain ⟨t,rfl⟩:=rx; exact SeqAt.EqAt.none_int b t
  | str b=>obtain ⟨t,rfl⟩:=rx; exact SeqAt.EqAt.none_str b t
  | _=>exact absurd (show false=true from fx) Bool.false_ne_true
 | bl a =>
  cases ry
  cases x with
  | non=>cases rx; exact SeqAt.EqAt.bool_none a
  | bl b=>cases rx; exact SeqAt.EqAt.bool_bool a b
  | int b=>obtain ⟨t,rfl⟩:=rx; exact SeqAt.EqAt.bool_int a b t
  | str b=>obtain ⟨t,rfl⟩:=rx; exact SeqAt.EqAt.bool_str a b t
  | _=>exact absurd (show false=true from fx) Bool.false_ne_true
 | int a =>
  obtain ⟨t',rfl⟩:=ry
  cases x with
  | non=>cases rx; exact SeqAt.EqAt.int_none a t'
  | bl b=>cases rx; exact SeqAt.EqAt.int_bool a t' b
  | int b=>obtain ⟨t,rfl⟩:=rx; exact SeqAt.EqAt.int_int a t' b t
  | str b=>obtain ⟨t,rfl⟩:=rx; exact SeqAt.EqAt.int_str a t' b t
  | _=>exact absurd (show false=true from fx) Bool.false_ne_true
 | str a =>
  obtain ⟨t',rfl⟩:=ry
  cases x with
  | non=>cases rx; exact SeqAt.EqAt.str_none a t'
  | bl b=>cases rx; exact SeqAt.EqAt.str_bool a t' b
  | int b=>obtain ⟨t,rfl⟩:=rx; exact SeqAt.EqAt.str_int a t' b t
  | str b=>obtain ⟨t,rfl⟩:=rx; exact SeqAt.EqAt.str_str a t' b t
  | _=>exact absurd (show false=true from fx) Bool.false_ne_true
 | _=>exact absurd (show false=true from fy) Bool.false_ne_true
def eqU (x:V) (u:Value):Bool:=match u with
 | .none=>eqV .non x
 | .bool b=>eqV (.bl b) x
 | .int i _=>eqV (.int i) x
 | .str z _=>eqV (.str z) x
 | _=>false
theorem pk {x y:V} {u:Value} (r:a7 y u) (f:fq y=true):eqU x u=eqV y x:=by
 cases y with
 | non=>cases r; rfl
 | bl b=>cases r; rfl
 | int i=>obtain ⟨t,rfl⟩:=r; rfl
 | str z=>obtain ⟨t,rfl⟩:=r; rfl
 | _=>exact absurd (show false=true from f) Bool.false_ne_true
theorem fS {x:V}:∀ {xs:List V} {us:List Value},aN xs us→xs.all fq=true→us.any (eqU x)=xs.any fun y=>eqV y x
 | _,_,.nil,_=>rfl
 | y :: xs,u :: us,.cons r t,f=>by
  rw [List.all_cons,Bool.and_eq_true] at f
  rw [List.any_cons,List.any_cons,pk r f.1,fS t f.2]
theorem eJ {A:Around} {s:Shared} {x:V} {v:Value} (rx:a7 x v) (fx:fq x=true):∀ {xs:List V} {us:List Value},aN xs us→xs.all fq=true→∀ u∈us,SeqAt.EqAt A s u v (eqU x u)
 | _,_,.nil,_=>fun u hu=>by cases hu
 | y :: xs,u :: us,.cons r t,f=>fun u' hu=>by
  rw [List.all_cons,Bool.and_eq_true] at f
  rcases List.mem_cons.mp hu with rfl | hu
  ·rw [pk r f.1]; exact uE r rx f.1 fx
  ·exact eJ rx fx t f.2 u' hu
def inV (x:V) (xs:List V):Bool:=xs.any fun y=>eqV y x
def rIn (K:PySem.W.Frag) (neg:Bool):R2:=fun x y H Q=>∃ p xs,y = .ref p∧(SqL K H p xs∨SqT K H p xs)∧fq x=true∧xs.all fq=true∧Q (.bl (if neg then !inV x xs else inV x xs)) H
theorem eV:OpR X (compareOp .In) (rIn X.K false):=by
 (try refine ⟨?_⟩); intro pins s σ H x y v u Q I rx ry h
 obtain ⟨p,xs,rfl,hq,fx,fs,q⟩:=h
 cases ry
 rcases hq with hq | hq
 ·obtain ⟨its,r,pl,hz⟩:=I.list hq
  refine SeqAt.in_listAt (eqU x) pl.isList (fun w hw=>eJ rx fx r fs w (by simpa using hw)) ⟨.bl _,H,I,rfl,?_⟩
  rw [show its.toArray.any (eqU x)=its.any (eqU x) by simp,fS r fs]
  exact q
 ·obtain ⟨its,r,pl,hz⟩:=I.tuple hq
  refine SeqAt.in_tupleAt (eqU x) pl (fun w hw=>eJ rx fx r fs w (by simpa using hw)) ⟨.bl _,H,I,rfl,?_⟩
  rw [show its.toArray.any (eqU x)=its.any (eqU x) by simp,fS r fs]
  exact q
theorem cR:OpR X (compareOp .NotIn) (rIn X.K true):=by
 (try refine ⟨?_⟩); intro pins s σ H x y v u Q I rx ry h
 obtain ⟨p,xs,rfl,hq,fx,fs,q⟩:=h
 cases ry
 rcases hq with hq | hq
 ·obtain ⟨its,r,pl,hz⟩:=I.list hq
  refine SeqAt.notIn_listAt (eqU x) pl.isList (fun w hw=>eJ rx fx r fs w (by simpa using hw)) ⟨.bl _,H,I,rfl,?_⟩
  rw [show its.toArray.any (eqU x)=its.any (eqU x) by simp,fS r fs]
  exact q
 ·obtain ⟨its,r,pl,hz⟩:=I.tuple hq
  refine SeqAt.notIn_tupleAt (eqU x) pl (fun w hw=>eJ rx fx r fs w (by simpa using hw)) ⟨.bl _,H,I,rfl,?_⟩
  rw [show its.toArray.any (eqU x)=its.any (eqU x) by simp,fS r fs]
  exact q
theorem aw:bT X (.builtin "len") (fun xs H Q=>∃ p ys,xs=[.ref p]∧(SqL X.K H p ys∨SqT X.K H p ys)∧Q (.int ys.length) H):=by
 (try refine ⟨?_⟩); intro pins s σ H xs us Q I r h
 obtain ⟨p,ys,rfl,hq,q⟩:=h
 obtain ⟨u,rfl,rx⟩:=dr r
 cases rx
 have hn:=gj
 rcases hq with hq | hq
 ·obtain ⟨its,r',pl,hz⟩:=I.list hq
  have hlen:=r'.length
  exact Calls.call_len_list pl.isList (by simp only [List.size_toArray] <;> omega) ⟨.int ys.length,H,I.tok _,⟨s.toks + 1,by rw [List.size_toArray,hlen]⟩,q⟩
 ·obtain ⟨its,r',pl,hz⟩:=I.tuple hq
  have hlen:=r'.length
  exact len_tuple pl (by simp only [List.size_toArray] <;> omega) ⟨.int ys.length,H,I.tok _,⟨s.toks + 1,by rw [List.size_toArray,hlen]⟩,q⟩
theorem cO:bT X (.type "list") (fun xs H Q=>∃ p ys,xs=[.ref p]∧(SqL X.K H p ys∨SqT X.K H p ys)∧∀ l,H l=none→Q (.ref l) (upd H l (.lst ys))):=by
 (try refine ⟨?_⟩); intro pins s σ H xs us Q I r h
 obtain ⟨p,ys,rfl,hq,q⟩:=h
 obtain ⟨u,rfl,rx⟩:=dr r
 cases rx
 have fin:∀ (its:List Value),aN ys its→ys.length≤sizeLine→∀ (h':Heap) (c':Nat),(∀ b o',s.heap.get? b=some o'→h'.get? b=some o') →
  h'.get? s.heap.objs.size=some { cls:=.type "list",dict:=none,data:=.seq its.toArray c',slots:=#[] }→EP X pins σ Q (.ref s.heap.objs.size) { s with heap:=h' }:=fun its r' hz h' c' kp e =>
  ⟨.ref s.heap.objs.size,_,I.laid (t':=s.toks) kp (Nat.le_refl _) (show br X.prog X.w _ h' _ (.lst ys) from ⟨hz,its,c',r',e⟩),rfl,q _ (I.hok.fresh (Nat.le_refl _))⟩
 rcases hq with hq | hq
 ·obtain ⟨its,r',pl,hz⟩:=I.list hq
  have hlen:=r'.length
  obtain ⟨o,ho,hc,n,hd⟩:=pl.isList
  exact call_list_seq p (.inl rfl) ho hc hd (fun h' c' kp e=>fin its r' hz h' c' kp e) (by simp only [List.size_toArray] <;> omega)
 ·obtain ⟨its,r',pl,hz⟩:=I.tuple hq
  have hlen:=r'.length
  obtain ⟨o,ho,hc,n,hd⟩:=pl
  exact call_list_seq p (.inr rfl) ho hc hd (fun h' c' kp e=>fin its r' hz h' c' kp e) (by simp only [List.size_toArray] <;> omega)
def tyV (K:PySem.W.Frag) (T:String) (x:V) (H:Hp):Prop:=match x with
 | .str _=>T = "str"
 | .int _=>T = "int"
 | .ref p=>(T = "list" ∧ ∃ xs,SqL K H p xs)∨(T = "tuple" ∧ ∃ o,K.lookup p=some o∧o.cls = .type "tuple" ∧ o.dict=none) ∨
  (T = "dict" ∧ ((∃ kvs,H p=some (.dK kvs))∨∃ kvs,H p=some (.dT kvs)))∨(T = "set" ∧ ∃ S n,H p=some (.set S n))
 | _=>False
theorem wM {pins:List (Addr×Obj)} {σ:St} {H:Hp} {s:Shared} {T:String} {x:V} {v:Value} (I:Inv X pins σ H s) (r:a7 x v) (ty:tyV X.K T x H) :
 s.TypeIs v T∧∀ a,v = .ref a→∃ ob,s.heap.get? a=some ob∧ob.dict=none:=by
 cases x with
 | str z =>
  obtain ⟨t,rfl⟩:=r
  cases (show T = "str" from ty)
  exact ⟨typeIs_str s z t,fun _ e=>nomatch e⟩
 | int i =>
  obtain ⟨t,rfl⟩:=r
  cases (show T = "int" from ty)
  exact ⟨typeIs_int s i t,fun _ e=>nomatch e⟩
 | ref p =>
  cases r
  rcases ty with ⟨rfl,xs,hq⟩ | ⟨rfl,o,hk,hc,hd⟩ | ⟨rfl,hk⟩ | ⟨rfl,S,n,hk⟩
  ·obtain ⟨its,_,pl,_⟩:=I.list hq
   refine ⟨pl.isList.typeIs,fun a e=>?_⟩
   cases e
   obtain ⟨o,n,e,c,hd,_⟩:=pl
   exact ⟨o,e,hd⟩
  ·refine ⟨⟨o,I.kIn p o hk,hc⟩,fun a e=>?_⟩
   cases e
   exact ⟨o,I.kIn _ o hk,hd⟩
  ·have z:∃ o,s.heap.get? p=some o∧o.ExactDict:=by
    rcases hk with ⟨kvs,hk⟩ | ⟨kvs,hk⟩
    ·obtain ⟨_,_,_,_,o,_,_,e,ex,_⟩:=I.hok p _ hk
     exact ⟨o,e,ex⟩
    ·obtain ⟨_,_,_,_,o,_,_,e,ex,_⟩:=I.hok p _ hk
     exact ⟨o,e,ex⟩
   obtain ⟨o,e,ex⟩:=z
   refine ⟨⟨o,e,ex.1⟩,fun a e2=>?_⟩
   cases e2
   exact ⟨o,e,ex.2.1⟩
  ·obtain ⟨o,_,_,_,e,ex,_⟩:=I.hok p _ hk
   refine ⟨⟨o,e,ex.1⟩,fun a e2=>?_⟩
   cases e2
   exact ⟨o,e,ex.2.1⟩
 | _=>exact False.elim ty
def tBM (K:PySem.W.Frag) (T:String) (r:V→List V→Hp→VK→Prop) (to:TE) (t:TA):TE:=fun σ H Q=>to σ H fun x H1=>tyV K T x H1∧t σ H1 fun xs H2=>r x xs H2 Q
variable {o e:Expr} {es:List Expr} {to:TE} {t:TA} {name:Str} {apos cpos:Pos} {T id:String} {r:V→List V→Hp→VK→Prop}
theorem nj (pa:PlainAttrs T) (slot:Slot T name id) (hty:typeOf (.builtin id)=pure (.type "method_descriptor")) (hm:MtR X id r) (ho:PE X o to) (ha:PA X (e :: es) t)
 (hbase:attributeBase o name X.env (eval o X.env)=eval o X.env:=by rfl)
 (hfew:((backTo cpos (starEach (e :: es) X.env)).all (fun x=>!x.1)&&(backToKw cpos (keywordEach [] X.env)).all (fun x=>x.1.isSome)
  && decide ((e :: es).length + ([]:List Keyword).length + (if ([]:List Keyword).isEmpty then 0 else 1)<30))=true:=by rfl)
 (hline:(apos.endLine == cpos.line)=true:=by rfl) (hs:starEach (e :: es) X.env=(false,eval e X.env) :: starEach es X.env:=by rfl) (hplain:(backTo cpos (starEach es X.env)).any (·.1)=false:=by rfl) :
 PE X (.Call (.Attribute o name apos) (e :: es) [] cpos) (tBM X.K T r to t):=by
 (try refine ⟨?_⟩); intro pins s σ H Q I h
 refine wpAny_Call_method_late hbase hfew hline rfl (thn (ho pins s σ H _ I h) fun v s1 ⟨x,H1,I1,r1,ty,q1⟩=>?_)
 obtain ⟨h1,h2⟩:=wM I1 r1 ty
 refine ⟨T,id,pa,slot,hty,h1,h2,?_⟩
 have hA:=ha cpos pins s1 σ H1 _ I1 q1
 rw [hs] at hA ⊢
 refine Calls.callWith_builtin (by show (false||(backTo cpos (starEach es X.env)).any (·.1))=false; rw [hplain] <;> rfl) (Calls.evalArgs_plain ?_)
 exact thn hA fun us s2 ⟨vs,H2,I2,r2,q2⟩=>hm pins s2 σ H2 x vs v us Q I2 r1 r2 q2
/- xs.append(e),list.index on a module's tuple .. are MtR facts of 06m -/
end
def MtM (X:Cx) (id:String) (r:V→List V→Hp→VK→Prop):Prop :=
 ∀ (pins:List (Addr×Obj)) (s:Shared) (σ:St) (H:Hp) (x:V) (xs:List V) (v:Value) (us:List Value) (Q:VK),Inv X pins σ H s→a7 x v→aN xs us→r x xs H Q →
  wpAny (model X.prog X.w) X.A (call (.builtin id) (v :: us)) (EP X pins σ Q) X.xe s
theorem aN.one:∀ {x:V} {us:List Value},aN [x] us→∃ u,us=[u]∧a7 x u:=fun h=>by
 cases h with
 | cons r q=>cases q; exact ⟨_,rfl,r⟩
theorem aN.eraseIdx:∀ {xs:List V} {us:List Value} (i:Nat),aN xs us→aN (xs.eraseIdx i) (us.eraseIdx i)
 | _,_,_,.nil=>.nil
 | _,_,0,.cons _ t=>t
 | _,_,i + 1,.cons r t=>.cons r (aN.eraseIdx i t)
theorem aN.rep {xs:List V} {us:List Value} (h:aN xs us):∀ k:Nat,aN (List.replicate k xs).flatten (List.replicate k us).flatten
 | 0=>.nil
 | k + 1=>by
  rw [List.replicate_succ,List.replicate_succ,List.flatten_cons,List.flatten_cons]
  exact aN.append h (aN.rep h k)
theorem iY (its:List Value):∀ (k:Nat) (acc:List Value),
 List.foldl (fun x1 x2=>x1++x2) acc.toArray (List.replicate k its.toArray)=(acc++(List.replicate k its).flatten).toArray
 | 0,acc=>by simp
 | k + 1,acc=>by
  have e:acc.toArray++its.toArray=(acc++its).toArray:=by simp
  have e2:(acc++its)++(List.replicate k its).flatten=acc++(List.replicate (k + 1) its).flatten:=by
   rw [List.replicate_succ,List.flatten_cons,List.append_assoc]
  rw [← e2,← iY its k (acc++its),← e,List.replicate_succ,List.foldl_cons]
section
variable {X:Cx} {pins:List (Addr×Obj)} {σ:St} {H:Hp} {s:Shared} {l b:Addr} {xs ys zs:List V}
theorem Inv.lset {its its':List Value} {n:Nat} {f:Array Value→Array Value} {t':Nat} (I:Inv X pins σ H s) (hH:H l=some (.lst xs))
 (e:s.heap.get? l=some { cls:=.type "list",data:=.seq its.toArray n }) (hf:f its.toArray=its'.toArray) (hv:aN ys its') (hz:ys.length≤sizeLine) :
 Inv X pins σ (upd H l (.lst ys)) { s with heap:=s.heap.update l (Obj.mapSeq f),toks:=t' }:=by
 have q:=PySem.IsL.update e f
 rw [hf] at q
 refine I.write (x:=l) (e:=l) (by rw [hH]; exact trivial) (.inl rfl) (fun b' u hb hu=>(Heap.get?_update_other s.heap (Obj.mapSeq f) (Ne.symm hb)).trans hu) ⟨_,q⟩ ?_
 exact ⟨hz,its',_,hv,q⟩
theorem Inv.lnew {its:List Value} {t':Nat} (I:Inv X pins σ H s) (hv:aN ys its) (hz:ys.length≤sizeLine) :
 Inv X pins σ (upd H s.heap.objs.size (.lst ys)) { s with heap:=s.heap.push { cls:=.type "list",data:=.seq its.toArray },toks:=t' } :=
 I.laid (fun _ _ q=>Heap.get?_push_of_some _ q) (Nat.le_refl _) ⟨hz,its,0,hv,Heap.get?_push_size _ rfl⟩
theorem Inv.fresh (I:Inv X pins σ H s):H s.heap.objs.size=none:=I.hok.fresh (Nat.le_refl _)
theorem Inv.lstM (I:Inv X pins σ H s) (hH:H l=some (.lst xs)):xs.length≤sizeLine∧∃ (its:List Value) (n:Nat),aN xs its∧xs.length=its.length∧s.heap.get? l=some { cls:=.type "list",data:=.seq its.toArray n }:=by
 obtain ⟨z,its,n,r,e⟩:=I.hok l _ hH
 exact ⟨z,its,n,r,r.length,e⟩
theorem kc {n:Nat} (h:n≤sizeLine):Builtin.List.listTooLong n=false:=by
 unfold Builtin.List.listTooLong
 exact decide_eq_false (by omega)
end
section
variable {X:Cx}
def sh:V→List V→Hp→VK→Prop:=fun x vs H Q=>∃ l xs y,x = .ref l∧vs=[y]∧H l=some (.lst xs)∧xs.length<sizeLine∧Q .non (upd H l (.lst (xs++[y])))
theorem om:MtM X "list.append" sh:=by
 (try refine ⟨?_⟩); intro pins s σ H x vs v us Q I rx rv h
 obtain ⟨l,xs,y,rfl,rfl,hH,hz,q⟩:=h
 cases rx
 obtain ⟨u,rfl,ru⟩:=rv.one
 obtain ⟨z,its,n,r,hl,e⟩:=I.lstM hH
 refine call_meets F.slot_list_append ⟨_,e,rfl⟩ F.entry_list_append (F.args_list_append_2 _ _) (PySem.list_append l its.toArray n u (by rw [List.size_toArray]; omega)) ⟨e,?_⟩
 refine ⟨.non,_,I.lset (its':=its++[u]) hH e (by simp) (r.append (.cons ru .nil)) ?_,rfl,q⟩
 rw [List.length_append,List.length_singleton]
 omega
def sU:V→List V→Hp→VK→Prop:=fun x vs H Q=>∃ l b xs zs,x = .ref l∧vs=[.ref b]∧H l=some (.lst xs)∧H b=some (.lst zs)∧xs.length + zs.length≤sizeLine∧Q .non (upd H l (.lst (xs++zs)))
theorem nL:MtM X "list.extend" sU:=by
 (try refine ⟨?_⟩); intro pins s σ H x vs v us Q I rx rv h
 obtain ⟨l,b,xs,zs,rfl,rfl,hH,hB,hz,q⟩:=h
 cases rx
 obtain ⟨u,rfl,ru⟩:=rv.one
 cases ru
 obtain ⟨z,its,n,r,hl,e⟩:=I.lstM hH
 obtain ⟨z2,its2,n2,r2,hl2,e2⟩:=I.lstM hB
 have hsz:its.toArray.size + its2.toArray.size≤sizeLine:=by rw [List.size_toArray,List.size_toArray]; omega
 have hlong : ¬ (!its.toArray.isEmpty&&Builtin.List.listTooLong (its.toArray.size + its2.toArray.size))=true:=by
  rw [kc hsz,Bool.and_false]
  exact Bool.false_ne_true
 refine call_meets F.slot_list_extend ⟨_,e,rfl⟩ F.entry_list_extend (F.args_list_extend_2 _ _)
  (AutoSeq1.list_extend_list_list_0 l its.toArray n b its2.toArray n2 hlong (by rw [List.size_toArray]; omega) (by omega)) ⟨e,e2,?_⟩
 refine ⟨.non,_,I.lset (its':=its++its2) hH e (by simp) (r.append r2) ?_,rfl,q⟩
 rw [List.length_append]
 omega
def rCat:R2:=fun x y H Q=>∃ l b xs zs,x = .ref l∧y = .ref b∧H l=some (.lst xs)∧H b=some (.lst zs)∧xs.length + zs.length≤sizeLine∧∀ p,H p=none→Q (.ref p) (upd H p (.lst (xs++zs)))
theorem vU:OpR X (binaryOp .Add) rCat:=by
 (try refine ⟨?_⟩); intro pins s σ H x y v u Q I rx ry h
 obtain ⟨l,b,xs,zs,rfl,rfl,hH,hB,hz,q⟩:=h
 cases rx
 cases ry
 obtain ⟨z,its,n,r,hl,e⟩:=I.lstM hH
 obtain ⟨z2,its2,n2,r2,hl2,e2⟩:=I.lstM hB
 refine PySem.P.add_list e e2 ?_ (by rw [List.size_toArray,List.size_toArray]; omega)
 have ea:its.toArray++its2.toArray=(its++its2).toArray:=by simp
 rw [ea]
 exact ⟨.ref _,_,I.lnew (t':=s.toks) (r.append r2) (by rw [List.length_append]; omega),rfl,q _ I.fresh⟩
def rRep:R2:=fun x y H Q=>∃ l k xs,x = .ref l∧y = .int k∧H l=some (.lst xs)∧-(2 ^ 63)≤k∧k<2 ^ 63∧xs.length * k.toNat≤sizeLine ∧
 ∀ p,H p=none→Q (.ref p) (upd H p (.lst (List.replicate k.toNat xs).flatten))
theorem sD {α:Type} (xs:List α) (k:Nat):(List.replicate k xs).flatten.length=k * xs.length:=by
 induction k with
 | zero=>simp
 | succ k ih=>rw [List.replicate_succ,List.flatten_cons,List.length_append,ih,Nat.succ_mul,Nat.add_comm]
theorem lz:OpR X (binaryOp .Mult) rRep:=by
 (try refine ⟨?_⟩); intro pins s σ H x y v u Q I rx ry h
 obtain ⟨l,k,xs,rfl,rfl,hH,h1,h2,hz,q⟩:=h
 cases rx
 obtain ⟨t,rfl⟩:=ry
 obtain ⟨z,its,n,r,hl,e⟩:=I.lstM hH
 have hlen:its.toArray.size * k.toNat≤sizeLine:=by rw [List.size_toArray,← hl]; exact hz
 have hcap : ¬ its.toArray.size * k.toNat > (2 ^ 63 - 1) / 8:=by
  have:(sizeLine:Nat)≤(2 ^ 63 - 1) / 8:=by decide
  omega
 have hfit : ¬ (!Builtin.List.listFitsIndex k)=true:=by
  rw [fitsIndex_both h1 h2]
  exact Bool.false_ne_true
 have hlong : ¬ Builtin.List.listTooLong (its.toArray.size * k.toNat)=true:=by
  rw [kc hlen]
  exact Bool.false_ne_true
 have hnew:List.foldl (fun x1 x2=>x1++x2) #[] (List.replicate (if its.toArray.isEmpty=true then 0 else k.toNat) its.toArray)=(List.replicate k.toNat its).flatten.toArray:=by
  have f0:∀ m:Nat,List.foldl (fun x1 x2=>x1++x2) #[] (List.replicate m its.toArray)=(List.replicate m its).flatten.toArray:=fun m=>by
   have:=iY its m []
   rw [List.nil_append] at this
   exact this
  rw [f0]
  cases its with
  | nil=>simp
  | cons a r'=>rw [if_neg (by simp)]
 refine wpAny_binaryOp_repeat_ref (T:="list") (U:="int") (by decide) ⟨_,e,rfl⟩ (fun s'=>typeIs_int s' k t) noFill_list_mul F.fills_int_mul F.slot_int_rmul repeat_list F.slot_int_index.lookup
  (call_meets F.slot_int_rmul (typeIs_int s k t) F.entry_int_rmul (F.args_int_rmul_2 _ _) (int___rmul___int_list k t l its.toArray n)
   ⟨e,rfl,⟨_,e,rfl⟩,call_meets F.slot_list_mul ⟨_,e,rfl⟩ F.entry_list_mul (F.args_list_mul_2 _ _) (AutoListH.list___mul___list_int_3 l its.toArray n k t hfit hcap hlong) ⟨e,?_⟩⟩)
 rw [hnew]
 exact ⟨.ref _,_,I.lnew (t':=s.toks) (r.rep k.toNat) (by rw [sD,Nat.mul_comm]; exact hz),rfl,q _ I.fresh⟩
end
section
variable {prog:Program} {w:World} {A:Around} {E:Value→Shared→Prop} {s:Shared}
end
section
variable {X:Cx}
end
end L2
namespace Att
open PySem PySem.W PySem.Calls PyProof.Rows
theorem gF {P:Params} {h:Heap}:∀ (ns:List Int) (vs:List Value),WellAll P h vs (ns.map WData.int)→IntsAre vs ns:=by
 intro ns
 induction ns with
 | nil =>
  intro vs w
  rw [List.map_nil] at w
  cases w
  exact .nil
 | cons n ns ih =>
  intro vs w
  rw [List.map_cons] at w
  cases w with
  | cons a b =>
   cases a
   exact .cons _ _ (ih _ b)
theorem nW {l:OpenLaw} {n:Nat} (hn:l.most=some n) {P:Params} {h:Heap} {args:List WData} {vals:List Value}
 (hpre:l.row.toRowW.claim.pre args=true) (hwl:WellAll P h vals args) :
 ∃ a vs ns,vals=[Value.ref a]∧args=[WData.list (ns.map WData.int)]∧h.get? a=some { cls:=.type "list",data:=.seq vs.toArray }∧IntsAre vs ns∧ns.length≤n:=by
 have hsh:WShape.hasAll [] args [.list .int]=true:=(pre_splitW hpre).1
 have hc:l.pre.holds [] { args:=args } = true:=(pre_splitW hpre).2
 obtain ⟨d,r,rfl,h1,h2⟩:=hasAllW_cons hsh
 obtain rfl:=hasAllW_nil h2
 obtain ⟨xs,rfl,h3⟩:=hasW_list h1
 obtain ⟨ns,rfl⟩:=items_int h3
 have hlen:ns.length≤n:=by
  unfold OpenLaw.pre at hc
  have h4:(WTm.not (.lt (.lit (.int (n:Int))) (.len (.arg 0)))).holds [] { args:=[.list (ns.map .int)] } = true:=by
   have h4:=(holds_andW hc).1
   rw [hn] at h4
   exact h4
  have h5:=condW_of h4 (w_not (w_lt w_lit (w_len_list (w_arg rfl))))
  rw [List.length_map] at h5
  refine Nat.le_of_not_lt fun q=>?_
  have q':(n:Int)<((ns.length:Nat):Int):=by omega
  first
   | (rw [decide_eq_true q'] at h5; exact absurd h5 (by decide))
   | (simp at h5; omega)
 cases hwl with
 | cons w1 w2 =>
  cases w2
  cases w1 with
  | list ho hall=>exact ⟨_,_,ns,rfl,rfl,ho,gF ns _ hall,hlen⟩
theorem oJ (l:OpenLaw) (args:List WData):l.row.toRowW.claim.post args (.bool true) args=true :=
 postW_of (r:=l.row.toRowW) (X:=(true == true))
  (show WShape.has [] (.bool true) .bool=true by first | rfl | decide | simp [WShape.has,WShape.arms,WShape.armsAll])
  (show (WTm.eq .res (.lit (.bool true))).value [] { args:=args,res:=some (.bool true),after:=args } = some (.bool (true == true)) from w_eq_bool (w_res rfl) w_lit) rfl
theorem attach_call {l:OpenLaw} {n:Nat} {q:Program} {loose:List Str} {XP:(Str→Option Value)→Heap→Prop} {YP:World→Heap→Prop} {d:DefRec}
 (hn:l.most=some n) (hdf:d.params.defaults=[])
 (call:∀ (w:World) (s₀ s₁:Shared) (mg mb:Str→Option Value) (fa:Addr) (o:Obj) (pm cd doc:Value) (a:Addr) (vs:List Value) (ns:List Int),
  Ground q loose [] XP w s₀ mg mb s₁.heap→YP w s₁.heap →
  s₁.heap.get? fa=some o→o.data = .func (docDef d.name d.params d.body d.scope pm cd doc)→s₁.heap.CodeRec cd d.name→mg d.name=some (.ref fa) →
  s₁.heap.get? a=some { cls:=.type "list",data:=.seq vs.toArray }→IntsAre vs ns→ns.length≤n→s₁.gens = #[] →
  codeAny (model l.prog w) callerA (.call (.ref fa) ⟨[.ref a],[]⟩) (fun r s'=>r = .ok (.ret (.bool true))∧OldK s₁.heap s'.heap∧s'.os=s₁.os∧AllBare s'.gens) s₁) :
 WalkO q loose XP YP l.row.toRowW d [] (fun f vs=>PySem.call f vs):=by
 intro w s₀ s₁ mg mb G Y fa o pm cd doc dV kV ho hd hcd hD hmg hg args vals as hpre hlay hrd hwl hlo
 obtain rfl:dV = .none:=Dflts.none hD hdf
 obtain rfl:kV = .none:=Dflts.noKw hD
 obtain ⟨a,vs,ns,rfl,rfl,hobj,hints,hlen⟩:=nW hn hpre hwl
 refine enter_call (codeAny_mono (call w s₀ s₁ mg mb fa o pm cd doc a vs ns G Y ho (fd_plain hd) hcd hmg hobj hints hlen hg) fun r s' hq=>?_)
 obtain ⟨rfl,h2,h3,h4⟩:=hq
 exact ⟨.inl ⟨.bool true,.bool true,[],rfl,fun _=>rfl,.bool true,oJ l _,fun _=>⟨List.Pairwise.nil,fun _ hm=>(nomatch hm)⟩⟩,h2,h3,h4⟩
section
variable {prog:Program} {w:World} {A:Around} {E:Value→Shared→Prop} {s:Shared} {K:Frag}
def ju (h:Heap):Heap:={ h with objs:=#[] }
theorem iw (h:Heap) (b:Addr):(ju h).get? b=none:=by
 cases e:(ju h).get? b with
 | none=>rfl
 | some o=>exact absurd (Heap.lt_size e) (Nat.not_lt_zero _)
def jt (h:Heap) (L d:Addr):List (Addr×Obj):=(List.range h.objs.size).filterMap fun a=>if a=L∨a=d then none else (h.get? a).map fun o=>(a,o)
theorem il {h:Heap} {L d a:Addr} {o:Obj}:(a,o)∈jt h L d↔a≠L∧a≠d∧h.get? a=some o:=by
 unfold jt
 rw [List.mem_filterMap]
 constructor
 ·rintro ⟨b,_,e⟩
  split at e
  ·cases e
  ·rename_i hb
   obtain ⟨o',ho,e'⟩:=Option.map_eq_some_iff.mp e
   cases e'
   exact ⟨fun q=>hb (.inl q),fun q=>hb (.inr q),ho⟩
 ·rintro ⟨n1,n2,ho⟩
  refine ⟨a,List.mem_range.mpr (Heap.lt_size ho),?_⟩
  rw [if_neg (show ¬ (a=L∨a=d) from fun q=>q.elim n1 n2),ho] <;> rfl
theorem wl {h:Heap} {L:Addr} {m:Str→Option Value} (n:h.Ns L m):Fr (ju h) L h m :=
 ⟨n,fun b o e=>(by rw [iw] at e; cases e),Nat.zero_le _⟩
end
end Att
namespace L2
open PySem PySem.Spec PyProof.Rows
theorem dW:∀ {vs:List Value} {ns:List Int},IntsAre vs ns→aN (ns.map V.int) vs
 | _,_,.nil=>.nil
 | _,_,.cons n t h=>.cons ⟨t,rfl⟩ (dW h)
end L2
/- THE LAST THEOREM (shape; LID,My.* are yours):
   My.Adr: a structure of the addresses that your layer names (classes,functions); My.Txt K t: a structure (Prop) of the equations over K;
   My.txt_mk : {K} {implicit addresses ..} (e1:nsIn K mainGlobals "law" = some (some (.ref f))) (e2:K.lookup f=some ⟨oc,od,.func (fnOf "law" "law" params body scope dV kV doc pm an cdv ct),sl⟩) (e3:codeIn K cdv "law" = true) ..:∃ t,My.Txt K t
(the tactic k_is has no namespace: write k_is) -/
namespace L2
open PySem PySem.Spec PyProof.Rows
def d7 (s:Stmt):Arguments:=match s with
 | .FunctionDef _ a _ _ _ _ _ _ _ _=>a
 | _=>{ posonlyargs:=[],args:=[],vararg:=none,kwonlyargs:=[],kw_defaults:=[],kwarg:=none,defaults:=[] }
def ca (s:Stmt):List Stmt:=match s with
 | .FunctionDef _ _ b _ _ _ _ _ _ _=>b
 | _=>[]
def ak (s:Stmt):Scope:=match s with
 | .FunctionDef _ _ _ _ _ _ sc _ _ _=>sc
 | _=>{ kind:=.function,names:=[],isGenerator:=false,isCoroutine:=false }
abbrev CX0:CXT:=fun _ _ _ _ _ _=>False
abbrev E0:XK:=fun _ _ _=>False
theorem ug {X:Cx}:lY CX0 X E0:=fun _ _ _ _ _ _ _ h=>h.elim
structure Fun (K:PySem.W.Frag) (x qual:Str) (st:Stmt) (f:Addr) (fd:FuncData):Prop where
 ex:∃ (oc:Value) (od:Option Addr) (kV doc pm:Value) (an:Option Addr) (cdv ct:Value) (osl:Array (Option Value)),
  fd=PySem.W.fnOf x qual (d7 st) (ca st) (ak st) .none kV doc pm an cdv ct∧K.lookup f=some ⟨oc,od,.func fd,osl⟩∧PySem.W.codeIn K cdv qual=true
 kp:PySem.W.keepIn K (.ref f)=true
section
variable {P:Program} {w:World} {K:PySem.W.Frag} {mg:Str→Option Value} {base:Heap}
theorem Fun.ok {x qual:Str} {st:Stmt} {f:Addr} {fd:FuncData} {N ps:List Str} {k:Nat} {sp:Sp} (F:Fun K x qual st f fd) (S:FnScope N ps (ak st)) (len:∀ vs H Q E,sp vs H Q E→vs.length=ps.length)
 (hbody:∀ (cdv:Value) (A:Around) (outer:List Env) (s:Shared) (H:Hp) (vs:List V) (Q:VK) (E:XK),Room k (A.deeper (envOfC qual (ak st) s.heap.objs.size f cdv))→sp vs H Q E →
  ∃ t,PSs (jG CX0 P w K mg base N qual (ak st) f cdv A outer s H E).nox (ca st) t∧t { nx:=fun _ H'=>Q .non H',rt:=Q } (start N vs) H):FnOk P w K mg base CX0 (k + 1) f fd ps sp:=by
 obtain ⟨oc,od,kV,doc,pm,an,cdv,ct,osl,rfl,lk,hcd⟩:=F.ex
 refine uu lk hcd S len fun A outer s H vs Q E hr hsp=>?_
 obtain ⟨t,h,q⟩:=hbody cdv A outer s H vs Q E hr hsp
 exact ⟨t,h.nox,q⟩
theorem Fun.binds {x qual:Str} {st:Stmt} {f:Addr} {fd:FuncData} {ps:List Str} (F:Fun K x qual st f fd)
 (h:∀ (kV doc pm:Value) (an:Option Addr) (cdv ct:Value) (us:List Value),us.length=ps.length→bindArgs (PySem.W.fnOf x qual (d7 st) (ca st) (ak st) .none kV doc pm an cdv ct) ⟨us,[]⟩=pure (ps.zip us)):gz K fd ps []:=by
 obtain ⟨oc,od,kV,doc,pm,an,cdv,ct,osl,rfl,lk,hcd⟩:=F.ex
 exact .all (h kV doc pm an cdv ct)
theorem wx {x qual:Str} {st:Stmt} {f:Addr} {oc:Value} {od an:Option Addr} {osl:Array (Option Value)} {kV doc pm cdv ct:Value} (l:K.lookup f=some ⟨oc,od,.func (PySem.W.fnOf x qual (d7 st) (ca st) (ak st) .none kV doc pm an cdv ct),osl⟩)
 (c:PySem.W.codeIn K cdv qual=true) (k:PySem.W.keepIn K (.ref f)=true):Fun K x qual st f (PySem.W.fnOf x qual (d7 st) (ca st) (ak st) .none kV doc pm an cdv ct):=⟨⟨oc,od,kV,doc,pm,an,cdv,ct,osl,rfl,l,c⟩,k⟩
end
theorem bY {n:Nat} (h:n≤1000):n<sizeLine:=Nat.lt_of_le_of_lt h (by decide)
section
variable {X:Cx}
end
theorem bS {c A B:Prop} [Decidable c] (h1:c→A) (h2 : ¬ c→B):if c then A else B:=by
 by_cases h:c
 ·rw [if_pos h]
  exact h1 h
 ·rw [if_neg h]
  exact h2 h
def aI (H H':Hp):Prop:=∀ b o,H b=some o→H' b=some o
theorem aI.refl (H:Hp):aI H H:=fun _ _ h=>h
theorem aI.trans {H H1 H2:Hp} (a:aI H H1) (b:aI H1 H2):aI H H2:=fun c o h=>b c o (a c o h)
inductive D where
 | non | bl (b:Bool) | int (i:Int) | str (x:Str) | tup (ds:List D) | lst (ds:List D) | dct | dic (ks:List Key) (ds:List D) | scr (φ:Addr→Prop) (ns:List Int) | ext (φ:Hp→Addr→Prop)
mutual
def Rep (H:Hp):D→V→Prop
 | .non,v=>v = .non
 | .bl b,v=>v = .bl b
 | .int i,v=>v = .int i
 | .str x,v=>v = .str x
 | .tup ds,v=>∃ a xs,v = .ref a∧H a=some (.tup xs)∧Reps H ds xs
 | .lst ds,v=>∃ a xs,v = .ref a∧H a=some (.lst xs)∧Reps H ds xs
 | .dct,v=>∃ a kvs,v = .ref a∧H a=some (.dK kvs)
 | .dic ks ds,v=>∃ a xs,v = .ref a∧H a=some (.dK (ks.zip xs))∧ks.length=ds.length∧Reps H ds xs
 | .scr φ ns,v=>∃ a,v = .ref a∧((∃ o,H a=some (.frz o (.lst (ns.map V.int))))∨φ a)
 | .ext φ,v=>∃ a H0,v = .ref a∧aI H0 H∧φ H0 a
def Reps (H:Hp):List D→List V→Prop
 | [],xs=>xs=[]
 | d :: ds,xs=>∃ v vs,xs=v :: vs∧Rep H d v∧Reps H ds vs
end
theorem Reps.length {H:Hp}:∀ {ds:List D} {xs:List V},Reps H ds xs→xs.length=ds.length
 | [],xs,h=>by rw [Reps] at h; subst h; rfl
 | d :: ds,xs,h=>by
  rw [Reps] at h
  obtain ⟨v,vs,rfl,_,h2⟩:=h
  have:=Reps.length h2
  simp [this]
mutual
theorem Rep.mono {H H':Hp} (e:aI H H'):∀ (d:D) (v:V),Rep H d v→Rep H' d v
 | .non,v,h=>by rw [Rep] at *; exact h
 | .bl b,v,h=>by rw [Rep] at *; exact h
 | .int i,v,h=>by rw [Rep] at *; exact h
 | .str x,v,h=>by rw [Rep] at *; exact h
 | .tup ds,v,h=>by
  rw [Rep] at *
  obtain ⟨a,xs,h1,h2,h3⟩:=h
  exact ⟨a,xs,h1,e _ _ h2,Reps.mono e ds xs h3⟩
 | .lst ds,v,h=>by
  rw [Rep] at *
  obtain ⟨a,xs,h1,h2,h3⟩:=h
  exact ⟨a,xs,h1,e _ _ h2,Reps.mono e ds xs h3⟩
 | .dct,v,h=>by
  rw [Rep] at *
  obtain ⟨a,kvs,h1,h2⟩:=h
  exact ⟨a,kvs,h1,e _ _ h2⟩
 | .dic ks ds,v,h=>by
  rw [Rep] at *
  obtain ⟨a,xs,h1,h2,h3,h4⟩:=h
  exact ⟨a,xs,h1,e _ _ h2,h3,Reps.mono e ds xs h4⟩
 | .scr φ ns,v,h=>by
  rw [Rep] at *
  obtain ⟨a,h1,h2⟩:=h
  refine ⟨a,h1,?_⟩
  rcases h2 with ⟨o,h2⟩ | h2
  ·exact .inl ⟨o,e _ _ h2⟩
  ·exact .inr h2
 | .ext φ,v,h=>by
  rw [Rep] at *
  obtain ⟨a,H0,h1,h2,h3⟩:=h
  exact ⟨a,H0,h1,fun b o q=>e _ _ (h2 b o q),h3⟩
theorem Reps.mono {H H':Hp} (e:aI H H'):∀ (ds:List D) (xs:List V),Reps H ds xs→Reps H' ds xs
 | [],xs,h=>by rw [Reps] at *; exact h
 | d :: ds,xs,h=>by
  rw [Reps] at *
  obtain ⟨v,vs,h1,h2,h3⟩:=h
  exact ⟨v,vs,h1,Rep.mono e d v h2,Reps.mono e ds vs h3⟩
end
def D.ty:D→String
 | .non => "NoneType" | .bl _ => "bool" | .int _ => "int" | .str _ => "str" | .tup _ => "tuple" | .lst _ => "list" | .dct => "dict" | .dic _ _ => "dict" | .scr _ _ => "list" | .ext _ => "object"
def D.isS:D→Bool
 | .scr _ _=>true
 | .ext _=>true
 | _=>false
theorem Rep.ty {K:PySem.W.Frag} {H:Hp} {d:D} {v:V} (h:Rep H d v) (hs:d.isS=false):TyOf K H v (.type d.ty):=by
 cases d with
 | non=>rw [Rep] at h; subst h; exact .non
 | bl b=>rw [Rep] at h; subst h; exact .bl b
 | int i=>rw [Rep] at h; subst h; exact .int i
 | str x=>rw [Rep] at h; subst h; exact .str x
 | tup ds=>rw [Rep] at h; obtain ⟨a,xs,rfl,h2,_⟩:=h; exact .tup h2
 | lst ds=>rw [Rep] at h; obtain ⟨a,xs,rfl,h2,_⟩:=h; exact .lst h2
 | dct=>rw [Rep] at h; obtain ⟨a,kvs,rfl,h2⟩:=h; exact .dK h2
 | dic ks ds=>rw [Rep] at h; obtain ⟨a,xs,rfl,h2,_⟩:=h; exact .dK h2
 | scr φ ns=>cases hs
 | ext φ=>cases hs
theorem gO {H:Hp} {a:Addr} {xs:List V} {ds:List D} (h:H a=some (.tup xs)) (r:Reps H ds xs):Rep H (.tup ds) (.ref a):=by rw [Rep]; exact ⟨a,xs,rfl,h,r⟩
theorem gJ {H:Hp} {a:Addr} {xs:List V} {ds:List D} (h:H a=some (.lst xs)) (r:Reps H ds xs):Rep H (.lst ds) (.ref a):=by rw [Rep]; exact ⟨a,xs,rfl,h,r⟩
theorem bz {H:Hp}:Reps H [] []:=by rw [Reps]
theorem bi {H:Hp} {d:D} {v:V} {ds:List D} {vs:List V} (h:Rep H d v) (r:Reps H ds vs):Reps H (d :: ds) (v :: vs):=by rw [Reps]; exact ⟨v,vs,rfl,h,r⟩
theorem bn {H:Hp} (i:Int):Rep H (.int i) (.int i):=by rw [Rep]
theorem cp {H:Hp} (i:Bool):Rep H (.bl i) (.bl i):=by rw [Rep]
theorem tz {H:Hp}:Rep H .non .non:=by rw [Rep]
theorem qM {H:Hp} {p:Addr} (h:H p=none) (o:HO):aI H (upd H p o):=fun b u q=>by rw [av (ap q h)]; exact q
section
variable {X:Cx}
def oI (d:D) (T:String):Option Bool:=if d.isS=true then none else if (Value.type d.ty == Value.type T)=true then some true else if PySem.W.kitMeta T=true then (fastBuiltinMro d.ty).map (·.contains (.type T)) else none
theorem q_ (K:PySem.W.Frag) (d:D) (T:String) (hs:d.isS=false):PySem.W.kitOne K (.type d.ty) (.type T)=oI d T:=by
 unfold oI; rw [hs,if_neg (by decide)]; rfl
def rIsI:List V→Hp→VK→Prop:=fun xs H Q=>∃ x T d b,xs=[x,.ty T]∧Rep H d x∧oI d T=some b∧Q (.bl b) H
theorem kq:bT X (.builtin "isinstance") rIsI:=by
 intro pins s σ H xs us Q I r h
 obtain ⟨x,T,d,b,rfl,hd,e,q⟩:=h
 obtain ⟨u,w',rfl,ru,rw'⟩:=mJ r
 cases (show w'=Value.type T from rw')
 have hs:d.isS=false:=by
  cases z:d.isS with
  | false=>rfl
  | true=>unfold oI at e; rw [z,if_pos rfl] at e; cases e
 rw [← q_ X.K d T hs] at e
 exact oh I ru (hd.ty hs) e fun tk=>⟨.bl b,H,I.tok tk,rfl,q⟩
def Sm (i:Int):Prop:=i.natAbs<2 ^ 8000
theorem Sm.log {i:Int} (h:Sm i):i.natAbs.log2<8000:=by
 by_cases h0:i.natAbs=0
 ·rw [h0]; decide
 ·exact (Nat.log2_lt h0).mpr h
def CDivB (i j:Int):Prop:=0<j∧Sm j
theorem pU:OpR X (binaryOp .FloorDiv) (rI CDivB fun i j=>.int (i / j)):=opI fun i j _ _ _ _ _ hc q=>by
 refine floordiv_int (Int.ne_of_gt hc.1) ?_ (.inl (PyProof.noPylong_of_log2 (Nat.lt_of_lt_of_le hc.2.log (by decide))))
 rw [Int.fdiv_eq_ediv_of_nonneg _ (Int.le_of_lt hc.1)]
 exact q
end
theorem a_:bootBuiltins "len" = some (.builtin "len"):=by decide +kernel
theorem gW:bootBuiltins "max" = some (.builtin "max"):=by decide +kernel
theorem de:bootBuiltins "min" = some (.builtin "min"):=by decide +kernel
theorem a8:bootBuiltins "isinstance" = some (.builtin "isinstance"):=by decide +kernel
theorem iC:bootBuiltins "sum" = some (.builtin "sum"):=by decide +kernel
theorem e7:bootBuiltins "sorted" = some (.builtin "sorted"):=by decide +kernel
theorem vg:bootBuiltins "any" = some (.builtin "any"):=by decide +kernel
theorem pC:bootBuiltins "range" = some (.type "range"):=by decide +kernel
theorem vY:bootBuiltins "int" = some (.type "int"):=by decide +kernel
theorem sH:bootBuiltins "bool" = some (.type "bool"):=by decide +kernel
theorem j7:bootBuiltins "tuple" = some (.type "tuple"):=by decide +kernel
theorem cA:bootBuiltins "list" = some (.type "list"):=by decide +kernel
theorem jC:bootBuiltins "enumerate" = some (.type "enumerate"):=by decide +kernel
theorem u9:bootBuiltins "zip" = some (.type "zip"):=by decide +kernel
section
variable {X:Cx} {pins:List (Addr×Obj)} {σ:St} {H:Hp} {s:Shared} {pos:Pos}
end
end L2
namespace L2
open PySem
theorem ci {i:Int} {n:Nat} (h:i.natAbs≤n) (hn:n<2 ^ 8000):Sm i:=Nat.lt_of_le_of_lt h hn
end L2
namespace L2
open PySem PySem.Spec PyProof.Rows
def CL (env:Env):List (Str×Addr)→Prop
 | []=>True
 | p :: r=>env.cells.lookup p.1=some p.2∧CL env r
theorem CL.get {env:Env}:∀ {cl:List (Str×Addr)},CL env cl→∀ {x:Str} {c:Addr},cl.lookup x=some c→env.cells.lookup x=some c
 | [],_,x,c,h=>by simp at h
 | (y,d) :: r,h,x,c,e=>by
  rw [List.lookup_cons] at e
  cases hx:x == y with
  | true =>
   rw [hx] at e
   have e1:x=y:=by simpa using hx
   have e2:d=c:=Option.some.inj e
   subst e1 e2
   exact h.1
  | false =>
   rw [hx] at e
   exact CL.get h.2 e
theorem eC {env:Env}:∀ {names:List (Str×NameKind)} {x:Str} {k:NameKind},
 (names.map fun (n,k)=>if (k == NameKind.free&&env.scope.kind == .function&&env.kindOf n == some .cell) then (n,NameKind.cell) else (n,k)).lookup x=some k →
 ∃ k',names.lookup x=some k'∧(k'=k∨(k' = .free∧k = .cell))
 | [],x,k,h=>by simp at h
 | (n,kn) :: r,x,k,h=>by
  have ih:=@eC env r x k
  by_cases hc:(kn == NameKind.free&&env.scope.kind == .function&&env.kindOf n == some .cell)=true
  ·have h':List.lookup x ((n,NameKind.cell) :: (r.map fun (n,k)=>if (k == NameKind.free&&env.scope.kind == .function&&env.kindOf n == some .cell) then (n,NameKind.cell) else (n,k)))=some k:=by
    rw [List.map_cons] at h
    simp only [hc,if_true] at h
    exact h
   rw [List.lookup_cons] at h' ⊢
   cases hx:x == n with
   | true =>
    rw [hx] at h'
    have:kn = .free:=by
     simp only [Bool.and_eq_true,beq_iff_eq] at hc
     exact hc.1.1
    exact ⟨kn,rfl,.inr ⟨this,(Option.some.inj h').symm⟩⟩
   | false=>rw [hx] at h'; exact ih h'
  ·have h':List.lookup x ((n,kn) :: (r.map fun (n,k)=>if (k == NameKind.free&&env.scope.kind == .function&&env.kindOf n == some .cell) then (n,NameKind.cell) else (n,k)))=some k:=by
    rw [List.map_cons] at h
    simp only [hc] at h
    exact h
   rw [List.lookup_cons] at h' ⊢
   cases hx:x == n with
   | true=>rw [hx] at h'; exact ⟨kn,rfl,.inl (Option.some.inj h')⟩
   | false=>rw [hx] at h'; exact ih h'
def bI (X:Cx) (scope:Scope) (cl:List (Str×Addr)) (N:List Str) (C:Addr) (s₀:Shared) (H₀:Hp) (ex:List Addr):Cx where
 prog:=X.prog
 w:=X.w
 K:=X.K
 mg:=X.mg
 base:=X.base
 A:=X.A
 N:=N
 s₀:=s₀
 H₀:=H₀
 env:=compEnvC scope cl C X.env
 outer:=X.stack
 stack:=X.stack
 ex:=ex
 fn:=fun _=>false
 calm:=X.calm
 pn:=[]
 xe:=fun _ _=>False
def okJ (X:Cx) (scope:Scope) (j:Nat):Bool:=match X.N[j]? with
 | some x=>(match X.env.scope.names.lookup x with | some .cell=>true | _=>false)&&(match scope.names.lookup x with | some .free=>true | _=>false)
 | none=>false
def bN (own:List Str) (js:List Nat) (σ:St):St:=own.map (fun _=>none)++js.map fun j=>(σ[j]?).getD none
def cZ (X:Cx) (own:List Str) (js:List Nat):List Str:=own++js.map fun j=>(X.N[j]?).getD (Str.ofString "")
structure CompOk (X:Cx) (scope:Scope) (cl:List (Str×Addr)) (own:List Str) (js:List Nat):Prop where
 clos:closureFor scope X.env=pure cl
 kind:scope.kind = .function
 names:∀ x∈scope.names,x.2 = .local→scope.names.lookup x.1=some .local
 ncell:(scope.names.all fun y=>match y.2 with | .cell=>false | _=>true)=true
 has:(scope.names.all fun y=>match y.2 with | .free=>(cl.lookup y.1).isSome | _=>true)=true
 cells:CL X.env cl
 js:js.all (okJ X scope)=true
theorem CompOk.nc {X:Cx} {scope:Scope} {cl:List (Str×Addr)} {own:List Str} {js:List Nat} (c:CompOk X scope cl own js):∀ y∈scope.names,y.2≠.cell:=fun y hy e=>by
 have:=List.all_eq_true.mp c.ncell y hy
 rw [e] at this
 cases this
theorem CompOk.fr {X:Cx} {scope:Scope} {cl:List (Str×Addr)} {own:List Str} {js:List Nat} (c:CompOk X scope cl own js) {x:Str} (h:scope.names.lookup x=some .free):∃ d,cl.lookup x=some d:=by
 have:=List.all_eq_true.mp c.has (x,.free) (PySem.mem_of_lookup h)
 exact Option.isSome_iff_exists.mp this
section
variable {X:Cx} {pins:List (Addr×Obj)} {σ:St} {H:Hp} {s:Shared} {scope:Scope} {cl:List (Str×Addr)} {own:List Str} {js:List Nat}
theorem k8 {h1:Heap} {C:Addr} {fp:List Addr} {t':Nat} (c:CompOk X scope cl own js) (I:Inv X pins σ H s) (hf:∀ b∈fp,jP X pins H b) (hlt:∀ b∈fp,b<s.heap.objs.size)
 (hC:s.heap.objs.size≤C) (hk:∀ b o,s.heap.get? b=some o→h1.get? b=some o) (hn:h1.Ns C fun _=>none) :
 Inv (bI X scope cl (cZ X own js) C s H fp) [] (bN own js σ) H { s with heap:=h1,toks:=t' }:=by
 have kindOfY:∀ x k,(bI X scope cl (cZ X own js) C s H fp).env.kindOf x=some k→∃ k',scope.names.lookup x=some k'∧(k'=k∨(k' = .free∧k = .cell)):=fun x k e=>eC (env:=X.env) (names:=scope.names) e
 refine ⟨⟨I.ok.mod,c.kind,I.ok.glob,I.ok.blt,hC,fun x y d h1 h2=>I.ok.inj x y d (c.cells.get h1) (c.cells.get h2),fun x hx=>?_,fun x d h=>(by cases h),I.ok.hd,I.ok.frames,.inl rfl,fun b hb=>⟨?_,fun x d e=>(hf b hb).2.2.2.2.1 x d (c.cells.get e)⟩,
  fun b o e=>I.bs b o e,Nat.le_trans I.ok.bsz I.sz,fun b o e hb=>?_,fun b hb z=>?_,I.stack,I.stkFree,I.ok.tb.un I.base⟩,rfl,I.bare,Un.kept hk,⟨_,hn,fun i x v e1 e2 e3=>?_⟩,fun x d e=>?_,I.hok.fresh hC,fun x d e=>I.freeC x d (c.cells.get e),fun p hp=>(by cases hp),I.hok.kept hk,?_⟩
 ·rcases hx with hx | hx
  ·obtain ⟨k',e1,e2⟩:=kindOfY x _ hx
   rcases e2 with e2 | ⟨e2,_⟩
   ·exact absurd e2 (c.nc _ (PySem.mem_of_lookup e1))
   ·subst e2; exact c.fr e1
  ·obtain ⟨k',e1,e2⟩:=kindOfY x _ hx
   rcases e2 with e2 | ⟨_,e2⟩
   ·subst e2; exact c.fr e1
   ·cases e2
 ·exact Nat.ne_of_lt (Nat.lt_of_lt_of_le (hlt b hb) hC)
 ·rcases (hf b hb).2.2.2.1 with z | z
  ·exact I.ok.noex b o e z
  ·exact absurd (Nat.lt_of_lt_of_le (Heap.lt_size e) (Nat.le_trans I.ok.bsz z)) (Nat.lt_irrefl _)
 ·rcases List.mem_cons.mp (I.stkSub b z) with q | q
  ·exact (hf b hb).2.1 q
  ·exact (hf b hb).2.2.1 q
 ·-- a name taken from the frame
  have e1:(cZ X own js)[i]? = some x:=e1
  unfold cZ at e1
  unfold bN at e2
  by_cases hi:i<own.length
  ·rw [List.getElem?_append_left (by simpa using hi),List.getElem?_map,List.getElem?_eq_getElem hi] at e2
   cases e2
  ·rw [List.getElem?_append_right (by simpa using Nat.not_lt.mp hi),List.getElem?_map,List.length_map] at e2
   rw [List.getElem?_append_right (Nat.not_lt.mp hi),List.getElem?_map] at e1
   cases ej:js[i - own.length]? with
   | none=>rw [ej] at e2; cases e2
   | some j =>
    rw [ej] at e1 e2
    have hj:=List.all_eq_true.mp c.js j (List.mem_of_getElem? ej)
    unfold okJ at hj
    have e1':(X.N[j]?).getD (Str.ofString "")=x:=Option.some.inj e1
    have e2':(σ[j]?).getD none=some v:=Option.some.inj e2
    cases en:X.N[j]? with
    | none=>rw [en] at hj; cases hj
    | some y =>
     rw [en] at hj e1'
     have e1'':y=x:=e1'
     subst e1''
     have hv : σ[j]? = some (some v):=by
      cases es : σ[j]? with
      | none=>rw [es] at e2'; cases e2'
      | some ov=>rw [es] at e2'; rw [show ov=some v from e2']
     dsimp only at hj
     rw [Bool.and_eq_true] at hj
     have k1:X.env.scope.names.lookup y=some .cell:=by
      have:=hj.1
      split at this
      ·assumption
      ·cases this
     have k2:scope.names.lookup y=some .free:=by
      have:=hj.2
      split at this
      ·assumption
      ·cases this
     obtain ⟨m,_,hl⟩:=I.loc
     obtain ⟨u,ru,l⟩:=hl j y v en hv (.inr (.inl k1))
     refine ⟨u,ru,?_⟩
     rcases l with ⟨l,_⟩ | ⟨_,d,ed,z⟩
     ·rw [show X.env.kindOf y=some .cell from k1] at l; cases l
     ·obtain ⟨d',ed'⟩:=c.fr k2
      have:=c.cells.get ed'
      rw [ed] at this
      cases this
      obtain ⟨o,ho,hd⟩:=z
      refine .inr ⟨?_,d,ed',⟨o,hk _ _ ho,hd⟩⟩
      have e3:(bI X scope cl (cZ X own js) C s H fp).env.scope.names.lookup y=some .local∨(bI X scope cl (cZ X own js) C s H fp).env.scope.names.lookup y=some .cell∨(bI X scope cl (cZ X own js) C s H fp).env.scope.names.lookup y=some .free:=e3
      rcases e3 with e3 | e3 | e3
      ·obtain ⟨k',q1,q2⟩:=kindOfY y _ e3
       rw [k2] at q1
       cases q1
       rcases q2 with q2 | ⟨_,q2⟩ <;> cases q2
      ·exact .inl e3
      ·exact .inr e3
 ·obtain ⟨v,o,ho,hd⟩:=I.cell x d (c.cells.get e)
  exact ⟨v,o,hk _ _ ho,hd⟩
 ·show (bN own js σ).length=(cZ X own js).length
  unfold bN cZ
  simp
structure PIf (X:Cx) (ifs:List Expr) (t:TT):Prop where
 go:∀ (pins:List (Addr×Obj)) (s:Shared) (σ:St) (H:Hp) (Q:Bool→Hp→Prop),Inv X pins σ H s→t σ H Q →
  wpAny (model X.prog X.w) X.A (forIn ifs true fun c r=>if r=true then do let ok ← isTrue c X.env (eval c X.env); pure (ForInStep.yield ok) else pure (ForInStep.yield r)) (TP X pins σ Q) X.xe s
def tYes:TT:=fun _ H Q=>Q true H
theorem sw:PIf X [] tYes:=⟨fun pins s σ H Q I h=>wpAny_tests_nil ⟨H,I,h⟩⟩
theorem sv {c:Expr} {t:TT} (h:PT X c t):PIf X [c] t:=⟨fun pins s σ H Q I q=>wpAny_tests_one (h.go pins s σ H Q I q)⟩
theorem fj {prog:Program} {w:World} {A:Around} {R:Result→Shared→Prop} {s:Shared} {elt target iter:Expr} {ifs:List Expr} {scope:Scope} {pos:Pos} {it acc:Value} {env:Env} (I:Nat→Shared→Prop)
 (turn:∀ n s,I n s→wpAny (model prog w) A (pyNext it) (fun r s₁=>match r with
  | none=>R (.ok .next) s₁
  | some v=>wpAny (model prog w) A (letOwnedTupleGo target it v) (fun _ s₁=>wpAny (model prog w) A (assign target env v) (fun _ s₂ =>
   wpAny (model prog w) A (forIn ifs true fun c r=>if r=true then do let ok ← isTrue c env (eval c env); pure (ForInStep.yield ok) else pure (ForInStep.yield r)) (fun ok s₃ =>
    if ok=true then wpAny (model prog w) A (eval elt env) (fun x s₄ =>
     wpAny (model prog w) A (call (.builtin "list.append") [acc,x]) (fun _ s₅=>∃ m,m<n∧I m s₅) (fun _ _=>False) s₄) (fun _ _=>False) s₃
    else ∃ m,m<n∧I m s₃) (fun _ _=>False) s₂) (fun _ _=>False) s₁) (fun _ _=>False) s₁) (fun _ _=>False) s)
 (n:Nat) (h:I n s) :
 codeAny (model prog w) A (.compLoop (.ListComp elt [⟨target,iter,ifs,0⟩] scope pos) 0 it acc env) R s:=by
 refine codeAny_loop rfl I (fun n s hI=>?_) n h
 show wpAny _ A ((compTurn (.ListComp elt [⟨target,iter,ifs,0⟩] scope pos) 0 it acc env).onRaise (fun x=>do noteFrame x env; theTreesLotGoes x)) _ _ s
 refine wpAny_noted ?_
 rw [compTurn_list]
 refine wpAny_bind (wpAny_standAt (wpAny_bind (wpAny_mono (turn n s hI) (fun r s₁ h₁=>?_) fun _ _ h'=>h'.elim)))
 cases r with
 | none=>exact wpAny_pure h₁
 | some v =>
  refine wpAny_bind (wpAny_mono h₁ (fun _ s₁ h₁=>?_) fun _ _ h'=>h'.elim)
  refine wpAny_bind (wpAny_mono h₁ (fun _ s₂ h₂=>wpAny_bind (wpAny_mono h₂ (fun ok s₃ h₃=>?_) fun _ _ h'=>h'.elim)) fun _ _ h'=>h'.elim)
  cases ok with
  | false=>exact wpAny_pure ⟨rfl,h₃⟩
  | true =>
   exact wpAny_bind (wpAny_bind (wpAny_mono h₃ (fun x s₄ h₄=>wpAny_bind (wpAny_mono h₄ (fun _ s₅ h₅=>wpAny_pure (wpAny_pure ⟨rfl,h₅⟩)) fun _ _ h'=>h'.elim)) fun _ _ h'=>h'.elim))
def kept:St→St→Prop
 | [],[]=>True
 | none :: r,_ :: r'=>kept r r'
 | some v :: r,y :: r'=>y=some v∧kept r r'
 | [],_ :: _=>False
 | _ :: _,[]=>False
theorem fU:∀ {a b:St},kept a b→a.length=b.length
 | [],[],_=>rfl
 | none :: r,_ :: r',h=>congrArg (· + 1) (fU (a:=r) (b:=r') h)
 | some v :: r,y :: r',h=>congrArg (· + 1) (fU (a:=r) (b:=r') h.2)
 | [],_ :: _,h=>False.elim h
 | none :: _,[],h=>False.elim h
 | some _ :: _,[],h=>False.elim h
theorem eM:∀ {a b:St},kept a b→∀ (i:Nat) (v:V),a[i]? = some (some v)→b[i]? = some (some v)
 | [],[],_,i,v,e=>by simp at e
 | none :: r,_ :: r',h,0,v,e=>by simp at e
 | none :: r,_ :: r',h,i + 1,v,e=>by simpa using eM (a:=r) (b:=r') h i v (by simpa using e)
 | some w :: r,y :: r',h,0,v,e=>by simp at e; subst e; simp [h.1]
 | some w :: r,y :: r',h,i + 1,v,e=>by simpa using eM (a:=r) (b:=r') h.2 i v (by simpa using e)
 | [],_ :: _,h,_,_,_=>False.elim h
 | none :: _,[],h,_,_,_=>False.elim h
 | some _ :: _,[],h,_,_,_=>False.elim h
def mG (J:It) (g:TG) (tt:TT) (te:TE) (σ0:St) (H:Hp) (Z:List V→Hp→Prop):Prop :=
 ∃ W:Nat→Nat→List V→Hp→Prop,(∃ m,W 0 m [] H)∧∀ i m acc H,W i m acc H →
  (J.stop i H∧acc.length≤sizeLine∧Z acc H)∨(J.go i H∧acc.length<sizeLine∧∃ N:List V→Hp→Prop,(∀ acc' H',N acc' H'→∃ m',m'<m∧W (i + 1) m' acc' H') ∧
   ∀ x H',J.yld i H x H'→g x σ0 H' fun σ2 H2=>kept σ0 σ2∧tt σ2 H2 fun b H3=>if b=true then te σ2 H3 fun v H4=>N (acc++[v]) H4 else N acc H3)
theorem HOk.adopt {P:Program} {w:World} {H:Hp} {h:Heap} {a:Addr} {o:HO} (x:HOk P w H h) (hn:H a=none) (new:br P w (upd H a o) h a o):HOk P w (upd H a o) h:=fun b u e=>by
 by_cases hb:b=a
 ·subst hb; rw [aG] at e; cases e; exact new
 ·rw [av hb] at e
  exact (x b u e).stay (fun c v _ q=>q) (fun c q=>by rw [av (ap q hn)]; exact q) (fun c xs q=>by rw [av (ap q hn)]; exact q) fun c ob u q=>by rw [av (ap q hn)]; exact q
theorem i9 {elt tg iter:Expr} {ifs:List Expr} {pos:Pos} {J:It} {fp:List Addr} {it:Addr} {tn:Nat→Heap→Prop} {g:TG} {tt:TT} {te:TE} {Z:List V→Hp→Prop} {E:Value→Shared→Prop}
 {RR:Value→Addr→Result→Shared→Prop} (c:CompOk X scope cl own js) (hc:X.calm=true) (I:Inv X pins σ H s) (T:Turn X.prog X.w X.K tg J fp it tn) (t0:tn 0 s.heap) (hf:∀ b∈fp,jP X pins H b)
 (inner:∀ (C:Addr) (s₀:Shared) (H₀:Hp) (ex:List Addr),PG (bI X scope cl (cZ X own js) C s₀ H₀ ex) tg g∧PIf (bI X scope cl (cZ X own js) C s₀ H₀ ex) ifs tt∧PE (bI X scope cl (cZ X own js) C s₀ H₀ ex) elt te)
 (hW:mG J g tt te (bN own js σ) H Z)
 (hRR:∀ (D C:Addr) (s':Shared) (acc:List V) (H':Hp),(∃ m,s'.heap.Ns C m)→H' D=none→Z acc H'→s.heap.objs.size≤C→C≠X.env.locals→(upd H' D (.lst acc)) C=none→(∀ h',Heap.SameBut C s'.heap h'→Inv X pins σ (upd H' D (.lst acc)) { s' with heap:=h' })→RR (.ref D) C (.ok .next) s') :
 wpAny (model X.prog X.w) X.A (newList []) (fun acc s₃=>wpAny (model X.prog X.w) X.A (newFunctionEnv scope X.env.globals cl [] X.env.qual none .none (some X.env)) (fun cenv s₄ =>
  codeAny (model X.prog X.w) X.A (.compStart (.ListComp elt [⟨tg,iter,ifs,0⟩] scope pos) 0 (.ref it) acc { cenv with scope:=relabel scope X.env }) (RR acc cenv.locals) s₄) E s₃) E s:=by
 refine wpAny_newObj_type (wpAny_newFunctionEnv c.nc (by intro y hy; simp at hy) (fun h₁ hns₁ hsb₁=>?_) c.kind)
 dsimp only at hns₁ hsb₁ ⊢
 generalize hH2:s.heap.push { cls:=.type "list",dict:=none,data:=.seq ([]:List Value).toArray } = H2 at hns₁ hsb₁ ⊢
 have hCs:H2.objs.size=s.heap.objs.size + 1:=by rw [← hH2,Heap.size_push]
 have hns₁:h₁.Ns H2.objs.size (fun _=>none):=hns₁
 have hCle:s.heap.objs.size≤H2.objs.size:=by rw [hCs]; exact Nat.le_succ _
 have hDC:s.heap.objs.size≠H2.objs.size:=by rw [hCs]; exact Nat.ne_of_lt (Nat.lt_succ_self _)
 have below:∀ b,b<s.heap.objs.size→b≠H2.objs.size∧b≠s.heap.objs.size:=fun b hb=>⟨by rw [hCs]; exact Nat.ne_of_lt (Nat.lt_succ_of_lt hb),Nat.ne_of_lt hb⟩
 have old:∀ b o,s.heap.get? b=some o→h₁.get? b=some o:=fun b o e=>hsb₁.extBut b o (below b (Heap.lt_size e)).1 (Heap.get?_push_of_some _ (hH2 ▸ Heap.get?_push_of_some _ e))
 have hD1:h₁.get? s.heap.objs.size=some { cls:=.type "list",data:=.seq ([]:List Value).toArray }:=hsb₁.extBut _ _ hDC (Heap.get?_push_of_some _ (hH2 ▸ Heap.get?_push_size _ rfl))
 have hlt:∀ b∈fp,b<s.heap.objs.size:=fun b hb=>by
  obtain ⟨o,e,_⟩:=T.obj 0 _ t0 b hb
  exact Heap.lt_size e
 have hCL:H2.objs.size≠X.env.locals:=fun z=>absurd (Nat.lt_of_lt_of_le I.lt (by rw [← z]; exact hCle)) (Nat.lt_irrefl _)
 have hDfs:s.heap.objs.size ∉ frs X.stack:=fun z=>by
  rcases List.mem_cons.mp (I.stkSub _ z) with q | q
  ·exact absurd I.lt (by rw [← q]; exact Nat.lt_irrefl _)
  ·exact I.nofs (Nat.le_refl _) q
 have hfs:∀ b∈fp,b ∉ frs X.stack:=fun b hb z=>by
  rcases List.mem_cons.mp (I.stkSub b z) with q | q
  ·exact (hf b hb).2.1 q
  ·exact (hf b hb).2.2.1 q
 have hDcell:∀ x d,cl.lookup x=some d→d≠s.heap.objs.size:=fun x d e=>by
  obtain ⟨v,q⟩:=I.cell x d (c.cells.get e)
  exact Nat.ne_of_lt q.lt
 have fresh:H s.heap.objs.size=none:=I.hok.fresh (Nat.le_refl _)
 obtain ⟨W,⟨m0,w0⟩,turn⟩:=hW
 have loop:∀ s₃:Shared,s₃ = { s with heap:=h₁,toks:=s.toks + ([]:List (Str×Value)).length } →
  codeAny (model X.prog X.w) X.A (.compLoop (.ListComp elt [⟨tg,iter,ifs,0⟩] scope pos) 0 (.ref it) (.ref s.heap.objs.size) (compEnvC scope cl H2.objs.size X.env)) (RR (.ref s.heap.objs.size) H2.objs.size) s₃:=by
  rintro s₃ rfl
  have I0:=k8 (t':=s.toks + ([]:List (Str×Value)).length) c I hf hlt hCle old hns₁
  obtain ⟨hg,hi,he⟩:=inner H2.objs.size s H fp
  generalize hY:bI X scope cl (cZ X own js) H2.objs.size s H fp=Y at I0 hg hi he
  have Yp:Y.prog=X.prog:=by rw [← hY]; rfl
  have Yw:Y.w=X.w:=by rw [← hY]; rfl
  have YK:Y.K=X.K:=by rw [← hY]; rfl
  have YA:Y.A=X.A:=by rw [← hY]; rfl
  have Ye:Y.env=compEnvC scope cl H2.objs.size X.env:=by rw [← hY]; rfl
  have Yl:Y.env.locals=H2.objs.size:=by rw [← hY]; rfl
  have Yc:Y.env.cells=cl:=by rw [← hY]; rfl
  have Yf:Y.fs=frs X.stack:=by rw [← hY]; rfl
  have Yx:Y.ex=fp:=by rw [← hY]; rfl
  have Ys:Y.s₀=s:=by rw [← hY]; rfl
  have YH:Y.H₀=H:=by rw [← hY]; rfl
  have Yn:Y.pn=[]:=by rw [← hY]; rfl
  have Yo:Y.calm=true:=by rw [← hY]; exact hc
  have YE:Y.xe=fun _ _=>False:=by rw [← hY]; rfl
  have fpY:∀ {H':Hp} (pn:List (Addr×Obj)),(∀ b∈fp,H' b=none)→(∀ b∈fp,∀ p∈pn,p.1≠b)→∀ b∈fp,jP Y pn H' b:=fun pn hn hp b hb =>
   ⟨hn b hb,by rw [Yl]; exact (below b (hlt b hb)).1,by rw [Yf]; exact hfs b hb,.inl (by rw [Yx]; exact hb),fun x d e=>(hf b hb).2.2.2.2.1 x d (c.cells.get (by rw [← Yc]; exact e)),fun p hp'=>hp b hb p (by rw [Yn] at hp'; exact hp')⟩
  refine fj (fun n s'=>∃ i acc its k H',Inv Y [] (bN own js σ) H' s'∧tn i s'.heap∧(∀ b∈fp,H' b=none)∧W i n acc H'∧H' s.heap.objs.size=none∧s'.heap.get? s.heap.objs.size=some { cls:=.type "list",data:=.seq (its:List Value).toArray k }∧aN acc its) ?_ m0
   ⟨0,[],[],0,H,I0,T.keep 0 _ _ t0 (fun b hb o e=>old b o e),fun b hb=>(hf b hb).1,w0,fresh,hD1,.nil⟩
  rintro n s' ⟨i,acc,its,k,H',I',tn',fr',w',hD',oD',hv'⟩
  have hpinD:∀ b∈fp,∀ p∈[(s.heap.objs.size,({ cls:=.type "list",data:=.seq its.toArray k }:Obj))],p.1≠b:=fun b hb p hp=>by
   rw [List.mem_singleton] at hp
   subst hp
   exact fun z=>(below b (hlt b hb)).2 z.symm
  have ID:Inv Y [(s.heap.objs.size,({ cls:=.type "list",data:=.seq its.toArray k }:Obj))] (bN own js σ) H' s':=I'.pins_of fun p hp=>by
   rw [List.mem_singleton] at hp
   subst hp
   exact ⟨oD',hD',by rw [Yl]; exact hDC,by rw [Yf]; exact hDfs,fun v z=>by cases z⟩
  rcases turn i n acc H' w' with ⟨stop,hlen,hz⟩ | ⟨go,hlen,N,hN,step⟩
  ·have hd:=T.done Y Yp Yw YK Yo i _ s' (bN own js σ) H' (fun _ _=>False) ID (fpY _ fr' hpinD) tn' stop
   rw [YA] at hd
   refine thn hd fun r s1 ⟨hr,I1⟩=>?_
   subst hr
   obtain ⟨oD1,_⟩:=I1.pin _ (List.mem_append_right _ (List.mem_singleton.mpr rfl))
   have hC0:H' H2.objs.size=none:=by have:=I1.free; rw [Yl] at this; exact this
   have B1:Un (frs X.stack) fp H H' s.heap s1.heap:=by have:=I1.base; rw [Yf,Yx,YH,Ys] at this; exact this
   refine hRR s.heap.objs.size H2.objs.size s1 acc H' (by obtain ⟨m,hn,_⟩:=I1.loc; rw [Yl] at hn; exact ⟨m,hn⟩) hD' hz hCle hCL (by rw [av (Ne.symm hDC)]; exact hC0) fun h' hsb=>?_
   have at':∀ b o,b≠H2.objs.size→s1.heap.get? b=some o→h'.get? b=some o:=fun b o hb e=>by rw [hsb.2 b hb]; exact e
   refine I.call' (s':={ s1 with heap:=h' }) (ch:=fp) (by have:=I1.os; rw [Ys] at this; exact this) ⟨fun b o q nn hb hx=>?_,fun b o q nn hb hx=>?_,fun b o q nn hx=>?_,fun b o q hx=>?_,fun b xs q=>?_,fun b o u q=>?_,fun b ps q0 q=>?_⟩ ?_ I1.bare fun b hb=>⟨(hf b hb).2.2.2.1,(hf b hb).2.1,(hf b hb).2.2.2.2.1,(hf b hb).2.2.2.2.2⟩
   ·exact at' b o (below b (Heap.lt_size q)).1 (B1.keep b o q nn hb hx)
   ·obtain ⟨sl,e⟩:=B1.slot b o q nn hb hx
    exact ⟨sl,at' b _ (below b (Heap.lt_size q)).1 e⟩
   ·rw [av (below b (Heap.lt_size q)).2]; exact B1.free b o q nn hx
   ·obtain ⟨o',e⟩:=B1.there b o q hx
    exact ⟨o',at' b _ (below b (Heap.lt_size q)).1 e⟩
   ·have q':=B1.tups b xs q
    rw [av (ap q' hD')]; exact q'
   ·have q':=B1.frzs b o u q
    rw [av (ap q' hD')]; exact q'
   ·obtain ⟨more,q'⟩:=B1.tbls b ps _ q
    exact ⟨more,by rw [av (ap q' hD')]; exact q'⟩
   ·have hok1:HOk X.prog X.w H' h':=fun a o e=>by
     have hok:=I1.hok
     rw [Yp,Yw] at hok
     refine (hok a o e).stay (fun b u hb q=>at' b u ?_ q) (fun _ q=>q) (fun _ _ q=>q) fun _ _ _ q=>q
     rcases hb with rfl | hb
     ·exact ap e hC0
     ·exact ap hb hC0
    exact hok1.adopt hD' ⟨hlen,its,k,hv',at' _ _ hDC oD1⟩
  ·have hd:=T.item Y Yp Yw YK Yo i _ s' (bN own js σ) H' (fun _ _=>False) ID (fpY _ fr' hpinD) tn' go
   rw [YA] at hd
   refine thn hd fun r s1 ⟨u,hr,h4⟩=>?_
   subst hr
   have h4:=h4
   refine thn h4 fun _ s2 ⟨x,H5,I5,r5,y5,tn5,fr5⟩=>?_
   have I5':=I5.pinned (fpY _ fr5 hpinD) (T.obj _ _ tn5)
   have hg':=hg.go _ s2 _ H5 x u _ I5' r5 (step x H5 y5)
   rw [Yp,Yw,YA,Ye,YE] at hg'
   refine thn hg' fun _ s3 ⟨σ6,H6,I6,kp6,q6⟩=>?_
   have hi':=hi.go _ s3 σ6 H6 _ I6 q6
   rw [Yp,Yw,YA,Ye,YE] at hi'
   refine thn hi' fun ok s4 ⟨H7,I7,q7⟩=>?_
   cases ok with
   | false =>
    rw [if_neg Bool.false_ne_true] at q7 ⊢
    obtain ⟨m',hm,w7⟩:=hN _ _ q7
    obtain ⟨oD7,hD7,_⟩:=I7.pin _ (List.mem_append_right _ (List.mem_append_left _ (List.mem_singleton.mpr rfl)))
    refine ⟨m',hm,i + 1,acc,its,k,H7,(I7.pins_of (pins':=[]) fun p hp=>(by cases hp)).weak (fU kp6) (eM kp6),T.keep _ _ _ tn5 fun b hb o e=>(I7.pin (b,o) (List.mem_append_right _ (List.mem_append_right _ (cm hb e)))).1,fun b hb=>?_,w7,hD7,oD7,hv'⟩
    obtain ⟨o,e,_⟩:=T.obj _ _ tn5 b hb
    exact (I7.pin (b,o) (List.mem_append_right _ (List.mem_append_right _ (cm hb e)))).2.1
   | true =>
    rw [if_pos rfl] at q7 ⊢
    have he':=he.go _ s4 σ6 H7 _ I7 q7
    rw [Yp,Yw,YA,Ye,YE] at he'
    refine thn he' fun v s5 ⟨xv,H8,I8,r8,n8⟩=>?_
    obtain ⟨m',hm,w8⟩:=hN _ _ n8
    obtain ⟨oD8,hD8,_⟩:=I8.pin _ (List.mem_append_right _ (List.mem_append_left _ (List.mem_singleton.mpr rfl)))
    have hsz:its.toArray.size<sizeLine:=by rw [List.size_toArray,← hv'.length]; exact hlen
    refine call_meets F.slot_list_append ⟨_,oD8,rfl⟩ F.entry_list_append (F.args_list_append_2 _ _) (PySem.list_append s.heap.objs.size its.toArray k v (Nat.le_of_lt hsz)) ⟨oD8,?_⟩
    have q:=PySem.IsL.update oD8 (fun a=>a.push v)
    have J8:Inv Y (ia fp s2.heap) σ6 H8 s5:=I8.pins_of fun p hp=>I8.pin p (List.mem_append_right _ (List.mem_append_right _ hp))
    have ne8:∀ b,b∈fp→b≠s.heap.objs.size:=fun b hb=>(below b (hlt b hb)).2
    have J9:=J8.turned (t':=s5.toks) (h':=s5.heap.update s.heap.objs.size (Obj.mapSeq fun a=>a.push v)) (it:=s.heap.objs.size) (fun b o hb e=>(Heap.get?_update_other s5.heap _ (Ne.symm hb)).trans e) hD8 (by rw [Yl]; exact hDC) (.inr (by rw [Ys]; exact Nat.le_refl _)) (fun x d e=>hDcell x d (by rw [← Yc]; exact e))
     (fun p hp=>by
      rw [Yn,List.nil_append] at hp
      obtain ⟨hb,_⟩:=iT hp
      exact ne8 _ hb)
    have keep9:∀ b o,b∈fp→s2.heap.get? b=some o→(s5.heap.update s.heap.objs.size (Obj.mapSeq fun a=>a.push v)).get? b=some o:=fun b o hb e=>(J9.pin (b,o) (List.mem_append_right _ (cm hb e))).1
    refine ⟨m',hm,i + 1,acc++[xv],its++[v],(if ((its++[v]).toArray.size == its.toArray.size)=true then k else k + 1),H8,(J9.pins_of (pins':=[]) fun p hp=>(by cases hp)).weak (fU kp6) (eM kp6),T.keep _ _ _ tn5 fun b hb o e=>keep9 b o hb e,fun b hb=>?_,w8,hD8,?_,hv'.append (.cons r8 .nil)⟩
    ·obtain ⟨o,e,_⟩:=T.obj _ _ tn5 b hb
     exact (J9.pin (b,o) (List.mem_append_right _ (cm hb e))).2.1
    ·have q':=q
     simp only [List.push_toArray] at q'
     exact q'
 exact codeAny_compStart_list (loop _ rfl) (T.self _ 0 _ _ _ (T.keep 0 _ _ t0 (fun b hb o e=>old b o e)) (loop _ rfl))
def kW (wi:TI) (g:TG) (tt:TT) (te:TE) (own:List Str) (js:List Nat):TE:=fun σ H Q=>wi σ H fun J H1=>mG J g tt te (bN own js σ) H1 fun acc H2=>∀ p,H2 p=none→Q (.ref p) (upd H2 p (.lst acc))
theorem jq {elt tg iter:Expr} {ifs:List Expr} {pos:Pos} {wi:TI} {g:TG} {tt:TT} {te:TE} (own:List Str) (js:List Nat) (c:CompOk X scope cl own js) (hc:X.calm=true) (hi:PI X tg iter wi)
 (inner:∀ (C:Addr) (s₀:Shared) (H₀:Hp) (ex:List Addr),PG (bI X scope cl (cZ X own js) C s₀ H₀ ex) tg g∧PIf (bI X scope cl (cZ X own js) C s₀ H₀ ex) ifs tt∧PE (bI X scope cl (cZ X own js) C s₀ H₀ ex) elt te)
 (hs:∀ x,foldedSetIterable iter X.env x=pure x:=by intro _; rfl):PE X (.ListComp elt [⟨tg,iter,ifs,0⟩] scope pos) (kW wi g tt te own js):=by
 refine ⟨fun pins s σ H Q I h=>?_⟩
 rw [eval_ListComp]
 refine wpAny_comprehension_free (use:=none) rfl hs c.clos c.kind c.names (thn (hi.go pins s σ H _ I h) fun v s1 h1=>thn h1 fun itv s2 h2=>?_)
 obtain ⟨it,fp,tn,J,H2,e,I2,T,st2,f2,hW⟩:=h2
 subst e
 refine i9 (RR:=fun acc C=>compPost (model X.prog X.w) X.A X.xe none (EP X pins σ Q) acc C) c hc I2 T st2 f2 inner hW ?_
 intro D C s' acc H' hn hD hz hDC hCL hUC hI
 exact ⟨hn.choose,hn.choose_spec,fun h' hsb=>⟨.ref D,_,hI h' hsb,rfl,hz D hD⟩⟩
theorem k7 {elt tg iter:Expr} {ifs:List Expr} {pos spos py:Pos} {wi:TI} {g:TG} {tt:TT} {te:TE} {i:Nat} {y:Str} (own:List Str) (js:List Nat) (c:CompOk X scope cl own js) (hc:X.calm=true) (hN:X.N.Nodup) (hy:X.N[i]? = some y) (hx:Loc X.env.scope y) (hi:PI X tg iter wi)
 (inner:∀ (C:Addr) (s₀:Shared) (H₀:Hp) (ex:List Addr),PG (bI X scope cl (cZ X own js) C s₀ H₀ ex) tg g∧PIf (bI X scope cl (cZ X own js) C s₀ H₀ ex) ifs tt∧PE (bI X scope cl (cZ X own js) C s₀ H₀ ex) elt te)
 (hsw:swapsWith (.ListComp elt [⟨tg,iter,ifs,0⟩] scope pos) (some (.Name y py)) spos.line X.env=pure true:=by rfl)
 (hs:∀ x,foldedSetIterable iter X.env x=pure x:=by intro _; rfl) (hf:X.fn y=true∨X.env.scope.names.lookup y=some .local:=by first | exact .inl rfl | exact .inr rfl | assumption) :
 PS X (.Assign [.Name y py] (.ListComp elt [⟨tg,iter,ifs,0⟩] scope pos) spos) (qS (kW wi g tt te own js) (hU i)):=by
 refine ⟨fun pins s σ H D I h=>?_⟩
 rw [exec_Assign_Name_used _ _ _ _ hsw]
 refine wpAny_bind (wpAny_standAt (wpAny_bind ?_))
 show wpAny _ X.A (do let _ ← comprehension (.ListComp elt [⟨tg,iter,ifs,0⟩] scope pos) scope X.env _ (newList []) false (eval iter X.env) (some (assign (.Name y py) X.env))) _ _ s
 refine wpAny_bind (wpAny_mono (wpAny_comprehension_free (use:=some (assign (.Name y py) X.env)) (Q:=fun _ s'=>SP X pins D .next s') rfl hs c.clos c.kind c.names
  (thn (hi.go pins s σ H _ I h) fun v s1 h1=>thn h1 fun itv s2 h2=>?_)) (fun _ s' hq=>wpAny_pure (wpAny_pure hq)) fun _ _ e=>e)
 obtain ⟨it,fp,tn,J,H2,e,I2,T,st2,f2,hW⟩:=h2
 subst e
 refine i9 (RR:=fun acc C=>compPost (model X.prog X.w) X.A X.xe (some (assign (.Name y py) X.env)) (fun _ s'=>SP X pins D .next s') acc C) c hc I2 T st2 f2 inner hW ?_
 intro D' C s' acc H' hn hD hz hDC hCL hUC hI
 show wpAny _ X.A (assign (.Name y py) X.env (.ref D')) _ _ _
 have I9:=hI s'.heap (Heap.SameBut.refl _ _)
 obtain ⟨m,hm⟩:=hn
 refine wpAny_assign_Name (i8 (v:=.ref D') I9 hN hy hx rfl (fun s'' I'' ⟨a,sb,ha⟩=>?_) hf)
 have aC:C≠a:=by
  rcases ha with ha | ha
  ·rw [ha]; exact hCL
  ·intro z
   subst z
   obtain ⟨v,q⟩:=I2.cell y C ha
   exact absurd (Nat.lt_of_lt_of_le q.lt hDC) (Nat.lt_irrefl _)
 refine ⟨m,hm.sameBut sb aC,fun h' hsb=>?_⟩
 refine ⟨σ.set i (some (.ref D')),upd H' D' (.lst acc),I''.turned (t':=s''.toks) (it:=C) (fun b o hb e=>by rw [hsb.2 b hb]; exact e) ?_ hCL (.inr (Nat.le_trans I2.sz hDC)) (fun x d e z=>?_) (fun p hp z=>?_),hz D' hD⟩
 ·exact hUC
 ·obtain ⟨v,q⟩:=I2.cell x d e
  rw [z] at q
  exact absurd (Nat.lt_of_lt_of_le q.lt hDC) (Nat.lt_irrefl _)
 ·have q:=Heap.lt_size (I2.pin p hp).1
  rw [z] at q
  exact absurd (Nat.lt_of_lt_of_le q hDC) (Nat.lt_irrefl _)
end
def Ite (a:Addr):It :=
 ⟨fun i H=>∃ xs x,H a=some (.lst xs)∧xs[i]? = some x,fun i H v H'=>∃ p x,H p=none∧v = .ref p∧H'=upd H p (.tup [.int i,x])∧∀ xs,H a=some (.lst xs)→xs[i]? = some x,fun i H=>∃ xs,H a=some (.lst xs)∧xs.length≤i⟩
theorem nM {P:Program} {w:World} {K:PySem.W.Frag} {es:List Expr} {k:Nat} {pos:Pos} (a e it:Addr) (hne:e≠it) :
 Turn P w K (.Tuple es k pos) (Ite a) [e,it] e (fun i h=>(∃ old,IsEnum h e it i old)∧h.IsListIter it a i) where
 mem:=by simp
 obj:=fun i h st b hb=>by
  rw [List.mem_cons,List.mem_singleton] at hb
  rcases hb with rfl | rfl
  ·obtain ⟨⟨old,q⟩,_⟩:=st
   exact ⟨_,q,fun v z=>by cases z⟩
  ·obtain ⟨_,o,q,c,d⟩:=st
   exact ⟨o,q,fun v z=>by rw [d] at z; cases z⟩
 keep:=fun i h h' st kp=>⟨by obtain ⟨old,q⟩:=st.1; exact ⟨old,kp e (by simp) _ q⟩,st.2.at fun o q=>kp it (by simp) o q⟩
 item:=by
  intro X hP hw hK hc i pins s σ H E I hf st hg
  subst hP hw hK
  obtain ⟨xs,x,hq,hx⟩:=hg
  obtain ⟨⟨old,he⟩,hit⟩:=st
  obtain ⟨its,rv,p,hz⟩:=I.list (SqL.of hq)
  obtain ⟨u,hu,ru⟩:=rv.get hx
  obtain ⟨f0,f1,f2,f3,f4,f5⟩:=hf e (by simp)
  obtain ⟨g0,g1,g2,g3,g4,g5⟩:=hf it (by simp)
  refine wpAny_pyNext_enum_item he hit p.isList (x:=u) (by simpa using hu) hne fun h' eo it' ht hsz hk=>?_
  refine ⟨.ref s.heap.objs.size,rfl,?_⟩
  refine wpAny_letOwnedTupleGo_enum eo fun h2 he2 hs2=>?_
  have fr:H s.heap.objs.size=none:=I.hok.fresh (Nat.le_refl _)
  have ne2:∀ b,b<s.heap.objs.size→b≠s.heap.objs.size:=fun b hb=>Nat.ne_of_lt hb
  have ee:e<s.heap.objs.size:=Heap.lt_size he
  have k2:∀ b o,b≠e→b≠it→s.heap.get? b=some o→h2.get? b=some o:=fun b o h1 h2' q=>(hs2.2 b h1).trans (hk b o h1 h2' q)
  have ht2:h2.get? s.heap.objs.size=some { cls:=.type "tuple",data:=.seq #[.int i s.toks,u] }:=(hs2.2 _ (Nat.ne_of_gt ee)).trans ht
  have trk:∀ b v,H b=some v→b≠e∧b≠it:=fun b v q=>⟨ap q f0,ap q g0⟩
  have hok0:HOk X.prog X.w H h2:=fun b o q=>(I.hok b o q).stay (fun c v hc q'=>by
   rcases hc with rfl | hc
   ·exact k2 c v (trk c _ q).1 (trk c _ q).2 q'
   ·exact k2 c v (trk c _ hc).1 (trk c _ hc).2 q') (fun _ z=>z) (fun _ _ z=>z) fun _ _ _ z=>z
  have I1:Inv X pins σ (upd H s.heap.objs.size (.tup [.int i,x])) { s with heap:=h2,toks:=s.toks + 1 }:=by
   refine I.step (g':=s.gens) (d':=s.drawn) (ch:=[e,it]) (fun b hb=>?_) (fun b o _ _ hc q _=>k2 b o (fun z=>hc (by simp [z])) (fun z=>hc (by simp [z])) q) (fun b o _ _ hc q _=>⟨o.slots,k2 b o (fun z=>hc (by simp [z])) (fun z=>hc (by simp [z])) q⟩)
    (fun b o _ q n=>by rw [av (ne2 b (Heap.lt_size q))]; exact n) (fun b o hc q=>⟨o,k2 b o (fun z=>hc (by simp [z])) (fun z=>hc (by simp [z])) q⟩) (fun b ys q=>by rw [av (ap q fr)]; exact q) (fun b o v q=>by rw [av (ap q fr)]; exact q)
    (fun b ps _ q=>⟨#[],by rw [av (ap q fr),q]; simp⟩) (fun m hm=>?_) ?_ I.bare
   ·rw [List.mem_cons,List.mem_singleton] at hb
    rcases hb with rfl | rfl
    ·exact ⟨f3,f1,f4,f5⟩
    ·exact ⟨g3,g1,g4,g5⟩
   ·obtain ⟨o,es',ep,ho,r⟩:=hm
    exact ⟨o,es',ep,k2 _ o (Ne.symm f1) (Ne.symm g1) ho,r⟩
   ·exact hok0.adopt fr ⟨by show 2≤sizeLine; decide,[.int i s.toks,u],.cons ⟨_,rfl⟩ (.cons ru .nil),⟨_,ht2,rfl,_,rfl⟩⟩
  refine ⟨.ref s.heap.objs.size,_,I1,rfl,⟨_,x,fr,rfl,rfl,fun ys hy=>by rw [hq] at hy; cases hy; exact hx⟩,⟨⟨_,by simpa using he2⟩,it'.extBut hs2.extBut (Ne.symm hne)⟩,fun b hb=>?_⟩
  have:H b=none:=(hf b hb).1
  have hb':b<s.heap.objs.size:=by
   rw [List.mem_cons,List.mem_singleton] at hb
   rcases hb with rfl | rfl
   ·exact ee
   ·obtain ⟨o,q,_⟩:=hit; exact Heap.lt_size q
  rw [av (ne2 b hb')]
  exact this
 done:=by
  intro X hP hw hK hc i pins s σ H E I hf st hg
  subst hP hw hK
  obtain ⟨xs,hq,hx⟩:=hg
  obtain ⟨⟨old,he⟩,hit⟩:=st
  obtain ⟨its,rv,p,hz⟩:=I.list (SqL.of hq)
  obtain ⟨g0,g1,g2,g3,g4,g5⟩:=hf it (by simp)
  have hl:=rv.length
  exact wpAny_pyNext_enum_end (I.ok.hd hc) he hit p.isList (by simp; omega) fun h' eb=>⟨rfl,I.turned (t':=s.toks) (fun b o hb e=>eb b o hb e) g0 g1 g3 g4 g5⟩
 self:=fun _ _ _ _ _ st h=>by
  obtain ⟨⟨old,he⟩,_⟩:=st
  exact wpAny_pyIter_enum he h
section
variable {X:Cx} {es:List Expr} {k:Nat} {tpos:Pos}
def iEnum (ta:TA):TI:=fun σ H R=>ta σ H fun vs H1=>∃ a,vs=[.ref a]∧(∃ xs,H1 a=some (.lst xs))∧R (Ite a) H1
theorem rU {l:Expr} {ta:TA} {p pos:Pos} (hg:Gl X "enumerate") (hm:X.mg "enumerate" = none) (ha:PA X [l] ta) (hs:starEach [l] X.env=[(false,eval l X.env)]:=by rfl):PI X (.Tuple es k tpos) (.Call (.Name "enumerate" p) [l] [] pos) (iEnum ta):=by
 refine ⟨fun pins s σ H R I h=>?_⟩
 refine wpAny_Call_Name_kw (dG I hg hm jC ?_)
 refine PyProof.Rows.callWith_type1 (thn (ha pos pins s σ H _ I h) fun us s1 ⟨vs,H1,I1,r1,a,e,⟨xs,hx⟩,q⟩=>?_) hs rfl
 subst e
 obtain ⟨u,rfl,ru⟩:=dr r1
 cases ru
 obtain ⟨_,its,n,rv,ho⟩:=(show br X.prog X.w H1 s1.heap a (.lst xs) from I1.hok a _ hx)
 refine call_enumerate_1 ho fun h' he hit hsz hk=>?_
 have I2:Inv X pins σ H1 { s1 with heap:=h' }:=I1.kept (t':=s1.toks) hk
 refine wpAny_pyIter_enum he ⟨s1.heap.objs.size + 1,[s1.heap.objs.size + 1,s1.heap.objs.size],_,Ite a,H1,rfl,I2,nM a (s1.heap.objs.size + 1) s1.heap.objs.size (Nat.succ_ne_self _),⟨⟨_,he⟩,hit⟩,fun b hb=>?_,q⟩
 have hb':s1.heap.objs.size≤b:=by
  rw [List.mem_cons,List.mem_singleton] at hb
  rcases hb with rfl | rfl <;> omega
 have z:=I1.fpOk (H':=H1) hb' (I1.hok.fresh hb')
 exact z
end
mutual
def toP:D→PyData
 | .non=>.none
 | .bl b=>.bool b
 | .int i=>.int i
 | .str x=>.str x
 | .tup ds=>.tuple (toPs ds)
 | .lst ds=>.list (toPs ds)
 | .dct=>.dict []
 | .dic _ _=>.dict []
 | .scr _ _=>.dict []
 | .ext _=>.dict []
def toPs:List D→List PyData
 | []=>[]
 | d :: ds=>toP d :: toPs ds
end
mutual
theorem dQ {X:Cx} {pins:List (Addr×Obj)} {σ:St} {H:Hp} {s:Shared} (I:Inv X pins σ H s):∀ (d:D) (v:V) (u:Value),Rep H d v→a7 v u→(toP d).canLay0=true→∃ as,Reads s.heap u (toP d) as
 | .non,v,u,h,r,_=>by rw [Rep] at h; subst h; cases r; rw [toP]; exact ⟨_,.none⟩
 | .bl b,v,u,h,r,_=>by rw [Rep] at h; subst h; cases r; rw [toP]; exact ⟨_,.bool b⟩
 | .int i,v,u,h,r,_=>by rw [Rep] at h; subst h; obtain ⟨t,rfl⟩:=r; rw [toP]; exact ⟨_,.int i t⟩
 | .str x,v,u,h,r,_=>by rw [Rep] at h; subst h; obtain ⟨t,rfl⟩:=r; rw [toP]; exact ⟨_,.str x t⟩
 | .tup ds,v,u,h,r,c=>by
  rw [Rep] at h
  obtain ⟨a,xs,rfl,ha,hx⟩:=h
  cases r
  rw [toP] at c ⊢
  obtain ⟨_,its,rv,o,e1,e2,n,e3⟩:=(show br X.prog X.w H s.heap a (.tup xs) from I.hok a _ ha)
  obtain ⟨as,q⟩:=reps_reads I ds xs its hx rv (by rw [PyData.canLay0] at c; exact c)
  exact ⟨_,reads_tuple_at e1 e2 e3 (by simpa using q)⟩
 | .lst ds,v,u,h,r,c=>by
  rw [Rep] at h
  obtain ⟨a,xs,rfl,ha,hx⟩:=h
  cases r
  rw [toP] at c ⊢
  obtain ⟨_,its,n,rv,e1⟩:=(show br X.prog X.w H s.heap a (.lst xs) from I.hok a _ ha)
  obtain ⟨as,q⟩:=reps_reads I ds xs its hx rv (by rw [PyData.canLay0] at c; exact c)
  exact ⟨_,reads_list_at e1 rfl rfl (by simpa using q)⟩
 | .dct,v,u,h,r,c=>by rw [toP,PyData.canLay0] at c; cases c
 | .dic _ _,v,u,h,r,c=>by rw [toP,PyData.canLay0] at c; cases c
 | .scr _ _,v,u,h,r,c=>by rw [toP,PyData.canLay0] at c; cases c
 | .ext _,v,u,h,r,c=>by rw [toP,PyData.canLay0] at c; cases c
theorem reps_reads {X:Cx} {pins:List (Addr×Obj)} {σ:St} {H:Hp} {s:Shared} (I:Inv X pins σ H s):∀ (ds:List D) (vs:List V) (us:List Value),Reps H ds vs→aN vs us→PyData.canLayAll0 (toPs ds)=true→∃ as,ReadsAll s.heap us (toPs ds) as
 | [],vs,us,h,r,_=>by rw [Reps] at h; subst h; cases r; rw [toPs]; exact ⟨_,.nil⟩
 | d :: ds,vs,us,h,r,c=>by
  rw [Reps] at h
  obtain ⟨v,vs',rfl,h1,h2⟩:=h
  rw [toPs] at c ⊢
  rw [PyData.canLayAll0,Bool.and_eq_true] at c
  cases r with
  | cons r1 r2 =>
   obtain ⟨as,q1⟩:=dQ I d v _ h1 r1 c.1
   obtain ⟨bs,q2⟩:=reps_reads I ds vs' _ h2 r2 c.2
   exact ⟨_,.cons q1 q2⟩
end
section
variable {X:Cx}
def rEqD:R2:=fun x y H Q=>∃ d e,Rep H d x∧Rep H e y∧SeqAt.shaped (toP d)=true∧SeqAt.shaped (toP e)=true∧Q (.bl (PyData.eqv (toP d) (toP e))) H
def rNeD:R2:=fun x y H Q=>∃ d e,Rep H d x∧Rep H e y∧SeqAt.shaped (toP d)=true∧SeqAt.shaped (toP e)=true∧Q (.bl (!PyData.eqv (toP d) (toP e))) H
theorem gi (hu:X.A.units + 64<cLine):OpR X (compareOp .Eq) rEqD:=by
 intro pins s σ H x y v u Q I rx ry h
 obtain ⟨d,e,h1,h2,c1,c2,q⟩:=h
 obtain ⟨as,r1⟩:=dQ I d x v h1 rx (SeqAt.canLay_of_shaped c1)
 obtain ⟨bs,r2⟩:=dQ I e y u h2 ry (SeqAt.canLay_of_shaped c2)
 exact eq_dataH r1 r2 c1 c2 hu ⟨.bl _,H,I,rfl,q⟩
theorem c_ (hu:X.A.units + 64<cLine):OpR X (compareOp .NotEq) rNeD:=by
 intro pins s σ H x y v u Q I rx ry h
 obtain ⟨d,e,h1,h2,c1,c2,q⟩:=h
 obtain ⟨as,r1⟩:=dQ I d x v h1 rx (SeqAt.canLay_of_shaped c1)
 obtain ⟨bs,r2⟩:=dQ I e y u h2 ry (SeqAt.canLay_of_shaped c2)
 exact ne_dataH r1 r2 c1 c2 hu ⟨.bl _,H,I,rfl,q⟩
end
def af (ns:List Int):D:=.lst (ns.map .int)
theorem f9 (ns:List Int):toPs (ns.map .int)=ns.map .int:=by
 induction ns with
 | nil=>rw [List.map_nil,toPs]; rfl
 | cons n r ih=>rw [List.map_cons,toPs,ih,toP]; rfl
theorem pI (ns:List Int):PyData.canLayAll0 (ns.map .int)=true∧PyData.depthAll (ns.map .int)≤1:=by
 induction ns with
 | nil=>simp [PyData.canLayAll0,PyData.depthAll]
 | cons n r ih=>simp only [List.map_cons,PyData.canLayAll0,PyData.canLay0,PyData.depthAll,PyData.depth,ih.1,Bool.and_self,true_and]; have:=ih.2; omega
theorem oY (ns ms:List Int):PyData.eqvAll (ns.map .int) (ms.map .int)=decide (ns=ms):=by
 induction ns generalizing ms with
 | nil=>cases ms <;> simp [PyData.eqvAll]
 | cons n r ih =>
  cases ms with
  | nil=>simp [PyData.eqvAll]
  | cons m q =>
   rw [List.map_cons,List.map_cons,PyData.eqvAll,PyData.eqv,ih]
   by_cases h:n=m
   ·subst h; simp
   ·simp [h]
theorem kJ (ns:List Int):SeqAt.shaped (toP (af ns))=true:=by
 have h:=pI ns
 unfold SeqAt.shaped af
 rw [toP,f9,PyData.canLay0,PyData.depth,h.1,Bool.true_and]
 exact decide_eq_true (by have:=h.2; omega)
theorem rJ (ns ms:List Int):PyData.eqv (toP (af ns)) (toP (af ms))=decide (ns=ms):=by
 unfold af
 rw [toP,toP,f9,f9,PyData.eqv,oY]
theorem cn {H:Hp}:∀ ns:List Int,Reps H (ns.map .int) (ns.map V.int)
 | []=>bz
 | n :: r=>bi (bn n) (cn r)
def aZ (ns ms:List Int):D:=.tup [af ns,af ms]
section
variable {X:Cx}
theorem kK:bT X (.type "range") (fun xs H Q=>∃ j:Int,xs=[.int j]∧∀ p,H p=none→Q (.ref p) (upd H p (.rng 0 j))):=by
 intro pins s σ H xs us Q I r h
 obtain ⟨j,rfl,q⟩:=h
 obtain ⟨u,rfl,t,rfl⟩:=dr r
 refine call_range_1 ⟨.ref s.heap.objs.size,_,I.laid (a:=s.heap.objs.size) (o:=.rng 0 j) (fun _ _ e=>Heap.get?_push_of_some _ e) (Nat.le_refl _) ⟨_,_,_,Heap.get?_push_size _ rfl⟩,rfl,q _ (I.hok.fresh (Nat.le_refl _))⟩
def iL (lo:Int) (n:Nat):List Int:=(List.range n).map fun (i:Nat)=>lo + i
theorem gC:∀ {xs:List V} {us:List Value},xs.length=us.length→(∀ (i:Nat) x u,xs[i]? = some x→us[i]? = some u→a7 x u)→aN xs us
 | [],[],_,_=>.nil
 | x :: xs,u :: us,hl,h=>.cons (h 0 x u rfl rfl) (gC (by simpa using hl) fun i x' u' e1 e2=>h (i + 1) x' u' (by simpa using e1) (by simpa using e2))
 | [],_ :: _,hl,_=>by simp at hl
 | _ :: _,[],hl,_=>by simp at hl
theorem iH (hc:X.calm=true):bT X (.type "list") (fun xs H Q=>∃ (r:Addr) (j:Int),xs=[.ref r]∧H r=some (.rng 0 j)∧0≤j∧j≤1000∧∀ p,H p=none→Q (.ref p) (upd H p (.lst ((iL 0 j.toNat).map V.int)))):=by
 intro pins s σ H xs us Q I r h
 obtain ⟨a,j,rfl,ha,h0,h1,q⟩:=h
 obtain ⟨u,rfl,ru⟩:=dr r
 cases ru
 obtain ⟨t,u,v,e⟩:=(show br X.prog X.w H s.heap a (.rng 0 j) from I.hok a _ ha)
 refine call_list_range (n:=j.toNat) (I.ok.hd hc) e (small_one (by decide) (by decide) (by omega) (by omega)) (by rw [rangeSize_one]; split <;> omega) (by omega) fun h' tk acc' c' hk hS hacc=>?_
 refine ⟨.ref s.heap.objs.size,_,I.laid (a:=s.heap.objs.size) (o:=.lst ((iL 0 j.toNat).map V.int)) hk (Nat.le_refl _) ?_,rfl,q _ (I.hok.fresh (Nat.le_refl _))⟩
 have hl:((iL 0 j.toNat).map V.int).length=j.toNat:=by simp [iL]
 refine ⟨Nat.le_of_lt (bY (by rw [hl]; omega)),acc'.toList,c',gC (by rw [hl]; simpa using hacc.1.symm) (fun i x w e1 e2=>?_),by simpa using hS⟩
 have e3:=hacc.2 i w (by simpa using e2)
 obtain ⟨t',rfl⟩:=e3
 rw [List.getElem?_map] at e1
 unfold iL at e1
 rw [List.getElem?_map] at e1
 have hi:i<j.toNat:=by
  cases z:(List.range j.toNat)[i]? with
  | none=>rw [z] at e1; cases e1
  | some k=>have:=(List.getElem?_eq_some_iff.mp z).1; simpa using this
 rw [List.getElem?_range hi] at e1
 have e1':V.int (0 + (i:Int))=x:=Option.some.inj e1
 subst e1'
 exact ⟨t',by simp⟩
end
abbrev DSt:=List (Option D)
abbrev Own:=Addr→Option (Nat×List Nat)
mutual
def Sep (G H:Hp) (O:Own) (i:Nat):D→List Nat→V→Prop
 | .non,_,v=>v = .non
 | .bl b,_,v=>v = .bl b
 | .int n,_,v=>v = .int n
 | .str x,_,v=>v = .str x
 | .tup ds,π,v=>∃ a xs,v = .ref a∧G a=some (.tup xs)∧Seps G H O i ds 0 π xs
 | .lst ds,π,v=>∃ a xs,v = .ref a∧O a=some (i,π)∧H a=some (.lst xs)∧Seps G H O i ds 0 π xs
 | .dct,_,_=>False
 | .dic ks ds,π,v=>∃ a xs,v = .ref a∧O a=some (i,π)∧H a=some (.dK (ks.zip xs))∧ks.length=ds.length∧Seps G H O i ds 0 π xs
 | .scr _ _,_,_=>False
 | .ext _,_,_=>False
def Seps (G H:Hp) (O:Own) (i:Nat):List D→Nat→List Nat→List V→Prop
 | [],_,_,xs=>xs=[]
 | d :: ds,k,π,xs=>∃ v vs,xs=v :: vs∧Sep G H O i d (k :: π) v∧Seps G H O i ds (k + 1) π vs
end
def cK (G G':Hp):Prop:=∀ a xs,G a=some (.tup xs)→G' a=some (.tup xs)
theorem aI.ts {G G':Hp} (h:aI G G'):cK G G':=fun a xs e=>h a _ e
mutual
theorem Sep.map {G H G' H':Hp} {O O':Own} {i i':Nat} {f:List Nat→List Nat} (hG:cK G G') (hf:∀ k π,f (k :: π)=k :: f π) :
 ∀ (d:D) (π:List Nat) (v:V),(∀ a τ,O a=some (i,τ++π)→O' a=some (i',f (τ++π))∧H' a=H a)→Sep G H O i d π v→Sep G' H' O' i' d (f π) v
 | .non,_,_,_,h=>by rw [Sep] at *; exact h
 | .bl b,_,_,_,h=>by rw [Sep] at *; exact h
 | .int n,_,_,_,h=>by rw [Sep] at *; exact h
 | .str x,_,_,_,h=>by rw [Sep] at *; exact h
 | .tup ds,π,v,hO,h=>by
  rw [Sep] at *
  obtain ⟨a,xs,h1,h2,h3⟩:=h
  exact ⟨a,xs,h1,hG _ _ h2,Seps.map hG hf ds 0 π xs (fun a τ _=>hO a τ) h3⟩
 | .lst ds,π,v,hO,h=>by
  rw [Sep] at *
  obtain ⟨a,xs,h1,h2,h3,h4⟩:=h
  have q:=hO a [] h2
  exact ⟨a,xs,h1,q.1,q.2.trans h3,Seps.map hG hf ds 0 π xs (fun a τ _=>hO a τ) h4⟩
 | .dic ks ds,π,v,hO,h=>by
  rw [Sep] at *
  obtain ⟨a,xs,h1,h2,h3,h5,h4⟩:=h
  have q:=hO a [] h2
  exact ⟨a,xs,h1,q.1,q.2.trans h3,h5,Seps.map hG hf ds 0 π xs (fun a τ _=>hO a τ) h4⟩
 | .dct,_,_,_,h=>by rw [Sep] at h; exact h.elim
 | .scr _ _,_,_,_,h=>by rw [Sep] at h; exact h.elim
 | .ext _,_,_,_,h=>by rw [Sep] at h; exact h.elim
theorem Seps.map {G H G' H':Hp} {O O':Own} {i i':Nat} {f:List Nat→List Nat} (hG:cK G G') (hf:∀ k π,f (k :: π)=k :: f π) :
 ∀ (ds:List D) (k:Nat) (π:List Nat) (xs:List V),(∀ a τ,τ≠[]→O a=some (i,τ++π)→O' a=some (i',f (τ++π))∧H' a=H a)→Seps G H O i ds k π xs→Seps G' H' O' i' ds k (f π) xs
 | [],_,_,_,_,h=>by rw [Seps] at *; exact h
 | d :: ds,k,π,xs,hO,h=>by
  rw [Seps] at *
  obtain ⟨v,vs,h1,h2,h3⟩:=h
  refine ⟨v,vs,h1,?_,Seps.map hG hf ds (k + 1) π vs hO h3⟩
  rw [← hf]
  refine Sep.map hG hf d (k :: π) v (fun a τ e=>?_) h2
  have e' : τ++k :: π=(τ++[k])++π:=by simp
  rw [e'] at e ⊢
  exact hO a (τ++[k]) (by simp) e
end
theorem Sep.keep {G H G' H':Hp} {O O':Own} {i i':Nat} {d:D} {π:List Nat} {v:V} (hG:cK G G') (hO:∀ a τ,O a=some (i,τ++π)→O' a=some (i',τ++π)∧H' a=H a) (h:Sep G H O i d π v):Sep G' H' O' i' d π v :=
 Sep.map (f:=id) hG (fun _ _=>rfl) d π v hO h
theorem Seps.keep {G H G' H':Hp} {O O':Own} {i i':Nat} {ds:List D} {k:Nat} {π:List Nat} {xs:List V} (hG:cK G G') (hO:∀ a τ,τ≠[]→O a=some (i,τ++π)→O' a=some (i',τ++π)∧H' a=H a) (h:Seps G H O i ds k π xs):Seps G' H' O' i' ds k π xs :=
 Seps.map (f:=id) hG (fun _ _=>rfl) ds k π xs hO h
mutual
theorem Sep.rep {G H G':Hp} {O:Own} {i:Nat} (hG:cK G G'):∀ (d:D) (π:List Nat) (v:V),(∀ a τ (o:HO),O a=some (i,τ++π)→H a=some o→G' a=some o)→Sep G H O i d π v→Rep G' d v
 | .non,_,_,_,h=>by rw [Sep] at h; rw [Rep]; exact h
 | .bl b,_,_,_,h=>by rw [Sep] at h; rw [Rep]; exact h
 | .int n,_,_,_,h=>by rw [Sep] at h; rw [Rep]; exact h
 | .str x,_,_,_,h=>by rw [Sep] at h; rw [Rep]; exact h
 | .tup ds,π,v,hO,h=>by
  rw [Sep] at h; rw [Rep]
  obtain ⟨a,xs,h1,h2,h3⟩:=h
  exact ⟨a,xs,h1,hG _ _ h2,Seps.rep hG ds 0 π xs (fun a τ ys _=>hO a τ ys) h3⟩
 | .lst ds,π,v,hO,h=>by
  rw [Sep] at h; rw [Rep]
  obtain ⟨a,xs,h1,h2,h3,h4⟩:=h
  exact ⟨a,xs,h1,hO a [] _ h2 h3,Seps.rep hG ds 0 π xs (fun a τ ys _=>hO a τ ys) h4⟩
 | .dic ks ds,π,v,hO,h=>by
  rw [Sep] at h; rw [Rep]
  obtain ⟨a,xs,h1,h2,h3,h5,h4⟩:=h
  exact ⟨a,xs,h1,hO a [] _ h2 h3,h5,Seps.rep hG ds 0 π xs (fun a τ ys _=>hO a τ ys) h4⟩
 | .dct,_,_,_,h=>by rw [Sep] at h; exact h.elim
 | .scr _ _,_,_,_,h=>by rw [Sep] at h; exact h.elim
 | .ext _,_,_,_,h=>by rw [Sep] at h; exact h.elim
theorem Seps.rep {G H G':Hp} {O:Own} {i:Nat} (hG:cK G G'):∀ (ds:List D) (k:Nat) (π:List Nat) (xs:List V),(∀ a τ (o:HO),τ≠[]→O a=some (i,τ++π)→H a=some o→G' a=some o)→Seps G H O i ds k π xs→Reps G' ds xs
 | [],_,_,_,_,h=>by rw [Seps] at h; rw [Reps]; exact h
 | d :: ds,k,π,xs,hO,h=>by
  rw [Seps] at h; rw [Reps]
  obtain ⟨v,vs,h1,h2,h3⟩:=h
  refine ⟨v,vs,h1,Sep.rep hG d (k :: π) v (fun a τ ys e q=>?_) h2,Seps.rep hG ds (k + 1) π vs hO h3⟩
  have e' : τ++k :: π=(τ++[k])++π:=by simp
  rw [e'] at e
  exact hO a (τ++[k]) ys (by simp) e q
end
mutual
def imm:D→Bool
 | .tup ds=>imms ds
 | .lst _=>false
 | .dct=>false
 | .dic _ _=>false
 | .scr _ _=>false
 | .ext _=>false
 | _=>true
def imms:List D→Bool
 | []=>true
 | d :: ds=>imm d&&imms ds
end
mutual
theorem Rep.sep {G H:Hp} {O:Own} {i:Nat}:∀ (d:D) (π:List Nat) (v:V),imm d=true→Rep G d v→Sep G H O i d π v
 | .non,_,_,_,h=>by rw [Rep] at h; rw [Sep]; exact h
 | .bl b,_,_,_,h=>by rw [Rep] at h; rw [Sep]; exact h
 | .int n,_,_,_,h=>by rw [Rep] at h; rw [Sep]; exact h
 | .str x,_,_,_,h=>by rw [Rep] at h; rw [Sep]; exact h
 | .tup ds,π,v,hi,h=>by
  rw [Rep] at h; rw [Sep]
  obtain ⟨a,xs,h1,h2,h3⟩:=h
  exact ⟨a,xs,h1,h2,Reps.sep ds 0 π xs (by rw [imm] at hi; exact hi) h3⟩
 | .lst ds,_,_,hi,_=>by rw [imm] at hi; cases hi
 | .dct,_,_,hi,_=>by rw [imm] at hi; cases hi
 | .dic _ _,_,_,hi,_=>by rw [imm] at hi; cases hi
 | .scr _ _,_,_,hi,_=>by rw [imm] at hi; cases hi
 | .ext _,_,_,hi,_=>by rw [imm] at hi; cases hi
theorem Reps.sep {G H:Hp} {O:Own} {i:Nat}:∀ (ds:List D) (k:Nat) (π:List Nat) (xs:List V),imms ds=true→Reps G ds xs→Seps G H O i ds k π xs
 | [],_,_,_,_,h=>by rw [Reps] at h; rw [Seps]; exact h
 | d :: ds,k,π,xs,hi,h=>by
  rw [Reps] at h; rw [Seps]
  rw [imms,Bool.and_eq_true] at hi
  obtain ⟨v,vs,h1,h2,h3⟩:=h
  exact ⟨v,vs,h1,Rep.sep d (k :: π) v hi.1 h2,Reps.sep ds (k + 1) π vs hi.2 h3⟩
end
mutual
theorem Sep.imm {G H:Hp} {O:Own} {i:Nat}:∀ (d:D) (π:List Nat) (v:V),L2.imm d=true→Sep G H O i d π v→Rep G d v
 | .non,_,_,_,h=>by rw [Sep] at h; rw [Rep]; exact h
 | .bl b,_,_,_,h=>by rw [Sep] at h; rw [Rep]; exact h
 | .int n,_,_,_,h=>by rw [Sep] at h; rw [Rep]; exact h
 | .str x,_,_,_,h=>by rw [Sep] at h; rw [Rep]; exact h
 | .tup ds,π,v,hi,h=>by
  rw [Sep] at h; rw [Rep]
  obtain ⟨a,xs,h1,h2,h3⟩:=h
  exact ⟨a,xs,h1,h2,Seps.imm ds 0 π xs (by rw [L2.imm] at hi; exact hi) h3⟩
 | .lst ds,_,_,hi,_=>by rw [L2.imm] at hi; cases hi
 | .dct,_,_,hi,_=>by rw [L2.imm] at hi; cases hi
 | .dic _ _,_,_,hi,_=>by rw [L2.imm] at hi; cases hi
 | .scr _ _,_,_,hi,_=>by rw [L2.imm] at hi; cases hi
 | .ext _,_,_,hi,_=>by rw [L2.imm] at hi; cases hi
theorem Seps.imm {G H:Hp} {O:Own} {i:Nat}:∀ (ds:List D) (k:Nat) (π:List Nat) (xs:List V),imms ds=true→Seps G H O i ds k π xs→Reps G ds xs
 | [],_,_,_,_,h=>by rw [Seps] at h; rw [Reps]; exact h
 | d :: ds,k,π,xs,hi,h=>by
  rw [Seps] at h; rw [Reps]
  rw [imms,Bool.and_eq_true] at hi
  obtain ⟨v,vs,h1,h2,h3⟩:=h
  exact ⟨v,vs,h1,Sep.imm d (k :: π) v hi.1 h2,Seps.imm ds (k + 1) π vs hi.2 h3⟩
end
mutual
theorem Rep.imms {G G':Hp} (hG:cK G G'):∀ (d:D) (v:V),L2.imm d=true→Rep G d v→Rep G' d v
 | .non,_,_,h=>by rw [Rep] at *; exact h
 | .bl b,_,_,h=>by rw [Rep] at *; exact h
 | .int n,_,_,h=>by rw [Rep] at *; exact h
 | .str x,_,_,h=>by rw [Rep] at *; exact h
 | .tup ds,v,hi,h=>by
  rw [Rep] at *
  obtain ⟨a,xs,h1,h2,h3⟩:=h
  exact ⟨a,xs,h1,hG _ _ h2,Reps.imms hG ds xs (by rw [L2.imm] at hi; exact hi) h3⟩
 | .lst ds,_,hi,_=>by rw [L2.imm] at hi; cases hi
 | .dct,_,hi,_=>by rw [L2.imm] at hi; cases hi
 | .dic _ _,_,hi,_=>by rw [L2.imm] at hi; cases hi
 | .scr _ _,_,hi,_=>by rw [L2.imm] at hi; cases hi
 | .ext _,_,hi,_=>by rw [L2.imm] at hi; cases hi
theorem Reps.imms {G G':Hp} (hG:cK G G'):∀ (ds:List D) (xs:List V),L2.imms ds=true→Reps G ds xs→Reps G' ds xs
 | [],_,_,h=>by rw [Reps] at *; exact h
 | d :: ds,xs,hi,h=>by
  rw [Reps] at *
  rw [L2.imms,Bool.and_eq_true] at hi
  obtain ⟨v,vs,h1,h2,h3⟩:=h
  exact ⟨v,vs,h1,Rep.imms hG d v hi.1 h2,Reps.imms hG ds vs hi.2 h3⟩
end
theorem Seps.length {G H:Hp} {O:Own} {i:Nat}:∀ {ds:List D} {k:Nat} {π:List Nat} {xs:List V},Seps G H O i ds k π xs→xs.length=ds.length
 | [],_,_,_,h=>by rw [Seps] at h; subst h; rfl
 | d :: ds,k,π,xs,h=>by
  rw [Seps] at h
  obtain ⟨v,vs,rfl,_,h3⟩:=h
  simp [Seps.length h3]
abbrev WrO:=List V ⊕ List (Key×V)
def WrO.ho:WrO→HO
 | .inl xs=>.lst xs
 | .inr kvs=>.dK kvs
theorem WrO.ne {m:WrO} {xs:List V} (h:m.ho = .tup xs):False:=by cases m <;> cases h
structure Ctx where
 G:Hp
 H:Hp
 O:Own
 mu:List (Option V)
 np:Nat
def bZ (G H:Hp) (O:Own):List (D×V)→Prop
 | []=>True
 | (d,v) :: r=>Sep G H O (2 * r.length + 1) d [] v∧bZ G H O r
def Nw (C:Ctx) (a:Addr) (l:Nat):Prop:=C.H a=none∨∃ π,C.O a=some (l,π)
def NT (o:HO):Prop:=∀ ps q,o≠.tbl ps q
theorem WrO.nt (x:WrO):NT x.ho:=by cases x <;> (intro _ _ z; cases z)
structure RO (C:Ctx) (ow:List Bool) (G:Hp) (ρ:DSt) (σ:St) (H:Hp) (pd:List (D×V)) (O:Own):Prop where
 len : ρ.length=σ.length
 gh:aI G H
 g0:aI C.G G
 gn:∀ a o,G a=some o→C.G a=some o∨C.H a=none
 og:∀ a l,O a=some l→G a=none∧(∃ xs:WrO,H a=some xs.ho)∧Nw C a l.1
 cok:∀ a l π,C.O a=some (l,π)→(∃ (i:Nat) (v:V),l=2 * i∧C.mu[i]? = some (some v))∨∃ j,l=2 * j + 1∧j<C.np
 fr:∀ a o,C.H a=some o→C.O a=none→NT o→H a=some o
 ft:∀ a ps q,H a=some (.tbl ps q)→G a=none
 al:∀ a,H a=none→C.H a=none
 mp:∀ (i:Nat) v,C.mu[i]? = some (some v)→σ[i]? = some (some v)
 sl:∀ (i:Nat) d,ρ[i]? = some (some d)→∃ v,σ[i]? = some (some v)∧if ow[i]? = some true then Sep G H O (2 * i) d [] v else Rep G d v
 pn:bZ G H O pd
 np:C.np≤pd.length
def R (C:Ctx) (ow:List Bool) (G:Hp) (ρ:DSt) (σ:St) (H:Hp) (pd:List (D×V)):Prop:=∃ O,RO C ow G ρ σ H pd O
theorem bZ.keep {G H G' H':Hp} {O O':Own} (hG:cK G G'):∀ {pd:List (D×V)},(∀ a j π,j<pd.length→O a=some (2 * j + 1,π)→O' a=some (2 * j + 1,π)∧H' a=H a)→bZ G H O pd→bZ G' H' O' pd
 | [],_,_=>trivial
 | (d,v) :: r,hO,⟨h1,h2⟩=>⟨h1.keep hG fun a τ e=>hO a r.length _ (by simp) e,bZ.keep hG (fun a j π hj=>hO a j π (by simp; omega)) h2⟩
section
variable {C:Ctx} {ow:List Bool} {G:Hp} {ρ:DSt} {σ:St} {H:Hp} {pd:List (D×V)} {O:Own}
theorem RO.new (h:RO C ow G ρ σ H pd O) {p:Addr} (hp:H p=none) (o:HO) (nt:NT o:=by intro _ _ z; cases z):RO C ow (upd G p o) ρ σ (upd H p o) pd O∧aI G (upd G p o):=by
 have gp:G p=none:=by
  cases e:G p with
  | none=>rfl
  | some z=>rw [h.gh _ _ e] at hp; cases hp
 have sG:=qM gp o
 have ne:∀ a l,O a=some l→a≠p:=fun a l e z=>by
  obtain ⟨_,⟨xs,q⟩,_⟩:=h.og a l e
  rw [z,hp] at q; cases q
 refine ⟨⟨h.len,?_,fun a u e=>sG _ _ (h.g0 a u e),?_,?_,h.cok,?_,?_,?_,h.mp,?_,?_,h.np⟩,sG⟩
 ·intro a u e
  by_cases z:a=p
  ·subst z; rw [aG] at e ⊢; exact e
  ·rw [av z] at e ⊢; exact h.gh _ _ e
 ·intro a u e
  by_cases z:a=p
  ·subst z; exact .inr (h.al _ hp)
  ·rw [av z] at e; exact h.gn a u e
 ·intro a l e
  have z:=ne a l e
  rw [av z,av z]
  exact h.og a l e
 ·intro a u e n t
  rw [av (ap (h.fr a u e n t) hp)]
  exact h.fr a u e n t
 ·intro a ps q e
  by_cases z:a=p
  ·subst z; rw [aG] at e; cases e; exact absurd rfl (nt ps q)
  ·rw [av z] at e ⊢; exact h.ft a ps q e
 ·intro a e
  by_cases z:a=p
  ·subst z; rw [aG] at e; cases e
  ·rw [av z] at e; exact h.al a e
 ·intro i d e
  obtain ⟨v,h1,h2⟩:=h.sl i d e
  refine ⟨v,h1,?_⟩
  split at h2
  ·rename_i c; rw [if_pos c]; exact h2.keep sG.ts fun a τ q=>⟨q,av (ne a _ q)⟩
  ·rename_i c; rw [if_neg c]; exact h2.mono sG
 ·exact bZ.keep sG.ts (fun a j π _ q=>⟨q,av (ne a _ q)⟩) h.pn
theorem RO.newL (h:RO C ow G ρ σ H pd O) {p:Addr} (hp:H p=none) {xs:List V} {ds:List D} (hi:imms ds=true) (hr:Reps G ds xs) :
 R C ow G ρ σ (upd H p (.lst xs)) ((.lst ds,.ref p) :: pd):=by
 have gp:G p=none:=by
  cases e:G p with
  | none=>rfl
  | some z=>rw [h.gh _ _ e] at hp; cases hp
 have ne:∀ a l,O a=some l→a≠p:=fun a l e z=>by
  obtain ⟨_,⟨xs,q⟩,_⟩:=h.og a l e
  rw [z,hp] at q; cases q
 let O':Own:=fun a=>if a=p then some (2 * pd.length + 1,[]) else O a
 have old:∀ a l,O a=some l→O' a=some l:=fun a l e=>by
  show (if a=p then _ else _)=_
  rw [if_neg (ne a _ e),e]
 refine ⟨O',h.len,?_,h.g0,h.gn,?_,h.cok,?_,?_,?_,h.mp,?_,⟨?_,?_⟩,Nat.le_succ_of_le h.np⟩
 ·intro a u e
  rw [av (fun z=>by rw [z,gp] at e; cases e)]
  exact h.gh _ _ e
 ·intro a l e
  by_cases z:a=p
  ·subst z; exact ⟨gp,⟨.inl xs,aG⟩,.inl (h.al _ hp)⟩
  ·rw [av z]
   change (if a=p then _ else _)=_ at e
   rw [if_neg z] at e
   exact h.og a _ e
 ·intro a u e n t
  rw [av (ap (h.fr a u e n t) hp)]
  exact h.fr a u e n t
 ·intro a ps q e
  by_cases z:a=p
  ·subst z; rw [aG] at e; cases e
  ·rw [av z] at e; exact h.ft a ps q e
 ·intro a e
  by_cases z:a=p
  ·subst z; rw [aG] at e; cases e
  ·rw [av z] at e; exact h.al a e
 ·intro i d e
  obtain ⟨v,h1,h2⟩:=h.sl i d e
  refine ⟨v,h1,?_⟩
  split at h2
  ·rename_i c; rw [if_pos c]; exact h2.keep (fun _ _ z=>z) fun a τ q=>⟨old a _ q,av (ne a _ q)⟩
  ·rename_i c; rw [if_neg c]; exact h2
 ·rw [Sep]
  exact ⟨p,xs,rfl,by show (if p=p then _ else _)=_; rw [if_pos rfl],aG,hr.sep ds 0 [] xs hi⟩
 ·exact bZ.keep (fun _ _ z=>z) (fun a j π hj q=>⟨old a _ q,av (ne a _ q)⟩) h.pn
end
theorem Seps.snoc {G H:Hp} {O:Own} {i:Nat} {d:D} {v:V}:∀ {ds:List D} {k:Nat} {π:List Nat} {xs:List V},Seps G H O i ds k π xs→Sep G H O i d ((k + ds.length) :: π) v→Seps G H O i (ds++[d]) k π (xs++[v])
 | [],k,π,xs,h,hd=>by rw [Seps] at h; subst h; show Seps _ _ _ _ [d] _ _ [v]; rw [Seps]; exact ⟨v,[],rfl,by simpa using hd,by rw [Seps]⟩
 | e :: ds,k,π,xs,h,hd=>by
  rw [Seps] at h
  obtain ⟨u,us,rfl,h2,h3⟩:=h
  show Seps _ _ _ _ (e :: (ds++[d])) _ _ (u :: (us++[v]))
  rw [Seps]
  refine ⟨u,us++[v],rfl,h2,Seps.snoc h3 ?_⟩
  have:k + 1 + ds.length=k + (e :: ds).length:=by simp; omega
  rw [this]; exact hd
theorem Seps.set {G H:Hp} {O:Own} {i:Nat} {d:D} {v:V}:∀ {ds:List D} {k:Nat} {π:List Nat} {xs:List V} {j:Nat},Seps G H O i ds k π xs→Sep G H O i d ((k + j) :: π) v→Seps G H O i (ds.set j d) k π (xs.set j v)
 | [],k,π,xs,j,h,hd=>by rw [Seps] at h; subst h; simp; rw [Seps]
 | e :: ds,k,π,xs,0,h,hd=>by
  rw [Seps] at h
  obtain ⟨u,us,rfl,h2,h3⟩:=h
  simp only [List.set_cons_zero]; rw [Seps]
  exact ⟨v,us,rfl,by simpa using hd,h3⟩
 | e :: ds,k,π,xs,j + 1,h,hd=>by
  rw [Seps] at h
  obtain ⟨u,us,rfl,h2,h3⟩:=h
  simp only [List.set_cons_succ]; rw [Seps]
  refine ⟨u,_,rfl,h2,Seps.set h3 ?_⟩
  have:k + 1 + j=k + (j + 1):=by omega
  rw [this]; exact hd
theorem Seps.at {G H:Hp} {O:Own} {i:Nat} {d:D}:∀ {ds:List D} {k:Nat} {π:List Nat} {xs:List V} {j:Nat},Seps G H O i ds k π xs→ds[j]? = some d→∃ v,xs[j]? = some v∧Sep G H O i d ((k + j) :: π) v
 | [],k,π,xs,j,h,e=>by simp at e
 | e :: ds,k,π,xs,0,h,q=>by
  rw [Seps] at h
  obtain ⟨u,us,rfl,h2,h3⟩:=h
  simp at q; subst q
  exact ⟨u,rfl,by simpa using h2⟩
 | e :: ds,k,π,xs,j + 1,h,q=>by
  rw [Seps] at h
  obtain ⟨u,us,rfl,h2,h3⟩:=h
  obtain ⟨v,h4,h5⟩:=Seps.at (j:=j) h3 (by simpa using q)
  refine ⟨v,by simpa using h4,?_⟩
  have:k + 1 + j=k + (j + 1):=by omega
  rw [← this]; exact h5
section
variable {C:Ctx} {ow:List Bool} {G:Hp} {ρ:DSt} {σ:St} {H:Hp} {pd:List (D×V)} {O:Own}
theorem eK {α:Type} {l:List (Option α)} {i j:Nat} {x:Option α} {d : α} (h:(l.set i x)[j]? = some (some d)):(j=i∧x=some d)∨(j≠i∧l[j]? = some (some d)):=by
 rw [List.getElem?_set] at h
 by_cases e:i=j
 ·rw [if_pos e] at h
  split at h
  ·exact .inl ⟨e.symm,Option.some.inj h⟩
  ·cases h
 ·rw [if_neg e] at h; exact .inr ⟨fun z=>e z.symm,h⟩
theorem eh {α:Type} {l:List (Option α)} {i:Nat} {x:Option α} (h:l[i]? = some x):i<l.length:=(List.getElem?_eq_some_iff.mp h).1
theorem RO.setS (h:RO C ow G ρ σ H pd O) {i:Nat} {d:D} {v:V} (hi:ow[i]?≠some true) (hm:∀ v,C.mu[i]?≠some (some v)) (r:Rep G d v):RO C ow G (ρ.set i (some d)) (σ.set i (some v)) H pd O:=by
 refine ⟨by simp [h.len],h.gh,h.g0,h.gn,h.og,h.cok,h.fr,h.ft,h.al,?_,?_,h.pn,h.np⟩
 ·intro j u e
  have:i≠j:=fun z=>hm u (z ▸ e)
  rw [List.getElem?_set_ne this]
  exact h.mp j u e
 ·intro j e q
  rcases eK q with ⟨rfl,z⟩ | ⟨z,q'⟩
  ·cases z
   have hl:j<σ.length:=by have:=eh q; rw [List.length_set,h.len] at this; exact this
   exact ⟨v,by rw [List.getElem?_set_self hl],by rw [if_neg hi]; exact r⟩
  ·obtain ⟨u,h1,h2⟩:=h.sl j e q'
   exact ⟨u,by rw [List.getElem?_set_ne (Ne.symm z)]; exact h1,h2⟩
def lab (f:Nat→List Nat→Nat×List Nat) (O:Own):Own:=fun a=>(O a).map fun l=>f l.1 l.2
theorem bR {f:Nat→List Nat→Nat×List Nat} {a:Addr} {l:Nat} {π:List Nat} (h:O a=some (l,π)):lab f O a=some (f l π):=by unfold lab; rw [h]; rfl
theorem h_ {f:Nat→List Nat→Nat×List Nat} {a:Addr} {m:Nat×List Nat} (h:lab f O a=some m):∃ l π,O a=some (l,π)∧m=f l π:=by
 unfold lab at h
 cases e:O a with
 | none=>rw [e] at h; cases h
 | some l=>rw [e] at h; exact ⟨l.1,l.2,rfl,(Option.some.inj h).symm⟩
theorem cM {i j:Nat} : 2 * i≠2 * j + 1:=by omega
theorem RO.setO {d:D} {v:V} (h:RO C ow G ρ σ H ((d,v) :: pd) O) {i:Nat} (hi:ow[i]? = some true) (hm:∀ v,C.mu[i]?≠some (some v)) (hn:C.np≤pd.length) :
 R C ow G (ρ.set i (some d)) (σ.set i (some v)) H pd:=by
 refine ⟨lab (fun l π=>if l=2 * pd.length + 1 then (2 * i,π) else (l,π)) O,by simp [h.len],h.gh,h.g0,h.gn,?_,h.cok,h.fr,h.ft,h.al,?_,?_,?_,hn⟩
 ·intro a m e
  obtain ⟨l,π,e1,rfl⟩:=h_ e
  obtain ⟨q1,q2,q3⟩:=h.og a _ e1
  refine ⟨q1,q2,?_⟩
  try dsimp only
  split
  ·rename_i z
   rcases q3 with q3 | ⟨_,q3⟩
   ·exact .inl q3
   ·rcases h.cok _ _ _ q3 with ⟨k,_,q4,_⟩ | ⟨k,q4,q5⟩
    ·exact absurd (q4.symm.trans z) cM
    ·omega
  ·exact q3
 ·intro j u e
  have:i≠j:=fun z=>hm u (z ▸ e)
  rw [List.getElem?_set_ne this]
  exact h.mp j u e
 ·intro j e q
  rcases eK q with ⟨rfl,z⟩ | ⟨z,q'⟩
  ·cases z
   have hl:j<σ.length:=by have:=eh q; rw [List.length_set,h.len] at this; exact this
   refine ⟨v,by rw [List.getElem?_set_self hl],?_⟩
   rw [if_pos hi]
   exact h.pn.1.keep (fun _ _ z=>z) fun a τ q=>⟨by rw [bR q,if_pos rfl],rfl⟩
  ·obtain ⟨u,h1,h2⟩:=h.sl j e q'
   refine ⟨u,by rw [List.getElem?_set_ne (Ne.symm z)]; exact h1,?_⟩
   split at h2
   ·rename_i c; rw [if_pos c]; exact h2.keep (fun _ _ z=>z) fun a τ q=>⟨by rw [bR q,if_neg cM],rfl⟩
   ·rename_i c; rw [if_neg c]; exact h2
 ·exact bZ.keep (fun _ _ z=>z) (fun a j π hj q=>⟨by rw [bR q,if_neg (by omega)],rfl⟩) h.pn.2
theorem RO.move (h:RO C ow G ρ σ H pd O) {i:Nat} {d:D} (e : ρ[i]? = some (some d)) (hi:ow[i]? = some true) (hm:∀ v,C.mu[i]?≠some (some v)) :
 ∃ v,σ[i]? = some (some v)∧R C ow G (ρ.set i none) σ H ((d,v) :: pd):=by
 obtain ⟨v,hv,s⟩:=h.sl i d e
 rw [if_pos hi] at s
 refine ⟨v,hv,lab (fun l π=>if l=2 * i then (2 * pd.length + 1,π) else (l,π)) O,by simp [h.len],h.gh,h.g0,h.gn,?_,h.cok,h.fr,h.ft,h.al,h.mp,?_,⟨?_,?_⟩,Nat.le_succ_of_le h.np⟩
 ·intro a m e
  obtain ⟨l,π,e1,rfl⟩:=h_ e
  obtain ⟨q1,q2,q3⟩:=h.og a _ e1
  refine ⟨q1,q2,?_⟩
  try dsimp only
  split
  ·rename_i z
   rcases q3 with q3 | ⟨_,q3⟩
   ·exact .inl q3
   ·rcases h.cok _ _ _ q3 with ⟨k,u,q4,q5⟩ | ⟨k,q4,_⟩
    ·have:k=i:=by have:=q4.symm.trans z; omega
     exact absurd (this ▸ q5) (hm u)
    ·omega
  ·exact q3
 ·intro j e q
  rcases eK q with ⟨rfl,z⟩ | ⟨z,q'⟩
  ·cases z
  ·obtain ⟨u,h1,h2⟩:=h.sl j e q'
   refine ⟨u,h1,?_⟩
   split at h2
   ·rename_i c; rw [if_pos c]; exact h2.keep (fun _ _ z=>z) fun a τ q=>⟨by rw [bR q,if_neg (by omega)],rfl⟩
   ·rename_i c; rw [if_neg c]; exact h2
 ·exact s.keep (fun _ _ z=>z) fun a τ q=>⟨by rw [bR q,if_pos rfl],rfl⟩
 ·exact bZ.keep (fun _ _ z=>z) (fun a j π hj q=>⟨by rw [bR q,if_neg (fun z=>cM z.symm)],rfl⟩) h.pn
def hasL (O:Own) (l:Nat) (a:Addr):Bool:=match O a with
 | some m=>m.1 == l
 | none=>false
theorem eQ {l:Nat} {a:Addr}:hasL O l a=true↔∃ π,O a=some (l,π):=by
 unfold hasL
 cases e:O a with
 | none=>simp
 | some m=>obtain ⟨m1,m2⟩:=m; simp
theorem RO.share {d:D} {v:V} (h:RO C ow G ρ σ H ((d,v) :: pd) O) (hn:C.np≤pd.length):∃ G',aI G G'∧R C ow G' ρ σ H pd∧Rep G' d v:=by
 let l₀:=2 * pd.length + 1
 let G':Hp:=fun a=>if hasL O l₀ a=true then H a else G a
 have sG:aI G G':=fun a o e=>by
  show (if _ then _ else _)=_
  split
  ·exact h.gh _ _ e
  ·exact e
 have inH:∀ a τ (o:HO),O a=some (l₀,τ)→H a=some o→G' a=some o:=fun a τ xs q e=>by
  show (if _ then _ else _)=_
  rw [if_pos (eQ.mpr ⟨_,q⟩)]; exact e
 refine ⟨G',sG,⟨fun a=>if hasL O l₀ a=true then none else O a,h.len,?_,fun a o e=>sG _ _ (h.g0 _ _ e),?_,?_,h.cok,h.fr,(fun a ps q e=>by
  show (if _ then _ else _)=_
  split
  ·rename_i c
   obtain ⟨τ,c⟩:=eQ.mp c
   obtain ⟨_,⟨xs,z⟩,_⟩:=h.og a _ c
   rw [z] at e; exact absurd (Option.some.inj e) (WrO.nt xs _ _)
  ·exact h.ft a ps q e),h.al,h.mp,?_,?_,hn⟩,h.pn.1.rep sG.ts d [] v (fun a τ xs q e=>inH a _ xs q e)⟩
 ·intro a o e
  change (if _ then _ else _)=_ at e
  split at e
  ·exact e
  ·exact h.gh _ _ e
 ·intro a o e
  change (if _ then _ else _)=_ at e
  split at e
  ·rename_i c
   obtain ⟨π,q⟩:=eQ.mp c
   obtain ⟨_,_,q3⟩:=h.og a _ q
   rcases q3 with q3 | ⟨_,q3⟩
   ·exact .inr q3
   ·rcases h.cok _ _ _ q3 with ⟨k,_,q4,_⟩ | ⟨k,q4,q5⟩
    ·exact absurd q4.symm cM
    ·have q4' : 2 * pd.length + 1=2 * k + 1:=q4
     omega
  ·exact h.gn a o e
 ·intro a l e
  try dsimp only at e
  split at e
  ·cases e
  ·rename_i c
   obtain ⟨q1,q2,q3⟩:=h.og a l e
   exact ⟨by show (if _ then _ else _)=_; rw [if_neg c]; exact q1,q2,q3⟩
 ·intro j e q
  obtain ⟨u,h1,h2⟩:=h.sl j e q
  refine ⟨u,h1,?_⟩
  split at h2
  ·rename_i c; rw [if_pos c]
   refine h2.keep sG.ts fun a τ q=>⟨?_,rfl⟩
   rw [if_neg,q]
   intro z
   obtain ⟨π,z⟩:=eQ.mp z
   rw [q] at z
   have:=(Prod.mk.inj (Option.some.inj z)).1
   omega
  ·rename_i c; rw [if_neg c]; exact h2.mono sG
 ·refine bZ.keep sG.ts (fun a j π hj q=>⟨?_,rfl⟩) h.pn.2
  rw [if_neg,q]
  intro z
  obtain ⟨π,z⟩:=eQ.mp z
  rw [q] at z
  have:=(Prod.mk.inj (Option.some.inj z)).1
  omega
theorem RO.write (h:RO C ow G ρ σ H pd O) {i:Nat} {ds:List D} (e : ρ[i]? = some (some (.lst ds))) (hi:ow[i]? = some true) :
 ∃ a xs,σ[i]? = some (some (.ref a))∧H a=some (.lst xs)∧Seps G H O (2 * i) ds 0 [] xs ∧
  ∀ ds' xs',Seps G H O (2 * i) ds' 0 [] xs'→RO C ow G (ρ.set i (some (.lst ds'))) σ (upd H a (.lst xs')) pd O:=by
 obtain ⟨v,hv,s⟩:=h.sl i _ e
 rw [if_pos hi,Sep] at s
 obtain ⟨a,xs,rfl,hO,hH,hs⟩:=s
 refine ⟨a,xs,hv,hH,hs,fun ds' xs' hs'=>?_⟩
 obtain ⟨g0,_,nw⟩:=h.og a _ hO
 have ne:∀ b l π,O b=some (l,π)→(l≠2 * i∨π≠[])→b≠a:=fun b l π q n z=>by
  subst z
  rw [hO] at q
  obtain ⟨q1,q2⟩:=Prod.mk.inj (Option.some.inj q)
  rcases n with n | n
  ·exact n q1.symm
  ·exact n q2.symm
 refine ⟨by simp [h.len],?_,h.g0,h.gn,?_,h.cok,?_,?_,?_,h.mp,?_,?_,h.np⟩
 ·intro b o q
  rw [av (fun z=>by rw [z,g0] at q; cases q)]; exact h.gh _ _ q
 ·intro b l q
  obtain ⟨q1,⟨ys,q2⟩,q3⟩:=h.og b l q
  refine ⟨q1,?_,q3⟩
  by_cases z:b=a
  ·subst z; exact ⟨.inl _,aG⟩
  ·rw [av z]; exact ⟨ys,q2⟩
 ·intro b o q n t
  by_cases z:b=a
  ·subst z
   rcases nw with nw | ⟨_,nw⟩
   ·rw [nw] at q; cases q
   ·rw [nw] at n; cases n
  ·rw [av z]; exact h.fr b o q n t
 ·intro b ps q e
  by_cases z:b=a
  ·subst z; rw [aG] at e; cases e
  ·rw [av z] at e; exact h.ft b ps q e
 ·intro b q
  by_cases z:b=a
  ·subst z; rw [aG] at q; cases q
  ·rw [av z] at q; exact h.al b q
 ·intro j u q
  rcases eK q with ⟨rfl,z⟩ | ⟨z,q'⟩
  ·cases z
   refine ⟨_,hv,?_⟩
   rw [if_pos hi,Sep]
   exact ⟨a,xs',rfl,hO,aG,hs'.keep (fun _ _ z=>z) fun b τ hτ q=>⟨q,av (ne b _ _ q (.inr (by simpa using hτ)))⟩⟩
  ·obtain ⟨w,h1,h2⟩:=h.sl j u q'
   refine ⟨w,h1,?_⟩
   split at h2
   ·rename_i c; rw [if_pos c]; exact h2.keep (fun _ _ z=>z) fun b τ q=>⟨q,av (ne b _ _ q (.inl (by omega)))⟩
   ·rename_i c; rw [if_neg c]; exact h2
 ·exact bZ.keep (fun _ _ z=>z) (fun b j π hj q=>⟨q,av (ne b _ _ q (.inl (fun z=>cM z.symm)))⟩) h.pn
theorem RO.join {d:D} {v:V} (h:RO C ow G ρ σ H ((d,v) :: pd) O) (i n:Nat) (hn:C.np≤pd.length) :
 ∃ O',RO C ow G ρ σ H pd O'∧Sep G H O' (2 * i) d [n] v∧∀ (l:Nat) ds k π xs,l≠2 * pd.length + 1→Seps G H O l ds k π xs→Seps G H O' l ds k π xs:=by
 refine ⟨lab (fun l π=>if l=2 * pd.length + 1 then (2 * i,π++[n]) else (l,π)) O,⟨h.len,h.gh,h.g0,h.gn,?_,h.cok,h.fr,h.ft,h.al,h.mp,?_,?_,hn⟩,?_,?_⟩
 ·intro a m e
  obtain ⟨l,π,e1,rfl⟩:=h_ e
  obtain ⟨q1,q2,q3⟩:=h.og a _ e1
  refine ⟨q1,q2,?_⟩
  try dsimp only
  split
  ·rename_i z
   rcases q3 with q3 | ⟨_,q3⟩
   ·exact .inl q3
   ·rcases h.cok _ _ _ q3 with ⟨k,_,q4,_⟩ | ⟨k,q4,q5⟩
    ·exact absurd (q4.symm.trans z) cM
    ·omega
  ·exact q3
 ·intro j e q
  obtain ⟨u,h1,h2⟩:=h.sl j e q
  refine ⟨u,h1,?_⟩
  split at h2
  ·rename_i c; rw [if_pos c]; exact h2.keep (fun _ _ z=>z) fun a τ q=>⟨by rw [bR q,if_neg cM],rfl⟩
  ·rename_i c; rw [if_neg c]; exact h2
 ·exact bZ.keep (fun _ _ z=>z) (fun a j π hj q=>⟨by rw [bR q,if_neg (by omega)],rfl⟩) h.pn.2
 ·exact Sep.map (f:=fun π=>π++[n]) (fun _ _ z=>z) (fun _ _=>rfl) d [] v (fun a τ q=>⟨by rw [bR q,if_pos rfl],rfl⟩) h.pn.1
 ·intro l ds k π xs hl hs
  exact hs.keep (fun _ _ z=>z) fun a τ _ q=>⟨by rw [bR q,if_neg hl],rfl⟩
end
def bor (js:List Nat) (ow:List Bool):List Bool:=ow.mapIdx fun j b=>b && !js.contains j
theorem e6 {js:List Nat} {ow:List Bool} {j:Nat}:(bor js ow)[j]? = some true↔ow[j]? = some true∧js.contains j=false:=by
 unfold bor
 rw [List.getElem?_mapIdx]
 cases e:ow[j]? with
 | none=>simp
 | some b=>cases b <;> simp
def lH (ρ:DSt) (js:List Nat) (n l:Nat):Bool:=if l % 2=0 then (match ρ[l / 2]? with | some (some _)=>!js.contains (l / 2) | _=>false) else decide (l / 2<n)
def iK (js:List Nat) (l:Nat):Bool:=decide (l % 2=0)&&js.contains (l / 2)
def dc (f:Nat→Bool) (O:Own):Own:=fun a=>match O a with
 | some m=>if f m.1=true then some m else none
 | none=>none
theorem fX {f:Nat→Bool} {O:Own} {a:Addr} {m:Nat×List Nat} (h:O a=some m) (hf:f m.1=true):dc f O a=some m:=by unfold dc; rw [h]; show (if _ then _ else _)=_; rw [if_pos hf]
theorem c9 {f:Nat→Bool} {O:Own} {a:Addr} {m:Nat×List Nat} (h:dc f O a=some m):O a=some m∧f m.1=true:=by
 unfold dc at h
 cases e:O a with
 | none=>rw [e] at h; cases h
 | some n =>
  rw [e] at h
  change (if _ then _ else _)=_ at h
  split at h
  ·rename_i c; cases h; exact ⟨rfl,c⟩
  ·cases h
def isSm {α:Type}:Option α→Bool
 | some _=>true
 | none=>false
section
variable {C:Ctx} {ow:List Bool} {G:Hp} {ρ:DSt} {σ:St} {H:Hp} {pd:List (D×V)} {O:Own}
def gBor (js:List Nat) (G H:Hp) (O:Own):Hp:=fun a=>if isSm (dc (iK js) O a)=true then H a else G a
def cBor (js:List Nat) (G H:Hp) (O:Own) (ρ:DSt) (σ:St) (n:Nat):Ctx:=⟨gBor js G H O,H,dc (lH ρ js n) O,σ,n⟩
theorem i7 (h:RO C ow G ρ σ H pd O) (js:List Nat):aI G (gBor js G H O):=fun a o e=>by
 show (if _ then _ else _)=_
 split
 ·exact h.gh _ _ e
 ·exact e
theorem gT {α:Type} {o:Option α} (h:isSm o=true):∃ x,o=some x:=by cases o with | none=>cases h | some x=>exact ⟨x,rfl⟩
theorem RO.enter (h:RO C ow G ρ σ H pd O) (js:List Nat):RO (cBor js G H O ρ σ pd.length) (bor js ow) (gBor js G H O) ρ σ H pd (dc (lH ρ js pd.length) O):=by
 have sG:=i7 h js
 refine ⟨h.len,?_,fun _ _ e=>e,fun _ _ e=>.inl e,?_,?_,fun _ _ e _ _=>e,(fun a ps q e=>by
  show (if _ then _ else _)=_
  split
  ·rename_i c
   obtain ⟨m,c⟩:=gT c
   obtain ⟨_,⟨xs,z⟩,_⟩:=h.og a m (c9 c).1
   rw [z] at e; exact absurd (Option.some.inj e) (WrO.nt xs _ _)
  ·exact h.ft a ps q e),fun _ e=>e,fun _ _ e=>e,?_,?_,Nat.le_refl _⟩
 ·intro a o e
  change (if _ then _ else _)=_ at e
  split at e
  ·exact e
  ·exact h.gh _ _ e
 ·intro a l e
  obtain ⟨e1,e2⟩:=c9 e
  obtain ⟨q1,q2,q3⟩:=h.og a l e1
  refine ⟨?_,q2,.inr ⟨l.2,e⟩⟩
  ·show (if _ then _ else _)=_
   rw [if_neg]; exact q1
   intro z
   obtain ⟨m,z⟩:=gT z
   obtain ⟨z1,z2⟩:=c9 z
   rw [e1] at z1; cases z1
   unfold iK at z2; unfold lH at e2
   simp only [Bool.and_eq_true,decide_eq_true_eq] at z2
   rw [if_pos z2.1] at e2
   split at e2
   ·rw [z2.2] at e2; cases e2
   ·cases e2
 ·intro a l π e
  obtain ⟨e1,e2⟩:=c9 e
  unfold lH at e2
  split at e2
  ·rename_i c
   split at e2
   ·rename_i d hd
    obtain ⟨v,hv,_⟩:=h.sl _ _ hd
    exact .inl ⟨l / 2,v,by omega,hv⟩
   ·cases e2
  ·exact .inr ⟨l / 2,by omega,of_decide_eq_true e2⟩
 ·intro j d e
  obtain ⟨v,h1,h2⟩:=h.sl j d e
  refine ⟨v,h1,?_⟩
  by_cases c:ow[j]? = some true
  ·rw [if_pos c] at h2
   by_cases c2:js.contains j=true
   ·rw [if_neg (fun z=>by rw [e6] at z; rw [c2] at z; exact absurd z.2 (by decide))]
    refine h2.rep sG.ts d [] v fun a τ xs q e=>?_
    show (if _ then _ else _)=_
    rw [if_pos]; exact e
    rw [fX q]; rfl
    unfold iK
    simp only [Bool.and_eq_true,decide_eq_true_eq]
    exact ⟨by omega,by rw [show 2 * j / 2=j by omega]; exact c2⟩
   ·rw [if_pos (e6.mpr ⟨c,by simpa using c2⟩)]
    refine h2.keep sG.ts fun a τ q=>⟨fX q ?_,rfl⟩
    unfold lH
    show (if 2 * j % 2=0 then _ else _)=_
    rw [if_pos (by omega),show 2 * j / 2=j by omega,e]
    simp at c2 ⊢; exact c2
  ·rw [if_neg c] at h2
   rw [if_neg (fun z=>c (e6.mp z).1)]
   exact h2.mono sG
 ·refine bZ.keep sG.ts (fun a j π hj q=>⟨fX q ?_,rfl⟩) h.pn
  unfold lH
  show (if (2 * j + 1) % 2=0 then _ else _)=_
  rw [if_neg (by omega),show (2 * j + 1) / 2=j by omega]
  simpa using hj
def Kp (ow:List Bool) (ρ ρ':DSt):Prop:=∀ (j:Nat),ow[j]?≠some true→ρ'[j]? = ρ[j]?
def kG (js:List Nat) (O:Own) (G2:Hp):Hp:=fun a=>if isSm (dc (iK js) O a)=true then none else G2 a
def t5 (js:List Nat) (O O2:Own):Own:=fun a=>match O2 a with
 | some l=>some l
 | none=>dc (iK js) O a
theorem RO.leave (h:RO C ow G ρ σ H pd O) {js:List Nat} {G2:Hp} {ρ2:DSt} {H2:Hp} {pd2:List (D×V)} {O2:Own}
 (h2:RO (cBor js G H O ρ σ pd.length) (bor js ow) G2 ρ2 σ H2 pd2 O2) (kp:Kp (bor js ow) ρ ρ2) :
 RO C ow (kG js O G2) ρ2 σ H2 pd2 (t5 js O O2)∧aI G (kG js O G2)∧cK G2 (kG js O G2):=by
 have sG:=i7 h js
 have dm:∀ a m,dc (iK js) O a=some m→O a=some m∧G a=none∧∃ xs:WrO,H a=some xs.ho∧G2 a=some xs.ho:=fun a m e=>by
  obtain ⟨e1,e2⟩:=c9 e
  obtain ⟨q1,⟨xs,q2⟩,q3⟩:=h.og a m e1
  refine ⟨e1,q1,xs,q2,h2.g0 a _ ?_⟩
  show (if _ then _ else _)=_
  rw [if_pos (by rw [e]; rfl)]; exact q2
 have nd:∀ a,G a≠none→¬ isSm (dc (iK js) O a)=true:=fun a g z=>by
  obtain ⟨m,z⟩:=gT z
  exact g (dm a m z).2.1
 have sG3:aI G (kG js O G2):=fun a o e=>by
  show (if _ then _ else _)=_
  rw [if_neg (nd a (by rw [e]; simp))]
  exact h2.g0 a o (sG a o e)
 have ts:cK G2 (kG js O G2):=fun a xs e=>by
  show (if _ then _ else _)=_
  rw [if_neg]; exact e
  intro z
  obtain ⟨m,z⟩:=gT z
  obtain ⟨_,_,ys,_,q⟩:=dm a m z
  rw [e] at q; exact (WrO.ne (Option.some.inj q).symm).elim
 have o2:∀ a l,O2 a=some l→t5 js O O2 a=some l:=fun a l e=>by show (match O2 a with | some l=>some l | none=>_)=_; rw [e]
 refine ⟨⟨h2.len,?_,fun a o e=>sG3 _ _ (h.g0 _ _ e),?_,?_,h.cok,?_,(fun a ps q e=>by show (if _ then _ else _)=_; split <;> first | rfl | exact h2.ft a ps q e),fun a e=>h.al a (h2.al a e),h.mp,?_,?_,Nat.le_trans h.np h2.np⟩,sG3,ts⟩
 ·intro a o e
  change (if _ then _ else _)=_ at e
  split at e
  ·cases e
  ·exact h2.gh _ _ e
 ·intro a o e
  change (if _ then _ else _)=_ at e
  split at e
  ·cases e
  ·rename_i c
   rcases h2.gn a o e with q | q
   ·change (if _ then _ else _)=_ at q
    rw [if_neg c] at q
    exact h.gn a o q
   ·exact .inr (h.al a q)
 ·intro a l e
  change (match O2 a with | some l=>some l | none=>_)=_ at e
  cases q:O2 a with
  | some l' =>
   rw [q] at e; cases e
   obtain ⟨q1,q2,q3⟩:=h2.og a l q
   refine ⟨by show (if _ then _ else _)=_; split <;> first | rfl | exact q1,q2,?_⟩
   rcases q3 with q3 | ⟨q3,q4⟩
   ·exact .inl (h.al a q3)
   ·exact (h.og a _ (c9 q4).1).2.2
  | none =>
   rw [q] at e
   change dc (iK js) O a=some l at e
   obtain ⟨e1,q1,xs,q2,q3⟩:=dm a l e
   refine ⟨by show (if _ then _ else _)=_; rw [if_pos (by rw [e]; rfl)],⟨xs,h2.gh _ _ q3⟩,(h.og a l e1).2.2⟩
 ·intro a o e n t
  have q:=h.fr a o e n t
  refine h2.fr a o q ?_ t
  show dc _ O a=none
  cases z:dc (lH ρ js pd.length) O a with
  | none=>rfl
  | some m =>
   obtain ⟨z1,_⟩:=c9 z
   obtain ⟨_,_,z3⟩:=h.og a m z1
   rcases z3 with z3 | ⟨_,z3⟩
   ·rw [z3] at e; cases e
   ·rw [z3] at n; cases n
 ·intro j d e
  by_cases c:(bor js ow)[j]? = some true
  ·obtain ⟨v,q1,q2⟩:=h2.sl j d e
   rw [if_pos c] at q2
   refine ⟨v,q1,?_⟩
   rw [if_pos (e6.mp c).1]
   exact q2.keep ts fun a τ q=>⟨o2 _ _ q,rfl⟩
  ·rw [kp j c] at e
   obtain ⟨v,q1,q2⟩:=h.sl j d e
   refine ⟨v,q1,?_⟩
   by_cases c2:ow[j]? = some true
   ·rw [if_pos c2] at q2 ⊢
    have hj:js.contains j=true:=by
     cases z:js.contains j with
     | true=>rfl
     | false=>exact absurd (e6.mpr ⟨c2,z⟩) c
    refine q2.keep sG3.ts fun a τ q=>?_
    have dd:dc (iK js) O a=some (2 * j,τ++[]):=fX q (by
     unfold iK
     simp only [Bool.and_eq_true,decide_eq_true_eq]
     exact ⟨by omega,by rw [show 2 * j / 2=j by omega]; exact hj⟩)
    obtain ⟨_,_,xs,q4,q5⟩:=dm a _ dd
    refine ⟨?_,by rw [q4]; exact h2.gh _ _ q5⟩
    show (match O2 a with | some l=>some l | none=>_)=_
    cases z:O2 a with
    | some l=>have:=(h2.og a l z).1; rw [q5] at this; cases this
    | none=>exact dd
   ·rw [if_neg c2] at q2 ⊢
    exact q2.mono sG3
 ·exact bZ.keep ts (fun a j π hj q=>⟨o2 _ _ q,rfl⟩) h2.pn
end
abbrev ME:=DSt→(D→DSt→Prop)→Prop
abbrev MT:=DSt→(Bool→DSt→Prop)→Prop
abbrev MA:=DSt→(List D→DSt→Prop)→Prop
def SE (ow:List Bool) (t:TE) (m:ME):Prop:=∀ (C:Ctx) (G:Hp) (ρ:DSt) (σ:St) (H:Hp) (pd:List (D×V)) (q:D→DSt→Prop) (Q:VK),R C ow G ρ σ H pd→m ρ q →
 (∀ d ρ' v G' H',q d ρ'→aI G G'→Kp ow ρ ρ'→R C ow G' ρ' σ H' pd→Rep G' d v→Q v H')→t σ H Q
def SF (ow:List Bool) (t:TE) (m:ME):Prop:=∀ (C:Ctx) (G:Hp) (ρ:DSt) (σ:St) (H:Hp) (pd:List (D×V)) (q:D→DSt→Prop) (Q:VK),R C ow G ρ σ H pd→m ρ q →
 (∀ d ρ' v G' H',q d ρ'→aI G G'→Kp ow ρ ρ'→R C ow G' ρ' σ H' ((d,v) :: pd)→Q v H')→t σ H Q
def STe (ow:List Bool) (t:TT) (m:MT):Prop:=∀ (C:Ctx) (G:Hp) (ρ:DSt) (σ:St) (H:Hp) (pd:List (D×V)) (q:Bool→DSt→Prop) (Q:Bool→Hp→Prop),R C ow G ρ σ H pd→m ρ q →
 (∀ b ρ' G' H',q b ρ'→aI G G'→Kp ow ρ ρ'→R C ow G' ρ' σ H' pd→Q b H')→t σ H Q
def SA (ow:List Bool) (n:Nat) (t:TA) (m:MA):Prop:=∀ (C:Ctx) (G:Hp) (ρ:DSt) (σ:St) (H:Hp) (pd:List (D×V)) (q:List D→DSt→Prop) (Q:List V→Hp→Prop),R C ow G ρ σ H pd→m ρ q →
 (∀ ds ρ' vs G' H',q ds ρ'→aI G G'→Kp ow ρ ρ'→R C ow G' ρ' σ H' pd→Reps G' ds vs→vs.length=n→Q vs H')→t σ H Q
structure QE (X:Cx) (ow:List Bool) (e:Expr) (m:ME):Prop where
 ex:∃ t,PE X e t∧SE ow t m
structure QF (X:Cx) (ow:List Bool) (e:Expr) (m:ME):Prop where
 ex:∃ t,PE X e t∧SF ow t m
structure QT (X:Cx) (ow:List Bool) (e:Expr) (m:MT):Prop where
 ex:∃ t,PT X e t∧STe ow t m
structure QW (X:Cx) (ow:List Bool) (e:Expr) (m:MT):Prop where
 ex:∃ t,PW X e t∧STe ow t m
structure QA (X:Cx) (ow:List Bool) (es:List Expr) (m:MA):Prop where
 ex:∃ t,PA X es t∧SA ow es.length t m
theorem Kp.refl {ow:List Bool} {ρ:DSt}:Kp ow ρ ρ:=fun _ _=>rfl
theorem Kp.trans {ow:List Bool} {ρ ρ1 ρ2:DSt} (a:Kp ow ρ ρ1) (b:Kp ow ρ1 ρ2):Kp ow ρ ρ2:=fun j h=>(b j h).trans (a j h)
theorem R.gh {C:Ctx} {ow:List Bool} {G:Hp} {ρ:DSt} {σ:St} {H:Hp} {pd:List (D×V)} (h:R C ow G ρ σ H pd):aI G H:=let ⟨_,h⟩:=h; h.gh
theorem R.np {C:Ctx} {ow:List Bool} {G:Hp} {ρ:DSt} {σ:St} {H:Hp} {pd:List (D×V)} (h:R C ow G ρ σ H pd):C.np≤pd.length:=let ⟨_,h⟩:=h; h.np
section
variable {X:Cx} {ow:List Bool} {a b c e:Expr} {ma mb mc:ME} {pos:Pos}
def mVar (i:Nat):ME:=fun ρ q=>match ρ[i]? with
 | some (some d)=>q d ρ
 | _=>False
theorem aa (i:Nat) {x:Str} (hs:ow[i]?≠some true:=by decide) (hN:X.N[i]? = some x:=by rfl) (hv:Vis X.env.scope x:=by first | exact Or.inl rfl | exact Or.inr (Or.inl rfl) | exact Or.inr (Or.inr rfl)) (hd:(x == ("__debug__":Str))=false:=by decide)
 (hcd:(x == ("__classdict__":Str))=false:=by decide):QE X ow (.Name x pos) (mVar i):=⟨_,dC hN hv hd hcd,fun C G ρ σ H pd q Q r h k=>by
 unfold mVar at h
 split at h
 ·rename_i d e
  obtain ⟨O,ro⟩:=r
  obtain ⟨v,h1,h2⟩:=ro.sl i d e
  rw [if_neg hs] at h2
  exact ⟨v,h1,k d ρ v G H h (aI.refl _) Kp.refl ⟨O,ro⟩ h2⟩
 ·exact h.elim⟩
def mC (d:D):ME:=fun ρ q=>q d ρ
theorem qe_c {v:V} {d:D} (h:PE X e (tC v)) (hr:∀ G,Rep G d v):QE X ow e (mC d):=⟨_,h,fun C G ρ σ H pd q Q r h k=>k d ρ v G H h (aI.refl _) Kp.refl r (hr G)⟩
theorem ae {i j}:QE X ow (.Constant (.int i) j pos) (mC (.int i)):=qe_c uS fun _=>bn _
theorem ck {i j}:QE X ow (.Constant (.bool i) j pos) (mC (.bl i)):=qe_c pe_bl fun _=>cp _
theorem eE {x:Str} {i:Int} (hg:Gl X x) (hm:∃ t,X.mg x=some (.int i t)) (hd:(x == ("__debug__":Str))=false:=by decide):QE X ow (.Name x pos) (mC (.int i)):=by
 obtain ⟨t,hm⟩:=hm
 exact qe_c (sK (v:=.int i) hg hm ⟨t,rfl⟩ hd) fun _=>bn _
theorem jp {ta tb:TE} (ha:SE ow ta ma) (hb:SE ow tb mb) {C:Ctx} {G:Hp} {ρ:DSt} {σ:St} {H:Hp} {pd:List (D×V)} {f:D→D→DSt→Prop} {Q:V→V→Hp→Prop}
 (r:R C ow G ρ σ H pd) (h:ma ρ fun x ρ1=>mb ρ1 fun y ρ2=>f x y ρ2)
 (k:∀ dx dy ρ' x y G' H',f dx dy ρ'→aI G G'→Kp ow ρ ρ'→R C ow G' ρ' σ H' pd→Rep G' dx x→Rep G' dy y→Q x y H'):ta σ H fun x H1=>tb σ H1 fun y H2=>Q x y H2:=by
 refine ha C G ρ σ H pd _ _ r h fun dx ρ1 x G1 H1 h1 s1 k1 r1 p1=>?_
 refine hb C G1 ρ1 σ H1 pd _ _ r1 h1 fun dy ρ2 y G2 H2 h2 s2 k2 r2 p2=>?_
 exact k dx dy ρ2 x y G2 H2 h2 (s1.trans s2) (k1.trans k2) r2 (Rep.mono s2 _ _ p1) p2
def DOp (r:R2) (f:D→D→(D→Prop)→Prop):Prop:=∀ (G H:Hp) (x y:V) (dx dy:D) (q:D→Prop) (Q:VK),aI G H→Rep G dx x→Rep G dy y→f dx dy q→(∀ d v,q d→Rep G d v→Q v H)→r x y H Q
def mOp (f:D→D→(D→Prop)→Prop) (ma mb:ME):ME:=fun ρ q=>ma ρ fun x ρ1=>mb ρ1 fun y ρ2=>f x y fun d=>q d ρ2
theorem nA {r:R2} {f:D→D→(D→Prop)→Prop} {ta tb:TE} (hd:DOp r f) (ha:SE ow ta ma) (hb:SE ow tb mb):SE ow (tOp r ta tb) (mOp f ma mb):=fun C G ρ σ H pd q Q hr h k=>by
 refine jp ha hb hr h fun dx dy ρ' x y G' H' hf s kp r' p1 p2=>?_
 exact hd G' H' x y dx dy _ _ r'.gh p1 p2 hf fun d v hq p=>k d ρ' v G' H' hq s kp r' p
theorem aB {op:Operator} {r:R2} {f:D→D→(D→Prop)→Prop} (ho:OpR X (binaryOp op) r) (hd:DOp r f) (ha:QE X ow a ma) (hb:QE X ow b mb):QE X ow (.BinOp a op b pos) (mOp f ma mb):=by
 obtain ⟨ta,pa,sa⟩:=ha; obtain ⟨tb,pb,sb⟩:=hb
 exact ⟨_,qd ho pa pb,nA hd sa sb⟩
theorem em {op:CmpOp} {r:R2} {f:D→D→(D→Prop)→Prop} (ho:OpR X (compareOp op) r) (hd:DOp r f) (ha:QE X ow a ma) (hb:QE X ow b mb) (hm:behindInMarks op b=false):QE X ow (.Compare a [op] [b] pos) (mOp f ma mb):=by
 obtain ⟨ta,pa,sa⟩:=ha; obtain ⟨tb,pb,sb⟩:=hb
 exact ⟨_,sV ho pa pb hm,nA hd sa sb⟩
theorem aH {r:R2} {f:D→D→(D→Prop)→Prop} (ho:IxR X r) (hd:DOp r f) (ha:QE X ow a ma) (hb:QE X ow b mb) (hs:mZ b):QE X ow (.Subscript a b pos) (mOp f ma mb):=by
 obtain ⟨ta,pa,sa⟩:=ha; obtain ⟨tb,pb,sb⟩:=hb
 exact ⟨_,pe_ix ho pa pb hs,nA hd sa sb⟩
def mB (m:ME):MT:=fun ρ q=>m ρ fun d ρ'=>match d with
 | .bl b=>q b ρ'
 | _=>False
theorem cU {G:Hp} {b:Bool} {v:V} (h:Rep G (.bl b) v):v = .bl b:=by rw [Rep] at h; exact h
theorem ay {G:Hp} {b:Int} {v:V} (h:Rep G (.int b) v):v = .int b:=by rw [Rep] at h; exact h
theorem t_ {t:TE} {m:ME} (h:SE ow t m):STe ow (ur t) (mB m):=fun C G ρ σ H pd q Q r hm k=>by
 refine h C G ρ σ H pd _ _ r hm fun d ρ' v G' H' hq s kp r' p=>?_
 cases d with
 | bl b=>exact ⟨b,cU p,k b ρ' G' H' hq s kp r'⟩
 | _=>exact hq.elim
theorem aX {op:CmpOp} {r:R2} {f:D→D→(D→Prop)→Prop} (ho:OpR X (compareOp op) r) (hd:DOp r f) (ha:QE X ow a ma) (hb:QE X ow b mb) (hm:behindInMarks op b=false):QT X ow (.Compare a [op] [b] pos) (mB (mOp f ma mb)):=by
 obtain ⟨ta,pa,sa⟩:=ha; obtain ⟨tb,pb,sb⟩:=hb
 exact ⟨_,tO ho pa pb hm,t_ (nA hd sa sb)⟩
theorem bc (h:QE X ow e ma) (he:∀ whole,isTrue e X.env whole=(do let v ← whole; standAt e.pos; holding [v] (truthy v)):=by intro _; rfl):QT X ow e (mB ma):=by
 obtain ⟨ta,pa,sa⟩:=h
 exact ⟨_,vF pa he,t_ sa⟩
def mIf {α:Type} (m:MT) (x y:DSt→(α→DSt→Prop)→Prop):DSt→(α→DSt→Prop)→Prop:=fun ρ q=>m ρ fun b ρ1=>if b=true then x ρ1 q else y ρ1 q
def rl (b:Bool):MT:=fun ρ q=>q b ρ
theorem tZ {t t1 t2:TT} {m m1 m2:MT} (h:STe ow t m) (h1:STe ow t1 m1) (h2:STe ow t2 m2):STe ow (fun σ H Q=>t σ H fun c H1=>if c=true then t1 σ H1 Q else t2 σ H1 Q) (mIf m m1 m2):=fun C G ρ σ H pd q Q r hm k=>by
 refine h C G ρ σ H pd _ _ r hm fun b ρ' G' H' hq s kp r'=>?_
 cases b with
 | true=>rw [if_pos rfl] at hq ⊢; exact h1 C G' ρ' σ H' pd _ _ r' hq fun b ρ2 G2 H2 hq2 s2 kp2 r2=>k b ρ2 G2 H2 hq2 (s.trans s2) (kp.trans kp2) r2
 | false=>rw [if_neg (by decide)] at hq ⊢; exact h2 C G' ρ' σ H' pd _ _ r' hq fun b ρ2 G2 H2 hq2 s2 kp2 r2=>k b ρ2 G2 H2 hq2 (s.trans s2) (kp.trans kp2) r2
theorem lN (b:Bool):STe ow (fun _ H Q=>Q b H) (rl b):=fun C G ρ σ H pd q Q r hm k=>k b ρ G H hm (aI.refl _) Kp.refl r
variable {mt mu mv:MT} {rest:List Expr}
theorem gS (h:QT X ow a mt):QW X ow (.BoolOp .And [a] pos) mt:=by obtain ⟨t,p,s⟩:=h; exact ⟨_,sC p,s⟩
theorem eG (h:QT X ow a mt):QW X ow (.BoolOp .Or [a] pos) mt:=by obtain ⟨t,p,s⟩:=h; exact ⟨_,uA p,s⟩
theorem jO (h:QT X ow a mt) (h2:QW X ow (.BoolOp .And (b :: rest) pos) mu):QW X ow (.BoolOp .And (a :: b :: rest) pos) (mIf mt mu (rl false)):=by
 obtain ⟨t,p,s⟩:=h; obtain ⟨t2,p2,s2⟩:=h2; exact ⟨_,vw p p2,tZ s s2 (lN false)⟩
theorem gw (h:QT X ow a mt) (h2:QW X ow (.BoolOp .Or (b :: rest) pos) mu):QW X ow (.BoolOp .Or (a :: b :: rest) pos) (mIf mt (rl true) mu):=by
 obtain ⟨t,p,s⟩:=h; obtain ⟨t2,p2,s2⟩:=h2; exact ⟨_,pw_or p p2,tZ s (lN true) s2⟩
theorem QW.qt (h:QW X ow e mt):QT X ow e mt:=by obtain ⟨t,p,s⟩:=h; exact ⟨_,p.pt,s⟩
def mNot (m:MT):MT:=fun ρ q=>m ρ fun b ρ'=>q (!b) ρ'
theorem bx (h:QT X ow a mt):QT X ow (.UnaryOp .Not a pos) (mNot mt):=by
 obtain ⟨t,p,s⟩:=h
 exact ⟨_,u6 p,fun C G ρ σ H pd q Q r hm k=>s C G ρ σ H pd _ _ r hm fun b ρ' G' H' hq s kp r'=>k _ ρ' G' H' hq s kp r'⟩
def mV (m:MT):ME:=fun ρ q=>m ρ fun b ρ'=>q (.bl b) ρ'
theorem eN {op} (h:QE X ow a ma):QE X ow (.BoolOp op [a] pos) ma:=by obtain ⟨t,p,s⟩:=h; exact ⟨_,wp p,s⟩
theorem v_ (h:QE X ow a ma):QE X ow (.UnaryOp .Not a pos) (mV (mNot (mB ma))):=by
 obtain ⟨t,p,s⟩:=h
 refine ⟨_,wS p,fun C G ρ σ H pd q Q r hm k=>?_⟩
 refine s C G ρ σ H pd _ _ r hm fun d ρ' v G' H' hq s kp r' p=>?_
 cases d with
 | bl b=>exact ⟨b,cU p,k _ ρ' _ G' H' hq s kp r' (cp _)⟩
 | _=>exact hq.elim
theorem dF (h:QE X ow a ma) (h2:QE X ow (.BoolOp .And (b :: rest) pos) mb):QE X ow (.BoolOp .And (a :: b :: rest) pos) (mIf (mB ma) mb (mC (.bl false))):=by
 obtain ⟨t,p,s⟩:=h; obtain ⟨t2,p2,s2⟩:=h2
 refine ⟨_,uF p p2,fun C G ρ σ H pd q Q r hm k=>?_⟩
 refine s C G ρ σ H pd _ _ r hm fun d ρ' v G' H' hq s kp r' p=>?_
 cases d with
 | bl b =>
  refine ⟨b,cU p,?_⟩
  change (if b=true then _ else _) at hq
  cases b with
  | true=>rw [if_pos rfl] at hq ⊢; exact s2 C G' ρ' σ H' pd _ _ r' hq fun d ρ2 v G2 H2 hq2 z2 kp2 r2 p2=>k d ρ2 v G2 H2 hq2 (s.trans z2) (kp.trans kp2) r2 p2
  | false=>rw [if_neg (by decide)] at hq ⊢; exact k _ ρ' _ G' H' hq s kp r' (cp _)
 | _=>exact hq.elim
theorem QF.qe (h:QF X ow e ma):QE X ow e ma:=by
 obtain ⟨t,p,s⟩:=h
 refine ⟨_,p,fun C G ρ σ H pd q Q r hm k=>s C G ρ σ H pd _ _ r hm fun d ρ' v G' H' hq s kp r'=>?_⟩
 obtain ⟨O,r'⟩:=r'
 obtain ⟨G2,s2,r2,p2⟩:=r'.share r.np
 exact k d ρ' v G2 H' hq (s.trans s2) kp r2 p2
def mImm (m:ME):ME:=fun ρ q=>m ρ fun d ρ'=>imm d=true∧q d ρ'
theorem QE.qf (h:QE X ow e ma):QF X ow e (mImm ma):=by
 obtain ⟨t,p,s⟩:=h
 refine ⟨_,p,fun C G ρ σ H pd q Q r hm k=>s C G ρ σ H pd _ _ r hm fun d ρ' v G' H' hq s kp r' p=>?_⟩
 obtain ⟨O,r'⟩:=r'
 exact k d ρ' v G' H' hq.2 s kp ⟨O,r'.len,r'.gh,r'.g0,r'.gn,r'.og,r'.cok,r'.fr,r'.ft,r'.al,r'.mp,r'.sl,⟨p.sep d [] v hq.1,r'.pn⟩,Nat.le_succ_of_le r'.np⟩
theorem l5 {js:List Nat} {ρ ρ':DSt} (h:Kp (bor js ow) ρ ρ'):Kp ow ρ ρ':=fun j n=>h j fun z=>n (e6.mp z).1
theorem QE.bor (js:List Nat) (h:QE X (bor js ow) e ma):QE X ow e (mImm ma):=by
 obtain ⟨t,p,s⟩:=h
 refine ⟨_,p,fun C G ρ σ H pd q Q r hm k=>?_⟩
 obtain ⟨O,r⟩:=r
 refine s _ _ ρ σ H pd _ _ ⟨_,r.enter js⟩ hm fun d ρ' v G' H' hq s kp r' p=>?_
 obtain ⟨O',r'⟩:=r'
 obtain ⟨r2,s2,ts⟩:=r.leave r' kp
 exact k d ρ' v _ H' hq.2 s2 (l5 kp) ⟨_,r2⟩ (p.imms ts d v hq.1)
theorem QF.bor (js:List Nat) (h:QF X (bor js ow) e ma):QF X ow e ma:=by
 obtain ⟨t,p,s⟩:=h
 refine ⟨_,p,fun C G ρ σ H pd q Q r hm k=>?_⟩
 obtain ⟨O,r⟩:=r
 refine s _ _ ρ σ H pd _ _ ⟨_,r.enter js⟩ hm fun d ρ' v G' H' hq s kp r'=>?_
 obtain ⟨O',r'⟩:=r'
 obtain ⟨r2,s2,ts⟩:=r.leave r' kp
 exact k d ρ' v _ H' hq s2 (l5 kp) ⟨_,r2⟩
theorem QT.bor (js:List Nat) (h:QT X (bor js ow) e mt):QT X ow e mt:=by
 obtain ⟨t,p,s⟩:=h
 refine ⟨_,p,fun C G ρ σ H pd q Q r hm k=>?_⟩
 obtain ⟨O,r⟩:=r
 refine s _ _ ρ σ H pd _ _ ⟨_,r.enter js⟩ hm fun d ρ' G' H' hq s kp r'=>?_
 obtain ⟨O',r'⟩:=r'
 obtain ⟨r2,s2,ts⟩:=r.leave r' kp
 exact k d ρ' _ H' hq s2 (l5 kp) ⟨_,r2⟩
def oz:MA:=fun ρ q=>q [] ρ
def fu (m:ME) (r:MA):MA:=fun ρ q=>m ρ fun d ρ1=>r ρ1 fun ds ρ2=>q (d :: ds) ρ2
variable {mr:MA} {es:List Expr}
theorem ai:QA X ow [] oz:=⟨_,cx,fun C G ρ σ H pd q Q r h k=>k [] ρ [] G H h (aI.refl _) Kp.refl r bz rfl⟩
theorem ad (ha:QE X ow e ma) (hr:QA X ow es mr) (hs:starEach (e :: es) X.env=(false,eval e X.env) :: starEach es X.env:=by rfl):QA X ow (e :: es) (fu ma mr):=by
 obtain ⟨t,p,s⟩:=ha; obtain ⟨t2,p2,s2⟩:=hr
 refine ⟨_,bq p p2 hs,fun C G ρ σ H pd q Q r hm k=>?_⟩
 refine s C G ρ σ H pd _ _ r hm fun d ρ' v G' H' hq z kp r' p=>?_
 refine s2 C G' ρ' σ H' pd _ _ r' hq fun ds ρ2 vs G2 H2 hq2 z2 kp2 r2 p2 hl=>?_
 exact k (d :: ds) ρ2 (v :: vs) G2 H2 hq2 (z.trans z2) (kp.trans kp2) r2 (bi (Rep.mono z2 _ _ p) p2) (by simp [hl])
def mTup (m:MA):ME:=fun ρ q=>m ρ fun ds ρ'=>q (.tup ds) ρ'
def mLst (m:MA):ME:=fun ρ q=>m ρ fun ds ρ'=>q (.lst ds) ρ'
def mLstI (m:MA):ME:=fun ρ q=>m ρ fun ds ρ'=>imms ds=true∧q (.lst ds) ρ'
theorem dA {n:Nat} (h:n≤1000):n≤sizeLine:=Nat.le_of_lt (bY h)
theorem jz {x1} (h:QA X ow es mr) (hl:es.length≤1000:=by decide):QE X ow (.Tuple es x1 pos) (mTup mr):=by
 obtain ⟨t,p,s⟩:=h
 refine ⟨_,oS p,fun C G ρ σ H pd q Q r hm k=>s C G ρ σ H pd _ _ r hm fun ds ρ' vs G' H' hq z kp r' p hn=>⟨dA (by omega),fun a ha=>?_⟩⟩
 obtain ⟨O,r'⟩:=r'
 obtain ⟨r2,s2⟩:=r'.new ha (.tup vs)
 exact k _ ρ' _ _ _ hq (z.trans s2) kp ⟨O,r2⟩ (gO aG (Reps.mono s2 _ _ p))
theorem df (h:QA X ow es mr) (hl:es.length≤1000:=by decide):QE X ow (.List es pos) (mLst mr):=by
 obtain ⟨t,p,s⟩:=h
 refine ⟨_,pG p,fun C G ρ σ H pd q Q r hm k=>s C G ρ σ H pd _ _ r hm fun ds ρ' vs G' H' hq z kp r' p hn=>⟨dA (by omega),fun a ha=>?_⟩⟩
 obtain ⟨O,r'⟩:=r'
 obtain ⟨r2,s2⟩:=r'.new ha (.lst vs)
 exact k _ ρ' _ _ _ hq (z.trans s2) kp ⟨O,r2⟩ (gJ aG (Reps.mono s2 _ _ p))
theorem eO (h:QA X ow es mr) (hl:es.length≤1000:=by decide):QF X ow (.List es pos) (mLstI mr):=by
 obtain ⟨t,p,s⟩:=h
 refine ⟨_,pG p,fun C G ρ σ H pd q Q r hm k=>s C G ρ σ H pd _ _ r hm fun ds ρ' vs G' H' hq z kp r' p hn=>⟨dA (by omega),fun a ha=>?_⟩⟩
 obtain ⟨O,r'⟩:=r'
 exact k _ ρ' _ _ _ hq.2 z kp (r'.newL ha hq.1 p)
def fk (r:List V→Hp→VK→Prop) (f:List D→(D→Prop)→Prop):Prop:=∀ (G H:Hp) (xs:List V) (ds:List D) (q:D→Prop) (Q:VK),aI G H→Reps G ds xs→f ds q→(∀ d v,q d→Rep G d v→Q v H)→r xs H Q
def mCB (f:List D→(D→Prop)→Prop) (m:MA):ME:=fun ρ q=>m ρ fun ds ρ'=>f ds fun d=>q d ρ'
theorem se_cb {r:List V→Hp→VK→Prop} {f:List D→(D→Prop)→Prop} {t:TA} {n:Nat} (hd:fk r f) (s:SA ow n t mr):SE ow (tCB r t) (mCB f mr):=fun C G ρ σ H pd q Q hr hm k =>
 s C G ρ σ H pd _ _ hr hm fun ds ρ' vs G' H' hq z kp r' p hn=>hd G' H' vs ds _ _ r'.gh p hq fun d v hq p=>k d ρ' v G' H' hq z kp r' p
variable {x:Str} {p':Pos}
theorem aq {id:String} {r:List V→Hp→VK→Prop} {f:List D→(D→Prop)→Prop} (hc:bT X (.builtin id) r) (hd:fk r f) (hg:Gl X x) (hm:X.mg x=none) (hv:bootBuiltins x=some (.builtin id)) (ha:QA X ow (e :: es) mr) (hn:x ≠ "__name__":=by decide) (hdb:(x == ("__debug__":Str))=false:=by decide)
 (he:starEach (e :: es) X.env=(false,eval e X.env) :: starEach es X.env:=by rfl) (hpl:(backTo pos (starEach es X.env)).any (·.1)=false:=by rfl):QE X ow (.Call (.Name x p') (e :: es) [] pos) (mCB f mr):=by
 obtain ⟨t,p,s⟩:=ha
 exact ⟨_,fP hc hg hm hv p hn hdb he hpl,se_cb hd s⟩
end
def fI (g:Int→Int→Int):D→D→(D→Prop)→Prop:=fun a b q=>match a,b with
 | .int i,.int j=>q (.int (g i j))
 | _,_=>False
def fIC (C:Int→Int→Prop) (g:Int→Int→Int):D→D→(D→Prop)→Prop:=fun a b q=>match a,b with
 | .int i,.int j=>C i j∧q (.int (g i j))
 | _,_=>False
def fB (g:Int→Int→Bool):D→D→(D→Prop)→Prop:=fun a b q=>match a,b with
 | .int i,.int j=>q (.bl (g i j))
 | _,_=>False
theorem dI {g:Int→Int→Int}:DOp (rI0 fun i j=>.int (g i j)) (fI g):=fun G H x y dx dy q Q s p1 p2 hf k=>by
 unfold fI at hf
 split at hf
 ·exact ⟨_,_,ay p1,ay p2,k _ _ hf (bn _)⟩
 ·exact hf.elim
theorem dIC {C:Int→Int→Prop} {g:Int→Int→Int}:DOp (rI C fun i j=>.int (g i j)) (fIC C g):=fun G H x y dx dy q Q s p1 p2 hf k=>by
 unfold fIC at hf
 split at hf
 ·exact ⟨_,_,ay p1,ay p2,hf.1,k _ _ hf.2 (bn _)⟩
 ·exact hf.elim
theorem dB {g:Int→Int→Bool}:DOp (rI0 fun i j=>.bl (g i j)) (fB g):=fun G H x y dx dy q Q s p1 p2 hf k=>by
 unfold fB at hf
 split at hf
 ·exact ⟨_,_,ay p1,ay p2,k _ _ hf (cp _)⟩
 ·exact hf.elim
def eqD (a b:D):Bool:=PyData.eqv (toP a) (toP b)
def okD (a:D):Bool:=SeqAt.shaped (toP a)
def fEq:D→D→(D→Prop)→Prop:=fun a b q=>match a,b with
 | .int i,.int j=>q (.bl (decide (i=j)))
 | a,b=>okD a=true∧okD b=true∧q (.bl (eqD a b))
def fNe:D→D→(D→Prop)→Prop:=fun a b q=>match a,b with
 | .int i,.int j=>q (.bl (!decide (i=j)))
 | a,b=>okD a=true∧okD b=true∧q (.bl (!eqD a b))
theorem mN (i j:Int):eqD (.int i) (.int j)=decide (i=j):=by
 unfold eqD; rw [toP,toP,PyData.eqv]; first | rfl | (rw [Bool.beq_eq_decide_eq])
theorem gK (i:Int):okD (.int i)=true:=by unfold okD; rw [toP]; rfl
theorem dEq:DOp rEqD fEq:=fun G H x y dx dy q Q s p1 p2 hf k=>by
 have main:okD dx=true∧okD dy=true∧q (.bl (eqD dx dy)):=by
  unfold fEq at hf
  split at hf
  ·exact ⟨gK _,gK _,by rw [mN]; exact hf⟩
  ·exact hf
 exact ⟨dx,dy,Rep.mono s _ _ p1,Rep.mono s _ _ p2,main.1,main.2.1,k _ _ main.2.2 (cp _)⟩
theorem dNe:DOp rNeD fNe:=fun G H x y dx dy q Q s p1 p2 hf k=>by
 have main:okD dx=true∧okD dy=true∧q (.bl (!eqD dx dy)):=by
  unfold fNe at hf
  split at hf
  ·exact ⟨gK _,gK _,by rw [mN]; exact hf⟩
  ·exact hf
 exact ⟨dx,dy,Rep.mono s _ _ p1,Rep.mono s _ _ p2,main.1,main.2.1,k _ _ main.2.2 (cp _)⟩
def isNon:D→Bool
 | .non=>true
 | _=>false
def fIsB:D→D→(D→Prop)→Prop:=fun a b q=>match a,b with
 | .bl x,.bl y=>q (.bl (x == y))
 | _,_=>False
def dS:D→Bool
 | .non=>true
 | .bl _=>true
 | .int _=>true
 | .str _=>true
 | _=>false
def eqF:D→D→Bool
 | .non,.non=>true
 | .bl a,.bl b=>a == b
 | .bl a,.int b=>(if a then 1 else 0) == b
 | .int a,.bl b=>a == (if b then 1 else 0)
 | .int a,.int b=>a == b
 | .str a,.str b=>a == b
 | _,_=>false
def toV:D→V
 | .non=>.non
 | .bl b=>.bl b
 | .int i=>.int i
 | .str x=>.str x
 | _=>.non
theorem eD {G:Hp} {d:D} {v:V} (h:Rep G d v) (f:dS d=true):v=toV d:=by
 cases d <;> first | (rw [Rep] at h; exact h) | cases f
theorem tI:∀ {a b:D},dS a=true→dS b=true→eqV (toV a) (toV b)=eqF a b:=by
 intro a b f g
 cases a <;> cases b <;> first | rfl | exact absurd f Bool.false_ne_true | exact absurd g Bool.false_ne_true
theorem ge {d:D} (f:dS d=true):fq (toV d)=true:=by
 cases d <;> first | rfl | cases f
theorem d3 {G:Hp}:∀ {ds:List D} {xs:List V},Reps G ds xs→ds.all dS=true→xs=ds.map toV
 | [],xs,h,_=>by rw [Reps] at h; subst h; rfl
 | d :: ds,xs,h,f=>by
  rw [Reps] at h
  obtain ⟨v,vs,rfl,h1,h2⟩:=h
  rw [List.all_cons,Bool.and_eq_true] at f
  rw [eD h1 f.1,d3 h2 f.2]; rfl
def inD (a:D) (ds:List D):Bool:=ds.any fun y=>eqF y a
theorem jN {a:D} (f:dS a=true):∀ {ds:List D},ds.all dS=true→inV (toV a) (ds.map toV)=inD a ds
 | [],_=>rfl
 | d :: ds,g=>by
  rw [List.all_cons,Bool.and_eq_true] at g
  have:=jN f g.2
  unfold inV inD at *
  rw [List.map_cons,List.any_cons,List.any_cons,tI g.1 f,this]
theorem iD:∀ {ds:List D},ds.all dS=true→(ds.map toV).all fq=true
 | [],_=>rfl
 | d :: ds,g=>by
  rw [List.all_cons,Bool.and_eq_true] at g
  rw [List.map_cons,List.all_cons,ge g.1,iD g.2]; rfl
def fIn (neg:Bool):D→D→(D→Prop)→Prop:=fun a b q=>match b with
 | .lst ds=>dS a=true∧ds.all dS=true∧q (.bl (if neg then !inD a ds else inD a ds))
 | .tup ds=>dS a=true∧ds.all dS=true∧q (.bl (if neg then !inD a ds else inD a ds))
 | _=>False
theorem dIn {K:PySem.W.Frag} {neg:Bool}:DOp (rIn K neg) (fIn neg):=fun G H x y dx dy q Q s p1 p2 hf k=>by
 unfold fIn at hf
 split at hf
 ·rw [Rep] at p2
  obtain ⟨a,xs,rfl,h1,h2⟩:=p2
  obtain ⟨f1,f2,hq⟩:=hf
  refine ⟨a,xs,rfl,.inl (SqL.of (s _ _ h1)),?_,?_,?_⟩
  ·rw [eD p1 f1]; exact ge f1
  ·rw [d3 h2 f2]; exact iD f2
  ·rw [eD p1 f1,d3 h2 f2,jN f1 f2]; exact k _ _ hq (cp _)
 ·rw [Rep] at p2
  obtain ⟨a,xs,rfl,h1,h2⟩:=p2
  obtain ⟨f1,f2,hq⟩:=hf
  refine ⟨a,xs,rfl,.inr (SqT.of (s _ _ h1)),?_,?_,?_⟩
  ·rw [eD p1 f1]; exact ge f1
  ·rw [d3 h2 f2]; exact iD f2
  ·rw [eD p1 f1,d3 h2 f2,jN f1 f2]; exact k _ _ hq (cp _)
 ·exact hf.elim
def atD (ds:List D) (i:Int) (q:D→Prop):Prop:=match atI ds i with
 | some d=>q d
 | none=>False
def fIx (K:PySem.W.Frag):D→D→(D→Prop)→Prop:=fun a b q=>match a,b with
 | .lst ds,.int i=>atD ds i q
 | .tup ds,.int i=>atD ds i q
 | .scr φ ns,.int i=>(∀ a H,φ a→SqL K H a (ns.map V.int))∧match atI ns i with
  | some n=>q (.int n)
  | none=>False
 | _,_=>False
theorem cC {G:Hp}:∀ {ds:List D} {xs:List V} {j:Nat} {d:D},Reps G ds xs→ds[j]? = some d→∃ v,xs[j]? = some v∧Rep G d v
 | [],_,_,_,_,e=>by simp at e
 | d :: ds,xs,0,e,h,q=>by rw [Reps] at h; obtain ⟨v,vs,rfl,h1,_⟩:=h; simp at q; subst q; exact ⟨v,rfl,h1⟩
 | d :: ds,xs,j + 1,e,h,q=>by
  rw [Reps] at h
  obtain ⟨v,vs,rfl,_,h2⟩:=h
  obtain ⟨u,e1,e2⟩:=cC (j:=j) h2 (by simpa using q)
  exact ⟨u,by simpa using e1,e2⟩
theorem kS {G:Hp} {ds:List D} {xs:List V} {i:Int} {d:D} (h:Reps G ds xs) (e:atI ds i=some d):∃ v,atI xs i=some v∧Rep G d v:=by
 unfold atI at *
 rw [h.length]
 cases q:ixN ds.length i with
 | none=>rw [q] at e; cases e
 | some j=>rw [q] at e; exact cC h e
theorem mF {α β:Type} {f : α→β} {xs:List α} {i:Int} {x : α} (h:atI xs i=some x):atI (xs.map f) i=some (f x):=by
 unfold atI at *
 rw [List.length_map]
 cases q:ixN xs.length i with
 | none=>rw [q] at h; cases h
 | some j=>rw [q] at h; rw [show (Option.some j).bind _=(xs.map f)[j]? from rfl,List.getElem?_map,show xs[j]? = some x from h]; rfl
theorem dIx {K:PySem.W.Frag}:DOp (rIx K) (fIx K):=fun G H x y dx dy q Q s p1 p2 hf k=>by
 unfold fIx at hf
 split at hf
 ·rw [Rep] at p1
  obtain ⟨a,xs,rfl,h1,h2⟩:=p1
  unfold atD at hf
  split at hf
  ·rename_i e
   obtain ⟨v,e1,e2⟩:=kS h2 e
   exact .inl ⟨a,xs,_,v,rfl,ay p2,SqL.of (s _ _ h1),e1,k _ _ hf e2⟩
  ·exact hf.elim
 ·rw [Rep] at p1
  obtain ⟨a,xs,rfl,h1,h2⟩:=p1
  unfold atD at hf
  split at hf
  ·rename_i e
   obtain ⟨v,e1,e2⟩:=kS h2 e
   exact .inr (.inl ⟨a,xs,_,v,rfl,ay p2,SqT.of (s _ _ h1),e1,k _ _ hf e2⟩)
  ·exact hf.elim
 ·rw [Rep] at p1
  obtain ⟨a,rfl,h1⟩:=p1
  obtain ⟨hk,hf⟩:=hf
  split at hf
  ·rename_i e
   refine .inl ⟨a,_,_,_,rfl,ay p2,?_,mF e,k _ _ hf (bn _)⟩
   rcases h1 with ⟨o,h1⟩ | h1
   ·exact .inl (.inr ⟨o,s _ _ h1⟩)
   ·exact hk a H h1
  ·exact hf.elim
 ·exact hf.elim
def fLen (K:PySem.W.Frag):List D→(D→Prop)→Prop:=fun ds q=>match ds with
 | [.lst ds]=>q (.int ds.length)
 | [.tup ds]=>q (.int ds.length)
 | [.scr φ ns]=>(∀ a H,φ a→SqL K H a (ns.map V.int))∧q (.int ns.length)
 | _=>False
theorem aJ {G:Hp} {ds:List D} {v:V} (h:Rep G (.lst ds) v):∃ a xs,v = .ref a∧G a=some (.lst xs)∧Reps G ds xs:=by rw [Rep] at h; exact h
theorem cr {G:Hp} {ds:List D} {v:V} (h:Rep G (.tup ds) v):∃ a xs,v = .ref a∧G a=some (.tup xs)∧Reps G ds xs:=by rw [Rep] at h; exact h
theorem lI {G:Hp} {φ:Addr→Prop} {ns:List Int} {v:V} (h:Rep G (.scr φ ns) v):∃ a,v = .ref a∧((∃ o,G a=some (.frz o (.lst (ns.map V.int))))∨φ a):=by rw [Rep] at h; exact h
theorem be {G:Hp} {d:D} {xs:List V} (h:Reps G [d] xs):∃ v,xs=[v]∧Rep G d v:=by
 rw [Reps] at h; obtain ⟨v,vs,rfl,h1,h2⟩:=h; rw [Reps] at h2; subst h2; exact ⟨v,rfl,h1⟩
theorem dN {G:Hp} {d e:D} {xs:List V} (h:Reps G [d,e] xs):∃ v u,xs=[v,u]∧Rep G d v∧Rep G e u:=by
 rw [Reps] at h; obtain ⟨v,vs,rfl,h1,h2⟩:=h; obtain ⟨u,rfl,h3⟩:=be h2; exact ⟨v,u,rfl,h1,h3⟩
theorem cE {K:PySem.W.Frag}:fk (fun xs H Q=>∃ p ys,xs=[.ref p]∧(SqL K H p ys∨SqT K H p ys)∧Q (.int ys.length) H) (fLen K):=fun G H xs ds q Q s p hf k=>by
 unfold fLen at hf
 split at hf
 ·obtain ⟨v,rfl,p1⟩:=be p
  obtain ⟨a,xs,rfl,h1,h2⟩:=aJ p1
  exact ⟨a,xs,rfl,.inl (SqL.of (s _ _ h1)),by rw [h2.length]; exact k _ _ hf (bn _)⟩
 ·obtain ⟨v,rfl,p1⟩:=be p
  obtain ⟨a,xs,rfl,h1,h2⟩:=cr p1
  exact ⟨a,xs,rfl,.inr (SqT.of (s _ _ h1)),by rw [h2.length]; exact k _ _ hf (bn _)⟩
 ·obtain ⟨v,rfl,p1⟩:=be p
  obtain ⟨a,rfl,h1⟩:=lI p1
  rename_i φ ns
  have hS:SqL K H a (ns.map V.int):=by
   rcases h1 with ⟨o,h1⟩ | h1
   ·exact .inl (.inr ⟨o,s _ _ h1⟩)
   ·exact hf.1 a H h1
  exact ⟨a,_,rfl,.inl hS,by rw [List.length_map]; exact k _ _ hf.2 (bn _)⟩
 ·exact hf.elim
def fMax:List D→(D→Prop)→Prop:=fun ds q=>match ds with
 | [.int i,.int j]=>q (.int (if j > i then j else i))
 | _=>False
def fMin:List D→(D→Prop)→Prop:=fun ds q=>match ds with
 | [.int i,.int j]=>q (.int (if j<i then j else i))
 | _=>False
theorem dMax:fk (fun xs H Q=>∃ i j,xs=[.int i,.int j]∧Q (.int (if j > i then j else i)) H) fMax:=fun G H xs ds q Q s p hf k=>by
 unfold fMax at hf
 split at hf
 ·obtain ⟨v,u,rfl,p1,p2⟩:=dN p
  rw [ay p1,ay p2]
  exact ⟨_,_,rfl,k _ _ hf (bn _)⟩
 ·exact hf.elim
theorem lD:fk (fun xs H Q=>∃ i j,xs=[.int i,.int j]∧Q (.int (if j<i then j else i)) H) fMin:=fun G H xs ds q Q s p hf k=>by
 unfold fMin at hf
 split at hf
 ·obtain ⟨v,u,rfl,p1,p2⟩:=dN p
  rw [ay p1,ay p2]
  exact ⟨_,_,rfl,k _ _ hf (bn _)⟩
 ·exact hf.elim
section
variable {X:Cx} {ow:List Bool} {a b c e:Expr} {ma mb mc:ME} {pos:Pos} {mr:MA} {es:List Expr}
def mNeg (m:ME):ME:=fun ρ q=>m ρ fun d ρ'=>match d with
 | .int i=>q (.int (-i)) ρ'
 | _=>False
def mIsT (T:String) (m:ME):ME:=fun ρ q=>m ρ fun d ρ'=>match oI d T with
 | some b=>q (.bl b) ρ'
 | none=>False
theorem d8 {T:String} {x y:Str} {p1 p2:Pos} (hg:Gl X x) (hm:X.mg x=none) (hv:bootBuiltins x=some (.builtin "isinstance")) (ha:QE X ow a ma) (ht:PE X (.Name y p2) (tC (.ty T)))
 (hn:x ≠ "__name__":=by decide) (hdb:(x == ("__debug__":Str))=false:=by decide)
 (hs:starEach [.Name y p2] X.env=[(false,eval (.Name y p2) X.env)]:=by rfl)
 (he:starEach [a,.Name y p2] X.env=(false,eval a X.env) :: starEach [.Name y p2] X.env:=by rfl) (hpl:(backTo pos (starEach [.Name y p2] X.env)).any (·.1)=false:=by rfl) :
 QE X ow (.Call (.Name x p1) [a,.Name y p2] [] pos) (mIsT T ma):=by
 obtain ⟨t,p,s⟩:=ha
 refine ⟨_,fP kq hg hm hv (bq p (bq ht cx hs) he) hn hdb he hpl,fun C G ρ σ H pd q Q r hm k=>s C G ρ σ H pd _ _ r hm fun d ρ' v G' H' hq s kp r' p=>?_⟩
 cases e:oI d T with
 | none=>rw [e] at hq; exact hq.elim
 | some b=>rw [e] at hq; exact ⟨v,T,d,b,rfl,Rep.mono r'.gh _ _ p,e,k _ ρ' _ G' H' hq s kp r' (cp _)⟩
def qT (f g:D→D→(D→Prop)→Prop) (ma mb mc:ME):ME:=fun ρ q=>ma ρ fun x ρ1=>mb ρ1 fun y ρ2=>f x y fun z=>match z with
 | .bl k=>if k=true then mc ρ2 fun w ρ3=>g y w fun d=>q d ρ3 else q (.bl false) ρ2
 | _=>False
theorem oZ {r r':R2} {f g:D→D→(D→Prop)→Prop} {ta tb tc:TE} (hf:DOp r f) (hg:DOp r' g) (ha:SE ow ta ma) (hb:SE ow tb mb) (hc:SE ow tc mc):SE ow (rf r r' ta tb tc) (qT f g ma mb mc):=fun C G ρ σ H pd q Q hr h k=>by
 refine jp (Q:=fun x y H2=>r x y H2 _) ha hb hr h fun dx dy ρ' x y G' H' h1 s kp r1 p1 p2=>?_
 refine hf G' H' x y dx dy _ _ r1.gh p1 p2 h1 fun d v hq p=>?_
 cases d with
 | bl b =>
  refine ⟨b,cU p,?_⟩
  change (if b=true then _ else _) at hq
  cases b with
  | true =>
   rw [if_pos rfl] at hq ⊢
   refine hc C G' ρ' σ H' pd _ _ r1 hq fun dw ρ3 w G3 H3 h3 s3 kp3 r3 p3=>?_
   exact hg G3 H3 y w dy dw _ _ r3.gh (Rep.mono s3 _ _ p2) p3 h3 fun d v hq p=>k d ρ3 v G3 H3 hq (s.trans s3) (kp.trans kp3) r3 p
  | false=>rw [if_neg (by decide)] at hq ⊢; exact k _ ρ' _ G' H' hq s kp r1 (cp _)
 | _=>exact hq.elim
theorem kd {op op':CmpOp} {r r':R2} {f g:D→D→(D→Prop)→Prop} (ho:OpR X (compareOp op) r) (ho':OpR X (compareOp op') r') (hf:DOp r f) (hg:DOp r' g) (ha:QE X ow a ma) (hb:QE X ow b mb) (hc:QE X ow c mc)
 (hm:lastMarks [op,op'] [b,c]=false:=by with_unfolding_all rfl):QE X ow (.Compare a [op,op'] [b,c] pos) (qT f g ma mb mc):=by
 obtain ⟨ta,pa,sa⟩:=ha; obtain ⟨tb,pb,sb⟩:=hb; obtain ⟨tc,pc,sc⟩:=hc
 exact ⟨_,o5 ho ho' pa pb pc hm,oZ hf hg sa sb sc⟩
def fR (r:List V→Hp→VK→Prop) (f:List D→(List D→Prop)→Prop):Prop:=∀ (G H:Hp) (xs:List V) (ds:List D) (q:List D→Prop) (Q:VK),aI G H→Reps G ds xs→f ds q →
 (∀ es ys p,q es→Reps G es ys→H p=none→Q (.ref p) (upd H p (.lst ys)))→r xs H Q
def mNew (f:List D→(List D→Prop)→Prop) (m:MA):ME:=fun ρ q=>m ρ fun ds ρ'=>f ds fun es=>imms es=true∧q (.lst es) ρ'
def pY (f:List D→(List D→Prop)→Prop) (m:MA):ME:=fun ρ q=>m ρ fun ds ρ'=>f ds fun es=>q (.lst es) ρ'
theorem lP {r:List V→Hp→VK→Prop} {f:List D→(List D→Prop)→Prop} {t:TA} {n:Nat} (hd:fR r f) (s:SA ow n t mr):SF ow (fun σ H Q=>t σ H fun xs H1=>r xs H1 Q) (mNew f mr):=fun C G ρ σ H pd q Q hr hm k =>
 s C G ρ σ H pd _ _ hr hm fun ds ρ' vs G' H' hq z kp r' p hn=>hd G' H' vs ds _ _ r'.gh p hq fun es ys a hq p ha=>by
  obtain ⟨O,r'⟩:=r'
  exact k _ ρ' _ _ _ hq.2 z kp (r'.newL ha hq.1 p)
theorem pw {r:List V→Hp→VK→Prop} {f:List D→(List D→Prop)→Prop} {t:TA} {n:Nat} (hd:fR r f) (s:SA ow n t mr):SE ow (fun σ H Q=>t σ H fun xs H1=>r xs H1 Q) (pY f mr):=fun C G ρ σ H pd q Q hr hm k =>
 s C G ρ σ H pd _ _ hr hm fun ds ρ' vs G' H' hq z kp r' p hn=>hd G' H' vs ds _ _ r'.gh p hq fun es ys a hq p ha=>by
  obtain ⟨O,r'⟩:=r'
  obtain ⟨r2,s2⟩:=r'.new ha (.lst ys)
  exact k _ ρ' _ _ _ hq (z.trans s2) kp ⟨O,r2⟩ (gJ aG (Reps.mono s2 _ _ p))
theorem pe {ta tb:TE} (ha:SE ow ta ma) (hb:SE ow tb mb):SA ow 2 (fun σ H Q=>ta σ H fun x H1=>tb σ H1 fun y H2=>Q [x,y] H2) (fu ma (fu mb oz)):=fun C G ρ σ H pd q Q hr hm k =>
 jp (Q:=fun x y H2=>Q [x,y] H2) ha hb hr hm fun dx dy ρ' x y G' H' h1 s kp r1 p1 p2=>k [dx,dy] ρ' [x,y] G' H' h1 s kp r1 (bi p1 (bi p2 bz)) rfl
theorem dO {G:Hp}:∀ {ds es:List D} {xs ys:List V},Reps G ds xs→Reps G es ys→Reps G (ds++es) (xs++ys)
 | [],es,xs,ys,h,h2=>by rw [Reps] at h; subst h; exact h2
 | d :: ds,es,xs,ys,h,h2=>by rw [Reps] at h; obtain ⟨v,vs,rfl,h1,h3⟩:=h; exact bi h1 (dO h3 h2)
theorem jd {G:Hp}:∀ {ds:List D} {xs:List V} (n:Nat),Reps G ds xs→Reps G (ds.drop n) (xs.drop n)
 | [],xs,n,h=>by rw [Reps] at h; subst h; simp; exact bz
 | d :: ds,xs,0,h=>h
 | d :: ds,xs,n + 1,h=>by rw [Reps] at h; obtain ⟨v,vs,rfl,h1,h3⟩:=h; exact jd n h3
theorem iX {G:Hp}:∀ {ds:List D} {xs:List V} (n:Nat),Reps G ds xs→Reps G (ds.take n) (xs.take n)
 | [],xs,n,h=>by rw [Reps] at h; subst h; simp; exact bz
 | d :: ds,xs,0,h=>by simp; exact bz
 | d :: ds,xs,n + 1,h=>by rw [Reps] at h; obtain ⟨v,vs,rfl,h1,h3⟩:=h; exact bi h1 (iX n h3)
theorem kg {G:Hp} {ds:List D} {xs:List V} (h:Reps G ds xs):∀ n:Nat,Reps G (List.replicate n ds).flatten (List.replicate n xs).flatten
 | 0=>by simp; exact bz
 | n + 1=>by simp [List.replicate_succ]; exact dO h (kg h n)
def fCat:List D→(List D→Prop)→Prop:=fun ds q=>match ds with
 | [.lst xs,.lst ys]=>xs.length + ys.length≤1000∧q (xs++ys)
 | _=>False
theorem dCat:fR (fun xs H Q=>∃ x y,xs=[x,y]∧rCat x y H Q) fCat:=fun G H xs ds q Q s p hf k=>by
 unfold fCat at hf
 split at hf
 ·obtain ⟨v,u,rfl,p1,p2⟩:=dN p
  rw [Rep] at p1 p2
  obtain ⟨a1,xs,rfl,h1,h2⟩:=p1
  obtain ⟨a2,ys,rfl,h3,h4⟩:=p2
  exact ⟨_,_,rfl,a1,a2,xs,ys,rfl,rfl,s _ _ h1,s _ _ h3,dA (by rw [h2.length,h4.length]; exact hf.1),fun p hp=>k _ _ p hf.2 (dO h2 h4) hp⟩
 ·exact hf.elim
def fRep:List D→(List D→Prop)→Prop:=fun ds q=>match ds with
 | [.lst xs,.int n]=>(-(2 ^ 63)≤n∧n<2 ^ 63∧xs.length * n.toNat≤1000)∧q (List.replicate n.toNat xs).flatten
 | _=>False
theorem dRep:fR (fun xs H Q=>∃ x y,xs=[x,y]∧rRep x y H Q) fRep:=fun G H xs ds q Q s p hf k=>by
 unfold fRep at hf
 split at hf
 ·obtain ⟨v,u,rfl,p1,p2⟩:=dN p
  obtain ⟨a1,xs,rfl,h1,h2⟩:=aJ p1
  rw [ay p2]
  exact ⟨_,_,rfl,a1,_,xs,rfl,rfl,s _ _ h1,hf.1.1,hf.1.2.1,dA (by rw [h2.length]; exact hf.1.2.2),fun p hp=>k _ _ p hf.2 (kg h2 _) hp⟩
 ·exact hf.elim
def mMk (f:List D→(List D→Prop)→Prop) (ma mb:ME):ME:=mNew f (fu ma (fu mb oz))
def mMkS (f:List D→(List D→Prop)→Prop) (ma mb:ME):ME:=pY f (fu ma (fu mb oz))
def R2ok (r:R2):List V→Hp→VK→Prop:=fun xs H Q=>match xs with
 | [x,y]=>r x y H Q
 | _=>False
theorem fR.r2 {r:R2} {f:List D→(List D→Prop)→Prop} (h:fR (fun xs H Q=>∃ x y,xs=[x,y]∧r x y H Q) f):fR (R2ok r) f:=fun G H xs ds q Q s p hf k=>by
 obtain ⟨x,y,rfl,z⟩:=h G H xs ds q Q s p hf k
 exact z
theorem qD {op:Operator} {r:R2} {f:List D→(List D→Prop)→Prop} (ho:OpR X (binaryOp op) r) (hd:fR (fun xs H Q=>∃ x y,xs=[x,y]∧r x y H Q) f) (ha:QE X ow a ma) (hb:QE X ow b mb):QF X ow (.BinOp a op b pos) (mMk f ma mb):=by
 obtain ⟨ta,pa,sa⟩:=ha; obtain ⟨tb,pb,sb⟩:=hb
 exact ⟨tOp r ta tb,qd ho pa pb,lP (r:=R2ok r) hd.r2 (pe sa sb)⟩
theorem qe_mk {op:Operator} {r:R2} {f:List D→(List D→Prop)→Prop} (ho:OpR X (binaryOp op) r) (hd:fR (fun xs H Q=>∃ x y,xs=[x,y]∧r x y H Q) f) (ha:QE X ow a ma) (hb:QE X ow b mb):QE X ow (.BinOp a op b pos) (mMkS f ma mb):=by
 obtain ⟨ta,pa,sa⟩:=ha; obtain ⟨tb,pb,sb⟩:=hb
 exact ⟨tOp r ta tb,qd ho pa pb,pw (r:=R2ok r) hd.r2 (pe sa sb)⟩
def uh:List D→(List D→Prop)→Prop:=fun ds q=>match ds with
 | [.lst xs]=>q xs
 | [.tup xs]=>q xs
 | _=>False
theorem nz {K:PySem.W.Frag}:fR (fun xs H Q=>∃ p ys,xs=[.ref p]∧(SqL K H p ys∨SqT K H p ys)∧∀ l,H l=none→Q (.ref l) (upd H l (.lst ys))) uh:=fun G H xs ds q Q s p hf k=>by
 unfold uh at hf
 split at hf
 ·obtain ⟨v,rfl,p1⟩:=be p
  obtain ⟨a,xs,rfl,h1,h2⟩:=aJ p1
  exact ⟨a,xs,rfl,.inl (SqL.of (s _ _ h1)),fun l hl=>k _ _ l hf h2 hl⟩
 ·obtain ⟨v,rfl,p1⟩:=be p
  obtain ⟨a,xs,rfl,h1,h2⟩:=cr p1
  exact ⟨a,xs,rfl,.inr (SqT.of (s _ _ h1)),fun l hl=>k _ _ l hf h2 hl⟩
 ·exact hf.elim
variable {x:Str} {p':Pos}
theorem gm {id:String} {r:List V→Hp→VK→Prop} {f:List D→(List D→Prop)→Prop} (hc:bT X (.type id) r) (hd:fR r f) (hg:Gl X x) (hm:X.mg x=none) (hv:bootBuiltins x=some (.type id)) (ha:QA X ow (e :: es) mr) (hn:x ≠ "__name__":=by decide) (hdb:(x == ("__debug__":Str))=false:=by decide)
 (he:starEach (e :: es) X.env=(false,eval e X.env) :: starEach es X.env:=by rfl) (hpl:(backTo pos (starEach es X.env)).any (·.1)=false:=by rfl):QF X ow (.Call (.Name x p') (e :: es) [] pos) (mNew f mr):=by
 obtain ⟨t,p,s⟩:=ha
 exact ⟨_,dP hc hg hm hv p hn hdb he hpl,lP hd s⟩
theorem lG {id:String} {r:List V→Hp→VK→Prop} {f:List D→(List D→Prop)→Prop} (hc:bT X (.type id) r) (hd:fR r f) (hg:Gl X x) (hm:X.mg x=none) (hv:bootBuiltins x=some (.type id)) (ha:QA X ow (e :: es) mr) (hn:x ≠ "__name__":=by decide) (hdb:(x == ("__debug__":Str))=false:=by decide)
 (he:starEach (e :: es) X.env=(false,eval e X.env) :: starEach es X.env:=by rfl) (hpl:(backTo pos (starEach es X.env)).any (·.1)=false:=by rfl):QE X ow (.Call (.Name x p') (e :: es) [] pos) (pY f mr):=by
 obtain ⟨t,p,s⟩:=ha
 exact ⟨_,dP hc hg hm hv p hn hdb he hpl,pw hd s⟩
theorem hX {id:String} {r:List V→Hp→VK→Prop} {f:List D→(List D→Prop)→Prop} (hc:bT X (.builtin id) r) (hd:fR r f) (hg:Gl X x) (hm:X.mg x=none) (hv:bootBuiltins x=some (.builtin id)) (ha:QA X ow (e :: es) mr) (hn:x ≠ "__name__":=by decide) (hdb:(x == ("__debug__":Str))=false:=by decide)
 (he:starEach (e :: es) X.env=(false,eval e X.env) :: starEach es X.env:=by rfl) (hpl:(backTo pos (starEach es X.env)).any (·.1)=false:=by rfl):QF X ow (.Call (.Name x p') (e :: es) [] pos) (mNew f mr):=by
 obtain ⟨t,p,s⟩:=ha
 exact ⟨_,fP hc hg hm hv p hn hdb he hpl,lP hd s⟩
def cutD (xs:List D) (lo hi:Option Int):List D:=(xs.drop (HT.sIx xs.length 0 lo)).take (HT.sIx xs.length xs.length hi - HT.sIx xs.length 0 lo)
theorem rE {G:Hp} {ds:List D} {xs:List V} (h:Reps G ds xs) (lo hi:Option Int):Reps G (cutD ds lo hi) (jr xs lo hi):=by
 unfold cutD jr
 rw [h.length]
 exact iX _ (jd _ h)
abbrev MO:=DSt→(Option Int→DSt→Prop)→Prop
def SO (ow:List Bool) (t:TO) (m:MO):Prop:=∀ (C:Ctx) (G:Hp) (ρ:DSt) (σ:St) (H:Hp) (pd:List (D×V)) (q:Option Int→DSt→Prop) (Q:Option Int→Hp→Prop),R C ow G ρ σ H pd→m ρ q →
 (∀ b ρ' G' H',q b ρ'→aI G G'→Kp ow ρ ρ'→R C ow G' ρ' σ H' pd→Q b H')→t σ H Q
structure QO (X:Cx) (ow:List Bool) (e:Option Expr) (m:MO):Prop where
 ex:∃ t,PO X e t∧SO ow t m
def sM:MO:=fun ρ q=>q none ρ
def mPart (m:ME):MO:=fun ρ q=>m ρ fun d ρ'=>match d with
 | .int i=>q (some i) ρ'
 | _=>False
theorem sT:QO X ow none sM:=⟨_,tK,fun C G ρ σ H pd q Q r h k=>k none ρ G H h (aI.refl _) Kp.refl r⟩
theorem sA (h:QE X ow e ma):QO X ow (some e) (mPart ma):=by
 obtain ⟨t,p,s⟩:=h
 refine ⟨_,tS p,fun C G ρ σ H pd q Q r hm k=>s C G ρ σ H pd _ _ r hm fun d ρ' v G' H' hq s kp r' p=>?_⟩
 cases d with
 | int i=>exact ⟨i,ay p,k _ ρ' G' H' hq s kp r'⟩
 | _=>exact hq.elim
variable {lo hi:Option Expr} {ml mh:MO} {p2:Pos}
end
def cy (f:Nat→Option Nat) (O:Own):Own:=fun a=>match O a with
 | some m=>(f m.1).map fun l=>(l,m.2)
 | none=>none
theorem l8 {f:Nat→Option Nat} {O:Own} {a:Addr} {l l':Nat} {π:List Nat} (h:O a=some (l,π)) (hf:f l=some l'):cy f O a=some (l',π):=by unfold cy; rw [h]; show (f l).map _=_; rw [hf]; rfl
theorem fb {f:Nat→Option Nat} {O:Own} {a:Addr} {l':Nat} {π:List Nat} (h:cy f O a=some (l',π)):∃ l,O a=some (l,π)∧f l=some l':=by
 unfold cy at h
 cases e:O a with
 | none=>rw [e] at h; cases h
 | some m =>
  rw [e] at h
  change (f m.1).map _=_ at h
  cases e2:f m.1 with
  | none=>rw [e2] at h; cases h
  | some l=>rw [e2] at h; cases h; exact ⟨m.1,rfl,e2⟩
theorem nJ {f:Nat→Option Nat} {O:Own} {a:Addr} {l:Nat} {π:List Nat} (h:O a=some (l,π)) (hf:f l=none):cy f O a=none:=by unfold cy; rw [h]; show (f l).map _=_; rw [hf]; rfl
def msV:List Bool→List V→List (Option V)
 | b :: bs,v :: vs=>(if b=true then some v else none) :: msV bs vs
 | _,_=>[]
theorem jn:∀ {mu:List Bool} {vs:List V} {k:Nat} {v:V},(msV mu vs)[k]? = some (some v)→mu[k]? = some true∧vs[k]? = some v
 | [],vs,k,v,h=>by simp [msV] at h
 | b :: bs,[],k,v,h=>by simp [msV] at h
 | b :: bs,u :: vs,0,v,h=>by
  simp only [msV,List.getElem?_cons_zero,Option.some.injEq] at h
  split at h
  ·rename_i c; cases h; subst c; exact ⟨rfl,rfl⟩
  ·cases h
 | b :: bs,u :: vs,k + 1,v,h=>by
  simp only [msV,List.getElem?_cons_succ] at h
  simpa using jn h
theorem lC:∀ {mu:List Bool} {vs:List V} {k:Nat} {v:V},mu[k]? = some true→vs[k]? = some v→(msV mu vs)[k]? = some (some v)
 | [],vs,k,v,h,_=>by simp at h
 | b :: bs,[],k,v,_,h=>by simp at h
 | b :: bs,u :: vs,0,v,h,h2=>by simp at h h2; subst h; subst h2; simp [msV]
 | b :: bs,u :: vs,k + 1,v,h,h2=>by simp only [msV,List.getElem?_cons_succ]; exact lC (by simpa using h) (by simpa using h2)
section
variable {C:Ctx} {ow mu:List Bool} {G:Hp} {ρ:DSt} {σ:St} {H:Hp} {pd:List (D×V)} {O:Own} {fin fbk:Nat→Option Nat}
theorem RO.into (ro:RO C ow G ρ σ H pd O) {ds:List D} {vs:List V} (hl:ds.length=vs.length)
 (hs:∀ (k:Nat) d,ds[k]? = some d→∃ v,vs[k]? = some v∧if mu[k]? = some true then ∃ l,Sep G H O l d [] v∧fin l=some (2 * k) else Rep G d v)
 (hc:∀ l l',fin l=some l'→∃ k,l'=2 * k∧mu[k]? = some true∧k<vs.length) :
 RO ⟨G,H,cy fin O,msV mu vs,0⟩ mu G (ds.map some) (vs.map some) H [] (cy fin O):=by
 refine ⟨by simp [hl],ro.gh,fun _ _ e=>e,fun _ _ e=>.inl e,?_,?_,fun _ _ e _ _=>e,ro.ft,fun _ e=>e,?_,?_,trivial,Nat.le_refl _⟩
 ·intro a m e
  obtain ⟨l',π⟩:=m
  obtain ⟨l,e1,e2⟩:=fb e
  obtain ⟨q1,q2,_⟩:=ro.og a _ e1
  exact ⟨q1,q2,.inr ⟨π,e⟩⟩
 ·intro a l' π e
  obtain ⟨l,e1,e2⟩:=fb e
  obtain ⟨k,rfl,h2,h3⟩:=hc _ _ e2
  exact .inl ⟨k,vs[k],rfl,lC h2 (List.getElem?_eq_getElem h3)⟩
 ·intro k v e
  rw [List.getElem?_map,(jn e).2]; rfl
 ·intro k d e
  rw [List.getElem?_map] at e
  cases e1:ds[k]? with
  | none=>rw [e1] at e; cases e
  | some d' =>
   rw [e1] at e
   cases e
   obtain ⟨v,h1,h2⟩:=hs k d e1
   refine ⟨v,by rw [List.getElem?_map,h1]; rfl,?_⟩
   split at h2
   ·rename_i c
    rw [if_pos c]
    obtain ⟨l,h3,h4⟩:=h2
    exact h3.keep (fun _ _ z=>z) fun a τ q=>⟨l8 q h4,rfl⟩
   ·rename_i c; rw [if_neg c]; exact h2
def nQ (fin fbk:Nat→Option Nat) (O O2:Own):Own:=fun a=>match O2 a with
 | some m=>(fbk m.1).map fun l=>(l,m.2)
 | none=>match cy fin O a with
  | some _=>none
  | none=>O a
theorem RO.out (ro:RO C ow G ρ σ H pd O) {vs:List V} {G2:Hp} {ρ2:DSt} {σ2:St} {H2:Hp} {pd2 pd3:List (D×V)} {O2:Own} {ρ3:DSt} {ow2:List Bool} {np:Nat} {mv:List (Option V)}
 (ri:RO ⟨G,H,cy fin O,mv,np⟩ ow2 G2 ρ2 σ2 H2 pd2 O2) (hib:∀ l0 l' l,fin l0=some l'→fbk l'=some l→l=l0)
 (hlen : ρ3.length=σ.length) (hnp:C.np≤pd3.length)
 (hS:∀ (i:Nat) d,ow[i]?≠some true→ρ3[i]? = some (some d)→ρ[i]? = some (some d))
 (hO:∀ (i:Nat) d,ow[i]? = some true→ρ3[i]? = some (some d)→(fin (2 * i)=none∧ρ[i]? = some (some d))∨∃ (k:Nat) (v:V),fbk (2 * k)=some (2 * i)∧ow2[k]? = some true∧ρ2[k]? = some (some d)∧σ[i]? = some (some v)∧σ2[k]? = some (some v))
 (hP:∀ (O3:Own),(∀ a l π,O a=some (l,π)→fin l=none→O3 a=some (l,π)∧H2 a=H a)→(∀ a l l' π,O2 a=some (l',π)→fbk l'=some l→O3 a=some (l,π))→cK G G2→bZ G2 H2 O3 pd3) :
 RO C ow G2 ρ3 σ H2 pd3 (nQ fin fbk O O2):=by
 have keep:∀ a l π,O a=some (l,π)→fin l=none→nQ fin fbk O O2 a=some (l,π)∧H2 a=H a:=fun a l π e hn=>by
  have e1:=nJ (f:=fin) e hn
  obtain ⟨g,⟨xs,hx⟩,_⟩:=ro.og a _ e
  have e2:O2 a=none:=by
   cases q:O2 a with
   | none=>rfl
   | some m =>
    obtain ⟨_,_,q3⟩:=ri.og a m q
    rcases q3 with q3 | ⟨π',q3⟩
    ·change H a=none at q3; rw [hx] at q3; cases q3
    ·change cy fin O a=_ at q3; rw [e1] at q3; cases q3
  constructor
  ·show (match O2 a with | some m=>_ | none=>_)=_
   rw [e2]
   show (match cy fin O a with | some _=>none | none=>O a)=_
   rw [e1]; exact e
  ·rw [ri.fr a _ hx e1 (WrO.nt xs),hx]
 have come:∀ a l l' π,O2 a=some (l',π)→fbk l'=some l→nQ fin fbk O O2 a=some (l,π):=fun a l l' π e hb=>by
  show (match O2 a with | some m=>_ | none=>_)=_
  rw [e]
  show (fbk l').map _=_
  rw [hb]; rfl
 have ts:cK G G2:=(aI.ts ri.g0)
 refine ⟨hlen,ri.gh,fun a o e=>ri.g0 a o (ro.g0 a o e),?_,?_,ro.cok,?_,ri.ft,fun a e=>ro.al a (ri.al a e),ro.mp,?_,hP _ keep come ts,hnp⟩
 ·intro a o e
  rcases ri.gn a o e with q | q
  ·exact ro.gn a o q
  ·exact .inr (ro.al a q)
 ·intro a m e
  change (match O2 a with | some m=>_ | none=>_)=_ at e
  cases q:O2 a with
  | some m' =>
   rw [q] at e
   change (fbk m'.1).map _=_ at e
   cases q2:fbk m'.1 with
   | none=>rw [q2] at e; cases e
   | some l =>
    rw [q2] at e; cases e
    obtain ⟨g1,g2,g3⟩:=ri.og a m' q
    refine ⟨g1,g2,?_⟩
    rcases g3 with g3 | ⟨π',g3⟩
    ·exact .inl (ro.al a g3)
    ·obtain ⟨l0,g4,g5⟩:=fb g3
     have:=hib _ _ _ g5 q2
     subst this
     exact (ro.og a _ g4).2.2
  | none =>
   rw [q] at e
   change (match cy fin O a with | some _=>none | none=>O a)=_ at e
   cases q2:cy fin O a with
   | some _=>rw [q2] at e; cases e
   | none =>
    rw [q2] at e
    change O a=some m at e
    obtain ⟨g1,⟨xs,g2⟩,g3⟩:=ro.og a m e
    refine ⟨?_,⟨xs,ri.fr a _ g2 q2 (WrO.nt xs)⟩,g3⟩
    cases z:G2 a with
    | none=>rfl
    | some o =>
     rcases ri.gn a o z with z | z
     ·change G a=_ at z; rw [g1] at z; cases z
     ·change H a=_ at z; rw [g2] at z; cases z
 ·intro a o e n t
  have q:=ro.fr a o e n t
  refine ri.fr a o q ?_ t
  show cy fin O a=none
  cases z:cy fin O a with
  | none=>rfl
  | some m =>
   obtain ⟨l',π⟩:=m
   obtain ⟨l,z1,_⟩:=fb z
   obtain ⟨_,_,z3⟩:=ro.og a _ z1
   rcases z3 with z3 | ⟨_,z3⟩
   ·rw [z3] at e; cases e
   ·rw [z3] at n; cases n
 ·intro i d e
  by_cases c:ow[i]? = some true
  ·rcases hO i d c e with ⟨h1,h2⟩ | ⟨k,v,h1,h2,h3,h4,h5⟩
   ·obtain ⟨v,q1,q2⟩:=ro.sl i d h2
    rw [if_pos c] at q2
    exact ⟨v,q1,by rw [if_pos c]; exact q2.keep ts fun a τ q=>keep a _ _ q h1⟩
   ·obtain ⟨v',q1,q2⟩:=ri.sl k d h3
    rw [if_pos h2] at q2
    rw [h5] at q1; cases q1
    exact ⟨v,h4,by rw [if_pos c]; exact q2.keep (fun _ _ z=>z) fun a τ q=>⟨come _ _ _ _ q h1,rfl⟩⟩
  ·obtain ⟨v,q1,q2⟩:=ro.sl i d (hS i d c e)
   rw [if_neg c] at q2
   exact ⟨v,q1,by rw [if_neg c]; exact q2.mono ri.g0⟩
end
def Ret (fr:Bool) (C:Ctx) (ow:List Bool) (G:Hp) (ρ:DSt) (σ:St) (H:Hp) (d:D) (v:V):Prop:=if fr=true then R C ow G ρ σ H [(d,v)] else R C ow G ρ σ H []∧Rep G d v
def mus:List Bool→DSt→DSt
 | true :: bs,x :: ρ=>x :: mus bs ρ
 | false :: bs,_ :: ρ=>mus bs ρ
 | true :: bs,[]=>none :: mus bs []
 | false :: bs,[]=>mus bs []
 | [],_=>[]
def cf {α:Type}:Nat→List (Option α)→List (Option α)
 | 0,_=>[]
 | n + 1,x :: ρ=>x :: cf n ρ
 | n + 1,[]=>none :: cf n []
theorem cD {α:Type}:∀ (n:Nat) (ρ:List (Option α)),(cf n ρ).length=n
 | 0,_=>rfl
 | n + 1,x :: ρ=>by simp [cf,cD n ρ]
 | n + 1,[]=>by simp [cf,cD n []]
theorem cG:∀ (mu:List Bool) (ρ:DSt),mus mu (cf mu.length ρ)=mus mu ρ
 | [],_=>by simp [mus]
 | true :: bs,x :: ρ=>by simp [cf,mus,cG bs ρ]
 | false :: bs,x :: ρ=>by simp [cf,mus,cG bs ρ]
 | true :: bs,[]=>by simp [cf,mus,cG bs []]
 | false :: bs,[]=>by simp [cf,mus,cG bs []]
theorem jR {α:Type}:∀ {n:Nat} {ρ:List (Option α)} {i:Nat} {d : α},(cf n ρ)[i]? = some (some d)→i<n∧ρ[i]? = some (some d)
 | 0,_,_,_,h=>by simp [cf] at h
 | n + 1,x :: ρ,0,d,h=>by simp [cf] at h; exact ⟨by omega,by simp [h]⟩
 | n + 1,x :: ρ,i + 1,d,h=>by simp only [cf,List.getElem?_cons_succ] at h; obtain ⟨a,b⟩:=jR h; exact ⟨by omega,by simpa using b⟩
 | n + 1,[],0,d,h=>by simp [cf] at h
 | n + 1,[],i + 1,d,h=>by simp only [cf,List.getElem?_cons_succ] at h; obtain ⟨a,b⟩:=jR h; simp at b
theorem jJ {α:Type}:∀ {n:Nat} {ρ:List (Option α)} {i:Nat} {d : α},i<n→ρ[i]? = some (some d)→(cf n ρ)[i]? = some (some d)
 | 0,_,_,_,h,_=>by omega
 | n + 1,x :: ρ,0,d,h,e=>by simp at e; simp [cf,e]
 | n + 1,x :: ρ,i + 1,d,h,e=>by simp only [cf,List.getElem?_cons_succ]; exact jJ (by omega) (by simpa using e)
 | n + 1,[],i,d,h,e=>by simp at e
abbrev SpD:=List D→(D→DSt→Prop)→Prop
def a9 (mu:List Bool) (fr:Bool) (sd:SpD):Sp:=fun vs H Q _=>∃ (C:Ctx) (G:Hp) (ds:List D) (q:D→DSt→Prop),C.np=0∧C.mu=msV mu vs∧R C mu G (ds.map some) (vs.map some) H []∧sd ds q∧mu.length=ds.length ∧
 ∀ d ρ' σ' v G' H',q d (mus mu ρ')→aI G G'→ρ'.length=mu.length→Ret fr C mu G' ρ' σ' H' d v→Q v H'
structure EndsD where
 nx:DSt→Prop
 rt:D→DSt→Prop
 bk:DSt→Prop:=fun _=>False
 ct:DSt→Prop:=fun _=>False
abbrev MS:=EndsD→DSt→Prop
structure Ks (C:Ctx) (ow:List Bool) (fr:Bool) (G:Hp) (n:EndsD) (D:Ends):Prop where
 nx:∀ ρ σ G' H,n.nx ρ→aI G G'→R C ow G' ρ σ H []→D.nx σ H
 bk:∀ ρ σ G' H,n.bk ρ→aI G G'→R C ow G' ρ σ H []→D.bk σ H
 ct:∀ ρ σ G' H,n.ct ρ→aI G G'→R C ow G' ρ σ H []→D.ct σ H
 rt:∀ d ρ σ v G' H,n.rt d ρ→aI G G'→Ret fr C ow G' ρ σ H d v→D.rt v H
theorem Ks.mono {C:Ctx} {ow:List Bool} {fr:Bool} {G G1:Hp} {n:EndsD} {D:Ends} (h:Ks C ow fr G n D) (s:aI G G1):Ks C ow fr G1 n D :=
 ⟨fun ρ σ G' H a b c=>h.nx ρ σ G' H a (s.trans b) c,fun ρ σ G' H a b c=>h.bk ρ σ G' H a (s.trans b) c,fun ρ σ G' H a b c=>h.ct ρ σ G' H a (s.trans b) c,fun d ρ σ v G' H a b c=>h.rt d ρ σ v G' H a (s.trans b) c⟩
def gE (C:Ctx) (mu:List Bool):Prop:=∀ (i:Nat) v,C.mu[i]? = some (some v)→mu[i]? = some true
theorem gE.no {C:Ctx} {mu:List Bool} (h:gE C mu) {i:Nat} (hi:mu[i]?≠some true):∀ v,C.mu[i]?≠some (some v):=fun v e=>hi (h i v e)
structure Md where
 mu:List Bool
 ow:List Bool
 fr:Bool
def SS (M:Md) (t:TS) (m:MS):Prop:=∀ (C:Ctx) (G:Hp) (ρ:DSt) (σ:St) (H:Hp) (n:EndsD) (D:Ends),gE C M.mu→C.np=0→R C M.ow G ρ σ H []→m n ρ→Ks C M.ow M.fr G n D→t D σ H
structure QS (X:Cx) (M:Md) (st:Stmt) (m:MS):Prop where
 ex:∃ t,PS X st t∧SS M t m
structure QSs (X:Cx) (M:Md) (st:List Stmt) (m:MS):Prop where
 ex:∃ t,PSs X st t∧SS M t m
section
variable {X:Cx} {M:Md} {a b c e:Expr} {ma mb mc:ME} {mt:MT} {pos pos':Pos} {st:Stmt} {rest:List Stmt} {m m1 m2:MS}
def mSeq (m1 m2:MS):MS:=fun n ρ=>m1 { n with nx:=fun ρ'=>m2 n ρ' } ρ
def mNext:MS:=fun n ρ=>n.nx ρ
theorem aL:QSs X M [] mNext:=⟨_,su,fun C G ρ σ H n D hm hn r h k=>k.nx ρ σ G H h (aI.refl _) r⟩
theorem ag (h:QS X M st m):QSs X M [st] m:=by obtain ⟨t,p,s⟩:=h; exact ⟨_,tG p,s⟩
theorem ac (h:QS X M st m1) (h2:QSs X M rest m2):QSs X M (st :: rest) (mSeq m1 m2):=by
 obtain ⟨t,p,s⟩:=h; obtain ⟨t2,p2,s2⟩:=h2
 refine ⟨_,pv p p2,fun C G ρ σ H n D hm hn r h k=>s C G ρ σ H _ _ hm hn r h ?_⟩
 exact ⟨fun ρ' σ' G' H' h' z r'=>s2 C G' ρ' σ' H' n D hm hn r' h' (k.mono z),k.bk,k.ct,k.rt⟩
def uJ:MS:=fun _ _=>False
theorem dH:QS X M st uJ:=⟨_,oU,fun C G ρ σ H n D hm hn r h k=>h.elim⟩
def mIfS (mt:MT) (m1 m2:MS):MS:=fun n ρ=>mt ρ fun b ρ1=>if b=true then m1 n ρ1 else m2 n ρ1
theorem bu {s1 s2:List Stmt} (h:QT X M.ow c mt) (h1:QSs X M s1 m1) (h2:QSs X M s2 m2):QS X M (.If c s1 s2 pos) (mIfS mt m1 m2):=by
 obtain ⟨t,p,s⟩:=h; obtain ⟨t1,p1,s1⟩:=h1; obtain ⟨t2,p2,s2⟩:=h2
 refine ⟨_,ps_if p p1 p2,fun C G ρ σ H n D hm hn r h k=>s C G ρ σ H [] _ _ r h fun b ρ' G' H' hq z kp r'=>?_⟩
 cases b with
 | true=>rw [if_pos rfl] at hq ⊢; exact s1 C G' ρ' σ H' n D hm hn r' hq (k.mono z)
 | false=>rw [if_neg (by decide)] at hq ⊢; exact s2 C G' ρ' σ H' n D hm hn r' hq (k.mono z)
def mRet (m:ME):MS:=fun n ρ=>m ρ n.rt
theorem aE (h:QE X M.ow e ma) (hf:M.fr=false:=by rfl):QS X M (.Return (some e) pos) (mRet ma):=by
 obtain ⟨t,p,s⟩:=h
 refine ⟨_,qq p,fun C G ρ σ H n D hm hn r h k=>s C G ρ σ H [] _ _ r h fun d ρ' v G' H' hq z kp r' p=>k.rt d ρ' σ v G' H' hq z (by unfold Ret; rw [if_neg (by rw [hf]; decide)]; exact ⟨r',p⟩)⟩
theorem R.non {C:Ctx} {ow:List Bool} {fr:Bool} {G:Hp} {ρ:DSt} {σ:St} {H:Hp} (r:R C ow G ρ σ H []):Ret fr C ow G ρ σ H .non .non:=by
 unfold Ret
 split
 ·obtain ⟨O,r⟩:=r
  exact ⟨O,r.len,r.gh,r.g0,r.gn,r.og,r.cok,r.fr,r.ft,r.al,r.mp,r.sl,⟨by rw [Sep],trivial⟩,Nat.le_succ_of_le r.np⟩
 ·exact ⟨r,tz⟩
def pS (i:Nat) (m:ME):MS:=fun n ρ=>m ρ fun d ρ1=>n.nx (ρ1.set i (some d))
theorem pQ {t:TE} {i:Nat} (s:SE M.ow t ma) (ho:M.ow[i]?≠some true) (hu:M.mu[i]?≠some true):SS M (qS t (hU i)) (pS i ma):=fun C G ρ σ H n D hm hn r h k =>
 s C G ρ σ H [] _ _ r h fun d ρ' v G' H' hq z kp r' p=>by
  obtain ⟨O,r'⟩:=r'
  exact k.nx _ _ G' H' hq z ⟨O,r'.setS ho (hm.no hu) p⟩
theorem sX {t:TE} {i:Nat} (s:SF M.ow t ma) (ho:M.ow[i]? = some true) (hu:M.mu[i]?≠some true):SS M (qS t (hU i)) (pS i ma):=fun C G ρ σ H n D hm hn r h k =>
 s C G ρ σ H [] _ _ r h fun d ρ' v G' H' hq z kp r'=>by
  obtain ⟨O,r'⟩:=r'
  exact k.nx _ _ G' H' hq z (r'.setO ho (hm.no hu) (by rw [hn]; exact Nat.zero_le _))
theorem aT {i:Nat} {x:Str} (hN:X.N.Nodup) (hi:X.N[i]? = some x) (hx:Loc X.env.scope x) (he:QE X M.ow e ma) (ho:M.ow[i]?≠some true:=by decide) (hu:M.mu[i]?≠some true:=by decide) (hs:swapsWith e (some (.Name x pos')) pos.line X.env=pure false:=by rfl) (hf:X.fn x=true∨X.env.scope.names.lookup x=some .local:=by first | exact .inl rfl | exact .inr rfl | assumption) :
 QS X M (.Assign [.Name x pos'] e pos) (pS i ma):=by
 obtain ⟨t,p,s⟩:=he
 exact ⟨_,o_ hN hi hx p hs hf,pQ s ho hu⟩
theorem bv {i:Nat} {x:Str} (hN:X.N.Nodup) (hi:X.N[i]? = some x) (hx:Loc X.env.scope x) (he:QF X M.ow e ma) (ho:M.ow[i]? = some true:=by decide) (hu:M.mu[i]?≠some true:=by decide) (hs:swapsWith e (some (.Name x pos')) pos.line X.env=pure false:=by rfl) (hf:X.fn x=true∨X.env.scope.names.lookup x=some .local:=by first | exact .inl rfl | exact .inr rfl | assumption) :
 QS X M (.Assign [.Name x pos'] e pos) (pS i ma):=by
 obtain ⟨t,p,s⟩:=he
 exact ⟨_,o_ hN hi hx p hs hf,sX s ho hu⟩
def mPar (i j:Nat) (ma mb:ME):MS:=fun n ρ=>ma ρ fun x ρ1=>mb ρ1 fun y ρ2=>n.nx ((ρ2.set i (some x)).set j (some y))
theorem wQ {i j:Nat} {x y:Str} {px py pt:Pos} {kt k2 pt2} (hc:X.calm=true) (hN:X.N.Nodup) (hi:X.N[i]? = some x) (hj:X.N[j]? = some y) (hij:i≠j)
 (hx:X.env.scope.names.lookup x=some .local) (hy:X.env.scope.names.lookup y=some .local) (ha:QE X M.ow a ma) (hb:QE X M.ow b mb)
 (hw:swappedStores [.Tuple [.Name x px,.Name y py] kt pt] (.Tuple [a,b] k2 pt2) X.env=pure (some [x,y]))
 (oi:M.ow[i]?≠some true:=by decide) (oj:M.ow[j]?≠some true:=by decide) (ui:M.mu[i]?≠some true:=by decide) (uj:M.mu[j]?≠some true:=by decide)
 (hs1:starEach [a,b] X.env=(false,eval a X.env) :: starEach [b] X.env:=by rfl) (hs2:starEach [b] X.env=[(false,eval b X.env)]:=by rfl)
 (hs:swapsWithSole [.Tuple [.Name x px,.Name y py] kt pt] (.Tuple [a,b] k2 pt2) pos.line X.env=pure false:=by rfl) :
 QS X M (.Assign [.Tuple [.Name x px,.Name y py] kt pt] (.Tuple [a,b] k2 pt2) pos) (mPar i j ma mb):=by
 obtain ⟨ta,pa,sa⟩:=ha; obtain ⟨tb,pb,sb⟩:=hb
 refine ⟨_,vp hc hN hi hj hij hx hy (bq pa (bq pb cx hs2) hs1) hw hs,fun C G ρ σ H n D hm hn r h k=>?_⟩
 refine jp (Q:=fun u w H2=>∃ v w',[u,w]=[v,w']∧D.nx ((σ.set i (some v)).set j (some w')) H2) sa sb r h fun dx dy ρ' u w G' H' hq z kp r' p1 p2=>⟨u,w,rfl,?_⟩
 obtain ⟨O,r'⟩:=r'
 exact k.nx _ _ G' H' hq z ⟨O,(r'.setS oi (hm.no ui) p1).setS oj (hm.no uj) p2⟩
abbrev MG:=D→DSt→(DSt→Prop)→Prop
abbrev MGs:=List D→DSt→(DSt→Prop)→Prop
def SG (M:Md) (g:TG) (m:MG):Prop:=∀ (C:Ctx) (G:Hp) (ρ:DSt) (σ:St) (H:Hp) (pd:List (D×V)) (d:D) (v:V) (k:DSt→Prop) (K:St→Hp→Prop),gE C M.mu→R C M.ow G ρ σ H pd→Rep G d v→m d ρ k →
 (∀ ρ' σ',k ρ'→R C M.ow G ρ' σ' H pd→K σ' H)→g v σ H K
def SGs (M:Md) (g:TGs) (m:MGs):Prop:=∀ (C:Ctx) (G:Hp) (ρ:DSt) (σ:St) (H:Hp) (pd:List (D×V)) (d:List D) (v:List V) (k:DSt→Prop) (K:St→Hp→Prop),gE C M.mu→R C M.ow G ρ σ H pd→Reps G d v→m d ρ k →
 (∀ ρ' σ',k ρ'→R C M.ow G ρ' σ' H pd→K σ' H)→g v σ H K
structure QG (X:Cx) (M:Md) (e:Expr) (m:MG):Prop where
 ex:∃ t,PG X e t∧SG M t m
structure QGs (X:Cx) (M:Md) (e:List Expr) (m:MGs):Prop where
 ex:∃ t,PGs X e t∧SGs M t m
def f8 (i:Nat):MG:=fun d ρ k=>k (ρ.set i (some d))
theorem aD {i:Nat} {x:Str} (hN:X.N.Nodup) (hi:X.N[i]? = some x) (hx:Loc X.env.scope x) (ho:M.ow[i]?≠some true:=by decide) (hu:M.mu[i]?≠some true:=by decide) (hf:X.fn x=true∨X.env.scope.names.lookup x=some .local:=by first | exact .inl rfl | exact .inr rfl | assumption):QG X M (.Name x pos) (f8 i) :=
 ⟨_,aP hN hi hx hf,fun C G ρ σ H pd d v k K hm r p h kk=>by obtain ⟨O,r⟩:=r; exact kk _ _ h ⟨O,r.setS ho (hm.no hu) p⟩⟩
def mO:MGs:=fun ds ρ k=>match ds with
 | []=>k ρ
 | _=>False
def g_ (t:MG) (u:MGs):MGs:=fun ds ρ k=>match ds with
 | d :: ds=>t d ρ fun ρ1=>u ds ρ1 k
 | []=>False
def qg (t:MGs):MG:=fun d ρ k=>match d with
 | .tup ds=>t ds ρ k
 | _=>False
variable {mg:MG} {mgs:MGs} {es:List Expr}
theorem b_:QGs X M [] mO:=⟨_,jk,fun C G ρ σ H pd d v k K hm r p h kk=>by
 cases d with
 | nil=>rw [Reps] at p; exact ⟨p,kk _ _ h r⟩
 | cons _ _=>exact h.elim⟩
theorem aM (h1:QG X M e mg) (h2:QGs X M es mgs) (hs:(assignEach (e :: es) X.env).map (·.2)=assign e X.env :: (assignEach es X.env).map (·.2):=by rfl):QGs X M (e :: es) (g_ mg mgs):=by
 obtain ⟨t,p,s⟩:=h1; obtain ⟨t2,p2,s2⟩:=h2
 refine ⟨_,eH p p2 hs,fun C G ρ σ H pd d v k K hm r p h kk=>?_⟩
 cases d with
 | nil=>exact h.elim
 | cons d ds =>
  rw [Reps] at p
  obtain ⟨v,vs,rfl,p1,p3⟩:=p
  exact ⟨v,vs,rfl,s C G ρ σ H pd d v _ _ hm r p1 h fun ρ' σ' h' r'=>s2 C G ρ' σ' H pd ds vs k K hm r' p3 h' kk⟩
def i5 (n:Nat) (m:MGs):Prop:=∀ ds ρ k,m ds ρ k→ds.length=n
theorem ba:i5 0 mO:=fun ds ρ k h=>by cases ds with | nil=>rfl | cons _ _=>exact h.elim
theorem au {n:Nat} {i:Nat} (h:i5 n mgs):i5 (n + 1) (g_ (f8 i) mgs):=fun ds ρ k q=>by
 cases ds with
 | nil=>exact q.elim
 | cons d ds=>simp [h ds _ _ q]
theorem cX {kk:Nat} {n:Nat} (hc:X.calm=true) (h:QGs X M es mgs) (ht:i5 n mgs)
 (hn:(assignEach es X.env).length=n:=by rfl) (hst:(assignEach es X.env).findIdx? (·.1)=none:=by rfl):QG X M (.Tuple es kk pos) (qg mgs):=by
 obtain ⟨t,p,s⟩:=h
 refine ⟨_,li hc p hn hst,fun C G ρ σ H pd d v k K hm r p h kk=>?_⟩
 cases d with
 | tup ds =>
  obtain ⟨a,xs,rfl,h1,h2⟩:=cr p
  exact ⟨a,xs,rfl,SqT.of (r.gh _ _ h1),by rw [h2.length]; exact ht _ _ _ h,s C G ρ σ H pd ds xs k K hm r h2 h kk⟩
 | _=>exact h.elim
def mAsg (m:ME) (g:MG):MS:=fun n ρ=>m ρ fun d ρ1=>g d ρ1 n.nx
theorem fC {tg:Expr} (he:QE X M.ow e ma) (hg:QG X M tg mg) (hs:swapsWithSole [tg] e pos.line X.env=pure false:=by rfl) (hw:swappedStores [tg] e X.env=pure none:=by rfl)
 (h1:(assignEach [tg] X.env).map (·.2)=[assign tg X.env]:=by rfl):QS X M (.Assign [tg] e pos) (mAsg ma mg):=by
 obtain ⟨t,p,s⟩:=he; obtain ⟨t2,p2,s2⟩:=hg
 refine ⟨_,lX p p2 hs hw h1,fun C G ρ σ H n D hm hn r h k=>s C G ρ σ H [] _ _ r h fun d ρ' v G' H' hq z kp r' p=>?_⟩
 exact s2 C G' ρ' σ H' [] d v _ _ hm r' p hq fun ρ2 σ2 h2 r2=>k.nx ρ2 σ2 G' H' h2 z r2
def mDrop (m:ME):MS:=fun n ρ=>m ρ fun _ ρ1=>n.nx ρ1
theorem dt (he:QE X M.ow e ma) (hs:swapsWith e none pos.line X.env=pure false:=by rfl):QS X M (.Expr e pos) (mDrop ma):=by
 obtain ⟨t,p,s⟩:=he
 exact ⟨_,gR p hs,fun C G ρ σ H n D hm hn r h k=>s C G ρ σ H [] _ _ r h fun d ρ' v G' H' hq z kp r' p=>k.nx ρ' σ G' H' hq z r'⟩
def mS (i:Nat) (m:ME):MS:=fun n ρ=>match ρ[i]? with
 | some (some (.lst _))=>m ρ fun d ρ1=>match ρ1[i]? with
  | some (some (.lst ds))=>ds.length<1000∧n.nx (ρ1.set i (some (.lst (ds++[d]))))
  | _=>False
 | _=>False
theorem cV {i:Nat} {x:Str} {apos cpos npos:Pos} (hN:X.N[i]? = some x) (he:QF X M.ow e ma) (ho:M.ow[i]? = some true:=by decide)
 (hv:Vis X.env.scope x:=by first | exact Or.inl rfl | exact Or.inr (Or.inl rfl) | exact Or.inr (Or.inr rfl)) (hd:(x == ("__debug__":Str))=false:=by decide) (hcd:(x == ("__classdict__":Str))=false:=by decide)
 (hbase:attributeBase (.Name x npos) "append" X.env (eval (.Name x npos) X.env)=eval (.Name x npos) X.env:=by rfl)
 (hfew:((backTo cpos (starEach [e] X.env)).all (fun x=>!x.1)&&(backToKw cpos (keywordEach [] X.env)).all (fun x=>x.1.isSome)
  && decide ([e].length + ([]:List Keyword).length + (if ([]:List Keyword).isEmpty then 0 else 1)<30))=true:=by rfl)
 (hline:(apos.endLine == cpos.line)=true:=by rfl) (hst:starEach [e] X.env=[(false,eval e X.env)]:=by rfl)
 (hs:swapsWith (.Call (.Attribute (.Name x npos) "append" apos) [e] [] cpos) none pos.line X.env=pure false:=by rfl) :
 QS X M (.Expr (.Call (.Attribute (.Name x npos) "append" apos) [e] [] cpos) pos) (mS i ma):=by
 obtain ⟨t,p,s⟩:=he
 refine ⟨_,gR (nj PySem.F.plainAttrs_list PySem.F.slot_list_append PySem.F.type_list_append om (dC hN hv hd hcd) (bq p cx hst) hbase hfew hline hst (by rfl)) hs,fun C G ρ σ H n D hm hn r h k=>?_⟩
 unfold mS at h
 split at h
 ·rename_i ds e1
  obtain ⟨O,ro⟩:=r
  obtain ⟨a,xs,h1,h2,_,_⟩:=ro.write e1 ho
  refine ⟨.ref a,h1,.inl ⟨rfl,xs,SqL.of h2⟩,?_⟩
  refine s C G ρ σ H [] _ _ ⟨O,ro⟩ h fun d ρ' v G' H' hq z kp r'=>?_
  split at hq
  ·rename_i ds' e2
   obtain ⟨O',r'⟩:=r'
   obtain ⟨O2,r2,s2,s3⟩:=r'.join i ds'.length (by rw [hn]; exact Nat.zero_le _)
   obtain ⟨a',xs',g1,g2,g3,g4⟩:=r2.write e2 ho
   rw [h1] at g1; cases g1
   have hl:=g3.length
   refine ⟨a,xs',v,rfl,rfl,g2,by rw [hl]; exact bY (Nat.le_of_lt hq.1),?_⟩
   exact k.nx _ _ G' _ hq.2 z ⟨O2,g4 _ _ (g3.snoc (by simpa using s2))⟩
  ·exact hq.elim
 ·exact h.elim
def mSetI (i:Nat) (mk m:ME):MS:=fun n ρ=>m ρ fun d ρ1=>match ρ1[i]? with
 | some (some (.lst _))=>mk ρ1 fun k ρ2=>match ρ2[i]? with
  | some (some (.lst ds))=>match k with
   | .int j=>match ixN ds.length j with
    | some p=>n.nx (ρ2.set i (some (.lst (ds.set p d))))
    | none=>False
   | _=>False
  | _=>False
 | _=>False
theorem fE {i:Nat} {x:Str} {npos spos:Pos} (hN:X.N[i]? = some x) (he:QF X M.ow e ma) (hk:QE X M.ow b mb) (ho:M.ow[i]? = some true:=by decide)
 (hv:Vis X.env.scope x:=by first | exact Or.inl rfl | exact Or.inr (Or.inl rfl) | exact Or.inr (Or.inr rfl)) (hd:(x == ("__debug__":Str))=false:=by decide) (hcd:(x == ("__classdict__":Str))=false:=by decide)
 (ha:∀ v,assign (.Subscript (.Name x npos) b spos) X.env v=(do
  let ov ← holding [v] (eval (.Name x npos) X.env)
  let iv ← holding [v,ov] (eval b X.env)
  standAt spos
  holding [v,ov,iv] (setItem ov iv v)
  release [v,ov,iv] []):=by intro _; rfl)
 (hs:swapsWithSole [.Subscript (.Name x npos) b spos] e pos.line X.env=pure false:=by rfl) (hw:swappedStores [.Subscript (.Name x npos) b spos] e X.env=pure none:=by rfl)
 (h1:(assignEach [.Subscript (.Name x npos) b spos] X.env).map (·.2)=[assign (.Subscript (.Name x npos) b spos) X.env]:=by rfl) :
 QS X M (.Assign [.Subscript (.Name x npos) b spos] e pos) (mSetI i mb ma):=by
 obtain ⟨t,p,s⟩:=he; obtain ⟨t2,p2,s2⟩:=hk
 refine ⟨_,lX p (uX (dC hN hv hd hcd) p2 hZ ha) hs hw h1,fun C G ρ σ H n D hm hn r h k=>s C G ρ σ H [] _ _ r h fun d ρ' v G' H' hq z kp r'=>?_⟩
 split at hq
 ·rename_i ds0 e0
  obtain ⟨O0,ro⟩:=r'
  obtain ⟨a,xs,hu,_,_,_⟩:=ro.write e0 ho
  refine ⟨.ref a,hu,?_⟩
  refine s2 C G' ρ' σ H' _ _ _ ⟨O0,ro⟩ hq fun dk ρ2 jv G2 H2 hq2 z2 kp2 r2 pj=>?_
  split at hq2
  ·rename_i ds e2
   cases dk with
   | int j =>
    dsimp only at hq2
    split at hq2
    ·rename_i pl e3
     obtain ⟨O',r2⟩:=r2
     obtain ⟨O2,r3,w2,w3⟩:=r2.join i pl (by rw [hn]; exact Nat.zero_le _)
     obtain ⟨a',xs',g1,g2,g3,g4⟩:=r3.write e2 ho
     rw [hu] at g1; cases g1
     refine ⟨a,xs',j,pl,rfl,ay pj,g2,by rw [g3.length]; exact e3,?_⟩
     exact k.nx _ _ G2 _ hq2 (z.trans z2) ⟨O2,g4 _ _ (g3.set (by simpa using w2))⟩
    ·exact hq2.elim
   | _=>exact hq2.elim
  ·exact hq2.elim
 ·exact hq.elim
def wt (mt:MT) (mb:MS):MS:=fun n ρ=>∃ W:Nat→DSt→Prop,(∃ k,W k ρ)∧∀ k ρ,W k ρ→mt ρ fun b ρ1 =>
 if b=true then mb { n with nx:=fun ρ'=>∃ k',k'<k∧W k' ρ',ct:=fun ρ'=>∃ k',k'<k∧W k' ρ',bk:=n.nx } ρ1 else n.nx ρ1
theorem fF {body:List Stmt} (hp:PassesOwn (model X.prog X.w) X.A X.env X.xe) (hc:QT X M.ow c mt) (hb:QSs X M body m):QS X M (.While c body [] pos) (wt mt m):=by
 obtain ⟨t,p,s⟩:=hc; obtain ⟨t2,p2,s2⟩:=hb
 refine ⟨_,oR hp p p2,fun C G ρ σ H n D hm hn r h k=>?_⟩
 obtain ⟨W,⟨k0,w0⟩,turn⟩:=h
 refine ⟨fun j σ' H'=>∃ G' ρ',aI G G'∧R C M.ow G' ρ' σ' H' []∧W j ρ',⟨k0,G,ρ,aI.refl _,r,w0⟩,?_⟩
 rintro j σ' H' ⟨G',ρ',z,r',w⟩
 refine s C G' ρ' σ' H' [] _ _ r' (turn j ρ' w) fun b ρ1 G1 H1 hq z1 kp r1=>?_
 cases b with
 | true =>
  rw [if_pos rfl] at hq ⊢
  refine ⟨fun σ2 H2=>∃ j',j'<j∧∃ G2 ρ2,aI G G2∧R C M.ow G2 ρ2 σ2 H2 []∧W j' ρ2,fun σ2 H2 h=>h,?_⟩
  refine s2 C G1 ρ1 σ' H1 _ _ hm hn r1 hq ⟨?_,?_,?_,?_⟩
  ·rintro ρ2 σ2 G2 H2 ⟨j',hj,w'⟩ z2 r2; exact ⟨j',hj,G2,ρ2,z.trans (z1.trans z2),r2,w'⟩
  ·intro ρ2 σ2 G2 H2 h z2 r2; exact k.nx ρ2 σ2 G2 H2 h (z.trans (z1.trans z2)) r2
  ·rintro ρ2 σ2 G2 H2 ⟨j',hj,w'⟩ z2 r2; exact ⟨j',hj,G2,ρ2,z.trans (z1.trans z2),r2,w'⟩
  ·intro d ρ2 σ2 v G2 H2 h z2 r2; exact k.rt d ρ2 σ2 v G2 H2 h (z.trans (z1.trans z2)) r2
 | false=>rw [if_neg (by decide)] at hq ⊢; exact k.nx ρ1 σ' G1 H1 hq (z.trans z1) r1
def jL (J:It) (G:Hp) (ds:List D):Prop:=∀ (C:Ctx) (ow:List Bool) (G':Hp) (ρ:DSt) (σ:St) (H:Hp) (pd:List (D×V)) (i:Nat),aI G G'→R C ow G' ρ σ H pd →
 (ds.length≤i→J.stop i H)∧∀ d,ds[i]? = some d→J.go i H∧∀ x H',J.yld i H x H'→∃ G2,aI G' G2∧R C ow G2 ρ σ H' pd∧Rep G2 d x
def SI (ow:List Bool) (wi:TI) (mi:MA):Prop:=∀ (C:Ctx) (G:Hp) (ρ:DSt) (σ:St) (H:Hp) (pd:List (D×V)) (q:List D→DSt→Prop) (Q:It→Hp→Prop),R C ow G ρ σ H pd→mi ρ q →
 (∀ ds ρ' G' H' J,q ds ρ'→aI G G'→Kp ow ρ ρ'→R C ow G' ρ' σ H' pd→jL J G' ds→Q J H')→wi σ H Q
structure QI (X:Cx) (ow:List Bool) (tg iter:Expr) (mi:MA):Prop where
 ex:∃ t,PI X tg iter t∧SI ow t mi
def forD (g:MG) (mb:MS) (n:EndsD) (ds:List D) (ρ:DSt):Prop:=∃ I:Nat→DSt→Prop,I 0 ρ ∧
 (∀ i d ρ,ds[i]? = some d→I i ρ→g d ρ fun ρ1=>mb { n with nx:=I (i + 1),ct:=I (i + 1),bk:=n.nx } ρ1)∧∀ ρ,I ds.length ρ→n.nx ρ
def mFor (mi:MA) (g:MG) (mb:MS):MS:=fun n ρ=>mi ρ fun ds ρ1=>forD g mb n ds ρ1
theorem bQ {mi:MA} {tg iter:Expr} {body:List Stmt} (hp:PassesOwn (model X.prog X.w) X.A X.env X.xe) (hc:X.calm=true) (hi:QI X M.ow tg iter mi) (hg:QG X M tg mg) (hb:QSs X M body m)
 (hs:∀ x,foldedSetIterable iter X.env x=pure x:=by intro _; rfl):QS X M (.For tg iter body [] pos) (mFor mi mg m):=by
 obtain ⟨ti,pi,si⟩:=hi; obtain ⟨tg',pg,sg⟩:=hg; obtain ⟨tb,pb,sb⟩:=hb
 refine ⟨_,uD hp hc pi pg pb hs,fun C G ρ σ H n D hm hn r h k=>si C G ρ σ H [] _ _ r h fun ds ρ0 G0 H0 J hq z0 kp r0 jo=>?_⟩
 obtain ⟨I,i0,turn,fin⟩:=hq
 refine ⟨fun i j σ' H'=>j=ds.length - i∧i≤ds.length∧∃ G' ρ',aI G0 G'∧R C M.ow G' ρ' σ' H' []∧I i ρ',⟨_,rfl,Nat.zero_le _,G0,ρ0,aI.refl _,r0,i0⟩,?_⟩
 rintro i j σ' H' ⟨rfl,hi,G',ρ',z,r',w⟩
 obtain ⟨st,go⟩:=jo C M.ow G' ρ' σ' H' [] i z r'
 by_cases hlt:i<ds.length
 ·obtain ⟨g1,g2⟩:=go ds[i] (List.getElem?_eq_getElem hlt)
  refine .inr ⟨g1,fun σ2 H2=>∃ G2 ρ2,aI G0 G2∧R C M.ow G2 ρ2 σ2 H2 []∧I (i + 1) ρ2,fun σ2 H2 h=>⟨ds.length - (i + 1),by omega,rfl,hlt,h⟩,fun x H1 hy=>?_⟩
  obtain ⟨G1,z1,r1,p1⟩:=g2 x H1 hy
  refine sg C G1 ρ' σ' H1 [] ds[i] x _ _ hm r1 p1 (turn i ds[i] ρ' (List.getElem?_eq_getElem hlt) w) fun ρ2 σ2 h2 r2=>?_
  refine sb C G1 ρ2 σ2 H1 _ _ hm hn r2 h2 ⟨?_,?_,?_,?_⟩
  ·intro ρ3 σ3 G3 H3 h3 z3 r3; exact ⟨G3,ρ3,z.trans (z1.trans z3),r3,h3⟩
  ·intro ρ3 σ3 G3 H3 h3 z3 r3; exact k.nx ρ3 σ3 G3 H3 h3 (z0.trans (z.trans (z1.trans z3))) r3
  ·intro ρ3 σ3 G3 H3 h3 z3 r3; exact ⟨G3,ρ3,z.trans (z1.trans z3),r3,h3⟩
  ·intro d ρ3 σ3 v G3 H3 h3 z3 r3; exact k.rt d ρ3 σ3 v G3 H3 h3 (z0.trans (z.trans (z1.trans z3))) r3
 ·have e:i=ds.length:=by omega
  subst e
  exact .inl ⟨st (Nat.le_refl _),k.nx ρ' σ' G' H' (fin ρ' w) (z0.trans z) r'⟩
end
section
variable {X:Cx} {ow:List Bool} {a b c e tg:Expr} {ma mb mc:ME} {pos:Pos} {mr:MA} {es:List Expr}
theorem vd {K:PySem.W.Frag} {G:Hp} {p:Addr} {xs:List V} {ds:List D} (h1:G p=some (.lst xs)) (h2:Reps G ds xs):jL (Itl K p) G ds:=fun C ow G' ρ σ H pd i z r=>by
 have hp:=r.gh _ _ (z _ _ h1)
 refine ⟨fun hl=>⟨xs,SqL.of hp,by rw [h2.length]; exact hl⟩,fun d e=>?_⟩
 obtain ⟨v,e1,e2⟩:=cC h2 e
 refine ⟨⟨xs,v,SqL.of hp,e1⟩,fun x H' hy=>?_⟩
 obtain ⟨rfl,hy⟩:=hy
 have:=hy xs (SqL.of hp)
 rw [e1] at this; cases this
 exact ⟨G',aI.refl _,r,Rep.mono z _ _ e2⟩
theorem uP {K:PySem.W.Frag} {G:Hp} {p:Addr} {xs:List V} {ds:List D} (h1:G p=some (.tup xs)) (h2:Reps G ds xs):jL (Itt K p) G ds:=fun C ow G' ρ σ H pd i z r=>by
 have hp:=r.gh _ _ (z _ _ h1)
 refine ⟨fun hl=>⟨xs,SqT.of hp,by rw [h2.length]; exact hl⟩,fun d e=>?_⟩
 obtain ⟨v,e1,e2⟩:=cC h2 e
 refine ⟨⟨xs,v,SqT.of hp,e1⟩,fun x H' hy=>?_⟩
 obtain ⟨rfl,hy⟩:=hy
 have:=hy xs (SqT.of hp)
 rw [e1] at this; cases this
 exact ⟨G',aI.refl _,r,Rep.mono z _ _ e2⟩
def miLst (m:ME):MA:=fun ρ q=>m ρ fun d ρ'=>match d with
 | .lst ds=>q ds ρ'
 | _=>False
def miTup (m:ME):MA:=fun ρ q=>m ρ fun d ρ'=>match d with
 | .tup ds=>q ds ρ'
 | _=>False
theorem aR (h:QE X ow e ma):QI X ow tg e (miLst ma):=by
 obtain ⟨t,p,s⟩:=h
 refine ⟨_,tu p,fun C G ρ σ H pd q Q r hm k=>s C G ρ σ H pd _ _ r hm fun d ρ' v G' H' hq z kp r' p=>?_⟩
 cases d with
 | lst ds=>obtain ⟨a,xs,rfl,h1,h2⟩:=aJ p; exact ⟨a,rfl,⟨xs,SqL.of (r'.gh _ _ h1)⟩,k ds ρ' G' H' _ hq z kp r' (vd h1 h2)⟩
 | _=>exact hq.elim
theorem uY (h:QE X ow e ma):QI X ow tg e (miTup ma):=by
 obtain ⟨t,p,s⟩:=h
 refine ⟨_,wK p,fun C G ρ σ H pd q Q r hm k=>s C G ρ σ H pd _ _ r hm fun d ρ' v G' H' hq z kp r' p=>?_⟩
 cases d with
 | tup ds=>obtain ⟨a,xs,rfl,h1,h2⟩:=cr p; exact ⟨a,rfl,⟨xs,SqT.of (r'.gh _ _ h1)⟩,k ds ρ' G' H' _ hq z kp r' (uP h1 h2)⟩
 | _=>exact hq.elim
def dE (lo:Int) (n:Nat):List D:=(List.range n).map fun (i:Nat)=>.int (lo + i)
theorem eU {lo:Int} {n i:Nat} {d:D} (h:(dE lo n)[i]? = some d):i<n∧d = .int (lo + i):=by
 unfold dE at h
 rw [List.getElem?_map] at h
 by_cases c:i<n
 ·rw [List.getElem?_range c] at h; exact ⟨c,(Option.some.inj h).symm⟩
 ·rw [List.getElem?_eq_none (by simp; omega)] at h; cases h
theorem cW (lo:Int) (n:Nat):(dE lo n).length=n:=by unfold dE; simp
theorem rh {G:Hp} {lo:Int} {n:Nat}:jL (Itr lo n) G (dE lo n):=fun C ow G' ρ σ H pd i z r=>by
 refine ⟨fun hl=>by rw [cW] at hl; exact hl,fun d e=>?_⟩
 obtain ⟨h1,rfl⟩:=eU e
 refine ⟨h1,fun x H' hy=>?_⟩
 obtain ⟨rfl,rfl⟩:=hy
 exact ⟨G',aI.refl _,r,bn _⟩
def miR1 (m:MA):MA:=fun ρ q=>m ρ fun ds ρ'=>match ds with
 | [.int j]=>(-(2 ^ 62)≤j∧j<2 ^ 62)∧q (dE 0 j.toNat) ρ'
 | _=>False
def miR2 (m:MA):MA:=fun ρ q=>m ρ fun ds ρ'=>match ds with
 | [.int i,.int j]=>(-(2 ^ 62)≤i∧i<2 ^ 62∧-(2 ^ 62)≤j∧j<2 ^ 62)∧q (dE i (j - i).toNat) ρ'
 | _=>False
theorem gf {p:Pos} (hg:Gl X "range") (hm:X.mg "range" = none) (ha:QA X ow [a] mr) (hs:starEach [a] X.env=[(false,eval a X.env)]:=by rfl):QI X ow tg (.Call (.Name "range" p) [a] [] pos) (miR1 mr):=by
 obtain ⟨t,p,s⟩:=ha
 refine ⟨_,oO hg hm p hs,fun C G ρ σ H pd q Q r hm k=>s C G ρ σ H pd _ _ r hm fun ds ρ' vs G' H' hq z kp r' p hn=>?_⟩
 split at hq
 ·obtain ⟨v,rfl,p1⟩:=be p
  rw [ay p1]
  exact ⟨_,rfl,hq.1.1,hq.1.2,k _ ρ' G' H' _ hq.2 z kp r' rh⟩
 ·exact hq.elim
theorem gk {p:Pos} (hg:Gl X "range") (hm:X.mg "range" = none) (ha:QA X ow [a,b] mr) (hs:starEach [a,b] X.env=[(false,eval a X.env),(false,eval b X.env)]:=by rfl) (hs2:starEach [b] X.env=[(false,eval b X.env)]:=by rfl):QI X ow tg (.Call (.Name "range" p) [a,b] [] pos) (miR2 mr):=by
 obtain ⟨t,p,s⟩:=ha
 refine ⟨_,oe hg hm p hs hs2,fun C G ρ σ H pd q Q r hm k=>s C G ρ σ H pd _ _ r hm fun ds ρ' vs G' H' hq z kp r' p hn=>?_⟩
 split at hq
 ·obtain ⟨v,u,rfl,p1,p2⟩:=dN p
  rw [ay p1,ay p2]
  exact ⟨_,_,rfl,hq.1,k _ ρ' G' H' _ hq.2 z kp r' rh⟩
 ·exact hq.elim
def nR (ds:List D):List D:=ds.mapIdx fun i d=>.tup [.int i,d]
theorem p5 (ds:List D):(nR ds).length=ds.length:=by unfold nR; simp
theorem gN {ds:List D} {i:Nat} {d:D} (h:(nR ds)[i]? = some d):∃ d',ds[i]? = some d'∧d = .tup [.int i,d']:=by
 unfold nR at h
 rw [List.getElem?_mapIdx] at h
 cases e:ds[i]? with
 | none=>rw [e] at h; cases h
 | some d'=>rw [e] at h; exact ⟨d',rfl,(Option.some.inj h).symm⟩
theorem wm {G:Hp} {p:Addr} {xs:List V} {ds:List D} (h1:G p=some (.lst xs)) (h2:Reps G ds xs):jL (Ite p) G (nR ds):=fun C ow G' ρ σ H pd i z r=>by
 have hp:=r.gh _ _ (z _ _ h1)
 refine ⟨fun hl=>⟨xs,hp,by rw [h2.length]; rw [p5] at hl; exact hl⟩,fun d e=>?_⟩
 obtain ⟨d',e0,rfl⟩:=gN e
 obtain ⟨v,e1,e2⟩:=cC h2 e0
 refine ⟨⟨xs,v,hp,e1⟩,fun x H' hy=>?_⟩
 obtain ⟨a,x',ha,rfl,rfl,hy⟩:=hy
 have:=hy xs hp
 rw [e1] at this; cases this
 obtain ⟨O,r⟩:=r
 obtain ⟨r2,s2⟩:=r.new ha (.tup [.int i,v])
 exact ⟨_,s2,⟨O,r2⟩,gO aG (bi (bn _) (bi (Rep.mono (z.trans s2) _ _ e2) bz))⟩
def miEnu (m:MA):MA:=fun ρ q=>m ρ fun ds ρ'=>match ds with
 | [.lst ds]=>q (nR ds) ρ'
 | _=>False
theorem jl {k:Nat} {tpos p:Pos} (hg:Gl X "enumerate") (hm:X.mg "enumerate" = none) (ha:QA X ow [a] mr) (hs:starEach [a] X.env=[(false,eval a X.env)]:=by rfl):QI X ow (.Tuple es k tpos) (.Call (.Name "enumerate" p) [a] [] pos) (miEnu mr):=by
 obtain ⟨t,p,s⟩:=ha
 refine ⟨_,rU hg hm p hs,fun C G ρ σ H pd q Q r hm k=>s C G ρ σ H pd _ _ r hm fun ds ρ' vs G' H' hq z kp r' p hn=>?_⟩
 split at hq
 ·obtain ⟨v,rfl,p1⟩:=be p
  obtain ⟨a,xs,rfl,h1,h2⟩:=aJ p1
  exact ⟨a,rfl,⟨xs,r'.gh _ _ h1⟩,k _ ρ' G' H' _ hq z kp r' (wm h1 h2)⟩
 ·exact hq.elim
def ul (i:Nat):ME:=fun ρ q=>match ρ[i]? with
 | some (some d)=>q d (ρ.set i none)
 | _=>False
end
inductive AK where
 | s | m (i:Nat) | t
def AK.isM:AK→Bool
 | .s=>false
 | _=>true
def iG (G:Hp) (σ:St):List AK→List D→List V→List (D×V)→Prop
 | [],[],[],[]=>True
 | .s :: ks,d :: ds,v :: vs,T=>Rep G d v∧iG G σ ks ds vs T
 | .m i :: ks,_ :: ds,v :: vs,T=>σ[i]? = some (some v)∧iG G σ ks ds vs T
 | .t :: ks,d :: ds,v :: vs,x :: T=>x=(d,v)∧iG G σ ks ds vs T
 | _,_,_,_=>False
def SAk (ow:List Bool) (ks:List AK) (t:TA) (m:MA):Prop:=∀ (C:Ctx) (G:Hp) (ρ:DSt) (σ:St) (H:Hp) (pd:List (D×V)) (q:List D→DSt→Prop) (Q:List V→Hp→Prop),R C ow G ρ σ H pd→m ρ q →
 (∀ ds ρ' vs T G' H',q ds ρ'→aI G G'→Kp ow ρ ρ'→R C ow G' ρ' σ H' (T.reverse++pd)→iG G' σ ks ds vs T→Q vs H')→t σ H Q
structure QAk (X:Cx) (ow:List Bool) (ks:List AK) (es:List Expr) (m:MA):Prop where
 ex:∃ t,PA X es t∧SAk ow ks t m
section
variable {X:Cx} {ow:List Bool} {a b c e tg:Expr} {ma mb mc:ME} {pos:Pos} {mr:MA} {es:List Expr} {ks:List AK}
theorem am:QAk X ow [] [] oz:=⟨_,cx,fun C G ρ σ H pd q Q r h k=>k [] ρ [] [] G H h (aI.refl _) Kp.refl r trivial⟩
theorem ao (ha:QE X ow e ma) (hr:QAk X ow ks es mr) (hs:starEach (e :: es) X.env=(false,eval e X.env) :: starEach es X.env:=by rfl):QAk X ow (.s :: ks) (e :: es) (fu ma mr):=by
 obtain ⟨t,p,s⟩:=ha; obtain ⟨t2,p2,s2⟩:=hr
 refine ⟨_,bq p p2 hs,fun C G ρ σ H pd q Q r hm k=>s C G ρ σ H pd _ _ r hm fun d ρ' v G' H' hq z kp r' p=>?_⟩
 exact s2 C G' ρ' σ H' pd _ _ r' hq fun ds ρ2 vs T G2 H2 hq2 z2 kp2 r2 p2=>k (d :: ds) ρ2 (v :: vs) T G2 H2 hq2 (z.trans z2) (kp.trans kp2) r2 ⟨Rep.mono z2 _ _ p,p2⟩
theorem qk_t (ha:QF X ow e ma) (hr:QAk X ow ks es mr) (hs:starEach (e :: es) X.env=(false,eval e X.env) :: starEach es X.env:=by rfl):QAk X ow (.t :: ks) (e :: es) (fu ma mr):=by
 obtain ⟨t,p,s⟩:=ha; obtain ⟨t2,p2,s2⟩:=hr
 refine ⟨_,bq p p2 hs,fun C G ρ σ H pd q Q r hm k=>s C G ρ σ H pd _ _ r hm fun d ρ' v G' H' hq z kp r'=>?_⟩
 exact s2 C G' ρ' σ H' _ _ _ r' hq fun ds ρ2 vs T G2 H2 hq2 z2 kp2 r2 p2=>k (d :: ds) ρ2 (v :: vs) ((d,v) :: T) G2 H2 hq2 (z.trans z2) (kp.trans kp2) (by simpa using r2) ⟨rfl,p2⟩
def rM (i:Nat) (r:MA):MA:=fun ρ q=>match ρ[i]? with
 | some (some _)=>r ρ fun ds ρ2=>q (.non :: ds) ρ2
 | _=>False
theorem cI (i:Nat) {x:Str} (hr:QAk X ow ks es mr) (hN:X.N[i]? = some x:=by rfl) (hv:Vis X.env.scope x:=by first | exact Or.inl rfl | exact Or.inr (Or.inl rfl) | exact Or.inr (Or.inr rfl)) (hd:(x == ("__debug__":Str))=false:=by decide)
 (hcd:(x == ("__classdict__":Str))=false:=by decide) (hs:starEach (.Name x pos :: es) X.env=(false,eval (.Name x pos) X.env) :: starEach es X.env:=by rfl):QAk X ow (.m i :: ks) (.Name x pos :: es) (rM i mr):=by
 obtain ⟨t2,p2,s2⟩:=hr
 refine ⟨_,bq (dC hN hv hd hcd) p2 hs,fun C G ρ σ H pd q Q r hm k=>?_⟩
 unfold rM at hm
 split at hm
 ·rename_i d e
  obtain ⟨O,ro⟩:=r
  obtain ⟨v,h1,_⟩:=ro.sl i d e
  exact ⟨v,h1,s2 C G ρ σ H pd _ _ ⟨O,ro⟩ hm fun ds ρ2 vs T G2 H2 hq2 z2 kp2 r2 p2=>k (.non :: ds) ρ2 (v :: vs) T G2 H2 hq2 z2 kp2 r2 ⟨h1,p2⟩⟩
 ·exact hm.elim
def dL:List AK→List D→DSt→Option (List D)
 | [],[],_=>some []
 | .s :: ks,d :: ds,ρ=>(dL ks ds ρ).map (d :: ·)
 | .t :: ks,d :: ds,ρ=>(dL ks ds ρ).map (d :: ·)
 | .m i :: ks,_ :: ds,ρ=>match ρ[i]? with
  | some (some d)=>(dL ks ds ρ).map (d :: ·)
  | _=>none
 | _,_,_=>none
def lbs:List AK→Nat→List (Option Nat)
 | [],_=>[]
 | .s :: ks,r=>none :: lbs ks r
 | .m i :: ks,r=>some (2 * i) :: lbs ks r
 | .t :: ks,r=>some (2 * r + 1) :: lbs ks (r + 1)
def aA:List AK→List Nat
 | []=>[]
 | .m i :: ks=>i :: aA ks
 | _ :: ks=>aA ks
def fnd (l:Nat):List (Option Nat)→Nat→Option Nat
 | [],_=>none
 | x :: xs,k=>if x=some l then some k else fnd l xs (k + 1)
theorem q9 {l:Nat}:∀ {xs:List (Option Nat)} {k j:Nat},fnd l xs k=some j→∃ i,j=k + i∧xs[i]? = some (some l)
 | [],_,_,h=>by cases h
 | x :: xs,k,j,h=>by
  unfold fnd at h
  split at h
  ·rename_i c; cases h; exact ⟨0,rfl,by simp [c]⟩
  ·obtain ⟨i,rfl,e⟩:=q9 h; exact ⟨i + 1,by omega,by simpa using e⟩
theorem jZ {l:Nat}:∀ {xs:List (Option Nat)} {k:Nat},(∀ i:Nat,xs[i]?≠some (some l))→fnd l xs k=none
 | [],_,_=>rfl
 | x :: xs,k,h=>by
  unfold fnd
  rw [if_neg (fun c=>h 0 (by simp [c]))]
  exact jZ fun i=>by simpa using h (i + 1)
theorem o8 {l:Nat}:∀ {xs:List (Option Nat)} {k i:Nat},(∀ (i j:Nat) (l:Nat),xs[i]? = some (some l)→xs[j]? = some (some l)→i=j)→xs[i]? = some (some l)→fnd l xs k=some (k + i)
 | [],_,_,_,h=>by simp at h
 | x :: xs,k,i,u,h=>by
  unfold fnd
  by_cases c:x=some l
  ·rw [if_pos c]
   have:=u 0 i l (by simp [c]) h
   subst this; rfl
  ·rw [if_neg c]
   cases i with
   | zero=>simp at h; exact absurd h c
   | succ i =>
    have:=o8 (k:=k + 1) (i:=i) (fun i j l a b=>by have:=u (i + 1) (j + 1) l (by simpa using a) (by simpa using b); omega) (by simpa using h)
    rw [this]; congr 1; omega
theorem cQ:∀ {ks:List AK} {r:Nat} {i l:Nat},(lbs ks r)[i]? = some (some l)→(∃ j∈aA ks,l=2 * j)∨∃ j,r≤j∧l=2 * j + 1
 | [],_,_,_,h=>by simp [lbs] at h
 | .s :: ks,r,0,l,h=>by simp [lbs] at h
 | .s :: ks,r,i + 1,l,h=>by simp only [lbs,List.getElem?_cons_succ] at h; have:=cQ (ks:=ks) h; simpa [aA] using this
 | .m j :: ks,r,0,l,h=>by simp [lbs] at h; exact .inl ⟨j,by simp [aA],h.symm⟩
 | .m j :: ks,r,i + 1,l,h=>by
  simp only [lbs,List.getElem?_cons_succ] at h
  rcases cQ h with ⟨z,h1,h2⟩ | h
  ·exact .inl ⟨z,by simp [aA,h1],h2⟩
  ·exact .inr h
 | .t :: ks,r,0,l,h=>by simp [lbs] at h; exact .inr ⟨r,Nat.le_refl _,h.symm⟩
 | .t :: ks,r,i + 1,l,h=>by
  simp only [lbs,List.getElem?_cons_succ] at h
  rcases cQ h with ⟨z,h1,h2⟩ | ⟨j,h1,h2⟩
  ·exact .inl ⟨z,by simpa [aA] using h1,h2⟩
  ·exact .inr ⟨j,by omega,h2⟩
theorem fZ:∀ {ks:List AK} {r:Nat},(aA ks).Nodup→∀ (i j l:Nat),(lbs ks r)[i]? = some (some l)→(lbs ks r)[j]? = some (some l)→i=j
 | [],_,_,i,j,l,h,_=>by simp [lbs] at h
 | .s :: ks,r,nd,0,j,l,h,_=>by simp [lbs] at h
 | .s :: ks,r,nd,i + 1,0,l,_,h=>by simp [lbs] at h
 | .s :: ks,r,nd,i + 1,j + 1,l,h,h2=>by simp only [lbs,List.getElem?_cons_succ] at h h2; rw [fZ (ks:=ks) (by simpa [aA] using nd) i j l h h2]
 | .m a :: ks,r,nd,0,0,l,_,_=>rfl
 | .m a :: ks,r,nd,0,j + 1,l,h,h2=>by
  simp only [lbs,List.getElem?_cons_succ] at h2; simp [lbs] at h
  simp only [aA,List.nodup_cons] at nd
  rcases cQ h2 with ⟨z,h3,h4⟩ | ⟨z,h3,h4⟩
  ·exact absurd h3 (by rw [show z=a by omega]; exact nd.1)
  ·omega
 | .m a :: ks,r,nd,i + 1,0,l,h2,h=>by
  simp only [lbs,List.getElem?_cons_succ] at h2; simp [lbs] at h
  simp only [aA,List.nodup_cons] at nd
  rcases cQ h2 with ⟨z,h3,h4⟩ | ⟨z,h3,h4⟩
  ·exact absurd h3 (by rw [show z=a by omega]; exact nd.1)
  ·omega
 | .m a :: ks,r,nd,i + 1,j + 1,l,h,h2=>by
  simp only [aA,List.nodup_cons] at nd
  simp only [lbs,List.getElem?_cons_succ] at h h2; rw [fZ (ks:=ks) nd.2 i j l h h2]
 | .t :: ks,r,nd,0,0,l,_,_=>rfl
 | .t :: ks,r,nd,0,j + 1,l,h,h2=>by
  simp only [lbs,List.getElem?_cons_succ] at h2; simp [lbs] at h
  rcases cQ h2 with ⟨z,h3,h4⟩ | ⟨z,h3,h4⟩ <;> omega
 | .t :: ks,r,nd,i + 1,0,l,h2,h=>by
  simp only [lbs,List.getElem?_cons_succ] at h2; simp [lbs] at h
  rcases cQ h2 with ⟨z,h3,h4⟩ | ⟨z,h3,h4⟩ <;> omega
 | .t :: ks,r,nd,i + 1,j + 1,l,h,h2=>by simp only [lbs,List.getElem?_cons_succ] at h h2; rw [fZ (ks:=ks) (by simpa [aA] using nd) i j l h h2]
end
theorem eW {G H:Hp} {O:Own}:∀ {T pd:List (D×V)},bZ G H O (T++pd)→bZ G H O pd
 | [],_,h=>h
 | _ :: T,_,h=>eW (T:=T) h.2
theorem jx {G H:Hp} {O:Own}:∀ {T pd:List (D×V)} {j:Nat} {x:D×V},bZ G H O (T.reverse++pd)→T[j]? = some x→Sep G H O (2 * (pd.length + j) + 1) x.1 [] x.2
 | [],_,_,_,_,e=>by simp at e
 | y :: T,pd,j,x,h,e=>by
  have h':bZ G H O (T.reverse++(y :: pd)):=by simpa using h
  cases j with
  | zero=>simp at e; subst e; exact (eW h').1
  | succ j =>
   have:=jx (j:=j) h' (by simpa using e)
   rw [show pd.length + (j + 1)=(y :: pd).length + j by simp; omega]
   exact this
theorem gU {G H:Hp} {O:Own} {σ:St} {ρ:DSt}:∀ {ks:List AK} {ds ds':List D} {vs:List V} {T:List (D×V)} {r:Nat},iG G σ ks ds vs T→dL ks ds ρ=some ds' →
 (∀ (j:Nat) x,T[j]? = some x→Sep G H O (2 * (r + j) + 1) x.1 [] x.2)→(∀ i∈aA ks,∀ d,ρ[i]? = some (some d)→∃ v,σ[i]? = some (some v)∧Sep G H O (2 * i) d [] v) →
 ds'.length=vs.length∧vs.length=ks.length∧∀ (k:Nat) d,ds'[k]? = some d→∃ v,vs[k]? = some v∧((∃ l,(lbs ks r)[k]? = some (some l)∧(ks.map AK.isM)[k]? = some true∧Sep G H O l d [] v)∨((ks.map AK.isM)[k]? = some false∧Rep G d v))
 | [],[],ds',[],[],r,_,hf,_,_=>by simp [dL] at hf; subst hf; exact ⟨rfl,rfl,fun k d e=>by simp at e⟩
 | .s :: ks,d :: ds,ds',v :: vs,T,r,h,hf,hT,hS=>by
  rw [dL] at hf
  cases e:dL ks ds ρ with
  | none=>rw [e] at hf; cases hf
  | some es =>
   rw [e] at hf; cases hf
   obtain ⟨l1,l2,ih⟩:=gU (ks:=ks) h.2 e hT (fun i hi=>hS i (by simpa [aA] using hi))
   refine ⟨by simp [l1],by simp [l2],fun k d' e'=>?_⟩
   cases k with
   | zero=>simp at e'; subst e'; exact ⟨v,rfl,.inr ⟨rfl,h.1⟩⟩
   | succ k=>obtain ⟨u,g1,g2⟩:=ih k d' (by simpa using e'); exact ⟨u,by simpa using g1,by simpa [lbs] using g2⟩
 | .m i :: ks,d :: ds,ds',v :: vs,T,r,h,hf,hT,hS=>by
  rw [dL] at hf
  cases e0 : ρ[i]? with
  | none=>rw [e0] at hf; cases hf
  | some o =>
   cases o with
   | none=>rw [e0] at hf; cases hf
   | some d0 =>
    rw [e0] at hf
    dsimp only at hf
    cases e:dL ks ds ρ with
    | none=>rw [e] at hf; cases hf
    | some es =>
     rw [e] at hf; cases hf
     obtain ⟨l1,l2,ih⟩:=gU (ks:=ks) h.2 e hT (fun i hi=>hS i (by simp [aA,hi]))
     refine ⟨by simp [l1],by simp [l2],fun k d' e'=>?_⟩
     cases k with
     | zero =>
      simp at e'; subst e'
      obtain ⟨u,g1,g2⟩:=hS i (by simp [aA]) d0 e0
      rw [h.1] at g1; cases g1
      exact ⟨v,rfl,.inl ⟨2 * i,by simp [lbs],rfl,g2⟩⟩
     | succ k=>obtain ⟨u,g1,g2⟩:=ih k d' (by simpa using e'); exact ⟨u,by simpa using g1,by simpa [lbs] using g2⟩
 | .t :: ks,d :: ds,ds',v :: vs,x :: T,r,h,hf,hT,hS=>by
  rw [dL] at hf
  cases e:dL ks ds ρ with
  | none=>rw [e] at hf; cases hf
  | some es =>
   rw [e] at hf; cases hf
   obtain ⟨l1,l2,ih⟩:=gU (ks:=ks) (r:=r + 1) h.2 e (fun j x e=>by rw [show r + 1 + j=r + (j + 1) by omega]; exact hT (j + 1) x (by simpa using e)) (fun i hi=>hS i (by simpa [aA] using hi))
   refine ⟨by simp [l1],by simp [l2],fun k d' e'=>?_⟩
   cases k with
   | zero =>
    simp at e'; subst e'
    have:=hT 0 x rfl
    rw [h.1] at this
    exact ⟨v,rfl,.inl ⟨2 * r + 1,by simp [lbs],rfl,this⟩⟩
   | succ k=>obtain ⟨u,g1,g2⟩:=ih k d' (by simpa using e'); exact ⟨u,by simpa using g1,by simpa [lbs] using g2⟩
 | [],_ :: _,_,_,_,_,h,_,_,_=>h.elim
 | [],[],_,_ :: _,_,_,h,_,_,_=>h.elim
 | [],[],_,[],_ :: _,_,h,_,_,_=>h.elim
 | .s :: _,[],_,_,_,_,h,_,_,_=>h.elim
 | .s :: _,_ :: _,_,[],_,_,h,_,_,_=>h.elim
 | .m _ :: _,[],_,_,_,_,h,_,_,_=>h.elim
 | .m _ :: _,_ :: _,_,[],_,_,h,_,_,_=>h.elim
 | .t :: _,[],_,_,_,_,h,_,_,_=>h.elim
 | .t :: _,_ :: _,_,[],_,_,h,_,_,_=>h.elim
 | .t :: _,_ :: _,_,_ :: _,[],_,h,_,_,_=>h.elim
theorem eR {G:Hp} {σ:St}:∀ {ks:List AK} {ds:List D} {vs:List V} {T:List (D×V)} {k i:Nat},iG G σ ks ds vs T→ks[k]? = some (.m i)→∃ v,vs[k]? = some v∧σ[i]? = some (some v)
 | [],_,_,_,k,i,_,e=>by simp at e
 | .s :: ks,d :: ds,v :: vs,T,0,i,h,e=>by simp at e
 | .s :: ks,d :: ds,v :: vs,T,k + 1,i,h,e=>by obtain ⟨u,g1,g2⟩:=eR (k:=k) h.2 (by simpa using e); exact ⟨u,by simpa using g1,g2⟩
 | .m j :: ks,d :: ds,v :: vs,T,0,i,h,e=>by simp at e; subst e; exact ⟨v,rfl,h.1⟩
 | .m j :: ks,d :: ds,v :: vs,T,k + 1,i,h,e=>by obtain ⟨u,g1,g2⟩:=eR (k:=k) h.2 (by simpa using e); exact ⟨u,by simpa using g1,g2⟩
 | .t :: ks,d :: ds,v :: vs,x :: T,0,i,h,e=>by simp at e
 | .t :: ks,d :: ds,v :: vs,x :: T,k + 1,i,h,e=>by obtain ⟨u,g1,g2⟩:=eR (k:=k) h.2 (by simpa using e); exact ⟨u,by simpa using g1,g2⟩
 | .s :: _,[],_,_,_,_,h,_=>h.elim
 | .s :: _,_ :: _,[],_,_,_,h,_=>h.elim
 | .m _ :: _,[],_,_,_,_,h,_=>h.elim
 | .m _ :: _,_ :: _,[],_,_,_,h,_=>h.elim
 | .t :: _,[],_,_,_,_,h,_=>h.elim
 | .t :: _,_ :: _,[],_,_,_,h,_=>h.elim
 | .t :: _,_ :: _,_ :: _,[],_,_,h,_=>h.elim
def b9:List AK→DSt→DSt→DSt
 | .m i :: ks,x :: ρ2,ρ=>b9 ks ρ2 (ρ.set i x)
 | _ :: ks,_ :: ρ2,ρ=>b9 ks ρ2 ρ
 | _,_,ρ=>ρ
def iJ:List AK→DSt→DSt→DSt
 | .s :: ks,os,ρ=>iJ ks os ρ
 | .m i :: ks,o :: os,ρ=>iJ ks os (ρ.set i o)
 | .t :: ks,_ :: os,ρ=>iJ ks os ρ
 | _,_,ρ=>ρ
theorem gH:∀ {ks:List AK} {ρ2 ρ:DSt},ρ2.length=ks.length→iJ ks (mus (ks.map AK.isM) ρ2) ρ=b9 ks ρ2 ρ
 | [],[],ρ,_=>rfl
 | .s :: ks,x :: ρ2,ρ,h=>by simp only [List.map,AK.isM,mus,iJ,b9]; exact gH (by simpa using h)
 | .m i :: ks,x :: ρ2,ρ,h=>by simp only [List.map,AK.isM,mus,iJ,b9]; exact gH (by simpa using h)
 | .t :: ks,x :: ρ2,ρ,h=>by simp only [List.map,AK.isM,mus,iJ,b9]; exact gH (by simpa using h)
theorem fM:∀ {ks:List AK} {ρ2 ρ:DSt},(b9 ks ρ2 ρ).length=ρ.length
 | [],_,_=>by simp [b9]
 | .s :: ks,[],_=>by simp [b9]
 | .m i :: ks,[],_=>by simp [b9]
 | .t :: ks,[],_=>by simp [b9]
 | .s :: ks,x :: ρ2,ρ=>by simp only [b9]; exact fM
 | .m i :: ks,x :: ρ2,ρ=>by simp only [b9]; rw [fM]; simp
 | .t :: ks,x :: ρ2,ρ=>by simp only [b9]; exact fM
theorem fY:∀ {ks:List AK} {ρ2 ρ:DSt} {i:Nat},i ∉ aA ks→(b9 ks ρ2 ρ)[i]? = ρ[i]?
 | [],_,_,_,_=>by simp [b9]
 | .s :: ks,[],_,_,_=>by simp [b9]
 | .m i :: ks,[],_,_,_=>by simp [b9]
 | .t :: ks,[],_,_,_=>by simp [b9]
 | .s :: ks,x :: ρ2,ρ,i,h=>by simp only [b9]; exact fY (by simpa [aA] using h)
 | .t :: ks,x :: ρ2,ρ,i,h=>by simp only [b9]; exact fY (by simpa [aA] using h)
 | .m j :: ks,x :: ρ2,ρ,i,h=>by
  simp only [b9]
  simp only [aA,List.mem_cons,not_or] at h
  rw [fY h.2,List.getElem?_set_ne (Ne.symm h.1)]
theorem fV:∀ {ks:List AK} {ρ2 ρ:DSt} {i:Nat} {d:D},(b9 ks ρ2 ρ)[i]? = some (some d)→ρ2.length=ks.length→(i ∉ aA ks∧ρ[i]? = some (some d))∨∃ k:Nat,ks[k]? = some (.m i)∧ρ2[k]? = some (some d)
 | [],[],ρ,i,d,h,_=>.inl ⟨by simp [aA],by simpa [b9] using h⟩
 | .s :: ks,x :: ρ2,ρ,i,d,h,hl=>by
  simp only [b9] at h
  rcases fV h (by simpa using hl) with ⟨h1,h2⟩ | ⟨k,h1,h2⟩
  ·exact .inl ⟨by simpa [aA] using h1,h2⟩
  ·exact .inr ⟨k + 1,by simpa using h1,by simpa using h2⟩
 | .t :: ks,x :: ρ2,ρ,i,d,h,hl=>by
  simp only [b9] at h
  rcases fV h (by simpa using hl) with ⟨h1,h2⟩ | ⟨k,h1,h2⟩
  ·exact .inl ⟨by simpa [aA] using h1,h2⟩
  ·exact .inr ⟨k + 1,by simpa using h1,by simpa using h2⟩
 | .m j :: ks,x :: ρ2,ρ,i,d,h,hl=>by
  simp only [b9] at h
  rcases fV h (by simpa using hl) with ⟨h1,h2⟩ | ⟨k,h1,h2⟩
  ·rcases eK h2 with ⟨rfl,rfl⟩ | ⟨h3,h4⟩
   ·exact .inr ⟨0,rfl,rfl⟩
   ·exact .inl ⟨by simp [aA,h1,h3],h4⟩
  ·exact .inr ⟨k + 1,by simpa using h1,by simpa using h2⟩
theorem mW:∀ {ks:List AK} {r k i:Nat},ks[k]? = some (.m i)→(lbs ks r)[k]? = some (some (2 * i))
 | [],_,_,_,e=>by simp at e
 | .s :: ks,r,0,i,e=>by simp at e
 | .s :: ks,r,k + 1,i,e=>by simp only [lbs,List.getElem?_cons_succ]; exact mW (by simpa using e)
 | .m j :: ks,r,0,i,e=>by simp at e; subst e; simp [lbs]
 | .m j :: ks,r,k + 1,i,e=>by simp only [lbs,List.getElem?_cons_succ]; exact mW (by simpa using e)
 | .t :: ks,r,0,i,e=>by simp at e
 | .t :: ks,r,k + 1,i,e=>by simp only [lbs,List.getElem?_cons_succ]; exact mW (by simpa using e)
theorem fL:∀ {ks:List AK} {r k l:Nat},(lbs ks r)[k]? = some (some l)→(ks.map AK.isM)[k]? = some true
 | [],_,_,_,e=>by simp [lbs] at e
 | .s :: ks,r,0,i,e=>by simp [lbs] at e
 | .s :: ks,r,k + 1,i,e=>by simp only [lbs,List.getElem?_cons_succ] at e; simp only [List.map,List.getElem?_cons_succ]; exact fL e
 | .m j :: ks,r,0,i,e=>rfl
 | .m j :: ks,r,k + 1,i,e=>by simp only [lbs,List.getElem?_cons_succ] at e; simp only [List.map,List.getElem?_cons_succ]; exact fL e
 | .t :: ks,r,0,i,e=>rfl
 | .t :: ks,r,k + 1,i,e=>by simp only [lbs,List.getElem?_cons_succ] at e; simp only [List.map,List.getElem?_cons_succ]; exact fL e
theorem sf {ks:List AK} {k i:Nat} (h:ks[k]? = some (.m i)):i∈aA ks:=by
 induction ks generalizing k with
 | nil=>simp at h
 | cons x ks ih =>
  cases k with
  | zero=>simp at h; subst h; simp [aA]
  | succ k=>have:=ih (by simpa using h); cases x <;> simp [aA,this]
theorem kU {C:Ctx} {ow:List Bool} {G:Hp} {ρ:DSt} {σ:St} {H:Hp} {pd T:List (D×V)} {ks:List AK} {ds ds':List D} {vs:List V} {fr:Bool} {sd:SpD} {q:D→DSt→Prop} {Q:VK} {E:XK}
 (hn:C.np≤pd.length) (r:R C ow G ρ σ H (T.reverse++pd)) (ha:iG G σ ks ds vs T) (hf:dL ks ds ρ=some ds') (nd:(aA ks).Nodup) (hw:∀ i∈aA ks,ow[i]? = some true)
 (h:sd ds' fun d os=>q d (iJ ks os ρ))
 (k:∀ d ρ' v G' H',q d ρ'→aI G G'→Kp ow ρ ρ'→(if fr=true then R C ow G' ρ' σ H' ((d,v) :: pd) else R C ow G' ρ' σ H' pd∧Rep G' d v)→Q v H'):a9 (ks.map AK.isM) fr sd vs H Q E:=by
 obtain ⟨O,ro⟩:=r
 have pn:=ro.pn
 obtain ⟨l1,l2,hat⟩:=gU (O:=O) (H:=H) (r:=pd.length) ha hf (fun j x e=>jx pn e) (fun i hi d e=>by
  obtain ⟨v,h1,h2⟩:=ro.sl i d e; rw [if_pos (hw i hi)] at h2; exact ⟨v,h1,h2⟩)
 let lb:=lbs ks pd.length
 let fin:Nat→Option Nat:=fun l=>(fnd l lb 0).map (2 * ·)
 let fbk:Nat→Option Nat:=fun l=>if l=1 then some (2 * pd.length + 1) else if l % 2=0 then (match lb[l / 2]? with | some o=>o | none=>none) else none
 have uq:=fZ (ks:=ks) (r:=pd.length) nd
 have fin_at:∀ (i l:Nat),lb[i]? = some (some l)→fin l=some (2 * i):=fun i l e=>by
  show (fnd l lb 0).map _=_
  rw [o8 uq e]; simp
 have fin_of:∀ l l',fin l=some l'→∃ i,l'=2 * i∧lb[i]? = some (some l):=fun l l' e=>by
  change (fnd l lb 0).map _=_ at e
  cases z:fnd l lb 0 with
  | none=>rw [z] at e; cases e
  | some j=>rw [z] at e; cases e; obtain ⟨i,rfl,e2⟩:=q9 z; exact ⟨i,by show 2 * (0 + i)=2 * i; omega,e2⟩
 have fin_none:∀ l,(∀ i:Nat,lb[i]?≠some (some l))→fin l=none:=fun l e=>by
  show (fnd l lb 0).map _=_
  rw [jZ e]; rfl
 have ri:=ro.into (mu:=ks.map AK.isM) (fin:=fin) (ds:=ds') (vs:=vs) l1 (fun j d e=>by
  obtain ⟨v,h1,h2⟩:=hat j d e
  refine ⟨v,h1,?_⟩
  rcases h2 with ⟨l,h2,h3,h4⟩ | ⟨h2,h3⟩
  ·rw [if_pos h3]; exact ⟨l,h4,fin_at j l h2⟩
  ·rw [if_neg (by rw [h2]; decide)]; exact h3) (fun l l' e=>by
  obtain ⟨i,rfl,e2⟩:=fin_of l l' e
  exact ⟨i,rfl,fL e2,by have:=(List.getElem?_eq_some_iff.mp (fL e2)).1; rw [List.length_map] at this; omega⟩)
 refine ⟨_,G,ds',fun d os=>q d (iJ ks os ρ),rfl,rfl,⟨_,ri⟩,h,by rw [List.length_map,l1,l2],?_⟩
 intro d ρ2 σ2 v G2 H2 hq z hl hr
 rw [List.length_map] at hl
 rw [gH hl] at hq
 have out:∀ (pd2 pd3:List (D×V)) (O2:Own),RO ⟨G,H,cy fin O,msV (ks.map AK.isM) vs,0⟩ (ks.map AK.isM) G2 ρ2 σ2 H2 pd2 O2→C.np≤pd3.length →
  (∀ (O3:Own),(∀ a l π,O a=some (l,π)→fin l=none→O3 a=some (l,π)∧H2 a=H a)→(∀ a l l' π,O2 a=some (l',π)→fbk l'=some l→O3 a=some (l,π))→cK G G2→bZ G2 H2 O3 pd3) →
  RO C ow G2 (b9 ks ρ2 ρ) σ H2 pd3 (nQ fin fbk O O2):=fun pd2 pd3 O2 r2 hn3 hP=>by
  refine ro.out (vs:=vs) r2 ?_ (by rw [fM]; exact ro.len) hn3 ?_ ?_ hP
  ·intro l0 l' l e1 e2
   obtain ⟨i,rfl,e3⟩:=fin_of l0 l' e1
   change (if 2 * i=1 then _ else if 2 * i % 2=0 then _ else _)=_ at e2
   rw [if_neg (by omega),if_pos (by omega),show 2 * i / 2=i by omega,e3] at e2
   exact (Option.some.inj e2).symm
  ·intro i d c e
   rcases fV e hl with ⟨_,h2⟩ | ⟨k,h1,_⟩
   ·exact h2
   ·exact absurd (hw i (sf h1)) c
  ·intro i d c e
   rcases fV e hl with ⟨h1,h2⟩ | ⟨j,h1,h2⟩
   ·refine .inl ⟨fin_none _ fun j e=>?_,h2⟩
    rcases cQ e with ⟨z,h3,h4⟩ | ⟨z,h3,h4⟩
    ·exact h1 (by rw [show i=z by omega]; exact h3)
    ·omega
   ·obtain ⟨u,g1,g2⟩:=eR ha h1
    have im:(ks.map AK.isM)[j]? = some true:=by rw [List.getElem?_map,h1]; rfl
    refine .inr ⟨j,u,?_,im,h2,g2,r2.mp j u (lC im g1)⟩
    show (if 2 * j=1 then _ else if 2 * j % 2=0 then _ else _)=_
    rw [if_neg (by omega),if_pos (by omega),show 2 * j / 2=j by omega,mW h1]
 have pdk:∀ (O3:Own),(∀ a l π,O a=some (l,π)→fin l=none→O3 a=some (l,π)∧H2 a=H a)→cK G G2→bZ G2 H2 O3 pd:=fun O3 h1 ts =>
  bZ.keep ts (fun a j π hj e=>h1 a _ _ e (fin_none _ fun i e=>by
   rcases cQ e with ⟨z,h3,h4⟩ | ⟨z,h3,h4⟩ <;> omega)) (eW (T:=T.reverse) pn)
 have kp:Kp ow ρ (b9 ks ρ2 ρ):=fun j hj=>fY fun hs=>hj (hw j hs)
 refine k d (b9 ks ρ2 ρ) v G2 H2 hq z kp ?_
 unfold Ret at hr
 split at hr
 ·rename_i c
  rw [if_pos c]
  obtain ⟨O2,r2⟩:=hr
  refine ⟨_,out _ ((d,v) :: pd) O2 r2 (Nat.le_succ_of_le hn) fun O3 h1 h2 ts=>⟨?_,pdk O3 h1 ts⟩⟩
  exact r2.pn.1.keep (fun _ _ z=>z) fun a τ e=>⟨h2 a _ _ _ e (by show (if 2 * 0 + 1=1 then _ else _)=_; rw [if_pos rfl]),rfl⟩
 ·rename_i c
  rw [if_neg c]
  obtain ⟨⟨O2,r2⟩,p⟩:=hr
  exact ⟨⟨_,out _ pd O2 r2 hn fun O3 h1 h2 ts=>pdk O3 h1 ts⟩,p⟩
section
variable {X:Cx} {ow:List Bool} {a b c e tg:Expr} {ma mb mc:ME} {pos p':Pos} {mr:MA} {es:List Expr} {ks:List AK} {x:Str}
def mD (ks:List AK) (sd:SpD) (m:MA):ME:=fun ρ q=>m ρ fun ds ρ1=>match dL ks ds ρ1 with
 | some ds'=>sd ds' fun d os=>q d (iJ ks os ρ1)
 | none=>False
theorem tj {k:Nat} {f:Addr} {fd:FuncData} {ps:List Str} {mu:List Bool} {sd:SpD} (F:FnOk X.prog X.w X.K X.mg X.base CX0 k f fd ps (a9 mu false sd)) (hr:Room k X.A) (hg:Gl X x) (hm:X.mg x=some (.ref f)) (hk:PySem.W.keepIn X.K (.ref f)=true) (hb:gz X.K fd ps [])
 (ha:QAk X ow ks (e :: es) mr) (hmu:mu=ks.map AK.isM:=by rfl) (nd:(aA ks).Nodup:=by decide) (hw:∀ i∈aA ks,ow[i]? = some true:=by decide) (hdb:(x == ("__debug__":Str))=false:=by decide)
 (he:starEach (e :: es) X.env=(false,eval e X.env) :: starEach es X.env:=by rfl) (hpl:(backTo pos (starEach es X.env)).any (·.1)=false:=by rfl):QE X ow (.Call (.Name x p') (e :: es) [] pos) (mD ks sd mr):=by
 obtain ⟨t,p,s⟩:=ha
 subst hmu
 refine ⟨_,mR F hr hg hm hk hb .nil ug p hdb he hpl,fun C G ρ σ H pd q Q r hm k=>s C G ρ σ H pd _ _ r hm fun ds ρ' vs T G' H' hq z kp r' p=>?_⟩
 rw [List.append_nil]
 split at hq
 ·rename_i ds' ef
  exact kU (fr:=false) r.np r' p ef nd hw hq fun d ρ2 v G2 H2 hq2 z2 kp2 h2=>by
   rw [if_neg (by decide)] at h2
   exact k d ρ2 v G2 H2 hq2 (z.trans z2) (kp.trans kp2) h2.1 h2.2
 ·exact hq.elim
theorem tH {k:Nat} {f:Addr} {fd:FuncData} {ps:List Str} {mu:List Bool} {sd:SpD} (F:FnOk X.prog X.w X.K X.mg X.base CX0 k f fd ps (a9 mu true sd)) (hr:Room k X.A) (hg:Gl X x) (hm:X.mg x=some (.ref f)) (hk:PySem.W.keepIn X.K (.ref f)=true) (hb:gz X.K fd ps [])
 (ha:QAk X ow ks (e :: es) mr) (hmu:mu=ks.map AK.isM:=by rfl) (nd:(aA ks).Nodup:=by decide) (hw:∀ i∈aA ks,ow[i]? = some true:=by decide) (hdb:(x == ("__debug__":Str))=false:=by decide)
 (he:starEach (e :: es) X.env=(false,eval e X.env) :: starEach es X.env:=by rfl) (hpl:(backTo pos (starEach es X.env)).any (·.1)=false:=by rfl):QF X ow (.Call (.Name x p') (e :: es) [] pos) (mD ks sd mr):=by
 obtain ⟨t,p,s⟩:=ha
 subst hmu
 refine ⟨_,mR F hr hg hm hk hb .nil ug p hdb he hpl,fun C G ρ σ H pd q Q r hm k=>s C G ρ σ H pd _ _ r hm fun ds ρ' vs T G' H' hq z kp r' p=>?_⟩
 rw [List.append_nil]
 split at hq
 ·rename_i ds' ef
  exact kU (fr:=true) r.np r' p ef nd hw hq fun d ρ2 v G2 H2 hq2 z2 kp2 h2=>by
   rw [if_pos rfl] at h2
   exact k d ρ2 v G2 H2 hq2 (z.trans z2) (kp.trans kp2) h2
 ·exact hq.elim
end
theorem RO.grow {C:Ctx} {mu ow:List Bool} {G:Hp} {ds:List D} {vs:List V} {H:Hp} {O:Own} (n:Nat) (h:RO C mu G (ds.map some) (vs.map some) H [] O) (ho:∀ i:Nat,i<ds.length→ow[i]? = mu[i]?) :
 RO C ow G (ds.map some++List.replicate n none) (vs.map some++List.replicate n none) H [] O:=by
 have hl:ds.length=vs.length:=by simpa using h.len
 have up:∀ {α:Type} {l:List α} {i:Nat} {d : α},(l.map some++List.replicate n none)[i]? = some (some d)→i<l.length∧(l.map some)[i]? = some (some d):=fun {α l i d} e=>by
  by_cases c:i<l.length
  ·rw [List.getElem?_append_left (by simpa using c)] at e; exact ⟨c,e⟩
  ·rw [List.getElem?_append_right (by simpa using c)] at e
   rw [List.getElem?_replicate] at e
   split at e <;> cases e
 refine ⟨by simp [hl],h.gh,h.g0,h.gn,h.og,h.cok,h.fr,h.ft,h.al,?_,?_,h.pn,h.np⟩
 ·intro i v e
  have:=h.mp i v e
  rw [List.getElem?_append_left (eh this)]; exact this
 ·intro i d e
  obtain ⟨c,e1⟩:=up e
  obtain ⟨v,h1,h2⟩:=h.sl i d e1
  exact ⟨v,by rw [List.getElem?_append_left (eh h1)]; exact h1,by rw [ho i c]; exact h2⟩
theorem RO.trim {C:Ctx} {mu ow:List Bool} {G:Hp} {ρ:DSt} {σ:St} {H:Hp} {pd:List (D×V)} {O:Own} (h:RO C ow G ρ σ H pd O) (hm:gE C mu) (ho:∀ i:Nat,i<mu.length→ow[i]? = mu[i]?) :
 RO C mu G (cf mu.length ρ) (cf mu.length σ) H pd O:=by
 refine ⟨by rw [cD,cD],h.gh,h.g0,h.gn,h.og,h.cok,h.fr,h.ft,h.al,?_,?_,h.pn,h.np⟩
 ·intro i v e
  exact jJ (lt_of_slot' (hm i v e)) (h.mp i v e)
 ·intro i d e
  obtain ⟨c,e1⟩:=jR e
  obtain ⟨v,h1,h2⟩:=h.sl i d e1
  exact ⟨v,jJ c h1,by rw [← ho i c]; exact h2⟩
where
 lt_of_slot' {l:List Bool} {i:Nat} {x:Bool} (h:l[i]? = some x):i<l.length:=(List.getElem?_eq_some_iff.mp h).1
def jM (mu:List Bool) (q:D→DSt→Prop):EndsD:=⟨fun ρ=>q .non (mus mu ρ),fun d ρ=>q d (mus mu ρ),fun _=>False,fun _=>False⟩
theorem fnD {P:Program} {w:World} {K:PySem.W.Frag} {mg:Str→Option Value} {base:Heap} {x qual:Str} {st:Stmt} {f:Addr} {fd:FuncData} {N ps:List Str} {k:Nat} (F:Fun K x qual st f fd) (S:FnScope N ps (ak st)) (M:Md) (sd:SpD)
 (hl:∀ ds q,sd ds q→ds.length=ps.length) (ho:M.ow.take ps.length=M.mu) (hml:M.mu.length=ps.length)
 (hbody:∀ (cdv:Value) (A:Around) (outer:List Env) (s:Shared) (H:Hp) (E:XK),Room k (A.deeper (envOfC qual (ak st) s.heap.objs.size f cdv)) →
  ∃ m,QSs (jG CX0 P w K mg base N qual (ak st) f cdv A outer s H E).nox M (ca st) m∧∀ ds q,sd ds q→m (jM M.mu q) (ds.map some++List.replicate (N.length - ps.length) none)) :
 FnOk P w K mg base CX0 (k + 1) f fd ps (a9 M.mu M.fr sd):=by
 have hov:∀ i:Nat,i<M.mu.length→M.ow[i]? = M.mu[i]?:=fun i hi=>by rw [← ho,List.getElem?_take_of_lt (by omega)]
 have hlen:∀ vs H Q E,a9 M.mu M.fr sd vs H Q E→vs.length=ps.length:=fun vs H Q E ⟨C,G,ds,q,_,_,⟨O,ro⟩,h1,_,_⟩=>by
  have:=ro.len; simp at this; rw [← this]; exact hl ds q h1
 refine F.ok S hlen fun cdv A outer s H vs Q E hr hsp=>?_
 obtain ⟨m,⟨t,p,ss⟩,hm⟩:=hbody cdv A outer s H E hr
 have hvl:=hlen vs H Q E hsp
 obtain ⟨C,G,ds,q,hnp,hmu,⟨O,ro⟩,hsd,hml2,kk⟩:=hsp
 refine ⟨t,p,?_⟩
 have hmo:gE C M.mu:=fun i v e=>by rw [hmu] at e; exact (jn e).1
 have r0:R C M.ow G (ds.map some++List.replicate (N.length - ps.length) none) (start N vs) H []:=by
  unfold start; rw [hvl]
  exact ⟨O,ro.grow _ fun i hi=>hov i (by omega)⟩
 refine ss C G _ _ H (jM M.mu q) _ hmo hnp r0 (hm ds q hsd) ⟨?_,fun _ _ _ _ h=>h.elim,fun _ _ _ _ h=>h.elim,?_⟩
 ·intro ρ σ G' H' h z ⟨O',r'⟩
  refine kk .non (cf M.mu.length ρ) (cf M.mu.length σ) .non G' H' (by rw [cG]; exact h) z (cD _ _) (R.non ⟨O',r'.trim hmo hov⟩)
 ·intro d ρ σ v G' H' h z hr'
  refine kk d (cf M.mu.length ρ) (cf M.mu.length σ) v G' H' (by rw [cG]; exact h) z (cD _ _) ?_
  unfold Ret at hr' ⊢
  split at hr'
  ·rename_i c; rw [if_pos c]; obtain ⟨O',r'⟩:=hr'; exact ⟨O',r'.trim hmo hov⟩
  ·rename_i c; rw [if_neg c]; obtain ⟨⟨O',r'⟩,p⟩:=hr'; exact ⟨⟨O',r'.trim hmo hov⟩,p⟩
theorem Seps.mk {G H:Hp} {O:Own} {i:Nat}:∀ {T:List (D×V)} {k:Nat} {π:List Nat},(∀ (j:Nat) x,T[j]? = some x→Sep G H O i x.1 ((k + j) :: π) x.2)→Seps G H O i (T.map (·.1)) k π (T.map (·.2))
 | [],_,_,_=>by simp; rw [Seps]
 | x :: T,k,π,h=>by
  simp only [List.map]; rw [Seps]
  exact ⟨x.2,_,rfl,by simpa using h 0 x rfl,Seps.mk fun j y e=>by rw [show k + 1 + j=k + (j + 1) by omega]; exact h (j + 1) y (by simpa using e)⟩
section
variable {C:Ctx} {ow:List Bool} {G:Hp} {ρ:DSt} {σ:St} {H:Hp} {pd T:List (D×V)} {O:Own}
theorem RO.gather (h:RO C ow G ρ σ H (T.reverse++pd) O) (hn:C.np≤pd.length):∃ O',RO C ow G ρ σ H pd O'∧Seps G H O' (2 * pd.length + 1) (T.map (·.1)) 0 [] (T.map (·.2)):=by
 refine ⟨lab (fun l π=>if l % 2=1∧pd.length≤l / 2 then (2 * pd.length + 1,π++[l / 2 - pd.length]) else (l,π)) O,⟨h.len,h.gh,h.g0,h.gn,?_,h.cok,h.fr,h.ft,h.al,h.mp,?_,?_,hn⟩,?_⟩
 ·intro a m e
  obtain ⟨l,π,e1,rfl⟩:=h_ e
  obtain ⟨q1,q2,q3⟩:=h.og a _ e1
  refine ⟨q1,q2,?_⟩
  split
  ·rename_i z
   rcases q3 with q3 | ⟨_,q3⟩
   ·exact .inl q3
   ·rcases h.cok _ _ _ q3 with ⟨k,_,q4,_⟩ | ⟨k,q4,q5⟩
    ·omega
    ·omega
  ·exact q3
 ·intro j e q
  obtain ⟨u,h1,h2⟩:=h.sl j e q
  refine ⟨u,h1,?_⟩
  split at h2
  ·rename_i c; rw [if_pos c]; exact h2.keep (fun _ _ z=>z) fun a τ q=>⟨by rw [bR q,if_neg (by omega)],rfl⟩
  ·rename_i c; rw [if_neg c]; exact h2
 ·exact bZ.keep (fun _ _ z=>z) (fun a j π hj q=>⟨by rw [bR q,if_neg (by omega)],rfl⟩) (eW (T:=T.reverse) h.pn)
 ·refine Seps.mk fun j x e=>?_
  have:=jx h.pn e
  refine Sep.map (f:=fun π=>π++[0 + j]) (fun _ _ z=>z) (fun _ _=>rfl) x.1 [] x.2 (fun a τ q=>⟨?_,rfl⟩) this
  rw [bR q,if_pos (by omega)]
  rw [show (2 * (pd.length + j) + 1) / 2 - pd.length=0 + j by omega]
theorem RO.newT (h:RO C ow G ρ σ H pd O) {p:Addr} (hp:H p=none) {ds:List D} {vs:List V} (hs:Seps G H O (2 * pd.length + 1) ds 0 [] vs):R C ow (upd G p (.tup vs)) ρ σ (upd H p (.tup vs)) ((.tup ds,.ref p) :: pd)∧aI G (upd G p (.tup vs)):=by
 obtain ⟨r,z⟩:=h.new hp (.tup vs)
 refine ⟨⟨O,r.len,r.gh,r.g0,r.gn,r.og,r.cok,r.fr,r.ft,r.al,r.mp,r.sl,⟨?_,r.pn⟩,Nat.le_succ_of_le r.np⟩,z⟩
 rw [Sep]
 exact ⟨p,vs,rfl,aG,hs.keep z.ts fun a τ _ q=>⟨q,av (fun e=>by obtain ⟨_,⟨xs,w⟩,_⟩:=h.og a _ q; rw [e,hp] at w; cases w)⟩⟩
end
def SFm (M:Md) (t:TE) (m:ME):Prop:=∀ (C:Ctx) (G:Hp) (ρ:DSt) (σ:St) (H:Hp) (pd:List (D×V)) (q:D→DSt→Prop) (Q:VK),gE C M.mu→R C M.ow G ρ σ H pd→m ρ q →
 (∀ d ρ' v G' H',q d ρ'→aI G G'→R C M.ow G' ρ' σ H' ((d,v) :: pd)→Q v H')→t σ H Q
structure QM (X:Cx) (M:Md) (e:Expr) (m:ME):Prop where
 ex:∃ t,PE X e t∧SFm M t m
def SAm (M:Md) (n:Nat) (t:TA) (m:MA):Prop:=∀ (C:Ctx) (G:Hp) (ρ:DSt) (σ:St) (H:Hp) (pd:List (D×V)) (q:List D→DSt→Prop) (Q:List V→Hp→Prop),gE C M.mu→R C M.ow G ρ σ H pd→m ρ q →
 (∀ (T:List (D×V)) ρ' G' H',q (T.map (·.1)) ρ'→aI G G'→R C M.ow G' ρ' σ H' (T.reverse++pd)→T.length=n→Q (T.map (·.2)) H')→t σ H Q
structure QMs (X:Cx) (M:Md) (es:List Expr) (m:MA):Prop where
 ex:∃ t,PA X es t∧SAm M es.length t m
section
variable {X:Cx} {M:Md} {a b c e:Expr} {ma mb mc:ME} {pos pos':Pos} {mr:MA} {es:List Expr}
theorem QF.qm (h:QF X M.ow e ma):QM X M e ma:=by
 obtain ⟨t,p,s⟩:=h
 exact ⟨_,p,fun C G ρ σ H pd q Q hm r h k=>s C G ρ σ H pd q Q r h fun d ρ' v G' H' hq z kp r'=>k d ρ' v G' H' hq z r'⟩
theorem cB (i:Nat) {x:Str} (ho:M.ow[i]? = some true:=by decide) (hu:M.mu[i]?≠some true:=by decide) (hN:X.N[i]? = some x:=by rfl) (hv:Vis X.env.scope x:=by first | exact Or.inl rfl | exact Or.inr (Or.inl rfl) | exact Or.inr (Or.inr rfl)) (hd:(x == ("__debug__":Str))=false:=by decide)
 (hcd:(x == ("__classdict__":Str))=false:=by decide):QM X M (.Name x pos) (ul i):=⟨_,dC hN hv hd hcd,fun C G ρ σ H pd q Q hm r h k=>by
 unfold ul at h
 split at h
 ·rename_i d e
  obtain ⟨O,ro⟩:=r
  obtain ⟨v,h1,h2⟩:=ro.move e ho (hm.no hu)
  exact ⟨v,h1,k d _ v G H h (aI.refl _) h2⟩
 ·exact h.elim⟩
theorem jA:QMs X M [] oz:=⟨_,cx,fun C G ρ σ H pd q Q hm r h k=>k [] ρ G H h (aI.refl _) r rfl⟩
theorem dJ (ha:QM X M e ma) (hr:QMs X M es mr) (hs:starEach (e :: es) X.env=(false,eval e X.env) :: starEach es X.env:=by rfl):QMs X M (e :: es) (fu ma mr):=by
 obtain ⟨t,p,s⟩:=ha; obtain ⟨t2,p2,s2⟩:=hr
 refine ⟨_,bq p p2 hs,fun C G ρ σ H pd q Q hm r h k=>s C G ρ σ H pd _ _ hm r h fun d ρ' v G' H' hq z r'=>?_⟩
 exact s2 C G' ρ' σ H' _ _ _ hm r' hq fun T ρ2 G2 H2 hq2 z2 r2 hn=>k ((d,v) :: T) ρ2 G2 H2 hq2 (z.trans z2) (by simpa using r2) (by simp [hn])
theorem lh {x1} (h:QMs X M es mr) (hl:es.length≤1000:=by decide):QM X M (.Tuple es x1 pos) (mTup mr):=by
 obtain ⟨t,p,s⟩:=h
 refine ⟨_,oS p,fun C G ρ σ H pd q Q hm r h k=>s C G ρ σ H pd _ _ hm r h fun T ρ' G' H' hq z r' hn=>⟨dA (by simp; omega),fun a ha=>?_⟩⟩
 obtain ⟨O,r'⟩:=r'
 obtain ⟨O2,r2,s2⟩:=r'.gather r.np
 obtain ⟨r3,z3⟩:=r2.newT ha s2
 exact k _ ρ' _ _ _ hq (z.trans z3) r3
theorem bG (h:QM X M e ma) (hf:M.fr=true:=by rfl):QS X M (.Return (some e) pos) (mRet ma):=by
 obtain ⟨t,p,s⟩:=h
 refine ⟨_,qq p,fun C G ρ σ H n D hm hn r h k=>s C G ρ σ H [] _ _ hm r h fun d ρ' v G' H' hq z r'=>k.rt d ρ' σ v G' H' hq z (by unfold Ret; rw [if_pos hf]; exact r')⟩
end
def ku (g:MG) (mt:MT) (me:ME) (ρ0:DSt) (ds:List D) (K:List D→Prop):Prop:=∃ I:Nat→List D→Prop,I 0 [] ∧
 (∀ i d es,ds[i]? = some d→I i es→g d ρ0 fun ρ2=>mt ρ2 fun b ρ3=>if b=true then me ρ3 fun x _=>I (i + 1) (es++[x]) else I (i + 1) es)∧∀ es,I ds.length es→K es
def eA (k:Nat) (js:List Nat) (ρ:DSt):DSt:=List.replicate k none++js.map fun j=>(ρ[j]?).getD none
def ue (mi:MA) (g:MG) (mt:MT) (me:ME) (k:Nat) (js:List Nat):ME:=fun ρ q=>mi ρ fun ds ρ1=>ds.length≤1000∧ku g mt me (eA k js ρ1) ds fun es=>imms es=true∧q (.lst es) ρ1
def l6 (mi:MA) (g:MG) (mt:MT) (me:ME) (k:Nat) (js:List Nat):ME:=fun ρ q=>mi ρ fun ds ρ1=>ds.length≤1000∧ku g mt me (eA k js ρ1) ds fun es=>q (.lst es) ρ1
structure QIf (X:Cx) (ow:List Bool) (ifs:List Expr) (m:MT):Prop where
 ex:∃ t,PIf X ifs t∧STe ow t m
theorem bL {X:Cx} {ow:List Bool}:QIf X ow [] (rl true):=⟨_,sw,lN true⟩
theorem cz {X:Cx} {ow:List Bool} {c:Expr} {mt:MT} (h:QT X ow c mt):QIf X ow [c] mt:=by obtain ⟨t,p,s⟩:=h; exact ⟨_,sv p,s⟩
section
variable {C:Ctx} {ow:List Bool} {G:Hp} {ρ:DSt} {σ:St} {H:Hp} {pd:List (D×V)} {O:Own}
theorem RO.inner (h:RO C ow G ρ σ H pd O) (own:List Str) (js:List Nat) (hj:∀ j∈js,ow[j]?≠some true) :
 RO ⟨G,H,cy (fun _=>none) O,[],0⟩ [] G (eA own.length js ρ) (bN own js σ) H [] (cy (fun _=>none) O):=by
 have no:∀ a,cy (fun _=>none) O a=none:=fun a=>by unfold cy; cases O a <;> rfl
 refine ⟨by simp [eA,bN],h.gh,fun _ _ e=>e,fun _ _ e=>.inl e,fun a l e=>?_,fun a l π e=>?_,fun _ _ e _ _=>e,h.ft,fun _ e=>e,fun i v e=>by simp at e,?_,trivial,Nat.le_refl _⟩
 ·rw [no] at e; cases e
 ·exact absurd (e.symm.trans (no a)) (by simp)
 ·intro i d e
  unfold eA at e
  by_cases c:i<own.length
  ·rw [List.getElem?_append_left (by simpa using c),List.getElem?_replicate] at e
   split at e <;> cases e
  ·rw [List.getElem?_append_right (by simpa using c),List.getElem?_map] at e
   simp only [List.length_replicate] at e
   cases z:js[i - own.length]? with
   | none=>rw [z] at e; cases e
   | some j =>
    rw [z] at e
    have e':(ρ[j]?).getD none=some d:=Option.some.inj e
    have e2 : ρ[j]? = some (some d):=by
     cases w : ρ[j]? with
     | none=>rw [w] at e'; cases e'
     | some o=>rw [w] at e'; exact congrArg some e'
    obtain ⟨v,h1,h2⟩:=h.sl j d e2
    rw [if_neg (hj j (List.mem_of_getElem? z))] at h2
    refine ⟨v,?_,by simpa using h2⟩
    unfold bN
    rw [List.getElem?_append_right (by simpa using c),List.getElem?_map]
    simp only [List.length_map]
    rw [z,show (some j).map _=some ((σ[j]?).getD none) from rfl,h1]; rfl
end
theorem RO.back {C:Ctx} {ow:List Bool} {G G':Hp} {ρ0 ρ2:DSt} {σ0 σ2:St} {H H':Hp} {pd:List (D×V)} {O O':Own} (h0:RO C ow G ρ0 σ0 H pd O) (hn:∀ i:Nat,ow[i]?≠some true) (h:RO C ow G' ρ2 σ2 H' pd O') (z:aI G G'):RO C ow G' ρ0 σ0 H' pd O' :=
 ⟨h0.len,h.gh,h.g0,h.gn,h.og,h.cok,h.fr,h.ft,h.al,h0.mp,fun i d e=>by
  obtain ⟨v,h1,h2⟩:=h0.sl i d e
  rw [if_neg (hn i)] at h2
  exact ⟨v,h1,by rw [if_neg (hn i)]; exact h2.mono z⟩,h.pn,h.np⟩
theorem iA {ow:List Bool} {J:It} {g:TG} {mg:MG} {tt:TT} {mt:MT} {te:TE} {me:ME} {C:Ctx} {G:Hp} {ρ:DSt} {σ:St} {H:Hp} {pd:List (D×V)} {ds:List D} {own:List Str} {js:List Nat} {K:List D→Prop} {Z:List V→Hp→Prop}
 (r:R C ow G ρ σ H pd) (hj:∀ j∈js,ow[j]?≠some true) (jo:jL J G ds) (sg:SG ⟨[],[],false⟩ g mg) (st:STe [] tt mt) (se:SE [] te me) (hk:∀ x H k,g x (bN own js σ) H k→g x (bN own js σ) H fun σ2 H2=>kept (bN own js σ) σ2∧k σ2 H2)
 (hl:ds.length≤1000) (h:ku mg mt me (eA own.length js ρ) ds K)
 (k:∀ es vs G' H',K es→aI G G'→R C ow G' ρ σ H' pd→Reps G' es vs→vs.length≤1000→Z vs H'):mG J g tt te (bN own js σ) H Z:=by
 obtain ⟨O,ro⟩:=r
 have ri:=ro.inner own js hj
 obtain ⟨I,i0,turn,fin⟩:=h
 have nt:∀ i:Nat,([]:List Bool)[i]?≠some true:=fun i=>by simp
 let C1:Ctx:=⟨G,H,cy (fun _=>none) O,[],0⟩
 have fnone:cy (fun _=>none) O=fun _=>none:=by funext a; unfold cy; cases O a <;> rfl
 refine ⟨fun i m acc H'=>m=ds.length - i∧i≤ds.length∧acc.length≤i∧∃ G' es,aI G G'∧R C1 [] G' (eA own.length js ρ) (bN own js σ) H' []∧Reps G' es acc∧I i es,⟨_,rfl,Nat.zero_le _,Nat.le_refl _,G,[],aI.refl _,⟨_,ri⟩,bz,i0⟩,?_⟩
 rintro i m acc H' ⟨rfl,hi,ha,G',es,z,r',pa,w⟩
 obtain ⟨sp,go⟩:=jo C1 [] G' _ _ H' [] i z r'
 by_cases hlt:i<ds.length
 ·obtain ⟨g1,g2⟩:=go ds[i] (List.getElem?_eq_getElem hlt)
  refine .inr ⟨g1,bY (by omega),fun acc' H2=>acc'.length≤i + 1∧∃ G2 es2,aI G G2∧R C1 [] G2 (eA own.length js ρ) (bN own js σ) H2 []∧Reps G2 es2 acc'∧I (i + 1) es2,fun acc' H2 h=>⟨ds.length - (i + 1),by omega,rfl,hlt,h.1,h.2⟩,fun x H1 hy=>hk _ _ _ ?_⟩
  obtain ⟨G1,z1,r1,p1⟩:=g2 x H1 hy
  refine sg C1 G1 _ _ H1 [] ds[i] x _ _ (fun i v e=>by simp [C1] at e) r1 p1 (turn i ds[i] es (List.getElem?_eq_getElem hlt) w) fun ρ2 σ2 h2 r2=>?_
  refine st C1 G1 ρ2 σ2 H1 [] _ _ r2 h2 fun b ρ3 G3 H3 h3 z3 kp3 r3=>?_
  have bk:∀ {G4:Hp} {ρ4:DSt} {H4:Hp},aI G3 G4→R C1 [] G4 ρ4 σ2 H4 []→R C1 [] G4 (eA own.length js ρ) (bN own js σ) H4 []:=fun z4 ⟨O4,r4⟩=>by
   obtain ⟨O1,r1'⟩:=r1
   exact ⟨_,r1'.back nt r4 (z3.trans z4)⟩
  cases b with
  | true =>
   rw [if_pos rfl] at h3 ⊢
   refine se C1 G3 ρ3 σ2 H3 [] _ _ r3 h3 fun d ρ4 v G4 H4 h4 z4 kp4 r4 p4=>?_
   exact ⟨by simp; omega,G4,es++[d],z.trans (z1.trans (z3.trans z4)),bk z4 r4,dO (Reps.mono (z1.trans (z3.trans z4)) _ _ pa) (bi p4 bz),h4⟩
  | false =>
   rw [if_neg (by decide)] at h3 ⊢
   exact ⟨by omega,G3,es,z.trans (z1.trans z3),bk (aI.refl _) r3,Reps.mono (z1.trans z3) _ _ pa,h3⟩
 ·have e:i=ds.length:=by omega
  subst e
  refine .inl ⟨sp (Nat.le_refl _),dA (by omega),?_⟩
  obtain ⟨O2,r2⟩:=r'
  refine k es acc G' H' (fin es w) z ⟨nQ (fun _=>none) (fun _=>none) O O2,?_⟩ pa (by omega)
  refine ro.out (vs:=[]) r2 (fun _ _ _ e=>by cases e) ro.len ro.np (fun i d _ e=>e) (fun i d _ e=>.inl ⟨rfl,e⟩) fun O3 h1 h2 ts=>?_
  exact bZ.keep ts (fun a j π hj e=>h1 a _ _ e rfl) ro.pn
section
variable {X:Cx} {ow:List Bool} {elt tg iter:Expr} {ifs:List Expr} {pos:Pos} {mi:MA} {mg:MG} {mt:MT} {me:ME} {scope:Scope} {cl:List (Str×Addr)}
def tW (n:Nat) (g:TG):Prop:=∀ (σ0:St),(∀ i,i<n→σ0[i]? = some none)→∀ σ x H k,kept σ0 σ→g x σ H k→g x σ H fun σ2 H2=>kept σ0 σ2∧k σ2 H2
def vz (n:Nat) (g:TGs):Prop:=∀ (σ0:St),(∀ i,i<n→σ0[i]? = some none)→∀ σ x H k,kept σ0 σ→g x σ H k→g x σ H fun σ2 H2=>kept σ0 σ2∧k σ2 H2
theorem f6:∀ {a b:St} {i:Nat} {v:V},kept a b→a[i]? = some none→kept a (b.set i (some v))
 | [],[],i,v,h,e=>by simp at e
 | none :: r,y :: r',0,v,h,e=>h
 | none :: r,y :: r',i + 1,v,h,e=>by simp only [List.set_cons_succ]; exact f6 (a:=r) (b:=r') h (by simpa using e)
 | some w :: r,y :: r',0,v,h,e=>by simp at e
 | some w :: r,y :: r',i + 1,v,h,e=>by simp only [List.set_cons_succ]; exact ⟨h.1,f6 (a:=r) (b:=r') h.2 (by simpa using e)⟩
 | [],_ :: _,_,_,h,_=>h.elim
 | none :: _,[],_,_,h,_=>h.elim
 | some _ :: _,[],_,_,h,_=>h.elim
theorem dX:∀ (a:St),kept a a
 | []=>trivial
 | none :: r=>dX r
 | some v :: r=>⟨rfl,dX r⟩
def MonG (g:TG):Prop:=∀ x σ H (k k':St→Hp→Prop),(∀ σ2 H2,k σ2 H2→k' σ2 H2)→g x σ H k→g x σ H k'
def MonGs (g:TGs):Prop:=∀ x σ H (k k':St→Hp→Prop),(∀ σ2 H2,k σ2 H2→k' σ2 H2)→g x σ H k→g x σ H k'
structure CG (n:Nat) (g:TG) (m:MG):Prop where
 sg:SG ⟨[],[],false⟩ g m
 kp:tW n g
 mn:MonG g
structure CGs (n:Nat) (g:TGs) (m:MGs):Prop where
 sg:SGs ⟨[],[],false⟩ g m
 kp:vz n g
 mn:MonGs g
theorem a6 {n:Nat} (i:Nat) (h:i<n:=by decide):CG n (hU i) (f8 i) :=
 ⟨fun C G ρ σ H pd d v k K hm r p h kk=>by obtain ⟨O,r⟩:=r; exact kk _ _ h ⟨O,r.setS (by simp) (fun v e=>by have:=hm i v e; simp at this) p⟩,
  fun σ0 h0 σ x H k hk hg=>⟨f6 hk (h0 i h),hg⟩,fun x σ H k k' hk h=>hk _ _ h⟩
theorem sP {n:Nat}:CGs n gNil mO :=
 ⟨fun C G ρ σ H pd d v k K hm r p h kk=>by
  cases d with
  | nil=>rw [Reps] at p; exact ⟨p,kk _ _ h r⟩
  | cons _ _=>exact h.elim,fun σ0 h0 σ x H k hk hg=>⟨hg.1,hk,hg.2⟩,fun x σ H k k' hk h=>⟨h.1,hk _ _ h.2⟩⟩
theorem j_ {n:Nat} {g:TG} {gs:TGs} {mg:MG} {mgs:MGs} (h1:CG n g mg) (h2:CGs n gs mgs):CGs n (t4 g gs) (g_ mg mgs) :=
 ⟨fun C G ρ σ H pd d v k K hm r p h kk=>by
  cases d with
  | nil=>exact h.elim
  | cons d ds =>
   rw [Reps] at p
   obtain ⟨v,vs,rfl,p1,p3⟩:=p
   exact ⟨v,vs,rfl,h1.sg C G ρ σ H pd d v _ _ hm r p1 h fun ρ' σ' h' r'=>h2.sg C G ρ' σ' H pd ds vs k K hm r' p3 h' kk⟩,
  fun σ0 h0 σ x H k hk hg=>by
   obtain ⟨v,r,e,q⟩:=hg
   exact ⟨v,r,e,h1.mn _ _ _ _ _ (fun σ2 H2 z=>h2.kp σ0 h0 σ2 r H2 k z.1 z.2) (h1.kp σ0 h0 σ v H _ hk q)⟩,
  fun x σ H k k' hk h=>by
   obtain ⟨v,r,e,q⟩:=h
   exact ⟨v,r,e,h1.mn _ _ _ _ _ (fun σ2 H2 z=>h2.mn _ _ _ _ _ hk z) q⟩⟩
theorem vQ {n j:Nat} {K:PySem.W.Frag} {gs:TGs} {mgs:MGs} (h:CGs n gs mgs) (ht:i5 j mgs):CG n (gTup K j gs) (qg mgs) :=
 ⟨fun C G ρ σ H pd d v k K hm r p h' kk=>by
  cases d with
  | tup ds =>
   obtain ⟨a,xs,rfl,h1,h2⟩:=cr p
   exact ⟨a,xs,rfl,SqT.of (r.gh _ _ h1),by rw [h2.length]; exact ht _ _ _ h',h.sg C G ρ σ H pd ds xs k K hm r h2 h' kk⟩
  | _=>exact h'.elim,
  fun σ0 h0 σ x H k hk hg=>by obtain ⟨a,xs,e,e1,e2,q⟩:=hg; exact ⟨a,xs,e,e1,e2,h.kp σ0 h0 σ xs H k hk q⟩,
  fun x σ H k k' hk hg=>by obtain ⟨a,xs,e,e1,e2,q⟩:=hg; exact ⟨a,xs,e,e1,e2,h.mn _ _ _ _ _ hk q⟩⟩
def qB (ow:List Bool) (m:ME):TE:=fun σ H Q=>∃ (C:Ctx) (G:Hp) (ρ:DSt) (pd:List (D×V)) (q:D→DSt→Prop),R C ow G ρ σ H pd∧m ρ q∧∀ d ρ' v G' H',q d ρ'→aI G G'→Kp ow ρ ρ'→R C ow G' ρ' σ H' pd→Rep G' d v→Q v H'
def qx (ow:List Bool) (m:MT):TT:=fun σ H Q=>∃ (C:Ctx) (G:Hp) (ρ:DSt) (pd:List (D×V)) (q:Bool→DSt→Prop),R C ow G ρ σ H pd∧m ρ q∧∀ d ρ' G' H',q d ρ'→aI G G'→Kp ow ρ ρ'→R C ow G' ρ' σ H' pd→Q d H'
theorem lE {ow:List Bool} {m:ME}:SE ow (qB ow m) m:=fun C G ρ σ H pd q Q r h k=>⟨C,G,ρ,pd,q,r,h,k⟩
theorem lJ {ow:List Bool} {m:MT}:STe ow (qx ow m) m:=fun C G ρ σ H pd q Q r h k=>⟨C,G,ρ,pd,q,r,h,k⟩
theorem QE.can {X:Cx} {ow:List Bool} {e:Expr} {m:ME} (h:QE X ow e m):PE X e (qB ow m):=by
 obtain ⟨t,p,s⟩:=h
 exact ⟨fun pins s' σ H Q I ⟨C,G,ρ,pd,q,r,h,k⟩=>p.go pins s' σ H Q I (s C G ρ σ H pd q Q r h k)⟩
theorem QIf.can {X:Cx} {ow:List Bool} {e:List Expr} {m:MT} (h:QIf X ow e m):PIf X e (qx ow m):=by
 obtain ⟨t,p,s⟩:=h
 exact ⟨fun pins s' σ H Q I ⟨C,G,ρ,pd,q,r,h,k⟩=>p.go pins s' σ H Q I (s C G ρ σ H pd q Q r h k)⟩
theorem gg {own:List Str} {js:List Nat} {σ:St}:∀ i,i<own.length→(bN own js σ)[i]? = some none:=fun i h=>by
 unfold bN
 rw [List.getElem?_append_left (by simpa using h),List.getElem?_map,List.getElem?_eq_getElem h]; rfl
theorem r6 {ow:List Bool} {wi:TI} {g:TG} {own:List Str} {js:List Nat} (si:SI ow wi mi) (cg:CG own.length g mg) (hj:∀ j∈js,ow[j]?≠some true):SF ow (kW wi g (qx [] mt) (qB [] me) own js) (ue mi mg mt me own.length js):=fun C G ρ σ H pd q Q r h k =>
 si C G ρ σ H pd _ _ r h fun ds ρ' G' H' J hq z kp r' jo=>by
  refine iA r' hj jo cg.sg lJ lE (fun x H k hg=>cg.kp _ gg _ x H k (dX _) hg) hq.1 hq.2 fun es vs G2 H2 hK z2 r2 p2 hl p hp=>?_
  obtain ⟨O2,r2⟩:=r2
  exact k _ ρ' _ _ _ hK.2 (z.trans z2) kp (r2.newL hp hK.1 p2)
theorem m9 {ow:List Bool} {wi:TI} {g:TG} {own:List Str} {js:List Nat} (si:SI ow wi mi) (cg:CG own.length g mg) (hj:∀ j∈js,ow[j]?≠some true):SE ow (kW wi g (qx [] mt) (qB [] me) own js) (l6 mi mg mt me own.length js):=fun C G ρ σ H pd q Q r h k =>
 si C G ρ σ H pd _ _ r h fun ds ρ' G' H' J hq z kp r' jo=>by
  refine iA r' hj jo cg.sg lJ lE (fun x H k hg=>cg.kp _ gg _ x H k (dX _) hg) hq.1 hq.2 fun es vs G2 H2 hK z2 r2 p2 hl p hp=>?_
  obtain ⟨O2,r2⟩:=r2
  obtain ⟨r3,z3⟩:=r2.new hp (.lst vs)
  exact k _ ρ' _ _ _ hK (z.trans (z2.trans z3)) kp ⟨O2,r3⟩ (gJ aG (Reps.mono z3 _ _ p2))
structure CInn (X:Cx) (tg:Expr) (ifs:List Expr) (elt:Expr) (g:TG) (mt:MT) (me:ME):Prop where
 pg:PG X tg g
 qi:QIf X [] ifs mt
 qe:QE X [] elt me
theorem sF {g:TG} (own:List Str) (js:List Nat) (c:CompOk X scope cl own js) (hc:X.calm=true) (hi:QI X ow tg iter mi) (cg:CG own.length g mg)
 (inner:∀ (C:Addr) (s₀:Shared) (H₀:Hp) (ex:List Addr),CInn (bI X scope cl (cZ X own js) C s₀ H₀ ex) tg ifs elt g mt me) (hj:∀ j∈js,ow[j]?≠some true:=by decide)
 (hs:∀ x,foldedSetIterable iter X.env x=pure x:=by intro _; rfl):QF X ow (.ListComp elt [⟨tg,iter,ifs,0⟩] scope pos) (ue mi mg mt me own.length js):=by
 obtain ⟨wi,pi,si⟩:=hi
 exact ⟨_,jq own js c hc pi (fun C s₀ H₀ ex=>⟨(inner C s₀ H₀ ex).pg,(inner C s₀ H₀ ex).qi.can,(inner C s₀ H₀ ex).qe.can⟩) hs,r6 si cg hj⟩
theorem bp {g:TG} (own:List Str) (js:List Nat) (c:CompOk X scope cl own js) (hc:X.calm=true) (hi:QI X ow tg iter mi) (cg:CG own.length g mg)
 (inner:∀ (C:Addr) (s₀:Shared) (H₀:Hp) (ex:List Addr),CInn (bI X scope cl (cZ X own js) C s₀ H₀ ex) tg ifs elt g mt me) (hj:∀ j∈js,ow[j]?≠some true:=by decide)
 (hs:∀ x,foldedSetIterable iter X.env x=pure x:=by intro _; rfl):QE X ow (.ListComp elt [⟨tg,iter,ifs,0⟩] scope pos) (l6 mi mg mt me own.length js):=by
 obtain ⟨wi,pi,si⟩:=hi
 exact ⟨_,jq own js c hc pi (fun C s₀ H₀ ex=>⟨(inner C s₀ H₀ ex).pg,(inner C s₀ H₀ ex).qi.can,(inner C s₀ H₀ ex).qe.can⟩) hs,m9 si cg hj⟩
theorem d_ {M:Md} {g:TG} {i:Nat} {y:Str} {spos py:Pos} (own:List Str) (js:List Nat) (c:CompOk X scope cl own js) (hc:X.calm=true) (hN:X.N.Nodup) (hy:X.N[i]? = some y) (hx:Loc X.env.scope y) (hi:QI X M.ow tg iter mi) (cg:CG own.length g mg)
 (inner:∀ (C:Addr) (s₀:Shared) (H₀:Hp) (ex:List Addr),CInn (bI X scope cl (cZ X own js) C s₀ H₀ ex) tg ifs elt g mt me) (hj:∀ j∈js,M.ow[j]?≠some true:=by decide) (ho:M.ow[i]?≠some true:=by decide) (hu:M.mu[i]?≠some true:=by decide)
 (hsw:swapsWith (.ListComp elt [⟨tg,iter,ifs,0⟩] scope pos) (some (.Name y py)) spos.line X.env=pure true:=by rfl)
 (hs:∀ x,foldedSetIterable iter X.env x=pure x:=by intro _; rfl) (hf:X.fn y=true∨X.env.scope.names.lookup y=some .local:=by first | exact .inl rfl | exact .inr rfl | assumption) :
 QS X M (.Assign [.Name y py] (.ListComp elt [⟨tg,iter,ifs,0⟩] scope pos) spos) (pS i (l6 mi mg mt me own.length js)):=by
 obtain ⟨wi,pi,si⟩:=hi
 exact ⟨_,k7 own js c hc hN hy hx pi (fun C s₀ H₀ ex=>⟨(inner C s₀ H₀ ex).pg,(inner C s₀ H₀ ex).qi.can,(inner C s₀ H₀ ex).qe.can⟩) hsw hs hf,pQ (m9 si cg hj) ho hu⟩
end
theorem bV {g:MG} {mt:MT} {me:ME} {ρ0:DSt} {ds:List D} {K:List D→Prop} (f:D→Option D)
 (step:∀ (d:D),d∈ds→∀ k:Option D→Prop,k (f d)→g d ρ0 fun ρ2=>mt ρ2 fun b ρ3=>if b=true then me ρ3 fun x _=>k (some x) else k none) (h:K (ds.filterMap f)):ku g mt me ρ0 ds K:=by
 refine ⟨fun i es=>es=(ds.take i).filterMap f,rfl,?_,fun es e=>by rw [e,List.take_length]; exact h⟩
 rintro i d es hd rfl
 have:=step d (List.mem_of_getElem? hd) (fun o=>match o with | some x=>(ds.take i).filterMap f++[x]=(ds.take (i + 1)).filterMap f | none=>(ds.take i).filterMap f=(ds.take (i + 1)).filterMap f) (by
  rw [List.take_add_one,hd]
  simp only [Option.toList,List.filterMap_append]
  cases e:f d with
  | none=>simp [e]
  | some x=>simp [e])
 exact this
theorem bA {g:MG} {me:ME} {ρ0:DSt} {ds:List D} {K:List D→Prop} (f:D→D)
 (step:∀ (d:D),d∈ds→∀ k:D→Prop,k (f d)→g d ρ0 fun ρ2=>me ρ2 fun x _=>k x) (h:K (ds.map f)):ku g (rl true) me ρ0 ds K:=by
 refine ⟨fun i es=>es=(ds.take i).map f,rfl,?_,fun es e=>by rw [e,List.take_length]; exact h⟩
 rintro i d es hd rfl
 have:=step d (List.mem_of_getElem? hd) (fun x=>(ds.take i).map f++[x]=(ds.take (i + 1)).map f) (by
  rw [List.take_add_one,hd]; simp)
 exact this
def lT (x:Int):List Int→List Int
 | []=>[x]
 | y :: r=>if x≤y then x :: y :: r else y :: lT x r
def bj:List Int→List Int
 | []=>[]
 | x :: r=>lT x (bj r)
theorem gc (x:Int):∀ l:List Int,(lT x l).Perm (x :: l)
 | []=>List.Perm.refl _
 | y :: r=>by
  unfold lT
  split
  ·exact List.Perm.refl _
  ·exact ((gc x r).cons y).trans (List.Perm.swap x y r)
theorem aS:∀ l:List Int,(bj l).Perm l
 | []=>List.Perm.refl _
 | x :: r=>(gc x (bj r)).trans ((aS r).cons x)
theorem gA (x:Int):∀ {l:List Int},l.Pairwise (·≤·)→(lT x l).Pairwise (·≤·)
 | [],_=>by simp [lT]
 | y :: r,h=>by
  unfold lT
  rw [List.pairwise_cons] at h
  split
  ·rename_i c
   refine List.pairwise_cons.mpr ⟨fun z hz=>?_,List.pairwise_cons.mpr h⟩
   rcases List.mem_cons.mp hz with rfl | hz
   ·exact c
   ·exact Int.le_trans c (h.1 z hz)
  ·rename_i c
   refine List.pairwise_cons.mpr ⟨fun z hz=>?_,gA x h.2⟩
   rcases List.mem_cons.mp ((gc x r).mem_iff.mp hz) with rfl | hz
   ·omega
   ·exact h.1 z hz
theorem ce:∀ l:List Int,(bj l).Pairwise (·≤·)
 | []=>List.Pairwise.nil
 | x :: r=>gA x (ce r)
theorem iB:∀ {a b:List Int},a.Perm b→a.Pairwise (·≤·)→b.Pairwise (·≤·)→a=b
 | [],b,p,_,_=>(List.Perm.nil_eq p)
 | x :: a,[],p,_,_=>by have:=p.length_eq; simp at this
 | x :: a,y :: b,p,ha,hb=>by
  have hx:x=y:=by
   rw [List.pairwise_cons] at ha hb
   have h1:x∈y :: b:=p.mem_iff.mp (.head _)
   have h2:y∈x :: a:=p.mem_iff.mpr (.head _)
   rcases List.mem_cons.mp h1 with rfl | h1
   ·rfl
   rcases List.mem_cons.mp h2 with h2 | h2
   ·exact h2.symm
   have:=ha.1 y h2
   have:=hb.1 x h1
   omega
  subst hx
  rw [iB ((List.perm_cons x).mp p) (List.pairwise_cons.mp ha).2 (List.pairwise_cons.mp hb).2]
theorem jW {a b:List Int} (p:a.Perm b) (h:a.Pairwise (·≤·)):a=bj b:=iB (p.trans (aS b).symm) h (ce b)
theorem iZ (l:List Int):(bj l).length=l.length:=(aS l).length_eq
section
variable {X:Cx}
def rk (K:PySem.W.Frag):List V→Hp→VK→Prop:=fun xs H Q=>∃ (p:Addr) (ns:List Int),xs=[.ref p]∧SqL K H p (ns.map V.int)∧ns.length<64∧∀ l,H l=none→Q (.ref l) (upd H l (.lst ((bj ns).map V.int)))
theorem d6:bT X (.builtin "sorted") (rk X.K):=by
 intro pins s σ H xs us Q I r h
 obtain ⟨p,ns,rfl,hS,h64,q⟩:=h
 obtain ⟨u,rfl,ru⟩:=dr r
 cases ru
 obtain ⟨its,rv,pl,_⟩:=I.list hS
 have hI:IntsAre its ns:=cY rv
 have hlen:its.length=ns.length:=by have:=rv.length; simp at this; exact this.symm
 refine sorted_ints (l:=p) (vs:=its) (ns:=ns) (isList_of pl) hI (by omega) fun out ns' a1 a2 a3=>?_
 obtain ⟨e,he⟩:=sortedAll_at s.heap its out
 have hl:ns'=bj ns:=jW a2 a3
 subst hl
 refine ⟨.ref (s.heap.objs.size + 1),_,I.laid (a:=s.heap.objs.size + 1) (o:=.lst ((bj ns).map V.int)) (t':=s.toks) (fun _ _ q=>sortedAll_old q) (Nat.le_succ _) ?_,rfl,q _ (I.hok.fresh (Nat.le_succ _))⟩
 refine ⟨Nat.le_of_lt (bY (by rw [List.length_map,iZ]; omega)),out.toList,e,dW a1,?_⟩
 simpa [seqObj] using he
where
 isList_of {h:Heap} {a:Addr} {its:List Value} (pl:PlainL h a its.toArray):h.IsList a its.toArray:=by
  first | exact pl.isList | exact pl.1 | exact pl
theorem dh {pins:List (Addr×Obj)} {σ:St} {H:Hp} {s:Shared} {p:Addr} {xs:List V} (I:Inv X pins σ H s) (h:SqL X.K H p xs):∃ its:List Value,aN xs its∧s.heap.IsList p its.toArray:=by
 obtain ⟨its,rv,⟨o,n,h1,h2,h3,h4⟩,_⟩:=I.list h
 exact ⟨its,rv,o,h1,h2,n,h4⟩
theorem dR (hc:X.calm=true):bT X (.builtin "sum") (fun xs H Q=>∃ (p:Addr) (ns:List Int),xs=[.ref p]∧SqL X.K H p (ns.map V.int)∧Q (.int ns.sum) H):=by
 intro pins s σ H xs us Q I r h
 obtain ⟨p,ns,rfl,hS,q⟩:=h
 obtain ⟨u,rfl,ru⟩:=dr r
 cases ru
 obtain ⟨its,rv,hl⟩:=dh I hS
 have hI₂:IntsAre its ns:=cY rv
 obtain ⟨ys,hys⟩:=hI₂.allInts.items
 have hlY:s.heap.IsList p (intItems ys):=hys ▸ hl
 refine sum_intListG (I.ok.hd hc) hlY fun hp tk₁ tk₂ kept=>?_
 have eY:ns=ys.toList.map (·.1):=by
  rw [← nums_intItems,← hys]; exact Eq.symm (show numsOf its.toArray.toList=ns from hI₂.numsOf)
 have eS:preSum (numAt ys) ys.size=ns.sum:=by rw [preSum_eq,List.take_of_length_le (by simp),eY]
 rw [eS]
 exact ⟨.int ns.sum,H,I.kept kept,⟨tk₂,rfl⟩,q⟩
theorem ip:∀ {bs:List Bool} {us:List Value},aN (bs.map V.bl) us→LSm.BoolsAre us bs
 | [],us,h=>by cases h; exact .nil
 | b :: bs,us,h=>by
  cases h with
  | cons r1 r2=>cases (show _=Value.bool b from r1); exact .cons b (ip r2)
theorem ga (hc:X.calm=true):bT X (.builtin "all") (fun xs H Q=>∃ (p:Addr) (bs:List Bool),xs=[.ref p]∧SqL X.K H p (bs.map V.bl)∧Q (.bl (bs.all id)) H):=by
 intro pins s σ H xs us Q I r h
 obtain ⟨p,bs,rfl,hS,q⟩:=h
 obtain ⟨u,rfl,ru⟩:=dr r
 cases ru
 obtain ⟨its,rv,hl⟩:=dh I hS
 have truths:=ip rv
 have below:p<s.heap.objs.size:=by obtain ⟨_,at_p,_⟩:=hl; exact Heap.lt_size at_p
 refine call_all_walk (wpAny_pyIter_list hl ⟨s.heap.objs.size,[s.heap.objs.size,p],[s.heap.objs.size],its.toArray.size,_,_,fun j=>(bs[j]?).getD true,rfl,Walks.list (A:=X.A.in1) (I.ok.hd hc) _ p (Nat.ne_of_lt below) its.toArray,
  ⟨⟨_,Heap.get?_push_size _ rfl,rfl,rfl⟩,hl.push _⟩,fun j u s₁ Q₁ E₁ at_j want=>?_,fun hp tk₁ kept=>?_⟩)
 ·obtain ⟨b,is_b,rfl⟩:=truths.get j u (by simpa using at_j)
  simp only [is_b,Option.getD_some] at want
  exact wpAny_truthy_bool want
 ·have same:((List.range its.toArray.size).all fun j=>(bs[j]?).getD true)=bs.all id:=by rw [List.size_toArray,truths.length]; exact LSm.range_all bs
  rw [same]
  exact ⟨.bl (bs.all id),H,I.kept (LSm.kept_iter kept),rfl,q⟩
theorem nC (hc:X.calm=true):bT X (.builtin "any") (fun xs H Q=>∃ (p:Addr) (bs:List Bool),xs=[.ref p]∧SqL X.K H p (bs.map V.bl)∧Q (.bl (bs.any id)) H):=by
 intro pins s σ H xs us Q I r h
 obtain ⟨p,bs,rfl,hS,q⟩:=h
 obtain ⟨u,rfl,ru⟩:=dr r
 cases ru
 obtain ⟨its,rv,hl⟩:=dh I hS
 have truths:=ip rv
 have below:p<s.heap.objs.size:=by obtain ⟨_,at_p,_⟩:=hl; exact Heap.lt_size at_p
 refine call_any_walk (wpAny_pyIter_list hl ⟨s.heap.objs.size,[s.heap.objs.size,p],[s.heap.objs.size],its.toArray.size,_,_,fun j=>(bs[j]?).getD false,rfl,Walks.list (A:=X.A.in1) (I.ok.hd hc) _ p (Nat.ne_of_lt below) its.toArray,
  ⟨⟨_,Heap.get?_push_size _ rfl,rfl,rfl⟩,hl.push _⟩,fun j u s₁ Q₁ E₁ at_j want=>?_,fun hp tk₁ kept=>?_⟩)
 ·obtain ⟨b,is_b,rfl⟩:=truths.get j u (by simpa using at_j)
  simp only [is_b,Option.getD_some] at want
  exact wpAny_truthy_bool want
 ·have same:((List.range its.toArray.size).any fun j=>(bs[j]?).getD false)=bs.any id:=by rw [List.size_toArray,truths.length]; exact LSm.range_any bs
  rw [same]
  exact ⟨.bl (bs.any id),H,I.kept (LSm.kept_iter kept),rfl,q⟩
end
theorem bd {G:Hp}:∀ {ns:List Int} {xs:List V},Reps G (ns.map D.int) xs→xs=ns.map V.int
 | [],xs,h=>by rw [List.map_nil,Reps] at h; subst h; rfl
 | n :: r,xs,h=>by rw [List.map_cons,Reps] at h; obtain ⟨v,vs,rfl,h1,h2⟩:=h; rw [ay h1,bd h2]; rfl
theorem eP {G:Hp}:∀ {ns:List Bool} {xs:List V},Reps G (ns.map D.bl) xs→xs=ns.map V.bl
 | [],xs,h=>by rw [List.map_nil,Reps] at h; subst h; rfl
 | n :: r,xs,h=>by rw [List.map_cons,Reps] at h; obtain ⟨v,vs,rfl,h1,h2⟩:=h; rw [cU h1,eP h2]; rfl
def o0:List D→(List D→Prop)→Prop:=fun ds q=>match ds with
 | [.lst xs]=>∃ ns:List Int,xs=ns.map D.int∧ns.length<64∧q ((bj ns).map D.int)
 | _=>False
theorem lK {K:PySem.W.Frag}:fR (rk K) o0:=fun G H xs ds q Q s p hf k=>by
 unfold o0 at hf
 split at hf
 ·obtain ⟨v,rfl,p1⟩:=be p
  obtain ⟨a,xs,rfl,h1,h2⟩:=aJ p1
  obtain ⟨ns,rfl,hl,hq⟩:=hf
  rw [bd h2] at h1
  exact ⟨a,ns,rfl,SqL.of (s _ _ h1),hl,fun l hl=>k _ _ l hq (cn _) hl⟩
 ·exact hf.elim
def fSum:List D→(D→Prop)→Prop:=fun ds q=>match ds with
 | [.lst xs]=>∃ ns:List Int,xs=ns.map D.int∧q (.int ns.sum)
 | _=>False
theorem p9 {K:PySem.W.Frag}:fk (fun xs H Q=>∃ (p:Addr) (ns:List Int),xs=[.ref p]∧SqL K H p (ns.map V.int)∧Q (.int ns.sum) H) fSum:=fun G H xs ds q Q s p hf k=>by
 unfold fSum at hf
 split at hf
 ·obtain ⟨v,rfl,p1⟩:=be p
  obtain ⟨a,xs,rfl,h1,h2⟩:=aJ p1
  obtain ⟨ns,rfl,hq⟩:=hf
  rw [bd h2] at h1
  exact ⟨a,ns,rfl,SqL.of (s _ _ h1),k _ _ hq (bn _)⟩
 ·exact hf.elim
def fAny:List D→(D→Prop)→Prop:=fun ds q=>match ds with
 | [.lst xs]=>∃ bs:List Bool,xs=bs.map D.bl∧q (.bl (bs.any id))
 | _=>False
def fAll:List D→(D→Prop)→Prop:=fun ds q=>match ds with
 | [.lst xs]=>∃ bs:List Bool,xs=bs.map D.bl∧q (.bl (bs.all id))
 | _=>False
theorem dAny {K:PySem.W.Frag}:fk (fun xs H Q=>∃ (p:Addr) (bs:List Bool),xs=[.ref p]∧SqL K H p (bs.map V.bl)∧Q (.bl (bs.any id)) H) fAny:=fun G H xs ds q Q s p hf k=>by
 unfold fAny at hf
 split at hf
 ·obtain ⟨v,rfl,p1⟩:=be p
  obtain ⟨a,xs,rfl,h1,h2⟩:=aJ p1
  obtain ⟨bs,rfl,hq⟩:=hf
  rw [eP h2] at h1
  exact ⟨a,bs,rfl,SqL.of (s _ _ h1),k _ _ hq (cp _)⟩
 ·exact hf.elim
theorem dAll {K:PySem.W.Frag}:fk (fun xs H Q=>∃ (p:Addr) (bs:List Bool),xs=[.ref p]∧SqL K H p (bs.map V.bl)∧Q (.bl (bs.all id)) H) fAll:=fun G H xs ds q Q s p hf k=>by
 unfold fAll at hf
 split at hf
 ·obtain ⟨v,rfl,p1⟩:=be p
  obtain ⟨a,xs,rfl,h1,h2⟩:=aJ p1
  obtain ⟨bs,rfl,hq⟩:=hf
  rw [eP h2] at h1
  exact ⟨a,bs,rfl,SqL.of (s _ _ h1),k _ _ hq (cp _)⟩
 ·exact hf.elim
section
variable {C:Ctx} {ow:List Bool} {G:Hp} {ρ:DSt} {σ:St} {H:Hp} {pd:List (D×V)} {O:Own}
end
section
variable {ow:List Bool} {t:TE} {m:ME}
end
section
variable {X:Cx} {M:Md} {a b c e:Expr} {ma mb mc:ME} {pos pos':Pos} {mr:MA} {es:List Expr}
def mSetN (i c:Nat) (mk m:ME):MS:=fun n ρ=>m ρ fun d ρ1=>imm d=true∧match ρ1[i]? with
 | some (some (.tup es))=>match es[c]? with
  | some (.lst _)=>mk ρ1 fun k ρ2=>match ρ2[i]? with
   | some (some (.tup es))=>match es[c]? with
    | some (.lst ds)=>match k with
     | .int j=>match ixN ds.length j with
      | some p=>n.nx (ρ2.set i (some (.tup (es.set c (.lst (ds.set p d))))))
      | none=>False
     | _=>False
    | _=>False
   | _=>False
  | _=>False
 | _=>False
def mLRng (m:ME):ME:=fun ρ q=>m ρ fun d ρ'=>match d with
 | .int j=>(0≤j∧j≤1000)∧q (.lst (dE 0 j.toNat)) ρ'
 | _=>False
theorem qa {G:Hp} (n:Nat):Reps G (dE 0 n) ((iL 0 n).map V.int):=by
 have:dE 0 n=(iL 0 n).map D.int:=by unfold dE iL; rw [List.map_map]; rfl
 rw [this]; exact cn _
theorem aO (ns:List Int):imms (ns.map D.int)=true:=by
 induction ns with
 | nil=>rfl
 | cons n r ih=>simp only [List.map,imms,imm,ih]; rfl
theorem oW (n:Nat):imms (dE 0 n)=true:=by
 have:dE 0 n=(iL 0 n).map D.int:=by unfold dE iL; rw [List.map_map]; rfl
 rw [this]; exact aO _
theorem sB {ow:List Bool} {x y:Str} {p1 p2 pos2:Pos} (hc:X.calm=true) (hgl:Gl X x) (hml:X.mg x=none) (hvl:bootBuiltins x=some (.type "list")) (hgr:Gl X y) (hmr:X.mg y=none) (hvr:bootBuiltins y=some (.type "range")) (ha:QE X ow a ma)
 (hn1:x ≠ "__name__":=by decide) (hd1:(x == ("__debug__":Str))=false:=by decide) (hn2:y ≠ "__name__":=by decide) (hd2:(y == ("__debug__":Str))=false:=by decide)
 (hs1:starEach [a] X.env=[(false,eval a X.env)]:=by rfl) (hs2:starEach [.Call (.Name y p2) [a] [] pos2] X.env=[(false,eval (.Call (.Name y p2) [a] [] pos2) X.env)]:=by rfl) :
 QF X ow (.Call (.Name x p1) [.Call (.Name y p2) [a] [] pos2] [] pos) (mLRng ma):=by
 obtain ⟨t,p,s⟩:=ha
 refine ⟨_,dP (iH hc) hgl hml hvl (bq (dP kK hgr hmr hvr (bq p cx hs1) hn2 hd2 hs1 (by rfl)) cx hs2) hn1 hd1 hs2 (by rfl),fun C G ρ σ H pd q Q r hm k=>s C G ρ σ H pd _ _ r hm fun d ρ' v G' H' hq z kp r' p=>?_⟩
 cases d with
 | int j =>
  rw [ay p]
  refine ⟨j,rfl,fun b hb=>⟨b,j,rfl,aG,hq.1.1,hq.1.2,fun l hl=>?_⟩⟩
  obtain ⟨O,r'⟩:=r'
  obtain ⟨r2,z2⟩:=r'.new hb (.rng 0 j)
  exact k _ ρ' _ _ _ hq.2 (z.trans z2) kp (r2.newL hl (oW _) (qa _))
 | _=>exact hq.elim
end
def mCut (m:MS):MS:=fun n ρ=>∃ I:DSt→Prop,m { n with nx:=I } ρ∧∀ ρ',I ρ'→n.nx ρ'
theorem uL {X:Cx} {M:Md} {st:Stmt} {m:MS} (h:QS X M st m):QS X M st (mCut m):=by
 obtain ⟨t,p,s⟩:=h
 refine ⟨_,p,fun C G ρ σ H n D hm hn r h k=>?_⟩
 obtain ⟨I,h1,h2⟩:=h
 exact s C G ρ σ H _ D hm hn r h1 ⟨fun ρ' σ' G' H' hi=>k.nx ρ' σ' G' H' (h2 ρ' hi),k.bk,k.ct,k.rt⟩
mutual
theorem Sep.strip {G H:Hp} {O O':Own} {i i':Nat} {sfx:List Nat} :
 ∀ (d:D) (π:List Nat) (v:V),(∀ a τ,O a=some (i,(τ++π)++sfx)→O' a=some (i',τ++π))→Sep G H O i d (π++sfx) v→Sep G H O' i' d π v
 | .non,_,_,_,h=>by rw [Sep] at *; exact h
 | .bl b,_,_,_,h=>by rw [Sep] at *; exact h
 | .int n,_,_,_,h=>by rw [Sep] at *; exact h
 | .str x,_,_,_,h=>by rw [Sep] at *; exact h
 | .tup ds,π,v,hO,h=>by
  rw [Sep] at *
  obtain ⟨a,xs,h1,h2,h3⟩:=h
  exact ⟨a,xs,h1,h2,Seps.strip ds 0 π xs (fun a τ=>hO a τ) h3⟩
 | .lst ds,π,v,hO,h=>by
  rw [Sep] at *
  obtain ⟨a,xs,h1,h2,h3,h4⟩:=h
  exact ⟨a,xs,h1,hO a [] h2,h3,Seps.strip ds 0 π xs (fun a τ=>hO a τ) h4⟩
 | .dic ks ds,π,v,hO,h=>by
  rw [Sep] at *
  obtain ⟨a,xs,h1,h2,h3,h5,h4⟩:=h
  exact ⟨a,xs,h1,hO a [] h2,h3,h5,Seps.strip ds 0 π xs (fun a τ=>hO a τ) h4⟩
 | .dct,_,_,_,h=>by rw [Sep] at h; exact h.elim
 | .scr _ _,_,_,_,h=>by rw [Sep] at h; exact h.elim
 | .ext _,_,_,_,h=>by rw [Sep] at h; exact h.elim
theorem Seps.strip {G H:Hp} {O O':Own} {i i':Nat} {sfx:List Nat} :
 ∀ (ds:List D) (k:Nat) (π:List Nat) (xs:List V),(∀ a τ,O a=some (i,(τ++π)++sfx)→O' a=some (i',τ++π))→Seps G H O i ds k (π++sfx) xs→Seps G H O' i' ds k π xs
 | [],_,_,_,_,h=>by rw [Seps] at *; exact h
 | d :: ds,k,π,xs,hO,h=>by
  rw [Seps] at *
  obtain ⟨v,vs,h1,h2,h3⟩:=h
  refine ⟨v,vs,h1,Sep.strip d (k :: π) v (fun a τ e=>?_) h2,Seps.strip ds (k + 1) π vs hO h3⟩
  have e' : τ++k :: π=(τ++[k])++π:=by simp
  rw [e'] at e ⊢
  exact hO a (τ++[k]) e
end
section
variable {C:Ctx} {ow:List Bool} {G:Hp} {ρ:DSt} {σ:St} {H:Hp} {pd:List (D×V)} {O:Own}
theorem RO.split {ds:List D} {v:V} (h:RO C ow G ρ σ H ((.tup ds,v) :: pd) O) (hn:C.np≤pd.length):∃ a xs,v = .ref a∧G a=some (.tup xs)∧xs.length=ds.length∧R C ow G ρ σ H (ds.zip xs++pd):=by
 obtain ⟨s,pn⟩:=h.pn
 rw [Sep] at s
 obtain ⟨a,xs,rfl,hG,hs⟩:=s
 have hl:=hs.length
 refine ⟨a,xs,rfl,hG,hl,lab (fun l π=>if l=2 * pd.length + 1 then (2 * (pd.length + (ds.length - 1 - π.getLastD 0)) + 1,π.dropLast) else (l,π)) O,h.len,h.gh,h.g0,h.gn,?_,h.cok,h.fr,h.ft,h.al,h.mp,?_,?_,by simp; omega⟩
 ·intro b m e
  obtain ⟨l,π,e1,rfl⟩:=h_ e
  obtain ⟨q1,q2,q3⟩:=h.og b _ e1
  refine ⟨q1,q2,?_⟩
  split
  ·rename_i z
   rcases q3 with q3 | ⟨_,q3⟩
   ·exact .inl q3
   ·rcases h.cok _ _ _ q3 with ⟨k,_,q4,_⟩ | ⟨k,q4,q5⟩
    ·exact absurd (q4.symm.trans z) cM
    ·omega
  ·exact q3
 ·intro j e q
  obtain ⟨u,h1,h2⟩:=h.sl j e q
  refine ⟨u,h1,?_⟩
  split at h2
  ·rename_i c; rw [if_pos c]; exact h2.keep (fun _ _ z=>z) fun a τ q=>⟨by rw [bR q,if_neg cM],rfl⟩
  ·rename_i c; rw [if_neg c]; exact h2
 ·have old:∀ (O':Own),(∀ b j π,j<pd.length→O b=some (2 * j + 1,π)→O' b=some (2 * j + 1,π))→bZ G H O' pd:=fun O' hO=>bZ.keep (fun _ _ z=>z) (fun b j π hj q=>⟨hO b j π hj q,rfl⟩) pn
  have key:∀ (ds0:List D) (k:Nat) (xs0:List V) (O':Own),k + ds0.length=ds.length→Seps G H O (2 * pd.length + 1) ds0 k [] xs0 →
   (∀ b j π,j<pd.length→O b=some (2 * j + 1,π)→O' b=some (2 * j + 1,π))→(∀ b τ k',O b=some (2 * pd.length + 1,τ++[k'])→O' b=some (2 * (pd.length + (ds.length - 1 - k')) + 1,τ))→bZ G H O' (ds0.zip xs0++pd):=by
   intro ds0
   induction ds0 with
   | nil=>intro k xs0 O' _ _ ho _; exact old O' ho
   | cons d0 r ih =>
    intro k xs0 O' hk hh ho hnw
    rw [Seps] at hh
    obtain ⟨w,ws,rfl,w1,w2⟩:=hh
    have hwl:=w2.length
    refine ⟨?_,ih (k + 1) ws O' (by simp at hk; omega) w2 ho hnw⟩
    have e:(List.zip r ws++pd).length=pd.length + (ds.length - 1 - k):=by simp at hk ⊢; omega
    show Sep G H O' (2 * (List.zip r ws++pd).length + 1) d0 [] w
    rw [e]
    exact Sep.strip (sfx:=[k]) d0 [] w (fun b τ q=>by simpa using hnw b τ k (by simpa using q)) w1
  refine key ds 0 xs _ (by omega) hs (fun b j π hj q=>by rw [bR q,if_neg (by omega)]) (fun b τ k' q=>?_)
  rw [bR q,if_pos rfl]
  simp
end
def SGF (M:Md) (g:TGs) (m:MGs):Prop:=∀ (C:Ctx) (G:Hp) (ρ:DSt) (σ:St) (H:Hp) (T pd:List (D×V)) (k:DSt→Prop) (K:St→Hp→Prop),gE C M.mu→C.np≤pd.length→R C M.ow G ρ σ H (T++pd)→m (T.map (·.1)) ρ k →
 (∀ ρ' σ' G',k ρ'→aI G G'→R C M.ow G' ρ' σ' H pd→K σ' H)→g (T.map (·.2)) σ H K
structure QGF (X:Cx) (M:Md) (e:List Expr) (m:MGs):Prop where
 ex:∃ t,PGs X e t∧SGF M t m
section
variable {X:Cx} {M:Md} {a b c e:Expr} {ma mb mc:ME} {pos pos':Pos} {mr:MA} {es:List Expr} {mgs:MGs}
theorem mU:QGF X M [] mO:=⟨_,jk,fun C G ρ σ H T pd k K hm hn r h kk=>by
 cases T with
 | nil=>exact ⟨rfl,kk _ _ G h (aI.refl _) r⟩
 | cons _ _=>exact h.elim⟩
theorem ng {i:Nat} {x:Str} (hN:X.N.Nodup) (hi:X.N[i]? = some x) (hx:Loc X.env.scope x) (h2:QGF X M es mgs) (ho:M.ow[i]? = some true:=by decide) (hu:M.mu[i]?≠some true:=by decide) (hf:X.fn x=true∨X.env.scope.names.lookup x=some .local:=by first | exact .inl rfl | exact .inr rfl | assumption)
 (hs:(assignEach (.Name x pos :: es) X.env).map (·.2)=assign (.Name x pos) X.env :: (assignEach es X.env).map (·.2):=by rfl):QGF X M (.Name x pos :: es) (g_ (f8 i) mgs):=by
 obtain ⟨t2,p2,s2⟩:=h2
 refine ⟨_,eH (aP hN hi hx hf) p2 hs,fun C G ρ σ H T pd k K hm hn r h kk=>?_⟩
 cases T with
 | nil=>exact h.elim
 | cons x T =>
  obtain ⟨O,r⟩:=r
  exact ⟨_,_,rfl,s2 C G _ _ H T pd k K hm hn (r.setO ho (hm.no hu) (by simp; omega)) h kk⟩
theorem qE {i:Nat} {x:Str} (hN:X.N.Nodup) (hi:X.N[i]? = some x) (hx:Loc X.env.scope x) (h2:QGF X M es mgs) (ho:M.ow[i]?≠some true:=by decide) (hu:M.mu[i]?≠some true:=by decide) (hf:X.fn x=true∨X.env.scope.names.lookup x=some .local:=by first | exact .inl rfl | exact .inr rfl | assumption)
 (hs:(assignEach (.Name x pos :: es) X.env).map (·.2)=assign (.Name x pos) X.env :: (assignEach es X.env).map (·.2):=by rfl):QGF X M (.Name x pos :: es) (g_ (f8 i) mgs):=by
 obtain ⟨t2,p2,s2⟩:=h2
 refine ⟨_,eH (aP hN hi hx hf) p2 hs,fun C G ρ σ H T pd k K hm hn r h kk=>?_⟩
 cases T with
 | nil=>exact h.elim
 | cons x T =>
  obtain ⟨O,r⟩:=r
  obtain ⟨G2,z2,⟨O2,r2⟩,p⟩:=r.share (by simp; omega)
  exact ⟨_,_,rfl,s2 C G2 _ _ H T pd k K hm hn ⟨O2,r2.setS ho (hm.no hu) p⟩ h fun ρ' σ' G' hk z r'=>kk ρ' σ' G' hk (z2.trans z) r'⟩
theorem mm {kk:Nat} {n:Nat} {tpos:Pos} (hc:X.calm=true) (he:QM X M e ma) (hg:QGF X M es mgs) (ht:i5 n mgs)
 (hn:(assignEach es X.env).length=n:=by rfl) (hst:(assignEach es X.env).findIdx? (·.1)=none:=by rfl)
 (hs:swapsWithSole [.Tuple es kk tpos] e pos.line X.env=pure false:=by rfl) (hw:swappedStores [.Tuple es kk tpos] e X.env=pure none:=by rfl)
 (h1:(assignEach [.Tuple es kk tpos] X.env).map (·.2)=[assign (.Tuple es kk tpos) X.env]:=by rfl):QS X M (.Assign [.Tuple es kk tpos] e pos) (mAsg ma (qg mgs)):=by
 obtain ⟨t,p,s⟩:=he; obtain ⟨t2,p2,s2⟩:=hg
 refine ⟨_,lX p (li hc p2 hn hst) hs hw h1,fun C G ρ σ H n D hm hn r h k=>s C G ρ σ H [] _ _ hm r h fun d ρ' v G' H' hq z r'=>?_⟩
 cases d with
 | tup ds =>
  obtain ⟨O,r'⟩:=r'
  obtain ⟨a,xs,rfl,h1,h2,r2⟩:=r'.split (by rw [hn]; exact Nat.zero_le _)
  have hl:=ht _ _ _ hq
  have e1:(ds.zip xs).map (·.1)=ds:=List.map_fst_zip (by omega)
  have e2:(ds.zip xs).map (·.2)=xs:=List.map_snd_zip (by omega)
  refine ⟨a,xs,rfl,SqT.of (r2.gh _ _ h1),by omega,?_⟩
  have:=s2 C G' ρ' σ H' (ds.zip xs) [] n.nx D.nx hm (by rw [hn]; exact Nat.zero_le _) r2 (by rw [e1]; exact hq) fun ρ3 σ3 G3 h3 z3 r3=>k.nx ρ3 σ3 G3 H' h3 (z.trans z3) r3
  rw [e2] at this
  exact this
 | _=>exact hq.elim
end
def rGetL (K:PySem.W.Frag):V→V→Hp→VK→Prop:=fun x y H Q=>∃ p xs i v,x = .ref p∧y = .int i∧SqL K H p xs∧0≤i∧atI xs i=some v∧Q v H
theorem jY {X:Cx}:PGet X (rGetL X.K):=fun pins s σ H o i ov iv Q I ro ri h=>by
 obtain ⟨p,xs,k,v,rfl,rfl,hS,h0,ha,q⟩:=h
 cases ro
 obtain ⟨t,rfl⟩:=ri
 obtain ⟨its,r,pl,hz⟩:=I.list hS
 obtain ⟨j,h1,h2,h3,h4,h5⟩:=eX ha
 obtain ⟨w,ew,rw'⟩:=r.get h2
 have hn:=gj
 have hj:k.toNat=j:=by
  rw [seqIndex_of h0 h5] at h1
  exact Option.some.inj h1
 exact wpAny_getItem_list pl.isList h0 (by omega) (by rw [hj]; simpa using ew) ⟨v,H,I,rw',q⟩
section
variable {X:Cx} {M:Md} {a b c e:Expr} {ma mb mc:ME} {pos pos':Pos}
def t3 (i:Nat) (mk m:ME):MS:=fun n ρ=>match ρ[i]? with
 | some (some (.lst _))=>mk ρ fun k ρ1=>match k with
  | .int j=>match ρ1[i]? with
   | some (some (.lst ds))=>0≤j∧match atI ds j with
    | some (.int x)=>m ρ1 fun d ρ2=>match d with
     | .int y=>match ρ2[i]? with
      | some (some (.lst ds2))=>match ixN ds2.length j with
       | some p=>n.nx (ρ2.set i (some (.lst (ds2.set p (.int (x + y))))))
       | none=>False
      | _=>False
     | _=>False
    | _=>False
   | _=>False
  | _=>False
 | _=>False
theorem sR {i:Nat} {x:Str} {npos spos:Pos} (hN:X.N[i]? = some x) (he:QE X M.ow e ma) (hk:QE X M.ow b mb) (ho:M.ow[i]? = some true:=by decide)
 (hv:Vis X.env.scope x:=by first | exact Or.inl rfl | exact Or.inr (Or.inl rfl) | exact Or.inr (Or.inr rfl)) (hd:(x == ("__debug__":Str))=false:=by decide) (hcd:(x == ("__classdict__":Str))=false:=by decide)
 (ha:∀ ov iv new,augStore b ov iv new=(do holding [new,ov,iv] (setItem ov iv new); release [new,ov,iv] []; pure .next):=by intros; rfl) :
 QS X M (.AugAssign (.Subscript (.Name x npos) b spos) .Add e pos) (t3 i mb ma):=by
 obtain ⟨t,p,s⟩:=he; obtain ⟨t2,p2,s2⟩:=hk
 refine ⟨_,my (dC hN hv hd hcd) p2 jY p wC hZ ha,fun C G ρ σ H n D hm hn r h k=>?_⟩
 unfold t3 at h
 split at h
 ·rename_i ds0 e0
  obtain ⟨O0,ro⟩:=r
  obtain ⟨a,xs0,hu,g0,_,_⟩:=ro.write e0 ho
  refine ⟨.ref a,hu,?_⟩
  refine s2 C G ρ σ H [] _ _ ⟨O0,ro⟩ h fun dk ρ1 jv G1 H1 hq1 z1 kp1 r1 pj=>?_
  cases dk with
  | int j =>
   dsimp only at hq1
   split at hq1
   ·rename_i ds1 e1
    obtain ⟨j0,hq1⟩:=hq1
    obtain ⟨O1,r1⟩:=r1
    obtain ⟨a1,xs1,hu1,g1,g2,_⟩:=r1.write e1 ho
    rw [hu] at hu1; cases hu1
    split at hq1
    ·rename_i x ex
     have exx:=ex
     obtain ⟨jj,q1,q2,q3,q4,q5⟩:=eX ex
     obtain ⟨v,w1,w2⟩:=g2.at q2
     have hv:atI xs1 j=some v:=by
      unfold atI at ex ⊢
      rw [g2.length]
      cases z:ixN ds1.length j with
      | none=>rw [z] at ex; cases ex
      | some j' =>
       have:j'=jj:=by
        have:=(gP z).1; rw [this] at q1; exact Option.some.inj q1
       subst this; exact w1
     have hv2:v = .int x:=by rw [Sep] at w2; exact w2
     subst hv2
     refine ⟨a,xs1,j,.int x,rfl,ay pj,SqL.of g1,j0,hv,?_⟩
     refine s C G1 ρ1 σ H1 [] _ _ ⟨O1,r1⟩ hq1 fun dy ρ2 yv G2 H2 hq2 z2 kp2 r2 py=>?_
     cases dy with
     | int y =>
      dsimp only at hq2
      split at hq2
      ·rename_i ds2 e2
       split at hq2
       ·rename_i pl e3
        obtain ⟨O2,r2⟩:=r2
        obtain ⟨a2,xs2,f1,f2,f3,f4⟩:=r2.write e2 ho
        rw [hu] at f1; cases f1
        refine ⟨x,y,rfl,ay py,a,xs2,j,pl,rfl,ay pj,f2,by rw [f3.length]; exact e3,?_⟩
        exact k.nx _ _ G2 _ hq2 (z1.trans z2) ⟨O2,f4 _ _ (f3.set (by rw [Sep]))⟩
       ·exact hq2.elim
      ·exact hq2.elim
     | _=>exact hq2.elim
    ·exact hq1.elim
   ·exact hq1.elim
  | _=>exact hq1.elim
 ·exact h.elim
end
def t7 (g:MG) (mt:MT) (me:ME) (ρ0:DSt) (k0:Nat) (ds:List D) (d0:D) (K:List D→D→Prop):Prop:=∃ I:Nat→List D→D→Prop,I 0 [] d0 ∧
 (∀ i x es d,ds[i]? = some x→I i es d→g x (ρ0.set k0 (some d)) fun ρ2=>mt ρ2 fun b ρ3=>if b=true then me ρ3 fun y ρ4=>(match ρ4[k0]? with | some (some d')=>I (i + 1) (es++[y]) d' | _=>False) else match ρ3[k0]? with | some (some d')=>I (i + 1) es d' | _=>False) ∧
 ∀ es d,I ds.length es d→K es d
def rP (mi:MA) (g:MG) (mt:MT) (me:ME) (k:Nat) (js:List Nat) (j0 k0:Nat):ME:=fun ρ q=>mi ρ fun ds ρ1=>ds.length≤1000∧match ρ1[j0]? with
 | some (some d0)=>t7 g mt me (eA k js ρ1) k0 ds d0 fun es d=>imms es=true∧q (.lst es) (ρ1.set j0 (some d))
 | _=>False
def owM (k0:Nat):List Bool:=List.replicate k0 false++[true]
theorem fe {k0 i:Nat}:(owM k0)[i]? = some true↔i=k0:=by
 unfold owM
 by_cases h:i<k0
 ·rw [List.getElem?_append_left (by simpa using h),List.getElem?_replicate,if_pos h]
  constructor
  ·intro z; cases z
  ·intro z; omega
 ·rw [List.getElem?_append_right (by simpa using h),List.length_replicate]
  cases e:i - k0 with
  | zero=>simp; omega
  | succ m=>simp; omega
def muM (k0:Nat) (v:V):List (Option V):=List.replicate k0 none++[some v]
theorem md {k0 i:Nat} {v w:V} (h:(muM k0 v)[i]? = some (some w)):i=k0∧w=v:=by
 unfold muM at h
 by_cases c:i<k0
 ·rw [List.getElem?_append_left (by simpa using c),List.getElem?_replicate,if_pos c] at h; cases h
 ·rw [List.getElem?_append_right (by simpa using c),List.length_replicate] at h
  cases e:i - k0 with
  | zero=>rw [e] at h; simp at h; exact ⟨by omega,h.symm⟩
  | succ m=>rw [e] at h; simp at h
theorem uG (k0:Nat) (v:V):(muM k0 v)[k0]? = some (some v):=by unfold muM; rw [List.getElem?_append_right (by simp)]; simp
theorem rS {k:Nat} {js:List Nat} {ρ:DSt} {i:Nat} {d:D} (e:(eA k js ρ)[i]? = some (some d)):k≤i∧∃ j,js[i - k]? = some j∧ρ[j]? = some (some d):=by
 unfold eA at e
 by_cases c:i<k
 ·rw [List.getElem?_append_left (by simpa using c),List.getElem?_replicate] at e
  split at e <;> cases e
 ·rw [List.getElem?_append_right (by simpa using c),List.getElem?_map] at e
  simp only [List.length_replicate] at e
  refine ⟨by omega,?_⟩
  cases z:js[i - k]? with
  | none=>rw [z] at e; cases e
  | some j =>
   rw [z] at e
   have e':(ρ[j]?).getD none=some d:=Option.some.inj e
   refine ⟨j,rfl,?_⟩
   cases w : ρ[j]? with
   | none=>rw [w] at e'; cases e'
   | some o=>rw [w] at e'; exact congrArg some e'
theorem nu {own:List Str} {js:List Nat} {σ:St} {i j:Nat} {v:V} (hi:own.length≤i) (hj:js[i - own.length]? = some j) (hv : σ[j]? = some (some v)):(bN own js σ)[i]? = some (some v):=by
 unfold bN
 rw [List.getElem?_append_right (by simpa using hi),List.getElem?_map]
 simp only [List.length_map]
 rw [hj,show (some j).map _=some ((σ[j]?).getD none) from rfl,hv]; rfl
structure CGM (k0 n:Nat) (g:TG) (m:MG):Prop where
 sg:SG ⟨owM k0,owM k0,false⟩ g m
 kp:tW n g
 mn:MonG g
theorem j5 {k0 n:Nat} (i:Nat) (h:i<n:=by decide) (hk:n≤k0:=by decide):CGM k0 n (hU i) (f8 i) :=
 ⟨fun C G ρ σ H pd d v k K hm r p hh kk=>by
  have hn:(owM k0)[i]?≠some true:=fun z=>by have:=fe.mp z; omega
  obtain ⟨O,r⟩:=r; exact kk _ _ hh ⟨O,r.setS hn (hm.no hn) p⟩,
  fun σ0 h0 σ x H k hk hg=>⟨f6 hk (h0 i h),hg⟩,fun x σ H k k' hk h=>hk _ _ h⟩
theorem km {ow:List Bool} {J:It} {g:TG} {mg:MG} {tt:TT} {mt:MT} {te:TE} {me:ME} {C:Ctx} {G:Hp} {ρ:DSt} {σ:St} {H:Hp} {pd:List (D×V)} {ds:List D} {own:List Str} {js:List Nat} {j0 k0:Nat} {d0:D} {K:List D→D→Prop} {Z:List V→Hp→Prop}
 (r:R C ow G ρ σ H pd) (ho:ow[j0]? = some true) (hk0:own.length≤k0) (hjk:js[k0 - own.length]? = some j0) (hj:∀ (i j:Nat),js[i]? = some j→i≠k0 - own.length→ow[j]?≠some true) (he : ρ[j0]? = some (some d0)) (jo:jL J G ds) (cg:CGM k0 own.length g mg) (st:STe (owM k0) tt mt) (se:SE (owM k0) te me)
 (hl:ds.length≤1000) (h:t7 mg mt me (eA own.length js ρ) k0 ds d0 K)
 (k:∀ es d vs G' H',K es d→aI G G'→R C ow G' (ρ.set j0 (some d)) σ H' pd→Reps G' es vs→vs.length≤1000→Z vs H'):mG J g tt te (bN own js σ) H Z:=by
 obtain ⟨O,ro⟩:=r
 obtain ⟨v0,hv0,sv0⟩:=ro.sl j0 d0 he
 rw [if_pos ho] at sv0
 let fin:Nat→Option Nat:=fun l=>if l=2 * j0 then some (2 * k0) else none
 let fbk:Nat→Option Nat:=fun l=>if l=2 * k0 then some (2 * j0) else none
 let C1:Ctx:=⟨G,H,cy fin O,muM k0 v0,0⟩
 let ρ0:=eA own.length js ρ
 have s0k:(bN own js σ)[k0]? = some (some v0):=nu hk0 hjk hv0
 have r0l:k0<ρ0.length:=by
  have:k0 - own.length<js.length:=(List.getElem?_eq_some_iff.mp hjk).1
  show k0<(eA own.length js ρ).length
  unfold eA; simp; omega
 have fino:∀ l l',fin l=some l'→l=2 * j0∧l'=2 * k0:=fun l l' e=>by
  change (if l=2 * j0 then _ else _)=_ at e
  split at e
  ·rename_i c; exact ⟨c,(Option.some.inj e).symm⟩
  ·cases e
 have finj:fin (2 * j0)=some (2 * k0):=by show (if _ then _ else _)=_; rw [if_pos rfl]
 -- the inner state,by the owned slot's value
 have inner:∀ {G':Hp} {H':Hp} {O':Own} {d:D},aI G G'→aI G' H'→(∀ a o,G' a=some o→G a=some o∨H a=none)→(∀ a l,O' a=some l→G' a=none∧(∃ xs:WrO,H' a=some xs.ho)∧Nw C1 a l.1) →
  (∀ a o,H a=some o→cy fin O a=none→NT o→H' a=some o)→(∀ a ps q,H' a=some (.tbl ps q)→G' a=none)→(∀ a,H' a=none→H a=none)→Sep G' H' O' (2 * k0) d [] v0→RO C1 (owM k0) G' (ρ0.set k0 (some d)) (bN own js σ) H' [] O':=by
  intro G' H' O' d z gh gn og fr ft al sp
  refine ⟨by rw [List.length_set]; show (eA own.length js ρ).length=_; unfold eA bN; simp,gh,z,gn,og,?_,fr,ft,al,?_,?_,trivial,Nat.le_refl _⟩
  ·intro a l π e
   obtain ⟨l0,e1,e2⟩:=fb e
   obtain ⟨_,rfl⟩:=fino _ _ e2
   exact .inl ⟨k0,v0,rfl,uG k0 v0⟩
  ·intro i w e
   obtain ⟨rfl,rfl⟩:=md e
   exact s0k
  ·intro i d' e
   rcases eK e with ⟨rfl,e'⟩ | ⟨hne,e'⟩
   ·cases e'
    exact ⟨v0,s0k,by rw [if_pos (fe.mpr rfl)]; exact sp⟩
   ·obtain ⟨hi,j,h1,h2⟩:=rS e'
    obtain ⟨v,g1,g2⟩:=ro.sl j d' h2
    rw [if_neg (hj _ j h1 (by omega))] at g2
    exact ⟨v,nu hi h1 g1,by rw [if_neg (fun zz=>hne (fe.mp zz))]; exact g2.mono z⟩
 have og1:∀ a l,cy fin O a=some l→G a=none∧(∃ xs:WrO,H a=some xs.ho)∧Nw C1 a l.1:=fun a l e=>by
  obtain ⟨l',π⟩:=l
  obtain ⟨l0,e1,e2⟩:=fb e
  obtain ⟨q1,q2,_⟩:=ro.og a _ e1
  exact ⟨q1,q2,.inr ⟨π,e⟩⟩
 have start:R C1 (owM k0) G (ρ0.set k0 (some d0)) (bN own js σ) H []:=⟨_,inner (aI.refl _) ro.gh (fun _ _ e=>.inl e) og1 (fun _ _ e _ _=>e) ro.ft (fun _ e=>e) (sv0.keep (fun _ _ z=>z) fun a τ q=>⟨l8 q finj,rfl⟩)⟩
 obtain ⟨I,i0,turn,fini⟩:=h
 have hmu:gE C1 (owM k0):=fun i v e=>by obtain ⟨rfl,_⟩:=md e; exact fe.mpr rfl
 refine ⟨fun i m acc H'=>m=ds.length - i∧i≤ds.length∧acc.length≤i∧∃ G' es d,aI G G'∧R C1 (owM k0) G' (ρ0.set k0 (some d)) (bN own js σ) H' []∧Reps G' es acc∧I i es d,⟨_,rfl,Nat.zero_le _,Nat.le_refl _,G,[],d0,aI.refl _,start,bz,i0⟩,?_⟩
 rintro i m acc H' ⟨rfl,hi,ha,G',es,d,z,r',pa,w⟩
 obtain ⟨sp,go⟩:=jo C1 (owM k0) G' _ _ H' [] i z r'
 by_cases hlt:i<ds.length
 ·obtain ⟨g1,g2⟩:=go ds[i] (List.getElem?_eq_getElem hlt)
  refine .inr ⟨g1,bY (by omega),fun acc' H2=>acc'.length≤i + 1∧∃ G2 es2 d2,aI G G2∧R C1 (owM k0) G2 (ρ0.set k0 (some d2)) (bN own js σ) H2 []∧Reps G2 es2 acc'∧I (i + 1) es2 d2,fun acc' H2 h=>⟨ds.length - (i + 1),by omega,rfl,hlt,h.1,h.2⟩,fun x H1 hy=>?_⟩
  obtain ⟨G1,z1,r1,p1⟩:=g2 x H1 hy
  have step1:=cg.sg C1 G1 _ _ H1 [] ds[i] x _ (fun σ2 H2=>∃ ρ2,(mt ρ2 fun b ρ3=>if b=true then me ρ3 fun y ρ4=>(match ρ4[k0]? with | some (some d')=>I (i + 1) (es++[y]) d' | _=>False) else match ρ3[k0]? with | some (some d')=>I (i + 1) es d' | _=>False)∧R C1 (owM k0) G1 ρ2 σ2 H2 []) hmu r1 p1 (turn i ds[i] es d (List.getElem?_eq_getElem hlt) w) (fun ρ2 σ2 h2 r2=>⟨ρ2,h2,r2⟩)
  refine cg.mn _ _ _ _ _ ?_ (cg.kp (bN own js σ) gg (bN own js σ) x H1 _ (dX _) step1)
  rintro σ2 H2 ⟨hkp,ρ2,h2,r2⟩
  refine ⟨hkp,st C1 G1 ρ2 σ2 H2 [] _ _ r2 h2 fun b ρ3 G3 H3 h3 z3 kp3 r3=>?_⟩
  have bk:∀ {G4:Hp} {ρ4:DSt} {H4:Hp} {d':D},ρ4[k0]? = some (some d')→R C1 (owM k0) G4 ρ4 σ2 H4 []→R C1 (owM k0) G4 (ρ0.set k0 (some d')) (bN own js σ) H4 []:=fun e4 ⟨O4,r4⟩=>by
   obtain ⟨v,q1,q2⟩:=r4.sl k0 _ e4
   rw [if_pos (fe.mpr rfl)] at q2
   rw [eM hkp k0 v0 s0k] at q1
   cases q1
   exact ⟨O4,inner r4.g0 r4.gh r4.gn r4.og r4.fr r4.ft r4.al q2⟩
  cases b with
  | true =>
   rw [if_pos rfl] at h3 ⊢
   refine se C1 G3 ρ3 σ2 H3 [] _ _ r3 h3 fun y ρ4 v G4 H4 h4 z4 kp4 r4 p4=>?_
   split at h4
   ·rename_i d' e4
    exact ⟨by simp; omega,G4,es++[y],d',z.trans (z1.trans (z3.trans z4)),bk e4 r4,dO (Reps.mono (z1.trans (z3.trans z4)) _ _ pa) (bi p4 bz),h4⟩
   ·exact h4.elim
  | false =>
   rw [if_neg (by decide)] at h3 ⊢
   split at h3
   ·rename_i d' e4
    exact ⟨by omega,G3,es,d',z.trans (z1.trans z3),bk e4 r3,Reps.mono (z1.trans z3) _ _ pa,h3⟩
   ·exact h3.elim
 ·have e:i=ds.length:=by omega
  subst e
  refine .inl ⟨sp (Nat.le_refl _),dA (by omega),?_⟩
  obtain ⟨O2,r2⟩:=r'
  refine k es d acc G' H' (fini es d w) z ⟨nQ fin fbk O O2,?_⟩ pa (by omega)
  refine ro.out (vs:=[]) r2 ?_ (by rw [List.length_set]; exact ro.len) ro.np ?_ ?_ fun O3 h1 h2 ts=>?_
  ·intro l0 l' l e1 e2
   obtain ⟨rfl,rfl⟩:=fino _ _ e1
   change (if 2 * k0=2 * k0 then _ else _)=_ at e2
   rw [if_pos rfl] at e2
   exact (Option.some.inj e2).symm
  ·intro i d' c e
   rcases eK e with ⟨rfl,_⟩ | ⟨_,e'⟩
   ·exact absurd ho c
   ·exact e'
  ·intro i d' c e
   rcases eK e with ⟨rfl,e'⟩ | ⟨hne,e'⟩
   ·cases e'
    exact .inr ⟨k0,v0,by show (if _ then _ else _)=_; rw [if_pos rfl],fe.mpr rfl,by rw [List.getElem?_set_self r0l],hv0,s0k⟩
   ·exact .inl ⟨by show (if _ then _ else _)=_; rw [if_neg (by omega)],e'⟩
  ·exact bZ.keep ts (fun a j π hj e=>h1 a _ _ e (by show (if _ then _ else _)=_; rw [if_neg (by omega)])) ro.pn
section
variable {X:Cx} {ow:List Bool} {elt tg iter:Expr} {ifs:List Expr} {pos:Pos} {mi:MA} {mg:MG} {mt:MT} {me:ME} {scope:Scope} {cl:List (Str×Addr)}
theorem ql {wi:TI} {g:TG} {own:List Str} {js:List Nat} {j0 k0:Nat} (si:SI ow wi mi) (cg:CGM k0 own.length g mg) (ho:ow[j0]? = some true) (hk0:own.length≤k0) (hjk:js[k0 - own.length]? = some j0) (hj:∀ (i j:Nat),js[i]? = some j→i≠k0 - own.length→ow[j]?≠some true) :
 SF ow (kW wi g (qx (owM k0) mt) (qB (owM k0) me) own js) (rP mi mg mt me own.length js j0 k0):=fun C G ρ σ H pd q Q r h k =>
 si C G ρ σ H pd _ _ r h fun ds ρ' G' H' J hq z kp r' jo=>by
  obtain ⟨hl,hq⟩:=hq
  split at hq
  ·rename_i d0 e0
   refine km r' ho hk0 hjk hj e0 jo cg lJ lE hl hq fun es d vs G2 H2 hK z2 r2 p2 hl p hp=>?_
   obtain ⟨O2,r2⟩:=r2
   exact k _ _ _ _ _ hK.2 (z.trans z2) (kp.trans fun j hj=>List.getElem?_set_ne (fun (zz:j0=j)=>hj (zz ▸ ho))) (r2.newL hp hK.1 p2)
  ·exact hq.elim
structure CInnM (X:Cx) (k0:Nat) (tg:Expr) (ifs:List Expr) (elt:Expr) (g:TG) (mt:MT) (me:ME):Prop where
 pg:PG X tg g
 qi:QIf X (owM k0) ifs mt
 qe:QE X (owM k0) elt me
theorem kZ {g:TG} (own:List Str) (js:List Nat) (j0 k0:Nat) (c:CompOk X scope cl own js) (hc:X.calm=true) (hi:QI X ow tg iter mi) (cg:CGM k0 own.length g mg)
 (inner:∀ (C:Addr) (s₀:Shared) (H₀:Hp) (ex:List Addr),CInnM (bI X scope cl (cZ X own js) C s₀ H₀ ex) k0 tg ifs elt g mt me) (ho:ow[j0]? = some true:=by decide) (hk0:own.length≤k0:=by decide) (hjk:js[k0 - own.length]? = some j0:=by rfl)
 (hj:(js.mapIdx fun i j=>decide (i=k0 - own.length) || !decide (ow[j]? = some true)).all id=true:=by decide)
 (hs:∀ x,foldedSetIterable iter X.env x=pure x:=by intro _; rfl):QF X ow (.ListComp elt [⟨tg,iter,ifs,0⟩] scope pos) (rP mi mg mt me own.length js j0 k0):=by
 obtain ⟨wi,pi,si⟩:=hi
 have hj':∀ (i j:Nat),js[i]? = some j→i≠k0 - own.length→ow[j]?≠some true:=fun i j e hne z=>by
  rw [List.all_eq_true] at hj
  have:=hj (decide (i=k0 - own.length) || !decide (ow[j]? = some true)) (List.mem_of_getElem? (i:=i) (by rw [List.getElem?_mapIdx,e]; rfl))
  simp [hne,z] at this
 exact ⟨_,jq own js c hc pi (fun C s₀ H₀ ex=>⟨(inner C s₀ H₀ ex).pg,(inner C s₀ H₀ ex).qi.can,(inner C s₀ H₀ ex).qe.can⟩) hs,ql si cg ho hk0 hjk hj'⟩
end
section
variable {X:Cx} {M:Md} {a b c e:Expr} {ma mb mc:ME} {pos pos' p1 p2 p3:Pos} {te:TE} {j1:Nat} {ow:List Bool}
theorem kN:∀ {a b:List D},imms a=true→imms b=true→imms (a++b)=true
 | [],b,_,h=>h
 | d :: a,b,h,h2=>by rw [imms,Bool.and_eq_true] at h; rw [List.cons_append,imms,h.1,kN h.2 h2]; rfl
end
def isW:D→Bool
 | .int _=>true
 | _=>false
def btw (lo hi:Int):D→Bool
 | .int i=>decide (lo≤i)&&decide (i≤hi)
 | _=>false
structure Tree (ps rs:List Int):Prop where
 len:ps.length=rs.length
 lo : 1≤ps.length
 hi:ps.length≤23
 par:∀ (i:Nat) (x:Int),ps[i]? = some x→0≤x∧x≤i
 room:∀ (i:Nat) (x:Int),rs[i]? = some x→1≤x∧x≤1000000
def s_:SpD:=fun ds q=>∃ d,ds=[d]∧d.isS=false∧q (.bl (isW d)) []
def oB:SpD:=fun ds q=>∃ d lo hi,ds=[d,.int lo,.int hi]∧d.isS=false∧q (.bl (btw lo hi d)) []
def wT:SpD:=fun ds q=>∃ ps rs,ds=[aZ ps rs]∧Tree ps rs∧q (.bl true) []
def vS:SpD:=fun ds q=>∃ ps rs,ds=[aZ ps rs]∧Tree ps rs∧q .non []
def mI (K:PySem.W.Frag) (φ:Addr→Prop) (ns:List Int):Prop:=∀ a H,φ a→SqL K H a (ns.map V.int)
def wb (K:PySem.W.Frag):SpD:=fun ds q=>∃ φ ns k,ds=[.scr φ ns,.int k]∧mI K φ ns∧0≤k∧k≤1000∧∀ c m,0≤c→q (af [c,m]) []
def uC:SpD:=fun ds q=>∃ c m many,ds=[af [c,m],.int many]∧0≤c∧0<many∧Sm many∧∀ r c' m',0≤r→r<many→0≤c'→q (.int r) [some (af [c',m'])]
def qv (K:PySem.W.Frag):SpD:=fun ds q=>∃ φ ns,ds=[.scr φ ns]∧mI K φ ns∧ns.length≤63∧q (.bl true) []
theorem bb {ns:List Int} {k:Int} (h0 : 0≤k) (h1:k<ns.length):atI (ns.map D.int) k=some (.int (ns.getD k.toNat 0)):=by
 have ek:k=((k.toNat:Nat):Int):=by omega
 have hl:k.toNat<ns.length:=by omega
 have:atI (ns.map D.int) ((k.toNat:Nat):Int)=some (.int (ns.getD k.toNat 0)):=dq (by rw [List.getElem?_map,List.getD_eq_getElem?_getD,List.getElem?_eq_getElem hl]; rfl)
 rw [← ek] at this
 exact this
theorem wg {ns:List Int} {k:Int} (h0 : 0≤k) (h1:k<ns.length):atI ns k=some (ns.getD k.toNat 0):=by
 have ek:k=((k.toNat:Nat):Int):=by omega
 have hl:k.toNat<ns.length:=by omega
 have:atI ns ((k.toNat:Nat):Int)=some (ns.getD k.toNat 0):=dq (by rw [List.getD_eq_getElem?_getD,List.getElem?_eq_getElem hl]; rfl)
 rw [← ek] at this
 exact this
theorem aY {ds:List D} {k:Int} {d:D} {q:D→Prop} (h:atI ds k=some d) (hq:q d):atD ds k q:=by unfold atD; rw [h]; exact hq
theorem cH {ns:List Int} {i:Nat} {d:D} (h:(ns.map D.int)[i]? = some d):∃ z,ns[i]? = some z∧d = .int z:=by
 rw [List.getElem?_map] at h
 cases e:ns[i]? with
 | none=>rw [e] at h; cases h
 | some z=>rw [e] at h; exact ⟨z,rfl,(Option.some.inj h).symm⟩
theorem e8 {lo hi z:Int} (h1:lo≤z) (h2:z≤hi):btw lo hi (.int z)=true:=by show (decide (lo≤z)&&decide (z≤hi))=true; rw [decide_eq_true h1,decide_eq_true h2]; rfl
abbrev dn (ps:List Int) (k:Int):Int:=ps.getD (k - 1).toNat 0
theorem Tree.up {ps rs:List Int} (hT:Tree ps rs) {k:Int} (h0 : 0<k) (h1:k≤ps.length) : 0≤dn ps k∧dn ps k<k:=by
 have hl:(k - 1).toNat<ps.length:=by omega
 have e:ps[(k - 1).toNat]? = some (dn ps k):=by unfold dn; rw [List.getD_eq_getElem?_getD,List.getElem?_eq_getElem hl]; rfl
 have:=hT.par _ _ e
 omega
inductive Up (ps:List Int):Int→List Int→Prop
 | zero:Up ps 0 [0]
 | step {k:Int} {u:List Int} (h : 0<k):Up ps (dn ps k) u→Up ps k (k :: u)
theorem Up.det {ps:List Int} {k:Int} {u:List Int} (h:Up ps k u):∀ {v:List Int},Up ps k v→u=v:=by
 induction h with
 | zero=>intro v h; cases h with | zero=>rfl | step h0 _=>omega
 | step h0 _ ih=>intro v h; cases h with | zero=>omega | step _ h=>rw [ih h]
theorem Up.all {ps rs:List Int} (hT:Tree ps rs):∀ (n:Nat) (k:Int),k.toNat=n→0≤k→k≤ps.length→∃ u,Up ps k u
 | n,k,hn,h0,h1=>by
  by_cases hk:k=0
  ·subst hk; exact ⟨_,.zero⟩
  ·have hp:=hT.up (k:=k) (by omega) h1
   obtain ⟨u,hu⟩:=Up.all hT (dn ps k).toNat (dn ps k) rfl hp.1 (by omega)
   exact ⟨_,.step (by omega) hu⟩
termination_by n k hn=>n
decreasing_by omega
theorem Up.le {ps rs:List Int} (hT:Tree ps rs) {k:Int} {u:List Int} (h:Up ps k u):k≤ps.length→∀ x∈u,0≤x∧x≤k:=by
 induction h with
 | zero=>intro _ x hx; simp at hx; omega
 | step h0 _ ih =>
  intro h1 x hx
  have hp:=hT.up h0 h1
  rcases List.mem_cons.mp hx with rfl | hx
  ·omega
  ·have:=ih (by omega) x hx; omega
theorem Up.dec {ps rs:List Int} (hT:Tree ps rs) {k:Int} {u:List Int} (h:Up ps k u):k≤ps.length→u.Pairwise (· > ·):=by
 induction h with
 | zero=>intro _; simp
 | step h0 hu ih =>
  intro h1
  have hp:=hT.up h0 h1
  refine List.pairwise_cons.mpr ⟨fun x hx=>?_,ih (by omega)⟩
  have:=hu.le hT (by omega) x hx
  omega
theorem Up.len {ps rs:List Int} (hT:Tree ps rs) {k:Int} {u:List Int} (h:Up ps k u):k≤ps.length→(u.length:Int)≤k + 1:=by
 induction h with
 | zero=>intro _; simp
 | step h0 hu ih=>intro h1; have hp:=hT.up h0 h1; have:=ih (by omega); simp; omega
theorem Up.head {ps:List Int} {k:Int} {u:List Int} (h:Up ps k u):k∈u:=by cases h <;> simp
inductive Climb (ps:List Int):Int→Int→List Int→Int→Prop
 | same (a:Int):Climb ps a a [] a
 | left {a b:Int} {w:List Int} {m:Int} (h:b<a):Climb ps b (dn ps a) w m→Climb ps a b (a :: w) m
 | right {a b:Int} {w:List Int} {m:Int} (h:a<b):Climb ps a (dn ps b) w m→Climb ps a b (b :: w) m
theorem Climb.meet {ps rs:List Int} (hT:Tree ps rs) {a b m:Int} {w:List Int} (h:Climb ps a b w m) : 0≤a→0≤b→a≤ps.length→b≤ps.length→∀ {ua ub:List Int},Up ps a ua→Up ps b ub→m∈ua∧m∈ub∧∀ x∈ua,x∈ub→x≤m:=by
 induction h with
 | same a=>intro a0 _ a1 _ ua ub ha hb; have:=ha.det hb; subst this; exact ⟨ha.head,ha.head,fun x hx _=>(ha.le hT a1 x hx).2⟩
 | left hlt hc ih =>
  intro a0 b0 a1 b1 ua ub ha hb
  cases ha with
  | zero=>omega
  | step h0 hu =>
   have hp:=hT.up h0 a1
   obtain ⟨m1,m2,m3⟩:=ih b0 hp.1 b1 (by omega) hb hu
   refine ⟨List.mem_cons_of_mem _ m2,m1,fun x hx hxb=>?_⟩
   rcases List.mem_cons.mp hx with rfl | hx
   ·have:=(hb.le hT b1 _ hxb).2; omega
   ·exact m3 x hxb hx
 | right hlt hc ih =>
  intro a0 b0 a1 b1 ua ub ha hb
  cases hb with
  | zero=>omega
  | step h0 hu =>
   have hp:=hT.up h0 b1
   obtain ⟨m1,m2,m3⟩:=ih a0 hp.1 a1 (by omega) ha hu
   refine ⟨m1,List.mem_cons_of_mem _ m2,fun x hx hxb=>?_⟩
   rcases List.mem_cons.mp hxb with rfl | hxb
   ·have:=(ha.le hT a1 _ hx).2; omega
   ·exact m3 x hx hxb
theorem Climb.low {ps rs:List Int} (hT:Tree ps rs) {a b m:Int} {w:List Int} (h:Climb ps a b w m) : 0≤a→0≤b→a≤ps.length→b≤ps.length→0≤m∧m≤a∧m≤b:=by
 induction h with
 | same a=>intro a0 _ _ _; omega
 | left hlt hc ih=>intro a0 b0 a1 b1; have hp:=hT.up (show 0<_ by omega) a1; have:=ih b0 hp.1 b1 (by omega); omega
 | right hlt hc ih=>intro a0 b0 a1 b1; have hp:=hT.up (show 0<_ by omega) b1; have:=ih a0 hp.1 a1 (by omega); omega
theorem Climb.perm {ps rs:List Int} (hT:Tree ps rs) {a b m:Int} {w:List Int} (h:Climb ps a b w m) : 0≤a→0≤b→a≤ps.length→b≤ps.length→∀ {ua ub um:List Int},Up ps a ua→Up ps b ub→Up ps m um→w.Perm ((ua++ub).filter fun x=>!um.contains x):=by
 induction h with
 | same a =>
  intro a0 _ a1 _ ua ub um ha hb hm
  have:=ha.det hb; subst this
  have:=ha.det hm; subst this
  have:(ua++ua).filter (fun x=>!ua.contains x)=[]:=by
   rw [List.filter_eq_nil_iff]; intro x hx; simp at hx; simp [hx]
  rw [this]
 | @left a b w m hlt hc ih =>
  intro a0 b0 a1 b1 ua ub um ha hb hm
  cases ha with
  | zero=>omega
  | step h0 hu =>
   have hp:=hT.up h0 a1
   have hl:=hc.low hT b0 hp.1 b1 (by omega)
   have ih':=ih b0 hp.1 b1 (by omega) hb hu hm
   have hn : ¬ um.contains a=true:=fun z=>by
    have:=(hm.le hT (by omega) _ (List.contains_iff_mem.mp z)).2
    omega
   rw [List.cons_append,List.filter_cons_of_pos (by simpa using hn)]
   refine List.Perm.cons _ (ih'.trans ?_)
   exact List.Perm.filter _ List.perm_append_comm
 | @right a b w m hlt hc ih =>
  intro a0 b0 a1 b1 ua ub um ha hb hm
  cases hb with
  | zero=>omega
  | step h0 hu =>
   have hp:=hT.up h0 b1
   have hl:=hc.low hT a0 hp.1 a1 (by omega)
   have ih':=ih a0 hp.1 a1 (by omega) ha hu hm
   have hn : ¬ um.contains b=true:=fun z=>by
    have:=(hm.le hT (by omega) _ (List.contains_iff_mem.mp z)).2
    omega
   refine (List.Perm.cons _ ih').trans ?_
   refine List.Perm.trans ?_ (List.Perm.filter _ (List.perm_middle (l₁:=_)).symm)
   rw [List.filter_cons_of_pos (by simpa using hn)]
theorem Climb.mem {ps rs:List Int} (hT:Tree ps rs) {a b m:Int} {w:List Int} (h:Climb ps a b w m) : 0≤a→0≤b→a≤ps.length→b≤ps.length→∀ x∈w,0<x∧x≤ps.length:=by
 induction h with
 | same a=>intro _ _ _ _ x hx; cases hx
 | left hlt hc ih =>
  intro a0 b0 a1 b1 x hx
  have hp:=hT.up (show 0<_ by omega) a1
  rcases List.mem_cons.mp hx with rfl | hx
  ·omega
  ·exact ih b0 hp.1 b1 (by omega) x hx
 | right hlt hc ih =>
  intro a0 b0 a1 b1 x hx
  have hp:=hT.up (show 0<_ by omega) b1
  rcases List.mem_cons.mp hx with rfl | hx
  ·omega
  ·exact ih a0 hp.1 a1 (by omega) x hx
theorem Climb.len {ps rs:List Int} (hT:Tree ps rs) {a b m:Int} {w:List Int} (h:Climb ps a b w m) : 0≤a→0≤b→a≤ps.length→b≤ps.length→(w.length:Int)≤a + b:=by
 induction h with
 | same a=>intro _ _ _ _; simp; omega
 | left hlt hc ih=>intro a0 b0 a1 b1; have hp:=hT.up (show 0<_ by omega) a1; have:=ih b0 hp.1 b1 (by omega); simp; omega
 | right hlt hc ih=>intro a0 b0 a1 b1; have hp:=hT.up (show 0<_ by omega) b1; have:=ih a0 hp.1 a1 (by omega); simp; omega
theorem Climb.det {ps:List Int} {a b m:Int} {w:List Int} (h:Climb ps a b w m):∀ {m':Int} {w':List Int},Climb ps a b w' m'→w=w'∧m=m':=by
 induction h with
 | same a=>intro m' w' h; cases h with | same=>exact ⟨rfl,rfl⟩ | left h _=>omega | right h _=>omega
 | left hlt hc ih=>intro m' w' h; cases h with | same=>omega | left _ h=>have:=ih h; exact ⟨by rw [this.1],this.2⟩ | right h _=>omega
 | right hlt hc ih=>intro m' w' h; cases h with | same=>omega | right _ h=>have:=ih h; exact ⟨by rw [this.1],this.2⟩ | left h _=>omega
structure Ends2 (ps:List Int) (a b:Int):Prop where
 a0 : 0≤a
 a1:a≤ps.length
 b0 : 0≤b
 b1:b≤ps.length
 ne:a≠b
def sE:SpD:=fun ds q=>∃ ps rs d,ds=[aZ ps rs,d]∧d.isS=false∧q (.bl (btw 0 ps.length d)) []
def wE:SpD:=fun ds q=>∃ ps rs a b,ds=[aZ ps rs,.int a,.int b]∧Ends2 ps a b∧q (.bl true) []
def l7:SpD:=fun ds q=>∃ ps rs a b,ds=[aZ ps rs,.int a,.int b]∧Tree ps rs∧Ends2 ps a b∧q .non []
def rV:SpD:=fun ds q=>∃ ps rs a b,ds=[aZ ps rs,.int a,.int b]∧Tree ps rs∧0≤a∧a≤ps.length∧0≤b∧b≤ps.length∧∀ w m,Climb ps a b w m→q (.tup [af (bj w),.int m]) []
def sdWay:SpD:=fun ds q=>∃ ps rs a b,ds=[aZ ps rs,.int a,.int b]∧Tree ps rs∧Ends2 ps a b∧∀ w m,Climb ps a b w m→q (af (bj w)) []
def vE:SpD:=fun ds q=>∃ ps rs a b,ds=[aZ ps rs,.int a,.int b]∧Tree ps rs∧Ends2 ps a b∧∀ w m,Climb ps a b w m→q (.int m) []
theorem dZ (ps:List Int) (y:Int):D.lst (ps.map D.int++[D.int y])=af (ps++[y]):=by unfold af; rw [List.map_append]; rfl
theorem ar (ps:List Int):(ps.map D.int).length=ps.length:=List.length_map _
theorem getD_mem {ns:List Int} {k:Nat} (h:k<ns.length):ns.getD k 0∈ns:=by rw [List.getD_eq_getElem?_getD,List.getElem?_eq_getElem h]; exact List.getElem_mem h
theorem l9 {P:Nat→Int→Prop} {ps:List Int} {y:Int} (h:∀ (j:Nat) (x:Int),ps[j]? = some x→P j x) (hy:P ps.length y):∀ (j:Nat) (x:Int),(ps++[y])[j]? = some x→P j x:=by
 intro j x hj
 by_cases hjl:j<ps.length
 ·rw [List.getElem?_append_left hjl] at hj; exact h j x hj
 ·rw [List.getElem?_append_right (by omega)] at hj
  cases e:j - ps.length with
  | zero => rw [e] at hj; have:y = x:=by simpa using hj
            subst this; rw [show j=ps.length by omega]; exact hy
  | succ q=>rw [e] at hj; simp at hj
def qZ (p:Int→Bool):D→Option D
 | .int x=>if p x=true then some (.int x) else none
 | _=>none
theorem fg {p:Int→Bool}:∀ (ns:List Int),(ns.map D.int).filterMap (qZ p)=(ns.filter p).map D.int
 | []=>rfl
 | n :: r=>by
  have ih:=fg (p:=p) r
  have e0:qZ p (.int n)=if p n=true then some (.int n) else none:=rfl
  cases e:p n with
  | true=>rw [e,if_pos rfl] at e0; rw [List.map_cons,List.filterMap_cons,e0,List.filter_cons_of_pos e,List.map_cons,← ih]
  | false=>rw [e,if_neg (by decide)] at e0; rw [List.map_cons,List.filterMap_cons,e0,List.filter_cons_of_neg (by rw [e]; decide),← ih]
theorem bX (ns:List Int):(ns.map D.int).all dS=true:=by
 induction ns with
 | nil=>rfl
 | cons n r ih=>rw [List.map_cons,List.all_cons,ih]; rfl
theorem cF (x:Int) (ns:List Int):inD (.int x) (ns.map D.int)=ns.contains x:=by
 unfold inD
 induction ns with
 | nil=>rfl
 | cons n r ih =>
  rw [List.map_cons,List.any_cons,ih,List.contains_cons]
  show ((n == x)||_)=_
  rw [Bool.beq_comm]
theorem bC {ns:List Int} {d:D} (h:d∈ns.map D.int):∃ x∈ns,d = .int x:=by
 obtain ⟨x,h1,h2⟩:=List.mem_map.mp h
 exact ⟨x,h1,h2.symm⟩
theorem fT (ns:List Int):okD (af ns)=true:=kJ ns
theorem eqDi (ns ms:List Int):eqD (af ns) (af ms)=decide (ns=ms):=rJ ns ms
structure Ask where
 one:Int
 other:Int
 size:Int
 worth:Int
def er (a:Ask):D:=.tup [.int a.one,.int a.other,.int a.size,.int a.worth]
def dg (as:List Ask):D:=.lst (as.map er)
structure AskOk (ps:List Int) (a:Ask):Prop where
 ends:Ends2 ps a.one a.other
 s0 : 1≤a.size
 s1:a.size≤1000000
 w0 : 1≤a.worth
 w1:a.worth≤1000000000000
structure AsksOk (ps:List Int) (as:List Ask):Prop where
 len:as.length≤30
 ok:∀ a∈as,AskOk ps a
theorem m_ {as:List Ask} {i:Nat} {d:D} (h:(as.map er)[i]? = some d):∃ a,as[i]? = some a∧d=er a:=by
 rw [List.getElem?_map] at h
 cases e:as[i]? with
 | none=>rw [e] at h; cases h
 | some z=>rw [e] at h; exact ⟨z,rfl,(Option.some.inj h).symm⟩
def jy:Ask:=⟨0,0,0,0⟩
theorem kL {as:List Ask} {k:Nat} (h:k<as.length):as.getD k jy∈as:=by rw [List.getD_eq_getElem?_getD,List.getElem?_eq_getElem h]; exact List.getElem_mem h
theorem bD (as:List Ask):(as.map er).length=as.length:=List.length_map _
def sN:SpD:=fun ds q=>∃ ps rs a,ds=[aZ ps rs,er a]∧AskOk ps a∧q (.bl true) []
def k_:SpD:=fun ds q=>∃ ps rs as,ds=[aZ ps rs,dg as]∧Tree ps rs∧AsksOk ps as∧q .non []
def iz (ps:List Int):Nat→Int→Int→List Int
 | 0,_,_=>[]
 | f + 1,a,b=>if b<a then a :: iz ps f b (dn ps a) else if a<b then b :: iz ps f a (dn ps b) else []
def gY (ps:List Int):Nat→Int→Int→Int
 | 0,a,_=>a
 | f + 1,a,b=>if b<a then gY ps f b (dn ps a) else if a<b then gY ps f a (dn ps b) else a
theorem fJ {ps rs:List Int} (hT:Tree ps rs):∀ (f:Nat) (a b:Int),(a + b).toNat≤f→0≤a→0≤b→a≤ps.length→b≤ps.length→Climb ps a b (iz ps f a b) (gY ps f a b)
 | 0,a,b,hf,a0,b0,_,_=>by
  have:a=b:=by omega
  subst this
  exact .same a
 | f + 1,a,b,hf,a0,b0,a1,b1=>by
  unfold iz gY
  by_cases h1:b<a
  ·rw [if_pos h1,if_pos h1]
   have hp:=hT.up (show 0<a by omega) a1
   exact .left h1 (fJ hT f b _ (by omega) b0 hp.1 b1 (by omega))
  ·rw [if_neg h1,if_neg h1]
   by_cases h2:a<b
   ·rw [if_pos h2,if_pos h2]
    have hp:=hT.up (show 0<b by omega) b1
    exact .right h2 (fJ hT f a _ (by omega) a0 hp.1 a1 (by omega))
   ·rw [if_neg h2,if_neg h2]
    have:a=b:=by omega
    subst this
    exact .same a
def fh (ps:List Int) (a b:Int):List Int:=bj (iz ps 100 a b)
def bw (ps:List Int) (a b:Int):Int:=gY ps 100 a b
theorem Climb.way {ps rs:List Int} (hT:Tree ps rs) {a b m:Int} {w:List Int} (h:Climb ps a b w m) (a0 : 0≤a) (b0 : 0≤b) (a1:a≤ps.length) (b1:b≤ps.length):bj w=fh ps a b∧m=bw ps a b:=by
 have hi:=hT.hi
 have:=h.det (fJ hT 100 a b (by omega) a0 b0 a1 b1)
 exact ⟨by rw [this.1]; rfl,this.2⟩
theorem cP {ps rs:List Int} (hT:Tree ps rs) {a b:Int} (a0 : 0≤a) (b0 : 0≤b) (a1:a≤ps.length) (b1:b≤ps.length):∃ w,Climb ps a b w (bw ps a b)∧fh ps a b=bj w:=by
 have hi:=hT.hi
 exact ⟨_,fJ hT 100 a b (by omega) a0 b0 a1 b1,rfl⟩
theorem cS {ps rs:List Int} (hT:Tree ps rs) {a b:Int} (he:Ends2 ps a b) {x:Int} (hx:x∈fh ps a b) : 0<x∧x≤ps.length:=by
 obtain ⟨w,hw,e⟩:=cP hT he.a0 he.b0 he.a1 he.b1
 rw [e] at hx
 exact hw.mem hT he.a0 he.b0 he.a1 he.b1 x ((aS w).mem_iff.mp hx)
def ax (ps:List Int) (a:Ask):List Int:=fh ps a.one a.other
def tD:SpD:=fun ds q=>∃ ps rs a,ds=[aZ ps rs,er a]∧Tree ps rs∧Ends2 ps a.one a.other∧q (af (ax ps a)) []
structure KeepOk (n:Nat) (ks:List Int):Prop where
 up:ks.Pairwise (· < ·)
 lo:∀ k∈ks,0≤k∧k<n
theorem KeepOk.len {n:Nat} {ks:List Int} (h:KeepOk n ks):ks.length≤n:=by
 have:∀ (l:List Int) (a:Int),l.Pairwise (· < ·)→(∀ k∈l,a≤k∧k<n)→0≤a→(l.length:Int)≤max 0 (n - a):=by
  intro l
  induction l with
  | nil=>intro a _ _ _; simp; omega
  | cons x r ih =>
   intro a hp hb ha
   rw [List.pairwise_cons] at hp
   have hx:=hb x (.head _)
   have:=ih (x + 1) hp.2 (fun k hk=>by have h1:=hp.1 k hk; have h2:=hb k (List.mem_cons_of_mem _ hk); omega) (by omega)
   simp; omega
 have:=this ks 0 h.up (fun k hk=>h.lo k hk) (Int.le_refl 0)
 omega
def g8 (s:Int) (l:List Int) (t:Int):List Int:=l.set (t - 1).toNat (l.getD (t - 1).toNat 0 + s)
def bt (l:List Int) (ts:List Int) (s:Int):List Int:=ts.foldl (g8 s) l
theorem j9 (s:Int) (l:List Int) (t:Int):(g8 s l t).length=l.length:=by unfold g8; simp
theorem bU (s:Int):∀ (ts l:List Int),(bt l ts s).length=l.length
 | [],l=>rfl
 | t :: ts,l=>by show (bt (g8 s l t) ts s).length=_; rw [bU s ts,j9]
theorem gb (l ts:List Int) (t s:Int):bt l (ts++[t]) s=g8 s (bt l ts s) t:=by unfold bt; rw [List.foldl_append]; rfl
theorem iq (n:Nat) (d:D):(List.replicate n [d]).flatten=List.replicate n d:=by
 induction n with
 | zero=>rfl
 | succ n ih=>rw [List.replicate_succ,List.flatten_cons,ih,List.replicate_succ]; rfl
theorem gv (n:Nat) (x:Int):List.replicate n (D.int x)=(List.replicate n x).map D.int:=by rw [List.map_replicate]
theorem fK {n:Nat} {k:Int} (h0 : 0≤k) (h1:k<n):ixN n k=some k.toNat:=by unfold ixN; rw [if_pos h0,if_pos h1]
theorem dY (l:List Int) (i:Nat) (x:Int):D.lst ((l.map D.int).set i (.int x))=af (l.set i x):=by unfold af; rw [List.map_set]
theorem lM {ps:List Int} {a r:Int} (a0 : 0≤a) (a1:a<1 + (ps.length:Int)) (r0 : 0≤r) (r1:r<ps.length):Ends2 ps a ((a + 1 + r) % (1 + (ps.length:Int))):=by
 refine ⟨a0,by omega,Int.emod_nonneg _ (by omega),?_,?_⟩
 ·have:=Int.emod_lt_of_pos (a + 1 + r) (show 0<1 + (ps.length:Int) by omega); omega
 ·intro he
  by_cases hlt:a + 1 + r<1 + (ps.length:Int)
  ·rw [Int.emod_eq_of_lt (by omega) hlt] at he; omega
  ·have e:(a + 1 + r) % (1 + (ps.length:Int))=a + 1 + r - (1 + (ps.length:Int)):=by
    rw [← Int.sub_emod_right,Int.emod_eq_of_lt (by omega) (by omega)]
   omega
theorem Climb.nodup {ps rs:List Int} (hT:Tree ps rs) {a b m:Int} {w:List Int} (h:Climb ps a b w m) : 0≤a→0≤b→a≤ps.length→b≤ps.length→w.Nodup∧∀ x∈w,x≤max a b:=by
 induction h with
 | same a=>intro _ _ _ _; exact ⟨List.nodup_nil,fun x h=>by cases h⟩
 | @left a b w m hlt hc ih =>
  intro a0 b0 a1 b1
  have hp:=hT.up (show 0<a by omega) a1
  obtain ⟨h1,h2⟩:=ih b0 hp.1 b1 (by omega)
  refine ⟨List.nodup_cons.mpr ⟨fun z=>by have:=h2 a z; omega,h1⟩,fun x hx=>?_⟩
  rcases List.mem_cons.mp hx with rfl | hx
  ·omega
  ·have:=h2 x hx; omega
 | @right a b w m hlt hc ih =>
  intro a0 b0 a1 b1
  have hp:=hT.up (show 0<b by omega) b1
  obtain ⟨h1,h2⟩:=ih a0 hp.1 a1 (by omega)
  refine ⟨List.nodup_cons.mpr ⟨fun z=>by have:=h2 b z; omega,h1⟩,fun x hx=>?_⟩
  rcases List.mem_cons.mp hx with rfl | hx
  ·omega
  ·have:=h2 x hx; omega
theorem cT {ps rs:List Int} (hT:Tree ps rs) {a b:Int} (he:Ends2 ps a b):(fh ps a b).Nodup:=by
 obtain ⟨w,hw,e⟩:=cP hT he.a0 he.b0 he.a1 he.b1
 rw [e]
 exact (aS w).nodup_iff.mpr (hw.nodup hT he.a0 he.b0 he.a1 he.b1).1
def cnt (t:Int) (w:List Int) (s:Int):Int:=if w.contains t=true then s else 0
theorem sS {s:Int} {l:List Int} {t:Int} {j:Nat} (ht : 0<t) (hl:t≤l.length):(g8 s l t).getD j 0=l.getD j 0 + if (j:Int) + 1=t then s else 0:=by
 unfold g8
 simp only [List.getD_eq_getElem?_getD]
 rw [List.getElem?_set]
 by_cases h:(t - 1).toNat=j
 ·rw [if_pos h,if_pos (by omega),if_pos (by omega),h]; rfl
 ·rw [if_neg h,if_neg (by omega)]; simp
theorem fG {s:Int} {j:Nat}:∀ {w l:List Int},w.Nodup→(∀ x∈w,0<x∧x≤l.length)→(bt l w s).getD j 0=l.getD j 0 + cnt ((j:Int) + 1) w s
 | [],l,_,_=>by simp [bt,cnt]
 | t :: w,l,hn,hm=>by
  rw [List.nodup_cons] at hn
  have ht:=hm t (.head _)
  show (bt (g8 s l t) w s).getD j 0=_
  rw [fG hn.2 (fun x hx=>by rw [j9]; exact hm x (List.mem_cons_of_mem _ hx)),sS ht.1 ht.2]
  unfold cnt
  rw [List.contains_cons]
  by_cases e:(j:Int) + 1=t
  ·have:w.contains ((j:Int) + 1)=false:=by
    cases z:w.contains ((j:Int) + 1) with
    | false=>rfl
    | true=>rw [e] at z; exact absurd (List.contains_iff_mem.mp z) hn.1
   rw [if_pos e,this,if_neg (by decide),show ((j:Int) + 1 == t)=true by simpa using e]; simp
  ·rw [if_neg e,show ((j:Int) + 1 == t)=false by simpa using e,Bool.false_or]; omega
theorem rA {a b:List Int} (h:a.Perm b):a.sum=b.sum:=by
 induction h with
 | nil=>rfl
 | cons x _ ih=>simp [ih]
 | swap x y l=>simp only [List.sum_cons]; omega
 | trans _ _ ih1 ih2=>exact ih1.trans ih2
def eqN (k:Int):Value→Bool
 | .int a _=>a == k
 | _=>false
def tE:V→List V→Hp→VK→Prop:=fun x vs H Q=>∃ (l:Addr) (ns:List Int) (k:Int),x = .ref l∧vs=[.int k]∧H l=some (.lst (ns.map V.int))∧k∈ns∧Q .non (upd H l (.lst ((ns.erase k).map V.int)))
theorem fv:∀ {ns:List Int} {us:List Value},aN (ns.map V.int) us→us.length=ns.length∧∀ (i:Nat) (h:i<us.length),∃ t,us[i] = .int (ns.getD i 0) t
 | [],_,.nil=>⟨rfl,fun i h=>absurd h (Nat.not_lt_zero _)⟩
 | k :: ns,_,.cons r t=>by
  obtain ⟨h1,h2⟩:=fv (ns:=ns) t
  refine ⟨by rw [List.length_cons,List.length_cons,h1],fun i h=>?_⟩
  cases i with
  | zero=>obtain ⟨z,rfl⟩:=r; exact ⟨z,rfl⟩
  | succ i=>exact h2 i (Nat.lt_of_succ_lt_succ h)
theorem d9 {α β:Type} (f : α→β):∀ (l:List α) (j:Nat),(l.eraseIdx j).map f=(l.map f).eraseIdx j
 | [],_=>rfl
 | _ :: _,0=>rfl
 | x :: r,j + 1=>by rw [List.eraseIdx_cons_succ,List.map_cons,List.map_cons,List.eraseIdx_cons_succ,d9 f r j]
section
variable {X:Cx}
theorem nV:MtM X "list.remove" tE:=by
 (try refine ⟨?_⟩); intro pins s σ H x vs v us Q I rx rv h
 obtain ⟨l,ns,k,rfl,rfl,hH,hk,q⟩:=h
 cases rx
 obtain ⟨u,rfl,ru⟩:=rv.one
 obtain ⟨t,rfl⟩:=ru
 obtain ⟨z,its,n,r,hl,e⟩:=I.lstM hH
 obtain ⟨h1,h2⟩:=fv r
 have hj:ns.idxOf k<ns.length:=List.idxOf_lt_length_of_mem hk
 refine call_meets F.slot_list_remove ⟨_,e,rfl⟩ F.entry_list_remove (F.args_list_remove_2 _ _)
  (MeetsSeq.list_remove l its.toArray n (.int k t) (eqN k) (fun y hy=>?_) (ns.idxOf k) (by rw [List.size_toArray]; omega) ?_ (fun m hm hlt=>?_) (by rw [List.size_toArray]; omega)) ⟨e,?_⟩
 ·obtain ⟨i,hi,rfl⟩:=List.getElem_of_mem (List.mem_toArray.mp hy)
  obtain ⟨t',e'⟩:=h2 i hi
  rw [e']
  exact MeetsSeq.EqGives.int _ k t' t
 ·obtain ⟨t',e'⟩:=h2 (ns.idxOf k) (by omega)
  rw [List.getElem_toArray,e']
  show (ns.getD (ns.idxOf k) 0 == k)=true
  rw [List.getD_eq_getElem?_getD,List.getElem?_eq_getElem hj,List.getElem_idxOf hj]; simp
 ·rw [List.size_toArray] at hm
  obtain ⟨t',e'⟩:=h2 m hm
  rw [List.getElem_toArray,e']
  show (ns.getD m 0 == k)=false
  rw [List.getD_eq_getElem?_getD,List.getElem?_eq_getElem (by omega)]
  have:=List.not_of_lt_findIdx (p:=fun x=>x == k) (xs:=ns) hlt
  simpa using this
 ·refine ⟨.non,_,I.lset (its':=its.eraseIdx (ns.idxOf k)) hH e ?_ ?_ ?_,rfl,q⟩
  ·show its.toArray.eraseIdxIfInBounds (ns.idxOf k)=(its.eraseIdx (ns.idxOf k)).toArray
   rw [List.eraseIdxIfInBounds_toArray]
  ·rw [List.erase_eq_eraseIdx_of_idxOf rfl,d9]
   exact r.eraseIdx _
  ·have:=List.length_erase_le (a:=k) (l:=ns)
   rw [List.length_map] at *
   omega
end
section
variable {X:Cx} {M:Md} {e:Expr} {ma:ME} {pos:Pos}
def mY (i:Nat) (m:ME):MS:=fun n ρ=>match ρ[i]? with
 | some (some (.lst _))=>m ρ fun d ρ1=>match ρ1[i]? with
  | some (some (.lst ds))=>∃ (ns:List Int) (k:Int),d = .int k∧ds=ns.map D.int∧k∈ns∧n.nx (ρ1.set i (some (af (ns.erase k))))
  | _=>False
 | _=>False
theorem nF {i:Nat} {x:Str} {apos cpos npos:Pos} (hN:X.N[i]? = some x) (he:QE X M.ow e ma) (ho:M.ow[i]? = some true:=by decide)
 (hv:Vis X.env.scope x:=by first | exact Or.inl rfl | exact Or.inr (Or.inl rfl) | exact Or.inr (Or.inr rfl)) (hd:(x == ("__debug__":Str))=false:=by decide) (hcd:(x == ("__classdict__":Str))=false:=by decide)
 (hbase:attributeBase (.Name x npos) "remove" X.env (eval (.Name x npos) X.env)=eval (.Name x npos) X.env:=by rfl)
 (hfew:((backTo cpos (starEach [e] X.env)).all (fun x=>!x.1)&&(backToKw cpos (keywordEach [] X.env)).all (fun x=>x.1.isSome)
  && decide ([e].length + ([]:List Keyword).length + (if ([]:List Keyword).isEmpty then 0 else 1)<30))=true:=by rfl)
 (hline:(apos.endLine == cpos.line)=true:=by rfl) (hst:starEach [e] X.env=[(false,eval e X.env)]:=by rfl)
 (hs:swapsWith (.Call (.Attribute (.Name x npos) "remove" apos) [e] [] cpos) none pos.line X.env=pure false:=by rfl) :
 QS X M (.Expr (.Call (.Attribute (.Name x npos) "remove" apos) [e] [] cpos) pos) (mY i ma):=by
 obtain ⟨t,p,s⟩:=he
 refine ⟨_,gR (nj PySem.F.plainAttrs_list PySem.F.slot_list_remove PySem.F.type_list_remove nV (dC hN hv hd hcd) (bq p cx hst) hbase hfew hline hst (by rfl)) hs,fun C G ρ σ H n D hm hn r h k=>?_⟩
 unfold mY at h
 split at h
 ·rename_i ds e1
  obtain ⟨O,ro⟩:=r
  obtain ⟨a,xs,h1,h2,_,_⟩:=ro.write e1 ho
  refine ⟨.ref a,h1,.inl ⟨rfl,xs,SqL.of h2⟩,?_⟩
  refine s C G ρ σ H [] _ _ ⟨O,ro⟩ h fun d ρ' v G' H' hq z kp r' pd=>?_
  split at hq
  ·rename_i ds' e2
   obtain ⟨ns,kk,rfl,rfl,hk,hq⟩:=hq
   obtain ⟨O',r'⟩:=r'
   obtain ⟨a',xs',g1,g2,g3,g4⟩:=r'.write e2 ho
   rw [h1] at g1; cases g1
   have ex:xs'=ns.map V.int:=bd (Seps.imm _ _ _ _ (aO ns) g3)
   subst ex
   refine ⟨a,ns,kk,rfl,by rw [ay pd],g2,hk,?_⟩
   exact k.nx _ _ G' _ hq z ⟨O',g4 _ _ (Reps.sep _ _ _ _ (aO _) (cn _))⟩
  ·exact hq.elim
 ·exact h.elim
end
section
variable {X:Cx}
variable {ow:List Bool} {e:Expr} {ma:ME}
end
section
variable {X:Cx}
variable {ow:List Bool} {e:Expr} {ma:ME} {pos p1 p2 p3:Pos}
end
end L2
namespace L2
open PySem
structure DepOk (ps e:List Int) (n:Nat):Prop where
 len:e.length=n + 1
 up:∀ (k:Int) (u:List Int),0≤k→k≤n→Up ps k u→e.getD k.toNat 0 + 1=u.length
theorem dep0 (ps:List Int):DepOk ps [0] 0:=⟨rfl,fun k u h0 h1 hu=>by
 have:k=0:=by omega
 subst this
 cases hu with
 | zero=>rfl
 | step h _=>omega⟩
theorem qO {ps rs e:List Int} {i:Nat} {z:Int} (hT:Tree ps rs) (hz:ps[i]? = some z) (h:DepOk ps e i):DepOk ps (e++[e.getD z.toNat 0 + 1]) (i + 1):=by
 have hb:=hT.par i z hz
 have hl:=h.len
 refine ⟨by rw [List.length_append,h.len]; rfl,fun k u h0 h1 hu=>?_⟩
 by_cases hk:k≤i
 ·rw [List.getD_eq_getElem?_getD,List.getElem?_append_left (by omega),← List.getD_eq_getElem?_getD]
  exact h.up k u h0 hk hu
 ·have e1:k.toNat=e.length:=by omega
  rw [List.getD_eq_getElem?_getD,List.getElem?_append_right (by omega),e1,Nat.sub_self]
  show e.getD z.toNat 0 + 1 + 1=_
  cases hu with
  | zero=>omega
  | step hp hu' =>
   have:dn ps k=z:=by
    unfold dn
    rw [List.getD_eq_getElem?_getD,show (k - 1).toNat=i by omega,hz]; rfl
   rw [this] at hu'
   rw [h.up z _ hb.1 hb.2 hu',List.length_cons]; rfl
inductive Pth (ps:List Int) (m:Int):Int→List Int→Prop
 | nil:Pth ps m m []
 | step {k:Int} {l:List Int} (h0 : 0<k) (h:k≠m):Pth ps m (dn ps k) l→Pth ps m k (k :: l)
theorem Climb.pth {ps rs:List Int} (hT:Tree ps rs) {a b m:Int} {w:List Int} (h:Climb ps a b w m) : 0≤a→0≤b→a≤ps.length→b≤ps.length→∃ pa pb,Pth ps m a pa∧Pth ps m b pb∧w.Perm (pa++pb):=by
 induction h with
 | same a=>intro _ _ _ _; exact ⟨[],[],.nil,.nil,.nil⟩
 | left hlt hc ih =>
  intro a0 b0 a1 b1
  have hp:=hT.up (show 0<_ by omega) a1
  have hlow:=hc.low hT b0 hp.1 b1 (by omega)
  obtain ⟨pb,pa,h1,h2,h3⟩:=ih b0 hp.1 b1 (by omega)
  exact ⟨_ :: pa,pb,.step (by omega) (by omega) h2,h1,(h3.trans List.perm_append_comm).cons _⟩
 | right hlt hc ih =>
  intro a0 b0 a1 b1
  have hp:=hT.up (show 0<_ by omega) b1
  have hlow:=hc.low hT a0 hp.1 a1 (by omega)
  obtain ⟨pa,pb,h1,h2,h3⟩:=ih a0 hp.1 a1 (by omega)
  exact ⟨pa,_ :: pb,h1,.step (by omega) (by omega) h2,(h3.cons _).trans List.perm_middle.symm⟩
theorem Up.chain {ps rs:List Int} (hT:Tree ps rs) {b:Int} {u:List Int} (h:Up ps b u):b≤ps.length→∀ {x y:Int},x∈u→y∈u→x≤y→∃ uy,Up ps y uy∧x∈uy∧∀ z∈uy,z∈u:=by
 induction h with
 | zero =>
  intro _ x y hx hy _
  have e:y=0:=by simpa using hy
  subst e
  exact ⟨[0],.zero,hx,fun z hz=>hz⟩
 | @step k u h0 hu ih =>
  intro h1 x y hx hy hxy
  have hp:=hT.up h0 h1
  have hle:=hu.le hT (by omega)
  rcases List.mem_cons.mp hy with hy' | hy'
  ·subst hy'; exact ⟨_,.step h0 hu,hx,fun z hz=>hz⟩
  ·rcases List.mem_cons.mp hx with hx' | hx'
   ·have:=(hle y hy').2; omega
   ·obtain ⟨uy,g1,g2,g3⟩:=ih (by omega) hx' hy' hxy
    exact ⟨uy,g1,g2,fun z hz=>.tail _ (g3 z hz)⟩
def rC:SpD:=fun ds q=>∃ ps rs,ds=[aZ ps rs]∧Tree ps rs∧∀ e,DepOk ps e ps.length→q (af e) []
end L2
namespace L2
open PySem PySem.Spec PyProof.Rows
section
variable {prog:Program} {w:World} {A:Around} {E:Value→Shared→Prop} {s:Shared}
end
section
variable {X:Cx} {M:Md} {e:Expr} {es:List Expr} {mgs:MGs} {pos:Pos}
end
section
variable {X:Cx} {M:Md} {pos:Pos}
end
def Itz (a b:Addr):It :=
 ⟨fun i H=>∃ xs ys x y,H a = some (.lst xs)∧H b = some (.lst ys)∧xs[i]? = some x∧ys[i]? = some y,
  fun i H v H'=>∃ p x y,H p=none∧v = .ref p∧H'=upd H p (.tup [x,y])∧(∀ xs,H a=some (.lst xs)→xs[i]? = some x)∧∀ ys,H b=some (.lst ys)→ys[i]? = some y,
  fun i H=>∃ xs ys,H a=some (.lst xs)∧H b=some (.lst ys)∧(xs.length≤i∨ys.length≤i)⟩
theorem mem5 {c a1 a2 a3 a4 a5:Addr} (h:c∈[a1,a2,a3,a4,a5]):c=a1∨c=a2∨c=a3∨c=a4∨c=a5:=by simpa using h
theorem mem4 {c a1 a2 a3 a4:Addr} (h:c∈[a1,a2,a3,a4]):c=a1∨c=a2∨c=a3∨c=a4:=by simpa using h
theorem i4 {c a1 a2 a3 a4:Addr} (h:c ∉ [a1,a2,a3,a4]):c≠a1∧c≠a2∧c≠a3∧c≠a4:=by simpa using h
theorem nd5 {z TI TO i1 i2:Addr} (h : [z,TI,TO,i1,i2].Nodup):(z≠TI∧z≠TO∧z≠i1∧z≠i2)∧(TI≠TO∧TI≠i1∧TI≠i2)∧(TO≠i1∧TO≠i2)∧i1≠i2:=by simpa using h
theorem gG {z TI TO i1 i2:Addr}:z∈[z,TI,TO,i1,i2]∧TI∈[z,TI,TO,i1,i2]∧TO∈[z,TI,TO,i1,i2]∧i1∈[z,TI,TO,i1,i2]∧i2∈[z,TI,TO,i1,i2]:=by simp
structure ZipSt (z TI TO i1 i2 a b:Addr) (i:Nat) (h:Heap):Prop where
 hz:IsZip h z TI TO .none
 ti:IsPair h TI (.ref i1) (.ref i2)
 to:∃ x y,IsPair h TO x y
 t1:h.IsListIter i1 a i
 t2:h.IsListIter i2 b i
theorem re {P:Program} {w:World} {K:PySem.W.Frag} {es:List Expr} {k:Nat} {pos:Pos} (a b z TI TO i1 i2:Addr) (nd : [z,TI,TO,i1,i2].Nodup) :
 Turn P w K (.Tuple es k pos) (Itz a b) [z,TI,TO,i1,i2] z (ZipSt z TI TO i1 i2 a b) where
 mem:=gG.1
 obj:=fun i h st c hc=>by
  obtain ⟨hz,ti,⟨x,y,to⟩,⟨o1,e1,c1,d1⟩,⟨o2,e2,c2,d2⟩⟩:=st
  rcases mem5 hc with rfl | rfl | rfl | rfl | rfl
  ·exact ⟨_,hz,fun v q=>by cases q⟩
  ·exact ⟨_,ti,fun v q=>by cases q⟩
  ·exact ⟨_,to,fun v q=>by cases q⟩
  ·exact ⟨o1,e1,fun v q=>by rw [d1] at q; cases q⟩
  ·exact ⟨o2,e2,fun v q=>by rw [d2] at q; cases q⟩
 keep:=fun i h h' st kp=>by
  obtain ⟨m1,m2,m3,m4,m5⟩:=gG (z:=z) (TI:=TI) (TO:=TO) (i1:=i1) (i2:=i2)
  obtain ⟨x,y,q⟩:=st.to
  exact ⟨kp z m1 _ st.hz,kp TI m2 _ st.ti,⟨x,y,kp TO m3 _ q⟩,st.t1.at fun o q=>kp i1 m4 o q,st.t2.at fun o q=>kp i2 m5 o q⟩
 item:=by
  intro X hP hw hK hc i pins s σ H E I hf st hg
  subst hP hw hK
  obtain ⟨xs,ys,x,y,hq1,hq2,hx,hy⟩:=hg
  obtain ⟨hz,ti,⟨ox,oy,to⟩,t1,t2⟩:=st
  obtain ⟨its1,rv1,p1,hz1⟩:=I.list (SqL.of hq1)
  obtain ⟨its2,rv2,p2,hz2⟩:=I.list (SqL.of hq2)
  obtain ⟨u,hu,ru⟩:=rv1.get hx
  obtain ⟨v,hv,rv⟩:=rv2.get hy
  obtain ⟨m1,m2,m3,m4,m5⟩:=gG (z:=z) (TI:=TI) (TO:=TO) (i1:=i1) (i2:=i2)
  have fz:=hf z m1; have fO:=hf TO m3; have f1:=hf i1 m4; have f2:=hf i2 m5
  obtain ⟨⟨n1,n2,n3,n4⟩,⟨n5,n6,n7⟩,⟨n8,n9⟩,n10⟩:=nd5 nd
  have la:∀ {c:Addr},H c=none→a≠c:=fun h=>ap hq1 h
  have lb:∀ {c:Addr},H c=none→b≠c:=fun h=>ap hq2 h
  have AP:ZipApart z TI TO i1 i2 a b:=⟨Ne.symm n1,Ne.symm n2,Ne.symm n3,Ne.symm n4,n5,n6,n7,n8,n9,n10,la fz.1,la fO.1,la f1.1,la f2.1,lb fz.1,lb fO.1,lb f1.1,lb f2.1⟩
  refine wpAny_pyNext_zip_item AP hz ti to t1 t2 p1.isList p2.isList (x:=u) (y:=v) (by simpa using hu) (by simpa using hv) fun h' zo to' t1' t2' ht hsz hk=>?_
  refine ⟨.ref s.heap.objs.size,rfl,?_⟩
  refine wpAny_letOwnedTupleGo_zip zo fun h2 he2 hs2=>?_
  have fr:H s.heap.objs.size=none:=I.hok.fresh (Nat.le_refl _)
  have ne2:∀ b,b<s.heap.objs.size→b≠s.heap.objs.size:=fun b hb=>Nat.ne_of_lt hb
  have ee:z<s.heap.objs.size:=Heap.lt_size hz
  have k2:∀ c o,c≠z→c≠TO→c≠i1→c≠i2→s.heap.get? c=some o→h2.get? c=some o:=fun c o c1 c2 c3 c4 q=>(hs2.2 c c1).trans (hk c o c1 c2 c3 c4 q)
  have ht2:h2.get? s.heap.objs.size=some { cls:=.type "tuple",data:=.seq #[u,v] }:=(hs2.2 _ (Nat.ne_of_gt ee)).trans ht
  have trk:∀ c o,H c=some o→c≠z∧c≠TO∧c≠i1∧c≠i2:=fun c o q=>⟨ap q fz.1,ap q fO.1,ap q f1.1,ap q f2.1⟩
  have hok0:HOk X.prog X.w H h2:=fun c o q=>(I.hok c o q).stay (fun d v' hc q'=>by
   rcases hc with rfl | hc
   ·obtain ⟨z1,z2,z3,z4⟩:=trk d _ q; exact k2 d v' z1 z2 z3 z4 q'
   ·obtain ⟨z1,z2,z3,z4⟩:=trk d _ hc; exact k2 d v' z1 z2 z3 z4 q') (fun _ z=>z) (fun _ _ z=>z) fun _ _ _ z=>z
  have I1:Inv X pins σ (upd H s.heap.objs.size (.tup [x,y])) { s with heap:=h2,toks:=s.toks }:=by
   refine I.step (g':=s.gens) (d':=s.drawn) (ch:=[z,TO,i1,i2]) (fun c hc=>?_) (fun c o _ _ hc q _=>by obtain ⟨z1,z2,z3,z4⟩:=i4 hc; exact k2 c o z1 z2 z3 z4 q) (fun c o _ _ hc q _=>by obtain ⟨z1,z2,z3,z4⟩:=i4 hc; exact ⟨o.slots,k2 c o z1 z2 z3 z4 q⟩)
    (fun c o _ q n=>by rw [av (ne2 c (Heap.lt_size q))]; exact n) (fun c o hc q=>by obtain ⟨z1,z2,z3,z4⟩:=i4 hc; exact ⟨o,k2 c o z1 z2 z3 z4 q⟩) (fun c ys q=>by rw [av (ap q fr)]; exact q) (fun c o v q=>by rw [av (ap q fr)]; exact q)
    (fun c ps _ q=>⟨#[],by rw [av (ap q fr),q]; simp⟩) (fun m hm=>?_) ?_ I.bare
   ·rcases mem4 hc with rfl | rfl | rfl | rfl
    ·exact ⟨fz.2.2.2.1,fz.2.1,fz.2.2.2.2.1,fz.2.2.2.2.2⟩
    ·exact ⟨fO.2.2.2.1,fO.2.1,fO.2.2.2.2.1,fO.2.2.2.2.2⟩
    ·exact ⟨f1.2.2.2.1,f1.2.1,f1.2.2.2.2.1,f1.2.2.2.2.2⟩
    ·exact ⟨f2.2.2.2.1,f2.2.1,f2.2.2.2.2.1,f2.2.2.2.2.2⟩
   ·obtain ⟨o,es',ep,ho,r⟩:=hm
    exact ⟨o,es',ep,k2 _ o (Ne.symm fz.2.1) (Ne.symm fO.2.1) (Ne.symm f1.2.1) (Ne.symm f2.2.1) ho,r⟩
   ·exact hok0.adopt fr ⟨by show 2≤sizeLine; decide,[u,v],.cons ru (.cons rv .nil),⟨_,ht2,rfl,_,rfl⟩⟩
  have lt:∀ c∈[z,TI,TO,i1,i2],c<s.heap.objs.size:=fun c hc=>by
   rcases mem5 hc with rfl | rfl | rfl | rfl | rfl
   ·exact ee
   ·exact Heap.lt_size ti
   ·exact Heap.lt_size to
   ·obtain ⟨o,q,_⟩:=t1; exact Heap.lt_size q
   ·obtain ⟨o,q,_⟩:=t2; exact Heap.lt_size q
  refine ⟨.ref s.heap.objs.size,_,I1,rfl,⟨_,x,y,fr,rfl,rfl,fun ws hw=>by rw [hq1] at hw; cases hw; exact hx,fun ws hw=>by rw [hq2] at hw; cases hw; exact hy⟩,⟨he2,(hs2.2 _ (Ne.symm n1)).trans (hk TI _ (Ne.symm n1) n5 n6 n7 ti),⟨_,_,(hs2.2 _ (Ne.symm n2)).trans to'⟩,t1'.extBut hs2.extBut (Ne.symm n3),t2'.extBut hs2.extBut (Ne.symm n4)⟩,fun c hc=>?_⟩
  rw [av (ne2 c (lt c hc))]
  exact (hf c hc).1
 done:=by
  intro X hP hw hK hc i pins s σ H E I hf st hg
  subst hP hw hK
  obtain ⟨xs,ys,hq1,hq2,hend⟩:=hg
  obtain ⟨hz,ti,⟨ox,oy,to⟩,t1,t2⟩:=st
  obtain ⟨its1,rv1,p1,hz1⟩:=I.list (SqL.of hq1)
  obtain ⟨its2,rv2,p2,hz2⟩:=I.list (SqL.of hq2)
  obtain ⟨m1,m2,m3,m4,m5⟩:=gG (z:=z) (TI:=TI) (TO:=TO) (i1:=i1) (i2:=i2)
  have fz:=hf z m1; have fO:=hf TO m3; have f1:=hf i1 m4; have f2:=hf i2 m5
  obtain ⟨⟨n1,n2,n3,n4⟩,⟨n5,n6,n7⟩,⟨n8,n9⟩,n10⟩:=nd5 nd
  have la:∀ {c:Addr},H c=none→a≠c:=fun h=>ap hq1 h
  have lb:∀ {c:Addr},H c=none→b≠c:=fun h=>ap hq2 h
  have AP:ZipApart z TI TO i1 i2 a b:=⟨Ne.symm n1,Ne.symm n2,Ne.symm n3,Ne.symm n4,n5,n6,n7,n8,n9,n10,la fz.1,la fO.1,la f1.1,la f2.1,lb fz.1,lb fO.1,lb f1.1,lb f2.1⟩
  have l1:=rv1.length
  have l2:=rv2.length
  refine wpAny_pyNext_zip_end (I.ok.hd hc) AP hz ti to t1 t2 p1.isList p2.isList (by rcases hend with h | h; exact .inl (by simp; omega); exact .inr (by simp; omega)) fun h' hk=>⟨rfl,?_⟩
  have trk:∀ c o,H c=some o→c≠z∧c≠TO∧c≠i1∧c≠i2:=fun c o q=>⟨ap q fz.1,ap q fO.1,ap q f1.1,ap q f2.1⟩
  refine I.step (g':=s.gens) (d':=s.drawn) (t':=s.toks) (ch:=[z,TO,i1,i2]) (fun c hc=>?_) (fun c o _ _ hc q _=>by obtain ⟨z1,z2,z3,z4⟩:=i4 hc; exact hk c o z1 z2 z3 z4 q) (fun c o _ _ hc q _=>by obtain ⟨z1,z2,z3,z4⟩:=i4 hc; exact ⟨o.slots,hk c o z1 z2 z3 z4 q⟩)
   (fun _ _ _ _ n=>n) (fun c o hc q=>by obtain ⟨z1,z2,z3,z4⟩:=i4 hc; exact ⟨o,hk c o z1 z2 z3 z4 q⟩) (fun _ _ e=>e) (fun _ _ _ e=>e) (fun c ps _ e=>⟨#[],by rw [e]; simp⟩) (fun m hm=>?_) (fun c o q=>?_) I.bare
  ·rcases mem4 hc with rfl | rfl | rfl | rfl
   ·exact ⟨fz.2.2.2.1,fz.2.1,fz.2.2.2.2.1,fz.2.2.2.2.2⟩
   ·exact ⟨fO.2.2.2.1,fO.2.1,fO.2.2.2.2.1,fO.2.2.2.2.2⟩
   ·exact ⟨f1.2.2.2.1,f1.2.1,f1.2.2.2.2.1,f1.2.2.2.2.2⟩
   ·exact ⟨f2.2.2.2.1,f2.2.1,f2.2.2.2.2.1,f2.2.2.2.2.2⟩
  ·obtain ⟨o,es',ep,ho,r⟩:=hm
   exact ⟨o,es',ep,hk _ o (Ne.symm fz.2.1) (Ne.symm fO.2.1) (Ne.symm f1.2.1) (Ne.symm f2.2.1) ho,r⟩
  ·refine (I.hok c o q).stay (fun d v' hc q'=>?_) (fun _ z=>z) (fun _ _ z=>z) fun _ _ _ z=>z
   rcases hc with rfl | hc
   ·obtain ⟨z1,z2,z3,z4⟩:=trk d _ q; exact hk d v' z1 z2 z3 z4 q'
   ·obtain ⟨z1,z2,z3,z4⟩:=trk d _ hc; exact hk d v' z1 z2 z3 z4 q'
 self:=fun _ _ _ _ _ st h=>wpAny_pyIter_zip st.hz h
section
variable {X:Cx} {es:List Expr} {k:Nat} {tpos:Pos}
def iZip (ta:TA):TI:=fun σ H R=>ta σ H fun vs H1=>∃ a b,vs=[.ref a,.ref b]∧(∃ xs,H1 a=some (.lst xs))∧(∃ ys,H1 b=some (.lst ys))∧R (Itz a b) H1
theorem wy {l m:Expr} {ta:TA} {p pos:Pos} (hg:Gl X "zip") (hm:X.mg "zip" = none) (ha:PA X [l,m] ta) (hs:starEach [l,m] X.env=[(false,eval l X.env),(false,eval m X.env)]:=by rfl) (hs2:(backTo pos (starEach [m] X.env)).any (·.1)=false:=by rfl) (hs3:starEach [l,m] X.env=(false,eval l X.env) :: starEach [m] X.env:=by rfl):PI X (.Tuple es k tpos) (.Call (.Name "zip" p) [l,m] [] pos) (iZip ta):=by
 refine ⟨fun pins s σ H R I h=>?_⟩
 refine wpAny_Call_Name_kw (dG I hg hm u9 ?_)
 refine PyProof.Rows.callWith_type1 (thn (ha pos pins s σ H _ I h) fun us s1 ⟨vs,H1,I1,r1,a,b,e,⟨xs,hx⟩,⟨ys,hy⟩,q⟩=>?_) hs3 hs2
 subst e
 obtain ⟨u,v,rfl,ru,rv⟩:=mJ r1
 cases ru; cases rv
 obtain ⟨its1,rv1,p1,_⟩:=I1.list (SqL.of hx)
 obtain ⟨its2,rv2,p2,_⟩:=I1.list (SqL.of hy)
 refine call_zip_2 p1.isList p2.isList fun h' hz ti to t1 t2 hsz hk=>?_
 have I2:Inv X pins σ H1 { s1 with heap:=h' }:=I1.kept (t':=s1.toks) hk
 have nd : [s1.heap.objs.size + 4,s1.heap.objs.size + 2,s1.heap.objs.size + 3,s1.heap.objs.size,s1.heap.objs.size + 1].Nodup:=by
  simp only [List.nodup_cons,List.mem_cons,List.not_mem_nil,or_false,not_or,not_false_eq_true,List.nodup_nil,and_true]
  refine ⟨⟨?_,?_,?_,?_⟩,⟨?_,?_,?_⟩,⟨?_,?_⟩,?_⟩ <;> omega
 refine wpAny_pyIter_zip hz ⟨s1.heap.objs.size + 4,_,_,Itz a b,H1,rfl,I2,re a b _ _ _ _ _ nd,⟨hz,ti,⟨_,_,to⟩,t1,t2⟩,fun c hc=>?_,q⟩
 have hc':s1.heap.objs.size≤c:=by
  rcases mem5 hc with rfl | rfl | rfl | rfl | rfl
  ·exact Nat.le_add_right _ 4
  ·exact Nat.le_add_right _ 2
  ·exact Nat.le_add_right _ 3
  ·exact Nat.le_refl _
  ·exact Nat.le_add_right _ 1
 exact I1.fpOk (H':=H1) hc' (I1.hok.fresh hc')
variable {ow:List Bool} {a b:Expr} {mr:MA} {pos:Pos}
def iN (ds es:List D):List D:=List.zipWith (fun a b=>.tup [a,b]) ds es
theorem jQ {ds es:List D} {i:Nat} {d:D} (h:(iN ds es)[i]? = some d):∃ x y,ds[i]? = some x∧es[i]? = some y∧d = .tup [x,y]:=by
 unfold iN at h
 rw [List.getElem?_zipWith] at h
 cases e1:ds[i]? with
 | none=>rw [e1] at h; cases h
 | some x =>
  cases e2:es[i]? with
  | none=>rw [e1,e2] at h; cases h
  | some y=>rw [e1,e2] at h; exact ⟨x,y,rfl,rfl,(Option.some.inj h).symm⟩
theorem uZ {G:Hp} {p q:Addr} {xs ys:List V} {ds es:List D} (h1:G p=some (.lst xs)) (h2:Reps G ds xs) (h3:G q=some (.lst ys)) (h4:Reps G es ys):jL (Itz p q) G (iN ds es):=fun C ow G' ρ σ H pd i z r=>by
 have hp:=r.gh _ _ (z _ _ h1)
 have hq:=r.gh _ _ (z _ _ h3)
 refine ⟨fun hl=>⟨xs,ys,hp,hq,?_⟩,fun d e=>?_⟩
 ·rw [h2.length,h4.length]
  unfold iN at hl
  rw [List.length_zipWith] at hl
  omega
 ·obtain ⟨x,y,e1,e2,rfl⟩:=jQ e
  obtain ⟨v,g1,g2⟩:=cC h2 e1
  obtain ⟨u,g3,g4⟩:=cC h4 e2
  refine ⟨⟨xs,ys,v,u,hp,hq,g1,g3⟩,fun w H' hy=>?_⟩
  obtain ⟨t,x',y',ht,rfl,rfl,hy1,hy2⟩:=hy
  have z1:=hy1 xs hp
  rw [g1] at z1; cases z1
  have z2:=hy2 ys hq
  rw [g3] at z2; cases z2
  obtain ⟨O,r⟩:=r
  obtain ⟨r2,s2⟩:=r.new ht (.tup [v,u])
  exact ⟨_,s2,⟨O,r2⟩,gO aG (bi (Rep.mono (z.trans s2) _ _ g2) (bi (Rep.mono (z.trans s2) _ _ g4) bz))⟩
def miZip (m:MA):MA:=fun ρ q=>m ρ fun ds ρ'=>match ds with
 | [.lst ds,.lst es]=>q (iN ds es) ρ'
 | _=>False
theorem pP {p:Pos} (hg:Gl X "zip") (hm:X.mg "zip" = none) (ha:QA X ow [a,b] mr) (hs:starEach [a,b] X.env=[(false,eval a X.env),(false,eval b X.env)]:=by rfl) (hs2:(backTo pos (starEach [b] X.env)).any (·.1)=false:=by rfl) (hs3:starEach [a,b] X.env=(false,eval a X.env) :: starEach [b] X.env:=by rfl):QI X ow (.Tuple es k tpos) (.Call (.Name "zip" p) [a,b] [] pos) (miZip mr):=by
 obtain ⟨t,p,s⟩:=ha
 refine ⟨_,wy hg hm p hs hs2 hs3,fun C G ρ σ H pd q Q r hm k=>s C G ρ σ H pd _ _ r hm fun ds ρ' vs G' H' hq z kp r' p hn=>?_⟩
 split at hq
 ·obtain ⟨v,u,rfl,p1,p2⟩:=dN p
  obtain ⟨a1,xs,rfl,h1,h2⟩:=aJ p1
  obtain ⟨a2,ys,rfl,h3,h4⟩:=aJ p2
  exact ⟨a1,a2,rfl,⟨xs,r'.gh _ _ h1⟩,⟨ys,r'.gh _ _ h3⟩,k _ ρ' G' H' _ hq z kp r' (uZ h1 h2 h3 h4)⟩
 ·exact hq.elim
end
end L2
namespace L2
open PySem
theorem e_ {ps rs:List Int} (hT:Tree ps rs) {a b:Int} (he:Ends2 ps a b):(fh ps a b).length≤46:=by
 obtain ⟨w,hw,e⟩:=cP hT he.a0 he.b0 he.a1 he.b1
 have h1:=hw.len hT he.a0 he.b0 he.a1 he.b1
 have h2:=hT.hi
 have h3:=he.a1; have h4:=he.b1
 rw [e]
 have:=(aS w).length_eq
 omega
theorem ji {ps rs:List Int} (hT:Tree ps rs) {a b:Int} (he:Ends2 ps a b) : 0<(fh ps a b).length:=by
 obtain ⟨w,hw,e⟩:=cP hT he.a0 he.b0 he.a1 he.b1
 rw [e]
 have:=(aS w).length_eq
 have hne:=he.ne
 generalize bw ps a b=m at hw
 cases hw with
 | same=>exact absurd rfl hne
 | left _ _=>rw [List.length_cons] at this; omega
 | right _ _=>rw [List.length_cons] at this; omega
end L2
namespace L2
open PySem PySem.Spec PyProof.Rows
section
variable {M:Model} {A:Around} {E:Value→Shared→Prop} {s:Shared}
end
section
variable {X:Cx} {pins:List (Addr×Obj)} {σ:St} {H H':Hp} {s s':Shared} {e:Addr} {cls:Value} {dx:Option Addr} {T:Option Addr}
end
section
variable {X:Cx} {x:Str} {p pos:Pos} {e:Expr} {es:List Expr} {t:TA} {k:Nat} {f:Addr} {fd:FuncData} {ps:List Str} {sp:Sp} {xk:XS}
end
section
variable {X:Cx} {pins:List (Addr×Obj)} {σ:St} {H:Hp} {s:Shared} {xk:XS}
variable {x:Str} {C:Addr} {bm:List Value} {e:Expr} {args:List Expr} {np cpos pos:Pos} {t:TA}
end
section
variable {X:Cx} {pins p:List (Addr×Obj)} {σ:St} {H:Hp} {s:Shared} {E:Value→Shared→Prop} {v:Value}
variable {e:Addr} {cls:Value} {dx T:Option Addr}
variable {x n:Str} {i:Nat} {C D0:Addr} {bm bmD:List Value} {ini iniD:Option Value} {b0:Stmt} {suite:List Stmt} {np npos:Pos} {ts:TS} {D:Ends} {t:Addr}
end
section
variable {X:Cx} {E:Value→Shared→Prop} {p:List (Addr×Obj)}
end
section
variable {X:Cx} {M:Md} {a b c e:Expr} {mt:MT} {pos pos':Pos} {st:Stmt} {rest:List Stmt} {m:MS} {m1 m2:MSX} {mex:MEX}
variable {mg:MG}
variable {es:List Expr} {ks:List AK} {mr:MA} {x:Str} {p':Pos} {ow:List Bool}
end
section
variable {X:Cx} {M:Md} {e:Expr} {es:List Expr} {ks:List AK} {mr:MA} {x:Str} {pos p':Pos} {ow:List Bool} {mu:List Bool} {k:Nat} {f:Addr} {fd:FuncData} {ps:List Str} {sd:SpX}
end
end L2
namespace L2
open PySem PySem.Spec PyProof.Rows PySem.W Builtin.ObjectAttr
section
variable {prog:Program} {w:World} {A:Around} {E:Value→Shared→Prop} {s:Shared} {K:PySem.W.Frag} {x D:Addr} {ox:Obj} {od:Option Obj} {name:Str} {bm:List Value} {ini:Option Value} {tk:Tok}
end
end L2
namespace L2
open PySem PySem.Spec PyProof.Rows
section
variable {X:Cx}
variable {ow:List Bool} {a:Expr} {ma:ME} {pos:Pos}
end
section
variable {K:PySem.W.Frag} {C a N:Addr} {dd nd:Option Addr} {nm qn:Str} {bs bm sub:List Value} {hd ab:Bool} {sn:List Str} {col:Option Bool} {k0 k1 k2 k3 k5 ini:Option Value} {no:Value} {es:Array DictEntry} {np:Nat} {nl:Array (Option Value)} {sl:Array (Option Value)} {oc:Value} {cd:ClassData}
end
section
variable {X:Cx}
variable {ow:List Bool} {a:Expr} {ma:ME} {pos:Pos}
end
section
variable {K:PySem.W.Frag} {t c:Value} {cs:List Value} {b:Bool}
end
section
variable {prog:Program} {w:World} {A:Around} {E:Value→Shared→Prop} {h:Heap} {g:Array GenState} {d:Drawn} {t:Nat} {os:OsState}
variable {nm q:Str} {C N:Addr} {bs bm:List Value} {hdct:Bool} {sn:List Str} {sub:List Value} {ab:Bool} {col:Option Bool} {dd:Option Addr} {k0 k1 k2 k3 k5:Option Value}
end
section
variable {prog:Program} {w:World} {A:Around} {E:Value→Shared→Prop} {h:Heap} {g:Array GenState} {d:Drawn} {t:Nat} {os:OsState}
variable {nm q:Str} {C N:Addr} {bs bm:List Value} {hdct:Bool} {sn:List Str} {sub:List Value} {ab:Bool} {col:Option Bool} {dd:Option Addr} {k0 k1 k2 k3 k5:Option Value}
end
end L2
namespace L2
open PySem PySem.Spec PyProof.Rows PySem.W Builtin.ObjectAttr Builtin
section
variable {prog:Program} {w:World} {A:Around} {E:Value→Shared→Prop} {s:Shared} {K:PySem.W.Frag} {x C:Addr} {ox:Obj} {od:Option Obj} {name:Str} {bm:List Value} {ini:Option Value} {v:Value}
end
end L2
namespace L2
open PySem PySem.Spec PyProof.Rows
section
variable {X:Cx} {pins:List (Addr×Obj)} {σ:St} {H:Hp} {s:Shared} {e C fI:Addr} {bm:List Value}
end
section
variable {prog:Program} {w:World} {A:Around} {E:Value→Shared→Prop} {s:Shared} {env:Env}
end
section
variable {X:Cx} {xk:XS} {x:Str} {C fI:Addr} {bm:List Value} {e:Expr} {args:List Expr} {np cpos pos:Pos} {t:TA} {k:Nat} {fd:FuncData} {ps ns:List Str}
end
section
variable {X:Cx} {M:Md} {e:Expr} {es:List Expr} {mr:MA} {x:Str} {pos:Pos} {k:Nat} {fd:FuncData} {ps ns:List Str}
end
section
variable {X:Cx} {es:List Expr} {c:St→Prop}
end
section
variable {X:Cx} {C B:Addr} {bm:List Value} {ini:Option Value} {x:Str} {a b:Expr} {np apos pos pos':Pos} {t:TA}
end
section
variable {X:Cx} {pins:List (Addr×Obj)} {σ:St} {H:Hp} {s:Shared} {h':Heap} {a:Addr} {oa od:HO}
end
section
variable {X:Cx} {C:Addr} {bm:List Value} {ini:Option Value} {f:Str} {o value:Expr} {pos pos':Pos} {ta tv:TE}
end
section
variable {X:Cx} {ow:List Bool} {a:Expr} {ma:ME} {pos:Pos} {f:Str}
end
section
variable {X:Cx}
variable {ow:List Bool} {e:Expr} {ma:ME}
end
section
variable {X:Cx} {M:Md} {ow:List Bool} {a e:Expr} {es:List Expr} {pos:Pos} {mex:MEX} {m1:MSX} {mg:MG}
variable {x:Str} {p':Pos} {ma:ME}
end
section
variable {C:Ctx} {ow:List Bool} {G:Hp} {ρ:DSt} {σ:St} {H:Hp} {pd:List (D×V)} {O:Own} {p:Addr} {xs:List V}
end
section
variable {X:Cx} {ow:List Bool} {a b e:Expr} {es:List Expr} {ma mb:ME} {mr:MA} {pos:Pos} {x:Str} {p':Pos}
end
section
variable {X:Cx} {M:Md} {i:Nat} {st:Stmt} {rest:List Stmt} {m1 m2:MFl} {me:MFe} {ms:MS} {pos pos':Pos}
variable {e b c:Expr} {ma mb:ME} {mt:MT}
end
section
variable {C:Ctx} {ow:List Bool} {i:Nat} {G:Hp} {ρ:DSt} {σ:St} {H:Hp} {p:Addr} {ds:List D}
end
section
variable {X:Cx} {M:Md} {i:Nat} {pos pos':Pos} {e c:Expr} {ma:ME} {mt:MT} {m1 m2:MFl}
end
section
variable {X:Cx} {M:Md} {a b e:Expr} {ma mb:ME} {pos:Pos}
end
section
variable {X:Cx} {M:Md} {a b:Expr} {ma mb:ME} {pos:Pos}
end
section
variable {X:Cx} {pos p1 p2 q1 q2:Pos} {n1 n2:Nat} {k1 k2 x y:Str} {i j:Nat} {ow:List Bool}
end
section
variable {X:Cx} {ow:List Bool} {a b e:Expr} {ma mb:ME} {pos p2:Pos} {lo hi:Option Expr} {ml mh:MO}
def mSlT (m:ME) (ml mh:MO):ME:=fun ρ q=>m ρ fun d ρ1=>ml ρ1 fun lo ρ2=>mh ρ2 fun hi ρ3=>match d with
 | .tup ds=>¬ (HT.sIx ds.length 0 lo=0∧HT.sIx ds.length ds.length hi=ds.length)∧q (.tup (cutD ds lo hi)) ρ3
 | _=>False
theorem nU (h:QE X ow e ma) (hl:QO X ow lo ml) (hh:QO X ow hi mh):QE X ow (.Subscript e (.Slice lo hi none p2) pos) (mSlT ma ml mh):=by
 obtain ⟨t,p,s⟩:=h; obtain ⟨t1,p1,s1⟩:=hl; obtain ⟨t2,p2,s2⟩:=hh
 refine ⟨_,pB uN p p1 p2,fun C G ρ σ H pd q Q r hm k=>s C G ρ σ H pd _ _ r hm fun d ρ' v G' H' hq z kp r' p=>?_⟩
 refine s1 C G' ρ' σ H' pd _ _ r' hq fun l ρ1 G1 H1 hq1 z1 kp1 r1=>s2 C G1 ρ1 σ H1 pd _ _ r1 hq1 fun u ρ2 G2 H2 hq2 z2 kp2 r2=>?_
 cases d with
 | tup ds =>
  obtain ⟨a,xs,rfl,h1,h2⟩:=cr (Rep.mono (z1.trans z2) _ _ p)
  refine ⟨a,xs,rfl,SqT.of (r2.gh _ _ h1),by rw [h2.length]; exact hq2.1,fun b hb=>?_⟩
  obtain ⟨O,r2⟩:=r2
  obtain ⟨r3,z3⟩:=r2.new hb (.tup (jr xs l u))
  exact k _ ρ2 _ _ _ hq2.2 (z.trans (z1.trans (z2.trans z3))) (kp.trans (kp1.trans kp2)) ⟨O,r3⟩ (gO aG (Reps.mono z3 _ _ (rE h2 _ _)))
 | _=>exact hq2.elim
end
section
variable {X:Cx} {M:Md} {i:Nat} {st:Stmt} {m:MFl}
end
mutual
def pln:D→Bool
 | .tup ds=>plns ds
 | .lst ds=>plns ds
 | .scr _ _=>false
 | .ext _=>false
 | _=>true
def plns:List D→Bool
 | []=>true
 | d :: ds=>pln d&&plns ds
end
theorem nh {d:D} (h:pln d=true):d.isS=false:=by
 cases d <;> first | rfl | (rw [pln] at h; cases h)
theorem f7 {d:D} {ds:List D}:plns (d :: ds)=true↔pln d=true∧plns ds=true:=by rw [plns,Bool.and_eq_true]
theorem mq:∀ {ds:List D},(∀ d∈ds,pln d=true)→plns ds=true
 | [],_=>rfl
 | d :: ds,h=>f7.mpr ⟨h d (by simp),mq fun x hx=>h x (by simp [hx])⟩
theorem h9:∀ {ds:List D} {d:D},plns ds=true→d∈ds→pln d=true
 | x :: ds,d,h,e=>by
  rcases List.mem_cons.mp e with rfl | e
  ·exact (f7.mp h).1
  ·exact h9 (f7.mp h).2 e
theorem oq (ns:List Int):plns (ns.map D.int)=true:=mq fun d h=>by
 obtain ⟨x,_,rfl⟩:=List.mem_map.mp h; rfl
theorem dU (ns:List Int):pln (af ns)=true:=by unfold af; rw [pln]; exact oq ns
theorem i_ {lo hi:Int} {d:D} (h:btw lo hi d=true):∃ i,d = .int i∧lo≤i∧i≤hi:=by
 cases d with
 | int i=>simp only [btw,Bool.and_eq_true,decide_eq_true_eq] at h; exact ⟨i,rfl,h.1,h.2⟩
 | _=>cases h
def iu:D→Int
 | .int z=>z
 | _=>0
section
variable {X:Cx}
theorem iU (hc:X.calm=true):bT X (.builtin "max") (fun xs H Q=>∃ (p:Addr) (ns:List Int),xs=[.ref p]∧SqL X.K H p (ns.map V.int)∧0<ns.length∧∀ m,m∈ns→(∀ a,a∈ns→a≤m)→Q (.int m) H):=by
 intro pins s σ H xs us Q I r h
 obtain ⟨p,ns,rfl,hS,hne,q⟩:=h
 obtain ⟨u,rfl,ru⟩:=dr r
 cases ru
 obtain ⟨its,rv,hl⟩:=dh I hS
 have hI₂:IntsAre its ns:=cY rv
 obtain ⟨ys,hys⟩:=hI₂.allInts.items
 have hlY:s.heap.IsList p (intItems ys):=hys ▸ hl
 have eY:ns=ys.toList.map (·.1):=by
  rw [← nums_intItems,← hys]; exact Eq.symm (show numsOf its.toArray.toList=ns from hI₂.numsOf)
 have hsz : 0<ys.size:=by rw [eY,List.length_map,Array.length_toList] at hne; exact hne
 refine max_intList (I.ok.hd hc) hlY hsz fun v hp tk₁ hv kept=>?_
 obtain ⟨t,rfl⟩:=intItems_at hv
 obtain ⟨h1,h2⟩:=argBest_gt (numAt ys) (ys.size - 1)
 refine ⟨.int _,H,I.kept kept,⟨t,rfl⟩,q _ ?_ fun a ha=>?_⟩
 ·rw [numAt_eq,eY]; exact PySem.getD_mem (by rw [List.length_map,Array.length_toList]; omega)
 ·rw [eY] at ha
  obtain ⟨j,hj,rfl⟩:=PySem.mem_getD ha
  rw [List.length_map,Array.length_toList] at hj
  rw [← numAt_eq]; exact h2 j (by omega)
end
def ud:List D→(D→Prop)→Prop:=fun ds q=>match ds with
 | [.lst xs]=>∃ ns:List Int,xs=ns.map D.int∧0<ns.length∧∀ m,m∈ns→(∀ a,a∈ns→a≤m)→q (.int m)
 | _=>False
theorem t9 {K:PySem.W.Frag}:fk (fun xs H Q=>∃ (p:Addr) (ns:List Int),xs=[.ref p]∧SqL K H p (ns.map V.int)∧0<ns.length∧∀ m,m∈ns→(∀ a,a∈ns→a≤m)→Q (.int m) H) ud:=fun G H xs ds q Q s p hf k=>by
 unfold ud at hf
 split at hf
 ·obtain ⟨v,rfl,p1⟩:=be p
  obtain ⟨a,xs,rfl,h1,h2⟩:=aJ p1
  obtain ⟨ns,rfl,hn,hq⟩:=hf
  rw [bd h2] at h1
  exact ⟨a,ns,rfl,SqL.of (s _ _ h1),hn,fun m hm hx=>k _ _ (hq m hm hx) (bn _)⟩
 ·exact hf.elim
end L2
namespace L2
open PySem
end L2
namespace L2
open PySem PySem.Spec PyProof.Rows
section
variable {X:Cx}
def rPopI:V→List V→Hp→VK→Prop:=fun x vs H Q=>∃ (l:Addr) (ns:List Int) (k:Int),x = .ref l∧vs=[.int k]∧H l=some (.lst (ns.map V.int))∧0≤k∧k<(ns.length:Int)∧Q (.int (ns.getD k.toNat 0)) (upd H l (.lst ((ns.eraseIdx k.toNat).map V.int)))
theorem sj:MtM X "list.pop" rPopI:=by
 (try refine ⟨?_⟩); intro pins s σ H x vs v us Q I rx rv h
 obtain ⟨l,ns,k,rfl,rfl,hH,k0,k1,q⟩:=h
 cases rx
 obtain ⟨u,rfl,ru⟩:=rv.one
 obtain ⟨t,rfl⟩:=ru
 obtain ⟨z,its,n,r,hl,e⟩:=I.lstM hH
 obtain ⟨h1,h2⟩:=fv r
 have hk:k.toNat<its.length:=by omega
 obtain ⟨t',e'⟩:=h2 k.toNat hk
 have hz:its.length≤sizeLine:=by
  have:=r.length
  rw [← this]; exact z
 refine call_meets F.slot_list_pop ⟨_,e,rfl⟩ F.entry_list_pop (F.args_list_pop_2 _ _)
  (MeetsSeq.list_pop_at l its.toArray n k t k.toNat (.int (ns.getD k.toNat 0) t') ?_ ?_ ?_ (by rw [List.size_toArray]; exact hz)) ⟨e,?_⟩
 ·have hz2:its.length≤2 ^ 24:=hz
  have:(ns.length:Int)≤2 ^ 24:=by omega
  unfold Builtin.List.listFitsIndex
  simp
  omega
 ·unfold seqIndex?
  simp [show ¬ k<0 by omega]
  omega
 ·rw [List.getElem?_toArray,List.getElem?_eq_getElem hk,e']
 ·refine ⟨.int (ns.getD k.toNat 0),_,I.lset (its':=its.eraseIdx k.toNat) hH e ?_ ?_ ?_,⟨t',rfl⟩,q⟩
  ·rw [List.eraseIdxIfInBounds_toArray]
  ·rw [d9]; exact r.eraseIdx _
  ·rw [List.length_map]
   have:=List.length_eraseIdx_le (l:=ns) (i:=k.toNat)
   rw [List.length_map] at *
   omega
end
section
variable {X:Cx} {M:Md} {e:Expr} {ma:ME} {pos:Pos}
def tV (i:Nat) (m:ME):ME:=fun ρ q=>match ρ[i]? with
 | some (some (.lst _))=>m ρ fun d ρ1=>match ρ1[i]? with
  | some (some (.lst ds))=>∃ (ns:List Int) (k:Int),d = .int k∧ds=ns.map D.int∧0≤k∧k<(ns.length:Int)∧q (.int (ns.getD k.toNat 0)) (ρ1.set i (some (af (ns.eraseIdx k.toNat))))
  | _=>False
 | _=>False
theorem mP {ow:List Bool} {i:Nat} {x:Str} {apos cpos npos:Pos} (hN:X.N[i]? = some x) (he:QE X ow e ma) (ho:ow[i]? = some true:=by decide)
 (hv:Vis X.env.scope x:=by first | exact Or.inl rfl | exact Or.inr (Or.inl rfl) | exact Or.inr (Or.inr rfl)) (hd:(x == ("__debug__":Str))=false:=by decide) (hcd:(x == ("__classdict__":Str))=false:=by decide)
 (hbase:attributeBase (.Name x npos) "pop" X.env (eval (.Name x npos) X.env)=eval (.Name x npos) X.env:=by rfl)
 (hfew:((backTo cpos (starEach [e] X.env)).all (fun x=>!x.1)&&(backToKw cpos (keywordEach [] X.env)).all (fun x=>x.1.isSome)
  && decide ([e].length + ([]:List Keyword).length + (if ([]:List Keyword).isEmpty then 0 else 1)<30))=true:=by rfl)
 (hline:(apos.endLine == cpos.line)=true:=by rfl) (hst:starEach [e] X.env=[(false,eval e X.env)]:=by rfl) :
 QE X ow (.Call (.Attribute (.Name x npos) "pop" apos) [e] [] cpos) (tV i ma):=by
 obtain ⟨t,p,s⟩:=he
 refine ⟨_,nj PySem.F.plainAttrs_list PySem.F.slot_list_pop PySem.F.type_list_pop sj (dC hN hv hd hcd) (bq p cx hst) hbase hfew hline hst (by rfl),fun C G ρ σ H pd q Q r h k=>?_⟩
 unfold tV at h
 split at h
 ·rename_i ds e1
  obtain ⟨O,ro⟩:=r
  obtain ⟨a,xs,h1,h2,_,_⟩:=ro.write e1 ho
  refine ⟨.ref a,h1,.inl ⟨rfl,xs,SqL.of h2⟩,?_⟩
  refine s C G ρ σ H pd _ _ ⟨O,ro⟩ h fun d ρ' v G' H' hq z kp r' pd'=>?_
  split at hq
  ·rename_i ds' e2
   obtain ⟨ns,kk,rfl,rfl,k0,k1,hq⟩:=hq
   obtain ⟨O',r'⟩:=r'
   obtain ⟨a',xs',g1,g2,g3,g4⟩:=r'.write e2 ho
   rw [h1] at g1; cases g1
   have ex:xs'=ns.map V.int:=bd (Seps.imm _ _ _ _ (aO ns) g3)
   subst ex
   refine ⟨a,ns,kk,rfl,by rw [ay pd'],g2,k0,k1,?_⟩
   exact k _ _ _ G' _ hq z (fun j hj=>(List.getElem?_set_ne (fun (z:i=j)=>hj (z ▸ ho))).trans (kp j hj)) ⟨O',g4 _ _ (Reps.sep _ _ _ _ (aO _) (cn _))⟩ (bn _)
  ·exact hq.elim
 ·exact h.elim
end
section
variable {X:Cx} {M:Md} {i:Nat} {st:Stmt} {rest:List Stmt} {m1 m2:MFl} {me:MFe} {pos pos':Pos} {e:Expr} {ma:ME}
end
section
variable {X:Cx} {M:Md} {elt tg iter:Expr} {ifs:List Expr} {pos:Pos} {mi:MA} {mg:MG} {mt:MT} {me:ME} {scope:Scope} {cl:List (Str×Addr)} {rest:List Stmt} {mf:MFe}
end
section
variable {X:Cx} {ow:List Bool} {e:Expr} {ma:ME} {pos p2:Pos} {lo hi:Option Expr} {ml mh:MO}
end
end L2
namespace L2
open PySem
theorem fw:∀ {l:List Int} {i:Nat} (h:i<l.length),(l[i] :: l.eraseIdx i).Perm l
 | [],_,h=>absurd h (by simp)
 | _ :: _,0,_=>.refl _
 | x :: l,i + 1,h=>(List.Perm.swap x (l[i]'(by simpa using h)) (l.eraseIdx i)).trans ((fw (l:=l) (i:=i) (by simpa using h)).cons x)
end L2
namespace L2
open PySem PySem.Spec PyProof.Rows
section
variable {X:Cx} {pins p:List (Addr×Obj)} {σ:St} {H:Hp} {s:Shared} {E:Value→Shared→Prop} {v:Value} {e:Addr} {cls:Value} {dx T:Option Addr}
variable {x:Str} {C D0:Addr} {bm bmD:List Value} {ini iniD:Option Value} {b0:Stmt} {suite:List Stmt} {np npos:Pos} {ts:TS} {D:Ends} {t:Addr}
end
section
variable {X:Cx} {ow:List Bool} {a b:Expr} {mex:MEX} {mb:ME} {pos:Pos}
end
end L2
namespace L2
open PySem
end L2
namespace L2
open PySem PySem.Spec PyProof.Rows
section
variable {X:Cx} {pos p1 q1:Pos} {n1:Nat} {k1:Int} {x:Str} {i:Nat} {ow:List Bool}
end
section
variable {X:Cx} {ow:List Bool} {es:List Expr} {mr:MA} {pos:Pos}
end
end L2
namespace L2
open PySem
end L2
namespace L2
open PySem PySem.Spec PyProof.Rows
theorem lB:bootBuiltins "all" = some (.builtin "all"):=by decide +kernel
section
variable {X:Cx}
end
section
variable {X:Cx} {M:Md} {e e':Expr} {mr:MA} {pos:Pos}
end
end L2
namespace L2
open PySem
def dl (ws:List (List Int)):D:=.lst (ws.map af)
def aF (ps:List Int) (as:List Ask):List (List Int):=as.map (ax ps)
def rB:SpD:=fun ds q=>∃ ps rs as,ds=[aZ ps rs,dg as]∧Tree ps rs∧AsksOk ps as∧q (dl (aF ps as)) []
def wayF (ps:List Int):D→D
 | .tup [.int a,.int b,_,_]=>af (fh ps a b)
 | d=>d
theorem kD (ps:List Int) (as:List Ask):(as.map er).map (wayF ps)=(aF ps as).map af:=by
 unfold aF; rw [List.map_map,List.map_map]; rfl
def aK (as:List Ask) (k:Int):Ask:=as.getD k.toNat jy
def qY:SpD:=fun ds q=>∃ c m most,ds=[af [c,m],.int most]∧0≤c∧1≤most∧most≤1000000000000∧∀ n c' m',1≤n→n≤most→0≤c'→q (.int n) [some (af [c',m'])]
structure ParOk (ps:List Int):Prop where
 lo : 1≤ps.length
 hi:ps.length≤23
 par:∀ (i:Nat) (x:Int),ps[i]? = some x→0≤x∧x≤i
structure RoomOk (n:Nat) (least:Int) (rs:List Int):Prop where
 len:rs.length=n
 room:∀ (i:Nat) (x:Int),rs[i]? = some x→least≤x∧x≤1000000
theorem ParOk.tree {ps rs:List Int} {least:Int} (h:ParOk ps) (r:RoomOk ps.length least rs) (hl : 1≤least):Tree ps rs:=⟨r.len.symm,h.lo,h.hi,h.par,fun i x e=>by have:=r.room i x e; omega⟩
def nY:SpD:=fun ds q=>∃ c m most,ds=[af [c,m],.int most]∧0≤c∧1≤most∧most≤23∧∀ ps c' m',ParOk ps→(ps.length:Int)≤most→0≤c'→q (af ps) [some (af [c',m'])]
def s9:SpD:=fun ds q=>∃ c m n least,ds=[af [c,m],.int ((n:Nat):Int),.int least]∧0≤c∧1≤n∧n≤23∧1≤least∧least≤2∧∀ rs c' m',RoomOk n least rs→0≤c'→q (af rs) [some (af [c',m'])]
def sZ:SpD:=fun ds q=>∃ c m n,ds=[af [c,m],.int ((n:Nat):Int)]∧0≤c∧1≤n∧n≤23∧∀ a b c' m',0≤a→a≤(n:Int)→0≤b→b≤(n:Int)→a≠b→0≤c'→q (.tup [.int a,.int b]) [some (af [c',m'])]
def sdUpP:SpD:=fun ds q=>∃ ps rs k,ds=[af ps,.int k]∧Tree ps rs∧0≤k∧k≤ps.length∧∀ v,Up ps k (v++[0])→q (af v) []
def uH:SpD:=fun ds q=>∃ ps rs a b rest,ds=[af ps,.tup (.int a :: .int b :: rest)]∧Tree ps rs∧0≤a∧a≤ps.length∧0≤b∧b≤ps.length∧q (af (fh ps a b)) []
theorem Up.split {ps:List Int} {k:Int} {u:List Int} (h:Up ps k u):∃ v,u=v++[0]:=by
 induction h with
 | zero=>exact ⟨[],rfl⟩
 | step hk h ih=>obtain ⟨v,e⟩:=ih; exact ⟨_ :: v,by rw [e]; rfl⟩
theorem Up.pos {ps rs:List Int} (hT:Tree ps rs) {k:Int} {v:List Int} (h:Up ps k (v++[0])) (hk:k≤ps.length):∀ x∈v,0<x:=by
 intro x hx
 have:=(List.pairwise_append.mp (h.dec hT hk)).2.2 x hx 0 (.head _)
 exact this
theorem ir {p q:Int→Bool}:∀ {l:List Int},(∀ x∈l,p x=q x)→l.filter p=l.filter q:=fun h=>List.filter_congr h
theorem s8 {ps rs:List Int} (hT:Tree ps rs) {a b:Int} (a0 : 0≤a) (b0 : 0≤b) (a1:a≤ps.length) (b1:b≤ps.length) {va vb:List Int} (hua:Up ps a (va++[0])) (hub:Up ps b (vb++[0])) :
 fh ps a b=bj (va.filter (fun x=>!vb.contains x)++vb.filter (fun x=>!va.contains x)):=by
 obtain ⟨w,hw,e⟩:=cP hT a0 b0 a1 b1
 have hm:=hw.low hT a0 b0 a1 b1
 obtain ⟨um,hum⟩:=Up.all hT _ (bw ps a b) rfl hm.1 (by omega)
 have hp:=hw.perm hT a0 b0 a1 b1 hua hub hum
 obtain ⟨ma,mb,mx⟩:=hw.meet hT a0 b0 a1 b1 hua hub
 obtain ⟨va',hsp⟩:=hum.split
 have h0:(0:Int)∈um:=by rw [hsp]; simp
 have pa:=Up.pos hT hua a1
 have pb:=Up.pos hT hub b1
 have inA:∀ x,x∈um→x∈va++[0]:=fun x hx=>by
  obtain ⟨uy,h1,_,h3⟩:=hua.chain hT a1 (x:=bw ps a b) (y:=bw ps a b) ma ma (Int.le_refl _)
  rw [← hum.det h1] at h3; exact h3 x hx
 have inB:∀ x,x∈um→x∈vb++[0]:=fun x hx=>by
  obtain ⟨uy,h1,_,h3⟩:=hub.chain hT b1 (x:=bw ps a b) (y:=bw ps a b) mb mb (Int.le_refl _)
  rw [← hum.det h1] at h3; exact h3 x hx
 have both:∀ x,x∈va++[0]→x∈vb++[0]→x∈um:=fun x h1 h2=>by
  obtain ⟨uy,h3,h4,_⟩:=hua.chain hT a1 h1 ma (mx x h1 h2)
  rw [hum.det h3]; exact h4
 have ea:va.filter (fun x=>!um.contains x)=va.filter (fun x=>!vb.contains x):=ir fun x hx=>by
  have hx0:=pa x hx
  have:(x∈um)↔(x∈vb):=⟨fun h=>by rcases List.mem_append.mp (inB x h) with h | h; exact h; have:=List.mem_singleton.mp h; omega,fun h=>both x (List.mem_append.mpr (.inl hx)) (List.mem_append.mpr (.inl h))⟩
  have e2:um.contains x=vb.contains x:=by rw [Bool.eq_iff_iff,List.contains_iff_mem,List.contains_iff_mem]; exact this
  show (!um.contains x)=(!vb.contains x)
  rw [e2]
 have eb:vb.filter (fun x=>!um.contains x)=vb.filter (fun x=>!va.contains x):=ir fun x hx=>by
  have hx0:=pb x hx
  have:(x∈um)↔(x∈va):=⟨fun h=>by rcases List.mem_append.mp (inA x h) with h | h; exact h; have:=List.mem_singleton.mp h; omega,fun h=>both x (List.mem_append.mpr (.inl h)) (List.mem_append.mpr (.inl hx))⟩
  have e2:um.contains x=va.contains x:=by rw [Bool.eq_iff_iff,List.contains_iff_mem,List.contains_iff_mem]; exact this
  show (!um.contains x)=(!va.contains x)
  rw [e2]
 have e0:([(0:Int)].filter fun x=>!um.contains x)=[]:=by
  rw [List.filter_cons_of_neg]; rfl
  rw [List.contains_iff_mem.mpr h0]; decide
 rw [List.filter_append,List.filter_append,List.filter_append,e0,List.append_nil,List.append_nil,ea,eb] at hp
 rw [e]
 exact jW ((aS w).trans hp) (ce w)
def roomLF:D→D
 | .int t=>.int (t - 1)
 | d=>d
def t8 (rs:List Int):D→D
 | .int t=>.int (rs.getD (t - 1).toNat 0)
 | d=>d
theorem oH (rs w:List Int):(w.map D.int).map (t8 rs)=(w.map fun t=>rs.getD (t - 1).toNat 0).map D.int:=by rw [List.map_map,List.map_map]; rfl
end L2
namespace L2
open PySem PySem.Spec PyProof.Rows
section
variable {X:Cx}
theorem eT (hc:X.calm=true):bT X (.builtin "min") (fun xs H Q=>∃ (p:Addr) (ns:List Int),xs=[.ref p]∧SqL X.K H p (ns.map V.int)∧0<ns.length∧∀ m,m∈ns→(∀ a,a∈ns→m≤a)→Q (.int m) H):=by
 intro pins s σ H xs us Q I r h
 obtain ⟨p,ns,rfl,hS,hne,q⟩:=h
 obtain ⟨u,rfl,ru⟩:=dr r
 cases ru
 obtain ⟨its,rv,hl⟩:=dh I hS
 have hI₂:IntsAre its ns:=cY rv
 obtain ⟨ys,hys⟩:=hI₂.allInts.items
 have hlY:s.heap.IsList p (intItems ys):=hys ▸ hl
 have eY:ns=ys.toList.map (·.1):=by
  rw [← nums_intItems,← hys]; exact Eq.symm (show numsOf its.toArray.toList=ns from hI₂.numsOf)
 have hsz : 0<ys.size:=by rw [eY,List.length_map,Array.length_toList] at hne; exact hne
 refine min_intList (I.ok.hd hc) hlY hsz fun v hp tk₁ hv kept=>?_
 obtain ⟨t,rfl⟩:=intItems_at hv
 obtain ⟨h1,h2⟩:=argBest_lt (numAt ys) (ys.size - 1)
 refine ⟨.int _,H,I.kept kept,⟨t,rfl⟩,q _ ?_ fun a ha=>?_⟩
 ·rw [numAt_eq,eY]; exact PySem.getD_mem (by rw [List.length_map,Array.length_toList]; omega)
 ·rw [eY] at ha
  obtain ⟨j,hj,rfl⟩:=PySem.mem_getD ha
  rw [List.length_map,Array.length_toList] at hj
  rw [← numAt_eq]; exact h2 j (by omega)
end
def uo:List D→(D→Prop)→Prop:=fun ds q=>match ds with
 | [.lst xs]=>∃ ns:List Int,xs=ns.map D.int∧0<ns.length∧∀ m,m∈ns→(∀ a,a∈ns→m≤a)→q (.int m)
 | _=>False
theorem nr {K:PySem.W.Frag}:fk (fun xs H Q=>∃ (p:Addr) (ns:List Int),xs=[.ref p]∧SqL K H p (ns.map V.int)∧0<ns.length∧∀ m,m∈ns→(∀ a,a∈ns→m≤a)→Q (.int m) H) uo:=fun G H xs ds q Q s p hf k=>by
 unfold uo at hf
 split at hf
 ·obtain ⟨v,rfl,p1⟩:=be p
  obtain ⟨a,xs,rfl,h1,h2⟩:=aJ p1
  obtain ⟨ns,rfl,hn,hq⟩:=hf
  rw [bd h2] at h1
  exact ⟨a,ns,rfl,SqL.of (s _ _ h1),hn,fun m hm hx=>k _ _ (hq m hm hx) (bn _)⟩
 ·exact hf.elim
end L2
namespace L2
open PySem
theorem dz {ps:List Int} {as:List Ask} (ha:AsksOk ps as) {k:Int} (h0 : 0≤k) (h1:k<(as.length:Int)):AskOk ps (aK as k):=ha.ok _ (kL (k:=k.toNat) (by omega))
theorem pR {ps rs:List Int} {as:List Ask} (hT:Tree ps rs) (ha:AsksOk ps as) {k:Int} (h0 : 0≤k) (h1:k<(as.length:Int)):(ax ps (aK as k)).Nodup∧∀ t∈ax ps (aK as k),0<t∧t≤(ps.length:Int) :=
 ⟨cT hT (dz ha h0 h1).ends,fun t ht=>cS hT (dz ha h0 h1).ends ht⟩
theorem ff {α:Type} (n j:Nat) (x : α):(List.replicate n x).getD j x=x:=by
 rw [List.getD_eq_getElem?_getD,List.getElem?_replicate]; split <;> rfl
theorem gM {ps:List Int} {as:List Ask} {z:Int} (h0 : 0≤z) (h1:z<(as.length:Int)):atI ((aF ps as).map af) z=some (af (ax ps (aK as z))):=by
 refine mF (f:=af) ?_
 have e:z=((z.toNat:Nat):Int):=by omega
 have h:atI (aF ps as) ((z.toNat:Nat):Int)=some (ax ps (aK as z)):=dq (by unfold aF aK; rw [List.getElem?_map,List.getD_eq_getElem?_getD,List.getElem?_eq_getElem (by omega)]; rfl)
 rw [← e] at h; exact h
end L2
namespace L2
open PySem PySem.Spec PyProof.Rows
section
variable {X:Cx}
variable {ow:List Bool} {e e2:Expr} {ma mb:ME}
end
end L2
namespace L2
open PySem
end L2
namespace L2
open PySem PySem.Spec PyProof.Rows
section
variable {X:Cx}
end
end L2
namespace L2
open PySem
end L2
namespace L2
open PySem PySem.Spec PyProof.Rows
section
variable {κ:Type} [DecidableEq κ]
end
section
variable {P:Program} {w:World} {H:Hp} {h:Heap} {a:Addr}
end
section
variable {X:Cx} {pins:List (Addr×Obj)} {σ:St} {H:Hp} {s:Shared} {a:Addr} {y v:V} {u r:Value} {o:Option V} {A:Around} {E:Value→Shared→Prop}
end
section
variable {X:Cx} {pins:List (Addr×Obj)} {σ:St} {H:Hp} {s:Shared} {a:Addr} {kvs:List (Key×V)} {k:Key} {u:Value} {A:Around} {E:Value→Shared→Prop}
end
section
variable {X:Cx} {o i e value:Expr} {pos pos' tpos:Pos} {td ty tv:TE}
end
section
variable {X:Cx} {pos:Pos}
end
section
variable {X:Cx} {pins:List (Addr×Obj)} {σ:St} {H:Hp} {s:Shared} {a:Addr} {y d:V} {u r:Value} {o:Option V} {A:Around} {E:Value→Shared→Prop}
end
section
variable {X:Cx} {o e f:Expr} {apos cpos:Pos} {td ty tx:TE}
end
section
variable {X:Cx} {pins:List (Addr×Obj)} {σ:St} {H:Hp} {s:Shared} {a:Addr} {kvs:List (Key×V)} {A:Around} {E:Value→Shared→Prop}
end
section
variable {X:Cx} {pins:List (Addr×Obj)} {σ:St} {H:Hp} {s:Shared} {a:Addr} {y:V} {u:Value} {A:Around} {E:Value→Shared→Prop}
end
section
variable {C:Ctx} {ow:List Bool} {G:Hp} {ρ:DSt} {σ:St} {H:Hp} {pd:List (D×V)} {O:Own}
end
section
variable {X:Cx} {M:Md} {ow:List Bool} {a b c e:Expr} {ma mb mc:ME} {pos:Pos}
end
section
variable {C:Ctx} {ow:List Bool} {G:Hp} {ρ:DSt} {σ:St} {H:Hp} {pd:List (D×V)} {O:Own}
end
section
variable {X:Cx} {ow:List Bool} {a b e:Expr} {pos:Pos} {ma mb:MN0}
end
section
variable {X:Cx} {M:Md} {ow:List Bool} {i:Nat} {a b e:Expr} {pos:Pos} {mp:MPt} {mz:MN0} {ma:ME}
end
section
variable {X:Cx} {M:Md} {i:Nat} {pos:Pos} {mg:MG} {m:MS}
end
end L2
namespace L2
open PySem
end L2
namespace L2
open PySem PySem.Spec PyProof.Rows
section
variable {X:Cx}
end
section
variable {X:Cx} {pins:List (Addr×Obj)} {σ:St} {H:Hp} {s:Shared}
end
section
variable {X:Cx} {ow:List Bool} {pos:Pos}
def wn:R2:=fun x y H Q=>∃ a xs b,x = .ref a∧H a=some (.lst xs)∧y = .ref b∧H b=some (.lst [])∧Q (.bl (!xs.isEmpty)) H
def pN:R2:=fun x y H Q=>∃ a xs b,x = .ref a∧H a=some (.lst xs)∧y = .ref b∧H b=some (.lst [])∧Q (.bl xs.isEmpty) H
theorem op_neNil (hu:X.A.units + 64<cLine):OpR X (compareOp .NotEq) wn:=by
 intro pins s σ H x y v u Q I rx ry h
 obtain ⟨a,xs,b,rfl,ha,rfl,hb,q⟩:=h
 cases rx; cases ry
 obtain ⟨_,its,m,rv,e1⟩:=(show br X.prog X.w H s.heap a (.lst xs) from I.hok a _ ha)
 obtain ⟨_,its',m',rv',e1'⟩:=(show br X.prog X.w H s.heap b (.lst []) from I.hok b _ hb)
 cases rv'
 have i1:s.heap.IsList a its.toArray:=⟨_,e1,rfl,m,rfl⟩
 have i2:s.heap.IsList b ([]:List Value).toArray:=⟨_,e1',rfl,m',rfl⟩
 cases rv with
 | nil =>
  have z:=SeqAt.RcNeAt.lists (A:=X.A) (e:=fun _=>true) i1 i2 rfl (by omega) (fun j j1 j2=>absurd j1 (Nat.not_lt_zero _))
  exact z _ _ _ _ ⟨.bl false,H,I,rfl,q⟩
 | cons r t=>exact SeqAt.RcNeAt.lists_lengths i1 i2 (by simp) (by omega) _ _ _ _ ⟨.bl true,H,I,rfl,q⟩
theorem j8 (hu:X.A.units + 64<cLine):OpR X (compareOp .Eq) pN:=by
 intro pins s σ H x y v u Q I rx ry h
 obtain ⟨a,xs,b,rfl,ha,rfl,hb,q⟩:=h
 cases rx; cases ry
 obtain ⟨_,its,m,rv,e1⟩:=(show br X.prog X.w H s.heap a (.lst xs) from I.hok a _ ha)
 obtain ⟨_,its',m',rv',e1'⟩:=(show br X.prog X.w H s.heap b (.lst []) from I.hok b _ hb)
 cases rv'
 have i1:s.heap.IsList a its.toArray:=⟨_,e1,rfl,m,rfl⟩
 have i2:s.heap.IsList b ([]:List Value).toArray:=⟨_,e1',rfl,m',rfl⟩
 cases rv with
 | nil =>
  have z:=SeqAt.RcAt.lists (A:=X.A) (e:=fun _=>true) i1 i2 rfl (by omega) (fun j j1 j2=>absurd j1 (Nat.not_lt_zero _))
  exact z _ _ _ _ ⟨.bl true,H,I,rfl,q⟩
 | cons r t=>exact SeqAt.RcAt.lists_lengths i1 i2 (by simp) (by omega) _ _ _ _ ⟨.bl false,H,I,rfl,q⟩
def fNeNil:D→D→(D→Prop)→Prop:=fun a b q=>match a,b with
 | .lst ds,.lst []=>q (.bl (!ds.isEmpty))
 | _,_=>False
def rb:D→D→(D→Prop)→Prop:=fun a b q=>match a,b with
 | .lst ds,.lst []=>q (.bl ds.isEmpty)
 | _,_=>False
theorem pz {G:Hp}:∀ {ds:List D} {xs:List V},Reps G ds xs→xs.isEmpty=ds.isEmpty
 | [],xs,h=>by rw [Reps] at h; subst h; rfl
 | d :: ds,xs,h=>by rw [Reps] at h; obtain ⟨v,vs,rfl,_,_⟩:=h; rfl
theorem qC:DOp pN rb:=fun G H x y dx dy q Q s p1 p2 hf k=>by
 unfold rb at hf
 split at hf
 ·obtain ⟨a,xs,rfl,h1,h2⟩:=aJ p1
  obtain ⟨b,ys,rfl,h3,h4⟩:=aJ p2
  rw [Reps] at h4; subst h4
  exact ⟨a,xs,b,rfl,s _ _ h1,rfl,s _ _ h3,by rw [pz h2]; exact k _ _ hf (cp _)⟩
 ·exact hf.elim
end
section
open AutoSeq1 (wpAny_loadPart')
open MeetsSeq MeetsSeq2 MeetsSeq3
end
section
variable {prog:Program} {w:World} {A:Around} {E:Value→Shared→Prop} {s:Shared}
end
section
variable {X:Cx}
end
section
variable {X:Cx} {ow:List Bool} {pos p1 p2 p3 p4:Pos} {j1 j2 j3 j4:Nat}
end
end L2
namespace L2
open PySem
end L2
namespace L2
open PySem PySem.Spec PyProof.Rows
section
variable {X:Cx} {ow:List Bool} {a b:Expr} {ma mb:DSt→(Int→Prop)→Prop} {pos:Pos}
end
section
variable {C:Ctx} {ow:List Bool} {G G':Hp} {ρ:DSt} {σ:St} {H H':Hp} {pd:List (D×V)} {O O':Own}
end
section
variable {X:Cx} {ow:List Bool} {tg iter:Expr} {ifs:List Expr} {pos pos':Pos} {mi:MA} {mg:MG} {scope:Scope} {cl:List (Str×Addr)}
end
section
variable {X:Cx}
def mLRng2 (m:MA):ME:=fun ρ q=>m ρ fun ds ρ'=>match ds with
 | [.int i,.int j]=>(0≤i∧i≤j∧j≤1000)∧q (.lst (dE i (j - i).toNat)) ρ'
 | _=>False
variable {a b:Expr} {mr:MA} {pos:Pos}
end
def Itv (a:Addr) (n:Nat):It :=
 ⟨fun i H=>∃ xs x,H a=some (.lst xs)∧xs.length=n∧i<n∧xs[n - 1 - i]? = some x,fun i H x H'=>H'=H∧∀ xs,H a=some (.lst xs)→xs[n - 1 - i]? = some x,fun i _=>n≤i⟩
theorem rN {P:Program} {w:World} {K:PySem.W.Frag} {tg:Expr} (a it:Addr) (n:Nat):Turn P w K tg (Itv a n) [it] it (fun i h=>i≤n∧h.IsRevIter it a ((n:Int) - 1 - (i:Int))) where
 mem:=by simp
 obj:=fun i h st b hb=>by
  have e:b=it:=by simpa using hb
  subst e
  obtain ⟨_,o,e,c,d⟩:=st
  exact ⟨o,e,fun v z=>by rw [d] at z; cases z⟩
 keep:=fun i h h' st k=>⟨st.1,st.2.at fun o e=>k it (by simp) o e⟩
 item:=by
  intro X hP hw hK hc i pins s σ H E I hf st hg
  subst hP hw hK
  obtain ⟨xs,x,hq,hn,hi,hx⟩:=hg
  obtain ⟨its,rv,p,hz⟩:=I.list (SqL.of hq)
  obtain ⟨u,hu,ru⟩:=rv.get hx
  obtain ⟨f0,f1,f2,f3,f4,f5⟩:=hf it (by simp)
  have st2:=st.2
  rw [show (n:Int) - 1 - (i:Int)=((n - 1 - i:Nat):Int) by omega] at st2
  refine wpAny_pyNext_rev_item st2 p.isList (x:=u) (by simpa using hu) fun h' st' sb=>?_
  have I1:Inv X pins σ H { s with heap:=h' }:=I.turned (t':=s.toks) (fun b o hb e=>(sb.2 b hb).trans e) f0 f1 f3 f4 f5
  obtain ⟨o,e,c,d⟩:=id st'
  refine ⟨u,rfl,ni (s:={ s with heap:=h' }) e c d (by decide) ⟨x,H,I1,ru,⟨rfl,fun ys hy=>by rw [hq] at hy; cases hy; exact hx⟩,⟨hi,?_⟩,fun b hb=>(hf b hb).1⟩⟩
  rw [show (n:Int) - 1 - ((i + 1:Nat):Int)=((n - 1 - i:Nat):Int) - 1 by omega]
  exact st'
 done:=by
  intro X hP hw hK hc i pins s σ H E I hf st hg
  subst hP hw hK
  have hg:n≤i:=hg
  have hg:i=n:=Nat.le_antisymm st.1 hg
  obtain ⟨f0,f1,f2,f3,f4,f5⟩:=hf it (by simp)
  have st2:=st.2
  rw [show (n:Int) - 1 - (i:Int) = -1 by omega] at st2
  exact wpAny_pyNext_rev_end (I.ok.hd hc) st2 fun h' eb=>⟨rfl,I.turned (t':=s.toks) (fun b o hb e=>eb b o hb e) f0 f1 f3 f4 f5⟩
 self:=fun _ _ _ _ _ st h=>wpAny_pyIter_revIter st.2 h
section
variable {X:Cx} {tg:Expr}
def iRev (ta:TA):TI:=fun σ H R=>ta σ H fun vs H1=>∃ a xs,vs=[.ref a]∧H1 a=some (.lst xs)∧R (Itv a xs.length) H1
theorem wY {l:Expr} {ta:TA} {p pos:Pos} (hg:Gl X "reversed") (hm:X.mg "reversed" = none) (ha:PA X [l] ta) (hs:starEach [l] X.env=[(false,eval l X.env)]:=by rfl):PI X tg (.Call (.Name "reversed" p) [l] [] pos) (iRev ta):=by
 refine ⟨fun pins s σ H R I h=>?_⟩
 refine Call_ (dG I hg hm (show bootBuiltins "reversed" = some (.type "reversed") by decide +kernel) (PyProof.Rows.callWith_type1 (thn (ha pos pins s σ H _ I h) fun us s1 ⟨vs,H1,I1,r1,q1⟩=>?_) hs rfl))
 obtain ⟨a,xs,e,hx,q⟩:=q1
 subst e
 obtain ⟨u,rfl,ru⟩:=dr r1
 cases ru
 obtain ⟨its,rv,p1,hz⟩:=I1.list (SqL.of hx)
 have hl:=rv.length
 refine call_reversed_list p1.isList ?_
 refine wpAny_pyIter_revIter (it:=s1.heap.objs.size) (l:=a) (i:=(its.toArray.size:Int) - 1) ⟨_,Heap.get?_push_size _ rfl,rfl,rfl⟩ ?_
 refine ⟨s1.heap.objs.size,[s1.heap.objs.size],_,_,H1,rfl,I1.kept (t':=s1.toks) fun b o e=>Heap.get?_push_of_some _ e,rN a _ xs.length,⟨Nat.zero_le _,_,Heap.get?_push_size _ rfl,rfl,?_⟩,fun b hb=>?_,q⟩
 ·have e1:its.toArray.size=xs.length:=by simp; omega
  show Data.fields #[.ref a,rawInt ((its.toArray.size:Int) - 1)]=Data.fields #[.ref a,rawInt ((xs.length:Int) - 1 - ((0:Nat):Int))]
  rw [e1]
  congr 3
  simp
 ·have e:b=s1.heap.objs.size:=by simpa using hb
  subst e
  exact I1.fpOk (Nat.le_refl _) (I1.hok.fresh (Nat.le_refl _))
theorem vZ {G:Hp} {p:Addr} {xs:List V} {ds:List D} (h1:G p=some (.lst xs)) (h2:Reps G ds xs):jL (Itv p xs.length) G ds.reverse:=fun C ow G' ρ σ H pd i z r=>by
 have hp:=r.gh _ _ (z _ _ h1)
 have hl:=h2.length
 refine ⟨fun h=>by rw [List.length_reverse] at h; show xs.length≤i; omega,fun d e=>?_⟩
 have hi:i<ds.length:=by have:=(List.getElem?_eq_some_iff.mp e).1; rw [List.length_reverse] at this; exact this
 rw [List.getElem?_reverse hi] at e
 obtain ⟨v,e1,e2⟩:=cC h2 e
 rw [← hl] at e1
 refine ⟨⟨xs,v,hp,rfl,by omega,e1⟩,fun x H' hy=>?_⟩
 obtain ⟨rfl,hy⟩:=hy
 have:=hy xs hp
 rw [e1] at this; cases this
 exact ⟨G',aI.refl _,r,Rep.mono z _ _ e2⟩
def miRev (m:MA):MA:=fun ρ q=>m ρ fun ds ρ'=>match ds with
 | [.lst ds]=>q ds.reverse ρ'
 | _=>False
variable {ow:List Bool} {a:Expr} {mr:MA} {pos:Pos}
theorem u7 {p:Pos} (hg:Gl X "reversed") (hm:X.mg "reversed" = none) (ha:QA X ow [a] mr) (hs:starEach [a] X.env=[(false,eval a X.env)]:=by rfl):QI X ow tg (.Call (.Name "reversed" p) [a] [] pos) (miRev mr):=by
 obtain ⟨t,p,s⟩:=ha
 refine ⟨_,wY hg hm p hs,fun C G ρ σ H pd q Q r hm k=>s C G ρ σ H pd _ _ r hm fun ds ρ' vs G' H' hq z kp r' p hn=>?_⟩
 split at hq
 ·obtain ⟨v,rfl,p1⟩:=be p
  obtain ⟨a,xs,rfl,h1,h2⟩:=aJ p1
  exact ⟨a,xs,rfl,r'.gh _ _ h1,k _ ρ' G' H' _ hq z kp r' (vZ h1 h2)⟩
 ·exact hq.elim
end
section
variable {X:Cx}
open PySem.Builtin.Str (partsBetween occurrences)
variable {ow:List Bool} {e a b:Expr} {ma mb:ME}
end
section
variable {X:Cx} {tg:Expr}
variable {ow:List Bool} {e:Expr} {ma:ME}
end
end L2
namespace L2
open PySem PySem.Spec PyProof.Rows
section
variable {X:Cx}
end
end L2
namespace L2
open PySem
end L2
namespace L2
open PySem PySem.Spec PyProof.Rows
section
variable {prog:Program} {w:World} {A:Around} {E:Value→Shared→Prop} {s:Shared}
end
section
variable {X:Cx}
end
end L2
namespace L2
open PySem
end L2
namespace L2
open PySem PySem.Spec PyProof.Rows
section
variable {X:Cx} {ow:List Bool} {a b:Expr} {mex:MEX} {mb:ME} {pos:Pos}
end
section
variable {X:Cx} {pos p1 q1:Pos} {n1 n2:Nat} {k1 z:Int} {ow:List Bool}
end
section
variable {X:Cx} {ow:List Bool} {a b:Expr} {ma mb:ME} {pos:Pos}
end
section
variable {K:PySem.W.Frag} {mg:Str→Option Value} {n:Str} {st:Stmt} {ps:List Str} {f:Addr} {d:FuncData}
structure FT (K:PySem.W.Frag) (mg:Str→Option Value) (n:Str) (st:Stmt) (ps:List Str) (f:Addr) (d:FuncData):Prop where
 F:Fun K n n st f d
 b:gz K d ps []
 m:mg n=some (.ref f)
structure FH (K:PySem.W.Frag) (n:Str) (st:Stmt) (f:Addr) (d:FuncData):Prop where
 a:PySem.W.nsIn K mainGlobals n=some (some (.ref f))
 F:Fun K n n st f d
theorem aW {oc:Value} {od an:Option Addr} {osl:Array (Option Value)} {kV doc pm cdv ct:Value} (a:PySem.W.nsIn K mainGlobals n=some (some (.ref f))) (l:K.lookup f=some ⟨oc,od,.func (PySem.W.fnOf n n (d7 st) (ca st) (ak st) .none kV doc pm an cdv ct),osl⟩)
 (c:PySem.W.codeIn K cdv n=true) (k:PySem.W.keepIn K (.ref f)=true):FH K n st f (PySem.W.fnOf n n (d7 st) (ca st) (ak st) .none kV doc pm an cdv ct):=⟨a,wx l c k⟩
theorem FH.ft {h:Heap} (z:FH K n st f d) (X:K.In h) (G:h.Ns mainGlobals mg)
 (hb:∀ (kV doc pm:Value) (an:Option Addr) (cdv ct:Value) (us:List Value),us.length=ps.length→bindArgs (PySem.W.fnOf n n (d7 st) (ca st) (ak st) .none kV doc pm an cdv ct) ⟨us,[]⟩=pure (ps.zip us)):FT K mg n st ps f d:=⟨z.F,z.F.binds hb,PySem.W.mg_of X G z.a⟩
theorem aV {N P:List Str} {sc:Scope} (a:sc.kind = .function:=by rfl) (b:sc.isCoroutine=false:=by rfl) (c:sc.isGenerator=false:=by rfl) (d:N.Nodup:=by decide +kernel) (e:N.take P.length=P:=by rfl)
 (g:∀ x∈P,sc.names.lookup x=some .local∨sc.names.lookup x=some .cell:=by decide +kernel) (h:∀ y∈sc.names,y.2≠.free:=by decide +kernel):FnScope N P sc:=⟨a,b,c,d,e,g,h⟩
end
section
variable {X:Cx} {ow:List Bool} {k j:Nat} {f:Addr} {fd:FuncData} {ps:List Str} {mu:List Bool} {sd:SpD} {sx:SpX} {x:Str} {st:Stmt} {ks:List AK} {e:Expr} {es:List Expr} {mr:MA} {pos p':Pos}
theorem ah (F:FnOk X.prog X.w X.K X.mg X.base CX0 k f fd ps (a9 mu false sd)) (hr:Room j X.A) (t:FT X.K X.mg x st ps f fd) (ha:QAk X ow ks (e :: es) mr) (hj:k≤j:=by decide) (hg:Gl X x:=by rfl) (hmu:mu=ks.map AK.isM:=by rfl) (nd:(aA ks).Nodup:=by decide) (hw:∀ i∈aA ks,ow[i]? = some true:=by decide) (hdb:(x == ("__debug__":Str))=false:=by decide)
 (he:starEach (e :: es) X.env=(false,eval e X.env) :: starEach es X.env:=by rfl) (hpl:(backTo pos (starEach es X.env)).any (·.1)=false:=by rfl):QE X ow (.Call (.Name x p') (e :: es) [] pos) (mD ks sd mr):=tj F (hr.mono hj) hg t.m t.F.kp t.b ha hmu nd hw hdb he hpl
theorem aQ (F:FnOk X.prog X.w X.K X.mg X.base CX0 k f fd ps (a9 mu true sd)) (hr:Room j X.A) (t:FT X.K X.mg x st ps f fd) (ha:QAk X ow ks (e :: es) mr) (hj:k≤j:=by decide) (hg:Gl X x:=by rfl) (hmu:mu=ks.map AK.isM:=by rfl) (nd:(aA ks).Nodup:=by decide) (hw:∀ i∈aA ks,ow[i]? = some true:=by decide) (hdb:(x == ("__debug__":Str))=false:=by decide)
 (he:starEach (e :: es) X.env=(false,eval e X.env) :: starEach es X.env:=by rfl) (hpl:(backTo pos (starEach es X.env)).any (·.1)=false:=by rfl):QF X ow (.Call (.Name x p') (e :: es) [] pos) (mD ks sd mr):=tH F (hr.mono hj) hg t.m t.F.kp t.b ha hmu nd hw hdb he hpl
end
section
variable {K:PySem.W.Frag} {C a N:Addr} {dd nd:Option Addr} {nm qn x:Str} {bs bm sub:List Value} {hd ab:Bool} {sn:List Str} {col:Option Bool} {k0 k1 k2 k3 k5 ini:Option Value} {no:Value} {es:Array DictEntry} {np:Nat} {nl:Array (Option Value)}
end
end L2
namespace L2
open PySem PySem.Spec PyProof.Rows PySem.W Att
section
variable {prog:Program} {w:World} {A:Around} {E:Value→Shared→Prop} {s:Shared}
theorem kb {r:Addr} {a b c:Int} {t u v:Tok} {n:Nat} {Q:List Value→Shared→Prop} (hh:A.handled=none) (hr:IsRange s.heap r a b c t u v) (hsmall:Builtin.Range.small a b c=true)
 (hn:Builtin.Range.rangeSize a b c=n) (hlen:n≤2 ^ 24)
 (h:∀ h' tk (ys:List Value),s.heap.objs.size≤h'.objs.size→(∀ b o,s.heap.get? b=some o→h'.get? b=some o)→ys.length=n→(∀ (j:Nat) v,ys[j]? = some v→∃ t,v=Value.int (a + j * c) t)→Q ys { s with heap:=h',toks:=tk }) :
 wpAny (model prog w) A (collect (.ref r)) Q E s:=by
 unfold collect
 refine wpAny_bind (wpAny_runValue (codeAny_builtin F.entry_proto_collect ?_))
 rw [Around.under_plainId F.plain_proto_collect _]
 show wpAny _ A.in1 (newList [] >>= fun l=>again (.builtin "list.__iadd__" ⟨[l,.ref r],[]⟩)) _ _ s
 refine wpAny_bind (wpAny_newObj_type ?_)
 refine wpAny_pure ⟨plainId_quiet F.plain_list_iadd _,codeAny_builtin F.entry_list_iadd ?_⟩
 rw [Around.under_plainId F.plain_list_iadd _]
 have hr':IsRange (s.heap.push (seqObj "list" #[] 0)) r a b c t u v:=Heap.get?_push_of_some _ hr
 have fin:∀ h' tk acc' c',(∀ b o,b≠s.heap.objs.size→(s.heap.push (seqObj "list" #[] 0)).get? b=some o→h'.get? b=some o)→h'.get? s.heap.objs.size=some { cls:=.type "list",dict:=none,data:=.seq acc' c',slots:=#[] } →
  ItemsOf (fun i v=>∃ t,v = .int (a + i * c) t) acc' n→wpAny (model prog w) A (do
   let o ← load s.heap.objs.size
   match o.data with
   | .seq xs _=>pure xs.toList
   | _=>unsupported "internal:collect") Q E { s with heap:=h',toks:=tk }:=fun h' tk acc' c' hk hS' hacc=>by
  refine wpAny_bind (wpAny_load hS' ?_)
  refine wpAny_pure (h h' tk acc'.toList (Nat.le_of_lt (Heap.lt_size hS')) (fun b o e=>hk b o (Nat.ne_of_lt (Heap.lt_size e)) (Heap.get?_push_of_some _ e)) (by simpa using hacc.1) fun j v hv=>?_)
  exact hacc.2 j v (by simpa using hv)
 have main:=wpAny_extend_range (prog:=prog) (w:=w) (A:=A) (s:={ s with heap:=s.heap.push (seqObj "list" #[] 0) }) (R:=fun r s' => r = .ok (.ret (.ref s.heap.objs.size)) ∧ wpAny (model prog w) A (do
       let o ← load s.heap.objs.size
       match o.data with
       | .seq xs _=>pure xs.toList
       | _=>unsupported "internal:collect") Q E s') hh hr' hsmall hn hlen s.heap.objs.size (.ref s.heap.objs.size) 0 (Heap.get?_push_size _ rfl) fun h' tk acc' c' hk hS' hacc=>⟨rfl,fin h' tk acc' c' hk hS' hacc⟩
 refine wpAny_mono main (fun f s' q=>?_) fun e s' q=>by cases q.1
 cases f with
 | done f=>obtain ⟨e,q⟩:=q; cases e; exact q
 | again c'=>exact ⟨q.1,codeAny_mono q.2 fun r s'' q=>by obtain ⟨rfl,q⟩:=q; exact q⟩
theorem iS:∀ (ys:List Value) (a:Int),(∀ (j:Nat) v,ys[j]? = some v→∃ t,v=Value.int (a + j * 1) t)→IntsAre ys ((List.range ys.length).map fun (i:Nat)=>a + (i:Int))
 | [],_,_=>.nil
 | y :: ys,a,h=>by
  obtain ⟨t,rfl⟩:=h 0 y rfl
  have ih:=iS ys (a + 1) fun j v e=>by
   obtain ⟨t,rfl⟩:=h (j + 1) v (by simpa using e)
   exact ⟨t,by congr 1; push_cast; omega⟩
  rw [List.length_cons,List.range_succ_eq_map,List.map_cons,List.map_map]
  have e:((List.range ys.length).map ((fun (i:Nat)=>a + (i:Int)) ∘ Nat.succ))=(List.range ys.length).map fun (i:Nat)=>a + 1 + (i:Int):=List.map_congr_left fun i _=>by show a + ((i + 1:Nat):Int)=_; omega
  rw [e]
  have e0:a + ((0:Nat):Int) * 1=a + ((0:Nat):Int):=by omega
  rw [e0]
  exact .cons _ t ih
variable {h₀:Heap} {L:Addr} {m:Str→Option Value} {news:List (Addr×Obj)}
theorem lF {kz:List Int} {f:Value} {kw:List (Str×Value)} {b:Bool} {r:Addr} {t u v:Tok} {n:Nat} {Q:Value→Shared→Prop} (F:Fr h₀ L s.heap m) (N:News h₀ L s.heap news) (hh:A.handled=none) (hr:IsRange s.heap r 0 n 1 t u v) (hlen:kz.length=n) (h64:n<64)
 (ha1:argsOk "sorted" ⟨[.ref r],kw⟩) (ha2:∀ x,argsOk "list.sort" ⟨[.ref x],kw⟩) (ht:∀ x,Builtin.«list.sort» ⟨[.ref x],kw⟩=ksk_tree x f b)
 (turn:∀ (i:Nat) (k:Int) (ti:Tok),kz[i]? = some k→∀ (h:Heap) (tk:Nat) (own:List (Addr×Obj)),Fr h₀ L h m→News h₀ L h (news++own) →
  wpAny (model prog w) A.in1.in1 (call f [.int i ti]) (KskEnd h₀ L m (news++own) k { s with heap:=h,toks:=tk }) (fun _ _=>False) { s with heap:=h,toks:=tk })
 (h:∀ D h' tk vs out c,Fr h₀ L h' m→News h₀ L h' ((D,seqObj "list" out c) :: news)→s.heap.objs.size≤D→IntsAre vs ((List.range n).map fun (i:Nat)=>(i:Int))→KskOut b kz vs out.toList→Q (.ref D) { s with heap:=h',toks:=tk }) :
 wpAny (model prog w) A (call (.builtin "sorted") [.ref r] kw) Q E s:=by
 refine call_function_entry_kw kind_sorted plain_sorted entry_sorted ha1 ?_
 unfold Builtin.«sorted»
 refine wpAny_bind (m:=checkCount "sorted" 1 1 _) (wpAny_pure ?_)
 have hn1:Builtin.Range.rangeSize 0 n 1=(n:Int):=by rw [rangeSize_one]; split <;> omega
 refine wpAny_bind (kb (n:=n) hh hr (small_one (by omega) (by omega) (by omega) (by omega)) hn1 (by omega) fun h1 tk1 ys hsz hk hyl hys=>?_)
 refine wpAny_bind (wpAny_newList ?_ (by rw [sizeLine_eq]; omega))
 have hi:IntsAre ys ((List.range n).map fun (i:Nat)=>(i:Int)):=by
  have:=iS ys 0 hys
  rw [hyl] at this
  have e:((List.range n).map fun (i:Nat)=>(0:Int) + (i:Int))=(List.range n).map fun (i:Nat)=>(i:Int):=List.map_congr_left fun i _=>by omega
  rw [e] at this; exact this
 have hoL:(h1.push (seqObj "list" ys.toArray 0)).get? h1.objs.size=some (seqObj "list" ys.toArray 0):=Heap.get?_push_size _ rfl
 have keep:∀ b o,s.heap.get? b=some o→(h1.push (seqObj "list" ys.toArray 0)).get? b=some o:=fun b o q=>Heap.get?_push_of_some _ (hk b o q)
 have hL:L<h1.objs.size:=Heap.lt_size (hk _ _ F.ns.choose_spec.choose_spec.choose_spec.1)
 show wpAny _ _ _ _ _ { s with heap:=h1.push (seqObj "list" ys.toArray 0),toks:=tk1 }
 refine wpAny_bind (wpAny_holding (wpAny_call_entry_kw slot_list_sort ⟨_,hoL,rfl⟩ entry_list_sort ?body (ha2 _)))
 case body =>
  have ht':=ht h1.objs.size
  show wpAny (model prog w) A.in1.in1 (Builtin.«list.sort» ⟨[.ref h1.objs.size],kw⟩) _ _ _
  rw [ht']
  refine ksk_sort (s:={ s with heap:=h1.push (seqObj "list" ys.toArray 0),toks:=tk1 })
   (F.kept keep) (N.grown keep) hoL (Nat.ne_of_gt hL) (Heap.get?_none_of_le (Nat.le_trans F.above (Nat.le_of_lt hL)))
   (fun p hp=>Nat.ne_of_lt (Heap.lt_size (hk _ _ (N p hp).1))) (hlen.trans hyl.symm) (by omega) (fun i v k hv hkz h tk own Fh Nh=>?_) fun h' tk out c F' N' k'=>⟨_,rfl,?_⟩
  ·obtain ⟨ti,rfl⟩:=hys i v hv
   have e:(0:Int) + (i:Int) * 1=(i:Int):=by omega
   rw [e]
   exact turn i k ti hkz h tk own Fh Nh
  ·exact wpAny_pure ⟨_,rfl,h _ h' tk ys out c F' N' hsz hi k'⟩
end
structure TbS (H H':Hp):Prop where
 old:∀ a o,H a=some o→(∀ ps q,o≠.tbl ps q)→H' a=some o
 tab:∀ a ps q,H a=some (.tbl ps q)→∃ more,H' a=some (.tbl (ps++more) q)
 new:∀ a,H' a=none→H a=none
 frz:∀ a o,H' a=some o→H a=none→∃ ob u,o = .frz ob u
theorem TbS.refl {H:Hp}:TbS H H:=⟨fun _ _ e _=>e,fun _ ps _ e=>⟨#[],by rw [e]; simp⟩,fun _ e=>e,fun a o e n=>by rw [n] at e; cases e⟩
structure TabB (base:Heap) (mg:Str→Option Value) (c P:Addr) (q:Str):Prop where
 tm:TMk base P q
 code:CodeHd base c P
 blt:base.BuiltinsAt mg P
theorem rD {pos:Pos} {a b:Int} {c cv:Value} (l:List Value) (h:TriplesOk l):codeAmong pos (l++[rawInt a,rawInt b,c])=some cv→codeAmong pos l=some cv∨cv=c:=by
 fun_induction TriplesOk l with
 | case1 =>
  intro e
  simp only [List.nil_append,rawInt,codeAmong] at e
  split at e
  ·cases e; exact .inr rfl
  ·cases e
 | case2 a' t b' u x rest ih =>
  intro e
  simp only [List.cons_append,codeAmong] at e ⊢
  split at e
  ·rename_i hc; rw [if_pos hc]; exact .inl e
  ·rename_i hc; rw [if_neg hc]; exact ih h e
 | case3 l h1 h2=>exact h.elim
section
variable {X:Cx} {pins:List (Addr×Obj)} {σ:St} {H:Hp} {s:Shared} {args:Arguments} {body:Expr} {scope:Scope} {pos:Pos} {c P:Addr} {clos:List (Str×Addr)}
abbrev ki (X:Cx) (args:Arguments) (body:Expr) (scope:Scope) (clos:List (Str×Addr)) (cv ctv:Value):Obj:={ cls:=.type "function",data:=.func (kla_fn "<lambda>" (X.env.qual ++ "<lambda>") args body scope clos ((X.mg "__name__").getD .none) cv ctv) }
theorem uO {Q:Value→Shared→Prop} (I:Inv X pins σ H s) (hdf:defaultsOf args X.env=([],[])) (hcl:closureFor scope X.env=pure clos) (hcode:X.env.code = .ref c) (hB:TabB X.base X.mg c P (X.env.qual ++ "<lambda>"))
 (h:∀ f cv ctv H' s',Inv X ((f,ki X args body scope clos cv ctv) :: pins) σ H' s'→TbS H H'→(∃ c' oc vs t,cv = .ref c'∧H' c'=some (.frz oc (.own 0))∧oc.data = .fields vs∧vs[1]? = some (.str (X.env.qual ++ "<lambda>") t))→Q (.ref f) s') :
 wpAny (model X.prog X.w) X.A (eval (.Lambda args body scope pos) X.env) Q X.xe s:=by
 rw [arm_eval_Lambda,hdf]
 show wpAny _ _ (do let dv ← evalAll []; let kdv ← holding dv (evalAllOpt []); makeFunction "<lambda>" (X.env.qual ++ "<lambda>") args (.expr body) scope X.env dv kdv [] pos pos.line) _ _ s
 refine wpAny_bind (m:=evalAll []) (wpAny_pure ?_)
 refine wpAny_bind (wpAny_holding (m:=evalAllOpt []) (wpAny_pure ?_))
 obtain ⟨hM,hC,hB⟩:=hB
 obtain ⟨ps,hps⟩:=(I.ok.tb.un I.base) P _ hM
 obtain ⟨hP,hV⟩:=I.hok P _ hps
 have bP:X.base.get? P=none:=by
  cases e:X.base.get? P with
  | none=>rfl
  | some o =>
   obtain ⟨e1,n1⟩:=nofree e
   rw [show X.base.objs[P]? = _ from hM] at e1; cases e1
   exact absurd rfl n1
 have neP:∀ {b:Addr} {o:Obj},X.base.get? b=some o→b≠P:=fun e z=>by rw [z,bP] at e; cases e
 have hC':CodeHd s.heap c P:=hC.keeps I.bk
 have hg:s.heap.Ns mainGlobals X.mg:=I.ok.mod.glob.keeps I.bk
 have hgP:mainGlobals≠P:=by
  obtain ⟨o,es,ep,e,_⟩:=I.ok.mod.glob
  exact neP e
 have hb:s.heap.BuiltinsAt X.mg P:=by
  obtain ⟨bm,o,b1,b2,b3,b4,b5,b6⟩:=hB
  exact ⟨bm,o,b1,b2,b3,b4,I.bk _ _ b5,b6⟩
 have glob:X.env.globals=mainGlobals:=I.ok.glob
 have pinned:∀ {f:Addr} {o:Obj} {H':Hp} {s':Shared} {s1:Nat},Inv X pins σ H' s'→s'.heap.get? f=some o→H' f=none→s.heap.objs.size≤f→(∀ v,o.data≠.cell v)→Inv X ((f,o) :: pins) σ H' s':=fun {f o H' s' s1} J e n hf nc=>by
  refine J.pins_of fun p hp=>?_
  rcases List.mem_cons.mp hp with rfl | hp
  ·refine ⟨e,n,Nat.ne_of_gt (Nat.lt_of_lt_of_le I.lt hf),fun z=>?_,nc⟩
   obtain ⟨_,o',e',_⟩:=J.ok.funs.mem z
   exact absurd (Nat.lt_of_lt_of_le (Heap.lt_size e') (Nat.le_trans I.sz hf)) (Nat.lt_irrefl _)
  ·exact J.pin p (List.mem_append_right _ hp)
 cases hf:codeAmong pos ps.toList with
 | some cv =>
  refine kla_makeFunctionHit hcl glob hg hcode hC' hP hV.1 hf hb fun ctv h' tk hk hsz=>?_
  have J:Inv X pins σ H { s with heap:=h'.push (ki X args body scope clos cv ctv),toks:=tk }:=I.kept fun b o e=>Heap.get?_push_of_some _ (hk b o e)
  exact h _ cv ctv H _ (pinned (s1:=0) J (Heap.get?_push_size _ rfl) (I.hok.fresh hsz) hsz (fun v z=>by cases z)) TbS.refl (hV.2 pos cv hf)
 | none =>
  refine kla_makeFunction hcl glob hg hcode hC' hP hV.1 hf hgP hb fun c' ctv h' tk hx hge hlt hrec htab=>?_
  obtain ⟨c0,oc,vc,tq,hc0,hoc,hdc,hqc⟩:=hrec
  cases hc0
  have hne:c'≠P:=fun z=>absurd (Nat.lt_of_lt_of_le (Heap.lt_size hP) hge) (by rw [z]; exact Nat.lt_irrefl _)
  obtain ⟨H',hH'⟩:∃ H',H'=upd (upd H P (.tbl (ps++#[rawInt pos.line,rawInt pos.col,.ref c']) (X.env.qual ++ "<lambda>"))) c' (.frz oc (.own 0)):=⟨_,rfl⟩
  have atP:H' P=some (.tbl (ps++#[rawInt pos.line,rawInt pos.col,.ref c']) (X.env.qual ++ "<lambda>")):=by rw [hH',av (Ne.symm hne),aG]
  have atC:H' c'=some (.frz oc (.own 0)):=by rw [hH',aG]
  have hcn:H c'=none:=I.hok.fresh hge
  have oth:∀ b,b≠P→b≠c'→H' b=H b:=fun b z1 z2=>by rw [hH',av z2,av z1]
  have neo:∀ {b u},H b=some u→b≠c':=fun e z=>by rw [z,hcn] at e; cases e
  have old:∀ a o,H a=some o→(∀ ps q,o≠.tbl ps q)→H' a=some o:=fun a o e n=>by
   rw [oth a (fun z=>by rw [z,hps] at e; cases e; exact n _ _ rfl) (neo e)]; exact e
  have hx2:∀ b o,b≠P→s.heap.get? b=some o→(h'.push (ki X args body scope clos (.ref c') ctv)).get? b=some o:=fun b o z e=>Heap.get?_push_of_some _ (hx b o z e)
  have hhsz:s.heap.objs.size≤h'.objs.size:=Nat.le_trans hge (Nat.le_of_lt hlt)
  have un:Un X.fs [] H H' s.heap (h'.push (ki X args body scope clos (.ref c') ctv)):={
   keep:=fun b o e n _ _=>hx2 b o (fun z=>by rw [z,hps] at n; cases n) e
   slot:=fun b o e n _ _=>⟨o.slots,hx2 b o (fun z=>by rw [z,hps] at n; cases n) e⟩
   free:=fun b o e n _=>by rw [oth b (fun z=>by rw [z,hps] at n; cases n) (Nat.ne_of_lt (Nat.lt_of_lt_of_le (Heap.lt_size e) hge))]; exact n
   there:=fun b o e _=>by
    by_cases z:b=P
    ·subst z; exact ⟨_,Heap.get?_push_of_some _ htab⟩
    ·exact ⟨o,hx2 b o z e⟩
   tups:=fun b xs e=>old b _ e fun _ _ z=>by cases z
   frzs:=fun b o u e=>old b _ e fun _ _ z=>by cases z
   tbls:=fun b qs q e=>by
    by_cases z:b=P
    ·subst z; rw [hps] at e; cases e; exact ⟨_,atP⟩
    ·exact ⟨#[],by rw [oth b z (neo e),e]; simp⟩ }
  have hok:HOk X.prog X.w H' (h'.push (ki X args body scope clos (.ref c') ctv)):=fun b u e=>by
   by_cases z:b=P
   ·subst z; rw [atP] at e; cases e
    refine ⟨Heap.get?_push_of_some _ htab,by simpa using TriplesOk_snoc pos.line pos.col (.ref c') ps.toList hV.1,fun pos' cv e=>?_⟩
    rcases rD ps.toList hV.1 (by simpa using e) with e | rfl
    ·obtain ⟨c2,o2,v2,t2,a1,a2,a3⟩:=hV.2 pos' cv e
     exact ⟨c2,o2,v2,t2,a1,old _ _ a2 (fun _ _ z=>by cases z),a3⟩
    ·exact ⟨c',oc,vc,tq,rfl,atC,hdc,hqc⟩
   ·by_cases z2:b=c'
    ·subst z2; rw [atC] at e; cases e
     exact ⟨Heap.get?_push_of_some _ hoc,_,Heap.get?_push_of_some _ hoc⟩
    ·rw [oth b z z2] at e
     refine (I.hok b u e).stay (fun d v hd q=>hx2 d v ?_ q) (fun d q=>old d _ q fun _ _ z=>by cases z) (fun d xs q=>old d _ q fun _ _ z=>by cases z) fun d ob u q=>old d _ q fun _ _ z=>by cases z
     rcases hd with rfl | hd
     ·exact z
     ·exact fun y=>by rw [y,hps] at hd; cases hd
  have J:Inv X pins σ H' { s with heap:=h'.push (ki X args body scope clos (.ref c') ctv),toks:=tk }:=I.un un hok
  refine h _ (.ref c') ctv H' _ (pinned (s1:=0) J (Heap.get?_push_size _ rfl) (by rw [oth _ (Nat.ne_of_gt (Nat.lt_of_lt_of_le (Heap.lt_size hP) hhsz)) (Nat.ne_of_gt hlt)]; exact I.hok.fresh hhsz) hhsz (fun v z=>by cases z)) ⟨old,un.tbls,fun a e=>?_,fun a o e n=>?_⟩ ⟨c',oc,vc,tq,rfl,atC,hdc,hqc⟩
  ·by_cases z:a=P
   ·rw [z,atP] at e; cases e
   ·by_cases z2:a=c'
    ·rw [z2]; exact hcn
    ·rw [oth a z z2] at e; exact e
  ·by_cases z:a=P
   ·rw [z,hps] at n; cases n
   ·by_cases z2:a=c'
    ·rw [z2,atC] at e; cases e; exact ⟨_,_,rfl⟩
    ·rw [oth a z z2,n] at e; cases e
end
section
variable {prog:Program} {w:World} {A:Around} {s:Shared} {X:Cx} {args:Arguments} {scope:Scope} {clos:List (Str×Addr)} {cv ctv:Value} {f cc p:Addr} {x y:Str} {p1 p2 p3 p4:Pos}
theorem pJ {its:Array Value} {i:Nat} {ti:Tok} {k:Int} {tk0:Tok} (ho:s.heap.get? f=some (ki X args (.UnaryOp .USub (.Subscript (.Name y p1) (.Name x p2) p3) p4) scope clos cv ctv)) (hcd:s.heap.CodeRec cv (X.env.qual ++ "<lambda>"))
 (hce:s.heap.IsCell cc (some (.ref p))) (hl:s.heap.IsList p its) (hi:its[i]? = some (.int k tk0)) (hlim:s.heap.NoLimit) (hroom:A.depth<recursionLimit) (hi63:i<2 ^ 62)
 (hb:bindArgs (kla_fn "<lambda>" (X.env.qual ++ "<lambda>") args (.UnaryOp .USub (.Subscript (.Name y p1) (.Name x p2) p3) p4) scope clos ((X.mg "__name__").getD .none) cv ctv) ⟨[.int i ti],[]⟩=pure [(x,.int i ti)])
 (hk:scope.kind = .function) (hco:scope.isCoroutine=false) (hgen:scope.isGenerator=false) (hnc:∀ z∈scope.names,z.2≠.cell) (hx:scope.names.lookup x=some .local) (hy:scope.names.lookup y=some .free) (hyc:clos.lookup y=some cc)
 (dx:(x == ("__debug__":Str))=false) (dy:(y == ("__debug__":Str))=false) (ey:(y == ("__classdict__":Str))=false) :
 wpAny (model prog w) A (call (.ref f) [.int i ti]) (fun v s'=>∃ h' tk t',s' = { s with heap:=h',toks:=tk }∧v = .int (-k) t'∧∀ b o,s.heap.get? b=some o→h'.get? b=some o) (fun _ _=>False) s:=by
 refine wpAny_call ?_
 refine kla_callFunE hroom ho rfl hco hgen rfl hcd ?_
 rw [hb]
 refine wpAny_pure (wpAny_newFunctionEnv hnc (fun z hz=>by rw [List.mem_singleton.mp hz]; exact hx) (fun h₁ hns hsb=>⟨hlim.fresh _ hsb,?_⟩) hk)
 have hk₁:∀ b o,s.heap.get? b=some o→h₁.get? b=some o:=fun b o e=>hsb.extBut b o (Nat.ne_of_lt (Heap.lt_size e)) (Heap.get?_push_of_some _ e)
 refine kla_codeExpr ?_
 rw [arm_eval_UnaryOp]
 refine wpAny_bind ?_
 refine Subscript_ (wpAny_Name (wpAny_loadName_free hk hy hyc (hce.keeps hk₁) ?_ ey) dy)
 refine wpAny_Name (wpAny_loadName_local (v:=.int i ti) hk hx hns (by show ([(x,Value.int i ti)]:List (Str×Value)).reverse.lookup x=_; simp) ?_) dx
 refine item_listR (x:=.int k tk0) (let ⟨o,e,r⟩:=hl; ⟨o,hk₁ _ _ e,r⟩) (by omega) (by omega) (by simpa using hi) ?_ (by with_unfolding_all rfl)
 refine wpAny_bind (wpAny_standAt ?_)
 refine wpAny_holding ?_
 exact neg_int ⟨h₁,_,_,rfl,rfl,hk₁⟩
end
theorem kI {p:Int×Value}:∀ {kz:List Int} {vs:List Value} {ns:List Int},IntsAre vs ns→p∈kz.zip vs→∃ (i:Nat) (z:Int) (t:Tok),kz[i]? = some p.1∧ns[i]? = some z∧p.2 = .int z t
 | [],_,_,_,h=>by cases h
 | _ :: _,_,_,.nil,h=>by cases h
 | k :: kz,_,_,.cons n t r,h=>by
  rw [List.zip_cons_cons] at h
  rcases List.mem_cons.mp h with rfl | h
  ·exact ⟨0,n,t,rfl,rfl,rfl⟩
  ·obtain ⟨i,z,t',a,b,c⟩:=kI r h
   exact ⟨i + 1,z,t',by simpa using a,by simpa using b,c⟩
def pW:Value→Int
 | .int z _=>z
 | _=>0
theorem jX:∀ {kz:List Int} {vs:List Value} {ns:List Int},IntsAre vs ns→kz.length=ns.length→(kz.zip vs).map (fun p=>pW p.2)=ns
 | [],_,_,.nil,_=>rfl
 | [],_,_,.cons _ _ _,h=>by cases h
 | _ :: _,_,_,.nil,h=>by cases h
 | k :: kz,_,_,.cons n t r,h=>by
  rw [List.zip_cons_cons,List.map_cons,jX r (by simpa using h)]
  rfl
theorem mK:∀ {vs:List Value},(∀ v∈vs,∃ z t,v=Value.int z t)→IntsAre vs (vs.map pW)
 | [],_=>.nil
 | v :: vs,h=>by
  obtain ⟨z,t,rfl⟩:=h v (.head _)
  exact .cons z t (mK fun u hu=>h u (.tail _ hu))
structure SortK (n:Nat) (key:Int→Int) (out:List Int):Prop where
 perm:out.Perm ((List.range n).map fun (i:Nat)=>(i:Int))
 ord:out.Pairwise fun a b=>key a≤key b
theorem SortK.of {n:Nat} {key:Int→Int} {vs out:List Value} (hi:IntsAre vs ((List.range n).map fun (i:Nat)=>(i:Int))) (h:KskOut false ((List.range n).map fun (i:Nat)=>key (i:Int)) vs out):∃ os:List Int,IntsAre out os∧SortK n key os:=by
 obtain ⟨ps,hp,rfl,ho⟩:=h
 have hm:∀ q∈ps,∃ (i:Nat) (t:Tok),q.1=key (i:Int)∧q.2 = .int (i:Int) t:=fun q hq=>by
  obtain ⟨i,z,t,a,b,c⟩:=kI hi (hp.mem_iff.mp hq)
  rw [List.getElem?_map,Option.map_eq_some_iff] at a b
  obtain ⟨i1,e1,a⟩:=a
  obtain ⟨i2,e2,b⟩:=b
  rw [e1] at e2; cases e2
  exact ⟨i1,t,a.symm,by rw [c,← b]⟩
 refine ⟨(ps.map Prod.snd).map pW,mK fun v hv=>?_,?_,?_⟩
 ·obtain ⟨q,hq,rfl⟩:=List.mem_map.mp hv
  obtain ⟨i,t,_,e⟩:=hm q hq
  exact ⟨_,t,e⟩
 ·rw [List.map_map]
  have e:=jX (kz:=(List.range n).map fun (i:Nat)=>key (i:Int)) hi (by simp)
  rw [← e]
  exact hp.map _
 ·rw [List.map_map,List.pairwise_map]
  refine List.Pairwise.imp_of_mem (fun {a b} ha hb hab=>?_) ho
  obtain ⟨i,t,e1,e2⟩:=hm a ha
  obtain ⟨j,u,e3,e4⟩:=hm b hb
  show key (pW a.2)≤key (pW b.2)
  rw [e2,e4]
  show key (i:Int)≤key (j:Int)
  rw [← e1,← e3]
  simpa using hab
section
variable {X:Cx} {pins:List (Addr×Obj)} {σ:St} {H:Hp} {s:Shared} {args:Arguments} {scope:Scope} {clos:List (Str×Addr)} {cv ctv:Value} {f cc p r:Addr} {x y:Str} {p1 p2 p3 p4:Pos} {n:Nat} {ns:List Int} {t u v:Tok} {Q:Value→Shared→Prop}
structure LamOk (X:Cx) (args:Arguments) (scope:Scope) (clos:List (Str×Addr)) (x y:Str) (body:Expr) (cc:Addr):Prop where
 bind:∀ (cv ctv:Value) (i:Nat) (ti:Tok),bindArgs (kla_fn "<lambda>" (X.env.qual ++ "<lambda>") args body scope clos ((X.mg "__name__").getD .none) cv ctv) ⟨[.int i ti],[]⟩=pure [(x,.int i ti)]
 kind:scope.kind = .function
 co:scope.isCoroutine=false
 gen:scope.isGenerator=false
 nc:∀ z∈scope.names,z.2≠.cell
 hx:scope.names.lookup x=some .local
 hy:scope.names.lookup y=some .free
 yc:clos.lookup y=some cc
 dx:(x == ("__debug__":Str))=false
 dy:(y == ("__debug__":Str))=false
 ey:(y == ("__classdict__":Str))=false
theorem oM (I:Inv X pins σ H s) (hh:X.A.handled=none) (hroom:X.A.in1.in1.depth<recursionLimit) (hr:IsRange s.heap r 0 n 1 t u v) (hfn:s.heap.get? f=some (ki X args (.UnaryOp .USub (.Subscript (.Name y p1) (.Name x p2) p3) p4) scope clos cv ctv))
 (hcv:∃ c' oc vs t,cv = .ref c'∧H c'=some (.frz oc (.own 0))∧oc.data = .fields vs∧vs[1]? = some (.str (X.env.qual ++ "<lambda>") t)) (hce:s.heap.IsCell cc (some (.ref p))) (hcL:cc≠X.env.locals) (hl:SqL X.K H p (ns.map V.int)) (hn:n≤ns.length) (h64:n<64)
 (L:LamOk X args scope clos x y (.UnaryOp .USub (.Subscript (.Name y p1) (.Name x p2) p3) p4) cc)
 (h:∀ D out s',Inv X pins σ (upd H D (.lst (out.map V.int))) s'→H D=none→SortK n (fun z=>-(ns.getD z.toNat 0)) out→Q (.ref D) s') :
 wpAny (model X.prog X.w) X.A (call (.builtin "sorted") [.ref r] [(Str.ofString "key",.ref f)]) Q X.xe s:=by
 obtain ⟨m,hns,hloc⟩:=id I.loc
 obtain ⟨oL,esL,epL,hoL,hdL,hrL⟩:=id hns
 have neL:∀ {b:Addr} {o:Obj},s.heap.get? b=some o→(∀ es ep,o.data≠.dict es ep)→b≠X.env.locals:=fun e nd z=>by
  rw [z,hoL] at e; cases e; exact nd _ _ hdL
 have tL:∀ {b:Addr} {u:HO},H b=some u→b≠X.env.locals:=fun e z=>by rw [z,I.free] at e; cases e
 obtain ⟨its,rv,pl,hz⟩:=I.list hl
 have hil:=rv.length
 rw [List.length_map] at hil
 obtain ⟨ol,nl,el,ecl,edl,edd⟩:=id pl
 have pL:p≠X.env.locals:=neL el fun es ep z=>by rw [edd] at z; cases z
 have N0:News (ju s.heap) X.env.locals s.heap (jt s.heap X.env.locals X.env.locals):=fun q hq=>by
  obtain ⟨a,o⟩:=q
  have:=il.mp hq
  exact ⟨this.2.2,this.1,iw _ _⟩
 have inN:∀ {b:Addr} {o:Obj},s.heap.get? b=some o→b≠X.env.locals→(b,o)∈jt s.heap X.env.locals X.env.locals:=fun e z=>il.mpr ⟨z,z,e⟩
 obtain ⟨c',oc,vc,tq,rfl,hc',hdc,hqc⟩:=hcv
 have hc1:=(I.hok c' _ hc').1
 refine lF (kz:=(List.range n).map fun (i:Nat)=>-(ns.getD (i:Int).toNat 0)) (f:=.ref f) (b:=false) (wl hns) N0 hh hr (by simp) h64 (ksk_s1 _ _) (fun x=>ksk_l1 _ _) (fun x=>ksk_t1 _ _) (fun i k ti hkz g tk own Fg Ng=>?_) fun D h' tk vs out c F' N' hD hi ko=>?_
 ·rw [List.getElem?_map,Option.map_eq_some_iff] at hkz
  obtain ⟨i',e1,rfl⟩:=hkz
  have hin:i<n∧i'=i:=by
   obtain ⟨h1,h2⟩:=List.getElem?_eq_some_iff.mp e1
   rw [List.length_range] at h1
   rw [List.getElem_range] at h2
   exact ⟨h1,h2.symm⟩
  obtain ⟨hin,ei⟩:=hin
  subst i'
  have get:∀ {b:Addr} {o:Obj},s.heap.get? b=some o→b≠X.env.locals→g.get? b=some o:=fun e z=>(Ng _ (List.mem_append_left _ (inN e z))).1
  have hni:ns[i]? = some ns[i]:=List.getElem?_eq_getElem (by omega)
  obtain ⟨w1,ew,rw1⟩:=rv.get (show (ns.map V.int)[i]? = some (.int ns[i]) by rw [List.getElem?_map,hni]; rfl)
  obtain ⟨t1,rfl⟩:=(show ∃ t,w1=Value.int ns[i] t from rw1)
  have egd:ns.getD ((i:Nat):Int).toNat 0=ns[i]:=by rw [Int.toNat_natCast,List.getD_eq_getElem?_getD,hni]; rfl
  rw [egd]
  have blt:∀ b o,X.base.get? b=some o→g.get? b=some o:=fun b o e=>get (I.bk b o e) (fun z=>absurd (Heap.lt_size e) (by rw [z]; exact Nat.not_lt.mpr (Nat.le_trans I.ok.bsz I.ok.above)))
  obtain ⟨oce,ece,ecd⟩:=hce
  refine wpAny_mono (pJ (s:={ s with heap:=g,toks:=tk }) (X:=X) (args:=args) (scope:=scope) (clos:=clos) (cv:=.ref c') (ctv:=ctv) (f:=f) (cc:=cc) (p:=p) (x:=x) (y:=y) (p1:=p1) (p2:=p2) (p3:=p3) (p4:=p4) (its:=its.toArray) (i:=i) (ti:=ti) (k:=ns[i]) (tk0:=t1)
   (get hfn (neL hfn fun es ep z=>by cases z)) ⟨c',oc,vc,tq,rfl,get hc1 (tL hc'),hdc,hqc⟩ ⟨oce,get ece hcL,ecd⟩ ⟨ol,get el pL,ecl,nl,edd⟩ (by simpa using ew) (I.ok.mod.nolimit.keeps blt) hroom (by omega) (L.bind _ _ _ _) L.kind L.co L.gen L.nc L.hx L.hy L.yc L.dx L.dy L.ey) (fun v s' q=>?_) fun _ _ z=>z
  obtain ⟨h',tk',t',rfl,rfl,kp⟩:=q
  exact ⟨h',tk',t',rfl,rfl,Fg.kept kp,fun q hq=>⟨kp _ _ (Ng q hq).1,(Ng q hq).2⟩⟩
 ·obtain ⟨os,hos,hsk⟩:=SortK.of (key:=fun z=>-(ns.getD z.toNat 0)) hi ko
  have hDn:H D=none:=I.hok.fresh hD
  refine h D os _ ?_ hDn hsk
  have get:∀ {b:Addr} {o:Obj},s.heap.get? b=some o→b≠X.env.locals→h'.get? b=some o:=fun e z=>(N' _ (List.mem_cons_of_mem _ (inN e z))).1
  have hDo:=(N' _ (.head _)).1
  have neD:∀ {b:Addr} {o:Obj},s.heap.get? b=some o→b≠D:=fun e=>Nat.ne_of_lt (Nat.lt_of_lt_of_le (Heap.lt_size e) hD)
  have up:∀ {b u},H b=some u→upd H D (.lst (os.map V.int)) b=some u:=fun e=>by rw [av (ap e hDn)]; exact e
  have hlo:os.length=n:=by have:=hsk.perm.length_eq; simpa using this
  refine I.step (g':=s.gens) (d':=s.drawn) (ch:=[]) (fun _ z=>nomatch z) (fun b o hL _ _ e _=>get e hL) (fun b o hL _ _ e _=>⟨o.slots,get e hL⟩) (fun b o _ e q=>by rw [av (neD e)]; exact q) (fun b o _ e=>?_) (fun b xs e=>up e) (fun b o u e=>up e) (fun b ps q e=>⟨#[],by rw [up e]; simp⟩) (fun m' hm'=>?_) (fun b u e=>?_) I.bare
  ·by_cases z:b=X.env.locals
   ·obtain ⟨o',_,_,e',_⟩:=F'.ns; exact ⟨o',by rw [z]; exact e'⟩
   ·exact ⟨o,get e z⟩
  ·rw [hm'.eq_nsMap,← hns.eq_nsMap]; exact F'.ns
  ·by_cases z:b=D
   ·subst z; rw [aG] at e; cases e
    exact ⟨by rw [List.length_map,hlo]; exact Nat.le_trans (Nat.le_of_lt h64) (by decide),out.toList,c,dW hos,by rw [Array.toArray_toList]; exact hDo⟩
   ·rw [av z] at e
    exact (I.hok b u e).stay (fun d w hd q=>get q (hd.elim (fun y=>by rw [y]; exact tL e) fun y=>tL y)) (fun d q=>up q) (fun d xs q=>up q) fun d ob u q=>up q
end
theorem Inv.pinNew {X:Cx} {pins:List (Addr×Obj)} {σ:St} {H:Hp} {s:Shared} {f:Addr} {o:Obj} (J:Inv X pins σ H s) (e:s.heap.get? f=some o) (n:H f=none) (hf:X.s₀.heap.objs.size≤f) (hL:f≠X.env.locals) (nc:∀ v,o.data≠.cell v):Inv X ((f,o) :: pins) σ H s:=by
 refine J.pins_of fun p hp=>?_
 rcases List.mem_cons.mp hp with rfl | hp
 ·refine ⟨e,n,hL,fun z=>?_,nc⟩
  obtain ⟨_,o',e',_⟩:=J.ok.funs.mem z
  exact absurd (Nat.lt_of_lt_of_le (Heap.lt_size e') hf) (Nat.lt_irrefl _)
 ·exact J.pin p (List.mem_append_right _ hp)
def vh (K:PySem.W.Frag) (j:Nat) (te:TE):TE:=fun σ H Q=>te σ H fun v H1=>∃ n:Nat,v = .int n∧n<64∧∃ (p:Addr) (ns:List Int),σ[j]? = some (some (.ref p))∧SqL K H1 p (ns.map V.int)∧n≤ns.length ∧
 ∀ H2 out D,TbS H1 H2→SortK n (fun z=>-(ns.getD z.toNat 0)) out→H2 D=none→Q (.ref D) (upd H2 D (.lst (out.map V.int)))
theorem TbS.sq {K:PySem.W.Frag} {H H':Hp} {p:Addr} {xs:List V} (h:TbS H H') (s:SqL K H p xs):SqL K H' p xs:=by
 rcases s with (s | ⟨o,s⟩) | s
 ·exact .inl (.inl (h.old _ _ s fun _ _ z=>by cases z))
 ·exact .inl (.inr ⟨o,h.old _ _ s fun _ _ z=>by cases z⟩)
 ·exact .inr s
section
variable {X:Cx} {e:Expr} {te:TE} {x y:Str} {j:Nat} {c P:Addr} {args:Arguments} {scope:Scope} {p1 p2 p3 p4 q1 q2 q3 lp kp pos:Pos}
theorem jS {cc:Addr} (hnm:scope.names=[(x,.local),(y,.free)]) (h:X.env.cells.lookup y=some cc):closureFor scope X.env=pure [(y,cc)]:=by
 unfold closureFor
 rw [hnm]
 simp [cellOf,h]
theorem oT (hg1:Gl X "sorted") (hm1:X.mg "sorted" = none) (hg2:Gl X "range") (hm2:X.mg "range" = none) (he:PE X e te) (hj:X.N[j]? = some y) (hyk:X.env.kindOf y=some .cell) (hcode:X.env.code = .ref c)
 (hB:TabB X.base X.mg c P (X.env.qual ++ "<lambda>")) (hcalm:X.calm=true) (hroom:X.A.in1.in1.depth<recursionLimit) (hnm:scope.names=[(x,.local),(y,.free)]) (hkd:scope.kind = .function) (hco:scope.isCoroutine=false) (hge:scope.isGenerator=false)
 (hbind:∀ (cc:Addr) (cv ctv:Value) (i:Nat) (ti:Tok),bindArgs (kla_fn "<lambda>" (X.env.qual ++ "<lambda>") args (.UnaryOp .USub (.Subscript (.Name y p1) (.Name x p2) p3) p4) scope [(y,cc)] ((X.mg "__name__").getD .none) cv ctv) ⟨[.int i ti],[]⟩=pure [(x,.int i ti)])
 (hdf:defaultsOf args X.env=([],[])) (hxy:(y == x)=false) (dx:(x == ("__debug__":Str))=false) (dy:(y == ("__debug__":Str))=false) (ey:(y == ("__classdict__":Str))=false) (hs:starEach [e] X.env=[(false,eval e X.env)]:=by rfl) :
 PE X (.Call (.Name "sorted" q1) [.Call (.Name "range" q2) [e] [] q3] [⟨some "key",.Lambda args (.UnaryOp .USub (.Subscript (.Name y p1) (.Name x p2) p3) p4) scope lp,kp⟩] pos) (vh X.K j te):=by
 refine ⟨fun pins s σ H Q I h=>?_⟩
 refine wpAny_Call_Name_kw (dG I hg1 hm1 e7 ?_)
 refine callWith_kw (rest:=[]) ?_
 show wpAny _ _ (spliced ((false,eval (.Call (.Name "range" q2) [e] [] q3) X.env) :: [])) _ _ s
 refine Calls.spliced_cons ?_
 refine Call_ (dG I hg2 hm2 boot_range (PyProof.Rows.callWith_type1 (rest:=[]) ?_ hs rfl))
 rw [hs]
 refine Calls.spliced_cons (thn (he pins s σ H _ I h) fun u1 s1 ⟨v1,H1,I1,r1,n,e1,h64,p,ns,ep,hq,hnl,hQ⟩=>Calls.spliced_nil ?_)
 subst e1
 obtain ⟨tn,rfl⟩:=r1
 refine call_range_1 ?_
 refine Calls.spliced_nil ?_
 show wpAny _ _ (evalAll [(do let v ← eval (.Lambda args (.UnaryOp .USub (.Subscript (.Name y p1) (.Name x p2) p3) p4) scope lp) X.env; standAt pos; pure v)]) (fun kvs s₂=>wpAny (model X.prog X.w) X.A (call (.builtin "sorted") [.ref s1.heap.objs.size] ([Str.ofString "key"].zip kvs)) (EP X pins σ Q) X.xe s₂) _ _
 have I2:Inv X pins σ H1 { s1 with heap:=s1.heap.push { cls:=.type "range",data:=.fields #[.int 0 s1.toks,.int n tn,.int 1 (s1.toks + 1)] },toks:=s1.toks + 1 + 1 }:=I1.kept fun b o e=>Heap.get?_push_of_some _ e
 have J:=I2.pinNew (Heap.get?_push_size s1.heap (o:={ cls:=.type "range",data:=.fields #[.int 0 s1.toks,.int n tn,.int 1 (s1.toks + 1)] }) rfl) (I1.hok.fresh (Nat.le_refl _)) I1.sz (Nat.ne_of_gt I1.lt) (fun v z=>by cases z)
 obtain ⟨cc,hcc⟩:=I.ok.has y (.inl hyk)
 unfold evalAll
 refine wpAny_bind (wpAny_bind ?_)
 refine uO J hdf (jS hnm hcc) hcode hB fun f cv ctv H' s' J2 tb hcv=>?_
 refine wpAny_bind (wpAny_standAt (wpAny_pure ?_))
 refine wpAny_bind (wpAny_holding ?_)
 unfold evalAll
 refine wpAny_pure (wpAny_pure ?_)
 obtain ⟨m,hns,hloc⟩:=id J2.loc
 obtain ⟨u,ru,lk⟩:=hloc j y (.ref p) hj ep (.inr (.inl hyk))
 obtain rfl:u = .ref p:=ru
 have hce:s'.heap.IsCell cc (some (.ref p)):=by
  rcases lk with ⟨z,_⟩ | ⟨_,c2,e2,z⟩
  ·rw [hyk] at z; cases z
  ·rw [hcc] at e2; cases e2; exact z
 refine oM J2 (J2.ok.hd hcalm) hroom (J2.pin _ (List.mem_append_right _ (.tail _ (.head _)))).1 (J2.pin _ (List.mem_append_right _ (.head _))).1 hcv hce (J2.cne y cc hcc) (tb.sq hq) hnl h64 ⟨hbind cc,hkd,hco,hge,fun z hz=>?nc,by rw [hnm]; exact List.lookup_cons_self,by rw [hnm,List.lookup_cons,hxy]; exact List.lookup_cons_self,List.lookup_cons_self,dx,dy,ey⟩ fun D out s'' J3 hD sk=>?_
 case nc =>
  rw [hnm] at hz
  rcases List.mem_cons.mp hz with rfl | hz
  ·exact fun z=>by cases z
  ·rw [List.mem_singleton.mp hz]; exact fun z=>by cases z
 exact ⟨.ref D,_,J3.pins_of fun q hq=>J3.pin q (List.mem_append_right _ (.tail _ (.tail _ hq))),rfl,hQ H' out D tb sk hD⟩
end
end L2
namespace L2
open PySem PySem.Spec PyProof.Rows PySem.W
section
variable {C:Ctx} {ow:List Bool} {G:Hp} {ρ:DSt} {σ:St} {H H2:Hp} {pd:List (D×V)} {O:Own}
theorem RO.tbs (h:RO C ow G ρ σ H pd O) (t:TbS H H2):RO C ow G ρ σ H2 pd O:=by
 have gnt:∀ a o,G a=some o→NT o:=fun a o e ps q z=>by
  have:=h.ft a ps q (by rw [h.gh a o e,z])
  rw [e] at this; cases this
 have gh:aI G H2:=fun a o e=>t.old a o (h.gh a o e) (gnt a o e)
 have og:∀ a l,O a=some l→H2 a=H a:=fun a l e=>by
  obtain ⟨_,⟨xs,q⟩,_⟩:=h.og a l e
  rw [t.old a _ q (WrO.nt xs),q]
 refine ⟨h.len,gh,h.g0,h.gn,fun a l e=>?_,h.cok,fun a o e n nt=>t.old a o (h.fr a o e n nt) nt,fun a ps q e=>?_,fun a e=>h.al a (t.new a e),h.mp,fun i d e=>?_,?_,h.np⟩
 ·obtain ⟨q1,q2,q3⟩:=h.og a l e
  rw [og a l e]; exact ⟨q1,q2,q3⟩
 ·cases z:G a with
  | none=>rfl
  | some o =>
   rw [gh a o z] at e; cases e
   exact absurd rfl (gnt a _ z ps q)
 ·obtain ⟨v,h1,h2⟩:=h.sl i d e
  refine ⟨v,h1,?_⟩
  split at h2
  ·rename_i c; rw [if_pos c]; exact h2.keep (fun _ _ z=>z) fun a τ q=>⟨q,og a _ q⟩
  ·rename_i c; rw [if_neg c]; exact h2
 ·exact bZ.keep (fun _ _ z=>z) (fun a j π _ q=>⟨q,og a _ q⟩) h.pn
end
def wc (j:Nat) (me:ME):ME:=fun ρ q=>me ρ fun d ρ1=>match d with
 | .int n=>0≤n∧n<64∧∃ ns:List Int,ρ1[j]? = some (some (.lst (ns.map D.int)))∧n≤(ns.length:Int)∧∀ out,SortK n.toNat (fun z=>-(ns.getD z.toNat 0)) out→q (.lst (out.map D.int)) ρ1
 | _=>False
section
variable {X:Cx} {ow:List Bool} {e:Expr} {me:ME} {x y:Str} {j:Nat} {c P:Addr} {args:Arguments} {scope:Scope} {p1 p2 p3 p4 q1 q2 q3 lp kp pos:Pos} {k:Nat}
theorem q8 (hr:Room (k + 2) X.A) (hg1:Gl X "sorted") (hm1:X.mg "sorted" = none) (hg2:Gl X "range") (hm2:X.mg "range" = none) (he:QE X ow e me) (hj:X.N[j]? = some y) (hyk:X.env.kindOf y=some .cell) (hcode:X.env.code = .ref c)
 (hB:TabB X.base X.mg c P (X.env.qual ++ "<lambda>")) (hcalm:X.calm=true:=by rfl) (hnm:scope.names=[(x,.local),(y,.free)]:=by rfl) (hkd:scope.kind = .function:=by rfl) (hco:scope.isCoroutine=false:=by rfl) (hge:scope.isGenerator=false:=by rfl)
 (hbind:∀ (cc:Addr) (cv ctv:Value) (i:Nat) (ti:Tok),bindArgs (kla_fn "<lambda>" (X.env.qual ++ "<lambda>") args (.UnaryOp .USub (.Subscript (.Name y p1) (.Name x p2) p3) p4) scope [(y,cc)] ((X.mg "__name__").getD .none) cv ctv) ⟨[.int i ti],[]⟩=pure [(x,.int i ti)]:=by intros; rfl)
 (hdf:defaultsOf args X.env=([],[]):=by rfl) (hxy:(y == x)=false:=by decide) (dx:(x == ("__debug__":Str))=false:=by decide) (dy:(y == ("__debug__":Str))=false:=by decide) (ey:(y == ("__classdict__":Str))=false:=by decide) (hs:starEach [e] X.env=[(false,eval e X.env)]:=by rfl) (ho:ow[j]?≠some true:=by decide) :
 QE X ow (.Call (.Name "sorted" q1) [.Call (.Name "range" q2) [e] [] q3] [⟨some "key",.Lambda args (.UnaryOp .USub (.Subscript (.Name y p1) (.Name x p2) p3) p4) scope lp,kp⟩] pos) (wc j me):=by
 obtain ⟨t,p,s⟩:=he
 refine ⟨_,oT hg1 hm1 hg2 hm2 p hj hyk hcode hB hcalm ?_ hnm hkd hco hge hbind hdf hxy dx dy ey hs,fun C G ρ σ H pd q Q r hm kk=>?_⟩
 ·exact hr.in1.in1.depth
 refine s C G ρ σ H pd _ _ r hm fun d ρ1 v G1 H1 h1 z1 k1 r1 p1=>?_
 cases d with
 | int n =>
  obtain ⟨n0,n64,ns,e1,hn,hq⟩:=h1
  obtain ⟨O1,ro1⟩:=r1
  obtain ⟨w1,e2,e3⟩:=ro1.sl j _ e1
  rw [if_neg ho] at e3
  obtain ⟨pa,xs,rfl,g1,g2⟩:=aJ e3
  rw [bd g2] at g1
  refine ⟨n.toNat,by rw [ay p1]; congr 1; omega,by omega,pa,ns,e2,.inl (.inl (ro1.gh _ _ g1)),by omega,fun H2 out D tb sk hD=>?_⟩
  have ro2:=ro1.tbs tb
  obtain ⟨ro3,z3⟩:=ro2.new hD (.lst (out.map V.int))
  refine kk _ ρ1 _ _ _ (hq out sk) (z1.trans z3) k1 ⟨O1,ro3⟩ ?_
  exact gJ aG (cn _)
 | _=>exact h1.elim
end
theorem Fun.okc {P:Program} {w:World} {K:PySem.W.Frag} {mg:Str→Option Value} {base:Heap} {x qual:Str} {st:Stmt} {f c:Addr} {fd:FuncData} {N ps:List Str} {k:Nat} {sp:Sp} (F:Fun K x qual st f fd) (hc:fd.code = .ref c) (S:FnScope N ps (ak st)) (len:∀ vs H Q E,sp vs H Q E→vs.length=ps.length)
 (hbody:∀ (A:Around) (outer:List Env) (s:Shared) (H:Hp) (vs:List V) (Q:VK) (E:XK),Room k (A.deeper (envOfC qual (ak st) s.heap.objs.size f (.ref c)))→sp vs H Q E →
  ∃ t,PSs (jG CX0 P w K mg base N qual (ak st) f (.ref c) A outer s H E).nox (ca st) t∧t { nx:=fun _ H'=>Q .non H',rt:=Q } (start N vs) H):FnOk P w K mg base CX0 (k + 1) f fd ps sp:=by
 obtain ⟨oc,od,kV,doc,pm,an,cdv,ct,osl,rfl,lk,hcd⟩:=F.ex
 have e:cdv = .ref c:=hc
 subst e
 refine uu lk hcd S len fun A outer s H vs Q E hr hsp=>?_
 obtain ⟨t,h,q⟩:=hbody A outer s H vs Q E hr hsp
 exact ⟨t,h.nox,q⟩
theorem fnDc {P:Program} {w:World} {K:PySem.W.Frag} {mg:Str→Option Value} {base:Heap} {x qual:Str} {st:Stmt} {f:Addr} {fd:FuncData} {N ps:List Str} {k:Nat} {c:Addr} (F:Fun K x qual st f fd) (hc:fd.code = .ref c) (S:FnScope N ps (ak st)) (M:Md) (sd:SpD)
 (hl:∀ ds q,sd ds q→ds.length=ps.length) (ho:M.ow.take ps.length=M.mu) (hml:M.mu.length=ps.length)
 (hbody:∀ (A:Around) (outer:List Env) (s:Shared) (H:Hp) (E:XK),Room k (A.deeper (envOfC qual (ak st) s.heap.objs.size f (.ref c))) →
  ∃ m,QSs (jG CX0 P w K mg base N qual (ak st) f (.ref c) A outer s H E).nox M (ca st) m∧∀ ds q,sd ds q→m (jM M.mu q) (ds.map some++List.replicate (N.length - ps.length) none)) :
 FnOk P w K mg base CX0 (k + 1) f fd ps (a9 M.mu M.fr sd):=by
 have hov:∀ i:Nat,i<M.mu.length→M.ow[i]? = M.mu[i]?:=fun i hi=>by rw [← ho,List.getElem?_take_of_lt (by omega)]
 have hlen:∀ vs H Q E,a9 M.mu M.fr sd vs H Q E→vs.length=ps.length:=fun vs H Q E ⟨C,G,ds,q,_,_,⟨O,ro⟩,h1,_,_⟩=>by
  have:=ro.len; simp at this; rw [← this]; exact hl ds q h1
 refine F.okc hc S hlen fun A outer s H vs Q E hr hsp=>?_
 obtain ⟨m,⟨t,p,ss⟩,hm⟩:=hbody A outer s H E hr
 have hvl:=hlen vs H Q E hsp
 obtain ⟨C,G,ds,q,hnp,hmu,⟨O,ro⟩,hsd,hml2,kk⟩:=hsp
 refine ⟨t,p,?_⟩
 have hmo:gE C M.mu:=fun i v e=>by rw [hmu] at e; exact (jn e).1
 have r0:R C M.ow G (ds.map some++List.replicate (N.length - ps.length) none) (start N vs) H []:=by
  unfold start; rw [hvl]
  exact ⟨O,ro.grow _ fun i hi=>hov i (by omega)⟩
 refine ss C G _ _ H (jM M.mu q) _ hmo hnp r0 (hm ds q hsd) ⟨?_,fun _ _ _ _ h=>h.elim,fun _ _ _ _ h=>h.elim,?_⟩
 ·intro ρ σ G' H' h z ⟨O',r'⟩
  refine kk .non (cf M.mu.length ρ) (cf M.mu.length σ) .non G' H' (by rw [cG]; exact h) z (cD _ _) (R.non ⟨O',r'.trim hmo hov⟩)
 ·intro d ρ σ v G' H' h z hr'
  refine kk d (cf M.mu.length ρ) (cf M.mu.length σ) v G' H' (by rw [cG]; exact h) z (cD _ _) ?_
  unfold Ret at hr' ⊢
  split at hr'
  ·rename_i c; rw [if_pos c]; obtain ⟨O',r'⟩:=hr'; exact ⟨O',r'.trim hmo hov⟩
  ·rename_i c; rw [if_neg c]; obtain ⟨⟨O',r'⟩,p⟩:=hr'; exact ⟨⟨O',r'.trim hmo hov⟩,p⟩
def mL (H:Hp):Prop:=∀ b,H b=none∨(∃ o xs,H b=some (.frz o (.lst xs)))∨∃ ps q,H b=some (.tbl ps q)
def j6 (H:Hp):Hp:=fun a=>match H a with
 | some (.tbl _ _)=>none
 | o=>o
theorem rY {H:Hp} {a:Addr} {o:HO} (h:H a=some o) (n:NT o):j6 H a=some o:=by
 unfold j6; rw [h]
 cases o <;> first | rfl | exact absurd rfl (n _ _)
theorem sW {H:Hp} {a:Addr} {o:HO} (h:j6 H a=some o):H a=some o:=by
 unfold j6 at h
 split at h
 ·cases h
 ·exact h
def jK (K:PySem.W.Frag):Sp:=fun vs H Q _=>∃ (a:Addr) (ns:List Int),vs=[.ref a]∧mL H∧SqL K H a (ns.map V.int)∧ns.length≤63∧∀ H',Q (.bl true) H'
theorem nG {K:PySem.W.Frag} {vs:List V} {H:Hp} {Q:VK} {E:XK} (h:jK K vs H Q E):a9 [false] false (qv K) vs H Q E:=by
 obtain ⟨a,ns,rfl,hO,hS,hl,hq⟩:=h
 have main:∀ φ:Addr→Prop,mI K φ ns→Rep (j6 H) (.scr φ ns) (.ref a)→a9 [false] false (qv K) [.ref a] H Q E:=fun φ hφ r=>by
  refine ⟨⟨j6 H,H,fun _=>none,[none],0⟩,j6 H,[.scr φ ns],fun d _=>d = .bl true,rfl,rfl,⟨fun _=>none,rfl,fun _ _ e=>sW e,aI.refl _,fun _ _ e=>.inl e,fun a l e=>by (first | cases e),fun a l π e=>by (first | cases e),fun _ _ e _ _=>e,(fun a ps q e=>by unfold j6; rw [e]),fun _ e=>e,fun i v e=>?_,?_,trivial,Nat.le_refl _⟩,⟨φ,ns,rfl,hφ,hl,rfl⟩,rfl,?_⟩
  ·cases i with
   | zero=>simp at e
   | succ i=>simp at e
  ·intro i d e
   cases i with
   | zero=>simp at e; subst e; exact ⟨_,rfl,by simpa using r⟩
   | succ i=>simp at e
  ·intro d ρ' σ' v G' H' hd _ _ hr
   subst hd
   unfold Ret at hr
   rw [if_neg (by decide)] at hr
   rw [cU hr.2]
   exact hq H'
 rcases hS with (h1 | ⟨o,h1⟩) | h1
 ·rcases hO a with z | ⟨o,xs,z⟩ | ⟨ps,q,z⟩ <;> (rw [h1] at z; cases z)
 ·exact main (fun _=>False) (fun _ _ z=>z.elim) (by rw [Rep]; exact ⟨a,rfl,.inl ⟨o,rY h1 fun _ _ z=>by cases z⟩⟩)
 ·exact main (fun b=>b=a) (fun b H' z=>by subst z; exact .inr h1) (by rw [Rep]; exact ⟨a,rfl,.inr rfl⟩)
theorem nZ {P:Program} {w:World} {K:PySem.W.Frag} {mg mb:Str→Option Value} {CX:CXT} {k:Nat} {fa a c Pt:Addr} {tq:Str} {fd:FuncData} {x:Str} {sp:Sp} {s₁:Shared} {vs:List Value} {ns:List Int}
 (KX:K.In s₁.heap) (hns:s₁.heap.Ns mainGlobals mg) (hb:s₁.heap.Ns builtinsNs mb) (hbb:∀ x:Str,x ≠ "__name__" → mb x=bootBuiltins x) (hlim:s₁.heap.NoLimit) (hg:s₁.gens = #[])
 (ha:s₁.heap.get? a=some { cls:=.type "list",data:=.seq vs.toArray }) (hi:IntsAre vs ns) (hl:ns.length≤sizeLine) (hr:Room k callerA)
 (hT:CodeHd s₁.heap c Pt) (hPt:s₁.heap.get? Pt=some (tabObj #[])) (hblt:s₁.heap.BuiltinsAt mg Pt) (hKP:K.lookup Pt=none)
 (F:∀ base:Heap,K.In base→base.Ns mainGlobals mg→TabB base mg c Pt tq→FnOk P w K mg base CX k fa fd [x] sp) (hbind:∀ (s:Shared) (u:Value),BindsTo s fd ⟨[u],[]⟩ [(x,u)])
 (hsp:∀ H:Hp,mL H→SqL K H a (ns.map V.int)→sp [.ref a] H (fun v _=>v = .bl true) fun _ _ _=>False)
 (hCX:∀ H e s',CX [] H s₁ (fun _ _ _=>False) e s'→False) :
 codeAny (model P w) callerA (.call (.ref fa) ⟨[.ref a],[]⟩) (fun r s'=>r = .ok (.ret (.bool true))∧OldK s₁.heap s'.heap∧s'.os=s₁.os∧AllBare s'.gens) s₁:=by
 have rv:=dW hi
 have lenV:=hi.length
 have hne:Pt≠a:=fun z=>by rw [z,ha] at hPt; cases hPt
 have core:∀ H:Hp,mL H→SqL K H a (ns.map V.int)→HOk P w H s₁.heap→H Pt=some (.tbl #[] tq)→(∀ b,H b≠none→b=a∨b=Pt)→(H a≠none→K.lookup a=none) →
  codeAny (model P w) callerA (.call (.ref fa) ⟨[.ref a],[]⟩) (fun r s'=>r = .ok (.ret (.bool true))∧OldK s₁.heap s'.heap∧s'.os=s₁.os∧AllBare s'.gens) s₁:=by
  intro H hO hS hok hP hA hK
  have base_of:∀ {b:Addr} {o:Obj},s₁.heap.get? b=some o→H b=none→(dM s₁.heap H).get? b=some o:=fun e n=>pZ e n
  have noA:∀ {b:Addr} {o:Obj},s₁.heap.get? b=some o→(∀ xs n,o.data≠.seq xs n)→o.cls≠.none∨(∀ xs,o.data≠.fields xs)→H b=none:=fun {b o} e d1 d2=>by
   cases q:H b with
   | none=>rfl
   | some u =>
    rcases hA b (by rw [q]; simp) with z | z
    ·rw [z,ha] at e; cases e; exact absurd rfl (d1 _ _)
    ·rw [z,hPt] at e; cases e
     rcases d2 with d2 | d2
     ·exact absurd rfl d2
     ·exact absurd rfl (d2 _)
  have nsK:∀ {b:Addr} {m:Str→Option Value},s₁.heap.Ns b m→(dM s₁.heap H).Ns b m:=fun {b m} ⟨o,es,ep,e,d,r⟩=>⟨o,es,ep,base_of e (noA e (fun _ _ z=>by rw [d] at z; cases z) (.inr fun _ z=>by rw [d] at z; cases z)),d,r⟩
  have hKb:K.In (dM s₁.heap H):=fun b o e=>base_of (KX b o e) (by
   cases q:H b with
   | none=>rfl
   | some u =>
    rcases hA b (by rw [q]; simp) with z | z
    ·subst z; rw [hK (by rw [q]; simp)] at e; cases e
    ·rw [z,hKP] at e; cases e)
  have hM:Mod K mg (dM s₁.heap H):=⟨hKb,nsK hns,⟨mb,nsK hb,hbb⟩,let ⟨mc,h1,h2⟩:=hlim; ⟨mc,nsK h1,h2⟩⟩
  have e0:Env0 P w K mg (dM s₁.heap H) callerA [] s₁ H:=⟨rfl,hM,fun b o e=>sJ e,Nat.le_of_eq (e9 _ _),trivial,fun b hb=>absurd (show b∈([]:List Addr) from hb) (by simp),hok,.of_eq hg,TbM.hid⟩
  have tab:TabB (dM s₁.heap H) mg c Pt tq:=by
   refine ⟨TMk.hid (Heap.lt_size hPt) hP,?_,?_⟩
   ·obtain ⟨o,vs,file,tf,flags,tg,inF,text,tt,e,ec,ed,r⟩:=hT
    exact ⟨o,vs,file,tf,flags,tg,inF,text,tt,base_of e (noA e (fun _ _ z=>by rw [ed] at z; cases z) (.inl (by rw [ec]; intro z; cases z))),ec,ed,r⟩
   ·obtain ⟨bm,o,b1,b2,b3,b4,b5,b6,b7,b8⟩:=hblt
    exact ⟨bm,o,b1,b2,b3,b4,base_of b5 (noA b5 (fun _ _ z=>by rw [b8] at z; cases z) (.inl (by rw [b6]; intro z; cases z))),b6,b7,b8⟩
  refine codeAny_mono ((F _ hKb (nsK hns) tab).run callerA [] s₁ H ⟨[.ref a],[]⟩ [.ref a] [.ref a] _ _ hr e0 (hbind s₁ (.ref a)) (.cons rfl .nil) (hsp H hO hS)) fun r s' h=>?_
  cases r with
  | error e=>exact (hCX H e s' h).elim
  | ok fl =>
   cases fl with
   | next=>exact False.elim h
   | brk=>exact False.elim h
   | cont=>exact False.elim h
   | ret u =>
    obtain ⟨v,H',os,bare,un,hok',r',q⟩:=h
    have q':v = .bl true:=q
    subst q'
    obtain rfl:u=Value.bool true:=r'
    refine ⟨rfl,⟨fun b o e=>?_,fun b o e=>un.there b o e (by simp)⟩,os,bare⟩
    cases q:H b with
    | none=>exact .inl (un.keep b o e q (by intro z; exact absurd (show b∈([]:List Addr) from z) (by simp)) (by simp))
    | some u =>
     by_cases zP:b=Pt
     ·subst zP
      obtain ⟨more,z2⟩:=un.tbls b _ _ hP
      obtain ⟨e2,_⟩:=hok' b _ z2
      rw [hPt] at e; cases e
      exact .inr (.inl ⟨(hT.tab hPt).isCodeTable,rfl,#[],more,rfl,e2⟩)
     ·rcases hO b with z | ⟨ob,xs,z⟩ | ⟨ps,q2,z⟩
      ·rw [q] at z; cases z
      ·have z2:=un.frzs b ob _ z
       obtain ⟨e1,_⟩:=hok b _ z
       obtain ⟨e2,_⟩:=hok' b _ z2
       rw [e] at e1; cases e1
       exact .inl e2
      ·rcases hA b (by rw [q]; simp) with y | y
       ·subst y
        obtain ⟨e1,_⟩:=hok b _ z
        rw [ha] at e1; cases e1
       ·exact absurd y zP
 have tok:∀ {H:Hp},TbV H #[] tq:=⟨trivial,fun pos cv e=>by cases e⟩
 cases hk:K.lookup a with
 | some o =>
  have e:=KX a o hk
  rw [ha] at e
  cases e
  refine core (fun b=>if b=Pt then some (.tbl #[] tq) else none) (fun b=>?_) (.inr ⟨_,vs.toArray,_,hk,rfl,rfl,rfl,by rw [List.size_toArray,lenV]; exact hl,by simpa using rv⟩) (fun b u z=>?_) (if_pos rfl) (fun b z=>?_) fun z=>absurd (if_neg (Ne.symm hne)) z
  ·by_cases hb:b=Pt
   ·exact .inr (.inr ⟨_,_,if_pos hb⟩)
   ·exact .inl (if_neg hb)
  ·by_cases hb:b=Pt
   ·have z':=(if_pos hb).symm.trans z
    cases z'
    subst hb
    exact ⟨hPt,tok⟩
   ·have z':=(if_neg hb).symm.trans z
    cases z'
  ·by_cases hb:b=Pt
   ·exact .inr hb
   ·exact absurd (if_neg hb) z
 | none =>
  obtain ⟨H,hH⟩:∃ H:Hp,H=fun b=>if b=Pt then some (.tbl #[] tq) else if b=a then some (.frz { cls:=.type "list",data:=.seq vs.toArray } (.lst (ns.map V.int))) else none:=⟨_,rfl⟩
  have h1:H Pt=some (.tbl #[] tq):=by rw [hH]; exact if_pos rfl
  have h2:H a=some (.frz { cls:=.type "list",data:=.seq vs.toArray } (.lst (ns.map V.int))):=by rw [hH]; show (if a=Pt then _ else _)=_; rw [if_neg (Ne.symm hne),if_pos rfl]
  have h3:∀ b,b≠Pt→b≠a→H b=none:=fun b z1 z2=>by rw [hH]; show (if b=Pt then _ else _)=_; rw [if_neg z1,if_neg z2]
  refine core H (fun b=>?_) (.inl (.inr ⟨{ cls:=.type "list",data:=.seq vs.toArray },h2⟩)) (fun b u z=>?_) h1 (fun b z=>?_) fun _=>hk
  ·by_cases hb:b=Pt
   ·rw [hb]; exact .inr (.inr ⟨_,_,h1⟩)
   ·by_cases hb2:b=a
    ·rw [hb2]; exact .inr (.inl ⟨_,_,h2⟩)
    ·exact .inl (h3 b hb hb2)
  ·by_cases hb:b=Pt
   ·subst hb; rw [h1] at z; cases z; exact ⟨hPt,tok⟩
   ·by_cases hb2:b=a
    ·subst hb2; rw [h2] at z; cases z
     exact ⟨ha,by rw [List.length_map]; exact hl,vs,_,rv,ha⟩
    ·rw [h3 b hb hb2] at z; cases z
  ·by_cases hb:b=Pt
   ·exact .inr hb
   ·by_cases hb2:b=a
    ·exact .inl hb2
    ·exact absurd (h3 b hb hb2) z
theorem qL {l:PySem.W.OpenLaw} {n k:Nat} {q:Program} {loose:List Str} {XP:(Str→Option Value)→Heap→Prop} {YP:World→Heap→Prop} {d:DefRec} {K:Params→PySem.W.Frag} {sp:World→Sp} {x:Str} {c Pt:Addr} {tq:Str}
 (hn:l.most=some n) (hn2:n≤sizeLine) (hdf:d.params.defaults=[]) (hr:Room k callerA)
 (hY:∀ (w:World) (h:Heap),YP w h→(K w.params).In h∧h.get? Pt=some (tabObj #[]))
 (hcd0:∀ w:World,codeHdIn (K w.params) c Pt=true) (hKP:∀ w:World,(K w.params).lookup Pt=none)
 (F:∀ (w:World) (mg:Str→Option Value) (fa:Addr) (h:Heap),(K w.params).In h→h.Ns mainGlobals mg→mg d.name=some (.ref fa) →
  ∃ fd:FuncData,(∀ (s:Shared) (u:Value),BindsTo s fd ⟨[u],[]⟩ [(x,u)]) ∧
   ∀ base:Heap,(K w.params).In base→base.Ns mainGlobals mg→TabB base mg c Pt tq→FnOk l.prog w (K w.params) mg base CX0 k fa fd [x] (sp w))
 (hsp:∀ (w:World) (H:Hp) (a:Addr) (ns:List Int),ns.length≤n→mL H→SqL (K w.params) H a (ns.map V.int)→sp w [.ref a] H (fun v _=>v = .bl true) fun _ _ _=>False)
 (hCX:∀ (H:Hp) (s:Shared) (e:Value) (s':Shared),CX0 [] H s (fun _ _ _=>False) e s'→False) :
 PySem.W.WalkO q loose XP YP l.row.toRowW d [] (fun f vs=>PySem.call f vs):=by
 refine Att.attach_call hn hdf fun w s₀ s₁ mg mb fa o pm cd doc a vs ns G Y ho hd hcd hmg hobj hints hlen hg=>?_
 obtain ⟨KX,t2⟩:=hY w _ Y
 obtain ⟨fd,hb,hF⟩:=F w mg fa _ KX G.T.g hmg
 have t1:=codeHd_of_K KX (hcd0 w)
 have hblt:s₁.heap.BuiltinsAt mg Pt:=by
  obtain ⟨bm,ob,b1,b2,b3,b4,b5,b6⟩:=G.T.bmain
  refine ⟨bm,ob,b1,b2,fun z=>?_,fun z=>?_,b3,b4,b5,b6⟩
  ·obtain ⟨o,es,ep,e,hd,_⟩:=G.T.g
   rw [z,e] at b3; cases b3; rw [hd] at b6; cases b6
  ·rw [z,t2] at b3; cases b3; cases b4
 exact nZ KX G.T.g G.T.b G.T.builtins G.T.nolimit hg hobj hints (Nat.le_trans hlen hn2) hr t1 t2 hblt (hKP w) hF hb (fun H hO hS=>hsp w H a ns hlen hO hS) fun H e s'=>hCX H s₁ e s'
end L2
namespace L2
open PySem
def jF (ps e:List Int) (as:List Ask):List Int:=as.map fun a=>e.getD (bw ps a.one a.other).toNat 0
def metF (ps e:List Int):D→D
 | .tup [.int a,.int b,_,_]=>.int (e.getD (bw ps a b).toNat 0)
 | d=>d
theorem pq (ps e:List Int) (as:List Ask):(as.map er).map (metF ps e)=(jF ps e as).map D.int:=by unfold jF; rw [List.map_map,List.map_map]; rfl
def gB (ps:List Int) (as:List Ask) (o:List Int):Prop:=∃ e,DepOk ps e ps.length∧SortK as.length (fun z=>-((jF ps e as).getD z.toNat 0)) o
theorem gB.mem {ps o:List Int} {as:List Ask}:gB ps as o→o.length=as.length∧∀ k∈o,0≤k∧k<(as.length:Int)
 | ⟨_,_,h⟩=>⟨by have:=h.perm.length_eq; simpa using this,fun k hk=>by
  obtain ⟨i,hi,rfl⟩:=List.mem_map.mp (h.perm.mem_iff.mp hk)
  have:=List.mem_range.mp hi
  omega⟩
def wB:SpD:=fun ds q=>∃ ps rs as,ds=[aZ ps rs,dg as]∧Tree ps rs∧AsksOk ps as∧∀ o,gB ps as o→q (af o) []
end L2
namespace L2
open PySem PySem.Spec PyProof.Rows PySem.W
end L2
namespace L2
open PySem
theorem d5 {ps rs w ua ub um:List Int} {a b m t:Int} (hT:Tree ps rs) (he:Ends2 ps a b) (h:Climb ps a b w m) (ha:Up ps a ua) (hb:Up ps b ub) (hm:Up ps m um):t∈bj w↔(t∈ua∨t∈ub)∧t ∉ um:=by
 have hp:=(aS w).trans (h.perm hT he.a0 he.b0 he.a1 he.b1 ha hb hm)
 rw [hp.mem_iff,List.mem_filter,List.mem_append]; simp
theorem Up.sub_len {ps rs u v:List Int} {x y:Int} (hT:Tree ps rs) (hx:Up ps x u) (hy:Up ps y v) (y1:y≤ps.length) (hm:x∈v):u.length≤v.length:=by
 obtain ⟨u',g1,_,g3⟩:=hy.chain hT y1 hm hm (Int.le_refl _)
 rw [g1.det hx] at g3
 have hxl:=(hy.le hT y1 x hm).2
 have hn:u.Nodup:=(hx.dec hT (by omega)).imp fun h e=>by omega
 exact hn.length_le_of_subset g3
theorem sO {ks:List Int} (h:ks.Nodup):(bj ks).Pairwise (· < ·):=by
 have h1:=ce ks
 have h2:(bj ks).Pairwise (·≠·):=(aS ks).nodup_iff.mpr h
 exact (List.pairwise_and_iff.mpr ⟨h1,h2⟩).imp fun ⟨a,b⟩=>by omega
theorem gB.ord {ps o:List Int} {as:List Ask} (h:gB ps as o):o.Nodup∧o.Perm ((List.range as.length).map fun (i:Nat)=>(i:Int))∧∃ e,DepOk ps e ps.length∧o.Pairwise (fun i j=>e.getD (bw ps (aK as j).one (aK as j).other).toNat 0≤e.getD (bw ps (aK as i).one (aK as i).other).toNat 0):=by
 have hm:=h.mem.2
 obtain ⟨e,h1,h2⟩:=h
 have hr:((List.range as.length).map fun (i:Nat)=>(i:Int)).Nodup:=List.Pairwise.map _ (fun a b h e=>h (Int.ofNat.inj e)) List.nodup_range
 refine ⟨h2.perm.nodup_iff.mpr hr,h2.perm,e,h1,?_⟩
 have key:∀ k:Int,0≤k→k<(as.length:Int)→(jF ps e as).getD k.toNat 0=e.getD (bw ps (aK as k).one (aK as k).other).toNat 0:=fun k k0 k1=>by
  unfold jF aK
  rw [List.getD_eq_getElem?_getD,List.getElem?_map,List.getD_eq_getElem?_getD (l:=as),List.getElem?_eq_getElem (show k.toNat<as.length by omega)]; rfl
 refine List.Pairwise.imp_of_mem (fun {a b} ha hb hab=>?_) h2.ord
 have a1:=hm a ha; have b1:=hm b hb
 have hab : -((jF ps e as).getD a.toNat 0)≤-((jF ps e as).getD b.toNat 0):=hab
 rw [key a a1.1 a1.2,key b b1.1 b1.2] at hab
 omega
theorem ny {f g:Int→Int}:∀ {K:List Int},(∀ k∈K,f k≤g k)→(K.map f).sum≤(K.map g).sum
 | [],_=>Int.le_refl _
 | k :: K,h=>by
  have:=ny (K:=K) fun x hx=>h x (.tail _ hx)
  have:=h k (.head _)
  rw [List.map_cons,List.map_cons,List.sum_cons,List.sum_cons]; omega
end L2
namespace L2
open PySem PySem.Spec PyProof.Rows
section
variable {X:Cx} {M:Md} {a b c e:Expr} {ma mb mc:ME} {pos pos':Pos}
def tX (g:Int→Int→Int) (i:Nat) (mk m:ME):MS:=fun n ρ=>match ρ[i]? with
 | some (some (.lst _))=>mk ρ fun k ρ1=>match k with
  | .int j=>match ρ1[i]? with
   | some (some (.lst ds))=>0≤j∧match atI ds j with
    | some (.int x)=>m ρ1 fun d ρ2=>match d with
     | .int y=>match ρ2[i]? with
      | some (some (.lst ds2))=>match ixN ds2.length j with
       | some p=>n.nx (ρ2.set i (some (.lst (ds2.set p (.int (g x y))))))
       | none=>False
      | _=>False
     | _=>False
    | _=>False
   | _=>False
  | _=>False
 | _=>False
theorem tT {op:Operator} {g:Int→Int→Int} (hp:PIp X op (ipI g)) {i:Nat} {x:Str} {npos spos:Pos} (hN:X.N[i]? = some x) (he:QE X M.ow e ma) (hk:QE X M.ow b mb) (ho:M.ow[i]? = some true:=by decide)
 (hv:Vis X.env.scope x:=by first | exact Or.inl rfl | exact Or.inr (Or.inl rfl) | exact Or.inr (Or.inr rfl)) (hd:(x == ("__debug__":Str))=false:=by decide) (hcd:(x == ("__classdict__":Str))=false:=by decide)
 (ha:∀ ov iv new,augStore b ov iv new=(do holding [new,ov,iv] (setItem ov iv new); release [new,ov,iv] []; pure .next):=by intros; rfl) :
 QS X M (.AugAssign (.Subscript (.Name x npos) b spos) op e pos) (tX g i mb ma):=by
 obtain ⟨t,p,s⟩:=he; obtain ⟨t2,p2,s2⟩:=hk
 refine ⟨_,my (dC hN hv hd hcd) p2 jY p hp hZ ha,fun C G ρ σ H n D hm hn r h k=>?_⟩
 unfold tX at h
 split at h
 ·rename_i ds0 e0
  obtain ⟨O0,ro⟩:=r
  obtain ⟨a,xs0,hu,g0,_,_⟩:=ro.write e0 ho
  refine ⟨.ref a,hu,?_⟩
  refine s2 C G ρ σ H [] _ _ ⟨O0,ro⟩ h fun dk ρ1 jv G1 H1 hq1 z1 kp1 r1 pj=>?_
  cases dk with
  | int j =>
   dsimp only at hq1
   split at hq1
   ·rename_i ds1 e1
    obtain ⟨j0,hq1⟩:=hq1
    obtain ⟨O1,r1⟩:=r1
    obtain ⟨a1,xs1,hu1,g1,g2,_⟩:=r1.write e1 ho
    rw [hu] at hu1; cases hu1
    split at hq1
    ·rename_i x ex
     have exx:=ex
     obtain ⟨jj,q1,q2,q3,q4,q5⟩:=eX ex
     obtain ⟨v,w1,w2⟩:=g2.at q2
     have hv:atI xs1 j=some v:=by
      unfold atI at ex ⊢
      rw [g2.length]
      cases z:ixN ds1.length j with
      | none=>rw [z] at ex; cases ex
      | some j' =>
       have:j'=jj:=by
        have:=(gP z).1; rw [this] at q1; exact Option.some.inj q1
       subst this; exact w1
     have hv2:v = .int x:=by rw [Sep] at w2; exact w2
     subst hv2
     refine ⟨a,xs1,j,.int x,rfl,ay pj,SqL.of g1,j0,hv,?_⟩
     refine s C G1 ρ1 σ H1 [] _ _ ⟨O1,r1⟩ hq1 fun dy ρ2 yv G2 H2 hq2 z2 kp2 r2 py=>?_
     cases dy with
     | int y =>
      dsimp only at hq2
      split at hq2
      ·rename_i ds2 e2
       split at hq2
       ·rename_i pl e3
        obtain ⟨O2,r2⟩:=r2
        obtain ⟨a2,xs2,f1,f2,f3,f4⟩:=r2.write e2 ho
        rw [hu] at f1; cases f1
        refine ⟨x,y,rfl,ay py,a,xs2,j,pl,rfl,ay pj,f2,by rw [f3.length]; exact e3,?_⟩
        exact k.nx _ _ G2 _ hq2 (z1.trans z2) ⟨O2,f4 _ _ (f3.set (by rw [Sep]))⟩
       ·exact hq2.elim
      ·exact hq2.elim
     | _=>exact hq2.elim
    ·exact hq1.elim
   ·exact hq1.elim
  | _=>exact hq1.elim
 ·exact h.elim
def mX (i:Nat) (m:ME):MS:=fun n ρ=>match ρ[i]? with
 | some (some (.lst _))=>m ρ fun d ρ1=>match ρ1[i]?,d with
  | some (some (.lst ds)),.lst es=>imms ds=true∧imms es=true∧ds.length + es.length≤1000∧n.nx (ρ1.set i (some (.lst (ds++es))))
  | _,_=>False
 | _=>False
theorem nX {i:Nat} {x:Str} {apos cpos npos:Pos} (hN:X.N[i]? = some x) (he:QE X M.ow e ma) (ho:M.ow[i]? = some true:=by decide)
 (hv:Vis X.env.scope x:=by first | exact Or.inl rfl | exact Or.inr (Or.inl rfl) | exact Or.inr (Or.inr rfl)) (hd:(x == ("__debug__":Str))=false:=by decide) (hcd:(x == ("__classdict__":Str))=false:=by decide)
 (hbase:attributeBase (.Name x npos) "extend" X.env (eval (.Name x npos) X.env)=eval (.Name x npos) X.env:=by rfl)
 (hfew:((backTo cpos (starEach [e] X.env)).all (fun x=>!x.1)&&(backToKw cpos (keywordEach [] X.env)).all (fun x=>x.1.isSome)
  && decide ([e].length + ([]:List Keyword).length + (if ([]:List Keyword).isEmpty then 0 else 1)<30))=true:=by rfl)
 (hline:(apos.endLine == cpos.line)=true:=by rfl) (hst:starEach [e] X.env=[(false,eval e X.env)]:=by rfl)
 (hs:swapsWith (.Call (.Attribute (.Name x npos) "extend" apos) [e] [] cpos) none pos.line X.env=pure false:=by rfl) :
 QS X M (.Expr (.Call (.Attribute (.Name x npos) "extend" apos) [e] [] cpos) pos) (mX i ma):=by
 obtain ⟨t,p,s⟩:=he
 refine ⟨_,gR (nj PySem.F.plainAttrs_list PySem.F.slot_list_extend PySem.F.type_list_extend nL (dC hN hv hd hcd) (bq p cx hst) hbase hfew hline hst (by rfl)) hs,fun C G ρ σ H n D hm hn r h k=>?_⟩
 unfold mX at h
 split at h
 ·rename_i ds e1
  obtain ⟨O,ro⟩:=r
  obtain ⟨a,xs,h1,h2,_,_⟩:=ro.write e1 ho
  refine ⟨.ref a,h1,.inl ⟨rfl,xs,SqL.of h2⟩,?_⟩
  refine s C G ρ σ H [] _ _ ⟨O,ro⟩ h fun d ρ' v G' H' hq z kp r' p=>?_
  split at hq
  ·rename_i ds' es e2
   obtain ⟨hq1,hq2,hq3,hq4⟩:=hq
   obtain ⟨b,ys,rfl,p1,p2⟩:=aJ p
   obtain ⟨O',r'⟩:=r'
   obtain ⟨a',xs',g1,g2,g3,g4⟩:=r'.write e2 ho
   rw [h1] at g1; cases g1
   have hl:=g3.length
   have hl2:=p2.length
   have hr:=Seps.imm _ _ _ _ hq1 g3
   refine ⟨a,b,xs',ys,rfl,rfl,g2,r'.gh _ _ p1,by rw [hl,hl2]; exact Nat.le_of_lt (bY hq3),?_⟩
   exact k.nx _ _ G' _ hq4 z ⟨O',g4 _ _ (Reps.sep _ _ _ _ (kN hq1 hq2) (dO hr p2))⟩
  ·exact hq.elim
 ·exact h.elim
end
end L2
namespace L2
open PySem
abbrev bh (ps:List Int) (as:List Ask) (k:Int):List Int:=ax ps (aK as k)
def bH (ps:List Int) (as:List Ask) (fl:List Int) (t:Int):Int:=((List.range as.length).map fun (i:Nat)=>cnt t (bh ps as (i:Int)) (fl.getD i 0)).sum
structure FlowK (ps rs:List Int) (as:List Ask) (fl:List Int):Prop where
 len:fl.length=as.length
 nn:∀ i:Nat,0≤fl.getD i 0
 ft:∀ t:Int,0<t→t≤(ps.length:Int)→bH ps as fl t≤rs.getD (t - 1).toNat 0
structure CutK (ps:List Int) (as:List Ask) (cu:List Int):Prop where
 up:cu.Pairwise (· < ·)
 lo:∀ t∈cu,0<t∧t≤(ps.length:Int)
 pt:∀ a∈as,∃ t∈ax ps a,t∈cu
def bg (rs cu:List Int):Int:=(cu.map fun t=>rs.getD (t - 1).toNat 0).sum
theorem gl (f:Int→Nat→Int) (ls:List Int):∀ ks:List Nat,(ls.map fun t=>(ks.map fun k=>f t k).sum).sum=(ks.map fun k=>(ls.map fun t=>f t k).sum).sum
 | []=>by
  simp only [List.map_nil,List.sum_nil]
  induction ls with
  | nil=>rfl
  | cons t ls ih=>rw [List.map_cons,List.sum_cons,ih]; rfl
 | k :: ks=>by
  simp only [List.map_cons,List.sum_cons]
  rw [← gl f ls ks]
  induction ls with
  | nil=>rfl
  | cons t ls ih=>rw [List.map_cons,List.sum_cons,ih,List.map_cons,List.sum_cons,List.map_cons,List.sum_cons]; omega
theorem jH (w:List Int) (f:Int):∀ cu:List Int,(cu.map fun t=>cnt t w f).sum=f * ((cu.filter fun t=>w.contains t).length:Int)
 | []=>by simp
 | t :: cu=>by
  rw [List.map_cons,List.sum_cons,jH w f cu,List.filter_cons]
  unfold cnt
  split
  ·rw [List.length_cons,Int.natCast_add,Int.mul_add]; simp; omega
  ·omega
theorem jh {f g:Nat→Int}:∀ {K:List Nat},(∀ k∈K,f k≤g k)→(K.map f).sum≤(K.map g).sum
 | [],_=>Int.le_refl _
 | k :: K,h=>by
  have:=jh (K:=K) fun x hx=>h x (.tail _ hx)
  have:=h k (.head _)
  rw [List.map_cons,List.map_cons,List.sum_cons,List.sum_cons]; omega
theorem kr (c:Int) (f:Nat→Int):∀ K:List Nat,(K.map fun k=>c * f k).sum=c * (K.map f).sum
 | []=>by simp
 | k :: K=>by rw [List.map_cons,List.map_cons,List.sum_cons,List.sum_cons,kr c f K,Int.mul_add]
theorem jb (fl:List Int):((List.range fl.length).map fun (i:Nat)=>fl.getD i 0).sum=fl.sum:=by
 have:(List.range fl.length).map (fun (i:Nat)=>fl.getD i 0)=fl:=by
  apply List.ext_getElem?
  intro i
  rw [List.getElem?_map]
  by_cases h:i<fl.length
  ·rw [List.getElem?_range h,List.getElem?_eq_getElem h]; simp [List.getD_eq_getElem?_getD,List.getElem?_eq_getElem h]
  ·rw [List.getElem?_eq_none (by simpa using h),List.getElem?_eq_none (by omega)]; rfl
 rw [this]
theorem FlowK.le_cut {ps rs:List Int} {as:List Ask} {fl cu:List Int} (h:FlowK ps rs as fl) (hl:∀ t∈cu,0<t∧t≤(ps.length:Int)) (hp:∀ a∈as,∃ t∈ax ps a,t∈cu):fl.sum≤bg rs cu:=by
 have h1:(cu.map fun t=>bH ps as fl t).sum≤bg rs cu:=by
  unfold bg
  exact ny fun t ht=>h.ft t (hl t ht).1 (hl t ht).2
 unfold bH at h1
 rw [gl] at h1
 refine Int.le_trans ?_ h1
 rw [← jb fl,h.len]
 refine jh fun i hi=>?_
 have hi:=List.mem_range.mp hi
 rw [jH]
 obtain ⟨t,t1,t2⟩:=hp (aK as (i:Int)) (kL (k:=((i:Nat):Int).toNat) (by omega))
 have : 0<(cu.filter fun t=>(bh ps as (i:Int)).contains t).length:=List.length_pos_of_mem (List.mem_filter.mpr ⟨t2,by simpa using t1⟩)
 have h0:=h.nn i
 have:fl.getD i 0 * 1≤fl.getD i 0 * ((cu.filter fun t=>(bh ps as (i:Int)).contains t).length:Int):=Int.mul_le_mul_of_nonneg_left (by omega) h0
 omega
structure FC where
 left:List Int
 flow:List Int
 row:List Int
def ly (ps:List Int) (as:List Ask) (S:FC) (k m:Int):FC :=
 ⟨bt S.left (bh ps as k) (-m),S.flow.set k.toNat m,S.row++(bh ps as k).filter fun t=>decide ((bt S.left (bh ps as k) (-m)).getD (t - 1).toNat 0=0) && !S.row.contains t⟩
inductive FillC (ps rs:List Int) (as:List Ask):List Int→FC→Prop
 | nil:FillC ps rs as [] ⟨rs,List.replicate as.length 0,[]⟩
 | snoc {X:List Int} {S:FC} {k m:Int} (h:FillC ps rs as X S) (k0 : 0≤k) (k1:k<(as.length:Int)) (hm:∃ t∈bh ps as k,S.left.getD (t - 1).toNat 0=m) (hl:∀ t∈bh ps as k,m≤S.left.getD (t - 1).toNat 0):FillC ps rs as (X++[k]) (ly ps as S k m)
structure FI (ps rs:List Int) (as:List Ask) (X:List Int) (S:FC):Prop where
 rg:∀ k∈X,0≤k∧k<(as.length:Int)
 ll:S.left.length=ps.length
 fl:S.flow.length=as.length
 nn:∀ i:Nat,0≤S.flow.getD i 0
 z:∀ i:Nat,(i:Int) ∉ X→S.flow.getD i 0=0
 lf:∀ t:Int,0<t→t≤(ps.length:Int)→S.left.getD (t - 1).toNat 0=rs.getD (t - 1).toNat 0 - bH ps as S.flow t∧0≤S.left.getD (t - 1).toNat 0
 rn:S.row.Nodup
 rw:∀ t:Int,t∈S.row↔(0<t∧t≤(ps.length:Int)∧S.left.getD (t - 1).toNat 0=0)
 pt:∀ k∈X,∃ t∈bh ps as k,t∈S.row
 hi:∀ X1 i X2,X=X1++i :: X2→∃ B rest,S.row=B++rest∧(0<S.flow.getD i.toNat 0→∀ t∈bh ps as i,t ∉ B)∧∀ j∈X1,∃ t∈bh ps as j,t∈B
theorem lL {ps:List Int} {as:List Ask} {fl:List Int} {k m t:Int} (k0 : 0≤k) (k1:k<(as.length:Int)) (hl:fl.length=as.length) (hz:fl.getD k.toNat 0=0):bH ps as (fl.set k.toNat m) t=bH ps as fl t + cnt t (bh ps as k) m:=by
 unfold bH
 have key:∀ (n:Nat),((List.range n).map fun (i:Nat)=>cnt t (bh ps as (i:Int)) ((fl.set k.toNat m).getD i 0)).sum=((List.range n).map fun (i:Nat)=>cnt t (bh ps as (i:Int)) (fl.getD i 0)).sum + if k.toNat<n then cnt t (bh ps as k) m else 0:=fun n=>by
  induction n with
  | zero=>simp
  | succ n ih =>
   rw [List.range_succ,List.map_append,List.map_append,List.sum_append,List.sum_append,ih]
   simp only [List.map_cons,List.map_nil,List.sum_cons,List.sum_nil]
   by_cases h:k.toNat=n
   ·subst h
    rw [if_neg (by omega),if_pos (by omega)]
    have e1:(fl.set k.toNat m).getD k.toNat 0=m:=by rw [List.getD_eq_getElem?_getD,List.getElem?_set_self (by omega)]; rfl
    rw [e1,hz,show ((k.toNat:Nat):Int)=k by omega]
    have:cnt t (bh ps as k) 0=0:=by unfold cnt; split <;> rfl
    omega
   ·have e1:(fl.set k.toNat m).getD n 0=fl.getD n 0:=by rw [List.getD_eq_getElem?_getD,List.getElem?_set_ne h,← List.getD_eq_getElem?_getD]
    rw [e1]
    by_cases h2:k.toNat<n
    ·rw [if_pos h2,if_pos (by omega)]; omega
    ·rw [if_neg h2,if_neg (by omega)]; omega
 rw [key,if_pos (by omega)]
theorem FI.start {ps rs:List Int} (hT:Tree ps rs) (as:List Ask):FI ps rs as [] ⟨rs,List.replicate as.length 0,[]⟩:=by
 have hr:∀ t:Int,0<t→t≤(ps.length:Int)→1≤rs.getD (t - 1).toNat 0:=fun t t0 t1=>by
  have hl:=hT.len
  exact (hT.room (t - 1).toNat _ (by rw [List.getD_eq_getElem?_getD,List.getElem?_eq_getElem (show (t - 1).toNat<rs.length by omega)]; rfl)).1
 refine ⟨fun k h=>(by cases h),hT.len.symm,List.length_replicate,fun i=>by show 0≤(List.replicate as.length (0:Int)).getD i 0; rw [ff]; decide,fun i _=>ff _ _ _,fun t t0 t1=>?_,.nil,fun t=>?_,fun k h=>(by cases h),fun X1 i X2 h=>by cases X1 <;> cases h⟩
 ·have e:bH ps as (List.replicate as.length 0) t=0:=by
   unfold bH
   have:∀ l:List Nat,(l.map fun (i:Nat)=>cnt t (bh ps as (i:Int)) ((List.replicate as.length (0:Int)).getD i 0)).sum=0:=fun l=>by
    induction l with
    | nil=>rfl
    | cons i l ih =>
     rw [List.map_cons,List.sum_cons,ih,ff]
     unfold cnt; split <;> rfl
   exact this _
  have:=hr t t0 t1
  show rs.getD (t - 1).toNat 0=_ - bH ps as (List.replicate as.length 0) t∧_
  rw [e]
  exact ⟨by omega,by show 0≤rs.getD (t - 1).toNat 0; omega⟩
 ·constructor
  ·intro h; cases h
  ·rintro ⟨t0,t1,h⟩
   have:=hr t t0 t1
   have h:rs.getD (t - 1).toNat 0=0:=h
   omega
theorem FI.step {ps rs:List Int} {as:List Ask} {X:List Int} {S:FC} {k m:Int} (hT:Tree ps rs) (ha:AsksOk ps as) (h:FI ps rs as X S) (k0 : 0≤k) (k1:k<(as.length:Int)) (hk:k ∉ X) (hm:∃ t∈bh ps as k,S.left.getD (t - 1).toNat 0=m) (hl:∀ t∈bh ps as k,m≤S.left.getD (t - 1).toNat 0):FI ps rs as (X++[k]) (ly ps as S k m):=by
 have hok:=dz ha k0 k1
 have hwm:∀ t∈bh ps as k,0<t∧t≤(ps.length:Int):=fun t ht=>cS hT hok.ends ht
 have hwn:(bh ps as k).Nodup:=cT hT hok.ends
 obtain ⟨tm,tm1,tm2⟩:=hm
 have m0 : 0≤m:=by have:=(h.lf tm (hwm tm tm1).1 (hwm tm tm1).2).2; omega
 have hz:S.flow.getD k.toNat 0=0:=h.z k.toNat (by rw [show ((k.toNat:Nat):Int)=k by omega]; exact hk)
 have hfl:=h.fl
 have eL:∀ t:Int,0<t→(bt S.left (bh ps as k) (-m)).getD (t - 1).toNat 0=S.left.getD (t - 1).toNat 0 + cnt t (bh ps as k) (-m):=fun t t0=>by
  have:=fG (j:=(t - 1).toNat) (s:=-m) (l:=S.left) hwn (fun x hx=>by rw [h.ll]; exact hwm x hx)
  rw [show (((t - 1).toNat:Nat):Int) + 1=t by omega] at this
  exact this
 have eF:∀ i:Nat,(S.flow.set k.toNat m).getD i 0=if i=k.toNat then m else S.flow.getD i 0:=fun i=>by
  by_cases e:i=k.toNat
  ·subst e; rw [if_pos rfl,List.getD_eq_getElem?_getD,List.getElem?_set_self (by omega)]; rfl
  ·rw [if_neg e,List.getD_eq_getElem?_getD,List.getElem?_set_ne (Ne.symm e),← List.getD_eq_getElem?_getD]
 have ecn:∀ t,cnt t (bh ps as k) (-m) = - cnt t (bh ps as k) m:=fun t=>by unfold cnt; split <;> omega
 have hrow:∀ t:Int,t∈S.row++(bh ps as k).filter (fun t=>decide ((bt S.left (bh ps as k) (-m)).getD (t - 1).toNat 0=0) && !S.row.contains t)↔(0<t∧t≤(ps.length:Int)∧(bt S.left (bh ps as k) (-m)).getD (t - 1).toNat 0=0):=fun t=>by
  rw [List.mem_append,List.mem_filter]
  constructor
  ·rintro (q | ⟨q1,q2⟩)
   ·obtain ⟨t0,t1,t2⟩:=(h.rw t).mp q
    refine ⟨t0,t1,?_⟩
    rw [eL t t0,t2]
    unfold cnt
    split
    ·rename_i c
     have:=hl t (by simpa using c)
     omega
    ·rfl
   ·have:=hwm t q1
    refine ⟨this.1,this.2,?_⟩
    simp only [Bool.and_eq_true] at q2
    exact of_decide_eq_true q2.1
  ·rintro ⟨t0,t1,t2⟩
   by_cases c:t∈S.row
   ·exact .inl c
   ·right
    have hw:t∈bh ps as k:=by
     refine Classical.byContradiction fun z=>c ((h.rw t).mpr ⟨t0,t1,?_⟩)
     rw [eL t t0] at t2
     have:cnt t (bh ps as k) (-m)=0:=by unfold cnt; rw [if_neg (by simpa using z)]
     omega
    exact ⟨hw,by rw [Bool.and_eq_true]; exact ⟨decide_eq_true t2,by simpa using c⟩⟩
 refine ⟨fun j hj=>?_,by show (bt S.left _ _).length=_; rw [bU]; exact h.ll,by show (S.flow.set _ _).length=_; rw [List.length_set]; exact h.fl,fun i=>?_,fun i hi=>?_,fun t t0 t1=>?_,?_,hrow,fun j hj=>?_,fun X1 i X2 e=>?_⟩
 ·rcases List.mem_append.mp hj with q | q
  ·exact h.rg j q
  ·rw [List.mem_singleton.mp q]; exact ⟨k0,k1⟩
 ·show 0≤(S.flow.set k.toNat m).getD i 0
  rw [eF]; split
  ·exact m0
  ·exact h.nn i
 ·show (S.flow.set k.toNat m).getD i 0=0
  rw [eF,if_neg (fun z=>hi (List.mem_append.mpr (.inr (List.mem_singleton.mpr (by omega)))))]
  exact h.z i fun z=>hi (List.mem_append.mpr (.inl z))
 ·obtain ⟨q1,q2⟩:=h.lf t t0 t1
  show (bt S.left _ _).getD _ 0=_ - bH ps as (S.flow.set k.toNat m) t∧0≤(bt S.left _ _).getD _ 0
  rw [eL t t0,lL k0 k1 h.fl hz,ecn]
  refine ⟨by omega,?_⟩
  unfold cnt
  split
  ·rename_i c
   have:=hl t (by simpa using c)
   omega
  ·omega
 ·show (S.row++_).Nodup
  rw [List.nodup_append]
  refine ⟨h.rn,hwn.filter _,fun x hx y hy e=>?_⟩
  subst e
  have:=(List.mem_filter.mp hy).2
  simp only [Bool.and_eq_true] at this
  have:=this.2
  simp at this
  exact this hx
 ·rcases List.mem_append.mp hj with q | q
  ·obtain ⟨t,t1,t2⟩:=h.pt j q
   exact ⟨t,t1,List.mem_append.mpr (.inl t2)⟩
  ·rw [List.mem_singleton.mp q]
   refine ⟨tm,tm1,(hrow tm).mpr ⟨(hwm tm tm1).1,(hwm tm tm1).2,?_⟩⟩
   rw [eL tm (hwm tm tm1).1,tm2]
   unfold cnt
   rw [if_pos (by simpa using tm1)]; omega
 ·rcases List.eq_nil_or_concat X2 with rfl | ⟨X2',y,rfl⟩
  ·obtain ⟨rfl,e2⟩:=List.append_inj' e rfl
   cases e2
   refine ⟨S.row,_,rfl,fun hp t ht hr=>?_,fun j hj=>h.pt j hj⟩
   have hp : 0<(S.flow.set k.toNat m).getD k.toNat 0:=hp
   rw [eF,if_pos rfl] at hp
   have:=hl t ht
   have:=((h.rw t).mp hr).2.2
   omega
  ·have e:X++[k]=(X1++i :: X2')++[y]:=by rw [e]; simp
   obtain ⟨e1,e2⟩:=List.append_inj' e rfl
   obtain ⟨B,rest,b1,b2,b3⟩:=h.hi X1 i X2' e1
   refine ⟨B,rest++_,by show S.row++_=_; rw [b1,List.append_assoc],fun hp=>b2 ?_,b3⟩
   have hp : 0<(S.flow.set k.toNat m).getD i.toNat 0:=hp
   rw [eF] at hp
   split at hp
   ·rename_i q
    have hi:i∈X:=by rw [e1]; simp
    have:=(h.rg i hi).1
    have ek:i=k:=by omega
    exact absurd (ek ▸ hi) hk
   ·exact hp
theorem FillC.fi {ps rs:List Int} {as:List Ask} {X:List Int} {S:FC} (hT:Tree ps rs) (ha:AsksOk ps as) (h:FillC ps rs as X S):X.Nodup→FI ps rs as X S:=by
 induction h with
 | nil=>intro _; exact FI.start hT as
 | @snoc X S k m h k0 k1 hm hl ih =>
  intro hn
  rw [List.nodup_append] at hn
  exact (ih hn.1).step hT ha k0 k1 (fun z=>hn.2.2 _ z _ (List.mem_singleton.mpr rfl) rfl) hm hl
def bf (ws:List (List Int)) (cu:List Int):Bool:=ws.all fun w=>w.any fun t=>cu.contains t
theorem bE {ws:List (List Int)} {cu:List Int}:bf ws cu=true↔∀ w∈ws,∃ t∈w,t∈cu:=by
 unfold bf
 rw [List.all_eq_true]
 constructor
 ·intro h w hw
  obtain ⟨t,t1,t2⟩:=List.any_eq_true.mp (h w hw)
  exact ⟨t,t1,by simpa using t2⟩
 ·intro h w hw
  obtain ⟨t,t1,t2⟩:=h w hw
  exact List.any_eq_true.mpr ⟨t,t1,by simpa using t2⟩
def cL (ws:List (List Int)) (cu:List Int) (t:Int):List Int:=if bf ws (cu.filter fun x=>!decide (x=t))=true then cu.filter fun x=>!decide (x=t) else cu
def ii (ws:List (List Int)) (row:List Int):List Int:=row.reverse.foldl (cL ws) row
structure ThI (ws:List (List Int)) (row R1 K:List Int):Prop where
 sub:∀ x∈K,x∈row
 nd:(R1++K).Nodup
 pt:bf ws (R1++K)=true
 why:∀ t∈K,∃ w∈ws,t∈w∧(∀ x∈R1++K,x≠t→x ∉ w)∧∃ A A2,row=A++t :: A2∧∀ x∈A,x ∉ w
theorem je {l:List Int} {t:Int} (h:t ∉ l):l.filter (fun x=>!decide (x=t))=l:=List.filter_eq_self.mpr fun x hx=>by
 have:x≠t:=fun e=>h (e ▸ hx)
 simpa using this
theorem lV (ws:List (List Int)) (row:List Int):∀ (R1 R2 K:List Int),row=R1++R2→ThI ws row R1 K→∃ K',R1.reverse.foldl (cL ws) (R1++K)=K'∧ThI ws row [] K':=by
 intro R1
 induction hn:R1.length generalizing R1 with
 | zero =>
  intro R2 K e h
  have:R1=[]:=List.length_eq_zero_iff.mp hn
  subst this
  exact ⟨K,rfl,h⟩
 | succ n ih =>
  intro R2 K e h
  rcases List.eq_nil_or_concat R1 with rfl | ⟨R,t,rfl⟩
  ·cases hn
  ·have hl:R.length=n:=by simpa using hn
   have e':row=R++(t :: R2):=by rw [e]; simp
   have hnd:=h.nd
   rw [List.concat_eq_append,List.append_assoc,List.nodup_append] at hnd
   obtain ⟨n1,n2,n3⟩:=hnd
   rw [List.singleton_append,List.nodup_cons] at n2
   have htR:t ∉ R:=fun z=>n3 t z t (.head _) rfl
   have hf:(R++[t]++K).filter (fun x=>!decide (x=t))=R++K:=by
    rw [List.filter_append,List.filter_append,je htR,je n2.1]
    simp
   rw [List.concat_eq_append,List.reverse_append,List.reverse_singleton,List.singleton_append,List.foldl_cons]
   have hpt:=h.pt
   rw [List.concat_eq_append] at hpt
   by_cases c:bf ws (R++K)=true
   ·have e1:cL ws (R++[t]++K) t=R++K:=by unfold cL; rw [hf,if_pos c]
    rw [e1]
    refine ih R hl (t :: R2) K e' ⟨h.sub,?_,c,fun x hx=>?_⟩
    ·rw [List.nodup_append]; exact ⟨n1,n2.2,fun a ha b hb=>n3 a ha b (.tail _ hb)⟩
    ·obtain ⟨w,w1,w2,w3,w4⟩:=h.why x hx
     exact ⟨w,w1,w2,fun y hy=>w3 y (by
      rw [List.concat_eq_append]
      rcases List.mem_append.mp hy with q | q
      ·exact List.mem_append.mpr (.inl (List.mem_append.mpr (.inl q)))
      ·exact List.mem_append.mpr (.inr q)),w4⟩
   ·have e1:cL ws (R++[t]++K) t=R++(t :: K):=by unfold cL; rw [hf,if_neg c]; simp
    rw [e1]
    have hpt2:bf ws (R++(t :: K))=true:=by
     have:R++[t]++K=R++(t :: K):=by simp
     rw [← this]; exact hpt
    have hnp:∃ w∈ws,∀ x∈R++K,x ∉ w:=Classical.byContradiction fun z=>c (bE.mpr fun w hw=>Classical.byContradiction fun z2=>z ⟨w,hw,fun x hx hxw=>z2 ⟨x,hxw,hx⟩⟩)
    obtain ⟨w,w1,w2⟩:=hnp
    have htw:t∈w:=by
     obtain ⟨x,x1,x2⟩:=bE.mp hpt2 w w1
     rcases List.mem_append.mp x2 with q | q
     ·exact absurd x1 (w2 x (List.mem_append.mpr (.inl q)))
     ·rcases List.mem_cons.mp q with q | q
      ·exact q ▸ x1
      ·exact absurd x1 (w2 x (List.mem_append.mpr (.inr q)))
    refine ih R hl (t :: R2) (t :: K) e' ⟨fun x hx=>?_,?_,hpt2,fun x hx=>?_⟩
    ·rcases List.mem_cons.mp hx with q | q
     ·rw [e',q]; simp
     ·exact h.sub x q
    ·rw [List.nodup_append]; exact ⟨n1,List.nodup_cons.mpr n2,n3⟩
    ·rcases List.mem_cons.mp hx with q | q
     ·subst q
      refine ⟨w,w1,htw,fun y hy hne=>w2 y ?_,R,R2,e',fun y hy=>w2 y (List.mem_append.mpr (.inl hy))⟩
      rcases List.mem_append.mp hy with q | q
      ·exact List.mem_append.mpr (.inl q)
      ·rcases List.mem_cons.mp q with q | q
       ·exact absurd q hne
       ·exact List.mem_append.mpr (.inr q)
     ·obtain ⟨v,v1,v2,v3,v4⟩:=h.why x q
      refine ⟨v,v1,v2,fun y hy=>v3 y ?_,v4⟩
      rw [List.concat_eq_append]
      rcases List.mem_append.mp hy with q | q
      ·exact List.mem_append.mpr (.inl (List.mem_append.mpr (.inl q)))
      ·rcases List.mem_cons.mp q with q | q
       ·exact List.mem_append.mpr (.inl (List.mem_append.mpr (.inr (List.mem_singleton.mpr q))))
       ·exact List.mem_append.mpr (.inr q)
theorem kX {ws:List (List Int)} {row:List Int} (hn:row.Nodup) (hp:bf ws row=true):ThI ws row [] (ii ws row):=by
 obtain ⟨K',h1,h2⟩:=lV ws row row [] [] (by simp) ⟨fun _ h=>(by cases h),by simpa using hn,by simpa using hp,fun _ h=>(by cases h)⟩
 unfold ii
 rw [List.append_nil] at h1
 rw [h1]; exact h2
theorem Pth.up {ps:List Int} {m k:Int} {l u:List Int} (h:Pth ps m k l):Up ps k u→∀ x∈l,x∈u:=by
 intro hu x hx
 induction h generalizing u with
 | nil=>cases hx
 | @step k l h0 hne hp ih =>
  cases hu with
  | zero=>omega
  | step h1 hu =>
   rcases List.mem_cons.mp hx with rfl | hx
   ·exact .head _
   ·exact .tail _ (ih hu hx)
theorem rc {l:List Int} {p:Int→Bool} (hn:l.Nodup) (h:∀ x∈l,∀ y∈l,p x=true→p y=true→x=y):(l.filter p).length≤1:=by
 have hf:(l.filter p).Nodup:=hn.filter _
 cases e:l.filter p with
 | nil=>simp
 | cons x r =>
  cases r with
  | nil=>simp
  | cons y r =>
   rw [e] at hf
   have hx:x∈l.filter p:=by rw [e]; exact .head _
   have hy:y∈l.filter p:=by rw [e]; exact .tail _ (.head _)
   have:=h x (List.mem_filter.mp hx).1 y (List.mem_filter.mp hy).1 (List.mem_filter.mp hx).2 (List.mem_filter.mp hy).2
   subst this
   rw [List.nodup_cons] at hf
   exact absurd (.head _) hf.1
theorem tR {ps rs e:List Int} {as:List Ask} {o:List Int} {S:FC} {K:List Int} {i:Int} (hT:Tree ps rs) (ha:AsksOk ps as) (hE:DepOk ps e ps.length) (ho:o.Pairwise (fun i j=>e.getD (bw ps (aK as j).one (aK as j).other).toNat 0≤e.getD (bw ps (aK as i).one (aK as i).other).toNat 0)) (hall:∀ k:Int,0≤k→k<(as.length:Int)→k∈o)
 (hF:FI ps rs as o S) (hK:ThI (aF ps as) S.row [] K) (hi:i∈o) (hp : 0<S.flow.getD i.toNat 0):((bh ps as i).filter fun t=>K.contains t).length≤2:=by
 have ib:=hF.rg i hi
 have hok:=dz ha ib.1 ib.2
 have hends:=hok.ends
 obtain ⟨w,cw,qw⟩:=cP hT hends.a0 hends.b0 hends.a1 hends.b1
 have lw:=cw.low hT hends.a0 hends.b0 hends.a1 hends.b1
 obtain ⟨pa,pb,h1,h2,h3⟩:=cw.pth hT hends.a0 hends.b0 hends.a1 hends.b1
 have hp3:(bh ps as i).Perm (pa++pb):=by
  show (fh ps _ _).Perm _
  rw [qw]; exact (aS w).trans h3
 have hnd:(pa++pb).Nodup:=hp3.nodup_iff.mp (cT hT hends)
 rw [List.nodup_append] at hnd
 rw [(hp3.filter _).length_eq,List.filter_append,List.length_append]
 have hex:∃ X1 X2,o=X1++i :: X2:=List.append_of_mem hi
 obtain ⟨X1,X2,eo⟩:=hex
 obtain ⟨B,rest,b1,b2,b3⟩:=hF.hi X1 i X2 eo
 have b2:=b2 hp
 -- two ties of one side
 have key:∀ (c:Int) (uc p:List Int),0≤c→c≤(ps.length:Int)→Up ps c uc→Pth ps (bw ps (aK as i).one (aK as i).other) c p→(∀ x∈p,x∈bh ps as i)→∀ x∈p,∀ y∈p,K.contains x=true→K.contains y=true→x<y→False:=by
  intro c uc p c0 c1 huc hpth hpw x hx y hy kx ky hxy
  have kx:x∈K:=by simpa using kx
  have ky:y∈K:=by simpa using ky
  obtain ⟨v,v1,v2,v3,A,A2,v4,v5⟩:=hK.why y ky
  obtain ⟨aj,aj1,rfl⟩:=List.mem_map.mp v1
  obtain ⟨j,hj,ej⟩:=List.getElem_of_mem aj1
  have eaj:aK as (j:Int)=aj:=by
   show as.getD ((j:Nat):Int).toNat jy=aj
   rw [Int.toNat_natCast,List.getD_eq_getElem?_getD,List.getElem?_eq_getElem hj,ej]; rfl
  have hjo:=hall (j:Int) (by omega) (by omega)
  have okj:=ha.ok aj aj1
  have xnv:x ∉ ax ps aj:=v3 x (by simpa using kx) (by omega)
  -- x stands above y,so j's meeting lies at x or beneath
  have hxy':∀ u,Up ps y u→x∈u:=fun u hu=>by
   obtain ⟨u',g1,g2,_⟩:=huc.chain hT c1 (hpth.up huc x hx) (hpth.up huc y hy) (by omega)
   rw [g1.det hu] at g2; exact g2
  have ej2:=okj.ends
  obtain ⟨wj,cj,qj⟩:=cP hT ej2.a0 ej2.b0 ej2.a1 ej2.b1
  have lj:=cj.low hT ej2.a0 ej2.b0 ej2.a1 ej2.b1
  obtain ⟨uj,huj⟩:=Up.all hT _ aj.one rfl ej2.a0 ej2.a1
  obtain ⟨vj,hvj⟩:=Up.all hT _ aj.other rfl ej2.b0 ej2.b1
  have ha1:=ej2.a1; have hb1:=hends.a1
  obtain ⟨mj,hmj⟩:=Up.all hT _ (bw ps aj.one aj.other) rfl lj.1 (by omega)
  obtain ⟨mi,hmi⟩:=Up.all hT _ (bw ps (aK as i).one (aK as i).other) rfl lw.1 (by omega)
  have v2':y∈bj wj:=by rw [← qj]; exact v2
  have hxm:x∈mj:=by
   refine Classical.byContradiction fun z=>xnv ?_
   show x∈fh ps aj.one aj.other
   rw [qj,d5 hT ej2 cj huj hvj hmj]
   refine ⟨?_,z⟩
   rcases ((d5 hT ej2 cj huj hvj hmj).mp v2').1 with q | q
   ·obtain ⟨u',g1,_,g3⟩:=huj.chain hT ej2.a1 q q (Int.le_refl _)
    exact .inl (g3 _ (hxy' _ g1))
   ·obtain ⟨u',g1,_,g3⟩:=hvj.chain hT ej2.b1 q q (Int.le_refl _)
    exact .inr (g3 _ (hxy' _ g1))
  have hxw:=hpw x hx
  have hxr:=cS hT hends hxw
  obtain ⟨ux,hux⟩:=Up.all hT _ x rfl (by omega) hxr.2
  have d1:=hux.sub_len hT hmj (by omega) hxm
  -- i's meeting is above x
  have d2:mi.length<ux.length:=by
   obtain ⟨ua,hua⟩:=Up.all hT _ (aK as i).one rfl hends.a0 hends.a1
   obtain ⟨ub,hub⟩:=Up.all hT _ (aK as i).other rfl hends.b0 hends.b1
   have hxs:x∈bj w:=by rw [← qw]; exact hxw
   obtain ⟨g1,g2⟩:=(d5 hT hends cw hua hub hmi).mp hxs
   obtain ⟨p1,p2,p3⟩:=cw.meet hT hends.a0 hends.b0 hends.a1 hends.b1 hua hub
   have main:∀ (q:Int) (uq:List Int),q≤(ps.length:Int)→Up ps q uq→x∈uq→bw ps (aK as i).one (aK as i).other∈uq→mi.length<ux.length:=fun q uq q1 huq hxq hmq=>by
    rcases Int.lt_or_le (bw ps (aK as i).one (aK as i).other) x with z | z
    ·obtain ⟨u',k1,k2,_⟩:=huq.chain hT q1 hmq hxq (by omega)
     rw [k1.det hux] at k2
     cases hux with
     | zero=>omega
     | step s1 s2 =>
      rcases List.mem_cons.mp k2 with q | q
      ·omega
      ·have hpx:=hT.up s1 hxr.2
       have:=hmi.sub_len hT s2 (by omega) q
       rw [List.length_cons]; omega
    ·obtain ⟨u',k1,k2,_⟩:=huq.chain hT q1 hxq hmq z
     rw [k1.det hmi] at k2
     exact absurd k2 g2
   rcases g1 with g1 | g1
   ·exact main _ ua hends.a1 hua g1 p1
   ·exact main _ ub hends.b1 hub g1 p2
  have dj:=hE.up _ _ lj.1 (by omega) hmj
  have di:=hE.up _ _ lw.1 (by omega) hmi
  -- so j was served before i
  have hjX:(j:Int)∈X1:=by
   rw [eo] at hjo ho
   rcases List.mem_append.mp hjo with q | q
   ·exact q
   ·exfalso
    rcases List.mem_cons.mp q with q | q
    ·rw [← q,eaj] at di
     omega
    ·have:=List.pairwise_append.mp ho
     have:=(List.pairwise_cons.mp this.2.1).1 _ q
     rw [eaj] at this
     omega
  obtain ⟨t,t1,t2⟩:=b3 _ hjX
  have t1:t∈ax ps aj:=by rw [← eaj]; exact t1
  have hyB:y ∉ B:=b2 y (hpw y hy)
  have htA:t∈A:=by
   have e2:B++rest=A++y :: A2:=by rw [← b1,v4]
   have hlen:B.length≤A.length:=by
    refine Classical.byContradiction fun z=>hyB ?_
    have hl:A.length<B.length:=by omega
    have:(B++rest)[A.length]? = some y:=by rw [e2]; simp
    rw [List.getElem?_append_left hl] at this
    exact List.mem_of_getElem? this
   have:B=A.take B.length:=by
    have:=congrArg (List.take B.length) e2
    rw [List.take_left',List.take_append_of_le_length hlen] at this
    ·exact this
    ·rfl
   rw [this] at t2
   exact List.mem_of_mem_take t2
  exact v5 t htA t1
 have side:∀ (c:Int) (p:List Int),0≤c→c≤(ps.length:Int)→Pth ps (bw ps (aK as i).one (aK as i).other) c p→p.Nodup→(∀ x∈p,x∈bh ps as i)→(p.filter fun t=>K.contains t).length≤1:=fun c p c0 c1 hp hn hw=>by
  obtain ⟨uc,huc⟩:=Up.all hT _ c rfl c0 c1
  refine rc hn fun x hx y hy kx ky=>?_
  rcases Int.lt_trichotomy x y with z | z | z
  ·exact (key c uc p c0 c1 huc hp hw x hx y hy kx ky z).elim
  ·exact z
  ·exact (key c uc p c0 c1 huc hp hw y hy x hx ky kx z).elim
 have s1:=side _ pa hends.a0 hends.a1 h1 hnd.1 fun x hx=>hp3.mem_iff.mpr (List.mem_append.mpr (.inl hx))
 have s2:=side _ pb hends.b0 hends.b1 h2 hnd.2.1 fun x hx=>hp3.mem_iff.mpr (List.mem_append.mpr (.inr hx))
 omega
structure FlowCut (ps rs:List Int) (as:List Ask) (fl cu:List Int):Prop where
 f:FlowK ps rs as fl
 c:CutK ps as cu
 r:bg rs cu≤2 * fl.sum
theorem o9 {ps rs:List Int} {as:List Ask} {o:List Int} {S:FC} (hT:Tree ps rs) (ha:AsksOk ps as) (ho:gB ps as o) (h:FillC ps rs as o S):FlowCut ps rs as S.flow (bj (ii (aF ps as) S.row)):=by
 obtain ⟨h1,h2,e,h3,h4⟩:=ho.ord
 have hall:∀ k:Int,0≤k→k<(as.length:Int)→k∈o:=fun k k0 k1=>h2.mem_iff.mpr (List.mem_map.mpr ⟨k.toNat,List.mem_range.mpr (by omega),by omega⟩)
 have hF:=h.fi hT ha h1
 have hpt:bf (aF ps as) S.row=true:=bE.mpr fun w hw=>by
  obtain ⟨a,ha1,rfl⟩:=List.mem_map.mp hw
  obtain ⟨j,hj,ej⟩:=List.getElem_of_mem ha1
  have eaj:aK as (j:Int)=a:=by
   show as.getD ((j:Nat):Int).toNat jy=a
   rw [Int.toNat_natCast,List.getD_eq_getElem?_getD,List.getElem?_eq_getElem hj,ej]; rfl
  obtain ⟨t,t1,t2⟩:=hF.pt _ (hall (j:Int) (by omega) (by omega))
  exact ⟨t,by rw [← eaj]; exact t1,t2⟩
 have hK:=kX hF.rn hpt
 generalize hk:ii (aF ps as) S.row=K at hK
 have hKn:K.Nodup:=by have:=hK.nd; simpa using this
 have hKl:∀ t∈K,0<t∧t≤(ps.length:Int)∧S.left.getD (t - 1).toNat 0=0:=fun t ht=>(hF.rw t).mp (hK.sub t ht)
 have hmem:∀ t,t∈bj K↔t∈K:=fun t=>(aS K).mem_iff
 refine ⟨⟨hF.fl,hF.nn,fun t t0 t1=>by have:=hF.lf t t0 t1; omega⟩,⟨sO hKn,fun t ht=>⟨(hKl t ((hmem t).mp ht)).1,(hKl t ((hmem t).mp ht)).2.1⟩,fun a hm=>?_⟩,?_⟩
 ·have hpk:=hK.pt
  rw [List.nil_append] at hpk
  obtain ⟨t,t1,t2⟩:=bE.mp hpk _ (List.mem_map.mpr ⟨a,hm,rfl⟩)
  exact ⟨t,t1,(hmem t).mpr t2⟩
 ·have e1:bg rs (bj K)=(K.map fun t=>bH ps as S.flow t).sum:=by
   unfold bg
   rw [rA ((aS K).map _)]
   refine congrArg List.sum (List.map_congr_left fun t ht=>?_)
   obtain ⟨t0,t1,t2⟩:=hKl t ht
   have:=hF.lf t t0 t1
   omega
  rw [e1]
  unfold bH
  rw [gl,← jb S.flow,hF.fl,← kr]
  refine jh fun i hi=>?_
  have hi:=List.mem_range.mp hi
  rw [jH]
  have h0:=hF.nn i
  rcases Int.lt_or_eq_of_le h0 with z | z
  ·have h2:=tR (i:=(i:Int)) hT ha h3 h4 hall hF hK (hall _ (by omega) (by omega)) (by rw [Int.toNat_natCast]; exact z)
   have h5:(K.filter fun t=>(bh ps as (i:Int)).contains t).length≤2:=by
    have hok:=dz ha (k:=(i:Int)) (by omega) (by omega)
    have hp:(K.filter fun t=>(bh ps as (i:Int)).contains t).Perm ((bh ps as (i:Int)).filter fun t=>K.contains t):=(List.perm_ext_iff_of_nodup (hKn.filter _) ((cT hT hok.ends).filter _)).mpr fun x=>by
     rw [List.mem_filter,List.mem_filter]
     simp only [List.contains_iff_mem]
     exact And.comm
    rw [hp.length_eq]; exact h2
   have:S.flow.getD i 0 * ((K.filter fun t=>(bh ps as (i:Int)).contains t).length:Int)≤S.flow.getD i 0 * 2:=Int.mul_le_mul_of_nonneg_left (by omega) h0
   omega
  ·rw [← z]; omega
end L2
namespace L2
open PySem PySem.Spec PyProof.Rows
section
variable {X:Cx}
end
section
variable {X:Cx} {o e:Expr} {apos cpos:Pos} {te:TE} {a:Addr} {kv:List (Str×Int)}
end
section
variable {X:Cx} {ow:List Bool} {b:Expr} {mb:ME} {pos apos cpos:Pos}
end
section
variable {X:Cx}
end
section
variable {X:Cx} {M:Md} {e:Expr} {ma:ME} {pos:Pos}
end
section
variable {X:Cx}
end
section
variable {X:Cx} {pos:Pos}
end
section
variable {X:Cx} {M:Md} {a b c:Expr} {ma mb mc:ME} {pos:Pos}
end
end L2
namespace L2
open PySem
theorem lq (xs:Array Nat) (j:Nat) (up:xs.toList.Pairwise (· < ·)):∀ fuel lo hi,hi - lo≤fuel→lo≤hi→hi≤xs.size→(∀ i x,i<lo→xs[i]? = some x→x<j)→(∀ i x,hi≤i→xs[i]? = some x→j≤x) →
 (SetTable.below.go xs j fuel lo hi≤xs.size∧(∀ i x,i<SetTable.below.go xs j fuel lo hi→xs[i]? = some x→x<j)∧∀ i x,SetTable.below.go xs j fuel lo hi≤i→xs[i]? = some x→j≤x)
 | 0,lo,hi,h1,h2,h3,h4,h5=>by
  have e:lo=hi:=by omega
  subst e
  exact ⟨h3,h4,h5⟩
 | fuel + 1,lo,hi,h1,h2,h3,h4,h5=>by
  rw [SetTable.below.go]
  by_cases c:lo<hi
  ·rw [if_pos c]
   have hm:(lo + hi) / 2<xs.size:=by omega
   have hg:xs.getD ((lo + hi) / 2) j=xs[(lo + hi) / 2]:=by simp [Array.getD,hm]
   have srt:∀ a b (ha:a<xs.size) (hb:b<xs.size),a<b→xs[a]<xs[b]:=fun a b ha hb hab=>by
    have:=List.pairwise_iff_getElem.mp up a b (by simpa using ha) (by simpa using hb) hab
    simpa using this
   dsimp only
   rw [hg]
   by_cases d:xs[(lo + hi) / 2]<j
   ·rw [if_pos d]
    refine lq xs j up fuel _ _ (by omega) (by omega) h3 (fun i x hi' hx=>?_) h5
    have hl:=(Array.getElem?_eq_some_iff.mp hx).1
    have hx':=(Array.getElem?_eq_some_iff.mp hx).2
    by_cases e:i=(lo + hi) / 2
    ·subst e; omega
    ·have:=srt i ((lo + hi) / 2) hl hm (by omega); omega
   ·rw [if_neg d]
    refine lq xs j up fuel _ _ (by omega) (by omega) (by omega) h4 (fun i x hi' hx=>?_)
    have hl:=(Array.getElem?_eq_some_iff.mp hx).1
    have hx':=(Array.getElem?_eq_some_iff.mp hx).2
    by_cases e:i=(lo + hi) / 2
    ·subst e; omega
    ·have:=srt ((lo + hi) / 2) i hm hl (by omega); omega
  ·rw [if_neg c]
   have e:lo=hi:=by omega
   subst e
   exact ⟨h3,h4,h5⟩
theorem bel (xs:Array Nat) (j:Nat) (up:xs.toList.Pairwise (· < ·)):SetTable.below xs j≤xs.size∧(∀ i x,i<SetTable.below xs j→xs[i]? = some x→x<j)∧∀ i x,SetTable.below xs j≤i→xs[i]? = some x→j≤x :=
 lq xs j up xs.size 0 xs.size (by omega) (by omega) (Nat.le_refl _) (fun i x h=>by omega) (fun i x h hx=>by have:=(Array.getElem?_eq_some_iff.mp hx).1; omega)
theorem pX (xs:Array Nat) (up:xs.toList.Pairwise (· < ·)):SetTable.below xs 0=0:=by
 obtain ⟨h1,h2,-⟩:=bel xs 0 up
 by_cases c:SetTable.below xs 0=0
 ·exact c
 ·have hs : 0<xs.size:=by omega
  have:=h2 0 xs[0] (by omega) (Array.getElem?_eq_getElem hs)
  omega
theorem qP (xs:Array Nat) (up:xs.toList.Pairwise (· < ·)) {i x:Nat} (h:xs[i]? = some x):SetTable.below xs (x + 1)=i + 1:=by
 obtain ⟨h1,h2,h3⟩:=bel xs (x + 1) up
 have hl:=(Array.getElem?_eq_some_iff.mp h).1
 have hx:=(Array.getElem?_eq_some_iff.mp h).2
 have srt:∀ a b (ha:a<xs.size) (hb:b<xs.size),a<b→xs[a]<xs[b]:=fun a b ha hb hab=>by
  have:=List.pairwise_iff_getElem.mp up a b (by simpa using ha) (by simpa using hb) hab
  simpa using this
 by_cases c:SetTable.below xs (x + 1)≤i
 ·have:=h3 i x c h; omega
 ·by_cases d:i + 1<SetTable.below xs (x + 1)
  ·have hs:i + 1<xs.size:=by omega
   have a1:=h2 (i + 1) xs[i + 1] d (Array.getElem?_eq_getElem hs)
   have a2:=srt i (i + 1) hl hs (by omega)
   omega
  ·omega
theorem tF (xs:Array Nat) (up:xs.toList.Pairwise (· < ·)) {j:Nat} (h:j∈xs.toList):xs[SetTable.below xs j]? = some j:=by
 obtain ⟨h1,h2,h3⟩:=bel xs j up
 obtain ⟨i,hi⟩:=List.getElem?_of_mem h
 have hi':xs[i]? = some j:=by simpa using hi
 have hl:=(Array.getElem?_eq_some_iff.mp hi').1
 have srt:∀ a b (ha:a<xs.size) (hb:b<xs.size),a<b→xs[a]<xs[b]:=fun a b ha hb hab=>by
  have:=List.pairwise_iff_getElem.mp up a b (by simpa using ha) (by simpa using hb) hab
  simpa using this
 have e:SetTable.below xs j=i:=by
  by_cases c:i<SetTable.below xs j
  ·have:=h2 i j c hi'; omega
  ·by_cases d:SetTable.below xs j<i
   ·have hs:SetTable.below xs j<xs.size:=by omega
    have a1:=h3 _ xs[SetTable.below xs j] (Nat.le_refl _) (Array.getElem?_eq_getElem hs)
    have a2:=srt _ i hs hl d
    have a3:=(Array.getElem?_eq_some_iff.mp hi').2
    omega
   ·omega
 rw [e]; exact hi'
theorem n_ {t:SetTable} (up:t.place.toList.Pairwise (· < ·)) {j:Nat} (h:j∈t.place.toList):∃ i,t.slot j = .live i:=by
 unfold SetTable.slot
 dsimp only
 rw [tF _ up h]
 exact ⟨_,if_pos (by simp)⟩
theorem lu {t:SetTable} (dm:t.dummies = #[]) {j:Nat} (h:j ∉ t.place.toList):t.slot j = .empty:=by
 unfold SetTable.slot
 dsimp only
 rw [if_neg (fun c=>by
  have c':t.place[SetTable.below t.place j]? = some j:=by simpa using c
  exact h (by simpa using Array.mem_of_getElem? c')),if_neg (by rw [dm]; unfold SetTable.has; simp)]
theorem u8 {xs:Array Nat} (up:xs.toList.Pairwise (· < ·)) {j:Nat} (h:j ∉ xs.toList):(SetTable.insertAt xs (SetTable.below xs j) j).toList.Pairwise (· < ·):=by
 rw [SetTable.toList_insertAt]
 obtain ⟨h1,h2,h3⟩:=bel xs j up
 have m1:∀ x∈xs.toList.take (SetTable.below xs j),x<j:=fun x hx=>by
  obtain ⟨i,hi⟩:=List.getElem?_of_mem hx
  rw [List.getElem?_take] at hi
  split at hi
  ·rename_i c; exact h2 i x c (by simpa using hi)
  ·cases hi
 have m2:∀ x∈xs.toList.drop (SetTable.below xs j),j<x:=fun x hx=>by
  obtain ⟨i,hi⟩:=List.getElem?_of_mem hx
  rw [List.getElem?_drop] at hi
  have:=h3 _ x (Nat.le_add_right _ i) (by simpa using hi)
  have hn:x≠j:=fun e=>h (e ▸ List.mem_of_getElem? hi)
  omega
 refine List.pairwise_append.mpr ⟨up.sublist (List.take_sublist ..),List.pairwise_cons.mpr ⟨m2,up.sublist (List.drop_sublist ..)⟩,fun a ha b hb=>?_⟩
 rcases List.mem_cons.mp hb with rfl | hb
 ·exact m1 a ha
 ·exact Nat.lt_trans (m1 a ha) (m2 b hb)
abbrev Prb:=SetTable.Probe
def p0 (mask:Nat) (p:Prb):Prb :=
 if p.more > 0 then { p with j:=p.j + 1,more:=p.more - 1 } else
 { p with j:=(SetTable.leap mask p.i p.perturb).1,more:=SetTable.runEnd mask (SetTable.leap mask p.i p.perturb).1 - (SetTable.leap mask p.i p.perturb).1,i:=(SetTable.leap mask p.i p.perturb).1,perturb:=(SetTable.leap mask p.i p.perturb).2 }
theorem wf (mask:Nat) (p:Prb):(p0 mask p).dummy=p.dummy:=by unfold p0; split <;> rfl
def nN (mask:Nat):Nat→Prb→List Nat
 | 0,_=>[]
 | n + 1,p=>p.j :: nN mask n (p0 mask p)
def seqI (mask:Nat):Nat→Nat→Nat→List Nat
 | 0,_,_=>[]
 | n + 1,i,pt=>i :: seqI mask n (SetTable.leap mask i pt).1 (SetTable.leap mask i pt).2
def eB (l:List Nat):Nat:=l.foldl (fun m j=>m ||| (1 <<< j)) 0
theorem mM (s:Nat):∀ (l:List Nat) (m:Nat),(l.foldl (fun m j=>m ||| (1 <<< j)) m).testBit s=true→m.testBit s=true∨s∈l
 | [],m,h=>.inl h
 | j :: l,m,h=>by
  rcases mM s l _ h with h | h
  ·rw [Nat.testBit_or,Bool.or_eq_true] at h
   rcases h with h | h
   ·exact .inl h
   ·right
    rw [Nat.testBit_shiftLeft] at h
    simp only [Bool.and_eq_true,decide_eq_true_eq] at h
    have e:s - j=0:=by
     have:=Nat.testBit_one_eq_true_iff_self_eq_zero.mp h.2
     exact this
    have:s=j:=by omega
    rw [this]; exact List.mem_cons_self
  ·exact .inr (List.mem_cons_of_mem _ h)
theorem kE {l:List Nat} {n:Nat} (h:eB l=2 ^ n - 1) {s:Nat} (hs:s<n):s∈l:=by
 have:(eB l).testBit s=true:=by rw [h,Nat.testBit_two_pow_sub_one]; exact decide_eq_true hs
 rcases mM s l 0 this with h | h
 ·simp at h
 ·exact h
def ix (mask h:Nat):Prb:={ j:=h % (mask + 1),more:=SetTable.runEnd mask (h % (mask + 1)) - h % (mask + 1),i:=h % (mask + 1),perturb:=h,dummy:=none }
def cvrJ (mask:Nat):Bool:=(List.range 32).all fun h=>eB (nN mask (10 * SetTable.turns mask) (ix mask h)) == 2 ^ (mask + 1) - 1
def cvrI (mask:Nat):Bool:=(List.range 32).all fun h=>eB (seqI mask (SetTable.turns mask) (h % (mask + 1)) h) == 2 ^ (mask + 1) - 1
theorem cvrJ7:cvrJ 7=true:=by decide +kernel
theorem vN:cvrJ 31=true:=by decide +kernel
theorem tM:cvrJ 127=true:=by decide +kernel
theorem cvrI7:cvrI 7=true:=by decide +kernel
theorem vx:cvrI 31=true:=by decide +kernel
theorem sI:cvrI 127=true:=by decide +kernel
def Msk (m:Nat):Prop:=m=7∨m=31∨m=127
theorem tQ {l:List Nat} {n:Nat} (h:eB l=2 ^ n - 1) {s:Nat} (hs:s∈l):s<n:=by
 have key:∀ (l:List Nat) (m:Nat),(s∈l∨m.testBit s=true)→(l.foldl (fun m j=>m ||| (1 <<< j)) m).testBit s=true:=by
  intro l
  induction l with
  | nil=>intro m h; rcases h with h | h; cases h; exact h
  | cons j l ih =>
   intro m h
   refine ih _ ?_
   rcases h with h | h
   ·rcases List.mem_cons.mp h with rfl | h
    ·right; rw [Nat.testBit_or,Nat.testBit_shiftLeft]; simp
    ·exact .inl h
   ·right; rw [Nat.testBit_or,h]; rfl
 have:=key l 0 (.inl hs)
 change (eB l).testBit s=true at this
 rw [h,Nat.testBit_two_pow_sub_one] at this
 exact of_decide_eq_true this
theorem cov_J {m h:Nat} (hm:Msk m) (hh:h<32):eB (nN m (10 * SetTable.turns m) (ix m h))=2 ^ (m + 1) - 1:=by
 have a:cvrJ m=true:=by rcases hm with rfl | rfl | rfl; exact cvrJ7; exact vN; exact tM
 exact eq_of_beq (List.all_eq_true.mp a h (List.mem_range.mpr hh))
theorem cov_I {m h:Nat} (hm:Msk m) (hh:h<32):eB (seqI m (SetTable.turns m) (h % (m + 1)) h)=2 ^ (m + 1) - 1:=by
 have a:cvrI m=true:=by rcases hm with rfl | rfl | rfl; exact cvrI7; exact vx; exact sI
 exact eq_of_beq (List.all_eq_true.mp a h (List.mem_range.mpr hh))
theorem kP {t:SetTable} (up:t.place.toList.Pairwise (· < ·)) (dm:t.dummies = #[]) (h:Int):∀ (n:Nat) (p:Prb),p.dummy=none→(∃ j∈nN t.mask n p,j ∉ t.place.toList) →
 ∃ j,j∈nN t.mask n p∧j ∉ t.place.toList∧SetTable.probe.go t (fun _=>h + 1) h n p=some (.empty j none)
 | 0,p,_,⟨j,hj,_⟩=>by cases hj
 | n + 1,p,hd,⟨j,hj,hn⟩=>by
  rw [SetTable.probe.go]
  by_cases c:p.j∈t.place.toList
  ·obtain ⟨i,hi⟩:=n_ up c
   rw [hi]
   dsimp only
   have e:(h + 1 == h)=false:=by simp; omega
   rw [e]
   have hj':j∈nN t.mask n (p0 t.mask p):=by
    rcases List.mem_cons.mp hj with rfl | hj
    ·exact absurd c hn
    ·exact hj
   obtain ⟨k,k1,k2,k3⟩:=kP up dm h n (p0 t.mask p) (by rw [wf]; exact hd) ⟨j,hj',hn⟩
   exact ⟨k,List.mem_cons_of_mem _ k1,k2,k3⟩
  ·rw [lu dm c]
   dsimp only
   exact ⟨p.j,List.mem_cons_self,c,by rw [hd]⟩
theorem gZ {h:Nat} (hh:h<32):SetTable.bits (h:Int)=h:=by
 unfold SetTable.bits
 have:((h:Int) % (2 ^ 64:Int))=(h:Int):=Int.emod_eq_of_lt (by omega) (by omega)
 rw [this]; rfl
theorem ja:∀ {l m:List Nat},l.Nodup→(∀ x∈l,x∈m)→l.length≤m.length
 | [],m,_,_=>Nat.zero_le _
 | a :: l,m,hn,hs=>by
  have ha:=hs a List.mem_cons_self
  have hl:l.length≤(m.erase a).length:=ja (List.nodup_cons.mp hn).2 fun x hx=>by
   have hxa:x≠a:=fun e=>(List.nodup_cons.mp hn).1 (by rw [← e]; exact hx)
   exact (List.mem_erase_of_ne hxa).mpr (hs x (List.mem_cons_of_mem _ hx))
  rw [List.length_erase_of_mem ha] at hl
  have:=List.length_pos_of_mem ha
  show l.length + 1≤m.length
  omega
theorem nB {t:SetTable} (hn:t.place.size≤t.mask):∃ s,s<t.mask + 1∧s ∉ t.place.toList:=by
 refine Classical.byContradiction fun c=>?_
 have hs:∀ s∈List.range (t.mask + 1),s∈t.place.toList:=fun s hs=>Classical.byContradiction fun d=>c ⟨s,List.mem_range.mp hs,d⟩
 have:(List.range (t.mask + 1)).length≤t.place.toList.length:=ja List.nodup_range hs
 simp at this
 omega
theorem nT {t:SetTable} (hm:Msk t.mask) (up:t.place.toList.Pairwise (· < ·)) (dm:t.dummies = #[]) (hn:t.place.size≤t.mask) {h:Nat} (hh:h<32):∃ j,j≤t.mask∧j ∉ t.place.toList∧t.freeSlot (h:Int)=some (j,false):=by
 obtain ⟨s,s1,s2⟩:=nB hn
 have cv:=cov_J hm hh
 obtain ⟨j,j1,j2,j3⟩:=kP (t:=t) up dm (h:Int) (10 * SetTable.turns t.mask) (ix t.mask h) rfl ⟨s,kE cv s1,s2⟩
 refine ⟨j,by have:=tQ cv j1; omega,j2,?_⟩
 unfold SetTable.freeSlot SetTable.probe
 have e:t.probeStart (h:Int)=ix t.mask h:=by unfold SetTable.probeStart ix; rw [gZ hh]
 rw [e,j3]; rfl
theorem mH {mask:Nat} {owner:Array (Option Nat)} (hs:owner.size=mask + 1):∀ (n i pt:Nat),(∃ s∈seqI mask n i pt,s<mask + 1∧owner.getD s (some 0)=none) →
 ∃ j,j<mask + 1∧owner.getD j (some 0)=none∧SetTable.layClean.free mask owner n i pt=some j
 | 0,i,pt,⟨s,h,_⟩=>by cases h
 | n + 1,i,pt,⟨s,h,h1,h2⟩=>by
  rw [SetTable.layClean.free]
  cases e:(List.range (SetTable.runEnd mask i + 1 - i)).find? fun k=>(owner.getD (i + k) (some 0)).isNone with
  | some k =>
   have hk:=List.find?_some e
   have hn:owner.getD (i + k) (some 0)=none:=by simpa using hk
   refine ⟨i + k,?_,hn,rfl⟩
   refine Classical.byContradiction fun c=>?_
   have:owner.getD (i + k) (some 0)=some 0:=by simp [Array.getD,hs]; omega
   rw [this] at hn; cases hn
  | none =>
   have hne:=List.find?_eq_none.mp e
   rcases List.mem_cons.mp h with rfl | h
   ·have hr:s≤SetTable.runEnd mask s:=by unfold SetTable.runEnd; split <;> omega
    have:=hne 0 (List.mem_range.mpr (by omega))
    rw [Nat.add_zero,h2] at this
    simp at this
   ·exact mH hs n _ _ ⟨s,h,h1,h2⟩
structure OwnT (mask:Nat) (owner:Array (Option Nat)) (k:Nat):Prop where
 sz:owner.size=mask + 1
 pm:(owner.toList.filterMap id).Perm (List.range k)
theorem o6:∀ (l:List (Option Nat)) (j k:Nat),l[j]? = some none→((l.set j (some k)).filterMap id).Perm (k :: l.filterMap id)
 | [],j,k,h=>by simp at h
 | x :: l,0,k,h=>by
  have e:x=none:=by simpa using h
  subst e
  exact .refl _
 | x :: l,j + 1,k,h=>by
  have h':l[j]? = some none:=by simpa using h
  have ih:=o6 l j k h'
  cases x with
  | none=>exact ih
  | some y=>exact (List.Perm.cons y ih).trans (.swap k y _)
theorem p6:∀ (l:List (Option Nat)),(∀ x∈l,x≠none)→(l.filterMap id).length=l.length
 | [],_=>rfl
 | x :: l,h=>by
  cases x with
  | none=>exact absurd rfl (h none List.mem_cons_self)
  | some y=>show ((l.filterMap id).length + 1)=l.length + 1; rw [p6 l fun x hx=>h x (List.mem_cons_of_mem _ hx)]
theorem OwnT.step {mask:Nat} (hm:Msk mask) {owner:Array (Option Nat)} {k:Nat} (h:OwnT mask owner k) (hk:k≤mask) {a:Nat} (ha:a<32):∃ j,SetTable.layClean.free mask owner (SetTable.turns mask) (SetTable.bits (a:Int) % (mask + 1)) (SetTable.bits (a:Int))=some j∧OwnT mask (owner.setIfInBounds j (some k)) (k + 1):=by
 rw [gZ ha]
 have hl:(owner.toList.filterMap id).length=k:=by rw [h.pm.length_eq,List.length_range]
 have hex:∃ s,s<mask + 1∧owner.getD s (some 0)=none:=by
  refine Classical.byContradiction fun c=>?_
  have:∀ x∈owner.toList,x≠none:=fun x hx e=>by
   obtain ⟨i,hi⟩:=List.getElem?_of_mem hx
   have hi':owner[i]? = some x:=by simpa using hi
   obtain ⟨h1,h2⟩:=Array.getElem?_eq_some_iff.mp hi'
   exact c ⟨i,by rw [← h.sz]; exact h1,by simp [Array.getD,h1,h2,e]⟩
  have:=p6 _ this
  rw [hl,Array.length_toList,h.sz] at this
  omega
 obtain ⟨s,s1,s2⟩:=hex
 obtain ⟨j,j1,j2,j3⟩:=mH h.sz (SetTable.turns mask) (a % (mask + 1)) a ⟨s,kE (cov_I hm ha) s1,s1,s2⟩
 refine ⟨j,j3,⟨by rw [Array.size_setIfInBounds]; exact h.sz,?_⟩⟩
 have hj:owner.toList[j]? = some none:=by
  have hlt:j<owner.size:=by rw [h.sz]; exact j1
  have:owner[j]=none:=by simpa [Array.getD,hlt] using j2
  rw [Array.getElem?_toList,Array.getElem?_eq_getElem hlt,this]
 rw [Array.toList_setIfInBounds]
 refine (o6 _ j k hj).trans ?_
 rw [List.range_succ]
 exact (List.Perm.cons k h.pm).trans (List.perm_append_singleton k _).symm
theorem oA {mask:Nat} (hm:Msk mask) (hs:Array Int) (hl:hs.size≤mask) (ha:∀ x∈hs.toList,∃ a:Nat,a<32∧x=(a:Int)):∃ owner,SetTable.layClean mask hs=some owner∧OwnT mask owner hs.size:=by
 have key:∀ (l:List Int) (k:Nat) (owner:Array (Option Nat)),OwnT mask owner k→k + l.length≤mask→(∀ x∈l,∃ a:Nat,a<32∧x=(a:Int)) →
  ∃ owner',l.foldl (fun acc h=>(do
   let (owner,k) ← acc
   let j ← SetTable.layClean.free mask owner (SetTable.turns mask) (SetTable.bits h % (mask + 1)) (SetTable.bits h)
   pure (owner.setIfInBounds j (some k),k + 1):Option (Array (Option Nat)×Nat))) (some (owner,k))=some (owner',k + l.length)∧OwnT mask owner' (k + l.length):=by
  intro l
  induction l with
  | nil=>intro k owner h _ _; exact ⟨owner,rfl,h⟩
  | cons x l ih =>
   intro k owner h hk hx
   obtain ⟨a,a1,rfl⟩:=hx x List.mem_cons_self
   have hk':k + (l.length + 1)≤mask:=hk
   obtain ⟨j,j1,j2⟩:=h.step hm (by omega) a1
   rw [List.foldl_cons]
   have e:(do
    let (owner,k) ← some (owner,k)
    let j ← SetTable.layClean.free mask owner (SetTable.turns mask) (SetTable.bits (a:Int) % (mask + 1)) (SetTable.bits (a:Int))
    pure (owner.setIfInBounds j (some k),k + 1):Option (Array (Option Nat)×Nat))=some (owner.setIfInBounds j (some k),k + 1):=by
    show (SetTable.layClean.free mask owner (SetTable.turns mask) (SetTable.bits (a:Int) % (mask + 1)) (SetTable.bits (a:Int))).bind _=_
    rw [j1]; rfl
   rw [e]
   obtain ⟨o',e1,e2⟩:=ih (k + 1) _ j2 (by omega) fun x hx'=>hx x (List.mem_cons_of_mem _ hx')
   have el:k + 1 + l.length=k + ((a:Int) :: l).length:=by show _=k + (l.length + 1); omega
   rw [el] at e1 e2
   exact ⟨o',e1,e2⟩
 have h0:OwnT mask (Array.replicate (mask + 1) none) 0:=⟨by simp,by
  rw [Array.toList_replicate]
  have:∀ n,(List.replicate n (none:Option Nat)).filterMap id=[]:=fun n=>by induction n with
   | zero=>rfl
   | succ n ih=>rw [List.replicate_succ]; exact ih
  rw [this]; exact .refl _⟩
 obtain ⟨o',e1,e2⟩:=key hs.toList 0 _ h0 (by rw [Array.length_toList]; omega) ha
 refine ⟨o',?_,by rw [Nat.zero_add,Array.length_toList] at e2; exact e2⟩
 unfold SetTable.layClean
 rw [← Array.foldl_toList]
 rw [e1]; rfl
structure Tab (led:Bool) (n:Nat) (t:SetTable):Prop where
 ms:Msk t.mask
 le:n≤t.mask
 sz:t.place.size=n
 up:t.place.toList.Pairwise (· < ·)
 dm:t.dummies = #[]
 pl:t.plain=true
 ld:t.led=led
theorem Tab.fits {led:Bool} {n:Nat} {t:SetTable} (h:Tab led n t):t.fits n=true:=by
 unfold SetTable.fits SetTable.fill
 rw [h.dm,h.sz]
 simp
 exact h.le
def ig (es:List (Int×Value)):Prop:=∀ e∈es,∃ (a:Nat) (tk:Tok),a<32∧e=((a:Int),Value.int (a:Int) tk)
def cJ (e:Int×Value):Int:=e.1
theorem rT {led:Bool} {n:Nat} {t:SetTable} (h:Tab led n t) {es:Array (Int×Value)} (hs:es.size=n) (hn:n + 1≤t.mask) {a:Nat} (ha:a<32) (x:Value) :
 ∃ t' es',layNew t es (a:Int) x=(es',t',false,false)∧Tab led (n + 1) t'∧t'.mask=t.mask:=by
 obtain ⟨j,j1,j2,j3⟩:=nT h.ms h.up h.dm (by rw [h.sz]; exact h.le) ha
 unfold layNew
 rw [j3]
 dsimp only
 have ed:(if SetTable.has t.dummies j=true then SetTable.eraseAt t.dummies (SetTable.below t.dummies j) else t.dummies) = #[]:=by
  rw [h.dm,if_neg (by unfold SetTable.has; simp)]
 have T:Tab led (n + 1) (t.put j).1:=by
  refine ⟨h.ms,hn,?_,u8 h.up j2,ed,h.pl,h.ld⟩
  show (SetTable.insertAt t.place (SetTable.below t.place j) j).size=n + 1
  have:=(SetTable.insertAt_perm t.place (SetTable.below t.place j) j).length_eq
  rw [Array.length_toList,Array.length_toList,Array.size_push,h.sz] at this
  exact this
 have hsz:(SetTable.insertAt es (t.put j).2 ((a:Int),x)).size=n + 1:=by
  have:=(SetTable.insertAt_perm es (t.put j).2 ((a:Int),x)).length_eq
  rw [Array.length_toList,Array.length_toList,Array.size_push,hs] at this
  exact this
 have hf:(t.put j).1.fits (SetTable.insertAt es (t.put j).2 ((a:Int),x)).size=true:=by rw [hsz]; exact T.fits
 refine ⟨(t.put j).1,SetTable.insertAt es (t.put j).2 ((a:Int),x),?_,T,rfl⟩
 show (SetTable.insertAt es (t.put j).2 ((a:Int),x),(t.put j).1.orStandIn (SetTable.insertAt es (t.put j).2 ((a:Int),x)).size,false,!(t.put j).1.fits (SetTable.insertAt es (t.put j).2 ((a:Int),x)).size)=_
 have eo:(t.put j).1.orStandIn (SetTable.insertAt es (t.put j).2 ((a:Int),x)).size=(t.put j).1:=by unfold SetTable.orStandIn; rw [if_pos hf]
 rw [eo,hf]; rfl
theorem kR (owner:Array (Option Nat)):∀ n,n≤owner.size→((List.range n).filterMap fun j=>(owner.getD j none).map (j,·)).map (·.2)=(owner.toList.take n).filterMap id
 | 0,_=>by simp
 | n + 1,h=>by
  have hn:n<owner.toList.length:=by rw [Array.length_toList]; omega
  rw [List.range_succ,List.filterMap_append,List.map_append,kR owner n (by omega),List.take_succ_eq_append_getElem hn,List.filterMap_append]
  congr 1
  have e:owner.getD n none=owner.toList[n]:=by simp [Array.getD,show n<owner.size by omega]
  simp only [List.filterMap_cons,List.filterMap_nil,e]
  cases owner.toList[n] <;> rfl
theorem vi {led:Bool} {n:Nat} {t:SetTable} (h:Tab led n t) {es:Array (Int×Value)} (hs:es.size=n) (hE:ig es.toList) {wanted:Nat} {m:Nat} (hm:Msk m) (ew:SetTable.sizeAbove wanted - 1=m) (hn:n≤m) :
 ∃ t' es',relayAll t es wanted=(es',t',false)∧Tab led n t'∧t'.mask=m:=by
 obtain ⟨owner,o1,o2⟩:=oA hm (es.map (·.1)) (by rw [Array.size_map,hs]; exact hn) fun x hx=>by
  rw [Array.toList_map] at hx
  obtain ⟨e,he,rfl⟩:=List.mem_map.mp hx
  obtain ⟨a,tk,a1,rfl⟩:=hE e he
  exact ⟨a,a1,rfl⟩
 rw [Array.size_map,hs] at o2
 have hr:t.relaid (es.map (·.1)) wanted=some ({ mask:=m,place:=(((List.range (m + 1)).filterMap fun j=>(owner.getD j none).map (j,·)).map (·.1)).toArray,dummies:=#[],finger:=t.finger,led:=t.led,moves:=t.movedTo m,plain:=t.plain },(((List.range (m + 1)).filterMap fun j=>(owner.getD j none).map (j,·)).map (·.2)).toArray):=by
  unfold SetTable.relaid SetTable.laid
  rw [ew,o1]; rfl
 have h2:=kR owner (m + 1) (by rw [o2.sz]; exact Nat.le_refl _)
 rw [List.take_of_length_le (by rw [Array.length_toList,o2.sz]; exact Nat.le_refl _)] at h2
 have hp:(((List.range (m + 1)).filterMap fun j=>(owner.getD j none).map (j,·)).map (·.2)).Perm (List.range n):=by rw [h2]; exact o2.pm
 have hlen:((List.range (m + 1)).filterMap fun j=>(owner.getD j none).map (j,·)).length=n:=by
  have:=hp.length_eq
  rw [List.length_map,List.length_range] at this
  exact this
 have hup:(((List.range (m + 1)).filterMap fun j=>(owner.getD j none).map (j,·)).map (·.1)).Pairwise (· < ·):=by
  have e:((List.range (m + 1)).filterMap fun j=>(owner.getD j none).map (j,·)).map (·.1)=(List.range (m + 1)).filter fun j=>(owner.getD j none).isSome:=by
   generalize List.range (m + 1)=l
   induction l with
   | nil=>rfl
   | cons a l ih =>
    rw [List.filterMap_cons,List.filter_cons]
    cases c:owner.getD a none with
    | none=>simpa using ih
    | some b=>simpa using ih
  rw [e]
  exact List.pairwise_lt_range.filter _
 clear h2
 generalize ((List.range (m + 1)).filterMap fun j=>(owner.getD j none).map (j,·))=lv at hr hp hlen hup
 unfold relayAll
 rw [hr]
 dsimp only
 have T:Tab led n ({ mask:=m,place:=(lv.map (·.1)).toArray,dummies:=#[],finger:=t.finger,led:=t.led,moves:=t.movedTo m,plain:=t.plain }:SetTable) :=
  ⟨hm,hn,by simp [hlen],hup,rfl,h.pl,h.ld⟩
 have hes:((lv.map (·.2)).toArray.filterMap (es[·]?)).size=n:=by
  rw [← Array.length_toList,Array.toList_filterMap]
  have:=(hp.filterMap (es[·]?)).length_eq
  have e2:((List.range n).filterMap (es[·]?)).length=n:=by rw [← hs,filterMap_getElem?_range,Array.length_toList]
  rw [e2] at this
  exact this
 refine ⟨_,(lv.map (·.2)).toArray.filterMap (es[·]?),?_,T,rfl⟩
 rw [if_pos]
 rw [hes,Bool.and_eq_true]
 exact ⟨by unfold coversAll; rw [hs]; exact List.isPerm_iff.mpr hp,T.fits⟩
end L2
namespace L2
open PySem PyProof.Rows
theorem lZ:∀ a:Nat,a<32→hashInt (a:Int)=(a:Int):=by decide +kernel
structure TabS (led:Bool) (ns:List Int) (es:Array (Int×Value)) (t:SetTable):Prop where
 sm:ig es.toList
 nd:(es.toList.map cJ).Nodup
 mem:∀ k,k∈es.toList.map cJ↔k∈ns
 tab:Tab led es.size t
 fit:t.mask=7∧es.size<5∨t.mask=31∧es.size<19∨t.mask=127
 le:es.size≤ns.length
def ke (led:Bool) (ns:List Int) (o:Obj):Prop:=o.ExactSet∧∃ es ep t,o.data = .set es ep t∧TabS led ns es t
section
variable {prog:Program} {w:World} {A:Around} {E:Value→Shared→Prop} {s:Shared}
theorem tw {l:List (Int×Value)} (h:ig l):ElemsOf (intKind prog w) l:=fun e he=>by
 obtain ⟨a,tk,a1,rfl⟩:=h e he
 exact ⟨⟨(a:Int),intKind_is _ _ _ _,(lZ a a1).symm⟩,rfl⟩
theorem wF {led:Bool} {ns:List Int} {es:Array (Int×Value)} {t:SetTable} (h:TabS led ns es t) (hn:ns.length≤40):es.size<scanBound:=by
 have:=h.le; unfold scanBound; omega
theorem rz {k:Int} {e:Int×Value} {l:List (Int×Value)} (h:ig l) (he:e∈l):(intKind prog w).is k e.2=decide (k=cJ e):=by
 obtain ⟨a,tk,a1,rfl⟩:=h e he
 exact KeyKind.is_eq_decide (knd:=intKind prog w) (intKind_is _ _ _ _) k
theorem wO {a:Addr} {o:Obj} {led:Bool} {ns:List Int} {k:Nat} {tk:Tok} {Q:Bool→Shared→Prop} (hk:k<32) (ho:s.heap.get? a=some o) (hO:ke led ns o) (hn:ns.length<40)
 (h:∀ b h' o',Heap.SameBut a s.heap h'→h'.get? a=some o'→ke led (ns++[(k:Int)]) o'→Q b { s with heap:=h' }) :
 wpAny (model prog w) A (setAddHashed a (.int (k:Int) tk) (k:Int)) Q E s:=by
 obtain ⟨hex,es,ep,t,hd,T⟩:=hO
 have hf:=T.tab.fits
 have hel:=tw (prog:=prog) (w:=w) T.sm
 have hb:=wF T (by omega)
 have hle:=T.le
 have hkey:(intKind prog w).is (k:Int) (.int (k:Int) tk)=true:=intKind_is _ _ _ _
 unfold setAddHashed setAddHashedIn
 refine wpAny_holding (wpAny_bind (wpAny_setState_of ho hd hf ?_))
 dsimp only
 rw [byScan_of (knd:=intKind prog w) (x:=.int (k:Int) tk) rfl hb hel]
 simp only [↓reduceIte]
 unfold setAddByScan
 refine wpAny_bind ?_
 refine wpAny_bind (wpAny_rule ?_)
 have hsc:∀ {Q':ScanMet→Shared→Prop},Q' (match es.toList.findIdx? (fun e=>(intKind prog w).is (k:Int) e.2) with | some j=>.found (0 + j) | none=>.absent) s→wpAny (model prog w) A (setScan a (.int (k:Int) tk) (k:Int) true es) Q' E s:=fun q=>by
  have:=wpAny_setScan_of (A:=A) (E:=E) (adding:=true) hkey ho hd hf hel q
  rwa [show (intKind prog w).hash (k:Int)=(k:Int) from lZ k hk] at this
 refine wpAny_bind (hsc ?_)
 cases hr:List.findIdx? (fun e=>(intKind prog w).is (k:Int) e.2) es.toList with
 | some j =>
  dsimp only
  obtain ⟨hj,hpj,_⟩:=List.findIdx?_eq_some_iff_getElem.mp hr
  have hm:=List.getElem_mem hj
  rw [rz T.sm hm] at hpj
  have hin:(k:Int)∈ns:=(T.mem _).mp (by rw [of_decide_eq_true hpj]; exact List.mem_map_of_mem hm)
  refine wpAny_pure (wpAny_pure ?_)
  have e:s = { s with heap:=s.heap }:=by cases s; rfl
  rw [e]
  refine h _ s.heap o (Heap.SameBut.refl a s.heap) ho ⟨hex,es,ep,t,hd,⟨T.sm,T.nd,fun k'=>?_,T.tab,T.fit,by rw [List.length_append]; omega⟩⟩
  rw [T.mem k',List.mem_append]
  exact ⟨.inl,fun z=>z.elim id fun z=>by rw [List.mem_singleton.mp z]; exact hin⟩
 | none =>
  dsimp only
  have hnk:(k:Int) ∉ es.toList.map cJ:=fun c=>by
   obtain ⟨e,he,q⟩:=List.mem_map.mp c
   have:=List.findIdx?_eq_none_iff.mp hr e he
   rw [rz T.sm he,q] at this
   simp at this
  have hmk:es.size + 1≤t.mask:=by have:=T.fit; omega
  obtain ⟨t1,es1,e1,T1,m1⟩:=rT T.tab rfl hmk hk (.int (k:Int) tk)
  have hperm:=layNew_perm t es (k:Int) (.int (k:Int) tk)
  rw [e1] at hperm ⊢
  dsimp only at hperm ⊢
  rw [Array.toList_push] at hperm
  have hs1:es1.size=es.size + 1:=by rw [← Array.length_toList,hperm.length_eq,List.length_append,Array.length_toList]; rfl
  rw [← hs1] at T1
  have sm1:ig es1.toList:=fun e he=>by
   rcases List.mem_append.mp (hperm.mem_iff.mp he) with q | q
   ·exact T.sm e q
   ·rw [List.mem_singleton.mp q]; exact ⟨k,tk,hk,rfl⟩
  have hpk:(es1.toList.map cJ).Perm (es.toList.map cJ++[(k:Int)]):=by
   have:=hperm.map cJ
   rw [List.map_append] at this
   exact this
  have nd1:(es1.toList.map cJ).Nodup:=hpk.nodup_iff.mpr (List.nodup_append.mpr ⟨T.nd,by simp,fun x hx y hy=>by rw [List.mem_singleton.mp hy]; exact fun e=>hnk (e ▸ hx)⟩)
  have mem1:∀ k',k'∈es1.toList.map cJ↔k'∈ns++[(k:Int)]:=fun k'=>by rw [hpk.mem_iff,List.mem_append,List.mem_append,T.mem k']
  have hb1:es1.size<scanBound:=by unfold scanBound; omega
  refine wpAny_bind (wpAny_pure ?_)
  rw [T1.pl]
  simp only [↓reduceIte]
  refine wpAny_bind ?_
  rw [hashByValue_scannable 8 (x:=.int (k:Int) tk) rfl]
  refine wpAny_pure ?_
  simp only [plainKind,↓reduceIte]
  refine wpAny_bind (wpAny_storeSet_of ho hd ?_ (fits_of_scanBound hb1))
  have hg:(s.heap.update a (Obj.putSet es1 t1)).get? a=some { o with data:=.set es1 (ep + 1) t1 }:=by
   have:=Heap.get?_update_self (Obj.putSet es1 t1) ho (by rw [putSet_of es1 t1 hd]; rfl)
   rw [putSet_of es1 t1 hd] at this; exact this
  have hsb1:=Heap.SameBut.update s.heap a (Obj.putSet es1 t1)
  have hfill:t1.fill=es1.size:=by unfold SetTable.fill; rw [T1.dm,T1.sz]; rfl
  have fin:∀ (es2:Array (Int×Value)) (t2:SetTable) (ep2:Nat) (h2:Heap),h2.get? a=some { o with data:=.set es2 ep2 t2 }→Heap.SameBut a s.heap h2→es2.toList.Perm es1.toList→Tab led es2.size t2→(t2.mask=7∧es2.size<5∨t2.mask=31∧es2.size<19∨t2.mask=127)→Q true { s with heap:=h2 }:=fun es2 t2 ep2 h2 g2 sb2 p2 T2 f2=>by
   have hs2:es2.size=es1.size:=by rw [← Array.length_toList,p2.length_eq,Array.length_toList]
   refine h true h2 _ sb2 g2 ⟨hex,es2,ep2,t2,rfl,⟨fun e he=>sm1 e (p2.mem_iff.mp he),(p2.map cJ).nodup_iff.mpr nd1,fun k'=>by rw [(p2.map cJ).mem_iff]; exact mem1 k',T2,f2,?_⟩⟩
   rw [List.length_append]
   show es2.size≤ns.length + 1
   omega
  by_cases c:t1.tooFull=true
  ·rw [c]
   simp only [Bool.not_false,Bool.and_self,↓reduceIte]
   have c':t1.mask * 3≤es1.size * 5:=by unfold SetTable.tooFull at c; rw [hfill] at c; simpa using c
   obtain ⟨m,hm,ew,hle2,hfit2⟩:∃ m,Msk m∧SetTable.sizeAbove (SetTable.grown es1.size) - 1=m∧es1.size≤m∧(m=31∧es1.size<19∨m=127):=by
    rcases T.fit with ⟨f1,f2⟩ | ⟨f1,f2⟩ | f1
    ·have e5:es1.size=5:=by omega
     rw [e5]
     exact ⟨31,.inr (.inl rfl),by decide +kernel,by decide,.inl ⟨rfl,by decide⟩⟩
    ·have e19:es1.size=19:=by omega
     rw [e19]
     exact ⟨127,.inr (.inr rfl),by decide +kernel,by decide,.inr rfl⟩
    ·omega
   obtain ⟨t2,es2,e2,T2,m2⟩:=vi T1 rfl sm1 (wanted:=SetTable.grown es1.size) hm ew hle2
   have hp2:=relayAll_perm t1 es1 (SetTable.grown es1.size)
   rw [e2] at hp2 ⊢
   dsimp only at hp2 ⊢
   have hs2:es2.size=es1.size:=by rw [← Array.length_toList,hp2.length_eq,Array.length_toList]
   refine wpAny_bind (wpAny_pure ?_)
   refine wpAny_bind (wpAny_storeSet_of hg rfl ?_ (fits_of_scanBound (by rw [hs2]; exact hb1)))
   have hg2:((s.heap.update a (Obj.putSet es1 t1)).update a (Obj.putSet es2 t2)).get? a=some { o with data:=.set es2 (ep + 1 + 1) t2 } :=
    Heap.get?_update_self (Obj.putSet es2 t2) hg (by rw [putSet_of es2 t2 rfl]; rfl)
   refine wpAny_pure (wpAny_pure (fin es2 t2 _ _ hg2 (hsb1.trans (Heap.SameBut.update _ a _)) hp2 (by rw [hs2]; exact T2) ?_))
   rw [m2,hs2]; omega
  ·have c2:t1.tooFull=false:=by simpa using c
   rw [c2]
   simp only [Bool.and_false,Bool.false_eq_true,↓reduceIte]
   have c':es1.size * 5<t1.mask * 3:=by unfold SetTable.tooFull at c2; rw [hfill] at c2; simpa using c2
   refine wpAny_pure (wpAny_pure (fin es1 t1 _ _ hg hsb1 (.refl _) T1 ?_))
   have:=T.fit
   omega
end
end L2
namespace L2
open PySem PyProof.Rows PySem.Spec
def du (w:World):Bool:=!w.params.followText "set-order"
def db (val:Nat→Nat) (i:Nat):List Int:=(List.range i).map fun j=>(val j:Int)
theorem kY (val:Nat→Nat) (i:Nat):db val (i + 1)=db val i++[(val i:Int)]:=by
 unfold db; rw [List.range_succ,List.map_append]; rfl
theorem lU (val:Nat→Nat) (i:Nat):(db val i).length=i:=by unfold db; rw [List.length_map,List.length_range]
section
variable {prog:Program} {w:World} {A:Around} {R:Result→Shared→Prop} {I:Addr} {fp wr:List Addr} {G:Array GenState→Array GenState→Prop} {n:Nat} {P:Nat→Value→Prop} {St:Nat→Shared→Prop}
theorem nE (led:Bool) (W:WalksS prog w A.in1 I fp wr G n P St) (S:Addr) (hSf:S ∉ fp) (val:Nat→Nat) (hval:∀ i v,P i v→∃ t,v = .int (val i:Int) t) (hsm:∀ i,i<n→val i<32) (hb:n≤40) :
 ∀ (k i:Nat) (s:Shared),n - i=k→i≤n→St i s→(∃ o,s.heap.get? S=some o∧ke led (db val i) o) →
  (∀ s',Moved (S :: wr) G s s'→(∃ o,s'.heap.get? S=some o∧ke led (db val n) o)→R (.ok (.ret .none)) s') →
  codeAny (model prog w) A (.builtin "set.update.loop" ⟨[.ref S,.ref I],[]⟩) R s:=by
 have nSw:S ∉ wr:=fun c=>hSf (W.sub _ c)
 have sub:∀ b∈wr,b∈S :: wr:=fun b c=>List.mem_cons_of_mem _ c
 intro k
 induction k with
 | zero =>
  intro i s hk hi hst hS hR
  obtain rfl:i=n:=by omega
  apply codeAny_builtin F.entry_set_update_loop
  rw [Around.under_plainId F.plain_set_update_loop _]
  show wpAny _ A.in1 (pyNext (.ref I) >>= _) _ _ s
  apply wpAny_bind
  refine W.done s _ _ hst fun s' hm=>?_
  show wpAny _ A.in1 (ret Value.none) _ _ s'
  obtain ⟨o,ho,rest⟩:=hS
  exact wpAny_pure (hR s' (hm.mono sub) ⟨o,hm.heap S _ nSw ho,rest⟩)
 | succ k ih =>
  intro i s hk hi hst hS hR
  have lt:i<n:=by omega
  apply codeAny_builtin F.entry_set_update_loop
  rw [Around.under_plainId F.plain_set_update_loop _]
  show wpAny _ A.in1 (pyNext (.ref I) >>= _) _ _ s
  apply wpAny_bind
  refine W.item i s _ _ lt hst fun v s' hP st' hm=>?_
  obtain ⟨t,rfl⟩:=hval i v hP
  obtain ⟨o,ho,hO⟩:=hS
  have ho':=hm.heap S _ nSw ho
  show wpAny _ A.in1 (holding [Value.int (val i:Int) t] (setAdd S (.int (val i:Int) t)) >>= _) _ _ s'
  apply wpAny_bind
  apply wpAny_holding
  unfold setAdd
  apply wpAny_holding
  apply wpAny_bind
  refine (intKind prog w).pyHash (k:=(val i:Int)) (intKind_is _ _ _ _) ?_
  rw [show (intKind prog w).hash (val i:Int)=(val i:Int) from lZ _ (hsm i lt)]
  refine wO (s:={ s' with toks:=s'.toks + 1 }) (hsm i lt) ho' hO (by rw [lU]; omega) fun b h' o' hsb g' O'=>?_
  rw [← kY] at O'
  refine wpAny_pure ⟨plainId_quiet F.plain_set_update_loop _,ih (i + 1) _ (by omega) lt (W.frame _ s' _ _ st' (Nat.le_succ _) fun b hb o e=>?_) ⟨o',g',O'⟩ fun s'' m2 S2=>?_⟩
  ·rw [hsb.2 b (fun c:b=S=>hSf (by rw [← c]; exact hb))]; exact e
  ·refine hR s'' (Moved.trans W.gtrans ((hm.mono sub).then_heap (Nat.le_succ _) fun b o hb e=>?_) m2) S2
   rw [hsb.2 b (fun c:b=S=>hb (by rw [c]; exact List.mem_cons_self))]; exact e
end
section
variable {prog:Program} {w:World} {A:Around} {E:Value→Shared→Prop} {s:Shared}
abbrev iE (w:World):Obj:={ cls:=.type "set",dict:=none,data:=.set #[] 0 (.fresh 0 0 (du w)) }
theorem pH (w:World):ke (du w) [] (iE w):=⟨⟨rfl,rfl,rfl⟩,#[],0,_,rfl,⟨fun e he=>by simp at he,by simp,fun k=>by simp,⟨.inl rfl,Nat.zero_le _,rfl,by simp [SetTable.fresh],rfl,rfl,rfl⟩,.inl ⟨rfl,by decide⟩,Nat.le_refl _⟩⟩
theorem oX (a:Value) {Q₁:Value→Shared→Prop} (h:Q₁ (.ref s.heap.objs.size) { s with heap:=s.heap.push (iE w) }) :
 codeAny (model prog w) A (.call (.builtin "set.__new__") ⟨[.type "set",a],[]⟩) (wants Q₁ E) s:=by
 apply codeAny_of_tree
 show wpAny _ A.in1 (do checkBuiltinCall "set.__new__" ⟨[.type "set",a],[]⟩; again (.builtin "set.__new__" ⟨[.type "set",a],[]⟩)) _ _ s
 apply wpAny_bind
 refine wpAny_of_eq (PySem.F.newCall_set_1 a) (wpAny_pure ⟨plainId_quiet F.plain_set_new _,codeAny_builtin F.entry_set_new ?_⟩)
 rw [Around.under_plainId F.plain_set_new _]
 unfold Builtin.«set.__new__» Builtin.Frozenset.newClass
 have hsub:=sub_set_self
 obtain ⟨hp,g,d,tk,os⟩:=s
 dsimp only
 wp_walk
 refine wpAny_askSetting (wpAny_pure ?_)
 dsimp only
 simp only [newObj]
 refine wpAny_bind (wpAny_alloc (wpAny_pure ?_))
 exact wpAny_pure h
end
section
variable {prog:Program} {w:World} {A:Around} {E:Value→Shared→Prop} {s:Shared}
theorem nI {l:Addr} {items:Array Value} {val:Nat→Nat} {Q:Value→Shared→Prop}
 (hh:A.handled=none) (hl:s.heap.IsList l items) (hval:∀ (i:Nat) (v:Value),items[i]? = some v→∃ t,v = .int (val i:Int) t) (hsm:∀ i,i<items.size→val i<32) (hb:items.size≤40)
 (h:∀ (h':Heap) (tk:Nat) (o:Obj),h'.get? s.heap.objs.size=some o→ke (du w) (db val items.size) o →
  (∀ b o,b<s.heap.objs.size→s.heap.get? b=some o→h'.get? b=some o)→Q (.ref s.heap.objs.size) { s with heap:=h',toks:=tk }) :
 wpAny (model prog w) A (call (.type "set") [.ref l]) Q E s:=by
 obtain ⟨c,tl,hmro⟩:=PySem.F.called_set.mro
 have hmade:=PySem.F.called_set.made
 have hsub:=PySem.F.called_set.sub
 refine wpAny_call (codeAny_of_tree ?_)
 show wpAny _ _ (callAny (.type "set") _) _ _ _
 refine wpAny_pure ⟨Code.quiet_builtin _ (by decide +kernel),codeAny_builtin F.entry_type_call ?_⟩
 rw [Around.under_plain (weight_type_call_type "set" [.ref l] []) rfl]
 have h1:=PySem.F.called_set.notType
 have h2:=PySem.F.called_set.canCreate
 have hct:=PySem.F.typeCall_set_1 (.ref l)
 repeat (any_goals (first | assumption | wp_step))
 refine codeAny_mono (oX (.ref l) (E:=E) (Q₁:=fun obj s₁=>obj = .ref s.heap.objs.size∧s₁ = { s with heap:=s.heap.push (iE w) }) ⟨rfl,rfl⟩) fun r s₁ hr=>?_
 cases r with
 | error e=>exact hr
 | ok fl =>
  cases fl with
  | ret obj =>
   obtain ⟨rfl,rfl⟩:=hr
   have hS:(s.heap.push (iE w)).get? s.heap.objs.size=some (iE w):=Heap.get?_push_size _ rfl
   have hT:Shared.TypeIs { s with heap:=s.heap.push (iE w) } (.ref s.heap.objs.size) "set":=⟨_,hS,rfl⟩
   have hli:=PySem.F.called_set.init.lookup
   have hbi:=PySem.F.called_set.init.bind (.ref s.heap.objs.size)
   repeat (any_goals (first | assumption | wp_step))
   refine codeAny_mono (codeAny_call_builtin (R:=wants (fun r s₂=>r = .none∧∃ h' tk o,s₂ = { s with heap:=h',toks:=tk }∧h'.get? s.heap.objs.size=some o∧ke (du w) (db val items.size) o ∧
    (∀ b o,b<s.heap.objs.size→s.heap.get? b=some o→h'.get? b=some o)) E) PySem.F.called_set.init.plain F.entry_set_init (check_set_init_1 hT ?_)) fun r₂ s₂ hr₂=>?_
   ·obtain ⟨ol,hol,hcl,nl,hdl⟩:=hl
    obtain ⟨ocls,odict,odata,oslots⟩:=ol
    simp only at hcl hdl
    subst hcl; subst hdl
    have hol':(s.heap.push (iE w)).get? l=some { cls:=.type "list",dict:=odict,data:=.seq items nl,slots:=oslots }:=Heap.get?_push_of_some _ hol
    have hsls:=PySem.F.sub_list_set
    have hslf:=PySem.F.sub_list_frozenset
    have hne:(Value.type "list" == Value.type "dict")=false:=by decide
    have hl1:(s.heap.push (iE w)).IsList l items:=⟨_,hol',rfl,nl,rfl⟩
    unfold Builtin.«set.__init__» noKeywords Builtin.Frozenset.updateFrom
    generalize hPI:pyIter=PI
    wp_walk
    subst hPI
    refine wpAny_pyIter_list hl1 ?_
    refine wpAny_bind (wpAny_runValue ?_)
    have hlS:l<s.heap.objs.size:=Heap.lt_size hol
    have hh3:A.in1.in1.in1.handled=none:=by simp [hh]
    have hneI:l≠(s.heap.push (iE w)).objs.size:=by
     rw [Heap.size_push]; exact Nat.ne_of_lt (Nat.lt_succ_of_lt hlS)
    have hSf:s.heap.objs.size ∉ [(s.heap.push (iE w)).objs.size,l]:=by
     rw [Heap.size_push]; simp only [List.mem_cons,List.mem_singleton,List.not_mem_nil,or_false,not_or]
     exact ⟨Nat.ne_of_lt (Nat.lt_succ_self _),Nat.ne_of_gt hlS⟩
    refine nE (du w) ((Walks.list hh3 _ l hneI items).toS) s.heap.objs.size hSf val hval hsm hb (items.size - 0) 0 _ (by omega) (Nat.zero_le _)
     ⟨⟨_,Heap.get?_push_size _ rfl,rfl,rfl⟩,(hl1.push _)⟩ ⟨_,Heap.get?_push_of_some _ hS,pH w⟩ ?hR
    case hR =>
     intro s' hm hS'
     obtain ⟨h',g',d',tk',os'⟩:=s'
     have eg:g'=s.gens:=hm.gens
     have ed:d'=s.drawn:=hm.drawn
     have eo:os'=s.os:=hm.os
     subst eg; subst ed; subst eo
     obtain ⟨o',g1,g2⟩:=hS'
     show wpAny _ _ _ _ _ _
     refine wpAny_pure ?_
     show wpAny _ _ (ret Value.none) _ _ _
     refine wpAny_pure ⟨rfl,h',tk',o',rfl,g1,g2,fun b o hb e=>?_⟩
     have hb1:b≠s.heap.objs.size:=Nat.ne_of_lt hb
     have hb2:b≠(s.heap.push (iE w)).objs.size:=by
      rw [Heap.size_push]; exact Nat.ne_of_lt (Nat.lt_succ_of_lt hb)
     exact hm.heap b o (by simp only [List.mem_cons,List.mem_singleton,List.not_mem_nil,or_false,not_or]; exact ⟨hb1,hb2⟩) (Heap.get?_push_of_some _ (Heap.get?_push_of_some _ e))
   ·cases r₂ with
    | error e=>exact hr₂
    | ok fl₂ =>
     cases fl₂ with
     | ret r =>
      obtain ⟨rfl,h',tk,o',rfl,g1,g2,hk'⟩:=hr₂
      repeat (any_goals (first | assumption | wp_step))
      exact h _ _ _ g1 g2 hk'
     | _=>exact hr₂.elim
  | _=>exact hr.elim
end
theorem fo:Slot "set" "__iter__" "set.__iter__" :=
 .of (owner:="set") (n:="__iter__") (by rw [typeLookup_type,builtinLookup_eq_fast]; kernel_rfl) (by decide +kernel) (by decide +kernel) (by decide +kernel)
  (by first | exact .inl (by decide +kernel) | exact .inr (by decide +kernel)) (by rw [isSubtype_type]; kernel_rfl)
theorem io:entryFor table "set.__iter__" = some Builtin.«frozenset.__iter__» :=
 entryFor_alias (id':="frozenset.__iter__") (by kernel_rfl) (by first | rfl | decide +kernel | (unfold String.splitOn; simp +decide [String.splitOnAux])) (by decide +kernel) (by kernel_rfl)
theorem iI (a:Value):argsOk "set.__iter__" ⟨[a],[]⟩:=by unfold argsOk; kernel_rfl
theorem bO:Slot "set_iterator" "__next__" "set_iterator.__next__" :=
 .of (owner:="set_iterator") (n:="__next__") (by rw [typeLookup_type,builtinLookup_eq_fast]; kernel_rfl) (by decide +kernel) (by decide +kernel) (by decide +kernel)
  (by first | exact .inl (by decide +kernel) | exact .inr (by decide +kernel)) (by rw [isSubtype_type]; kernel_rfl)
theorem fm:entryFor table "set_iterator.__next__" = some Builtin.«set_iterator.__next__»:=entryFor_of_tree (by kernel_rfl)
theorem fN (a:Value):argsOk "set_iterator.__next__" ⟨[a],[]⟩:=by unfold argsOk; kernel_rfl
theorem fH:Slot "set_iterator" "__iter__" "set_iterator.__iter__" :=
 .of (owner:="set_iterator") (n:="__iter__") (by rw [typeLookup_type,builtinLookup_eq_fast]; kernel_rfl) (by decide +kernel) (by decide +kernel) (by decide +kernel)
  (by first | exact .inl (by decide +kernel) | exact .inr (by decide +kernel)) (by rw [isSubtype_type]; kernel_rfl)
theorem jI (a:Value):argsOk "set_iterator.__iter__" ⟨[a],[]⟩:=by unfold argsOk; kernel_rfl
theorem iM:entryFor table "set_iterator.__iter__" = some Builtin.«dict_keyiterator.__iter__» :=
 entryFor_alias (id':="dict_keyiterator.__iter__") (by kernel_rfl) (by first | rfl | decide +kernel | (unfold String.splitOn; simp +decide [String.splitOnAux])) (by decide +kernel) (by kernel_rfl)
theorem gy {α:Type}:∀ (l:List α) (i:Nat) (h:i<l.length),(l[i] :: l.eraseIdx i).Perm l
 | [],_,h=>by simp at h
 | x :: l,0,_=>.refl _
 | x :: l,i + 1,h=>(List.Perm.swap x _ _).trans (List.Perm.cons x (gy l i (by simpa using h)))
theorem nv {α:Type} (next:Nat→Nat):∀ (fuel k:Nat) (left:List α) (out:Array α),left.length≤fuel→(pickOrder.go next fuel k left out).toList.Perm (out.toList++left)
 | 0,k,left,out,h=>by
  have:left=[]:=List.length_eq_zero_iff.mp (by omega)
  subst this
  rw [pickOrder.go]; simp
 | fuel + 1,k,left,out,h=>by
  rw [pickOrder.go]
  cases e:left[next k % left.length]? with
  | none =>
   cases left with
   | nil=>simp
   | cons x l =>
    have:=Nat.mod_lt (next k) (show 0<(x :: l).length by simp)
    rw [List.getElem?_eq_getElem this] at e; cases e
  | some x =>
   obtain ⟨hl,hx⟩:=List.getElem?_eq_some_iff.mp e
   have ih:=nv next fuel (k + 1) (left.eraseIdx (next k % left.length)) (out.push x) (by rw [List.length_eraseIdx_of_lt hl]; omega)
   refine ih.trans ?_
   rw [Array.toList_push,List.append_assoc]
   refine List.Perm.append_left _ ?_
   have:=gy left _ hl
   rw [hx] at this
   exact this
theorem oE {α:Type} (next:Nat→Nat) (xs:Array α):(pickOrder next xs).toList.Perm xs.toList:=by
 have:=nv next xs.size 0 xs.toList #[] (by rw [Array.length_toList]; exact Nat.le_refl _)
 simpa [pickOrder] using this
def bB (w:World) (a:Addr) (ep:Nat) (es:Array (Int×Value)):Array (Int×Value):=if w.params.followText "set-order" = true then pickOrder (w.params.setOrder a ep) es else es
theorem gq (w:World) (a:Addr) (ep:Nat) (es:Array (Int×Value)):(bB w a ep es).toList.Perm es.toList:=by
 unfold bB; split
 ·exact oE _ _
 ·exact .refl _
theorem d4 (w:World) (a:Addr) (ep:Nat) (es:Array (Int×Value)):(bB w a ep es).size=es.size:=by
 have:=(gq w a ep es).length_eq
 simpa using this
section
variable {prog:Program} {w:World} {A:Around} {E:Value→Shared→Prop} {s:Shared}
theorem mw {S:Addr} {o:Obj} {es:Array (Int×Value)} {ep:Nat} {t:SetTable} {ns:List Int} (ho:s.heap.get? S=some o) (hd:o.data = .set es ep t) (T:TabS (du w) ns es t) {slot i:Nat} (hs:w.params.followText "set-order" = false→SetTable.below t.place slot=i) (hi:i≤es.size) {Q:Option (Value×Nat)→Shared→Prop}
 (h1:∀ slot' x,(w.params.followText "set-order" = false→SetTable.below t.place slot'=i + 1)→(bB w S ep es)[i]? = some x→Q (some (x.2,slot')) s)
 (h2:(bB w S ep es)[i]? = none→Q none s) :
 wpAny (model prog w) A (setNext S slot i ep) Q E s:=by
 have hf:=T.tab.fits
 unfold setNext setsByText
 refine wpAny_bind (wpAny_setState_of ho hd hf ?_)
 dsimp only
 refine wpAny_bind (wpAny_bind (wpAny_askSetting (wpAny_pure ?_)))
 dsimp only
 show wpAny _ _ (if w.params.followText "set-order" = true then _ else _) _ _ _
 by_cases c:w.params.followText "set-order" = true
 ·rw [if_pos c]
  show wpAny _ _ (if (ep != ep)=true then _ else _) _ _ _
  rw [if_neg (by simp)]
  unfold setWalk setsByText
  refine wpAny_bind (wpAny_bind (wpAny_setState_of ho hd hf ?_))
  dsimp only
  refine wpAny_bind (wpAny_bind (wpAny_askSetting (wpAny_pure ?_)))
  dsimp only
  show wpAny _ _ (if w.params.followText "set-order" = true then _ else _) _ _ _
  rw [if_pos c]
  refine wpAny_bind (wpAny_askSetting (wpAny_pure ?_))
  dsimp only
  refine wpAny_pure ?_
  have ew:bB w S ep es=pickOrder (w.params.setOrder S ep) es:=by unfold bB; rw [if_pos c]
  rw [ew] at h1 h2
  show Q (((pickOrder (w.params.setOrder S ep) es)[i]?).map fun e=>(e.2,slot)) s
  cases e:(pickOrder (w.params.setOrder S ep) es)[i]? with
  | none=>exact h2 e
  | some x=>exact h1 slot x (fun d=>by rw [c] at d; cases d) e
 ·rw [if_neg c]
  have c':w.params.followText "set-order" = false:=by simpa using c
  have hl:t.led=true:=by rw [T.tab.ld]; unfold du; rw [c']; rfl
  show wpAny _ _ (if (!t.plain&&decide (es.size > 1))=true then _ else _) _ _ _
  rw [if_neg (by rw [T.tab.pl]; simp)]
  refine wpAny_bind ?_
  show wpAny _ _ (if (!t.led && !es.isEmpty)=true then _ else pure ()) _ _ _
  rw [if_neg (by rw [hl]; simp)]
  refine wpAny_pure ?_
  have hs':=hs c'
  have ew:bB w S ep es=es:=by unfold bB; rw [if_neg c]
  rw [ew] at h1 h2
  (try dsimp only)
  rw [hs']
  refine wpAny_pure ?_
  have hsz:=T.tab.sz
  by_cases d:i<es.size
  ·have e1:es[i]? = some es[i]:=Array.getElem?_eq_getElem d
   have e2:t.place[i]? = some (t.place[i]'(by omega)):=Array.getElem?_eq_getElem (by omega)
   have q:=h1 (t.place[i]'(by omega) + 1) es[i] (fun _=>qP _ T.tab.up e2) e1
   rw [e1,e2]
   exact q
  ·have e1:es[i]? = none:=Array.getElem?_eq_none (by omega)
   rw [e1]
   exact h2 e1
end
section
variable {prog:Program} {w:World} {A:Around} {E:Value→Shared→Prop} {s:Shared}
def iO (h:Heap) (I S:Addr) (slot i n ep:Nat):Prop:=∃ o,h.get? I=some o∧o.cls = .type "set_iterator" ∧ o.data = .fields #[rawInt (slot:Int),rawInt (i:Int),.ref S,rawInt (n:Int),rawInt (ep:Int)]
theorem iO.typeIs {I S:Addr} {slot i n ep:Nat} (x:iO s.heap I S slot i n ep):s.TypeIs (.ref I) "set_iterator":=let ⟨o,ho,hc,_⟩:=x; ⟨o,ho,hc⟩
theorem iO.at {h h':Heap} {I S:Addr} {slot i n ep:Nat} (x:iO h I S slot i n ep) (e:∀ o,h.get? I=some o→h'.get? I=some o):iO h' I S slot i n ep:=let ⟨o,ho,r⟩:=x; ⟨o,e _ ho,r⟩
theorem gx {a:Addr} {o:Obj} {vs:Array Value} {Q:Array Value→Shared→Prop} (ho:s.heap.get? a=some o) (hd:o.data = .fields vs) (h:Q vs s):wpAny (model prog w) A (fieldsOf (.ref a)) Q E s:=by
 unfold fieldsOf
 refine wpAny_bind (wpAny_load ho ?_)
 rw [hd]
 exact wpAny_pure h
theorem r_ {I S:Addr} {o:Obj} {es:Array (Int×Value)} {ep:Nat} {t:SetTable} {ns:List Int} {slot i:Nat} {x:Int×Value} {Q:Option Value→Shared→Prop} (hit:iO s.heap I S slot i es.size ep) (ho:s.heap.get? S=some o) (hd:o.data = .set es ep t) (T:TabS (du w) ns es t) (hs:w.params.followText "set-order" = false→SetTable.below t.place slot=i) (hx:(bB w S ep es)[i]? = some x)
 (hQ:∀ h' slot',iO h' I S slot' (i + 1) es.size ep→(w.params.followText "set-order" = false→SetTable.below t.place slot'=i + 1)→Heap.SameBut I s.heap h'→Q (some x.2) { s with heap:=h' }):wpAny (model prog w) A (pyNext (.ref I)) Q E s:=by
 obtain ⟨oi,hoi,hci,hdi⟩:=id hit
 have hi:i<es.size:=by rw [← d4 w S ep es]; exact (Array.getElem?_eq_some_iff.mp hx).1
 unfold pyNext
 refine wpAny_bind (wpAny_attempt (wpAny_callSpecial?_slot (name:=Str.ofString "__next__") hit.typeIs bO
  (wpAny_call_entry bO hit.typeIs fm ?_ (fN _))))
 unfold Builtin.«set_iterator.__next__»
 refine wpAny_bind (wpAny_of_eq (a:=(Value.ref I,[])) rfl ?_)
 (try dsimp only)
 refine wpAny_bind (gx hoi hdi ?_)
 show wpAny _ _ (setEntries S >>= _) _ _ s
 refine wpAny_bind (wpAny_setEntries_of ho hd T.tab.fits ?_)
 show wpAny _ _ (if ((es.size:Int) != (es.size:Int))=true then _ else _) _ _ s
 rw [if_neg (by simp)]
 show wpAny _ _ (setNext S (Int.toNat (slot:Int)) (Int.toNat (i:Int)) (Int.toNat (ep:Int)) >>= _) _ _ s
 rw [Int.toNat_natCast,Int.toNat_natCast,Int.toNat_natCast]
 refine wpAny_bind (mw ho hd T hs (Nat.le_of_lt hi) (fun slot' y hb hy=>?_) (fun hn=>by rw [hn] at hx; cases hx))
 rw [hx] at hy
 cases hy
 show wpAny _ _ (setField (.ref I) 0 (rawInt (slot':Int)) >>= _) _ _ s
 refine wpAny_bind (wpAny_setField hoi hdi (by simp) ?_)
 have g1:=Heap.get?_update_self (Obj.mapFields (·.setIfInBounds 0 (rawInt (slot':Int)))) hoi (Obj.isFreed_of_fields (Obj.data_mapFields hdi _))
 have d1:(Obj.mapFields (·.setIfInBounds 0 (rawInt (slot':Int))) oi).data = .fields #[rawInt (slot':Int),rawInt (i:Int),.ref S,rawInt (es.size:Int),rawInt (ep:Int)]:=by rw [Obj.data_mapFields hdi]; simp
 refine wpAny_bind (wpAny_setField g1 d1 (by simp) (wpAny_pure ⟨x.2,rfl,wpAny_pure (hQ _ slot' ?_ hb ((Heap.SameBut.update ..).trans (Heap.SameBut.update ..)))⟩))
 exact ⟨_,Heap.get?_update_self _ g1 (Obj.isFreed_of_fields (Obj.data_mapFields d1 _)),(Obj.cls_mapFields ..).trans ((Obj.cls_mapFields ..).trans hci),by
  rw [Obj.data_mapFields d1]; simp [rawInt]⟩
theorem wJ {I S:Addr} {o:Obj} {es:Array (Int×Value)} {ep:Nat} {t:SetTable} {ns:List Int} {slot:Nat} {Q:Option Value→Shared→Prop} (hh:A.handled=none) (hit:iO s.heap I S slot es.size es.size ep) (ho:s.heap.get? S=some o) (hd:o.data = .set es ep t) (T:TabS (du w) ns es t) (hs:w.params.followText "set-order" = false→SetTable.below t.place slot=es.size)
 (hQ:∀ h',Heap.ExtBut I s.heap h'→Q none { s with heap:=h' }):wpAny (model prog w) A (pyNext (.ref I)) Q E s:=by
 obtain ⟨oi,hoi,hci,hdi⟩:=id hit
 have hx:(bB w S ep es)[es.size]? = none:=Array.getElem?_eq_none (by rw [d4]; exact Nat.le_refl _)
 unfold pyNext
 refine wpAny_bind (wpAny_attempt (wpAny_callSpecial?_slot (name:=Str.ofString "__next__") hit.typeIs bO
  (wpAny_call_entry bO hit.typeIs fm ?_ (fN _))))
 unfold Builtin.«set_iterator.__next__»
 refine wpAny_bind (wpAny_of_eq (a:=(Value.ref I,[])) rfl ?_)
 (try dsimp only)
 refine wpAny_bind (gx hoi hdi ?_)
 show wpAny _ _ (setEntries S >>= _) _ _ s
 refine wpAny_bind (wpAny_setEntries_of ho hd T.tab.fits ?_)
 show wpAny _ _ (if ((es.size:Int) != (es.size:Int))=true then _ else _) _ _ s
 rw [if_neg (by simp)]
 show wpAny _ _ (setNext S (Int.toNat (slot:Int)) (Int.toNat (es.size:Int)) (Int.toNat (ep:Int)) >>= _) _ _ s
 rw [Int.toNat_natCast,Int.toNat_natCast,Int.toNat_natCast]
 refine wpAny_bind (mw ho hd T hs (Nat.le_refl _) (fun slot' y hb hy=>by rw [hx] at hy; cases hy) (fun hn=>?_))
 show wpAny _ _ (setField (.ref I) 2 .none >>= _) _ _ s
 refine wpAny_bind (wpAny_setField hoi hdi (by simp) ?_)
 show wpAny _ _ (newExc (.type "StopIteration") [] >>= _) _ _ _
 refine wpAny_bind ?_
 simp only [newExc,newTuple]
 refine wpAny_bind (wpAny_newObj_type ?_ (by size_fits))
 refine wpAny_bind (m:=firstArgMember _ _) (wpAny_of_eq (a:=Value.none) (by first | rfl | (simp only [firstArgMember]; rfl)) ?_)
 refine wpAny_newObj_type ?_ (by size_fits)
 simp only [raiseNew]
 refine wpAny_bind (wpAny_handled ?_)
 rw [show A.in1.handled=none from hh]
 refine wpAny_bind (wpAny_pure (wpAny_throw ?_))
 refine wpAny_bind (wpAny_isInstance (T:="StopIteration") (b:=true) ⟨_,Heap.get?_push_size _ rfl,rfl⟩ isSubtype_stop ?_)
 exact wpAny_pure (hQ _ (((Heap.SameBut.update ..).extBut.push _).push _))
theorem rZ {I S:Addr} {slot i n ep:Nat} {Q:Value→Shared→Prop} (hit:iO s.heap I S slot i n ep) (h:Q (.ref I) s):wpAny (model prog w) A (pyIter (.ref I)) Q E s:=by
 refine wpAny_pyIter_slot hit.typeIs fH (wpAny_call_entry fH hit.typeIs iM ?_ (jI _))
 show wpAny _ _ (ret (.ref I)) _ _ s
 exact wpAny_pure ⟨_,rfl,"set_iterator",_,hit.typeIs,bO.lookup,h⟩
end
theorem oF {prog:Program} {w:World} {A:Around} (hh:A.handled=none) (I S:Addr) (hne:S≠I) {o:Obj} {es:Array (Int×Value)} {ep:Nat} {t:SetTable} {ns:List Int} (hd:o.data = .set es ep t) (T:TabS (du w) ns es t) :
 Walks prog w A I [I,S] [I] es.size (fun i v=>∃ x,(bB w S ep es)[i]? = some x∧v=x.2) (fun i h=>h.get? S=some o∧∃ slot,iO h I S slot i es.size ep∧(w.params.followText "set-order" = false→SetTable.below t.place slot=i)) where
 sub:=fun b hb=>by simp at hb; simp [hb]
 frame:=fun _ _ _ x hk=>let ⟨h1,slot,h2,h3⟩:=x; ⟨hk S (by simp) _ h1,slot,h2.at fun o e=>hk I (by simp) o e,h3⟩
 item:=fun i s Q E hi x hQ=>by
  obtain ⟨h1,slot,h2,h3⟩:=x
  have hx:(bB w S ep es)[i]? = some ((bB w S ep es)[i]'(by rw [d4]; exact hi)):=Array.getElem?_eq_getElem (by rw [d4]; exact hi)
  refine r_ h2 h1 hd T h3 hx fun h' slot' a1 a2 a3=>?_
  exact hQ _ h' s.toks ⟨_,hx,rfl⟩ ⟨by rw [a3.2 S hne]; exact h1,slot',a1,a2⟩ fun b o hb eo=>a3.extBut b o (fun h=>hb (by simp [h])) eo
 done:=fun s Q E x hQ=>by
  obtain ⟨h1,slot,h2,h3⟩:=x
  exact wJ hh h2 h1 hd T h3 fun h' he'=>hQ h' s.toks fun b o hb eo=>he' b o (fun h=>hb (by simp [h])) eo
 self:=fun _ _ _ _ x hQ=>let ⟨_,_,h2,_⟩:=x; rZ h2 hQ
section
variable {prog:Program} {w:World} {A:Around} {E:Value→Shared→Prop} {s:Shared}
theorem qo {S:Addr} {o:Obj} {es:Array (Int×Value)} {ep:Nat} {t:SetTable} {ns:List Int} (ho:s.heap.get? S=some o) (hex:o.ExactSet) (hd:o.data = .set es ep t) (T:TabS (du w) ns es t) {Q:Value→Shared→Prop}
 (hQ:Q (.ref s.heap.objs.size) { s with heap:=s.heap.push { cls:=.type "set_iterator",data:=.fields #[rawInt 0,rawInt 0,.ref S,rawInt (es.size:Int),rawInt (ep:Int)] } }):wpAny (model prog w) A (pyIter (.ref S)) Q E s:=by
 have hT:s.TypeIs (.ref S) "set":=⟨o,ho,hex.1⟩
 have hf:=T.tab.fits
 refine wpAny_pyIter_slot hT fo (wpAny_call_entry fo hT io ?_ (iI _))
 unfold Builtin.«frozenset.__iter__»
 refine wpAny_bind (wpAny_of_eq (a:=S) rfl ?_)
 unfold Builtin.Frozenset.sizeOf
 refine wpAny_bind (wpAny_bind (wpAny_setEntries_of ho hd hf (wpAny_pure ?_)))
 unfold setDrawn setsByText
 refine wpAny_bind (wpAny_bind ?_)
 refine wpAny_setState_of ho hd hf ?_
 dsimp only
 refine wpAny_bind (wpAny_bind (wpAny_askSetting (wpAny_pure ?_)))
 dsimp only
 refine wpAny_pure ?_
 have hdr:(!(w.params.followText "set-order")&&(!t.plain&&decide (es.size > 1)))=false:=by rw [T.tab.pl]; simp
 show wpAny _ _ (if (!(w.params.followText "set-order")&&(!t.plain&&decide (es.size > 1)))=true then _ else _) _ _ _
 rw [hdr,if_neg (by decide)]
 refine wpAny_bind (wpAny_pure ?_)
 (try dsimp only)
 refine wpAny_bind (wpAny_setEpoch_of ho hd hf ?_)
 exact wpAny_bind (wpAny_newObj_type (wpAny_pure ⟨_,rfl,"set_iterator",_,⟨_,Heap.get?_push_size _ rfl,rfl⟩,bO.lookup,hQ⟩))
end
theorem r9:typeLookup (.type "set") "__len__" = pure (some (.builtin "set.__len__")):=by rw [typeLookup_type,builtinLookup_eq_fast]; kernel_rfl
theorem oV:∀ {l:List (Int×Value)},ig l→IntsAre (l.map (·.2)) (l.map cJ)
 | [],_=>.nil
 | e :: l,h=>by
  obtain ⟨a,tk,a1,rfl⟩:=h e List.mem_cons_self
  exact .cons _ _ (oV fun x hx=>h x (List.mem_cons_of_mem _ hx))
def WkP (wk:Array (Int×Value)) (i:Nat) (v:Value):Prop:=∃ x,wk[i]? = some x∧v=x.2
theorem kl {wk:Array (Int×Value)} {acc:Array Value} (h:ItemsOf (WkP wk) acc wk.size):acc.toList=wk.toList.map (·.2):=by
 apply List.ext_getElem?
 intro i
 by_cases c:i<acc.size
 ·obtain ⟨x,hx,e⟩:=h.2 i acc[i] (Array.getElem?_eq_getElem c)
  rw [List.getElem?_map,Array.getElem?_toList,Array.getElem?_toList,hx,Array.getElem?_eq_getElem c,e]; rfl
 ·have h1:=h.1
  rw [List.getElem?_eq_none (by rw [Array.length_toList]; omega),List.getElem?_eq_none (by rw [List.length_map,Array.length_toList]; omega)]
section
variable {prog:Program} {w:World} {A:Around} {E:Value→Shared→Prop} {s:Shared}
abbrev bW:Obj:={ cls:=.type "list",data:=.seq ([]:List Value).toArray }
theorem kA {S:Addr} {o:Obj} {es:Array (Int×Value)} {ep:Nat} {t:SetTable} {ns:List Int} (hh:A.handled=none) (ho:s.heap.get? S=some o) (hex:o.ExactSet) (hd:o.data = .set es ep t) (T:TabS (du w) ns es t) (hn:ns.length≤40) {Q:List Value→Shared→Prop}
 (h:∀ h' tk acc,(∀ b o,s.heap.get? b=some o→h'.get? b=some o)→s.heap.objs.size<h'.objs.size→ItemsOf (WkP (bB w S ep es)) acc (bB w S ep es).size→Q acc.toList { s with heap:=h',toks:=tk }) :
 wpAny (model prog w) A (collect (.ref S)) Q E s:=by
 have hS:S<s.heap.objs.size:=Heap.lt_size ho
 have hle:=T.le
 unfold collect
 apply wpAny_bind
 refine wpAny_runValue (codeAny_builtin F.entry_proto_collect ?_)
 rw [Around.under_plainId F.plain_proto_collect _]
 show wpAny _ A.in1 (newList [] >>= fun l=>again (.builtin "list.__iadd__" ⟨[l,.ref S],[]⟩)) _ _ s
 apply wpAny_bind
 refine wpAny_newObj_type ?_
 refine wpAny_pure ⟨plainId_quiet F.plain_list_iadd _,codeAny_builtin F.entry_list_iadd ?_⟩
 rw [Around.under_plainId F.plain_list_iadd _]
 have g1:(s.heap.push bW).get? S=some o:=Heap.get?_push_of_some _ ho
 have gL:(s.heap.push bW).get? s.heap.objs.size=some bW:=Heap.get?_push_size _ rfl
 have hT:Shared.TypeIs { s with heap:=s.heap.push bW } (.ref S) "set":=⟨o,g1,hex.1⟩
 have n1:Builtin.List.listSameRef (.ref s.heap.objs.size) (.ref S)=false:=by simp [Builtin.List.listSameRef]; exact Nat.ne_of_gt hS
 show wpAny _ A.in1 (Builtin.List.listExtendWith (.ref s.heap.objs.size) (.ref S) (.ref s.heap.objs.size)) _ _ _
 unfold Builtin.List.listExtendWith
 apply wpAny_bind
 refine wpAny_typeOf hT ?_
 rw [if_neg (by rw [n1]; decide)]
 apply wpAny_bind
 refine qo (s:={ s with heap:=s.heap.push bW }) g1 hex hd T ?_
 have hT2:Shared.TypeIs { s with heap:=(s.heap.push bW).push { cls:=.type "set_iterator",data:=.fields #[rawInt 0,rawInt 0,.ref S,rawInt (es.size:Int),rawInt (ep:Int)] } } (.ref S) "set":=⟨o,Heap.get?_push_of_some _ g1,hex.1⟩
 apply wpAny_bind
 refine wpAny_holding ?_
 unfold Builtin.List.listLengthHint
 apply wpAny_bind
 refine wpAny_specialOf hT2 r9 ?_
 (generalize hid:("set.__len__":String)=id0; wp_delta; rw [show splitId id0=some ("set","__len__") from by subst hid; decide +kernel]; subst hid)
 refine wpAny_bind (wpAny_isInstance (b:=true) hT2 sub_set_self ?_)
 show wpAny _ _ (typeOf (.ref S) >>= _) _ _ _
 apply wpAny_bind
 refine wpAny_typeOf hT2 ?_
 refine wpAny_pure ?_
 show wpAny _ A.in1 (rule "list.extend.makes-room" >>= fun _=>Builtin.List.listTouch (.ref s.heap.objs.size) >>= fun _ =>
  again (.builtin "list.extend.loop" ⟨[.ref s.heap.objs.size,.ref (s.heap.push bW).objs.size,.ref s.heap.objs.size],[]⟩)) _ _ _
 apply wpAny_bind
 refine wpAny_rule ?_
 apply wpAny_bind
 have eI:(s.heap.push bW).objs.size=s.heap.objs.size + 1:=size_push' _ _
 generalize hH:(s.heap.push bW).push ({ cls:=.type "set_iterator",data:=.fields #[rawInt 0,rawInt 0,.ref S,rawInt (es.size:Int),rawInt (ep:Int)] }:Obj)=H2
 have k2:∀ b o,(s.heap.push bW).get? b=some o→H2.get? b=some o:=fun b o e=>by rw [← hH]; exact Heap.get?_push_of_some _ e
 have gI:H2.get? (s.heap.push bW).objs.size=some { cls:=.type "set_iterator",data:=.fields #[rawInt 0,rawInt 0,.ref S,rawInt (es.size:Int),rawInt (ep:Int)] }:=by rw [← hH]; exact Heap.get?_push_size _ rfl
 have s1:H2.get? s.heap.objs.size=some bW:=k2 _ _ gL
 show wpAny _ A.in1 (updateSeq s.heap.objs.size (·.push .none) >>= fun _=>updateSeq s.heap.objs.size (·.pop)) _ _ _
 apply wpAny_bind
 refine wpAny_updateSeq s1 rfl ?_
 have s2:=Heap.get?_update_self (Obj.mapSeq (·.push Value.none)) s1 rfl
 refine wpAny_updateSeq s2 rfl ?_
 have s3:=Heap.get?_update_self (Obj.mapSeq (·.pop)) s2 rfl
 have oth:∀ b o,b≠s.heap.objs.size→H2.get? b=some o→((H2.update s.heap.objs.size (Obj.mapSeq (·.push Value.none))).update s.heap.objs.size (Obj.mapSeq (·.pop))).get? b=some o :=
  fun b o hb e=>(Heap.get?_update_other _ _ (Ne.symm hb)).trans ((Heap.get?_update_other _ _ (Ne.symm hb)).trans e)
 have nS:S≠s.heap.objs.size:=Nat.ne_of_lt hS
 have nS1:S≠s.heap.objs.size + 1:=Nat.ne_of_lt (Nat.lt_succ_of_lt hS)
 have hLf:s.heap.objs.size ∉ [(s.heap.push bW).objs.size,S]:=by
  rw [eI]
  simp only [List.mem_cons,List.not_mem_nil,or_false,not_or]
  exact ⟨Nat.ne_of_lt (Nat.lt_succ_self _),Ne.symm nS⟩
 have hne:S≠(s.heap.push bW).objs.size:=by rw [eI]; exact nS1
 have W:=(oF (prog:=prog) (w:=w) (A:=A.in1) (by simp [hh]) (s.heap.push bW).objs.size S hne hd T).toS
 have esz:(bB w S ep es).size=es.size:=d4 ..
 refine wpAny_pure ⟨plainId_quiet F.plain_extend_loop _,codeAny_extend_loopS W (by unfold sizeLine; omega) _ hLf _ es.size 0 _ _ _ rfl (Nat.zero_le _)
  ⟨oth _ _ nS (k2 _ _ g1),0,⟨_,oth _ _ (by rw [eI]; exact Nat.ne_of_gt (Nat.lt_succ_self _)) gI,rfl,rfl⟩,fun _=>pX _ T.tab.up⟩ s3 (ItemsOf.nil _) fun s' acc' c' hm hS' hacc=>?_⟩
 show wpAny _ A (load s.heap.objs.size >>= _) _ _ s'
 refine wpAny_bind (wpAny_load hS' ?_)
 obtain ⟨h',g',d',tk',os'⟩:=s'
 have eg:g'=s.gens:=hm.gens
 have ed:d'=s.drawn:=hm.drawn
 have eo:os'=s.os:=hm.os
 subst eg; subst ed; subst eo
 refine wpAny_pure (h h' tk' acc' (fun b o e=>?_) (Heap.lt_size hS') (by rw [esz]; exact hacc))
 have hb:=Heap.lt_size e
 refine hm.heap b o (fun c=>?_) (oth b o (Nat.ne_of_lt hb) (k2 _ _ (Heap.get?_push_of_some _ e)))
 rcases List.mem_cons.mp c with c | c
 ·exact Nat.ne_of_lt hb c
 ·rw [eI] at c
  exact Nat.ne_of_lt (Nat.lt_succ_of_lt hb) (List.mem_singleton.mp c)
theorem lA {S:Addr} {o:Obj} {es:Array (Int×Value)} {ep:Nat} {t:SetTable} {ns:List Int} (hh:A.handled=none) (ho:s.heap.get? S=some o) (hex:o.ExactSet) (hd:o.data = .set es ep t) (T:TabS (du w) ns es t) (hn:ns.length≤40) {Q:Value→Shared→Prop}
 (h:∀ h' tk L (out:Array Value) (ks:List Int) (c:Nat),(∀ b o,s.heap.get? b=some o→h'.get? b=some o)→s.heap.objs.size≤L→h'.get? L=some { cls:=.type "list",data:=.seq out c }→IntsAre out.toList ks→ks.Pairwise (· < ·)→(∀ k,k∈ks↔k∈ns)→ks.length≤40→Q (.ref L) { s with heap:=h',toks:=tk }) :
 wpAny (model prog w) A (call (.builtin "sorted") [.ref S]) Q E s:=by
 have hle:=T.le
 refine Calls.call_function_entry kind_sorted plain_sorted entry_sorted (args_sorted1 _) ?_
 unfold Builtin.«sorted»
 apply wpAny_bind
 refine wpAny_pure ?_
 apply wpAny_bind
 refine kA (by simp [hh]) ho hex hd T hn fun h' tk acc k1 l1 hacc=>?_
 apply wpAny_bind
 refine wpAny_newList ?_ (by rw [kl hacc,List.length_map,(gq w S ep es).length_eq,Array.length_toList]; unfold sizeLine; omega)
 have hv:=kl hacc
 have hp:=gq w S ep es
 have hsm:ig (bB w S ep es).toList:=fun e he=>T.sm e (hp.mem_iff.mp he)
 have hI:=oV hsm
 rw [← hv] at hI
 have hlen:acc.toList.length=es.size:=by rw [hv,List.length_map,hp.length_eq,Array.length_toList]
 have hnd:((bB w S ep es).toList.map cJ).Nodup:=(hp.map cJ).nodup_iff.mpr T.nd
 have hmem:∀ k,k∈(bB w S ep es).toList.map cJ↔k∈ns:=fun k=>by rw [(hp.map cJ).mem_iff]; exact T.mem k
 have hoL:(h'.push (seqObj "list" acc.toList.toArray 0)).get? h'.objs.size=some (seqObj "list" acc.toList.toArray 0):=Heap.get?_push_size _ rfl
 refine wpAny_bind (wpAny_holding (wpAny_call_entry slot_list_sort ⟨_,hoL,rfl⟩ entry_list_sort (list_sort_tree hoL hI (by omega) fun out ns' a1 a2 a3=>⟨_,rfl,?_⟩) (args_list_sort _)))
 have hnd2:ns'.Nodup:=a2.nodup_iff.mpr hnd
 have hlt:ns'.Pairwise (· < ·):=(a3.and hnd2).imp fun z=>by have:=z.1; have:=z.2; omega
 obtain ⟨c,hc⟩:∃ c,(sortedHeap (h'.push (seqObj "list" acc.toList.toArray 0)) h'.objs.size acc.toList out).get? h'.objs.size=some (seqObj "list" out c):=by
  unfold sortedHeap
  have u1:=get?_update_seq hoL (fun _=>#[])
  have u2:=Heap.get?_push_of_some (seqObj "tuple" acc.toList.toArray 0) u1
  have u3:=Heap.get?_push_of_some (seqObj "list" #[] 0) u2
  exact ⟨_,get?_update_seq u3 (fun _=>out)⟩
 refine wpAny_pure ⟨_,rfl,h _ tk h'.objs.size out ns' c (fun b o e=>?_) (Nat.le_of_lt l1) hc a1 hlt (fun k=>by rw [a2.mem_iff]; exact hmem k) (by rw [a2.length_eq,List.length_map,hp.length_eq,Array.length_toList]; omega)⟩
 have e':=k1 b o e
 have nb:b≠h'.objs.size:=Nat.ne_of_lt (Heap.lt_size e')
 unfold sortedHeap
 have v1:=Heap.get?_push_of_some (seqObj "list" acc.toList.toArray 0) e'
 have v2:=(Heap.get?_update_other (h'.push (seqObj "list" acc.toList.toArray 0)) (Obj.mapSeq fun _=>#[]) (Ne.symm nb)).trans v1
 have v3:=Heap.get?_push_of_some (seqObj "tuple" acc.toList.toArray 0) v2
 have v4:=Heap.get?_push_of_some (seqObj "list" #[] 0) v3
 exact (Heap.get?_update_other _ (Obj.mapSeq fun _=>out) (Ne.symm nb)).trans v4
end
end L2
namespace L2
open PySem PySem.Spec PyProof.Rows
def rF (w:World) (a:Addr) (ns:List Int):Heap→Prop:=fun h=>∃ o,h.get? a=some o∧ke (du w) ns o
section
variable {X:Cx}
theorem ou (hc:X.calm=true):bT X (.type "set") (fun xs H Q=>∃ (a:Addr) (ns:List Int),xs=[.ref a]∧H a=some (.lst (ns.map V.int))∧ns.length≤40∧(∀ k∈ns,0≤k∧k<32)∧∀ p,H p=none→Q (.ref p) (upd H p (.ext (rF X.w p ns)))):=by
 (try refine ⟨?_⟩); intro pins s σ H xs us Q I r h
 obtain ⟨a,ns,rfl,ha,hl,hb,q⟩:=h
 obtain ⟨u,rfl,ru⟩:=dr r
 cases ru
 obtain ⟨z,its,n,rv,hlen,e⟩:=I.lstM ha
 have hln:its.length=ns.length:=by rw [← hlen,List.length_map]
 have hsz:its.toArray.size=ns.length:=by rw [List.size_toArray]; exact hln
 have hI:IntsAre its ns:=by simpa using cY rv
 have hb':∀ i,i<ns.length→0≤ns.getD i 0∧ns.getD i 0<32:=fun i hi=>by
  have:ns.getD i 0∈ns:=by rw [List.getD_eq_getElem?_getD,List.getElem?_eq_getElem hi]; exact List.getElem_mem hi
  exact hb _ this
 have ev:db (fun i=>(ns.getD i 0).toNat) ns.length=ns:=by
  unfold db
  apply List.ext_getElem?
  intro i
  rw [List.getElem?_map]
  by_cases c:i<ns.length
  ·have:=hb' i c
   rw [List.getElem?_range c,List.getElem?_eq_getElem c]
   have e2:ns.getD i 0=ns[i]:=by rw [List.getD_eq_getElem?_getD,List.getElem?_eq_getElem c]; rfl
   rw [e2] at this
   show some (((ns.getD i 0).toNat:Int))=_
   rw [e2,Int.toNat_of_nonneg this.1]
  ·rw [List.getElem?_eq_none (by simpa using c),List.getElem?_eq_none (by omega)]; rfl
 refine nI (items:=its.toArray) (val:=fun i=>(ns.getD i 0).toNat) (I.ok.hd hc) (PySem.IsL.isList (n:=n) e) (fun i v hv=>?_) (fun i hi=>?_) (by rw [hsz]; exact hl) fun h' tk o g1 g2 hk=>?_
 ·obtain ⟨t,e1⟩:=IntsAre.int_at hI i v (by simpa using hv)
  have hi:i<ns.length:=by rw [← hsz]; exact (Array.getElem?_eq_some_iff.mp hv).1
  exact ⟨t,by rw [e1,Int.toNat_of_nonneg (hb' i hi).1]⟩
 ·rw [hsz] at hi
  have:=hb' i hi
  show (ns.getD i 0).toNat<32
  omega
 rw [hsz,ev] at g2
 exact ⟨.ref s.heap.objs.size,_,I.laid (a:=s.heap.objs.size) (o:=.ext (rF X.w s.heap.objs.size ns)) (fun b o hb=>hk b o (Heap.lt_size hb) hb) (Nat.le_refl _) ⟨⟨o,g1,g2⟩,⟨o,g1⟩,fun h1 h2 ⟨o',a1,a2⟩ kk=>⟨o',kk _ a1,a2⟩⟩,rfl,q _ (I.hok.fresh (Nat.le_refl _))⟩
theorem jg (hc:X.calm=true):bT X (.builtin "sorted") (fun xs H Q=>∃ (a:Addr) (ns:List Int),xs=[.ref a]∧H a=some (.ext (rF X.w a ns))∧ns.length≤40∧∀ ks:List Int,ks.Pairwise (· < ·)→(∀ k,k∈ks↔k∈ns)→ks.length≤40→∀ p,H p=none→Q (.ref p) (upd H p (.lst (ks.map V.int)))):=by
 (try refine ⟨?_⟩); intro pins s σ H xs us Q I r h
 obtain ⟨a,ns,rfl,ha,hl,q⟩:=h
 obtain ⟨u,rfl,ru⟩:=dr r
 cases ru
 obtain ⟨⟨o,ho,hex,es,ep,t,hd,T⟩,-,-⟩:=(show br X.prog X.w H s.heap a (.ext (rF X.w a ns)) from I.hok a _ ha)
 refine lA (I.ok.hd hc) ho hex hd T hl fun h' tk L out ks c k1 l1 g1 a1 a2 a3 a4=>?_
 refine ⟨.ref L,_,I.laid (a:=L) (o:=.lst (ks.map V.int)) k1 l1 ?_,rfl,q ks a2 a3 a4 _ (I.hok.fresh l1)⟩
 exact ⟨Nat.le_of_lt (bY (by rw [List.length_map]; omega)),out.toList,c,dW a1,by simpa using g1⟩
variable {ow:List Bool} {e:Expr} {ma:ME} {pos p1 p2 p3:Pos}
def rH (m:ME):ME:=fun ρ q=>m ρ fun d ρ1=>match d with
 | .lst ds=>∃ ns:List Int,ds=ns.map D.int∧ns.length≤40∧(∀ k∈ns,0≤k∧k<32)∧∀ ks:List Int,ks.Pairwise (· < ·)→(∀ k,k∈ks↔k∈ns)→ks.length≤40→q (.lst (ks.map D.int)) ρ1
 | _=>False
theorem l3 (hc:X.calm=true) (h:QE X ow e ma) (hg:Gl X "sorted") (hm:X.mg "sorted" = none) (hg':Gl X "set") (hm':X.mg "set" = none) (hv:bootBuiltins "sorted" = some (.builtin "sorted"):=by rfl) (hv':bootBuiltins "set" = some (.type "set"):=by rfl)
 (he:starEach [e] X.env=[(false,eval e X.env)]:=by rfl)
 (he2:starEach [.Call (.Name "set" p2) [e] [] p1] X.env=[(false,eval (.Call (.Name "set" p2) [e] [] p1) X.env)]:=by rfl) :
 QF X ow (.Call (.Name "sorted" p3) [.Call (.Name "set" p2) [e] [] p1] [] pos) (rH ma):=by
 obtain ⟨t,p,s⟩:=h
 refine ⟨_,fP (jg hc) hg hm hv (bq (dP (ou hc) hg' hm' hv' (bq p cx he) (by decide) (by decide) he (by rfl)) cx he2) (by decide) (by decide) he2 (by rfl),fun C G ρ σ H pd q Q r hm k=>s C G ρ σ H pd _ _ r hm fun d ρ' v G' H' hq z kp r' pp=>?_⟩
 cases d with
 | lst ds =>
  obtain ⟨ns,rfl,hl,hb,hq⟩:=hq
  obtain ⟨l,xs,rfl,h1,h2⟩:=aJ pp
  have ex:=bd h2
  subst ex
  refine ⟨l,ns,rfl,r'.gh _ _ h1,hl,hb,fun p hp=>?_⟩
  obtain ⟨O,r'⟩:=r'
  obtain ⟨r2,z2⟩:=r'.new hp (.ext (rF X.w p ns))
  refine ⟨p,ns,rfl,aG,hl,fun ks a1 a2 a3 b hb=>?_⟩
  exact k _ ρ' _ _ _ (hq ks a1 a2 a3) (z.trans z2) kp (r2.newL hb (aO _) (cn _))
 | _=>exact hq.elim
end
end L2
namespace L2
open PySem
theorem jU {ps rs e:List Int} {as:List Ask} {o:List Int} {S:FC} {K:List Int} {i:Int} (hT:Tree ps rs) (ha:AsksOk ps as) (hE:DepOk ps e ps.length) (ho:o.Pairwise (fun i j=>e.getD (bw ps (aK as j).one (aK as j).other).toNat 0≤e.getD (bw ps (aK as i).one (aK as i).other).toNat 0)) (hall:∀ k:Int,0≤k→k<(as.length:Int)→k∈o)
 (hF:FI ps rs as o S) (hK:ThI (aF ps as) S.row [] K) (hi:i∈o) (hp : 0<S.flow.getD i.toNat 0):∀ (c:Int) (uc:List Int),0≤c→c≤(ps.length:Int)→Up ps c uc→∀ x∈uc,∀ y∈uc,x∈bh ps as i→y∈bh ps as i→x∈K→y∈K→x<y→False:=by
 have ib:=hF.rg i hi
 have hok:=dz ha ib.1 ib.2
 have hends:=hok.ends
 obtain ⟨w,cw,qw⟩:=cP hT hends.a0 hends.b0 hends.a1 hends.b1
 have lw:=cw.low hT hends.a0 hends.b0 hends.a1 hends.b1
 have hex:∃ X1 X2,o=X1++i :: X2:=List.append_of_mem hi
 obtain ⟨X1,X2,eo⟩:=hex
 obtain ⟨B,rest,b1,b2,b3⟩:=hF.hi X1 i X2 eo
 have b2:=b2 hp
 intro c uc c0 c1 huc x hx y hy hxW hyW kx ky hxy
 obtain ⟨v,v1,v2,v3,A,A2,v4,v5⟩:=hK.why y ky
 obtain ⟨aj,aj1,rfl⟩:=List.mem_map.mp v1
 obtain ⟨j,hj,ej⟩:=List.getElem_of_mem aj1
 have eaj:aK as (j:Int)=aj:=by
  show as.getD ((j:Nat):Int).toNat jy=aj
  rw [Int.toNat_natCast,List.getD_eq_getElem?_getD,List.getElem?_eq_getElem hj,ej]; rfl
 have hjo:=hall (j:Int) (by omega) (by omega)
 have okj:=ha.ok aj aj1
 have xnv:x ∉ ax ps aj:=v3 x (by simpa using kx) (by omega)
 -- x stands above y,so j's meeting lies at x or beneath
 have hxy':∀ u,Up ps y u→x∈u:=fun u hu=>by
  obtain ⟨u',g1,g2,_⟩:=huc.chain hT c1 hx hy (by omega)
  rw [g1.det hu] at g2; exact g2
 have ej2:=okj.ends
 obtain ⟨wj,cj,qj⟩:=cP hT ej2.a0 ej2.b0 ej2.a1 ej2.b1
 have lj:=cj.low hT ej2.a0 ej2.b0 ej2.a1 ej2.b1
 obtain ⟨uj,huj⟩:=Up.all hT _ aj.one rfl ej2.a0 ej2.a1
 obtain ⟨vj,hvj⟩:=Up.all hT _ aj.other rfl ej2.b0 ej2.b1
 have ha1:=ej2.a1; have hb1:=hends.a1
 obtain ⟨mj,hmj⟩:=Up.all hT _ (bw ps aj.one aj.other) rfl lj.1 (by omega)
 obtain ⟨mi,hmi⟩:=Up.all hT _ (bw ps (aK as i).one (aK as i).other) rfl lw.1 (by omega)
 have v2':y∈bj wj:=by rw [← qj]; exact v2
 have hxm:x∈mj:=by
  refine Classical.byContradiction fun z=>xnv ?_
  show x∈fh ps aj.one aj.other
  rw [qj,d5 hT ej2 cj huj hvj hmj]
  refine ⟨?_,z⟩
  rcases ((d5 hT ej2 cj huj hvj hmj).mp v2').1 with q | q
  ·obtain ⟨u',g1,_,g3⟩:=huj.chain hT ej2.a1 q q (Int.le_refl _)
   exact .inl (g3 _ (hxy' _ g1))
  ·obtain ⟨u',g1,_,g3⟩:=hvj.chain hT ej2.b1 q q (Int.le_refl _)
   exact .inr (g3 _ (hxy' _ g1))
 have hxw:=hxW
 have hxr:=cS hT hends hxw
 obtain ⟨ux,hux⟩:=Up.all hT _ x rfl (by omega) hxr.2
 have d1:=hux.sub_len hT hmj (by omega) hxm
 -- i's meeting is above x
 have d2:mi.length<ux.length:=by
  obtain ⟨ua,hua⟩:=Up.all hT _ (aK as i).one rfl hends.a0 hends.a1
  obtain ⟨ub,hub⟩:=Up.all hT _ (aK as i).other rfl hends.b0 hends.b1
  have hxs:x∈bj w:=by rw [← qw]; exact hxw
  obtain ⟨g1,g2⟩:=(d5 hT hends cw hua hub hmi).mp hxs
  obtain ⟨p1,p2,p3⟩:=cw.meet hT hends.a0 hends.b0 hends.a1 hends.b1 hua hub
  have main:∀ (q:Int) (uq:List Int),q≤(ps.length:Int)→Up ps q uq→x∈uq→bw ps (aK as i).one (aK as i).other∈uq→mi.length<ux.length:=fun q uq q1 huq hxq hmq=>by
   rcases Int.lt_or_le (bw ps (aK as i).one (aK as i).other) x with z | z
   ·obtain ⟨u',k1,k2,_⟩:=huq.chain hT q1 hmq hxq (by omega)
    rw [k1.det hux] at k2
    cases hux with
    | zero=>omega
    | step s1 s2 =>
     rcases List.mem_cons.mp k2 with q | q
     ·omega
     ·have hpx:=hT.up s1 hxr.2
      have:=hmi.sub_len hT s2 (by omega) q
      rw [List.length_cons]; omega
   ·obtain ⟨u',k1,k2,_⟩:=huq.chain hT q1 hxq hmq z
    rw [k1.det hmi] at k2
    exact absurd k2 g2
  rcases g1 with g1 | g1
  ·exact main _ ua hends.a1 hua g1 p1
  ·exact main _ ub hends.b1 hub g1 p2
 have dj:=hE.up _ _ lj.1 (by omega) hmj
 have di:=hE.up _ _ lw.1 (by omega) hmi
 -- so j was served before i
 have hjX:(j:Int)∈X1:=by
  rw [eo] at hjo ho
  rcases List.mem_append.mp hjo with q | q
  ·exact q
  ·exfalso
   rcases List.mem_cons.mp q with q | q
   ·rw [← q,eaj] at di
    omega
   ·have:=List.pairwise_append.mp ho
    have:=(List.pairwise_cons.mp this.2.1).1 _ q
    rw [eaj] at this
    omega
 obtain ⟨t,t1,t2⟩:=b3 _ hjX
 have t1:t∈ax ps aj:=by rw [← eaj]; exact t1
 have hyB:y ∉ B:=b2 y hyW
 have htA:t∈A:=by
  have e2:B++rest=A++y :: A2:=by rw [← b1,v4]
  have hlen:B.length≤A.length:=by
   refine Classical.byContradiction fun z=>hyB ?_
   have hl:A.length<B.length:=by omega
   have:(B++rest)[A.length]? = some y:=by rw [e2]; simp
   rw [List.getElem?_append_left hl] at this
   exact List.mem_of_getElem? this
  have:B=A.take B.length:=by
   have:=congrArg (List.take B.length) e2
   rw [List.take_left',List.take_append_of_le_length hlen] at this
   ·exact this
   ·rfl
  rw [this] at t2
  exact List.mem_of_mem_take t2
 exact v5 t htA t1
structure FlowCut2 (ps rs:List Int) (as:List Ask) (fl cu:List Int):Prop where
 fc:FlowCut ps rs as fl cu
 full:∀ t∈cu,bH ps as fl t=rs.getD (t - 1).toNat 0
 mini:∀ t∈cu,bf (aF ps as) (cu.filter fun x=>!decide (x=t))=false
 side:∀ i:Nat,i<as.length→0<fl.getD i 0→∀ (c:Int) (uc:List Int),0≤c→c≤(ps.length:Int)→Up ps c uc→∀ x∈uc,∀ y∈uc,x∈bh ps as (i:Int)→y∈bh ps as (i:Int)→x∈cu→y∈cu→x=y
theorem oC {ps rs:List Int} {as:List Ask} {o:List Int} {S:FC} (hT:Tree ps rs) (ha:AsksOk ps as) (ho:gB ps as o) (h:FillC ps rs as o S):FlowCut2 ps rs as S.flow (bj (ii (aF ps as) S.row)):=by
 have hfc:=o9 hT ha ho h
 obtain ⟨h1,h2,e,h3,h4⟩:=ho.ord
 have hall:∀ k:Int,0≤k→k<(as.length:Int)→k∈o:=fun k k0 k1=>h2.mem_iff.mpr (List.mem_map.mpr ⟨k.toNat,List.mem_range.mpr (by omega),by omega⟩)
 have hF:=h.fi hT ha h1
 have hpt:bf (aF ps as) S.row=true:=bE.mpr fun w hw=>by
  obtain ⟨a,ha1,rfl⟩:=List.mem_map.mp hw
  obtain ⟨j,hj,ej⟩:=List.getElem_of_mem ha1
  have eaj:aK as (j:Int)=a:=by
   show as.getD ((j:Nat):Int).toNat jy=a
   rw [Int.toNat_natCast,List.getD_eq_getElem?_getD,List.getElem?_eq_getElem hj,ej]; rfl
  obtain ⟨t,t1,t2⟩:=hF.pt _ (hall (j:Int) (by omega) (by omega))
  exact ⟨t,by rw [← eaj]; exact t1,t2⟩
 have hK:=kX hF.rn hpt
 generalize ii (aF ps as) S.row=K at hK hfc
 have hKl:∀ t∈K,0<t∧t≤(ps.length:Int)∧S.left.getD (t - 1).toNat 0=0:=fun t ht=>(hF.rw t).mp (hK.sub t ht)
 have hmem:∀ t,t∈bj K↔t∈K:=fun t=>(aS K).mem_iff
 refine ⟨hfc,fun t ht=>?_,fun t ht=>?_,fun i hi hp c uc c0 c1 huc x hx y hy hxW hyW kx ky=>?_⟩
 ·obtain ⟨t0,t1,t2⟩:=hKl t ((hmem t).mp ht)
  have:=hF.lf t t0 t1
  omega
 ·refine Bool.eq_false_iff.mpr fun c=>?_
  obtain ⟨w,w1,w2,w3,-⟩:=hK.why t ((hmem t).mp ht)
  obtain ⟨x,x1,x2⟩:=bE.mp c w w1
  obtain ⟨x3,x4⟩:=List.mem_filter.mp x2
  have hne:x≠t:=by simpa using x4
  exact w3 x (by simpa using (hmem x).mp x3) hne x1
 ·have kx:=(hmem x).mp kx
  have ky:=(hmem y).mp ky
  have hio:=hall (i:Int) (by omega) (by omega)
  have hp' : 0<S.flow.getD ((i:Nat):Int).toNat 0:=by rw [Int.toNat_natCast]; exact hp
  rcases Int.lt_trichotomy x y with z | z | z
  ·exact (jU hT ha h3 h4 hall hF hK hio hp' c uc c0 c1 huc x hx y hy hxW hyW kx ky z).elim
  ·exact z
  ·exact (jU hT ha h3 h4 hall hF hK hio hp' c uc c0 c1 huc y hy x hx hyW hxW ky kx z).elim
end L2
namespace K61
open PySem L2
def top (i:Nat):Stmt:=PySem.Challenge.pw_treeasks_k61_whole_no_flow_is_more_than.main.body.getD i (.Pass ⟨0,0,0,0⟩)
abbrev qK:Stmt:=top 6
abbrev s_q8:Stmt:=top 7
abbrev s_q1:Stmt:=top 11
abbrev s_q6:Stmt:=top 12
abbrev qh:Stmt:=top 13
abbrev pF:Stmt:=top 14
abbrev rO:Stmt:=top 15
abbrev o3:Stmt:=top 20
abbrev s_q4:Stmt:=top 21
abbrev s_q5:Stmt:=top 23
abbrev p7:Stmt:=top 24
abbrev s_q7:Stmt:=top 25
abbrev rK:Stmt:=top 26
abbrev o4:Stmt:=top 27
abbrev oQ:Stmt:=top 28
abbrev qb:Stmt:=top 30
abbrev qu:Stmt:=top 31
abbrev pK:Stmt:=top 32
abbrev s_q0:Stmt:=top 34
abbrev qz:Stmt:=top 36
abbrev pf:Stmt:=top 37
abbrev qA:Stmt:=top 38
abbrev pT:Stmt:=top 39
abbrev qJ:Stmt:=top 40
abbrev rj:Stmt:=top 41
abbrev s_q2:Stmt:=top 42
abbrev oP:Stmt:=top 44
abbrev pM:Stmt:=top 45
abbrev pV:Stmt:=top 46
abbrev qp:Stmt:=top 47
abbrev pO:Stmt:=top 48
abbrev qR:Stmt:=top 49
abbrev qH:Stmt:=top 50
abbrev qc:Stmt:=top 51
abbrev qV:Stmt:=top 52
abbrev rq:Stmt:=top 53
abbrev s_q9:Stmt:=top 54
abbrev qW:Stmt:=top 55
abbrev qF:Stmt:=top 56
abbrev rd:Stmt:=top 57
abbrev s_q3:Stmt:=top 58
abbrev qX:Stmt:=top 59
set_option genInjectivity false in
structure Adr where
 f_q19:Addr
 d_q19:FuncData
 f_q8:Addr
 d_q8:FuncData
 f_q1:Addr
 d_q1:FuncData
 f_q6:Addr
 d_q6:FuncData
 f_q31:Addr
 d_q31:FuncData
 f_q18:Addr
 d_q18:FuncData
 f_q16:Addr
 d_q16:FuncData
 f_q32:Addr
 d_q32:FuncData
 f_q4:Addr
 d_q4:FuncData
 f_q5:Addr
 d_q5:FuncData
 f_q39:Addr
 d_q39:FuncData
 f_q7:Addr
 d_q7:FuncData
 f_q38:Addr
 d_q38:FuncData
 f_q28:Addr
 d_q28:FuncData
 f_q10:Addr
 d_q10:FuncData
 f_q17:Addr
 d_q17:FuncData
 f_q22:Addr
 d_q22:FuncData
 f_q24:Addr
 d_q24:FuncData
 f_q0:Addr
 d_q0:FuncData
 f_q33:Addr
 d_q33:FuncData
 f_q11:Addr
 d_q11:FuncData
 f_q14:Addr
 d_q14:FuncData
 f_q43:Addr
 d_q43:FuncData
 f_q12:Addr
 d_q12:FuncData
 f_q27:Addr
 d_q27:FuncData
 f_q2:Addr
 d_q2:FuncData
 f_q36:Addr
 d_q36:FuncData
 f_q37:Addr
 d_q37:FuncData
 f_q20:Addr
 d_q20:FuncData
 f_q13:Addr
 d_q13:FuncData
 f_q25:Addr
 d_q25:FuncData
 f_q35:Addr
 d_q35:FuncData
 f_q44:Addr
 d_q44:FuncData
 f_q42:Addr
 d_q42:FuncData
 f_q40:Addr
 d_q40:FuncData
 f_q34:Addr
 d_q34:FuncData
 f_q9:Addr
 d_q9:FuncData
 f_q21:Addr
 d_q21:FuncData
 f_q41:Addr
 d_q41:FuncData
 f_q26:Addr
 d_q26:FuncData
 f_q3:Addr
 d_q3:FuncData
 f_law:Addr
 d_law:FuncData
 tc:Addr
 tP:Addr
abbrev tqS:Str:=("deepest_first" ++ ".<locals>.") ++ "<lambda>"
set_option genInjectivity false in
structure Txt (K:PySem.W.Frag) (mg:Str→Option Value) (A:Adr):Prop where
 t_q19:FT K mg "is_whole" qK ["thing"] A.f_q19 A.d_q19
 t_q8:FT K mg "is_between" s_q8 ["thing","least","most"] A.f_q8 A.d_q8
 t_q1:FT K mg "has_two_lists" s_q1 ["thing"] A.f_q1 A.d_q1
 t_q6:FT K mg "look_at_tree" s_q6 ["thing"] A.f_q6 A.d_q6
 t_q31:FT K mg "depths" qh ["tree"] A.f_q31 A.d_q31
 t_q18:FT K mg "is_place" pF ["tree","thing"] A.f_q18 A.d_q18
 t_q16:FT K mg "are_ends" rO ["tree","one","other"] A.f_q16 A.d_q16
 t_q32:FT K mg "is_ask" o3 ["tree","thing"] A.f_q32 A.d_q32
 t_q4:FT K mg "look_at_asks" s_q4 ["tree","thing"] A.f_q4 A.d_q4
 t_q5:FT K mg "look_at_ends" s_q5 ["tree","one","other"] A.f_q5 A.d_q5
 t_q39:FT K mg "climb" p7 ["tree","one","other"] A.f_q39 A.d_q39
 t_q7:FT K mg "way_between" s_q7 ["tree","one","other"] A.f_q7 A.d_q7
 t_q38:FT K mg "way_of" rK ["tree","ask"] A.f_q38 A.d_q38
 t_q28:FT K mg "ways_of" o4 ["tree","asks"] A.f_q28 A.d_q28
 t_q10:FT K mg "meeting_of" oQ ["tree","one","other"] A.f_q10 A.d_q10
 t_q17:FT K mg "is_count" qb ["thing"] A.f_q17 A.d_q17
 t_q22:FT K mg "taken_by" qu ["tree","asks","flow"] A.f_q22 A.d_q22
 t_q24:FT K mg "is_flow" pK ["tree","asks","thing"] A.f_q24 A.d_q24
 t_q0:FT K mg "deepest_first" s_q0 ["tree","asks"] A.f_q0 A.d_q0
 t_q33:FT K mg "is_cut" qz ["tree","thing"] A.f_q33 A.d_q33
 t_q11:FT K mg "parts_ways" pf ["ways","cut"] A.f_q11 A.d_q11
 t_q14:FT K mg "parts_all" qA ["tree","asks","thing"] A.f_q14 A.d_q14
 t_q43:FT K mg "serve" pT ["way","left"] A.f_q43 A.d_q43
 t_q12:FT K mg "fill_ties" qJ ["tree","ways","order"] A.f_q12 A.d_q12
 t_q27:FT K mg "thinned" rj ["ways","row"] A.f_q27 A.d_q27
 t_q2:FT K mg "flow_and_cut" s_q2 ["tree","asks"] A.f_q2 A.d_q2
 t_q36:FT K mg "_law_pool" oP ["_law_script","_law_k"] A.f_q36 A.d_q36
 t_q37:FT K mg "_law_take" pM ["_law_pool_here","_law_many"] A.f_q37 A.d_q37
 t_q20:FT K mg "_law_number" pV ["_law_pool_here","_law_most"] A.f_q20 A.d_q20
 t_q13:FT K mg "_law_parents" qp ["_law_pool_here","_law_most"] A.f_q13 A.d_q13
 t_q25:FT K mg "_law_rooms" pO ["_law_pool_here","_law_many","_law_least"] A.f_q25 A.d_q25
 t_q35:FT K mg "_law_ends" qR ["_law_pool_here","_law_many"] A.f_q35 A.d_q35
 t_q44:FT K mg "_law_up" qH ["_law_parents_here","_law_place"] A.f_q44 A.d_q44
 t_q42:FT K mg "_law_way" qc ["_law_parents_here","_law_ask_here"] A.f_q42 A.d_q42
 t_q40:FT K mg "_law_ask" qV ["_law_pool_here","_law_many"] A.f_q40 A.d_q40
 t_q34:FT K mg "_law_case" rq ["_law_script","_law_last"] A.f_q34 A.d_q34
 t_q9:FT K mg "_law_servings" s_q9 ["_law_pool_here","_law_tree","_law_ways","_law_rare"] A.f_q9 A.d_q9
 t_q21:FT K mg "_law_parted" qW ["_law_ways","_law_ties"] A.f_q21 A.d_q21
 t_q41:FT K mg "_law_cut" qF ["_law_pool_here","_law_ways","_law_thin"] A.f_q41 A.d_q41
 t_q26:FT K mg "_law_sides" rd ["_law_tree","_law_ask_here","_law_cut_here"] A.f_q26 A.d_q26
 t_q3:FT K mg "_law_told_right" s_q3 ["_law_tree","_law_asks","_law_ways","_law_flow","_law_cut_here"] A.f_q3 A.d_q3
 t_law:FT K mg "law" qX ["_law_script"] A.f_law A.d_law
 z_all:mg "all" = none
 z_any:mg "any" = none
 z_bool:mg "bool" = none
 z_enumerate:mg "enumerate" = none
 z_int:mg "int" = none
 z_isinstance:mg "isinstance" = none
 z_len:mg "len" = none
 z_list:mg "list" = none
 z_max:mg "max" = none
 z_min:mg "min" = none
 z_range:mg "range" = none
 z_reversed:mg "reversed" = none
 z_set:mg "set" = none
 z_sorted:mg "sorted" = none
 z_sum:mg "sum" = none
 z_tuple:mg "tuple" = none
 z_zip:mg "zip" = none
 c_MOST_TIES:∃ t,mg "MOST_TIES" = some (.int 23 t)
 c_MOST_ROOM:∃ t,mg "MOST_ROOM" = some (.int 1000000 t)
 c_MOST_ASKS:∃ t,mg "MOST_ASKS" = some (.int 30 t)
 c_MOST_SIZE:∃ t,mg "MOST_SIZE" = some (.int 1000000 t)
 c_MOST_WORTH:∃ t,mg "MOST_WORTH" = some (.int 1000000000000 t)
 hc:A.d_q0.code = .ref A.tc
theorem wH:FnScope ["thing"] ["thing"] (ak qK):=aV
theorem sc_q8:FnScope ["thing","least","most"] ["thing","least","most"] (ak s_q8):=aV
theorem sc_q1:FnScope ["thing","parents","rooms"] ["thing"] (ak s_q1):=aV
theorem sc_q6:FnScope ["thing","parents","rooms","number","parent","room"] ["thing"] (ak s_q6):=aV
theorem vV:FnScope ["tree","found","parent"] ["tree"] (ak qh):=aV
theorem vt:FnScope ["tree","thing"] ["tree","thing"] (ak pF):=aV
theorem wa:FnScope ["tree","one","other"] ["tree","one","other"] (ak rO):=aV
theorem uB:FnScope ["tree","thing","one","other","size","worth"] ["tree","thing"] (ak o3):=aV
theorem sc_q4:FnScope ["tree","thing","number","ask"] ["tree","thing"] (ak s_q4):=aV
theorem sc_q5:FnScope ["tree","one","other"] ["tree","one","other"] (ak s_q5):=aV
theorem ve:FnScope ["tree","one","other","way","low"] ["tree","one","other"] (ak p7):=aV
theorem sc_q7:FnScope ["tree","one","other","way","meeting"] ["tree","one","other"] (ak s_q7):=aV
theorem wV:FnScope ["tree","ask"] ["tree","ask"] (ak rK):=aV
theorem we:FnScope ["tree","asks"] ["tree","asks"] (ak o4):=aV
theorem vW:FnScope ["tree","one","other","way","meeting"] ["tree","one","other"] (ak oQ):=aV
theorem wX:FnScope ["thing"] ["thing"] (ak qb):=aV
theorem vG:FnScope ["tree","asks","flow","taken","ask","often","tie"] ["tree","asks","flow"] (ak qu):=aV
theorem vO:FnScope ["tree","asks","thing"] ["tree","asks","thing"] (ak pK):=aV
theorem sc_q0:FnScope ["tree","asks","deep","met"] ["tree","asks"] (ak s_q0):=aV
theorem w5:FnScope ["tree","thing","least","tie"] ["tree","thing"] (ak qz):=aV
theorem vT:FnScope ["ways","cut"] ["ways","cut"] (ak pf):=aV
theorem vC:FnScope ["tree","asks","thing"] ["tree","asks","thing"] (ak qA):=aV
theorem uM:FnScope ["way","left","often","tie"] ["way","left"] (ak pT):=aV
theorem wL:FnScope ["tree","ways","order","left","flow","row","number"] ["tree","ways","order"] (ak qJ):=aV
theorem vM:FnScope ["ways","row","cut","tie","others"] ["ways","row"] (ak rj):=aV
theorem sc_q2:FnScope ["tree","asks","ways","flow","row"] ["tree","asks"] (ak s_q2):=aV
theorem vK:FnScope ["_law_script","_law_k","_law_cell","_law_seed"] ["_law_script","_law_k"] (ak oP):=aV
theorem wD:FnScope ["_law_pool_here","_law_many","_law_found"] ["_law_pool_here","_law_many"] (ak pM):=aV
theorem w6:FnScope ["_law_pool_here","_law_most","_law_way_here"] ["_law_pool_here","_law_most"] (ak pV):=aV
theorem vL:FnScope ["_law_pool_here","_law_most","_law_shape","_law_parents_here","_law_place","_law_up_here"] ["_law_pool_here","_law_most"] (ak qp):=aV
theorem vn:FnScope ["_law_pool_here","_law_many","_law_least","_law_most"] ["_law_pool_here","_law_many","_law_least"] (ak pO):=aV
theorem vm:FnScope ["_law_pool_here","_law_many","_law_one"] ["_law_pool_here","_law_many"] (ak qR):=aV
theorem uK:FnScope ["_law_parents_here","_law_place","_law_found"] ["_law_parents_here","_law_place"] (ak qH):=aV
theorem wP:FnScope ["_law_parents_here","_law_ask_here","_law_one","_law_other","_law_found"] ["_law_parents_here","_law_ask_here"] (ak qc):=aV
theorem ww:FnScope ["_law_pool_here","_law_many","_law_one","_law_other"] ["_law_pool_here","_law_many"] (ak qV):=aV
theorem uW:FnScope ["_law_script","_law_last","_law_parents_here","_law_tree","_law_asks"] ["_law_script","_law_last"] (ak rq):=aV
theorem sc_q9:FnScope ["_law_pool_here","_law_tree","_law_ways","_law_rare","_law_left","_law_free","_law_flow","_law_number_here","_law_most","_law_many","_law_tie"] ["_law_pool_here","_law_tree","_law_ways","_law_rare"] (ak s_q9):=aV
theorem wI:FnScope ["_law_ways","_law_ties"] ["_law_ways","_law_ties"] (ak qW):=aV
theorem uR:FnScope ["_law_pool_here","_law_ways","_law_thin","_law_cut_here","_law_left","_law_tie"] ["_law_pool_here","_law_ways","_law_thin"] (ak qF):=aV
theorem vq:FnScope ["_law_tree","_law_ask_here","_law_cut_here","_law_turn","_law_end","_law_up_here"] ["_law_tree","_law_ask_here","_law_cut_here"] (ak rd):=aV
theorem sc_q3:FnScope ["_law_tree","_law_asks","_law_ways","_law_flow","_law_cut_here","_law_tie","_law_k"] ["_law_tree","_law_asks","_law_ways","_law_flow","_law_cut_here"] (ak s_q3):=aV
theorem uv:FnScope ["_law_script","_law_tree","_law_asks","_law_ways","_law_flow","_law_cut_here","_law_sums","_law_rooms_here","_law_k","_law_pool_here","_law_other","_law_ties"] ["_law_script"] (ak qX):=aV
section
variable {P:Program} {w:World} {K:PySem.W.Frag} {mg:Str→Option Value} {base:Heap} {A:Adr}
theorem qG (T:Txt K mg A) (hB:TabB base mg A.tc A.tP tqS):FnOk P w K mg base CX0 1 A.f_q19 A.d_q19 ["thing"] (a9 [false] false (s_)):=by
 have S:=wH
 refine fnD T.t_q19.F S ⟨[false],[false],false⟩ _ ?hl rfl rfl fun cdv Ar outer s H E hr=>⟨_,(ag (aE (dF (d8 rfl T.z_isinstance a8 (aa 0) (cN (v:=.ty "int") rfl T.z_int vY rfl)) (eN (v_ (d8 rfl T.z_isinstance a8 (aa 0) (cN (v:=.ty "bool") rfl T.z_bool sH rfl))))))),fun ds q h=>?_⟩
 case hl=>intro ds q h; obtain ⟨d,rfl,_⟩:=h; rfl
 obtain ⟨d,rfl,hs,q0⟩:=h
 cases d <;> first | exact q0 | cases hs
theorem iW (T:Txt K mg A) (hB:TabB base mg A.tc A.tP tqS):FnOk P w K mg base CX0 2 A.f_q8 A.d_q8 ["thing","least","most"] (a9 [false,false,false] false (oB)):=by
 have S:=sc_q8
 refine fnD T.t_q8.F S ⟨[false,false,false],[false,false,false],false⟩ _ ?hl rfl rfl fun cdv Ar outer s H E hr=>⟨_,(ag (aE (dF (ah (qG T hB) hr T.t_q19 (ao (aa 0) am)) (eN (kd jc jc dB dB (aa 1) (aa 0) (aa 2)))))),fun ds q h=>?_⟩
 case hl=>intro ds q h; obtain ⟨d,lo,hi,rfl,_⟩:=h; rfl
 obtain ⟨d,lo,hi,rfl,hs,q0⟩:=h
 refine ⟨d,rfl,hs,?_⟩
 cases d
 case int i =>
  refine (bS (c:=decide (lo≤i)=true) (fun c=>?_) (fun c=>?_))
  ·have:btw lo hi (.int i)=decide (i≤hi):=by show (decide (lo≤i)&&decide (i≤hi))=_; rw [c,Bool.true_and]
   rw [this] at q0; exact q0
  ·have:btw lo hi (.int i)=false:=by show (decide (lo≤i)&&decide (i≤hi))=_; rw [Bool.eq_false_iff.mpr c,Bool.false_and]
   rw [this] at q0; exact q0
 all_goals first | exact q0 | cases hs
theorem ok_q1 (T:Txt K mg A) (hB:TabB base mg A.tc A.tP tqS):FnOk P w K mg base CX0 1 A.f_q1 A.d_q1 ["thing"] (a9 [false] false (wT)):=by
 have S:=sc_q1
 refine fnD T.t_q1.F S ⟨[false],[false,false,false],false⟩ _ ?hl rfl rfl fun cdv Ar outer s H E hr=>⟨_,(ac (bu (QW.qt (gw (bx (bc (d8 rfl T.z_isinstance a8 (aa 0) (cN (v:=.ty "tuple") rfl T.z_tuple j7 rfl)))) (eG (aX (c_ hr.units) dNe (aq aw cE rfl T.z_len a_ (ad (aa 0) ai)) ae (aU _))))) (ag (aE ck)) aL)
  (ac (fC (aa 0) (cX rfl (aM (aD (i:=1) S.nd rfl (Or.inl rfl)) (aM (aD (i:=2) S.nd rfl (Or.inl rfl)) b_)) (au (au ba))))
  (ac (bu (QW.qt (gw (bx (bc (d8 rfl T.z_isinstance a8 (aa 1) (cN (v:=.ty "list") rfl T.z_list cA rfl)))) (eG (bx (bc (d8 rfl T.z_isinstance a8 (aa 2) (cN (v:=.ty "list") rfl T.z_list cA rfl))))))) (ag (aE ck)) aL)
  (ag (aE (dF (em (gi hr.units) dEq (aq aw cE rfl T.z_len a_ (ad (aa 1) ai)) (aq aw cE rfl T.z_len a_ (ad (aa 2) ai)) (aU _)) (eN (kd jc jc dB dB ae (aq aw cE rfl T.z_len a_ (ad (aa 1) ai)) (eE (i:=23) rfl T.c_MOST_TIES))))))))),fun ds q h=>?_⟩
 case hl=>intro ds q h; obtain ⟨ps,rs,rfl,_⟩:=h; rfl
 obtain ⟨ps,rs,rfl,hT,q0⟩:=h
 have l1:((ps.map D.int).length:Int)=ps.length:=by rw [List.length_map]
 have l2:((rs.map D.int).length:Int)=rs.length:=by rw [List.length_map]
 have h1:=hT.len
 have h2:=hT.lo
 have h3:=hT.hi
 refine (bS (c:=decide (((ps.map D.int).length:Int)=((rs.map D.int).length:Int))=true) (fun c=>?_) (fun c=>?_))
 ·refine (bS (c:=decide ((1:Int)≤((ps.map D.int).length:Int))=true) (fun c=>?_) (fun c=>?_))
  ·show q (.bl (decide (((ps.map D.int).length:Int)≤23))) []
   rw [decide_eq_true (by omega)]; exact q0
  ·exact absurd (decide_eq_true (by omega)) c
 ·exact absurd (decide_eq_true (by omega)) c
theorem qy (T:Txt K mg A) (hB:TabB base mg A.tc A.tP tqS):FnOk P w K mg base CX0 3 A.f_q6 A.d_q6 ["thing"] (a9 [false] false (vS)):=by
 have S:=sc_q6
 refine fnD T.t_q6.F S ⟨[false],[false,false,false,false,false,false],false⟩ _ ?hl rfl rfl fun cdv Ar outer s H E hr=>⟨_,(ac (bu (bx (bc (ah (ok_q1 T hB) hr T.t_q1 (ao (aa 0) am)))) (ag dH) aL)
  (ac (fC (aa 0) (cX rfl (aM (aD (i:=1) S.nd rfl (Or.inl rfl)) (aM (aD (i:=2) S.nd rfl (Or.inl rfl)) b_)) (au (au ba))))
  (ac (bQ PassesOwn.never rfl (jl rfl T.z_enumerate (ad (aa 1) ai)) (cX rfl (aM (aD (i:=3) S.nd rfl (Or.inl rfl)) (aM (aD (i:=4) S.nd rfl (Or.inl rfl)) b_)) (au (au ba))) (ag (bu (bx (bc (ah (iW T hB) hr T.t_q8 (ao (aa 4) (ao ae (ao (aa 3) am)))))) (ag dH) aL)))
  (ag (bQ PassesOwn.never rfl (jl rfl T.z_enumerate (ad (aa 2) ai)) (cX rfl (aM (aD (i:=3) S.nd rfl (Or.inl rfl)) (aM (aD (i:=5) S.nd rfl (Or.inl rfl)) b_)) (au (au ba))) (ag (bu (bx (bc (ah (iW T hB) hr T.t_q8 (ao (aa 5) (ao ae (ao (eE (i:=1000000) rfl T.c_MOST_ROOM) am)))))) (ag dH) aL))))))),fun ds q h=>?_⟩
 case hl=>intro ds q h; obtain ⟨ps,rs,rfl,_⟩:=h; rfl
 obtain ⟨ps,rs,rfl,hT,q0⟩:=h
 refine ⟨ps,rs,rfl,hT,?_⟩
 refine ⟨fun _ ρ=>∃ v1 v2 v3,ρ=[some (aZ ps rs),some (af ps),some (af rs),v1,v2,v3],⟨_,_,_,rfl⟩,?_,?_⟩
 ·rintro i d ρ hd ⟨v1,v2,v3,rfl⟩
  obtain ⟨d',h1,rfl⟩:=gN hd
  obtain ⟨z,hz,rfl⟩:=cH h1
  have hb:=hT.par i z hz
  refine ⟨.int z,0,(i:Int),rfl,rfl,?_⟩
  rw [e8 hb.1 hb.2]
  exact ⟨_,_,_,rfl⟩
 ·rintro ρ ⟨v1,v2,v3,rfl⟩
  refine ⟨fun _ ρ=>∃ v1 v2 v3,ρ=[some (aZ ps rs),some (af ps),some (af rs),v1,v2,v3],⟨_,_,_,rfl⟩,?_,?_⟩
  ·rintro i d ρ hd ⟨v1,v2,v3,rfl⟩
   obtain ⟨d',h1,rfl⟩:=gN hd
   obtain ⟨z,hz,rfl⟩:=cH h1
   have hb:=hT.room i z hz
   refine ⟨.int z,1,1000000,rfl,rfl,?_⟩
   rw [e8 hb.1 hb.2]
   exact ⟨_,_,_,rfl⟩
  ·rintro ρ ⟨v1,v2,v3,rfl⟩
   exact q0
theorem wA (T:Txt K mg A) (hB:TabB base mg A.tc A.tP tqS):FnOk P w K mg base CX0 4 A.f_q31 A.d_q31 ["tree"] (a9 [false] true (rC)):=by
 have S:=vV
 refine fnD T.t_q31.F S ⟨[false],[false,true,false],true⟩ _ ?hl rfl rfl fun cdv Ar outer s H E hr=>⟨_,(ac (dt (ah (qy T hB) hr T.t_q6 (ao (aa 0) am)))
  (ac (bv (i:=1) S.nd rfl (Or.inl rfl) (eO (ad ae ai)))
  (ac (bQ PassesOwn.never rfl (aR (aH az dIx (aa 0) ae (fun _ _=>rfl))) (aD (i:=2) S.nd rfl (Or.inl rfl)) (ag (cV (i:=1) rfl (QF.bor [1] (QE.qf (aB bM dI (aH az dIx (aa 1) (aa 2) (fun _ _=>rfl)) ae))))))
  (ag (bG (cB 1)))))),fun ds q h=>?_⟩
 case hl=>intro ds q h; obtain ⟨ps,rs,rfl,_⟩:=h; rfl
 obtain ⟨ps,rs,rfl,hT,q0⟩:=h
 have hi:=hT.hi
 refine ⟨ps,rs,rfl,hT,?_⟩
 refine ⟨rfl,?_⟩
 refine ⟨fun i ρ=>∃ (e:List Int) (v:Option D),ρ=[some (aZ ps rs),some (af e),v]∧DepOk ps e i,⟨[0],_,rfl,dep0 ps⟩,?_,?_⟩
 ·rintro i d ρ hd ⟨e,v,rfl,he⟩
  obtain ⟨z,hz,rfl⟩:=cH hd
  have hb:=hT.par i z hz
  have hl:=he.len
  have hil:i<ps.length:=(List.getElem?_eq_some_iff.mp hz).1
  refine aY (bb hb.1 (by omega)) ?_
  refine ⟨rfl,by rw [ar]; omega,?_⟩
  refine ⟨_,some (.int z),?_,qO hT hz he⟩
  rw [← dZ]; rfl
 ·rintro ρ ⟨e,v,rfl,he⟩
  rw [ar] at he
  exact q0 e he
theorem qI (T:Txt K mg A) (hB:TabB base mg A.tc A.tP tqS):FnOk P w K mg base CX0 3 A.f_q18 A.d_q18 ["tree","thing"] (a9 [false,false] false (sE)):=by
 have S:=vt
 refine fnD T.t_q18.F S ⟨[false,false],[false,false],false⟩ _ ?hl rfl rfl fun cdv Ar outer s H E hr=>⟨_,(ag (aE (ah (iW T hB) hr T.t_q8 (ao (aa 1) (ao ae (ao (aq aw cE rfl T.z_len a_ (ad (aH az dIx (aa 0) ae (fun _ _=>rfl)) ai)) am)))))),fun ds q h=>?_⟩
 case hl=>intro ds q h; obtain ⟨ps,rs,d,rfl,_⟩:=h; rfl
 obtain ⟨ps,rs,d,rfl,hs,q0⟩:=h
 refine ⟨d,0,((ps.map D.int).length:Int),rfl,hs,?_⟩
 rw [List.length_map]; exact q0
theorem pA (T:Txt K mg A) (hB:TabB base mg A.tc A.tP tqS):FnOk P w K mg base CX0 4 A.f_q16 A.d_q16 ["tree","one","other"] (a9 [false,false,false] false (wE)):=by
 have S:=wa
 refine fnD T.t_q16.F S ⟨[false,false,false],[false,false,false],false⟩ _ ?hl rfl rfl fun cdv Ar outer s H E hr=>⟨_,(ag (aE (dF (ah (qI T hB) hr T.t_q18 (ao (aa 0) (ao (aa 1) am))) (dF (ah (qI T hB) hr T.t_q18 (ao (aa 0) (ao (aa 2) am))) (eN (em (c_ hr.units) dNe (aa 1) (aa 2) (aU _))))))),fun ds q h=>?_⟩
 case hl=>intro ds q h; obtain ⟨ps,rs,a,b,rfl,_⟩:=h; rfl
 obtain ⟨ps,rs,a,b,rfl,he,q0⟩:=h
 refine ⟨ps,rs,.int a,rfl,rfl,?_⟩
 rw [e8 he.a0 he.a1]
 refine ⟨ps,rs,.int b,rfl,rfl,?_⟩
 rw [e8 he.b0 he.b1]
 have:(!decide (a=b))=true:=by simp [he.ne]
 show q (.bl (!decide (a=b))) []
 rw [this]; exact q0
theorem tY (T:Txt K mg A) (hB:TabB base mg A.tc A.tP tqS):FnOk P w K mg base CX0 5 A.f_q5 A.d_q5 ["tree","one","other"] (a9 [false,false,false] false (l7)):=by
 have S:=sc_q5
 refine fnD T.t_q5.F S ⟨[false,false,false],[false,false,false],false⟩ _ ?hl rfl rfl fun cdv Ar outer s H E hr=>⟨_,(ac (dt (ah (qy T hB) hr T.t_q6 (ao (aa 0) am)))
  (ag (bu (bx (bc (ah (pA T hB) hr T.t_q16 (ao (aa 0) (ao (aa 1) (ao (aa 2) am)))))) (ag dH) aL))),fun ds q h=>?_⟩
 case hl=>intro ds q h; obtain ⟨ps,rs,a,b,rfl,_⟩:=h; rfl
 obtain ⟨ps,rs,a,b,rfl,hT,he,q0⟩:=h
 refine ⟨ps,rs,rfl,hT,?_⟩
 exact ⟨ps,rs,a,b,rfl,he,q0⟩
theorem rG (T:Txt K mg A) (hB:TabB base mg A.tc A.tP tqS):FnOk P w K mg base CX0 1 A.f_q39 A.d_q39 ["tree","one","other"] (a9 [false,false,false] true (rV)):=by
 have S:=ve
 refine fnD T.t_q39.F S ⟨[false,false,false],[false,false,false,true,false],true⟩ _ ?hl rfl rfl fun cdv Ar outer s H E hr=>⟨_,(ac (bv (i:=3) S.nd rfl (Or.inl rfl) (eO ai))
  (ac (fF PassesOwn.never (aX (c_ hr.units) dNe (aa 1) (aa 2) (aU _)) (ac (aT (i:=4) S.nd rfl (Or.inl rfl) (aq (gr rfl) dMax rfl T.z_max gW (ad (aa 1) (ad (aa 2) ai))))
  (ac (cV (i:=3) rfl (QE.qf (aa 4)))
  (ag (wQ (i:=1) (j:=2) rfl S.nd rfl rfl (by decide) rfl rfl (aq (cq rfl) lD rfl T.z_min de (ad (aa 1) (ad (aa 2) ai))) (aH az dIx (aH az dIx (aa 0) ae (fun _ _=>rfl)) (aB bF dI (aa 4) ae) (fun _ _=>rfl)) rfl)))))
  (ag (bG (lh (dJ (QF.qm (QF.bor [3] (hX d6 lK rfl T.z_sorted e7 (ad (aa 3) ai)))) (dJ (QF.qm (QE.qf (aa 1))) jA))))))),fun ds q h=>?_⟩
 case hl=>intro ds q h; obtain ⟨ps,rs,a,b,rfl,_⟩:=h; rfl
 obtain ⟨ps,rs,a,b,rfl,hT,a0,a1,b0,b1,q0⟩:=h
 refine ⟨rfl,?_⟩
 refine ⟨fun k ρ=>∃ a' b' acc v,ρ=[some (aZ ps rs),some (.int a'),some (.int b'),some (af acc),v]∧0≤a'∧a'≤ps.length∧0≤b'∧b'≤ps.length∧k=(a' + b').toNat∧acc.length + (a' + b').toNat≤46∧(∀ w m,Climb ps a' b' w m→Climb ps a b (acc++w) m),⟨_,a,b,[],_,rfl,a0,a1,b0,b1,rfl,by have:=hT.hi; simp; omega,fun w m h=>h⟩,?_⟩
 rintro k ρ ⟨a',b',acc,v,rfl,a0',a1',b0',b1',rfl,hl,hc⟩
 have hi:=hT.hi
 refine (bS (c:=(!decide (a'=b'))=true) (fun c=>?_) (fun c=>?_))
 ·have hne:a'≠b':=by simpa using c
  have key:∀ (low hig:Int),low=(if b' > a' then b' else a')→hig=(if b'<a' then b' else a')→0<low∧low≤ps.length∧0≤hig∧hig≤ps.length∧low + hig=a' + b'∧(∀ w m,Climb ps hig (dn ps low) w m→Climb ps a' b' (low :: w) m):=by
   intro low hig e1 e2
   by_cases hlt:b'<a'
   ·rw [if_neg (by omega)] at e1; rw [if_pos hlt] at e2; subst e1; subst e2
    exact ⟨by omega,a1',b0',b1',by omega,fun w m h=>.left hlt h⟩
   ·rw [if_pos (by omega)] at e1; rw [if_neg hlt] at e2; subst e1; subst e2
    exact ⟨by omega,b1',a0',a1',by omega,fun w m h=>.right (by omega) h⟩
  obtain ⟨L,hL⟩:∃ L,L=(if b' > a' then b' else a'):=⟨_,rfl⟩
  obtain ⟨J,hJ⟩:∃ J,J=(if b'<a' then b' else a'):=⟨_,rfl⟩
  obtain ⟨k1,k2,k3,k4,k5,k6⟩:=key L J hL hJ
  have hp:=hT.up k1 k2
  refine ⟨rfl,?_⟩
  refine ⟨by show (acc.map D.int).length<1000; rw [List.length_map]; omega,?_⟩
  refine aY (bb (by rw [← hL]; omega) (by rw [← hL]; omega)) ?_
  refine ⟨(J + dn ps L).toNat,by omega,J,dn ps L,acc++[L],some (.int L),?_,k3,k4,hp.1,by omega,rfl,by rw [List.length_append]; show acc.length + 1 + _≤46; omega,fun w m h=>by rw [List.append_assoc]; exact hc _ _ (k6 _ _ h)⟩
  show [some (aZ ps rs),some (.int (if b'<a' then b' else a')),some (.int (dn ps (if b' > a' then b' else a'))),some (D.lst (acc.map D.int++[D.int (if b' > a' then b' else a')])),some (.int (if b' > a' then b' else a'))]=_
  rw [← hL,← hJ,af,List.map_append]; rfl
 ·have:a'=b':=by simpa using c
  subst this
  have hw:=hc [] a' (.same a')
  rw [List.append_nil] at hw
  have hln:=hw.len hT a0 b0 a1 b1
  refine ⟨acc,rfl,by omega,aO _,rfl,?_⟩
  exact q0 acc a' hw
theorem ok_q7 (T:Txt K mg A) (hB:TabB base mg A.tc A.tP tqS):FnOk P w K mg base CX0 6 A.f_q7 A.d_q7 ["tree","one","other"] (a9 [false,false,false] true (sdWay)):=by
 have S:=sc_q7
 refine fnD T.t_q7.F S ⟨[false,false,false],[false,false,false,true,false],true⟩ _ ?hl rfl rfl fun cdv Ar outer s H E hr=>⟨_,(ac (dt (ah (tY T hB) hr T.t_q5 (ao (aa 0) (ao (aa 1) (ao (aa 2) am)))))
  (ac (mm rfl (QF.qm (aQ (rG T hB) hr T.t_q39 (ao (aa 0) (ao (aa 1) (ao (aa 2) am))))) (ng (i:=3) S.nd rfl (Or.inl rfl) (qE (i:=4) S.nd rfl (Or.inl rfl) mU)) (au (au ba)))
  (ag (bG (cB 3))))),fun ds q h=>?_⟩
 case hl=>intro ds q h; obtain ⟨ps,rs,a,b,rfl,_⟩:=h; rfl
 obtain ⟨ps,rs,a,b,rfl,hT,he,q0⟩:=h
 refine ⟨ps,rs,a,b,rfl,hT,he,?_⟩
 refine ⟨ps,rs,a,b,rfl,hT,he.a0,he.a1,he.b0,he.b1,fun w m hw=>?_⟩
 exact q0 w m hw
theorem qN (T:Txt K mg A) (hB:TabB base mg A.tc A.tP tqS):FnOk P w K mg base CX0 6 A.f_q10 A.d_q10 ["tree","one","other"] (a9 [false,false,false] false (vE)):=by
 have S:=vW
 refine fnD T.t_q10.F S ⟨[false,false,false],[false,false,false,false,false],false⟩ _ ?hl rfl rfl fun cdv Ar outer s H E hr=>⟨_,(ac (dt (ah (tY T hB) hr T.t_q5 (ao (aa 0) (ao (aa 1) (ao (aa 2) am)))))
  (ac (fC (QF.qe (aQ (rG T hB) hr T.t_q39 (ao (aa 0) (ao (aa 1) (ao (aa 2) am))))) (cX rfl (aM (aD (i:=3) S.nd rfl (Or.inl rfl)) (aM (aD (i:=4) S.nd rfl (Or.inl rfl)) b_)) (au (au ba))))
  (ag (aE (aa 4))))),fun ds q h=>?_⟩
 case hl=>intro ds q h; obtain ⟨ps,rs,a,b,rfl,_⟩:=h; rfl
 obtain ⟨ps,rs,a,b,rfl,hT,he,q0⟩:=h
 refine ⟨ps,rs,a,b,rfl,hT,he,?_⟩
 refine ⟨ps,rs,a,b,rfl,hT,he.a0,he.a1,he.b0,he.b1,fun w m hw=>?_⟩
 exact q0 w m hw
theorem qU (T:Txt K mg A) (hB:TabB base mg A.tc A.tP tqS):FnOk P w K mg base CX0 7 A.f_q38 A.d_q38 ["tree","ask"] (a9 [false,false] true (tD)):=by
 have S:=wV
 refine fnD T.t_q38.F S ⟨[false,false],[false,false],true⟩ _ ?hl rfl rfl fun cdv Ar outer s H E hr=>⟨_,(ag (bG (QF.qm (aQ (ok_q7 T hB) hr T.t_q7 (ao (aa 0) (ao (aH az dIx (aa 1) ae (fun _ _=>rfl)) (ao (aH az dIx (aa 1) ae (fun _ _=>rfl)) am))))))),fun ds q h=>?_⟩
 case hl=>intro ds q h; obtain ⟨ps,rs,a,rfl,_⟩:=h; rfl
 obtain ⟨ps,rs,a,rfl,hT,he,q0⟩:=h
 refine ⟨ps,rs,a.one,a.other,rfl,hT,he,fun w m hw=>?_⟩
 rw [(hw.way hT he.a0 he.b0 he.a1 he.b1).1]
 exact q0
theorem wN (T:Txt K mg A) (hB:TabB base mg A.tc A.tP tqS):FnOk P w K mg base CX0 5 A.f_q32 A.d_q32 ["tree","thing"] (a9 [false,false] false (sN)):=by
 have S:=uB
 refine fnD T.t_q32.F S ⟨[false,false],[false,false,false,false,false,false],false⟩ _ ?hl rfl rfl fun cdv Ar outer s H E hr=>⟨_,(ac (bu (QW.qt (gw (bx (bc (d8 rfl T.z_isinstance a8 (aa 1) (cN (v:=.ty "tuple") rfl T.z_tuple j7 rfl)))) (eG (aX (c_ hr.units) dNe (aq aw cE rfl T.z_len a_ (ad (aa 1) ai)) ae (aU _))))) (ag (aE ck)) aL)
  (ac (fC (aa 1) (cX rfl (aM (aD (i:=2) S.nd rfl (Or.inl rfl)) (aM (aD (i:=3) S.nd rfl (Or.inl rfl)) (aM (aD (i:=4) S.nd rfl (Or.inl rfl)) (aM (aD (i:=5) S.nd rfl (Or.inl rfl)) b_)))) (au (au (au (au ba))))))
  (ag (aE (dF (ah (pA T hB) hr T.t_q16 (ao (aa 0) (ao (aa 2) (ao (aa 3) am)))) (dF (ah (iW T hB) hr T.t_q8 (ao (aa 4) (ao ae (ao (eE (i:=1000000) rfl T.c_MOST_SIZE) am)))) (eN (ah (iW T hB) hr T.t_q8 (ao (aa 5) (ao ae (ao (eE (i:=1000000000000) rfl T.c_MOST_WORTH) am))))))))))),fun ds q h=>?_⟩
 case hl=>intro ds q h; obtain ⟨ps,rs,a,rfl,_⟩:=h; rfl
 obtain ⟨ps,rs,a,rfl,ha,q0⟩:=h
 refine ⟨ps,rs,a.one,a.other,rfl,ha.ends,?_⟩
 refine ⟨.int a.size,1,1000000,rfl,rfl,?_⟩
 rw [e8 ha.s0 ha.s1]
 refine ⟨.int a.worth,1,1000000000000,rfl,rfl,?_⟩
 rw [e8 ha.w0 ha.w1]
 exact q0
theorem rL (T:Txt K mg A) (hB:TabB base mg A.tc A.tP tqS):FnOk P w K mg base CX0 6 A.f_q4 A.d_q4 ["tree","thing"] (a9 [false,false] false (k_)):=by
 have S:=sc_q4
 refine fnD T.t_q4.F S ⟨[false,false],[false,false,false,false],false⟩ _ ?hl rfl rfl fun cdv Ar outer s H E hr=>⟨_,(ac (dt (ah (qy T hB) hr T.t_q6 (ao (aa 0) am)))
  (ac (bu (QW.qt (gw (bx (bc (d8 rfl T.z_isinstance a8 (aa 1) (cN (v:=.ty "list") rfl T.z_list cA rfl)))) (eG (aX ij dB (aq aw cE rfl T.z_len a_ (ad (aa 1) ai)) (eE (i:=30) rfl T.c_MOST_ASKS) (aU _))))) (ag dH) aL)
  (ag (bQ PassesOwn.never rfl (jl rfl T.z_enumerate (ad (aa 1) ai)) (cX rfl (aM (aD (i:=2) S.nd rfl (Or.inl rfl)) (aM (aD (i:=3) S.nd rfl (Or.inl rfl)) b_)) (au (au ba))) (ag (bu (bx (bc (ah (wN T hB) hr T.t_q32 (ao (aa 0) (ao (aa 3) am))))) (ag dH) aL)))))),fun ds q h=>?_⟩
 case hl=>intro ds q h; obtain ⟨ps,rs,as,rfl,_⟩:=h; rfl
 obtain ⟨ps,rs,as,rfl,hT,ha,q0⟩:=h
 refine ⟨ps,rs,rfl,hT,?_⟩
 refine (bS (c:=decide ((30:Int)<((as.map er).length:Int))=true) (fun c=>?_) (fun c=>?_))
 ·have:=ha.len; rw [bD] at c; simp at c; omega
 refine ⟨fun _ ρ=>∃ v1 v2,ρ=[some (aZ ps rs),some (dg as),v1,v2],⟨_,_,rfl⟩,?_,?_⟩
 ·rintro i d ρ hd ⟨v1,v2,rfl⟩
  obtain ⟨d',h1,rfl⟩:=gN hd
  obtain ⟨z,hz,rfl⟩:=m_ h1
  refine ⟨ps,rs,z,rfl,ha.ok z (List.mem_of_getElem? hz),?_⟩
  exact ⟨_,_,rfl⟩
 ·rintro ρ ⟨v1,v2,rfl⟩
  exact q0
end
end K61
namespace K61
open PySem L2
section
variable {P:Program} {w:World} {K:PySem.W.Frag} {mg:Str→Option Value} {base:Heap} {A:Adr}
theorem ok_q0 (T:Txt K mg A) (hB:TabB base mg A.tc A.tP tqS):FnOk P w K mg base CX0 7 A.f_q0 A.d_q0 ["tree","asks"] (a9 [false,false] false (wB)):=by
 have S:=sc_q0
 refine fnDc T.t_q0.F T.hc S ⟨[false,false],[false,false,false,false],false⟩ _ ?hl rfl rfl fun Ar outer s H E hr=>⟨_,(ac (aT (i:=2) S.nd rfl (Or.inr rfl) (QF.qe (aQ (wA T hB) hr T.t_q31 (ao (aa 0) am))))
  (ac (aT (i:=3) S.nd rfl (Or.inr rfl) (bp ["ask"] [2,0] ⟨rfl,rfl,by decide +kernel,rfl,rfl,(by first | exact trivial | exact ⟨rfl,trivial⟩ | exact ⟨rfl,rfl,trivial⟩ | exact ⟨rfl,rfl,rfl,trivial⟩ | exact ⟨rfl,rfl,rfl,rfl,trivial⟩),rfl⟩ rfl (aR (aa 1)) (a6 0) (fun _ _ _ _=>⟨(aP (i:=0) (show List.Nodup (["ask","deep","tree"]:List Str) by decide +kernel) rfl (Or.inl rfl)),bL,(aH az dIx (aa 1) (ah (qN T hB) hr T.t_q10 (ao (aa 2) (ao (aH az dIx (aa 0) ae (fun _ _=>rfl)) (ao (aH az dIx (aa 0) ae (fun _ _=>rfl)) am)))) (fun _ _=>rfl))⟩)))
  (ag (aE (q8 (j:=3) hr rfl T.z_sorted rfl T.z_range (aq aw cE rfl T.z_len a_ (ad (aa 1) ai)) rfl rfl rfl hB))))),fun ds q h=>?_⟩
 case hl=>intro ds q h; obtain ⟨ps,rs,as,rfl,_⟩:=h; rfl
 obtain ⟨ps,rs,as,rfl,hT,ha,q0⟩:=h
 have hal:=ha.len
 refine ⟨ps,rs,rfl,hT,fun e he=>?_⟩
 have hel:=he.len
 refine ⟨by rw [bD]; omega,?_⟩
 refine bA (metF ps e) ?_ ?_
 ·intro d hd k hk
  obtain ⟨a,hm,rfl⟩:=List.mem_map.mp hd
  have hok:=(ha.ok a hm).ends
  refine ⟨ps,rs,a.one,a.other,rfl,hT,hok,fun w m hw=>?_⟩
  have hmm:=hw.way hT hok.a0 hok.b0 hok.a1 hok.b1
  have hb:=hw.low hT hok.a0 hok.b0 hok.a1 hok.b1
  have ha1:=hok.a1
  refine aY (bb (by omega) (by omega)) ?_
  rw [hmm.2]
  exact hk
 ·rw [pq]
  refine ⟨by rw [bD]; omega,by rw [bD]; omega,jF ps e as,rfl,by rw [bD]; unfold jF; rw [List.length_map]; omega,fun o ho=>?_⟩
  rw [bD] at ho
  exact q0 o ⟨e,he,ho⟩
theorem pD (T:Txt K mg A) (hB:TabB base mg A.tc A.tP tqS):FnOk P w K mg base CX0 8 A.f_q28 A.d_q28 ["tree","asks"] (a9 [false,false] false (rB)):=by
 have S:=we
 refine fnD T.t_q28.F S ⟨[false,false],[false,false],false⟩ _ ?hl rfl rfl fun cdv Ar outer s H E hr=>⟨_,(ag (aE (bp ["ask"] [0] ⟨rfl,rfl,by decide +kernel,rfl,rfl,(by first | exact trivial | exact ⟨rfl,trivial⟩ | exact ⟨rfl,rfl,trivial⟩ | exact ⟨rfl,rfl,rfl,trivial⟩ | exact ⟨rfl,rfl,rfl,rfl,trivial⟩),rfl⟩ rfl (aR (aa 1)) (a6 0) (fun _ _ _ _=>⟨(aP (i:=0) (show List.Nodup (["ask","tree"]:List Str) by decide +kernel) rfl (Or.inl rfl)),bL,(QF.qe (aQ (qU T hB) hr T.t_q38 (ao (aa 1) (ao (aa 0) am))))⟩)))),fun ds q h=>?_⟩
 case hl=>intro ds q h; obtain ⟨ps,rs,as,rfl,_⟩:=h; rfl
 obtain ⟨ps,rs,as,rfl,hT,ha,q0⟩:=h
 have hal:=ha.len
 refine ⟨by rw [bD]; omega,?_⟩
 refine bA (wayF ps) ?_ ?_
 ·intro d hd k hk
  obtain ⟨a,hm,rfl⟩:=List.mem_map.mp hd
  refine ⟨ps,rs,a,rfl,hT,(ha.ok a hm).ends,?_⟩
  exact hk
 ·rw [kD]
  exact q0
def f_:D→Bool
 | .int i=>decide (0≤i)
 | _=>false
def tp:SpD:=fun ds q=>∃ d,ds=[d]∧pln d=true∧q (.bl (f_ d)) []
theorem uz (T:Txt K mg A) (hB:TabB base mg A.tc A.tP tqS):FnOk P w K mg base CX0 2 A.f_q17 A.d_q17 ["thing"] (a9 [false] false (tp)):=by
 have S:=wX
 refine fnD T.t_q17.F S ⟨[false],[false],false⟩ _ ?hl rfl rfl fun cdv Ar outer s H E hr=>⟨_,(ag (aE (dF (ah (qG T hB) hr T.t_q19 (ao (aa 0) am)) (eN (em tU dB (aa 0) ae (aU _)))))),fun ds q h=>?_⟩
 case hl=>intro ds q h; obtain ⟨d,rfl,_⟩:=h; rfl
 obtain ⟨d,rfl,hp,q0⟩:=h
 refine ⟨d,rfl,nh hp,?_⟩
 cases d <;> first | exact q0 | (rw [pln] at hp; cases hp)
def bJ (ps:List Int):List Ask→List Int→List Int→List Int
 | a :: as,f :: fs,l=>bJ ps as fs (bt l (ax ps a) f)
 | _,_,l=>l
theorem eZ (ps:List Int):∀ (as:List Ask) (fs l:List Int),(bJ ps as fs l).length=l.length
 | [],_,_=>rfl
 | _ :: _,[],_=>rfl
 | a :: as,f :: fs,l=>by rw [bJ,eZ ps as fs,bU]
def sL:SpD:=fun ds q=>∃ ps rs as fs,ds=[aZ ps rs,dg as,af fs]∧Tree ps rs∧AsksOk ps as∧fs.length=as.length∧q (af (bJ ps as fs (List.replicate ps.length 0))) []
theorem ie (ps:List Int):∀ (as:List Ask) (fs l:List Int) (i:Nat) (a:Ask) (f:Int),as[i]? = some a→fs[i]? = some f→bJ ps (as.take (i + 1)) (fs.take (i + 1)) l=bt (bJ ps (as.take i) (fs.take i) l) (ax ps a) f
 | [],_,_,_,_,_,h,_=>by simp at h
 | _ :: _,[],_,_,_,_,_,h=>by simp at h
 | a :: as,f :: fs,l,0,a',f',h1,h2=>by simp at h1 h2; subst h1; subst h2; rfl
 | a :: as,f :: fs,l,i + 1,a',f',h1,h2=>ie ps as fs _ i a' f' (by simpa using h1) (by simpa using h2)
theorem vf (T:Txt K mg A) (hB:TabB base mg A.tc A.tP tqS):FnOk P w K mg base CX0 8 A.f_q22 A.d_q22 ["tree","asks","flow"] (a9 [false,false,false] true (sL)):=by
 have S:=vG
 refine fnD T.t_q22.F S ⟨[false,false,false],[false,false,false,true,false,false,false],true⟩ _ ?hl rfl rfl fun cdv Ar outer s H E hr=>⟨_,(ac (bv (i:=3) S.nd rfl (Or.inl rfl) (qD lz dRep (df (ad ae ai)) (aq aw cE rfl T.z_len a_ (ad (aH az dIx (aa 0) ae (fun _ _=>rfl)) ai))))
  (ac (bQ PassesOwn.never rfl (pP rfl T.z_zip (ad (aa 1) (ad (aa 2) ai))) (cX rfl (aM (aD (i:=4) S.nd rfl (Or.inl rfl)) (aM (aD (i:=5) S.nd rfl (Or.inl rfl)) b_)) (au (au ba))) (ag (bQ PassesOwn.never rfl (aR (QF.qe (aQ (qU T hB) hr T.t_q38 (ao (aa 0) (ao (aa 4) am))))) (aD (i:=6) S.nd rfl (Or.inl rfl)) (ag (sR (i:=3) rfl (aa 5) (aB bF dI (aa 6) ae))))))
  (ag (bG (cB 3))))),fun ds q h=>?_⟩
 case hl=>intro ds q h; obtain ⟨ps,rs,as,fs,rfl,_⟩:=h; rfl
 obtain ⟨ps,rs,as,fs,rfl,hT,ha,hl,q0⟩:=h
 have hal:=ha.len
 have hti:=hT.hi
 refine ⟨⟨by rw [ar]; omega,by rw [ar]; omega,by rw [ar]; simp; omega⟩,?_⟩
 rw [ar,iq,Int.toNat_natCast,gv]
 refine ⟨aO _,?_⟩
 refine ⟨fun i ρ=>∃ v4 v5 v6,ρ=[some (aZ ps rs),some (dg as),some (af fs),some (af (bJ ps (as.take i) (fs.take i) (List.replicate ps.length 0))),v4,v5,v6],⟨_,_,_,rfl⟩,?_,?_⟩
 ·rintro i d ρ hd ⟨v4,v5,v6,rfl⟩
  obtain ⟨x,y,hx,hy,rfl⟩:=jQ hd
  obtain ⟨a,hr,rfl⟩:=m_ hx
  obtain ⟨z,hz,rfl⟩:=cH hy
  have hok:=ha.ok a (List.mem_of_getElem? hr)
  refine ⟨ps,rs,a,rfl,hT,hok.ends,?_⟩
  refine ⟨fun j ρ=>∃ v,ρ=[some (aZ ps rs),some (dg as),some (af fs),some (af (bt (bJ ps (as.take i) (fs.take i) (List.replicate ps.length 0)) ((ax ps a).take j) z)),some (er a),some (.int z),v],⟨_,rfl⟩,?_,?_⟩
  ·rintro j d ρ hd ⟨v,rfl⟩
   obtain ⟨t,ht,rfl⟩:=cH hd
   have hm:=cS hT hok.ends (List.mem_of_getElem? ht)
   have hlen:(bt (bJ ps (as.take i) (fs.take i) (List.replicate ps.length 0)) ((ax ps a).take j) z).length=ps.length:=by rw [bU,eZ,List.length_replicate]
   refine ⟨by omega,?_⟩
   rw [bb (by omega) (by omega)]
   show (match ixN ((bt (bJ ps (as.take i) (fs.take i) (List.replicate ps.length 0)) ((ax ps a).take j) z).map D.int).length (t - 1) with | some _=>_ | none=>False)
   rw [ar,fK (by omega) (by omega)]
   refine ⟨some (.int t),?_⟩
   rw [List.take_add_one,ht]
   show _=[_,_,_,some (af (bt _ (_++[t]) _)),_,_,_]
   rw [gb,g8,← dY]; rfl
  ·rintro ρ ⟨v,rfl⟩
   refine ⟨some (er a),some (.int z),v,?_⟩
   rw [ar,List.take_length,ie ps as fs _ i a z hr hz]
 ·rintro ρ ⟨v4,v5,v6,rfl⟩
  have e:(iN (as.map er) (fs.map D.int)).length=as.length:=by unfold iN; rw [List.length_zipWith,List.length_map,List.length_map]; omega
  rw [e,List.take_length,← hl,List.take_length]
  exact q0
def leB (t r:Int):Bool:=decide (t≤r)
def kC (ps rs:List Int) (as:List Ask):D→Bool
 | .lst ds=>decide (ds.length=as.length)&&(ds.all f_&&(List.zipWith leB (bJ ps as (ds.map iu) (List.replicate ps.length 0)) rs).all id)
 | _=>false
def wd:SpD:=fun ds q=>∃ ps rs as x,ds=[aZ ps rs,dg as,x]∧Tree ps rs∧AsksOk ps as∧pln x=true∧(∀ ds,x = .lst ds→ds.length≤1000)∧q (.bl (kC ps rs as x)) []
def cntF (d:D):D:=.bl (f_ d)
theorem qk (ds:List D):ds.map cntF=(ds.map f_).map D.bl:=by rw [List.map_map]; rfl
theorem kF:∀ {ds:List D},ds.all f_=true→ds=(ds.map iu).map D.int∧∀ z∈ds.map iu,0≤z
 | [],_=>⟨rfl,fun z h=>by cases h⟩
 | d :: ds,h=>by
  rw [List.all_cons,Bool.and_eq_true] at h
  obtain ⟨e,hn⟩:=kF h.2
  have h1:=h.1
  cases d with
  | int i =>
   refine ⟨by rw [List.map_cons,List.map_cons,← e]; rfl,fun z hz=>?_⟩
   rcases List.mem_cons.mp hz with rfl | hz
   ·exact of_decide_eq_true h1
   ·exact hn z hz
  | _=>cases h1
def leF:D→D
 | .tup [.int t,.int r]=>.bl (leB t r)
 | d=>d
theorem nk:∀ (ts rs:List Int),(iN (ts.map D.int) (rs.map D.int)).map leF=(List.zipWith leB ts rs).map D.bl
 | [],_=>rfl
 | _ :: _,[]=>rfl
 | t :: ts,r :: rs=>by
  have ih:=nk ts rs
  unfold iN at *
  rw [List.map_cons,List.map_cons,List.zipWith_cons_cons,List.map_cons,ih]; rfl
theorem o7 (T:Txt K mg A) (hB:TabB base mg A.tc A.tP tqS):FnOk P w K mg base CX0 9 A.f_q24 A.d_q24 ["tree","asks","thing"] (a9 [false,false,false] false (wd)):=by
 have S:=vO
 refine fnD T.t_q24.F S ⟨[false,false,false],[false,false,false],false⟩ _ ?hl rfl rfl fun cdv Ar outer s H E hr=>⟨_,(ac (dt (ah (rL T hB) hr T.t_q4 (ao (aa 0) (ao (aa 1) am))))
  (ac (bu (QW.qt (gw (bx (bc (d8 rfl T.z_isinstance a8 (aa 2) (cN (v:=.ty "list") rfl T.z_list cA rfl)))) (eG (aX (c_ hr.units) dNe (aq aw cE rfl T.z_len a_ (ad (aa 2) ai)) (aq aw cE rfl T.z_len a_ (ad (aa 1) ai)) (aU _))))) (ag (aE ck)) aL)
  (ac (bu (bx (bc (aq (ga rfl) dAll rfl T.z_all lB (ad (bp ["often"] [] ⟨rfl,rfl,by decide +kernel,rfl,rfl,(by first | exact trivial | exact ⟨rfl,trivial⟩ | exact ⟨rfl,rfl,trivial⟩ | exact ⟨rfl,rfl,rfl,trivial⟩ | exact ⟨rfl,rfl,rfl,rfl,trivial⟩),rfl⟩ rfl (aR (aa 2)) (a6 0) (fun _ _ _ _=>⟨(aP (i:=0) (show List.Nodup (["often"]:List Str) by decide +kernel) rfl (Or.inl rfl)),bL,(ah (uz T hB) hr T.t_q17 (ao (aa 0) am))⟩)) ai)))) (ag (aE ck)) aL)
  (ag (aE (aq (ga rfl) dAll rfl T.z_all lB (ad (bp ["taken","room"] [] ⟨rfl,rfl,by decide +kernel,rfl,rfl,(by first | exact trivial | exact ⟨rfl,trivial⟩ | exact ⟨rfl,rfl,trivial⟩ | exact ⟨rfl,rfl,rfl,trivial⟩ | exact ⟨rfl,rfl,rfl,rfl,trivial⟩),rfl⟩ rfl (pP rfl T.z_zip (ad (QF.qe (aQ (vf T hB) hr T.t_q22 (ao (aa 0) (ao (aa 1) (ao (aa 2) am))))) (ad (aH az dIx (aa 0) ae (fun _ _=>rfl)) ai))) (vQ (j_ (a6 0) (j_ (a6 1) sP)) (au (au ba))) (fun _ _ _ _=>⟨(li rfl (eH (aP (i:=0) (show List.Nodup (["taken","room"]:List Str) by decide +kernel) rfl (Or.inl rfl)) (eH (aP (i:=1) (show List.Nodup (["taken","room"]:List Str) by decide +kernel) rfl (Or.inl rfl)) jk))),bL,(em jc dB (aa 0) (aa 1) (aU _))⟩)) ai))))))),fun ds q h=>?_⟩
 case hl=>intro ds q h; obtain ⟨ps,rs,as,x,rfl,_⟩:=h; rfl
 obtain ⟨ps,rs,as,x,rfl,hT,ha,hp,hxl,q0⟩:=h
 have hal:=ha.len
 have hti:=hT.hi
 have hlr:=hT.len
 refine ⟨ps,rs,as,rfl,hT,ha,?_⟩
 cases x with
 | lst ds =>
  have hdl:=hxl ds rfl
  have e0:kC ps rs as (.lst ds)=(decide (ds.length=as.length)&&(ds.all f_&&(List.zipWith leB (bJ ps as (ds.map iu) (List.replicate ps.length 0)) rs).all id)):=rfl
  rw [e0] at q0
  refine (bS (c:=(!decide ((ds.length:Int)=((as.map er).length:Int)))=true) (fun c=>?_) (fun c=>?_))
  ·rw [bD] at c
   have hne : ¬ ds.length=as.length:=by simp at c; omega
   rw [decide_eq_false hne] at q0; exact q0
  have hle:ds.length=as.length:=by rw [bD] at c; simp at c; omega
  rw [decide_eq_true hle] at q0
  refine ⟨by omega,?_⟩
  refine bA cntF ?_ ?_
  ·intro d hd k hk
   exact ⟨d,rfl,h9 (by rw [pln] at hp; exact hp) hd,hk⟩
  rw [qk]
  refine ⟨_,rfl,?_⟩
  have e1:(ds.map f_).all id=ds.all f_:=by rw [List.all_map]; rfl
  rw [e1]
  cases hc:ds.all f_ with
  | false=>rw [hc] at q0; exact q0
  | true =>
   rw [hc] at q0
   obtain ⟨ed,hn⟩:=kF hc
   have hml:(ds.map iu).length=as.length:=by rw [List.length_map]; exact hle
   generalize ds.map iu=fs at ed hn hml q0
   subst ed
   refine ⟨ps,rs,as,fs,rfl,hT,ha,hml,?_⟩
   refine ⟨by unfold iN; rw [List.length_zipWith,List.length_map,List.length_map]; omega,?_⟩
   refine bA leF ?_ ?_
   ·intro d hd k hk
    obtain ⟨i,hi⟩:=List.getElem?_of_mem hd
    obtain ⟨u,v,hu,hv,rfl⟩:=jQ hi
    obtain ⟨t,_,rfl⟩:=cH hu
    obtain ⟨r,_,rfl⟩:=cH hv
    exact hk
   rw [nk]
   refine ⟨_,rfl,?_⟩
   exact q0
 | _=>first | exact q0 | (rw [pln] at hp; cases hp)
end
end K61
namespace K61
open PySem L2
section
variable {P:Program} {w:World} {K:PySem.W.Frag} {mg:Str→Option Value} {base:Heap} {A:Adr}
structure CutIn (ps cu:List Int):Prop where
 up:cu.Pairwise (· < ·)
 lo:∀ t∈cu,0<t∧t≤(ps.length:Int)
theorem CutIn.len {ps cu:List Int} (h:CutIn ps cu):cu.length≤ps.length:=by
 have hn:cu.Nodup:=h.up.imp fun h e=>by omega
 have:=hn.length_le_of_subset (l₂:=(List.range ps.length).map fun j=>((j + 1:Nat):Int)) fun x hx=>by
  have:=h.lo x hx
  exact List.mem_map.mpr ⟨(x - 1).toNat,List.mem_range.mpr (by omega),by omega⟩
 rw [List.length_map,List.length_range] at this
 exact this
def fQ (n:Int):Int→List D→Bool
 | _,[]=>true
 | l,.int z :: ds=>(decide (l≤z)&&decide (z≤n))&&fQ n (z + 1) ds
 | _,_=>false
theorem g9 (n l:Int) (d:D) (ds:List D):fQ n l (d :: ds)=(btw l n d&&match d with | .int z=>fQ n (z + 1) ds | _=>false):=by
 cases d <;> first | rfl | exact (Bool.false_and _).symm
def ln (n:Int):D→Bool
 | .lst ds=>fQ n 1 ds
 | _=>false
theorem gX {n:Int}:∀ {ds:List D} {l:Int},fQ n l ds=true→∃ cu:List Int,ds=cu.map D.int∧cu.Pairwise (· < ·)∧∀ t∈cu,l≤t∧t≤n
 | [],_,_=>⟨[],rfl,.nil,fun t h=>by cases h⟩
 | d :: ds,l,h=>by
  rw [g9,Bool.and_eq_true] at h
  obtain ⟨h1,h2⟩:=h
  obtain ⟨z,rfl,z1,z2⟩:=i_ h1
  obtain ⟨cu,rfl,u1,u2⟩:=gX h2
  exact ⟨z :: cu,rfl,List.pairwise_cons.mpr ⟨fun t ht=>by have:=(u2 t ht).1; omega,u1⟩,fun t ht=>by
   rcases List.mem_cons.mp ht with rfl | ht
   ·exact ⟨z1,z2⟩
   ·have:=u2 t ht; omega⟩
theorem ka {n:Int}:∀ {cu:List Int} {l:Int},cu.Pairwise (· < ·)→(∀ t∈cu,l≤t∧t≤n)→fQ n l (cu.map D.int)=true
 | [],_,_,_=>rfl
 | z :: cu,l,h1,h2=>by
  obtain ⟨a,b⟩:=List.pairwise_cons.mp h1
  have hz:=h2 z List.mem_cons_self
  show ((decide (l≤z)&&decide (z≤n))&&fQ n (z + 1) (cu.map D.int))=true
  rw [decide_eq_true hz.1,decide_eq_true hz.2,ka b fun t ht=>⟨by have:=a t ht; omega,(h2 t (List.mem_cons_of_mem _ ht)).2⟩]; rfl
theorem oG {ps:List Int} {x:D} (h:ln ps.length x=true):∃ cu,x=af cu∧CutIn ps cu:=by
 cases x with
 | lst ds =>
  obtain ⟨cu,rfl,u1,u2⟩:=gX h
  exact ⟨cu,rfl,u1,fun t ht=>by have:=u2 t ht; omega⟩
 | _=>cases h
theorem CutIn.b {ps cu:List Int} (h:CutIn ps cu):ln ps.length (af cu)=true:=ka h.up fun t ht=>by have:=h.lo t ht; omega
def pr:SpD:=fun ds q=>∃ ps rs x,ds=[aZ ps rs,x]∧pln x=true∧q (.bl (ln ps.length x)) []
theorem uV (T:Txt K mg A) (hB:TabB base mg A.tc A.tP tqS):FnOk P w K mg base CX0 3 A.f_q33 A.d_q33 ["tree","thing"] (a9 [false,false] false (pr)):=by
 have S:=w5
 refine fnD T.t_q33.F S ⟨[false,false],[false,false,false,false],false⟩ _ ?hl rfl rfl fun cdv Ar outer s H E hr=>⟨_,(ac (bu (bx (bc (d8 rfl T.z_isinstance a8 (aa 1) (cN (v:=.ty "list") rfl T.z_list cA rfl)))) (ag (aE ck)) aL)
  (ac (aT (i:=2) S.nd rfl (Or.inl rfl) ae)
  (ac (bQ PassesOwn.never rfl (aR (aa 1)) (aD (i:=3) S.nd rfl (Or.inl rfl)) (ac (bu (bx (bc (ah (iW T hB) hr T.t_q8 (ao (aa 3) (ao (aa 2) (ao (aq aw cE rfl T.z_len a_ (ad (aH az dIx (aa 0) ae (fun _ _=>rfl)) ai)) am)))))) (ag (aE ck)) aL)
  (ag (aT (i:=2) S.nd rfl (Or.inl rfl) (aB bM dI (aa 3) ae)))))
  (ag (aE ck))))),fun ds q h=>?_⟩
 case hl=>intro ds q h; obtain ⟨ps,rs,x,rfl,_⟩:=h; rfl
 obtain ⟨ps,rs,x,rfl,hp,q0⟩:=h
 cases x with
 | lst ds =>
  have hpl:∀ d∈ds,pln d=true:=fun d hd=>h9 (show plns ds=true by rw [pln] at hp; exact hp) hd
  refine ⟨fun i ρ=>∃ (l:Int) (v:Option D),ρ=[some (aZ ps rs),some (.lst ds),some (.int l),v]∧fQ ps.length 1 ds=fQ ps.length l (ds.drop i),⟨1,_,rfl,rfl⟩,?_,?_⟩
  ·rintro i d ρ hd ⟨l,v,rfl,hl⟩
   have hdr:ds.drop i=d :: ds.drop (i + 1):=by
    obtain ⟨h1,h2⟩:=List.getElem?_eq_some_iff.mp hd
    rw [List.drop_eq_getElem_cons h1,h2]
   rw [hdr,g9] at hl
   refine ⟨d,l,((ps.map D.int).length:Int),rfl,nh (hpl d (List.mem_of_getElem? hd)),?_⟩
   rw [ar]
   cases e:btw l ps.length d with
   | false =>
    rw [e,Bool.false_and] at hl
    have e2:ln ps.length (.lst ds)=false:=hl
    rw [e2] at q0; exact q0
   | true =>
    obtain ⟨z,rfl,z1,z2⟩:=i_ e
    rw [e,Bool.true_and] at hl
    exact ⟨z + 1,some (.int z),rfl,hl⟩
  ·rintro ρ ⟨l,v,rfl,hl⟩
   rw [List.drop_length] at hl
   have e2:ln ps.length (.lst ds)=true:=hl
   rw [e2] at q0; exact q0
 | _=>first | exact q0 | (rw [pln] at hp; cases hp)
def tieF (cu:List Int):D→D
 | .int t=>.bl (cu.contains t)
 | d=>d
theorem qQ (cu w:List Int):(w.map D.int).map (tieF cu)=(w.map fun t=>cu.contains t).map D.bl:=by rw [List.map_map,List.map_map]; rfl
def anyF (cu:List Int):D→D
 | .lst ds=>.bl (ds.any fun d=>match d with | .int t=>cu.contains t | _=>false)
 | d=>d
theorem nq (cu w:List Int):anyF cu (af w) = .bl (w.any fun t=>cu.contains t):=by
 show D.bl ((w.map D.int).any _)=_
 rw [List.any_map]; rfl
theorem kj (cu:List Int):∀ ws:List (List Int),(ws.map af).map (anyF cu)=(ws.map fun w=>w.any fun t=>cu.contains t).map D.bl
 | []=>rfl
 | w :: ws=>by rw [List.map_cons,List.map_cons,kj cu ws,nq]; rfl
def mT:SpD:=fun ds q=>∃ ws cu,ds=[dl ws,af cu]∧ws.length≤1000∧(∀ w∈ws,w.length≤1000)∧q (.bl (bf ws cu)) []
theorem pE (T:Txt K mg A) (hB:TabB base mg A.tc A.tP tqS):FnOk P w K mg base CX0 1 A.f_q11 A.d_q11 ["ways","cut"] (a9 [false,false] false (mT)):=by
 have S:=vT
 refine fnD T.t_q11.F S ⟨[false,false],[false,false],false⟩ _ ?hl rfl rfl fun cdv Ar outer s H E hr=>⟨_,(ag (aE (aq (ga rfl) dAll rfl T.z_all lB (ad (bp ["way"] [1] ⟨rfl,rfl,by decide +kernel,rfl,rfl,(by first | exact trivial | exact ⟨rfl,trivial⟩ | exact ⟨rfl,rfl,trivial⟩ | exact ⟨rfl,rfl,rfl,trivial⟩ | exact ⟨rfl,rfl,rfl,rfl,trivial⟩),rfl⟩ rfl (aR (aa 0)) (a6 0) (fun _ _ _ _=>⟨(aP (i:=0) (show List.Nodup (["way","cut"]:List Str) by decide +kernel) rfl (Or.inl rfl)),bL,(aq (nC rfl) dAny rfl T.z_any vg (ad (bp ["tie"] [1] ⟨rfl,rfl,by decide +kernel,rfl,rfl,(by first | exact trivial | exact ⟨rfl,trivial⟩ | exact ⟨rfl,rfl,trivial⟩ | exact ⟨rfl,rfl,rfl,trivial⟩ | exact ⟨rfl,rfl,rfl,rfl,trivial⟩),rfl⟩ rfl (aR (aa 0)) (a6 0) (fun _ _ _ _=>⟨(aP (i:=0) (show List.Nodup (["tie","cut"]:List Str) by decide +kernel) rfl (Or.inl rfl)),bL,(em eV dIn (aa 0) (aa 1) rfl)⟩)) ai))⟩)) ai)))),fun ds q h=>?_⟩
 case hl=>intro ds q h; obtain ⟨ws,cu,rfl,_⟩:=h; rfl
 obtain ⟨ws,cu,rfl,hl,hw,q0⟩:=h
 refine ⟨by rw [List.length_map]; exact hl,?_⟩
 refine bA (anyF cu) ?_ ?_
 ·intro d hd k hk
  obtain ⟨w,hm,rfl⟩:=List.mem_map.mp hd
  refine ⟨by rw [ar]; exact hw w hm,?_⟩
  refine bA (tieF cu) ?_ ?_
  ·intro d hd k hk
   obtain ⟨t,ht,rfl⟩:=bC hd
   refine ⟨rfl,bX cu,?_⟩
   show k (.bl (inD (.int t) (cu.map D.int)))
   rw [cF]; exact hk
  rw [qQ]
  refine ⟨_,rfl,?_⟩
  rw [nq] at hk
  rw [show ((w.map fun t=>cu.contains t).any id)=w.any fun t=>cu.contains t by rw [List.any_map]; rfl]
  exact hk
 rw [kj]
 refine ⟨_,rfl,?_⟩
 rw [show ((ws.map fun w=>w.any fun t=>cu.contains t).all id)=bf ws cu by rw [List.all_map]; rfl]
 exact q0
theorem jw {ps rs:List Int} {as:List Ask} (hT:Tree ps rs) (ha:AsksOk ps as):(aF ps as).length≤1000∧∀ w∈aF ps as,w.length≤1000:=by
 have:=ha.len
 refine ⟨by unfold aF; rw [List.length_map]; omega,fun w hw=>?_⟩
 obtain ⟨a,hm,rfl⟩:=List.mem_map.mp hw
 exact Nat.le_trans (e_ hT (ha.ok a hm).ends) (by decide)
def t6:D→List Int
 | .lst ds=>ds.map fun d=>match d with | .int z=>z | _=>0
 | _=>[]
theorem ik (cu:List Int):t6 (af cu)=cu:=by
 show (cu.map D.int).map _=cu
 rw [List.map_map]
 exact List.map_id cu
def iF (ps:List Int) (as:List Ask) (x:D):Bool:=ln ps.length x&&bf (aF ps as) (t6 x)
def p_:SpD:=fun ds q=>∃ ps rs as x,ds=[aZ ps rs,dg as,x]∧Tree ps rs∧AsksOk ps as∧pln x=true∧q (.bl (iF ps as x)) []
theorem lW (T:Txt K mg A) (hB:TabB base mg A.tc A.tP tqS):FnOk P w K mg base CX0 9 A.f_q14 A.d_q14 ["tree","asks","thing"] (a9 [false,false,false] false (p_)):=by
 have S:=vC
 refine fnD T.t_q14.F S ⟨[false,false,false],[false,false,false],false⟩ _ ?hl rfl rfl fun cdv Ar outer s H E hr=>⟨_,(ac (dt (ah (rL T hB) hr T.t_q4 (ao (aa 0) (ao (aa 1) am))))
  (ag (aE (dF (ah (uV T hB) hr T.t_q33 (ao (aa 0) (ao (aa 2) am))) (eN (ah (pE T hB) hr T.t_q11 (ao (ah (pD T hB) hr T.t_q28 (ao (aa 0) (ao (aa 1) am))) (ao (aa 2) am)))))))),fun ds q h=>?_⟩
 case hl=>intro ds q h; obtain ⟨ps,rs,as,x,rfl,_⟩:=h; rfl
 obtain ⟨ps,rs,as,x,rfl,hT,ha,hx,q0⟩:=h
 refine ⟨ps,rs,as,rfl,hT,ha,?_⟩
 refine ⟨ps,rs,x,rfl,hx,?_⟩
 cases e:ln ps.length x with
 | false =>
  have e2:iF ps as x=false:=by unfold iF; rw [e]; rfl
  rw [e2] at q0; exact q0
 | true =>
  obtain ⟨cu,rfl,hc⟩:=oG e
  have e2:iF ps as (af cu)=bf (aF ps as) cu:=by unfold iF; rw [e,ik]; rfl
  rw [e2] at q0
  refine ⟨ps,rs,as,rfl,hT,ha,?_⟩
  obtain ⟨w1,w2⟩:=jw hT ha
  exact ⟨_,cu,rfl,w1,w2,q0⟩
def k9 (rs:List Int):D→D
 | .int t=>.int (rs.getD (t - 1).toNat 0)
 | d=>d
theorem iy (rs cu:List Int):(cu.map D.int).map (k9 rs)=(cu.map fun t=>rs.getD (t - 1).toNat 0).map D.int:=by rw [List.map_map,List.map_map]; rfl
end
end K61
namespace K61
open PySem L2
section
variable {P:Program} {w:World} {K:PySem.W.Frag} {mg:Str→Option Value} {base:Heap} {A:Adr}
def uk (l:List Int):D→D
 | .int t=>.int (l.getD (t - 1).toNat 0)
 | d=>d
theorem oN (l w:List Int):(w.map D.int).map (uk l)=(w.map fun t=>l.getD (t - 1).toNat 0).map D.int:=by rw [List.map_map,List.map_map]; rfl
def tN:SpD:=fun ds q=>∃ w l,ds=[af w,af l]∧0<w.length∧w.length≤1000∧(∀ t∈w,0<t∧t≤(l.length:Int))∧∀ m,(∃ t∈w,l.getD (t - 1).toNat 0=m)→(∀ t∈w,m≤l.getD (t - 1).toNat 0)→q (.int m) [some (af (bt l w (-m)))]
theorem vH (T:Txt K mg A) (hB:TabB base mg A.tc A.tP tqS):FnOk P w K mg base CX0 1 A.f_q43 A.d_q43 ["way","left"] (a9 [false,true] false (tN)):=by
 have S:=uM
 refine fnD T.t_q43.F S ⟨[false,true],[false,true,false,false],false⟩ _ ?hl rfl rfl fun cdv Ar outer s H E hr=>⟨_,(ac (aT (i:=2) S.nd rfl (Or.inl rfl) (QE.bor [1] (aq (eT rfl) nr rfl T.z_min de (ad (bp ["tie"] [1] ⟨rfl,rfl,by decide +kernel,rfl,rfl,(by first | exact trivial | exact ⟨rfl,trivial⟩ | exact ⟨rfl,rfl,trivial⟩ | exact ⟨rfl,rfl,rfl,trivial⟩ | exact ⟨rfl,rfl,rfl,rfl,trivial⟩),rfl⟩ rfl (aR (aa 0)) (a6 0) (fun _ _ _ _=>⟨(aP (i:=0) (show List.Nodup (["tie","left"]:List Str) by decide +kernel) rfl (Or.inl rfl)),bL,(aH az dIx (aa 1) (aB bF dI (aa 0) ae) (fun _ _=>rfl))⟩)) ai))))
  (ac (bQ PassesOwn.never rfl (aR (aa 0)) (aD (i:=3) S.nd rfl (Or.inl rfl)) (ag (tT uT (i:=1) rfl (aa 2) (aB bF dI (aa 3) ae))))
  (ag (aE (aa 2))))),fun ds q h=>?_⟩
 case hl=>intro ds q h; obtain ⟨w,l,rfl,_⟩:=h; rfl
 obtain ⟨w,l,rfl,hw0,hwl,hw,q0⟩:=h
 refine ⟨by rw [ar]; exact hwl,?_⟩
 refine bA (uk l) ?_ ?_
 ·intro d hd k hk
  obtain ⟨t,ht,rfl⟩:=bC hd
  have:=hw t ht
  refine aY (bb (by omega) (by omega)) ?_
  exact hk
 rw [oN]
 refine ⟨_,rfl,by rw [List.length_map]; exact hw0,fun m hm hmin=>?_⟩
 refine ⟨rfl,?_⟩
 obtain ⟨t0,ht0,et0⟩:=List.mem_map.mp hm
 have hmin2:∀ t∈w,m≤l.getD (t - 1).toNat 0:=fun t ht=>hmin _ (List.mem_map.mpr ⟨t,ht,rfl⟩)
 refine ⟨fun i ρ=>∃ v,ρ=[some (af w),some (af (bt l (w.take i) (-m))),some (.int m),v],⟨_,rfl⟩,?_,?_⟩
 ·rintro i d ρ hd ⟨v,rfl⟩
  obtain ⟨z,hz,rfl⟩:=cH hd
  have hm:=hw z (List.mem_of_getElem? hz)
  have hlen:(bt l (w.take i) (-m)).length=l.length:=bU _ _ _
  refine ⟨by omega,?_⟩
  rw [bb (by omega) (by omega)]
  show (match ixN ((bt l (w.take i) (-m)).map D.int).length (z - 1) with | some _=>_ | none=>False)
  rw [ar,fK (by omega) (by omega)]
  refine ⟨some (.int z),?_⟩
  rw [List.take_add_one,hz]
  show _=[_,some (af (bt l (_++[z]) (-m))),_,_]
  rw [gb,g8,← dY]; rfl
 ·rintro ρ ⟨v,rfl⟩
  rw [ar,List.take_length]
  exact q0 m ⟨t0,ht0,et0⟩ hmin2
theorem kO {ps rs:List Int} {as:List Ask} {X:List Int} {S:FC} (h:FI ps rs as X S):S.row.length≤ps.length:=by
 have:=h.rn.length_le_of_subset (l₂:=(List.range ps.length).map fun j=>((j + 1:Nat):Int)) fun x hx=>by
  have:=(h.rw x).mp hx
  exact List.mem_map.mpr ⟨(x - 1).toNat,List.mem_range.mpr (by omega),by omega⟩
 rw [List.length_map,List.length_range] at this
 exact this
def newF (l row:List Int):D→Option D
 | .int t=>if (decide (l.getD (t - 1).toNat 0=0) && !row.contains t)=true then some (.int t) else none
 | _=>none
theorem jV (l row:List Int):∀ w:List Int,(w.map D.int).filterMap (newF l row)=(w.filter fun t=>decide (l.getD (t - 1).toNat 0=0) && !row.contains t).map D.int
 | []=>rfl
 | t :: w=>by
  have ih:=jV l row w
  rw [List.map_cons,List.filterMap_cons,List.filter_cons]
  have e:newF l row (.int t)=if (decide (l.getD (t - 1).toNat 0=0) && !row.contains t)=true then some (.int t) else none:=rfl
  rw [e]
  by_cases h:(decide (l.getD (t - 1).toNat 0=0) && !row.contains t)=true
  ·rw [if_pos h,if_pos h]; simp only [List.map_cons]; rw [ih]
  ·rw [if_neg h,if_neg h]; simp only; rw [ih]
def sY:SpD:=fun ds q=>∃ ps rs as o,ds=[aZ ps rs,dl (aF ps as),af o]∧Tree ps rs∧AsksOk ps as∧gB ps as o∧∀ S,FillC ps rs as o S→q (.tup [af S.flow,af S.row]) []
theorem wZ (T:Txt K mg A) (hB:TabB base mg A.tc A.tP tqS):FnOk P w K mg base CX0 2 A.f_q12 A.d_q12 ["tree","ways","order"] (a9 [false,false,false] true (sY)):=by
 have S:=wL
 refine fnD T.t_q12.F S ⟨[false,false,false],[false,false,false,true,true,true,false],true⟩ _ ?hl rfl rfl fun cdv Ar outer s H E hr=>⟨_,(ac (bv (i:=3) S.nd rfl (Or.inr rfl) (gm cO nz rfl T.z_list cA (ad (aH az dIx (aa 0) ae (fun _ _=>rfl)) ai)))
  (ac (bv (i:=4) S.nd rfl (Or.inl rfl) (qD lz dRep (df (ad ae ai)) (aq aw cE rfl T.z_len a_ (ad (aa 1) ai))))
  (ac (bv (i:=5) S.nd rfl (Or.inr rfl) (eO ai))
  (ac (bQ PassesOwn.never rfl (aR (aa 2)) (aD (i:=6) S.nd rfl (Or.inl rfl)) (ac (fE (i:=4) rfl (QE.qf (ah (vH T hB) hr T.t_q43 (ao (aH az dIx (aa 1) (aa 6) (fun _ _=>rfl)) (cI 3 am)))) (aa 6))
  (ag (nX (i:=5) rfl (QF.qe (QF.bor [3,5] (sF ["tie"] [5,3] ⟨rfl,rfl,by decide +kernel,rfl,rfl,(by first | exact trivial | exact ⟨rfl,trivial⟩ | exact ⟨rfl,rfl,trivial⟩ | exact ⟨rfl,rfl,rfl,trivial⟩ | exact ⟨rfl,rfl,rfl,rfl,trivial⟩),rfl⟩ rfl (aR (aH az dIx (aa 1) (aa 6) (fun _ _=>rfl))) (a6 0) (fun _ _ _ _=>⟨(aP (i:=0) (show List.Nodup (["tie","row","left"]:List Str) by decide +kernel) rfl (Or.inl rfl)),(cz (QW.qt (jO (aX (gi hr.units) dEq (aH az dIx (aa 2) (aB bF dI (aa 0) ae) (fun _ _=>rfl)) ae (aU _)) (gS (aX cR dIn (aa 0) (aa 1) rfl))))),(aa 0)⟩))))))))
  (ag (bG (lh (dJ (cB 4) (dJ (cB 5) jA))))))))),fun ds q h=>?_⟩
 case hl=>intro ds q h; obtain ⟨ps,rs,as,o,rfl,_⟩:=h; rfl
 obtain ⟨ps,rs,as,o,rfl,hT,ha,ho,q0⟩:=h
 have hal:=ha.len
 have hti:=hT.hi
 have hlr:=hT.len
 obtain ⟨hol,hor⟩:=ho.mem
 have hon:=ho.ord.1
 have hwl:(aF ps as).length=as.length:=by unfold aF; rw [List.length_map]
 refine ⟨aO _,?_⟩
 refine ⟨⟨by rw [List.length_map]; omega,by rw [List.length_map]; omega,by rw [List.length_map]; simp; omega⟩,?_⟩
 rw [List.length_map,hwl,iq,Int.toNat_natCast,gv]
 refine ⟨aO _,?_⟩
 refine ⟨rfl,?_⟩
 refine ⟨fun i ρ=>∃ (S:FC) (v6:Option D),ρ=[some (aZ ps rs),some (dl (aF ps as)),some (af o),some (af S.left),some (af S.flow),some (af S.row),v6]∧FillC ps rs as (o.take i) S,⟨⟨rs,List.replicate as.length 0,[]⟩,_,rfl,.nil⟩,?_,?_⟩
 rotate_left
 ·rintro ρ ⟨S,v6,rfl,hS⟩
  rw [ar,List.take_length] at hS
  exact q0 S hS
 rintro i d ρ hd ⟨S,v6,rfl,hS⟩
 obtain ⟨z,hz,rfl⟩:=cH hd
 have hil:i<o.length:=(List.getElem?_eq_some_iff.mp hz).1
 have hzb:=hor z (List.mem_of_getElem? hz)
 have hF:=hS.fi hT ha (hon.sublist (List.take_sublist _ _))
 have hok:=dz ha hzb.1 hzb.2
 have hwy:=gM (ps:=ps) hzb.1 hzb.2
 have hwm:∀ t∈ax ps (aK as z),0<t∧t≤(ps.length:Int):=fun t ht=>cS hT hok.ends ht
 have hw46:(ax ps (aK as z)).length≤46:=e_ hT hok.ends
 have hll:=hF.ll
 have hfl:=hF.fl
 refine aY hwy ?_
 refine ⟨ax ps (aK as z),S.left,rfl,ji hT hok.ends,by omega,fun t ht=>by rw [hll]; exact hwm t ht,fun m hm hl=>?_⟩
 refine ⟨rfl,?_⟩
 show (match ixN (S.flow.map D.int).length z with | some _=>_ | none=>False)
 rw [ar,fK hzb.1 (by omega)]
 refine aY hwy ?_
 refine ⟨by rw [ar]; omega,?_⟩
 have hll2:(bt S.left (ax ps (aK as z)) (-m)).length=ps.length:=by rw [bU]; exact hll
 refine bV (newF (bt S.left (ax ps (aK as z)) (-m)) S.row) ?_ ?_
 ·intro d hd k hk
  obtain ⟨t,ht,rfl⟩:=bC hd
  have htb:=hwm t ht
  refine aY (bb (by omega) (by omega)) ?_
  have e:newF (bt S.left (ax ps (aK as z)) (-m)) S.row (.int t)=if (decide ((bt S.left (ax ps (aK as z)) (-m)).getD (t - 1).toNat 0=0) && !S.row.contains t)=true then some (.int t) else none:=rfl
  rw [e] at hk
  refine (bS (c:=decide ((bt S.left (ax ps (aK as z)) (-m)).getD (t - 1).toNat 0=0)=true) (fun c=>?_) (fun c=>?_))
  ·refine ⟨rfl,bX S.row,?_⟩
   rw [c,Bool.true_and] at hk
   have ei:(!inD (.int t) (S.row.map D.int)) = !S.row.contains t:=by rw [cF]
   refine (bS (c:=(!inD (.int t) (S.row.map D.int))=true) (fun c2=>?_) (fun c2=>?_))
   ·rw [ei] at c2; rw [if_pos c2] at hk; exact hk
   ·rw [ei] at c2; rw [if_neg c2] at hk; exact hk
  ·have c':decide ((bt S.left (ax ps (aK as z)) (-m)).getD (t - 1).toNat 0=0)=false:=by simpa using c
   rw [c',Bool.false_and] at hk
   exact hk
 rw [jV]
 have hr23:=kO hF
 refine ⟨aO _,?_⟩
 refine ⟨aO _,aO _,?_,?_⟩
 ·rw [ar,ar]
  have:=List.length_filter_le (fun t=>decide ((bt S.left (ax ps (aK as z)) (-m)).getD (t - 1).toNat 0=0) && !S.row.contains t) (ax ps (aK as z))
  omega
 refine ⟨ly ps as S z m,some (.int z),?_,?_⟩
 ·show _=[_,_,_,some (af (bt S.left (ax ps (aK as z)) (-m))),some (af (S.flow.set z.toNat m)),some (af (S.row++(ax ps (aK as z)).filter fun t=>decide ((bt S.left (ax ps (aK as z)) (-m)).getD (t - 1).toNat 0=0) && !S.row.contains t)),some (.int z)]
  rw [← dY]
  unfold af
  rw [List.map_append]; rfl
 ·rw [List.take_add_one,hz]
  exact .snoc hS hzb.1 hzb.2 hm hl
def uI:SpD:=fun ds q=>∃ ws row,ds=[dl ws,af row]∧ws.length≤1000∧(∀ w∈ws,w.length≤1000)∧row.length≤60∧q (af (bj (ii ws row))) []
theorem nO (ws:List (List Int)) (cu:List Int) (t:Int):(cL ws cu t).length≤cu.length:=by
 unfold cL
 split
 ·exact List.length_filter_le _ _
 ·exact Nat.le_refl _
theorem g6 (ws:List (List Int)):∀ (l cu:List Int),(l.foldl (cL ws) cu).length≤cu.length
 | [],_=>Nat.le_refl _
 | t :: l,cu=>Nat.le_trans (g6 ws l (cL ws cu t)) (nO ws cu t)
def neF (t:Int):D→Option D
 | .int x=>if (!decide (x=t))=true then some (.int x) else none
 | _=>none
theorem gQ (t:Int):∀ l:List Int,(l.map D.int).filterMap (neF t)=(l.filter fun x=>!decide (x=t)).map D.int
 | []=>rfl
 | x :: l=>by
  have ih:=gQ t l
  rw [List.map_cons,List.filterMap_cons,List.filter_cons]
  have e:neF t (.int x)=if (!decide (x=t))=true then some (.int x) else none:=rfl
  rw [e]
  by_cases h:(!decide (x=t))=true
  ·rw [if_pos h,if_pos h]; simp only [List.map_cons]; rw [ih]
  ·rw [if_neg h,if_neg h]; simp only; rw [ih]
theorem u_ (T:Txt K mg A) (hB:TabB base mg A.tc A.tP tqS):FnOk P w K mg base CX0 2 A.f_q27 A.d_q27 ["ways","row"] (a9 [false,false] true (uI)):=by
 have S:=vM
 refine fnD T.t_q27.F S ⟨[false,false],[false,false,false,false,false],true⟩ _ ?hl rfl rfl fun cdv Ar outer s H E hr=>⟨_,(ac (aT (i:=2) S.nd rfl (Or.inl rfl) (lG cO nz rfl T.z_list cA (ad (aa 1) ai)))
  (ac (bQ PassesOwn.never rfl (u7 rfl T.z_reversed (ad (aa 1) ai)) (aD (i:=3) S.nd rfl (Or.inr rfl)) (ac (d_ (i:=4) ["other"] [3] ⟨rfl,rfl,by decide +kernel,rfl,rfl,(by first | exact trivial | exact ⟨rfl,trivial⟩ | exact ⟨rfl,rfl,trivial⟩ | exact ⟨rfl,rfl,rfl,trivial⟩ | exact ⟨rfl,rfl,rfl,rfl,trivial⟩),rfl⟩ rfl S.nd rfl (Or.inl rfl) (aR (aa 2)) (a6 0) (fun _ _ _ _=>⟨(aP (i:=0) (show List.Nodup (["other","tie"]:List Str) by decide +kernel) rfl (Or.inl rfl)),(cz (aX (c_ hr.units) dNe (aa 0) (aa 1) (aU _))),(aa 0)⟩))
  (ag (bu (bc (ah (pE T hB) hr T.t_q11 (ao (aa 0) (ao (aa 4) am)))) (ag (aT (i:=2) S.nd rfl (Or.inl rfl) (aa 4))) aL))))
  (ag (bG (QF.qm (hX d6 lK rfl T.z_sorted e7 (ad (aa 2) ai))))))),fun ds q h=>?_⟩
 case hl=>intro ds q h; obtain ⟨ws,row,rfl,_⟩:=h; rfl
 obtain ⟨ws,row,rfl,hw1,hw2,hrl,q0⟩:=h
 refine ⟨fun i ρ=>∃ v3 v4,ρ=[some (dl ws),some (af row),some (af ((row.reverse.take i).foldl (cL ws) row)),v3,v4],⟨_,_,rfl⟩,?_,?_⟩
 ·rintro i d ρ hd ⟨v3,v4,rfl⟩
  obtain ⟨z,hz,rfl⟩:=cH (ns:=row.reverse) (by rw [List.map_reverse]; exact hd)
  have es:(row.reverse.take (i + 1)).foldl (cL ws) row=cL ws ((row.reverse.take i).foldl (cL ws) row) z:=by rw [List.take_add_one,hz,List.foldl_append]; rfl
  have hcl:=g6 ws (row.reverse.take i) row
  generalize (row.reverse.take i).foldl (cL ws) row=cu at hcl es
  refine ⟨by rw [ar]; omega,?_⟩
  refine bV (neF z) ?_ ?_
  ·intro d hd k hk
   obtain ⟨x,hx,rfl⟩:=bC hd
   have e:neF z (.int x)=if (!decide (x=z))=true then some (.int x) else none:=rfl
   rw [e] at hk
   refine (bS (c:=(!decide (x=z))=true) (fun c=>?_) (fun c=>?_))
   ·rw [if_pos c] at hk; exact hk
   ·rw [if_neg c] at hk; exact hk
  rw [gQ]
  refine ⟨ws,_,rfl,hw1,hw2,?_⟩
  have ef:cL ws cu z=if bf ws (cu.filter fun x=>!decide (x=z))=true then cu.filter fun x=>!decide (x=z) else cu:=rfl
  rw [ef] at es
  refine (bS (c:=bf ws (cu.filter fun x=>!decide (x=z))=true) (fun c=>?_) (fun c=>?_))
  ·rw [if_pos c] at es
   refine ⟨some (.int z),some (af (cu.filter fun x=>!decide (x=z))),?_⟩
   rw [es]; rfl
  ·rw [if_neg c] at es
   refine ⟨some (.int z),some (af (cu.filter fun x=>!decide (x=z))),?_⟩
   rw [es]; rfl
 ·rintro ρ ⟨v3,v4,rfl⟩
  have hcl:=g6 ws row.reverse row
  rw [show ((row.map D.int).reverse).length=row.reverse.length by simp,List.take_length]
  refine ⟨_,rfl,by omega,?_⟩
  first | exact q0 | exact ⟨aO _,q0⟩
def nH:SpD:=fun ds q=>∃ ps rs as,ds=[aZ ps rs,dg as]∧Tree ps rs∧AsksOk ps as∧∀ fl cu,FlowCut2 ps rs as fl cu→q (.tup [af fl,af cu]) []
theorem ok_q2 (T:Txt K mg A) (hB:TabB base mg A.tc A.tP tqS):FnOk P w K mg base CX0 9 A.f_q2 A.d_q2 ["tree","asks"] (a9 [false,false] true (nH)):=by
 have S:=sc_q2
 refine fnD T.t_q2.F S ⟨[false,false],[false,false,false,true,false],true⟩ _ ?hl rfl rfl fun cdv Ar outer s H E hr=>⟨_,(ac (dt (ah (rL T hB) hr T.t_q4 (ao (aa 0) (ao (aa 1) am))))
  (ac (aT (i:=2) S.nd rfl (Or.inl rfl) (ah (pD T hB) hr T.t_q28 (ao (aa 0) (ao (aa 1) am))))
  (ac (mm rfl (QF.qm (aQ (wZ T hB) hr T.t_q12 (ao (aa 0) (ao (aa 2) (ao (ah (ok_q0 T hB) hr T.t_q0 (ao (aa 0) (ao (aa 1) am))) am))))) (ng (i:=3) S.nd rfl (Or.inl rfl) (qE (i:=4) S.nd rfl (Or.inl rfl) mU)) (au (au ba)))
  (ag (bG (lh (dJ (cB 3) (dJ (QF.qm (aQ (u_ T hB) hr T.t_q27 (ao (aa 2) (ao (aa 4) am)))) jA)))))))),fun ds q h=>?_⟩
 case hl=>intro ds q h; obtain ⟨ps,rs,as,rfl,_⟩:=h; rfl
 obtain ⟨ps,rs,as,rfl,hT,ha,q0⟩:=h
 obtain ⟨w1,w2⟩:=jw hT ha
 have hti:=hT.hi
 refine ⟨ps,rs,as,rfl,hT,ha,?_⟩
 refine ⟨ps,rs,as,rfl,hT,ha,?_⟩
 refine ⟨ps,rs,as,rfl,hT,ha,fun o ho=>?_⟩
 refine ⟨ps,rs,as,o,rfl,hT,ha,ho,fun S hS=>?_⟩
 have hr23:=kO (hS.fi hT ha ho.ord.1)
 refine ⟨_,S.row,rfl,w1,w2,by omega,?_⟩
 exact q0 _ _ (oC hT ha ho hS)
end
end K61
namespace K61
open PySem L2
section
variable {P:Program} {w:World} {K:PySem.W.Frag} {mg:Str→Option Value} {base:Heap} {A:Adr}
theorem jE (T:Txt K mg A) (hB:TabB base mg A.tc A.tP tqS):FnOk P w K mg base CX0 1 A.f_q36 A.d_q36 ["_law_script","_law_k"] (a9 [false,false] true (wb K)):=by
 have S:=vK
 refine fnD T.t_q36.F S ⟨[false,false],[false,false,false,false],true⟩ _ ?hl rfl rfl fun cdv Ar outer s H E hr=>⟨_,(ac (aT (i:=2) S.nd rfl (Or.inl rfl) ae)
  (ac (uL (bu (aX uf dB (aa 1) (aq aw cE rfl T.z_len a_ (ad (aa 0) ai)) (aU _)) (ag (aT (i:=2) S.nd rfl (Or.inl rfl) (aH az dIx (aa 0) (aa 1) (fun _ _=>rfl)))) aL))
  (ac (aT (i:=3) S.nd rfl (Or.inl rfl) (aB dD dIC (aB eu dIC (aB bM dI (aB bM dI (aB dD dIC (aa 2) ae) (aB eu dIC (aB eu dIC ae (aa 1)) (aa 1))) ae) ae) ae))
  (ac (bu (aX uf dB (aa 2) (aB fD dIC ae ae) (aU _)) (ag (aT (i:=2) S.nd rfl (Or.inl rfl) ae)) aL)
  (ag (bG (QF.qm (eO (ad (aa 2) (ad (aa 3) ai)))))))))),fun ds q h=>?_⟩
 case hl=>intro ds q h; obtain ⟨φ,ns,k,rfl,_⟩:=h; rfl
 obtain ⟨φ,ns,k,rfl,hφ,h0,h1,q0⟩:=h
 refine ⟨fun ρ=>∃ z:Int,ρ=[some (.scr φ ns),some (.int k),some (.int z),none],?_,?_⟩
 ·refine ⟨hφ,?_⟩
  refine (bS (c:=decide (k<(ns.length:Int))=true) (fun c=>?_) (fun c=>⟨0,rfl⟩))
  have c':k<ns.length:=by simpa using c
  refine ⟨hφ,?_⟩
  show (match atI ns k with | some n=>_ | none=>False)
  rw [wg h0 c']; exact ⟨_,rfl⟩
 rintro ρ ⟨z,rfl⟩
 refine ⟨(show (0:Int)<1000000007 by decide),Or.inl ⟨by decide,by decide⟩,Or.inr ⟨by omega,by omega⟩,Or.inr ⟨by decide,by decide⟩,(show (0:Int)<2147483647 by decide),?_⟩
 refine ⟨⟨by decide,by decide,by decide⟩,?_⟩
 refine (bS (c:=decide (z<10 ^ 18)=true) (fun c=>?_) (fun c=>?_))
 ·exact ⟨rfl,q0 _ _ (Int.le_refl 0)⟩
 ·have c':(10:Int) ^ 18≤z:=by simpa using c
  exact ⟨rfl,q0 _ _ (by omega)⟩
theorem bK (T:Txt K mg A) (hB:TabB base mg A.tc A.tP tqS):FnOk P w K mg base CX0 1 A.f_q37 A.d_q37 ["_law_pool_here","_law_many"] (a9 [true,false] false (uC)):=by
 have S:=wD
 refine fnD T.t_q37.F S ⟨[true,false],[true,false,false],false⟩ _ ?hl rfl rfl fun cdv Ar outer s H E hr=>⟨_,(ac (bu (QT.bor [0] (aX ij dB (aH az dIx (aa 0) ae (fun _ _=>rfl)) ae (aU _))) (ac (aT (i:=2) S.nd rfl (Or.inl rfl) (QE.bor [0] (aB dD dIC (aH az dIx (aa 0) ae (fun _ _=>rfl)) (aa 1))))
  (ac (fE (i:=0) rfl (QF.bor [0] (QE.qf (aB pU dIC (aH az dIx (aa 0) ae (fun _ _=>rfl)) (aa 1)))) ae)
  (ag (aE (aa 2))))) aL)
  (ac (fE (i:=0) rfl (QF.bor [0] (QE.qf (aB dD dIC (aB bM dI (aB eu dIC (aH az dIx (aa 0) ae (fun _ _=>rfl)) ae) ae) ae))) ae)
  (ag (aE (QE.bor [0] (aB dD dIC (aB sQ dIC (aB dD dIC (aB eu dIC (aH az dIx (aa 0) ae (fun _ _=>rfl)) (aH az dIx (aa 0) ae (fun _ _=>rfl))) ae) ae) (aa 1))))))),fun ds q h=>?_⟩
 case hl=>intro ds q h; obtain ⟨c,m,many,rfl,_⟩:=h; rfl
 obtain ⟨c,m,many,rfl,h0,hm,hs,q0⟩:=h
 refine (bS (c:=decide (0<c)=true) (fun c1=>?_) (fun c1=>?_))
 ·refine ⟨hm,rfl,?_⟩
  refine ⟨⟨hm,hs⟩,rfl,?_⟩
  exact q0 _ (c / many) m (Int.emod_nonneg _ (Int.ne_of_gt hm)) (Int.emod_lt_of_pos _ hm) (Int.ediv_nonneg h0 (Int.le_of_lt hm))
 ·refine ⟨Or.inr ⟨by decide,by decide⟩,(show (0:Int)<2147483647 by decide),rfl,?_⟩
  have a1:=Int.emod_nonneg (m * 48271 + 11) (show (2147483647:Int)≠0 by decide)
  have a2:=Int.emod_lt_of_pos (m * 48271 + 11) (show (0:Int)<2147483647 by decide)
  refine ⟨Or.inl ⟨by omega,by omega⟩,(show (0:Int)<2147483629 by decide),⟨by decide,by decide⟩,hm,?_⟩
  exact ⟨rfl,q0 _ c _ (Int.emod_nonneg _ (Int.ne_of_gt hm)) (Int.emod_lt_of_pos _ hm) h0⟩
theorem lQ (T:Txt K mg A) (hB:TabB base mg A.tc A.tP tqS):FnOk P w K mg base CX0 2 A.f_q20 A.d_q20 ["_law_pool_here","_law_most"] (a9 [true,false] false (qY)):=by
 have S:=w6
 refine fnD T.t_q20.F S ⟨[true,false],[true,false,false],false⟩ _ ?hl rfl rfl fun cdv Ar outer s H E hr=>⟨_,(ac (aT (i:=2) S.nd rfl (Or.inl rfl) (ah (bK T hB) hr T.t_q37 (cI 0 (ao ae am))))
  (ac (bu (aX (gi hr.units) dEq (aa 2) ae (aU _)) (ag (aE (aB bM dI ae (ah (bK T hB) hr T.t_q37 (cI 0 (ao (aq (cq rfl) lD rfl T.z_min de (ad (aa 1) (ad ae ai))) am)))))) aL)
  (ac (bu (aX (gi hr.units) dEq (aa 2) ae (aU _)) (ag (aE (aB bM dI ae (ah (bK T hB) hr T.t_q37 (cI 0 (ao (aq (cq rfl) lD rfl T.z_min de (ad (aa 1) (ad ae ai))) am)))))) aL)
  (ac (bu (aX (gi hr.units) dEq (aa 2) ae (aU _)) (ag (aE (aB bF dI (aa 1) (ah (bK T hB) hr T.t_q37 (cI 0 (ao (aq (cq rfl) lD rfl T.z_min de (ad (aa 1) (ad ae ai))) am)))))) aL)
  (ag (aE (aB bM dI ae (aB dD dIC (aB bM dI (aB eu dIC (ah (bK T hB) hr T.t_q37 (cI 0 (ao (aB fD dIC ae ae) am))) (aB fD dIC ae ae)) (ah (bK T hB) hr T.t_q37 (cI 0 (ao (aB fD dIC ae ae) am)))) (aa 1))))))))),fun ds q h=>?_⟩
 case hl=>intro ds q h; obtain ⟨c,m,most,rfl,_⟩:=h; rfl
 obtain ⟨c,m,most,rfl,h0,hm0,hm1,q0⟩:=h
 refine ⟨c,m,4,rfl,h0,by decide,ci (n:=4) (by decide) (by decide +kernel),fun w0 c1 m1 w00 w01 h1=>?_⟩
 have hmin:∀ j:Int,1≤j→∃ z:Int,(if j<most then j else most)=z∧1≤z∧z≤most:=fun j hj=>by
  by_cases h:j<most
  ·exact ⟨j,by rw [if_pos h],hj,by omega⟩
  ·exact ⟨most,by rw [if_neg h],hm0,Int.le_refl _⟩
 refine (bS (c:=decide (w0=0)=true) (fun c=>?_) (fun c=>?_))
 ·obtain ⟨z,ez,z0,z1⟩:=hmin 3 (by decide)
  refine ⟨c1,m1,z,by rw [← ez],h1,by omega,ci (n:=1000000000000) (by omega) (by decide +kernel),fun u c2 m2 u0 u1 h2=>?_⟩
  exact q0 _ c2 m2 (by omega) (by omega) h2
 refine (bS (c:=decide (w0=1)=true) (fun c=>?_) (fun c=>?_))
 ·obtain ⟨z,ez,z0,z1⟩:=hmin 12 (by decide)
  refine ⟨c1,m1,z,by rw [← ez],h1,by omega,ci (n:=1000000000000) (by omega) (by decide +kernel),fun u c2 m2 u0 u1 h2=>?_⟩
  exact q0 _ c2 m2 (by omega) (by omega) h2
 refine (bS (c:=decide (w0=2)=true) (fun c=>?_) (fun c=>?_))
 ·obtain ⟨z,ez,z0,z1⟩:=hmin 3 (by decide)
  refine ⟨c1,m1,z,by rw [← ez],h1,by omega,ci (n:=1000000000000) (by omega) (by decide +kernel),fun u c2 m2 u0 u1 h2=>?_⟩
  exact q0 _ c2 m2 (by omega) (by omega) h2
 refine ⟨⟨by decide,by decide,by decide⟩,?_⟩
 refine ⟨c1,m1,1000000,rfl,h1,by decide,ci (n:=1000000) (by decide) (by decide +kernel),fun u c2 m2 u0 u1 h2=>?_⟩
 refine ⟨⟨by decide,by decide,by decide⟩,Or.inr ⟨by decide,by decide⟩,?_⟩
 refine ⟨⟨by decide,by decide,by decide⟩,?_⟩
 refine ⟨c2,m2,1000000,rfl,h2,by decide,ci (n:=1000000) (by decide) (by decide +kernel),fun u' c3 m3 u0' u1' h3=>?_⟩
 refine ⟨(show (0:Int)<most by omega),?_⟩
 have e1:∀ z:Int,1≤1 + z % most:=fun z=>by have:=Int.emod_nonneg z (show most≠0 by omega); omega
 have e2:∀ z:Int,1 + z % most≤most:=fun z=>by have:=Int.emod_lt_of_pos z (show 0<most by omega); omega
 exact q0 _ c3 m3 (e1 _) (e2 _) h3
theorem vo (T:Txt K mg A) (hB:TabB base mg A.tc A.tP tqS):FnOk P w K mg base CX0 2 A.f_q13 A.d_q13 ["_law_pool_here","_law_most"] (a9 [true,false] true (nY)):=by
 have S:=vL
 refine fnD T.t_q13.F S ⟨[true,false],[true,false,false,true,false,false],true⟩ _ ?hl rfl rfl fun cdv Ar outer s H E hr=>⟨_,(ac (aT (i:=2) S.nd rfl (Or.inl rfl) (ah (bK T hB) hr T.t_q37 (cI 0 (ao ae am))))
  (ac (bv (i:=3) S.nd rfl (Or.inl rfl) (eO ai))
  (ac (bQ PassesOwn.never rfl (gk rfl T.z_range (ad ae (ad (aB bM dI ae (ah (bK T hB) hr T.t_q37 (cI 0 (ao (aa 1) am)))) ai))) (aD (i:=4) S.nd rfl (Or.inl rfl)) (ac (aT (i:=5) S.nd rfl (Or.inl rfl) (ah (bK T hB) hr T.t_q37 (cI 0 (ao (aa 4) am))))
  (ag (cV (i:=3) rfl (QE.qf (aH az dIx (df (ad (aa 5) (ad (aB bF dI (aa 4) ae) (ad ae (ad (aq (gr rfl) dMax rfl T.z_max gW (ad ae (ad (aB bF dI (aB bF dI (aa 4) ae) (aB dD dIC (aa 5) ae)) ai))) ai))))) (aa 2) (fun _ _=>rfl)))))))
  (ag (bG (cB 3)))))),fun ds q h=>?_⟩
 case hl=>intro ds q h; obtain ⟨c,m,most,rfl,_⟩:=h; rfl
 obtain ⟨c,m,most,rfl,h0,hm0,hm1,q0⟩:=h
 refine ⟨c,m,4,rfl,h0,by decide,ci (n:=4) (by decide) (by decide +kernel),fun w0 c1 m1 w00 w01 h1=>?_⟩
 refine ⟨rfl,?_⟩
 refine ⟨c1,m1,most,rfl,h1,by omega,ci (n:=23) (by omega) (by decide +kernel),fun n c2 m2 n0 n1 h2=>?_⟩
 refine ⟨⟨by omega,by omega,by omega⟩,?_⟩
 refine ⟨fun i ρ=>∃ (ps:List Int) (c m:Int) (v4 v5:Option D),ρ=[some (af [c,m]),some (.int most),some (.int w0),some (af ps),v4,v5]∧0≤c∧ps.length=i∧(∀ (j:Nat) (x:Int),ps[j]? = some x→0≤x∧x≤j),⟨[],c2,m2,_,_,rfl,h2,rfl,(fun j x h=>by simp at h)⟩,?_,?_⟩
 ·rintro i d ρ hd ⟨ps,c3,m3,v4,v5,rfl,h3,lp,hpar⟩
  obtain ⟨hi,rfl⟩:=eU hd
  have hi2:i<23:=by omega
  refine ⟨c3,m3,1 + (i:Int),rfl,h3,by omega,ci (n:=23) (by omega) (by decide +kernel),fun r c4 m4 r0 r1 h4=>?_⟩
  refine ⟨(show (0:Int)<3 by decide),?_⟩
  have e1:=Int.emod_nonneg r (show (3:Int)≠0 by decide)
  obtain ⟨y,hy,y1,y2⟩:∃ y:Int,atI [D.int r,D.int (1 + (i:Int) - 1),D.int 0,D.int (if (0:Int)<1 + (i:Int) - 1 - r % 3 then 1 + (i:Int) - 1 - r % 3 else 0)] w0=some (.int y)∧0≤y∧y≤i:=by
   have:w0=0∨w0=1∨w0=2∨w0=3:=by omega
   rcases this with rfl | rfl | rfl | rfl
   ·exact ⟨_,rfl,by omega,by omega⟩
   ·exact ⟨_,rfl,by omega,by omega⟩
   ·exact ⟨_,rfl,by omega,by omega⟩
   ·exact ⟨_,rfl,by split <;> omega,by split <;> omega⟩
  refine aY hy ?_
  refine ⟨rfl,by rw [ar]; omega,?_⟩
  refine ⟨ps++[y],c4,m4,some (.int (1 + (i:Int))),some (.int r),?_,h4,by rw [List.length_append,lp]; rfl,l9 hpar ⟨y1,by omega⟩⟩
  rw [← dZ]; rfl
 ·rintro ρ ⟨ps,c3,m3,v4,v5,rfl,h3,lp,hpar⟩
  rw [cW] at lp
  exact q0 ps c3 m3 ⟨by omega,by omega,hpar⟩ (by omega) h3
theorem vD (T:Txt K mg A) (hB:TabB base mg A.tc A.tP tqS):FnOk P w K mg base CX0 3 A.f_q25 A.d_q25 ["_law_pool_here","_law_many","_law_least"] (a9 [true,false,false] true (s9)):=by
 have S:=vn
 refine fnD T.t_q25.F S ⟨[true,false,false],[true,false,false,false],true⟩ _ ?hl rfl rfl fun cdv Ar outer s H E hr=>⟨_,(ac (aT (i:=3) S.nd rfl (Or.inr rfl) (aH az dIx (df (ad ae (ad ae (ad (aB fD dIC ae ae) ai)))) (ah (bK T hB) hr T.t_q37 (cI 0 (ao ae am))) (fun _ _=>rfl)))
  (ag (bG (QF.qm (kZ ["_law_k"] [2,0,3] 0 2 ⟨rfl,rfl,by decide +kernel,rfl,rfl,(by first | exact trivial | exact ⟨rfl,trivial⟩ | exact ⟨rfl,rfl,trivial⟩ | exact ⟨rfl,rfl,rfl,trivial⟩ | exact ⟨rfl,rfl,rfl,rfl,trivial⟩),rfl⟩ rfl (gf rfl T.z_range (ad (aa 1) ai)) (j5 0) (fun _ _ _ _=>⟨(aP (i:=0) (show List.Nodup (["_law_k","_law_least","_law_pool_here","_law_most"]:List Str) by decide +kernel) rfl (Or.inl rfl)),bL,(aB bM dI (aB bF dI (aa 1) ae) (ah (lQ T hB) hr T.t_q20 (cI 2 (ao (aB bM dI (aB bF dI (aa 3) (aa 1)) ae) am))))⟩)))))),fun ds q h=>?_⟩
 case hl=>intro ds q h; obtain ⟨c,m,n,least,rfl,_⟩:=h; rfl
 obtain ⟨c,m,n,least,rfl,h0,n0,n1,l0,l1,q0⟩:=h
 refine ⟨⟨by decide,by decide,by decide⟩,?_⟩
 refine ⟨c,m,3,rfl,h0,by decide,ci (n:=3) (by decide) (by decide +kernel),fun r c1 m1 r0 r1 h1=>?_⟩
 obtain ⟨z,hz,z1,z2⟩:∃ z:Int,atI [D.int 3,D.int 60,D.int (10 ^ Int.toNat 6)] r=some (.int z)∧3≤z∧z≤1000000:=by
  have:r=0∨r=1∨r=2:=by omega
  rcases this with rfl | rfl | rfl
  all_goals exact ⟨_,rfl,by decide,by decide⟩
 refine aY hz ?_
 refine ⟨⟨by omega,by omega⟩,?_⟩
 refine ⟨by rw [cW]; omega,?_⟩
 refine ⟨fun i es d=>∃ (rs:List Int) (c m:Int),es=rs.map D.int∧d=af [c,m]∧0≤c∧rs.length=i∧(∀ (j:Nat) (x:Int),rs[j]? = some x→least≤x∧x≤1000000),⟨[],c1,m1,rfl,rfl,h1,rfl,(fun j x h=>by simp at h)⟩,?_,?_⟩
 ·rintro j x es d hx ⟨rs,c5,m5,rfl,rfl,h5,lr,hroom⟩
  refine ⟨c5,m5,z - least + 1,rfl,h5,by omega,by omega,fun u c6 m6 u0 u1 h6=>?_⟩
  exact ⟨rs++[least - 1 + u],c6,m6,(List.map_append (l₂:=[least - 1 + u])).symm,rfl,h6,by rw [List.length_append,lr]; rfl,l9 hroom ⟨by omega,by omega⟩⟩
 ·rintro es d ⟨rs,c5,m5,rfl,rfl,h5,lr,hroom⟩
  rw [cW] at lr
  refine ⟨aO _,?_⟩
  exact q0 rs c5 m5 ⟨by omega,hroom⟩ h5
theorem wU (T:Txt K mg A) (hB:TabB base mg A.tc A.tP tqS):FnOk P w K mg base CX0 2 A.f_q35 A.d_q35 ["_law_pool_here","_law_many"] (a9 [true,false] false (sZ)):=by
 have S:=vm
 refine fnD T.t_q35.F S ⟨[true,false],[true,false,false],false⟩ _ ?hl rfl rfl fun cdv Ar outer s H E hr=>⟨_,(ac (aT (i:=2) S.nd rfl (Or.inl rfl) (ah (bK T hB) hr T.t_q37 (cI 0 (ao (aB bM dI (aa 1) ae) am))))
  (ag (aE (jz (ad (aa 2) (ad (aB dD dIC (aB bM dI (aB bM dI (aa 2) ae) (ah (bK T hB) hr T.t_q37 (cI 0 (ao (aa 1) am)))) (aB bM dI (aa 1) ae)) ai)))))),fun ds q h=>?_⟩
 case hl=>intro ds q h; obtain ⟨c,m,n,rfl,_⟩:=h; rfl
 obtain ⟨c,m,n,rfl,h0,n0,n1,q0⟩:=h
 refine ⟨c,m,(n:Int) + 1,rfl,h0,by omega,ci (n:=24) (by omega) (by decide +kernel),fun a c1 m1 a0 a1 h1=>?_⟩
 refine ⟨c1,m1,(n:Int),rfl,h1,by omega,ci (n:=24) (by omega) (by decide +kernel),fun r c2 m2 r0 r1 h2=>?_⟩
 refine ⟨(show (0:Int)<(n:Int) + 1 by omega),?_⟩
 have he:=lM (ps:=List.replicate n 0) (a:=a) (r:=r) a0 (by rw [List.length_replicate]; omega) r0 (by rw [List.length_replicate]; omega)
 rw [List.length_replicate,show 1 + (n:Int)=(n:Int) + 1 by omega] at he
 have hb1:=he.b1
 rw [List.length_replicate] at hb1
 exact q0 _ _ c2 m2 he.a0 (by omega) he.b0 hb1 he.ne h2
theorem jD (T:Txt K mg A) (hB:TabB base mg A.tc A.tP tqS):FnOk P w K mg base CX0 1 A.f_q44 A.d_q44 ["_law_parents_here","_law_place"] (a9 [false,false] true (sdUpP)):=by
 have S:=uK
 refine fnD T.t_q44.F S ⟨[false,false],[false,false,true],true⟩ _ ?hl rfl rfl fun cdv Ar outer s H E hr=>⟨_,(ac (bv (i:=2) S.nd rfl (Or.inl rfl) (eO ai))
  (ac (fF PassesOwn.never (aX ij dB (aa 1) ae (aU _)) (ac (cV (i:=2) rfl (QE.qf (aa 1)))
  (ag (aT (i:=1) S.nd rfl (Or.inl rfl) (aH az dIx (aa 0) (aB bF dI (aa 1) ae) (fun _ _=>rfl))))))
  (ag (bG (cB 2))))),fun ds q h=>?_⟩
 case hl=>intro ds q h; obtain ⟨ps,rs,k,rfl,_⟩:=h; rfl
 obtain ⟨ps,rs,k,rfl,hT,h0,h1,q0⟩:=h
 have hi:=hT.hi
 refine ⟨rfl,?_⟩
 refine ⟨fun j ρ=>∃ (k':Int) (acc:List Int),ρ=[some (af ps),some (.int k'),some (af acc)]∧0≤k'∧k'≤ps.length∧j=k'.toNat∧acc.length + k'.toNat≤24∧(∀ u,Up ps k' u→Up ps k (acc++u)),⟨_,k,[],rfl,h0,h1,rfl,by show 0 + k.toNat≤24; omega,fun u h=>h⟩,?_⟩
 rintro j ρ ⟨k',acc,rfl,h0',h1',rfl,hl,hu⟩
 refine (bS (c:=decide (0<k')=true) (fun c=>?_) (fun c=>?_))
 ·have hk : 0<k':=by simpa using c
  have hp:=hT.up hk h1'
  refine ⟨rfl,by rw [ar]; omega,?_⟩
  refine aY (bb (by omega) (by omega)) ?_
  refine ⟨(dn ps k').toNat,by omega,dn ps k',acc++[k'],?_,hp.1,by omega,rfl,by rw [List.length_append]; show acc.length + 1 + _≤24; omega,fun u h=>by rw [List.append_assoc]; exact hu _ (.step hk h)⟩
  rw [← dZ]; rfl
 ·have hk:k'=0:=by simp at c; omega
  subst hk
  exact q0 acc (hu [0] .zero)
theorem wq (T:Txt K mg A) (hB:TabB base mg A.tc A.tP tqS):FnOk P w K mg base CX0 2 A.f_q42 A.d_q42 ["_law_parents_here","_law_ask_here"] (a9 [false,false] true (uH)):=by
 have S:=wP
 refine fnD T.t_q42.F S ⟨[false,false],[false,false,false,false,false],true⟩ _ ?hl rfl rfl fun cdv Ar outer s H E hr=>⟨_,(ac (aT (i:=2) S.nd rfl (Or.inr rfl) (QF.qe (aQ (jD T hB) hr T.t_q44 (ao (aa 0) (ao (aH az dIx (aa 1) ae (fun _ _=>rfl)) am)))))
  (ac (aT (i:=3) S.nd rfl (Or.inr rfl) (QF.qe (aQ (jD T hB) hr T.t_q44 (ao (aa 0) (ao (aH az dIx (aa 1) ae (fun _ _=>rfl)) am)))))
  (ac (d_ (i:=4) ["_law_tie"] [3] ⟨rfl,rfl,by decide +kernel,rfl,rfl,(by first | exact trivial | exact ⟨rfl,trivial⟩ | exact ⟨rfl,rfl,trivial⟩ | exact ⟨rfl,rfl,rfl,trivial⟩ | exact ⟨rfl,rfl,rfl,rfl,trivial⟩),rfl⟩ rfl S.nd rfl (Or.inl rfl) (aR (aa 2)) (a6 0) (fun _ _ _ _=>⟨(aP (i:=0) (show List.Nodup (["_law_tie","_law_other"]:List Str) by decide +kernel) rfl (Or.inl rfl)),(cz (aX cR dIn (aa 0) (aa 1) rfl)),(aa 0)⟩))
  (ag (bG (QF.qm (hX d6 lK rfl T.z_sorted e7 (ad (qe_mk vU dCat (aa 4) (bp ["_law_tie"] [2] ⟨rfl,rfl,by decide +kernel,rfl,rfl,(by first | exact trivial | exact ⟨rfl,trivial⟩ | exact ⟨rfl,rfl,trivial⟩ | exact ⟨rfl,rfl,rfl,trivial⟩ | exact ⟨rfl,rfl,rfl,rfl,trivial⟩),rfl⟩ rfl (aR (aa 3)) (a6 0) (fun _ _ _ _=>⟨(aP (i:=0) (show List.Nodup (["_law_tie","_law_one"]:List Str) by decide +kernel) rfl (Or.inl rfl)),(cz (aX cR dIn (aa 0) (aa 1) rfl)),(aa 0)⟩))) ai)))))))),fun ds q h=>?_⟩
 case hl=>intro ds q h; obtain ⟨ps,rs,a,b,rest,rfl,_⟩:=h; rfl
 obtain ⟨ps,rs,a,b,rest,rfl,hT,a0,a1,b0,b1,q0⟩:=h
 have hi:=hT.hi
 have i0:atI (D.int a :: D.int b :: rest) 0=some (.int a):=dq (j:=0) rfl
 have i1:atI (D.int a :: D.int b :: rest) 1=some (.int b):=dq (j:=1) rfl
 refine aY i0 ?_
 refine ⟨ps,rs,a,rfl,hT,a0,a1,fun va hua=>?_⟩
 refine aY i1 ?_
 refine ⟨ps,rs,b,rfl,hT,b0,b1,fun vb hub=>?_⟩
 have hl:=hua.len hT a1
 have hl2:=hub.len hT b1
 rw [List.length_append] at hl hl2
 refine ⟨by rw [ar]; simp at hl; omega,?_⟩
 refine bV (qZ fun x=>!vb.contains x) ?_ ?_
 ·intro d hd k hk
  obtain ⟨x,hx,rfl⟩:=bC hd
  refine ⟨rfl,bX vb,?_⟩
  change k (if (!vb.contains x)=true then some (.int x) else none) at hk
  show if (!inD (.int x) (vb.map D.int))=true then k (some (.int x)) else k none
  rw [cF]
  cases e:vb.contains x with
  | true=>rw [e] at hk; exact hk
  | false=>rw [e] at hk; exact hk
 rw [fg]
 have hf1:=List.length_filter_le (fun x=>!vb.contains x) va
 have hf2:=List.length_filter_le (fun x=>!va.contains x) vb
 simp at hl hl2
 refine ⟨by rw [ar]; omega,?_⟩
 refine bV (qZ fun x=>!va.contains x) ?_ ?_
 ·intro d hd k hk
  obtain ⟨x,hx,rfl⟩:=bC hd
  refine ⟨rfl,bX va,?_⟩
  change k (if (!va.contains x)=true then some (.int x) else none) at hk
  show if (!inD (.int x) (va.map D.int))=true then k (some (.int x)) else k none
  rw [cF]
  cases e:va.contains x with
  | true=>rw [e] at hk; exact hk
  | false=>rw [e] at hk; exact hk
 rw [fg]
 refine ⟨by rw [ar,ar]; omega,?_⟩
 rw [← List.map_append]
 refine ⟨_,rfl,by rw [List.length_append]; omega,aO _,?_⟩
 rw [← s8 hT a0 b0 a1 b1 hua hub]
 exact q0
def vB:SpD:=fun ds q=>∃ c m ps,ds=[af [c,m],.int ((ps.length:Nat):Int)]∧0≤c∧ParOk ps∧∀ a c' m',AskOk ps a→0≤c'→q (er a) [some (af [c',m'])]
theorem vJ (T:Txt K mg A) (hB:TabB base mg A.tc A.tP tqS):FnOk P w K mg base CX0 3 A.f_q40 A.d_q40 ["_law_pool_here","_law_many"] (a9 [true,false] false (vB)):=by
 have S:=ww
 refine fnD T.t_q40.F S ⟨[true,false],[true,false,false,false],false⟩ _ ?hl rfl rfl fun cdv Ar outer s H E hr=>⟨_,(ac (fC (ah (wU T hB) hr T.t_q35 (cI 0 (ao (aa 1) am))) (cX rfl (aM (aD (i:=2) S.nd rfl (Or.inl rfl)) (aM (aD (i:=3) S.nd rfl (Or.inl rfl)) b_)) (au (au ba))))
  (ag (aE (jz (ad (aa 2) (ad (aa 3) (ad (ah (lQ T hB) hr T.t_q20 (cI 0 (ao (aB fD dIC ae ae) am))) (ad (ah (lQ T hB) hr T.t_q20 (cI 0 (ao (aB fD dIC ae ae) am))) ai)))))))),fun ds q h=>?_⟩
 case hl=>intro ds q h; obtain ⟨c,m,ps,rfl,_⟩:=h; rfl
 obtain ⟨c,m,ps,rfl,h0,hP,q0⟩:=h
 refine ⟨c,m,ps.length,rfl,h0,hP.lo,hP.hi,fun a b c1 m1 a0 a1 b0 b1 hab h1=>?_⟩
 refine ⟨⟨by decide,by decide,by decide⟩,?_⟩
 refine ⟨c1,m1,1000000,rfl,h1,by decide,by decide,fun s c2 m2 s0 s1 h2=>?_⟩
 refine ⟨⟨by decide,by decide,by decide⟩,?_⟩
 refine ⟨c2,m2,1000000000000,rfl,h2,by decide,by decide,fun wo c3 m3 w0 w1 h3=>?_⟩
 exact q0 ⟨a,b,s,wo⟩ c3 m3 ⟨⟨a0,a1,b0,b1,hab⟩,s0,s1,w0,w1⟩ h3
def rX (K:PySem.W.Frag):SpD:=fun ds q=>∃ φ ns,ds=[.scr φ ns,.int 32]∧mI K φ ns∧ns.length≤63∧∀ ps rs as,Tree ps rs→AsksOk ps as→q (.tup [aZ ps rs,dg as]) []
theorem vA (T:Txt K mg A) (hB:TabB base mg A.tc A.tP tqS):FnOk P w K mg base CX0 4 A.f_q34 A.d_q34 ["_law_script","_law_last"] (a9 [false,false] false (rX K)):=by
 have S:=uW
 refine fnD T.t_q34.F S ⟨[false,false],[false,false,false,false,false],false⟩ _ ?hl rfl rfl fun cdv Ar outer s H E hr=>⟨_,(ac (aT (i:=2) S.nd rfl (Or.inr rfl) (QF.qe (aQ (vo T hB) hr T.t_q13 (qk_t (aQ (jE T hB) hr T.t_q36 (ao (aa 0) (ao ae am))) (ao ae am)))))
  (ac (aT (i:=3) S.nd rfl (Or.inl rfl) (jz (ad (aa 2) (ad (QF.qe (aQ (vD T hB) hr T.t_q25 (qk_t (aQ (jE T hB) hr T.t_q36 (ao (aa 0) (ao ae am))) (ao (aq aw cE rfl T.z_len a_ (ad (aa 2) ai)) (ao ae am))))) ai))))
  (ac (d_ (i:=4) ["_law_k"] [0,2] ⟨rfl,rfl,by decide +kernel,rfl,rfl,(by first | exact trivial | exact ⟨rfl,trivial⟩ | exact ⟨rfl,rfl,trivial⟩ | exact ⟨rfl,rfl,rfl,trivial⟩ | exact ⟨rfl,rfl,rfl,rfl,trivial⟩),rfl⟩ rfl S.nd rfl (Or.inl rfl) (gk rfl T.z_range (ad ae (ad (aq (cq rfl) lD rfl T.z_min de (ad (aq aw cE rfl T.z_len a_ (ad (aa 0) ai)) (ad (aa 1) ai))) ai))) (a6 0) (fun _ _ _ _=>⟨(aP (i:=0) (show List.Nodup (["_law_k","_law_script","_law_parents_here"]:List Str) by decide +kernel) rfl (Or.inl rfl)),bL,(ah (vJ T hB) hr T.t_q40 (qk_t (aQ (jE T hB) hr T.t_q36 (ao (aa 1) (ao (aa 0) am))) (ao (aq aw cE rfl T.z_len a_ (ad (aa 2) ai)) am)))⟩))
  (ag (aE (jz (ad (aa 3) (ad (aa 4) ai)))))))),fun ds q h=>?_⟩
 case hl=>intro ds q h; obtain ⟨φ,ns,rfl,_⟩:=h; rfl
 obtain ⟨φ,ns,rfl,hφ,hl,q0⟩:=h
 refine ⟨φ,ns,0,rfl,hφ,by decide,by decide,fun c m h0=>?_⟩
 refine ⟨c,m,23,rfl,h0,by decide,by decide,fun ps c1 m1 hP _ h1=>?_⟩
 have hi:=hP.hi
 refine ⟨φ,ns,1,rfl,hφ,by decide,by decide,fun c4 m4 h4=>?_⟩
 refine ⟨c4,m4,ps.length,1,by rw [ar],h4,hP.lo,hP.hi,by decide,by decide,fun rs c5 m5 hR h5=>?_⟩
 have hT:=hP.tree hR (by decide)
 refine ⟨hφ,?_⟩
 refine ⟨⟨by decide,by decide,by split <;> omega,by split <;> omega⟩,?_⟩
 refine ⟨by rw [cW]; split <;> omega,?_⟩
 refine ⟨fun i es=>∃ as:List Ask,es=as.map er∧as.length=i∧(∀ a∈as,AskOk ps a),⟨[],rfl,rfl,fun a h=>by cases h⟩,?_,?_⟩
 ·rintro i d es hd ⟨as,rfl,la,hok⟩
  obtain ⟨hi2,rfl⟩:=eU hd
  have hi3:i<30:=by revert hi2; split <;> omega
  refine ⟨φ,ns,2 + (i:Int),rfl,hφ,by omega,by omega,fun c6 m6 h6=>?_⟩
  refine ⟨c6,m6,ps,by rw [ar],h6,hP,fun a c7 m7 ha h7=>?_⟩
  refine ⟨as++[a],by rw [List.map_append]; rfl,by rw [List.length_append,la]; rfl,fun b hb=>?_⟩
  rcases List.mem_append.mp hb with hb | hb
  ·exact hok b hb
  ·rw [List.mem_singleton.mp hb]; exact ha
 rintro es ⟨as,rfl,la,hok⟩
 have hal:as.length≤30:=by rw [la,cW]; split <;> omega
 exact q0 ps rs as hT ⟨hal,hok⟩
def tk (ps:List Int) (j:Nat):List Ask→List Int→Int
 | a :: as,f :: fs=>cnt ((j:Int) + 1) (ax ps a) f + tk ps j as fs
 | _,_=>0
theorem mE {ps rs:List Int} (hT:L2.Tree ps rs) {j:Nat} (hj:j<ps.length):∀ (as:List Ask) (fs l:List Int),(∀ a∈as,AskOk ps a)→l.length=ps.length→(bJ ps as fs l).getD j 0=l.getD j 0 + tk ps j as fs
 | [],fs,l,_,_=>(Int.add_zero (l.getD j 0)).symm
 | a :: as,[],l,_,_=>(Int.add_zero (l.getD j 0)).symm
 | a :: as,f :: fs,l,ha,hl=>by
  have hok:=ha a (.head _)
  rw [bJ,mE hT hj as fs _ (fun b hb=>ha b (.tail _ hb)) (by rw [bU]; exact hl),tk]
  have:=fG (s:=f) (j:=j) (cT hT hok.ends) (l:=l) (by rw [hl]; exact fun t ht=>cS hT hok.ends ht)
  rw [show bt l (ax ps a) f=bt l (fh ps a.one a.other) f from rfl,this]
  show l.getD j 0 + cnt _ (ax ps a) f + _=_
  omega
theorem rp {ps:List Int} {j:Nat}:∀ {as:List Ask} {fs:List Int} {n:Nat} {a:Ask} (m:Int),as[n]? = some a→fs[n]? = some 0→tk ps j as (fs.set n m)=tk ps j as fs + cnt ((j:Int) + 1) (ax ps a) m
 | [],_,_,_,_,h,_=>by simp at h
 | _ :: _,[],_,_,_,_,h=>by simp at h
 | a :: as,f :: fs,0,a',m,h1,h2=>by
  simp at h1 h2; subst h1; subst h2
  rw [List.set_cons_zero,tk,tk]
  have:cnt ((j:Int) + 1) (ax ps a) 0=0:=by unfold cnt; split <;> rfl
  rw [this]; omega
 | a :: as,f :: fs,n + 1,a',m,h1,h2=>by
  rw [List.set_cons_succ,tk,tk,rp m (by simpa using h1) (by simpa using h2)]; omega
theorem jm (ps:List Int) (j:Nat):∀ (as:List Ask) (n:Nat),tk ps j as (List.replicate n 0)=0
 | [],n=>by cases n <;> rfl
 | _ :: _,0=>rfl
 | a :: as,n + 1=>by
  rw [List.replicate_succ,tk,jm ps j as n]
  have:cnt ((j:Int) + 1) (ax ps a) 0=0:=by unfold cnt; split <;> rfl
  rw [this]; rfl
structure ServOk (ps rs:List Int) (as:List Ask) (fs:List Int):Prop where
 len:fs.length=as.length
 nn:∀ z∈fs,0≤z∧z≤1000000
 fit:∀ j:Nat,j<ps.length→tk ps j as fs≤rs.getD j 0
def vP:SpD:=fun ds q=>∃ c m ps rs as ra,ds=[af [c,m],aZ ps rs,dl (aF ps as),.int ra]∧1≤ra∧ra≤4∧0≤c∧L2.Tree ps rs∧AsksOk ps as∧∀ fs c' m',ServOk ps rs as fs→0≤c'→q (af fs) [some (af [c',m'])]
theorem ok_q9 (T:Txt K mg A) (hB:TabB base mg A.tc A.tP tqS):FnOk P w K mg base CX0 2 A.f_q9 A.d_q9 ["_law_pool_here","_law_tree","_law_ways","_law_rare"] (a9 [true,false,false,false] true (vP)):=by
 have S:=sc_q9
 refine fnD T.t_q9.F S ⟨[true,false,false,false],[true,false,false,false,true,true,true,false,false,false,false],true⟩ _ ?hl rfl rfl fun cdv Ar outer s H E hr=>⟨_,(ac (bv (i:=4) S.nd rfl (Or.inl rfl) (sB rfl rfl T.z_list cA rfl T.z_range pC (aq aw cE rfl T.z_len a_ (ad (aa 2) ai))))
  (ac (bv (i:=5) S.nd rfl (Or.inr rfl) (gm cO nz rfl T.z_list cA (ad (aH az dIx (aa 1) ae (fun _ _=>rfl)) ai)))
  (ac (bv (i:=6) S.nd rfl (Or.inl rfl) (qD lz dRep (df (ad ae ai)) (aq aw cE rfl T.z_len a_ (ad (aa 2) ai))))
  (ac (fF PassesOwn.never (QT.bor [4] (aX (c_ hr.units) dNe (aa 4) (df ai) (aU _))) (ac (aT (i:=7) S.nd rfl (Or.inl rfl) (mP (i:=4) rfl (QE.bor [4] (ah (bK T hB) hr T.t_q37 (cI 0 (ao (aq aw cE rfl T.z_len a_ (ad (aa 4) ai)) am))))))
  (ac (aT (i:=8) S.nd rfl (Or.inl rfl) (QE.bor [5] (aq (eT rfl) nr rfl T.z_min de (ad (bp ["_law_tie"] [5] ⟨rfl,rfl,by decide +kernel,rfl,rfl,(by first | exact trivial | exact ⟨rfl,trivial⟩ | exact ⟨rfl,rfl,trivial⟩ | exact ⟨rfl,rfl,rfl,trivial⟩ | exact ⟨rfl,rfl,rfl,rfl,trivial⟩),rfl⟩ rfl (aR (aH az dIx (aa 2) (aa 7) (fun _ _=>rfl))) (a6 0) (fun _ _ _ _=>⟨(aP (i:=0) (show List.Nodup (["_law_tie","_law_free"]:List Str) by decide +kernel) rfl (Or.inl rfl)),bL,(aH az dIx (aa 1) (aB bF dI (aa 0) ae) (fun _ _=>rfl))⟩)) ai))))
  (ac (aT (i:=9) S.nd rfl (Or.inl rfl) (aH az dIx (df (ad ae (ad (aa 8) (ad (ah (bK T hB) hr T.t_q37 (cI 0 (ao (aB bM dI (aa 8) ae) am))) (ad (aq (cq rfl) lD rfl T.z_min de (ad (aa 8) (ad ae ai))) ai))))) (ah (bK T hB) hr T.t_q37 (cI 0 (ao (aa 3) am))) (fun _ _=>rfl)))
  (ac (fE (i:=6) rfl (QE.qf (aa 9)) (aa 7))
  (ag (bQ PassesOwn.never rfl (aR (aH az dIx (aa 2) (aa 7) (fun _ _=>rfl))) (aD (i:=10) S.nd rfl (Or.inl rfl)) (ag (fE (i:=5) rfl (QF.bor [5] (QE.qf (aB bF dI (aH az dIx (aa 5) (aB bF dI (aa 10) ae) (fun _ _=>rfl)) (aa 9)))) (aB bF dI (aa 10) ae))))))))))
  (ag (bG (cB 6))))))),fun ds q h=>?_⟩
 case hl=>intro ds q h; obtain ⟨c,m,ps,rs,as,ra,rfl,_⟩:=h; rfl
 obtain ⟨c,m,ps,rs,as,ra,rfl,ra0,ra1,h0,hT,ha,q0⟩:=h
 have hal:=ha.len
 have hi:=hT.hi
 have hlr:=hT.len
 have hwl:((aF ps as).map af).length=as.length:=by unfold aF; rw [List.length_map,List.length_map]
 refine ⟨⟨by rw [hwl]; omega,by rw [hwl]; omega⟩,?_⟩
 refine ⟨aO _,?_⟩
 refine ⟨⟨by rw [hwl]; omega,by rw [hwl]; omega,by rw [hwl]; simp; omega⟩,?_⟩
 rw [hwl,iq,Int.toNat_natCast,gv]
 refine ⟨aO _,?_⟩
 refine ⟨fun i ρ=>∃ (ls fr fs:List Int) (c m:Int) (v7 v8 v9 v10:Option D),ρ=[some (af [c,m]),some (aZ ps rs),some (dl (aF ps as)),some (.int ra),some (af ls),some (af fr),some (af fs),v7,v8,v9,v10]∧0≤c∧ls.length=i∧ls.Nodup∧(∀ k∈ls,0≤k∧k<(as.length:Int)∧fs[k.toNat]? = some 0)∧fr.length=ps.length∧fs.length=as.length∧(∀ z∈fs,0≤z∧z≤1000000)∧(∀ j:Nat,j<ps.length→fr.getD j 0=rs.getD j 0 - tk ps j as fs∧0≤fr.getD j 0∧fr.getD j 0≤1000000),?_,?_⟩
 ·refine ⟨as.length,(List.range as.length).map fun (k:Nat)=>(k:Int),rs,List.replicate as.length 0,c,m,none,none,none,none,?_,h0,by rw [List.length_map,List.length_range],List.Pairwise.map _ (fun a b h=>by omega) (List.nodup_range (n:=as.length)),fun k hk=>?_,hlr.symm,List.length_replicate ..,fun z hz=>by rw [List.eq_of_mem_replicate hz]; decide,fun j hj=>?_⟩
  ·have e:dE 0 as.length=((List.range as.length).map fun (k:Nat)=>(k:Int)).map D.int:=by
    unfold dE; rw [List.map_map]; refine List.map_congr_left fun k _=>?_; show D.int (0 + (k:Int))=D.int (k:Int); rw [Int.zero_add]
   rw [e]; rfl
  ·obtain ⟨j,hj,rfl⟩:=List.mem_map.mp hk
   have:=List.mem_range.mp hj
   refine ⟨by omega,by omega,?_⟩
   rw [Int.toNat_natCast,List.getElem?_replicate,if_pos this]
  ·have:=hT.room j (rs.getD j 0) (by rw [List.getD_eq_getElem?_getD,List.getElem?_eq_getElem (by omega)]; rfl)
   rw [jm]; omega
 ·rintro i ρ ⟨ls,fr,fs,c1,m1,v7,v8,v9,v10,rfl,h1,rfl,hnd,hrg,hfl,hsl,hnn,hfr⟩
  refine ⟨fT ls,fT [],?_⟩
  have eq:eqD (af ls) (af [])=decide (ls=[]):=eqDi ls []
  refine (bS (c:=(!eqD (af ls) (af []))=true) (fun c=>?_) (fun c=>?_))
  rotate_left
  ·rw [eq] at c
   exact q0 fs c1 m1 ⟨hsl,hnn,fun j hj=>by have:=hfr j hj; omega⟩ h1
  rw [eq] at c
  have hne:ls≠[]:=by simpa using c
  have hl0 : 0<ls.length:=List.length_pos_iff.mpr hne
  have hl30:ls.length≤as.length:=by
   have h5:=(KeepOk.mk (n:=as.length) ((List.pairwise_and_iff.mpr ⟨ce ls,(aS ls).nodup_iff.mpr hnd⟩).imp fun ⟨h,g⟩=>by omega) fun k hk=>by have:=hrg k ((aS ls).mem_iff.mp hk); omega).len
   rw [iZ] at h5; exact h5
  refine ⟨c1,m1,((ls.map D.int).length:Int),rfl,h1,by rw [ar]; omega,ci (n:=100) (by rw [ar]; omega) (by decide +kernel),fun u c2 m2 u0 u1 h2=>?_⟩
  rw [ar] at u1
  refine ⟨rfl,?_⟩
  refine ⟨ls,u,rfl,rfl,u0,u1,?_⟩
  have hperm:=fw (l:=ls) (i:=u.toNat) (by omega)
  have ez:ls.getD u.toNat 0=ls[u.toNat]'(by omega):=by rw [List.getD_eq_getElem?_getD,List.getElem?_eq_getElem (by omega)]; rfl
  have hel:(ls.eraseIdx u.toNat).length + 1=ls.length:=by rw [List.length_eraseIdx,if_pos (by omega)]; omega
  rw [← ez] at hperm
  generalize ls.getD u.toNat 0=z at hperm
  generalize ls.eraseIdx u.toNat=ls' at hperm hel
  have hz1:=hrg z (hperm.mem_iff.mp (.head _))
  have hnd':=hperm.nodup_iff.mpr hnd
  rw [List.nodup_cons] at hnd'
  have hok:=dz ha hz1.1 hz1.2.1
  have hw:=pR hT ha hz1.1 hz1.2.1
  have hasz:as[z.toNat]? = some (aK as z):=by unfold aK; rw [List.getD_eq_getElem?_getD,List.getElem?_eq_getElem (by omega)]; rfl
  refine aY (gM hz1.1 hz1.2.1) ?_
  have hw46:(ax ps (aK as z)).length≤46:=e_ hT hok.ends
  refine ⟨by rw [ar]; omega,?_⟩
  refine bA (t8 fr) ?_ ?_
  ·intro d hd k hk
   obtain ⟨t,ht,rfl⟩:=bC hd
   have hm:=hw.2 t ht
   refine aY (bb (by omega) (by omega)) ?_
   exact hk
  rw [oH]
  refine ⟨_,rfl,by rw [List.length_map]; exact ji hT hok.ends,fun most hl hmin=>?_⟩
  have hm0 : 0≤most∧most≤1000000:=by
   obtain ⟨t,ht,rfl⟩:=List.mem_map.mp hl
   have hm:=hw.2 t ht
   have:=hfr (t - 1).toNat (by omega)
   exact this.2
  refine ⟨rfl,?_⟩
  refine ⟨c2,m2,most + 1,rfl,h2,by omega,ci (n:=1000001) (by omega) (by decide +kernel),fun r c3 m3 r0 r1 h3=>?_⟩
  refine ⟨c3,m3,ra,rfl,h3,by omega,ci (n:=4) (by omega) (by decide +kernel),fun v c4 m4 v0 v1 h4=>?_⟩
  obtain ⟨many,hmy,y1,y2⟩:∃ y:Int,atI [D.int 0,D.int most,D.int r,D.int (if (1:Int)<most then 1 else most)] v=some (.int y)∧0≤y∧y≤most:=by
   have:v=0∨v=1∨v=2∨v=3:=by omega
   rcases this with rfl | rfl | rfl | rfl
   ·exact ⟨_,rfl,by omega,by omega⟩
   ·exact ⟨_,rfl,by omega,by omega⟩
   ·exact ⟨_,rfl,by omega,by omega⟩
   ·exact ⟨_,rfl,by split <;> omega,by split <;> omega⟩
  refine aY hmy ?_
  refine ⟨rfl,?_⟩
  show (match ixN (fs.map D.int).length z with | some _=>_ | none=>False)
  rw [ar,fK hz1.1 (by omega)]
  refine aY (gM hz1.1 hz1.2.1) ?_
  refine ⟨fun j ρ=>∃ v,ρ=[some (af [c4,m4]),some (aZ ps rs),some (dl (aF ps as)),some (.int ra),some (af ls'),some (af (bt fr ((ax ps (aK as z)).take j) (-many))),some (af (fs.set z.toNat many)),some (.int z),some (.int most),some (.int many),v],⟨_,by rw [← dY]; rfl⟩,?_,?_⟩
  ·rintro j d ρ hd ⟨v,rfl⟩
   obtain ⟨t,ht,rfl⟩:=cH hd
   have hm:=hw.2 t (List.mem_of_getElem? ht)
   have hlen:(bt fr ((ax ps (aK as z)).take j) (-many)).length=ps.length:=by rw [bU]; exact hfl
   refine aY (bb (by omega) (by omega)) ?_
   refine ⟨rfl,?_⟩
   show (match ixN ((bt fr ((ax ps (aK as z)).take j) (-many)).map D.int).length (t - 1) with | some _=>_ | none=>False)
   rw [ar,fK (by omega) (by omega)]
   refine ⟨some (.int t),?_⟩
   rw [List.take_add_one,ht]
   show _=[_,_,_,_,_,some (af (bt _ (_++[t]) _)),_,_,_,_,_]
   rw [gb,g8,← Int.sub_eq_add_neg,← dY (bt fr ((ax ps (aK as z)).take j) (-many)) (t - 1).toNat]; rfl
  ·rintro ρ ⟨v,rfl⟩
   rw [ar,List.take_length]
   refine ⟨ls'.length,by omega,ls',_,_,c4,m4,_,_,_,_,rfl,h4,rfl,hnd'.2,fun k hk=>?_,by rw [bU]; exact hfl,by rw [List.length_set]; exact hsl,fun y hy=>?_,fun j hj=>?_⟩
   ·have hk1:=hrg k (hperm.mem_iff.mp (.tail _ hk))
    refine ⟨hk1.1,hk1.2.1,?_⟩
    have hne:z.toNat≠k.toNat:=fun e=>hnd'.1 (by rw [show z=k by omega]; exact hk)
    rw [List.getElem?_set_ne hne]; exact hk1.2.2
   ·rcases List.mem_or_eq_of_mem_set hy with hy | rfl
    ·exact hnn y hy
    ·omega
   ·have e1:=fG (s:=-many) (j:=j) hw.1 (l:=fr) (by rw [hfl]; exact hw.2)
    rw [e1,rp many hasz hz1.2.2]
    have h5:=hfr j hj
    unfold cnt
    by_cases hm:(ax ps (aK as z)).contains ((j:Int) + 1)=true
    ·rw [if_pos hm,if_pos hm]
     have h6:=hmin (fr.getD j 0) (List.mem_map.mpr ⟨(j:Int) + 1,List.contains_iff_mem.mp hm,by rw [show ((j:Int) + 1 - 1).toNat=j by omega]⟩)
     omega
    ·rw [if_neg hm,if_neg hm]; omega
end
end K61
namespace K61
open PySem L2
section
variable {P:Program} {w:World} {K:PySem.W.Frag} {mg:Str→Option Value} {base:Heap} {A:Adr}
def inF (cu:List Int):D→Option D
 | .int t=>if cu.contains t=true then some (.int t) else none
 | _=>none
theorem mo (cu:List Int):∀ w:List Int,(w.map D.int).filterMap (inF cu)=(w.filter fun t=>cu.contains t).map D.int
 | []=>rfl
 | t :: w=>by
  have ih:=mo cu w
  rw [List.map_cons,List.filterMap_cons,List.filter_cons]
  have e:inF cu (.int t)=if cu.contains t=true then some (.int t) else none:=rfl
  rw [e]
  by_cases h:cu.contains t=true
  ·rw [if_pos h,if_pos h]; simp only [List.map_cons]; rw [ih]
  ·rw [if_neg h,if_neg h]; simp only; rw [ih]
def oK (cu:List Int):D→Option D
 | .lst ds=>if (ds.filterMap (inF cu)).isEmpty=true then some (.lst ds) else none
 | _=>none
theorem kM (cu:List Int):∀ ws:List (List Int),((ws.map af).filterMap (oK cu)).isEmpty=bf ws cu
 | []=>rfl
 | w :: ws=>by
  have ih:=kM cu ws
  have e:oK cu (af w)=if (w.filter fun t=>cu.contains t).isEmpty=true then some (af w) else none:=by
   show (if ((w.map D.int).filterMap (inF cu)).isEmpty=true then some (D.lst (w.map D.int)) else none)=_
   rw [mo,List.isEmpty_map]; rfl
  have e2:(w.filter fun t=>cu.contains t).isEmpty = !(w.any fun t=>cu.contains t):=by
   cases h:w.any fun t=>cu.contains t with
   | true =>
    obtain ⟨t,t1,t2⟩:=List.any_eq_true.mp h
    have:t∈w.filter fun t=>cu.contains t:=List.mem_filter.mpr ⟨t1,t2⟩
    cases q:w.filter fun t=>cu.contains t with
    | nil=>rw [q] at this; cases this
    | cons _ _=>rfl
   | false =>
    rw [List.filter_eq_nil_iff.mpr fun t ht z=>by
     have:=List.any_eq_false.mp h t ht
     exact this z]; rfl
  show ((af w :: ws.map af).filterMap (oK cu)).isEmpty=((w.any fun t=>cu.contains t)&&bf ws cu)
  rw [List.filterMap_cons,e,e2]
  cases h:w.any fun t=>cu.contains t with
  | true=>rw [if_neg (by simp),Bool.true_and]; exact ih
  | false=>rw [if_pos (by simp),Bool.false_and]; rfl
theorem vk (T:Txt K mg A) (hB:TabB base mg A.tc A.tP tqS):FnOk P w K mg base CX0 1 A.f_q21 A.d_q21 ["_law_ways","_law_ties"] (a9 [false,false] false (mT)):=by
 have S:=wI
 refine fnD T.t_q21.F S ⟨[false,false],[false,false],false⟩ _ ?hl rfl rfl fun cdv Ar outer s H E hr=>⟨_,(ag (aE (em (j8 hr.units) qC (bp ["_law_way_here"] [1] ⟨rfl,rfl,by decide +kernel,rfl,rfl,(by first | exact trivial | exact ⟨rfl,trivial⟩ | exact ⟨rfl,rfl,trivial⟩ | exact ⟨rfl,rfl,rfl,trivial⟩ | exact ⟨rfl,rfl,rfl,rfl,trivial⟩),rfl⟩ rfl (aR (aa 0)) (a6 0) (fun _ _ _ _=>⟨(aP (i:=0) (show List.Nodup (["_law_way_here","_law_ties"]:List Str) by decide +kernel) rfl (Or.inl rfl)),(cz (aX (j8 hr.units) qC (bp ["_law_tie"] [1] ⟨rfl,rfl,by decide +kernel,rfl,rfl,(by first | exact trivial | exact ⟨rfl,trivial⟩ | exact ⟨rfl,rfl,trivial⟩ | exact ⟨rfl,rfl,rfl,trivial⟩ | exact ⟨rfl,rfl,rfl,rfl,trivial⟩),rfl⟩ rfl (aR (aa 0)) (a6 0) (fun _ _ _ _=>⟨(aP (i:=0) (show List.Nodup (["_law_tie","_law_ties"]:List Str) by decide +kernel) rfl (Or.inl rfl)),(cz (aX eV dIn (aa 0) (aa 1) rfl)),(aa 0)⟩)) (df ai) (aU _))),(aa 0)⟩)) (df ai) (aU _)))),fun ds q h=>?_⟩
 case hl=>intro ds q h; obtain ⟨ws,cu,rfl,_⟩:=h; rfl
 obtain ⟨ws,cu,rfl,hl,hw,q0⟩:=h
 refine ⟨by rw [List.length_map]; exact hl,?_⟩
 refine bV (oK cu) ?_ ?_
 ·intro d hd k hk
  obtain ⟨w,hm,rfl⟩:=List.mem_map.mp hd
  refine ⟨by rw [ar]; exact hw w hm,?_⟩
  refine bV (inF cu) ?_ ?_
  ·intro d hd k hk
   obtain ⟨t,ht,rfl⟩:=bC hd
   refine ⟨rfl,bX cu,?_⟩
   have e:inF cu (.int t)=if cu.contains t=true then some (.int t) else none:=rfl
   rw [e] at hk
   have ei:inD (.int t) (cu.map D.int)=cu.contains t:=cF _ _
   refine (bS (c:=inD (.int t) (cu.map D.int)=true) (fun c=>?_) (fun c=>?_))
   ·rw [ei] at c; rw [if_pos c] at hk; exact hk
   ·rw [ei] at c; rw [if_neg c] at hk; exact hk
  have e:oK cu (af w)=if ((w.map D.int).filterMap (inF cu)).isEmpty=true then some (af w) else none:=rfl
  rw [e] at hk
  refine (bS (c:=((w.map D.int).filterMap (inF cu)).isEmpty=true) (fun c=>?_) (fun c=>?_))
  ·rw [if_pos c] at hk; exact hk
  ·rw [if_neg c] at hk; exact hk
 show q (.bl ((ws.map af).filterMap (oK cu)).isEmpty) []
 rw [kM]; exact q0
def wu:SpD:=fun ds q=>∃ c m ps rs as b,ds=[af [c,m],dl (aF ps as),.bl b]∧0≤c∧Tree ps rs∧AsksOk ps as∧∀ cu c' m',CutIn ps cu→bf (aF ps as) cu=true→0≤c'→q (af cu) [some (af [c',m'])]
theorem uw (T:Txt K mg A) (hB:TabB base mg A.tc A.tP tqS):FnOk P w K mg base CX0 2 A.f_q41 A.d_q41 ["_law_pool_here","_law_ways","_law_thin"] (a9 [true,false,false] true (wu)):=by
 have S:=uR
 refine fnD T.t_q41.F S ⟨[true,false,false],[true,false,false,true,true,false],true⟩ _ ?hl rfl rfl fun cdv Ar outer s H E hr=>⟨_,(ac (bv (i:=3) S.nd rfl (Or.inl rfl) (l3 rfl (QF.qe (kZ ["_law_way_here"] [0] 0 1 ⟨rfl,rfl,by decide +kernel,rfl,rfl,(by first | exact trivial | exact ⟨rfl,trivial⟩ | exact ⟨rfl,rfl,trivial⟩ | exact ⟨rfl,rfl,rfl,trivial⟩ | exact ⟨rfl,rfl,rfl,rfl,trivial⟩),rfl⟩ rfl (aR (aa 1)) (j5 0) (fun _ _ _ _=>⟨(aP (i:=0) (show List.Nodup (["_law_way_here","_law_pool_here"]:List Str) by decide +kernel) rfl (Or.inl rfl)),bL,(aH az dIx (aa 0) (ah (bK T hB) hr T.t_q37 (cI 1 (ao (aq aw cE rfl T.z_len a_ (ad (aa 0) ai)) am))) (fun _ _=>rfl))⟩))) rfl T.z_sorted rfl T.z_set))
  (ac (bv (i:=4) S.nd rfl (Or.inl rfl) (QF.bor [3] (gm cO nz rfl T.z_list cA (ad (aa 3) ai))))
  (ac (fF PassesOwn.never (QT.bor [4] (QW.qt (jO (bc (aa 2)) (gS (aX (c_ hr.units) dNe (aa 4) (df ai) (aU _)))))) (ac (aT (i:=5) S.nd rfl (Or.inr rfl) (mP (i:=4) rfl (QE.bor [4] (ah (bK T hB) hr T.t_q37 (cI 0 (ao (aq aw cE rfl T.z_len a_ (ad (aa 4) ai)) am))))))
  (ag (bu (QT.bor [3] (bc (ah (vk T hB) hr T.t_q21 (ao (aa 1) (ao (bp ["_law_one"] [5] ⟨rfl,rfl,by decide +kernel,rfl,rfl,(by first | exact trivial | exact ⟨rfl,trivial⟩ | exact ⟨rfl,rfl,trivial⟩ | exact ⟨rfl,rfl,rfl,trivial⟩ | exact ⟨rfl,rfl,rfl,rfl,trivial⟩),rfl⟩ rfl (aR (aa 3)) (a6 0) (fun _ _ _ _=>⟨(aP (i:=0) (show List.Nodup (["_law_one","_law_tie"]:List Str) by decide +kernel) rfl (Or.inl rfl)),(cz (aX (c_ hr.units) dNe (aa 0) (aa 1) (aU _))),(aa 0)⟩)) am))))) (ag (nF (i:=3) rfl (aa 5))) aL))))
  (ag (bG (cB 3)))))),fun ds q h=>?_⟩
 case hl=>intro ds q h; obtain ⟨c,m,ps,rs,as,b,rfl,_⟩:=h; rfl
 obtain ⟨c,m,ps,rs,as,b,rfl,h0,hT,ha,q0⟩:=h
 have hti:=hT.hi
 have hal:=ha.len
 have hwl:(aF ps as).length=as.length:=by unfold aF; rw [List.length_map]
 refine ⟨by rw [List.length_map]; omega,?_⟩
 refine ⟨fun i es d=>∃ (ks:List Int) (c m:Int),es=ks.map D.int∧d=af [c,m]∧0≤c∧ks.length=i∧(∀ t∈ks,0<t∧t≤(ps.length:Int))∧∀ w∈(aF ps as).take i,∃ t∈w,t∈ks,⟨[],c,m,rfl,rfl,h0,rfl,fun k h=>(by cases h),fun w h=>(by cases h)⟩,?_,?_⟩
 ·rintro j x es d hx ⟨ks,c6,m6,rfl,rfl,h6,hkl,hb,hpt⟩
  obtain ⟨w,hw,rfl⟩:∃ w,(aF ps as)[j]? = some w∧af w=x:=by rw [List.getElem?_map,Option.map_eq_some_iff] at hx; exact hx
  obtain ⟨a,hm,ea⟩:=List.mem_map.mp (List.mem_of_getElem? hw)
  have he:=(ha.ok a hm).ends
  have hp : 0<w.length:=by rw [← ea]; exact ji hT he
  have h46:w.length≤46:=by rw [← ea]; exact e_ hT he
  refine ⟨c6,m6,(w.length:Int),by rw [ar],h6,by omega,ci (n:=46) (by omega) (by decide +kernel),fun t c7 m7 t0 t1 h7=>?_⟩
  refine aY (bb t0 t1) ?_
  have hin:w.getD t.toNat 0∈w:=L2.getD_mem (by omega)
  have hmm:=cS hT he (by rw [show fh ps a.one a.other=w from ea]; exact hin)
  refine ⟨ks++[w.getD t.toNat 0],c7,m7,(List.map_append (l₂:=[w.getD t.toNat 0])).symm,rfl,h7,by rw [List.length_append,hkl]; rfl,fun k hk'=>?_,fun w' hw'=>?_⟩
  ·rcases List.mem_append.mp hk' with h | h
   ·exact hb k h
   ·rw [List.mem_singleton.mp h]; omega
  ·rw [List.take_add_one,hw] at hw'
   rcases List.mem_append.mp hw' with h | h
   ·obtain ⟨t',t1,t2⟩:=hpt w' h
    exact ⟨t',t1,List.mem_append.mpr (.inl t2)⟩
   ·have e:w'=w:=by simpa using h
    rw [e]
    exact ⟨_,hin,List.mem_append.mpr (.inr (List.mem_singleton.mpr rfl))⟩
 rintro es d ⟨ks2,c6,m6,rfl,rfl,h6,hkl,hb2,hpt2⟩
 rw [List.length_map] at hkl hpt2
 rw [List.take_length] at hpt2
 refine ⟨aO _,?_⟩
 refine ⟨ks2,rfl,by omega,fun k hk'=>by have:=hb2 k hk'; omega,fun cu u1 u2 u3=>?_⟩
 have hC:CutIn ps cu:=⟨u1,fun t ht=>hb2 t ((u2 t).mp ht)⟩
 have hP:bf (aF ps as) cu=true:=bE.mpr fun w hw=>by
  obtain ⟨t,t1,t2⟩:=hpt2 w hw
  exact ⟨t,t1,(u2 t).mpr t2⟩
 refine ⟨aO _,?_⟩
 refine ⟨fun k ρ=>∃ (cu ls:List Int) (c m:Int) (v5:Option D),ρ=[some (af [c,m]),some (dl (aF ps as)),some (.bl b),some (af cu),some (af ls),v5]∧0≤c∧CutIn ps cu∧bf (aF ps as) cu=true∧ls.length=k∧ls.Nodup∧∀ t∈ls,t∈cu,⟨_,cu,cu,c6,m6,_,rfl,h6,hC,hP,rfl,hC.up.imp (fun h=>by omega),fun t h=>h⟩,?_⟩
 rintro k ρ ⟨cu,ls,c7,m7,v5,rfl,h7,hC,hP,hk,hn,hls⟩
 refine (bS (c:=b=true) (fun _=>?_) (fun _=>q0 cu c7 m7 hC hP h7))
 refine ⟨fT _,fT [],?_⟩
 have e:eqD (af ls) (.lst [])=decide (ls=[]):=eqDi ls []
 rw [e]
 by_cases hne:ls=[]
 ·rw [decide_eq_true hne]
  exact q0 cu c7 m7 hC hP h7
 rw [decide_eq_false hne]
 have hpos : 0<ls.length:=List.length_pos_iff.mpr hne
 have hcl:=hC.len
 have hll:ls.length≤cu.length:=hn.length_le_of_subset hls
 refine ⟨c7,m7,(ls.length:Int),by rw [ar],h7,by omega,ci (n:=23) (by omega) (by decide +kernel),fun t c8 m8 t0 t1 h8=>?_⟩
 refine ⟨rfl,?_⟩
 refine ⟨ls,t,rfl,rfl,t0,t1,?_⟩
 have hperm:=fw (l:=ls) (i:=t.toNat) (by omega)
 have ez:ls.getD t.toNat 0=ls[t.toNat]'(by omega):=by rw [List.getD_eq_getElem?_getD,List.getElem?_eq_getElem (by omega)]; rfl
 have hel:(ls.eraseIdx t.toNat).length + 1=ls.length:=by rw [List.length_eraseIdx,if_pos (by omega)]; omega
 rw [← ez] at hperm
 generalize ls.getD t.toNat 0=z at hperm
 generalize ls.eraseIdx t.toNat=ls' at hperm hel
 have hz1:=hls z (hperm.mem_iff.mp (.head _))
 have hnd':=hperm.nodup_iff.mpr hn
 rw [List.nodup_cons] at hnd'
 refine ⟨by rw [ar]; omega,?_⟩
 refine bV (neF z) ?_ ?_
 ·intro d hd k hk
  obtain ⟨x,hx,rfl⟩:=bC hd
  have e:neF z (.int x)=if (!decide (x=z))=true then some (.int x) else none:=rfl
  rw [e] at hk
  refine (bS (c:=(!decide (x=z))=true) (fun c=>?_) (fun c=>?_))
  ·rw [if_pos c] at hk; exact hk
  ·rw [if_neg c] at hk; exact hk
 rw [gQ]
 obtain ⟨w1,w2⟩:=jw hT ha
 have hcn:cu.Nodup:=hC.up.imp fun h=>by omega
 have ee:cu.erase z=cu.filter fun x=>!decide (x=z):=by
  rw [hcn.erase_eq_filter]
  refine List.filter_congr fun x _=>?_
  by_cases h:x=z <;> simp [h]
 refine ⟨_,_,rfl,w1,w2,?_⟩
 refine (bS (c:=bf (aF ps as) (cu.filter fun x=>!decide (x=z))=true) (fun hp=>?_) (fun _=>?_))
 ·refine ⟨cu,z,rfl,rfl,hz1,?_⟩
  rw [ee]
  refine ⟨ls'.length,by omega,_,ls',c8,m8,_,rfl,h8,⟨hC.up.filter _,fun t ht=>hC.lo t (List.mem_filter.mp ht).1⟩,hp,rfl,hnd'.2,fun t ht=>?_⟩
  refine List.mem_filter.mpr ⟨hls t (hperm.mem_iff.mp (.tail _ ht)),?_⟩
  have:t≠z:=fun e=>hnd'.1 (e ▸ ht)
  simpa using this
 ·exact ⟨ls'.length,by omega,cu,ls',c8,m8,_,rfl,h8,hC,hP,rfl,hnd'.2,fun t ht=>hls t (hperm.mem_iff.mp (.tail _ ht))⟩
end
end K61
namespace K61
open PySem L2
section
variable {P:Program} {w:World} {K:PySem.W.Frag} {mg:Str→Option Value} {base:Heap} {A:Adr}
structure SideC (ps:List Int) (a:Ask) (cu:List Int):Prop where
 one:∀ (c:Int) (uc:List Int),c=a.one∨c=a.other→Up ps c uc→∀ x∈uc,∀ y∈uc,x∈ax ps a→y∈ax ps a→x∈cu→y∈cu→x=y
def rW:SpD:=fun ds q=>∃ ps rs a cu,ds=[aZ ps rs,er a,af cu]∧Tree ps rs∧AskOk ps a∧CutIn ps cu∧SideC ps a cu∧q (.bl true) []
theorem wv (T:Txt K mg A) (hB:TabB base mg A.tc A.tP tqS):FnOk P w K mg base CX0 7 A.f_q26 A.d_q26 ["_law_tree","_law_ask_here","_law_cut_here"] (a9 [false,false,false] false (rW)):=by
 have S:=vq
 refine fnD T.t_q26.F S ⟨[false,false,false],[false,false,false,false,false,false],false⟩ _ ?hl rfl rfl fun cdv Ar outer s H E hr=>⟨_,(ac (aT (i:=3) S.nd rfl (Or.inr rfl) (ah (qN T hB) hr T.t_q10 (ao (aa 0) (ao (aH az dIx (aa 1) ae (fun _ _=>rfl)) (ao (aH az dIx (aa 1) ae (fun _ _=>rfl)) am)))))
  (ac (bQ PassesOwn.never rfl (uY (nU (aa 1) sT (sA ae))) (aD (i:=4) S.nd rfl (Or.inl rfl)) (ac (aT (i:=5) S.nd rfl (Or.inl rfl) (QF.qe (aQ (jD T hB) hr T.t_q44 (ao (aH az dIx (aa 0) ae (fun _ _=>rfl)) (ao (aa 4) am)))))
  (ag (bu (aX ij dB (aq aw cE rfl T.z_len a_ (ad (bp ["_law_tie"] [2,3,0] ⟨rfl,rfl,by decide +kernel,rfl,rfl,(by first | exact trivial | exact ⟨rfl,trivial⟩ | exact ⟨rfl,rfl,trivial⟩ | exact ⟨rfl,rfl,rfl,trivial⟩ | exact ⟨rfl,rfl,rfl,rfl,trivial⟩),rfl⟩ rfl (aR (aa 5)) (a6 0) (fun _ _ _ _=>⟨(aP (i:=0) (show List.Nodup (["_law_tie","_law_cut_here","_law_turn","_law_tree"]:List Str) by decide +kernel) rfl (Or.inl rfl)),(cz (QW.qt (jO (aX eV dIn (aa 0) (aa 1) rfl) (gS (aX cR dIn (aa 0) (QF.qe (aQ (jD T hB) hr T.t_q44 (ao (aH az dIx (aa 3) ae (fun _ _=>rfl)) (ao (aa 2) am)))) rfl))))),(aa 0)⟩)) ai)) ae (aU _)) (ag (aE ck)) aL))))
  (ag (aE ck)))),fun ds q h=>?_⟩
 case hl=>intro ds q h; obtain ⟨ps,rs,a,cu,rfl,_⟩:=h; rfl
 obtain ⟨ps,rs,a,cu,rfl,hT,hok,hC,hS,q0⟩:=h
 have he:=hok.ends
 refine ⟨ps,rs,a.one,a.other,rfl,hT,he,?_⟩
 intro w m hw
 have lo:=hw.low hT he.a0 he.b0 he.a1 he.b1
 obtain ⟨e1,e2⟩:=hw.way hT he.a0 he.b0 he.a1 he.b1
 have ha1:=he.a1
 refine ⟨by simp [HT.sIx],fun i ρ=>∃ v4 v5,ρ=[some (aZ ps rs),some (er a),some (af cu),some (.int m),v4,v5],⟨_,_,rfl⟩,?_,?_⟩
 rotate_left
 ·rintro ρ ⟨v4,v5,rfl⟩
  exact q0
 rintro i d ρ hd ⟨v4,v5,rfl⟩
 obtain ⟨c,rfl,hc⟩:∃ c:Int,d = .int c∧(c=a.one∨c=a.other):=by
  have hm:d∈[D.int a.one,D.int a.other]:=List.mem_of_getElem? hd
  rcases List.mem_cons.mp hm with rfl | hm
  ·exact ⟨_,rfl,.inl rfl⟩
  ·rw [List.mem_singleton.mp hm]; exact ⟨_,rfl,.inr rfl⟩
 have cb : 0≤c∧c≤(ps.length:Int):=by
  rcases hc with rfl | rfl
  ·exact ⟨he.a0,he.a1⟩
  ·exact ⟨he.b0,he.b1⟩
 refine ⟨ps,rs,c,rfl,hT,cb.1,cb.2,fun u hu=>?_⟩
 have hul:=hu.len hT cb.2
 have hti:=hT.hi
 have cb2:=cb.2
 rw [List.length_append] at hul
 obtain ⟨um,hum⟩:=Up.all hT _ m rfl lo.1 (by omega)
 refine ⟨by rw [ar]; simp at hul; omega,?_⟩
 refine bV (qZ fun x=>cu.contains x && !um.contains x) ?_ ?_
 ·intro d hd k hk
  obtain ⟨x,hx,rfl⟩:=bC hd
  refine ⟨rfl,bX cu,?_⟩
  have ei:inD (.int x) (cu.map D.int)=cu.contains x:=cF _ _
  change k (if (cu.contains x && !um.contains x)=true then some (.int x) else none) at hk
  refine (bS (c:=inD (.int x) (cu.map D.int)=true) (fun cc=>?_) (fun cc=>?_))
  rotate_left
  ·rw [ei] at cc
   rw [if_neg (by rw [Bool.and_eq_true]; exact fun z=>cc z.1)] at hk
   exact hk
  rw [ei] at cc
  have hx0:=hC.lo x (by simpa using cc)
  refine ⟨ps,rs,m,rfl,hT,lo.1,by omega,fun v hv=>?_⟩
  have ev:um.contains x=v.contains x:=by
   rw [← hv.det hum]
   rw [Bool.eq_iff_iff,List.contains_iff_mem,List.contains_iff_mem,List.mem_append]
   exact ⟨fun z=>z.elim id fun z=>by have:=List.mem_singleton.mp z; omega,.inl⟩
  rw [cc,Bool.true_and,ev] at hk
  refine ⟨rfl,bX v,?_⟩
  show if (!inD (.int x) (v.map D.int))=true then k (some (.int x)) else k none
  rw [cF]
  cases e:v.contains x with
  | true=>rw [e] at hk; exact hk
  | false=>rw [e] at hk; exact hk
 rw [fg]
 have h1:(u.filter fun x=>cu.contains x && !um.contains x).length≤1:=by
  have hn:(u++[0]).Nodup:=(hu.dec hT cb.2).imp fun h=>by omega
  rw [List.nodup_append] at hn
  have inW:∀ x∈u,(cu.contains x && !um.contains x)=true→x∈ax ps a∧x∈cu:=fun x hx px=>by
   rw [Bool.and_eq_true] at px
   refine ⟨?_,by simpa using px.1⟩
   obtain ⟨ua,hua⟩:=Up.all hT _ a.one rfl he.a0 he.a1
   obtain ⟨ub,hub⟩:=Up.all hT _ a.other rfl he.b0 he.b1
   show x∈fh ps a.one a.other
   rw [← e1]
   refine (d5 hT he hw hua hub hum).mpr ⟨?_,by simpa using px.2⟩
   rcases hc with rfl | rfl
   ·left; rw [hua.det hu]; exact List.mem_append.mpr (.inl hx)
   ·right; rw [hub.det hu]; exact List.mem_append.mpr (.inl hx)
  refine rc hn.1 fun x hx y hy px py=>?_
  exact hS.one c _ hc hu x (List.mem_append.mpr (.inl hx)) y (List.mem_append.mpr (.inl hy)) (inW x hx px).1 (inW y hy py).1 (inW x hx px).2 (inW y hy py).2
 refine (bS (c:=decide ((1:Int)<(((u.filter fun x=>cu.contains x && !um.contains x).map D.int).length:Int))=true) (fun cc=>?_) (fun _=>⟨_,_,rfl⟩))
 rw [ar] at cc
 have:=of_decide_eq_true cc
 omega
end
end K61
namespace K61
open PySem L2
section
variable {P:Program} {w:World} {K:PySem.W.Frag} {mg:Str→Option Value} {base:Heap} {A:Adr}
theorem kf {ps rs:List Int} (hT:Tree ps rs) (j:Nat):∀ (as:List Ask) (fs l:List Int),(∀ a∈as,AskOk ps a)→l.length=ps.length→fs.length=as.length→(bJ ps as fs l).getD j 0=l.getD j 0 + (List.zipWith (fun a f=>cnt ((j:Int) + 1) (ax ps a) f) as fs).sum
 | [],_,l,_,_,_=>by show l.getD j 0=l.getD j 0 + 0; omega
 | a :: as,[],_,_,_,h=>by cases h
 | a :: as,f :: fs,l,hok,hl,hlen=>by
  have ok:=hok a (.head _)
  rw [bJ,kf hT j as fs _ (fun x hx=>hok x (.tail _ hx)) (by rw [bU]; exact hl) (by simpa using hlen),List.zipWith_cons_cons,List.sum_cons]
  have e:(bt l (ax ps a) f).getD j 0=l.getD j 0 + cnt ((j:Int) + 1) (ax ps a) f:=fG (cT hT ok.ends) fun x hx=>by have:=cS hT ok.ends hx; omega
  omega
theorem lc (ps:List Int) (t:Int):∀ (as:List Ask) (fs:List Int),fs.length=as.length→bH ps as fs t=(List.zipWith (fun a f=>cnt t (ax ps a) f) as fs).sum:=fun as fs h=>by
 unfold bH
 refine congrArg List.sum ?_
 apply List.ext_getElem?
 intro i
 rw [List.getElem?_map,List.getElem?_zipWith]
 by_cases hi:i<as.length
 ·rw [List.getElem?_range hi,List.getElem?_eq_getElem hi,List.getElem?_eq_getElem (show i<fs.length by omega)]
  show some (cnt t (ax ps (as.getD ((i:Nat):Int).toNat jy)) (fs.getD i 0))=some (cnt t (ax ps as[i]) fs[i])
  rw [Int.toNat_natCast,List.getD_eq_getElem?_getD,List.getD_eq_getElem?_getD,List.getElem?_eq_getElem hi,List.getElem?_eq_getElem (show i<fs.length by omega)]; rfl
 ·rw [List.getElem?_eq_none (by simpa using hi),List.getElem?_eq_none (show as.length≤i by omega)]; rfl
def qr (ps rs:List Int) (as:List Ask) (fl:List Int):Bool:=(List.range ps.length).all fun (j:Nat)=>decide (bH ps as fl ((j:Int) + 1)≤rs.getD j 0)
theorem nP (fs:List Int):(fs.map D.int).map iu=fs:=by
 rw [List.map_map]
 exact List.map_id' fs
theorem ic {ps rs:List Int} {as:List Ask} {fs:List Int} (hT:Tree ps rs) (ha:AsksOk ps as) (hl:fs.length=as.length) (hn:∀ f∈fs,0≤f):kC ps rs as (af fs)=qr ps rs as fs:=by
 show (decide ((fs.map D.int).length=as.length)&&((fs.map D.int).all f_&&(List.zipWith leB (bJ ps as ((fs.map D.int).map iu) (List.replicate ps.length 0)) rs).all id))=_
 rw [nP,List.length_map,decide_eq_true hl,Bool.true_and]
 have hc:(fs.map D.int).all f_=true:=by
  rw [List.all_map,List.all_eq_true]
  intro x hx
  exact decide_eq_true (hn x hx)
 rw [hc,Bool.true_and]
 have hlr:=hT.len
 have htl:(bJ ps as fs (List.replicate ps.length 0)).length=ps.length:=by rw [eZ,List.length_replicate]
 have key:List.zipWith leB (bJ ps as fs (List.replicate ps.length 0)) rs=(List.range ps.length).map fun (j:Nat)=>decide (bH ps as fs ((j:Int) + 1)≤rs.getD j 0):=by
  apply List.ext_getElem?
  intro i
  rw [List.getElem?_map,List.getElem?_zipWith]
  by_cases hi:i<ps.length
  ·rw [List.getElem?_range hi,List.getElem?_eq_getElem (show i<(bJ ps as fs (List.replicate ps.length 0)).length by omega),List.getElem?_eq_getElem (show i<rs.length by omega)]
   show some (decide (_≤_))=some (decide (_≤_))
   have e1:=kf hT i as fs (List.replicate ps.length 0) ha.ok List.length_replicate hl
   rw [ff,← lc ps _ as fs hl,List.getD_eq_getElem?_getD,List.getElem?_eq_getElem (show i<(bJ ps as fs (List.replicate ps.length 0)).length by omega)] at e1
   have e1:(bJ ps as fs (List.replicate ps.length 0))[i]=0 + bH ps as fs ((i:Int) + 1):=e1
   rw [e1,Int.zero_add,List.getD_eq_getElem?_getD,List.getElem?_eq_getElem (show i<rs.length by omega)]; rfl
  ·rw [List.getElem?_eq_none (show (bJ ps as fs (List.replicate ps.length 0)).length≤i by omega),List.getElem?_eq_none (l:=List.range ps.length) (by simpa using hi)]; rfl
 rw [key,List.all_map]; rfl
theorem i3 {ps rs:List Int} {as:List Ask} {fs:List Int} (hl:fs.length=as.length) (hn:∀ f∈fs,0≤f):qr ps rs as fs=true↔FlowK ps rs as fs:=by
 unfold qr
 rw [List.all_eq_true]
 constructor
 ·intro h
  refine ⟨hl,fun i=>?_,fun t t0 t1=>?_⟩
  ·by_cases hi:i<fs.length
   ·exact hn _ (L2.getD_mem hi)
   ·rw [List.getD_eq_getElem?_getD,List.getElem?_eq_none (by omega)]; decide
  ·have:=of_decide_eq_true (h (t - 1).toNat (List.mem_range.mpr (by omega)))
   rw [show (((t - 1).toNat:Nat):Int) + 1=t by omega] at this
   exact this
 ·intro h j hj
  have:=List.mem_range.mp hj
  have:=h.ft ((j:Int) + 1) (by omega) (by omega)
  rw [show ((j:Int) + 1 - 1).toNat=j by omega] at this
  exact decide_eq_true this
def takF (ws:List (List Int)) (fl:List Int) (t:Int):D→Option D
 | .int k=>if (ws.getD k.toNat []).contains t=true then some (.int (fl.getD k.toNat 0)) else none
 | _=>none
theorem kT (ps:List Int) (as:List Ask) (fl:List Int) (t:Int):∀ n:Nat,n≤as.length→∃ xs:List Int,(dE 0 n).filterMap (takF (aF ps as) fl t)=xs.map D.int∧xs.length≤n∧xs.sum=((List.range n).map fun (i:Nat)=>cnt t (bh ps as (i:Int)) (fl.getD i 0)).sum
 | 0,_=>⟨[],rfl,Nat.le_refl _,rfl⟩
 | n + 1,h=>by
  obtain ⟨xs,h1,h2,h3⟩:=kT ps as fl t n (Nat.le_of_succ_le h)
  have e:dE 0 (n + 1)=dE 0 n++[.int (n:Int)]:=by unfold dE; rw [List.range_succ,List.map_append]; simp
  have ew:(aF ps as).getD n []=bh ps as (n:Int):=by
   unfold aF
   rw [List.getD_eq_getElem?_getD,List.getElem?_map,List.getElem?_eq_getElem (show n<as.length by omega)]
   show ax ps as[n]=ax ps (as.getD ((n:Nat):Int).toNat jy)
   rw [Int.toNat_natCast,List.getD_eq_getElem?_getD,List.getElem?_eq_getElem (show n<as.length by omega)]; rfl
  rw [e,List.filterMap_append,h1,List.range_succ,List.map_append,List.sum_append]
  have ef:takF (aF ps as) fl t (.int (n:Int))=if (bh ps as (n:Int)).contains t=true then some (.int (fl.getD n 0)) else none:=by
   show (if ((aF ps as).getD ((n:Nat):Int).toNat []).contains t=true then some (D.int (fl.getD ((n:Nat):Int).toNat 0)) else none)=_
   rw [Int.toNat_natCast,ew]
  by_cases c:(bh ps as (n:Int)).contains t=true
  ·refine ⟨xs++[fl.getD n 0],?_,by rw [List.length_append]; exact Nat.succ_le_succ h2,?_⟩
   ·rw [List.filterMap_cons,ef,if_pos c,List.map_append]; rfl
   ·rw [List.sum_append,h3]
    simp only [List.map_cons,List.map_nil,List.sum_cons,List.sum_nil]
    unfold cnt; rw [if_pos c]
  ·refine ⟨xs,?_,Nat.le_succ_of_le h2,?_⟩
   ·rw [List.filterMap_cons,ef,if_neg c]; simp
   ·rw [h3]
    simp only [List.map_cons,List.map_nil,List.sum_cons,List.sum_nil]
    unfold cnt; rw [if_neg c]; omega
theorem nD {ps rs:List Int} {as:List Ask} {fl:List Int} (hT:Tree ps rs) (ha:AsksOk ps as) (h:FlowK ps rs as fl):kC ps rs as (af fl)=true:=by
 have hn:∀ f∈fl,0≤f:=fun f hf=>by
  obtain ⟨i,hi⟩:=List.getElem?_of_mem hf
  have:=h.nn i
  rw [List.getD_eq_getElem?_getD,hi] at this
  exact this
 rw [ic hT ha h.len hn]
 exact (i3 h.len hn).mpr h
theorem gu {ps:List Int} {as:List Ask} {cu:List Int} (hC:CutIn ps cu):iF ps as (af cu)=bf (aF ps as) cu:=by
 unfold iF
 rw [hC.b,ik,Bool.true_and]
def rQ:SpD:=fun ds q=>∃ ps rs as fl cu,ds=[aZ ps rs,dg as,dl (aF ps as),af fl,af cu]∧Tree ps rs∧AsksOk ps as∧FlowCut2 ps rs as fl cu∧q (.bl true) []
theorem ok_q3 (T:Txt K mg A) (hB:TabB base mg A.tc A.tP tqS):FnOk P w K mg base CX0 10 A.f_q3 A.d_q3 ["_law_tree","_law_asks","_law_ways","_law_flow","_law_cut_here"] (a9 [false,false,false,false,false] false (rQ)):=by
 have S:=sc_q3
 refine fnD T.t_q3.F S ⟨[false,false,false,false,false],[false,false,false,false,false,false,false],false⟩ _ ?hl rfl rfl fun cdv Ar outer s H E hr=>⟨_,(ac (bu (QW.qt (gw (bx (bc (ah (o7 T hB) hr T.t_q24 (ao (aa 0) (ao (aa 1) (ao (aa 3) am)))))) (eG (bx (bc (ah (lW T hB) hr T.t_q14 (ao (aa 0) (ao (aa 1) (ao (aa 4) am))))))))) (ag (aE ck)) aL)
  (ac (bQ PassesOwn.never rfl (aR (aa 4)) (aD (i:=5) S.nd rfl (Or.inr rfl)) (ac (bu (aX (c_ hr.units) dNe (aq (dR rfl) p9 rfl T.z_sum iC (ad (bp ["_law_k"] [3,5,2] ⟨rfl,rfl,by decide +kernel,rfl,rfl,(by first | exact trivial | exact ⟨rfl,trivial⟩ | exact ⟨rfl,rfl,trivial⟩ | exact ⟨rfl,rfl,rfl,trivial⟩ | exact ⟨rfl,rfl,rfl,rfl,trivial⟩),rfl⟩ rfl (gf rfl T.z_range (ad (aq aw cE rfl T.z_len a_ (ad (aa 2) ai)) ai)) (a6 0) (fun _ _ _ _=>⟨(aP (i:=0) (show List.Nodup (["_law_k","_law_flow","_law_tie","_law_ways"]:List Str) by decide +kernel) rfl (Or.inl rfl)),(cz (aX eV dIn (aa 2) (aH az dIx (aa 3) (aa 0) (fun _ _=>rfl)) rfl)),(aH az dIx (aa 1) (aa 0) (fun _ _=>rfl))⟩)) ai)) (aH az dIx (aH az dIx (aa 0) ae (fun _ _=>rfl)) (aB bF dI (aa 5) ae) (fun _ _=>rfl)) (aU _)) (ag (aE ck)) aL)
  (ag (bu (bc (ah (lW T hB) hr T.t_q14 (ao (aa 0) (ao (aa 1) (ao (bp ["_law_one"] [5] ⟨rfl,rfl,by decide +kernel,rfl,rfl,(by first | exact trivial | exact ⟨rfl,trivial⟩ | exact ⟨rfl,rfl,trivial⟩ | exact ⟨rfl,rfl,rfl,trivial⟩ | exact ⟨rfl,rfl,rfl,rfl,trivial⟩),rfl⟩ rfl (aR (aa 4)) (a6 0) (fun _ _ _ _=>⟨(aP (i:=0) (show List.Nodup (["_law_one","_law_tie"]:List Str) by decide +kernel) rfl (Or.inl rfl)),(cz (aX (c_ hr.units) dNe (aa 0) (aa 1) (aU _))),(aa 0)⟩)) am))))) (ag (aE ck)) aL))))
  (ac (bQ PassesOwn.never rfl (gf rfl T.z_range (ad (aq aw cE rfl T.z_len a_ (ad (aa 1) ai)) ai)) (aD (i:=6) S.nd rfl (Or.inl rfl)) (ag (bu (QW.qt (jO (aX ij dB (aH az dIx (aa 3) (aa 6) (fun _ _=>rfl)) ae (aU _)) (gS (bx (bc (ah (wv T hB) hr T.t_q26 (ao (aa 0) (ao (aH az dIx (aa 1) (aa 6) (fun _ _=>rfl)) (ao (aa 4) am))))))))) (ag (aE ck)) aL)))
  (ag (aE ck))))),fun ds q h=>?_⟩
 case hl=>intro ds q h; obtain ⟨ps,rs,as,fl,cu,rfl,_⟩:=h; rfl
 obtain ⟨ps,rs,as,fl,cu,rfl,hT,ha,hFC,q0⟩:=h
 have hal:=ha.len
 have hti:=hT.hi
 have hlr:=hT.len
 have hfl:=hFC.fc.f.len
 have hC:CutIn ps cu:=⟨hFC.fc.c.up,hFC.fc.c.lo⟩
 have hcl:=hC.len
 have hwl:(aF ps as).length=as.length:=by unfold aF; rw [List.length_map]
 refine ⟨ps,rs,as,af fl,rfl,hT,ha,dU _,fun ds e=>by cases e; rw [ar]; omega,?_⟩
 rw [nD hT ha hFC.fc.f]
 refine ⟨ps,rs,as,af cu,rfl,hT,ha,dU _,?_⟩
 rw [gu hC,bE.mpr (fun w hw=>by obtain ⟨a,hm,rfl⟩:=List.mem_map.mp hw; exact hFC.fc.c.pt a hm)]
 refine ⟨fun i ρ=>∃ v5 v6,ρ=[some (aZ ps rs),some (dg as),some (dl (aF ps as)),some (af fl),some (af cu),v5,v6],⟨_,_,rfl⟩,?_,?_⟩
 ·rintro i d ρ hd ⟨v5,v6,rfl⟩
  obtain ⟨z,hz,rfl⟩:=cH hd
  have hzm:=List.mem_of_getElem? hz
  have hz1:=hC.lo z hzm
  refine ⟨⟨by rw [List.length_map]; omega,by rw [List.length_map]; omega⟩,?_⟩
  refine ⟨by rw [cW,List.length_map]; omega,?_⟩
  refine bV (takF (aF ps as) fl z) ?_ ?_
  ·intro d hd k hk
   obtain ⟨j,hjj⟩:=List.getElem?_of_mem hd
   obtain ⟨h1,rfl⟩:=eU hjj
   rw [List.length_map,hwl,Int.toNat_natCast] at h1
   have hwy:=gM (ps:=ps) (as:=as) (z:=0 + (j:Int)) (by omega) (by omega)
   refine aY hwy ?_
   refine ⟨rfl,bX _,?_⟩
   have ew:(aF ps as).getD (0 + (j:Int)).toNat []=ax ps (aK as (0 + (j:Int))):=by
    unfold aF
    rw [List.getD_eq_getElem?_getD,List.getElem?_map,List.getElem?_eq_getElem (show (0 + (j:Int)).toNat<as.length by omega)]
    show ax ps as[(0 + (j:Int)).toNat]=ax ps (as.getD (0 + (j:Int)).toNat jy)
    rw [List.getD_eq_getElem?_getD,List.getElem?_eq_getElem (show (0 + (j:Int)).toNat<as.length by omega)]; rfl
   have e:takF (aF ps as) fl z (.int (0 + (j:Int)))=if (ax ps (aK as (0 + (j:Int)))).contains z=true then some (.int (fl.getD (0 + (j:Int)).toNat 0)) else none:=by
    show (if ((aF ps as).getD (0 + (j:Int)).toNat []).contains z=true then some (D.int (fl.getD (0 + (j:Int)).toNat 0)) else none)=_
    rw [ew]
   rw [e] at hk
   have ei:inD (.int z) ((ax ps (aK as (0 + (j:Int)))).map D.int)=(ax ps (aK as (0 + (j:Int)))).contains z:=cF _ _
   refine (bS (c:=inD (.int z) ((ax ps (aK as (0 + (j:Int)))).map D.int)=true) (fun c=>?_) (fun c=>?_))
   ·rw [ei] at c
    rw [if_pos c] at hk
    refine aY (bb (by omega) (by omega)) ?_
    exact hk
   ·rw [ei] at c
    rw [if_neg c] at hk; exact hk
  obtain ⟨xs,x1,x2,x3⟩:=kT ps as fl z as.length (Nat.le_refl _)
  have en:(((aF ps as).map af).length:Int).toNat=as.length:=by rw [List.length_map]; omega
  rw [en,x1]
  refine ⟨_,rfl,?_⟩
  refine aY (bb (ns:=rs) (k:=z - 1) (by omega) (by omega)) ?_
  have et:xs.sum=rs.getD (z - 1).toNat 0:=by rw [x3]; exact hFC.full z hzm
  rw [et]
  refine (bS (c:=(!decide (rs.getD (z - 1).toNat 0=rs.getD (z - 1).toNat 0))=true) (fun c=>?_) (fun c=>?_))
  ·rw [decide_eq_true rfl] at c; cases c
  refine ⟨by rw [ar]; omega,?_⟩
  refine bV (neF z) ?_ ?_
  ·intro d hd k hk
   obtain ⟨x,hx,rfl⟩:=bC hd
   have e:neF z (.int x)=if (!decide (x=z))=true then some (.int x) else none:=rfl
   rw [e] at hk
   refine (bS (c:=(!decide (x=z))=true) (fun c=>?_) (fun c=>?_))
   ·rw [if_pos c] at hk; exact hk
   ·rw [if_neg c] at hk; exact hk
  rw [gQ]
  have hC2:CutIn ps (cu.filter fun x=>!decide (x=z)):=⟨hC.up.filter _,fun t ht=>hC.lo t (List.mem_filter.mp ht).1⟩
  refine ⟨ps,rs,as,af (cu.filter fun x=>!decide (x=z)),rfl,hT,ha,dU _,?_⟩
  rw [gu hC2,hFC.mini z hzm]
  exact ⟨_,_,rfl⟩
 rintro ρ ⟨v5,v6,rfl⟩
 refine ⟨⟨by rw [bD]; omega,by rw [bD]; omega⟩,?_⟩
 refine ⟨fun i ρ=>∃ v6,ρ=[some (aZ ps rs),some (dg as),some (dl (aF ps as)),some (af fl),some (af cu),v5,v6],⟨_,rfl⟩,?_,?_⟩
 rotate_left
 ·rintro ρ ⟨v6,rfl⟩
  exact q0
 rintro i d ρ hd ⟨v6,rfl⟩
 obtain ⟨hi,rfl⟩:=eU hd
 rw [bD,Int.toNat_natCast] at hi
 refine aY (bb (ns:=fl) (k:=0 + (i:Int)) (by omega) (by omega)) ?_
 refine (bS (c:=decide (0<fl.getD (0 + (i:Int)).toNat 0)=true) (fun c=>?_) (fun c=>⟨_,rfl⟩))
 have c':=of_decide_eq_true c
 rw [show (0 + (i:Int)).toNat=i by omega] at c'
 obtain ⟨a,hr⟩:∃ a,as[i]? = some a:=⟨_,List.getElem?_eq_getElem hi⟩
 have hat:atI (as.map er) (0 + (i:Int))=some (er a):=by rw [Int.zero_add]; exact dq (by rw [List.getElem?_map,hr]; rfl)
 refine aY hat ?_
 have hok:=ha.ok a (List.mem_of_getElem? hr)
 have ea:aK as (i:Int)=a:=by unfold aK; rw [Int.toNat_natCast,List.getD_eq_getElem?_getD,hr]; rfl
 refine ⟨ps,rs,a,cu,rfl,hT,hok,hC,⟨fun c uc hc hu x hx y hy hxW hyW kx ky=>?_⟩,?_⟩
 ·have he:=hok.ends
  refine hFC.side i hi c' c uc (by rcases hc with rfl | rfl; exact he.a0; exact he.b0) (by rcases hc with rfl | rfl; exact he.a1; exact he.b1) hu x hx y hy ?_ ?_ kx ky
  ·show x∈ax ps (aK as (i:Int)); rw [ea]; exact hxW
  ·show y∈ax ps (aK as (i:Int)); rw [ea]; exact hyW
 exact ⟨_,rfl⟩
end
end K61
namespace K61
open PySem L2
section
variable {P:Program} {w:World} {K:PySem.W.Frag} {mg:Str→Option Value} {base:Heap} {A:Adr}
theorem ph:∀ (ts rs:List Int),ts.length=rs.length→((List.zipWith leB ts rs).all id=true↔∀ j:Nat,j<ts.length→ts.getD j 0≤rs.getD j 0)
 | [],[],_=>⟨fun _ j h=>absurd h (Nat.not_lt_zero _),fun _=>rfl⟩
 | t :: ts,[],h=>by cases h
 | [],r :: rs,h=>by cases h
 | t :: ts,r :: rs,h=>by
  have ih:=ph ts rs (Nat.succ.inj h)
  rw [List.zipWith_cons_cons,List.all_cons,Bool.and_eq_true,ih]
  constructor
  ·rintro ⟨h1,h2⟩ j hj
   cases j with
   | zero=>exact of_decide_eq_true h1
   | succ j=>exact h2 j (Nat.lt_of_succ_lt_succ hj)
  ·intro h
   exact ⟨decide_eq_true (h 0 (Nat.succ_pos _)),fun j hj=>h (j + 1) (Nat.succ_lt_succ hj)⟩
theorem jf {ps rs:List Int} {as:List Ask} {fs:List Int} (hT:L2.Tree ps rs) (ha:AsksOk ps as) (h:ServOk ps rs as fs):kC ps rs as (af fs)=true:=by
 show (decide ((fs.map D.int).length=as.length)&&((fs.map D.int).all f_&&(List.zipWith leB (bJ ps as ((fs.map D.int).map iu) (List.replicate ps.length 0)) rs).all id))=true
 have e1:(fs.map D.int).length=as.length:=by rw [List.length_map]; exact h.len
 have e2:(fs.map D.int).all f_=true:=List.all_eq_true.mpr fun d hd=>by
  obtain ⟨z,hz,rfl⟩:=List.mem_map.mp hd
  exact decide_eq_true (h.nn z hz).1
 have e3:(fs.map D.int).map iu=fs:=by
  rw [List.map_map]
  have:(iu ∘ D.int)=id:=funext fun _=>rfl
  rw [this,List.map_id]
 have htl:(bJ ps as fs (List.replicate ps.length 0)).length=rs.length:=by rw [eZ,List.length_replicate]; exact hT.len
 rw [decide_eq_true e1,e2,e3,(ph _ _ htl).mpr fun j hj=>?_]
 ·rfl
 ·have hj2:j<ps.length:=by have:=hT.len; omega
  rw [mE hT hj2 as fs _ ha.ok (by rw [List.length_replicate])]
  have h0:(List.replicate ps.length (0:Int)).getD j 0=0:=by rw [List.getD_eq_getElem?_getD,List.getElem?_replicate]; split <;> rfl
  have:=h.fit j hj2
  omega
theorem w9 {ps rs:List Int} {as:List Ask} (hT:L2.Tree ps rs):ServOk ps rs as (List.replicate as.length 0):=⟨by rw [List.length_replicate],fun z hz=>by rw [(List.mem_replicate.mp hz).2]; decide,fun j hj=>by
 rw [jm]
 have hl:=hT.len
 have:=hT.room j (rs.getD j 0) (by rw [List.getD_eq_getElem?_getD,List.getElem?_eq_getElem (by omega)]; rfl)
 omega⟩
theorem vv {ps rs:List Int} {as:List Ask} {fs:List Int} (hT:Tree ps rs) (ha:AsksOk ps as) (h:ServOk ps rs as fs):FlowK ps rs as fs:=by
 have hb:=jf hT ha h
 have hn:∀ f∈fs,0≤f:=fun f hf=>(h.nn f hf).1
 rw [ic hT ha h.len hn] at hb
 exact (i3 h.len hn).mp hb
structure Sums (ps rs:List Int) (as:List Ask) (S R:List Int):Prop where
 s:∀ x∈S,∃ fs,FlowK ps rs as fs∧x=fs.sum
 r:∀ x∈R,∃ cu,CutK ps as cu∧x=bg rs cu
theorem Sums.le {ps rs:List Int} {as:List Ask} {S R:List Int} (h:Sums ps rs as S R) {x y:Int} (hx:x∈S) (hy:y∈R):x≤y:=by
 obtain ⟨fs,h1,rfl⟩:=h.s x hx
 obtain ⟨cu,h2,rfl⟩:=h.r y hy
 exact h1.le_cut h2.lo h2.pt
theorem wG (T:Txt K mg A) (hB:TabB base mg A.tc A.tP tqS):FnOk P w K mg base CX0 11 A.f_law A.d_law ["_law_script"] (a9 [false] false (qv K)):=by
 have S:=uv
 refine fnD T.t_law.F S ⟨[false],[false,false,false,false,false,false,true,true,false,true,false,false],false⟩ _ ?hl rfl rfl fun cdv Ar outer s H E hr=>⟨_,(ac (fC (ah (vA T hB) hr T.t_q34 (ao (aa 0) (ao ae am))) (cX rfl (aM (aD (i:=1) S.nd rfl (Or.inr rfl)) (aM (aD (i:=2) S.nd rfl (Or.inl rfl)) b_)) (au (au ba))))
  (ac (d_ (i:=3) ["_law_ask_here"] [1] ⟨rfl,rfl,by decide +kernel,rfl,rfl,(by first | exact trivial | exact ⟨rfl,trivial⟩ | exact ⟨rfl,rfl,trivial⟩ | exact ⟨rfl,rfl,rfl,trivial⟩ | exact ⟨rfl,rfl,rfl,rfl,trivial⟩),rfl⟩ rfl S.nd rfl (Or.inl rfl) (aR (aa 2)) (a6 0) (fun _ _ _ _=>⟨(aP (i:=0) (show List.Nodup (["_law_ask_here","_law_tree"]:List Str) by decide +kernel) rfl (Or.inl rfl)),bL,(QF.qe (aQ (wq T hB) hr T.t_q42 (ao (aH az dIx (aa 1) ae (fun _ _=>rfl)) (ao (aa 0) am))))⟩))
  (ac (fC (QF.qe (aQ (ok_q2 T hB) hr T.t_q2 (ao (aa 1) (ao (aa 2) am)))) (cX rfl (aM (aD (i:=4) S.nd rfl (Or.inl rfl)) (aM (aD (i:=5) S.nd rfl (Or.inl rfl)) b_)) (au (au ba))))
  (ac (bu (bx (bc (ah (ok_q3 T hB) hr T.t_q3 (ao (aa 1) (ao (aa 2) (ao (aa 3) (ao (aa 4) (ao (aa 5) am)))))))) (ag (aE ck)) aL)
  (ac (bv (i:=6) S.nd rfl (Or.inl rfl) (eO (ad (aq (dR rfl) p9 rfl T.z_sum iC (ad (aa 4) ai)) ai)))
  (ac (bv (i:=7) S.nd rfl (Or.inl rfl) (eO (ad (aq (dR rfl) p9 rfl T.z_sum iC (ad (bp ["_law_tie"] [1] ⟨rfl,rfl,by decide +kernel,rfl,rfl,(by first | exact trivial | exact ⟨rfl,trivial⟩ | exact ⟨rfl,rfl,trivial⟩ | exact ⟨rfl,rfl,rfl,trivial⟩ | exact ⟨rfl,rfl,rfl,rfl,trivial⟩),rfl⟩ rfl (aR (aa 5)) (a6 0) (fun _ _ _ _=>⟨(aP (i:=0) (show List.Nodup (["_law_tie","_law_tree"]:List Str) by decide +kernel) rfl (Or.inl rfl)),bL,(aH az dIx (aH az dIx (aa 1) ae (fun _ _=>rfl)) (aB bF dI (aa 0) ae) (fun _ _=>rfl))⟩)) ai)) ai)))
  (ac (bQ PassesOwn.never rfl (gk rfl T.z_range (ad ae (ad (aq (gr rfl) dMax rfl T.z_max gW (ad ae (ad (aq (cq rfl) lD rfl T.z_min de (ad (aq aw cE rfl T.z_len a_ (ad (aa 0) ai)) (ad ae ai))) ai))) ai))) (aD (i:=8) S.nd rfl (Or.inl rfl)) (ac (bv (i:=9) S.nd rfl (Or.inl rfl) (aQ (jE T hB) hr T.t_q36 (ao (aa 0) (ao (aa 8) am))))
  (ac (aT (i:=10) S.nd rfl (Or.inl rfl) (QF.qe (aQ (ok_q9 T hB) hr T.t_q9 (cI 9 (ao (aa 1) (ao (aa 3) (ao (aH az dIx (df (ad ae (ad ae ai))) (ah (bK T hB) hr T.t_q37 (cI 9 (ao ae am))) (fun _ _=>rfl)) am)))))))
  (ac (aT (i:=11) S.nd rfl (Or.inl rfl) (QF.qe (aQ (uw T hB) hr T.t_q41 (cI 9 (ao (aa 3) (ao (em (gi hr.units) dEq (aB dD dIC (aa 8) ae) ae (aU _)) am))))))
  (ac (bu (QW.qt (gw (bx (bc (ah (o7 T hB) hr T.t_q24 (ao (aa 1) (ao (aa 2) (ao (aa 10) am)))))) (eG (bx (bc (ah (lW T hB) hr T.t_q14 (ao (aa 1) (ao (aa 2) (ao (aa 11) am))))))))) (ag (aE ck)) aL)
  (ac (cV (i:=6) rfl (QE.qf (aq (dR rfl) p9 rfl T.z_sum iC (ad (aa 10) ai))))
  (ag (cV (i:=7) rfl (QE.qf (aq (dR rfl) p9 rfl T.z_sum iC (ad (bp ["_law_tie"] [1] ⟨rfl,rfl,by decide +kernel,rfl,rfl,(by first | exact trivial | exact ⟨rfl,trivial⟩ | exact ⟨rfl,rfl,trivial⟩ | exact ⟨rfl,rfl,rfl,trivial⟩ | exact ⟨rfl,rfl,rfl,rfl,trivial⟩),rfl⟩ rfl (aR (aa 11)) (a6 0) (fun _ _ _ _=>⟨(aP (i:=0) (show List.Nodup (["_law_tie","_law_tree"]:List Str) by decide +kernel) rfl (Or.inl rfl)),bL,(aH az dIx (aH az dIx (aa 1) ae (fun _ _=>rfl)) (aB bF dI (aa 0) ae) (fun _ _=>rfl))⟩)) ai)))))))))))
  (ac (bu (QT.bor [6,7] (QW.qt (gw (aX ij dB (aq (iU rfl) t9 rfl T.z_max gW (ad (aa 6) ai)) (aq (eT rfl) nr rfl T.z_min de (ad (aa 7) ai)) (aU _)) (eG (aX ij dB (aH az dIx (aa 7) ae (fun _ _=>rfl)) (aB eu dIC ae (aH az dIx (aa 6) ae (fun _ _=>rfl))) (aU _)))))) (ag (aE ck)) aL)
  (ag (aE (QE.bor [6,7] (dF (em tU dB (aB eu dIC ae (aH az dIx (aa 6) ae (fun _ _=>rfl))) (aq (iU rfl) t9 rfl T.z_max gW (ad (aa 6) ai)) (aU _)) (eN (em jc dB (aH az dIx (aa 7) ae (fun _ _=>rfl)) (aB eu dIC ae (aq (eT rfl) nr rfl T.z_min de (ad (aa 7) ai))) (aU _))))))))))))))),fun ds q h=>?_⟩
 case hl=>intro ds q h; obtain ⟨φ,ns,rfl,_⟩:=h; rfl
 obtain ⟨φ,ns,rfl,hφ,hl,q0⟩:=h
 refine ⟨φ,ns,rfl,hφ,hl,fun ps rs as hT ha=>?_⟩
 have hal:=ha.len
 have hti:=hT.hi
 have hlr:=hT.len
 refine ⟨by rw [bD]; omega,?_⟩
 refine bA (wayF ps) ?_ ?_
 ·intro d hd k hk
  obtain ⟨a,hm,rfl⟩:=List.mem_map.mp hd
  have he:=(ha.ok a hm).ends
  exact ⟨ps,rs,a.one,a.other,_,rfl,hT,he.a0,he.a1,he.b0,he.b1,hk⟩
 rw [kD]
 refine ⟨ps,rs,as,rfl,hT,ha,fun fl cu hFC=>?_⟩
 have hC:CutIn ps cu:=⟨hFC.fc.c.up,hFC.fc.c.lo⟩
 have hcl:=hC.len
 refine ⟨ps,rs,as,fl,cu,rfl,hT,ha,hFC,?_⟩
 refine ⟨_,rfl,?_⟩
 refine ⟨rfl,?_⟩
 refine ⟨by rw [ar]; omega,?_⟩
 refine bA (k9 rs) ?_ ?_
 ·intro d hd k hk
  obtain ⟨t,ht,rfl⟩:=bC hd
  have:=hC.lo t ht
  refine aY (bb (by omega) (by omega)) ?_
  exact hk
 rw [iy]
 refine ⟨_,rfl,?_⟩
 refine ⟨rfl,?_⟩
 refine ⟨hφ,?_⟩
 refine ⟨⟨by decide,by decide,by split <;> split <;> omega,by split <;> split <;> omega⟩,?_⟩
 refine ⟨fun i ρ=>∃ S R v8 v9 v10 v11,ρ=[some (.scr φ ns),some (aZ ps rs),some (dg as),some (dl (aF ps as)),some (af fl),some (af cu),some (af (fl.sum :: S)),some (af (bg rs cu :: R)),v8,v9,v10,v11]∧Sums ps rs as S R∧S.length=i∧R.length=i,⟨[],[],_,_,_,_,rfl,⟨fun x h=>(by cases h),fun x h=>(by cases h)⟩,rfl,rfl⟩,?_,?_⟩
 ·rintro i d ρ hd ⟨S,R,v8,v9,v10,v11,rfl,hS,lS,lR⟩
  obtain ⟨hi,rfl⟩:=eU hd
  have hi2:i<30:=by revert hi; split <;> split <;> omega
  refine ⟨φ,ns,32 + (i:Int),rfl,hφ,by omega,by omega,fun c m h0=>?_⟩
  refine ⟨c,m,2,rfl,h0,by decide,ci (n:=4) (by decide) (by decide +kernel),fun u c1 m1 u0 u1 h1=>?_⟩
  obtain ⟨y,hy,y1,y2⟩:∃ y:Int,atI [D.int 2,D.int 4] u=some (.int y)∧1≤y∧y≤4:=by
   have:u=0∨u=1:=by omega
   rcases this with rfl | rfl
   all_goals exact ⟨_,rfl,by decide,by decide⟩
  refine aY hy ?_
  refine ⟨c1,m1,ps,rs,as,y,rfl,y1,y2,h1,hT,ha,fun fs c2 m2 hSv h2=>?_⟩
  have hfl:=hSv.len
  refine ⟨(show (0:Int)<3 by decide),?_⟩
  refine ⟨c2,m2,ps,rs,as,decide ((32 + (i:Int)) % 3=2),rfl,h2,hT,ha,fun cu2 c3 m3 hC2 hP2 h3=>?_⟩
  have hcl2:=hC2.len
  refine ⟨ps,rs,as,af fs,rfl,hT,ha,dU _,fun ds e=>by cases e; rw [ar]; omega,?_⟩
  rw [jf hT ha hSv]
  refine ⟨ps,rs,as,af cu2,rfl,hT,ha,dU _,?_⟩
  rw [gu hC2,hP2]
  refine ⟨_,rfl,?_⟩
  refine ⟨rfl,by rw [ar]; show S.length + 1<1000; omega,?_⟩
  refine ⟨by rw [ar]; omega,?_⟩
  refine bA (k9 rs) ?_ ?_
  ·intro d hd k hk
   obtain ⟨t,ht,rfl⟩:=bC hd
   have:=hC2.lo t ht
   refine aY (bb (by omega) (by omega)) ?_
   exact hk
  rw [iy]
  refine ⟨_,rfl,?_⟩
  refine ⟨rfl,by rw [ar]; show R.length + 1<1000; omega,?_⟩
  refine ⟨S++[fs.sum],R++[bg rs cu2],some (.int (32 + (i:Int))),some (af [c3,m3]),some (af fs),some (af cu2),?_,⟨fun x hx=>?_,fun x hx=>?_⟩,by rw [List.length_append,lS]; rfl,by rw [List.length_append,lR]; rfl⟩
  ·rw [show fl.sum :: (S++[fs.sum])=(fl.sum :: S)++[fs.sum] from rfl,show bg rs cu :: (R++[bg rs cu2])=(bg rs cu :: R)++[bg rs cu2] from rfl,← dZ,← dZ]; rfl
  ·rcases List.mem_append.mp hx with h | h
   ·exact hS.s x h
   ·rw [List.mem_singleton.mp h]; exact ⟨fs,vv hT ha hSv,rfl⟩
  ·rcases List.mem_append.mp hx with h | h
   ·exact hS.r x h
   ·rw [List.mem_singleton.mp h]
    exact ⟨cu2,⟨hC2.up,hC2.lo,fun a hm=>bE.mp hP2 _ (List.mem_map.mpr ⟨a,hm,rfl⟩)⟩,rfl⟩
 rintro ρ ⟨S,R,v8,v9,v10,v11,rfl,hS0,lS,lR⟩
 have hS:Sums ps rs as (fl.sum :: S) (bg rs cu :: R):=⟨fun x hx=>by
  rcases List.mem_cons.mp hx with rfl | hx
  ·exact ⟨fl,hFC.fc.f,rfl⟩
  ·exact hS0.s x hx,fun x hx=>by
  rcases List.mem_cons.mp hx with rfl | hx
  ·exact ⟨cu,hFC.fc.c,rfl⟩
  ·exact hS0.r x hx⟩
 refine ⟨fl.sum :: S,rfl,Nat.succ_pos _,fun mx hmx hmxa=>?_⟩
 refine ⟨bg rs cu :: R,rfl,Nat.succ_pos _,fun mn hmn hmna=>?_⟩
 have k1:=hS.le hmx hmn
 have k2:=hFC.fc.r
 have k3:=hS.le hmx (List.mem_cons_self (a:=bg rs cu) (l:=R))
 have k4:=hS.le (List.mem_cons_self (a:=fl.sum) (l:=S)) hmn
 refine (bS (c:=decide (mn<mx)=true) (fun c=>?_) (fun _=>?_))
 ·have:=of_decide_eq_true c; omega
 have i1:atI (D.int (bg rs cu) :: R.map D.int) 0=some (.int (bg rs cu)):=dq (j:=0) rfl
 have i2:atI (D.int fl.sum :: S.map D.int) 0=some (.int fl.sum):=dq (j:=0) rfl
 refine aY i1 ?_
 refine aY i2 ?_
 refine ⟨Or.inl ⟨by decide,by decide⟩,?_⟩
 refine (bS (c:=decide (2 * fl.sum<bg rs cu)=true) (fun c=>?_) (fun _=>?_))
 ·have:=of_decide_eq_true c; omega
 refine aY i2 ?_
 refine ⟨Or.inl ⟨by decide,by decide⟩,?_⟩
 refine ⟨fl.sum :: S,rfl,Nat.succ_pos _,fun mx hmx hmxa=>?_⟩
 have k5:=hS.le hmx (List.mem_cons_self (a:=bg rs cu) (l:=R))
 refine (bS (c:=decide (mx≤2 * fl.sum)=true) (fun _=>?_) (fun c=>absurd (decide_eq_true (by omega)) c))
 refine aY i1 ?_
 refine ⟨bg rs cu :: R,rfl,Nat.succ_pos _,fun mn hmn hmna=>?_⟩
 have k6:=hS.le (List.mem_cons_self (a:=fl.sum) (l:=S)) hmn
 refine ⟨Or.inl ⟨by decide,by decide⟩,?_⟩
 have hq:decide (bg rs cu≤2 * mn)=true:=decide_eq_true (by omega)
 have q1:q (.bl (decide (bg rs cu≤2 * mn))) []:=by rw [hq]; exact q0
 first | exact q1 | exact ⟨rfl,q1⟩
end
end K61
namespace K61
open PySem L2
theorem fA {us:List Value} {n:Nat} (h:us.length=n + 1):∃ a r,us=a :: r∧r.length=n:=by
 cases us with
 | nil=>cases h
 | cons a r=>exact ⟨a,r,rfl,Nat.succ.inj h⟩
theorem us1 {fd:FuncData} {ps:List Str} (h:∀ a0,bindArgs fd ⟨[a0],[]⟩=pure (ps.zip [a0])):∀ us:List Value,us.length=1→bindArgs fd ⟨us,[]⟩=pure (ps.zip us):=fun us hl=>by
 obtain ⟨a0,u0,rfl,h0⟩:=fA hl
 cases List.eq_nil_of_length_eq_zero h0
 exact h a0
theorem us2 {fd:FuncData} {ps:List Str} (h:∀ a0 a1,bindArgs fd ⟨[a0,a1],[]⟩=pure (ps.zip [a0,a1])):∀ us:List Value,us.length=2→bindArgs fd ⟨us,[]⟩=pure (ps.zip us):=fun us hl=>by
 obtain ⟨a0,u0,rfl,h0⟩:=fA hl
 obtain ⟨a1,u1,rfl,h1⟩:=fA h0
 cases List.eq_nil_of_length_eq_zero h1
 exact h a0 a1
theorem us3 {fd:FuncData} {ps:List Str} (h:∀ a0 a1 a2,bindArgs fd ⟨[a0,a1,a2],[]⟩=pure (ps.zip [a0,a1,a2])):∀ us:List Value,us.length=3→bindArgs fd ⟨us,[]⟩=pure (ps.zip us):=fun us hl=>by
 obtain ⟨a0,u0,rfl,h0⟩:=fA hl
 obtain ⟨a1,u1,rfl,h1⟩:=fA h0
 obtain ⟨a2,u2,rfl,h2⟩:=fA h1
 cases List.eq_nil_of_length_eq_zero h2
 exact h a0 a1 a2
theorem us4 {fd:FuncData} {ps:List Str} (h:∀ a0 a1 a2 a3,bindArgs fd ⟨[a0,a1,a2,a3],[]⟩=pure (ps.zip [a0,a1,a2,a3])):∀ us:List Value,us.length=4→bindArgs fd ⟨us,[]⟩=pure (ps.zip us):=fun us hl=>by
 obtain ⟨a0,u0,rfl,h0⟩:=fA hl
 obtain ⟨a1,u1,rfl,h1⟩:=fA h0
 obtain ⟨a2,u2,rfl,h2⟩:=fA h1
 obtain ⟨a3,u3,rfl,h3⟩:=fA h2
 cases List.eq_nil_of_length_eq_zero h3
 exact h a0 a1 a2 a3
theorem us5 {fd:FuncData} {ps:List Str} (h:∀ a0 a1 a2 a3 a4,bindArgs fd ⟨[a0,a1,a2,a3,a4],[]⟩=pure (ps.zip [a0,a1,a2,a3,a4])):∀ us:List Value,us.length=5→bindArgs fd ⟨us,[]⟩=pure (ps.zip us):=fun us hl=>by
 obtain ⟨a0,u0,rfl,h0⟩:=fA hl
 obtain ⟨a1,u1,rfl,h1⟩:=fA h0
 obtain ⟨a2,u2,rfl,h2⟩:=fA h1
 obtain ⟨a3,u3,rfl,h3⟩:=fA h2
 obtain ⟨a4,u4,rfl,h4⟩:=fA h3
 cases List.eq_nil_of_length_eq_zero h4
 exact h a0 a1 a2 a3 a4
theorem all_mk {l:PySem.W.OpenLaw} {w:World} {K:PySem.W.Frag} {h:Heap} {mg:Str→Option Value} {fa:Addr} (X:K.In h) (G:h.Ns mainGlobals mg) (hfa:mg "law" = some (.ref fa))
 {f_q19:Addr} {d_q19:FuncData} (h_q19:FH K "is_whole" qK f_q19 d_q19)
 {f_q8:Addr} {d_q8:FuncData} (h_q8:FH K "is_between" s_q8 f_q8 d_q8)
 {f_q1:Addr} {d_q1:FuncData} (h_q1:FH K "has_two_lists" s_q1 f_q1 d_q1)
 {f_q6:Addr} {d_q6:FuncData} (h_q6:FH K "look_at_tree" s_q6 f_q6 d_q6)
 {f_q31:Addr} {d_q31:FuncData} (h_q31:FH K "depths" qh f_q31 d_q31)
 {f_q18:Addr} {d_q18:FuncData} (h_q18:FH K "is_place" pF f_q18 d_q18)
 {f_q16:Addr} {d_q16:FuncData} (h_q16:FH K "are_ends" rO f_q16 d_q16)
 {f_q32:Addr} {d_q32:FuncData} (h_q32:FH K "is_ask" o3 f_q32 d_q32)
 {f_q4:Addr} {d_q4:FuncData} (h_q4:FH K "look_at_asks" s_q4 f_q4 d_q4)
 {f_q5:Addr} {d_q5:FuncData} (h_q5:FH K "look_at_ends" s_q5 f_q5 d_q5)
 {f_q39:Addr} {d_q39:FuncData} (h_q39:FH K "climb" p7 f_q39 d_q39)
 {f_q7:Addr} {d_q7:FuncData} (h_q7:FH K "way_between" s_q7 f_q7 d_q7)
 {f_q38:Addr} {d_q38:FuncData} (h_q38:FH K "way_of" rK f_q38 d_q38)
 {f_q28:Addr} {d_q28:FuncData} (h_q28:FH K "ways_of" o4 f_q28 d_q28)
 {f_q10:Addr} {d_q10:FuncData} (h_q10:FH K "meeting_of" oQ f_q10 d_q10)
 {f_q17:Addr} {d_q17:FuncData} (h_q17:FH K "is_count" qb f_q17 d_q17)
 {f_q22:Addr} {d_q22:FuncData} (h_q22:FH K "taken_by" qu f_q22 d_q22)
 {f_q24:Addr} {d_q24:FuncData} (h_q24:FH K "is_flow" pK f_q24 d_q24)
 {f_q0:Addr} {d_q0:FuncData} (h_q0:FH K "deepest_first" s_q0 f_q0 d_q0)
 {f_q33:Addr} {d_q33:FuncData} (h_q33:FH K "is_cut" qz f_q33 d_q33)
 {f_q11:Addr} {d_q11:FuncData} (h_q11:FH K "parts_ways" pf f_q11 d_q11)
 {f_q14:Addr} {d_q14:FuncData} (h_q14:FH K "parts_all" qA f_q14 d_q14)
 {f_q43:Addr} {d_q43:FuncData} (h_q43:FH K "serve" pT f_q43 d_q43)
 {f_q12:Addr} {d_q12:FuncData} (h_q12:FH K "fill_ties" qJ f_q12 d_q12)
 {f_q27:Addr} {d_q27:FuncData} (h_q27:FH K "thinned" rj f_q27 d_q27)
 {f_q2:Addr} {d_q2:FuncData} (h_q2:FH K "flow_and_cut" s_q2 f_q2 d_q2)
 {f_q36:Addr} {d_q36:FuncData} (h_q36:FH K "_law_pool" oP f_q36 d_q36)
 {f_q37:Addr} {d_q37:FuncData} (h_q37:FH K "_law_take" pM f_q37 d_q37)
 {f_q20:Addr} {d_q20:FuncData} (h_q20:FH K "_law_number" pV f_q20 d_q20)
 {f_q13:Addr} {d_q13:FuncData} (h_q13:FH K "_law_parents" qp f_q13 d_q13)
 {f_q25:Addr} {d_q25:FuncData} (h_q25:FH K "_law_rooms" pO f_q25 d_q25)
 {f_q35:Addr} {d_q35:FuncData} (h_q35:FH K "_law_ends" qR f_q35 d_q35)
 {f_q44:Addr} {d_q44:FuncData} (h_q44:FH K "_law_up" qH f_q44 d_q44)
 {f_q42:Addr} {d_q42:FuncData} (h_q42:FH K "_law_way" qc f_q42 d_q42)
 {f_q40:Addr} {d_q40:FuncData} (h_q40:FH K "_law_ask" qV f_q40 d_q40)
 {f_q34:Addr} {d_q34:FuncData} (h_q34:FH K "_law_case" rq f_q34 d_q34)
 {f_q9:Addr} {d_q9:FuncData} (h_q9:FH K "_law_servings" s_q9 f_q9 d_q9)
 {f_q21:Addr} {d_q21:FuncData} (h_q21:FH K "_law_parted" qW f_q21 d_q21)
 {f_q41:Addr} {d_q41:FuncData} (h_q41:FH K "_law_cut" qF f_q41 d_q41)
 {f_q26:Addr} {d_q26:FuncData} (h_q26:FH K "_law_sides" rd f_q26 d_q26)
 {f_q3:Addr} {d_q3:FuncData} (h_q3:FH K "_law_told_right" s_q3 f_q3 d_q3)
 {f_law:Addr} {d_law:FuncData} (h_law:FH K "law" qX f_law d_law)
 {t_MOST_TIES:Tok} (c_MOST_TIES:PySem.W.nsIn K mainGlobals "MOST_TIES" = some (some (.int 23 t_MOST_TIES)))
 {t_MOST_ROOM:Tok} (c_MOST_ROOM:PySem.W.nsIn K mainGlobals "MOST_ROOM" = some (some (.int 1000000 t_MOST_ROOM)))
 {t_MOST_ASKS:Tok} (c_MOST_ASKS:PySem.W.nsIn K mainGlobals "MOST_ASKS" = some (some (.int 30 t_MOST_ASKS)))
 {t_MOST_SIZE:Tok} (c_MOST_SIZE:PySem.W.nsIn K mainGlobals "MOST_SIZE" = some (some (.int 1000000 t_MOST_SIZE)))
 {t_MOST_WORTH:Tok} (c_MOST_WORTH:PySem.W.nsIn K mainGlobals "MOST_WORTH" = some (some (.int 1000000000000 t_MOST_WORTH)))
 (z_all:PySem.W.nsIn K mainGlobals "all" = some none)
 (z_any:PySem.W.nsIn K mainGlobals "any" = some none)
 (z_bool:PySem.W.nsIn K mainGlobals "bool" = some none)
 (z_enumerate:PySem.W.nsIn K mainGlobals "enumerate" = some none)
 (z_int:PySem.W.nsIn K mainGlobals "int" = some none)
 (z_isinstance:PySem.W.nsIn K mainGlobals "isinstance" = some none)
 (z_len:PySem.W.nsIn K mainGlobals "len" = some none)
 (z_list:PySem.W.nsIn K mainGlobals "list" = some none)
 (z_max:PySem.W.nsIn K mainGlobals "max" = some none)
 (z_min:PySem.W.nsIn K mainGlobals "min" = some none)
 (z_range:PySem.W.nsIn K mainGlobals "range" = some none)
 (z_reversed:PySem.W.nsIn K mainGlobals "reversed" = some none)
 (z_set:PySem.W.nsIn K mainGlobals "set" = some none)
 (z_sorted:PySem.W.nsIn K mainGlobals "sorted" = some none)
 (z_sum:PySem.W.nsIn K mainGlobals "sum" = some none)
 (z_tuple:PySem.W.nsIn K mainGlobals "tuple" = some none)
 (z_zip:PySem.W.nsIn K mainGlobals "zip" = some none)
 {tc tP:Addr} (hc:d_q0.code = .ref tc)
   :∃ fd:FuncData,(∀ (s:Shared) (v:Value),BindsTo s fd ⟨[v],[]⟩ [("_law_script",v)])∧∀ base:Heap,K.In base→base.Ns mainGlobals mg→TabB base mg tc tP tqS→FnOk l.prog w K mg base CX0 11 fa fd ["_law_script"] (jK K):=by
 have e:=hfa.symm.trans (PySem.W.mg_of X G h_law.a)
 cases e
 have T:Txt K mg ⟨f_q19,_,f_q8,_,f_q1,_,f_q6,_,f_q31,_,f_q18,_,f_q16,_,f_q32,_,f_q4,_,f_q5,_,f_q39,_,f_q7,_,f_q38,_,f_q28,_,f_q10,_,f_q17,_,f_q22,_,f_q24,_,f_q0,_,f_q33,_,f_q11,_,f_q14,_,f_q43,_,f_q12,_,f_q27,_,f_q2,_,f_q36,_,f_q37,_,f_q20,_,f_q13,_,f_q25,_,f_q35,_,f_q44,_,f_q42,_,f_q40,_,f_q34,_,f_q9,_,f_q21,_,f_q41,_,f_q26,_,f_q3,_,fa,_,tc,tP⟩:=⟨h_q19.ft X G fun _ _ _ _ _ _=>us1 fun _=>rfl,h_q8.ft X G fun _ _ _ _ _ _=>us3 fun _ _ _=>rfl,h_q1.ft X G fun _ _ _ _ _ _=>us1 fun _=>rfl,h_q6.ft X G fun _ _ _ _ _ _=>us1 fun _=>rfl,h_q31.ft X G fun _ _ _ _ _ _=>us1 fun _=>rfl,h_q18.ft X G fun _ _ _ _ _ _=>us2 fun _ _=>rfl,h_q16.ft X G fun _ _ _ _ _ _=>us3 fun _ _ _=>rfl,h_q32.ft X G fun _ _ _ _ _ _=>us2 fun _ _=>rfl,h_q4.ft X G fun _ _ _ _ _ _=>us2 fun _ _=>rfl,h_q5.ft X G fun _ _ _ _ _ _=>us3 fun _ _ _=>rfl,h_q39.ft X G fun _ _ _ _ _ _=>us3 fun _ _ _=>rfl,h_q7.ft X G fun _ _ _ _ _ _=>us3 fun _ _ _=>rfl,h_q38.ft X G fun _ _ _ _ _ _=>us2 fun _ _=>rfl,h_q28.ft X G fun _ _ _ _ _ _=>us2 fun _ _=>rfl,h_q10.ft X G fun _ _ _ _ _ _=>us3 fun _ _ _=>rfl,h_q17.ft X G fun _ _ _ _ _ _=>us1 fun _=>rfl,h_q22.ft X G fun _ _ _ _ _ _=>us3 fun _ _ _=>rfl,h_q24.ft X G fun _ _ _ _ _ _=>us3 fun _ _ _=>rfl,h_q0.ft X G fun _ _ _ _ _ _=>us2 fun _ _=>rfl,h_q33.ft X G fun _ _ _ _ _ _=>us2 fun _ _=>rfl,h_q11.ft X G fun _ _ _ _ _ _=>us2 fun _ _=>rfl,h_q14.ft X G fun _ _ _ _ _ _=>us3 fun _ _ _=>rfl,h_q43.ft X G fun _ _ _ _ _ _=>us2 fun _ _=>rfl,h_q12.ft X G fun _ _ _ _ _ _=>us3 fun _ _ _=>rfl,h_q27.ft X G fun _ _ _ _ _ _=>us2 fun _ _=>rfl,h_q2.ft X G fun _ _ _ _ _ _=>us2 fun _ _=>rfl,h_q36.ft X G fun _ _ _ _ _ _=>us2 fun _ _=>rfl,h_q37.ft X G fun _ _ _ _ _ _=>us2 fun _ _=>rfl,h_q20.ft X G fun _ _ _ _ _ _=>us2 fun _ _=>rfl,h_q13.ft X G fun _ _ _ _ _ _=>us2 fun _ _=>rfl,h_q25.ft X G fun _ _ _ _ _ _=>us3 fun _ _ _=>rfl,h_q35.ft X G fun _ _ _ _ _ _=>us2 fun _ _=>rfl,h_q44.ft X G fun _ _ _ _ _ _=>us2 fun _ _=>rfl,h_q42.ft X G fun _ _ _ _ _ _=>us2 fun _ _=>rfl,h_q40.ft X G fun _ _ _ _ _ _=>us2 fun _ _=>rfl,h_q34.ft X G fun _ _ _ _ _ _=>us2 fun _ _=>rfl,h_q9.ft X G fun _ _ _ _ _ _=>us4 fun _ _ _ _=>rfl,h_q21.ft X G fun _ _ _ _ _ _=>us2 fun _ _=>rfl,h_q41.ft X G fun _ _ _ _ _ _=>us3 fun _ _ _=>rfl,h_q26.ft X G fun _ _ _ _ _ _=>us3 fun _ _ _=>rfl,h_q3.ft X G fun _ _ _ _ _ _=>us5 fun _ _ _ _ _=>rfl,h_law.ft X G fun _ _ _ _ _ _=>us1 fun _=>rfl,PySem.W.mg_none_of X G z_all,PySem.W.mg_none_of X G z_any,PySem.W.mg_none_of X G z_bool,PySem.W.mg_none_of X G z_enumerate,PySem.W.mg_none_of X G z_int,PySem.W.mg_none_of X G z_isinstance,PySem.W.mg_none_of X G z_len,PySem.W.mg_none_of X G z_list,PySem.W.mg_none_of X G z_max,PySem.W.mg_none_of X G z_min,PySem.W.mg_none_of X G z_range,PySem.W.mg_none_of X G z_reversed,PySem.W.mg_none_of X G z_set,PySem.W.mg_none_of X G z_sorted,PySem.W.mg_none_of X G z_sum,PySem.W.mg_none_of X G z_tuple,PySem.W.mg_none_of X G z_zip,⟨_,PySem.W.mg_of X G c_MOST_TIES⟩,⟨_,PySem.W.mg_of X G c_MOST_ROOM⟩,⟨_,PySem.W.mg_of X G c_MOST_ASKS⟩,⟨_,PySem.W.mg_of X G c_MOST_SIZE⟩,⟨_,PySem.W.mg_of X G c_MOST_WORTH⟩,hc⟩
 obtain ⟨_,_,_,_,_,_,_,_,_,rfl,_,_⟩:=h_law.F.ex
 exact ⟨_,fun s v=>.of_eq rfl,fun base _ _ hB=>(wG T hB).imp fun _ _ _ _ h=>nG h⟩
theorem walk {l:PySem.W.OpenLaw} {q:Program} {loose:List Str} {XP:(Str→Option Value)→Heap→Prop} {YP:World→Heap→Prop} {d:DefRec} {K:Params→PySem.W.Frag} {c Pt:Addr} (hn:l.most=some 63) (hdf:d.params.defaults=[])
 (hY:∀ (w:World) (h:Heap),YP w h→(K w.params).In h∧h.get? Pt=some (PySem.W.tabObj #[])) (hcd0:∀ w:World,PySem.W.codeHdIn (K w.params) c Pt=true) (hKP:∀ w:World,(K w.params).lookup Pt=none)
 (F:∀ (w:World) (mg:Str→Option Value) (fa:Addr) (h:Heap),(K w.params).In h→h.Ns mainGlobals mg→mg d.name=some (.ref fa) →
  ∃ fd:FuncData,(∀ (s:Shared) (u:Value),BindsTo s fd ⟨[u],[]⟩ [("_law_script",u)])∧∀ base:Heap,(K w.params).In base→base.Ns mainGlobals mg→TabB base mg c Pt tqS→FnOk l.prog w (K w.params) mg base CX0 11 fa fd ["_law_script"] (jK (K w.params))) :
 PySem.W.WalkO q loose XP YP l.row.toRowW d [] (fun f vs=>PySem.call f vs) :=
 L2.qL (n:=63) (k:=11) (x:="_law_script") (sp:=fun w=>jK (K w.params)) hn (by decide) hdf ⟨rfl,by decide,by decide,rfl⟩ hY hcd0 hKP F (fun _ _ a ns hl hO hS=>⟨a,ns,rfl,hO,hS,hl,fun _=>rfl⟩) fun _ _ _ _ z=>z
end K61
open PySem PySem.W PyProof.Rows
set_option maxRecDepth 100000 in
theorem PySem.Challenge.cw_treeasks_k61_whole_no_flow_is_more_than_holds : PySem.Challenge.rw_treeasks_k61_whole_no_flow_is_more_than.Holds := by
 w_on; o_law; k_head; (case hw=>w_witness2)
 k_fill
 refine' K61.walk (l:=PySem.Challenge.rw_treeasks_k61_whole_no_flow_is_more_than) rfl rfl (fun w h Y=>⟨PySem.W.km_in_of Y,PySem.W.km_tabs_of Y _ (List.Mem.head _)⟩) ?hcd ?hKP ?F
 case F =>
  intro w mg fa h KX G hmg
  refine' K61.all_mk KX G hmg (L2.aW ?_ ?_ ?_ ?_) (L2.aW ?_ ?_ ?_ ?_) (L2.aW ?_ ?_ ?_ ?_) (L2.aW ?_ ?_ ?_ ?_) (L2.aW ?_ ?_ ?_ ?_) (L2.aW ?_ ?_ ?_ ?_) (L2.aW ?_ ?_ ?_ ?_) (L2.aW ?_ ?_ ?_ ?_) (L2.aW ?_ ?_ ?_ ?_) (L2.aW ?_ ?_ ?_ ?_) (L2.aW ?_ ?_ ?_ ?_) (L2.aW ?_ ?_ ?_ ?_) (L2.aW ?_ ?_ ?_ ?_) (L2.aW ?_ ?_ ?_ ?_) (L2.aW ?_ ?_ ?_ ?_) (L2.aW ?_ ?_ ?_ ?_) (L2.aW ?_ ?_ ?_ ?_) (L2.aW ?_ ?_ ?_ ?_) (L2.aW ?_ ?_ ?_ ?_) (L2.aW ?_ ?_ ?_ ?_) (L2.aW ?_ ?_ ?_ ?_) (L2.aW ?_ ?_ ?_ ?_) (L2.aW ?_ ?_ ?_ ?_) (L2.aW ?_ ?_ ?_ ?_) (L2.aW ?_ ?_ ?_ ?_) (L2.aW ?_ ?_ ?_ ?_) (L2.aW ?_ ?_ ?_ ?_) (L2.aW ?_ ?_ ?_ ?_) (L2.aW ?_ ?_ ?_ ?_) (L2.aW ?_ ?_ ?_ ?_) (L2.aW ?_ ?_ ?_ ?_) (L2.aW ?_ ?_ ?_ ?_) (L2.aW ?_ ?_ ?_ ?_) (L2.aW ?_ ?_ ?_ ?_) (L2.aW ?_ ?_ ?_ ?_) (L2.aW ?_ ?_ ?_ ?_) (L2.aW ?_ ?_ ?_ ?_) (L2.aW ?_ ?_ ?_ ?_) (L2.aW ?_ ?_ ?_ ?_) (L2.aW ?_ ?_ ?_ ?_) (L2.aW ?_ ?_ ?_ ?_) (L2.aW ?_ ?_ ?_ ?_) ?_ ?_ ?_ ?_ ?_ ?_ ?_ ?_ ?_ ?_ ?_ ?_ ?_ ?_ ?_ ?_ ?_ ?_ ?_ ?_ ?_ ?_ ?_
  all_goals try k_is
  all_goals first | rfl | (rw [← Array.all_toList]; rfl)
 case hcd=>intro w; first | kernel_rfl | rfl
 case hKP=>intro w; first | kernel_rfl | rfl
end
